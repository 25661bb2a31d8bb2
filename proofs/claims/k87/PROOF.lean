import PyProof.Rows.All
import Wide.All
import OpenK.AllK
import Wide.FinOn
import Lean
import PyProof.EqAt
import PyProof.EqKinds
import PyProof.TupleCall
import PySem.Challenge.RW_driftmeet_k87_rows_and_logs
set_option Elab.async false
set_option linter.all false
set_option maxRecDepth 100000
namespace L2
open PySem
theorem eN{M:Model}(h:Runs M Γ p t fs s e s'):s.toks<=s'.toks:=by
 induction h with
 |done|raise|yield=>exact Nat.le_refl _
 |fresh _ ih=>exact Nat.le_of_succ_le ih
 |call _ _ a b|segRet _ _ a b=>exact Nat.le_trans a b
 |resumeFresh _ _ _ _ a b|resumeSuspended _ _ _ _ a b|segGen _ _ a b|segSuspGen _ _ _ _ a b=>exact Nat.le_trans a b
 |_=>assumption
theorem lw{M:Model}(h:Wakes M Γ p g r s res s'):s.toks<=s'.toks:=by
 unfold Wakes at h;split at h
 ·exact h.elim
 ·split at h
  ·obtain⟨e,s1,h1,_,_,rfl⟩:=h;have:=eN h1;exact this
  ·rw[h.2];exact Nat.le_refl _
  ·rw[h.2];exact Nat.le_refl _
 ·obtain⟨e,s1,h1,_,_,rfl⟩:=h;have:=eN h1;exact this
 ·rw[h.2];exact Nat.le_refl _
 ·rw[h.2];exact Nat.le_refl _
theorem rQ{M:Model}{t:Sem α}{Q:α->Pos->Shared->Prop}{E:Value->Pos->Shared->Prop}(n:Nat)(h:Sem.wp M Γ t (λa p s'=>n<=s'.toks->Q a p s') (λa p s'=>n<=s'.toks->E a p s') p s)(hn:n<=s.toks):Sem.wp M Γ t Q E p s:=by
 revert h hn
 induction t generalizing p s with
 |pure x=>exact λh g=>h g
 |raise v=>exact λh g=>h g
 |unsupported|finish|yield|fork|await|register=>exact λh _=>h
 |fresh k ih=>exact λh g=>ih _ h (Nat.le_succ_of_le g)
 |rule _ k ih|«at» _ k ih|alloc _ k ih|loadIfAlive _ k ih|point _ k ih|ask k ih|os _ _ k ih|handled _ k ih|newGen _ k ih|stack k ih|thread k ih=>exact λh g=>ih _ h g
 |load a _ k ih|genState a k ih=>exact λ⟨o,ho,h⟩ g=>⟨o,ho,ih _ h g⟩
 |update a _ f k ih|choose _ _ k ih=>exact λ⟨ha,h⟩ g=>⟨ha,ih _ h g⟩
 |call c h g l k ih=>exact λ⟨r,s1,q,z⟩ g=>⟨r,s1,q,ih _ z (Nat.le_trans g (eN q))⟩
 |resume g r l k ih=>exact λ⟨res,s',hw,h⟩ g=>⟨res,s',hw,ih _ h (Nat.le_trans g (lw hw))⟩
theorem d5{M:Model}{A:Around}{t:Sem α}{Q:α->Shared->Prop}{E:Value->Shared->Prop}(hn:0 < s.toks)(h:wpAny M A t (λa s'=>0 < s'.toks->Q a s') (λa s'=>0 < s'.toks->E a s') s):wpAny M A t Q E s:=λΓ p hΓ=>rQ 1 (h Γ p hΓ) hn
end L2
namespace L2
open PySem PySem.Spec PyProof.Rows
noncomputable abbrev Key:=Sum Int Str
noncomputable def iZ:Key->Value->Bool
 |.inl k,v=>Value.isInt k v
 |.inr x,v=>Value.isStrOf x v
noncomputable def Bm(w:World):Key->Int
 |.inl k=>hashInt k
 |.inr x=>hashStr w x
theorem ay:∀{k:Key}{v:Value},iZ k v=true->(∃i t,k=Sum.inl i/\v=Value.int i t)\/(∃x t,k=Sum.inr x/\v=Value.str x t)
 |.inl i,v,h=>by
  obtain⟨t,e⟩:=Value.isInt_shape (k:=i) (v:=v) h;exact .inl ⟨i,t,rfl,e⟩
 |.inr x,v,h=>by
  obtain⟨t,e⟩:=Value.isStrOf_shape (x:=x) (v:=v) h;exact .inr ⟨x,t,rfl,e⟩
theorem m8(i:Int)(t:Tok):iZ (.inl i) (.int i t)=true:=by simp[iZ,Value.isInt]
theorem mZ(x:Str)(t:Tok):iZ (.inr x) (.str x t)=true:=by simp[iZ,Value.isStrOf]
theorem uj(a b:Int):decide ((Sum.inl a:Key)=Sum.inl b)=(a == b):=by
 by_cases e:a=b
 ·subst e;simp
 ·have h:¬ (Sum.inl a:Key)=Sum.inl b:=λq=>e (Sum.inl.inj q)
  rw[decide_eq_false h];exact (beq_eq_false_iff_ne.mpr e).symm
theorem sM(a b:Str):decide ((Sum.inr a:Key)=Sum.inr b)=decide (a=b):=by
 by_cases e:a=b
 ·subst e;simp
 ·have h:¬ (Sum.inr a:Key)=Sum.inr b:=λq=>e (Sum.inr.inj q)
  rw[decide_eq_false h,decide_eq_false e]
theorem tf(a:Int)(b:Str):decide ((Sum.inl a:Key)=Sum.inr b)=false:=decide_eq_false (λq=>nomatch q)
theorem ui(a:Str)(b:Int):decide ((Sum.inr a:Key)=Sum.inl b)=false:=decide_eq_false (λq=>nomatch q)
noncomputable def aw(prog:Program)(w:World):PySem.KeyKind prog w Key where
 is:=iZ
 hash:=Bm w
 inj:=λv a b ha hb=>by
  rcases ay ha with ⟨i,t,rfl,rfl⟩|⟨x,t,rfl,rfl⟩
  ·rcases ay hb with ⟨j,u,rfl,e⟩|⟨y,u,rfl,e⟩
   ·injection e with e1 _;rw[e1]
   ·exact nomatch e
  ·rcases ay hb with ⟨j,u,rfl,e⟩|⟨y,u,rfl,e⟩
   ·exact nomatch e
   ·injection e with e1 _;rw[e1]
 byValue:=λk v h=>by
  rcases ay h with ⟨i,t,rfl,rfl⟩|⟨x,t,rfl,rfl⟩<;>rfl
 pyHash:=λhv h=>by
  rcases ay hv with ⟨i,t,rfl,rfl⟩|⟨x,t,rfl,rfl⟩
  ·exact wpAny_pyHash_int h
  ·exact wpAny_pyHash_str h
 eqBool:=λhu hv h=>by
  rcases ay hu with ⟨i,t,rfl,rfl⟩|⟨x,t,rfl,rfl⟩
  ·rcases ay hv with ⟨j,u,rfl,rfl⟩|⟨y,u,rfl,rfl⟩
   ·rw[uj]at h;exact wpAny_eqBool_int h
   ·rw[tf]at h;exact SeqAt.EqAt.int_str i t y u _ _ _ _ h
  ·rcases ay hv with ⟨j,u,rfl,rfl⟩|⟨y,u,rfl,rfl⟩
   ·rw[ui]at h;exact SeqAt.EqAt.str_int x t j u _ _ _ _ h
   ·rw[sM]at h;exact wpAny_eqBool_str h
 «strs»:=λk x t v h=>by
  rcases ay h with ⟨i,u,rfl,e⟩|⟨y,u,rfl,e⟩
  ·exact nomatch e
  ·injection e with e1 _
   subst e1;cases v<;>rfl
theorem kG(prog:Program)(w:World)(i:Int)(t:Tok):(aw prog w).is (.inl i) (.int i t)=true:=m8 i t
theorem cP(prog:Program)(w:World)(x:Str)(t:Tok):(aw prog w).is (.inr x) (.str x t)=true:=mZ x t
end L2
namespace L2
open PySem PySem.Spec PyProof.Rows
inductive V where
 |non|bl (b:Bool)|int (i:Int)|str (x:Str)|byt (b:Array UInt8)|flt (b:UInt64)|ref (a:Addr)|ty (n:String)
 deriving DecidableEq
noncomputable def RelV:V->Value->Prop
 |.non,u=>u=Value.none
 |.bl b,u=>u=Value.bool b
 |.int i,u=>∃t,u=Value.int i t
 |.str x,u=>∃t,u=Value.str x t
 |.byt b,u=>∃t,u=Value.bytes b t
 |.flt b,u=>∃t,u=Value.float b t
 |.ref a,u=>u=Value.ref a
 |.ty n,u=>u=Value.type n
noncomputable abbrev Vals:List V->List Value->Prop:=Paired RelV
theorem Vals.length{xs:List V}{us:List Value}(r:Vals xs us):xs.length=us.length:=Paired.length r
theorem Vals.get:∀{xs:List V}{us:List Value}{i:Nat}{x:V},Vals xs us->xs[i]?=some x->∃u,us[i]?=some u/\RelV x u
 |_,_,_,_,.nil,e=>by simp at e
 |_,_,0,_,.cons r _,e=>by simp at e;subst e;exact⟨_,rfl,r⟩
 |_,_,i+1,x,.cons _ t,e=>by
  obtain⟨u,h1,h2⟩:=Vals.get (i:=i) (x:=x) t (by simpa using e)
  exact⟨u,by simpa using h1,h2⟩
theorem Vals.set(r:RelV x u):∀{xs:List V}{us:List Value} (i:Nat),Vals xs us->Vals (xs.set i x) (us.set i u)
 |_,_,_,.nil=>.nil
 |_,_,0,.cons _ t=>.cons r t
 |_,_,i+1,.cons q t=>.cons q (Vals.set r i t)
theorem Vals.append:∀{xs ys:List V}{us ws:List Value},Vals xs us->Vals ys ws->Vals (xs++ys) (us++ws)
 |_,_,_,_,.nil,s=>s
 |_,_,_,_,.cons r t,s=>.cons r (Vals.append t s)
theorem Vals.take:∀{xs:List V}{us:List Value} (n:Nat),Vals xs us->Vals (xs.take n) (us.take n)
 |_,_,0,_=>.nil
 |_,_,_+1,.nil=>.nil
 |_,_,n+1,.cons r t=>.cons r (Vals.take n t)
theorem Vals.drop:∀{xs:List V}{us:List Value} (n:Nat),Vals xs us->Vals (xs.drop n) (us.drop n)
 |_,_,0,r=>r
 |_,_,_+1,.nil=>.nil
 |_,_,n+1,.cons _ t=>Vals.drop n t
noncomputable def RelO:Option V->Option Value->Prop
 |some v,some u=>RelV v u
 |none,none=>True
 |_,_=>False
noncomputable def KV:List (κ×V)->List (κ×Value)->Prop:=Paired λ(p:κ×V) (q:κ×Value)=>p.1=q.1/\RelV p.2 q.2
noncomputable def kV:Key->V
 |.inl i=>.int i
 |.inr x=>.str x
inductive HO where
 |lst (xs:List V)
 |tup (xs:List V)
 |dK (kvs:List (Key×V))|dT (kvs:List (List Key×V))
 |set (S:Int->Bool) (n:Nat)
 |ins (C dx:Addr) (fs:List (Str×V))
 |own (x:Addr)
 |xd (fs:List (Str×V))
 |met (f x:Addr)
 |rng (lo hi:Int)
 |frz (o:Obj) (u:HO)
 |tbl (ps:Array Value)
 |ext (φ:Heap->Prop)
noncomputable abbrev Hp:=Addr->Option HO
noncomputable def upd(H:Hp)(a:Addr)(o:HO):Hp:=λb=>if b=a then some o else H b
theorem ag:upd H a o a=some o:=by unfold upd;rw[if_pos rfl]
theorem ad(h:b≠a):upd H a o b=H b:=by unfold upd;rw[if_neg h]
theorem ne_of{H:Hp}{a b:Addr}{o u:HO}(h:H a=some o)(h':H b=some u)(d:o≠u):a≠b:=by
 intro e;subst e;rw[h]at h';exact d (Option.some.inj h')
theorem au{H:Hp}{a b:Addr}{o:HO}(h:H a=some o)(h':H b=none):a≠b:=by
 intro e;subst e;rw[h]at h';cases h'
section
variable (P:Program) (w:World)
noncomputable def ObjOk(H:Hp)(h:Heap)(a:Addr):HO->Prop
 |.lst xs=>xs.length<=sizeLine/\∃(its:List Value) (n:Nat),Vals xs its/\h.get? a=some {cls:=.type "list",data:=.seq its.toArray n}
 |.tup xs=>xs.length<=sizeLine/\∃its:List Value,Vals xs its/\IsTup h a its.toArray
 |.dK kvs=>kvs.length<=sizeLine/\(a == sysModules)=false/\∃vs,KV kvs vs/\h.DictOf (aw P w) a vs
 |.dT kvs=>kvs.length<=sizeLine/\(a == sysModules)=false/\∃xs:List (List Key×Addr×Value),
   Paired (λ(p:List Key×V) (q:List Key×Addr×Value)=>p.1=q.1/\H q.2.1=some (.tup (p.1.map kV))/\RelV p.2 q.2.2) kvs xs/\
   ∃o es ep,h.get? a=some o/\o.ExactDict/\o.data=.dict es ep/\es.toList=xs.map (entryOfKey (tupleKind (aw P w)))/\(xs.map (·.1)).Nodup
 |.set S n=>h.SetOf (intKind P w) a S n
 |.ins C dx fs=>H dx=some (.own a)/\fs.length<=1000/\dx≠a/\h.get? a=some (PySem.W.instObj C dx)/\
   ∃mA,h.Ns1 dx mA/\(∀f,RelO (fs.lookup f) (mA f))/\PySem.Within mA (fs.map (·.1))
 |.own _=>∃o,h.get? a=some o
 |.xd fs=>∃mA,h.Ns1 a mA/\∀f,RelO (fs.lookup f) (mA f)
 |.rng lo hi=>∃t u v,h.get? a=some {cls:=.type "range",data:=.fields #[.int lo t,.int hi u,.int 1 v]}
 |.frz o u=>h.get? a=some o/\ObjOk H h a u
 |.tbl ps=>h.get? a=some {cls:=.none,data:=.fields ps}
 |.met f x=>h.get? a=some (PySem.W.methodObj (.ref f) (.ref x))
 |.ext φ=>φ h/\(∃o,h.get? a=some o)/\∀h1 h2:Heap,φ h1->(∀o,h1.get? a=some o->h2.get? a=some o)->φ h2
noncomputable def HOk(H:Hp)(h:Heap):Prop:=∀a o,H a=some o->ObjOk P w H h a o
end
section
variable {P:Program}{w:World}{H H':Hp}{h h':Heap}{a:Addr}{o:HO}
theorem ObjOk.lt(x:ObjOk P w H h a o):a < h.objs.size:=by
 cases o with
 |lst xs=>obtain⟨_,_,_,_,e⟩:=x;exact Heap.lt_size e
 |tup xs=>obtain⟨_,_,_,p⟩:=x;exact p.lt
 |dK kvs=>obtain⟨_,_,_,_,o,_,_,e,_⟩:=x;exact Heap.lt_size e
 |dT kvs=>obtain⟨_,_,_,_,o,_,_,e,_⟩:=x;exact Heap.lt_size e
 |set S n=>obtain⟨o,_,_,_,e,_⟩:=x;exact Heap.lt_size e
 |ins C dx fs=>obtain⟨_,_,_,e,_⟩:=x;exact Heap.lt_size e
 |own y=>obtain⟨_,e⟩:=x;exact Heap.lt_size e
 |xd fs=>obtain⟨_,⟨_,_,_,e,_⟩,_⟩:=x;exact Heap.lt_size e
 |rng lo hi=>obtain⟨_,_,_,e⟩:=x;exact Heap.lt_size e
 |frz ob u=>obtain⟨e,_⟩:=x;exact Heap.lt_size e
 |tbl ps=>exact Heap.lt_size (show h.get? a=some _ from x)
 |met f y=>exact Heap.lt_size (show h.get? a=some _ from x)
 |ext φ=>obtain⟨_,⟨_,e⟩,_⟩:=x;exact Heap.lt_size e
theorem Paired.mapP:∀{l₁:List α}{l₂:List β},Paired F l₁ l₂->(∀a b,F a b->G a b)->Paired G l₁ l₂
 |_,_,.nil,_=>.nil
 |_,_,.cons r t,f=>.cons (f _ _ r) (Paired.mapP t f)
theorem ObjOk.stay(x:ObjOk P w H h a o)(k:∀b u,(b=a\/H b=some (.own a))->h.get? b=some u->h'.get? b=some u)
  (ho:∀b,H b=some (.own a)->H' b=some (.own a)) (ht:∀b xs,H b=some (.tup xs)->H' b=some (.tup xs)):ObjOk P w H' h' a o:=by
 induction o with
 |lst xs=>obtain⟨z,its,n,r,e⟩:=x;exact⟨z,its,n,r,k _ _ (.inl rfl) e⟩
 |tup xs=>obtain⟨z,its,r,ob,e,c⟩:=x;exact⟨z,its,r,ob,k _ _ (.inl rfl) e,c⟩
 |dK kvs=>obtain⟨z,y,vs,r,ob,es,ep,e,c⟩:=x;exact⟨z,y,vs,r,ob,es,ep,k _ _ (.inl rfl) e,c⟩
 |dT kvs=>
  obtain⟨z,y,xs,r,ob,es,ep,e,c⟩:=x;exact⟨z,y,xs,Paired.mapP r λp q z=>⟨z.1,ht _ _ z.2.1,z.2.2⟩,ob,es,ep,k _ _ (.inl rfl) e,c⟩
 |set S n=>obtain⟨ob,es,ep,t,e,c⟩:=x;exact⟨ob,es,ep,t,k _ _ (.inl rfl) e,c⟩
 |ins C dx fs=>
  obtain⟨d,z,ne,e,mA,⟨od,es,ep,e2,c⟩,r⟩:=x;exact⟨ho _ d,z,ne,k _ _ (.inl rfl) e,mA,⟨od,es,ep,k _ _ (.inr d) e2,c⟩,r⟩
 |own y=>obtain⟨ob,e⟩:=x;exact⟨ob,k _ _ (.inl rfl) e⟩
 |xd fs=>obtain⟨mA,⟨od,es,ep,e,c⟩,r⟩:=x;exact⟨mA,⟨od,es,ep,k _ _ (.inl rfl) e,c⟩,r⟩
 |rng lo hi=>obtain⟨t,u,v,e⟩:=x;exact⟨t,u,v,k _ _ (.inl rfl) e⟩
 |frz ob u ih=>obtain⟨e,q⟩:=x;exact⟨k _ _ (.inl rfl) e,ih q⟩
 |tbl ps=>
  have e:h.get? a=some {cls:=.none,data:=.fields ps}:=x;show h'.get? a=some {cls:=.none,data:=.fields ps};exact k a _ (.inl rfl) e
 |met f y=>
  have e:h.get? a=some (PySem.W.methodObj (.ref f) (.ref y)):=x;show h'.get? a=some (PySem.W.methodObj (.ref f) (.ref y));exact k a _ (.inl rfl) e
 |ext φ=>obtain⟨p,⟨o,e⟩,st⟩:=x;exact⟨st _ _ p λo q=>k _ _ (.inl rfl) q,⟨o,k _ _ (.inl rfl) e⟩,st⟩
theorem HOk.lt(x:HOk P w H h)(e:H a=some o):a < h.objs.size:=(x a o e).lt
theorem HOk.fresh(x:HOk P w H h)(e:h.objs.size<=a):H a=none:=by
 cases q:H a with
 |none=>rfl
 |some u=>exact absurd (Nat.lt_of_lt_of_le (x.lt q) e) (Nat.lt_irrefl _)
theorem HOk.kept(x:HOk P w H h)(k:∀b u,h.get? b=some u->h'.get? b=some u):HOk P w H h':=λa o e=>
 (x a o e).stay (λb u _ q=>k b u q) (λ_ q=>q) λ_ _ q=>q
theorem HOk.laid(x:HOk P w H h)(k:∀b u,h.get? b=some u->h'.get? b=some u)(hp:h.objs.size<=a)(new:ObjOk P w (upd H a o) h' a o):HOk P w (upd H a o) h':=λb u e=>by
 have hn:=x.fresh hp;by_cases hb:b=a
 ·subst hb;rw[ag]at e;cases e;exact new
 ·rw[ad hb]at e;exact (x b u e).stay (λc v _ q=>k c v q) (λc q=>by rw[ad (au q hn)];exact q) λc xs q=>by rw[ad (au q hn)];exact q
end
noncomputable def Rd(H:Hp)(a:Addr)(u:HO):Prop:=H a=some u\/∃o,H a=some (.frz o u)
theorem Rd.ok{P:Program}{w:World}{H:Hp}{h:Heap}{a:Addr}{u:HO}(r:Rd H a u)(x:HOk P w H h):ObjOk P w H h a u:=by
 rcases r with r|⟨o,r⟩
 ·exact x a u r
 ·obtain⟨_,q⟩:=x a _ r;exact q
noncomputable def Mut:Option HO->Prop
 |some (.lst _)=>True
 |some (.dK _)=>True
 |some (.dT _)=>True
 |some (.set _ _)=>True
 |some (.ins _ _ _)=>True
 |some (.ext _)=>True
 |_=>False
section
variable {P:Program}{w:World}{h h':Heap}{x e:Addr}
theorem HOk.write(ok:HOk P w H h)(mu:Mut (H x))(he:e=x\/H e=some (.own x))(k:∀b u,b≠e->h.get? b=some u->h'.get? b=some u)(heo:∃u,h'.get? e=some u)
  (new:ObjOk P w (upd H x o') h' x o'):HOk P w (upd H x o') h':=λb u q=>by
 have nown:∀c y,H c=some (.own y)->c≠x:=λc y r z=>by subst z;rw[r]at mu;exact mu
 have wc:∀c xs,H c=some (.tup xs)->c≠x:=λc xs r z=>by subst z;rw[r]at mu;exact mu
 by_cases hb:b=x
 ·subst hb;rw[ag]at q;cases q;exact new
 ·rw[ad hb]at q;by_cases hbe:b=e
  ·have q':H b=some (.own x):=by
    rcases he with z|z
    ·exact absurd (hbe.trans z) hb
    ·rw[hbe];exact z
   rw[q]at q';cases q';obtain⟨v,hv⟩:=heo;exact⟨v,by rw[hbe];exact hv⟩
  ·refine (ok b u q).stay (λc v hc r=>k c v ?_ r) (λc r=>by rw[ad (nown c b r)];exact r) λc xs r=>by rw[ad (wc c xs r)];exact r
   rcases hc with rfl|hc
   ·exact hbe
   ·rintro rfl;rcases he with z|z
    ·exact nown c b hc z
    ·rw[hc]at z;cases z;exact hb rfl
end
structure Un (fs ex:List Addr)(H H':Hp)(h h':Heap):Prop where
 keep:∀b o,h.get? b=some o->H b=none->b∉fs->b∉ex->h'.get? b=some o
 slot:∀b o,h.get? b=some o->H b=none->b∈fs->b∉ex->∃sl,h'.get? b=some {o with slots:=sl}
 free:∀b o,h.get? b=some o->H b=none->b∉ex->H' b=none
 there:∀b o,h.get? b=some o->b∉ex->∃o',h'.get? b=some o'
 tups:∀b xs,H b=some (.tup xs)->H' b=some (.tup xs)
 frzs:∀b o u,H b=some (.frz o u)->H' b=some (.frz o u)
 tbls:∀b ps,H b=some (.tbl ps)->∃more,H' b=some (.tbl (ps++more))
section
variable {fs fs' ex ex':List Addr}{H H1 H2:Hp}{h h1 h2 h':Heap}{a x e:Addr}{o:HO}
theorem Un.any(u:Un fs ex H H1 h h1)(q:h.get? b=some ob)(n:H b=none)(hx:b∉ex):∃sl,h1.get? b=some {ob with slots:=sl}:=by
 by_cases hb:b∈fs
 ·exact u.slot b ob q n hb hx
 ·exact⟨ob.slots,u.keep b ob q n hb hx⟩
theorem Un.trans(a:Un fs ex H H1 h h1)(b:Un fs ex H1 H2 h1 h2):Un fs ex H H2 h h2 where
 keep:=λc ob q n hc hx=>b.keep c ob (a.keep c ob q n hc hx) (a.free c ob q n hx) hc hx
 slot:=λc ob q n hc hx=>by
  obtain⟨sl,e1⟩:=a.slot c ob q n hc hx;obtain⟨sl',e2⟩:=b.slot c _ e1 (a.free c ob q n hx) hc hx;exact⟨sl',e2⟩
 free:=λc ob q n hx=>by
  obtain⟨o',e1⟩:=a.there c ob q hx;exact b.free c o' e1 (a.free c ob q n hx) hx
 there:=λc ob q hx=>by
  obtain⟨o',e1⟩:=a.there c ob q hx;exact b.there c o' e1 hx
 tups:=λc xs q=>b.tups c xs (a.tups c xs q)
 frzs:=λc ob xs q=>b.frzs c ob xs (a.frzs c ob xs q)
 tbls:=λc ps q=>by
  obtain⟨m1,e1⟩:=a.tbls c ps q;obtain⟨m2,e2⟩:=b.tbls c _ e1;exact⟨m1++m2,by rw[e2,Array.append_assoc]⟩
theorem Un.kept(k:∀b u,h.get? b=some u->h'.get? b=some u):Un fs ex H H h h':=
 ⟨λb ob q _ _ _=>k b ob q,λb ob q _ _ _=>⟨ob.slots,k b ob q⟩,λ_ _ _ n _=>n,λb ob q _=>⟨ob,k b ob q⟩,λ_ _ q=>q,λ_ _ _ q=>q,λ_ ps q=>⟨#[],by rw[q];simp⟩⟩
theorem Un.refl:Un fs ex H H h h:=Un.kept λ_ _ q=>q
theorem Un.laid(k:∀b u,h.get? b=some u->h'.get? b=some u)(hp:h.objs.size<=a)(hn:H a=none):Un fs ex H (upd H a o) h h' where
 keep:=λb u q _ _ _=>k b u q
 slot:=λb u q _ _ _=>⟨u.slots,k b u q⟩
 free:=λb u q n _=>by rw[ad (Nat.ne_of_lt (Nat.lt_of_lt_of_le (Heap.lt_size q) hp))];exact n
 there:=λb u q _=>⟨u,k b u q⟩
 tups:=λb xs q=>by rw[ad (au q hn)];exact q
 frzs:=λb u xs q=>by rw[ad (au q hn)];exact q
 tbls:=λb ps q=>⟨#[],by rw[ad (au q hn),q];simp⟩
theorem Un.write(mu:Mut (H x))(he:e=x\/H e=some (.own x))(k:∀b u,b≠e->h.get? b=some u->h'.get? b=some u)(heo:∃u,h'.get? e=some u):Un fs ex H (upd H x o) h h':=by
 have hx:∀b,H b=none->b≠x:=λb n z=>by subst z;rw[n]at mu;exact mu
 have hb:∀b,H b=none->b≠e:=λb n z=>by
  subst z;rcases he with r|r
  ·exact hx b n r
  ·rw[n]at r;cases r
 have hm:∀b u,H b=some u->¬ Mut (some u)->b≠x:=λb u q nm z=>by subst z;rw[q]at mu;exact nm mu
 refine⟨λb u q n _ _=>k b u (hb b n) q,λb u q n _ _=>⟨u.slots,k b u (hb b n) q⟩,λb u q n _=>by rw[ad (hx b n)];exact n,λb u q _=>?_,
  λb xs q=>by rw[ad (hm b _ q λz=>z)];exact q,λb u xs q=>by rw[ad (hm b _ q λz=>z)];exact q,λb ps q=>⟨#[],by rw[ad (hm b _ q λz=>z),q];simp⟩⟩
 by_cases hbe:b=e
 ·subst hbe;exact heo
 ·exact⟨u,k b u hbe q⟩
end
noncomputable def trk(h:Heap)(H:Hp):List Addr:=(List.range h.objs.size).filter λa=>(H a).isSome
noncomputable def ji(h:Heap)(H:Hp):Heap:=PySem.W.hideAll h (trk h H)
theorem mM(h:Heap)(H:Hp):(ji h H).objs.size=h.objs.size:=PySem.W.hideAll_size _ _
theorem pS{h:Heap}(e:h.get? b=some o)(n:H b=none):(ji h H).get? b=some o:=
 PySem.W.hideAll_get _ e λhm=>by
  have q:(H b).isSome=true:=(List.mem_filter.mp hm).2;rw[n]at q;simp at q
theorem qy{h:Heap}(e:(ji h H).get? b=some o):h.get? b=some o/\H b=none:=by
 have e':h.get? b=some o:=PySem.W.of_hideAll (trk h H) e;refine⟨e',?_⟩;cases q:H b with
 |none=>rfl
 |some x=>
  have hm:b∈trk h H:=List.mem_filter.mpr ⟨List.mem_range.mpr (Heap.lt_size e'),by simp[q]⟩
  have z:(ji h H).get? b=none:=PySem.W.hideAll_none (trk h H) hm;rw[z]at e;cases e
noncomputable def qk(g h:Heap)(L:Addr):List (Addr×Obj):=(List.range h.objs.size).filterMap λa=>if a=L\/(g.get? a).isSome=true then none else (h.get? a).map λo=>(a,o)
noncomputable def rest(g h:Heap)(L d:Addr):List (Addr×Obj):=(qk g h L).filter λp=>decide (p.1≠d)
end L2
namespace L2
open PySem PySem.Spec PyProof.Rows
structure Mod (K:PySem.W.Frag)(mg:Str->Option Value)(base:Heap):Prop where
 kin:K.In base
 glob:base.Ns mainGlobals mg
 blt:∃mb,base.Ns builtinsNs mb/\∀x:Str,x≠"__name__"->mb x=bootBuiltins x
 nolimit:base.NoLimit
structure Cx where
 prog:Program
 w:World
 K:PySem.W.Frag
 mg:Str->Option Value
 base:Heap
 A:Around
 N:List Str
 s₀:Shared
 H₀:Hp
 env:Env
 outer:List Env
 stack:List Env
 ex:List Addr
 fn:Str->Bool
 calm:Bool
 pn:List (Addr×Obj)
 xe:Value->Shared->Prop
noncomputable def frs(l:List Env):List Addr:=l.filterMap (·.frame)
noncomputable abbrev Cx.fs(X:Cx):List Addr:=frs X.outer
noncomputable def Vis(sc:Scope)(x:Str):Prop:=sc.names.lookup x=some .local\/sc.names.lookup x=some .cell\/sc.names.lookup x=some .free
noncomputable def Loc(sc:Scope)(x:Str):Prop:=sc.names.lookup x=some .local\/sc.names.lookup x=some .cell
noncomputable def xJ(env:Env)(h:Heap)(m:Str->Option Value)(x:Str)(u:Value):Prop:=
 (env.kindOf x=some .local/\m x=some u)\/((env.kindOf x=some .cell\/env.kindOf x=some .free)/\∃c,env.cells.lookup x=some c/\h.IsCell c (some u))
structure Cx.Ok (X:Cx):Prop where
 mod:Mod X.K X.mg X.base
 kind:X.env.scope.kind=.function
 glob:X.env.globals=mainGlobals
 blt:X.env.builtins=builtinsNs
 above:X.s₀.heap.objs.size<=X.env.locals
 inj:∀x y c,X.env.cells.lookup x=some c->X.env.cells.lookup y=some c->x=y
 has:∀x,(X.env.kindOf x=some .cell\/X.env.kindOf x=some .free)->∃c,X.env.cells.lookup x=some c
 cab:∀x c,X.fn x=true->X.env.cells.lookup x=some c->X.s₀.heap.objs.size<=c
 hd:X.calm=true->X.A.handled=none
 frames:X.A.frames=some X.stack
 stk:X.stack=X.outer\/(X.stack=X.env::X.outer/\X.env.frame=some X.env.locals)
 exf:∀b∈X.ex,b≠X.env.locals/\∀x c,X.env.cells.lookup x=some c->c≠b
 bs:∀b o,X.base.get? b=some o->X.s₀.heap.get? b=some o/\X.H₀ b=none
 bsz:X.base.objs.size<=X.s₀.heap.objs.size
 noex:∀b o,X.base.get? b=some o->b∉X.ex
 exfs:∀b∈X.ex,b∉X.fs
 funs:X.s₀.heap.FunFrames X.base X.outer
 frf:∀b∈X.fs,X.H₀ b=none
structure Inv (X:Cx) (pins:List (Addr×Obj)) (σ:List (Option V)) (H:Hp)(s:Shared):Prop where
 ok:X.Ok
 os:s.os=X.s₀.os/\0 < s.toks
 bare:AllBare s.gens
 base:Un X.fs X.ex X.H₀ H X.s₀.heap s.heap
 loc:∃m,s.heap.Ns X.env.locals m/\∀(i:Nat)(x:Str)(v:V),X.N[i]?=some x->σ[i]?=some (some v)->Vis X.env.scope x->∃u,RelV v u/\xJ X.env s.heap m x u
 cell:∀x c,X.env.cells.lookup x=some c->∃v,s.heap.IsCell c v
 free:H X.env.locals=none
 freeC:∀x c,X.env.cells.lookup x=some c->H c=none
 pin:∀p∈X.pn++pins,s.heap.get? p.1=some p.2/\H p.1=none/\p.1≠X.env.locals/\p.1∉X.fs/\∀v,p.2.data≠.cell v
 hok:HOk X.prog X.w H s.heap
 len:σ.length=X.N.length
section
variable {X:Cx}{σ:List (Option V)}{s:Shared}{h':Heap}
theorem Inv.tk(I:Inv X pins σ H s):0 < s.toks:=I.os.2
theorem Cx.Ok.nofr(ok:X.Ok)(e:X.base.get? b=some o):b∉X.fs:=λhb=>by
 have:=(ok.funs.mem hb).1;rw[e]at this;cases this
theorem Inv.bs(I:Inv X pins σ H s):∀b o,X.base.get? b=some o->s.heap.get? b=some o/\H b=none:=λb o e=>
 ⟨I.base.keep b o (I.ok.bs b o e).1 (I.ok.bs b o e).2 (I.ok.nofr e) (I.ok.noex b o e),I.base.free b o (I.ok.bs b o e).1 (I.ok.bs b o e).2 (I.ok.noex b o e)⟩
theorem Inv.bk(I:Inv X pins σ H s):∀b o,X.base.get? b=some o->s.heap.get? b=some o:=λb o e=>(I.bs b o e).1
theorem Inv.mod(I:Inv X pins σ H s):Mod X.K X.mg X.base:=I.ok.mod
theorem Inv.kIn(I:Inv X pins σ H s):X.K.In s.heap:=I.ok.mod.kin.keeps I.bk
theorem Inv.nolimit(I:Inv X pins σ H s):s.heap.NoLimit:=I.ok.mod.nolimit.keeps I.bk
theorem Inv.lt(I:Inv X pins σ H s):X.env.locals < s.heap.objs.size:=let ⟨_,hn,_⟩:=I.loc;hn.lt
theorem Inv.sz(I:Inv X pins σ H s):X.s₀.heap.objs.size<=s.heap.objs.size:=Nat.le_trans I.ok.above (Nat.le_of_lt I.lt)
theorem Inv.nofs(I:Inv X pins σ H s)(h:s.heap.objs.size<=a):a∉X.fs:=λhb=>by
 obtain⟨_,o,ho,_⟩:=I.ok.funs.mem hb;exact absurd (Nat.lt_of_lt_of_le (Heap.lt_size ho) (Nat.le_trans I.sz h)) (Nat.lt_irrefl _)
theorem Inv.cne(I:Inv X pins σ H s):∀x c,X.env.cells.lookup x=some c->c≠X.env.locals:=λx c e z=>by
 obtain⟨v,o,ho,hd⟩:=I.cell x c e;obtain⟨m,⟨o',es,ep,ho',hd',_⟩,_⟩:=I.loc;rw[z,ho']at ho;cases ho;rw[hd']at hd;cases hd
theorem Inv.funs(I:Inv X pins σ H s):s.heap.FunFrames X.base X.outer:=by
 have all:∀(l:List Env),(∀b∈frs l,b∈X.fs)->X.s₀.heap.FunFrames X.base l->s.heap.FunFrames X.base l:=by
  intro l
  induction l with
  |nil=>intro _ _;trivial
  |cons env r ih=>
   intro hs hl;obtain⟨hk,⟨L,o,hf,hn,ho,hd⟩,hr⟩:=hl;have hL:L∈X.fs:=hs L (by unfold frs;rw[List.filterMap_cons,hf];exact List.mem_cons_self)
   obtain⟨sl,e⟩:=I.base.slot L o ho (I.ok.frf L hL) hL λz=>I.ok.exfs L z hL
   exact⟨hk,⟨L,_,hf,hn,e,hd⟩,ih (λb hb=>hs b (by unfold frs;rw[List.filterMap_cons,hf];exact List.mem_cons_of_mem _ hb)) hr⟩
 exact all X.outer (λ_ hb=>hb) I.ok.funs
theorem Inv.stack(I:Inv X pins σ H s):s.heap.FunFrames X.base X.stack:=by
 rcases I.ok.stk with e|⟨e,hf⟩
 ·rw[e];exact I.funs
 ·rw[e];obtain⟨m,hn,_⟩:=I.loc;refine .cons (by rw[I.ok.kind];decide) hf hn ?_ I.funs
  exact Heap.get?_none_of_le (Nat.le_trans I.ok.bsz I.ok.above)
theorem Inv.stkSub(I:Inv X pins σ H s):∀b∈frs X.stack,b∈X.env.locals::X.fs:=λb hb=>by
 rcases I.ok.stk with e|⟨e,hf⟩
 ·rw[e]at hb;exact List.mem_cons_of_mem _ hb
 ·rw[e]at hb;unfold frs at hb;rw[List.filterMap_cons,hf]at hb;exact hb
theorem Inv.stkFree(I:Inv X pins σ H s):∀b∈frs X.stack,H b=none:=λb hb=>by
 rcases List.mem_cons.mp (I.stkSub b hb) with e|hb
 ·rw[e];exact I.free
 ·obtain⟨_,o,ho,_⟩:=I.ok.funs.mem hb;exact I.base.free b o ho (I.ok.frf b hb) λz=>I.ok.exfs b z hb
theorem Inv.step{g':Array GenState}{t':Nat}{d':Drawn}{ch:List Addr}(I:Inv X pins σ H s)
  (hch:∀b∈ch,(b∈X.ex\/X.s₀.heap.objs.size<=b)/\b≠X.env.locals/\(∀x c,X.env.cells.lookup x=some c->c≠b)/\∀p∈X.pn++pins,p.1≠b)
  (keep:∀b o,b≠X.env.locals->b∉X.fs->b∉ch->s.heap.get? b=some o->H b=none->h'.get? b=some o)
  (slot:∀b o,b≠X.env.locals->b∈X.fs->b∉ch->s.heap.get? b=some o->H b=none->∃sl,h'.get? b=some {o with slots:=sl}) (free:∀b o,b∉ch->s.heap.get? b=some o->H b=none->H' b=none)
  (there:∀b o,b∉ch->s.heap.get? b=some o->∃o',h'.get? b=some o')
  (tups:∀b xs,H b=some (.tup xs)->H' b=some (.tup xs)) (frzs:∀b o u,H b=some (.frz o u)->H' b=some (.frz o u)) (tbls:∀b ps,H b=some (.tbl ps)->∃more,H' b=some (.tbl (ps++more)))
  (ns:∀m,s.heap.Ns X.env.locals m->h'.Ns X.env.locals m)(hok:HOk X.prog X.w H' h')(hg:AllBare g')(ht:0 < t') :
  Inv X pins σ H' {s with heap:=h',gens:=g',drawn:=d',toks:=t'}:=by
 have neL:∀b o,X.s₀.heap.get? b=some o->b≠X.env.locals:=λb o e=>Nat.ne_of_lt (Nat.lt_of_lt_of_le (Heap.lt_size e) I.ok.above)
 have neC:∀b o,X.s₀.heap.get? b=some o->b∉X.ex->b∉ch:=λb o e hx hb=>by
  rcases (hch b hb).1 with z|z
  ·exact hx z
  ·exact absurd (Nat.lt_of_lt_of_le (Heap.lt_size e) z) (Nat.lt_irrefl _)
 have cellK:∀x c,X.env.cells.lookup x=some c->∀v,s.heap.IsCell c v->h'.IsCell c v:=λx c e v ⟨o,ho,hd⟩=>by
  have nch:c∉ch:=λz=>(hch c z).2.2.1 x c e rfl
  by_cases hc:c∈X.fs
  ·obtain⟨sl,q⟩:=slot c o (I.cne x c e) hc nch ho (I.freeC x c e);exact⟨_,q,hd⟩
  ·exact⟨o,keep c o (I.cne x c e) hc nch ho (I.freeC x c e),hd⟩
 refine⟨I.ok,⟨I.os.1,ht⟩,hg,⟨λb o e n hb hx=>?_,λb o e n hb hx=>?_,λb o e n hx=>?_,λb o e hx=>?_,λb xs e=>tups b xs (I.base.tups b xs e),λb o xs e=>frzs b o xs (I.base.frzs b o xs e),λb ps e=>?_⟩,?_,λx c e=>?_,?_,λx c e=>?_,λp hp=>?_,hok,I.len⟩
 ·exact keep b o (neL b o e) hb (neC b o e hx) (I.base.keep b o e n hb hx) (I.base.free b o e n hx)
 ·obtain⟨sl,e1⟩:=I.base.slot b o e n hb hx;obtain⟨sl',e2⟩:=slot b _ (neL b o e) hb (neC b o e hx) e1 (I.base.free b o e n hx);exact⟨sl',e2⟩
 ·obtain⟨o',e1⟩:=I.base.there b o e hx;exact free b o' (neC b o e hx) e1 (I.base.free b o e n hx)
 ·obtain⟨o',e1⟩:=I.base.there b o e hx;exact there b o' (neC b o e hx) e1
 ·obtain⟨m1,e1⟩:=I.base.tbls b ps e;obtain⟨m2,e2⟩:=tbls b _ e1;exact⟨m1++m2,by rw[e2,Array.append_assoc]⟩
 ·obtain⟨m,hn,hl⟩:=I.loc;refine⟨m,ns m hn,λi x v e1 e2 e3=>?_⟩
  obtain⟨u,r,l⟩:=hl i x v e1 e2 e3;refine⟨u,r,?_⟩;rcases l with l|⟨k,c,e,z⟩
  ·exact .inl l
  ·exact .inr ⟨k,c,e,cellK x c e _ z⟩
 ·obtain⟨v,z⟩:=I.cell x c e;exact⟨v,cellK x c e v z⟩
 ·obtain⟨m,⟨o,_,_,ho,_⟩,_⟩:=I.loc;exact free _ o (λz=>(hch _ z).2.1 rfl) ho I.free
 ·obtain⟨v,o,ho,hd⟩:=I.cell x c e;exact free c o (λz=>(hch c z).2.2.1 x c e rfl) ho (I.freeC x c e)
 ·obtain⟨e,n,ne,nf,d⟩:=I.pin p hp;have nch:p.1∉ch:=λz=>(hch p.1 z).2.2.2 p hp rfl
  exact⟨keep p.1 p.2 ne nf nch e n,free p.1 p.2 nch e n,ne,nf,d⟩
theorem Inv.un{t':Nat}(I:Inv X pins σ H s)(u:Un X.fs [] H H' s.heap h')(hok:HOk X.prog X.w H' h')(ht:0 < t':=by first|exact Nat.succ_pos _|assumption|exact Inv.tk (by assumption)|exact Env0.tk (by assumption)|exact Nat.lt_of_lt_of_le (Inv.tk (by assumption)) (Nat.le_add_right _ _)):Inv X pins σ H' {s with heap:=h',toks:=t'}:=by
 obtain⟨m,⟨o,es,ep,ho,r⟩,_⟩:=id I.loc;obtain⟨sl,hL⟩:=u.any ho I.free (by simp)
 exact I.step (g':=s.gens) (d':=s.drawn) (ch:=[]) (λ_ z=>nomatch z) (λb o _ hb _ e n=>u.keep b o e n hb (by simp)) (λb o _ hb _ e n=>u.slot b o e n hb (by simp)) (λb o _ e n=>u.free b o e n (by simp)) (λb o _ e=>u.there b o e (by simp)) u.tups u.frzs u.tbls (λm' hm=>by
  obtain⟨o',es',ep',ho',r'⟩:=hm;rw[ho]at ho';cases ho';exact⟨_,es',ep',hL,r'⟩) hok I.bare ht
theorem Inv.call{g':Array GenState}{t':Nat}{d':Drawn}{ch:List Addr}(I:Inv X pins σ H s)(u:Un (frs X.stack) ch H H' s.heap h')(hok:HOk X.prog X.w H' h')(hg:AllBare g')
  (hch:∀b∈ch,(b∈X.ex\/X.s₀.heap.objs.size<=b)/\b≠X.env.locals/\(∀x c,X.env.cells.lookup x=some c->c≠b)/\∀p∈X.pn++pins,p.1≠b) (ht:0 < t':=by first|exact Nat.succ_pos _|assumption|exact Inv.tk (by assumption)|exact Env0.tk (by assumption)|exact Nat.lt_of_lt_of_le (Inv.tk (by assumption)) (Nat.le_add_right _ _)) :
  Inv X pins σ H' {s with heap:=h',gens:=g',drawn:=d',toks:=t'}:=by
 obtain⟨m,⟨o,es,ep,ho,r⟩,_⟩:=id I.loc;obtain⟨sl,hL⟩:=u.any ho I.free λz=>(hch _ z).2.1 rfl
 exact I.step (ch:=ch) hch (λb o hL hb hc e n=>u.keep b o e n (λz=>(List.mem_cons.mp (I.stkSub b z)).elim hL hb) hc) (λb o _ _ hc e n=>u.any e n hc) (λb o hc e n=>u.free b o e n hc) (λb o hc e=>u.there b o e hc) u.tups u.frzs u.tbls (λm' hm=>by
  obtain⟨o',es',ep',ho',r'⟩:=hm;rw[ho]at ho';cases ho';exact⟨_,es',ep',hL,r'⟩) hok hg ht
theorem Inv.turned{t':Nat}{it:Addr}(I:Inv X pins σ H s)(k:∀b o,b≠it->s.heap.get? b=some o->h'.get? b=some o)(hn:H it=none)(hL:it≠X.env.locals)
  (h1:it∈X.ex\/X.s₀.heap.objs.size<=it) (h2:∀x c,X.env.cells.lookup x=some c->c≠it) (h3:∀p∈X.pn++pins,p.1≠it) (ht:0 < t':=by first|exact Nat.succ_pos _|assumption|exact Inv.tk (by assumption)|exact Env0.tk (by assumption)|exact Nat.lt_of_lt_of_le (Inv.tk (by assumption)) (Nat.le_add_right _ _)):Inv X pins σ H {s with heap:=h',toks:=t'}:=by
 have nit:∀b u,H b=some u->b≠it:=λb u e z=>by rw[z,hn]at e;cases e
 refine I.step (g':=s.gens) (d':=s.drawn) (ch:=[it]) (λb hb=>?_) (λb o _ _ hc e _=>k b o (λz=>hc (by simp[z])) e) (λb o _ _ hc e _=>⟨o.slots,k b o (λz=>hc (by simp[z])) e⟩) (λ_ _ _ _ n=>n)
  (λb o hc e=>⟨o,k b o (λz=>hc (by simp[z])) e⟩) (λ_ _ e=>e) (λ_ _ _ e=>e) (λb ps e=>⟨#[],by rw[e];simp⟩) (λm hm=>?_) (λb u e=>?_) I.bare ht
 ·have e:b=it:=by simpa using hb
  subst e;exact⟨h1,hL,h2,h3⟩
 ·obtain⟨o,es,ep,ho,r⟩:=hm;exact⟨o,es,ep,k _ o (Ne.symm hL) ho,r⟩
 ·refine (I.hok b u e).stay (λc v hc q=>k c v ?_ q) (λ_ q=>q) λ_ _ q=>q
  rcases hc with z|z
  ·rw[z];exact nit b u e
  ·exact nit c _ z
theorem Inv.tok(I:Inv X pins σ H s)(t:Nat)(ht:0 < t:=by first|exact Nat.succ_pos _|assumption|exact Inv.tk (by assumption)|exact Env0.tk (by assumption)|exact Nat.lt_of_lt_of_le (Inv.tk (by assumption)) (Nat.le_add_right _ _)):Inv X pins σ H {s with toks:=t}:=I.un (h':=s.heap) (t':=t) Un.refl I.hok
theorem Inv.kept(I:Inv X pins σ H s)(k:∀b u,s.heap.get? b=some u->h'.get? b=some u)(ht:0 < t':=by first|exact Nat.succ_pos _|assumption|exact Inv.tk (by assumption)|exact Env0.tk (by assumption)|exact Nat.lt_of_lt_of_le (Inv.tk (by assumption)) (Nat.le_add_right _ _)):Inv X pins σ H {s with heap:=h',toks:=t'}:=I.un (Un.kept k) (I.hok.kept k)
theorem Inv.laid(I:Inv X pins σ H s)(k:∀b u,s.heap.get? b=some u->h'.get? b=some u)(hp:s.heap.objs.size<=a)(new:ObjOk X.prog X.w (upd H a o) h' a o)(ht:0 < t':=by first|exact Nat.succ_pos _|assumption|exact Inv.tk (by assumption)|exact Env0.tk (by assumption)|exact Nat.lt_of_lt_of_le (Inv.tk (by assumption)) (Nat.le_add_right _ _)) :
  Inv X pins σ (upd H a o) {s with heap:=h',toks:=t'}:=I.un (Un.laid k hp (I.hok.fresh hp)) (I.hok.laid k hp new)
theorem Inv.write(I:Inv X pins σ H s)(mu:Mut (H x))(he:e=x\/H e=some (.own x))(k:∀b u,b≠e->s.heap.get? b=some u->h'.get? b=some u)(heo:∃u,h'.get? e=some u)
  (new:ObjOk X.prog X.w (upd H x o) h' x o) (ht:0 < t':=by first|exact Nat.succ_pos _|assumption|exact Inv.tk (by assumption)|exact Env0.tk (by assumption)|exact Nat.lt_of_lt_of_le (Inv.tk (by assumption)) (Nat.le_add_right _ _)):Inv X pins σ (upd H x o) {s with heap:=h',toks:=t'}:=I.un (Un.write mu he k heo) (I.hok.write mu he k heo new)
theorem Inv.pins_of(I:Inv X pins σ H s)(h:∀p∈pins',s.heap.get? p.1=some p.2/\H p.1=none/\p.1≠X.env.locals/\p.1∉X.fs/\∀v,p.2.data≠.cell v):Inv X pins' σ H s:=
 ⟨I.ok,I.os,I.bare,I.base,I.loc,I.cell,I.free,I.freeC,λp hp=>(List.mem_append.mp hp).elim (λz=>I.pin p (List.mem_append_left _ z)) (h p),I.hok,I.len⟩
theorem f9{N:List Str}(hN:N.Nodup){i j:Nat}{x:Str}(a:N[i]?=some x)(b:N[j]?=some x):i=j:=by
 obtain⟨h1,e1⟩:=List.getElem?_eq_some_iff.mp a;obtain⟨h2,e2⟩:=List.getElem?_eq_some_iff.mp b;exact (List.getElem_inj hN).mp (e1.trans e2.symm)
theorem mR{M:Model}{A:Around}{E:Value->Shared->Prop}{i:Nat}{x:Str}{v:V}{u:Value}{Q:Unit->Shared->Prop}(I:Inv X pins σ H s)(hN:X.N.Nodup)(hi:X.N[i]?=some x)(hx:Loc X.env.scope x)(r:RelV v u)
  (h:∀s',Inv X pins (σ.set i (some v)) H s'->(∃a,Heap.SameBut a s.heap s'.heap/\(a=X.env.locals\/X.env.cells.lookup x=some a))->Q () s') (hf:X.fn x=true\/X.env.scope.names.lookup x=some .local:=by first|exact .inl rfl|exact .inr rfl|assumption):wpAny M A (storeName X.env x u) Q E s:=by
 obtain⟨m,hn,hl⟩:=id I.loc;have hcls:(X.env.scope.kind == .class||(X.env.scope.kind == .module&&X.env.locals != X.env.globals))=false:=by rw[I.ok.kind];rfl
 have hiσ:i < σ.length:=by rw[I.len];exact (List.getElem?_eq_some_iff.mp hi).1
 have cne:=I.cne;have tracked:∀{a:Addr}{h':Heap},(∃o,s.heap.get? a=some o/\H a=none)->Heap.SameBut a s.heap h'->HOk X.prog X.w H h':=λ{a h'} ha hs b ob e=>by
  obtain⟨_,_,hfree⟩:=ha;refine (I.hok b ob e).stay (λc w' hc q=>(hs.2 c ?_).trans q) (λ_ q=>q) λ_ _ q=>q
  rintro rfl;rcases hc with rfl|hc
  ·rw[hfree]at e;cases e
  ·rw[hfree]at hc;cases hc
 rcases hx with hk|hk
 ·refine wpAny_storeName_local hk hn (λh' hn' hs=>?_) hcls
  obtain⟨oL,_,_,hoL,_⟩:=id hn;refine h _ ⟨I.ok,⟨I.os.1,Nat.succ_pos _⟩,I.bare,⟨λb o e n hb hx=>?_,λb o e n hb hx=>?_,I.base.free,λb o e hx=>?_,I.base.tups,I.base.frzs,I.base.tbls⟩,⟨_,hn',λj y v' e1 e2 e3=>?_⟩,λy c e=>?_,I.free,I.freeC,λp hp=>?_,tracked ⟨oL,hoL,I.free⟩ hs,by simpa using I.len⟩ ⟨_,hs,.inl rfl⟩
  ·exact (hs.2 b (Nat.ne_of_lt (Nat.lt_of_lt_of_le (Heap.lt_size e) I.ok.above))).trans (I.base.keep b o e n hb hx)
  ·obtain⟨sl,e1⟩:=I.base.slot b o e n hb hx;exact⟨sl,(hs.2 b (Nat.ne_of_lt (Nat.lt_of_lt_of_le (Heap.lt_size e) I.ok.above))).trans e1⟩
  ·obtain⟨o',e1⟩:=I.base.there b o e hx;exact⟨o',(hs.2 b (Nat.ne_of_lt (Nat.lt_of_lt_of_le (Heap.lt_size e) I.ok.above))).trans e1⟩
  ·by_cases hj:j=i
   ·subst hj;rw[hi]at e1;cases e1;rw[List.getElem?_set_self hiσ]at e2;cases e2;exact⟨u,r,.inl ⟨hk,by simp⟩⟩
   ·rw[List.getElem?_set_ne (Ne.symm hj)]at e2;obtain⟨u',r',q⟩:=hl j y v' e1 e2 e3;refine⟨u',r',?_⟩;rcases q with ⟨k,e⟩|⟨k,c,e,z⟩
    ·refine .inl ⟨k,?_⟩;have:y≠x:=λe=>hj (f9 hN e1 (e▸hi))
     simp[this,e]
    ·exact .inr ⟨k,c,e,z.sameBut hs (cne y c e)⟩
  ·obtain⟨w',z⟩:=I.cell y c e;exact⟨w',z.sameBut hs (cne y c e)⟩
  ·obtain⟨e,n,ne,nf,d⟩:=I.pin p hp;exact⟨(hs.2 p.1 ne).trans e,n,ne,nf,d⟩
 ·have hfn:X.fn x=true:=by
   rcases hf with z|z
   ·exact z
   ·rw[z]at hk;cases hk
  obtain⟨c,hc⟩:=I.ok.has x (.inl hk);obtain⟨w',z⟩:=I.cell x c hc;refine wpAny_storeName_cell I.ok.kind hk hc z (λh' hc' hs=>?_)
  obtain⟨oc,hoc,hocd⟩:=id z;refine h {s with heap:=h'} ⟨I.ok,I.os,I.bare,⟨λb o e n hb hx=>?_,λb o e n hb hx=>?_,I.base.free,λb o e hx=>?_,I.base.tups,I.base.frzs,I.base.tbls⟩,⟨m,hn.sameBut hs (Ne.symm (cne x c hc)),λj y v' e1 e2 e3=>?_⟩,λy c' e=>?_,I.free,I.freeC,λp hp=>?_,tracked ⟨oc,hoc,I.freeC x c hc⟩ hs,by simpa using I.len⟩ ⟨c,hs,.inr hc⟩
  ·exact (hs.2 b (Nat.ne_of_lt (Nat.lt_of_lt_of_le (Heap.lt_size e) (I.ok.cab x c hfn hc)))).trans (I.base.keep b o e n hb hx)
  ·obtain⟨sl,e1⟩:=I.base.slot b o e n hb hx;exact⟨sl,(hs.2 b (Nat.ne_of_lt (Nat.lt_of_lt_of_le (Heap.lt_size e) (I.ok.cab x c hfn hc)))).trans e1⟩
  ·obtain⟨o',e1⟩:=I.base.there b o e hx;exact⟨o',(hs.2 b (Nat.ne_of_lt (Nat.lt_of_lt_of_le (Heap.lt_size e) (I.ok.cab x c hfn hc)))).trans e1⟩
  ·by_cases hj:j=i
   ·subst hj;rw[hi]at e1;cases e1;rw[List.getElem?_set_self hiσ]at e2;cases e2;exact⟨u,r,.inr ⟨.inl hk,c,hc,hc'⟩⟩
   ·rw[List.getElem?_set_ne (Ne.symm hj)]at e2;obtain⟨u',r',q⟩:=hl j y v' e1 e2 e3;refine⟨u',r',?_⟩;rcases q with q|⟨k,c',e,z'⟩
    ·exact .inl q
    ·refine .inr ⟨k,c',e,z'.sameBut hs ?_⟩;rintro rfl;exact hj (f9 hN e1 (I.ok.inj _ _ _ e hc▸hi))
  ·by_cases hcc:c'=c
   ·subst hcc;exact⟨_,hc'⟩
   ·obtain⟨w2,z2⟩:=I.cell y c' e;exact⟨w2,z2.sameBut hs hcc⟩
  ·obtain⟨e,n,ne,nf,d⟩:=I.pin p hp;refine⟨(hs.2 p.1 ?_).trans e,n,ne,nf,d⟩;intro q;rw[q,hoc]at e;have q':oc=p.2:=Option.some.inj e;exact d w' (by rw[<-q'];exact hocd)
theorem gW(I:Inv X pins σ H s)(hN:X.N.Nodup)(hi:X.N[i]?=some x)(hx:Loc X.env.scope x)(r:RelV v u)
  (h:∀s',Inv X pins (σ.set i (some v)) H s'->Q () s') (hf:X.fn x=true\/X.env.scope.names.lookup x=some .local:=by first|exact .inl rfl|exact .inr rfl|assumption):wpAny M A (storeName X.env x u) Q E s:=
 mR I hN hi hx r (λs' I' _=>h s' I') hf
theorem Inv.call'{s':Shared}(I:Inv X pins σ H s)(ho:s'.os=s.os/\0 < s'.toks)(u:Un (frs X.stack) ch H H' s.heap s'.heap)(hok:HOk X.prog X.w H' s'.heap)(hg:AllBare s'.gens)
  (hch:∀b∈ch,(b∈X.ex\/X.s₀.heap.objs.size<=b)/\b≠X.env.locals/\(∀x c,X.env.cells.lookup x=some c->c≠b)/\∀p∈X.pn++pins,p.1≠b):Inv X pins σ H' s':=by
 obtain⟨h',g',d',t',o'⟩:=s';have e:o'=s.os:=ho.1;subst e;have ht:=ho.2;exact I.call (g':=g') (t':=t') (d':=d') u hok hg hch
end
noncomputable abbrev XK:=Value->Option Addr->Hp->Prop
noncomputable abbrev St:=List (Option V)
noncomputable abbrev VK:=V->Hp->Prop
noncomputable abbrev TE:=St->Hp->VK->Prop
noncomputable abbrev TT:=St->Hp->(Bool->Hp->Prop)->Prop
noncomputable abbrev TA:=St->Hp->(List V->Hp->Prop)->Prop
structure Ends where
 nx:St->Hp->Prop
 rt:VK
 bk:St->Hp->Prop:=λ_ _=>False
 ct:St->Hp->Prop:=λ_ _=>False
noncomputable abbrev TS:=Ends->St->Hp->Prop
noncomputable def EP(X:Cx)(pins:List (Addr×Obj))(σ:St)(Q:VK)(u:Value)(s':Shared):Prop:=∃v H',Inv X pins σ H' s'/\RelV v u/\Q v H'
noncomputable def TP(X:Cx)(pins:List (Addr×Obj))(σ:St)(Q:Bool->Hp->Prop)(b:Bool)(s':Shared):Prop:=∃H',Inv X pins σ H' s'/\Q b H'
noncomputable def AP(X:Cx)(pins:List (Addr×Obj))(σ:St)(Q:List V->Hp->Prop)(us:List Value)(s':Shared):Prop:=∃vs H',Inv X pins σ H' s'/\Vals vs us/\Q vs H'
noncomputable def SP(X:Cx)(pins:List (Addr×Obj))(D:Ends)(f:Flow)(s':Shared):Prop:=
 match f with
 |.next=>∃σ' H',Inv X pins σ' H' s'/\D.nx σ' H'
 |.brk=>∃σ' H',Inv X pins σ' H' s'/\D.bk σ' H'
 |.cont=>∃σ' H',Inv X pins σ' H' s'/\D.ct σ' H'
 |.ret u=>∃v σ' H',Inv X pins σ' H' s'/\RelV v u/\D.rt v H'
noncomputable def PE(X:Cx)(e:Expr)(t:TE):Prop:=
 ∀(pins:List (Addr×Obj)) (s:Shared)(σ:St)(H:Hp)(Q:VK),Inv X pins σ H s->t σ H Q->wpAny (model X.prog X.w) X.A (eval e X.env) (EP X pins σ Q) X.xe s
noncomputable def PT(X:Cx)(e:Expr)(t:TT):Prop:=
 ∀(pins:List (Addr×Obj)) (s:Shared)(σ:St)(H:Hp)(Q:Bool->Hp->Prop),Inv X pins σ H s->t σ H Q->wpAny (model X.prog X.w) X.A (isTrue e X.env (eval e X.env)) (TP X pins σ Q) X.xe s
noncomputable def PW(X:Cx)(e:Expr)(t:TT):Prop:=
 ∀(whole:Sem Value) (pins:List (Addr×Obj)) (s:Shared)(σ:St)(H:Hp)(Q:Bool->Hp->Prop),Inv X pins σ H s->t σ H Q->wpAny (model X.prog X.w) X.A (isTrue e X.env whole) (TP X pins σ Q) X.xe s
theorem PW.pt(h:PW X e t):PT X e t:=h _
noncomputable def PA(X:Cx)(es:List Expr)(t:TA):Prop:=
 ∀(pos:Pos) (pins:List (Addr×Obj)) (s:Shared)(σ:St)(H:Hp)(Q:List V->Hp->Prop),Inv X pins σ H s->t σ H Q->wpAny (model X.prog X.w) X.A (spliced (backTo pos (starEach es X.env))) (AP X pins σ Q) X.xe s
noncomputable def PS(X:Cx)(st:Stmt)(t:TS):Prop:=
 ∀(pins:List (Addr×Obj)) (s:Shared)(σ:St)(H:Hp)(D:Ends),Inv X pins σ H s->t D σ H->wpAny (model X.prog X.w) X.A (exec st X.env) (SP X pins D) X.xe s
noncomputable def PSs(X:Cx)(st:List Stmt)(t:TS):Prop:=
 ∀(pins:List (Addr×Obj)) (s:Shared)(σ:St)(H:Hp)(D:Ends),Inv X pins σ H s->t D σ H->wpAny (model X.prog X.w) X.A (execs st X.env) (SP X pins D) X.xe s
theorem thn{α:Type}{t:Sem α}{Q Q':α->Shared->Prop}{M:Model}{A:Around}{E:Value->Shared->Prop}{s:Shared}(h:wpAny M A t Q E s)(hQ:∀a s,Q a s->Q' a s):wpAny M A t Q' E s:=wpAny_mono h hQ λ_ _ x=>x
end L2
namespace L2
open PySem PySem.Spec PyProof.Rows
section
variable {X:Cx}
theorem bin{a b:Expr}{ta tb:TE}(ha:PE X a ta)(hb:PE X b tb){pins:List (Addr×Obj)}{s:Shared}{σ:St}{H:Hp}{R:V->V->Hp->Prop}(I:Inv X pins σ H s)(h:ta σ H λx H1=>tb σ H1 λy H2=>R x y H2)
  {α:Type}{Q:α->Shared->Prop}{f:Value->Value->Sem α}
  (hf:∀v u s2 x y H2,Inv X pins σ H2 s2->RelV x v->RelV y u->R x y H2->wpAny (model X.prog X.w) X.A (f v u) Q X.xe s2) :
  wpAny (model X.prog X.w) X.A (eval a X.env) (λv s₁=>wpAny (model X.prog X.w) X.A (eval b X.env) (λu s₂=>wpAny (model X.prog X.w) X.A (f v u) Q X.xe s₂) X.xe s₁) X.xe s:=by
 refine thn (ha pins s σ H _ I h) λv s1 ⟨x,H1,I1,r1,q1⟩=>?_
 refine thn (hb pins s1 σ H1 _ I1 q1) λu s2 ⟨y,H2,I2,r2,q2⟩=>?_
 exact hf v u s2 x y H2 I2 r1 r2 q2
noncomputable def CD(i:Nat):TE:=λσ H Q=>∃v,σ[i]?=some (some v)/\Q v H
noncomputable def tC(v:V):TE:=λ_ H Q=>Q v H
theorem ux(hN:X.N[i]?=some x)(hv:Vis X.env.scope x)(hd:(x == ("__debug__" : Str))=false:=by decide)(hcd:(x == ("__classdict__" : Str))=false:=by decide):PE X (.Name x pos) (CD i):=by
 intro pins s σ H Q I h;obtain⟨v,e,h⟩:=h;obtain⟨m,hn,hl⟩:=I.loc;obtain⟨u,r,l⟩:=hl i x v hN e hv;have fin:EP X pins σ Q u s:=⟨v,H,I,r,h⟩;rcases l with ⟨hk,hm⟩|⟨hk,c,hc,hcell⟩
 ·exact wpAny_Name (wpAny_loadName_local I.ok.kind hk hn hm fin) hd
 ·rcases hk with hk|hk
  ·exact wpAny_Name (wpAny_loadName_cell I.ok.kind hk hc hcell fin) hd
  ·exact wpAny_Name (wpAny_loadName_free I.ok.kind hk hc hcell fin hcd) hd
theorem vN{i j pos}:PE X (.Constant (.int i) j pos) (tC (.int i)):=λ_ _ _ H _ I h=>wpAny_Constant_int ⟨.int i,H,I.tok _,⟨_,rfl⟩,h⟩
theorem we{b j pos}:PE X (.Constant (.bool b) j pos) (tC (.bl b)):=λ_ _ _ H _ I h=>Constant_bool ⟨.bl b,H,I,rfl,h⟩
theorem vt{j pos}:PE X (.Constant .none j pos) (tC .non):=λ_ _ _ H _ I h=>Constant_none ⟨.non,H,I,rfl,h⟩
theorem uP{x j pos}:PE X (.Constant (.str x) j pos) (tC (.str x)):=λ_ _ _ H _ I h=>Calls.Constant_str ⟨.str x,H,I.tok _,⟨_,rfl⟩,h⟩
noncomputable def Gl(X:Cx)(x:Str):Prop:=X.env.kindOf x=some .globalImplicit
theorem bU(I:Inv X pins σ H s)(hg:Gl X x)(hm:X.mg x=some u)(h:Q u s)
  (hd:(x == ("__debug__" : Str))=false:=by decide):wpAny (model X.prog X.w) X.A (eval (.Name x pos) X.env) Q E s:=
 Calls.Name_function_global I.ok.kind hg (Calls.loadGlobal_global (by rw[I.ok.glob];exact I.mod.glob.keeps I.bk) hm h) hd
theorem gO(I:Inv X pins σ H s)(hg:Gl X x)(hm:X.mg x=none)(hv:bootBuiltins x=some u)(h:Q u s)
  (hn:x≠"__name__":=by decide) (hd:(x == ("__debug__" : Str))=false:=by decide):wpAny (model X.prog X.w) X.A (eval (.Name x pos) X.env) Q E s:=by
 obtain⟨mb,h1,h2⟩:=I.mod.blt;exact Calls.Name_function_global I.ok.kind hg (Calls.loadGlobal_builtin (by rw[I.ok.glob];exact I.mod.glob.keeps I.bk) hm (by rw[I.ok.blt];exact h1.keeps I.bk) ((h2 x hn).trans hv) h) hd
theorem l0(hg:Gl X x)(hm:X.mg x=some u)(r:RelV v u)(hd:(x == ("__debug__" : Str))=false:=by decide):PE X (.Name x pos) (tC v):=
 λ_ _ _ H _ I h=>bU I hg hm ⟨v,H,I,r,h⟩ hd
theorem rT(hg:Gl X x)(hm:X.mg x=none)(hv:bootBuiltins x=some u)(r:RelV v u)(hn:x≠"__name__":=by decide)(hd:(x == ("__debug__" : Str))=false:=by decide):PE X (.Name x pos) (tC v):=
 λ_ _ _ H _ I h=>gO I hg hm hv ⟨v,H,I,r,h⟩ hn hd
variable {a b:Expr}{ta tb:TE}{pos:Pos}
noncomputable def tB(t:TE):TT:=λσ H Q=>t σ H λx H1=>∃c,x=.bl c/\Q c H1
theorem u5{e:Expr}(h:PE X e t)(he:∀whole,isTrue e X.env whole=(do let v<-whole;standAt e.pos;holding [v] (truthy v)):=by intro _;rfl):PT X e (tB t):=by
 intro pins s σ H Q I hw;refine isTrue_plain (thn (h pins s σ H _ I hw) λv s1 ⟨x,H1,I1,r1,q1⟩=>?_) (he _)
 obtain⟨d,rfl,q⟩:=q1;cases r1;exact wpAny_truthy_bool ⟨H1,I1,q⟩
variable {tA tB':TT}{rest:List Expr}
noncomputable def A5(t u:TT):TT:=λσ H Q=>t σ H λc H1=>if c=true then u σ H1 Q else Q false H1
noncomputable def tOr(t u:TT):TT:=λσ H Q=>t σ H λc H1=>if c=true then Q true H1 else u σ H1 Q
noncomputable def BS(t:TT):TT:=λσ H Q=>t σ H λc H1=>Q (!c) H1
theorem rR(ha:PT X a tA):PW X (.BoolOp .And [a] pos) tA:=by
 intro wh pins s σ H Q I h;refine isTrue_and (thn (ha pins s σ H Q I h) λc s1 e=>?_)
 cases c with
 |true=>exact isTrue_and_nil e
 |false=>exact e
theorem vF(ha:PT X a tA):PW X (.BoolOp .Or [a] pos) tA:=by
 intro wh pins s σ H Q I h;refine isTrue_or (thn (ha pins s σ H Q I h) λc s1 e=>?_)
 cases c with
 |false=>exact isTrue_or_nil e
 |true=>exact e
theorem vi(ha:PT X a tA)(hb:PW X (.BoolOp .And (b::rest) pos) tB'):PW X (.BoolOp .And (a::b::rest) pos) (A5 tA tB'):=by
 intro wh pins s σ H Q I h;refine isTrue_and (thn (ha pins s σ H _ I h) λc s1 ⟨H1,I1,q1⟩=>?_)
 cases c with
 |true=>exact hb wh pins s1 σ H1 Q I1 q1
 |false=>exact⟨H1,I1,q1⟩
theorem zf(ha:PT X a tA)(hb:PW X (.BoolOp .Or (b::rest) pos) tB'):PW X (.BoolOp .Or (a::b::rest) pos) (tOr tA tB'):=by
 intro wh pins s σ H Q I h;refine isTrue_or (thn (ha pins s σ H _ I h) λc s1 ⟨H1,I1,q1⟩=>?_)
 cases c with
 |true=>exact⟨H1,I1,q1⟩
 |false=>exact hb wh pins s1 σ H1 Q I1 q1
theorem uB(ha:PT X a tA):PT X (.UnaryOp .Not a pos) (BS tA):=by
 intro pins s σ H Q I h;exact isTrue_not (ha pins s σ H (λc H1=>Q (!c) H1) I h)
noncomputable def yi(ta tb:TE):TE:=λσ H Q=>ta σ H λx H1=>∃c,x=.bl c/\if c=true then tb σ H1 Q else Q (.bl false) H1
noncomputable def BC(ta tb:TE):TE:=λσ H Q=>ta σ H λx H1=>∃c,x=.bl c/\if c=true then Q (.bl true) H1 else tb σ H1 Q
noncomputable def yM(ta:TE):TE:=λσ H Q=>ta σ H λx H1=>∃c,x=.bl c/\Q (.bl (!c)) H1
theorem vn{op}(h:PE X a t):PE X (.BoolOp op [a] pos) t:=λpins s σ H Q I hw=>BoolOp_one (h pins s σ H Q I hw)
theorem vE(ha:PE X a ta)(hb:PE X (.BoolOp .And (b::rest) pos) tb):PE X (.BoolOp .And (a::b::rest) pos) (yi ta tb):=by
 intro pins s σ H Q I h;refine BoolOp_and (thn (ha pins s σ H _ I h) λv s1 ⟨x,H1,I1,r1,q1⟩=>?_)
 obtain⟨c,rfl,q1⟩:=q1;cases r1;refine wpAny_truthy_bool ?_;cases c with
 |true=>exact hb pins s1 σ H1 Q I1 q1
 |false=>exact⟨.bl false,H1,I1,rfl,q1⟩
theorem yS(ha:PE X a ta)(hb:PE X (.BoolOp .Or (b::rest) pos) tb):PE X (.BoolOp .Or (a::b::rest) pos) (BC ta tb):=by
 intro pins s σ H Q I h;refine BoolOp_or (thn (ha pins s σ H _ I h) λv s1 ⟨x,H1,I1,r1,q1⟩=>?_)
 obtain⟨c,rfl,q1⟩:=q1;cases r1;refine wpAny_truthy_bool ?_;cases c with
 |false=>exact hb pins s1 σ H1 Q I1 q1
 |true=>exact⟨.bl true,H1,I1,rfl,q1⟩
theorem uC(ha:PE X a ta):PE X (.UnaryOp .Not a pos) (yM ta):=by
 intro pins s σ H Q I h;refine UnaryOp_ (thn (ha pins s σ H _ I h) λv s1 ⟨x,H1,I1,r1,q1⟩=>?_)
 obtain⟨c,rfl,q1⟩:=q1;cases r1;exact not_of (wpAny_truthy_bool ⟨.bl (!c),H1,I1,rfl,q1⟩)
noncomputable def tIf(t:TT)(ta tb:TE):TE:=λσ H Q=>t σ H λc H1=>if c=true then ta σ H1 Q else tb σ H1 Q
theorem pB(hc:PT X c tA)(ha:PE X a ta)(hb:PE X b tb):PE X (.IfExp c a b pos) (tIf tA ta tb):=by
 intro pins s σ H Q I h;refine wpAny_IfExp (thn (hc pins s σ H _ I h) λd s1 ⟨H1,I1,q1⟩=>?_)
 cases d with
 |true=>exact ha pins s1 σ H1 Q I1 q1
 |false=>exact hb pins s1 σ H1 Q I1 q1
end
end L2
namespace L2
open PySem PySem.Spec PyProof.Rows
noncomputable def SqL(K:PySem.W.Frag)(H:Hp)(a:Addr)(xs:List V):Prop:=
 Rd H a (.lst xs)\/
  ∃(o:Obj) (its:Array Value) (n:Nat),K.lookup a=some o/\o.cls=.type "list"/\o.dict=none/\o.data=.seq its n/\its.size<=sizeLine/\Vals xs its.toList
noncomputable def SqT(K:PySem.W.Frag)(H:Hp)(a:Addr)(xs:List V):Prop:=
 Rd H a (.tup xs)\/
  ∃(o:Obj) (its:Array Value) (n:Nat),K.lookup a=some o/\o.cls=.type "tuple"/\o.data=.seq its n/\its.size<=sizeLine/\Vals xs its.toList
noncomputable def BU:Value->Option V
 |.none=>some .non
 |.bool b=>some (.bl b)
 |.int i _=>some (.int i)
 |.str x _=>some (.str x)
 |.bytes b _=>some (.byt b)
 |.float b _=>some (.flt b)
 |.ref a=>some (.ref a)
 |.type n=>some (.ty n)
 |_=>none
theorem RelV.abs(r:RelV x u):BU u=some x:=by
 cases x with
 |non=>cases r;rfl
 |bl _=>cases r;rfl
 |int _=>obtain⟨t,rfl⟩:=r;rfl
 |str _=>obtain⟨t,rfl⟩:=r;rfl
 |byt _=>obtain⟨t,rfl⟩:=r;rfl
 |flt _=>obtain⟨t,rfl⟩:=r;rfl
 |ref _=>cases r;rfl
 |ty _=>cases r;rfl
theorem RelV.inj(r:RelV x u)(q:RelV y u):x=y:=Option.some.inj (r.abs.symm.trans q.abs)
theorem Vals.inj:∀{xs ys:List V}{us:List Value},Vals xs us->Vals ys us->xs=ys
 |_,_,_,.nil,.nil=>rfl
 |_,_,_,.cons r t,.cons r' t'=>by rw[r.inj r',Vals.inj t t']
section
variable {X:Cx}{s:Shared}{a:Addr}{xs ys:List V}
theorem SqL.of{K:PySem.W.Frag}(h:H a=some (.lst xs)):SqL K H a xs:=.inl (.inl h)
theorem SqT.of{K:PySem.W.Frag}(h:H a=some (.tup xs)):SqT K H a xs:=.inl (.inl h)
theorem Inv.list(I:Inv X pins σ H s)(h:SqL X.K H a xs):∃its:List Value,Vals xs its/\PlainL s.heap a its.toArray/\xs.length<=sizeLine:=by
 rcases h with h|⟨o,its,n,hk,hc,hd,hs,hz,r⟩
 ·obtain⟨z,its,n,r,e⟩:=h.ok I.hok;exact⟨its,r,⟨_,n,e,rfl,rfl,rfl⟩,z⟩
 ·refine⟨its.toList,r,⟨o,n,I.kIn a o hk,hc,hd,by simpa using hs⟩,?_⟩
  have e:=r.length;simp only[Array.length_toList]at e;omega
theorem Inv.tuple(I:Inv X pins σ H s)(h:SqT X.K H a xs):∃its:List Value,Vals xs its/\IsTup s.heap a its.toArray/\xs.length<=sizeLine:=by
 rcases h with h|⟨o,its,n,hk,hc,hs,hz,r⟩
 ·obtain⟨z,its,r,p⟩:=h.ok I.hok;exact⟨its,r,p,z⟩
 ·refine⟨its.toList,r,⟨o,I.kIn a o hk,hc,n,by simpa using hs⟩,?_⟩
  have e:=r.length;simp only[Array.length_toList]at e;omega
theorem Inv.list_inj(I:Inv X pins σ H s)(h:SqL X.K H a xs)(h':SqL X.K H a ys):xs=ys:=by
 obtain⟨its,r,⟨o,n,e,_,_,d⟩,_⟩:=I.list h;obtain⟨its',r',⟨o',n',e',_,_,d'⟩,_⟩:=I.list h';rw[e]at e';cases e';rw[d]at d';injection d' with d1 _
 have:its=its':=by simpa using congrArg Array.toList d1
 subst this;exact r.inj r'
theorem Inv.tuple_inj(I:Inv X pins σ H s)(h:SqT X.K H a xs)(h':SqT X.K H a ys):xs=ys:=by
 obtain⟨its,r,⟨o,e,_,n,d⟩,_⟩:=I.tuple h;obtain⟨its',r',⟨o',e',_,n',d'⟩,_⟩:=I.tuple h';rw[e]at e';cases e';rw[d]at d';injection d' with d1 _
 have:its=its':=by simpa using congrArg Array.toList d1
 subst this;exact r.inj r'
end
noncomputable abbrev Cx.wish(X:Cx)(E:Value->Shared->Prop):Cx:={X with xe:=E}
theorem Cx.Ok.wish{X:Cx}(ok:X.Ok)(E:Value->Shared->Prop):(X.wish E).Ok:=
 ⟨ok.mod,ok.kind,ok.glob,ok.blt,ok.above,ok.inj,ok.has,ok.cab,ok.hd,ok.frames,ok.stk,ok.exf,ok.bs,ok.bsz,ok.noex,ok.exfs,ok.funs,ok.frf⟩
theorem Cx.Ok.unwish{X:Cx}(ok:(X.wish E).Ok):X.Ok:=
 ⟨ok.mod,ok.kind,ok.glob,ok.blt,ok.above,ok.inj,ok.has,ok.cab,ok.hd,ok.frames,ok.stk,ok.exf,ok.bs,ok.bsz,ok.noex,ok.exfs,ok.funs,ok.frf⟩
section
variable {X:Cx}{s:Shared}
theorem Inv.wish(I:Inv X pins σ H s)(E:Value->Shared->Prop):Inv (X.wish E) pins σ H s:=⟨I.ok.wish E,I.os,I.bare,I.base,I.loc,I.cell,I.free,I.freeC,I.pin,I.hok,I.len⟩
theorem Inv.unwish(I:Inv (X.wish E) pins σ H s):Inv X pins σ H s:=⟨I.ok.unwish,I.os,I.bare,I.base,I.loc,I.cell,I.free,I.freeC,I.pin,I.hok,I.len⟩
end
section
variable {X:Cx}{st:Stmt}{rest:List Stmt}{t u:TS}{e:Expr}{te:TE}{pos:Pos}
noncomputable def tNext:TS:=λD σ H=>D.nx σ H
noncomputable def Bf(t u:TS):TS:=λD σ H=>t {D with nx:=u D} σ H
theorem pss_nil:PSs X [] tNext:=λ_ _ σ H _ I h=>wpAny_execs_nil ⟨σ,H,I,h⟩
theorem oH(h1:PS X st t)(h2:PSs X rest u):PSs X (st::rest) (Bf t u):=by
 intro pins s σ H D I h;refine wpAny_execs_cons (thn (h1 pins s σ H {D with nx:=u D} I h) λf s1 q=>?_)
 cases f with
 |next=>
  obtain⟨σ',H',I',q⟩:=q;exact h2 pins s1 σ' H' D I' q
 |ret v=>exact q
 |brk=>exact q
 |cont=>exact q
theorem Inv.quiet(I:Inv X pins σ H s):interactive X.env=false:=by simp[interactive,I.ok.kind]
noncomputable def yB(te:TE):TS:=λD σ H=>te σ H λ_ H1=>D.nx σ H1
theorem l4(he:PE X e te)(hs:swapsWith e none pos.line X.env=pure false:=by rfl):PS X (.Expr e pos) (yB te):=by
 intro pins s σ H D I h;exact wpAny_Expr_any (thn (he pins s σ H _ I h) λv s1 ⟨x,H1,I1,r1,q1⟩=>⟨σ,H1,I1,q1⟩) I.quiet hs
noncomputable def B5(te:TE):TS:=λD σ H=>te σ H D.rt
theorem vg(he:PE X e te):PS X (.Return (some e) pos) (B5 te):=by
 intro pins s σ H D I h;exact wpAny_Return_some (thn (he pins s σ H _ I h) λv s1 ⟨x,H1,I1,r1,q1⟩=>⟨x,σ,H1,I1,r1,q1⟩)
noncomputable def B3(c:TT)(t u:TS):TS:=λD σ H=>c σ H λb H1=>if b=true then t D σ H1 else u D σ H1
theorem yk(hc:PT X c tc)(ha:PSs X a t)(hb:PSs X b u):PS X (.If c a b pos) (B3 tc t u):=by
 intro pins s σ H D I h;refine wpAny_If (thn (hc pins s σ H _ I h) λd s1 ⟨H1,I1,q1⟩=>?_)
 cases d with
 |true=>exact ha pins s1 σ H1 D I1 q1
 |false=>exact hb pins s1 σ H1 D I1 q1
end
noncomputable abbrev TG:=V->St->Hp->(St->Hp->Prop)->Prop
noncomputable abbrev TGs:=List V->St->Hp->(St->Hp->Prop)->Prop
noncomputable def PG(X:Cx)(target:Expr)(t:TG):Prop:=
 ∀(pins:List (Addr×Obj)) (s:Shared)(σ:St)(H:Hp)(v:V)(u:Value)(Q:St->Hp->Prop),Inv X pins σ H s->RelV v u->t v σ H Q->
  wpAny (model X.prog X.w) X.A (assign target X.env u) (λ_ s'=>∃σ' H',Inv X pins σ' H' s'/\Q σ' H') X.xe s
noncomputable def PGs(X:Cx)(ts:List Expr)(t:TGs):Prop:=
 ∀(pins:List (Addr×Obj)) (s:Shared)(σ:St)(H:Hp)(vs:List V)(us:List Value)(Q:St->Hp->Prop),Inv X pins σ H s->Vals vs us->t vs σ H Q->
  wpAny (model X.prog X.w) X.A (assignInOrder ((assignEach ts X.env).map (·.2)) us) (λ_ s'=>∃σ' H',Inv X pins σ' H' s'/\Q σ' H') X.xe s
noncomputable abbrev TSet:=V->V->V->Hp->(Hp->Prop)->Prop
noncomputable def vd(X:Cx)(t:TSet):Prop:=
 ∀(pins:List (Addr×Obj)) (s:Shared)(σ:St)(H:Hp)(o i v:V)(ov iv u:Value)(Q:Hp->Prop),Inv X pins σ H s->RelV o ov->RelV i iv->RelV v u->t o i v H Q->
  wpAny (model X.prog X.w) X.A (setItem ov iv u) (λ_ s'=>∃H',Inv X pins σ H' s'/\Q H') X.xe s
section
variable {X:Cx}{pos:Pos}
noncomputable def l8(i:Nat):TG:=λv σ H Q=>Q (σ.set i (some v)) H
theorem fG(hN:X.N.Nodup)(hi:X.N[i]?=some x)(hx:Loc X.env.scope x)(hf:X.fn x=true\/X.env.scope.names.lookup x=some .local:=by first|exact .inl rfl|exact .inr rfl|assumption):PG X (.Name x pos) (l8 i):=by
 intro pins s σ H v u Q I r h;exact wpAny_assign_Name (gW I hN hi hx r (λs' I'=>⟨_,H,I',h⟩) hf)
noncomputable def gNil:TGs:=λvs σ H Q=>vs=[]/\Q σ H
noncomputable def ya(t:TG)(u:TGs):TGs:=λvs σ H Q=>∃v r,vs=v::r/\t v σ H λσ' H'=>u r σ' H' Q
theorem qe:PGs X [] gNil:=by
 intro pins s σ H vs us Q I r h;obtain⟨e,h⟩:=h;subst e;cases r;exact assignInOrder_nil ⟨σ,H,I,h⟩
theorem ph(h1:PG X e t)(h2:PGs X es u)
  (hs:(assignEach (e::es) X.env).map (·.2)=assign e X.env::(assignEach es X.env).map (·.2):=by rfl):PGs X (e::es) (ya t u):=by
 intro pins s σ H vs us Q I r h;obtain⟨v,vr,e1,h⟩:=h;subst e1;cases r with
 |cons r rr=>
  rw[hs];refine assignInOrder_cons (thn (h1 pins s σ H _ _ _ I r h) λ_ s1 ⟨σ1,H1,I1,q1⟩=>?_)
  exact h2 pins s1 σ1 H1 _ _ Q I1 rr q1
noncomputable def B0(K:PySem.W.Frag)(n:Nat)(t:TGs):TG:=λv σ H Q=>∃a xs,v=.ref a/\SqT K H a xs/\xs.length=n/\t xs σ H Q
theorem uh(hc:X.calm=true)(h:PGs X es t)
  (hn:(assignEach es X.env).length=n:=by rfl) (hst:(assignEach es X.env).findIdx? (·.1)=none:=by rfl):PG X (.Tuple es k pos) (B0 X.K n t):=by
 intro pins s σ H v u Q I r hw;obtain⟨a,xs,e1,hq,hl,hw⟩:=hw;subst e1;cases r;obtain⟨its,rv,ht,hz⟩:=I.tuple hq;refine assign_Tuple_tuple (I.ok.hd hc) ht (by simp[hn,<-hl,rv.length]) hst λh' hx=>?_
 have I1:Inv X pins σ H {s with heap:=h'}:=I.kept (t':=s.toks) λb o e=>hx b o (Nat.ne_of_lt (Heap.lt_size e)) e
 exact h pins _ σ H xs _ Q I1 (by simpa using rv) hw
noncomputable def Cy(to ti:TE)(t:TSet):TG:=λv σ H Q=>to σ H λo H1=>ti σ H1 λi H2=>t o i v H2 λH3=>Q σ H3
theorem tJ(ho:PE X o to)(hi:PE X i ti)(hs:vd X t)
  (ha:∀v,assign (.Subscript o i pos) X.env v=(do
   let ov<-holding [v] (eval o X.env)
   let iv<-holding [v,ov] (eval i X.env)
   standAt pos
   holding [v,ov,iv] (setItem ov iv v)
   release [v,ov,iv] []):=by intro _;rfl):PG X (.Subscript o i pos) (Cy to ti t):=by
 intro pins s σ H v u Q I r h;rw[ha];refine wpAny_bind (wpAny_holding (thn (ho pins s σ H _ I h) λov s1 ⟨x,H1,I1,r1,q1⟩=>?_))
 refine wpAny_bind (wpAny_holding (thn (hi pins s1 σ H1 _ I1 q1) λiv s2 ⟨y,H2,I2,r2,q2⟩=>?_))
 refine wpAny_bind (wpAny_standAt (wpAny_bind (wpAny_holding (thn (hs pins s2 σ H2 x y v ov iv u _ I2 r1 r2 r q2) λ_ s3 ⟨H3,I3,q3⟩=>?_))))
 exact wpAny_release ⟨σ,H3,I3,q3⟩
noncomputable def uH(te:TE)(g:TG):TS:=λD σ H=>te σ H λx H1=>g x σ H1 D.nx
theorem uu(he:PE X e te)(hg:PG X tg g)(hs:swapsWithSole [tg] e pos.line X.env=pure false:=by rfl)(hw:swappedStores [tg] e X.env=pure none:=by rfl)
  (h1:(assignEach [tg] X.env).map (·.2)=[assign tg X.env]:=by rfl):PS X (.Assign [tg] e pos) (uH te g):=by
 intro pins s σ H D I h;refine wpAny_Assign_stores (thn (he pins s σ H _ I h) λv s1 ⟨x,H1,I1,r1,q1⟩=>?_) hs hw
 rw[h1];exact thn (hg pins s1 σ H1 x v _ I1 r1 q1) λ_ s2 q=>q
theorem uf(hN:X.N.Nodup)(hi:X.N[i]?=some x)(hx:Loc X.env.scope x)(he:PE X e te)(hs:swapsWith e (some (.Name x pos')) pos.line X.env=pure false:=by rfl)(hf:X.fn x=true\/X.env.scope.names.lookup x=some .local:=by first|exact .inl rfl|exact .inr rfl|assumption) :
  PS X (.Assign [.Name x pos'] e pos) (uH te (l8 i)):=by
 intro pins s σ H D I h;refine wpAny_Assign_Name (thn (he pins s σ H _ I h) λv s1 ⟨y,H1,I1,r1,q1⟩=>?_) hs
 exact gW I1 hN hi hx r1 (λs2 I2=>⟨_,H1,I2,q1⟩) hf
end
section
variable {X:Cx}{pos:Pos}
end
structure It where
 go:Nat->Hp->Prop
 yld:Nat->Hp->V->Hp->Prop
 stop:Nat->Hp->Prop
noncomputable def gI(X:Cx)(pins:List (Addr×Obj))(H:Hp)(b:Addr):Prop:=
 H b=none/\b≠X.env.locals/\b∉X.fs/\(b∈X.ex\/X.s₀.heap.objs.size<=b)/\(∀x c,X.env.cells.lookup x=some c->c≠b)/\∀p∈X.pn++pins,p.1≠b
theorem Inv.fpOk{s:Shared}(I:Inv X pins σ H s)(hb:s.heap.objs.size<=b)(hn:H' b=none):gI X pins H' b:=by
 refine⟨hn,Nat.ne_of_gt (Nat.lt_of_lt_of_le I.lt hb),I.nofs hb,.inr (Nat.le_trans I.sz hb),λx c e z=>?_,λp hp z=>?_⟩
 ·obtain⟨v,q⟩:=I.cell x c e;exact absurd (Nat.lt_of_lt_of_le q.lt (by rw[z];exact hb)) (Nat.lt_irrefl _)
 ·exact absurd (Nat.lt_of_lt_of_le (Heap.lt_size (I.pin p hp).1) (by rw[z];exact hb)) (Nat.lt_irrefl _)
structure Turn (P:Program)(w:World)(K:PySem.W.Frag)(tg:Expr)(J:It)(fp:List Addr)(it:Addr)(tn:Nat->Heap->Prop):Prop where
 mem:it∈fp
 obj:∀i h,tn i h->∀b∈fp,∃o,h.get? b=some o/\∀v,o.data≠.cell v
 keep:∀i h h',tn i h->(∀b∈fp,∀o,h.get? b=some o->h'.get? b=some o)->tn i h'
 item:∀(X:Cx),X.prog=P->X.w=w->X.K=K->X.calm=true->∀(i:Nat) (pins:List (Addr×Obj)) (s:Shared)(σ:St)(H:Hp)(E:Value->Shared->Prop),Inv X pins σ H s->(∀b∈fp,gI X pins H b)->tn i s.heap->J.go i H->
  wpAny (model P w) X.A (pyNext (.ref it)) (λr s1=>∃u,r=some u/\
   wpAny (model P w) X.A (letOwnedTupleGo tg (.ref it) u) (λ_ s2=>∃x H',Inv X pins σ H' s2/\RelV x u/\J.yld i H x H'/\tn (i+1) s2.heap/\∀b∈fp,H' b=none) E s1) E s
 done:∀(X:Cx),X.prog=P->X.w=w->X.K=K->X.calm=true->∀(i:Nat) (pins:List (Addr×Obj)) (s:Shared)(σ:St)(H:Hp)(E:Value->Shared->Prop),Inv X pins σ H s->(∀b∈fp,gI X pins H b)->tn i s.heap->J.stop i H->
  wpAny (model P w) X.A (pyNext (.ref it)) (λr s1=>r=none/\Inv X pins σ H s1) E s
 self:∀(A:Around)(i:Nat)(s:Shared)(Q:Value->Shared->Prop)(E:Value->Shared->Prop),tn i s.heap->Q (.ref it) s->wpAny (model P w) A (pyIter (.ref it)) Q E s
noncomputable abbrev TI:=St->Hp->(It->Hp->Prop)->Prop
noncomputable def PIE(X:Cx)(pins:List (Addr×Obj))(σ:St)(tg:Expr)(R:It->Hp->Prop)(itv:Value)(s2:Shared):Prop:=
 ∃(it:Addr)(fp:List Addr)(tn:Nat->Heap->Prop)(J:It)(H':Hp),itv=.ref it/\Inv X pins σ H' s2/\Turn X.prog X.w X.K tg J fp it tn/\tn 0 s2.heap/\(∀b∈fp,gI X pins H' b)/\R J H'
noncomputable def PI(X:Cx)(tg iter:Expr)(wi:TI):Prop:=
 ∀(pins:List (Addr×Obj)) (s:Shared)(σ:St)(H:Hp)(R:It->Hp->Prop),Inv X pins σ H s->wi σ H R->
  wpAny (model X.prog X.w) X.A (eval iter X.env) (λv s1=>wpAny (model X.prog X.w) X.A (pyIter v) (PIE X pins σ tg R) X.xe s1) X.xe s
theorem oD {s : Shared} {o : Obj} (ho : s.heap.get? it = some o) (hc : o.cls = .type n) (hd : o.data = .fields vs)
    (hn : ["enumerate", "zip", "dict_itemiterator", "dict_reverseitemiterator", "odict_iterator", "itertools.zip_longest", "itertools.pairwise"].contains n = false) (hQ : Q () s) : wpAny M A (letOwnedTupleGo tg (.ref it) u) Q E s := by
  unfold letOwnedTupleGo;cases tg <;> first
    | exact wpAny_pure hQ
    | (cases u <;> first
        | exact wpAny_pure hQ
        | (refine wpAny_bind (wpAny_load ho ?_)
           rw [hc, hd];show wpAny M A (if (["enumerate", "zip", "dict_itemiterator", "dict_reverseitemiterator", "odict_iterator", "itertools.zip_longest", "itertools.pairwise"].contains n && vs[0]? == some (rawInt _)) = true then _ else _) Q E s
           rw [if_neg (by intro h; rw [hn, Bool.false_and] at h; cases h)]
           exact wpAny_pure hQ))
noncomputable def Itl(K:PySem.W.Frag)(a:Addr):It:=
 ⟨λi H=>∃xs x,SqL K H a xs/\xs[i]?=some x,λi H x H'=>H'=H/\∀xs,SqL K H a xs->xs[i]?=some x,λi H=>∃xs,SqL K H a xs/\xs.length<=i⟩
noncomputable def Itt(K:PySem.W.Frag)(a:Addr):It:=
 ⟨λi H=>∃xs x,SqT K H a xs/\xs[i]?=some x,λi H x H'=>H'=H/\∀xs,SqT K H a xs->xs[i]?=some x,λi H=>∃xs,SqT K H a xs/\xs.length<=i⟩
theorem mU{K:PySem.W.Frag}(a it:Addr):Turn P w K tg (Itl K a) [it] it (λi h=>h.IsListIter it a i) where
 mem:=by simp
 obj:=λi h st b hb=>by
  have e:b=it:=by simpa using hb
  subst e;obtain⟨o,e,c,d⟩:=st;exact⟨o,e,λv z=>by rw[d]at z;cases z⟩
 keep:=λi h h' st k=>st.at λo e=>k it (by simp) o e
 item:=by
  intro X hP hw hK hc i pins s σ H E I hf st hg;subst hP hw hK;obtain⟨xs,x,hq,hx⟩:=hg;obtain⟨its,rv,p,hz⟩:=I.list hq;obtain⟨u,hu,ru⟩:=rv.get hx;obtain⟨f0,f1,f2,f3,f4,f5⟩:=hf it (by simp)
  refine wpAny_pyNext_list_item st p.isList (x:=u) (by simpa using hu) λh' st' sb=>?_
  have I1:Inv X pins σ H {s with heap:=h'}:=I.turned (t':=s.toks) (λb o hb e=>(sb.2 b hb).trans e) f0 f1 f3 f4 f5
  obtain⟨o,e,c,d⟩:=id st';exact⟨u,rfl,oD (s:={s with heap:=h'}) e c d (by decide) ⟨x,H,I1,ru,⟨rfl,λys hy=>by rw[I.list_inj hy hq];exact hx⟩,st',λb hb=>(hf b hb).1⟩⟩
 done:=by
  intro X hP hw hK hc i pins s σ H E I hf st hg;subst hP hw hK;obtain⟨xs,hq,hx⟩:=hg;obtain⟨its,rv,p,hz⟩:=I.list hq;obtain⟨f0,f1,f2,f3,f4,f5⟩:=hf it (by simp)
  have hl:=rv.length;exact wpAny_pyNext_list_end (I.ok.hd hc) st p.isList (by simp;omega) λh' eb=>⟨rfl,I.turned (t':=s.toks) (λb o hb e=>eb b o hb e) f0 f1 f3 f4 f5⟩
 self:=λ_ _ _ _ _ st h=>wpAny_pyIter_listiter st h
theorem lr{K:PySem.W.Frag}(a it:Addr):Turn P w K tg (Itt K a) [it] it (λi h=>h.IsTupleIter it a i) where
 mem:=by simp
 obj:=λi h st b hb=>by
  have e:b=it:=by simpa using hb
  subst e;obtain⟨o,e,c,d⟩:=st;exact⟨o,e,λv z=>by rw[d]at z;cases z⟩
 keep:=λi h h' st k=>st.at λo e=>k it (by simp) o e
 item:=by
  intro X hP hw hK hc i pins s σ H E I hf st hg;subst hP hw hK;obtain⟨xs,x,hq,hx⟩:=hg;obtain⟨its,rv,p,hz⟩:=I.tuple hq;obtain⟨u,hu,ru⟩:=rv.get hx;obtain⟨f0,f1,f2,f3,f4,f5⟩:=hf it (by simp)
  refine wpAny_pyNext_tuple_item st (show s.heap.IsTuple a its.toArray from p) (x:=u) (by simpa using hu) λh' st' sb=>?_
  have I1:Inv X pins σ H {s with heap:=h'}:=I.turned (t':=s.toks) (λb o hb e=>(sb.2 b hb).trans e) f0 f1 f3 f4 f5
  obtain⟨o,e,c,d⟩:=id st';exact⟨u,rfl,oD (s:={s with heap:=h'}) e c d (by decide) ⟨x,H,I1,ru,⟨rfl,λys hy=>by rw[I.tuple_inj hy hq];exact hx⟩,st',λb hb=>(hf b hb).1⟩⟩
 done:=by
  intro X hP hw hK hc i pins s σ H E I hf st hg;subst hP hw hK;obtain⟨xs,hq,hx⟩:=hg;obtain⟨its,rv,p,hz⟩:=I.tuple hq;obtain⟨f0,f1,f2,f3,f4,f5⟩:=hf it (by simp)
  have hl:=rv.length;exact wpAny_pyNext_tuple_end (I.ok.hd hc) st (show s.heap.IsTuple a its.toArray from p) (by simp;omega) λh' eb=>⟨rfl,I.turned (t':=s.toks) (λb o hb e=>eb b o hb e) f0 f1 f3 f4 f5⟩
 self:=λ_ _ _ _ _ st h=>wpAny_pyIter_tupleiter st h
end L2
namespace L2
open PySem PySem.Spec PyProof.Rows
section
variable {X:Cx}
noncomputable def CM(wi:TI)(g:TG)(tb:TS):TS:=λD σ H=>wi σ H λJ H1=>∃W:Nat->Nat->St->Hp->Prop,(∃m,W 0 m σ H1)/\∀i m σ H,W i m σ H->
 (J.stop i H/\D.nx σ H)\/(J.go i H/\∃N:St->Hp->Prop,(∀σ' H',N σ' H'->∃m',m' < m/\W (i+1) m' σ' H')/\∀x H',J.yld i H x H'->g x σ H' λσ2 H2=>tb {D with nx:=N,ct:=N,bk:=D.nx} σ2 H2)
noncomputable def gf(fp:List Addr)(h:Heap):List (Addr×Obj):=fp.filterMap λb=>(h.get? b).map λo=>(b,o)
theorem cq{h:Heap}(hb:b∈fp)(e:h.get? b=some o):(b,o)∈gf fp h:=List.mem_filterMap.mpr ⟨b,hb,by rw[e];rfl⟩
theorem mH{h:Heap}{p:Addr×Obj}(hp:p∈gf fp h):p.1∈fp/\h.get? p.1=some p.2:=by
 obtain⟨b,hb,e⟩:=List.mem_filterMap.mp hp;cases q:h.get? b with
 |none=>rw[q]at e;cases e
 |some o=>
  rw[q]at e;have e':(b,o)=p:=Option.some.inj e;subst e';exact⟨hb,q⟩
theorem Inv.pinned{s:Shared}(I:Inv X pins σ H s)(hf:∀b∈fp,gI X pins H b)(ho:∀b∈fp,∃o,s.heap.get? b=some o/\∀v,o.data≠.cell v):Inv X (pins++gf fp s.heap) σ H s:=
 I.pins_of λp hp=>(List.mem_append.mp hp).elim (λz=>I.pin p (List.mem_append_right _ z)) λz=>by
  obtain⟨hb,e⟩:=mH z;obtain⟨f0,f1,f2,_⟩:=hf p.1 hb;obtain⟨o,e',d⟩:=ho p.1 hb;rw[e]at e';cases e';exact⟨e,f0,f1,f2,d⟩
theorem Inv.unpinned(I:Inv X (pins++pl) σ H s):Inv X pins σ H s:=I.pins_of λp hp=>I.pin p (List.mem_append_right _ (List.mem_append_left _ hp))
theorem sU(hp:PassesOwn (model X.prog X.w) X.A X.env X.xe)(hc:X.calm=true)(hi:PI X tg iter wi)(hg:PG X tg g)(hb:PSs X body tb)
  (hs:∀x,foldedSetIterable iter X.env x=pure x:=by intro _;rfl):PS X (.For tg iter body [] pos) (CM wi g tb):=by
 intro pins s σ H D I h;refine wpAny_For (thn (hi pins s σ H _ I h) λv s1 h1=>thn h1 λitv s2 h2=>?_) hs
 obtain⟨it,fp,tn,J,H2,e,I2,T,st2,f2,W,⟨m0,w0⟩,kL⟩:=h2;subst e;have stat:∀{H':Hp},(∀b∈fp,H' b=none)->∀b∈fp,gI X pins H' b:=λhn b hb=>⟨hn b hb,(f2 b hb).2⟩
 refine codeAny_forLoop_any (λn s'=>∃i σ' H',Inv X pins σ' H' s'/\tn i s'.heap/\(∀b∈fp,H' b=none)/\W i n σ' H') ?_ m0 ⟨0,σ,H2,I2,st2,λb hb=>(f2 b hb).1,w0⟩
 rintro n s3 ⟨i,σ3,H3,I3,st3,fr3,w3⟩;rcases kL i n σ3 H3 w3 with ⟨stop,qn⟩|⟨go,N,hN,step⟩
 ·refine wpAny_passesOwn hp (thn (T.done X rfl rfl rfl hc i pins s3 σ3 H3 X.xe I3 (stat fr3) st3 stop) λr s4 ⟨hr,I4⟩=>?_)
  subst hr;exact wpAny_execs_nil ⟨σ3,H3,I4,qn⟩
 ·refine wpAny_passesOwn hp (thn (T.item X rfl rfl rfl hc i pins s3 σ3 H3 X.xe I3 (stat fr3) st3 go) λr s4 ⟨u,hr,h4⟩=>?_)
  subst hr;refine wpAny_passesOwn hp (thn h4 λ_ s5 ⟨x,H5,I5,r5,y5,st5,fr5⟩=>?_)
  have I5':=I5.pinned (stat fr5) (T.obj _ _ st5);refine wpAny_passesOwn hp (thn (hg _ s5 σ3 H5 x u _ I5' r5 (step x H5 y5)) λ_ s6 ⟨σ6,H6,I6,q6⟩=>?_)
  refine wpAny_passesOwn hp (thn (hb _ s6 σ6 H6 _ I6 q6) λf s7 q7=>?_)
  have again:∀{σ7:St}{H7:Hp},Inv X (pins++gf fp s5.heap) σ7 H7 s7->N σ7 H7->∃m,m < n/\∃i σ' H',Inv X pins σ' H' s7/\tn i s7.heap/\(∀b∈fp,H' b=none)/\W i m σ' H':=λ{σ7 H7} I7 n7=>by
   obtain⟨m',hm,w7⟩:=hN σ7 H7 n7;refine⟨m',hm,i+1,σ7,H7,I7.unpinned,T.keep _ _ _ st5 λb hb o e=>(I7.pin (b,o) (List.mem_append_right _ (List.mem_append_right _ (cq hb e)))).1,λb hb=>?_,w7⟩
   obtain⟨o,e,d⟩:=T.obj _ _ st5 b hb;exact (I7.pin (b,o) (List.mem_append_right _ (List.mem_append_right _ (cq hb e)))).2.1
  cases f with
  |next=>obtain⟨σ7,H7,I7,n7⟩:=q7;exact again I7 n7
  |cont=>obtain⟨σ7,H7,I7,n7⟩:=q7;exact again I7 n7
  |brk=>obtain⟨σ7,H7,I7,q7⟩:=q7;exact⟨σ7,H7,I7.unpinned,q7⟩
  |ret v=>obtain⟨x7,σ7,H7,I7,r7,q7⟩:=q7;exact⟨x7,σ7,H7,I7.unpinned,r7,q7⟩
end
end L2
namespace L2
open PySem PySem.Spec PyProof.Rows
noncomputable abbrev R2:=V->V->Hp->VK->Prop
noncomputable def OpR(X:Cx)(f:Value->Value->Sem Value)(r:R2):Prop:=
 ∀(pins:List (Addr×Obj)) (s:Shared)(σ:St)(H:Hp)(x y:V)(v u:Value)(Q:VK),Inv X pins σ H s->RelV x v->RelV y u->r x y H Q->
  wpAny (model X.prog X.w) X.A (f v u) (EP X pins σ Q) X.xe s
noncomputable def UnR(X:Cx)(f:Value->Sem Value)(r:V->Hp->VK->Prop):Prop:=
 ∀(pins:List (Addr×Obj)) (s:Shared)(σ:St)(H:Hp)(x:V)(v:Value)(Q:VK),Inv X pins σ H s->RelV x v->r x H Q->
  wpAny (model X.prog X.w) X.A (f v) (EP X pins σ Q) X.xe s
noncomputable def CallR(X:Cx)(f:Value)(r:List V->Hp->VK->Prop):Prop:=
 ∀(pins:List (Addr×Obj)) (s:Shared)(σ:St)(H:Hp)(xs:List V)(us:List Value)(Q:VK),Inv X pins σ H s->Vals xs us->r xs H Q->
  wpAny (model X.prog X.w) X.A (call f us) (EP X pins σ Q) X.xe s
noncomputable def tOp(r:R2)(ta tb:TE):TE:=λσ H Q=>ta σ H λx H1=>tb σ H1 λy H2=>r x y H2 Q
noncomputable def tUn(r:V->Hp->VK->Prop)(ta:TE):TE:=λσ H Q=>ta σ H λx H1=>r x H1 Q
noncomputable def rI(C:Int->Int->Prop)(g:Int->Int->V):R2:=λx y H Q=>∃i j,x=.int i/\y=.int j/\C i j/\Q (g i j) H
noncomputable def rI0(g:Int->Int->V):R2:=λx y H Q=>∃i j,x=.int i/\y=.int j/\Q (g i j) H
noncomputable def rU(g:Int->V):V->Hp->VK->Prop:=λx H Q=>∃i,x=.int i/\Q (g i) H
section
variable {X:Cx}{a b c:Expr}{ta tb tc:TE}{pos:Pos}
theorem tI(ha:PE X a ta)(hb:PE X b tb){pins:List (Addr×Obj)}{s:Shared}{σ:St}{H:Hp}{R:V->V->Hp->Prop}(I:Inv X pins σ H s)
  (h:ta σ H λx H1=>tb σ H1 λy H2=>R x y H2) {Q:Value->Shared->Prop}{f:Value->Value->Sem Value}
  (hf:∀v u s2 x y H2,Inv X pins σ H2 s2->RelV x v->RelV y u->R x y H2->wpAny (model X.prog X.w) X.A (f v u) Q X.xe s2) :
  wpAny (model X.prog X.w) X.A (eval a X.env) (λv s₁=>wpAny (model X.prog X.w) X.A (eval b X.env) (λu s₂=>wpAny (model X.prog X.w) X.A (f v u) Q X.xe s₂) X.xe s₁) X.xe s:=by
 refine thn (ha pins s σ H _ I h) λv s1 ⟨x,H1,I1,r1,q1⟩=>?_
 refine thn (hb pins s1 σ H1 _ I1 q1) λu s2 ⟨y,H2,I2,r2,q2⟩=>?_
 exact hf v u s2 x y H2 I2 r1 r2 q2
theorem yF{op:Operator}{r:R2}(ho:OpR X (binaryOp op) r)(ha:PE X a ta)(hb:PE X b tb):PE X (.BinOp a op b pos) (tOp r ta tb):=by
 intro pins s σ H Q I h;exact wpAny_BinOp (tI ha hb I h λv u s2 x y H2 I2 rx ry q=>ho pins s2 σ H2 x y v u Q I2 rx ry q)
theorem wo(ho:UnR X (unaryOp op) r)(ha:PE X a ta):PE X (.UnaryOp op a pos) (tUn r ta):=by
 intro pins s σ H Q I h;exact UnaryOp_ (thn (ha pins s σ H _ I h) λv s1 ⟨x,H1,I1,r1,q1⟩=>ho pins s1 σ H1 x v Q I1 r1 q1)
theorem opI{f:Value->Value->Sem Value}{C:Int->Int->Prop}{g:Int->Int->Int}
  (rule:∀(i j:Int)(t u:Tok)(s:Shared)(Q:Value->Shared->Prop)(E:Value->Shared->Prop),C i j->Q (.int (g i j) s.toks) {s with toks:=s.toks+1}->wpAny (model X.prog X.w) X.A (f (.int i t) (.int j u)) Q E s) :
  OpR X f (rI C λi j=>.int (g i j)):=by
 intro pins s σ H x y v u Q I rx ry h;obtain⟨i,j,rfl,rfl,hc,q⟩:=h;obtain⟨t,rfl⟩:=rx;obtain⟨t',rfl⟩:=ry;exact rule i j t t' s _ _ hc ⟨.int (g i j),H,I.tok _,⟨_,rfl⟩,q⟩
theorem u8{f:Value->Value->Sem Value}{g:Int->Int->Int}
  (rule:∀(i j:Int)(t u:Tok)(s:Shared)(Q:Value->Shared->Prop)(E:Value->Shared->Prop),Q (.int (g i j) s.toks) {s with toks:=s.toks+1}->wpAny (model X.prog X.w) X.A (f (.int i t) (.int j u)) Q E s) :
  OpR X f (rI0 λi j=>.int (g i j)):=by
 intro pins s σ H x y v u Q I rx ry h;obtain⟨i,j,rfl,rfl,q⟩:=h;obtain⟨t,rfl⟩:=rx;obtain⟨t',rfl⟩:=ry;exact rule i j t t' s _ _ ⟨.int (g i j),H,I.tok _,⟨_,rfl⟩,q⟩
theorem qS{f:Value->Value->Sem Value}{g:Int->Int->Bool}
  (rule:∀(i j:Int)(t u:Tok)(s:Shared)(Q:Value->Shared->Prop)(E:Value->Shared->Prop),Q (.bool (g i j)) s->wpAny (model X.prog X.w) X.A (f (.int i t) (.int j u)) Q E s) :
  OpR X f (rI0 λi j=>.bl (g i j)):=by
 intro pins s σ H x y v u Q I rx ry h;obtain⟨i,j,rfl,rfl,q⟩:=h;obtain⟨t,rfl⟩:=rx;obtain⟨t',rfl⟩:=ry;exact rule i j t t' s _ _ ⟨.bl (g i j),H,I,rfl,q⟩
noncomputable def pv(i j:Int):Prop:=0<=j/\j<=1000000/\i.natAbs < 2 ^ 64
theorem lH(k:Nat):(0:Int)<=2 ^ k:=by
 rw[two_pow_cast];exact Int.natCast_nonneg _
theorem tq:OpR X (binaryOp .Add) (rI0 λi j=>.int (i+j)):=u8 λ_ _ _ _ _ _ _ q=>add_int q
theorem uG:OpR X (binaryOp .Sub) (rI0 λi j=>.int (i - j)):=u8 λ_ _ _ _ _ _ _ q=>sub_int q
theorem sR:OpR X (binaryOp .Mod) (rI (λ_ j=>0 < j) λi j=>.int (i % j)):=opI λi j _ _ _ _ _ hc q=>by
 have h1:(0:Int) < j:=hc;exact mod_int' (by omega) (by rw[Int.fmod_eq_emod_of_nonneg i (by omega)];exact q)
theorem tR:OpR X (binaryOp .Pow) (rI pv λi j=>.int (i ^ j.toNat)):=opI λ_ _ _ _ _ _ _ hc q=>pow_int_small hc.1 hc.2.1 hc.2.2 q
theorem u0:OpR X (binaryOp .RShift) (rI (λ_ j=>0<=j) λi j=>.int (i / 2 ^ j.toNat)):=opI λi j _ _ _ _ _ hc q=>
 rshift_int hc (by rw[Int.fdiv_eq_ediv_of_nonneg i (lH _)];exact q)
theorem uL:OpR X (binaryOp .BitAnd) (rI0 λi j=>.int (Builtin.bitAnd i j)):=u8 λ_ _ _ _ _ _ _ q=>and_int q
theorem unI{f:Value->Sem Value}{g:Int->Int}
  (rule:∀(i:Int)(t:Tok)(s:Shared)(Q:Value->Shared->Prop)(E:Value->Shared->Prop),Q (.int (g i) s.toks) {s with toks:=s.toks+1}->wpAny (model X.prog X.w) X.A (f (.int i t)) Q E s) :
  UnR X f (rU λi=>.int (g i)):=by
 intro pins s σ H x v Q I rx h;obtain⟨i,rfl,q⟩:=h;obtain⟨t,rfl⟩:=rx;exact rule i t s _ _ ⟨.int (g i),H,I.tok _,⟨_,rfl⟩,q⟩
theorem vp:UnR X (unaryOp .USub) (rU λi=>.int (-i)):=unI λ_ _ _ _ _ q=>neg_int q
end
section
variable {X:Cx}{a b c:Expr}{ta tb tc:TE}{pos:Pos}
theorem jo(I:Inv X pins σ H s)(q:Q (.bl k) H)(e:k=k'):EP X pins σ Q (.bool k') s:=by
 subst e;exact⟨.bl k,H,I,rfl,q⟩
theorem xt:OpR X (compareOp .Lt) (rI0 λi j=>.bl (decide (i < j))):=qS λ_ _ _ _ _ _ _ q=>lt_int q
theorem wv:OpR X (compareOp .LtE) (rI0 λi j=>.bl (decide (i<=j))):=qS λ_ _ _ _ _ _ _ q=>le_int q
theorem yb:OpR X (compareOp .Gt) (rI0 λi j=>.bl (decide (j < i))):=qS λ_ _ _ _ _ _ _ q=>gt_int q
theorem yA:OpR X (compareOp .GtE) (rI0 λi j=>.bl (decide (j<=i))):=qS λ_ _ _ _ _ _ _ q=>ge_int q
theorem nn:OpR X (compareOp .In) (λx y H Q=>∃i j,x=.str i/\y=.str j/\Q (.bl (!(Builtin.Str.occurrences j i 0 j.length 1).isEmpty)) H):=by
 intro pins s σ H x y v u Q I rx ry h;obtain⟨i,j,rfl,rfl,q⟩:=h;obtain⟨t,rfl⟩:=rx;obtain⟨t',rfl⟩:=ry;exact in_str (jo I q rfl)
theorem uD:OpR X (compareOp .Is) (λx y H Q=>y=.non/\Q (.bl (decide (x=.non))) H):=by
 intro pins s σ H x y v u Q I rx ry h;obtain⟨rfl,q⟩:=h;cases ry;refine is_none_gen (jo I q ?_);cases x<;>first
  |(cases rx;rfl)
  |(obtain⟨t,rfl⟩:=rx;rfl)
theorem qv:OpR X (compareOp .IsNot) (λx y H Q=>y=.non/\Q (.bl (!decide (x=.non))) H):=by
 intro pins s σ H x y v u Q I rx ry h;obtain⟨rfl,q⟩:=h;cases ry;refine isnot_none_gen (jo I q ?_);cases x<;>first
  |(cases rx;rfl)
  |(obtain⟨t,rfl⟩:=rx;rfl)
theorem jl:OpR X (compareOp .NotIn) (λx y H Q=>∃i j,x=.str i/\y=.str j/\Q (.bl (!(!(Builtin.Str.occurrences j i 0 j.length 1).isEmpty))) H):=by
 intro pins s σ H x y v u Q I rx ry h;obtain⟨i,j,rfl,rfl,q⟩:=h;obtain⟨t,rfl⟩:=rx;obtain⟨t',rfl⟩:=ry;exact notIn_str (jo I q rfl)
theorem OpR.or(h:OpR X f r)(h':OpR X f r'):OpR X f (λx y H Q=>r x y H Q\/r' x y H Q):=by
 intro pins s σ H x y v u Q I rx ry q;rcases q with q|q
 ·exact h pins s σ H x y v u Q I rx ry q
 ·exact h' pins s σ H x y v u Q I rx ry q
theorem qO{op:CmpOp}{r:R2}(ho:OpR X (compareOp op) r)(ha:PE X a ta)(hb:PE X b tb)(hm:behindInMarks op b=false):PE X (.Compare a [op] [b] pos) (tOp r ta tb):=by
 intro pins s σ H Q I h;exact wpAny_Compare1 (tI ha hb I h λv u s2 x y H2 I2 rx ry q=>ho pins s2 σ H2 x y v u Q I2 rx ry q) hm
noncomputable def nZ(t:TE):TT:=λσ H Q=>t σ H λx H'=>∃k,x=.bl k/\Q k H'
theorem rN(ho:OpR X (compareOp op) r)(ha:PE X a ta)(hb:PE X b tb)(hm:behindInMarks op b=false):PT X (.Compare a [op] [b] pos) (nZ (tOp r ta tb)):=by
 intro pins s σ H Q I h;refine wpAny_isTrue_Compare1 (thn (ha pins s σ H _ I h) λv s1 ⟨x,H1,I1,r1,q1⟩=>thn (hb pins s1 σ H1 _ I1 q1) λu s2 ⟨y,H2,I2,r2,q2⟩=>
  thn (ho pins s2 σ H2 x y v u _ I2 r1 r2 q2) λc s3 ⟨z,H3,I3,r3,k,e,q3⟩=>?_) hm
 subst e;cases r3;exact wpAny_truthy_bool ⟨H3,I3,q3⟩
noncomputable def pM(r r':R2)(ta tb tc:TE):TE:=λσ H Q=>ta σ H λx H1=>tb σ H1 λy H2=>r x y H2 λz H3=>∃k,z=.bl k/\
 (if k=true then tc σ H3 λw' H4=>r' y w' H4 Q else Q (.bl false) H3)
theorem pQ(ho:OpR X (compareOp op) r)(ho':OpR X (compareOp op') r')(ha:PE X a ta)(hb:PE X b tb)(hc:PE X c tc)
  (hm:lastMarks [op,op'] [b,c]=false:=by with_unfolding_all rfl):PE X (.Compare a [op,op'] [b,c] pos) (pM r r' ta tb tc):=by
 intro pins s σ H Q I h;refine Compare_chain (thn (ha pins s σ H _ I h) λv s1 ⟨x,H1,I1,r1,q1⟩=>chain_link (thn (hb pins s1 σ H1 _ I1 q1) λu s2 ⟨y,H2,I2,r2,q2⟩=>
  thn (ho pins s2 σ H2 x y v u _ I2 r1 r2 q2) λd s3 ⟨z,H3,I3,r3,k,e,q3⟩=>?_)) hm
 subst e;cases r3;refine wpAny_truthy_bool ?_;cases k with
 |false=>exact ite_ff ⟨.bl false,H3,I3,rfl,q3⟩
 |true=>exact ite_tt (chain_last (thn (hc pins s3 σ H3 _ I3 q3) λw' s4 ⟨z',H4,I4,r4,q4⟩=>ho' pins s4 σ H4 y z' u w' Q I4 r2 r4 q4))
theorem oP(ho:OpR X (compareOp op) r)(ho':OpR X (compareOp op') r')(ha:PE X a ta)(hb:PE X b tb)(hc:PE X c tc)
  (hm:lastMarks [op,op'] [b,c]=false:=by with_unfolding_all rfl):PT X (.Compare a [op,op'] [b,c] pos) (nZ (pM r r' ta tb tc)):=by
 intro pins s σ H Q I h;refine isTrue_chain (thn (ha pins s σ H _ I h) λv s1 ⟨x,H1,I1,r1,q1⟩=>test_link (thn (hb pins s1 σ H1 _ I1 q1) λu s2 ⟨y,H2,I2,r2,q2⟩=>
  thn (ho pins s2 σ H2 x y v u _ I2 r1 r2 q2) λd s3 ⟨z,H3,I3,r3,k,e,q3⟩=>?_)) hm
 subst e;cases r3;refine wpAny_truthy_bool ?_;cases k with
 |false=>
  obtain⟨k',e',q'⟩:=q3;cases e';exact ite_ff ⟨H3,I3,q'⟩
 |true=>
  refine ite_tt (test_last (thn (hc pins s3 σ H3 _ I3 q3) λw' s4 ⟨z',H4,I4,r4,q4⟩=>thn (ho' pins s4 σ H4 y z' u w' _ I4 r2 r4 q4) λd' s5 ⟨z2,H5,I5,r5,k2,e2,q5⟩=>?_))
  subst e2;cases r5;exact wpAny_truthy_bool ⟨H5,I5,q5⟩
theorem eL:(sizeLine:Nat) < 2 ^ 63:=by rw[sizeLine_eq];decide
theorem k7:OpR X (binaryOp .Add) (λx y H Q=>∃i j,x=.str i/\y=.str j/\i.length+j.length<=sizeLine/\Q (.str (i++j)) H):=by
 intro pins s σ H x y v u Q I rx ry h;obtain⟨i,j,rfl,rfl,hz,q⟩:=h;obtain⟨t,rfl⟩:=rx;obtain⟨t',rfl⟩:=ry;exact d5 I.tk <| add_str (λt' tk _=>⟨.str (i++j),H,I.tok _,⟨_,rfl⟩,q⟩) hz
theorem dn(r:Vals [x] us):∃u,us=[u]/\RelV x u:=by
 cases r with
 |cons r1 r2=>cases r2;exact⟨_,rfl,r1⟩
end
end L2
namespace L2
open PySem PySem.Spec PyProof.Rows
section
variable {w:World}{A:Around}{s:Shared}{K:PySem.W.Frag}{x:Addr}
end
theorem RelO.some_of(r:RelO (some v) o):∃u,o=some u/\RelV v u:=by
 cases o with
 |none=>exact (show False from r).elim
 |some u=>exact⟨u,rfl,r⟩
section
variable {P:Program}{w:World}{h h':Heap}{a:Addr}{fs:List (Str×V)}
end
structure Cls (K:PySem.W.Frag)(C:Addr):Prop where
 pg:PySem.W.plainGet K C Str.empty=true
 hd:PySem.W.hasDictIn K C=true
 po:PySem.W.plainOver K C=true
 sa:PySem.W.findIn K (.ref C) "__setattr__"=some (some (.builtin "object.__setattr__"))
theorem Cls.get{K:PySem.W.Frag}{C:Addr}(c:Cls K C)(f:Str):PySem.W.plainGet K C f=true:=c.pg
noncomputable def ju(K:PySem.W.Frag)(C:Addr)(f:Str):Prop:=PySem.W.findIn K (.ref C) f=some none
structure Meth (K:PySem.W.Frag)(C:Addr)(m:Str)(f:Addr):Prop where
 at_:PySem.W.findIn K (.ref C) m=some (some (.ref f))
 fn:PySem.W.isFn K (.ref f)=true
 kp:PySem.W.keepIn K (.ref f)=true
section
variable {X:Cx}{s:Shared}{a:Addr}{fs:List (Str×V)}{A:Around}
end
section
variable {X:Cx}{o:Expr}{pos:Pos}
end
section
variable {X:Cx}{s:Shared}{A:Around}{c:Value}{b:Bool}
end
end L2
namespace L2
open PySem PySem.Spec PyProof.Rows
structure Room (k:Nat)(A:Around):Prop where
 hd:A.handled=none
 dp:A.depth+3 * k+5 < recursionLimit
 un:A.units+16 * k+200 < cLine
theorem Room.mono(r:Room k A)(h:j<=k):Room j A:=⟨r.hd,by have:=r.dp;omega,by have:=r.un;omega⟩
theorem Room.deeper{A:Around}(r:Room (k+1) A)(env:Env):Room k (A.deeper env):=
 ⟨r.hd,by have:=r.dp;show A.depth+1+3 * k+5 < _;omega,by have:=r.un;show A.units+3+16 * k+200 < _;omega⟩
theorem Room.depth{A:Around}(r:Room k A):A.depth < recursionLimit:=by have:=r.dp;omega
theorem Room.units{A:Around}(r:Room k A):A.units+64 < cLine:=by have:=r.un;omega
noncomputable def tNil:TA:=λ_ H Q=>Q [] H
noncomputable def xB(ta:TE)(tr:TA):TA:=λσ H Q=>ta σ H λx H1=>tr σ H1 λxs H2=>Q (x::xs) H2
section
variable {X:Cx}{pos:Pos}
theorem pa_nil:PA X [] tNil:=λ_ _ _ _ H Q I h=>Calls.spliced_nil ⟨[],H,I,.nil,h⟩
theorem aW(ha:PE X e te)(hr:PA X es t)(hs:starEach (e::es) X.env=(false,eval e X.env)::starEach es X.env:=by rfl):PA X (e::es) (xB te t):=by
 intro pos pins s σ H Q I h;rw[hs];show wpAny _ _ (spliced ((false,eval e X.env)::backTo pos (starEach es X.env))) _ _ s;refine Calls.spliced_cons (thn (ha pins s σ H _ I h) λu s1 ⟨x,H1,I1,r1,q1⟩=>?_)
 exact thn (hr pos pins s1 σ H1 _ I1 q1) λus s2 ⟨xs,H2,I2,r2,q2⟩=>⟨x::xs,H2,I2,.cons r1 r2,q2⟩
noncomputable def B7(t:TA):TE:=λσ H Q=>t σ H λxs H1=>xs.length<=sizeLine/\∀p,H1 p=none->Q (.ref p) (upd H1 p (.tup xs))
noncomputable def Ct(t:TA):TE:=λσ H Q=>t σ H λxs H1=>xs.length<=sizeLine/\∀p,H1 p=none->Q (.ref p) (upd H1 p (.lst xs))
theorem uM{x1}(h:PA X es t):PE X (.Tuple es x1 pos) (B7 t):=by
 intro pins s σ H Q I hq;refine wpAny_Tuple_spliced (thn (h pos pins s σ H _ I hq) λus s1 ⟨xs,H1,I1,r,z,q⟩=>⟨by rw[<-r.length];exact z,?_⟩)
 have hf:H1 s1.heap.objs.size=none:=I1.hok.fresh (Nat.le_refl _);refine⟨.ref s1.heap.objs.size,upd H1 s1.heap.objs.size (.tup xs),I1.laid (t':=s1.toks) (λb u e=>Heap.get?_push_of_some _ e) (Nat.le_refl _) ?_,rfl,q _ hf⟩
 exact⟨z,us,r,⟨_,Heap.get?_push_size _ rfl,rfl,_,rfl⟩⟩
theorem vJ(h:PA X es t):PE X (.List es pos) (Ct t):=by
 intro pins s σ H Q I hq;refine wpAny_List_spliced (thn (h pos pins s σ H _ I hq) λus s1 ⟨xs,H1,I1,r,z,q⟩=>⟨by rw[<-r.length];exact z,?_⟩)
 have hf:H1 s1.heap.objs.size=none:=I1.hok.fresh (Nat.le_refl _);refine⟨.ref s1.heap.objs.size,upd H1 s1.heap.objs.size (.lst xs),I1.laid (t':=s1.toks) (λb u e=>Heap.get?_push_of_some _ e) (Nat.le_refl _) ?_,rfl,q _ hf⟩
 exact⟨z,us,0,r,Heap.get?_push_size _ rfl⟩
end
noncomputable abbrev Sp:=List V->Hp->VK->XK->Prop
noncomputable abbrev CXT:=List Env->Hp->Shared->XK->Value->Shared->Prop
structure Env0 (P:Program)(w:World)(K:PySem.W.Frag)(mg:Str->Option Value)(base:Heap)(A:Around)(outer:List Env)(s:Shared)(H:Hp):Prop where
 frames:A.frames=some outer
 mod:Mod K mg base
 bs:∀b o,base.get? b=some o->s.heap.get? b=some o/\H b=none
 bsz:base.objs.size<=s.heap.objs.size
 funs:s.heap.FunFrames base outer
 frf:∀b∈frs outer,H b=none
 hok:HOk P w H s.heap
 bare:AllBare s.gens
 tk:0 < s.toks
noncomputable def CE(outer:List Env)(P:Program)(w:World)(H:Hp)(s:Shared)(Q:VK)(u:Value)(s':Shared):Prop:=
 ∃v H',(s'.os=s.os/\0 < s'.toks)/\AllBare s'.gens/\Un (frs outer) [] H H' s.heap s'.heap/\HOk P w H' s'.heap/\RelV v u/\Q v H'
noncomputable def CR(CX:CXT)(outer:List Env)(P:Program)(w:World)(H:Hp)(s:Shared)(Q:VK)(E:XK)(r:Result)(s':Shared):Prop:=
 match r with
 |.ok (.ret u)=>CE outer P w H s Q u s'
 |.ok _=>False
 |.error e=>CX outer H s E e s'
structure FnOk (P:Program)(w:World)(K:PySem.W.Frag)(mg:Str->Option Value)(base:Heap)(CX:CXT)(k:Nat)(f:Addr)(fd:FuncData)(ps:List Str)(sp:Sp):Prop where
 len:∀vs H Q E,sp vs H Q E->vs.length=ps.length
 run:∀(A:Around)(outer:List Env)(s:Shared)(H:Hp)(args:Args)(us:List Value)(vs:List V)(Q:VK)(E:XK),Room k A->Env0 P w K mg base A outer s H->BindsTo s fd args (ps.zip us)->Vals vs us->sp vs H Q E->
  codeAny (model P w) A (.call (.ref f) args) (CR CX outer P w H s Q E) s
section
variable {X:Cx}{s:Shared}
theorem Inv.env0(I:Inv X pins σ H s):Env0 X.prog X.w X.K X.mg X.base X.A X.stack s H:=
 ⟨I.ok.frames,I.ok.mod,I.bs,Nat.le_trans I.ok.bsz I.sz,I.stack,I.stkFree,I.hok,I.bare,I.tk⟩
theorem Inv.after(I:Inv X pins σ H s)(h:CE X.stack X.prog X.w H s Q u s'):EP X pins σ Q u s':=by
 obtain⟨v,H',os,bare,un,hok,r,q⟩:=h;obtain⟨hh,g,d,t,os'⟩:=s';obtain⟨os,ht⟩:=os;obtain rfl:os'=s.os:=os;exact⟨v,H',I.call (h':=hh) (g':=g) (d':=d) (t':=t) (ch:=[]) un hok bare (λb z=>absurd z (by simp)),r,q⟩
end
noncomputable def Binds(K:PySem.W.Frag)(fd:FuncData)(ps:List Str)(ds:List Value):Prop:=
 ∀(s:Shared)(us:List Value),K.In s.heap->(us++ds).length=ps.length->BindsTo s fd ⟨us,[]⟩ (ps.zip (us++ds))
theorem Binds.all{K:PySem.W.Frag}{ps:List Str}(h:∀us:List Value,us.length=ps.length->bindArgs fd ⟨us,[]⟩=pure (ps.zip us)):Binds K fd ps []:=λs us _ hl=>by
 rw[List.append_nil]at hl ⊢;exact .of_eq (h us hl)
noncomputable def vG(CX:CXT)(X:Cx)(E:XK):Prop:=∀(pins:List (Addr×Obj)) (σ:St)(H:Hp)(s:Shared)(e:Value)(s':Shared),Inv X pins σ H s->CX X.stack H s E e s'->X.xe e s'
section
variable {X:Cx}{k:Nat}{ps:List Str}{x:Str}{p pos apos:Pos}{o:Expr}
structure Mk (K:PySem.W.Frag)(C f:Addr):Prop where
 makes:PySem.W.makesIn K C=true
 init:PySem.W.findIn K (.ref C) "__init__"=some (some (.ref f))
 fn:PySem.W.isFn K (.ref f)=true
 kp:PySem.W.keepIn K (.ref C)=true
end
section
variable {X:Cx}{k:Nat}{ps ks:List Str}{x:Str}{p pos apos:Pos}{o:Expr}
end
structure FnScope (N P:List Str)(sc:Scope):Prop where
 kind:sc.kind=.function
 co:sc.isCoroutine=false
 gen:sc.isGenerator=false
 nd:N.Nodup
 pre:N.take P.length=P
 par:∀x∈P,sc.names.lookup x=some .local\/sc.names.lookup x=some .cell
 nofree:∀y∈sc.names,y.2≠.free
theorem iJ{kindOf:Str->Option NameKind}{x:Str}:∀{binds:List (Str×Value)}{m:Str->Option Value},(∀v,(x,v)∉binds)->bindL kindOf binds m x=m x
 |[],_,_=>rfl
 |(n,v)::r,m,h=>by
  unfold bindL;rw[iJ λw hw=>h w (List.mem_cons_of_mem _ hw)]
  split
  ·have:x≠n:=by rintro rfl;exact h v List.mem_cons_self
   simp[this]
  ·rfl
theorem iE{kindOf:Str->Option NameKind}{x:Str}:∀{binds:List (Str×Value)}{m:Str->Option Value},(∀v,(x,v)∉binds)->bindC kindOf binds m x=m x
 |[],_,_=>rfl
 |(n,v)::r,m,h=>by
  unfold bindC;rw[iE λw hw=>h w (List.mem_cons_of_mem _ hw)]
  split
  ·rfl
  ·have:x≠n:=by rintro rfl;exact h v List.mem_cons_self
   simp[this]
theorem iY{kindOf:Str->Option NameKind}{x:Str}{v:Value}:∀{P:List Str}{vs:List Value}{i:Nat}{m:Str->Option Value},P.Nodup->P[i]?=some x->vs[i]?=some v->kindOf x=some .local->
  bindL kindOf (P.zip vs) m x=some v
 |[],_,_,_,_,h,_,_=>by simp at h
 |_::_,[],_,_,_,_,h,_=>by simp at h
 |p::P,w::vs,0,m,nd,h1,h2,hk=>by
  simp at h1 h2;subst h1;subst h2;show bindL kindOf ((p,w)::P.zip vs) m p=_;unfold bindL;rw[iJ λv hv=>(List.nodup_cons.mp nd).1 (List.of_mem_zip hv).1,if_pos hk]
  simp
 |p::P,w::vs,i+1,m,nd,h1,h2,hk=>by
  show bindL kindOf ((p,w)::P.zip vs) m x=_;unfold bindL;exact iY (i:=i) (List.nodup_cons.mp nd).2 (by simpa using h1) (by simpa using h2) hk
theorem iW{kindOf:Str->Option NameKind}{x:Str}{v:Value}:∀{P:List Str}{vs:List Value}{i:Nat}{m:Str->Option Value},P.Nodup->P[i]?=some x->vs[i]?=some v->kindOf x≠some .local->
  bindC kindOf (P.zip vs) m x=some v
 |[],_,_,_,_,h,_,_=>by simp at h
 |_::_,[],_,_,_,_,h,_=>by simp at h
 |p::P,w::vs,0,m,nd,h1,h2,hk=>by
  simp at h1 h2;subst h1;subst h2;show bindC kindOf ((p,w)::P.zip vs) m p=_;unfold bindC;rw[iE λv hv=>(List.nodup_cons.mp nd).1 (List.of_mem_zip hv).1,if_neg hk]
  simp
 |p::P,w::vs,i+1,m,nd,h1,h2,hk=>by
  show bindC kindOf ((p,w)::P.zip vs) m x=_;unfold bindC;exact iW (i:=i) (List.nodup_cons.mp nd).2 (by simpa using h1) (by simpa using h2) hk
noncomputable def dj(N:List Str)(vs:List V):St:=vs.map some++List.replicate (N.length - vs.length) none
noncomputable def bN(CX:CXT)(P:Program)(w:World)(K:PySem.W.Frag)(mg:Str->Option Value)(base:Heap)(N:List Str)(qual:Str)(scope:Scope)(f:Addr)(cd:Value)(A:Around)(outer:List Env)(s:Shared)(H:Hp)(E:XK):Cx where
 prog:=P
 w:=w
 K:=K
 mg:=mg
 base:=base
 A:=A.deeper (envOfC qual scope s.heap.objs.size f cd)
 N:=N
 s₀:=s
 H₀:=H
 env:=envOfC qual scope s.heap.objs.size f cd
 outer:=outer
 stack:=envOfC qual scope s.heap.objs.size f cd::outer
 ex:=[]
 calm:=true
 fn:=λ_=>true
 pn:=[]
 xe:=λe s'=>wpAny (model P w) (A.deeper (envOfC qual scope s.heap.objs.size f cd)) (leaving (envOfC qual scope s.heap.objs.size f cd) e) (λ_ s''=>CX outer H s E e s'') (λe' s''=>CX outer H s E e' s'') s'
theorem kd{sc:Scope}(h:sc.names.lookup x=some .cell):∃c,(cellsFrom n sc.names []).lookup x=some c:=by
 have q:=PySem.W.cellsFrom_some sc.names n [] (.inl h);exact Option.isSome_iff_exists.mp q
theorem nc{K:PySem.W.Frag}{ps:List Str}{scope:Scope}{A:Around}{s:Shared}{vs:List V}
  (S:FnScope N ps scope) (hd:A.handled=none) (e0:Env0 P w K mg base A outer s H) (hl:vs.length=ps.length) (r:Vals vs us)
  (x:InCallC s s.heap.objs.size (bindL (envOfC qual scope s.heap.objs.size f cd).kindOf (ps.zip us) λ_=>none) (cellsFrom (s.heap.objs.size+1) scope.names []) (bindC (envOfC qual scope s.heap.objs.size f cd).kindOf (ps.zip us) λ_=>none) s1) :
  0 < s1.toks->Inv (bN CX P w K mg base N qual scope f cd A outer s H E) [] (dj N vs) H s1:=by
 intro htk;have hpl:ps.length<=N.length:=by have:=congrArg List.length S.pre;rw[List.length_take]at this;omega
 obtain⟨h1,tk,rfl,hk⟩:=x.done;have noA:∀b:Addr,b∉(bN CX P w K mg base N qual scope f cd A outer s H E).ex:=λb z=>absurd (show b∈([]:List Addr) from z) (by simp)
 refine⟨⟨e0.mod,S.kind,rfl,rfl,Nat.le_refl _,λy z c h1 h2=>?_,λy hy=>?_,λy c _ h=>?_,λ_=>hd,Around.frames_deeper e0.frames,.inr ⟨rfl,rfl⟩,λb z=>absurd z (noA b),e0.bs,e0.bsz,λb _ _=>noA b,λb z=>absurd z (noA b),e0.funs,e0.frf⟩,
  ⟨rfl,htk⟩,e0.bare,Un.kept hk,⟨_,x.toInCall.ns,λi y v h1 h2 h3=>?_⟩,λy c h=>⟨_,x.cell y c h⟩,e0.hok.fresh (Nat.le_refl _),λy c h=>?_,λp hp=>absurd (show p∈([]:List (Addr×Obj)) from hp) (by simp),e0.hok.kept hk,?_⟩
 ·exact name_of_addr x.apart (PySem.mem_of_lookup h1) (PySem.mem_of_lookup h2)
 ·have hy:scope.names.lookup y=some .cell\/scope.names.lookup y=some .free:=hy;rcases hy with hy|hy
  ·exact kd hy
  ·exact absurd rfl (S.nofree _ (PySem.mem_of_lookup hy))
 ·exact Nat.le_of_lt (x.above y c (PySem.mem_of_lookup h))
 ·have hi:i < vs.length:=by
   unfold dj at h2;by_cases hi:i < vs.length
   ·exact hi
   ·rw[List.getElem?_append_right (by simpa using hi)]at h2
    rw[List.getElem?_replicate]at h2;split at h2<;>cases h2
  have ha:vs[i]?=some v:=by
   unfold dj at h2;rw[List.getElem?_append_left (by simpa using hi),List.getElem?_map]at h2
   cases e:vs[i]? with
   |none=>rw[e]at h2;cases h2
   |some a=>rw[e]at h2;cases h2;rfl
  obtain⟨u,hu,rv⟩:=r.get ha;have hp:ps[i]?=some y:=by
   rw[<-S.pre,List.getElem?_take_of_lt (by omega)];exact h1
  have ndP:ps.Nodup:=by rw[<-S.pre];exact S.nd.sublist (List.take_sublist _ _)
  refine⟨u,rv,?_⟩;rcases S.par y (List.mem_of_getElem? hp) with k|k
  ·exact .inl ⟨k,iY ndP hp hu k⟩
  ·obtain⟨c,e⟩:=kd (n:=s.heap.objs.size+1) k;refine .inr ⟨.inl k,c,e,?_⟩;have q:=x.cell y c e;rw[iW ndP hp hu (by show scope.names.lookup y≠_;rw[k];decide)]at q
   exact q
 ·exact e0.hok.fresh (Nat.le_of_lt (x.above y c (PySem.mem_of_lookup h)))
 ·unfold dj;show _=N.length;rw[List.length_append,List.length_map,List.length_replicate];omega
theorem wC{CX:CXT}{P:Program}{w:World}{K:PySem.W.Frag}{mg:Str->Option Value}{base:Heap}{k:Nat}{f:Addr}{name qual:Str}{params:Arguments}{body:List Stmt}{scope:Scope}{dV kV doc pm cdv ct oc:Value}{an od:Option Addr}
  {osl:Array (Option Value)}{N ps:List Str}{sp:Sp} (lk:K.lookup f=some ⟨oc,od,.func (PySem.W.fnOf name qual params body scope dV kV doc pm an cdv ct),osl⟩) (hcd:PySem.W.codeIn K cdv qual=true) (S:FnScope N ps scope)
  (len:∀vs H Q E,sp vs H Q E->vs.length=ps.length)
  (hbody:∀(A:Around)(outer:List Env)(s:Shared)(H:Hp)(vs:List V)(Q:VK)(E:XK),Room k (A.deeper (envOfC qual scope s.heap.objs.size f cdv))->sp vs H Q E->
   ∃t,PSs (bN CX P w K mg base N qual scope f cdv A outer s H E) body t/\t {nx:=λ_ H'=>Q .non H',rt:=Q} (dj N vs) H) :
  FnOk P w K mg base CX (k+1) f (PySem.W.fnOf name qual params body scope dV kV doc pm an cdv ct) ps sp:=by
 refine⟨len,λA outer s H args us vs Q E hr e0 hb r hsp=>?_⟩
 have hl:=len _ _ _ _ hsp;have KX:K.In s.heap:=e0.mod.kin.keeps λb o e=>(e0.bs b o e).1
 have lim:s.heap.NoLimit:=e0.mod.nolimit.keeps λb o e=>(e0.bs b o e).1
 have hkind:∀y∈ps.zip us,scope.names.lookup y.1=some .local\/(scope.names.lookup y.1=some .cell/\((cellsFrom (s.heap.objs.size+1) scope.names []).lookup y.1).isSome=true):=λ⟨n,v⟩ hy=>by
  rcases S.par n (List.of_mem_zip hy).1 with q|q
  ·exact .inl q
  ·exact .inr ⟨q,PySem.W.cellsFrom_some _ _ _ (.inl q)⟩
 refine codeAny_call_function hr.depth (KX _ _ lk) rfl S.co S.gen rfl (PySem.W.codeRec_of KX hcd) (hb _ _ _ _ ?_);refine d5 e0.tk (wpAny_newFunctionEnv_cells S.kind hkind λenv he s1 x htk=>?_)
 subst he;refine⟨lim.keeps x.toInCall.keep,codeAny_func ?_⟩;obtain⟨t,ht,hq⟩:=hbody A outer s H vs Q E (hr.deeper _) hsp;have I:Inv (bN CX P w K mg base N qual scope f cdv A outer s H E) [] (dj N vs) H s1:=nc S hr.hd e0 hl r x htk;refine wpAny_mono (ht [] s1 (dj N vs) H _ I hq) (λfl s' hs=>?_) λe s' hs=>hs
 have fin:∀{σ':St}{H':Hp}{v:V}{u:Value},Inv (bN CX P w K mg base N qual scope f cdv A outer s H E) [] σ' H' s'->RelV v u->Q v H'->CE outer P w H s Q u s':=
  λ{σ' H' v u} J rv q=>⟨v,H',J.os,J.bare,J.base,J.hok,rv,q⟩
 cases fl with
 |ret u=>
  obtain⟨v,σ',H',J,rv,q⟩:=hs;exact fin J rv q
 |next=>
  obtain⟨σ',H',J,q⟩:=hs;exact fin (v:=V.non) (u:=Value.none) J rfl q
 |brk=>
  obtain⟨_,_,_,q⟩:=hs;exact False.elim q
 |cont=>
  obtain⟨_,_,_,q⟩:=hs;exact False.elim q
end L2
namespace L2
open PySem PySem.Spec PyProof.Rows
section
variable {X:Cx}{x:Str}{p pos:Pos}{id:String}
noncomputable def tCB(r:List V->Hp->VK->Prop)(t:TA):TE:=λσ H Q=>t σ H λvs H1=>r vs H1 Q
theorem gk(hc:CallR X (.builtin id) r)(hg:Gl X x)(hm:X.mg x=none)(hv:bootBuiltins x=some (.builtin id))(ha:PA X (e::es) t)(hn:x≠"__name__":=by decide)(hdb:(x == ("__debug__" : Str))=false:=by decide)
  (he:starEach (e::es) X.env=(false,eval e X.env)::starEach es X.env:=by rfl) (hpl:(backTo pos (starEach es X.env)).any (·.1)=false:=by rfl):PE X (.Call (.Name x p) (e::es) [] pos) (tCB r t):=by
 intro pins s σ H Q I h;refine wpAny_Call_Name_kw (gO I hg hm hv ?_ hn hdb);exact PyProof.Rows.callWith_builtin1 (thn (ha pos pins s σ H _ I h) λus s1 ⟨vs,H1,I1,r1,q1⟩=>hc pins s1 σ H1 vs us Q I1 r1 q1) he hpl
theorem ni(hc:CallR X (.type T) r)(hg:Gl X x)(hm:X.mg x=none)(hv:bootBuiltins x=some (.type T))(ha:PA X (e::es) t)(hn:x≠"__name__":=by decide)(hdb:(x == ("__debug__" : Str))=false:=by decide)
  (he:starEach (e::es) X.env=(false,eval e X.env)::starEach es X.env:=by rfl) (hpl:(backTo pos (starEach es X.env)).any (·.1)=false:=by rfl):PE X (.Call (.Name x p) (e::es) [] pos) (tCB r t):=by
 intro pins s σ H Q I h;refine wpAny_Call_Name_kw (gO I hg hm hv ?_ hn hdb);exact PyProof.Rows.callWith_type1 (thn (ha pos pins s σ H _ I h) λus s1 ⟨vs,H1,I1,r1,q1⟩=>hc pins s1 σ H1 vs us Q I1 r1 q1) he hpl
end
end L2
namespace L2
open PySem PySem.Spec PyProof.Rows
section
variable [DecidableEq κ]
noncomputable def ce(kvs:List (κ×V))(k:κ):Option V:=(kvs.find? λkv=>decide (kv.1=k)).map (·.2)
noncomputable def cH(kvs:List (κ×V))(k:κ)(v:V):List (κ×V):=
 if (kvs.any λkv=>decide (kv.1=k))=true then kvs.map (λkv=>if kv.1=k then (kv.1,v) else kv) else kvs++[(k,v)]
theorem cU{p:κ×V}(e:p.1=k):ce (p::r) k=some p.2:=by simp[ce,List.find?_cons,e]
theorem cb{p:κ×V}(e:¬ p.1=k):ce (p::r) k=ce r k:=by simp[ce,List.find?_cons,e]
theorem jH(k:κ):∀kvs:List (κ×V),(kvs.any λkv=>decide (kv.1=k))=(ce kvs k).isSome
 |[]=>rfl
 |p::r=>by
  rw[List.any_cons];by_cases e:p.1=k
  ·simp only[cU e,decide_eq_true e,Bool.true_or,Option.isSome_some]
  ·rw[cb e,decide_eq_false e,Bool.false_or];exact jH k r
theorem eZ(kvs:List (κ×V))(k:κ)(v:V):(cH kvs k v).length<=kvs.length+1:=by
 unfold cH;split
 ·rw[List.length_map];omega
 ·rw[List.length_append,List.length_cons,List.length_nil];omega
theorem RelO.isSome_eq{o:Option V}{u:Option Value}(r:RelO o u):o.isSome=u.isSome:=by
 cases o with
 |none=>cases u with
  |none=>rfl
  |some _=>exact (show False from r).elim
 |some _=>cases u with
  |none=>exact (show False from r).elim
  |some _=>rfl
theorem RelO.getD{o:Option V}{u:Option Value}(r:RelO o u)(rd:RelV d d'):RelV (o.getD d) (u.getD d'):=by
 cases o with
 |none=>cases u with
  |none=>exact rd
  |some _=>exact (show False from r).elim
 |some _=>cases u with
  |none=>exact (show False from r).elim
  |some _=>exact r
theorem KV.val(r:KV kvs vs)(k:κ):RelO (ce kvs k) (valueAt vs k):=by
 unfold KV at r
 induction r with
 |nil=>exact True.intro
 |@cons p q ps qs h t ih=>
  obtain⟨h1,h2⟩:=h;by_cases e:p.1=k
  ·have e':q.1=k:=h1.symm.trans e;have b:valueAt (q::qs) k=some q.2:=by simp[valueAt,List.find?_cons,e']
   rw[cU e,b];exact h2
  ·have e':¬ q.1=k:=λz=>e (h1.trans z)
   have b:valueAt (q::qs) k=valueAt qs k:=by simp[valueAt,List.find?_cons,e']
   rw[cb e,b];exact ih
theorem KV.any{kvs:List (κ×V)}{vs:List (κ×Value)}(r:KV kvs vs)(k:κ):(kvs.any λkv=>decide (kv.1=k))=vs.any λkv=>decide (kv.1=k):=by
 unfold KV at r
 induction r with
 |nil=>rfl
 |cons h t ih=>rw[List.any_cons,List.any_cons,ih,h.1]
theorem KV.repl{kvs:List (κ×V)}{vs:List (κ×Value)}(r:KV kvs vs)(k:κ)(ry:RelV y u) :
  KV (kvs.map λkv=>if kv.1=k then (kv.1,y) else kv) (vs.map λkv=>if kv.1=k then (kv.1,u) else kv):=by
 unfold KV at r ⊢
 induction r with
 |nil=>exact .nil
 |@cons p q ps qs h t ih=>
  rw[List.map_cons,List.map_cons];refine .cons ?_ ih;obtain⟨h1,h2⟩:=h;by_cases e:p.1=k
  ·rw[if_pos e,if_pos (h1.symm.trans e)];exact⟨h1,ry⟩
  ·rw[if_neg e,if_neg (λz=>e (h1.trans z))];exact⟨h1,h2⟩
theorem KV.put(r:KV kvs vs)(k:κ)(ry:RelV y u):KV (cH kvs k y) (stored vs k u):=by
 unfold cH stored;rw[r.any k];by_cases e:(vs.any λkv=>decide (kv.1=k))=true
 ·rw[if_pos e,if_pos e];exact r.repl k ry
 ·rw[if_neg e,if_neg e];exact Paired.snoc r ⟨rfl,ry⟩
theorem KV.keys{kvs:List (κ×V)}{vs:List (κ×Value)}(r:KV kvs vs):kvs.map (·.1)=vs.map (·.1):=by
 unfold KV at r
 induction r with
 |nil=>rfl
 |cons h t ih=>rw[List.map_cons,List.map_cons,ih,h.1]
theorem KV.length{kvs:List (κ×V)}{vs:List (κ×Value)}(r:KV kvs vs):kvs.length=vs.length:=Paired.length r
end
theorem iR(r:RelV (kV k) u):(aw P w).is k u=true:=by
 cases k with
 |inl i=>obtain⟨t,e⟩:=(show ∃t,u=Value.int i t from r);subst e;exact kG P w i t
 |inr x=>obtain⟨t,e⟩:=(show ∃t,u=Value.str x t from r);subst e;exact cP P w x t
theorem iQ:∀{ks:List Key}{us:List Value},Vals (ks.map kV) us->ItemsAre (aw P w) ks us
 |[],_,r=>by rw[List.map_nil]at r;cases r;exact .nil
 |k::ks,_,r=>by
  rw[List.map_cons]at r;cases r with
  |cons h t=>exact .cons (iR h) (iQ t)
noncomputable abbrev KT(H:Hp):List (List Key×V)->List (List Key×Addr×Value)->Prop:=Paired λp q=>p.1=q.1/\H q.2.1=some (.tup (p.1.map kV))/\RelV p.2 q.2.2
theorem KT.val(r:KT H kvs xs)(k:List Key):RelO (ce kvs k) ((atKey xs k).map (·.2)):=by
 induction r with
 |nil=>exact True.intro
 |@cons p q ps qs h t ih=>
  obtain⟨h1,_,h2⟩:=h;by_cases e:p.1=k
  ·have e':q.1=k:=h1.symm.trans e;have b:atKey (q::qs) k=some q.2:=by simp[atKey,List.find?_cons,e']
   rw[cU e,b];exact h2
  ·have e':¬ q.1=k:=λz=>e (h1.trans z)
   have b:atKey (q::qs) k=atKey qs k:=by simp[atKey,List.find?_cons,e']
   rw[cb e,b];exact ih
theorem KT.repl{kvs:List (List Key×V)}{xs:List (List Key×Addr×Value)}(r:KT H kvs xs)(k:List Key)(ry:RelV y u) :
  KT H (kvs.map λkv=>if kv.1=k then (kv.1,y) else kv) (xs.map (putAt k u)):=by
 induction r with
 |nil=>exact .nil
 |@cons p q ps qs h t ih=>
  rw[List.map_cons,List.map_cons];refine .cons ?_ ih;obtain⟨h1,h2,h3⟩:=h;unfold putAt;by_cases e:p.1=k
  ·rw[if_pos e,if_pos (h1.symm.trans e)];exact⟨h1,h2,ry⟩
  ·rw[if_neg e,if_neg (λz=>e (h1.trans z))];exact⟨h1,h2,h3⟩
theorem KT.put(r:KT H kvs xs)(k:List Key)(hb:H b=some (.tup (k.map kV)))(ry:RelV y u) :
  KT H (cH kvs k y) (storedH xs k b u):=by
 have e:(kvs.any λkv=>decide (kv.1=k))=(atKey xs k).isSome:=by
  rw[jH,(r.val k).isSome_eq,Option.isSome_map]
 unfold cH storedH;rw[e];by_cases q:(atKey xs k).isSome=true
 ·rw[if_pos q,if_pos q];exact r.repl k ry
 ·rw[if_neg q,if_neg q];exact Paired.snoc r ⟨rfl,hb,ry⟩
theorem KT.keeps(r:KT H kvs xs)(ht:∀b ys,H b=some (.tup ys)->H' b=some (.tup ys)):KT H' kvs xs:=
 Paired.mapP r λ_ _ z=>⟨z.1,ht _ _ z.2.1,z.2.2⟩
section
variable {w:World}{h:Heap}{a:Addr}
theorem ss(ok:HOk P w H h)(e:Rd H a u):ObjOk P w H h a u:=e.ok ok
theorem kF{kvs:List (Key×V)}(ok:HOk P w H h)(e:Rd H a (.dK kvs)):kvs.length<=sizeLine/\(a == sysModules)=false/\∃vs,KV kvs vs/\h.DictOf (aw P w) a vs:=
 show ObjOk P w H h a (.dK kvs) from ss ok e
theorem sC{kvs:List (Key×V)}(ok:HOk P w H h)(e:H a=some (.dK kvs)):kvs.length<=sizeLine/\(a == sysModules)=false/\∃vs,KV kvs vs/\h.DictOf (aw P w) a vs:=kF ok (.inl e)
theorem gh{ks:List Key}(ok:HOk P w H h)(e:H a=some (.tup (ks.map kV))):(tupleKind (aw P w)).is h ks a:=by
 obtain⟨_,its,r,o,h1,h2,n,h3⟩:=(show ObjOk P w H h a (.tup (ks.map kV)) from ok a _ e);exact⟨o,its.toArray,n,h1,h2,h3,by simpa using iQ r⟩
theorem lM{kvs:List (List Key×V)}(ok:HOk P w H h)(e:Rd H a (.dT kvs)):kvs.length<=sizeLine/\(a == sysModules)=false/\
  ∃xs,KT H kvs xs/\h.DictOfH (tupleKind (aw P w)) a xs:=by
 obtain⟨z,y,xs,r,o,es,ep,h1,h2,h3,h4,h5⟩:=(show ObjOk P w H h a (.dT kvs) from ss ok e);refine⟨z,y,xs,r,o,es,ep,h1,h2,h3,h4,λx hx=>?_,h5⟩
 have all:∀{l:List (List Key×V)}{m:List (List Key×Addr×Value)},KT H l m->∀x∈m,(tupleKind (aw P w)).is h x.1 x.2.1:=by
  intro l m q
  induction q with
  |nil=>intro x hx;exact nomatch hx
  |@cons p q ps qs hq t ih=>
   intro x hx;rcases List.mem_cons.mp hx with e|hx
   ·subst e;exact gh ok (by rw[<-hq.1];exact hq.2.1)
   ·exact ih x hx
 exact all r x hx
theorem xW{kvs:List (List Key×V)}(ok:HOk P w H h)(e:H a=some (.dT kvs)):kvs.length<=sizeLine/\(a == sysModules)=false/\
  ∃xs,KT H kvs xs/\h.DictOfH (tupleKind (aw P w)) a xs:=lM ok (.inl e)
end
noncomputable def DGet(H:Hp)(a:Addr)(y:V)(r:Option V):Prop:=
 (∃kvs k,Rd H a (.dK kvs)/\y=kV k/\r=ce kvs k)\/∃kvs k b,Rd H a (.dT kvs)/\y=.ref b/\H b=some (.tup (k.map kV))/\r=ce kvs k
noncomputable def DPut(H:Hp)(a:Addr)(y v:V)(H':Hp):Prop:=
 (∃kvs k,H a=some (.dK kvs)/\y=kV k/\kvs.length < sizeLine/\H'=upd H a (.dK (cH kvs k v)))\/
 ∃kvs k b,H a=some (.dT kvs)/\y=.ref b/\H b=some (.tup (k.map kV))/\kvs.length < sizeLine/\H'=upd H a (.dT (cH kvs k v))
theorem DGet.k{H:Hp}{a:Addr}{kvs:List (Key×V)}{k:Key}(e:H a=some (.dK kvs)):DGet H a (kV k) (ce kvs k):=.inl ⟨kvs,k,.inl e,rfl,rfl⟩
theorem DGet.t{H:Hp}{a b:Addr}{kvs:List (List Key×V)}{k:List Key}(e:H a=some (.dT kvs))(eb:H b=some (.tup (k.map kV))):DGet H a (.ref b) (ce kvs k):=.inr ⟨kvs,k,b,.inl e,rfl,eb,rfl⟩
theorem DPut.k{H:Hp}{a:Addr}{kvs:List (Key×V)}{k:Key}{v:V}(e:H a=some (.dK kvs))(hl:kvs.length < sizeLine):DPut H a (kV k) v (upd H a (.dK (cH kvs k v))):=.inl ⟨kvs,k,e,rfl,hl,rfl⟩
theorem DPut.t{H:Hp}{a b:Addr}{kvs:List (List Key×V)}{k:List Key}{v:V}(e:H a=some (.dT kvs))(eb:H b=some (.tup (k.map kV)))(hl:kvs.length < sizeLine) :
  DPut H a (.ref b) v (upd H a (.dT (cH kvs k v))):=.inr ⟨kvs,k,b,e,rfl,eb,hl,rfl⟩
section
variable {X:Cx}{s:Shared}{a:Addr}{y:V}{o:Option V}{A:Around}
theorem nA(hu:A.units+1 < cLine)(I:Inv X pins σ H s)(g:DGet H a y (some v))(ry:RelV y u)(h:∀w' s',Inv X pins σ H s'->RelV v w'->Q w' s') :
  wpAny (model X.prog X.w) A (getItem (.ref a) u) Q E s:=by
 rcases g with ⟨kvs,k,e,ey,l⟩|⟨kvs,k,b,e,ey,eb,l⟩
 ·subst ey;obtain⟨z,hd,vs,rel,dd⟩:=kF I.hok e;obtain⟨w',hw,rw'⟩:=RelO.some_of (v:=v) (o:=valueAt vs k) (by rw[l];exact rel.val k)
  exact wpAny_getItem_of (iR ry) dd.mapOf hw (h w' _ (I.tok _) rw')
 ·subst ey;cases (show u=Value.ref b from ry);obtain⟨z,hd,xs,rel,dd⟩:=lM I.hok e;obtain⟨w',hw,rw'⟩:=RelO.some_of (v:=v) (o:=(atKey xs k).map (·.2)) (by rw[l];exact rel.val k)
  obtain⟨p,hp,hp2⟩:=Option.map_eq_some_iff.mp hw;refine wpAny_getItem_heap (tupleKind_room_in1 hu) (gh I.hok eb) dd hp ?_;rw[hp2];exact h w' _ (I.tok _) rw'
theorem Ch(hu:A.units+1 < cLine)(I:Inv X pins σ H s)(g:DGet H a y o)(ry:RelV y u)(h:∀s',Inv X pins σ H s'->Q (.bool o.isSome) s') :
  wpAny (model X.prog X.w) A (compareOp .In u (.ref a)) Q E s:=by
 rcases g with ⟨kvs,k,e,ey,l⟩|⟨kvs,k,b,e,ey,eb,l⟩
 ·subst ey;obtain⟨z,hd,vs,rel,dd⟩:=kF I.hok e;refine wpAny_in_of (iR ry) hd dd.mapOf ?_;rw[<-(rel.val k).isSome_eq,<-l];exact h _ (I.tok _)
 ·subst ey;cases (show u=Value.ref b from ry);obtain⟨z,hd,xs,rel,dd⟩:=lM I.hok e;refine wpAny_in_heap (tupleKind_room_in1 hu) (gh I.hok eb) hd dd ?_;have q:=(rel.val k).isSome_eq;rw[Option.isSome_map]at q;rw[<-q,<-l];exact h _ (I.tok _)
theorem qi(hu:A.units+1 < cLine)(I:Inv X pins σ H s)(g:DGet H a y o)(ry:RelV y u)(h:∀s',Inv X pins σ H s'->Q (.bool (!o.isSome)) s') :
  wpAny (model X.prog X.w) A (compareOp .NotIn u (.ref a)) Q E s:=by
 rcases g with ⟨kvs,k,e,ey,l⟩|⟨kvs,k,b,e,ey,eb,l⟩
 ·subst ey;obtain⟨z,hd,vs,rel,dd⟩:=kF I.hok e;refine wpAny_notIn_of (iR ry) hd dd.mapOf ?_;rw[<-(rel.val k).isSome_eq,<-l];exact h _ (I.tok _)
 ·subst ey;cases (show u=Value.ref b from ry);obtain⟨z,hd,xs,rel,dd⟩:=lM I.hok e;refine wpAny_notIn_heap (tupleKind_room_in1 hu) (gh I.hok eb) hd dd ?_;have q:=(rel.val k).isSome_eq;rw[Option.isSome_map]at q;rw[<-q,<-l];exact h _ (I.tok _)
theorem jg{h':Heap}(I:Inv X pins σ H s)(mu:Mut (H a))(hs:Heap.SameBut a s.heap h')(he:∃q,h'.get? a=some q)(new:ObjOk X.prog X.w (upd H a ob) h' a ob)(ht:0 < t':=by first|exact Nat.succ_pos _|assumption|exact Inv.tk (by assumption)|exact Env0.tk (by assumption)|exact Nat.lt_of_lt_of_le (Inv.tk (by assumption)) (Nat.le_add_right _ _)) :
  Inv X pins σ (upd H a ob) {s with heap:=h',toks:=t'}:=
 I.write (x:=a) (e:=a) mu (.inl rfl) (λb q hb z=>(hs.2 b hb).trans z) he new
theorem tN{h':Heap}{kvs:List (Key×V)}(z:kvs.length<=sizeLine)(hd:(a == sysModules)=false)(rel:KV kvs vs)(dd:h'.DictOf (aw P w) a vs) :
  ObjOk P w H' h' a (.dK kvs):=⟨z,hd,vs,rel,dd⟩
theorem nh(hu:A.units+1 < cLine)(I:Inv X pins σ H s)(g:DPut H a y v H')(ry:RelV y u)(rv:RelV v r)(h:∀s',Inv X pins σ H' s'->Q () s') :
  wpAny (model X.prog X.w) A (setItem (.ref a) u r) Q E s:=by
 rcases g with ⟨kvs,k,e,ey,l,eH⟩|⟨kvs,k,b,e,ey,eb,l,eH⟩
 ·subst ey eH;obtain⟨z,hd,vs,rel,dd⟩:=sC I.hok e;have hz:vs.length<=sizeLine:=by rw[<-rel.length];exact z
  have hl:(cH kvs k v).length<=sizeLine:=by have:=eZ kvs k v;omega
  refine wpAny_setItem_pairs (hsz:=hz) (iR ry) dd λh' dd' hs=>h _ ?_
  have he:∃q,h'.get? a=some q:=let ⟨q,_,_,hq,_⟩:=dd';⟨q,hq⟩
  exact jg I (by rw[e];exact True.intro) hs he (tN hl hd (rel.put k rv) dd')
 ·subst ey eH;cases (show u=Value.ref b from ry);obtain⟨z,hd,xs,rel,dd⟩:=xW I.hok e;have hz:xs.length<=sizeLine:=by rw[<-Paired.length rel];exact z
  have hl:(cH kvs k v).length<=sizeLine:=by have:=eZ kvs k v;omega
  refine wpAny_setItem_heap (hsz:=hz) (tupleKind_room_in1 hu) (gh I.hok eb) dd λh' dd' hs=>h _ ?_
  obtain⟨q,es,ep,hq,h2,h3,h4,_,h5⟩:=dd';refine jg I (by rw[e];exact True.intro) hs ⟨q,hq⟩ ⟨hl,hd,_,(rel.put k eb rv).keeps λc ys ec=>?_,q,es,ep,hq,h2,h3,h4,h5⟩
  rw[ad (ne_of ec e (λz=>nomatch z))]
  exact ec
end
section
variable {X:Cx}{s:Shared}{a:Addr}{kvs:List (Key×V)}{A:Around}
end
section
variable {X:Cx}{o:Expr}{pos:Pos}
end
section
variable {X:Cx}
end
structure M1 (X:Cx)(o:Expr)(m:Str)(apos:Pos)(e:Expr)(cpos:Pos):Prop where
 base:attributeBase o m X.env (eval o X.env)=eval o X.env
 few:((backTo cpos (starEach [e] X.env)).all (λx=>!x.1)&&(backToKw cpos (keywordEach [] X.env)).all (λx=>x.1.isSome)
  &&decide (([e]:List Expr).length+([]:List Keyword).length+(if ([]:List Keyword).isEmpty then 0 else 1) < 30))=true
 line:(apos.endLine == cpos.line)=true
 trees:backTo cpos (starEach [e] X.env)=[(false,eval e X.env)]
structure M2 (X:Cx)(o:Expr)(m:Str)(apos:Pos)(e f:Expr)(cpos:Pos):Prop where
 base:attributeBase o m X.env (eval o X.env)=eval o X.env
 few:((backTo cpos (starEach [e,f] X.env)).all (λx=>!x.1)&&(backToKw cpos (keywordEach [] X.env)).all (λx=>x.1.isSome)
  &&decide (([e,f]:List Expr).length+([]:List Keyword).length+(if ([]:List Keyword).isEmpty then 0 else 1) < 30))=true
 line:(apos.endLine == cpos.line)=true
 trees:backTo cpos (starEach [e,f] X.env)=[(false,eval e X.env),(false,eval f X.env)]
section
variable {X:Cx}{s:Shared}{a:Addr}{y d:V}{o:Option V}{A:Around}
end
section
variable {X:Cx}{o:Expr}
end
section
variable {X:Cx}{s:Shared}{a:Addr}{kvs:List (Key×V)}{A:Around}
end
section
variable {X:Cx}{s:Shared}{a:Addr}{y:V}{A:Around}
end
end L2
namespace HT
open PySem PyProof.Rows
section
open PySem.SeqAt
open PySem.AutoSeq1 (wpAny_loadPart')
open PySem.MeetsSeq PySem.MeetsSeq2 PySem.MeetsSeq3
end
section
variable {w:World}{A:Around}{s:Shared}
theorem cat_tup{vs ws:List Value}(ht:IsTup s.heap t vs.toArray)(hb:IsTup s.heap b ws.toArray)(hv:vs≠[])
  (h1:ws=[]->Q (.ref t) s) (h2:ws≠[]->Q (.ref s.heap.objs.size) {s with heap:=s.heap.push {cls:=.type "tuple",data:=.seq (vs++ws).toArray}})
  (hsz:vs.length+ws.length<=sizeLine):wpAny (model prog w) A (binaryOp .Add (.ref t) (.ref b)) Q E s:=by
 obtain⟨⟨cls,dd,data,sl⟩,ho,hc,n,hd⟩:=id ht;obtain⟨⟨cls2,dd2,data2,sl2⟩,ho2,hc2,n2,hd2⟩:=id hb;simp only at hc hd hc2 hd2;subst hc hd hc2 hd2;have e:vs.toArray++ws.toArray=(vs++ws).toArray:=by simp
 by_cases hw:ws=[]
 ·exact concat_meets ⟨_,ho,rfl⟩ ⟨_,ho2,rfl⟩ noFill_tuple_add seq_tuple_add PySem.F.slot_tuple_add PySem.F.entry_tuple_add (PySem.F.args_tuple_add_2 _ _)
   (tuple_addW1 t b vs.toArray ws.toArray n n2 dd dd2 sl sl2 (by simpa using hv) (by simp[hw])) ⟨ho,ho2,h1 hw⟩
 ·refine concat_meets ⟨_,ho,rfl⟩ ⟨_,ho2,rfl⟩ noFill_tuple_add seq_tuple_add PySem.F.slot_tuple_add PySem.F.entry_tuple_add (PySem.F.args_tuple_add_2 _ _)
   (tuple_addW2 t b vs.toArray ws.toArray n n2 dd dd2 sl sl2 (by simpa using hv) (by simpa using hw) (by rw[List.size_toArray,List.size_toArray];exact hsz)) ⟨ho,ho2,?_⟩
  rw[e];exact h2 hw
noncomputable def sIx(n d:Nat):Option Int->Nat
 |none=>d
 |some v=>if v < 0 then (v+(n:Int)).toNat else min v.toNat n
theorem uw(n d:Nat)(hd:d<=n)(o:Option Int):sIx n d o<=n:=by
 cases o with
 |none=>exact hd
 |some v=>
  show (if v < 0 then (v+(n:Int)).toNat else min v.toNat n)<=n
  by_cases hv:v < 0
  ·rw[if_pos hv];omega
  ·rw[if_neg hv];exact Nat.min_le_right _ _
theorem lV(v:Int)(n d:Nat):(if v < 0 then max (v+(n:Int)) 0 else min v (n:Int))=((sIx n d (some v):Nat):Int):=by
 show (if v < 0 then max (v+(n:Int)) 0 else min v (n:Int))=(((if v < 0 then (v+(n:Int)).toNat else min v.toNat n):Nat):Int)
 by_cases hv:v < 0
 ·simp only[if_pos hv];omega
 ·simp only[if_neg hv];omega
theorem kQ(lo hi:Option Int)(n:Nat):Builtin.Slice.sliceAdjust lo hi 1 (n:Int)=(((sIx n 0 lo:Nat):Int),((sIx n n hi:Nat):Int)):=by
 have h1:¬ ((1:Int) < 0):=by omega
 unfold Builtin.Slice.sliceAdjust;simp only[h1,if_false];refine Prod.ext ?_ ?_
 ·cases lo with
  |none=>rfl
  |some v=>exact lV v n 0
 ·cases hi with
  |none=>rfl
  |some v=>exact lV v n n
theorem k8(i j:Nat):Builtin.Slice.slicePlaces (i:Int) (j:Int) 1=j - i:=by
 unfold Builtin.Slice.slicePlaces;have h1:(1:Int) > 0:=by omega
 simp only[h1,if_true,Int.ediv_one];split<;>omega
theorem gy(p:IsPart v o)(h:Q o s):wpAny (model prog w) A (Builtin.Slice.slicePartIndex v) Q E s:=by
 cases p with
 |none=>exact slicePart_none h
 |int i t=>exact slicePart_int h
theorem eI{sl:Addr}{vl vu:Value}{lo hi:Option Int}{n:Nat}{Q:Int×Int×Nat->Shared->Prop}(hs:s.heap.IsSliceOf sl vl vu .none)(pl:IsPart vl lo)(pu:IsPart vu hi)
  (h:Q (((sIx n 0 lo:Nat):Int),1,sIx n n hi - sIx n 0 lo) s):wpAny (model prog w) A (Builtin.Slice.sliceApplied (.ref sl) (pure (n:Int))) Q E s:=by
 obtain⟨os,hos,hcs,hds⟩:=id hs;unfold Builtin.Slice.sliceApplied Builtin.Slice.sliceFields;refine wpAny_bind (wpAny_bind (wpAny_field hos hds (x:=vl) rfl (wpAny_bind (wpAny_field hos hds (x:=vu) rfl (wpAny_bind (wpAny_field hos hds (x:=.none) rfl (wpAny_pure ?_)))))));refine wpAny_bind (slicePart_none ?_);show wpAny _ _ (if ((1:Int) == 0)=true then _ else _) _ _ s
 rw[if_neg (by decide)]
 refine wpAny_bind (gy pl (wpAny_bind (gy pu (wpAny_bind (wpAny_pure ?_)))));show wpAny _ _ (match Builtin.Slice.sliceAdjust lo hi 1 (n:Int) with|(lo,hi)=>pure (lo,(1:Int),Builtin.Slice.slicePlaces lo hi 1)) _ _ s
 rw[kQ lo hi n];show wpAny _ _ (pure (((sIx n 0 lo:Nat):Int),(1:Int),Builtin.Slice.slicePlaces ((sIx n 0 lo:Nat):Int) ((sIx n n hi:Nat):Int) 1)) _ _ s;rw[k8];exact wpAny_pure h
theorem pU(xs:Array Value)(i k:Nat):((List.range k).filterMap λ(m:Nat)=>xs[((i:Int)+(m:Int) * 1).toNat]?).toArray=((xs.toList.drop i).take k).toArray:=by
 have e:(λ(m:Nat)=>xs[((i:Int)+(m:Int) * 1).toNat]?)=λm=>xs[i+m]?:=by
  funext m;have:((i:Int)+(m:Int) * 1).toNat=i+m:=by omega
  rw[this]
 rw[e];have:=pick_run xs i k;rw[List.filterMap_map]at this;have e2:((λx=>xs[x]?)∘λx=>i+x)=λm=>xs[i+m]?:=rfl
 rw[e2]at this;rw[this]
theorem getItem_tuple_cut{items:Array Value}{lo:Option Int}(ht:IsTup s.heap t items)(hs:s.heap.IsSliceOf sl vl vu .none)(pl:IsPart vl lo)(pu:IsPart vu hi)
  (hw:¬ (sIx items.size 0 lo=0/\sIx items.size items.size hi=items.size))
  (h:Q (.ref s.heap.objs.size) {s with heap:=s.heap.push {cls:=.type "tuple",data:=.seq ((items.toList.drop (sIx items.size 0 lo)).take (sIx items.size items.size hi - sIx items.size 0 lo)).toArray}})
  (hsz:items.size<=sizeLine):wpAny (model prog w) A (getItem (.ref t) (.ref sl)) Q E s:=by
 have htake:sizeOk (.seq ((items.toList.drop (sIx items.size 0 lo)).take (sIx items.size items.size hi - sIx items.size 0 lo)).toArray):=by
  show ((items.toList.drop (sIx items.size 0 lo)).take (sIx items.size items.size hi - sIx items.size 0 lo)).toArray.size<=sizeLine;rw[List.size_toArray,List.length_take,List.length_drop,Array.length_toList];omega
 have hj:sIx items.size items.size hi<=items.size:=uw _ _ (Nat.le_refl _) hi;obtain⟨os,hos,hcs,hds⟩:=id hs;have hTs:s.TypeIs (.ref sl) "slice":=⟨os,hos,hcs⟩;unfold getItem
 try with_reducible refine wpAny_holding ?_
 first|refine wpAny_bind (wpAny_pure ?_)|skip
 refine wpAny_bind (wpAny_sequenceKey ht.typeIs (by decide) ?_)
 refine wpAny_bind (wpAny_callSpecial?_slot (name:=Str.ofString "__getitem__") ht.typeIs PyProof.Rows.slot_tuple_getitem
  (wpAny_call_entry PyProof.Rows.slot_tuple_getitem ht.typeIs entry_tuple_getitem ?_ (args_tuple_getitem _ _)))
 show wpAny _ _ (Builtin.Tuple.tupleItemsOf (.ref t) >>=_) _ _ s;refine wpAny_bind (tupleItemsOf_ ht ?_);refine wpAny_bind (wpAny_typeOf hTs ?_);rw[if_pos (by decide)]
 refine wpAny_bind (eI hs pl pu ?_);have hno:¬ ((((sIx items.size 0 lo:Nat):Int) == 0&&(1:Int) == 1&&(sIx items.size items.size hi - sIx items.size 0 lo) == items.size)=true):=by
  intro q;rw[Bool.and_eq_true,Bool.and_eq_true]at q;have q1:((sIx items.size 0 lo:Nat):Int)=0:=eq_of_beq q.1.1;have q2:sIx items.size items.size hi - sIx items.size 0 lo=items.size:=eq_of_beq q.2;exact hw ⟨by omega,by omega⟩
 show wpAny _ _ (if (((sIx items.size 0 lo:Nat):Int) == 0&&(1:Int) == 1&&(sIx items.size items.size hi - sIx items.size 0 lo) == items.size)=true then _ else _) _ _ s
 rw[if_neg hno,pU]
 first
  |exact wpAny_bind (m:=Builtin.Tuple.tupleExact _) (wpAny_newObj_type (wpAny_pure ⟨_,rfl,wpAny_pure h⟩) htake)
  |exact wpAny_bind (m:=Builtin.Tuple.tupleExact _) (wpAny_newObj_type (wpAny_bind (wpAny_pure (wpAny_pure ⟨_,rfl,wpAny_pure h⟩))) htake)
  |exact wpAny_bind (wpAny_bind (m:=Builtin.Tuple.tupleExact _) (wpAny_newObj_type (wpAny_pure (wpAny_pure ⟨_,rfl,wpAny_pure h⟩)) htake))
  |exact wpAny_bind (wpAny_bind (m:=Builtin.Tuple.tupleExact _) (wpAny_newObj_type (wpAny_pure ⟨_,rfl,wpAny_pure h⟩) htake))
end
end HT
namespace L2
open PySem PySem.Spec PyProof.Rows
noncomputable abbrev TO:=St->Hp->(Option Int->Hp->Prop)->Prop
noncomputable def PO(X:Cx)(e:Option Expr)(t:TO):Prop:=
 ∀(pins:List (Addr×Obj)) (s:Shared)(σ:St)(H:Hp)(Q:Option Int->Hp->Prop),Inv X pins σ H s->t σ H Q->
  wpAny (model X.prog X.w) X.A (evalPart e X.env) (λu s'=>∃o H',Inv X pins σ H' s'/\IsPart u o/\Q o H') X.xe s
noncomputable def tNoPart:TO:=λ_ H Q=>Q none H
noncomputable def yw(t:TE):TO:=λσ H Q=>t σ H λx H1=>∃i,x=.int i/\Q (some i) H1
section
variable {X:Cx}{lo:Option Expr}
theorem po_none:PO X none tNoPart:=by
 intro pins s σ H Q I h;rw[evalPart_none];exact wpAny_pure ⟨none,H,I,.none,h⟩
theorem qf(h:PE X e te):PO X (some e) (yw te):=by
 intro pins s σ H Q I hw;rw[evalPart_some];refine thn (h pins s σ H _ I hw) λu s1 ⟨x,H1,I1,r1,q1⟩=>?_
 obtain⟨i,rfl,q⟩:=q1;obtain⟨t,rfl⟩:=r1;exact⟨some i,H1,I1,.int i t,q⟩
noncomputable def SlR(X:Cx)(r:V->Option Int->Option Int->Hp->VK->Prop):Prop:=
 ∀(pins:List (Addr×Obj)) (s:Shared)(σ:St)(H:Hp)(x:V)(v vl vu:Value)(lo hi:Option Int)(sl:Addr)(Q:VK),Inv X pins σ H s->RelV x v->s.heap.IsSliceOf sl vl vu .none->IsPart vl lo->IsPart vu hi->r x lo hi H Q->
  ∃T id,typeLookup (.type T) "__getitem__"=pure (some (.builtin id))/\s.TypeIs v T/\wpAny (model X.prog X.w) X.A (getItem v (.ref sl)) (EP X pins σ Q) X.xe s
theorem SlR.or(h:SlR X r)(h':SlR X r'):SlR X (λx lo hi H Q=>r x lo hi H Q\/r' x lo hi H Q):=by
 intro pins s σ H x v vl vu lo hi sl Q I rx hs pl pu q;rcases q with q|q
 ·exact h pins s σ H x v vl vu lo hi sl Q I rx hs pl pu q
 ·exact h' pins s σ H x v vl vu lo hi sl Q I rx hs pl pu q
noncomputable def tSl(r:V->Option Int->Option Int->Hp->VK->Prop)(te:TE)(tl th:TO):TE:=λσ H Q=>te σ H λx H1=>tl σ H1 λl H2=>th σ H2 λu H3=>r x l u H3 Q
theorem oG(hr:SlR X r)(he:PE X e te)(hl:PO X lo tl)(hu:PO X hi th):PE X (.Subscript e (.Slice lo hi none p2) pos) (tSl r te tl th):=by
 intro pins s σ H Q I h;refine Subscript_ (thn (he pins s σ H _ I h) λv s1 ⟨x,H1,I1,r1,q1⟩=>?_)
 refine wpAny_Slice (thn (hl pins s1 σ H1 _ I1 q1) λvl s2 ⟨l,H2,I2,pl,q2⟩=>thn (hu pins s2 σ H2 _ I2 q2) λvu s3 ⟨u,H3,I3,pu,q3⟩=>?_)
 rw[evalPart_none];refine wpAny_pure ?_;have I4:Inv X pins σ H3 {s3 with heap:=s3.heap.push {cls:=.type "slice",data:=.fields #[vl,vu,.none]}}:=I3.kept (t':=s3.toks) λb ob q=>Heap.get?_push_of_some _ q
 obtain⟨T,id,hT,ht,hg⟩:=hr pins {s3 with heap:=s3.heap.push {cls:=.type "slice",data:=.fields #[vl,vu,.none]}} σ H3 x v vl vu l u s3.heap.objs.size Q I4 r1 (Heap.IsSliceOf.new ..) pl pu q3
 show wpAny (model X.prog X.w) X.A (subscriptTail e (.Slice lo hi none p2) v (.ref s3.heap.objs.size)) (EP X pins σ Q) X.xe {s3 with heap:=s3.heap.push {cls:=.type "slice",data:=.fields #[vl,vu,.none]}}
 exact tail_any (ops:=[.ref s3.heap.objs.size,v]) ht hT hg (by with_unfolding_all rfl)
noncomputable def lf(xs:List V)(lo hi:Option Int):List V:=(xs.drop (HT.sIx xs.length 0 lo)).take (HT.sIx xs.length xs.length hi - HT.sIx xs.length 0 lo)
theorem fm(xs:List V)(lo hi:Option Int):(lf xs lo hi).length<=xs.length:=by
 unfold lf;rw[List.length_take,List.length_drop];omega
noncomputable def Bh(K:PySem.W.Frag):V->Option Int->Option Int->Hp->VK->Prop:=λx lo hi H Q=>∃a xs,x=.ref a/\SqT K H a xs/\
 ¬ (HT.sIx xs.length 0 lo=0/\HT.sIx xs.length xs.length hi=xs.length)/\∀p,H p=none->Q (.ref p) (upd H p (.tup (lf xs lo hi)))
theorem vK:SlR X (Bh X.K):=by
 intro pins s σ H x v vl vu lo hi sl Q I rx hs pl pu h;obtain⟨a,xs,rfl,hx,hw,q⟩:=h;cases rx;obtain⟨its,r,ht,hz⟩:=I.tuple hx;have hlen:its.toArray.size=xs.length:=by rw[List.size_toArray];exact r.length.symm
 refine⟨"tuple",_,PyProof.Rows.slot_tuple_getitem.lookup,ht.typeIs,?_⟩;refine HT.getItem_tuple_cut ht hs pl pu (by rw[hlen];exact hw) ?_ (by rw[hlen];exact hz)
 rw[hlen];refine⟨.ref s.heap.objs.size,_,I.laid (t':=s.toks) (o:=.tup (lf xs lo hi)) (λb ob q=>Heap.get?_push_of_some _ q) (Nat.le_refl _) ?_,rfl,q _ (I.hok.fresh (Nat.le_refl _))⟩
 exact⟨Nat.le_trans (fm xs lo hi) hz,_,(r.drop (HT.sIx xs.length 0 lo)).take (HT.sIx xs.length xs.length hi - HT.sIx xs.length 0 lo),IsTup.new _ _⟩
noncomputable def yg(K:PySem.W.Frag):R2:=λx y H Q=>∃a b xs ys,x=.ref a/\y=.ref b/\SqT K H a xs/\SqT K H b ys/\xs≠[]/\xs.length+ys.length<=sizeLine/\
 (ys=[]->Q (.ref a) H)/\(ys≠[]->∀p,H p=none->Q (.ref p) (upd H p (.tup (xs++ys))))
theorem Vals.nil_iff(r:Vals xs us):us=[]<->xs=[]:=by
 cases r with
 |nil=>simp
 |cons _ _=>simp
theorem rK:OpR X (binaryOp .Add) (yg X.K):=by
 intro pins s σ H x y v u Q I rx ry h;obtain⟨a,b,xs,ys,rfl,rfl,ha,hb,hx,hz,q1,q2⟩:=h;cases rx;cases ry;obtain⟨its,r1,p1,_⟩:=I.tuple ha;obtain⟨its2,r2,p2,_⟩:=I.tuple hb;refine HT.cat_tup p1 p2 (λz=>hx (r1.nil_iff.mp z)) (λz=>⟨.ref a,H,I,rfl,q1 (r2.nil_iff.mp z)⟩) (λz=>?_) (by rw[<-r1.length,<-r2.length];exact hz)
 refine⟨.ref s.heap.objs.size,_,I.laid (t':=s.toks) (o:=.tup (xs++ys)) (λb ob q=>Heap.get?_push_of_some _ q) (Nat.le_refl _) ?_,rfl,q2 (λw=>z (r2.nil_iff.mpr w)) _ (I.hok.fresh (Nat.le_refl _))⟩
 exact⟨by rw[List.length_append];exact hz,_,r1.append r2,IsTup.new _ _⟩
end
end L2
namespace L2
open PySem PySem.Spec PyProof.Rows
noncomputable def ixN(n:Nat)(i:Int):Option Nat:=if 0<=i then (if i < n then some i.toNat else none) else if -(n:Int)<=i then some (i+n).toNat else none
noncomputable def atI(xs:List α)(i:Int):Option α:=(ixN xs.length i).bind λj=>xs[j]?
theorem ml(h:ixN n i=some j):seqIndex? i n=some j/\j < n/\-(n:Int)<=i/\i < n:=by
 unfold ixN at h;by_cases h0:0<=i
 ·rw[if_pos h0]at h;by_cases h1:i < n
  ·rw[if_pos h1]at h;have e:i.toNat=j:=Option.some.inj h;exact⟨by rw[seqIndex_of h0 h1,e],by omega,by omega,h1⟩
  ·rw[if_neg h1]at h;cases h
 ·rw[if_neg h0]at h;by_cases h1 : -(n:Int)<=i
  ·rw[if_pos h1]at h;have e:(i+n).toNat=j:=Option.some.inj h;exact⟨by rw[seqIndex_neg (by omega) h1,e],by omega,h1,by omega⟩
  ·rw[if_neg h1]at h;cases h
theorem jr{xs:List α}(h:atI xs i=some v):∃j,seqIndex? i xs.length=some j/\xs[j]?=some v/\j < xs.length/\-(xs.length:Int)<=i/\i < xs.length:=by
 unfold atI at h;cases e:ixN xs.length i with
 |none=>rw[e]at h;cases h
 |some j=>
  rw[e]at h;obtain⟨h1,h2,h3,h4⟩:=ml e;exact⟨j,h1,h,h2,h3,h4⟩
theorem fO{α:Type}{xs:List α}{j:Nat}{v:α}(h:xs[j]?=some v):atI xs (j:Int)=some v:=by
 have hj:j < xs.length:=(List.getElem?_eq_some_iff.mp h).1;have e:ixN xs.length (j:Int)=some j:=by
  unfold ixN;rw[if_pos (by omega),if_pos (by omega)];simp
 unfold atI;rw[e];exact h
noncomputable def jx(b:Expr):Prop:=∀o i,subscripted b false o i=operate [o,i] (getItem o i)
noncomputable def IxR(X:Cx)(r:R2):Prop:=
 ∀(value slice:Expr) (pins:List (Addr×Obj)) (s:Shared)(σ:St)(H:Hp)(x y:V)(v u:Value)(Q:VK),Inv X pins σ H s->RelV x v->RelV y u->r x y H Q->
  subscripted slice false v u=operate [v,u] (getItem v u)->wpAny (model X.prog X.w) X.A (subscriptTail value slice v u) (EP X pins σ Q) X.xe s
noncomputable def MtR(X:Cx)(id:String)(r:V->List V->Hp->VK->Prop):Prop:=
 ∀(pins:List (Addr×Obj)) (s:Shared)(σ:St)(H:Hp)(x:V)(xs:List V)(v:Value)(us:List Value)(Q:VK),Inv X pins σ H s->RelV x v->Vals xs us->r x xs H Q->
  wpAny (model X.prog X.w) X.A (call (.builtin id) (v::us)) (EP X pins σ Q) X.xe s
section
variable {X:Cx}{a:Expr}
theorem IxR.or(h:IxR X r)(h':IxR X r'):IxR X (λx y H Q=>r x y H Q\/r' x y H Q):=by
 intro value slice pins s σ H x y v u Q I rx ry q hs;rcases q with q|q
 ·exact h value slice pins s σ H x y v u Q I rx ry q hs
 ·exact h' value slice pins s σ H x y v u Q I rx ry q hs
theorem MtR.or{id:String}(h:MtR X id r)(h':MtR X id r'):MtR X id (λx xs H Q=>r x xs H Q\/r' x xs H Q):=by
 intro pins s σ H x xs v us Q I rx rs q;rcases q with q|q
 ·exact h pins s σ H x xs v us Q I rx rs q
 ·exact h' pins s σ H x xs v us Q I rx rs q
theorem yG(hr:IxR X r)(ha:PE X a ta)(hb:PE X b tb)(hs:jx b):PE X (.Subscript a b pos) (tOp r ta tb):=by
 intro pins s σ H Q I h;exact Subscript_ (tI ha hb I h λv u s2 x y H2 I2 rx ry q=>hr a b pins s2 σ H2 x y v u Q I2 rx ry q (hs _ _))
noncomputable def yT(K:PySem.W.Frag):R2:=λx y H Q=>∃p xs i v,x=.ref p/\y=.int i/\SqL K H p xs/\atI xs i=some v/\Q v H
noncomputable def wY(K:PySem.W.Frag):R2:=λx y H Q=>∃p xs i v,x=.ref p/\y=.int i/\SqT K H p xs/\atI xs i=some v/\Q v H
noncomputable def rIxS:R2:=λx y H Q=>∃z i c,x=.str z/\y=.int i/\z.length<=sizeLine/\atI z.cps.toList i=some c/\Q (.str ⟨#[c]⟩) H
theorem ix_list:IxR X (yT X.K):=by
 intro value slice pins s σ H x y v u Q I rx ry h hs;obtain⟨p,xs,i,z,rfl,rfl,hq,he,q⟩:=h;cases rx;obtain⟨t,rfl⟩:=ry;obtain⟨its,r,pl,hz⟩:=I.list hq;obtain⟨j,h1,h2,h3,h4,h5⟩:=jr he;obtain⟨w,ew,rw'⟩:=r.get h2;have hl:=r.length;have hn:=eL;have fin:EP X pins σ Q w s:=⟨z,H,I,rw',q⟩;by_cases h0:0<=i
 ·have hj:i.toNat=j:=by
   rw[seqIndex_of h0 h5]at h1;exact Option.some.inj h1
  exact item_listR pl.isList h0 (by omega) (by rw[hj];simpa using ew) fin hs
 ·have hj:(i+(its.toArray.size:Int)).toNat=j:=by
   rw[seqIndex_neg (by omega) h4]at h1
   rw[List.size_toArray,<-hl];exact Option.some.inj h1
  exact subscriptTail_builtinR (x:=w) pl.isList.typeIs slot_list_getitem.lookup
   (wpAny_getItem_list_neg (Q:=λr s'=>r=w/\EP X pins σ Q r s') pl.isList (by omega) (by rw[List.size_toArray]<;>omega) (by omega) (by rw[hj];simpa using ew) ⟨rfl,fin⟩) hs
theorem ix_tup:IxR X (wY X.K):=by
 intro value slice pins s σ H x y v u Q I rx ry h hs;obtain⟨p,xs,i,z,rfl,rfl,hq,he,q⟩:=h;cases rx;obtain⟨t,rfl⟩:=ry;obtain⟨its,r,pl,hz⟩:=I.tuple hq;obtain⟨j,h1,h2,h3,h4,h5⟩:=jr he;obtain⟨w,ew,rw'⟩:=r.get h2;have hl:=r.length;have hn:=eL;have fin:EP X pins σ Q w s:=⟨z,H,I,rw',q⟩;exact subscriptTail_builtinR (x:=w) pl.typeIs slot_tuple_getitem.lookup
  (getItem_tuple (j:=j) (Q:=λr s'=>r=w/\EP X pins σ Q r s') pl (by omega) (by omega) (by rw[List.size_toArray,<-hl];exact h1) (by simpa using ew) ⟨rfl,fin⟩) hs
theorem vL:IxR X rIxS:=by
 intro value slice pins s σ H x y v u Q I rx ry h hs;obtain⟨z,i,c,rfl,rfl,hz,he,q⟩:=h;obtain⟨t,rfl⟩:=rx;obtain⟨t',rfl⟩:=ry;obtain⟨j,h1,h2,h3,h4,h5⟩:=jr he;have hl:z.cps.toList.length=z.length:=by simp[Str.length]
 rw[hl]at h1 h4 h5;have hn:=eL;exact tail_any (typeIs_str s z t) slot_str_getitem.lookup (getItem_str (c:=c) (by
  have e1:decide (i < -(2 ^ 63:Int))=false:=decide_eq_false (by omega)
  have e2:decide (i>=2 ^ 63)=false:=decide_eq_false (by omega)
  rw[e1,e2,Bool.or_false]) (by rw[h1];simpa using h2) ⟨.str ⟨#[c]⟩,H,I.tok _,⟨_,rfl⟩,q⟩) hs
noncomputable def rIx(K:PySem.W.Frag):R2:=λx y H Q=>yT K x y H Q\/wY K x y H Q\/rIxS x y H Q
theorem vM:IxR X (rIx X.K):=ix_list.or (ix_tup.or vL)
theorem kX(its:List Value)(n j:Nat)(u:Value):Obj.mapSeq (·.setIfInBounds j u) {cls:=.type "list",data:=.seq its.toArray n}={cls:=.type "list",data:=.seq (its.set j u).toArray n}:=by
 simp[Obj.mapSeq]
theorem Inv.lst{s:Shared}(I:Inv X pins σ H s)(h:H p=some (.lst xs)) :
  ∃(its:List Value) (n:Nat),Vals xs its/\s.heap.get? p=some {cls:=.type "list",data:=.seq its.toArray n}/\xs.length<=sizeLine:=by
 obtain⟨z,its,n,r,e⟩:=I.hok p _ h;exact⟨its,n,r,e,z⟩
theorem Inv.lstUpd{pins:List (Addr×Obj)}{σ:St}{H:Hp}{s:Shared}{p:Addr}{xs ys:List V}{its its':List Value}{n n':Nat}{f:Obj->Obj}(I:Inv X pins σ H s)(h:H p=some (.lst xs))
  (ho:s.heap.get? p=some {cls:=.type "list",data:=.seq its.toArray n}) (hf:f {cls:=.type "list",data:=.seq its.toArray n}={cls:=.type "list",data:=.seq its'.toArray n'}) (r:Vals ys its') (hz:ys.length<=sizeLine) (t:Nat) (ht:0 < t:=by first|exact Nat.succ_pos _|assumption|exact Inv.tk (by assumption)|exact Env0.tk (by assumption)|exact Nat.lt_of_lt_of_le (Inv.tk (by assumption)) (Nat.le_add_right _ _)) :
  Inv X pins σ (upd H p (.lst ys)) {s with heap:=s.heap.update p f,toks:=t}:=by
 have e:(s.heap.update p f).get? p=some {cls:=.type "list",data:=.seq its'.toArray n'}:=by
  rw[Heap.get?_update_self f ho (by rw[hf]<;>rfl),hf]
 refine I.write (x:=p) (e:=p) (by rw[h];trivial) (.inl rfl) (λb u hb q=>(Heap.get?_update_other _ _ (Ne.symm hb)).trans q) ⟨_,e⟩ ?_
 exact⟨hz,its',n',r,e⟩
noncomputable def rSetL:V->V->V->Hp->(Hp->Prop)->Prop:=λo i v H Q=>∃p xs k j,o=.ref p/\i=.int k/\H p=some (.lst xs)/\ixN xs.length k=some j/\Q (upd H p (.lst (xs.set j v)))
theorem nJ:vd X rSetL:=by
 intro pins s σ H o i v ov iv u Q I ro ri rv h;obtain⟨p,xs,k,j,rfl,rfl,hp,hj,q⟩:=h;cases ro;obtain⟨t,rfl⟩:=ri;obtain⟨its,n,r,ho,hz⟩:=I.lst hp;obtain⟨h1,h2,h3,h4⟩:=ml hj;have hl:=r.length;have hn:=eL;have I':Inv X pins σ (upd H p (.lst (xs.set j v))) {s with heap:=s.heap.update p (Obj.mapSeq (·.setIfInBounds j u))}:=
  I.lstUpd hp ho (kX its n j u) (r.set rv j) (by rw[List.length_set];exact hz) s.toks
 by_cases h0:0<=k
 ·have hk:k.toNat=j:=by
   rw[seqIndex_of h0 h4]at h1;exact Option.some.inj h1
  exact PySem.W.ki_setAt ho h0 (by omega) (by rw[List.size_toArray,<-hl];exact h4) (by rw[hk];exact⟨_,I',q⟩)
 ·have hk:(k+(its.toArray.size:Int)).toNat=j:=by
   rw[seqIndex_neg (by omega) h3]at h1
   rw[List.size_toArray,<-hl];exact Option.some.inj h1
  exact PySem.W.ki_setBack ho (by omega) (by rw[List.size_toArray,<-hl];exact h3) (by omega) (by rw[hk];exact⟨_,I',q⟩)
theorem jf(lo hi:Option Int)(n:Nat):(sliceBounds lo hi none n).1=((HT.sIx n 0 lo:Nat):Int)/\(sliceBounds lo hi none n).2.1=((HT.sIx n n hi:Nat):Int)/\(sliceBounds lo hi none n).2.2=1:=by
 refine⟨?_,?_,rfl⟩
 ·cases lo with
  |none=>simp[sliceBounds,HT.sIx]
  |some i=>
   simp only[sliceBounds,HT.sIx,Option.getD_none,show (1:Int) > 0 by decide,if_true]
   by_cases h:i < 0
   ·simp only[h,if_true]<;>omega
   ·simp only[h,if_false]<;>omega
 ·cases hi with
  |none=>simp[sliceBounds,HT.sIx]
  |some i=>
   simp only[sliceBounds,HT.sIx,Option.getD_none,show (1:Int) > 0 by decide,if_true]
   by_cases h:i < 0
   ·simp only[h,if_true]<;>omega
   ·simp only[h,if_false]<;>omega
theorem g8(its:List Value)(lo hi:Option Int):slicePick its.toArray lo hi none=((its.drop (HT.sIx its.length 0 lo)).take (HT.sIx its.length its.length hi - HT.sIx its.length 0 lo)).toArray:=by
 obtain⟨h1,h2,h3⟩:=jf lo hi its.toArray.size;unfold slicePick;rw[h1,h2,h3];simp only[sliceRange_one,pick_run,List.size_toArray]<;>rfl
theorem jc:CallR X (.builtin "len") (λxs H Q=>∃p ys,xs=[.ref p]/\(SqL X.K H p ys\/SqT X.K H p ys)/\Q (.int ys.length) H):=by
 intro pins s σ H xs us Q I r h;obtain⟨p,ys,rfl,hq,q⟩:=h;obtain⟨u,rfl,rx⟩:=dn r;cases rx;have hn:=eL;rcases hq with hq|hq
 ·obtain⟨its,r',pl,hz⟩:=I.list hq;have hlen:=r'.length;exact Calls.call_len_list pl.isList (by simp only[List.size_toArray]<;>omega) ⟨.int ys.length,H,I.tok _,⟨s.toks+1,by rw[List.size_toArray,hlen]⟩,q⟩
 ·obtain⟨its,r',pl,hz⟩:=I.tuple hq;have hlen:=r'.length;exact len_tuple pl (by simp only[List.size_toArray]<;>omega) ⟨.int ys.length,H,I.tok _,⟨s.toks+1,by rw[List.size_toArray,hlen]⟩,q⟩
theorem jp:CallR X (.builtin "len") (λxs H Q=>∃z,xs=[.str z]/\z.length<=sizeLine/\Q (.int z.length) H):=by
 intro pins s σ H xs us Q I r h;obtain⟨z,rfl,hz,q⟩:=h;obtain⟨u,rfl,t,rfl⟩:=dn r;have hn:=eL;exact len_str (by omega) ⟨.int z.length,H,I.tok _,⟨_,rfl⟩,q⟩
theorem CallR.or(h:CallR X f r)(h':CallR X f r'):CallR X f (λxs H Q=>r xs H Q\/r' xs H Q):=by
 intro pins s σ H xs us Q I rs q;rcases q with q|q
 ·exact h pins s σ H xs us Q I rs q
 ·exact h' pins s σ H xs us Q I rs q
theorem jh:CallR X (.type "list") (λxs H Q=>∃p ys,xs=[.ref p]/\(SqL X.K H p ys\/SqT X.K H p ys)/\∀l,H l=none->Q (.ref l) (upd H l (.lst ys))):=by
 intro pins s σ H xs us Q I r h;obtain⟨p,ys,rfl,hq,q⟩:=h;obtain⟨u,rfl,rx⟩:=dn r;cases rx;have fin:∀(its:List Value),Vals ys its->ys.length<=sizeLine->∀(h':Heap)(c':Nat),(∀b o',s.heap.get? b=some o'->h'.get? b=some o')->
   h'.get? s.heap.objs.size=some {cls:=.type "list",dict:=none,data:=.seq its.toArray c',slots:=#[]}->EP X pins σ Q (.ref s.heap.objs.size) {s with heap:=h'}:=λits r' hz h' c' kp e=>
  ⟨.ref s.heap.objs.size,_,I.laid (t':=s.toks) kp (Nat.le_refl _) (show ObjOk X.prog X.w _ h' _ (.lst ys) from⟨hz,its,c',r',e⟩),rfl,q _ (I.hok.fresh (Nat.le_refl _))⟩
 rcases hq with hq|hq
 ·obtain⟨its,r',pl,hz⟩:=I.list hq;have hlen:=r'.length;obtain⟨o,ho,hc,n,hd⟩:=pl.isList;exact call_list_seq p (.inl rfl) ho hc hd (λh' c' kp e=>fin its r' hz h' c' kp e) (by simp only[List.size_toArray]<;>omega)
 ·obtain⟨its,r',pl,hz⟩:=I.tuple hq;have hlen:=r'.length;obtain⟨o,ho,hc,n,hd⟩:=pl;exact call_list_seq p (.inr rfl) ho hc hd (λh' c' kp e=>fin its r' hz h' c' kp e) (by simp only[List.size_toArray]<;>omega)
theorem ik:CallR X (.type "tuple") (λxs H Q=>∃p ys,xs=[.ref p]/\((SqL X.K H p ys/\∀l,H l=none->Q (.ref l) (upd H l (.tup ys)))\/(SqT X.K H p ys/\Q (.ref p) H))):=by
 intro pins s σ H xs us Q I r h;obtain⟨p,ys,rfl,h⟩:=h;obtain⟨u,rfl,rx⟩:=dn r;cases rx;rcases h with ⟨hq,q⟩|⟨hq,q⟩
 ·obtain⟨its,r',pl,hz⟩:=I.list hq;have hlen:=r'.length;refine call_tuple_list pl.isList (λh' kp=>?_) (by simp only[List.size_toArray]<;>omega)
  have I1:Inv X pins σ H {s with heap:=h'}:=I.kept (t':=s.toks) kp
  have I2:Inv X pins σ (upd H h'.objs.size (.tup ys)) {s with heap:=h'.push {cls:=.type "tuple",data:=.seq its.toArray}}:=
   I1.laid (t':=s.toks) (λb o e=>Heap.get?_push_of_some _ e) (Nat.le_refl _) (show ObjOk X.prog X.w _ _ _ (.tup ys) from⟨hz,its,r',IsTup.new _ _⟩)
  exact⟨.ref h'.objs.size,_,I2,rfl,q _ (I1.hok.fresh (Nat.le_refl _))⟩
 ·obtain⟨its,r',pl,hz⟩:=I.tuple hq;exact call_tuple_same pl ⟨.ref p,H,I,rfl,q⟩
noncomputable def tyV(K:PySem.W.Frag)(T:String)(x:V)(H:Hp):Prop:=match x with
 |.str _=>T = "str"
 |.int _=>T = "int"
 |.ref p=>(T = "list"/\∃xs,SqL K H p xs)\/(T = "tuple"/\∃o,K.lookup p=some o/\o.cls=.type "tuple"/\o.dict=none)\/
   (T = "dict"/\((∃kvs,H p=some (.dK kvs))\/∃kvs,H p=some (.dT kvs)))\/(T = "set"/\∃S n,H p=some (.set S n))
 |_=>False
theorem vz{s:Shared}(I:Inv X pins σ H s)(r:RelV x v)(ty:tyV X.K T x H) :
  s.TypeIs v T/\∀a,v=.ref a->∃ob,s.heap.get? a=some ob/\ob.dict=none:=by
 cases x with
 |str z=>
  obtain⟨t,rfl⟩:=r;cases (show T = "str" from ty);exact⟨typeIs_str s z t,λ_ e=>nomatch e⟩
 |int i=>
  obtain⟨t,rfl⟩:=r;cases (show T = "int" from ty);exact⟨typeIs_int s i t,λ_ e=>nomatch e⟩
 |ref p=>
  cases r;rcases ty with ⟨rfl,xs,hq⟩|⟨rfl,o,hk,hc,hd⟩|⟨rfl,hk⟩|⟨rfl,S,n,hk⟩
  ·obtain⟨its,_,pl,_⟩:=I.list hq;refine⟨pl.isList.typeIs,λa e=>?_⟩
   cases e;obtain⟨o,n,e,c,hd,_⟩:=pl;exact⟨o,e,hd⟩
  ·refine⟨⟨o,I.kIn p o hk,hc⟩,λa e=>?_⟩
   cases e;exact⟨o,I.kIn _ o hk,hd⟩
  ·have z:∃o,s.heap.get? p=some o/\o.ExactDict:=by
    rcases hk with ⟨kvs,hk⟩|⟨kvs,hk⟩
    ·obtain⟨_,_,_,_,o,_,_,e,ex,_⟩:=I.hok p _ hk;exact⟨o,e,ex⟩
    ·obtain⟨_,_,_,_,o,_,_,e,ex,_⟩:=I.hok p _ hk;exact⟨o,e,ex⟩
   obtain⟨o,e,ex⟩:=z;refine⟨⟨o,e,ex.1⟩,λa e2=>?_⟩
   cases e2;exact⟨o,e,ex.2.1⟩
  ·obtain⟨o,_,_,_,e,ex,_⟩:=I.hok p _ hk;refine⟨⟨o,e,ex.1⟩,λa e2=>?_⟩
   cases e2;exact⟨o,e,ex.2.1⟩
 |_=>exact False.elim ty
noncomputable def tBM(K:PySem.W.Frag)(T:String)(r:V->List V->Hp->VK->Prop)(to:TE)(t:TA):TE:=λσ H Q=>to σ H λx H1=>tyV K T x H1/\t σ H1 λxs H2=>r x xs H2 Q
variable {o:Expr}{id:String}
theorem wX(pa:PlainAttrs T)(slot:Slot T name id)(hty:typeOf (.builtin id)=pure (.type "method_descriptor"))(hm:MtR X id r)(ho:PE X o to)(ha:PA X (e::es) t)
  (hbase:attributeBase o name X.env (eval o X.env)=eval o X.env:=by rfl)
  (hfew:((backTo cpos (starEach (e::es) X.env)).all (λx=>!x.1)&&(backToKw cpos (keywordEach [] X.env)).all (λx=>x.1.isSome)
   &&decide ((e::es).length+([]:List Keyword).length+(if ([]:List Keyword).isEmpty then 0 else 1) < 30))=true:=by rfl)
  (hline:(apos.endLine == cpos.line)=true:=by rfl) (hs:starEach (e::es) X.env=(false,eval e X.env)::starEach es X.env:=by rfl) (hplain:(backTo cpos (starEach es X.env)).any (·.1)=false:=by rfl) :
  PE X (.Call (.Attribute o name apos) (e::es) [] cpos) (tBM X.K T r to t):=by
 intro pins s σ H Q I h;refine wpAny_Call_method_late hbase hfew hline rfl (thn (ho pins s σ H _ I h) λv s1 ⟨x,H1,I1,r1,ty,q1⟩=>?_)
 obtain⟨h1,h2⟩:=vz I1 r1 ty;refine⟨T,id,pa,slot,hty,h1,h2,?_⟩;have hA:=ha cpos pins s1 σ H1 _ I1 q1;rw[hs]at hA ⊢;refine Calls.callWith_builtin (by show (false||(backTo cpos (starEach es X.env)).any (·.1))=false;rw[hplain]<;>rfl) (Calls.evalArgs_plain ?_)
 exact thn hA λus s2 ⟨vs,H2,I2,r2,q2⟩=>hm pins s2 σ H2 x vs v us Q I2 r1 r2 q2
end
end L2
namespace L2
open PySem PySem.Spec PyProof.Rows
noncomputable def MtM(X:Cx)(id:String)(r:V->List V->Hp->VK->Prop):Prop:=
 ∀(pins:List (Addr×Obj)) (s:Shared)(σ:St)(H:Hp)(x:V)(xs:List V)(v:Value)(us:List Value)(Q:VK),Inv X pins σ H s->RelV x v->Vals xs us->r x xs H Q->
  wpAny (model X.prog X.w) X.A (call (.builtin id) (v::us)) (EP X pins σ Q) X.xe s
theorem Vals.one:∀{x:V}{us:List Value},Vals [x] us->∃u,us=[u]/\RelV x u
 |_,_,.cons r .nil=>⟨_,rfl,r⟩
theorem Vals.two:∀{x y:V}{us:List Value},Vals [x,y] us->∃u v,us=[u,v]/\RelV x u/\RelV y v
 |_,_,_,.cons r (.cons q .nil)=>⟨_,_,rfl,r,q⟩
theorem Vals.zero:∀{us:List Value},Vals [] us->us=[]
 |_,.nil=>rfl
theorem Vals.reverse{xs:List V}{us:List Value}(h:Vals xs us):Vals xs.reverse us.reverse:=by
 induction h with
 |nil=>exact .nil
 |cons r t ih=>rw[List.reverse_cons,List.reverse_cons];exact Vals.append ih (.cons r .nil)
section
variable {X:Cx}{s:Shared}{l:Addr}{xs ys:List V}
theorem Inv.lset{its its':List Value}{n:Nat}{f:Array Value->Array Value}{t':Nat}(I:Inv X pins σ H s)(hH:H l=some (.lst xs))
  (e:s.heap.get? l=some {cls:=.type "list",data:=.seq its.toArray n}) (hf:f its.toArray=its'.toArray) (hv:Vals ys its') (hz:ys.length<=sizeLine) (ht:0 < t':=by first|exact Nat.succ_pos _|assumption|exact Inv.tk (by assumption)|exact Env0.tk (by assumption)|exact Nat.lt_of_lt_of_le (Inv.tk (by assumption)) (Nat.le_add_right _ _)) :
  Inv X pins σ (upd H l (.lst ys)) {s with heap:=s.heap.update l (Obj.mapSeq f),toks:=t'}:=by
 have q:=PySem.IsL.update e f;rw[hf]at q;refine I.write (x:=l) (e:=l) (by rw[hH];exact trivial) (.inl rfl) (λb' u hb hu=>(Heap.get?_update_other s.heap (Obj.mapSeq f) (Ne.symm hb)).trans hu) ⟨_,q⟩ ?_
 exact⟨hz,its',_,hv,q⟩
theorem Inv.lnew(I:Inv X pins σ H s)(hv:Vals ys its)(hz:ys.length<=sizeLine)(ht:0 < t':=by first|exact Nat.succ_pos _|assumption|exact Inv.tk (by assumption)|exact Env0.tk (by assumption)|exact Nat.lt_of_lt_of_le (Inv.tk (by assumption)) (Nat.le_add_right _ _)) :
  Inv X pins σ (upd H s.heap.objs.size (.lst ys)) {s with heap:=s.heap.push {cls:=.type "list",data:=.seq its.toArray},toks:=t'}:=
 I.laid (λ_ _ q=>Heap.get?_push_of_some _ q) (Nat.le_refl _) ⟨hz,its,0,hv,Heap.get?_push_size _ rfl⟩
theorem Inv.fresh(I:Inv X pins σ H s):H s.heap.objs.size=none:=I.hok.fresh (Nat.le_refl _)
theorem Inv.lstM(I:Inv X pins σ H s)(hH:H l=some (.lst xs)):xs.length<=sizeLine/\∃(its:List Value) (n:Nat),Vals xs its/\xs.length=its.length/\s.heap.get? l=some {cls:=.type "list",data:=.seq its.toArray n}:=by
 obtain⟨z,its,n,r,e⟩:=I.hok l _ hH;exact⟨z,its,n,r,r.length,e⟩
end
section
variable {X:Cx}
noncomputable def rAppend:V->List V->Hp->VK->Prop:=λx vs H Q=>∃l xs y,x=.ref l/\vs=[y]/\H l=some (.lst xs)/\xs.length < sizeLine/\Q .non (upd H l (.lst (xs++[y])))
theorem iA:MtM X "list.append" rAppend:=by
 intro pins s σ H x vs v us Q I rx rv h;obtain⟨l,xs,y,rfl,rfl,hH,hz,q⟩:=h;cases rx;obtain⟨u,rfl,ru⟩:=rv.one;obtain⟨z,its,n,r,hl,e⟩:=I.lstM hH;refine call_meets F.slot_list_append ⟨_,e,rfl⟩ F.entry_list_append (F.args_list_append_2 _ _) (PySem.list_append l its.toArray n u (by rw[List.size_toArray];omega)) ⟨e,?_⟩
 refine⟨.non,_,I.lset (its':=its++[u]) hH e (by simp) (r.append (.cons ru .nil)) ?_,rfl,q⟩
 rw[List.length_append,List.length_singleton];omega
end
section
variable {w:World}{A:Around}{s:Shared}
set_option maxRecDepth 100000 in
end
section
variable {X:Cx}
end
end L2
namespace Att
open PySem PySem.W PySem.Calls PyProof.Rows
theorem fw:∀(ns:List Int)(vs:List Value),WellAll P h vs (ns.map WData.int)->IntsAre vs ns:=by
 intro ns
 induction ns with
 |nil=>
  intro vs w;rw[List.map_nil]at w;cases w;exact .nil
 |cons n ns ih=>
  intro vs w;rw[List.map_cons]at w;cases w with
  |cons a b=>
   cases a;exact .cons _ _ (ih _ b)
theorem script_of{l:OpenLaw}(hn:l.most=some n){h:Heap}
  (hpre:l.row.toRowW.claim.pre args=true) (hwl:WellAll P h vals args) :
  ∃a vs ns,vals=[Value.ref a]/\args=[WData.list (ns.map WData.int)]/\h.get? a=some {cls:=.type "list",data:=.seq vs.toArray}/\IntsAre vs ns/\ns.length<=n:=by
 have hsh:WShape.hasAll [] args [.list .int]=true:=(pre_splitW hpre).1;have hc:l.pre.holds [] {args:=args}=true:=(pre_splitW hpre).2;obtain⟨d,r,rfl,h1,h2⟩:=hasAllW_cons hsh;obtain rfl:=hasAllW_nil h2;obtain⟨xs,rfl,h3⟩:=hasW_list h1;obtain⟨ns,rfl⟩:=items_int h3;have hlen:ns.length<=n:=by
  unfold OpenLaw.pre at hc;have h4:(WTm.not (.lt (.lit (.int (n:Int))) (.len (.arg 0)))).holds [] {args:=[.list (ns.map .int)]}=true:=by
   have h4:=(holds_andW hc).1;rw[hn]at h4;exact h4
  have h5:=condW_of h4 (w_not (w_lt w_lit (w_len_list (w_arg rfl))));rw[List.length_map]at h5;refine Nat.le_of_not_lt λq=>?_
  have q':(n:Int) < ((ns.length:Nat):Int):=by omega
  first
   |(rw[decide_eq_true q']at h5;exact absurd h5 (by decide))
   |(simp at h5;omega)
 cases hwl with
 |cons w1 w2=>
  cases w2;cases w1 with
  |list ho hall=>exact⟨_,_,ns,rfl,rfl,ho,fw ns _ hall,hlen⟩
theorem post_true(l:OpenLaw)(args:List WData):l.row.toRowW.claim.post args (.bool true) args=true:=
 postW_of (r:=l.row.toRowW) (X:=(true == true))
  (show WShape.has [] (.bool true) .bool=true by first|rfl|decide|simp[WShape.has,WShape.arms,WShape.armsAll])
  (show (WTm.eq .res (.lit (.bool true))).value [] {args:=args,res:=some (.bool true),after:=args}=some (.bool (true == true)) from w_eq_bool (w_res rfl) w_lit) rfl
section
variable {w:World}{A:Around}{s:Shared}{K:Frag}
end
end Att
namespace L2
open PySem PySem.Spec PyProof.Rows
theorem eU:∀{vs:List Value}{ns:List Int},IntsAre vs ns->Vals (ns.map V.int) vs
 |_,_,.nil=>.nil
 |_,_,.cons n t h=>.cons ⟨t,rfl⟩ (eU h)
noncomputable def yH(H:Hp):Prop:=∀b,H b=none\/∃o xs,H b=some (.frz o (.lst xs))
theorem ow{K:PySem.W.Frag}{s₁:Shared}
  (KX:K.In s₁.heap)(hns:s₁.heap.Ns mainGlobals mg)(hb:s₁.heap.Ns builtinsNs mb) (hbb:∀x:Str,x≠"__name__"->mb x=bootBuiltins x) (hlim:s₁.heap.NoLimit) (hg:s₁.gens=#[]) (htk:0 < s₁.toks)
  (ha:s₁.heap.get? a=some {cls:=.type "list",data:=.seq vs.toArray}) (hi:IntsAre vs ns) (hl:ns.length<=sizeLine) (hr:Room k callerA)
  (F:∀base:Heap,K.In base->base.Ns mainGlobals mg->FnOk P w K mg base CX k fa fd [x] sp) (hbind:∀(s:Shared)(u:Value),BindsTo s fd ⟨[u],[]⟩ [(x,u)])
  (hsp:∀H:Hp,yH H->SqL K H a (ns.map V.int)->sp [.ref a] H (λv _=>v=.bl true) λ_ _ _=>False)
  (hCX:∀H e s',CX [] H s₁ (λ_ _ _=>False) e s'->False) :
  codeAny (model P w) callerA (.call (.ref fa) ⟨[.ref a],[]⟩) (λr s'=>r=.ok (.ret (.bool true))/\OldK s₁.heap s'.heap/\s'.os=s₁.os/\AllBare s'.gens) s₁:=by
 have rv:=eU hi;have lenV:=hi.length;have core:∀H:Hp,yH H->SqL K H a (ns.map V.int)->HOk P w H s₁.heap->(∀b,H b≠none->b=a)->(H a≠none->K.lookup a=none)->
   codeAny (model P w) callerA (.call (.ref fa) ⟨[.ref a],[]⟩) (λr s'=>r=.ok (.ret (.bool true))/\OldK s₁.heap s'.heap/\s'.os=s₁.os/\AllBare s'.gens) s₁:=by
  intro H hO hS hok hA hK;have base_of:∀{b:Addr}{o:Obj},s₁.heap.get? b=some o->H b=none->(ji s₁.heap H).get? b=some o:=λe n=>pS e n
  have noA:∀{b:Addr}{o:Obj}{es:Array DictEntry}{ep:Nat},s₁.heap.get? b=some o->o.data=.dict es ep->H b=none:=λ{b o es ep} e d=>by
   cases q:H b with
   |none=>rfl
   |some u=>
    have e':b=a:=hA b (by rw[q];simp)
    subst e';rw[ha]at e;cases e;have d':Data.seq vs.toArray _=Data.dict es ep:=d;cases d'
  have nsK:∀{b:Addr}{m:Str->Option Value},s₁.heap.Ns b m->(ji s₁.heap H).Ns b m:=λ{b m} ⟨o,es,ep,e,d,r⟩=>⟨o,es,ep,base_of e (noA e d),d,r⟩
  have hKb:K.In (ji s₁.heap H):=λb o e=>base_of (KX b o e) (by
   cases q:H b with
   |none=>rfl
   |some u=>
    have e':b=a:=hA b (by rw[q];simp)
    subst e';rw[hK (by rw[q];simp)]at e;cases e)
  have hM:Mod K mg (ji s₁.heap H):=⟨hKb,nsK hns,⟨mb,nsK hb,hbb⟩,let ⟨mc,h1,h2⟩:=hlim;⟨mc,nsK h1,h2⟩⟩
  have e0:Env0 P w K mg (ji s₁.heap H) callerA [] s₁ H:=⟨rfl,hM,λb o e=>qy e,Nat.le_of_eq (mM _ _),trivial,λb hb=>absurd (show b∈([]:List Addr) from hb) (by simp),hok,.of_eq hg,htk⟩
  refine codeAny_mono ((F _ hKb (nsK hns)).run callerA [] s₁ H ⟨[.ref a],[]⟩ [.ref a] [.ref a] _ _ hr e0 (hbind s₁ (.ref a)) (.cons rfl .nil) (hsp H hO hS)) λr s' h=>?_
  cases r with
  |error e=>exact (hCX H e s' h).elim
  |ok fl=>
   cases fl with
   |next=>exact False.elim h
   |brk=>exact False.elim h
   |cont=>exact False.elim h
   |ret u=>
    obtain⟨v,H',os,bare,un,hok',r',q⟩:=h;have q':v=.bl true:=q;subst q';obtain rfl:u=Value.bool true:=r';refine⟨rfl,OldK.of_keep λb o e=>?_,os.1,bare⟩
    cases q:H b with
    |none=>exact un.keep b o e q (by intro z;exact absurd (show b∈([]:List Addr) from z) (by simp)) (by simp)
    |some u=>
     rcases hO b with z|⟨ob,xs,z⟩
     ·rw[q]at z;cases z
     ·have z2:=un.frzs b ob _ z;obtain⟨e1,_⟩:=hok b _ z;obtain⟨e2,_⟩:=hok' b _ z2;rw[e]at e1;cases e1;exact e2
 cases hk:K.lookup a with
 |some o=>
  have e:=KX a o hk;rw[ha]at e;cases e;refine core (λ_=>none) (λ_=>.inl rfl) (.inr ⟨_,vs.toArray,_,hk,rfl,rfl,rfl,by rw[List.size_toArray,lenV];exact hl,by simpa using rv⟩) (λb u z=>by have z':(none:Option HO)=some u:=z;cases z') (λb z=>absurd rfl z) λz=>absurd rfl z
 |none=>
  refine core (λb=>if b=a then some (.frz {cls:=.type "list",data:=.seq vs.toArray} (.lst (ns.map V.int))) else none) (λb=>?_) (.inl (.inr ⟨{cls:=.type "list",data:=.seq vs.toArray},if_pos rfl⟩)) (λb u z=>?_) (λb z=>?_) λ_=>hk
  ·by_cases hb:b=a
   ·exact .inr ⟨_,_,if_pos hb⟩
   ·exact .inl (if_neg hb)
  ·by_cases hb:b=a
   ·have z':=(if_pos hb).symm.trans z;cases z';subst hb;exact⟨ha,by rw[List.length_map];exact hl,vs,_,rv,ha⟩
   ·have z':=(if_neg hb).symm.trans z;cases z'
  ·by_cases hb:b=a
   ·exact hb
   ·exact absurd (if_neg hb) z
end L2
namespace L2
open PySem PySem.Spec PyProof.Rows
end L2
namespace L2
open PySem PySem.Spec PyProof.Rows
noncomputable def dX(s:Stmt):Arguments:=match s with
 |.FunctionDef _ a _ _ _ _ _ _ _ _=>a
 |_=>{posonlyargs:=[],args:=[],vararg:=none,kwonlyargs:=[],kw_defaults:=[],kwarg:=none,defaults:=[]}
noncomputable def db(s:Stmt):List Stmt:=match s with
 |.FunctionDef _ _ b _ _ _ _ _ _ _=>b
 |_=>[]
noncomputable def bt(s:Stmt):Scope:=match s with
 |.FunctionDef _ _ _ _ _ _ sc _ _ _=>sc
 |_=>{kind:=.function,names:=[],isGenerator:=false,isCoroutine:=false}
section
variable {K:PySem.W.Frag}
end
section
variable {X:Cx}
end
section
variable {κ:Type} [DecidableEq κ]
end
end L2
set_option maxHeartbeats 4000000
namespace L2
open PySem PySem.Spec PyProof.Rows
noncomputable def DA(h:Heap)(e:Addr)(d:Option Addr):Prop:=∃o,h.get? e=some o/\o.dict=d
theorem gQ(f:Array Value->Array Value)(o:Obj):(Obj.mapFields f o).dict=o.dict:=by
 obtain⟨c,d,x,sl⟩:=o;cases x<;>rfl
section
variable {A:Around}{s:Shared}{base:Heap}{env:Env}
theorem jt{oe:Obj}{vs:Array Value}(hfr:A.frames=some (env::outer))(hl:s.heap.FunFrames base (env::outer))(hf:env.frame=some L)(he:s.heap.get? e=some oe)(hkb:base.StaysIn s.heap)(hen:base.get? e=none)
  (hd:oe.data=.fields vs) (hsz:1 < vs.size) (h0:vs[0]?=some a0) (k:∀h',Heap.NotedW base (env::outer) e oe.cls a0 (rawInt L) s.heap h'->DA h' e oe.dict->Q () {s with heap:=h'}) :
  wpAny M A (do let fr<-frameOf env;let pl<-entryPlaceOf L hadNext;let t<-EntryCells.newEntry head fr .none (rawInt L) .none pl;setField (.ref e) 1 t) Q E s:=by
 have out:e∉(env::outer).filterMap (·.frame):=λz=>by
  obtain⟨_,o,ho,nf⟩:=hl.mem z;cases he.symm.trans ho;exact nf vs hd
 refine wpAny_bind (wpAny_frameOf_fun hfr hl hf λg1 sl1=>wpAny_bind (wpAny_entryPlaceOf λpl hpl=>?_))
 unfold EntryCells.newEntry newFields;refine wpAny_bind (wpAny_newObj_type ?_ (hpl.sizeOk5 _ _ _ _ _));generalize hT:({cls:=.type "traceback",dict:=none,data:=.fields ([head,.ref L,.none,rawInt L,.none]++(if pl.isEmpty then List.replicate 6 Value.none else pl)).toArray}:Obj)=oT
 have e1:g1.get? e=some oe:=(sl1.2.1 e out).trans he;have b1:base.StaysIn g1:=λb o q=>(sl1.2.1 b λz=>by rw[(hl.mem z).1]at q;cases q).trans (hkb b o q)
 have e2:(g1.push oT).get? e=some oe:=Heap.get?_push_of_some oT e1;refine wpAny_setField e2 hd hsz (k _ ?_ ?_)
 ·have ne:g1.objs.size≠e:=Nat.ne_of_gt (Heap.lt_size e1);have d3:=Obj.data_mapFields hd (·.setIfInBounds 1 (Value.ref g1.objs.size));have e3:=Heap.get?_update_self (Obj.mapFields (·.setIfInBounds 1 (Value.ref g1.objs.size))) e2 (Obj.isFreed_of_fields d3);have t3:(g1.push oT).get? g1.objs.size=some oT:=Heap.get?_push_size g1 (by rw[<-hT];rfl)
  have t4:((g1.push oT).update e (Obj.mapFields (·.setIfInBounds 1 (Value.ref g1.objs.size)))).get? g1.objs.size=some oT:=(Heap.get?_update_other _ _ (Ne.symm ne)).trans t3;have stay:∀b o,b≠e->g1.get? b=some o->((g1.push oT).update e (Obj.mapFields (·.setIfInBounds 1 (Value.ref g1.objs.size)))).get? b=some o:=λb o n q=>
   (Heap.get?_update_other _ _ (Ne.symm n)).trans (Heap.get?_push_of_some oT q)
  have other:∀b o,s.heap.get? b=some o->(∀ws,o.data≠.fields ws)->b≠e:=λb o q nf z=>by
   subst z;cases he.symm.trans q;exact nf vs hd
  refine⟨λb o q=>stay b o (λz=>by rw[z,hen]at q;cases q) (b1 b o q),hl.of_keeps λb o q nf=>?_,⟨_,_,g1.objs.size,oT,_,e3,⟨Obj.cls_mapFields _ _,?_⟩,d3,by simp[hsz],b1.fresh,ne,t4,by rw[<-hT],?_⟩,λb o q nf=>?_⟩
  ·obtain⟨sl,z⟩:=sl1.2.2 b o q;exact⟨_,stay b _ (other b o q nf) z,rfl⟩
  ·rw[Array.getElem?_setIfInBounds_ne (by decide)];exact h0
  ·first|(simp;done)|(rcases hpl with rfl|⟨_,_,_,_,_,_,_,rfl⟩<;>simp)
  ·obtain⟨sl,z⟩:=sl1.2.2 b o q;exact⟨sl,stay b _ (other b o q nf) z⟩
 ·have d3:=Obj.data_mapFields hd (·.setIfInBounds 1 (Value.ref g1.objs.size));exact⟨_,Heap.get?_update_self (Obj.mapFields (·.setIfInBounds 1 (Value.ref g1.objs.size))) e2 (Obj.isFreed_of_fields d3),gQ _ _⟩
theorem cV(hkb:base.StaysIn s.heap)(hl:s.heap.FunFrames base l)(ht:s.heap.TracedAtW base e cls a0 fl)(hd:DA s.heap e d)
  (k:∀h',base.StaysIn h'->h'.FunFrames base l->h'.TracedW base e cls a0->s.heap.UpToSlots h'->DA h' e d->Q () {s with heap:=h'}):wpAny M A (setFlight (.ref e) none) Q E s:=by
 obtain⟨oe,vs,T,oT,ts,he,hc,hv,h1,nT,ne,hT,dT,h3⟩:=ht;obtain⟨oe',he',hd⟩:=hd;cases he.symm.trans he';have sz:3 < ts.size:=(Array.getElem?_eq_some_iff.mp h3).1;unfold setFlight;refine wpAny_bind (wpAny_field he hv h1 ?_);rw[if_pos (by simp:(Value.ref T != Value.none)=true)]
 have oth:∀b,b≠T->(s.heap.update T (Obj.mapFields (·.setIfInBounds 3 ((none:Option Addr).elim Value.none λf=>rawInt f)))).get? b=s.heap.get? b:=λb n=>Heap.get?_update_other _ _ (Ne.symm n)
 have plain:∀b o,s.heap.get? b=some o->(∀ws,o.data≠.fields ws)->b≠T:=λb o q nf z=>by
  subst z;cases hT.symm.trans q;exact nf ts dT
 have ee:=(oth e (Ne.symm ne)).trans he;refine wpAny_setField hT dT sz (k _ (λb o q=>(oth b λz=>by rw[z,nT]at q;cases q).trans (hkb b o q)) (hl.of_keeps λb o q nf=>⟨o,(oth b (plain b o q nf)).trans q,rfl⟩) ⟨oe,vs,T,_,_,ee,hc,hv,h1,nT,ne,Heap.get?_update_self _ hT (Obj.isFreed_of_fields (Obj.data_mapFields dT _)),Obj.data_mapFields dT _,by simp[sz]⟩
  (λb o q nf=>⟨o.slots,(oth b (plain b o q nf)).trans q⟩) ⟨oe,ee,hd⟩)
theorem kY(hfr:A.frames=some (env::outer))(hf:env.frame=some L)(fl:Heap.FlyingW base (env::outer) e cls a0 s.heap)(hd:DA s.heap e d)
  (k:∀h',Heap.HeldW base (env::outer) e cls a0 L h'->s.heap.UpToSlots h'->DA h' e d->Q () {s with heap:=h'}):wpAny M A (noteFrame (.ref e) env) Q E s:=by
 obtain⟨hkb,hen,hl,oe,vs,T,oT,ts,he,⟨rfl,h0⟩,hv,h1,nT,ne,hT,dT,h3⟩:=fl;obtain⟨oe',he',rfl⟩:=hd;cases he.symm.trans he';unfold noteFrame;simp only[hf];refine wpAny_bind (wpAny_field he hv h1 ?_);rw[if_pos (by simp:(Value.ref T != Value.none)=true)]
 refine wpAny_bind (wpAny_field hT dT h3 ?_);rw[if_neg (by simp[rawInt]:¬ ((Value.none == rawInt L)=true))]
 refine wpAny_bind (wpAny_setField hT dT (Array.getElem?_eq_some_iff.mp h3).1 ?_);have oth:∀b,b≠T->(s.heap.update T (Obj.mapFields (·.setIfInBounds 3 Value.none))).get? b=s.heap.get? b:=λb n=>Heap.get?_update_other _ _ (Ne.symm n)
 have plain:∀b o,s.heap.get? b=some o->(∀ws,o.data≠.fields ws)->b≠T:=λb o q nf z=>by
  subst z;cases hT.symm.trans q;exact nf ts dT
 exact jt hfr (hl.of_keeps λb o q nf=>⟨o,(oth b (plain b o q nf)).trans q,rfl⟩) hf ((oth e (Ne.symm ne)).trans he) (λb o q=>(oth b λz=>by rw[z,nT]at q;cases q).trans (hkb b o q)) hen hv (Array.getElem?_eq_some_iff.mp h1).1 h0
  λh' ⟨x1,x2,x3,x4⟩ dd=>k h' ⟨x1,hen,x2,x3⟩ (λb o q nf=>x4 b o ((oth b (plain b o q nf)).trans q) nf) dd
theorem mv(hh:Heap.HeldW base l e cls a0 L s.heap)(hd:DA s.heap e d)(k:∀h',Heap.FlyingW base l e cls a0 h'->s.heap.UpToSlots h'->DA h' e d->Q () {s with heap:=h'}):wpAny M A (setFlight (.ref e) none) Q E s:=
 cV hh.1 hh.2.2.1 hh.2.2.2 hd λh' k1 k2 k3 k4 k5=>k h' ⟨k1,hh.2.1,k2,k3⟩ k4 k5
theorem mz(fl:Heap.FlyingW base l e cls a0 s.heap)(hd:DA s.heap e d)(k:∀h',Heap.FlyingW base l e cls a0 h'->s.heap.UpToSlots h'->DA h' e d->Q () {s with heap:=h'}):wpAny M A (setFlight (.ref e) none) Q E s:=
 cV fl.1 fl.2.2.1 fl.2.2.2.at hd λh' k1 k2 k3 k4 k5=>k h' ⟨k1,fl.2.1,k2,k3⟩ k4 k5
theorem aV{h:Heap}(x:h.FunFrames base (env::outer)):h.FunFrames base outer:=x.2.2
theorem pr(hfr:A.frames=some (env::outer))(hf:env.frame=some L)(fl:Heap.FlyingW base (env::outer) e cls a0 s.heap)(hd:DA s.heap e d)
  (k:∀h',Heap.FlyingW base outer e cls a0 h'->s.heap.UpToSlots h'->DA h' e d->Q () {s with heap:=h'}):wpAny M A (leaving env (.ref e)) Q E s:=by
 unfold leaving;refine wpAny_bind (kY hfr hf fl hd λh1 x1 u1 d1=>mv x1 d1 λh2 x2 u2 d2=>k h2 ⟨x2.1,x2.2.1,aV x2.2.2.1,x2.2.2.2⟩ (u1.trans u2) d2)
theorem p9{oe:Obj}(hfr:A.frames=some (env::outer))(hf:env.frame=some L)(hkb:base.StaysIn s.heap)(hl:s.heap.FunFrames base (env::outer))(he:s.heap.get? e=some oe)(hen:base.get? e=none)(hv:oe.data=.fields vs)(h0:vs[0]?=some a0)(h1:vs[1]?=some .none)
  (k:∀h',Heap.FlyingW base outer e oe.cls a0 h'->s.heap.UpToSlots h'->DA h' e oe.dict->Q () {s with heap:=h'}):wpAny M A (leaving env (.ref e)) Q E s:=by
 unfold leaving noteFrame;simp only[hf];refine wpAny_bind (wpAny_bind (wpAny_field he hv h1 ?_));rw[if_neg (by decide)]
 refine jt hfr hl hf he hkb hen hv (Array.getElem?_eq_some_iff.mp h1).1 h0 λh1 x1 d1=>?_
 exact cV x1.1 x1.2.1 x1.2.2.1 d1 λh2 k1 k2 k3 k4 k5=>k h2 ⟨k1,hen,aV k2,k3⟩ (Heap.UpToSlots.trans x1.2.2.2 k4) k5
theorem pY(hfr:A.frames=some (env::outer))(hf:env.frame=some L)(hkb:base.StaysIn s.heap)(hen:base.get? e=none)(hl:s.heap.FunFrames base (env::outer))(ht:s.heap.TracedAtW base e cls a0 v)(hd:DA s.heap e d)
  (k:∀h',Heap.FlyingW base outer e cls a0 h'->s.heap.UpToSlots h'->DA h' e d->Q () {s with heap:=h'}):wpAny M A (leaving env (.ref e)) Q E s:=by
 by_cases hv:(v == rawInt L)=true
 ·unfold leaving;refine wpAny_bind (wpAny_noteFrame_againW hf (eq_of_beq hv▸ht) ?_);exact cV hkb hl ht hd λh2 k1 k2 k3 k4 k5=>k h2 ⟨k1,hen,aV k2,k3⟩ k4 k5
 obtain⟨oe,vs,T,oT,ts,he,⟨rfl,h0⟩,hvs,h1,nT,ne,hT,dT,h3⟩:=ht;obtain⟨oe',he',rfl⟩:=hd;cases he.symm.trans he';unfold leaving noteFrame;simp only[hf];refine wpAny_bind (wpAny_bind (wpAny_field he hvs h1 ?_));rw[if_pos (by simp:(Value.ref T != Value.none)=true)]
 refine wpAny_bind (wpAny_field hT dT h3 ?_);rw[if_neg hv];refine wpAny_bind (wpAny_setField hT dT (Array.getElem?_eq_some_iff.mp h3).1 ?_);have oth:∀b,b≠T->(s.heap.update T (Obj.mapFields (·.setIfInBounds 3 Value.none))).get? b=s.heap.get? b:=λb n=>Heap.get?_update_other _ _ (Ne.symm n)
 have plain:∀b o,s.heap.get? b=some o->(∀ws,o.data≠.fields ws)->b≠T:=λb o q nf z=>by
  subst z;cases hT.symm.trans q;exact nf ts dT
 refine jt hfr (hl.of_keeps λb o q nf=>⟨o,(oth b (plain b o q nf)).trans q,rfl⟩) hf ((oth e (Ne.symm ne)).trans he) (λb o q=>(oth b λz=>by rw[z,nT]at q;cases q).trans (hkb b o q)) hen hvs (Array.getElem?_eq_some_iff.mp h1).1 h0
  λh1 x1 d1=>cV x1.1 x1.2.1 x1.2.2.1 d1 λh2 k1 k2 k3 k4 k5=>k h2 ⟨k1,hen,aV k2,k3⟩ (Heap.UpToSlots.trans (λb o q nf=>x1.2.2.2 b o ((oth b (plain b o q nf)).trans q) nf) k4) k5
theorem pW{oT:Obj}{T:Addr}(he:s.heap.get? e=some oe)(hv:oe.data=.fields vs)(h1:vs[1]?=some (.ref T))(hT:s.heap.get? T=some oT)(dT:oT.data=.fields ts)(sz:3 < ts.size)
  (k:∀h' oT' ts',h'.get? T=some oT'->oT'.data=.fields ts'->3 < ts'.size->(∀b,b≠T->h'.get? b=s.heap.get? b)->E (.ref e) {s with heap:=h'}):wpAny M A (PySem.passOn what (.ref e) env:Sem α) Q E s:=by
 unfold PySem.passOn setFlight;refine wpAny_bind (wpAny_field he hv h1 ?_);rw[if_neg (by simp:¬ ((Value.ref T == Value.none)=true))]
 refine wpAny_bind (wpAny_bind (wpAny_field he hv h1 ?_));rw[if_pos (by simp:(Value.ref T != Value.none)=true)]
 refine wpAny_setField hT dT sz (wpAny_throw (k _ _ _ (Heap.get?_update_self _ hT (Obj.isFreed_of_fields (Obj.data_mapFields dT _))) (Obj.data_mapFields dT _) (by simp[sz]) λb n=>Heap.get?_update_other _ _ (Ne.symm n)))
end
end L2
namespace L2
open PySem PySem.Spec PyProof.Rows
section
variable {h h':Heap}{o:HO}
theorem ObjOk.isAt(x:ObjOk P w H h a o):∃ob,h.get? a=some ob:=by
 cases o with
 |lst xs=>obtain⟨_,_,_,_,e⟩:=x;exact⟨_,e⟩
 |tup xs=>obtain⟨_,_,_,ob,e,_⟩:=x;exact⟨_,e⟩
 |dK kvs=>obtain⟨_,_,_,_,ob,_,_,e,_⟩:=x;exact⟨_,e⟩
 |dT kvs=>obtain⟨_,_,_,_,ob,_,_,e,_⟩:=x;exact⟨_,e⟩
 |set S n=>obtain⟨ob,_,_,_,e,_⟩:=x;exact⟨_,e⟩
 |ins C dx fs=>obtain⟨_,_,_,e,_⟩:=x;exact⟨_,e⟩
 |own y=>exact x
 |xd fs=>obtain⟨_,⟨ob,_,_,e,_⟩,_⟩:=x;exact⟨_,e⟩
 |rng lo hi=>obtain⟨_,_,_,e⟩:=x;exact⟨_,e⟩
 |frz ob u=>exact⟨_,x.1⟩
 |tbl ps=>exact⟨_,x⟩
 |met f y=>exact⟨_,x⟩
 |ext φ=>exact x.2.1
theorem HOk.keptT(x:HOk P w H h)(k:∀b u ob,H b=some u->h.get? b=some ob->h'.get? b=some ob):HOk P w H h':=λa o e=>
 (x a o e).stay (λb u hb q=>hb.elim (λz=>by subst z;exact k _ _ _ e q) (λz=>k _ _ _ z q)) (λ_ q=>q) λ_ _ q=>q
end
noncomputable def Fly(B:Heap)(l:List Env)(a:Addr)(cls:Value)(h:Heap):Prop:=∃a0,Heap.FlyingW B l a cls a0 h
noncomputable def Within(B:Heap)(l:List Env)(hs:Heap)(H':Hp)(h':Heap):Prop:=
 ∀b ob,h'.get? b=some ob->(H' b≠none\/((∃o',hs.get? b=some o')/\b∉frs l))->B.get? b=some ob
noncomputable def CX1(P:Program)(w:World):CXT:=λouter H s E e s'=>
 ∃(a:Addr) (cls:Value) (B:Heap) (H':Hp) (dx:Option Addr),e=.ref a/\(s'.os=s.os/\0 < s'.toks)/\AllBare s'.gens/\Un (frs outer) [] H H' s.heap s'.heap/\HOk P w H' s'.heap/\
  (Fly B outer a cls s'.heap/\DA s'.heap a dx)/\H' a=none/\Within B outer s.heap H' s'.heap/\E cls dx H'
theorem Inv.notrk{s:Shared}(I:Inv X pins σ H s)(hn:s.heap.get? e=none):H e=none:=by
 cases q:H e with
 |none=>rfl
 |some u=>
  obtain⟨ob,z⟩:=(I.hok e u q).isAt;rw[hn]at z;cases z
theorem Inv.oldNe{X:Cx}(I:Inv X pins σ H s)(q:X.s₀.heap.get? b=some o)(hb:b∉X.fs):b∉frs X.stack:=λhm=>by
 rcases List.mem_cons.mp (I.stkSub b hm) with z|z
 ·have:=Nat.lt_of_lt_of_le (Heap.lt_size q) I.ok.above;rw[z]at this;exact absurd this (Nat.lt_irrefl _)
 ·exact hb z
section
variable {K:PySem.W.Frag}{s:Shared}
theorem iw{s1:Shared}{h':Heap}{ts:List Addr}
  (I:Inv (bN (CX1 P w) P w K mg base N qual scope f cd A outer s H E) pins σ H1 s1) (hk:∀b o,s1.heap.get? b=some o->b∉ts->h'.get? b=some o) (hke:∀b∈ts,∀o,s1.heap.get? b=some o->∃vs,o.data=.fields vs) (hnt:∀b∈ts,H1 b=none) (hno:∀b∈ts,s.heap.get? b=none) (het:e∈ts)
  (lv:∀(B:Heap)(Q:Unit->Shared->Prop)(X:Value->Shared->Prop),B.StaysIn h'->h'.FunFrames B (envOfC qual scope s.heap.objs.size f cd::outer)->(∀b∈ts,B.get? b=none)->(∀h2 a0,Heap.FlyingW B outer e cls a0 h2->h'.UpToSlots h2->DA h2 e dx->Q () {s1 with heap:=h2})->
   wpAny (model P w) (bN (CX1 P w) P w K mg base N qual scope f cd A outer s H E).A (leaving (envOfC qual scope s.heap.objs.size f cd) (.ref e)) Q X {s1 with heap:=h'}) (he:E cls dx H1) :
  (bN (CX1 P w) P w K mg base N qual scope f cd A outer s H E).xe (.ref e) {s1 with heap:=h'}:=by
 have hl:s1.heap.FunFrames base (envOfC qual scope s.heap.objs.size f cd::outer):=I.stack;have hin:∀env∈(envOfC qual scope s.heap.objs.size f cd::outer),∀b,env.frame=some b->b∈ts++frs (envOfC qual scope s.heap.objs.size f cd::outer):=λenv he b hb=>List.mem_append_right _ (List.mem_filterMap.mpr ⟨env,he,hb⟩)
 have hB:∀b o,(PySem.W.hideAll s1.heap (ts++frs (envOfC qual scope s.heap.objs.size f cd::outer))).get? b=some o->s1.heap.get? b=some o/\b∉ts:=λb o q=>⟨PySem.W.of_hideAll _ q,λz=>by
  rw[PySem.W.hideAll_none _ (List.mem_append_left _ z)]at q;cases q⟩
 have hff:s1.heap.FunFrames (PySem.W.hideAll s1.heap (ts++frs (envOfC qual scope s.heap.objs.size f cd::outer))) (envOfC qual scope s.heap.objs.size f cd::outer):=PySem.W.funFrames_hide hl hin;show wpAny _ _ (leaving _ _) _ _ _;refine lv (PySem.W.hideAll s1.heap (ts++frs (envOfC qual scope s.heap.objs.size f cd::outer))) _ _ (λb o q=>hk b o (hB b o q).1 (hB b o q).2) (hff.of_keeps λb o q nf=>⟨o,hk b o q (λz=>by
  obtain⟨ws,dw⟩:=hke b z o q;exact nf ws dw),rfl⟩) (λb z=>PySem.W.hideAll_none _ (List.mem_append_left _ z)) λh2 a0 fl up dd=>?_
 have tB:∀b u ob,H1 b=some u->s1.heap.get? b=some ob->(PySem.W.hideAll s1.heap (ts++frs (envOfC qual scope s.heap.objs.size f cd::outer))).get? b=some ob:=λb u ob hb q=>
  PySem.W.hideAll_get _ q λhm=>by
   rcases List.mem_append.mp hm with z|hm
   ·rw[hnt b z]at hb;cases hb
   ·have z:=I.stkFree b hm;rw[hb]at z;cases z
 have one:∀b o,s.heap.get? b=some o->b∉ts:=λb o q z=>by rw[hno b z]at q;cases q
 have oB:∀b o ob,s.heap.get? b=some o->b∉frs outer->s1.heap.get? b=some ob->(PySem.W.hideAll s1.heap (ts++frs (envOfC qual scope s.heap.objs.size f cd::outer))).get? b=some ob:=λb o ob q hb q1=>
  PySem.W.hideAll_get _ q1 λhm=>(List.mem_append.mp hm).elim (one b o q) (I.oldNe q hb)
 have st:=fl.1;have slot:∀b o,s.heap.get? b=some o->H b=none->b∈frs outer->∃sl,h2.get? b=some {o with slots:=sl}:=λb o q n hb=>by
  obtain⟨sl,e1⟩:=I.base.slot b o q n hb (λz=>nomatch z)
  obtain⟨_,o2,e2,nf⟩:=I.ok.funs.mem hb;have e3:o2=o:=Option.some.inj (e2.symm.trans q);subst e3;obtain⟨sl2,e4⟩:=up b _ (hk _ _ e1 (one b _ q)) nf;exact⟨sl2,e4⟩
 refine⟨e,cls,_,H1,dx,rfl,I.os,I.bare,⟨λb o q n hb _=>?_,λb o q n hb _=>slot b o q n hb,λb o q n _=>I.base.free b o q n (λz=>nomatch z),λb o q _=>?_,I.base.tups,I.base.frzs,I.base.tbls⟩,?_,⟨⟨_,fl⟩,dd⟩,hnt e het,λb ob q hb=>?_,he⟩
 ·exact st b o (oB b o o q hb (I.base.keep b o q n hb (λz=>nomatch z)))
 ·by_cases hb:b∈frs outer
  ·obtain⟨sl,z⟩:=slot b o q (I.ok.frf b hb) hb;exact⟨_,z⟩
  ·obtain⟨o',e1⟩:=I.base.there b o q (λz=>nomatch z)
   exact⟨o',st b o' (oB b o o' q hb e1)⟩
 ·exact I.hok.keptT λb u ob hb q=>st b ob (tB b u ob hb q)
 ·rcases hb with hb|⟨⟨o',ho'⟩,hb⟩
  ·cases z:H1 b with
   |none=>exact absurd z hb
   |some u=>
    obtain⟨o1,e1⟩:=(I.hok b u z).isAt;have e2:=tB b u o1 z e1;have e3:o1=ob:=Option.some.inj ((st b o1 e2).symm.trans q);rw[<-e3];exact e2
  ·obtain⟨o1,e1⟩:=I.base.there b o' ho' (λz=>nomatch z)
   have e2:=oB b o' o1 ho' hb e1;have e3:o1=ob:=Option.some.inj ((st b o1 e2).symm.trans q);rw[<-e3];exact e2
theorem iK{s1:Shared}{oe:Obj}{h':Heap}
  (I:Inv (bN (CX1 P w) P w K mg base N qual scope f cd A outer s H E) pins σ H1 s1) (hk:∀b o,s1.heap.get? b=some o->b≠e->h'.get? b=some o) (hke:∀o,s1.heap.get? e=some o->∃vs,o.data=.fields vs) (hnt:H1 e=none) (hno:s.heap.get? e=none)
  (hoe:h'.get? e=some oe) (hv:oe.data=.fields vs) (hv0:vs[0]?=some a0) (hv1:vs[1]?=some .none) (he:E oe.cls oe.dict H1) :
  (bN (CX1 P w) P w K mg base N qual scope f cd A outer s H E).xe (.ref e) {s1 with heap:=h'}:=
 iw (ts:=[e]) I (λb o q n=>hk b o q λz=>n (z▸List.mem_cons_self)) (λb hb o q=>hke o (List.mem_singleton.mp hb▸q)) (λb hb=>List.mem_singleton.mp hb▸hnt) (λb hb=>List.mem_singleton.mp hb▸hno) List.mem_cons_self
  (λB Q X st ff hn k=>p9 (s:={s1 with heap:=h'}) I.ok.frames rfl st ff hoe (hn e List.mem_cons_self) hv hv0 hv1 λh2 fl up dd=>k h2 _ fl up dd) he
structure ExAt (h:Heap)(e T:Addr)(cls:Value)(dx:Option Addr):Prop where
 ex:∃oe vs oT ts a0,h.get? e=some oe/\oe.cls=cls/\oe.dict=dx/\oe.data=.fields vs/\vs[0]?=some a0/\vs[1]?=some (.ref T)/\T≠e/\h.get? T=some oT/\oT.data=.fields ts/\3 < ts.size
noncomputable def kH(X:Cx)(E:XK):Prop:=(X.stack=X.env::X.outer/\X.env.frame=some X.env.locals/\X.ex=[])/\∀(pins:List (Addr×Obj)) (σ:St)(H:Hp)(s:Shared)(e T:Addr)(cls:Value)(dx:Option Addr)(h':Heap),Inv X pins σ H s->(∀b,b≠T->h'.get? b=s.heap.get? b)->
 (∀o,s.heap.get? T=some o->∃vs,o.data=.fields vs)->ExAt h' e T cls dx->H e=none->H T=none->X.s₀.heap.get? e=none->X.s₀.heap.get? T=none->E cls dx H->X.xe (.ref e) {s with heap:=h'}
theorem tT:kH (bN (CX1 P w) P w K mg base N qual scope f cd A outer s H E) E:=⟨⟨rfl,rfl,rfl⟩,λpins σ H1 s1 e T cls dx h' I hk hT ⟨oe,vs,oT,ts,a0,e1,e2,e3,e4,e5,e6,e7,e8,e9,e10⟩ h1 h2 h3 h4 he=>by
 have all:∀{p:Addr->Prop},p e->p T->∀b∈[e,T],p b:=λ{p} x y b hb=>by
  rcases List.mem_cons.mp hb with z|z
  ·rw[z];exact x
  ·rw[List.mem_singleton.mp z];exact y
 subst e2 e3;refine iw (ts:=[e,T]) I (λb o q n=>(hk b λz=>n (by simp[z])).trans q) (all (p:=λb=>∀o,s1.heap.get? b=some o->∃vs,o.data=.fields vs) (λo q=>?_) hT) (all h1 h2) (all h3 h4) List.mem_cons_self (λB Q X st ff hn k=>?_) he
 ·rw[(hk e (Ne.symm e7)).trans q]at e1;cases e1;exact⟨vs,e4⟩
 ·exact pY (s:={s1 with heap:=h'}) (v:=ts[3]) I.ok.frames rfl st (hn e List.mem_cons_self) ff ⟨oe,vs,T,oT,ts,e1,⟨rfl,e5⟩,e4,e6,hn T (by simp),e7,e8,e9,Array.getElem?_eq_getElem e10⟩ ⟨oe,e1,rfl⟩ λh2 fl up dd=>k h2 _ fl up dd⟩
theorem mC{s1:Shared}
  (I:Inv (bN (CX1 P w) P w K mg base N qual scope f cd A outer s H E) pins σ H1 s1) (hx:Heap.MadeExcOf s1.heap h' e cls args)(he:E cls none H1) :
  (bN (CX1 P w) P w K mg base N qual scope f cd A outer s H E).xe (.ref e) {s1 with heap:=h'}:=by
 obtain⟨t,e1,_,_⟩:=hx.there;refine iK I (λb o q _=>hx.keeps b o q) (λo q=>by rw[hx.new]at q;cases q) (I.notrk hx.new) ?_ e1 rfl rfl rfl he
 cases q:s.heap.get? e with
 |none=>rfl
 |some o=>
  obtain⟨o1,z⟩:=I.base.there e o q (λz=>nomatch z)
  rw[hx.new]at z;cases z
theorem oI(hE:∀c d H',E' c d H'->E c d H')
  (I:Inv (bN (CX1 P w) P w K mg base N qual scope f cd A outer s H E) pins σ H1 s1) (hc:CX1 P w (envOfC qual scope s.heap.objs.size f cd::outer) H1 s1 E' e s') :
  (bN (CX1 P w) P w K mg base N qual scope f cd A outer s H E).xe e s':=by
 obtain⟨a,cls,B,H2,dx,rfl,os,bare,un,hok,⟨⟨a0,fl⟩,dd⟩,ha,inc,he⟩:=hc;have hfr:((bN (CX1 P w) P w K mg base N qual scope f cd A outer s H E).A).frames=some (envOfC qual scope s.heap.objs.size f cd::outer):=I.ok.frames;show wpAny _ _ (leaving _ _) _ _ _;refine pr hfr rfl fl dd λh2 fl2 up dd2=>?_
 have st:=fl2.1;have nil:∀b:Addr,b∉([]:List Addr):=λb z=>nomatch z
 have slot:∀b o,s.heap.get? b=some o->H b=none->b∈frs outer->∃sl,h2.get? b=some {o with slots:=sl}:=λb o q n hb=>by
  obtain⟨sl,e1⟩:=I.base.slot b o q n hb (nil b);obtain⟨sl1,e2⟩:=un.any e1 (I.base.free b o q n (nil b)) (nil b);obtain⟨_,o2,e3,nf⟩:=I.ok.funs.mem hb;have e4:o2=o:=Option.some.inj (e3.symm.trans q);subst e4;obtain⟨sl2,e5⟩:=up b _ e2 nf;exact⟨sl2,e5⟩
 have old:∀b o,s.heap.get? b=some o->b∉frs outer->∃ob,s'.heap.get? b=some ob/\B.get? b=some ob:=λb o q hb=>by
  obtain⟨o1,e1⟩:=I.base.there b o q (nil b);obtain⟨o2,e2⟩:=un.there b o1 e1 (nil b);exact⟨o2,e2,inc b o2 e2 (.inr ⟨⟨o1,e1⟩,I.oldNe q hb⟩)⟩
 refine⟨a,cls,B,H2,dx,rfl,⟨os.1.trans I.os.1,os.2⟩,bare,⟨λb o q n hb _=>?_,λb o q n hb _=>slot b o q n hb,λb o q n _=>?_,λb o q _=>?_,λb xs q=>un.tups b xs (I.base.tups b xs q),λb o u q=>un.frzs b o u (I.base.frzs b o u q),λb ps q=>?_⟩,?_,⟨⟨a0,fl2⟩,dd2⟩,ha,λb ob q hb=>?_,hE _ _ _ he⟩
 ·have e1:=I.base.keep b o q n hb (nil b);have e2:=un.keep b o e1 (I.base.free b o q n (nil b)) (I.oldNe q hb) (nil b);exact st b o (inc b o e2 (.inr ⟨⟨o,e1⟩,I.oldNe q hb⟩))
 ·obtain⟨o1,e1⟩:=I.base.there b o q (nil b);exact un.free b o1 e1 (I.base.free b o q n (nil b)) (nil b)
 ·by_cases hb:b∈frs outer
  ·obtain⟨sl,z⟩:=slot b o q (I.ok.frf b hb) hb;exact⟨_,z⟩
  ·obtain⟨ob,_,e2⟩:=old b o q hb;exact⟨ob,st b ob e2⟩
 ·obtain⟨m1,e1⟩:=I.base.tbls b ps q;obtain⟨m2,e2⟩:=un.tbls b _ e1;exact⟨m1++m2,by rw[e2,Array.append_assoc]⟩
 ·exact hok.keptT λb u ob hb q=>st b ob (inc b ob q (.inl (by rw[hb];exact λz=>nomatch z)))
 ·rcases hb with hb|⟨⟨o',ho'⟩,hb⟩
  ·cases z:H2 b with
   |none=>exact absurd z hb
   |some u=>
    obtain⟨o1,e1⟩:=(hok b u z).isAt;have e2:=inc b o1 e1 (.inl hb);have e3:o1=ob:=Option.some.inj ((st b o1 e2).symm.trans q);rw[<-e3];exact e2
  ·obtain⟨o1,e1,e2⟩:=old b o' ho' hb;have e3:o1=ob:=Option.some.inj ((st b o1 e2).symm.trans q);rw[<-e3];exact e2
theorem xP:vG (CX1 P w) (bN (CX1 P w) P w K mg base N qual scope f cd A outer s H E) E:=λ_ _ _ _ _ _ I h=>oI (λ_ _ _ z=>z) I h
theorem Ci:PassesOwn (model P w) (bN (CX1 P w) P w K mg base N qual scope f cd A outer s H E).A (bN (CX1 P w) P w K mg base N qual scope f cd A outer s H E).env (bN (CX1 P w) P w K mg base N qual scope f cd A outer s H E).xe:=
 PassesOwn.leaving
end
noncomputable def ja(X:Cx)(E:XK):Prop:=∀(pins:List (Addr×Obj)) (σ:St)(H:Hp)(s:Shared)(e:Addr)(cls:Value)(args:List Value)(h':Heap),Inv X pins σ H s->Heap.MadeExcOf s.heap h' e cls args->E cls none H->X.xe (.ref e) {s with heap:=h'}
noncomputable def mh(X:Cx)(E:XK):Prop:=∀(pins:List (Addr×Obj)) (σ:St)(H:Hp)(s:Shared)(e:Addr)(oe:Obj)(vs:Array Value)(a0:Value),Inv X pins σ H s->H e=none->X.s₀.heap.get? e=none->s.heap.get? e=some oe->oe.data=.fields vs->vs[0]?=some a0->vs[1]?=some .none->E oe.cls oe.dict H->X.xe (.ref e) s
theorem oW{K:PySem.W.Frag} :
  mh (bN (CX1 P w) P w K mg base N qual scope f cd A outer s H E) E:=λ_ _ _ s1 e oe vs a0 I ht h0 hoe hv v0 v1 he=>iK (h':=s1.heap) I (λ_ _ q _=>q) (λo q=>by
 cases hoe.symm.trans q;exact⟨vs,hv⟩) ht h0 hoe hv v0 v1 he
theorem qw{K:PySem.W.Frag} :
  ja (bN (CX1 P w) P w K mg base N qual scope f cd A outer s H E) E:=λ_ _ _ _ _ _ _ _ I hx he=>mC I hx he
abbrev bmV:List Value:=[.type "ValueError",.type "Exception",.type "BaseException",.type "object"]
noncomputable def qZ(K:PySem.W.Frag)(C:Addr):Prop:=PySem.W.excIn K C bmV "ValueError.__new__"=true
noncomputable def ur(E:XK)(C:Addr)(t:TA):TS:=λ_ σ H=>t σ H λvs H1=>vs.length<=sizeLine/\E (.ref C) none H1
theorem qT{K:PySem.W.Frag}{h:Heap}(X:K.In h)(z:PySem.W.excIn K C bmB nid=true) :
  ∃bm M nm qn bs b1 sn sb b2 co dd x0 x1 x2 x3 x5 mN,h.get? C=some (excClassObj nm qn C M bs bm b1 sn sb b2 co dd x0 x1 x2 x3 x5 nid)/\h.Ns M mN/\mN "__init__"=none/\OwnTail h bmB bm:=by
 unfold PySem.W.excIn at z;split at z
 next dd cd sl ho=>
  split at z
  next C' bm x0 x1 x2 x3 n x5 hm hs=>
   rw[Bool.and_eq_true,Bool.and_eq_true,Bool.and_eq_true,Bool.and_eq_true,Bool.and_eq_true,beq_iff_eq,beq_iff_eq,beq_iff_eq]at z;have z1:=z.1.1.1.1.1;have z2:=z.1.1.1.1.2;have z3:=z.1.1.1.2;have z4:=z.1.1.2;have z5:=z.1.2;have z6:=z.2;subst z1;subst z2;cases cd with
   |mk nm bs mro ns qn hd sn sub ab col del=>
    cases hm;cases del with
    |true=>cases z3
    |false=>
     have es:sl=#[x0,x1,x2,x3,some (.builtin n),x5]:=by
      cases sl with
      |mk l=>cases hs;rfl
     subst es;exact⟨bm,ns,nm,qn,bs,hd,sn,sub,ab,col,dd,x0,x1,x2,x3,x5,_,X _ _ ho,.of_isNs (PySem.W.isNs_of_in X z5),PySem.W.nsMap_none_of_in X z5 z6,PySem.W.tail_of_in X z4⟩
  next=>cases z
 next=>cases z
section
variable {X:Cx}
theorem om(hx:ja X E)(hc:X.calm=true)(hg:Gl X x)(hm:X.mg x=some (.ref C))(q:qZ X.K C)(ha:PA X (e::es) t)(hdb:(x == ("__debug__" : Str))=false:=by decide)
  (he:starEach (e::es) X.env=(false,eval e X.env)::starEach es X.env:=by rfl) (hpl:(backTo cpos (starEach es X.env)).any (·.1)=false:=by rfl) :
  PS X (.Raise (some (.Call (.Name x np) (e::es) [] cpos)) none pos) (ur E C t):=by
 intro pins s σ H D I h;obtain⟨bm,M,nm,qn,bs,b1,sn,sb,b2,co,dd,x0,x1,x2,x3,x5,mN,hC,hN,hni,T⟩:=qT I.ok.mod.kin q;refine wpAny_Raise_call_subT (C:=C) (nm:=nm) (q:=qn) (N:=M) (bs:=bs) (bm:=bm) (hdct:=b1) (sn:=sn) (sub:=sb) (ab:=b2) (col:=co) (dd:=dd) (k0:=x0) (k1:=x1) (k2:=x2) (k3:=x3) (k5:=x5)
  PySem.F.excBase_ValueError (mN:=mN) (T.hasType PySem.F.excBase_ValueError.hasBase) (I.ok.hd hc) ?pl hni (bU I hg hm ⟨rfl,?_⟩ hdb)
 case pl=>
  rw[he];show (false||(backTo cpos (starEach es X.env)).any (·.1))=false
  rw[hpl];rfl
 have h2:=ha cpos pins s σ H _ I h;rw[he]at h2 ⊢;refine Calls.evalArgs_plain (thn h2 λus s2 ⟨vs,H2,I2,r,z,q2⟩=>?_)
 exact⟨rfl,by rw[<-r.length];exact z,I2.bk _ _ hC,hN.keeps I2.bk,T.keeps I2.bk,λh' a hm'=>hx pins σ H2 s2 a _ us h' I2 hm' q2⟩
end
end L2
namespace L2
open PySem PySem.Spec PyProof.Rows
noncomputable def bF(CX:CXT)(X:Cx)(E:St->XK):Prop:=∀(pins:List (Addr×Obj)) (σ:St)(H:Hp)(s:Shared)(e:Value)(s':Shared),Inv X pins σ H s->CX X.stack H s (E σ) e s'->X.xe e s'
section
variable {X:Cx}{p:Pos}{o:Expr}
end
section
variable {X:Cx}{σ:St}{s1 s':Shared}{B:Heap}
theorem Inv.behind(I:Inv X pins σ H1 s1)(os:s'.os=s1.os/\0 < s'.toks)(bare:AllBare s'.gens)(un:Un (frs X.stack) [] H1 H2 s1.heap s'.heap)(hok:HOk X.prog X.w H2 s'.heap)
  (inc:Within B X.stack s1.heap H2 s'.heap)(st:B.StaysIn h4)(up:s'.heap.UpToSlots h4):Inv X pins σ H2 {s' with heap:=h4}:=by
 have nil:∀b:Addr,b∉([]:List Addr):=λb z=>nomatch z
 have dataK:∀b o,s1.heap.get? b=some o->H1 b=none->(∀vs,o.data≠.fields vs)->∃sl,h4.get? b=some {o with slots:=sl}:=λb o q n nf=>by
  obtain⟨sl,e1⟩:=un.any q n (nil b);obtain⟨sl2,e2⟩:=up b _ e1 nf;exact⟨sl2,e2⟩
 have cellK:∀x c,X.env.cells.lookup x=some c->∀v,s1.heap.IsCell c v->h4.IsCell c v:=λx c e v ⟨o,ho,hd⟩=>by
  obtain⟨sl,z⟩:=dataK c o ho (I.freeC x c e) λvs q=>by rw[hd]at q;cases q
  exact⟨_,z,hd⟩
 refine⟨I.ok,⟨os.1.trans I.os.1,os.2⟩,bare,⟨λb o q n hb hx=>?_,λb o q n hb hx=>?_,λb o q n hx=>?_,λb o q hx=>?_,λb xs q=>un.tups b xs (I.base.tups b xs q),λb o u q=>un.frzs b o u (I.base.frzs b o u q),λb ps q=>?_⟩,?_,λx c e=>?_,?_,λx c e=>?_,λp hp=>?_,?_,I.len⟩
 ·have e1:=I.base.keep b o q n hb hx;have e2:=un.keep b o e1 (I.base.free b o q n hx) (I.oldNe q hb) (nil b);exact st b o (inc b o e2 (.inr ⟨⟨o,e1⟩,I.oldNe q hb⟩))
 ·obtain⟨sl,e1⟩:=I.base.slot b o q n hb hx;obtain⟨_,o2,e3,nf⟩:=I.ok.funs.mem hb;have e4:o2=o:=Option.some.inj (e3.symm.trans q);subst e4;obtain⟨sl2,e5⟩:=dataK b _ e1 (I.base.free b _ q n hx) nf;exact⟨sl2,e5⟩
 ·obtain⟨o1,e1⟩:=I.base.there b o q hx;exact un.free b o1 e1 (I.base.free b o q n hx) (nil b)
 ·obtain⟨o1,e1⟩:=I.base.there b o q hx;by_cases hb:b∈X.fs
  ·obtain⟨_,o2,e3,nf⟩:=I.ok.funs.mem hb;obtain⟨sl,e4⟩:=I.base.slot b o2 e3 (I.ok.frf b hb) hb hx;obtain⟨sl2,e5⟩:=dataK b _ e4 (I.base.free b _ e3 (I.ok.frf b hb) hx) nf;exact⟨_,e5⟩
  ·obtain⟨o2,e2⟩:=un.there b o1 e1 (nil b);exact⟨o2,st b o2 (inc b o2 e2 (.inr ⟨⟨o1,e1⟩,I.oldNe q hb⟩))⟩
 ·obtain⟨m1,e1⟩:=I.base.tbls b ps q;obtain⟨m2,e2⟩:=un.tbls b _ e1;exact⟨m1++m2,by rw[e2,Array.append_assoc]⟩
 ·obtain⟨m,⟨o,es,ep,ho,hd,r⟩,hl⟩:=I.loc;obtain⟨sl,z⟩:=dataK _ o ho I.free λvs q=>by rw[hd]at q;cases q
  refine⟨m,⟨_,es,ep,z,hd,r⟩,λi x v e1 e2 e3=>?_⟩
  obtain⟨u,r',l⟩:=hl i x v e1 e2 e3;refine⟨u,r',l.elim .inl λ⟨k,c,e,z⟩=>.inr ⟨k,c,e,cellK x c e _ z⟩⟩
 ·obtain⟨v,z⟩:=I.cell x c e;exact⟨v,cellK x c e v z⟩
 ·obtain⟨m,⟨o,_,_,ho,_⟩,_⟩:=I.loc;exact un.free _ o ho I.free (nil _)
 ·obtain⟨v,o,ho,_⟩:=I.cell x c e;exact un.free c o ho (I.freeC x c e) (nil _)
 ·obtain⟨e,n,ne,nf,d⟩:=I.pin p hp;have nb:p.1∉frs X.stack:=λhm=>(List.mem_cons.mp (I.stkSub _ hm)).elim ne nf
  have e2:=un.keep p.1 p.2 e n nb (nil _);exact⟨st _ _ (inc _ _ e2 (.inr ⟨⟨_,e⟩,nb⟩)),un.free p.1 p.2 e n (nil _),ne,nf,d⟩
 ·exact hok.keptT λb u ob hb q=>st b ob (inc b ob q (.inl (by rw[hb];exact λz=>nomatch z)))
theorem mr(fl:Fly B X.stack a cls s'.heap)(inc:Within B X.stack s1.heap H2 s'.heap):s1.heap.get? a=none:=by
 obtain⟨a0,f1,f2,f3,oe,vs,T,oT,ts,he,hc,hd,_⟩:=fl;cases q:s1.heap.get? a with
 |none=>rfl
 |some o=>
  have z:=inc a oe he (.inr ⟨⟨o,q⟩,λhm=>by
   obtain⟨_,o2,e2,nf⟩:=f3.mem hm;rw[he]at e2;cases e2;exact nf vs hd⟩)
  rw[f2]at z;cases z
end
noncomputable def q0(a:Addr)(cls:Value)(dx:Option Addr):HO:=.ext λh=>∃o vs,h.get? a=some o/\o.cls=cls/\o.data=.fields vs/\o.dict=dx
section
variable {X:Cx}{σ:St}{s:Shared}
theorem Inv.trackExc{o:Obj}(I:Inv X pins σ H s)(hn:H a=none)(ho:s.heap.get? a=some o)(hc:o.cls=cls)(hd:o.data=.fields vs)(hdx:o.dict=dx)(h0:X.s₀.heap.get? a=none)(hp:∀p∈X.pn++pins,p.1≠a) :
  Inv X pins σ (upd H a (q0 a cls dx)) s:=by
 have ne:∀b u,H b=some u->b≠a:=λb u q=>au q hn
 have nL:X.env.locals≠a:=λz=>by
  obtain⟨m,⟨o',_,_,ho',hd',_⟩,_⟩:=I.loc;rw[z,ho]at ho';cases ho';rw[hd]at hd';cases hd'
 have nC:∀x c,X.env.cells.lookup x=some c->c≠a:=λx c e z=>by
  obtain⟨v,o',ho',hd'⟩:=I.cell x c e;rw[z,ho]at ho';cases ho';rw[hd]at hd';cases hd'
 refine⟨I.ok,I.os,I.bare,⟨I.base.keep,I.base.slot,λb o' q n hx=>?_,I.base.there,λb xs q=>?_,λb o' u q=>?_,λb ps q=>?_⟩,I.loc,I.cell,?_,λx c e=>?_,λp hp'=>?_,λb u q=>?_,I.len⟩
 ·rw[ad λz=>by rw[z,h0]at q;cases q]
  exact I.base.free b o' q n hx
 ·have z:=I.base.tups b xs q;rw[ad (ne _ _ z)];exact z
 ·have z:=I.base.frzs b o' u q;rw[ad (ne _ _ z)];exact z
 ·obtain⟨m,z⟩:=I.base.tbls b ps q;exact⟨m,by rw[ad (ne _ _ z)];exact z⟩
 ·rw[ad nL];exact I.free
 ·rw[ad (nC x c e)];exact I.freeC x c e
 ·obtain⟨e,n,r⟩:=I.pin p hp';exact⟨e,by rw[ad (hp p hp')];exact n,r⟩
 ·by_cases hb:b=a
  ·subst hb;rw[ag]at q;cases q;exact⟨⟨o,vs,ho,hc,hd,hdx⟩,⟨o,ho⟩,λh1 h2 ⟨o1,vs1,e1,e2,e3⟩ k=>⟨o1,vs1,k _ e1,e2,e3⟩⟩
  ·rw[ad hb]at q;exact (I.hok b u q).stay (λ_ _ _ z=>z) (λc z=>by rw[ad (ne _ _ z)];exact z) λc xs z=>by rw[ad (ne _ _ z)];exact z
theorem Inv.goes{h':Heap}(hi:X.N[i]?=some n)(hN:X.N.Nodup)(I:Inv X pins σ H s)(hm:s.heap.Ns X.env.locals m)
  (hl:∀(j:Nat)(x:Str)(w:V),X.N[j]?=some x->σ[j]?=some (some w)->Vis X.env.scope x->∃u,RelV w u/\xJ X.env s.heap m x u)
  (hn:h'.Ns X.env.locals (λx=>if x=n then v else m x)) (hs:Heap.SameBut X.env.locals s.heap h') (ht:0 < t':=by first|exact Nat.succ_pos _|assumption|exact Inv.tk (by assumption)|exact Env0.tk (by assumption)|exact Nat.lt_of_lt_of_le (Inv.tk (by assumption)) (Nat.le_add_right _ _)):Inv X pins (σ.set i none) H {s with heap:=h',toks:=t'}:=by
 obtain⟨oL,_,_,hoL,_⟩:=id hm;have old:∀b o,X.s₀.heap.get? b=some o->h'.get? b=s.heap.get? b:=λb o e=>hs.2 b (Nat.ne_of_lt (Nat.lt_of_lt_of_le (Heap.lt_size e) I.ok.above))
 refine⟨I.ok,⟨I.os.1,ht⟩,I.bare,⟨λb o q n hb hx=>(old b o q).trans (I.base.keep b o q n hb hx),λb o q n hb hx=>?_,I.base.free,λb o q hx=>?_,I.base.tups,I.base.frzs,I.base.tbls⟩,⟨_,hn,λj y w e1 e2 e3=>?_⟩,λy c e=>?_,I.free,I.freeC,λp hp=>?_,λb u q=>?_,by rw[List.length_set];exact I.len⟩
 ·obtain⟨sl,z⟩:=I.base.slot b o q n hb hx;exact⟨sl,(old b o q).trans z⟩
 ·obtain⟨o',z⟩:=I.base.there b o q hx;exact⟨o',(old b o q).trans z⟩
 ·have hj:j≠i:=λz=>by
   subst z;rw[List.getElem?_set_self']at e2;cases q:σ[j]? with
   |none=>rw[q]at e2;cases e2
   |some r=>rw[q]at e2;cases e2
  rw[List.getElem?_set_ne (Ne.symm hj)]at e2;obtain⟨u,r,l⟩:=hl j y w e1 e2 e3;refine⟨u,r,?_⟩;rcases l with ⟨k,e⟩|⟨k,c,e,z⟩
  ·refine .inl ⟨k,?_⟩;have:y≠n:=λe=>hj (f9 hN e1 (e▸hi))
   show (if y=n then v else m y)=some u
   rw[if_neg this];exact e
  ·exact .inr ⟨k,c,e,z.sameBut hs (I.cne y c e)⟩
 ·obtain⟨w',z⟩:=I.cell y c e;exact⟨w',z.sameBut hs (I.cne y c e)⟩
 ·obtain⟨e,n,ne,nf,d⟩:=I.pin p hp;exact⟨(hs.2 p.1 ne).trans e,n,ne,nf,d⟩
 ·refine (I.hok b u q).stay (λc w' hc z=>(hs.2 c ?_).trans z) (λ_ z=>z) λ_ _ z=>z
  rintro rfl;rcases hc with rfl|hc
  ·rw[I.free]at q;cases q
  ·rw[I.free]at hc;cases hc
end
noncomputable abbrev Cx.marked(X:Cx)(v:Value):Cx:={X with A:=X.A.mark (some v),calm:=false,xe:=λ_ _=>False}
noncomputable abbrev Cx.tryX(X:Cx)(pn:List (Addr×Obj))(W:Value->Shared->Prop):Cx:={X with pn:=X.pn++pn,xe:=W}
section
variable {X:Cx}
theorem Inv.marked(I:Inv X pins σ H s)(v:Value):Inv (X.marked v) pins σ H s:=
 ⟨⟨I.ok.mod,I.ok.kind,I.ok.glob,I.ok.blt,I.ok.above,I.ok.inj,I.ok.has,I.ok.cab,(λz=>nomatch z),I.ok.frames,I.ok.stk,I.ok.exf,I.ok.bs,I.ok.bsz,I.ok.noex,I.ok.exfs,I.ok.funs,I.ok.frf⟩,I.os,I.bare,I.base,I.loc,I.cell,I.free,I.freeC,I.pin,I.hok,I.len⟩
theorem Inv.unmark{v:Value}(ok:X.Ok)(I:Inv (X.marked v) pins σ H s):Inv X pins σ H s:=⟨ok,I.os,I.bare,I.base,I.loc,I.cell,I.free,I.freeC,I.pin,I.hok,I.len⟩
theorem Cx.Ok.tryX(ok:X.Ok)(pn:List (Addr×Obj))(W:Value->Shared->Prop):(X.tryX pn W).Ok:=
 ⟨ok.mod,ok.kind,ok.glob,ok.blt,ok.above,ok.inj,ok.has,ok.cab,ok.hd,ok.frames,ok.stk,ok.exf,ok.bs,ok.bsz,ok.noex,ok.exfs,ok.funs,ok.frf⟩
theorem Inv.tryX(I:Inv X pins σ H s)(W:Value->Shared->Prop):Inv (X.tryX pins W) [] σ H s:=
 ⟨I.ok.tryX _ _,I.os,I.bare,I.base,I.loc,I.cell,I.free,I.freeC,λp hp=>I.pin p (by rw[List.append_nil]at hp;exact hp),I.hok,I.len⟩
theorem Inv.untry(ok:X.Ok)(I:Inv (X.tryX pn W) pins σ H s):Inv X pn σ H s:=
 ⟨ok,I.os,I.bare,I.base,I.loc,I.cell,I.free,I.freeC,λp hp=>I.pin p (List.mem_append_left _ hp),I.hok,I.len⟩
end
noncomputable def XI(X:Cx)(pins:List (Addr×Obj))(σ:St)(H:Hp)(a:Addr)(cls:Value)(dx:Option Addr)(s:Shared):Prop:=
 ∃B a0,Inv X pins σ H s/\(Heap.FlyingW B X.stack a cls a0 s.heap/\DA s.heap a dx)/\H a=none/\X.s₀.heap.get? a=none/\(∀p∈X.pn++pins,p.1≠a)/\∀h4,B.StaysIn h4->s.heap.UpToSlots h4->Inv X pins σ H {s with heap:=h4}
noncomputable def PH(X:Cx)(hs:List ExceptHandler)(t:Ends->St->XK):Prop:=
 ∀(pins:List (Addr×Obj)) (s:Shared)(σ:St)(H:Hp)(D:Ends)(a:Addr)(cls:Value)(dx:Option Addr),XI X pins σ H a cls dx s->t D σ cls dx H->wpAny (model X.prog X.w) X.A (handleBy (.ref a) X.env hs) (SP X pins D) X.xe s
noncomputable def Ends.goes(D:Ends)(i:Nat):Ends:=⟨λσ H=>D.nx (σ.set i none) H,D.rt,λσ H=>D.bk (σ.set i none) H,λσ H=>D.ct (σ.set i none) H⟩
noncomputable def CJ(K:PySem.W.Frag)(C:Addr)(i:Nat)(ts:TS)(tr:Ends->St->XK):Ends->St->XK:=λD σ cls d H=>
 (PySem.W.exmOne K cls (.ref C)=some true/\∀a,H a=none->ts (D.goes i) (σ.set i (some (.ref a))) (upd H a (q0 a cls d)))\/(PySem.W.exmOne K cls (.ref C)=some false/\tr D σ cls d H)
noncomputable def BQ(K:PySem.W.Frag)(C:Addr)(ts:TS)(tr:Ends->St->XK):Ends->St->XK:=λD σ cls d H=>
 (PySem.W.exmOne K cls (.ref C)=some true/\ts D σ H)\/(PySem.W.exmOne K cls (.ref C)=some false/\tr D σ cls d H)
section
variable {X:Cx}{c n:Str}{C:Addr}{b0:Stmt}{suite:List Stmt}{np hpos pos:Pos}{rest:List ExceptHandler}{ts:TS}{tr:Ends->St->XK}{i:Nat}
theorem dZ{M:Model}{B h:Heap}{l:List Env}{a:Addr}{cls a0:Value}(fl:Heap.FlyingW B l a cls a0 h):PySem.W.Looks M h (typeOf (.ref a)) cls:=by
 obtain⟨ob,hob,hc⟩:=fl.there;exact hc▸(PySem.W.Looks.ld hob).andThen .now
theorem wT(hg:Gl X c)(hm:X.mg c=some (.ref C))(hN:X.N.Nodup)(hi:X.N[i]?=some n)(hl:X.env.scope.names.lookup n=some .local)(hs:∀v,PSs (X.marked v) (b0::suite) ts)(hr:PH X rest tr)(hdb:(c == ("__debug__" : Str))=false:=by decide) :
  PH X (.ExceptHandler (some (.Name c np)) (some n) (b0::suite) hpos::rest) (CJ X.K C i ts tr):=by
 intro pins s σ H D a cls dx xi h;obtain⟨B,a0,I,⟨fl,dd⟩,ha,h0,hp,stab⟩:=id xi;rcases h with ⟨em,k⟩|⟨em,k⟩
 ·refine wpAny_handleBy_cons (codeAny_handlers_test (bU (I.marked (.ref a)) hg hm ?_ hdb)) (by intro q;cases q)
  refine (PySem.W.exm_one I.kIn (dZ fl) em).here ?_;refine codeAny_handlers_suite_as (mz fl dd λh6 fl6 up6 dd6=>?_)
  have I6:=stab h6 fl6.1 up6;obtain⟨oe,vs,e1,e2,e3,_⟩:=fl6.first
  have e4:oe.dict=dx:=by
   obtain⟨o',z1,z2⟩:=dd6;cases e1.symm.trans z1;exact z2
  have I7:=I6.trackExc (cls:=cls) ha e1 e2 e3 e4 h0 hp;refine gW (X:=X.marked (.ref a)) (v:=.ref a) (I7.marked (.ref a)) hN hi (.inl hl) rfl (λs7 I8=>?_) (.inr hl)
  refine wpAny_mono (hs (.ref a) pins s7 _ _ (D.goes i) I8 (k a ha)) (λfl s8 q=>?_) (λ_ _ z=>False.elim z)
  have hcl:(X.env.scope.kind == .class||(X.env.scope.kind == .module&&X.env.locals != X.env.globals))=false:=by rw[I.ok.kind];rfl
  have fin:∀σ' H',Inv (X.marked (.ref a)) pins σ' H' s8->∀(Q:Unit->Shared->Prop),(∀s9,Inv X pins (σ'.set i none) H' s9->Q () s9)->
    wpAny (model X.prog X.w) X.A (do bindName X.env n .none;unbindBehindTheSuite X.env n hpos) Q X.xe s8:=λσ' H' J Q kq=>by
   have J':=J.unmark I.ok;obtain⟨m,hm',hl'⟩:=J'.loc;exact wpAny_nameGoes_keeps hl hm' hcl λh' v hn hs'=>kq _ (Inv.goes hi hN J' hm' hl' hn hs')
  match fl,q with
  |.next,⟨σ',H',J,q⟩=>exact fin σ' H' J _ λs9 J9=>⟨_,_,J9,q⟩
  |.brk,⟨σ',H',J,q⟩=>exact fin σ' H' J _ λs9 J9=>⟨_,_,J9,q⟩
  |.cont,⟨σ',H',J,q⟩=>exact fin σ' H' J _ λs9 J9=>⟨_,_,J9,q⟩
  |.ret u,⟨v,σ',H',J,r,q⟩=>exact fin σ' H' J _ λs9 J9=>⟨v,_,_,J9,r,q⟩
 ·refine wpAny_handleBy_cons (codeAny_handlers_test (bU (I.marked (.ref a)) hg hm ?_ hdb)) (by intro q;cases q)
  refine (PySem.W.exm_one I.kIn (dZ fl) em).here ?_;exact hr pins s σ H D a cls dx xi k
theorem yU(hg:Gl X c)(hm:X.mg c=some (.ref C))(hs:∀v,PSs (X.marked v) (b0::suite) ts)(hr:PH X rest tr)(hdb:(c == ("__debug__" : Str))=false:=by decide) :
  PH X (.ExceptHandler (some (.Name c np)) none (b0::suite) hpos::rest) (BQ X.K C ts tr):=by
 intro pins s σ H D a cls dx xi h;obtain⟨B,a0,I,⟨fl,dd⟩,ha,h0,hp,stab⟩:=id xi;rcases h with ⟨em,k⟩|⟨em,k⟩
 ·refine wpAny_handleBy_cons (codeAny_handlers_test (bU (I.marked (.ref a)) hg hm ?_ hdb)) (by intro q;cases q)
  refine (PySem.W.exm_one I.kIn (dZ fl) em).here ?_;refine codeAny_handlers_suite (mz fl dd λh6 fl6 up6 dd6=>?_)
  have I6:=stab h6 fl6.1 up6;refine wpAny_mono (hs (.ref a) pins _ _ _ D (I6.marked (.ref a)) k) (λfl s8 q=>?_) (λ_ _ z=>False.elim z)
  match fl,q with
  |.next,⟨σ',H',J,q⟩=>exact⟨_,_,J.unmark I.ok,q⟩
  |.brk,⟨σ',H',J,q⟩=>exact⟨_,_,J.unmark I.ok,q⟩
  |.cont,⟨σ',H',J,q⟩=>exact⟨_,_,J.unmark I.ok,q⟩
  |.ret u,⟨v,σ',H',J,r,q⟩=>exact⟨v,_,_,J.unmark I.ok,r,q⟩
 ·refine wpAny_handleBy_cons (codeAny_handlers_test (bU (I.marked (.ref a)) hg hm ?_ hdb)) (by intro q;cases q)
  refine (PySem.W.exm_one I.kIn (dZ fl) em).here ?_;exact hr pins s σ H D a cls dx xi k
end
end L2
namespace L2
open PySem PySem.Spec PySem.Calls PyProof.Rows
noncomputable def u4(K:PySem.W.Frag)(C:Addr):Bool:=match K.lookup C with
 |some ⟨.type "type",_,.cls k,sl⟩=>(match k.mro with
  |.ref C2::above=>C2 == C&&!k.hasDel&&PySem.W.tailIn K bmV above&&(match sl.toList with
   |[_,_,_,_,some (.builtin mk),_]=>mk == "ValueError.__new__"
   |_=>false)
  |_=>false)
 |_=>false
section
variable {A:Around}{h:Heap}{os:OsState}{K:PySem.W.Frag}
end
end L2
namespace L2
open PySem PySem.Spec PySem.Calls PyProof.Rows
section
variable {pos:Pos}
theorem qp{args:List Expr}(h1:(backTo pos (starEach args env)).any (·.1)=false)(h2:args.length < 30):methodCallForm (args.length+([]:List Keyword).length) (backTo pos (starEach args env)) (backToKw pos (keywordEach [] env))=true:=by
 unfold methodCallForm;have a:(backTo pos (starEach args env)).all (!·.1)=true:=by
  rw[List.all_eq_true];intro x hx;have:=List.any_eq_false.mp h1 x hx;simpa using this
 rw[a];have:(backToKw pos (keywordEach [] env)).all (·.1.isSome)=true:=rfl;rw[this];have h3:(backToKw pos (keywordEach ([]:List Keyword) env)).isEmpty=true:=rfl;simp only[h3,if_true,List.length_nil,Bool.true_and,Nat.add_zero,decide_eq_true_eq];exact h2
end
noncomputable def Bv(e C:Addr):HO:=.ext λh=>∃t0,h.get? e=some {cls:=.ref C,data:=.fields #[.ref t0,.none,.none,.none,.bool false,.none]}
noncomputable def wm(e C dx:Addr):HO:=.ext λh=>∃t0,h.get? e=some {cls:=.ref C,dict:=some dx,data:=.fields #[.ref t0,.none,.none,.none,.bool false,.none]}
structure XIni (K:PySem.W.Frag)(C fI:Addr)(f:Str):Prop where
 cl:u4 K C=true
 ini:PySem.W.findIn K (.ref C) "__init__"=some (some (.ref fI))
 fn:PySem.W.typeIn K (.ref fI)=some (.type "function")
 sa:PySem.W.findIn K (.ref C) "__setattr__"=some (some (.builtin "object.__setattr__"))
 at_:PySem.W.findIn K (.ref C) f=some none
 hd:PySem.W.hasDictIn K C=true
 ob:PySem.W.mroIn K C (.type "object")=some true
 kp:PySem.W.keepIn K (.ref C)=true
section
variable {X:Cx}{D:Addr}{apos pos:Pos}
noncomputable def nM(cp:Bool)(K:PySem.W.Frag)(C:Addr)(f:Str):Sp:=λvs H Q _=>∃a v,vs=[.ref a,v]/\H a=some (Bv a C)/\(cp=false->∀dx ob,H dx=none->dx≠a->Q .non (upd (upd H a (wm a C dx)) dx (.frz ob (.xd [(f,v)]))))/\
 (cp=true->∃p ws,v=.ref p/\SqL K H p ws/\∀q dx ob,H q=none->H dx=none->dx≠a->dx≠q->Q .non (upd (upd (upd H q (.lst ws)) a (wm a C dx)) dx (.frz ob (.xd [(f,.ref q)]))))
end
end L2
namespace L2
open PySem PySem.Spec PyProof.Rows
noncomputable def aA(names:List (Str×NameKind))(cs:List (Str×Addr))(acc:List (Str×Addr)):List (Str×Addr):=match names with
 |[]=>acc
 |(n,k)::r=>if k=.free then (match cs.lookup n with|some c=>aA r cs ((n,c)::acc)|none=>aA r cs acc) else aA r cs acc
theorem be{cs:List (Str×Addr)}:∀{names:List (Str×NameKind)}{acc:List (Str×Addr)},(∀p∈acc,cs.lookup p.1=some p.2)->∀p∈aA names cs acc,cs.lookup p.1=some p.2
 |[],_,h,p,hp=>h p hp
 |(n,k)::r,acc,h,p,hp=>by
  unfold aA at hp;split at hp
  ·split at hp
   next c e=>
    refine be (λq hq=>?_) p hp
    rcases List.mem_cons.mp hq with z|z
    ·subst z;exact e
    ·exact h q z
   next=>exact be h p hp
  ·exact be h p hp
theorem cr:∀{names:List (Str×NameKind)}{acc:List (Str×Addr)}{p:Str×Addr},p∈acc->p∈aA names cs acc
 |[],_,_,h=>h
 |(n,k)::r,acc,p,h=>by
  unfold aA;split
  ·split
   ·exact cr (List.mem_cons_of_mem _ h)
   ·exact cr h
  ·exact cr h
theorem cu{cs:List (Str×Addr)}(e:cs.lookup x=some c):∀{names:List (Str×NameKind)}{acc:List (Str×Addr)},(x,NameKind.free)∈names->(x,c)∈aA names cs acc
 |(n,k)::r,acc,h=>by
  rcases List.mem_cons.mp h with z|z
  ·cases z;unfold aA;rw[if_pos rfl,e];exact cr List.mem_cons_self
  ·unfold aA;split
   ·split
    ·exact cu e z
    ·exact cu e z
   ·exact cu e z
theorem cL{l:List (Str×Addr)}(h:(x,c)∈l)(u:∀p∈l,p.1=x->p.2=c):l.lookup x=some c:=by
 induction l with
 |nil=>cases h
 |cons p r ih=>
  obtain⟨n,d⟩:=p;by_cases e:x=n
  ·subst e;rw[List.lookup_cons,beq_self_eq_true];exact congrArg some (u (x,d) List.mem_cons_self rfl)
  ·rw[List.lookup_cons];rw[beq_eq_false_iff_ne.mpr e];rcases List.mem_cons.mp h with z|z
   ·cases z;exact absurd rfl e
   ·exact ih z λq hq=>u q (List.mem_cons_of_mem _ hq)
theorem aZ{l:List (Str×Addr)}(h:l.lookup x=some c):(x,c)∈l:=PySem.mem_of_lookup h
theorem j3{cs:List (Str×Addr)}(hm:(x,NameKind.free)∈names)(e:cs.lookup x=some c):(aA names cs []).lookup x=some c:=by
 refine cL (cu e hm) λp hp hx=>?_
 have z:=be (acc:=[]) (λp hp=>nomatch hp) p hp
 rw[hx,e]at z;exact (Option.some.inj z).symm
theorem mS{env:Env}(e:env.cells.lookup n=some c):cellOf env n=pure c:=by
 unfold cellOf;rw[e]
theorem ij{scope:Scope}{env:Env}(h:∀y∈scope.names,y.2=.free->∃c,env.cells.lookup y.1=some c):closureFor scope env=pure (aA scope.names env.cells []):=by
 have go:∀(names:List (Str×NameKind)) (acc:List (Str×Addr)),(∀y∈names,y.2=.free->∃c,env.cells.lookup y.1=some c)->
   (forIn names acc λx r=>match x with
    |(n,k)=>if (k == NameKind.free)=true then do let c<-cellOf env n;pure (ForInStep.yield ((n,c)::r)) else pure (ForInStep.yield r):Sem (List (Str×Addr)))=pure (aA names env.cells acc):=by
  intro names
  induction names with
  |nil=>intro acc _;rfl
  |cons y r ih=>
   intro acc hy;obtain⟨n,k⟩:=y;rw[List.forIn_cons];by_cases hk:k=NameKind.free
   ·subst hk;obtain⟨c,e⟩:=hy (n,.free) List.mem_cons_self rfl;simp only[beq_self_eq_true,if_true];rw[mS e];show (forIn r ((n,c)::acc) _:Sem _)=_;rw[ih _ λz hz=>hy z (List.mem_cons_of_mem _ hz)]
    conv=>rhs;unfold aA
    simp only[if_true,e]
   ·have hb:(k == NameKind.free)=false:=by simpa using hk
    simp only[hb,Bool.false_eq_true,if_false];show (forIn r acc _:Sem _)=_;rw[ih _ λz hz=>hy z (List.mem_cons_of_mem _ hz)]
    conv=>rhs;unfold aA
    simp only[hk,if_false]
 have e:=go scope.names [] h;show ((forIn scope.names [] λx r=>match x with
    |(n,k)=>if (k == NameKind.free)=true then do let c<-cellOf env n;pure (ForInStep.yield ((n,c)::r)) else pure (ForInStep.yield r):Sem (List (Str×Addr))) >>=λz=>pure z)=_
 rw[e];rfl
theorem az:∀(names:List (Str×NameKind)) (n:Nat) (acc:List (Str×Addr)),cellsFrom n names acc=cellsFrom n names []++acc
 |[],_,_=>rfl
 |(x,k)::r,n,acc=>by
  unfold cellsFrom;split
  ·rw[az r (n+1) ((x,n)::acc),az r (n+1) [(x,n)],List.append_assoc];rfl
  ·exact az r n acc
theorem ao:∀{names:List (Str×NameKind)}{n:Nat}{p:Str×Addr},p∈cellsFrom n names []->(p.1,NameKind.cell)∈names/\n<=p.2
 |[],_,_,h=>nomatch h
 |(x,k)::r,n,p,h=>by
  unfold cellsFrom at h;split at h
  ·rename_i hk;rw[az]at h;rcases List.mem_append.mp h with z|z
   ·obtain⟨a,b⟩:=ao z;exact⟨List.mem_cons_of_mem _ a,by omega⟩
   ·obtain rfl:=List.mem_singleton.mp z;exact⟨by rw[show k=NameKind.cell from by simpa using hk];exact List.mem_cons_self,Nat.le_refl _⟩
  ·obtain⟨a,b⟩:=ao h;exact⟨List.mem_cons_of_mem _ a,b⟩
theorem bG:∀{names:List (Str×NameKind)}{n:Nat}{x:Str},(x,NameKind.cell)∈names->∃c,(x,c)∈cellsFrom n names []
 |(y,k)::r,n,x,h=>by
  rcases List.mem_cons.mp h with z|z
  ·cases z;unfold cellsFrom;rw[if_pos (by rfl),az]
   exact⟨n,List.mem_append_right _ List.mem_cons_self⟩
  ·unfold cellsFrom;split
   ·obtain⟨c,e⟩:=bG z (n:=n+1);rw[az];exact⟨c,List.mem_append_left _ e⟩
   ·exact bG z
theorem ck:∀{l:List (Str×Addr)}{x:Str}{c:Addr},(x,c)∈l->∃c',l.lookup x=some c'
 |(y,d)::r,x,c,h=>by
  rw[List.lookup_cons];cases e:x == y with
  |true=>exact⟨d,rfl⟩
  |false=>
   rcases List.mem_cons.mp h with z|z
   ·cases z;simp at e
   ·exact ck z
theorem eX
  (hQ:Q {scope:=scope,locals:=s.heap.objs.size,globals:=globals,cells:=cellsFrom (s.heap.objs.size+1) scope.names []++cl,qual:=qual,func:=none,code:=outer.code,frame:=outer.frame,builtins:=outer.builtins} {s with heap:=pushCells (s.heap.push {cls:=.type "dict",data:=.dict #[]}) scope.names}) :
  wpAny M A (newFunctionEnv scope globals cl [] qual none .none (some outer)) Q E s:=by
 simp only[newFunctionEnv,Option.isSome_some,if_true];refine wpAny_bind (wpAny_alloc ?_);refine wpAny_bind (wpAny_layCells _ (λname kind cells=>by cases hkc:kind == NameKind.cell<;>simp[hkc]) _ _ _ _ ?_)
 rw[show ({s with heap:=s.heap.push {cls:=.type "dict",data:=.dict #[]}}:Shared).heap.objs.size=s.heap.objs.size+1 from Heap.size_push ..,az]
 refine wpAny_bind ?_;rw[List.forIn_nil];exact wpAny_pure (wpAny_pure hQ)
noncomputable def bx(N:List Str)(js:List (Option Nat))(sc osc:Scope)(oN:List Str):Bool:=
 N.length == js.length&&decide N.Nodup&&
 (N.zip js).all (λp=>match p.2 with
  |none=>sc.names.lookup p.1 == some .local||sc.names.lookup p.1 == some .cell
  |some j=>oN[j]? == some p.1&&sc.names.contains (p.1,NameKind.free)&&osc.names.lookup p.1 == some .cell)&&
 decide (sc.names.map (·.1)).Nodup&&sc.names.all (λy=>(y.2 != .free||osc.names.lookup y.1 == some .cell)&&(y.2 != .local||sc.names.lookup y.1 == some .local))&&(sc.kind == .function)&&(osc.kind == .function)
noncomputable def gC(js:List (Option Nat))(σ:St):St:=js.map λo=>o.bind λj=>(σ[j]?).bind id
noncomputable abbrev compCx(X:Cx)(scope:Scope)(C:Addr)(N:List Str)(s2:Shared)(H2:Hp)(fp:List Addr)(pins:List (Addr×Obj)):Cx:=
 {X with env:=compEnvC scope (cellsFrom (C+1) scope.names []++aA scope.names X.env.cells []) C X.env,N:=N,s₀:=s2,H₀:=H2,outer:=X.stack,stack:=X.stack,ex:=fp,fn:=λx=>scope.names.lookup x == some .cell,pn:=X.pn++pins,xe:=λ_ _=>False}
theorem eo{env:Env}(hk:env.scope.kind=.function)(hc:env.kindOf x=some .cell):∀{names:List (Str×NameKind)},(x,NameKind.free)∈names->(∀y∈names,y.1=x->y.2=.free)->
  (names.map λ(n,k)=>if (k == .free&&env.scope.kind == .function&&env.kindOf n == some .cell) then (n,.cell) else (n,k)).lookup x=some NameKind.cell
 |(n,k)::r,hm,hu=>by
  show List.lookup x ((if (k == NameKind.free&&env.scope.kind == .function&&env.kindOf n == some .cell)=true then (n,NameKind.cell) else (n,k))::_)=_
  by_cases e:x=n
  ·subst e;have ek:k=.free:=hu (x,k) List.mem_cons_self rfl;subst ek;simp only[hk,hc,beq_self_eq_true,Bool.and_self,if_true];rw[List.lookup_cons,beq_self_eq_true]
  ·have hm':(x,NameKind.free)∈r:=by
    rcases List.mem_cons.mp hm with z|z
    ·cases z;exact absurd rfl e
    ·exact z
   have ih:=eo hk hc hm' λy hy=>hu y (List.mem_cons_of_mem _ hy)
   split
   ·rw[List.lookup_cons,beq_eq_false_iff_ne.mpr e];exact ih
   ·rw[List.lookup_cons,beq_eq_false_iff_ne.mpr e];exact ih
end L2
namespace L2
open PySem PySem.Spec PyProof.Rows
structure CompOk (N:List Str) (js:List (Option Nat)) (sc osc:Scope)(oN:List Str):Prop where
 len:N.length=js.length
 nd:N.Nodup
 own:∀(i:Nat)(x:Str),N[i]?=some x->js[i]?=some none->sc.names.lookup x=some .local\/sc.names.lookup x=some .cell
 fr:∀(i:Nat)(x:Str)(j:Nat),N[i]?=some x->js[i]?=some (some j)->oN[j]?=some x/\(x,NameKind.free)∈sc.names/\osc.names.lookup x=some .cell
 ndn:(sc.names.map (·.1)).Nodup
 nf:∀y∈sc.names,y.2=.free->osc.names.lookup y.1=some .cell
 nl:∀y∈sc.names,y.2=.local->sc.names.lookup y.1=some .local
 k1:sc.kind=.function
 k2:osc.kind=.function
theorem iG(h:bx N js sc osc oN=true):CompOk N js sc osc oN:=by
 unfold bx at h;simp only[Bool.and_eq_true,beq_iff_eq,decide_eq_true_eq,List.all_eq_true,Bool.or_eq_true,bne_iff_ne]at h;obtain⟨⟨⟨⟨⟨⟨h1,h2⟩,h3⟩,h4⟩,h5⟩,h6⟩,h7⟩:=h;have zip:∀(i:Nat)(x:Str)(o:Option Nat),N[i]?=some x->js[i]?=some o->(x,o)∈N.zip js:=λi x o e1 e2=>
  List.mem_of_getElem? (i:=i) (by rw[List.getElem?_zip_eq_some];exact⟨e1,e2⟩)
 refine⟨h1,h2,λi x e1 e2=>?_,λi x j e1 e2=>?_,h4,λy hy e=>?_,λy hy e=>?_,h6,h7⟩
 ·have z:=h3 _ (zip i x _ e1 e2);simpa using z
 ·have z:=h3 _ (zip i x _ e1 e2);simp only[Bool.and_eq_true,beq_iff_eq]at z;exact⟨z.1.1,List.contains_iff_mem.mp z.1.2,z.2⟩
 ·rcases (h5 y hy).1 with z|z
  ·exact absurd e z
  ·exact z
 ·rcases (h5 y hy).2 with z|z
  ·exact absurd e z
  ·exact z
theorem cM{env:Env}:∀{names:List (Str×NameKind)},
  (names.map λ(n,k)=>if (k == .free&&env.scope.kind == .function&&env.kindOf n == some .cell) then (n,.cell) else (n,k)).lookup x=some k->∃k',(x,k')∈names/\(k'=k\/k'=.free)
 |[],h=>by cases h
 |(n,k0)::r,h=>by
  have h:List.lookup x ((if (k0 == NameKind.free&&env.scope.kind == .function&&env.kindOf n == some .cell)=true then (n,NameKind.cell) else (n,k0))::_)=_:=h
  by_cases e:x=n
  ·subst e;split at h
   next hc=>
    refine⟨k0,List.mem_cons_self,.inr ?_⟩;have:=(Bool.and_eq_true_iff.mp (Bool.and_eq_true_iff.mp hc).1).1;simpa using this
   next=>
    rw[List.lookup_cons,beq_self_eq_true]at h;exact⟨k0,List.mem_cons_self,.inl (Option.some.inj h)⟩
  ·have h':List.lookup x (r.map λ(n,k)=>if (k == .free&&env.scope.kind == .function&&env.kindOf n == some .cell) then (n,.cell) else (n,k))=some k:=by
    split at h
    ·rw[List.lookup_cons,beq_eq_false_iff_ne.mpr e]at h;exact h
    ·rw[List.lookup_cons,beq_eq_false_iff_ne.mpr e]at h;exact h
   obtain⟨k',m,z⟩:=cM h';exact⟨k',List.mem_cons_of_mem _ m,z⟩
theorem nw(I:Nat->Shared->Prop)(V:Value->Shared->Prop)(hV:∀e s,V e s->notedBy (model prog w) A env (λx s'=>R (.error x) s') e s)
  (kL:∀n s,I n s->wpAny (model prog w) A (pyNext it) (λr s1=>match r with
   |none=>R (.ok .next) s1
   |some v=>wpAny (model prog w) A (letOwnedTupleGo target it v) (λ_ s2=>wpAny (model prog w) A (assign target env v) (λ_ s3=>
     wpAny (model prog w) A (forIn ifs true λc r=>if r=true then do let ok<-isTrue c env (eval c env);pure (ForInStep.yield ok) else pure (ForInStep.yield r)) (λok s4=>
      if ok=true then wpAny (model prog w) A (eval elt env) (λx s5=>wpAny (model prog w) A (call (.builtin "list.append") [acc,x]) (λ_ s6=>∃m,m < n/\I m s6) (λ_ _=>False) s5) V s4
      else ∃m,m < n/\I m s4) (λ_ _=>False) s3) (λ_ _=>False) s2) (λ_ _=>False) s1) (λ_ _=>False) s)
  (n:Nat)(h:I n s):codeAny (model prog w) A (.compLoop (.ListComp elt [⟨target,iter,ifs,0⟩] scope pos) 0 it acc env) R s:=by
 have no:∀{α:Type}{t:Sem α}{Q:α->Shared->Prop}{E:Value->Shared->Prop}{z:Shared},wpAny (model prog w) A t Q (λ_ _=>False) z->wpAny (model prog w) A t Q E z:=λh=>wpAny_noRaise h
 refine codeAny_loop rfl I (λn s hI=>?_) n h
 show wpAny _ A ((compTurn (.ListComp elt [⟨target,iter,ifs,0⟩] scope pos) 0 it acc env).onRaise (λx=>do noteFrame x env;theTreesLotGoes x)) _ _ s
 refine wpAny_noted ?_;rw[compTurn_list];refine wpAny_bind (wpAny_standAt (wpAny_bind (no (wpAny_mono (kL n s hI) (λr s1 h1=>?_) λ_ _ z=>z))))
 cases r with
 |none=>exact wpAny_pure h1
 |some v=>
  refine wpAny_bind (no (wpAny_mono h1 (λ_ s2 h2=>?_) λ_ _ z=>z))
  refine wpAny_bind (no (wpAny_mono h2 (λ_ s3 h3=>?_) λ_ _ z=>z))
  refine wpAny_bind (no (wpAny_mono h3 (λok s4 h4=>?_) λ_ _ z=>z))
  cases ok with
  |false=>exact wpAny_pure ⟨rfl,h4⟩
  |true=>
   refine wpAny_bind (wpAny_bind (wpAny_mono h4 (λx s5 h5=>?_) hV))
   exact wpAny_bind (no (wpAny_mono h5 (λ_ s6 h6=>wpAny_pure (wpAny_pure ⟨rfl,h6⟩)) λ_ _ z=>z))
noncomputable def PIf(X:Cx)(ifs:List Expr)(tt:TT):Prop:=∀(pins:List (Addr×Obj)) (s:Shared)(σ:St)(H:Hp)(Q:Bool->Hp->Prop),Inv X pins σ H s->tt σ H Q->
 wpAny (model X.prog X.w) X.A (forIn ifs true λc r=>if r=true then do let ok<-isTrue c X.env (eval c X.env);pure (ForInStep.yield ok) else pure (ForInStep.yield r)) (TP X pins σ Q) X.xe s
noncomputable def tYes:TT:=λ_ H Q=>Q true H
theorem qu:PIf X [] tYes:=λpins s σ H Q I h=>wpAny_tests_nil ⟨H,I,h⟩
theorem rq(h:PT X c t):PIf X [c] t:=λpins s σ H Q I q=>wpAny_tests_one (h pins s σ H Q I q)
noncomputable def j6(js:List (Option Nat))(wi:TI)(g:TG)(tt:TT)(te:TE):TE:=λσ H Q=>wi σ H λJ H1=>∀p,H1 p=none->∃W:Nat->Nat->St->Hp->Prop,(∃m,W 0 m (gC js σ) (upd H1 p (.lst [])))/\
 ∀(i:Nat) m σc H,W i m σc H->(J.stop i H/\Q (.ref p) H)\/(J.go i H/\∀x H',J.yld i H x H'->g x σc H' λσ2 H2=>tt σ2 H2 λb H3=>
  if b=true then te σ2 H3 λy H4=>∃ys,H4 p=some (.lst ys)/\ys.length < sizeLine/\∃m',m' < m/\W (i+1) m' σ2 (upd H4 p (.lst (ys++[y]))) else ∃m',m' < m/\W (i+1) m' σ2 H3)
section
variable {X:Cx}
noncomputable def iL(X:Cx)(scope:Scope)(C:Addr)(N:List Str)(s2:Shared)(H2:Hp)(fp:List Addr)(pn:List (Addr×Obj))(Ex:XK)(e:Value)(s':Shared):Prop:=∃pins σ H s,Inv (compCx X scope C N s2 H2 fp pn) pins σ H s/\CX1 X.prog X.w X.stack H s Ex e s'
theorem gd(hok:bx N js scope X.env.scope X.N=true)(hcalm:X.calm=true)(hi:PI X tg iter wi)
  (hg:∀C s2 H2 fp pn,PG (compCx X scope C N s2 H2 fp pn) tg g) (ht:∀C s2 H2 fp pn,PIf (compCx X scope C N s2 H2 fp pn) ifs tt) (he:∀C s2 H2 fp pn,PE ((compCx X scope C N s2 H2 fp pn).wish (iL X scope C N s2 H2 fp pn Ex)) elt te) (hp:(∀c d H,¬ Ex c d H)\/kH X Ex)
  (hs:∀x,foldedSetIterable iter X.env x=pure x) (I:Inv X pins σ H s)(h:j6 js wi g tt te σ H Q)
  (fin:∀(D C:Addr)(s5:Shared)(H4:Hp)(m5:Str->Option Value),s5.heap.Ns C m5->gI X pins H4 C->(∀h',Heap.SameBut C s5.heap h'->Inv X pins σ H4 {s5 with heap:=h'})->Q (.ref D) H4->compPost (model X.prog X.w) X.A X.xe use Qf (.ref D) C (.ok .next) s5) :
  wpAny (model X.prog X.w) X.A (comprehension (.ListComp elt [⟨tg,iter,ifs,0⟩] scope pos) scope X.env pos' (newList []) false (eval iter X.env) use) Qf X.xe s:=by
 have O:=iG hok;have hcells:∀y∈scope.names,y.2=.free->∃c,X.env.cells.lookup y.1=some c:=λy hy e=>I.ok.has y.1 (.inl (O.nf y hy e))
 refine wpAny_comprehension_free (use:=use) rfl hs (ij hcells) O.k1 O.nl (thn (hi pins s σ H _ I h) λxv s1 h1=>thn h1 λitv s2 h2=>?_)
 obtain⟨it,fp,tn,J,H2,rfl,I2,T,st2,f2,hQ⟩:=h2;refine wpAny_newObj_type (eX ?_);dsimp only;have sz1:(s2.heap.push {cls:=.type "list",dict:=none,data:=.seq ([]:List Value).toArray}).objs.size=s2.heap.objs.size+1:=Heap.size_push ..;have sz2:((s2.heap.push {cls:=.type "list",dict:=none,data:=.seq ([]:List Value).toArray}).push {cls:=.type "dict",data:=.dict #[]}).objs.size=s2.heap.objs.size+1+1:=by rw[Heap.size_push,sz1]
 have hns:(pushCells ((s2.heap.push {cls:=.type "list",dict:=none,data:=.seq ([]:List Value).toArray}).push {cls:=.type "dict",data:=.dict #[]}) scope.names).Ns (s2.heap.objs.size+1) (λ_=>none):=by
  rw[<-sz1];exact (Heap.Ns.new _ (.type "dict")).keeps (pushCells_keeps _ _)
 have keep:∀b o,s2.heap.get? b=some o->(pushCells ((s2.heap.push {cls:=.type "list",dict:=none,data:=.seq ([]:List Value).toArray}).push {cls:=.type "dict",data:=.dict #[]}) scope.names).get? b=some o:=λb o e=>
  pushCells_keeps _ _ b o (Heap.get?_push_of_some _ (Heap.get?_push_of_some _ e))
 have atD:(pushCells ((s2.heap.push {cls:=.type "list",dict:=none,data:=.seq ([]:List Value).toArray}).push {cls:=.type "dict",data:=.dict #[]}) scope.names).get? s2.heap.objs.size=some {cls:=.type "list",data:=.seq ([]:List Value).toArray}:=
  pushCells_keeps _ _ _ _ (Heap.get?_push_of_some _ (Heap.get?_push_size _ rfl))
 have cok:=cellsFrom_ok scope.names ((s2.heap.push {cls:=.type "list",dict:=none,data:=.seq ([]:List Value).toArray}).push {cls:=.type "dict",data:=.dict #[]}) (s2.heap.objs.size+1+1) [] ⟨λ_ _ hm=>(nomatch hm),List.Pairwise.nil⟩ (by rw[sz2];exact Nat.le_refl _)
 rw[sz2]at cok;rw[sz1];generalize pushCells ((s2.heap.push {cls:=.type "list",dict:=none,data:=.seq ([]:List Value).toArray}).push {cls:=.type "dict",data:=.dict #[]}) scope.names=h1' at hns keep atD cok ⊢;have frD:H2 s2.heap.objs.size=none:=I2.hok.fresh (Nat.le_refl _);have frC:H2 (s2.heap.objs.size+1)=none:=I2.hok.fresh (Nat.le_succ _);have hCD:s2.heap.objs.size+1≠s2.heap.objs.size:=Nat.succ_ne_self _;obtain⟨W,⟨m0,w0⟩,kL⟩:=hQ s2.heap.objs.size frD;have fpThere:∀b∈fp,b < s2.heap.objs.size:=λb hb=>by
  obtain⟨o,e,_⟩:=T.obj 0 _ st2 b hb;exact Heap.lt_size e
 have lk:∀x c,(cellsFrom (s2.heap.objs.size+1+1) scope.names []++aA scope.names X.env.cells []).lookup x=some c->(x,c)∈cellsFrom (s2.heap.objs.size+1+1) scope.names []\/X.env.cells.lookup x=some c:=λx c e=>by
  rcases List.mem_append.mp (aZ e) with z|z
  ·exact .inl z
  ·exact .inr (be (acc:=[]) (λp hp=>nomatch hp) _ z)
 have old:∀x c,X.env.cells.lookup x=some c->c < s2.heap.objs.size:=λx c e=>by
  obtain⟨v,o,ho,hd⟩:=I2.cell x c e;exact Heap.lt_size ho
 have cne:∀b∈fp,∀x c,(cellsFrom (s2.heap.objs.size+1+1) scope.names []++aA scope.names X.env.cells []).lookup x=some c->c≠b:=λb hb x c e=>by
  rcases lk x c e with z|z
  ·have a1:=(ao z).2;exact Nat.ne_of_gt (Nat.lt_of_lt_of_le (fpThere b hb) (Nat.le_trans (Nat.le_add_right _ 2) a1))
  ·exact (f2 b hb).2.2.2.2.1 x c z
 let Xc:Cx:=compCx X scope (s2.heap.objs.size+1) N s2 H2 fp pins
 have cOk:Xc.Ok:=by
  refine⟨I2.ok.mod,O.k1,I2.ok.glob,I2.ok.blt,Nat.le_succ _,λx y c e1 e2=>?_,λx hx=>?_,λx c e1 e2=>?_,I2.ok.hd,I2.ok.frames,.inl rfl,λb hb=>?_,I2.bs,Nat.le_trans I2.ok.bsz I2.sz,λb o e hb=>?_,λb hb hm=>?_,I2.stack,I2.stkFree⟩
  ·rcases lk x c e1 with z1|z1<;>rcases lk y c e2 with z2|z2
   ·exact name_of_addr cok.apart z1 z2
   ·have a1:=(ao z1).2;exact absurd (Nat.lt_of_lt_of_le (old _ _ z2) (Nat.le_trans (Nat.le_add_right _ 2) a1)) (Nat.lt_irrefl _)
   ·have a1:=(ao z2).2;exact absurd (Nat.lt_of_lt_of_le (old _ _ z1) (Nat.le_trans (Nat.le_add_right _ 2) a1)) (Nat.lt_irrefl _)
   ·exact I2.ok.inj x y c z1 z2
  ·have hx:(relabel scope X.env).names.lookup x=some .cell\/(relabel scope X.env).names.lookup x=some .free:=hx;have key:(x,NameKind.free)∈scope.names\/(x,NameKind.cell)∈scope.names:=by
    rcases hx with hx|hx
    ·obtain⟨k',m,z⟩:=cM hx;rcases z with z|z
     ·subst z;exact .inr m
     ·subst z;exact .inl m
    ·obtain⟨k',m,z⟩:=cM hx;rcases z with z|z<;>(subst z;exact .inl m)
   rcases key with key|key
   ·obtain⟨c,e⟩:=hcells _ key rfl;exact ck (List.mem_append_right _ (aZ (j3 key e)))
   ·obtain⟨c,e⟩:=bG key (n:=s2.heap.objs.size+1+1);exact ck (List.mem_append_left _ e)
  ·have e1:scope.names.lookup x=some .cell:=beq_iff_eq.mp e1;obtain⟨c1,h1⟩:=bG (PySem.mem_of_lookup e1) (n:=s2.heap.objs.size+1+1);obtain⟨c2,h2⟩:=ck h1;have e2:(cellsFrom (s2.heap.objs.size+1+1) scope.names []++aA scope.names X.env.cells []).lookup x=some c:=e2;rw[List.lookup_append,h2]at e2;cases e2;have a1:=(ao (aZ h2)).2;exact Nat.le_trans (Nat.le_add_right _ 2) a1
  ·exact⟨Nat.ne_of_lt (Nat.lt_succ_of_lt (fpThere b hb)),λx c e=>cne b hb x c e⟩
  ·rcases (f2 b hb).2.2.2.1 with z|z
   ·exact I2.ok.noex b o e z
   ·exact absurd (Nat.lt_of_lt_of_le (Heap.lt_size e) (Nat.le_trans I2.ok.bsz z)) (Nat.lt_irrefl _)
  ·rcases List.mem_cons.mp (I2.stkSub b hm) with z|z
   ·exact (f2 b hb).2.1 z
   ·exact (f2 b hb).2.2.1 z
 have I3:Inv Xc [] (gC js σ) (upd H2 s2.heap.objs.size (.lst [])) {s2 with heap:=h1'}:=by
  refine⟨cOk,⟨rfl,I2.tk⟩,I2.bare,Un.laid keep (Nat.le_refl _) frD,⟨_,hns,λi x v e1 e2 e3=>?_⟩,λx c e=>?_,?_,λx c e=>?_,λp hp=>?_,?_,?_⟩
  ·have e2:(js.map λo=>o.bind λj=>(σ[j]?).bind id)[i]?=some (some v):=e2
   rw[List.getElem?_map]at e2;cases q:js[i]? with
   |none=>rw[q]at e2;cases e2
   |some o=>
    rw[q]at e2;cases o with
    |none=>cases e2
    |some j=>
     obtain⟨a1,a2,a3⟩:=O.fr i x j e1 q;have hv:σ[j]?=some (some v):=by
      cases z:σ[j]? with
      |none=>rw[Option.map_some,Option.bind_some,z]at e2;cases e2
      |some y=>
       rw[Option.map_some,Option.bind_some,z]at e2;have e2:some (id y)=some (some v):=e2;rw[show y=some v from Option.some.inj e2]
     obtain⟨m,hn,hl⟩:=I2.loc;obtain⟨u,r,l⟩:=hl j x v a1 hv (.inr (.inl a3));refine⟨u,r,?_⟩;rcases l with ⟨k,_⟩|⟨k,c,e,o,ho,hd⟩
     ·rw[show X.env.kindOf x=some .cell from a3]at k;cases k
     ·have only:∀y∈scope.names,y.1=x->y.2=.free:=λy hy hyx=>?_
      ·refine .inr ⟨.inl (eo I2.ok.kind a3 a2 only),c,cL (List.mem_append_right _ (aZ (j3 a2 e))) (λp hp hx=>?_),o,keep _ _ ho,hd⟩
       rcases List.mem_append.mp hp with z|z
       ·have:=only _ (ao z).1 hx;cases this
       ·have z:=be (acc:=[]) (λp hp=>nomatch hp) p z
        rw[hx,e]at z;exact (Option.some.inj z).symm
      obtain⟨i1,h1,e1'⟩:=List.mem_iff_getElem.mp hy;obtain⟨i2,h2,e2'⟩:=List.mem_iff_getElem.mp a2;have:i1=i2:=by
       refine (List.getElem_inj (h₀:=by rw[List.length_map];exact h1) (h₁:=by rw[List.length_map];exact h2) O.ndn).mp ?_
       rw[List.getElem_map,List.getElem_map,e1',e2'];exact hyx
      subst this;rw[e1']at e2';rw[e2']
  ·rcases lk x c e with z|z
   ·exact⟨none,(cok.empty x c z).1⟩
   ·obtain⟨v,o,ho,hd⟩:=I2.cell x c z;exact⟨v,o,keep _ _ ho,hd⟩
  ·show upd H2 _ _ (s2.heap.objs.size+1)=none;rw[ad hCD];exact frC
  ·rcases lk x c e with z|z
   ·have a1:=(ao z).2;show upd H2 _ _ c=none;rw[ad (Nat.ne_of_gt (Nat.lt_of_lt_of_le (Nat.lt_add_of_pos_right (by decide:0 < 2)) a1))]
    exact I2.hok.fresh (Nat.le_trans (Nat.le_add_right _ 2) a1)
   ·have a2:=old _ _ z;show upd H2 _ _ c=none;rw[ad (Nat.ne_of_lt a2)];exact I2.freeC x c z
  ·have hp:p∈X.pn++pins:=by rw[List.append_nil]at hp;exact hp
   obtain⟨e,n,ne,nf,d⟩:=I2.pin p hp;refine⟨keep _ _ e,by rw[ad (Nat.ne_of_lt (Heap.lt_size e))];exact n,Nat.ne_of_lt (Nat.lt_succ_of_lt (Heap.lt_size e)),λhm=>?_,d⟩
   rcases List.mem_cons.mp (I2.stkSub _ hm) with z|z
   ·exact ne z
   ·exact nf z
  ·exact I2.hok.laid keep (Nat.le_refl _) ⟨Nat.zero_le _,[],0,.nil,atD⟩
  ·show (js.map _).length=N.length;rw[List.length_map,O.len]
 have fpc:∀{H':Hp},(∀b∈fp,H' b=none)->∀b∈fp,gI Xc [] H' b:=λ{H'} hn b hb=>by
  refine⟨hn b hb,Nat.ne_of_lt (Nat.lt_succ_of_lt (fpThere b hb)),λhm=>?_,.inl hb,λx c e=>cne b hb x c e,λp hp=>(f2 b hb).2.2.2.2.2 p (by rw[List.append_nil]at hp;exact hp)⟩
  rcases List.mem_cons.mp (I2.stkSub b hm) with z|z
  ·exact (f2 b hb).2.1 z
  ·exact (f2 b hb).2.2.1 z
 have st3:tn 0 h1':=T.keep 0 _ _ st2 λb hb o e=>keep b o e
 have fr3:∀b∈fp,(upd H2 s2.heap.objs.size (.lst [])) b=none:=λb hb=>by
  rw[ad (Nat.ne_of_lt (fpThere b hb))];exact (f2 b hb).1
 have bk:∀{p5:List (Addr×Obj)}{σ5:St}{H4:Hp}{s5:Shared},Inv Xc p5 σ5 H4 s5->∀h',Heap.SameBut (s2.heap.objs.size+1) s5.heap h'->Inv X pins σ H4 {s5 with heap:=h'}:=λ{p5 σ5 H4 s5} I5 h' hsame=>by
  have un5:Un (frs X.stack) fp H2 H4 s2.heap s5.heap:=I5.base;have neC:∀b o,s2.heap.get? b=some o->b≠s2.heap.objs.size+1:=λb o e=>Nat.ne_of_lt (Nat.lt_succ_of_lt (Heap.lt_size e))
  have fC:H4 (s2.heap.objs.size+1)=none:=I5.free;refine I2.call' (s':={s5 with heap:=h'}) (ch:=fp) I5.os ⟨λb o q n hb hx=>(hsame.2 b (neC b o q)).trans (un5.keep b o q n hb hx),λb o q n hb hx=>?_,un5.free,λb o q hx=>?_,un5.tups,un5.frzs,un5.tbls⟩ ?_ I5.bare (λb hb=>⟨(f2 b hb).2.2.2.1,(f2 b hb).2.1,(f2 b hb).2.2.2.2.1,(f2 b hb).2.2.2.2.2⟩)
  ·obtain⟨sl,z⟩:=un5.slot b o q n hb hx;exact⟨sl,(hsame.2 b (neC b o q)).trans z⟩
  ·obtain⟨o',z⟩:=un5.there b o q hx;exact⟨o',(hsame.2 b (neC b o q)).trans z⟩
  ·exact I5.hok.keptT λb u ob hb q=>(hsame.2 b λz=>by rw[z,fC]at hb;cases hb).trans q
 have hV:∀e s,iL X scope (s2.heap.objs.size+1) N s2 H2 fp pins Ex e s->notedBy (model X.prog X.w) X.A (compEnvC scope (cellsFrom (s2.heap.objs.size+1+1) scope.names []++aA scope.names X.env.cells []) (s2.heap.objs.size+1) X.env) (λx s'=>compPost (model X.prog X.w) X.A X.xe use Qf (.ref s2.heap.objs.size) (s2.heap.objs.size+1) (.error x) s') e s:=λe s5 ⟨pc,σc,Hc,sc,Ic,a,cls,B,H5,dx,ee,os,bare,un,hok5,⟨⟨a0,fl⟩,dd⟩,ha,inc,hE⟩=>by
  subst ee;rcases hp with hp|⟨⟨hst,hfr,hex⟩,hp⟩
  ·exact (hp _ _ _ hE).elim
  have fr0:X.A.frames=some (X.env::X.outer):=hst▸I2.ok.frames;have fl':Heap.FlyingW B (X.env::X.outer) a cls a0 s5.heap:=hst▸fl;have na:sc.heap.get? a=none:=mr (X:=Xc) (H2:=H5) ⟨a0,fl⟩ inc;show wpAny _ _ (noteFrame (.ref a) X.env) _ _ _;refine kY fr0 hfr fl' dd λh6 hd6 up6 dd6=>?_
  have I6:Inv Xc pc σc H5 {s5 with heap:=h6}:=Ic.behind (s':=s5) os bare un hok5 inc hd6.1 up6
  obtain⟨m6,hn6,_⟩:=id I6.loc;refine⟨m6,hn6,λh' hsame cenv _=>?_⟩
  obtain⟨oC,_,_,eC,dC,_⟩:=id hn6;have I7:=bk I6 h' hsame;obtain⟨st6,nB,ff6,oe,vs,T,oT,ts,he,⟨hc,h0⟩,hv,h1,nT,ne,hT,dT,h3⟩:=hd6;obtain⟨oe',he',hdx⟩:=dd6;cases he.symm.trans he';have neA:a≠s2.heap.objs.size+1:=λz=>by
   have q:h6.get? (s2.heap.objs.size+1)=some oC:=eC;rw[<-z,he]at q;cases q;rw[hv]at dC;cases dC
  have neT:T≠s2.heap.objs.size+1:=λz=>by
   have q:h6.get? (s2.heap.objs.size+1)=some oC:=eC;rw[<-z,hT]at q;cases q;rw[dT]at dC;cases dC
  have ea:=(hsame.2 a neA).trans he;have eT:=(hsame.2 T neT).trans hT;have sz:3 < ts.size:=(Array.getElem?_eq_some_iff.mp h3).1;have old':∀b o,X.s₀.heap.get? b=some o->∃o',sc.heap.get? b=some o':=λb o q=>by
   have nf:b∉fp:=λhb=>by
    rcases (f2 b hb).2.2.2.1 with z|z
    ·rw[hex]at z;cases z
    ·exact absurd (Nat.lt_of_lt_of_le (Heap.lt_size q) z) (Nat.lt_irrefl _)
   obtain⟨o1,e1⟩:=I2.base.there b o q (by rw[hex];exact λz=>nomatch z)
   exact Ic.base.there b o1 e1 nf
  have n0:∀b,(∀o',sc.heap.get? b=some o'->False)->X.s₀.heap.get? b=none:=λb hb=>by
   cases q:X.s₀.heap.get? b with
   |none=>rfl
   |some o=>
    obtain⟨o',z⟩:=old' b o q;exact (hb o' z).elim
  have noT:∀o',sc.heap.get? T=some o'->False:=λo' q=>by
   obtain⟨o2,e2⟩:=un.there T o' q (λz=>nomatch z)
   have z:=inc T o2 e2 (.inr ⟨⟨o',q⟩,λhm=>by
    have hm:T∈frs (X.env::X.outer):=hst▸hm;obtain⟨_,o3,e3,nf⟩:=ff6.mem hm;rw[hT]at e3;cases e3;exact nf ts dT⟩)
   rw[nT]at z;cases z
  have hT5:H5 T=none:=by
   cases q:H5 T with
   |none=>rfl
   |some u=>
    obtain⟨ob,z⟩:=(hok5 T u q).isAt;have z2:=inc T ob z (.inl (by rw[q];exact λw=>nomatch w))
    rw[nT]at z2;cases z2
  refine pW (s:={s5 with heap:=h'}) ea hv h1 eT dT sz λh'' oT' ts' g1 g2 g3 g4=>?_
  exact hp pins σ H5 {s5 with heap:=h'} a T cls dx h'' I7 g4 (λo q=>by rw[eT]at q;cases q;exact⟨ts,dT⟩) ⟨oe,vs,oT',ts',a0,(g4 a (Ne.symm ne)).trans ea,hc,hdx,hv,h0,h1,ne,g1,g2,g3⟩ ha hT5 (n0 a λo' q=>by rw[na]at q;cases q) (n0 T noT) hE
 have loop:codeAny (model X.prog X.w) X.A (.compLoop (.ListComp elt [⟨tg,iter,ifs,0⟩] scope pos) 0 (.ref it) (.ref s2.heap.objs.size) (compEnvC scope (cellsFrom (s2.heap.objs.size+1+1) scope.names []++aA scope.names X.env.cells []) (s2.heap.objs.size+1) X.env))
   (compPost (model X.prog X.w) X.A X.xe use Qf (.ref s2.heap.objs.size) (s2.heap.objs.size+1)) {s2 with heap:=h1'}:=by
  refine nw (V:=iL X scope (s2.heap.objs.size+1) N s2 H2 fp pins Ex) (hV:=hV) (λn s'=>∃i σc H',Inv Xc [] σc H' s'/\tn i s'.heap/\(∀b∈fp,H' b=none)/\W i n σc H') ?_ m0 ⟨0,_,_,I3,st3,fr3,w0⟩
  rintro n s4 ⟨i,σc,H4,I4,st4,fr4,w4⟩;rcases kL i n σc H4 w4 with ⟨stop,q⟩|⟨go,step⟩
  ·refine thn (T.done Xc rfl rfl rfl hcalm i [] s4 σc H4 (λ_ _=>False) I4 (fpc fr4) st4 stop) λr s5 ⟨hr,I5⟩=>?_
   subst hr;obtain⟨m5,hn5,_⟩:=I5.loc;exact fin _ _ _ H4 m5 hn5 (I2.fpOk (Nat.le_succ _) I5.free) (λh' hsame=>bk I5 h' hsame) q
  ·refine thn (T.item Xc rfl rfl rfl hcalm i [] s4 σc H4 (λ_ _=>False) I4 (fpc fr4) st4 go) λr s5 ⟨u,hr,h5⟩=>?_
   subst hr;refine thn h5 λ_ s6 ⟨x,H6,I6,r6,y6,st6,fr6⟩=>?_
   have I6':=I6.pinned (fpc fr6) (T.obj _ _ st6);refine thn (hg _ _ _ _ _ _ s6 σc H6 x u _ I6' r6 (step x H6 y6)) λ_ s7 ⟨σ7,H7,I7,q7⟩=>?_
   refine thn (ht _ _ _ _ _ _ s7 σ7 H7 _ I7 q7) λok s8 ⟨H8,I8,q8⟩=>?_
   have back:∀{H9:Hp}{s9:Shared}{σ9:St},Inv Xc ([]++gf fp s6.heap) σ9 H9 s9->Inv Xc [] σ9 H9 s9/\tn (i+1) s9.heap/\∀b∈fp,H9 b=none:=λ{H9 s9 σ9} I9=>by
    refine⟨I9.unpinned,T.keep _ _ _ st6 λb hb o e=>(I9.pin (b,o) (List.mem_append_right _ (List.mem_append_right _ (cq hb e)))).1,λb hb=>?_⟩
    obtain⟨o,e,d⟩:=T.obj _ _ st6 b hb;exact (I9.pin (b,o) (List.mem_append_right _ (List.mem_append_right _ (cq hb e)))).2.1
   cases ok with
   |false=>
    rw[if_neg Bool.false_ne_true]at q8 ⊢;obtain⟨m',hm,w8⟩:=q8;obtain⟨b1,b2,b3⟩:=back I8;exact⟨m',hm,i+1,σ7,H8,b1,b2,b3,w8⟩
   |true=>
    rw[if_pos rfl]at q8 ⊢;refine thn (he _ _ _ _ _ _ s8 σ7 H8 _ (I8.wish _) q8) λy s9 ⟨z,H9,I9,r9,ys,e9,hl,m',hm,w9⟩=>?_
    have I9:=I9.unwish;refine thn (iA (X:=Xc) _ s9 σ7 H9 (.ref s2.heap.objs.size) [z] (.ref s2.heap.objs.size) [y] (λ_ H10=>H10=upd H9 s2.heap.objs.size (.lst (ys++[z]))) I9 rfl (.cons r9 .nil) ⟨_,ys,z,rfl,rfl,e9,hl,rfl⟩) λ_ s10 ⟨_,H10,I10,_,e10⟩=>?_
    subst e10;obtain⟨b1,b2,b3⟩:=back I10;exact⟨m',hm,i+1,σ7,_,b1,b2,b3,w9⟩
 exact codeAny_compStart_list loop (T.self _ 0 _ _ _ st3 loop)
theorem PE.wish0{V:Value->Shared->Prop}{C:Addr}{s2:Shared}{H2:Hp}{fp:List Addr}{pn:List (Addr×Obj)}(h:PE (compCx X scope C N s2 H2 fp pn) e t):PE ((compCx X scope C N s2 H2 fp pn).wish V) e t:=λpins s σ H Q I q=>
 wpAny_mono (h pins s σ H Q I.unwish q) (λ_ _ ⟨v,H',I',r⟩=>⟨v,H',I'.wish _,r⟩) λ_ _ z=>z.elim
theorem ox(hok:bx N js scope X.env.scope X.N=true)(hcalm:X.calm=true)(hi:PI X tg iter wi)
  (hg:∀C s2 H2 fp pn,PG (compCx X scope C N s2 H2 fp pn) tg g) (ht:∀C s2 H2 fp pn,PIf (compCx X scope C N s2 H2 fp pn) ifs tt) (he:∀C s2 H2 fp pn,PE ((compCx X scope C N s2 H2 fp pn).wish (iL X scope C N s2 H2 fp pn Ex)) elt te) (hp:kH X Ex)
  (hs:∀x,foldedSetIterable iter X.env x=pure x):PE X (.ListComp elt [⟨tg,iter,ifs,0⟩] scope pos) (j6 js wi g tt te):=λpins s σ H Q I h=>by
 rw[eval_ListComp];exact gd (use:=none) hok hcalm hi hg ht he (.inr hp) hs I h λD C s5 H4 m5 hn _ key q=>⟨m5,hn,λh' hs'=>⟨.ref D,H4,key h' hs',rfl,q⟩⟩
theorem rO(hok:bx N js scope X.env.scope X.N=true)(hcalm:X.calm=true)(hi:PI X tg iter wi)
  (hg:∀C s2 H2 fp pn,PG (compCx X scope C N s2 H2 fp pn) tg g) (ht:∀C s2 H2 fp pn,PIf (compCx X scope C N s2 H2 fp pn) ifs tt) (he:∀C s2 H2 fp pn,PE (compCx X scope C N s2 H2 fp pn) elt te)
  (hs:∀x,foldedSetIterable iter X.env x=pure x:=by intro _;rfl):PE X (.ListComp elt [⟨tg,iter,ifs,0⟩] scope pos) (j6 js wi g tt te):=λpins s σ H Q I h=>by
 rw[eval_ListComp];exact gd (use:=none) (Ex:=λ_ _ _=>False) hok hcalm hi hg ht (λC s2 H2 fp pn=>(he C s2 H2 fp pn).wish0) (.inl λ_ _ _ z=>z) hs I h λD C s5 H4 m5 hn _ key q=>⟨m5,hn,λh' hs'=>⟨.ref D,H4,key h' hs',rfl,q⟩⟩
theorem gP{spos:Pos}(hN:X.N.Nodup)(hy:X.N[i]?=some y)(hl:X.env.scope.names.lookup y=some .local)(hok:bx N js scope X.env.scope X.N=true)(hcalm:X.calm=true)(hi:PI X tg iter wi)
  (hg:∀C s2 H2 fp pn,PG (compCx X scope C N s2 H2 fp pn) tg g) (ht:∀C s2 H2 fp pn,PIf (compCx X scope C N s2 H2 fp pn) ifs tt) (he:∀C s2 H2 fp pn,PE (compCx X scope C N s2 H2 fp pn) elt te)
  (hs:∀x,foldedSetIterable iter X.env x=pure x) (hsw:swapsWith (.ListComp elt [⟨tg,iter,ifs,0⟩] scope pos) (some (.Name y py)) spos.line X.env=pure true) :
  PS X (.Assign [.Name y py] (.ListComp elt [⟨tg,iter,ifs,0⟩] scope pos) spos) (uH (j6 js wi g tt te) (l8 i)):=by
 intro pins s σ H D I h;rw[exec_Assign_Name_used _ _ _ _ hsw];refine wpAny_bind (wpAny_standAt (wpAny_bind ?_));show wpAny _ _ (do let _<-comprehension (.ListComp elt [⟨tg,iter,ifs,0⟩] scope pos) scope X.env _ (newList []) false (eval iter X.env) (some (assign (.Name y py) X.env))) _ _ s
 refine wpAny_bind (wpAny_mono (gd (use:=some (assign (.Name y py) X.env)) (Qf:=λ_ s'=>SP X pins D .next s') (Ex:=λ_ _ _=>False) hok hcalm hi hg ht (λC s2 H2 fp pn=>(he C s2 H2 fp pn).wish0) (.inl λ_ _ _ z=>z) hs I h λDa C s5 H4 m5 hn fp key q=>?_) (λ_ s' hq=>wpAny_pure (wpAny_pure hq)) λ_ _ z=>z)
 show wpAny _ _ (assign (.Name y py) X.env (.ref Da)) _ _ _;have J:Inv X pins σ H4 s5:=key s5.heap (Heap.SameBut.refl _ _);obtain⟨oC,es,ep,eC,rC⟩:=id hn;obtain⟨f0,f1,f2,f3,f4,f5⟩:=id fp;have JC:Inv X (pins++[(C,oC)]) σ H4 s5:=J.pins_of λp hp=>by
  rcases List.mem_append.mp hp with z|z
  ·exact J.pin p (List.mem_append_right _ z)
  ·have e:p=(C,oC):=by simpa using z
   subst e;exact⟨eC,f0,f1,f2,λv hv=>by
    have z:=rC.1;rw[show oC.data=.cell v from hv]at z;cases z⟩
 refine thn ((fG (pos:=py) hN hy (.inl hl) (.inr hl)) _ s5 σ H4 (.ref Da) (.ref Da) (λσ' H'=>H'=H4/\D.nx σ' H') JC rfl ⟨rfl,q⟩) λ_ s6 ⟨σ6,H6,I6,e6,q6⟩=>?_
 subst e6;have eC6:s6.heap.get? C=some oC:=(I6.pin (C,oC) (List.mem_append_right _ (List.mem_append_right _ (by simp)))).1
 refine⟨m5,hn.at' λo e=>?_,λh' hsame=>⟨σ6,H6,?_,q6⟩⟩
 ·rw[eC]at e;cases e;exact eC6
 ·exact (Inv.unpinned I6).turned (t':=s6.toks) (it:=C) (λb o hb e=>(hsame.2 b hb).trans e) f0 f1 f3 f4 f5
end
end L2
namespace L2
open PySem PySem.Spec PySem.Calls PyProof.Rows PySem.W PySem.Builtin PySem.Builtin.ObjectAttr PySem.Builtin.Getset_descriptor
section
variable {h:Heap}{os:OsState}{o:Obj}{K:PySem.W.Frag}
theorem qc(X:K.In h)(hx:h.get? a=some o)(hc:o.cls=.ref C)(hm:PySem.W.mroIn K C (.type "object")=some true)(hq:R (.ok (.ret (.ref C))) ⟨h,g,d,t,os⟩) :
  codeAny (model prog w) A (.call (.builtin "getset_descriptor.__get__") ⟨[.builtin "object.__class__",.ref a,tp],[]⟩) R ⟨h,g,d,t,os⟩:=by
 have L0:PySem.W.Looks (model prog w) h (typeOf (.ref a)) (.ref C):=hc▸(PySem.W.Looks.ld hx).andThen .now;have L1:=PySem.W.looks_mroIn (M:=model prog w) X hm;refine codeAny_call_builtin KF.slot_gs.plain KF.entry_gs (KF.slot_gs.check _ _ _ _ _ _ _ _ KF.type_class (KF.args_gs _ _ _) ?_);unfold Builtin.«getset_descriptor.__get__» descrGet;rw[dga_obj];refine wpAny_bind (wpAny_pure ?_);unfold descrGetter descrCheckInstance descrNameAndClass isInstance;simp only[KF.owner_class]
 repeat lk
 refine⟨Code.quiet_builtin _ (by decide +kernel),codeAny_builtin KF.entry_class ?_⟩
 unfold Builtin.«object.__class__» shownTypeOf
 repeat lk
 exact hq
theorem jU(X:K.In h)(ha:findIn K (.ref C) name=some (some b))(hg:specialIn K b "__get__"=some (some gg))(ht:takesIn K b=some true):Looks M h (find (.ref a) (.ref C) name) (.bind gg b):=by
 have L1:=looks_findIn (M:=M) X ha;have L2:Looks M h (getOf (some b)) (some gg):=looks_specialIn X hg;have L3:=looks_takesIn (M:=M) X ht;refine L1.andThen (L2.andThen ?_);exact (show Looks M h (dataDescriptor? (some b) (some gg)) (some (gg,b)) from L3.andThen .now).andThen (Looks.tag .now)
variable (hga:findIn K (.ref C) "__getattribute__"=some (some (.builtin "BaseException.__getattribute__"))) (hgn:findIn K (.ref C) "__getattr__"=some none) (hcl:findIn K (.ref C) "__class__"=some (some (.builtin "object.__class__")))
 (hn:specialIn K (.builtin "object.__class__") "__get__"=some (some (.builtin "getset_descriptor.__get__"))) (htk:takesIn K (.builtin "object.__class__")=some true) (hm:mroIn K C (.type "object")=some true) (hmB:mroIn K C (.type "BaseException")=some true)
include hcl hn htk hm in
theorem mI(X:K.In h)(hx:h.get? a=some o)(hc:o.cls=.ref C)(hq:Q (.done (.ret (.ref C))) ⟨h,g,d,t,os⟩) :
  wpAny (model prog w) A (Builtin.«object.__getattribute__» ⟨[.ref a,.str "__class__" tk],[]⟩) Q E ⟨h,g,d,t,os⟩:=by
 have L0:Looks (model prog w) h (typeOf (.ref a)) (.ref C):=hc▸(Looks.ld hx).andThen .now;have L1:=jU (M:=model prog w) (a:=a) X hcl hn htk;refine wpAny_bind (wpAny_pure (wpAny_bind (wpAny_pure (wpAny_bind (L0.at (wpAny_bind (L1.at ?_)))))));show wpAny _ _ (bindTo _ _ _ _) _ _ _;refine wpAny_bind (wpAny_holding (wpAny_call (qc X hx hc hm ?_)));exact wpAny_pure hq
include hmB in
theorem ny(X:K.In h)(hx:h.get? a=some o)(hc:o.cls=.ref C)(hq:Q () ⟨h,g,d,t,os⟩):wpAny M A (checkBuiltinCall "BaseException.__getattribute__" ⟨[.ref a,nameV],[]⟩) Q E ⟨h,g,d,t,os⟩:=by
 have hk:builtinKind "BaseException.__getattribute__"=some .slot:=by decide +kernel
 have hsplit:splitId "BaseException.__getattribute__"=some ("BaseException","__getattribute__"):=by decide +kernel
 have L0:Looks M h (typeOf (.ref a)) (.ref C):=hc▸(Looks.ld hx).andThen .now;have L1:=looks_mroIn (M:=M) X hmB;have ha:=F.args_bexc_ga (.ref a) nameV;simp only[checkBuiltinCall,hk,hsplit];refine wpAny_bind ?_
 ·unfold isInstance;refine wpAny_bind (L0.at (L1.at ?_))
  repeat (first|assumption|wp_step)
include hga hgn hcl hn htk hm hmB in
theorem pq(X:K.In h)(hx:h.get? a=some o)(hc:o.cls=.ref C)(hq:Q (some (.ref C)) ⟨h,g,d,t+1,os⟩):wpAny (model prog w) A (getAttr? (.ref a) "__class__") Q E ⟨h,g,d,t,os⟩:=by
 have L0:Looks (model prog w) h (typeOf (.ref a)) (.ref C):=hc▸(Looks.ld hx).andThen .now;have L1:=looks_findIn (M:=model prog w) X hga;have L2:=looks_findIn (M:=model prog w) X hgn;have FB:Slot "ValueError" "__getattribute__" "BaseException.__getattribute__":=F.excAttr_ValueError.ga;have f3:=FB.bind (.ref a);unfold getAttr? getAttrBy? getAttrBy;refine wpAny_bind (wpAny_mkText (wpAny_bind (wpAny_attempt (wpAny_holding (wpAny_bind (L0.at (wpAny_bind (L1.at ?_))))))));show wpAny _ _ (getAttrByItsOwn _ _ _ _ _ _) _ _ _;refine wpAny_bind (L2.at (wpAny_bind (wpAny_attempt (wpAny_holding ?_))));unfold callGetattribute;show wpAny _ _ (boundAndCalled _ _ _) _ _ _;unfold boundAndCalled;rw[f3];refine wpAny_bind (wpAny_pure ?_);refine wpAny_call (codeAny_call_builtin FB.plain F.entry_bexc_ga (ny hmB X hx hc (mI hcl hn htk hm X hx hc ?_)));exact wpAny_pure (wpAny_pure hq)
end
structure ExcI (K:PySem.W.Frag)(C:Addr):Prop where
 hd:PySem.W.hasDictIn K C=true
 ga:findIn K (.ref C) "__getattribute__"=some (some (.builtin "BaseException.__getattribute__"))
 gn:findIn K (.ref C) "__getattr__"=some none
 cl:findIn K (.ref C) "__class__"=some (some (.builtin "object.__class__"))
 n:specialIn K (.builtin "object.__class__") "__get__"=some (some (.builtin "getset_descriptor.__get__"))
 tk:takesIn K (.builtin "object.__class__")=some true
 m:mroIn K C (.type "object")=some true
 mB:mroIn K C (.type "BaseException")=some true
theorem oo{K:PySem.W.Frag}(X:ExcI K C):KitX K (.ref a) (.ref C) (λh=>∃o,h.get? a=some o/\o.cls=.ref C) where
 ty:=λM h _ ⟨o,hx,hc⟩=>hc▸(Looks.ld hx).andThen .now
 it:=λ_ _ Y _=>by
  obtain⟨cdD,hcD,_⟩:=any_some X.hd;unfold clsIn at hcD;split at hcD
  ·rename_i c' d' cd' sl' ho;intro A' Q' E' s' k q;unfold isType loadHead;exact wpAny_bind (wpAny_loadPart (k _ _ (Y _ _ ho)) (wpAny_pure q))
  ·cases hcD
 ne:=λh tp dd its n sl Y htp=>by
  obtain⟨cdD,hcD,_⟩:=any_some X.hd;refine Bool.eq_false_iff.mpr λq=>?_
  have e:C=tp:=Value.ref.inj (beq_iff_eq.mp q);subst e;unfold clsIn at hcD;split at hcD
  ·rename_i c' d' cd' sl' ho;have z:=(Y _ _ ho).symm.trans htp;cases z
  ·cases hcD
 ca:=λ{prog w A E Q s} Y ⟨o,hx,hc⟩ k=>pq X.ga X.gn X.cl X.n X.tk X.m X.mB Y hx hc k
end L2
namespace L2
open PySem PySem.Spec PySem.Calls PyProof.Rows PySem.W PySem.Builtin PySem.Builtin.ObjectAttr
section
variable {h:Heap}{os:OsState}{o:Obj}{K:PySem.W.Frag}
end
end L2
namespace L2
open PySem PySem.Spec PySem.Calls PyProof.Rows PySem.W
section
variable {s:Shared}
end
end L2
namespace L2
open PySem PySem.Spec PySem.Calls PyProof.Rows PySem.W
open AutoSeq1 (wpAny_loadPart')
open MeetsSeq MeetsSeq2 MeetsSeq3
section
variable {A:Around}{s:Shared}
end
end L2
namespace L2
open PySem PySem.Spec PyProof.Rows
section
variable {A:Around}{s:Shared}{St:Nat->Heap->Prop}{xs:Array (Int×Tok)}
end
end L2
namespace L2
open PySem PySem.Spec PySem.Calls PyProof.Rows PySem.W
open AutoSeq1 (wpAny_loadPart')
noncomputable def P2(h:Heap)(v:Value)(p:Int×Int):Prop:=∃a n t u dd sl,v=.ref a/\h.get? a=some {cls:=.type "tuple",dict:=dd,data:=.seq #[.int p.1 t,.int p.2 u] n,slots:=sl}
section
variable {prog:Program}{w:World}{A:Around}{s:Shared}{St:Nat->Heap->Prop}{I l:Addr}{fp wr:List Addr}{n:Nat}{P:Nat->Value->Prop}{R:Result->Shared->Prop}{kw:List (Str×Value)}{Q:Value->Shared->Prop}{E:Value->Shared->Prop}
end
end L2
namespace L2
open PySem PySem.Spec PyProof.Rows
inductive D where
 |non|bl (b:Bool)|int (i:Int)|str (x:Str)|tup (ds:List D)|rol (ds:List D)|ref (a:Addr)
 |obj (i:Nat) (C:Addr) (ns:List Nat) (ds:List D)|dik (ks:List Key) (ds:List D)|dit (ks:List (List Int)) (ds:List D)
noncomputable def wq:Nat->Nat->List Nat
 |0,_=>[]
 |k+1,n=>if n=0 then [] else (n % 128)::wq k (n / 128)
noncomputable def fnm(n:Nat):Str:=⟨(wq n n).toArray⟩
noncomputable def tH(k:List Int):Int:=reduceHash (Builtin.Tuple.tupleHashOf (k.map hashInt))
noncomputable def dW(a:Addr)(xs:List (List Int×Addr×Value)):Heap->Prop:=λh=>∃o es ep,h.get? a=some o/\o.ExactDict/\o.data=.dict es ep/\es.toList=xs.map λx=>(⟨tH x.1,.ref x.2.1,x.2.2⟩:DictEntry)
structure TabOk (K:PySem.W.Frag)(H:Hp)(a:Addr) (ks:List (List Int)) (xs:List (List Int×Addr×Value)) (vs:List V):Prop where
 kx:xs.map (·.1)=ks
 nd:ks.Nodup
 sz:ks.length<=sizeLine
 no:(a == sysModules)=false
 vx:Vals vs (xs.map (·.2.2))
 at_:∀x∈xs,SqT K H x.2.1 (x.1.map V.int)
noncomputable def SqM(K:PySem.W.Frag)(a:Addr)(xs:List V):Prop:=∃(its:List Value) (n:Nat),K.lookup a=some {cls:=.type "list",data:=.seq its.toArray n}/\its.length<=sizeLine/\Vals xs its
noncomputable def SqF(K:PySem.W.Frag)(H:Hp)(a:Addr)(xs:List V):Prop:=(∃o,H a=some (.frz o (.lst xs)))\/SqM K a xs
theorem SqM.sq{K:PySem.W.Frag}(h:SqM K a xs):SqL K H a xs:=by
 obtain⟨its,n,e,z,r⟩:=h;exact .inr ⟨_,its.toArray,n,e,rfl,rfl,rfl,by simpa using z,by simpa using r⟩
theorem SqF.sq{K:PySem.W.Frag}(h:SqF K H a xs):SqL K H a xs:=by
 rcases h with h|h
 ·exact .inl (.inr h)
 ·exact h.sq
mutual
noncomputable def Den(K:PySem.W.Frag)(H:Hp):D->V->Prop
 |.non,v=>v=.non
 |.bl b,v=>v=.bl b
 |.int i,v=>v=.int i
 |.str x,v=>v=.str x
 |.tup ds,v=>∃p vs,v=.ref p/\SqT K H p vs/\DenL K H ds vs
 |.rol ds,v=>∃p vs,v=.ref p/\SqF K H p vs/\DenL K H ds vs
 |.ref a,v=>v=.ref a
 |.obj _ C ns ds,v=>∃p vs o dx,v=.ref p/\H p=some (.frz o (.ins C dx ((ns.map fnm).zip vs)))/\ns.length=vs.length/\DenL K H ds vs
 |.dik ks ds,v=>∃p vs o,v=.ref p/\H p=some (.frz o (.dK (ks.zip vs)))/\ks.length=vs.length/\DenL K H ds vs
 |.dit ks ds,v=>∃p vs o xs,v=.ref p/\H p=some (.frz o (.ext (dW p xs)))/\TabOk K H p ks xs vs/\DenL K H ds vs
noncomputable def DenL(K:PySem.W.Frag)(H:Hp):List D->List V->Prop
 |[],vs=>vs=[]
 |d::ds,vs=>∃v r,vs=v::r/\Den K H d v/\DenL K H ds r
end
structure TM (K:PySem.W.Frag)(H H':Hp):Prop where
 t:∀p xs,SqT K H p xs->SqT K H' p xs
 f:∀p xs,SqF K H p xs->SqF K H' p xs
 g:∀p o u,H p=some (.frz o u)->H' p=some (.frz o u)
theorem TM.refl{K:PySem.W.Frag}(H:Hp):TM K H H:=⟨λ_ _ h=>h,λ_ _ h=>h,λ_ _ _ h=>h⟩
theorem TM.trans{K:PySem.W.Frag}(a:TM K H H1)(b:TM K H1 H2):TM K H H2:=⟨λp xs h=>b.t p xs (a.t p xs h),λp xs h=>b.f p xs (a.f p xs h),λp o u h=>b.g p o u (a.g p o u h)⟩
theorem TM.un{K:PySem.W.Frag}(t:∀b xs,H b=some (.tup xs)->H' b=some (.tup xs))(f:∀b o u,H b=some (.frz o u)->H' b=some (.frz o u)):TM K H H':=⟨λq xs h=>by
 rcases h with (h|⟨ob,h⟩)|h
 ·exact .inl (.inl (t _ _ h))
 ·exact .inl (.inr ⟨ob,f _ _ _ h⟩)
 ·exact .inr h,λq xs h=>by
 rcases h with ⟨ob,h⟩|h
 ·exact .inl ⟨ob,f _ _ _ h⟩
 ·exact .inr h,f⟩
theorem TM.new{K:PySem.W.Frag}(hp:H p=none):TM K H (upd H p o):=
 .un (λb xs h=>by rw[ad (au h hp)];exact h) λb ob u h=>by rw[ad (au h hp)];exact h
theorem TM.put{K:PySem.W.Frag}(hp:H p=some u)(h1:∀xs,u≠.tup xs)(h2:∀ob v,u≠.frz ob v):TM K H (upd H p o):=
 .un (λb xs h=>by rw[ad (ne_of h hp λz=>h1 _ z.symm)];exact h) λb ob u h=>by rw[ad (ne_of h hp λz=>h2 _ _ z.symm)];exact h
section
variable {K:PySem.W.Frag}
mutual
theorem Den.mono(t:TM K H H'):∀{d:D}{v:V},Den K H d v->Den K H' d v
 |.non,_,h=>h
 |.bl _,_,h=>h
 |.int _,_,h=>h
 |.str _,_,h=>h
 |.ref _,_,h=>h
 |.tup ds,v,h=>by
  obtain⟨p,vs,e,s,l⟩:=h;exact⟨p,vs,e,t.t _ _ s,DenL.mono t l⟩
 |.rol ds,v,h=>by
  obtain⟨p,vs,e,s,l⟩:=h;exact⟨p,vs,e,t.f _ _ s,DenL.mono t l⟩
 |.obj i C ns ds,v,h=>by
  obtain⟨p,vs,o,dx,e,s,z,l⟩:=h;exact⟨p,vs,o,dx,e,t.g _ _ _ s,z,DenL.mono t l⟩
 |.dik ks ds,v,h=>by
  obtain⟨p,vs,o,e,s,z,l⟩:=h;exact⟨p,vs,o,e,t.g _ _ _ s,z,DenL.mono t l⟩
 |.dit ks ds,v,h=>by
  obtain⟨p,vs,o,xs,e,s,z,l⟩:=h;exact⟨p,vs,o,xs,e,t.g _ _ _ s,⟨z.kx,z.nd,z.sz,z.no,z.vx,λx hx=>t.t _ _ (z.at_ x hx)⟩,DenL.mono t l⟩
theorem DenL.mono(t:TM K H H'):∀{ds:List D}{vs:List V},DenL K H ds vs->DenL K H' ds vs
 |[],_,h=>h
 |d::ds,vs,h=>by
  obtain⟨v,r,e,a,b⟩:=h;exact⟨v,r,e,Den.mono t a,DenL.mono t b⟩
end
theorem DenL.length:∀{ds:List D}{vs:List V},DenL K H ds vs->ds.length=vs.length
 |[],_,h=>by cases h;rfl
 |d::ds,vs,h=>by
  obtain⟨v,r,rfl,_,b⟩:=h;rw[List.length_cons,List.length_cons,DenL.length b]
theorem DenL.get:∀{ds:List D}{vs:List V}{i:Nat}{d:D},DenL K H ds vs->ds[i]?=some d->∃v,vs[i]?=some v/\Den K H d v
 |[],_,_,_,_,e=>by simp at e
 |d::ds,vs,0,d',h,e=>by
  obtain⟨v,r,rfl,a,b⟩:=h;simp at e;subst e;exact⟨v,rfl,a⟩
 |d::ds,vs,i+1,d',h,e=>by
  obtain⟨v,r,rfl,a,b⟩:=h;obtain⟨u,e1,e2⟩:=DenL.get (i:=i) b (by simpa using e)
  exact⟨u,by simpa using e1,e2⟩
theorem DenL.get':∀{ds:List D}{vs:List V}{i:Nat}{v:V},DenL K H ds vs->vs[i]?=some v->∃d,ds[i]?=some d/\Den K H d v
 |[],_,_,_,h,e=>by cases h;simp at e
 |d::ds,vs,0,v',h,e=>by
  obtain⟨v,r,rfl,a,b⟩:=h;simp at e;subst e;exact⟨d,rfl,a⟩
 |d::ds,vs,i+1,v',h,e=>by
  obtain⟨v,r,rfl,a,b⟩:=h;obtain⟨u,e1,e2⟩:=DenL.get' (i:=i) b (by simpa using e)
  exact⟨u,by simpa using e1,e2⟩
theorem DenL.append:∀{ds es:List D}{vs ws:List V},DenL K H ds vs->DenL K H es ws->DenL K H (ds++es) (vs++ws)
 |[],_,_,_,h,g=>by cases h;exact g
 |d::ds,_,_,_,h,g=>by
  obtain⟨v,r,rfl,a,b⟩:=h;exact⟨v,r++_,rfl,a,DenL.append b g⟩
theorem DenL.nil:DenL K H [] []:=rfl
theorem DenL.cons(a:Den K H d v)(b:DenL K H ds vs):DenL K H (d::ds) (v::vs):=⟨v,vs,rfl,a,b⟩
theorem DenL.one(a:Den K H d v):DenL K H [d] [v]:=.cons a .nil
theorem DenL.take:∀{ds:List D}{vs:List V} (n:Nat),DenL K H ds vs->DenL K H (ds.take n) (vs.take n)
 |_,_,0,_=>rfl
 |[],_,n+1,h=>by cases h;rfl
 |d::ds,_,n+1,h=>by
  obtain⟨v,r,rfl,a,b⟩:=h;exact⟨v,r.take n,rfl,a,DenL.take n b⟩
theorem DenL.drop:∀{ds:List D}{vs:List V} (n:Nat),DenL K H ds vs->DenL K H (ds.drop n) (vs.drop n)
 |_,_,0,h=>h
 |[],_,n+1,h=>by cases h;rfl
 |d::ds,_,n+1,h=>by
  obtain⟨v,r,rfl,a,b⟩:=h;exact DenL.drop n b
theorem DenL.reverse:∀{ds:List D}{vs:List V},DenL K H ds vs->DenL K H ds.reverse vs.reverse
 |[],_,h=>by cases h;rfl
 |d::ds,_,h=>by
  obtain⟨v,r,rfl,a,b⟩:=h;rw[List.reverse_cons,List.reverse_cons];exact (DenL.reverse b).append (.one a)
theorem DenL.set(a:Den K H d v):∀{ds:List D}{vs:List V} (i:Nat),DenL K H ds vs->DenL K H (ds.set i d) (vs.set i v)
 |[],_,_,h=>by cases h;rfl
 |_::ds,_,0,h=>by
  obtain⟨_,r,rfl,_,b⟩:=h;exact⟨v,r,rfl,a,b⟩
 |e::ds,_,i+1,h=>by
  obtain⟨u,r,rfl,c,b⟩:=h;exact⟨u,_,rfl,c,DenL.set a i b⟩
theorem DenL.of_int:∀{ns:List Int},DenL K H (ns.map D.int) (ns.map V.int)
 |[]=>rfl
 |n::ns=>⟨.int n,ns.map V.int,rfl,rfl,DenL.of_int⟩
end
structure XE where
 c:Nat
 pl:Option (Nat×D)
noncomputable def XD(K:PySem.W.Frag)(H:Hp)(i:XE)(dx:Option Addr):Prop:=match i.pl with
 |none=>dx=none
 |some (f,y)=>∃p o v,dx=some p/\H p=some (.frz o (.xd [(fnm f,v)]))/\Den K H y v
theorem XD.mono{K:PySem.W.Frag}(t:TM K H H')(h:XD K H i dx):XD K H' i dx:=by
 obtain⟨c,pl⟩:=i;cases pl with
 |none=>exact h
 |some q=>
  obtain⟨p,o,v,e,g,d⟩:=h;exact⟨p,o,v,e,t.g _ _ _ g,d.mono t⟩
inductive DO where
 |lst (ds:List D)
 |dk (ks:List Key) (ds:List D)
 |dt (ks:List (List Int)) (ds:List D)
 |ins (i:Nat) (C:Addr) (ns:List Nat) (ds:List D)
 |exc (i:XE) (cls:Value)
 |stl (φ:Heap->Prop)
noncomputable abbrev MH:=Addr->Option DO
noncomputable def put(M:MH)(a:Addr)(o:DO):MH:=λb=>if b=a then some o else M b
theorem ah:put M a o a=some o:=if_pos rfl
theorem gx(h:b≠a):put M a o b=M b:=if_neg h
theorem c9:put (put M a o) a u=put M a u:=by
 funext b;unfold put;split<;>rfl
noncomputable def OD(K:PySem.W.Frag)(H:Hp)(a:Addr):DO->Prop
 |.lst ds=>∃vs,H a=some (.lst vs)/\DenL K H ds vs
 |.dk ks ds=>∃vs,H a=some (.dK (ks.zip vs))/\ks.length=vs.length/\DenL K H ds vs
 |.dt ks ds=>∃vs xs,H a=some (.ext (dW a xs))/\TabOk K H a ks xs vs/\DenL K H ds vs
 |.ins _ C ns ds=>∃dx vs,H a=some (.ins C dx ((ns.map fnm).zip vs))/\ns.length=vs.length/\DenL K H ds vs
 |.exc i cls=>∃dx,H a=some (q0 a cls dx)/\XD K H i dx
 |.stl φ=>H a=some (.ext φ)
noncomputable def RelM(K:PySem.W.Frag)(M:MH)(H:Hp):Prop:=∀a o,M a=some o->OD K H a o
noncomputable abbrev St3:=List (Option D)
noncomputable def DenS(K:PySem.W.Frag)(H:Hp)(σ3:St3)(σ:St):Prop:=σ3.length=σ.length/\∀(i:Nat)(d:D),σ3[i]?=some (some d)->∃v,σ[i]?=some (some v)/\Den K H d v
section
variable {K:PySem.W.Frag}
theorem OD.tracked(h:OD K H a o):∃u,H a=some u:=by
 cases o with
 |lst ds=>obtain⟨_,e,_⟩:=h;exact⟨_,e⟩
 |dk ks ds=>obtain⟨_,e,_⟩:=h;exact⟨_,e⟩
 |dt ks ds=>obtain⟨_,_,e,_⟩:=h;exact⟨_,e⟩
 |ins i C ns ds=>obtain⟨_,_,e,_⟩:=h;exact⟨_,e⟩
 |exc i cls=>obtain⟨_,e,_⟩:=h;exact⟨_,e⟩
 |stl φ=>exact⟨_,h⟩
theorem RelM.fresh(r:RelM K M H)(hp:H p=none):M p=none:=by
 cases e:M p with
 |none=>rfl
 |some o=>
  obtain⟨u,z⟩:=(r p o e).tracked;rw[hp]at z;cases z
theorem OD.stay(t:TM K H H')(e:H' a=H a)(h:OD K H a o):OD K H' a o:=by
 cases o with
 |lst ds=>obtain⟨vs,q,l⟩:=h;exact⟨vs,e.trans q,l.mono t⟩
 |dk ks ds=>obtain⟨vs,q,n,l⟩:=h;exact⟨vs,e.trans q,n,l.mono t⟩
 |dt ks ds=>obtain⟨vs,xs,q,z,l⟩:=h;exact⟨vs,xs,e.trans q,⟨z.kx,z.nd,z.sz,z.no,z.vx,λx hx=>t.t _ _ (z.at_ x hx)⟩,l.mono t⟩
 |ins i C ns ds=>obtain⟨dx,vs,q,n,l⟩:=h;exact⟨dx,vs,e.trans q,n,l.mono t⟩
 |exc i cls=>obtain⟨dx,q,x⟩:=h;exact⟨dx,e.trans q,x.mono t⟩
 |stl φ=>exact e.trans h
theorem RelM.grow(r:RelM K M H)(hp:H p=none):RelM K M (upd H p o):=λa u e=>by
 obtain⟨x,z⟩:=(r a u e).tracked;exact (r a u e).stay (.new hp) (ad (au z hp))
theorem RelM.lay(r:RelM K M H)(hp:H p=none)(h:OD K (upd H p o) p u):RelM K (put M p u) (upd H p o):=λa x e=>by
 by_cases ha:a=p
 ·subst ha;rw[ah]at e;cases e;exact h
 ·rw[gx ha]at e;exact r.grow hp a x e
theorem RelM.write(r:RelM K M H)(hp:H p=some w)(h1:∀xs,w≠.tup xs)(h2:∀ob v,w≠.frz ob v)(h:OD K (upd H p o) p u):RelM K (put M p u) (upd H p o):=λa x e=>by
 by_cases ha:a=p
 ·subst ha;rw[ah]at e;cases e;exact h
 ·rw[gx ha]at e;exact (r a x e).stay (.put hp h1 h2) (ad ha)
noncomputable def Sub(M' M:MH):Prop:=∀a o,M' a=some o->M a=some o
theorem Sub.put(s:Sub M' M)(h:M' p=none):Sub M' (put M p u):=λa o e=>by
 rw[gx λz=>by rw[z,h]at e;cases e]
 exact s a o e
theorem RelM.sub(r:RelM K M H)(s:Sub M' M):RelM K M' H:=λa o e=>r a o (s a o e)
theorem DenS.mono(t:TM K H H')(h:DenS K H σ3 σ):DenS K H' σ3 σ:=⟨h.1,λi d e=>let ⟨v,e1,e2⟩:=h.2 i d e;⟨v,e1,e2.mono t⟩⟩
theorem DenS.set{σ3:St3}{σ:St}(h:DenS K H σ3 σ)(e:Den K H d v):DenS K H (σ3.set i (some d)) (σ.set i (some v)):=by
 refine⟨by rw[List.length_set,List.length_set];exact h.1,λj d' q=>?_⟩
 by_cases hj:i=j
 ·subst hj;rw[List.getElem?_set]at q ⊢;rw[if_pos rfl]at q ⊢;rw[<-h.1];split at q
  next hl=>
   cases q;exact⟨v,if_pos hl,e⟩
  next=>cases q
 ·rw[List.getElem?_set_ne hj]at q ⊢;exact h.2 j d' q
theorem DenS.drop{σ3:St3}{σ:St}(h:DenS K H σ3 σ):DenS K H (σ3.set i none) (σ.set i none):=by
 refine⟨by rw[List.length_set,List.length_set];exact h.1,λj d' q=>?_⟩
 by_cases hj:i=j
 ·subst hj;rw[List.getElem?_set,if_pos rfl]at q;split at q<;>cases q
 ·rw[List.getElem?_set_ne hj]at q ⊢;exact h.2 j d' q
theorem lp{N:List Str}{ds:List D}(h:DenL K H ds vs):DenS K H (ds.map some++List.replicate (N.length - ds.length) none) (dj N vs):=by
 have hl:=h.length;refine⟨by unfold dj;simp[hl],λi d e=>?_⟩
 by_cases hi:i < ds.length
 ·rw[List.getElem?_append_left (by simpa using hi),List.getElem?_map]at e
  have e':ds[i]?=some d:=by
   cases q:ds[i]? with
   |none=>rw[q]at e;cases e
   |some x=>rw[q]at e;cases e;rfl
  obtain⟨v,e1,e2⟩:=h.get e';refine⟨v,?_,e2⟩;unfold dj;rw[List.getElem?_append_left (by simpa [<-hl] using hi),List.getElem?_map,e1]
  rfl
 ·rw[List.getElem?_append_right (by simpa using hi),List.getElem?_replicate]at e
  split at e<;>cases e
end
noncomputable abbrev VK3:=D->MH->Prop
noncomputable abbrev TE3:=St3->MH->VK3->Prop
noncomputable abbrev TT3:=St3->MH->(Bool->MH->Prop)->Prop
structure Ends3 where
 nx:St3->MH->Prop
 rt:VK3
 bk:St3->MH->Prop:=λ_ _=>False
 ct:St3->MH->Prop:=λ_ _=>False
noncomputable abbrev TS3:=Ends3->St3->MH->Prop
structure ER (K:PySem.W.Frag)(H:Hp)(D3:Ends3)(D2:Ends):Prop where
 nx:∀σ' H' σ3' M',RelM K M' H'->DenS K H' σ3' σ'->TM K H H'->D3.nx σ3' M'->D2.nx σ' H'
 rt:∀v H' d M',Den K H' d v->RelM K M' H'->TM K H H'->D3.rt d M'->D2.rt v H'
 bk:∀σ' H' σ3' M',RelM K M' H'->DenS K H' σ3' σ'->TM K H H'->D3.bk σ3' M'->D2.bk σ' H'
 ct:∀σ' H' σ3' M',RelM K M' H'->DenS K H' σ3' σ'->TM K H H'->D3.ct σ3' M'->D2.ct σ' H'
theorem ER.mono{K:PySem.W.Frag}(r:ER K H D3 D2)(t:TM K H H1):ER K H1 D3 D2:=
 ⟨λa b c d h1 h2 h3 h4=>r.nx a b c d h1 h2 (t.trans h3) h4,λa b c d h1 h2 h3 h4=>r.rt a b c d h1 h2 (t.trans h3) h4,λa b c d h1 h2 h3 h4=>r.bk a b c d h1 h2 (t.trans h3) h4,λa b c d h1 h2 h3 h4=>r.ct a b c d h1 h2 (t.trans h3) h4⟩
end L2
namespace L2
open PySem PySem.Spec PyProof.Rows
section
variable {K:PySem.W.Frag}
theorem cg:Den K H (.int i) (.int i):=rfl
theorem aP{b:Bool}:Den K H (.bl b) (.bl b):=rfl
theorem bS:Den K H (.str x) (.str x):=rfl
theorem oJ:Den K H .non .non:=rfl
theorem i4:Den K H (.ref a) (.ref a):=rfl
theorem fy(h:SqT K H p vs)(l:DenL K H ds vs):Den K H (.tup ds) (.ref p):=⟨p,vs,rfl,h,l⟩
end
noncomputable abbrev R3:=D->D->MH->VK3->Prop
noncomputable abbrev Back(K:PySem.W.Frag)(H:Hp)(Q:VK3)(Q2:VK):Prop:=∀v H' d M',Den K H' d v->RelM K M' H'->TM K H H'->Q d M'->Q2 v H'
noncomputable def Op3(X:Cx)(f:Value->Value->Sem Value)(r3:R3):Prop:=∃r2,OpR X f r2/\∀(H:Hp)(x y:D)(v u:V)(M:MH)(Q:VK3)(Q2:VK),Den X.K H x v->Den X.K H y u->RelM X.K M H->r3 x y M Q->Back X.K H Q Q2->r2 v u H Q2
noncomputable def Un3(X:Cx)(f:Value->Sem Value)(r3:D->MH->VK3->Prop):Prop:=∃r2,UnR X f r2/\∀(H:Hp)(x:D)(v:V)(M:MH)(Q:VK3)(Q2:VK),Den X.K H x v->RelM X.K M H->r3 x M Q->Back X.K H Q Q2->r2 v H Q2
noncomputable def si(X:Cx)(f:Value)(r3:List D->MH->VK3->Prop):Prop:=∃r2,CallR X f r2/\∀(H:Hp)(xs:List D)(vs:List V)(M:MH)(Q:VK3)(Q2:VK),DenL X.K H xs vs->RelM X.K M H->r3 xs M Q->Back X.K H Q Q2->r2 vs H Q2
noncomputable def c3(d:D):TE3:=λ_ M Q=>Q d M
noncomputable def rI3(C:Int->Int->Prop)(g:Int->Int->D):R3:=λx y M Q=>∃i j,x=.int i/\y=.int j/\C i j/\Q (g i j) M
section
variable {X:Cx}{a b c e:Expr}{ta tb tc te:TE3}{pos:Pos}
noncomputable def q3(t:TE3):TT3:=λσ M Q=>t σ M λx M1=>∃k,x=.bl k/\Q k M1
variable {tA tB':TT3}{rest:List Expr}
theorem rg{K:PySem.W.Frag}(h:DenL K H ds vs)(e:atI ds i=some d):∃v,atI vs i=some v/\Den K H d v:=by
 unfold atI at e ⊢;rw[<-h.length];cases q:ixN ds.length i with
 |none=>rw[q]at e;cases e
 |some j=>
  rw[q]at e;obtain⟨v,e1,e2⟩:=h.get (show ds[j]?=some d from e);exact⟨v,e1,e2⟩
noncomputable def Is(M:MH)(x:D)(ds:List D):Prop:=x=.rol ds\/∃a,x=.ref a/\M a=some (.lst ds)
theorem RelM.list{K:PySem.W.Frag}(rm:RelM K M H)(h:Is M x ds)(dv:Den K H x v):∃p vs,v=.ref p/\SqL K H p vs/\DenL K H ds vs:=by
 rcases h with rfl|⟨a,rfl,h⟩
 ·obtain⟨p,vs,e,s,l⟩:=dv;exact⟨p,vs,e,s.sq,l⟩
 ·obtain⟨vs,e,l⟩:=rm a _ h;exact⟨a,vs,dv,.of e,l⟩
noncomputable def isIB:V->D->Prop:=λv d=>(∃i,v=.int i/\d=.int i)\/(∃b,v=.bl b/\d=.bl b)
theorem isIB.den{K:PySem.W.Frag}(h:isIB v d):Den K H d v:=by
 rcases h with ⟨i,rfl,rfl⟩|⟨b,rfl,rfl⟩<;>rfl
theorem fW(h:OpR X f (rI C g))(hg:∀i j,isIB (g i j) (g3 i j)):Op3 X f (rI3 C g3):=
 ⟨_,h,λH x y v u M Q Q2 dx dy rm ⟨i,j,e1,e2,hc,q⟩ k=>by
  subst e1;subst e2;cases (show v=.int i from dx);cases (show u=.int j from dy);exact⟨i,j,rfl,rfl,hc,k _ H _ M (hg i j).den rm (.refl _) q⟩⟩
noncomputable def jq(g:Int->Int->D):R3:=λx y M Q=>∃i j,x=.int i/\y=.int j/\Q (g i j) M
theorem cA(h:OpR X f (rI0 g))(hg:∀i j,isIB (g i j) (g3 i j)):Op3 X f (jq g3):=
 ⟨_,h,λH x y v u M Q Q2 dx dy rm ⟨i,j,e1,e2,q⟩ k=>by
  subst e1;subst e2;cases (show v=.int i from dx);cases (show u=.int j from dy);exact⟨i,j,rfl,rfl,k _ H _ M (hg i j).den rm (.refl _) q⟩⟩
noncomputable def big:Nat:=2 ^ 4096
theorem kS(h:n < 10 ^ 250):n < big:=Nat.lt_of_lt_of_le h (by decide +kernel)
noncomputable def jM(i j:Int):Prop:=(i.natAbs < big/\j.natAbs < big)
theorem fh{k:Int}(h:k.natAbs < big):Builtin.Int.intBits k<=2 ^ 20:=by
 unfold Builtin.Int.intBits;by_cases h0:k.natAbs=0
 ·have:k=0:=by omega
  subst this;decide
 ·have h30:k.natAbs.log2 < 4096:=(Nat.log2_lt h0).mpr h;split<;>omega
theorem p7:OpR X (binaryOp .Mult) (rI jM λi j=>.int (i * j)):=opI λ_ _ _ _ _ _ _ hc q=>mul_int q (.of_bits (fh hc.1) (fh hc.2))
noncomputable def ku(_ j:Int):Prop:=0 < j/\j.toNat < big
theorem nQ:OpR X (binaryOp .FloorDiv) (rI ku λi j=>.int (i / j)):=opI λi j _ _ _ _ _ hc q=>by
 have h1:(0:Int) < j:=hc.1;have h2:j.toNat < big:=hc.2;refine floordiv_int (by omega) (by rw[Int.fdiv_eq_ediv_of_nonneg i (by omega)];exact q) (.inl (PyProof.noPylong_of_log2 ?_))
 have h3:j.natAbs < 2 ^ 4096:=by
  have e:j.natAbs=j.toNat:=by omega
  rw[e];exact h2
 have h0:j.natAbs≠0:=by omega
 have:=(Nat.log2_lt h0).mpr h3;omega
theorem v5:Op3 X (binaryOp .Add) (jq λi j=>.int (i+j)):=cA tq λ_ _=>.inl ⟨_,rfl,rfl⟩
theorem yY:Op3 X (binaryOp .Sub) (jq λi j=>.int (i - j)):=cA uG λ_ _=>.inl ⟨_,rfl,rfl⟩
theorem xq:Op3 X (binaryOp .Mult) (rI3 jM λi j=>.int (i * j)):=fW p7 λ_ _=>.inl ⟨_,rfl,rfl⟩
theorem uK:Op3 X (binaryOp .FloorDiv) (rI3 ku λi j=>.int (i / j)):=fW nQ λ_ _=>.inl ⟨_,rfl,rfl⟩
theorem zd:Op3 X (binaryOp .Mod) (rI3 (λ_ j=>0 < j) λi j=>.int (i % j)):=fW sR λ_ _=>.inl ⟨_,rfl,rfl⟩
theorem yV:Op3 X (binaryOp .Pow) (rI3 pv λi j=>.int (i ^ j.toNat)):=fW tR λ_ _=>.inl ⟨_,rfl,rfl⟩
theorem xh:Op3 X (binaryOp .RShift) (rI3 (λ_ j=>0<=j) λi j=>.int (i / 2 ^ j.toNat)):=fW u0 λ_ _=>.inl ⟨_,rfl,rfl⟩
theorem v3:Op3 X (binaryOp .BitAnd) (jq λi j=>.int (Builtin.bitAnd i j)):=cA uL λ_ _=>.inl ⟨_,rfl,rfl⟩
theorem Bu:Op3 X (compareOp .Lt) (jq λi j=>.bl (decide (i < j))):=cA xt λ_ _=>.inr ⟨_,rfl,rfl⟩
theorem Bc:Op3 X (compareOp .LtE) (jq λi j=>.bl (decide (i<=j))):=cA wv λ_ _=>.inr ⟨_,rfl,rfl⟩
theorem Cs:Op3 X (compareOp .Gt) (jq λi j=>.bl (decide (j < i))):=cA yb λ_ _=>.inr ⟨_,rfl,rfl⟩
theorem CA:Op3 X (compareOp .GtE) (jq λi j=>.bl (decide (j<=i))):=cA yA λ_ _=>.inr ⟨_,rfl,rfl⟩
noncomputable def rU3(g:Int->Int):D->MH->VK3->Prop:=λx M Q=>∃i,x=.int i/\Q (.int (g i)) M
theorem wO:Un3 X (unaryOp .USub) (rU3 λi=>-i):=⟨_,vp,λH x v M Q Q2 dx rm ⟨i,e,q⟩ k=>by
 subst e;cases (show v=.int i from dx);exact⟨i,rfl,k _ H _ M cg rm (.refl _) q⟩⟩
noncomputable def D.isN:D->Bool
 |.non=>true
 |_=>false
theorem mq{K:PySem.W.Frag}{d:D}(h:Den K H d v):decide (v=.non)=d.isN:=by
 cases d with
 |non=>cases (show v=.non from h);rfl
 |bl b=>cases (show v=.bl b from h);rfl
 |int i=>cases (show v=.int i from h);rfl
 |str x=>cases (show v=.str x from h);rfl
 |tup ds=>obtain⟨p,vs,rfl,_⟩:=h;rfl
 |rol ds=>obtain⟨p,vs,rfl,_⟩:=h;rfl
 |ref a=>cases (show v=.ref a from h);rfl
 |obj i C ns ds=>obtain⟨p,vs,_,_,rfl,_⟩:=h;rfl
 |dik ks ds=>obtain⟨p,vs,_,rfl,_⟩:=h;rfl
 |dit ks ds=>obtain⟨p,vs,_,_,rfl,_⟩:=h;rfl
noncomputable def rIs3:R3:=λx y M Q=>y=.non/\Q (.bl x.isN) M
noncomputable def rIsN3:R3:=λx y M Q=>y=.non/\Q (.bl (!x.isN)) M
theorem Cb:Op3 X (compareOp .Is) rIs3:=⟨_,uD,λH x y v u M Q Q2 dx dy rm ⟨e,q⟩ k=>by
 subst e;refine⟨dy,?_⟩;rw[mq dx];exact k _ H _ M aP rm (.refl _) q⟩
theorem qG:Op3 X (compareOp .IsNot) rIsN3:=⟨_,qv,λH x y v u M Q Q2 dx dy rm ⟨e,q⟩ k=>by
 subst e;refine⟨dy,?_⟩;rw[mq dx];exact k _ H _ M aP rm (.refl _) q⟩
variable {id:String}
noncomputable def rLen3:List D->MH->VK3->Prop:=λxs M Q=>∃x ds,xs=[x]/\(Is M x ds\/x=.tup ds)/\Q (.int ds.length) M
theorem yx:si X (.builtin "len") rLen3:=⟨_,jc,λH xs vs M Q Q2 dl rm ⟨x,ds,e,h,q⟩ k=>by
 subst e;obtain⟨v,r,rfl,dv,rfl⟩:=dl;rcases h with h|rfl
 ·obtain⟨a,ys,rfl,sq,l⟩:=rm.list h dv;exact⟨a,ys,rfl,.inl sq,by rw[<-l.length];exact k _ H _ M cg rm (.refl _) q⟩
 ·obtain⟨a,ys,rfl,sq,l⟩:=dv;exact⟨a,ys,rfl,.inr sq,by rw[<-l.length];exact k _ H _ M cg rm (.refl _) q⟩⟩
end
end L2
namespace L2
open PySem PySem.Spec PyProof.Rows
noncomputable abbrev BackS(K:PySem.W.Frag)(H:Hp)(Q:St3->MH->Prop)(Q2:St->Hp->Prop):Prop:=∀σ' H' σ3' M',RelM K M' H'->DenS K H' σ3' σ'->TM K H H'->Q σ3' M'->Q2 σ' H'
section
variable {X:Cx}{st:Stmt}{rest:List Stmt}{t u:TS3}{e:Expr}{te:TE3}{pos:Pos}
structure ItOk (K:PySem.W.Frag)(H0:Hp)(J:It)(ds:List D)(S:MH->Prop):Prop where
 go:∀(i:Nat) H M,TM K H0 H->RelM K M H->S M->i < ds.length->J.go i H
 yld:∀(i:Nat) H M x H',TM K H0 H->RelM K M H->S M->i < ds.length->J.yld i H x H'->TM K H H'/\RelM K M H'/\∃d,ds[i]?=some d/\Den K H' d x
 stop:∀H M,TM K H0 H->RelM K M H->S M->J.stop ds.length H
noncomputable def rng(lo:Int)(n:Nat):List D:=(List.range n).map λ(i:Nat)=>D.int (lo+i)
end
section
variable {K:PySem.W.Frag}
end
section
variable {X:Cx}
end
end L2
namespace L2
open PySem PySem.Spec PyProof.Rows
noncomputable abbrev XN:=XE->MH->Prop
noncomputable def del(M:MH)(a:Addr):MH:=λb=>if b=a then none else M b
theorem d8(h:M a=none):del (put M a o) a=M:=by
 funext b;unfold del put;by_cases e:b=a
 ·subst e;rw[if_pos rfl,h]
 ·rw[if_neg e,if_neg e]
theorem i3(h:del M a b=some o):b≠a/\M b=some o:=by
 unfold del at h;split at h
 ·cases h
 ·exact⟨by assumption,h⟩
noncomputable def ac(M M':MH):MH:=λa=>match M a with
 |some _=>M' a
 |none=>none
theorem iu(h:ac M M' a=some o):M' a=some o:=by
 unfold ac at h;split at h
 ·exact h
 ·cases h
noncomputable def kp(b:Bool)(M M':MH):MH:=if b=true then ac M M' else M'
theorem pN(h:kp b M M' a=some o):M' a=some o:=by
 cases b with
 |true=>exact iu h
 |false=>exact h
inductive BI where
 |len  |list (fz:Bool)  |tuple  |all  |any  |int  |strL
inductive BM where
 |upper  |startswith  |split  |join
inductive BT where
 |int|bool|str|tuple|list|dict
mutual
inductive IE where
 |var (i:Nat)
 |con (d:D)
 |bin (op:Operator) (a b:IE)
 |neg (a:IE)
 |cat (fz:Bool) (a b:IE)
 |cmp (op:CmpOp) (a b:IE)
 |chain (op op':CmpOp) (a b c:IE)
 |and (a b:IE)
 |or (a b:IE)
 |not (a:IE)
 |ifx (c:IT) (a b:IE)
 |tup (es:IA)
 |lst (fz:Bool) (es:IA)
 |frz (e:IE)
 |ix (a b:IE)
 |sl (fz:Bool) (a:IE) (lo hi:IO)
 |call (f:Nat) (es:IA)
 |bi (b:BI) (es:IA)
 |isB (e:IE) (t:BT)
 |isC (e:IE) (c:Nat)
 |comp (fz:Bool) (N:List Str) (js:List (Option Nat)) (tg:ITg) (it:II) (cond:ITO) (elt:IE)
 |glo (k:Nat)
 |gg (k:Nat) (es:IA)
 |compX (fz:Bool) (N:List Str) (js:List (Option Nat)) (tg:ITg) (it:II) (cond:ITO) (elt:IE)
 |rpl (o:IE) (y z:Str)
 |bm (b:BM) (o:IE) (es:IA)
inductive IT where
 |val (e:IE)|cmp (op:CmpOp) (a b:IE)|chain (op op':CmpOp) (a b c:IE)|chain3 (op op' op'':CmpOp) (a b c d:IE)|and (a b:IT)|or (a b:IT)|not (a:IT)
inductive IA where
 |nil|cons (e:IE) (r:IA)
inductive IO where
 |no|yes (e:IE)
inductive ITO where
 |no|yes (e:IT)
inductive II where
 |seq (e:IE)
 |zip (a b:IE)
 |zip3 (a b c:IE)
inductive ITg where
 |name (i:Nat)|tup (is:List Nat)
end
mutual
inductive IS where
 |set (i:Nat) (e:IE)
 |expr (e:IE)
 |ret (e:IE)
 |ifs (c:IT) (a b:ISs)
 |for_ (tg:ITg) (it:II) (body:ISs)
 |raise (c:Nat) (es:IA)
 |try_ (body:ISs) (hs:IHs)
 |app (o e:IE)
 |del (i:Nat)
 |ixset (o i e:IE)
inductive ISs where
 |nil|cons (s:IS) (r:ISs)
inductive IHs where
 |nil|cons (c:Nat) (nm:Option Nat) (body:ISs) (r:IHs)
end
noncomputable def af(M:MH):D->Option (List D)
 |.rol ds=>some ds
 |.ref a=>match M a with
  |some (.lst ds)=>some ds
  |_=>none
 |_=>none
noncomputable def aD(M:MH):D->Option (List D)
 |.tup ds=>some ds
 |x=>af M x
noncomputable def res(M:MH)(x:D):D:=match af M x with
 |some ds=>.rol ds
 |none=>x
noncomputable def bb(fz:Bool)(ds:List D)(M:MH)(Q:VK3):Prop:=ds.length<=sizeLine/\if fz=true then Q (.rol ds) M else ∀p,M p=none->Q (.ref p) (put M p (.lst ds))
noncomputable def plN:Nat->D->Bool
 |_,.ref _=>false
 |n,.tup ds=>match n with
  |0=>false
  |m+1=>ds.all (plN m)
 |n,.rol ds=>match n with
  |0=>false
  |m+1=>ds.all (plN m)
 |_,.obj _ _ _ _=>false
 |_,.dik _ _=>false
 |_,.dit _ _=>false
 |_,_=>true
noncomputable abbrev pl(x:D):Bool:=plN 8 x
noncomputable abbrev pls(ds:List D):Bool:=ds.all (plN 8)
mutual
noncomputable def eqD:D->D->Bool
 |.non,y=>match y with
  |.non=>true
  |_=>false
 |.bl a,y=>match y with
  |.bl b=>a == b
  |.int b=>decide ((if a=true then (1:Int) else 0)=b)
  |_=>false
 |.int a,y=>match y with
  |.int b=>decide (a=b)
  |.bl b=>decide (a=if b=true then (1:Int) else 0)
  |_=>false
 |.str a,y=>match y with
  |.str b=>decide (a=b)
  |_=>false
 |.tup a,y=>match y with
  |.tup b=>cG a b
  |_=>false
 |.rol a,y=>match y with
  |.rol b=>cG a b
  |_=>false
 |.ref _,_=>false
 |.obj _ _ _ _,_=>false
 |.dik _ _,_=>false
 |.dit _ _,_=>false
noncomputable def cG:List D->List D->Bool
 |[],y=>match y with
  |[]=>true
  |_=>false
 |a::r,y=>match y with
  |b::t=>eqD a b&&cG r t
  |_=>false
end
noncomputable def rII(C:Int->Int->Prop)(g:Int->Int->D)(x y:D)(M:MH)(Q:VK3):Prop:=match x,y with
 |.int i,.int j=>C i j/\Q (g i j) M
 |_,_=>False
noncomputable def rI2(g:Int->Int->D)(x y:D)(M:MH)(Q:VK3):Prop:=match x,y with
 |.int i,.int j=>Q (g i j) M
 |_,_=>False
noncomputable def lP(x y:D)(M:MH)(Q:VK3):Prop:=match x,y with
 |.int i,.int j=>Q (.int (i+j)) M
 |.str a,.str b=>a.length+b.length<=sizeLine/\Q (.str (a++b)) M
 |.tup a,.tup b=>a.length+b.length<=sizeLine/\Q (.tup (a++b)) M
 |_,_=>False
noncomputable def fX(z:Str)(n:Int):Str:=if n < 1 then Str.empty else if (n == 1||z.length == 0)=true then z else⟨(List.replicate n.toNat z.cps).foldl (·++·) #[]⟩
noncomputable def ol(x y:D)(M:MH)(Q:VK3):Prop:=match x,y with
 |.int i,.int j=>jM i j/\Q (.int (i * j)) M
 |.str z,.int n=>(0<=n/\n<=100000/\z.length<=10)/\Q (.str (fX z n)) M
 |_,_=>False
noncomputable def dU:Operator->D->D->MH->VK3->Prop
 |.Add=>lP
 |.Sub=>rI2 λi j=>.int (i - j)
 |.Mult=>ol
 |.FloorDiv=>rII ku λi j=>.int (i / j)
 |.Mod=>rII (λ_ j=>0 < j) λi j=>.int (i % j)
 |.Pow=>rII pv λi j=>.int (i ^ j.toNat)
 |.RShift=>rII (λ_ j=>0<=j) λi j=>.int (i / 2 ^ j.toNat)
 |.BitAnd=>rI2 λi j=>.int (Builtin.bitAnd i j)
 |_=>λ_ _ _ _=>False
noncomputable def rNeg(x:D)(M:MH)(Q:VK3):Prop:=match x with
 |.int i=>Q (.int (-i)) M
 |_=>False
noncomputable def ba(fz:Bool)(x y:D)(M:MH)(Q:VK3):Prop:=match af M x,af M y with
 |some a,some b=>bb fz (a++b) M Q
 |_,_=>match x,y with
  |.tup a,.tup b=>a.length+b.length<=sizeLine/\Q (.tup (a++b)) M
  |_,_=>False
noncomputable def rs(M:MH)(x:D):D:=match af M x with
 |some ds=>.rol (if pls ds=true then ds else ds.map (res M))
 |none=>x
noncomputable def dI(neg:Bool)(x y:D)(M:MH)(Q:VK3):Prop:=pl (rs M x)=true/\pl (rs M y)=true/\Q (.bl (neg ^^ eqD (rs M x) (rs M y))) M
noncomputable def jQ(neg:Bool)(x y:D)(M:MH)(Q:VK3):Prop:=match y with
 |.non=>Q (.bl (neg ^^ x.isN)) M
 |.bl b=>match x with
  |.bl a=>Q (.bl (neg ^^ (a == b))) M
  |.non=>Q (.bl neg) M
  |_=>False
 |_=>False
noncomputable def vA:D->Option Key
 |.int i=>some (.inl i)
 |.str s=>some (.inr s)
 |_=>none
noncomputable def lX:List D->Option (List Int)
 |[]=>some []
 |.int i::r=>match lX r with
  |some ns=>some (i::ns)
  |none=>none
 |_::_=>none
noncomputable def tZ:D->Option (List Int)
 |.tup es=>lX es
 |_=>none
noncomputable def getD[DecidableEq κ]:List κ->List D->κ->Option D
 |k::ks,d::ds,x=>if k=x then some d else getD ks ds x
 |_,_,_=>none
noncomputable def aF[DecidableEq κ]:List κ->κ->List κ
 |[],x=>[x]
 |k::ks,x=>if k=x then k::ks else k::aF ks x
noncomputable def bI[DecidableEq κ]:List κ->List D->κ->D->List D
 |k::ks,d::ds,x,y=>if k=x then y::ds else d::bI ks ds x y
 |_,_,_,y=>[y]
noncomputable def mF(M:MH):D->Option (List Key×List D)
 |.dik ks ds=>some (ks,ds)
 |.ref a=>match M a with
  |some (.dk ks ds)=>some (ks,ds)
  |_=>none
 |_=>none
noncomputable def jD(M:MH):D->Option (List (List Int)×List D)
 |.dit ks ds=>some (ks,ds)
 |.ref a=>match M a with
  |some (.dt ks ds)=>some (ks,ds)
  |_=>none
 |_=>none
noncomputable def lD(M:MH)(x y:D):Option (Option D):=match mF M x with
 |some (ks,ds)=>match vA y with
  |some k=>some (getD ks ds k)
  |none=>none
 |none=>match jD M x with
  |some (ks,ds)=>match tZ y with
   |some k=>some (getD ks ds k)
   |none=>none
  |none=>none
noncomputable def fq(a b:Str):Bool:=!(Builtin.Str.occurrences b a 0 b.length 1).isEmpty
noncomputable def cR(z:Str)(i:Nat):Str:=⟨#[z.cps.getD i 0]⟩
noncomputable def cW(z:Str):List D:=z.cps.toList.map λc=>.str ⟨#[c]⟩
noncomputable def mW(neg:Bool)(x y:D)(M:MH)(Q:VK3):Prop:=match aD M y with
 |some ds=>pl (res M x)=true/\pls ds=true/\Q (.bl (neg ^^ ds.any λd=>eqD d (res M x))) M
 |none=>match lD M y x with
  |some o=>Q (.bl (neg ^^ o.isSome)) M
  |none=>match x,y with
   |.str a,.str b=>Q (.bl (neg ^^ fq a b)) M
   |_,_=>False
noncomputable def aj:CmpOp->D->D->MH->VK3->Prop
 |.Eq=>dI false
 |.NotEq=>dI true
 |.Lt=>rI2 λi j=>.bl (decide (i < j))
 |.LtE=>rI2 λi j=>.bl (decide (i<=j))
 |.Gt=>rI2 λi j=>.bl (decide (j < i))
 |.GtE=>rI2 λi j=>.bl (decide (j<=i))
 |.Is=>jQ false
 |.IsNot=>jQ true
 |.In=>mW false
 |.NotIn=>mW true
noncomputable def aG(x y:D)(M:MH)(Q:VK3):Prop:=match aD M x with
 |some ds=>match y with
  |.int i=>match atI ds i with
   |some d=>Q d M
   |none=>False
  |_=>False
 |none=>match lD M x y with
  |some (some d)=>Q d M
  |some none=>False
  |none=>match x,y with
   |.str z,.int i=>(0<=i/\i < z.length/\i < 2 ^ 63)/\Q (.str (cR z i.toNat)) M
   |_,_=>False
noncomputable def bO(xs:List D)(lo hi:Option Int):List D:=(xs.drop (HT.sIx xs.length 0 lo)).take (HT.sIx xs.length xs.length hi - HT.sIx xs.length 0 lo)
noncomputable def whole(n:Nat)(lo hi:Option Int):Bool:=HT.sIx n 0 lo == 0&&HT.sIx n n hi == n
noncomputable def eu(fz:Bool)(x:D)(lo hi:Option Int)(M:MH)(Q:VK3):Prop:=match x with
 |.tup ds=>whole ds.length lo hi=false/\Q (.tup (bO ds lo hi)) M
 |.str z=>z.length<=sizeLine/\Q (.str (Txt.slice z lo hi)) M
 |x=>match af M x with
  |some ds=>bb fz (bO ds lo hi) M Q
  |none=>False
noncomputable def cN:List D->Option (List Bool)
 |[]=>some []
 |.bl i::r=>match cN r with
  |some ns=>some (i::ns)
  |none=>none
 |_::_=>none
noncomputable def tyB:BM->D->MH->Bool
 |.upper,x,_=>match x with
  |.str _=>true
  |_=>false
 |.startswith,x,_=>match x with
  |.str _=>true
  |_=>false
 |.split,x,_=>match x with
  |.str _=>true
  |_=>false
 |.join,x,_=>match x with
  |.str _=>true
  |_=>false
noncomputable def ei:List D->Option (List Str)
 |[]=>some []
 |.str z::r=>match ei r with
  |some zs=>some (z::zs)
  |none=>none
 |_::_=>none
noncomputable def nP(x:D)(y z:Str)(M:MH)(Q:VK3):Prop:=match x with
 |.str t=>(t.length<=1048576/\z.length<=14/\(y == z)=false)/\Q (.str (Txt.replace t y z)) M
 |_=>False
noncomputable def rBm:BM->D->List D->MH->VK3->Prop
 |.upper,x,ys,M,Q=>match x,ys with
  |.str z,[]=>z.length<=1000/\Q (.str (Txt.upper z)) M
  |_,_=>False
 |.startswith,x,ys,M,Q=>match x,ys with
  |.str z,[.str y]=>Q (.bl (Txt.startswith z y)) M
  |_,_=>False
 |.join,x,ys,M,Q=>match x,ys with
  |.str z,[y]=>match af M y with
   |some ds=>match ei ds with
    |some ts=>JoinOk z ts=true/\Q (.str (Txt.join z ts)) M
    |none=>False
   |none=>False
  |_,_=>False
 |.split,x,ys,M,Q=>match x,ys with
  |.str z,[.str y]=>(y.length≠0/\z.length<=sizeLine/\(Txt.split z y).length<=sizeLine)/\Q (.rol ((Txt.split z y).map D.str)) M
  |_,_=>False
noncomputable def tO(k:List Int):D:=.tup (k.map D.int)
noncomputable def rBi:BI->List D->MH->VK3->Prop
 |.len,xs,M,Q=>match xs with
  |[x]=>match aD M x with
   |some ds=>Q (.int ds.length) M
   |none=>match jD M x with
    |some (ks,_)=>Q (.int ks.length) M
    |none=>match x with
     |.str z=>z.length<=sizeLine/\Q (.int z.length) M
     |_=>False
  |_=>False
 |.int,xs,M,Q=>match xs with
  |[.str z]=>z.length<=sizeLine/\(match intText? z with
   |some n=>Q (.int n) M
   |none=>False)
  |[.bl b]=>Q (.int (if b then 1 else 0)) M
  |_=>False
 |.strL,xs,M,Q=>match xs with
  |[.int i]=>i.natAbs < 10 ^ 4300/\Q (.str (toString i)) M
  |_=>False
 |.list fz,xs,M,Q=>match xs with
  |[x]=>match aD M x with
   |some ds=>bb fz ds M Q
   |none=>match jD M x with
    |some (ks,_)=>bb fz (ks.map tO) M Q
    |none=>False
  |_=>False
 |.tuple,xs,M,Q=>match xs with
  |[x]=>match aD M x with
   |some ds=>Q (.tup ds) M
   |none=>False
  |_=>False
 |.all,xs,M,Q=>match xs with
  |[x]=>match af M x with
   |some ds=>match cN ds with
    |some bs=>Q (.bl (bs.all id)) M
    |none=>False
   |none=>False
  |_=>False
 |.any,xs,M,Q=>match xs with
  |[x]=>match af M x with
   |some ds=>match cN ds with
    |some bs=>Q (.bl (bs.any id)) M
    |none=>False
   |none=>False
  |_=>False
noncomputable def di(t:BT)(x:D)(M:MH)(Q:VK3):Prop:=match x with
 |.non=>Q (.bl false) M
 |.bl _=>Q (.bl (match t with|.int=>true|.bool=>true|_=>false)) M
 |.int _=>Q (.bl (match t with|.int=>true|_=>false)) M
 |.str _=>Q (.bl (match t with|.str=>true|_=>false)) M
 |.tup _=>Q (.bl (match t with|.tuple=>true|_=>false)) M
 |.rol _=>Q (.bl (match t with|.list=>true|_=>false)) M
 |.ref a=>match M a with
  |some (.lst _)=>Q (.bl (match t with|.list=>true|_=>false)) M
  |some (.dk _ _)=>Q (.bl (match t with|.dict=>true|_=>false)) M
  |some (.dt _ _)=>Q (.bl (match t with|.dict=>true|_=>false)) M
  |_=>False
 |.dik _ _=>Q (.bl (match t with|.dict=>true|_=>false)) M
 |.dit _ _=>Q (.bl (match t with|.dict=>true|_=>false)) M
 |.obj _ _ _ _=>False
noncomputable def jV(ne:Nat)(cls:Nat->Addr)(r:Nat->Bool)(x:D)(M:MH)(Q:VK3):Prop:=match x with
 |.ref a=>match M a with
  |some (.exc i v)=>i.c < ne/\v=.ref (cls i.c)/\Q (.bl (r i.c)) M
  |_=>False
 |_=>False
noncomputable def gH:List D->Option (List Int)
 |[]=>some []
 |.int i::r=>match gH r with
  |some ns=>some (i::ns)
  |none=>none
 |_::_=>none
noncomputable def mmI(mx:Bool)(a b:Int):Int:=if mx=true then (if b > a then b else a) else (if b < a then b else a)
noncomputable def rMM(mx dflt:Bool)(x:D)(M:MH)(Q:VK3):Prop:=match af M x with
 |some ds=>match gH ds with
  |some []=>dflt=true/\Q .non M
  |some (n::ns)=>Q (.int (ns.foldl (mmI mx) n)) M
  |none=>False
 |none=>False
noncomputable def rSm(x:D)(M:MH)(Q:VK3):Prop:=match af M x with
 |some ds=>match gH ds with
  |some ns=>Q (.int ns.sum) M
  |none=>False
 |none=>False
noncomputable def ra:D->Bool
 |.dik _ _=>true
 |_=>false
noncomputable def rGg(d:D)(ys:List D)(M:MH)(Q:VK3):Prop:=match d,ys with
 |.dik ks ds,[.str t]=>Q ((getD ks ds (.inr t)).getD .non) M
 |_,_=>False
noncomputable def nq(d:D)(M:MH)(Q:VK3):Prop:=match d with
 |.dik _ _=>False
 |d=>Q d M
noncomputable def rLg(fz:Bool)(x:D)(M:MH)(Q:VK3):Prop:=match x with
 |.int j=>(-(2 ^ 62)<=j/\j<=2 ^ 20)/\bb fz (rng 0 j.toNat) M Q
 |_=>False
noncomputable def Cg(mx:Bool)(x:D)(M:MH)(Q:VK3):Prop:=match af M x with
 |some ds=>match gH ds with
  |some []=>Q (.int 0) M
  |some (n::ns)=>Q (.int (ns.foldl (mmI mx) n)) M
  |none=>False
 |none=>False
noncomputable def CH(fz:Bool)(x:D)(M:MH)(Q:VK3):Prop:=match af M x with
 |some ds=>bb fz ds.reverse M Q
 |none=>False
noncomputable def wn(p:Addr)(x y:D)(M:MH)(Q:VK3):Prop:=match x with
 |.int i=>M p=some (.dk [] [])/\Q (.ref p) (put M p (.dk [.inl i] [y]))
 |_=>False
structure WB where
 ne:Nat
 cls:Nat->Addr
 sub:Nat->Nat->Bool
 nk:Nat
 kls:Nat->Addr
 ksub:Nat->Nat->Bool
 fok:Nat->Nat->Bool
 mth:Nat->Nat->Option Nat
 ini:Nat->Option Nat
 xin:Nat->Option Nat
 glo:Nat->D
 fad:Nat->Addr
structure WC extends WB where
 call:Nat->List D->MH->VK3->XN->Prop
noncomputable def cD(f:Nat):List Nat->List D->Option D
 |n::ns,d::ds=>if n=f then some d else cD f ns ds
 |_,_=>none
noncomputable def iU(f:Nat):List Nat->List Nat
 |n::ns=>if n=f then n::ns else n::iU f ns
 |[]=>[f]
noncomputable def fk(f:Nat)(y:D):List Nat->List D->List D
 |n::ns,d::ds=>if n=f then y::ds else d::fk f y ns ds
 |_,_=>[y]
noncomputable def kK(f:Nat)(ns:List Nat)(ds:List D)(M:MH)(Q:VK3):Prop:=match cD f ns ds with
 |some d=>Q d M
 |none=>False
noncomputable def sL(B:WB)(f:Nat)(x:D)(M:MH)(Q:VK3):Prop:=match x with
 |.obj i C ns ds=>(C=B.kls i/\i < B.nk/\B.fok i f=true)/\kK f ns ds M Q
 |.ref a=>match M a with
  |some (.ins i C ns ds)=>(C=B.kls i/\i < B.nk/\B.fok i f=true)/\kK f ns ds M Q
  |_=>False
 |_=>False
noncomputable def rXf(B:WB)(f:Nat)(x:D)(M:MH)(Q:VK3):Prop:=match x with
 |.ref a=>match M a with
  |some (.exc i v)=>(v=.ref (B.cls i.c)/\i.c < B.ne/\B.xin i.c=some f)/\(match i.pl with
   |some (g,y)=>g=f/\Q y M
   |none=>False)
  |_=>False
 |_=>False
noncomputable def pz(o:Option Nat)(R:Nat->Prop):Prop:=match o with
 |some f=>R f
 |none=>False
noncomputable def uI(B:WB)(m:Nat)(x:D)(M:MH)(R:Nat->Prop):Prop:=match x with
 |.obj i C ns ds=>(C=B.kls i/\i < B.nk/\cD m ns ds=none)/\pz (B.mth i m) R
 |.ref a=>match M a with
  |some (.ins i C ns ds)=>(C=B.kls i/\i < B.nk/\cD m ns ds=none)/\pz (B.mth i m) R
  |_=>False
 |_=>False
noncomputable def Ce(B:WB)(j:Nat)(x:D)(M:MH)(Q:VK3):Prop:=match x with
 |.obj i C _ _=>(C=B.kls i/\i < B.nk/\j < B.nk)/\Q (.bl (B.ksub i j)) M
 |.ref a=>match M a with
  |some (.ins i C _ _)=>(C=B.kls i/\i < B.nk/\j < B.nk)/\Q (.bl (B.ksub i j)) M
  |_=>False
 |_=>False
noncomputable def bP(Q:VK3):VK3:=λx M=>match x with
 |.ref a=>match M a with
  |some (.lst ds)=>Q (.rol ds) (del M a)
  |_=>False
 |_=>False
noncomputable def bC:List D->MH->(List D->MH->Prop)->Prop
 |[],M,R=>R [] M
 |d::ds,M,R=>match d with
  |.ref a=>match M a with
   |some (.lst es)=>bC ds (del M a) λr M'=>R (.rol es::r) M'
   |some (.dk ks es)=>bC ds (del M a) λr M'=>R (.dik ks es::r) M'
   |some (.dt ks es)=>bC ds (del M a) λr M'=>R (.dit ks es::r) M'
   |_=>bC ds M λr M'=>R (.ref a::r) M'
  |d=>bC ds M λr M'=>R (d::r) M'
noncomputable def fx(Q:VK3):VK3:=λx M=>match x with
 |.ref a=>match M a with
  |some (.lst ds)=>Q (.rol ds) (del M a)
  |some (.dk ks ds)=>Q (.dik ks ds) (del M a)
  |some (.dt ks ds)=>Q (.dit ks ds) (del M a)
  |some (.ins i C ns ds)=>bC ds (del M a) λr M'=>Q (.obj i C ns r) M'
  |_=>False
 |_=>False
noncomputable def wpG:ITg->D->St3->MH->(St3->MH->Prop)->Prop
 |.name i,d,σ,M,Q=>Q (σ.set i (some d)) M
 |.tup is,d,σ,M,Q=>match d with
  |.tup ds=>ds.length=is.length/\Q ((is.zip ds).foldl (λσ p=>σ.set p.1 (some p.2)) σ) M
  |_=>False
noncomputable def ai(js:List (Option Nat))(σ:St3):St3:=js.map λo=>o.bind λj=>(σ[j]?).bind id
noncomputable def aU(g:D->St3->MH->(St3->MH->Prop)->Prop)(tt:St3->MH->(Bool->MH->Prop)->Prop)(te:St3->MH->VK3->Prop)(S:MH->Prop)(p:Addr)(Q:VK3):List D->List D->St3->MH->Prop
 |[],_,_,M=>S M/\Q (.ref p) M
 |d::r,ys,σ,M=>S M/\ys.length < sizeLine/\g d σ M λσ2 M2=>tt σ2 M2 λb M3=>if b=true then te σ2 M3 λy M4=>M4 p=some (.lst ys)/\aU g tt te S p Q r (ys++[y]) σ2 (put M4 p (.lst (ys++[y]))) else aU g tt te S p Q r ys σ2 M3
noncomputable def cC(x k y:D)(M:MH)(R:MH->Prop):Prop:=match x with
 |.ref a=>match M a,k with
  |some (.lst ds),.int i=>(match ixN ds.length i with
   |some j=>R (put M a (.lst (ds.set j y)))
   |none=>False)
  |some (.dk ks ds),k=>(match vA k with
   |some q=>ks.length < sizeLine/\R (put M a (.dk (aF ks q) (bI ks ds q y)))
   |none=>False)
  |some (.dt ks ds),k=>(match tZ k with
   |some q=>ks.length < sizeLine/\R (put M a (.dt (aF ks q) (bI ks ds q y)))
   |none=>False)
  |_,_=>False
 |_=>False
noncomputable def cS(xs ys:List D):List D:=(xs.zip ys).map λp=>.tup [p.1,p.2]
noncomputable def eB(xs ys zs:List D):List D:=(xs.zip (ys.zip zs)).map λp=>.tup [p.1,p.2.1,p.2.2]
noncomputable def cpF(f:Nat):Bool:=f == 217822450
section
variable (W:WC)
mutual
noncomputable def wpE:IE->St3->MH->VK3->XN->Prop
 |.var i,σ,M,Q,_=>match σ[i]? with
  |some (some d)=>Q d M
  |_=>False
 |.con d,_,M,Q,_=>Q d M
 |.bin op a b,σ,M,Q,E=>wpE a σ M (λx M1=>wpE b σ M1 (λy M2=>dU op x y M2 Q) E) E
 |.neg a,σ,M,Q,E=>wpE a σ M (λx M1=>rNeg x M1 Q) E
 |.cat fz a b,σ,M,Q,E=>wpE a σ M (λx M1=>wpE b σ M1 (λy M2=>ba fz x y M2 Q) E) E
 |.cmp op a b,σ,M,Q,E=>wpE a σ M (λx M1=>wpE b σ M1 (λy M2=>aj op x y M2 Q) E) E
 |.chain op op' a b c,σ,M,Q,E=>wpE a σ M (λx M1=>wpE b σ M1 (λy M2=>aj op x y M2 λr M3=>match r with
  |.bl k=>if k=true then wpE c σ M3 (λz M4=>aj op' y z M4 Q) E else Q (.bl false) M3
  |_=>False) E) E
 |.and a b,σ,M,Q,E=>wpE a σ M (λx M1=>match x with
  |.bl c=>if c=true then wpE b σ M1 Q E else Q (.bl false) M1
  |_=>False) E
 |.or a b,σ,M,Q,E=>wpE a σ M (λx M1=>match x with
  |.bl c=>if c=true then Q (.bl true) M1 else wpE b σ M1 Q E
  |_=>False) E
 |.not a,σ,M,Q,E=>wpE a σ M (λx M1=>match x with
  |.bl c=>Q (.bl (!c)) M1
  |_=>False) E
 |.ifx c a b,σ,M,Q,E=>wpT c σ M (λk M1=>if k=true then wpE a σ M1 Q E else wpE b σ M1 Q E) E
 |.tup es,σ,M,Q,E=>wpA es σ M (λxs M1=>xs.length<=sizeLine/\Q (.tup xs) M1) E
 |.lst fz es,σ,M,Q,E=>wpA es σ M (λxs M1=>bb fz xs M1 Q) E
 |.frz e,σ,M,Q,E=>wpE e σ M (fx Q) E
 |.ix a b,σ,M,Q,E=>wpE a σ M (λx M1=>wpE b σ M1 (λy M2=>aG x y M2 Q) E) E
 |.sl fz a lo hi,σ,M,Q,E=>wpE a σ M (λx M1=>wpO lo σ M1 (λl M2=>wpO hi σ M2 (λh M3=>eu fz x l h M3 Q) E) E) E
 |.call f es,σ,M,Q,E=>wpA es σ M (λxs M1=>W.call f xs M1 Q E) E
 |.bi b es,σ,M,Q,E=>wpA es σ M (λxs M1=>rBi b xs M1 Q) E
 |.isB e t,σ,M,Q,E=>wpE e σ M (λx M1=>di t x M1 Q) E
 |.isC e c,σ,M,Q,E=>wpE e σ M (λx M1=>jV W.ne W.cls (λi=>W.sub i c) x M1 Q) E
 |.comp fz _ js tg it cond elt,σ,M,Q,E=>wpI it σ M (λds S M1=>∀p,M1 p=none->
   aU (wpG tg) (λσ M Q=>eQ cond σ M Q (λ_ _=>False)) (λσ M Q=>wpE elt σ M Q (λ_ _=>False)) S p (if fz=true then bP Q else Q) ds [] (ai js σ) (put M1 p (.lst []))) E
 |.compX fz _ js tg it cond elt,σ,M,Q,E=>wpI it σ M (λds S M1=>∀p,M1 p=none->
   aU (wpG tg) (λσ M Q=>eQ cond σ M Q (λ_ _=>False)) (λσ M Q=>wpE elt σ M Q E) S p (if fz=true then bP Q else Q) ds [] (ai js σ) (put M1 p (.lst []))) E
 |.rpl o y z,σ,M,Q,E=>wpE o σ M (λx M1=>nP x y z M1 Q) E
 |.glo k,_,M,Q,_=>nq (W.glo k) M Q
 |.gg k es,σ,M,Q,E=>ra (W.glo k)=true/\wpA es σ M (λxs M2=>rGg (W.glo k) xs M2 Q) E
 |.bm b o es,σ,M,Q,E=>wpE o σ M (λx M1=>tyB b x M1=true/\wpA es σ M1 (λxs M2=>rBm b x xs M2 Q) E) E
noncomputable def wpT:IT->St3->MH->(Bool->MH->Prop)->XN->Prop
 |.val e,σ,M,Q,E=>wpE e σ M (λx M1=>match x with
  |.bl k=>Q k M1
  |_=>False) E
 |.cmp op a b,σ,M,Q,E=>wpE a σ M (λx M1=>wpE b σ M1 (λy M2=>aj op x y M2 λr M3=>match r with
  |.bl k=>Q k M3
  |_=>False) E) E
 |.chain op op' a b c,σ,M,Q,E=>wpE a σ M (λx M1=>wpE b σ M1 (λy M2=>aj op x y M2 λr M3=>match r with
  |.bl k=>if k=true then wpE c σ M3 (λz M4=>aj op' y z M4 λr M5=>match r with
   |.bl k=>Q k M5
   |_=>False) E else Q false M3
  |_=>False) E) E
 |.chain3 op op' op'' a b c d,σ,M,Q,E=>wpE a σ M (λx M1=>wpE b σ M1 (λy M2=>aj op x y M2 λr M3=>match r with
  |.bl k=>if k=true then wpE c σ M3 (λz M4=>aj op' y z M4 λr M5=>match r with
   |.bl k=>if k=true then wpE d σ M5 (λu M6=>aj op'' z u M6 λr M7=>match r with
    |.bl k=>Q k M7
    |_=>False) E else Q false M5
   |_=>False) E else Q false M3
  |_=>False) E) E
 |.and a b,σ,M,Q,E=>wpT a σ M (λc M1=>if c=true then wpT b σ M1 Q E else Q false M1) E
 |.or a b,σ,M,Q,E=>wpT a σ M (λc M1=>if c=true then Q true M1 else wpT b σ M1 Q E) E
 |.not a,σ,M,Q,E=>wpT a σ M (λc M1=>Q (!c) M1) E
noncomputable def wpA:IA->St3->MH->(List D->MH->Prop)->XN->Prop
 |.nil,_,M,Q,_=>Q [] M
 |.cons e r,σ,M,Q,E=>wpE e σ M (λx M1=>wpA r σ M1 (λxs M2=>Q (x::xs) M2) E) E
noncomputable def wpO:IO->St3->MH->(Option Int->MH->Prop)->XN->Prop
 |.no,_,M,Q,_=>Q none M
 |.yes e,σ,M,Q,E=>wpE e σ M (λx M1=>match x with
  |.int i=>Q (some i) M1
  |_=>False) E
noncomputable def eQ:ITO->St3->MH->(Bool->MH->Prop)->XN->Prop
 |.no,_,M,Q,_=>Q true M
 |.yes e,σ,M,Q,E=>wpT e σ M Q E
noncomputable def wpI:II->St3->MH->(List D->(MH->Prop)->MH->Prop)->XN->Prop
 |.seq e,σ,M,R,E=>wpE e σ M (λx M1=>match x with
  |.tup ds=>R ds (λ_=>True) M1
  |.rol ds=>R ds (λ_=>True) M1
  |.ref a=>match M1 a with
   |some (.lst ds)=>R ds (λM=>M a=some (.lst ds)) M1
   |_=>False
  |.str z=>R (cW z) (λ_=>True) M1
  |_=>False) E
 |.zip a b,σ,M,R,E=>wpE a σ M (λx M1=>wpE b σ M1 (λy M2=>match x,y with
  |.rol xs,.rol ys=>R (cS xs ys) (λ_=>True) M2
  |.rol xs,.ref b=>match M2 b with
   |some (.lst ys)=>R (cS xs ys) (λM=>M b=some (.lst ys)) M2
   |_=>False
  |_,_=>False) E) E
 |.zip3 a b c,σ,M,R,E=>wpE a σ M (λx M1=>wpE b σ M1 (λy M2=>wpE c σ M2 (λz M3=>match x,y,z with
  |.rol xs,.rol ys,.rol zs=>R (eB xs ys zs) (λ_=>True) M3
  |_,_,_=>False) E) E) E
end
noncomputable def fV(g:D->St3->MH->(St3->MH->Prop)->Prop)(tb:Ends3->St3->MH->Prop)(S:MH->Prop)(D:Ends3):List L2.D->St3->MH->Prop
 |[],σ,M=>S M/\D.nx σ M
 |d::r,σ,M=>S M/\g d σ M λσ2 M2=>tb {D with nx:=fV g tb S D r,ct:=fV g tb S D r,bk:=D.nx} σ2 M2
noncomputable def fc(D:Ends3)(i:Nat):Ends3:=⟨λσ M=>D.nx (σ.set i none) M,D.rt,λσ M=>D.bk (σ.set i none) M,λσ M=>D.ct (σ.set i none) M⟩
mutual
noncomputable def wpS:IS->Ends3->(St3->XN)->St3->MH->Prop
 |.set i e,D,E,σ,M=>wpE W e σ M (λx M1=>D.nx (σ.set i (some x)) M1) (E σ)
 |.expr e,D,E,σ,M=>wpE W e σ M (λ_ M1=>D.nx σ M1) (E σ)
 |.ret e,D,E,σ,M=>wpE W e σ M D.rt (E σ)
 |.ifs c a b,D,E,σ,M=>wpT W c σ M (λk M1=>if k=true then av a D E σ M1 else av b D E σ M1) (E σ)
 |.for_ tg it body,D,E,σ,M=>wpI W it σ M (λds S M1=>fV (wpG tg) (λD σ M=>av body D E σ M) S D ds σ M1) (E σ)
 |.raise c es,_,E,σ,M=>wpA W es σ M (λxs M1=>xs.length<=sizeLine/\E σ ⟨c,none⟩ M1) (E σ)
 |.try_ body hs,D,E,σ,M=>av body D (λσ' i M'=>wpH hs i D σ' M') σ M
 |.app o e,D,E,σ,M=>wpE W o σ M (λx M1=>match x with
  |.ref a=>match M1 a with
   |some (.lst _)=>wpE W e σ M1 (λy M2=>match M2 a with
    |some (.lst ds)=>ds.length < sizeLine/\D.nx σ (put M2 a (.lst (ds++[y])))
    |_=>False) (E σ)
   |_=>False
  |_=>False) (E σ)
 |.del i,D,_,σ,M=>match σ[i]? with
  |some (some (.ref a))=>D.nx σ (L2.del M a)
  |_=>False
 |.ixset o i e,D,E,σ,M=>wpE W e σ M (λy M1=>wpE W o σ M1 (λx M2=>wpE W i σ M2 (λk M3=>cC x k y M3 λM4=>D.nx σ M4) (E σ)) (E σ)) (E σ)
noncomputable def av:ISs->Ends3->(St3->XN)->St3->MH->Prop
 |.nil,D,_,σ,M=>D.nx σ M
 |.cons s r,D,E,σ,M=>wpS s {D with nx:=λσ' M'=>av r D E σ' M'} E σ M
noncomputable def wpH:IHs->XE->Ends3->St3->MH->Prop
 |.nil,_,_,_,_=>False
 |.cons c nm body r,i,D,σ,M=>i.c < W.ne/\if W.sub i.c c=true then (match nm with
  |none=>av body D (λ_ _ _=>False) σ M
  |some j=>∀a,M a=none->av body (fc D j) (λ_ _ _=>False) (σ.set j (some (.ref a))) (put M a (.exc i (.ref (W.cls i.c))))) else wpH r i D σ M
end
end
end L2
namespace L2
open PySem PySem.Spec PyProof.Rows
noncomputable def LkE(K:PySem.W.Frag)(cls:Nat->Addr)(H:Hp)(E3:XN)(E:XK):Prop:=∀i M' H',TM K H H'->RelM K M' H'->E3 i M'->∀dx,XD K H' i dx->E (.ref (cls i.c)) dx H'
noncomputable def LkS(K:PySem.W.Frag)(cls:Nat->Addr)(H:Hp)(E3:St3->XN)(E2:St->XK):Prop:=∀σ3 σ i M' H',TM K H H'->DenS K H' σ3 σ->RelM K M' H'->E3 σ3 i M'->∀dx,XD K H' i dx->E2 σ (.ref (cls i.c)) dx H'
section
variable {K:PySem.W.Frag}
theorem LkE.mono(h:LkE K cls H E3 E)(t:TM K H H1):LkE K cls H1 E3 E:=λi M' H' t' r q=>h i M' H' (t.trans t') r q
theorem LkS.mono(h:LkS K cls H E3 E2)(t:TM K H H1):LkS K cls H1 E3 E2:=λσ3 σ i M' H' t' d r q=>h σ3 σ i M' H' (t.trans t') d r q
theorem LkS.at(h:LkS K cls H E3 E2)(ds:DenS K H σ3 σ):LkE K cls H (E3 σ3) (E2 σ):=λi M' H' t r q=>h σ3 σ i M' H' t (ds.mono t) r q
theorem LkE.no:LkE K cls H (λ_ _=>False) E:=λ_ _ _ _ _ h=>h.elim
theorem Back.mono(h:Back K H Q Q2)(t:TM K H H1):Back K H1 Q Q2:=λv H' d M' a b c e=>h v H' d M' a b (t.trans c) e
end
section
variable (K:PySem.W.Frag) (cls:Nat->Addr) (E2:St->XK)
noncomputable def low(t:St3->MH->VK3->XN->Prop):TE:=λσ H Q2=>∃σ3 M Q E3,RelM K M H/\DenS K H σ3 σ/\LkE K cls H E3 (E2 σ)/\t σ3 M Q E3/\Back K H Q Q2
noncomputable def bB(t:St3->MH->(Bool->MH->Prop)->XN->Prop):TT:=λσ H Q2=>∃σ3 M Q E3,RelM K M H/\DenS K H σ3 σ/\LkE K cls H E3 (E2 σ)/\t σ3 M Q E3/\∀b H' M',RelM K M' H'->TM K H H'->Q b M'->Q2 b H'
noncomputable def dN(t:St3->MH->(List D->MH->Prop)->XN->Prop):TA:=λσ H Q2=>∃σ3 M Q E3,RelM K M H/\DenS K H σ3 σ/\LkE K cls H E3 (E2 σ)/\t σ3 M Q E3/\∀vs H' ds M',DenL K H' ds vs->RelM K M' H'->TM K H H'->Q ds M'->Q2 vs H'
noncomputable def mE(t:St3->MH->(Option Int->MH->Prop)->XN->Prop):TO:=λσ H Q2=>∃σ3 M Q E3,RelM K M H/\DenS K H σ3 σ/\LkE K cls H E3 (E2 σ)/\t σ3 M Q E3/\∀o H' M',RelM K M' H'->TM K H H'->Q o M'->Q2 o H'
noncomputable def jP(t:St3->MH->(List D->(MH->Prop)->MH->Prop)->XN->Prop):TI:=λσ H R2=>∃σ3 M R E3,RelM K M H/\DenS K H σ3 σ/\LkE K cls H E3 (E2 σ)/\t σ3 M R E3/\∀J H' ds S M',ItOk K H' J ds S->RelM K M' H'->TM K H H'->R ds S M'->R2 J H'
noncomputable def bz(t:Ends3->(St3->XN)->St3->MH->Prop):TS:=λD2 σ H=>∃σ3 M D3 E3,RelM K M H/\DenS K H σ3 σ/\LkS K cls H E3 E2/\t D3 E3 σ3 M/\ER K H D3 D2
noncomputable def ln(t:D->St3->MH->(St3->MH->Prop)->Prop):TG:=λv σ H Q2=>∃d σ3 M Q,Den K H d v/\RelM K M H/\DenS K H σ3 σ/\t d σ3 M Q/\BackS K H Q Q2
end
section
variable {X:Cx}{st:Stmt}
theorem PE.imp(h:PE X e t)(f:∀σ H Q,t' σ H Q->t σ H Q):PE X e t':=λpins s σ H Q I q=>h pins s σ H Q I (f σ H Q q)
theorem PT.imp(h:PT X e t)(f:∀σ H Q,t' σ H Q->t σ H Q):PT X e t':=λpins s σ H Q I q=>h pins s σ H Q I (f σ H Q q)
theorem PW.imp(h:PW X e t)(f:∀σ H Q,t' σ H Q->t σ H Q):PW X e t':=λwhole pins s σ H Q I q=>h whole pins s σ H Q I (f σ H Q q)
theorem PA.imp(h:PA X es t)(f:∀σ H Q,t' σ H Q->t σ H Q):PA X es t':=λpos pins s σ H Q I q=>h pos pins s σ H Q I (f σ H Q q)
theorem PO.imp(h:PO X o t)(f:∀σ H Q,t' σ H Q->t σ H Q):PO X o t':=λpins s σ H Q I q=>h pins s σ H Q I (f σ H Q q)
theorem PI.imp(h:PI X tg e t)(f:∀σ H Q,t' σ H Q->t σ H Q):PI X tg e t':=λpins s σ H Q I q=>h pins s σ H Q I (f σ H Q q)
theorem PS.imp(h:PS X st t)(f:∀D σ H,t' D σ H->t D σ H):PS X st t':=λpins s σ H D I q=>h pins s σ H D I (f D σ H q)
theorem PSs.imp(h:PSs X sts t)(f:∀D σ H,t' D σ H->t D σ H):PSs X sts t':=λpins s σ H D I q=>h pins s σ H D I (f D σ H q)
theorem PG.imp(h:PG X e t)(f:∀v σ H Q,t' v σ H Q->t v σ H Q):PG X e t':=λpins s σ H v u Q I r q=>h pins s σ H v u Q I r (f v σ H Q q)
end
section
variable {X:Cx}{s:Shared}
theorem HOk.freeze(x:HOk P w H h)(e:H a=some (.lst xs)):∃o,HOk P w (upd H a (.frz o (.lst xs))) h:=by
 obtain⟨o,ho⟩:=(x a _ e).isAt;refine⟨o,λb u q=>?_⟩
 have own:∀c y,H c=some (.own y)->(upd H a (.frz o (.lst xs))) c=some (.own y):=λc y z=>by
  rw[ad (ne_of z e (λw=>nomatch w))];exact z
 have tup:∀c ys,H c=some (.tup ys)->(upd H a (.frz o (.lst xs))) c=some (.tup ys):=λc ys z=>by
  rw[ad (ne_of z e (λw=>nomatch w))];exact z
 by_cases hb:b=a
 ·subst hb;rw[ag]at q;cases q;exact⟨ho,(x b _ e).stay (λ_ _ _ q=>q) (λc z=>own c _ z) λc ys z=>tup c ys z⟩
 ·rw[ad hb]at q;exact (x b u q).stay (λ_ _ _ q=>q) (λc z=>own c _ z) λc ys z=>tup c ys z
theorem Inv.freeze(I:Inv X pins σ H s)(e:H a=some (.lst xs)):∃o,Inv X pins σ (upd H a (.frz o (.lst xs))) s:=by
 obtain⟨o,ok⟩:=I.hok.freeze e;have ne:∀b,H b=none->b≠a:=λb z=>λq=>by rw[q,e]at z;cases z
 refine⟨o,⟨I.ok,I.os,I.bare,⟨I.base.keep,I.base.slot,λb ob q n hx=>?_,I.base.there,λb ys q=>?_,λb ob u q=>?_,λb ps q=>?_⟩,I.loc,I.cell,?_,λx c z=>?_,λp hp=>?_,ok,I.len⟩⟩
 ·have z:=I.base.free b ob q n hx;rw[ad (ne b z)];exact z
 ·have z:=I.base.tups b ys q;rw[ad (ne_of z e (λw=>nomatch w))];exact z
 ·have z:=I.base.frzs b ob u q;rw[ad (ne_of z e (λw=>nomatch w))];exact z
 ·obtain⟨more,z⟩:=I.base.tbls b ps q;exact⟨more,by rw[ad (ne_of z e (λw=>nomatch w))];exact z⟩
 ·rw[ad (ne _ I.free)];exact I.free
 ·rw[ad (ne _ (I.freeC x c z))];exact I.freeC x c z
 ·obtain⟨p1,p2,p3⟩:=I.pin p hp;exact⟨p1,by rw[ad (ne _ p2)];exact p2,p3⟩
end
section
variable {K:PySem.W.Frag}{xs:List V}
theorem TM.freeze(e:H a=some (.lst xs)):TM K H (upd H a (.frz o (.lst xs))):=
 .put e (λ_=>λz=>nomatch z) λ_ _=>λz=>nomatch z
theorem RelM.freeze(r:RelM K M H)(e:H a=some (.lst xs)):RelM K (del M a) (upd H a (.frz o (.lst xs))):=λb u q=>by
 obtain⟨ne,q⟩:=i3 q;exact (r b u q).stay (.freeze e) (ad ne)
theorem dL(h:DenL K H ds xs)(e:H a=some (.lst xs)):Den K (upd H a (.frz o (.lst xs))) (.rol ds) (.ref a):=⟨a,xs,rfl,.inl ⟨o,ag⟩,h.mono (.freeze e)⟩
end
theorem bH{X:Cx}
  (I:Inv X pins σ (upd H p (.lst vs)) s) (hp:H p=none) (dl:DenL X.K H ds vs)(rm:RelM X.K M H)(tm:TM X.K H0 H)(h:bb fz ds M Q)(back:Back X.K H0 Q Q2):EP X pins σ Q2 (.ref p) s:=by
 obtain⟨_,h⟩:=h;cases fz with
 |true=>
  rw[if_pos rfl]at h;obtain⟨o,I2⟩:=I.freeze ag;refine⟨.ref p,_,I2,rfl,back _ _ _ _ (dL (o:=o) (dl.mono (.new hp)) ag) ?_ (tm.trans ((TM.new hp).trans (.freeze ag))) h⟩;have r2:RelM X.K (put M p (.lst ds)) (upd H p (.lst vs)):=rm.lay hp ⟨vs,ag,dl.mono (.new hp)⟩;have r3:=r2.freeze (o:=o) (xs:=vs) ag;rw[d8 (rm.fresh hp)]at r3;exact r3
 |false=>
  rw[if_neg Bool.false_ne_true]at h;exact⟨.ref p,_,I,rfl,back _ _ _ _ i4 (rm.lay (u:=.lst ds) hp ⟨vs,ag,dl.mono (.new hp)⟩) (tm.trans (.new hp)) (h p (rm.fresh hp))⟩
noncomputable def RdL(K:PySem.W.Frag)(H:Hp)(p:Addr)(vs:List V):Prop:=Rd H p (.lst vs)\/SqM K p vs
theorem RdL.sq{K:PySem.W.Frag}(h:RdL K H p vs):SqL K H p vs:=by
 rcases h with h|h
 ·exact .inl h
 ·exact h.sq
theorem SqF.rd{K:PySem.W.Frag}(h:SqF K H p vs):RdL K H p vs:=by
 rcases h with h|h
 ·exact .inl (.inr h)
 ·exact .inr h
theorem bj{K:PySem.W.Frag}(rm:RelM K M H)(h:af M x=some ds)(dv:Den K H x v):∃p vs,v=.ref p/\RdL K H p vs/\DenL K H ds vs:=by
 cases x with
 |rol es=>
  cases (show es=ds from Option.some.inj h);obtain⟨p,vs,e,s,l⟩:=dv;exact⟨p,vs,e,s.rd,l⟩
 |ref a=>
  have h:(match M a with|some (.lst ds)=>some ds|_=>none)=some ds:=h
  split at h
  next es q=>
   cases h;obtain⟨vs,e,l⟩:=rm a _ q;exact⟨a,vs,dv,.inl (.inl e),l⟩
  next=>cases h
 |_=>cases h
theorem de{K:PySem.W.Frag}(rm:RelM K M H)(h:aD M x=some ds)(dv:Den K H x v):∃p vs,v=.ref p/\(SqL K H p vs\/SqT K H p vs)/\DenL K H ds vs:=by
 cases x with
 |tup es=>
  cases (show es=ds from Option.some.inj h);obtain⟨p,vs,e,s,l⟩:=dv;exact⟨p,vs,e,.inr s,l⟩
 |rol es=>obtain⟨p,vs,e,s,l⟩:=bj rm (show af M (.rol es)=some ds from h) dv;exact⟨p,vs,e,.inl s.sq,l⟩
 |ref a=>obtain⟨p,vs,e,s,l⟩:=bj rm (show af M (.ref a)=some ds from h) dv;exact⟨p,vs,e,.inl s.sq,l⟩
 |_=>cases h
theorem Inv.rdL{X:Cx}{s:Shared}{xs:List V}(I:Inv X pins σ H s)(h:RdL X.K H l xs):xs.length<=sizeLine/\∃(its:List Value) (n:Nat),Vals xs its/\xs.length=its.length/\s.heap.get? l=some {cls:=.type "list",data:=.seq its.toArray n}:=by
 rcases h with h|⟨its,n,e,z,r⟩
 ·obtain⟨z,its,n,r,e⟩:=h.ok I.hok;exact⟨z,its,n,r,r.length,e⟩
 ·exact⟨by rw[r.length];exact z,its,n,r,r.length,I.kIn _ _ e⟩
noncomputable def oK:HO->Bool
 |.lst _=>true
 |.dK _=>true
 |.dT _=>true
 |.ins _ _ _=>true
 |.ext _=>true
 |_=>false
theorem jv(h:oK u=true):(∀y,HO.own y≠u)/\(∀xs,HO.tup xs≠u)/\(∀o v,HO.frz o v≠u)/\∀ps,HO.tbl ps≠u:=by
 cases u<;>first
  |(cases h;done)
  |exact⟨λ_ z=>(by cases z),λ_ z=>(by cases z),λ_ _ z=>(by cases z),λ_ z=>(by cases z)⟩
section
variable {X:Cx}
theorem HOk.frzU(x:HOk P w H h)(e:H a=some u)(hu:oK u=true):∃o,HOk P w (upd H a (.frz o u)) h:=by
 obtain⟨n1,n2,_,_⟩:=jv hu;obtain⟨o,ho⟩:=(x a _ e).isAt;refine⟨o,λb v q=>?_⟩
 have own:∀c y,H c=some (.own y)->(upd H a (.frz o u)) c=some (.own y):=λc y z=>by
  rw[ad (ne_of z e (n1 y))];exact z
 have tup:∀c ys,H c=some (.tup ys)->(upd H a (.frz o u)) c=some (.tup ys):=λc ys z=>by
  rw[ad (ne_of z e (n2 ys))];exact z
 by_cases hb:b=a
 ·subst hb;rw[ag]at q;cases q;exact⟨ho,(x b _ e).stay (λ_ _ _ q=>q) (λc z=>own c _ z) λc ys z=>tup c ys z⟩
 ·rw[ad hb]at q;exact (x b v q).stay (λ_ _ _ q=>q) (λc z=>own c _ z) λc ys z=>tup c ys z
theorem Inv.frzU(I:Inv X pins σ H s)(e:H a=some u)(hu:oK u=true):∃o,Inv X pins σ (upd H a (.frz o u)) s:=by
 obtain⟨n1,n2,n3,n4⟩:=jv hu;obtain⟨o,ok⟩:=I.hok.frzU e hu;have ne:∀b,H b=none->b≠a:=λb z=>λq=>by rw[q,e]at z;cases z
 refine⟨o,⟨I.ok,I.os,I.bare,⟨I.base.keep,I.base.slot,λb ob q n hx=>?_,I.base.there,λb ys q=>?_,λb ob u q=>?_,λb ps q=>?_⟩,I.loc,I.cell,?_,λx c z=>?_,λp hp=>?_,ok,I.len⟩⟩
 ·have z:=I.base.free b ob q n hx;rw[ad (ne b z)];exact z
 ·have z:=I.base.tups b ys q;rw[ad (ne_of z e (n2 _))];exact z
 ·have z:=I.base.frzs b ob u q;rw[ad (ne_of z e (n3 _ _))];exact z
 ·obtain⟨more,z⟩:=I.base.tbls b ps q;exact⟨more,by rw[ad (ne_of z e (n4 _))];exact z⟩
 ·rw[ad (ne _ I.free)];exact I.free
 ·rw[ad (ne _ (I.freeC x c z))];exact I.freeC x c z
 ·obtain⟨p1,p2,p3⟩:=I.pin p hp;exact⟨p1,by rw[ad (ne _ p2)];exact p2,p3⟩
end
section
variable {K:PySem.W.Frag}
theorem TM.frzU(e:H a=some u)(hu:oK u=true):TM K H (upd H a (.frz o u)):=by
 obtain⟨_,n2,n3,_⟩:=jv hu;exact .put e (λxs z=>n2 xs z.symm) λob v z=>n3 ob v z.symm
theorem RelM.frzU(r:RelM K M H)(e:H a=some u)(hu:oK u=true):RelM K (del M a) (upd H a (.frz o u)):=λb v q=>by
 obtain⟨ne,q⟩:=i3 q;exact (r b v q).stay (.frzU e hu) (ad ne)
end
noncomputable def fzD:DO->D
 |.lst ds=>.rol ds
 |.dk ks ds=>.dik ks ds
 |.dt ks ds=>.dit ks ds
 |.ins i C ns ds=>.obj i C ns ds
 |.exc _ _=>.non
 |.stl _=>.non
theorem cT{X:Cx}(I:Inv X pins σ H s)(rm:RelM X.K M H)(e:M a=some o)(ho:(∀i c,o≠.exc i c)/\∀φ,o≠.stl φ) :
  ∃H',Inv X pins σ H' s/\TM X.K H H'/\RelM X.K (del M a) H'/\Den X.K H' (fzD o) (.ref a):=by
 cases o with
 |lst ds=>
  obtain⟨vs,e1,dl⟩:=rm a _ e;obtain⟨ob,I2⟩:=I.frzU e1 rfl;exact⟨_,I2,.frzU e1 rfl,rm.frzU e1 rfl,a,vs,rfl,.inl ⟨ob,ag⟩,dl.mono (.frzU e1 rfl)⟩
 |dk ks ds=>
  obtain⟨vs,e1,hl,dl⟩:=rm a _ e;obtain⟨ob,I2⟩:=I.frzU e1 rfl;exact⟨_,I2,.frzU e1 rfl,rm.frzU e1 rfl,a,vs,ob,rfl,ag,hl,dl.mono (.frzU e1 rfl)⟩
 |dt ks ds=>
  obtain⟨vs,xs,e1,z,dl⟩:=rm a _ e;obtain⟨ob,I2⟩:=I.frzU e1 rfl;have t:TM X.K H (upd H a (.frz ob (.ext (dW a xs)))):=.frzU e1 rfl;exact⟨_,I2,t,rm.frzU e1 rfl,a,vs,ob,xs,rfl,ag,⟨z.kx,z.nd,z.sz,z.no,z.vx,λx hx=>t.t _ _ (z.at_ x hx)⟩,dl.mono t⟩
 |ins i C ns ds=>
  obtain⟨dx,vs,e1,hl,dl⟩:=rm a _ e;obtain⟨ob,I2⟩:=I.frzU e1 rfl;exact⟨_,I2,.frzU e1 rfl,rm.frzU e1 rfl,a,vs,ob,dx,rfl,ag,hl,dl.mono (.frzU e1 rfl)⟩
 |exc i c=>exact absurd rfl (ho.1 i c)
 |stl φ=>exact absurd rfl (ho.2 φ)
theorem dO{X:Cx}:∀{ds:List D}{vs:List V}{H:Hp}{M:MH}{R:List D->MH->Prop},Inv X pins σ H s->RelM X.K M H->DenL X.K H ds vs->bC ds M R->
  ∃H' M' r,Inv X pins σ H' s/\TM X.K H H'/\RelM X.K M' H'/\DenL X.K H' r vs/\R r M'
 |[],vs,H,M,R,I,rm,dl,h=>⟨H,M,[],I,.refl _,rm,dl,h⟩
 |d::ds,_,H,M,R,I,rm,dl,h=>by
  obtain⟨v,r,rfl,dv,dl⟩:=dl;have keep:∀(d:D),Den X.K H d v->bC ds M (λr M'=>R (d::r) M')->∃H' M' r',Inv X pins σ H' s/\TM X.K H H'/\RelM X.K M' H'/\DenL X.K H' r' (v::r)/\R r' M':=λd dv h=>by
   obtain⟨H',M',r',I',t,rm',dl',q⟩:=dO I rm dl h;exact⟨H',M',d::r',I',t,rm',.cons (dv.mono t) dl',q⟩
  have fz:∀(a:Addr)(o:DO),v=.ref a->M a=some o->((∀i c,o≠.exc i c)/\∀φ,o≠.stl φ)->bC ds (del M a) (λr M'=>R (fzD o::r) M')->∃H' M' r',Inv X pins σ H' s/\TM X.K H H'/\RelM X.K M' H'/\DenL X.K H' r' (v::r)/\R r' M':=λa o e eM ne h=>by
   subst e;obtain⟨H1,I1,t1,rm1,d1⟩:=cT I rm eM ne;obtain⟨H',M',r',I',t,rm',dl',q⟩:=dO I1 rm1 (dl.mono t1) h;exact⟨H',M',_::r',I',t1.trans t,rm',.cons (d1.mono t) dl',q⟩
  cases d with
  |ref a=>
   simp only[bC]at h;have e:v=.ref a:=dv;split at h
   ·rename_i es q;exact fz a (.lst es) e q ⟨(λ_ _ z=>nomatch z),(λ_ z=>nomatch z)⟩ h
   ·rename_i ks es q;exact fz a (.dk ks es) e q ⟨(λ_ _ z=>nomatch z),(λ_ z=>nomatch z)⟩ h
   ·rename_i ks es q;exact fz a (.dt ks es) e q ⟨(λ_ _ z=>nomatch z),(λ_ z=>nomatch z)⟩ h
   ·exact keep _ dv h
  |_=>exact keep _ dv (by simpa only[bC] using h)
theorem md{X:Cx}(I:Inv X pins σ H s)(rm:RelM X.K M H)(dx:Den X.K H x v)(h:fx Q x M) :
  ∃H' M' d,Inv X pins σ H' s/\TM X.K H H'/\RelM X.K M' H'/\Den X.K H' d v/\Q d M':=by
 unfold fx at h;split at h
 ·rename_i a;cases (show v=.ref a from dx);split at h
  ·rename_i es q;obtain⟨H1,I1,t1,rm1,d1⟩:=cT (o:=.lst es) I rm q ⟨(λ_ _ z=>nomatch z),(λ_ z=>nomatch z)⟩
   exact⟨H1,_,_,I1,t1,rm1,d1,h⟩
  ·rename_i ks es q;obtain⟨H1,I1,t1,rm1,d1⟩:=cT (o:=.dk ks es) I rm q ⟨(λ_ _ z=>nomatch z),(λ_ z=>nomatch z)⟩
   exact⟨H1,_,_,I1,t1,rm1,d1,h⟩
  ·rename_i ks es q;obtain⟨H1,I1,t1,rm1,d1⟩:=cT (o:=.dt ks es) I rm q ⟨(λ_ _ z=>nomatch z),(λ_ z=>nomatch z)⟩
   exact⟨H1,_,_,I1,t1,rm1,d1,h⟩
  ·rename_i i C ns es q;obtain⟨H1,I1,t1,rm1,d1⟩:=cT (o:=.ins i C ns es) I rm q ⟨(λ_ _ z=>nomatch z),(λ_ z=>nomatch z)⟩
   obtain⟨a',vs,ob,dx',e',he,hl,dl⟩:=d1;cases e';obtain⟨H2,M2,r,I2,t2,rm2,dl2,q2⟩:=dO I1 rm1 dl h;refine⟨H2,M2,.obj i C ns r,I2,t1.trans t2,rm2,?_,q2⟩;exact⟨a,vs,ob,dx',rfl,t2.g _ _ _ he,hl,dl2⟩
  ·exact h.elim
 ·exact h.elim
end L2
namespace L2
open PySem PySem.Spec PySem.Calls PyProof.Rows
theorem SqL.new{K:PySem.W.Frag}(h:SqL K H p ws)(hn:H a=none):SqL K (upd H a o) p ws:=by
 rcases h with (h|⟨ob,h⟩)|h
 ·exact .inl (.inl (by rw[ad (au h hn)];exact h))
 ·exact .inl (.inr ⟨ob,by rw[ad (au h hn)];exact h⟩)
 ·exact .inr h
section
variable {X:Cx}{D:Addr}
end
end L2
namespace L2
open PySem PySem.Spec PyProof.Rows
section
variable {X:Cx}
theorem gc:∀{xs ys:List D},cG xs ys=true->xs.length=ys.length
 |[],[],_=>rfl
 |[],_::_,h=>by simp[cG]at h
 |_::_,[],h=>by simp[cG]at h
 |x::xs,y::ys,h=>by
  simp only[cG,Bool.and_eq_true]at h;rw[List.length_cons,List.length_cons,gc h.2]
theorem dE:∀{xs ys:List D},xs.length=ys.length->cG xs ys=(List.range xs.length).all λj=>eqD (xs.getD j .non) (ys.getD j .non)
 |[],[],_=>by simp[cG]
 |[],_::_,h=>by simp at h
 |_::_,[],h=>by simp at h
 |x::xs,y::ys,h=>by
  have ih:=dE (xs:=xs) (ys:=ys) (by simpa using h)
  simp only[cG,List.length_cons,List.range_succ_eq_map,List.all_cons,List.all_map,ih];rfl
theorem pi{xs ys:List D}:cG xs ys=((List.range (min xs.length ys.length)).all (λj=>eqD (xs.getD j .non) (ys.getD j .non))&&(xs.length == ys.length)):=by
 by_cases h:xs.length=ys.length
 ·rw[dE h,h,Nat.min_self,beq_self_eq_true,Bool.and_true]
 ·have e1:(xs.length == ys.length)=false:=beq_eq_false_iff_ne.mpr h;rw[e1,Bool.and_false];cases q:cG xs ys with
  |false=>rfl
  |true=>exact absurd (gc q) h
theorem mo{K:PySem.W.Frag}(I:Inv X pins σ H s)(hK:K=X.K):∀(n:Nat) {x y:D}{v:V},plN n x=true->plN n y=true->Den K H x v->Den K H y v->x=y:=by
 subst hK;have lists:∀(n:Nat),(∀{x y:D}{v:V},plN n x=true->plN n y=true->Den X.K H x v->Den X.K H y v->x=y)->∀{xs ys:List D}{vs:List V},xs.all (plN n)=true->ys.all (plN n)=true->DenL X.K H xs vs->DenL X.K H ys vs->xs=ys:=by
  intro n ih xs
  induction xs with
  |nil=>
   intro ys vs _ _ h1 h2;cases (show vs=[] from h1);cases ys with
   |nil=>rfl
   |cons y ys=>obtain⟨_,_,e,_⟩:=h2;cases e
  |cons x xs iht=>
   intro ys vs p1 p2 h1 h2;obtain⟨v,r,rfl,d1,l1⟩:=h1;cases ys with
   |nil=>cases (show v::r=[] from h2)
   |cons y ys=>
    obtain⟨v',r',e,d2,l2⟩:=h2;cases e;simp only[List.all_cons,Bool.and_eq_true]at p1 p2;rw[ih p1.1 p2.1 d1 d2,iht p1.2 p2.2 l1 l2]
 have clash:∀{p:Addr}{vs ws:List V},SqT X.K H p vs->SqF X.K H p ws->False:=λ{p vs ws} h1 h2=>by
  obtain⟨its,_,t1,_⟩:=I.tuple h1;obtain⟨z,its2,n2,_,_,e2⟩:=I.rdL h2.rd;obtain⟨o,e1,c1,_⟩:=(show s.heap.IsTuple p its.toArray from t1);rw[e2]at e1;cases e1;injection c1 with z;exact absurd z (by decide)
 intro n
 induction n with
 |zero=>
  intro x y v p1 p2 d1 d2;cases x with
  |non=>
   cases (show v=.non from d1);cases y with
   |non=>rfl
   |bl b=>cases (show V.non=.bl b from d2)
   |int b=>cases (show V.non=.int b from d2)
   |str b=>cases (show V.non=.str b from d2)
   |tup es=>cases p2
   |rol es=>cases p2
   |ref a=>cases p2
   |obj _ _ _ _=>cases p2
   |dik _ _=>cases p2
   |dit _ _=>cases p2
  |bl a=>
   cases (show v=.bl a from d1);cases y with
   |non=>cases (show V.bl a=.non from d2)
   |bl b=>cases (show V.bl a=.bl b from d2);rfl
   |int b=>cases (show V.bl a=.int b from d2)
   |str b=>cases (show V.bl a=.str b from d2)
   |tup es=>cases p2
   |rol es=>cases p2
   |ref a=>cases p2
   |obj _ _ _ _=>cases p2
   |dik _ _=>cases p2
   |dit _ _=>cases p2
  |int a=>
   cases (show v=.int a from d1);cases y with
   |non=>cases (show V.int a=.non from d2)
   |bl b=>cases (show V.int a=.bl b from d2)
   |int b=>cases (show V.int a=.int b from d2);rfl
   |str b=>cases (show V.int a=.str b from d2)
   |tup es=>cases p2
   |rol es=>cases p2
   |ref a=>cases p2
   |obj _ _ _ _=>cases p2
   |dik _ _=>cases p2
   |dit _ _=>cases p2
  |str a=>
   cases (show v=.str a from d1);cases y with
   |non=>cases (show V.str a=.non from d2)
   |bl b=>cases (show V.str a=.bl b from d2)
   |int b=>cases (show V.str a=.int b from d2)
   |str b=>cases (show V.str a=.str b from d2);rfl
   |tup es=>cases p2
   |rol es=>cases p2
   |ref a=>cases p2
   |obj _ _ _ _=>cases p2
   |dik _ _=>cases p2
   |dit _ _=>cases p2
  |tup es=>cases p1
  |rol es=>cases p1
  |ref a=>cases p1
  |obj _ _ _ _=>cases p1
  |dik _ _=>cases p1
  |dit _ _=>cases p1
 |succ n ih=>
  intro x y v p1 p2 d1 d2;cases x with
  |non=>
   cases (show v=.non from d1);cases y with
   |non=>rfl
   |bl b=>cases (show V.non=.bl b from d2)
   |int b=>cases (show V.non=.int b from d2)
   |str b=>cases (show V.non=.str b from d2)
   |tup es=>obtain⟨p,vs,e,_⟩:=d2;cases e
   |rol es=>obtain⟨p,vs,e,_⟩:=d2;cases e
   |ref a=>cases p2
   |obj _ _ _ _=>cases p2
   |dik _ _=>cases p2
   |dit _ _=>cases p2
  |bl a=>
   cases (show v=.bl a from d1);cases y with
   |non=>cases (show V.bl a=.non from d2)
   |bl b=>cases (show V.bl a=.bl b from d2);rfl
   |int b=>cases (show V.bl a=.int b from d2)
   |str b=>cases (show V.bl a=.str b from d2)
   |tup es=>obtain⟨p,vs,e,_⟩:=d2;cases e
   |rol es=>obtain⟨p,vs,e,_⟩:=d2;cases e
   |ref a=>cases p2
   |obj _ _ _ _=>cases p2
   |dik _ _=>cases p2
   |dit _ _=>cases p2
  |int a=>
   cases (show v=.int a from d1);cases y with
   |non=>cases (show V.int a=.non from d2)
   |bl b=>cases (show V.int a=.bl b from d2)
   |int b=>cases (show V.int a=.int b from d2);rfl
   |str b=>cases (show V.int a=.str b from d2)
   |tup es=>obtain⟨p,vs,e,_⟩:=d2;cases e
   |rol es=>obtain⟨p,vs,e,_⟩:=d2;cases e
   |ref a=>cases p2
   |obj _ _ _ _=>cases p2
   |dik _ _=>cases p2
   |dit _ _=>cases p2
  |str a=>
   cases (show v=.str a from d1);cases y with
   |non=>cases (show V.str a=.non from d2)
   |bl b=>cases (show V.str a=.bl b from d2)
   |int b=>cases (show V.str a=.int b from d2)
   |str b=>cases (show V.str a=.str b from d2);rfl
   |tup es=>obtain⟨p,vs,e,_⟩:=d2;cases e
   |rol es=>obtain⟨p,vs,e,_⟩:=d2;cases e
   |ref a=>cases p2
   |obj _ _ _ _=>cases p2
   |dik _ _=>cases p2
   |dit _ _=>cases p2
  |tup ds=>
   obtain⟨p,vs,rfl,q1,l1⟩:=d1;cases y with
   |tup es=>
    obtain⟨p',vs',e,q2,l2⟩:=d2;cases e;have e:vs=vs':=by
     obtain⟨its,r1,t1,_⟩:=I.tuple q1;obtain⟨its2,r2,t2,_⟩:=I.tuple q2;obtain⟨o1,e1,c1,n1,f1⟩:=(show s.heap.IsTuple p its.toArray from t1);obtain⟨o2,e2,c2,n2,f2⟩:=(show s.heap.IsTuple p its2.toArray from t2);rw[e1]at e2;cases e2;rw[f1]at f2;have:its=its2:=by injection f2 with z;simpa using z
     subst this;exact r1.inj r2
    subst e;rw[lists n ih (by simpa [plN] using p1) (by simpa [plN] using p2) l1 l2]
   |rol es=>obtain⟨p',vs',e,q2,l2⟩:=d2;cases e;exact (clash q1 q2).elim
   |non=>cases (show V.ref p=.non from d2)
   |bl b=>cases (show V.ref p=.bl b from d2)
   |int b=>cases (show V.ref p=.int b from d2)
   |str b=>cases (show V.ref p=.str b from d2)
   |ref a=>cases p2
   |obj _ _ _ _=>cases p2
   |dik _ _=>cases p2
   |dit _ _=>cases p2
  |rol ds=>
   obtain⟨p,vs,rfl,q1,l1⟩:=d1;cases y with
   |rol es=>
    obtain⟨p',vs',e,q2,l2⟩:=d2;cases e;have e:vs=vs':=by
     obtain⟨_,its,n1,r1,_,e1⟩:=I.rdL q1.rd;obtain⟨_,its2,n2,r2,_,e2⟩:=I.rdL q2.rd;rw[e1]at e2;have:its=its2:=by
      have z:=Option.some.inj e2;injection z with z1 z2 z3 z4
      injection z3 with z5 z6
      simpa using z5
     subst this;exact r1.inj r2
    subst e;rw[lists n ih (by simpa [plN] using p1) (by simpa [plN] using p2) l1 l2]
   |tup es=>obtain⟨p',vs',e,q2,l2⟩:=d2;cases e;exact (clash q2 q1).elim
   |non=>cases (show V.ref p=.non from d2)
   |bl b=>cases (show V.ref p=.bl b from d2)
   |int b=>cases (show V.ref p=.int b from d2)
   |str b=>cases (show V.ref p=.str b from d2)
   |ref a=>cases p2
   |obj _ _ _ _=>cases p2
   |dik _ _=>cases p2
   |dit _ _=>cases p2
  |ref a=>cases p1
  |obj _ _ _ _=>cases p1
  |dik _ _=>cases p1
  |dit _ _=>cases p1
theorem kD:∀(n:Nat) {x:D},plN n x=true->eqD x x=true:=by
 have lists:∀(n:Nat),(∀{x:D},plN n x=true->eqD x x=true)->∀{xs:List D},xs.all (plN n)=true->cG xs xs=true:=by
  intro n ih xs
  induction xs with
  |nil=>intro _;rfl
  |cons x xs iht=>
   intro h;simp only[List.all_cons,Bool.and_eq_true]at h;simp only[cG,Bool.and_eq_true];exact⟨ih h.1,iht h.2⟩
 intro n
 induction n with
 |zero=>
  intro x h;cases x with
  |tup es=>cases h
  |rol es=>cases h
  |ref a=>cases h
  |obj _ _ _ _=>cases h
  |dik _ _=>cases h
  |dit _ _=>cases h
  |_=>simp[eqD]
 |succ n ih=>
  intro x h;cases x with
  |tup es=>simp only[eqD];exact lists n ih (by simpa [plN] using h)
  |rol es=>simp only[eqD];exact lists n ih (by simpa [plN] using h)
  |ref a=>cases h
  |obj _ _ _ _=>cases h
  |dik _ _=>cases h
  |dit _ _=>cases h
  |_=>simp[eqD]
theorem j9{K:PySem.W.Frag}(I:Inv X pins σ H s)(hK:K=X.K)(n:Nat)(p1:plN n x=true)(p2:plN n y=true)(d1:Den K H x v)(d2:Den K H y v):eqD x y=true:=by
 rw[mo I hK n p1 p2 d1 d2];exact kD n p2
theorem vb(a b:Bool):eqD (.bl a) (.bl b)=(a == b):=by simp[eqD]
theorem uX(a:Bool)(b:Int):eqD (.bl a) (.int b)=((if a then 1 else 0) == b):=by simp[eqD];rfl
theorem tj(a:Int)(b:Bool):eqD (.int a) (.bl b)=(a == (if b then 1 else 0)):=by simp[eqD];rfl
theorem uc(a b:Int):eqD (.int a) (.int b)=(a == b):=by simp[eqD];rfl
theorem uU(a b:Str):eqD (.str a) (.str b)=(a == b):=by simp[eqD];rfl
noncomputable abbrev Eq3(A:Around)(s:Shared)(v u:Value)(k:Bool):Prop:=SeqAt.RcAt A s v u k/\SeqAt.RcNeAt A s v u (!k)/\SeqAt.EqAt A s v u k
inductive Seen (s:Shared):D->Value->Prop where
 |non:Seen s .non .none
 |bl (b:Bool):Seen s (.bl b) (.bool b)
 |int (i:Int) (t:Tok):Seen s (.int i) (.int i t)
 |str (x:Str) (t:Tok):Seen s (.str x) (.str x t)
 |tup {ds:List D}{p:Addr}{its:List Value} (h:s.heap.IsTuple p its.toArray):Seen s (.tup ds) (.ref p)
 |rol {ds:List D}{p:Addr}{its:List Value} (h:s.heap.IsList p its.toArray):Seen s (.rol ds) (.ref p)
theorem fE{X:Cx}(I:Inv X pins σ H s)(p:plN n x=true)(d:Den X.K H x v)(r:RelV v v2):Seen s x v2:=by
 cases x with
 |non=>cases (show v=.non from d);cases r;exact .non
 |bl b=>cases (show v=.bl b from d);cases r;exact .bl b
 |int i=>cases (show v=.int i from d);obtain⟨t,rfl⟩:=r;exact .int i t
 |str i=>cases (show v=.str i from d);obtain⟨t,rfl⟩:=r;exact .str i t
 |tup ds=>
  obtain⟨q,vs,rfl,sq,_⟩:=d;cases r;obtain⟨its,_,t,_⟩:=I.tuple sq;exact .tup (its:=its) t
 |rol ds=>
  obtain⟨q,vs,rfl,sq,_⟩:=d;cases r;obtain⟨its,_,t,_⟩:=I.list sq.sq;exact .rol (its:=its) t.isList
 |ref a=>simp[plN]at p
 |obj _ _ _ _=>simp[plN]at p
 |dik _ _=>simp[plN]at p
 |dit _ _=>simp[plN]at p
theorem pb{A:Around}(hx:Seen s x v)(hy:Seen s y u)(hu:A.units < cLine)(seq:∀ds es,(x=.tup ds/\y=.tup es)\/(x=.rol ds/\y=.rol es)->Eq3 A s v u (eqD x y)):Eq3 A s v u (eqD x y):=by
 cases hx with
 |non=>
  cases hy with
  |non=>exact⟨.none_none,.none_none,.same _⟩
  |bl b=>rw[show eqD (.non) (.bl b)=false by simp[eqD]];exact⟨.none_bool b,.none_bool b,.none_bool b⟩
  |int b tb=>rw[show eqD (.non) (.int b)=false by simp[eqD]];exact⟨.none_int b tb,.none_int b tb,.none_int b tb⟩
  |str b tb=>rw[show eqD (.non) (.str b)=false by simp[eqD]];exact⟨.none_str b tb,.none_str b tb,.none_str b tb⟩
  |@tup es p2 its2 h2=>rw[show eqD (.non) (.tup es)=false by simp[eqD]];exact⟨.none_tuple h2 hu,.none_tuple h2 hu,.none_tuple h2 hu⟩
  |@rol es p2 its2 h2=>rw[show eqD (.non) (.rol es)=false by simp[eqD]];exact⟨.none_list h2 hu,.none_list h2 hu,.none_list h2 hu⟩
 |bl a=>
  cases hy with
  |non=>rw[show eqD (.bl a) (.non)=false by simp[eqD]];exact⟨.bool_none a,.bool_none a,.bool_none a⟩
  |bl b=>rw[vb];exact⟨.bool_bool a b,.bool_bool a b,.bool_bool a b⟩
  |int b tb=>rw[uX];exact⟨.bool_int a b tb,.bool_int a b tb,.bool_int a b tb⟩
  |str b tb=>rw[show eqD (.bl a) (.str b)=false by simp[eqD]];exact⟨.bool_str a b tb,.bool_str a b tb,.bool_str a b tb⟩
  |@tup es p2 its2 h2=>rw[show eqD (.bl a) (.tup es)=false by simp[eqD]];exact⟨.bool_tuple a h2 hu,.bool_tuple a h2 hu,.bool_tuple a h2 hu⟩
  |@rol es p2 its2 h2=>rw[show eqD (.bl a) (.rol es)=false by simp[eqD]];exact⟨.bool_list a h2 hu,.bool_list a h2 hu,.bool_list a h2 hu⟩
 |int a ta=>
  cases hy with
  |non=>rw[show eqD (.int a) (.non)=false by simp[eqD]];exact⟨.int_none a ta,.int_none a ta,.int_none a ta⟩
  |bl b=>rw[tj];exact⟨.int_bool a ta b,.int_bool a ta b,.int_bool a ta b⟩
  |int b tb=>rw[uc];exact⟨.int_int a ta b tb,.int_int a ta b tb,.int_int a ta b tb⟩
  |str b tb=>rw[show eqD (.int a) (.str b)=false by simp[eqD]];exact⟨.int_str a ta b tb,.int_str a ta b tb,.int_str a ta b tb⟩
  |@tup es p2 its2 h2=>rw[show eqD (.int a) (.tup es)=false by simp[eqD]];exact⟨.int_tuple a ta h2 hu,.int_tuple a ta h2 hu,.int_tuple a ta h2 hu⟩
  |@rol es p2 its2 h2=>rw[show eqD (.int a) (.rol es)=false by simp[eqD]];exact⟨.int_list a ta h2 hu,.int_list a ta h2 hu,.int_list a ta h2 hu⟩
 |str a ta=>
  cases hy with
  |non=>rw[show eqD (.str a) (.non)=false by simp[eqD]];exact⟨.str_none a ta,.str_none a ta,.str_none a ta⟩
  |bl b=>rw[show eqD (.str a) (.bl b)=false by simp[eqD]];exact⟨.str_bool a ta b,.str_bool a ta b,.str_bool a ta b⟩
  |int b tb=>rw[show eqD (.str a) (.int b)=false by simp[eqD]];exact⟨.str_int a ta b tb,.str_int a ta b tb,.str_int a ta b tb⟩
  |str b tb=>rw[uU];exact⟨.str_str a ta b tb,.str_str a ta b tb,.str_str a ta b tb⟩
  |@tup es p2 its2 h2=>rw[show eqD (.str a) (.tup es)=false by simp[eqD]];exact⟨.str_tuple a ta h2 hu,.str_tuple a ta h2 hu,.str_tuple a ta h2 hu⟩
  |@rol es p2 its2 h2=>rw[show eqD (.str a) (.rol es)=false by simp[eqD]];exact⟨.str_list a ta h2 hu,.str_list a ta h2 hu,.str_list a ta h2 hu⟩
 |@tup ds p its h=>
  cases hy with
  |non=>rw[show eqD (.tup ds) (.non)=false by simp[eqD]];exact⟨.tuple_none h hu,.tuple_none h hu,.tuple_none h hu⟩
  |bl b=>rw[show eqD (.tup ds) (.bl b)=false by simp[eqD]];exact⟨.tuple_bool b h hu,.tuple_bool b h hu,.tuple_bool b h hu⟩
  |int b tb=>rw[show eqD (.tup ds) (.int b)=false by simp[eqD]];exact⟨.tuple_int b tb h hu,.tuple_int b tb h hu,.tuple_int b tb h hu⟩
  |str b tb=>rw[show eqD (.tup ds) (.str b)=false by simp[eqD]];exact⟨.tuple_str b tb h hu,.tuple_str b tb h hu,.tuple_str b tb h hu⟩
  |@tup es p2 its2 h2=>exact seq ds es (.inl ⟨rfl,rfl⟩)
  |@rol es p2 its2 h2=>rw[show eqD (.tup ds) (.rol es)=false by simp[eqD]];exact⟨.tuple_list h h2 hu,.tuple_list h h2 hu,.tuple_list h h2 hu⟩
 |@rol ds p its h=>
  cases hy with
  |non=>rw[show eqD (.rol ds) (.non)=false by simp[eqD]];exact⟨.list_none h hu,.list_none h hu,.list_none h hu⟩
  |bl b=>rw[show eqD (.rol ds) (.bl b)=false by simp[eqD]];exact⟨.list_bool b h hu,.list_bool b h hu,.list_bool b h hu⟩
  |int b tb=>rw[show eqD (.rol ds) (.int b)=false by simp[eqD]];exact⟨.list_int b tb h hu,.list_int b tb h hu,.list_int b tb h hu⟩
  |str b tb=>rw[show eqD (.rol ds) (.str b)=false by simp[eqD]];exact⟨.list_str b tb h hu,.list_str b tb h hu,.list_str b tb h hu⟩
  |@tup es p2 its2 h2=>rw[show eqD (.rol ds) (.tup es)=false by simp[eqD]];exact⟨.list_tuple h h2 hu,.list_tuple h h2 hu,.list_tuple h h2 hu⟩
  |@rol es p2 its2 h2=>exact seq ds es (.inr ⟨rfl,rfl⟩)
theorem wM{K:PySem.W.Frag}(I:Inv X pins σ H s)(hK:K=X.K):∀(n:Nat) {A:Around}{x y:D}{v u:V}{v2 u2:Value},plN n x=true->plN n y=true->Den K H x v->Den K H y u->RelV v v2->RelV u u2->A.units+n < cLine->
  SeqAt.RcAt A s v2 u2 (eqD x y)/\SeqAt.RcNeAt A s v2 u2 (!eqD x y)/\SeqAt.EqAt A s v2 u2 (eqD x y):=by
 subst hK;have items:∀(n:Nat),(∀{A:Around}{x y:D}{v u:V}{v2 u2:Value},plN n x=true->plN n y=true->Den X.K H x v->Den X.K H y u->RelV v v2->RelV u u2->A.units+n < cLine->
   SeqAt.RcAt A s v2 u2 (eqD x y)/\SeqAt.RcNeAt A s v2 u2 (!eqD x y)/\SeqAt.EqAt A s v2 u2 (eqD x y))->∀{A:Around}{xs ys:List D}{vs us:List V}{its its2:List Value},xs.all (plN n)=true->ys.all (plN n)=true->DenL X.K H xs vs->DenL X.K H ys us->Vals vs its->Vals us its2->A.units+(n+1) < cLine->
   ∀j (h1:j < its.toArray.size)(h2:j < its2.toArray.size),SeqAt.EqAt A.in1 s its.toArray[j] its2.toArray[j] (eqD (xs.getD j .non) (ys.getD j .non)):=by
  intro n ih A xs ys vs us its its2 p1 p2 l1 l2 r1 r2 hu j h1 h2;have h1:j < its.length:=by simpa using h1
  have h2:j < its2.length:=by simpa using h2
  have hx:j < xs.length:=by rw[l1.length,r1.length];exact h1
  have hy:j < ys.length:=by rw[l2.length,r2.length];exact h2
  obtain⟨v,e1,d1⟩:=l1.get (i:=j) (d:=xs[j]) (by simp[hx])
  obtain⟨u,e2,d2⟩:=l2.get (i:=j) (d:=ys[j]) (by simp[hy])
  obtain⟨v2,e3,rv⟩:=r1.get e1;obtain⟨u2,e4,ru⟩:=r2.get e2;have f1:its.toArray[j]=v2:=by
   have:=e3;rw[List.getElem?_eq_getElem h1]at this;simpa using this
  have f2:its2.toArray[j]=u2:=by
   have:=e4;rw[List.getElem?_eq_getElem h2]at this;simpa using this
  rw[f1,f2];have g1:xs.getD j .non=xs[j]:=by simp[List.getD,hx]
  have g2:ys.getD j .non=ys[j]:=by simp[List.getD,hy]
  rw[g1,g2];exact (ih (List.all_eq_true.mp p1 _ (List.getElem_mem hx)) (List.all_eq_true.mp p2 _ (List.getElem_mem hy)) d1 d2 rv ru (by show A.units+1+n < cLine;omega)).2.2
 intro n
 induction n with
 |zero=>
  intro A x y v u v2 u2 p1 p2 d1 d2 r1 r2 hu;refine pb (fE I p1 d1 r1) (fE I p2 d2 r2) (by omega) λds es z=>?_
  rcases z with ⟨rfl,rfl⟩|⟨rfl,rfl⟩<;>cases p1
 |succ n ih=>
  intro A x y v u v2 u2 p1 p2 d1 d2 r1 r2 hu;refine pb (fE I p1 d1 r1) (fE I p2 d2 r2) (by omega) λds es z=>?_
  rcases z with ⟨rfl,rfl⟩|⟨rfl,rfl⟩
  ·obtain⟨p,vs,rfl,q1,l1⟩:=id d1;obtain⟨p',us,rfl,q2,l2⟩:=id d2;cases r1;cases r2;obtain⟨its,v1,t1,_⟩:=I.tuple q1;obtain⟨its2,v2,t2,_⟩:=I.tuple q2;have he:=items n ih (A:=A) (by simpa [plN] using p1) (by simpa [plN] using p2) l1 l2 v1 v2 hu
   have ee:eqD (.tup ds) (.tup es)=((List.range (min its.toArray.size its2.toArray.size)).all (λj=>eqD (ds.getD j .non) (es.getD j .non))&&its.toArray.size == its2.toArray.size):=by
    simp only[eqD];rw[pi,l1.length,v1.length,l2.length,v2.length];rfl
   have rc:=SeqAt.RcAt.tuples (A:=A) t1 t2 (by omega) he
   rw[<-ee]at rc;have rn:=SeqAt.RcNeAt.tuples (A:=A) t1 t2 (by omega) he
   rw[<-ee]at rn;refine⟨rc,rn,?_⟩;by_cases hp:p=p'
   ·subst hp;rw[j9 I rfl (n+1) p1 p2 d1 d2];exact .same _
   ·exact .of_refs hp rc
  ·obtain⟨p,vs,rfl,q1,l1⟩:=id d1;obtain⟨p',us,rfl,q2,l2⟩:=id d2;cases r1;cases r2;obtain⟨its,v1,t1,_⟩:=I.list q1.sq;obtain⟨its2,v2,t2,_⟩:=I.list q2.sq;have he:=items n ih (A:=A) (by simpa [plN] using p1) (by simpa [plN] using p2) l1 l2 v1 v2 hu
   have rcn:SeqAt.RcAt A s (.ref p) (.ref p') (eqD (.rol ds) (.rol es))/\SeqAt.RcNeAt A s (.ref p) (.ref p') (!eqD (.rol ds) (.rol es)):=by
    by_cases hl:its.toArray.size=its2.toArray.size
    ·have ee:eqD (.rol ds) (.rol es)=(List.range its.toArray.size).all λj=>eqD (ds.getD j .non) (es.getD j .non):=by
      have e1:ds.length=es.length:=by rw[l1.length,v1.length,l2.length,v2.length];simpa using hl
      simp only[eqD];rw[dE e1,l1.length,v1.length];rfl
     rw[ee];exact⟨.lists t1.isList t2.isList hl (by omega) he,.lists t1.isList t2.isList hl (by omega) he⟩
    ·have ee:eqD (.rol ds) (.rol es)=false:=by
      simp only[eqD];cases q:cG ds es with
      |false=>rfl
      |true=>
       have:=gc q;rw[l1.length,v1.length,l2.length,v2.length]at this;exact absurd (by simpa using this) hl
     rw[ee];exact⟨.lists_lengths t1.isList t2.isList (by simpa using hl) (by omega),.lists_lengths t1.isList t2.isList (by simpa using hl) (by omega)⟩
   refine⟨rcn.1,rcn.2,?_⟩;by_cases hp:p=p'
   ·subst hp;rw[j9 I rfl (n+1) p1 p2 d1 d2];exact .same _
   ·exact .of_refs hp rcn.1
end
end L2
namespace L2
open PySem PySem.Spec PyProof.Rows
noncomputable def VO(X:Cx)(f:Value->Value->Sem Value)(r:D->D->MH->VK3->Prop):Prop:=
 ∀(pins:List (Addr×Obj)) (s:Shared)(σ:St)(H:Hp)(x y:D)(v u:V)(v2 u2:Value)(M:MH)(Q:VK3)(Q2:VK),Inv X pins σ H s->RelV v v2->RelV u u2->Den X.K H x v->Den X.K H y u->RelM X.K M H->r x y M Q->Back X.K H Q Q2->
  wpAny (model X.prog X.w) X.A (f v2 u2) (EP X pins σ Q2) X.xe s
noncomputable def VU(X:Cx)(f:Value->Sem Value)(r:D->MH->VK3->Prop):Prop:=
 ∀(pins:List (Addr×Obj)) (s:Shared)(σ:St)(H:Hp)(x:D)(v:V)(v2:Value)(M:MH)(Q:VK3)(Q2:VK),Inv X pins σ H s->RelV v v2->Den X.K H x v->RelM X.K M H->r x M Q->Back X.K H Q Q2->
  wpAny (model X.prog X.w) X.A (f v2) (EP X pins σ Q2) X.xe s
noncomputable def VC(X:Cx)(f:Value)(r:List D->MH->VK3->Prop):Prop:=
 ∀(pins:List (Addr×Obj)) (s:Shared)(σ:St)(H:Hp)(xs:List D)(vs:List V)(us:List Value)(M:MH)(Q:VK3)(Q2:VK),Inv X pins σ H s->Vals vs us->DenL X.K H xs vs->RelM X.K M H->r xs M Q->Back X.K H Q Q2->
  wpAny (model X.prog X.w) X.A (call f us) (EP X pins σ Q2) X.xe s
section
variable {X:Cx}
theorem VO.of3(h:Op3 X f r):VO X f r:=by
 obtain⟨r2,h2,hl⟩:=h;exact λpins s σ H x y v u v2 u2 M Q Q2 I rv ru dx dy rm q back=>h2 pins s σ H v u v2 u2 Q2 I rv ru (hl H x y v u M Q Q2 dx dy rm q back)
theorem VU.of3(h:Un3 X f r):VU X f r:=by
 obtain⟨r2,h2,hl⟩:=h;exact λpins s σ H x v v2 M Q Q2 I rv dx rm q back=>h2 pins s σ H v v2 Q2 I rv (hl H x v M Q Q2 dx rm q back)
theorem VC.of3(h:si X f r):VC X f r:=by
 obtain⟨r2,h2,hl⟩:=h;exact λpins s σ H xs vs us M Q Q2 I rv dx rm q back=>h2 pins s σ H vs us Q2 I rv (hl H xs vs M Q Q2 dx rm q back)
theorem VO.imp(h:VO X f r)(g:∀x y M Q,r' x y M Q->r x y M Q):VO X f r':=
 λpins s σ H x y v u v2 u2 M Q Q2 I rv ru dx dy rm q back=>h pins s σ H x y v u v2 u2 M Q Q2 I rv ru dx dy rm (g x y M Q q) back
theorem VU.imp(h:VU X f r)(g:∀x M Q,r' x M Q->r x M Q):VU X f r':=
 λpins s σ H x v v2 M Q Q2 I rv dx rm q back=>h pins s σ H x v v2 M Q Q2 I rv dx rm (g x M Q q) back
theorem VC.imp(h:VC X f r)(g:∀x M Q,r' x M Q->r x M Q):VC X f r':=
 λpins s σ H x v v2 M Q Q2 I rv dx rm q back=>h pins s σ H x v v2 M Q Q2 I rv dx rm (g x M Q q) back
theorem eV(h:rI2 g x y M Q):jq g x y M Q:=by
 unfold rI2 at h;split at h
 ·exact⟨_,_,rfl,rfl,h⟩
 ·exact h.elim
theorem jB(h:rII C g x y M Q):rI3 C g x y M Q:=by
 unfold rII at h;split at h
 ·exact⟨_,_,rfl,rfl,h⟩
 ·exact h.elim
theorem qM{s:Shared}{ws:List Value}(ht:IsTup s.heap t #[])(hb:IsTup s.heap b ws.toArray)(h:Q (.ref b) s):wpAny (model prog w) A (binaryOp .Add (.ref t) (.ref b)) Q E s:=by
 obtain⟨⟨cls,dd,data,sl⟩,ho,hc,n,hd⟩:=id ht;obtain⟨⟨cls2,dd2,data2,sl2⟩,ho2,hc2,n2,hd2⟩:=id hb;simp only at hc hd hc2 hd2;subst hc hd hc2 hd2;exact concat_meets ⟨_,ho,rfl⟩ ⟨_,ho2,rfl⟩ noFill_tuple_add seq_tuple_add PySem.F.slot_tuple_add PySem.F.entry_tuple_add (PySem.F.args_tuple_add_2 _ _) (tuple_addW0 t b #[] ws.toArray n n2 dd dd2 sl sl2 rfl) ⟨ho,ho2,h⟩
theorem ms{a b:List D}(I:Inv X pins σ H s)(rv:RelV v v2)(ru:RelV u u2)(dx:Den X.K H (.tup a) v)(dy:Den X.K H (.tup b) u)(rm:RelM X.K M H)
  (q:a.length+b.length<=sizeLine/\Q (.tup (a++b)) M) (back:Back X.K H Q Q2):wpAny (model X.prog X.w) X.A (binaryOp .Add v2 u2) (EP X pins σ Q2) X.xe s:=by
 obtain⟨p1,vs,rfl,sq1,dl1⟩:=dx;obtain⟨p2,us,rfl,sq2,dl2⟩:=dy;obtain⟨h2,q⟩:=q;by_cases h1:a=[]
 ·subst h1;cases (show vs=[] from dl1);cases rv;cases ru;obtain⟨its,r1,p1',_⟩:=I.tuple sq1;obtain⟨its2,r2,p2',_⟩:=I.tuple sq2;cases r1;exact qM p1' p2' ⟨.ref p2,H,I,rfl,back _ _ (.tup b) _ ⟨p2,us,rfl,sq2,dl2⟩ rm (.refl _) q⟩
 refine rK pins s σ H _ _ v2 u2 Q2 I rv ru ⟨p1,p2,vs,us,rfl,rfl,sq1,sq2,λz=>?_,by rw[<-dl1.length,<-dl2.length];exact h2,λz=>?_,λ_ p hp=>?_⟩
 ·have:=dl1.length;rw[z]at this;cases a with
  |nil=>exact h1 rfl
  |cons _ _=>cases this
 ·have hb:b=[]:=List.length_eq_zero_iff.mp (by rw[dl2.length,z];rfl)
  subst hb;rw[List.append_nil]at q;exact back _ _ (.tup a) _ ⟨p1,vs,rfl,sq1,dl1⟩ rm (.refl _) q
 ·exact back _ _ (.tup (a++b)) _ ⟨p,_,rfl,.of ag,(dl1.append dl2).mono (.new hp)⟩ (rm.grow hp) (.new hp) q
theorem jR(a:Array α):∀(k:Nat)(b:Array α),((List.replicate k a).foldl (·++·) b).size=b.size+k * a.size
 |0,b=>by simp
 |k+1,b=>by
  rw[List.replicate_succ,List.foldl_cons,jR a k,Array.size_append,Nat.succ_mul];omega
theorem nY{z:Str}(n0:0<=n)(n1:n<=100000)(hz:z.length<=10)
  (h:∀t' tk,Q (.str (fX z n) t') {s with toks:=tk}):wpAny (model prog w) A (binaryOp .Mult (.str z t) (.int n u)) Q E s:=by
 have e1:decide (n < -(2 ^ 63:Int))=false:=decide_eq_false (by omega)
 have e2:decide (n>=2 ^ 63)=false:=decide_eq_false (by omega)
 refine PySem.P.mul_str (by rw[e1,e2];rfl) (λh1 h2=>?_) (λh1 h2=>?_) ?_
 ·have:(2 ^ 63 - 1) / n>=10:=by
   rw[ge_iff_le,Int.le_ediv_iff_mul_le (by omega)]
   omega
  omega
 ·have hl:z.length * n.toNat<=10 * 100000:=Nat.mul_le_mul hz (by omega)
  unfold Builtin.Str.tooLong;exact decide_eq_false (by rw[sizeLine_eq];omega)
 ·unfold fX at h;split
  ·rename_i hn;rw[if_pos hn]at h;exact⟨by decide,h _ _⟩
  ·rename_i hn;rw[if_neg hn]at h;split
   ·rename_i hb;rw[if_pos hb]at h;exact h _ _
   ·rename_i hb;rw[if_neg hb]at h;refine⟨?_,h _ _⟩;show ((List.replicate n.toNat z.cps).foldl (·++·) #[]).size<=sizeLine;rw[jR];have hl:n.toNat * z.cps.size<=100000 * 10:=Nat.mul_le_mul (by omega) hz
    rw[sizeLine_eq];simp;omega
theorem tK(op:Operator):VO X (binaryOp op) (dU op):=by
 cases op with
 |Add=>
  intro pins s σ H x y v u v2 u2 M Q Q2 I rv ru dx dy rm q back;have q':lP x y M Q:=q;clear q;unfold lP at q';split at q'
  ·exact VO.of3 v5 pins s σ H _ _ v u v2 u2 M Q Q2 I rv ru dx dy rm ⟨_,_,rfl,rfl,q'⟩ back
  ·rename_i a b;cases (show v=.str a from dx);cases (show u=.str b from dy);exact k7 pins s σ H _ _ v2 u2 Q2 I rv ru ⟨a,b,rfl,rfl,q'.1,back _ _ _ _ bS rm (.refl _) q'.2⟩
  ·exact ms I rv ru dx dy rm q' back
  ·exact q'.elim
 |Sub=>exact (VO.of3 yY).imp λ_ _ _ _ h=>eV h
 |Mult=>
  intro pins s σ H x y v u v2 u2 M Q Q2 I rv ru dx dy rm q back;have q':ol x y M Q:=q;clear q;unfold ol at q';split at q'
  ·exact VO.of3 xq pins s σ H _ _ v u v2 u2 M Q Q2 I rv ru dx dy rm ⟨_,_,rfl,rfl,q'⟩ back
  ·rename_i z n;cases (show v=.str z from dx);cases (show u=.int n from dy);obtain⟨t,rfl⟩:=rv;obtain⟨t',rfl⟩:=ru;obtain⟨⟨n0,n1,hz⟩,q'⟩:=q';exact d5 I.tk <| nY n0 n1 hz λt2 tk _=>⟨.str (fX z n),H,I.tok _,⟨_,rfl⟩,back _ _ _ _ bS rm (.refl _) q'⟩
  ·exact q'.elim
 |FloorDiv=>exact (VO.of3 uK).imp λ_ _ _ _ h=>jB h
 |Mod=>exact (VO.of3 zd).imp λ_ _ _ _ h=>jB h
 |Pow=>exact (VO.of3 yV).imp λ_ _ _ _ h=>jB h
 |RShift=>exact (VO.of3 xh).imp λ_ _ _ _ h=>jB h
 |BitAnd=>exact (VO.of3 v3).imp λ_ _ _ _ h=>eV h
 |_=>exact λpins s σ H x y v u v2 u2 M Q Q2 I rv ru dx dy rm q back=>False.elim q
theorem tW:VU X (unaryOp .USub) rNeg:=(VU.of3 wO).imp λx M Q h=>by
 unfold rNeg at h;split at h
 ·exact⟨_,rfl,h⟩
 ·exact h.elim
theorem tM(fz:Bool):VO X (binaryOp .Add) (ba fz):=by
 intro pins s σ H x y v u v2 u2 M Q Q2 I rv ru dx dy rm q back;unfold ba at q;split at q
 next a b ea eb=>
  obtain⟨l,xs,rfl,hH,dl⟩:=bj rm ea dx;obtain⟨b',zs,rfl,hB,dl2⟩:=bj rm eb dy;cases rv;cases ru;obtain⟨z,its,n,r,hl,e⟩:=I.rdL hH;obtain⟨z2,its2,n2,r2,hl2,e2⟩:=I.rdL hB;have hlen:xs.length+zs.length<=sizeLine:=by
   have:=q.1;rw[List.length_append,dl.length,dl2.length]at this;exact this
  refine PySem.P.add_list e e2 ?_ (by rw[List.size_toArray,List.size_toArray];omega)
  have ea:its.toArray++its2.toArray=(its++its2).toArray:=by simp
  rw[ea];exact bH (I.lnew (t':=s.toks) (r.append r2) (by rw[List.length_append];omega)) I.fresh (dl.append dl2) rm (.refl _) q back
 next=>
  split at q
  ·exact ms I rv ru dx dy rm q back
  ·exact q.elim
theorem qE{K:PySem.W.Frag}(rm:RelM K M H)(dx:Den K H x v)(hp:pl (res M x)=true) :
  (∃a ds,x=.ref a/\M a=some (.lst ds)/\res M x=.rol ds)\/(res M x=x):=by
 cases x with
 |ref a=>
  cases e:M a with
  |none=>
   have:res M (.ref a)=.ref a:=by simp[res,af,e]
   rw[this]at hp;simp[plN]at hp
  |some o=>
   cases o with
   |lst ds=>exact .inl ⟨a,ds,rfl,e,by simp[res,af,e]⟩
   |_=>
    have:res M (.ref a)=.ref a:=by simp[res,af,e]
    rw[this]at hp;simp[plN]at hp
 |rol ds=>exact .inr rfl
 |_=>exact .inr rfl
theorem oV(I:Inv X pins σ H s)(rm:RelM X.K M H)(dx:Den X.K H x v)(hp:pl (res M x)=true) :
  ∃H',Inv X pins σ H' s/\TM X.K H H'/\Den X.K H' (res M x) v:=by
 rcases qE rm dx hp with ⟨a,ds,rfl,q,e⟩|e
 ·obtain⟨vs,e1,l⟩:=rm a _ q;obtain⟨o,I2⟩:=I.freeze e1;refine⟨_,I2,.freeze e1,?_⟩;rw[e];cases (show v=.ref a from dx);exact dL l e1
 ·rw[e];exact⟨H,I,.refl _,dx⟩
noncomputable def jA(K:PySem.W.Frag)(M:MH)(H:Hp):Prop:=∀a ds,M a=some (.lst ds)->∃vs,(H a=some (.lst vs)\/∃o,H a=some (.frz o (.lst vs)))/\DenL K H ds vs
theorem RelM.z{K:PySem.W.Frag}(rm:RelM K M H):jA K M H:=λa ds q=>by
 obtain⟨vs,e,l⟩:=rm a _ q;exact⟨vs,.inl e,l⟩
theorem xH(I:Inv X pins σ H s)(rz:jA X.K M H)(q:M a=some (.lst ds)) :
  ∃H',Inv X pins σ H' s/\TM X.K H H'/\jA X.K M H'/\∃vs,SqF X.K H' a vs/\DenL X.K H' ds vs/\DenL X.K H ds vs:=by
 obtain⟨vs,e|⟨o,e⟩,l⟩:=rz a ds q
 ·obtain⟨o,I2⟩:=I.freeze e;have t:TM X.K H (upd H a (.frz o (.lst vs))):=.freeze e;refine⟨_,I2,t,λb es qb=>?_,vs,.inl ⟨o,ag⟩,l.mono t,l⟩
  obtain⟨us,e2,l2⟩:=rz b es qb;by_cases hb:b=a
  ·subst hb;rw[q]at qb;cases qb;exact⟨vs,.inr ⟨o,ag⟩,l.mono t⟩
  ·refine⟨us,?_,l2.mono t⟩;rw[ad hb];exact e2
 ·exact⟨H,I,.refl _,rz,vs,.inl ⟨o,e⟩,l,l⟩
theorem xR(I:Inv X pins σ H s)(rz:jA X.K M H)(dx:Den X.K H x v) :
  ∃H',Inv X pins σ H' s/\TM X.K H H'/\jA X.K M H'/\Den X.K H' (res M x) v:=by
 cases x with
 |ref a=>
  cases e:M a with
  |none=>
   have:res M (.ref a)=.ref a:=by simp[res,af,e]
   rw[this];exact⟨H,I,.refl _,rz,dx⟩
  |some o=>
   cases o with
   |lst ds=>
    obtain⟨H',I2,t,rz2,vs,sq,l,_⟩:=xH I rz e;have:res M (.ref a)=.rol ds:=by simp[res,af,e]
    rw[this];exact⟨H',I2,t,rz2,a,vs,dx,sq,l⟩
   |_=>
    have:res M (.ref a)=.ref a:=by simp[res,af,e]
    rw[this];exact⟨H,I,.refl _,rz,dx⟩
 |rol ds=>exact⟨H,I,.refl _,rz,dx⟩
 |_=>exact⟨H,I,.refl _,rz,dx⟩
theorem pL:∀{ds:List D}{vs:List V}{H:Hp},Inv X pins σ H s->jA X.K M H->DenL X.K H ds vs->
  ∃H',Inv X pins σ H' s/\TM X.K H H'/\jA X.K M H'/\DenL X.K H' (ds.map (res M)) vs
 |[],vs,H,I,rz,dl=>⟨H,I,.refl _,rz,dl⟩
 |d::ds,vs,H,I,rz,dl=>by
  obtain⟨v,r,rfl,dv,dr⟩:=dl;obtain⟨H1,I1,t1,rz1,d1⟩:=xR I rz dv;obtain⟨H2,I2,t2,rz2,d2⟩:=pL I1 rz1 (dr.mono t1);exact⟨H2,I2,t1.trans t2,rz2,v,r,rfl,d1.mono t2,d2⟩
theorem sm(I:Inv X pins σ H s)(rz:jA X.K M H)(dx:Den X.K H x v) :
  ∃H',Inv X pins σ H' s/\TM X.K H H'/\jA X.K M H'/\Den X.K H' (rs M x) v:=by
 cases x with
 |ref a=>
  cases e:M a with
  |none=>
   have:rs M (.ref a)=.ref a:=by simp[rs,af,e]
   rw[this];exact⟨H,I,.refl _,rz,dx⟩
  |some o=>
   cases o with
   |lst ds=>
    have:rs M (.ref a)=.rol (if pls ds=true then ds else ds.map (res M)):=by simp[rs,af,e]
    rw[this];obtain⟨H',I2,t,rz2,vs,sq,l,_⟩:=xH I rz e;split
    ·exact⟨H',I2,t,rz2,a,vs,dx,sq,l⟩
    ·obtain⟨H3,I3,t3,rz3,l3⟩:=pL I2 rz2 l;exact⟨H3,I3,t.trans t3,rz3,a,vs,dx,t3.f _ _ sq,l3⟩
   |_=>
    have:rs M (.ref a)=.ref a:=by simp[rs,af,e]
    rw[this];exact⟨H,I,.refl _,rz,dx⟩
 |rol ds=>
  have:rs M (.rol ds)=.rol (if pls ds=true then ds else ds.map (res M)):=by simp[rs,af]
  rw[this];split
  ·exact⟨H,I,.refl _,rz,dx⟩
  ·obtain⟨p,vs,e,sq,l⟩:=dx;obtain⟨H3,I3,t3,rz3,l3⟩:=pL I rz l;exact⟨H3,I3,t3,rz3,p,vs,e,t3.f _ _ sq,l3⟩
 |_=>exact⟨H,I,.refl _,rz,dx⟩
theorem wZ(I:Inv X pins σ H s)(rm:RelM X.K M H)(dx:Den X.K H x v)(dy:Den X.K H y u) :
  ∃H',Inv X pins σ H' s/\Den X.K H' (rs M x) v/\Den X.K H' (rs M y) u:=by
 obtain⟨H1,I1,t1,rz1,d1⟩:=sm I rm.z dx;obtain⟨H2,I2,t2,rz2,d2⟩:=sm I1 rz1 (dy.mono t1);exact⟨H2,I2,d1.mono t2,d2⟩
theorem r8(hu:X.A.units+64 < cLine)(neg:Bool):VO X (compareOp (if neg=true then .NotEq else .Eq)) (dI neg):=by
 intro pins s σ H x y v u v2 u2 M Q Q2 I rv ru dx dy rm q back;obtain⟨h1,h2,q⟩:=q;obtain⟨H',I',d1,d2⟩:=wZ I rm dx dy;obtain⟨rc,rn,_⟩:=wM I' rfl 8 (A:=X.A) h1 h2 d1 d2 rv ru (by omega)
 have fin:=back _ _ _ _ (aP (K:=X.K) (H:=H)) rm (.refl _) q;cases neg with
 |true=>
  refine rn _ _ _ _ ⟨.bl _,H,I,rfl,?_⟩;rw[Bool.true_xor]at fin;exact fin
 |false=>
  refine rc _ _ _ _ ⟨.bl _,H,I,rfl,?_⟩;rw[Bool.false_xor]at fin;exact fin
end
end L2
namespace L2
open PySem PySem.Spec PyProof.Rows
section
variable {K:PySem.W.Frag}
theorem gJ[DecidableEq κ]:∀{ks:List κ}{ds:List D}{vs:List V}{k:κ},DenL K H ds vs->ks.length=vs.length->
  (∀d,getD ks ds k=some d->∃v,ce (ks.zip vs) k=some v/\Den K H d v)/\(getD ks ds k=none->ce (ks.zip vs) k=none)
 |[],_,vs,k,_,_=>⟨λd e=>by simp[getD]at e,λ_=>by simp[ce]⟩
 |q::ks,[],vs,k,dl,hl=>by cases (show vs=[] from dl);cases hl
 |q::ks,d0::ds,_,k,dl,hl=>by
  obtain⟨v,r,rfl,dv,dl⟩:=dl;have ih:=gJ (ks:=ks) (k:=k) dl (by simpa using hl)
  by_cases z:q=k
  ·refine⟨λd e=>?_,λe=>?_⟩
   ·simp only[getD,if_pos z]at e;cases e;exact⟨v,cU (p:=(q,v)) z,dv⟩
   ·simp only[getD,if_pos z]at e;cases e
  ·refine⟨λd e=>?_,λe=>?_⟩
   ·simp only[getD,if_neg z]at e;obtain⟨w,h1,h2⟩:=ih.1 d e;exact⟨w,(cb (p:=(q,v)) z).trans h1,h2⟩
   ·simp only[getD,if_neg z]at e;exact (cb (p:=(q,v)) z).trans (ih.2 e)
theorem kC(h:vA y=some k)(d:Den K H y u):u=kV k:=by
 cases y with
 |int i=>cases (show some (Sum.inl i)=some k from h);exact d
 |str x=>cases (show some (Sum.inr x)=some k from h);exact d
 |_=>cases h
theorem iD:∀{es:List D}{vs:List V}{k:List Int},lX es=some k->DenL K H es vs->vs=k.map V.int
 |[],vs,k,h,dl=>by cases (show some []=some k from h);exact dl
 |d::es,_,k,h,dl=>by
  obtain⟨v,r,rfl,dv,dl⟩:=dl;cases d with
  |int i=>
   simp only[lX]at h;split at h
   ·rename_i ns q;cases h;rw[iD q dl];cases (show v=.int i from dv);rfl
   ·cases h
  |_=>cases h
theorem jJ{k:List Int}(h:tZ y=some k)(d:Den K H y u):∃b,u=.ref b/\SqT K H b (k.map V.int):=by
 cases y with
 |tup es=>
  obtain⟨b,vs,e,sq,dl⟩:=d;refine⟨b,e,?_⟩;rw[<-iD h dl];exact sq
 |_=>cases h
theorem pe{ks:List Key}(h:mF M x=some (ks,ds))(rm:RelM K M H)(d:Den K H x v):∃p vs,v=.ref p/\Rd H p (.dK (ks.zip vs))/\ks.length=vs.length/\DenL K H ds vs:=by
 cases x with
 |dik ks' ds'=>
  cases h;obtain⟨p,vs,o,rfl,e,hl,dl⟩:=d;exact⟨p,vs,rfl,.inr ⟨o,e⟩,hl,dl⟩
 |ref a=>
  simp only[mF]at h;split at h
  ·rename_i q;cases h;obtain⟨vs,e,hl,dl⟩:=rm a _ q;exact⟨a,vs,d,.inl e,hl,dl⟩
  ·cases h
 |_=>cases h
theorem gL(h:jD M x=some (ks,ds))(rm:RelM K M H)(d:Den K H x v):∃p vs xs,v=.ref p/\Rd H p (.ext (dW p xs))/\TabOk K H p ks xs vs/\DenL K H ds vs:=by
 cases x with
 |dit ks' ds'=>
  cases h;obtain⟨p,vs,o,xs,rfl,e,z,dl⟩:=d;exact⟨p,vs,xs,rfl,.inr ⟨o,e⟩,z,dl⟩
 |ref a=>
  simp only[jD]at h;split at h
  ·rename_i q;cases h;obtain⟨vs,xs,e,z,dl⟩:=rm a _ q;exact⟨a,vs,xs,d,.inl e,z,dl⟩
  ·cases h
 |_=>cases h
theorem TabOk.len{ks:List (List Int)}{vs:List V}(z:TabOk K H a ks xs vs):ks.length=vs.length:=by
 rw[<-z.kx,List.length_map,z.vx.length,List.length_map]
theorem eS:∀{xs:List (List Int×Addr×Value)}{vs:List V} (k:List Int),Vals vs (xs.map (·.2.2))->RelO (ce ((xs.map (·.1)).zip vs) k) ((atKey xs k).map (·.2))
 |[],vs,k,r=>by cases r;exact True.intro
 |x::xs,vs,k,r=>by
  rw[List.map_cons]at r;cases r with
  |@cons v _ vs _ h t=>
   have ih:=eS k t;by_cases e:x.1=k
   ·have b:atKey (x::xs) k=some x.2:=by simp[atKey,List.find?_cons,e]
    rw[List.map_cons,List.zip_cons_cons,cU (p:=(x.1,v)) e,b];exact h
   ·have b:atKey (x::xs) k=atKey xs k:=by simp[atKey,List.find?_cons,e]
    rw[List.map_cons,List.zip_cons_cons,cb (p:=(x.1,v)) e,b];exact ih
end
inductive DRd (X:Cx) (H:Hp) (a:Addr) (u:V):Option V->Prop where
 |k {kvs:List (Key×V)}{k:Key} (e:Rd H a (.dK kvs)) (hu:u=kV k):DRd X H a u (ce kvs k)
 |t {ks:List (List Int)}{xs:List (List Int×Addr×Value)}{vs:List V}{k:List Int}{b:Addr} (e:Rd H a (.ext (dW a xs))) (z:TabOk X.K H a ks xs vs) (hu:u=.ref b) (sq:SqT X.K H b (k.map V.int)):DRd X H a u (ce (ks.zip vs) k)
noncomputable def OptDen(K:PySem.W.Frag)(H:Hp):Option D->Option V->Prop
 |some d,some v=>Den K H d v
 |none,none=>True
 |_,_=>False
theorem kJ{X:Cx}(h:lD M x y=some o)(rm:RelM X.K M H)(dx:Den X.K H x v)(dy:Den X.K H y u):∃a ov,v=.ref a/\DRd X H a u ov/\OptDen X.K H o ov:=by
 unfold lD at h;split at h
 ·rename_i ks ds e;split at h
  ·rename_i k ek;cases h;obtain⟨p,vs,rfl,rd,hl,dl⟩:=pe e rm dx;refine⟨p,_,rfl,.k rd (kC ek dy),?_⟩;have g:=gJ (k:=k) dl hl;cases q:getD ks ds k with
   |none=>rw[g.2 q];exact True.intro
   |some d=>obtain⟨w,h1,h2⟩:=g.1 d q;rw[h1];exact h2
  ·cases h
 ·split at h
  ·rename_i ks ds e;split at h
   ·rename_i k ek;cases h;obtain⟨p,vs,xs,rfl,rd,z,dl⟩:=gL e rm dx;obtain⟨b,hb,sq⟩:=jJ ek dy;refine⟨p,_,rfl,.t rd z hb sq,?_⟩;have g:=gJ (k:=k) dl z.len;cases q:getD ks ds k with
    |none=>rw[g.2 q];exact True.intro
    |some d=>obtain⟨w,h1,h2⟩:=g.1 d q;rw[h1];exact h2
   ·cases h
  ·cases h
section
variable {X:Cx}{s:Shared}{o:Option V}{A:Around}
theorem gz:∀{ks:List Int}{us:List Value},Vals (ks.map V.int) us->ItemsAre (intKind P w) ks us
 |[],_,r=>by rw[List.map_nil]at r;cases r;exact .nil
 |k::ks,_,r=>by
  rw[List.map_cons]at r;cases r with
  |cons h t=>
   obtain⟨tk,rfl⟩:=h;exact .cons (by show Value.isInt k (.int k tk)=true;simp[Value.isInt]) (gz t)
theorem gr{k:List Int}(I:Inv X pins σ H s)(sq:SqT X.K H b (k.map V.int)):(tupleKind (intKind X.prog X.w)).is s.heap k b:=by
 obtain⟨its,r,⟨o,e,c,n,d⟩,_⟩:=I.tuple sq;exact⟨o,its.toArray,n,e,c,d,by simpa using gz r⟩
theorem eF(I:Inv X pins σ H s)(e:Rd H a (.ext (dW a xs)))(z:TabOk X.K H a ks xs vs):s.heap.DictOfH (tupleKind (intKind X.prog X.w)) a xs:=by
 obtain⟨⟨ob,es,ep,h1,h2,h3,h4⟩,_⟩:=(show ObjOk X.prog X.w H s.heap a (.ext (dW a xs)) from e.ok I.hok);exact⟨ob,es,ep,h1,h2,h3,h4,λx hx=>gr I (z.at_ x hx),by rw[z.kx];exact z.nd⟩
theorem DRd.isDict(I:Inv X pins σ H s)(g:DRd X H a y o):s.TypeIs (.ref a) "dict":=by
 cases g with
 |k e _=>obtain⟨_,_,vs,_,dd⟩:=kF I.hok e;exact dd.typeIs
 |t e z _ _=>exact (eF I e z).typeIs
theorem nv(hu:A.units+1 < cLine)(I:Inv X pins σ H s)(g:DRd X H a y o)(ho:o=some v)(ry:RelV y u)(h:∀w' s',Inv X pins σ H s'->RelV v w'->Q w' s') :
  wpAny (model X.prog X.w) A (getItem (.ref a) u) Q E s:=by
 cases g with
 |k e hk=>exact nA hu I (.inl ⟨_,_,e,hk,ho.symm⟩) ry h
 |@t ks xs vs k b e z hb sq=>
  subst hb;cases (show u=Value.ref b from ry);have dd:=eF I e z;have rel:=eS (vs:=vs) k z.vx;rw[z.kx]at rel;obtain⟨w',hw,rw'⟩:=RelO.some_of (v:=v) (o:=(atKey xs k).map (·.2)) (by rw[<-ho];exact rel)
  obtain⟨p,hp,hp2⟩:=Option.map_eq_some_iff.mp hw;refine wpAny_getItem_heap (tupleKind_room_in1 hu) (gr I sq) dd hp ?_;rw[hp2];exact h w' _ (I.tok _) rw'
theorem By(neg:Bool)(hu:A.units+1 < cLine)(I:Inv X pins σ H s)(g:DRd X H a y o)(ry:RelV y u)(h:∀s',Inv X pins σ H s'->Q (.bool (neg ^^ o.isSome)) s') :
  wpAny (model X.prog X.w) A (compareOp (if neg=true then .NotIn else .In) u (.ref a)) Q E s:=by
 cases g with
 |k e hk=>
  cases neg with
  |true=>exact qi hu I (.inl ⟨_,_,e,hk,rfl⟩) ry λs' I'=>by have:=h s' I';rw[Bool.true_xor]at this;exact this
  |false=>exact Ch hu I (.inl ⟨_,_,e,hk,rfl⟩) ry λs' I'=>by have:=h s' I';rw[Bool.false_xor]at this;exact this
 |@t ks xs vs k b e z hb sq=>
  subst hb;cases (show u=Value.ref b from ry);have dd:=eF I e z;have rel:=eS (vs:=vs) k z.vx;rw[z.kx]at rel;have q:=rel.isSome_eq;rw[Option.isSome_map]at q;rw[q]at h;cases neg with
  |true=>
   refine wpAny_notIn_heap (tupleKind_room_in1 hu) (gr I sq) z.no dd ?_;have:=h _ (I.tok (s.toks+(tupleKind (intKind X.prog X.w)).draws k));rw[Bool.true_xor]at this;exact this
  |false=>
   refine wpAny_in_heap (tupleKind_room_in1 hu) (gr I sq) z.no dd ?_;have:=h _ (I.tok (s.toks+(tupleKind (intKind X.prog X.w)).draws k));rw[Bool.false_xor]at this;exact this
end
section
variable {K:PySem.W.Frag}
theorem mP[DecidableEq κ]{l:List (κ×V)}:cH ((q,w)::l) k v=if q=k then (q,v)::l.map (λkv=>if kv.1=k then (kv.1,v) else kv) else (q,w)::cH l k v:=by
 unfold cH;by_cases e:q=k
 ·simp[e]
 ·by_cases g:(l.any λkv=>decide (kv.1=k))=true
  ·simp[e,g]
  ·simp[e,g]
theorem ke[DecidableEq κ]:∀{ks:List κ}{vs:List V},¬ k∈ks->(ks.zip vs).map (λkv=>if kv.1=k then (kv.1,v) else kv)=ks.zip vs
 |[],_,_=>by simp
 |q::ks,[],_=>by simp
 |q::ks,w::vs,h=>by
  have hq:¬ q=k:=λz=>h (by simp[z])
  have ih:=ke (k:=k) (v:=v) (ks:=ks) (vs:=vs) λm=>h (List.mem_cons_of_mem _ m)
  simp only[List.zip_cons_cons,List.map_cons,if_neg hq,ih]
theorem jW[DecidableEq κ]:∀{ks:List κ}{ds:List D}{vs:List V}{k:κ}{y:D}{v:V},ks.Nodup->DenL K H ds vs->ks.length=vs.length->Den K H y v->
  ∃vs',cH (ks.zip vs) k v=(aF ks k).zip vs'/\(aF ks k).length=vs'.length/\DenL K H (bI ks ds k y) vs'
 |[],ds,vs,k,y,v,_,dl,hl,dy=>by
  cases vs with
  |nil=>exact⟨[v],rfl,rfl,by unfold bI;exact .one dy⟩
  |cons _ _=>cases hl
 |q::ks,[],vs,k,y,v,_,dl,hl,dy=>by cases (show vs=[] from dl);cases hl
 |q::ks,d::ds,_,k,y,v,nd,dl,hl,dy=>by
  obtain⟨w,r,rfl,dw,dl⟩:=dl;obtain⟨n1,n2⟩:=List.nodup_cons.mp nd;rw[List.zip_cons_cons,mP];by_cases e:q=k
  ·subst e;rw[if_pos rfl,ke n1];refine⟨v::r,?_,?_,?_⟩
   ·simp[aF]
   ·simpa [aF] using hl
   ·simp only[bI,if_pos];exact .cons dy dl
  ·rw[if_neg e];obtain⟨vs',h1,h2,h3⟩:=jW (k:=k) (v:=v) n2 dl (by simpa using hl) dy
   refine⟨w::vs',?_,?_,?_⟩
   ·simp[aF,if_neg e,h1]
   ·simp[aF,if_neg e,h2]
   ·simp only[bI,if_neg e];exact .cons dw h3
theorem kh{x:List Int×Addr×Value}{xs:List (List Int×Addr×Value)}:storedH (x::xs) k b r=if x.1=k then (x.1,x.2.1,r)::xs.map (putAt k r) else x::storedH xs k b r:=by
 unfold storedH;by_cases e:x.1=k
 ·have b':atKey (x::xs) k=some x.2:=by simp[atKey,List.find?_cons,e]
  rw[b',if_pos e];simp[putAt,e]
 ·have b':atKey (x::xs) k=atKey xs k:=by simp[atKey,List.find?_cons,e]
  rw[b',if_neg e];by_cases g:(atKey xs k).isSome=true
  ·rw[if_pos g,if_pos g];simp[putAt,e]
  ·rw[if_neg g,if_neg g];rfl
theorem gv:∀{xs:List (List Int×Addr×Value)},¬ k∈xs.map (·.1)->xs.map (putAt k r)=xs
 |[],_=>rfl
 |x::xs,h=>by
  have hq:¬ x.1=k:=λz=>h (by simp[z])
  rw[List.map_cons,gv λm=>h (List.mem_cons_of_mem _ m)]
  simp[putAt,hq]
theorem gF:∀{xs:List (List Int×Addr×Value)}{ds:List D}{vs:List V}{k:List Int}{b:Addr}{r:Value}{y:D}{v:V},(xs.map (·.1)).Nodup->Vals vs (xs.map (·.2.2))->RelV v r->DenL K H ds vs->Den K H y v->
  ∃vs',(storedH xs k b r).map (·.1)=aF (xs.map (·.1)) k/\Vals vs' ((storedH xs k b r).map (·.2.2))/\DenL K H (bI (xs.map (·.1)) ds k y) vs'/\∀x∈storedH xs k b r,(x.1=k/\x.2.1=b)\/∃x'∈xs,x'.1=x.1/\x'.2.1=x.2.1
 |[],ds,vs,k,b,r,y,v,_,vr,rv,dl,dy=>by
  cases vr;cases ds with
  |cons _ _=>obtain⟨_,_,z,_⟩:=dl;cases z
  |nil=>exact⟨[v],rfl,.cons rv .nil,by unfold bI;exact .one dy,λx hx=>.inl (by simp[storedH,atKey]at hx;simp[hx])⟩
 |x::xs,ds,vs,k,b,r,y,v,nd,vr,rv,dl,dy=>by
  rw[List.map_cons]at vr nd;cases vr with
  |@cons w _ vs _ h t=>
   cases ds with
   |nil=>cases (show w::vs=[] from dl)
   |cons d ds=>
    obtain⟨w',r',e',dw,dl⟩:=dl;cases e';obtain⟨n1,n2⟩:=List.nodup_cons.mp nd;rw[kh];by_cases e:x.1=k
    ·rw[if_pos e,gv (by rw[<-e];exact n1)]
     refine⟨v::vs,?_,.cons rv t,?_,λz hz=>?_⟩
     ·simp[aF,e]
     ·simp only[List.map_cons,bI,if_pos e];exact .cons dy dl
     ·rcases List.mem_cons.mp hz with rfl|hz
      ·exact .inr ⟨x,List.mem_cons_self,rfl,rfl⟩
      ·exact .inr ⟨z,List.mem_cons_of_mem _ hz,rfl,rfl⟩
    ·rw[if_neg e];obtain⟨vs',h1,h2,h3,h4⟩:=gF (k:=k) (b:=b) n2 t rv dl dy;refine⟨w::vs',?_,.cons h h2,?_,λz hz=>?_⟩
     ·simp only[List.map_cons,aF,if_neg e,h1]
     ·simp only[List.map_cons,bI,if_neg e];exact .cons dw h3
     ·rcases List.mem_cons.mp hz with rfl|hz
      ·exact .inr ⟨z,List.mem_cons_self,rfl,rfl⟩
      ·rcases h4 z hz with q|⟨x',hx',q⟩
       ·exact .inl q
       ·exact .inr ⟨x',List.mem_cons_of_mem _ hx',q⟩
theorem iF[DecidableEq κ]:∀{ks:List κ}{k:κ},(aF ks k).length<=ks.length+1
 |[],_=>by simp[aF]
 |q::ks,k=>by
  unfold aF;split
  ·simp
  ·have:=iF (ks:=ks) (k:=k);simp only[List.length_cons];omega
theorem putD1_mem[DecidableEq κ]:∀{ks:List κ}{k x:κ},x∈aF ks k<->x∈ks\/x=k
 |[],k,x=>by simp[aF]
 |q::ks,k,x=>by
  unfold aF;split
  ·rename_i e;subst e;simp;intro z;exact .inl z
  ·rw[List.mem_cons,putD1_mem,List.mem_cons,or_assoc]
theorem fg[DecidableEq κ]:∀{ks:List κ}{k:κ},ks.Nodup->(aF ks k).Nodup
 |[],k,_=>by simp[aF]
 |q::ks,k,h=>by
  obtain⟨n1,n2⟩:=List.nodup_cons.mp h;unfold aF;split
  ·exact h
  ·rename_i e;refine List.nodup_cons.mpr ⟨λm=>?_,fg n2⟩
   rcases putD1_mem.mp m with z|z
   ·exact n1 z
   ·exact e z
end
section
variable {X:Cx}{A:Around}{ks:List Key}
theorem ky:∀{ks:List κ}{vs:List V},ks.length=vs.length->(ks.zip vs).map (·.1)=ks
 |[],_,_=>by simp
 |q::ks,[],h=>by cases h
 |q::ks,v::vs,h=>by simp[ky (ks:=ks) (vs:=vs) (by simpa using h)]
theorem oA{vs:List V}(I:Inv X pins σ H s)(e:H a=some (.dK (ks.zip vs)))(hl:ks.length=vs.length):ks.Nodup:=by
 obtain⟨_,_,ws,rel,_,_,_,_,_,_,_,_,nd⟩:=sC I.hok e;rw[<-rel.keys,ky hl]at nd;exact nd
theorem sN{k:Key}{y:D}{v w:V}{R:MH->Prop}{R2:Hp->Prop}(hu:A.units+1 < cLine)(I:Inv X pins σ H s)(rm:RelM X.K M H)(q:M a=some (.dk ks ds))(hk:w=kV k)(rw':RelV w u)(dy:Den X.K H y v)(rv:RelV v r)(hz:ks.length < sizeLine)
  (h:R (put M a (.dk (aF ks k) (bI ks ds k y)))) (back:∀H' M',RelM X.K M' H'->TM X.K H H'->R M'->R2 H'):wpAny (model X.prog X.w) A (setItem (.ref a) u r) (λ_ s'=>∃H',Inv X pins σ H' s'/\R2 H') E s:=by
 obtain⟨vs,e,hl,dl⟩:=rm a _ q;subst hk;obtain⟨vs',h1,h2,h3⟩:=jW (k:=k) (v:=v) (oA I e hl) dl hl dy;refine nh hu I (.inl ⟨_,k,e,rfl,?_,rfl⟩) rw' rv λs' I'=>⟨_,I',?_⟩
 ·rw[List.length_zip,hl,Nat.min_self,<-hl];exact hz
 ·have tw:TM X.K H (upd H a (.dK (cH (ks.zip vs) k v))):=.put e (λ_ z=>by cases z) λ_ _ z=>by cases z
  exact back _ _ (rm.write (u:=.dk (aF ks k) (bI ks ds k y)) e (λ_ z=>by cases z) (λ_ _ z=>by cases z) ⟨vs',by rw[ag,h1],h2,h3.mono tw⟩) tw h
theorem tV{kt:List (List Int)}{k:List Int}{y:D}{v:V}{b:Addr}{R:MH->Prop}{R2:Hp->Prop}(hu:A.units+1 < cLine)(I:Inv X pins σ H s)(rm:RelM X.K M H)(q:M a=some (.dt kt ds))(sq:SqT X.K H b (k.map V.int))(dy:Den X.K H y v)(rv:RelV v r)(hz:kt.length < sizeLine)
  (h:R (put M a (.dt (aF kt k) (bI kt ds k y)))) (back:∀H' M',RelM X.K M' H'->TM X.K H H'->R M'->R2 H'):wpAny (model X.prog X.w) A (setItem (.ref a) (.ref b) r) (λ_ s'=>∃H',Inv X pins σ H' s'/\R2 H') E s:=by
 obtain⟨vs,xs,e,z,dl⟩:=rm a _ q;have dd:=eF I (.inl e) z;have nd:(xs.map (·.1)).Nodup:=by rw[z.kx];exact z.nd
 obtain⟨vs',h1,h2,h3,h4⟩:=gF (k:=k) (b:=b) nd z.vx rv dl dy;rw[z.kx]at h1 h3;have hsz:xs.length<=sizeLine:=by
  have:=congrArg List.length z.kx;rw[List.length_map]at this;omega
 refine wpAny_setItem_heap (hsz:=hsz) (tupleKind_room_in1 hu) (gr I sq) dd λh' dd' hs=>?_
 obtain⟨ob,es,ep,hq,hx,hd,he,_,_⟩:=dd';have tw:TM X.K H (upd H a (.ext (dW a (storedH xs k b r)))):=.put e (λ_ z=>by cases z) λ_ _ z=>by cases z
 have tb:dW a (storedH xs k b r) h':=⟨ob,es,ep,hq,hx,hd,he⟩;have I':Inv X pins σ (upd H a (.ext (dW a (storedH xs k b r)))) {s with heap:=h',toks:=s.toks+(tupleKind (intKind X.prog X.w)).draws k}:=
  jg I (by rw[e];exact True.intro) hs ⟨ob,hq⟩ ⟨tb,⟨ob,hq⟩,λg1 g2 ⟨o1,es1,ep1,a1,a2,a3,a4⟩ kk=>⟨o1,es1,ep1,kk _ a1,a2,a3,a4⟩⟩
 refine⟨_,I',back _ _ (rm.write (u:=.dt (aF kt k) (bI kt ds k y)) e (λ_ z=>by cases z) (λ_ _ z=>by cases z) ⟨vs',_,ag,⟨h1,fg z.nd,Nat.le_trans iF hz,z.no,h2,λx hx'=>?_⟩,h3.mono tw⟩) tw h⟩
 rcases h4 x hx' with ⟨q1,q2⟩|⟨x',m,q1,q2⟩
 ·rw[q1,q2];exact tw.t _ _ sq
 ·rw[<-q1,<-q2];exact tw.t _ _ (z.at_ x' m)
end
end L2
namespace L2
open PySem PySem.Spec PyProof.Rows PySem.W
section
variable {A:Around}{s:Shared}{ob:Obj}{es:Array DictEntry}{e:DictEntry}
theorem nt(hn:(d == sysModules)=false):MeetsIn prog w (Builtin.«dict.__len__» ⟨[.ref d],[]⟩) (λ_ R s=>∃ob es ep,s.heap.get? d=some ob/\ob.data=.dict es ep/\R (.ok (.ret (.int es.size s.toks))) {s with toks:=s.toks+1}):=
 .of_wp λA R s ⟨ob,es,ep,ho,hd,q⟩=>by
  show wpAny _ _ (dictSize d >>=_) _ _ s;unfold dictSize;refine wpAny_bind (wpAny_bind (wpAny_dictEntries ho hd (wpAny_pure ?_)));show wpAny _ _ (Builtin.Dict.pendingCount d >>=_) _ _ s;exact wpAny_bind (wpAny_pendingCount_other hn (wpAny_ret_mkInt q))
theorem BN(hn:(d == sysModules)=false)(ho:s.heap.get? d=some ob)(hx:ob.ExactDict)(hd:ob.data=.dict es ep)(hz:(es.size:Int) < 2 ^ 63)(q:Q (.int es.size (s.toks+1)) {s with toks:=s.toks+1+1}) :
  wpAny (model prog w) A (call (.builtin "len") [.ref d]) Q E s:=by
 have hT:s.TypeIs (.ref d) "dict":=⟨_,ho,hx.1⟩;refine Calls.call_function_entry kind_len plain_len entry_len (args_len1 _) ?_;unfold Builtin.«len»;refine wpAny_bind (m:=oneArg "len" _) (wpAny_pure ?_);refine wpAny_bind (m:=callSpecial? (.ref d) (Str.ofString "__len__")) (wpAny_callSpecial?_slot (name:=Str.ofString "__len__") hT F.slot_dict_len
  (call_meetsIn F.slot_dict_len hT F.entry_dict_len (F.args_dict_len_1 _) (nt hn) ⟨ob,es,ep,ho,hd,?_⟩))
 show wpAny _ _ _ _ _ {s with toks:=s.toks+1}
 refine wpAny_bind (wpAny_holding (wpAny_pure ?_));refine wpAny_bind (wpAny_letGo ?_);show wpAny _ _ (if ((es.size:Nat):Int) < 0 then _ else _) _ _ _
 rw[if_neg (by omega)]
 show wpAny _ _ (if ((es.size:Nat):Int)>=2 ^ 63 then _ else _) _ _ _
 rw[if_neg (by omega)]
 exact wpAny_bind (wpAny_mkInt (wpAny_pure ⟨_,rfl,q⟩))
theorem xy(hn:(d == sysModules)=false)(ho:s.heap.get? d=some ob)(hx:ob.ExactDict)(hd:ob.data=.dict es ep)
  (hQ:Q (.ref s.heap.objs.size) {s with heap:=s.heap.push {cls:=.type "dict_keyiterator",data:=.fields #[.ref d,.int 0 0,.int es.size 0,.int ep 0]}}):wpAny (model prog w) A (pyIter (.ref d)) Q E s:=by
 have hT:s.TypeIs (.ref d) "dict":=⟨_,ho,hx.1⟩;refine wpAny_pyIter_slot hT F.slot_dict_iter (wpAny_call_entry F.slot_dict_iter hT F.entry_dict_iter ?_ (F.args_dict_iter_1 _));unfold Builtin.«dict.__iter__»;refine wpAny_bind ?_;unfold Builtin.Dict.dictSlotNone;refine wpAny_bind (wpAny_notOrdered_dict hT ?_);show wpAny _ _ (pure (Value.ref d)) _ _ s;refine wpAny_pure ?_;show wpAny _ _ (Builtin.Dict.showsAll d >>=_) _ _ s;unfold Builtin.Dict.showsAll;rw[if_neg (by rw[hn];exact Bool.false_ne_true)]
 refine wpAny_bind (wpAny_pure (wpAny_bind (wpAny_dictEntries ho hd (wpAny_bind (wpAny_dictEpoch ho hd ?_)))));refine wpAny_bind (wpAny_newObj_type (wpAny_pure ⟨_,rfl,"dict_keyiterator",_,⟨_,Heap.get?_push_size _ rfl,rfl⟩,F.slot_dict_keyiterator_next.lookup,?_⟩));simpa [rawInt] using hQ
theorem og(hit:s.heap.IsKeyIter it d i es.size ep)(hod:s.heap.get? d=some ob)(hdd:ob.data=.dict es ep)(he:es[i]?=some e)
  (hQ:∀h',h'.IsKeyIter it d (i+1) es.size ep->Heap.SameBut it s.heap h'->Q (some e.key) {s with heap:=h'}):wpAny (model prog w) A (pyNext (.ref it)) Q E s:=by
 obtain⟨o,ho,hc,hd⟩:=id hit;unfold pyNext;refine wpAny_bind (wpAny_attempt (wpAny_callSpecial?_slot (name:=Str.ofString "__next__") hit.typeIs F.slot_dict_keyiterator_next
  (wpAny_call_entry F.slot_dict_keyiterator_next hit.typeIs F.entry_dict_keyiterator_next ?_ (F.args_dict_keyiterator_next_1 _))))
 refine wpAny_bind (wpAny_pure (wpAny_bind (wpAny_bind ?_)))
 first|refine wpAny_bind (wpAny_typeNameOfWhole_keyiter hit.typeIs (wpAny_pure ?_))|refine wpAny_bind (wpAny_typeNameOf_keyiter hit.typeIs (wpAny_pure ?_))
 refine wpAny_bind (wpAny_fieldsOf ho hd ?_);simp only[show Builtin.Dict_items.ownsTuple "dict_keyiterator"=false by decide,Bool.false_eq_true,if_false]
 show wpAny _ _ (if (Value.ref d == Value.none)=true then _ else _) _ _ s
 rw[if_neg (show ¬ ((Value.ref d == Value.none)=true) from Bool.false_ne_true)];refine wpAny_bind (wpAny_pure (wpAny_bind (wpAny_dictEntries hod hdd ?_)));rw[if_neg (by simp)]
 refine wpAny_bind (wpAny_pure (wpAny_bind (wpAny_dictEpoch hod hdd ?_)));rw[if_neg (by simp)]
 refine wpAny_pure ?_;simp only[show ¬ ((i:Int) < 0) from by omega,if_false,Int.toNat_natCast,he]
 refine wpAny_bind ?_
 first|refine wpAny_bind (wpAny_typeNameOfWhole_keyiter hit.typeIs (wpAny_pure ?_))|refine wpAny_bind (wpAny_typeNameOf_keyiter hit.typeIs (wpAny_pure ?_))
 refine wpAny_bind (wpAny_isOneOf_keyiter hit.typeIs ?_);show wpAny _ _ (setField (.ref it) 1 (rawInt ((i:Int)+1)) >>=_) _ _ s;refine wpAny_bind (wpAny_setField ho hd (by simp) ?_)
 have hit':(s.heap.update it (Obj.mapFields (·.setIfInBounds 1 (rawInt ((i:Int)+1))))).IsKeyIter it d (i+1) es.size ep:=
  ⟨_,Heap.get?_update_self _ ho (Obj.isFreed_of_fields (Obj.data_mapFields hd _)),(Obj.cls_mapFields ..).trans hc,by rw[Obj.data_mapFields hd];simp[rawInt]⟩
 refine wpAny_bind (wpAny_holding ?_);refine wpAny_bind (wpAny_isOneOf_keyiter (s:={s with heap:=s.heap.update it (Obj.mapFields (·.setIfInBounds 1 (rawInt ((i:Int)+1))))}) hit'.typeIs ?_)
 show wpAny _ _ (pure e.key) _ _ _;exact wpAny_pure (wpAny_pure ⟨_,rfl,wpAny_pure (hQ _ hit' (Heap.SameBut.update ..))⟩)
theorem pO(hh:A.handled=none)(hit:s.heap.IsKeyIter it d i es.size ep)(hod:s.heap.get? d=some ob)(hdd:ob.data=.dict es ep)(he:es.size<=i)
  (hQ:∀h',Heap.ExtBut it s.heap h'->Q none {s with heap:=h'}):wpAny (model prog w) A (pyNext (.ref it)) Q E s:=by
 obtain⟨o,ho,hc,hd⟩:=id hit;unfold pyNext;refine wpAny_bind (wpAny_attempt (wpAny_callSpecial?_slot (name:=Str.ofString "__next__") hit.typeIs F.slot_dict_keyiterator_next
  (wpAny_call_entry F.slot_dict_keyiterator_next hit.typeIs F.entry_dict_keyiterator_next ?_ (F.args_dict_keyiterator_next_1 _))))
 refine wpAny_bind (wpAny_pure (wpAny_bind (wpAny_bind ?_)))
 first|refine wpAny_bind (wpAny_typeNameOfWhole_keyiter hit.typeIs (wpAny_pure ?_))|refine wpAny_bind (wpAny_typeNameOf_keyiter hit.typeIs (wpAny_pure ?_))
 refine wpAny_bind (wpAny_fieldsOf ho hd ?_);simp only[show Builtin.Dict_items.ownsTuple "dict_keyiterator"=false by decide,Bool.false_eq_true,if_false]
 show wpAny _ _ (if (Value.ref d == Value.none)=true then _ else _) _ _ s
 rw[if_neg (show ¬ ((Value.ref d == Value.none)=true) from Bool.false_ne_true)];refine wpAny_bind (wpAny_pure (wpAny_bind (wpAny_dictEntries hod hdd ?_)));rw[if_neg (by simp)]
 refine wpAny_bind (wpAny_pure (wpAny_bind (wpAny_dictEpoch hod hdd ?_)));rw[if_neg (by simp)]
 refine wpAny_pure ?_;simp only[show ¬ ((i:Int) < 0) from by omega,if_false,Int.toNat_natCast,Array.getElem?_eq_none he]
 refine wpAny_bind ?_
 first|refine wpAny_bind (wpAny_typeNameOfWhole_keyiter hit.typeIs (wpAny_pure ?_))|refine wpAny_bind (wpAny_typeNameOf_keyiter hit.typeIs (wpAny_pure ?_))
 show wpAny _ _ (setField (.ref it) 0 .none >>=_) _ _ s;refine wpAny_bind (wpAny_setField ho hd (by simp) ?_)
 show wpAny _ _ (newExc (.type "StopIteration") [] >>=_) _ _ _;refine wpAny_bind ?_;simp only[newExc,newTuple];refine wpAny_bind (wpAny_newObj_type ?_ (by size_fits))
 refine wpAny_bind (m:=firstArgMember _ _) (wpAny_of_eq (a:=Value.none) (by first|rfl|(simp only[firstArgMember];rfl)) ?_)
 refine wpAny_newObj_type ?_ (by size_fits)
 simp only[raiseNew];refine wpAny_bind (wpAny_handled ?_);rw[show A.in1.handled=none from hh];refine wpAny_bind (wpAny_pure (wpAny_throw ?_));refine wpAny_bind (wpAny_isInstance (T:="StopIteration") (b:=true) ⟨_,Heap.get?_push_size _ rfl,rfl⟩ isSubtype_stop ?_);exact wpAny_pure (hQ _ (((Heap.SameBut.update ..).extBut.push _).push _))
theorem mD(hh:A.handled=none)(I d:Addr)(hne:d≠I)(hd:ob.data=.dict es ep) :
  Walks prog w A I [I,d] [I] es.size (λi v=>∃e,es[i]?=some e/\v=e.key) (λi h=>h.IsKeyIter I d i es.size ep/\h.get? d=some ob) where
 sub:=λb hb=>by simp at hb;simp[hb]
 frame:=λ_ _ _ st hk=>⟨st.1.at λo e=>hk I (by simp) o e,hk d (by simp) _ st.2⟩
 item:=λi s Q E hi st hQ=>by
  have he:es[i]?=some es[i]:=by simp[hi]
  refine og st.1 st.2 hd he λh' hit' hs'=>?_
  exact hQ _ h' s.toks ⟨_,he,rfl⟩ ⟨hit',hs'.extBut d ob hne st.2⟩ λb o hb e=>hs'.extBut b o (λh=>hb (by simp[h])) e
 done:=λs Q E st hQ=>pO hh st.1 st.2 hd (Nat.le_refl _) λh' he'=>hQ h' s.toks λb o hb e=>he' b o (λh=>hb (by simp[h])) e
 self:=λ_ _ _ _ st hQ=>wpAny_pyIter_keyiter st.1 hQ
theorem pJ(lo:(d == sysModules)=false)(hx:ob.ExactDict)(hd:ob.data=.dict es ep):KdlSrc prog w "dict" d d es.size (λi v=>∃e,es[i]?=some e/\v=e.key) (λh=>h.get? d=some ob) where
 type:=λ_ hm=>⟨_,hm,hx.1⟩
 there:=λ_ hm=>⟨Heap.lt_size hm,Heap.lt_size hm⟩
 keep:=λ_ _ hm hk=>hk d (.inl rfl) _ hm
 notList:=by decide
 notTuple:=by decide
 hint:=λ_ _ _ _ hm hq=>kdl_hint_dict ⟨_,hm,hx.1⟩ hq
 iter:=λ_ _ hh hm=>⟨_,_,(λ_ _ hq=>xy lo hm hx hd hq),mD hh _ d (Nat.ne_of_lt (Heap.lt_size hm)) hd,⟨⟨_,Heap.get?_push_size _ rfl,rfl,rfl⟩,Heap.get?_push_of_some _ hm⟩⟩
end
end L2
namespace L2
open PySem PySem.Spec PyProof.Rows
section
variable {X:Cx}
theorem sf(neg:Bool):VO X (compareOp (if neg=true then .IsNot else .Is)) (jQ neg):=by
 intro pins s σ H x y v u v2 u2 M Q Q2 I rv ru dx dy rm q back;unfold jQ at q;split at q
 ·cases (show u=.non from dy);cases neg with
  |true=>exact VO.of3 qG pins s σ H x .non v .non v2 u2 M Q Q2 I rv ru dx dy rm ⟨rfl,by rw[Bool.true_xor]at q;exact q⟩ back
  |false=>exact VO.of3 Cb pins s σ H x .non v .non v2 u2 M Q Q2 I rv ru dx dy rm ⟨rfl,by rw[Bool.false_xor]at q;exact q⟩ back
 ·rename_i b;cases (show u=.bl b from dy);cases ru;have fin:∀k,Q (.bl k) M->EP X pins σ Q2 (.bool k) s:=λk q=>⟨.bl k,H,I,rfl,back _ _ _ _ aP rm (.refl _) q⟩
  split at q
  ·rename_i a;cases (show v=.bl a from dx);cases rv;have e:((Value.bool a == Value.bool b):Bool)=(a == b):=by cases a<;>cases b<;>rfl
   cases neg with
   |true=>exact wpAny_isNot_plain rfl (by rw[e];rw[Bool.true_xor]at q;exact fin _ q)
   |false=>exact wpAny_is_plain rfl (by rw[e];rw[Bool.false_xor]at q;exact fin _ q)
  ·cases (show v=.non from dx);cases rv;cases neg with
   |true=>exact wpAny_isNot_other rfl (λz=>nomatch z) (fin _ q)
   |false=>exact wpAny_is_other rfl (λz=>nomatch z) (fin _ q)
  ·exact q.elim
 ·exact q.elim
theorem oZ:∀{ds:List D}{us:List β},Paired R ds us->(∀d u,d∈ds->R d u->e u=f d)->us.any e=ds.any f
 |_,_,.nil,_=>rfl
 |d::ds,u::us,.cons r t,h=>by
  rw[List.any_cons,List.any_cons,h d u List.mem_cons_self r,oZ t λd u hd=>h d u (List.mem_cons_of_mem _ hd)]
theorem iB{K:PySem.W.Frag}:∀{ds:List D}{vs:List V}{us:List Value},DenL K H ds vs->Vals vs us->Paired (λd u=>∃v,Den K H d v/\RelV v u) ds us
 |[],_,_,h,r=>by cases (show _=[] from h);cases r;exact .nil
 |d::ds,_,_,h,r=>by
  obtain⟨v,r',rfl,dv,dl⟩:=h;cases r with
  |cons r1 r2=>exact .cons ⟨v,dv,r1⟩ (iB dl r2)
theorem Paired.mem_right:∀{l:List α}{m:List β},Paired R l m->∀b∈m,∃a∈l,R a b
 |_,_,.nil,b,hb=>by cases hb
 |a::l,c::m,.cons r t,b,hb=>by
  rcases List.mem_cons.mp hb with rfl|hb
  ·exact⟨a,List.mem_cons_self,r⟩
  ·obtain⟨a',h1,h2⟩:=Paired.mem_right t b hb;exact⟨a',List.mem_cons_of_mem _ h1,h2⟩
theorem so(hu:X.A.units+64 < cLine)(neg:Bool):VO X (compareOp (if neg=true then .NotIn else .In)) (mW neg):=by
 intro pins s σ H x y v u v2 u2 M Q Q2 I rv ru dx dy rm q back;unfold mW at q;split at q
 ·rename_i ds eds;obtain⟨p1,p2,q⟩:=q;obtain⟨p,vs,rfl,hq,dl⟩:=de rm eds dy;cases ru;obtain⟨H',I',t',d1⟩:=oV I rm dx p1;have dl':=dl.mono t';have fin:EP X pins σ Q2 (.bool (neg ^^ ds.any λd=>eqD d (res M x))) s:=⟨.bl _,H,I,rfl,back _ _ _ _ aP rm (.refl _) q⟩
  classical
  have key:∀{its:List Value},Vals vs its->∃e:Value->Bool,its.any e=(ds.any λd=>eqD d (res M x))/\∀w∈its,SeqAt.EqAt X.A.in1 s w v2 (e w):=λ{its} r=>by
   have pd:=iB dl' r
   let e:Value->Bool:=λw=>if h:∃d∈ds,∃v,Den X.K H' d v/\RelV v w then eqD h.choose (res M x) else false
   have he:∀d w,d∈ds->(∃v,Den X.K H' d v/\RelV v w)->e w=eqD d (res M x):=λd w hd ⟨v',dv,rw'⟩=>by
    have h:∃d∈ds,∃v,Den X.K H' d v/\RelV v w:=⟨d,hd,v',dv,rw'⟩;obtain⟨hm,v'',dv2,rw2⟩:=h.choose_spec;have:v''=v':=rw2.inj rw';subst this;have e1:h.choose=d:=mo I' rfl 8 (List.all_eq_true.mp p2 _ hm) (List.all_eq_true.mp p2 _ hd) dv2 dv;show (if h:∃d∈ds,∃v,Den X.K H' d v/\RelV v w then eqD h.choose (res M x) else false)=_
    rw[dif_pos h,e1]
   refine⟨e,oZ pd he,λw hw=>?_⟩
   obtain⟨d,hd,v',dv,rw'⟩:=Paired.mem_right pd w hw;rw[he d w hd ⟨v',dv,rw'⟩];exact (wM I' rfl 8 (A:=X.A.in1) (List.all_eq_true.mp p2 _ hd) p1 dv d1 rw' rv (by show X.A.units+1+8 < cLine;omega)).2.2
  rcases hq with hq|hq
  ·obtain⟨its,r,pl',hz⟩:=I.list hq;obtain⟨e,e1,e2⟩:=key r;have ea:its.toArray.any e=ds.any λd=>eqD d (res M x):=by rw[<-e1];simp
   cases neg with
   |true=>exact SeqAt.notIn_listAt e pl'.isList (λw hw=>e2 w (by simpa using hw)) (by rw[ea];rw[Bool.true_xor]at fin;exact fin)
   |false=>exact SeqAt.in_listAt e pl'.isList (λw hw=>e2 w (by simpa using hw)) (by rw[ea];rw[Bool.false_xor]at fin;exact fin)
  ·obtain⟨its,r,pl',hz⟩:=I.tuple hq;obtain⟨e,e1,e2⟩:=key r;have ea:its.toArray.any e=ds.any λd=>eqD d (res M x):=by rw[<-e1];simp
   cases neg with
   |true=>exact SeqAt.notIn_tupleAt e pl' (λw hw=>e2 w (by simpa using hw)) (by rw[ea];rw[Bool.true_xor]at fin;exact fin)
   |false=>exact SeqAt.in_tupleAt e pl' (λw hw=>e2 w (by simpa using hw)) (by rw[ea];rw[Bool.false_xor]at fin;exact fin)
 ·split at q
  ·rename_i o e;obtain⟨a,ov,rfl,g,od⟩:=kJ (X:=X) e rm dy dx;cases ru;refine By neg (by omega) I g rv λs' I'=>⟨.bl (neg ^^ ov.isSome),H,I',rfl,back _ _ (.bl _) _ aP rm (.refl _) ?_⟩
   have:o.isSome=ov.isSome:=by
    cases o<;>cases ov<;>first|rfl|exact od.elim
   rw[<-this];exact q
  ·split at q
   ·rename_i i j _ _;cases (show v=.str i from dx);cases (show u=.str j from dy);cases neg with
    |false=>exact nn pins s σ H _ _ v2 u2 Q2 I rv ru ⟨i,j,rfl,rfl,back _ _ (.bl _) _ aP rm (.refl _) (by rw[Bool.false_xor]at q;exact q)⟩
    |true=>exact jl pins s σ H _ _ v2 u2 Q2 I rv ru ⟨i,j,rfl,rfl,back _ _ (.bl _) _ aP rm (.refl _) (by rw[Bool.true_xor]at q;exact q)⟩
   ·exact q.elim
theorem cm(hu:X.A.units+64 < cLine)(op:CmpOp):VO X (compareOp op) (aj op):=by
 cases op with
 |Eq=>exact r8 hu false
 |NotEq=>exact r8 hu true
 |Lt=>exact (VO.of3 Bu).imp λ_ _ _ _ h=>eV h
 |LtE=>exact (VO.of3 Bc).imp λ_ _ _ _ h=>eV h
 |Gt=>exact (VO.of3 Cs).imp λ_ _ _ _ h=>eV h
 |GtE=>exact (VO.of3 CA).imp λ_ _ _ _ h=>eV h
 |Is=>exact sf false
 |IsNot=>exact sf true
 |In=>exact so hu false
 |NotIn=>exact so hu true
theorem bZ{K:PySem.W.Frag}(h:DenL K H [d] vs):∃v,vs=[v]/\Den K H d v:=by
 obtain⟨v,r,rfl,dv,rfl⟩:=h;exact⟨v,rfl,dv⟩
noncomputable def rLen0(xs:List D)(M:MH)(Q:VK3):Prop:=match xs with
  |[x]=>match aD M x with
   |some ds=>Q (.int ds.length) M
   |none=>False
  |_=>False
theorem rG:VC X (.builtin "len") rLen0:=(VC.of3 yx).imp λxs M Q h=>by
 simp only[rLen0]at h;split at h
 ·rename_i x;split at h
  ·rename_i ds e;refine⟨x,ds,rfl,?_,h⟩;cases x with
   |tup es=>exact .inr (by rw[show es=ds from Option.some.inj e])
   |rol es=>exact .inl (.inl (by rw[show es=ds from Option.some.inj e]))
   |ref a=>
    cases q:M a with
    |none=>simp[aD,af,q]at e
    |some o=>
     cases o with
     |lst es=>exact .inl (.inr ⟨a,rfl,by rw[q];simp[aD,af,q]at e;rw[e]⟩)
     |_=>simp[aD,af,q]at e
   |_=>cases e
  ·exact h.elim
 ·exact h.elim
theorem me{s:Shared}{ks:List (List Int)}{xs:List (List Int×Addr×Value)}(I:Inv X pins σ H s)(e:Rd H p (.ext (dW p xs)))(z:TabOk X.K H p ks xs vs) :
  ∃ob es ep,s.heap.get? p=some ob/\ob.ExactDict/\ob.data=.dict es ep/\es.toList=(xs.map λx=>(⟨tH x.1,.ref x.2.1,x.2.2⟩:DictEntry))/\es.size=ks.length:=by
 obtain⟨⟨ob,es,ep,h1,h2,h3,h4⟩,_⟩:=(show ObjOk X.prog X.w H s.heap p (.ext (dW p xs)) from e.ok I.hok);refine⟨ob,es,ep,h1,h2,h3,h4,?_⟩;have:=congrArg List.length h4;have l3:xs.length=ks.length:=by rw[<-z.kx];simp
 simp at this;omega
theorem sW:VC X (.builtin "len") (rBi .len):=by
 intro pins s σ H xs vs us M Q Q2 I rs dl rm q back;by_cases h:rLen0 xs M Q
 ·exact rG pins s σ H xs vs us M Q Q2 I rs dl rm h back
 ·simp only[rBi]at q;split at q
  ·rename_i x;split at q
   ·rename_i ds e;exact absurd (by simp only[rLen0,e];exact q) h
   ·split at q
    ·rename_i ks ds e;obtain⟨v,rfl,dv⟩:=bZ dl;obtain⟨p,ws,ts,rfl,rd,z,_⟩:=gL e rm dv;obtain⟨ob,es,ep,h1,h2,h3,h4,h5⟩:=me I rd z;obtain⟨u,rfl,rx⟩:=dn rs;cases rx;refine BN z.no h1 h2 h3 (by have:=z.sz;have:=sizeLine_eq;omega) ⟨.int es.size,H,I.tok _,⟨_,rfl⟩,?_⟩
     rw[h5];exact back _ _ _ _ cg rm (.refl _) q
    ·split at q
     ·rename_i z _ _;obtain⟨v,rfl,dv⟩:=bZ dl;cases (show v=.str z from dv);exact jp pins s σ H _ us Q2 I rs ⟨z,rfl,q.1,back _ _ _ _ cg rm (.refl _) q.2⟩
     ·exact q.elim
  ·exact q.elim
theorem iN{K:PySem.W.Frag}:∀ks:List Int,DenL K H (ks.map D.int) (ks.map V.int)
 |[]=>rfl
 |k::r=>⟨_,_,rfl,rfl,iN r⟩
theorem km{K:PySem.W.Frag}:∀{ts:List (List Int×Addr×Value)},(∀x∈ts,SqT K H x.2.1 (x.1.map V.int))->DenL K H ((ts.map (·.1)).map tO) (ts.map λx=>V.ref x.2.1)
 |[],_=>rfl
 |x::r,h=>⟨_,_,rfl,fy (h x List.mem_cons_self) (iN _),km λy hy=>h y (List.mem_cons_of_mem _ hy)⟩
theorem ip:∀ts:List (List Int×Addr×Value),Vals (ts.map λx=>V.ref x.2.1) (ts.map λx=>Value.ref x.2.1)
 |[]=>.nil
 |x::r=>.cons rfl (ip r)
theorem qg(fz:Bool)(hc:X.calm=true):VC X (.type "list") (rBi (.list fz)):=by
 intro pins s σ H xs vs us M Q Q2 I r dl rm q back;simp only[rBi]at q;split at q
 ·rename_i x;split at q
  ·rename_i ds e;obtain⟨v,rfl,dv⟩:=bZ dl;obtain⟨p,vs,rfl,hq,dl2⟩:=de rm e dv;refine thn (jh pins s σ H _ us (λw H'=>∃l,w=.ref l/\H l=none/\H'=upd H l (.lst vs)) I r ⟨p,vs,rfl,hq,λl hl=>⟨l,rfl,hl,rfl⟩⟩) λu s1 ⟨w,H1,I1,r1,l,e1,hl,e2⟩=>?_
   subst e1;subst e2;cases r1;exact bH I1 hl dl2 rm (.refl _) q back
  ·split at q
   ·rename_i ks ds e;obtain⟨v,rfl,dv⟩:=bZ dl;obtain⟨p,ws,ts,rfl,rd,z,_⟩:=gL e rm dv;obtain⟨ob,es,ep,h1,h2,h3,h4,h5⟩:=me I rd z;obtain⟨u,rfl,rx⟩:=dn r;cases rx;have hz:es.size<=sizeLine:=by have:=z.sz;omega
    refine d5 I.tk <| PySem.W.kdl_call (pJ z.no h2 h3) (I.ok.hd hc) h1 hz λh' tk acc' c' kp e hi _=>?_
    have hp:H s.heap.objs.size=none:=I.hok.fresh (Nat.le_refl _);have ea:acc'.toList=ts.map λx=>Value.ref x.2.1:=by
     refine List.ext_getElem? λj=>?_
     by_cases hj:j < acc'.size
     ·have e1:acc'[j]?=some acc'[j]:=by simp[hj]
      obtain⟨en,e2,e3⟩:=hi.2 j _ e1;have e4:es.toList[j]?=some en:=by simpa using e2
      rw[h4,List.getElem?_map]at e4;cases hx:ts[j]? with
      |none=>rw[hx]at e4;cases e4
      |some x=>
       rw[hx]at e4;cases e4;rw[Array.getElem?_toList,e1,e3,List.getElem?_map,hx];rfl
     ·have h6:=hi.1;have h7:ts.length=es.size:=by
       have:=congrArg List.length h4;simpa using this.symm
      rw[List.getElem?_eq_none (by simpa using hj),List.getElem?_eq_none (by rw[List.length_map];omega)]
    have hv:Vals (ts.map λx=>V.ref x.2.1) acc'.toList:=by rw[ea];exact ip ts
    have I1:=I.laid (a:=s.heap.objs.size) (o:=.lst (ts.map λx=>V.ref x.2.1)) (t':=tk) kp (Nat.le_refl _) ⟨by rw[hv.length,ea,List.length_map];have:=z.sz;rw[<-z.kx,List.length_map]at this;exact this,acc'.toList,c',hv,by simpa using e⟩
    exact bH I1 hp (by rw[<-z.kx];exact km z.at_) rm (.refl _) q back
   ·exact q.elim
 ·exact q.elim
theorem nK:VC X (.type "tuple") (rBi .tuple):=by
 intro pins s σ H xs vs us M Q Q2 I r dl rm q back;simp only[rBi]at q;split at q
 ·rename_i x;split at q
  ·rename_i ds e;obtain⟨v,rfl,dv⟩:=bZ dl;obtain⟨p,vs,rfl,hq,dl2⟩:=de rm e dv;refine ik pins s σ H _ us Q2 I r ⟨p,vs,rfl,?_⟩;rcases hq with hq|hq
   ·exact .inl ⟨hq,λl hl=>back _ _ _ _ (fy (.of ag) (dl2.mono (.new hl))) (rm.grow hl) (.new hl) q⟩
   ·exact .inr ⟨hq,back _ _ _ _ (fy hq dl2) rm (.refl _) q⟩
  ·exact q.elim
 ·exact q.elim
end
end L2
namespace L2
open PySem PySem.Spec PyProof.Rows PySem.W
end L2
namespace L2
open PySem PySem.Spec PyProof.Rows
theorem ex9{α β γ δ:Sort _}{P1 P2 P3 P4 P5:α->β->γ->δ->Prop}{R:Prop}(h:∃a b c d,P1 a b c d/\P2 a b c d/\P3 a b c d/\P4 a b c d/\P5 a b c d)(k:∀a b c d,P1 a b c d->P2 a b c d->P3 a b c d->P4 a b c d->P5 a b c d->R):R:=
 h.elim λa h=>h.elim λb h=>h.elim λc h=>h.elim λd h=>k a b c d h.1 h.2.1 h.2.2.1 h.2.2.2.1 h.2.2.2.2
noncomputable def Bt(K:PySem.W.Frag)(r:D->D->MH->VK3->Prop):R2:=λv u H Q2=>∃x y M Q,Den K H x v/\Den K H y u/\RelM K M H/\r x y M Q/\Back K H Q Q2
noncomputable def CK(K:PySem.W.Frag)(r:D->MH->VK3->Prop):V->Hp->VK->Prop:=λv H Q2=>∃x M Q,Den K H x v/\RelM K M H/\r x M Q/\Back K H Q Q2
noncomputable def BZ(K:PySem.W.Frag)(r:List D->MH->VK3->Prop):List V->Hp->VK->Prop:=λvs H Q2=>∃xs M Q,DenL K H xs vs/\RelM K M H/\r xs M Q/\Back K H Q Q2
section
variable {X:Cx}
theorem VO.op{f:Value->Value->Sem Value}{r:D->D->MH->VK3->Prop}(h:VO X f r):OpR X f (Bt X.K r):=λpins s σ H v u v2 u2 Q2 I rv ru ⟨x,y,M,Q,dx,dy,rm,q,back⟩=>h pins s σ H x y v u v2 u2 M Q Q2 I rv ru dx dy rm q back
theorem VU.op{f:Value->Sem Value}{r:D->MH->VK3->Prop}(h:VU X f r):UnR X f (CK X.K r):=λpins s σ H v v2 Q2 I rv ⟨x,M,Q,dx,rm,q,back⟩=>h pins s σ H x v v2 M Q Q2 I rv dx rm q back
theorem VC.op{f:Value}{r:List D->MH->VK3->Prop}(h:VC X f r):CallR X f (BZ X.K r):=λpins s σ H vs us Q2 I rv ⟨xs,M,Q,dx,rm,q,back⟩=>h pins s σ H xs vs us M Q Q2 I rv dx rm q back
end
section
variable {K:PySem.W.Frag}
theorem kI{ta tb:St3->MH->VK3->XN->Prop}{R3:D->D->MH->Prop}{R2:V->V->Hp->Prop}(rm:RelM K M H)(ds:DenS K H σ3 σ)(lk:LkE K cls H E3 (E2 σ))
  (h:ta σ3 M (λx M1=>tb σ3 M1 (λy M2=>R3 x y M2) E3) E3) (k:∀v u H' x y M',Den K H' x v->Den K H' y u->RelM K M' H'->TM K H H'->R3 x y M'->R2 v u H') :
  low K cls E2 ta σ H λv H1=>low K cls E2 tb σ H1 λu H2=>R2 v u H2:=
 ⟨σ3,M,_,E3,rm,ds,lk,h,λv H1 x M1 dv rm1 t1 h1=>⟨σ3,M1,_,E3,rm1,ds.mono t1,lk.mono t1,h1,λu H2 y M2 du rm2 t2 h2=>k v u H2 x y M2 (dv.mono t2) du rm2 (t1.trans t2) h2⟩⟩
theorem aQ{ta:St3->MH->VK3->XN->Prop}{R3:VK3}{R2:VK}(rm:RelM K M H)(ds:DenS K H σ3 σ)(lk:LkE K cls H E3 (E2 σ))(h:ta σ3 M R3 E3)(k:∀v H' x M',Den K H' x v->RelM K M' H'->TM K H H'->R3 x M'->R2 v H') :
  low K cls E2 ta σ H R2:=⟨σ3,M,R3,E3,rm,ds,lk,h,k⟩
end
section
variable {X:Cx}{cls:Nat->Addr}{E2:St->XK}{a b c e:Expr}{ta tb tc te:St3->MH->VK3->XN->Prop}{pos:Pos}
theorem xV{i:Nat}{x:Str}(hN:X.N[i]?=some x)(hv:Vis X.env.scope x)(hd:(x == ("__debug__" : Str))=false)(hcd:(x == ("__classdict__" : Str))=false) :
  PE X (.Name x pos) (low X.K cls E2 λσ M Q _=>match σ[i]? with|some (some d)=>Q d M|_=>False):=
 (ux hN hv hd hcd).imp λσ H Q2 hl_=>ex9 hl_ λσ3 M Q E3 rm ds lk h back=>by
  try dsimp only at h
  split at h
  ·rename_i d e;obtain⟨v,e1,e2⟩:=ds.2 i d e;exact⟨v,e1,back _ _ _ _ e2 rm (.refl _) h⟩
  ·exact h.elim
theorem kz{v:V}{d:D}(h:PE X e (tC v))(hd:∀H,Den X.K H d v):PE X e (low X.K cls E2 λ_ M Q _=>Q d M):=
 h.imp λσ H Q2 hl_=>ex9 hl_ λσ3 M Q E3 rm ds lk h back=>back _ _ _ _ (hd H) rm (.refl _) h
theorem wR{op:Operator}{r:D->D->MH->VK3->Prop}(ho:VO X (binaryOp op) r)(ha:PE X a (low X.K cls E2 ta))(hb:PE X b (low X.K cls E2 tb)) :
  PE X (.BinOp a op b pos) (low X.K cls E2 λσ M Q E=>ta σ M (λx M1=>tb σ M1 (λy M2=>r x y M2 Q) E) E):=
 (yF ho.op ha hb).imp λσ H Q2 hl_=>ex9 hl_ λσ3 M Q E3 rm ds lk h back=>kI rm ds lk h λv u H' x y M' dx dy rm' t q=>⟨x,y,M',Q,dx,dy,rm',q,back.mono t⟩
theorem BY{op:UnaryOp}{r:D->MH->VK3->Prop}(ho:VU X (unaryOp op) r)(ha:PE X a (low X.K cls E2 ta)) :
  PE X (.UnaryOp op a pos) (low X.K cls E2 λσ M Q E=>ta σ M (λx M1=>r x M1 Q) E):=
 (wo ho.op ha).imp λσ H Q2 hl_=>ex9 hl_ λσ3 M Q E3 rm ds lk h back=>aQ rm ds lk h λv H' x M' dx rm' t q=>⟨x,M',Q,dx,rm',q,back.mono t⟩
theorem xA{op:CmpOp}{r:D->D->MH->VK3->Prop}(ho:VO X (compareOp op) r)(ha:PE X a (low X.K cls E2 ta))(hb:PE X b (low X.K cls E2 tb))(hm:behindInMarks op b=false) :
  PE X (.Compare a [op] [b] pos) (low X.K cls E2 λσ M Q E=>ta σ M (λx M1=>tb σ M1 (λy M2=>r x y M2 Q) E) E):=
 (qO ho.op ha hb hm).imp λσ H Q2 hl_=>ex9 hl_ λσ3 M Q E3 rm ds lk h back=>kI rm ds lk h λv u H' x y M' dx dy rm' t q=>⟨x,y,M',Q,dx,dy,rm',q,back.mono t⟩
noncomputable abbrev boolQ(Q:Bool->MH->Prop):VK3:=λr M=>match r with
 |.bl k=>Q k M
 |_=>False
theorem c7{K:PySem.W.Frag}{H:Hp}{Q:Bool->MH->Prop}{Q2:Bool->Hp->Prop}(k:∀b H' M',RelM K M' H'->TM K H H'->Q b M'->Q2 b H'):Back K H (boolQ Q) λx H1=>∃k,x=.bl k/\Q2 k H1:=λv H' d M' dv rm t q=>by
 unfold boolQ at q;split at q
 ·exact⟨_,dv,k _ _ _ rm t q⟩
 ·exact q.elim
theorem yp{op:CmpOp}{r:D->D->MH->VK3->Prop}(ho:VO X (compareOp op) r)(ha:PE X a (low X.K cls E2 ta))(hb:PE X b (low X.K cls E2 tb))(hm:behindInMarks op b=false) :
  PT X (.Compare a [op] [b] pos) (bB X.K cls E2 λσ M Q E=>ta σ M (λx M1=>tb σ M1 (λy M2=>r x y M2 (boolQ Q)) E) E):=
 (rN ho.op ha hb hm).imp λσ H Q2 hl_=>ex9 hl_ λσ3 M Q E3 rm ds lk h back=>kI rm ds lk h λv u H' x y M' dx dy rm' t q=>⟨x,y,M',_,dx,dy,rm',q,(c7 back).mono t⟩
theorem wW(ha:PE X a (low X.K cls E2 ta))(he:∀whole,isTrue a X.env whole=(do let v<-whole;standAt a.pos;holding [v] (truthy v))):PT X a (bB X.K cls E2 λσ M Q E=>ta σ M (boolQ Q) E):=
 (u5 ha he).imp λσ H Q2 hl_=>ex9 hl_ λσ3 M Q E3 rm ds lk h back=>aQ rm ds lk h λv H' x M' dx rm' t q=>c7 back v H' x M' dx rm' t q
variable {tA tB:St3->MH->(Bool->MH->Prop)->XN->Prop}{rest:List Expr}
theorem f8{K:PySem.W.Frag}{σ:St}{H:Hp}{σ3:St3}{M:MH}{E3:XN}{R3:Bool->MH->Prop}{R2:Bool->Hp->Prop}(rm:RelM K M H)(ds:DenS K H σ3 σ)(lk:LkE K cls H E3 (E2 σ))(h:tA σ3 M R3 E3)(k:∀b H' M',RelM K M' H'->TM K H H'->R3 b M'->R2 b H') :
  bB K cls E2 tA σ H R2:=⟨σ3,M,R3,E3,rm,ds,lk,h,k⟩
theorem mn(ha:PT X a (bB X.K cls E2 tA)):PW X (.BoolOp .And [a] pos) (bB X.K cls E2 tA):=rR ha
theorem n8(ha:PT X a (bB X.K cls E2 tA)):PW X (.BoolOp .Or [a] pos) (bB X.K cls E2 tA):=vF ha
theorem lN(ha:PT X a (bB X.K cls E2 tA))(hb:PW X (.BoolOp .And (b::rest) pos) (bB X.K cls E2 tB)) :
  PW X (.BoolOp .And (a::b::rest) pos) (bB X.K cls E2 λσ M Q E=>tA σ M (λc M1=>if c=true then tB σ M1 Q E else Q false M1) E):=
 (vi ha hb).imp λσ H Q2 hl_=>ex9 hl_ λσ3 M Q E3 rm ds lk h back=>f8 rm ds lk h λc H' M' rm' t q=>by
  cases c with
  |true=>rw[if_pos rfl]at q ⊢;exact f8 rm' (ds.mono t) (lk.mono t) q λb H2 M2 r2 t2 q2=>back b H2 M2 r2 (t.trans t2) q2
  |false=>rw[if_neg Bool.false_ne_true]at q ⊢;exact back _ _ _ rm' t q
theorem rE(ha:PT X a (bB X.K cls E2 tA))(hb:PW X (.BoolOp .Or (b::rest) pos) (bB X.K cls E2 tB)) :
  PW X (.BoolOp .Or (a::b::rest) pos) (bB X.K cls E2 λσ M Q E=>tA σ M (λc M1=>if c=true then Q true M1 else tB σ M1 Q E) E):=
 (zf ha hb).imp λσ H Q2 hl_=>ex9 hl_ λσ3 M Q E3 rm ds lk h back=>f8 rm ds lk h λc H' M' rm' t q=>by
  cases c with
  |true=>rw[if_pos rfl]at q ⊢;exact back _ _ _ rm' t q
  |false=>rw[if_neg Bool.false_ne_true]at q ⊢;exact f8 rm' (ds.mono t) (lk.mono t) q λb H2 M2 r2 t2 q2=>back b H2 M2 r2 (t.trans t2) q2
theorem vZ(ha:PT X a (bB X.K cls E2 tA)):PT X (.UnaryOp .Not a pos) (bB X.K cls E2 λσ M Q E=>tA σ M (λc M1=>Q (!c) M1) E):=
 (uB ha).imp λσ H Q2 hl_=>ex9 hl_ λσ3 M Q E3 rm ds lk h back=>f8 rm ds lk h λc H' M' rm' t q=>back _ _ _ rm' t q
theorem rY(ha:PE X a (low X.K cls E2 ta))(hb:PE X (.BoolOp .And (b::rest) pos) (low X.K cls E2 tb)) :
  PE X (.BoolOp .And (a::b::rest) pos) (low X.K cls E2 λσ M Q E=>ta σ M (λx M1=>match x with|.bl c=>if c=true then tb σ M1 Q E else Q (.bl false) M1|_=>False) E):=
 (vE ha hb).imp λσ H Q2 hl_=>ex9 hl_ λσ3 M Q E3 rm ds lk h back=>aQ rm ds lk h λv H' x M' dx rm' t q=>by
  split at q
  ·rename_i c;cases (show v=.bl c from dx);refine⟨c,rfl,?_⟩;cases c with
   |true=>rw[if_pos rfl]at q ⊢;exact aQ rm' (ds.mono t) (lk.mono t) q λv2 H2 x2 M2 d2 r2 t2 q2=>back v2 H2 x2 M2 d2 r2 (t.trans t2) q2
   |false=>rw[if_neg Bool.false_ne_true]at q ⊢;exact back _ _ _ _ aP rm' t q
  ·exact q.elim
theorem zi(ha:PE X a (low X.K cls E2 ta))(hb:PE X (.BoolOp .Or (b::rest) pos) (low X.K cls E2 tb)) :
  PE X (.BoolOp .Or (a::b::rest) pos) (low X.K cls E2 λσ M Q E=>ta σ M (λx M1=>match x with|.bl c=>if c=true then Q (.bl true) M1 else tb σ M1 Q E|_=>False) E):=
 (yS ha hb).imp λσ H Q2 hl_=>ex9 hl_ λσ3 M Q E3 rm ds lk h back=>aQ rm ds lk h λv H' x M' dx rm' t q=>by
  split at q
  ·rename_i c;cases (show v=.bl c from dx);refine⟨c,rfl,?_⟩;cases c with
   |true=>rw[if_pos rfl]at q ⊢;exact back _ _ _ _ aP rm' t q
   |false=>rw[if_neg Bool.false_ne_true]at q ⊢;exact aQ rm' (ds.mono t) (lk.mono t) q λv2 H2 x2 M2 d2 r2 t2 q2=>back v2 H2 x2 M2 d2 r2 (t.trans t2) q2
  ·exact q.elim
theorem yR(ha:PE X a (low X.K cls E2 ta)):PE X (.UnaryOp .Not a pos) (low X.K cls E2 λσ M Q E=>ta σ M (λx M1=>match x with|.bl c=>Q (.bl (!c)) M1|_=>False) E):=
 (uC ha).imp λσ H Q2 hl_=>ex9 hl_ λσ3 M Q E3 rm ds lk h back=>aQ rm ds lk h λv H' x M' dx rm' t q=>by
  split at q
  ·rename_i c;cases (show v=.bl c from dx);exact⟨c,rfl,back _ _ _ _ aP rm' t q⟩
  ·exact q.elim
theorem CB(hc:PT X c (bB X.K cls E2 tA))(ha:PE X a (low X.K cls E2 ta))(hb:PE X b (low X.K cls E2 tb)) :
  PE X (.IfExp c a b pos) (low X.K cls E2 λσ M Q E=>tA σ M (λk M1=>if k=true then ta σ M1 Q E else tb σ M1 Q E) E):=
 (pB hc ha hb).imp λσ H Q2 hl_=>ex9 hl_ λσ3 M Q E3 rm ds lk h back=>f8 rm ds lk h λk H' M' rm' t q=>by
  cases k with
  |true=>rw[if_pos rfl]at q ⊢;exact aQ rm' (ds.mono t) (lk.mono t) q λv2 H2 x2 M2 d2 r2 t2 q2=>back v2 H2 x2 M2 d2 r2 (t.trans t2) q2
  |false=>rw[if_neg Bool.false_ne_true]at q ⊢;exact aQ rm' (ds.mono t) (lk.mono t) q λv2 H2 x2 M2 d2 r2 t2 q2=>back v2 H2 x2 M2 d2 r2 (t.trans t2) q2
theorem rF{op op':CmpOp}{r r':D->D->MH->VK3->Prop}(ho:VO X (compareOp op) r)(ho':VO X (compareOp op') r')(ha:PE X a (low X.K cls E2 ta))(hb:PE X b (low X.K cls E2 tb))(hc:PE X c (low X.K cls E2 tc))(hm:lastMarks [op,op'] [b,c]=false) :
  PE X (.Compare a [op,op'] [b,c] pos) (low X.K cls E2 λσ M Q E=>ta σ M (λx M1=>tb σ M1 (λy M2=>r x y M2 λz M3=>match z with
   |.bl k=>if k=true then tc σ M3 (λz M4=>r' y z M4 Q) E else Q (.bl false) M3
   |_=>False) E) E):=
 (pQ ho.op ho'.op ha hb hc hm).imp λσ H Q2 hl_=>ex9 hl_ λσ3 M Q E3 rm ds lk h back=>kI rm ds lk h λv u H' x y M' dx dy rm' t q=>⟨x,y,M',_,dx,dy,rm',q,λw H1 z M1 dz rm1 t1 q1=>by
  split at q1
  ·rename_i k;refine⟨k,dz,?_⟩;cases k with
   |true=>rw[if_pos rfl]at q1 ⊢;exact aQ rm1 ((ds.mono t).mono t1) ((lk.mono t).mono t1) q1 λv2 H2 x2 M2 d2 r2 t2 q2=>⟨y,x2,M2,Q,(dy.mono t1).mono t2,d2,r2,q2,(back.mono t).mono (t1.trans t2)⟩
   |false=>rw[if_neg Bool.false_ne_true]at q1 ⊢;exact back _ _ _ _ aP rm1 (t.trans t1) q1
  ·exact q1.elim⟩
theorem qd{op op':CmpOp}{r r':D->D->MH->VK3->Prop}(ho:VO X (compareOp op) r)(ho':VO X (compareOp op') r')(ha:PE X a (low X.K cls E2 ta))(hb:PE X b (low X.K cls E2 tb))(hc:PE X c (low X.K cls E2 tc))(hm:lastMarks [op,op'] [b,c]=false) :
  PT X (.Compare a [op,op'] [b,c] pos) (bB X.K cls E2 λσ M Q E=>ta σ M (λx M1=>tb σ M1 (λy M2=>r x y M2 λz M3=>match z with
   |.bl k=>if k=true then tc σ M3 (λz M4=>r' y z M4 (boolQ Q)) E else Q false M3
   |_=>False) E) E):=
 (oP ho.op ho'.op ha hb hc hm).imp λσ H Q2 hl_=>ex9 hl_ λσ3 M Q E3 rm ds lk h back=>kI rm ds lk h λv u H' x y M' dx dy rm' t q=>⟨x,y,M',_,dx,dy,rm',q,λw H1 z M1 dz rm1 t1 q1=>by
  split at q1
  ·rename_i k;refine⟨k,dz,?_⟩;cases k with
   |true=>rw[if_pos rfl]at q1 ⊢;exact aQ rm1 ((ds.mono t).mono t1) ((lk.mono t).mono t1) q1 λv2 H2 x2 M2 d2 r2 t2 q2=>⟨y,x2,M2,_,(dy.mono t1).mono t2,d2,r2,q2,((c7 back).mono t).mono (t1.trans t2)⟩
   |false=>rw[if_neg Bool.false_ne_true]at q1 ⊢;exact⟨false,rfl,back _ _ _ rm1 (t.trans t1) q1⟩
  ·exact q1.elim⟩
noncomputable def p6(r r' r'':R2)(ta tb tc td:TE):TE:=λσ H Q=>ta σ H λx H1=>tb σ H1 λy H2=>r x y H2 λz H3=>∃k,z=.bl k/\
 (if k=true then tc σ H3 (λw H4=>r' y w H4 λz2 H5=>∃k2,z2=.bl k2/\(if k2=true then td σ H5 λu H6=>r'' w u H6 Q else Q (.bl false) H5)) else Q (.bl false) H3)
theorem nF{a b c d:Expr}{ta tb tc td:TE}{op op' op'':CmpOp}{r r' r'':R2}(ho:OpR X (compareOp op) r)(ho':OpR X (compareOp op') r')(ho'':OpR X (compareOp op'') r'')(ha:PE X a ta)(hb:PE X b tb)(hc:PE X c tc)(hd:PE X d td)
  (hm:lastMarks [op,op',op''] [b,c,d]=false):PT X (.Compare a [op,op',op''] [b,c,d] pos) (nZ (p6 r r' r'' ta tb tc td)):=by
 intro pins s σ H Q I h;refine isTrue_chain (thn (ha pins s σ H _ I h) λv s1 ⟨x,H1,I1,r1,q1⟩=>test_link (thn (hb pins s1 σ H1 _ I1 q1) λu s2 ⟨y,H2,I2,r2,q2⟩=>
  thn (ho pins s2 σ H2 x y v u _ I2 r1 r2 q2) λd s3 ⟨z,H3,I3,r3,k,e,q3⟩=>?_)) hm
 subst e;cases r3;refine wpAny_truthy_bool ?_;cases k with
 |false=>
  obtain⟨k',e',q'⟩:=q3;cases e';exact ite_ff ⟨H3,I3,q'⟩
 |true=>
  refine ite_tt (test_link (thn (hc pins s3 σ H3 _ I3 q3) λw' s4 ⟨z',H4,I4,r4,q4⟩=>thn (ho' pins s4 σ H4 y z' u w' _ I4 r2 r4 q4) λd' s5 ⟨z2,H5,I5,r5,k2,e2,q5⟩=>?_))
  subst e2;cases r5;refine wpAny_truthy_bool ?_;cases k2 with
  |false=>
   obtain⟨k',e',q'⟩:=q5;cases e';exact ite_ff ⟨H5,I5,q'⟩
  |true=>
   refine ite_tt (test_last (thn (hd pins s5 σ H5 _ I5 q5) λw2 s6 ⟨z3,H6,I6,r6,q6⟩=>thn (ho'' pins s6 σ H6 z' z3 w' w2 _ I6 r4 r6 q6) λd2 s7 ⟨z4,H7,I7,r7,k3,e3,q7⟩=>?_))
   subst e3;cases r7;exact wpAny_truthy_bool ⟨H7,I7,q7⟩
theorem oU{d:Expr}{td:St3->MH->VK3->XN->Prop}{op op' op'':CmpOp}{r r' r'':D->D->MH->VK3->Prop}(ho:VO X (compareOp op) r)(ho':VO X (compareOp op') r')(ho'':VO X (compareOp op'') r'')(ha:PE X a (low X.K cls E2 ta))(hb:PE X b (low X.K cls E2 tb))(hc:PE X c (low X.K cls E2 tc))(hd:PE X d (low X.K cls E2 td))(hm:lastMarks [op,op',op''] [b,c,d]=false) :
  PT X (.Compare a [op,op',op''] [b,c,d] pos) (bB X.K cls E2 λσ M Q E=>ta σ M (λx M1=>tb σ M1 (λy M2=>r x y M2 λz M3=>match z with
   |.bl k=>if k=true then tc σ M3 (λz M4=>r' y z M4 λo M5=>match o with
    |.bl k=>if k=true then td σ M5 (λu M6=>r'' z u M6 (boolQ Q)) E else Q false M5
    |_=>False) E else Q false M3
   |_=>False) E) E):=
 (nF ho.op ho'.op ho''.op ha hb hc hd hm).imp λσ H Q2 hl_=>ex9 hl_ λσ3 M Q E3 rm ds lk h back=>kI rm ds lk h λv u H' x y M' dx dy rm' t q=>⟨x,y,M',_,dx,dy,rm',q,λw H1 z M1 dz rm1 t1 q1=>by
  split at q1
  ·rename_i k;refine⟨k,dz,?_⟩;cases k with
   |true=>
    rw[if_pos rfl]at q1 ⊢;refine aQ rm1 ((ds.mono t).mono t1) ((lk.mono t).mono t1) q1 λv2 H2 x2 M2 d2 r2 t2 q2=>⟨y,x2,M2,_,(dy.mono t1).mono t2,d2,r2,q2,λw3 H3 z3 M3 dz3 rm3 t3 q3=>?_⟩
    split at q3
    ·rename_i k;refine⟨k,dz3,?_⟩;cases k with
     |true=>
      rw[if_pos rfl]at q3 ⊢;exact aQ rm3 ((((ds.mono t).mono t1).mono t2).mono t3) ((((lk.mono t).mono t1).mono t2).mono t3) q3 λv4 H4 x4 M4 d4 r4 t4 q4=>⟨x2,x4,M4,_,(d2.mono t3).mono t4,d4,r4,q4,(((c7 back).mono t).mono (t1.trans t2)).mono (t3.trans t4)⟩
     |false=>rw[if_neg Bool.false_ne_true]at q3 ⊢;exact⟨false,rfl,back _ _ _ rm3 (((t.trans t1).trans t2).trans t3) q3⟩
    ·exact q3.elim
   |false=>rw[if_neg Bool.false_ne_true]at q1 ⊢;exact⟨false,rfl,back _ _ _ rm1 (t.trans t1) q1⟩
  ·exact q1.elim⟩
variable {es:List Expr}{tr:St3->MH->(List D->MH->Prop)->XN->Prop}
theorem fe{K:PySem.W.Frag}{σ:St}{H:Hp}{σ3:St3}{M:MH}{E3:XN}{R3:List D->MH->Prop}{R2:List V->Hp->Prop}(rm:RelM K M H)(ds:DenS K H σ3 σ)(lk:LkE K cls H E3 (E2 σ))(h:tr σ3 M R3 E3)(k:∀vs H' xs M',DenL K H' xs vs->RelM K M' H'->TM K H H'->R3 xs M'->R2 vs H') :
  dN K cls E2 tr σ H R2:=⟨σ3,M,R3,E3,rm,ds,lk,h,k⟩
theorem wV:PA X [] (dN X.K cls E2 λ_ M Q _=>Q [] M):=pa_nil.imp λσ H Q2 hl_=>ex9 hl_ λσ3 M Q E3 rm ds lk h back=>back _ _ _ _ .nil rm (.refl _) h
theorem vB(ha:PE X e (low X.K cls E2 te))(hr:PA X es (dN X.K cls E2 tr))(hs:starEach (e::es) X.env=(false,eval e X.env)::starEach es X.env) :
  PA X (e::es) (dN X.K cls E2 λσ M Q E=>te σ M (λx M1=>tr σ M1 (λxs M2=>Q (x::xs) M2) E) E):=
 (aW ha hr hs).imp λσ H Q2 hl_=>ex9 hl_ λσ3 M Q E3 rm ds lk h back=>aQ rm ds lk h λv H1 x M1 dx rm1 t1 q1=>fe rm1 (ds.mono t1) (lk.mono t1) q1 λvs H2 xs M2 dl rm2 t2 q2=>back _ _ _ _ (.cons (dx.mono t2) dl) rm2 (t1.trans t2) q2
theorem vU{x1}(h:PA X es (dN X.K cls E2 tr)):PE X (.Tuple es x1 pos) (low X.K cls E2 λσ M Q E=>tr σ M (λxs M1=>xs.length<=sizeLine/\Q (.tup xs) M1) E):=
 (uM h).imp λσ H Q2 hl_=>ex9 hl_ λσ3 M Q E3 rm ds lk h back=>fe rm ds lk h λvs H' xs M' dl rm' t ⟨z,q⟩=>⟨by rw[<-dl.length];exact z,λp hp=>
  back _ _ _ _ (fy (.of ag) (dl.mono (.new hp))) (rm'.grow hp) (t.trans (.new hp)) q⟩
theorem xk{t2:TE}(h:PE X e t2){t:St3->MH->VK3->XN->Prop}{fz:Bool}
  (f:∀σ H σ3 M Q E3 (R2:VK),RelM X.K M H->DenS X.K H σ3 σ->LkE X.K cls H E3 (E2 σ)->t σ3 M Q E3->(∀H' vs ds M' p,H' p=none->DenL X.K H' ds vs->RelM X.K M' H'->TM X.K H H'->bb fz ds M' Q->R2 (.ref p) (upd H' p (.lst vs)))->t2 σ H R2):PE X e (low X.K cls E2 t):=by
 refine λpins s σ H Q2 I hl_=>ex9 hl_ λσ3 M Q E3 rm ds lk q back=>?_
 refine thn (h pins s σ H (λv H1=>∃p H' vs ds M',v=.ref p/\H1=upd H' p (.lst vs)/\H' p=none/\DenL X.K H' ds vs/\RelM X.K M' H'/\TM X.K H H'/\bb fz ds M' Q) I
  (f σ H σ3 M Q E3 _ rm ds lk q λH' vs ds M' p hp dl rm' t' n=>⟨p,H',vs,ds,M',rfl,rfl,hp,dl,rm',t',n⟩)) λu s1 ⟨v,H1,I1,r1,p,H',vs,ds',M',e1,e2,hp,dl,rm',t',n⟩=>?_
 subst e1;subst e2;cases r1;exact bH I1 hp dl rm' t' n back
theorem xj(h:PA X es (dN X.K cls E2 tr)):PE X (.List es pos) (low X.K cls E2 λσ M Q E=>tr σ M (λxs M1=>bb fz xs M1 Q) E):=
 xk (fz:=fz) (vJ h) λσ H σ3 M Q E3 R2 rm ds lk q k=>fe rm ds lk q λvs H' xs M' dl rm' t n=>⟨by rw[<-dl.length];exact n.1,λp hp=>k H' vs xs M' p hp dl rm' t n⟩
theorem vy(hu:X.A.units+64 < cLine):IxR X (λv u H Q2=>∃x y M Q,Den X.K H x v/\Den X.K H y u/\RelM X.K M H/\aG x y M Q/\Back X.K H Q Q2):=by
 intro value slice pins s σ H v u v2 u2 Q2 I rv ru ⟨x,y,M,Q,dx,dy,rm,q,back⟩ hs;unfold aG at q;split at q
 ·rename_i es e;split at q
  ·rename_i i;cases (show u=.int i from dy);split at q
   ·rename_i d e2;obtain⟨p,vs,rfl,hq,dl⟩:=de rm e dx;obtain⟨w,e4,e5⟩:=rg dl e2;refine vM value slice pins s σ H _ _ v2 u2 Q2 I rv ru ?_ hs;rcases hq with hq|hq
    ·exact .inl ⟨p,vs,i,w,rfl,rfl,hq,e4,back _ _ _ _ e5 rm (.refl _) q⟩
    ·exact .inr (.inl ⟨p,vs,i,w,rfl,rfl,hq,e4,back _ _ _ _ e5 rm (.refl _) q⟩)
   ·exact q.elim
  ·exact q.elim
 ·split at q
  ·rename_i d e;obtain⟨a,ov,rfl,g,od⟩:=kJ (X:=X) e rm dx dy;cases rv;cases ov with
   |none=>exact od.elim
   |some w=>exact tail_any (g.isDict I) PySem.F.slot_dict_getitem.lookup (nv (by omega) I g rfl ru λw' s' I' rw'=>⟨w,H,I',rw',back _ _ _ _ od rm (.refl _) q⟩) hs
  ·exact q.elim
  ·split at q
   ·rename_i z i _ _;cases (show v=.str z from dx);cases (show u=.int i from dy);obtain⟨t,rfl⟩:=rv;obtain⟨t',rfl⟩:=ru;obtain⟨⟨h0,h1,h63⟩,q⟩:=q;have e:seqIndex? i z.length=some i.toNat:=PySem.StrLaws.seqIndex_nonneg h0 h1;have hz:i.toNat < z.cps.size:=by
     have:(i:Int) < (z.cps.size:Int):=h1;omega
    have hc:z.cps[i.toNat]?=some (z.cps.getD i.toNat 0):=by simp[hz]
    exact tail_any (typeIs_str s z t) slot_str_getitem.lookup (getItem_str (c:=z.cps.getD i.toNat 0) (by
     rw[decide_eq_false (by omega:¬ i < -(2 ^ 63:Int)),decide_eq_false (by omega:¬ i>=2 ^ 63)];rfl) (by rw[e];exact hc) ⟨.str (cR z i.toNat),H,I.tok _,⟨_,rfl⟩,back _ _ _ _ bS rm (.refl _) q⟩) hs
   ·exact q.elim
theorem BF(hu:X.A.units+64 < cLine)(ha:PE X a (low X.K cls E2 ta))(hb:PE X b (low X.K cls E2 tb))(hs:jx b):PE X (.Subscript a b pos) (low X.K cls E2 λσ M Q E=>ta σ M (λx M1=>tb σ M1 (λy M2=>aG x y M2 Q) E) E):=
 (yG (vy hu) ha hb hs).imp λσ H Q2 hl_=>ex9 hl_ λσ3 M Q E3 rm ds lk h back=>kI rm ds lk h λv u H' x y M' dx dy rm' t q=>⟨x,y,M',Q,dx,dy,rm',q,back.mono t⟩
variable {lo hi:Option Expr}{tl th:St3->MH->(Option Int->MH->Prop)->XN->Prop}{p2:Pos}
theorem CI:PO X none (mE X.K cls E2 λ_ M Q _=>Q none M):=po_none.imp λσ H Q2 hl_=>ex9 hl_ λσ3 M Q E3 rm ds lk h back=>back _ _ _ rm (.refl _) h
theorem xQ(h:PE X e (low X.K cls E2 te)):PO X (some e) (mE X.K cls E2 λσ M Q E=>te σ M (λx M1=>match x with|.int i=>Q (some i) M1|_=>False) E):=
 (qf h).imp λσ H Q2 hl_=>ex9 hl_ λσ3 M Q E3 rm ds lk h back=>aQ rm ds lk h λv H1 x M1 dx rm1 t1 q1=>by
  split at q1
  ·exact⟨_,dx,back _ _ _ rm1 t1 q1⟩
  ·exact q1.elim
theorem se{t:St3->MH->(Option Int->MH->Prop)->XN->Prop}{K:PySem.W.Frag}{σ:St}{H:Hp}{σ3:St3}{M:MH}{E3:XN}{R3:Option Int->MH->Prop}{R2:Option Int->Hp->Prop}(rm:RelM K M H)(ds:DenS K H σ3 σ)(lk:LkE K cls H E3 (E2 σ))(h:t σ3 M R3 E3)(k:∀o H' M',RelM K M' H'->TM K H H'->R3 o M'->R2 o H') :
  mE K cls E2 t σ H R2:=⟨σ3,M,R3,E3,rm,ds,lk,h,k⟩
theorem vX(ha:PE X a (low X.K cls E2 ta))(hb:PE X b (low X.K cls E2 tb)) :
  PE X (.BinOp a .Add b pos) (low X.K cls E2 λσ M Q E=>ta σ M (λx M1=>tb σ M1 (λy M2=>ba fz x y M2 Q) E) E):=wR (tM fz) ha hb
theorem yI(h:PE X e (low X.K cls E2 te)):PE X e (low X.K cls E2 λσ M Q E=>te σ M (fx Q) E):=by
 refine λpins s σ H Q2 I hl_=>ex9 hl_ λσ3 M Q E3 rm ds lk q back=>?_
 refine thn (h pins s σ H (λv H1=>∃d M1,Den X.K H1 d v/\RelM X.K M1 H1/\TM X.K H H1/\fx Q d M1) I ⟨σ3,M,_,E3,rm,ds,lk,q,λv H' d M' a b c e=>⟨d,M',a,b,c,e⟩⟩) λu s1 ⟨v,H1,I1,r1,d,M1,dv,rm1,t1,q1⟩=>?_
 obtain⟨H2,M2,d2,I2,t2,rm2,dv2,q2⟩:=md I1 rm1 dv q1;exact⟨v,H2,I2,r1,back _ _ _ _ dv2 rm2 (t1.trans t2) q2⟩
theorem oi(h:PE X e (low X.K cls E2 te)):PE X e (low X.K cls E2 λσ M Q E=>te σ M (bP Q) E):=by
 refine λpins s σ H Q2 I hl_=>ex9 hl_ λσ3 M Q E3 rm ds lk q back=>?_
 refine thn (h pins s σ H (λv H1=>∃d M1,Den X.K H1 d v/\RelM X.K M1 H1/\TM X.K H H1/\bP Q d M1) I ⟨σ3,M,_,E3,rm,ds,lk,q,λv H' d M' a b c e=>⟨d,M',a,b,c,e⟩⟩) λu s1 ⟨v,H1,I1,r1,d,M1,dv,rm1,t1,q1⟩=>?_
 have q1:fx Q d M1:=by
  unfold bP at q1;split at q1
  ·split at q1
   ·rename_i a ds' e;simp only[fx,e];exact q1
   ·exact q1.elim
  ·exact q1.elim
 obtain⟨H2,M2,d2,I2,t2,rm2,dv2,q2⟩:=md I1 rm1 dv q1;exact⟨v,H2,I2,r1,back _ _ _ _ dv2 rm2 (t1.trans t2) q2⟩
end
end L2
namespace L2
open PySem PySem.Spec PyProof.Rows
theorem tF{K:PySem.W.Frag}(h:CX1 P w outer H s (λc d H'=>TM K H H'->E c d H') e s'):CX1 P w outer H s E e s':=by
 obtain⟨a,cls,B,H',dx,h1,h2,h3,un,hok,fl,ha,inc,he⟩:=h;exact⟨a,cls,B,H',dx,h1,h2,h3,un,hok,fl,ha,inc,he (.un un.tups un.frzs)⟩
section
variable {X:Cx}{cls:Nat->Addr}{E2:St->XK}{k:Nat}{f:Addr}{fd:FuncData}{ps:List Str}{x:Str}{p pos:Pos}{e:Expr}{es:List Expr}{tr:St3->MH->(List D->MH->Prop)->XN->Prop}{t3:List D->MH->VK3->XN->Prop}
noncomputable def spX(K:PySem.W.Frag)(cls:Nat->Addr)(t3:List D->MH->VK3->XN->Prop):Sp:=λvs H Q E=>∃ds M Q3 E3,DenL K H ds vs/\RelM K M H/\t3 ds M Q3 E3/\Back K H Q3 Q/\LkE K cls H E3 E
noncomputable def BdT(K:PySem.W.Frag)(cls:Nat->Addr)(fd:FuncData)(ps:List Str)(t3:List D->MH->VK3->XN->Prop)(sp:Sp):Prop:=∀vs H Q E,spX K cls t3 vs H Q E->∃dvs ds,Vals dvs ds/\Binds K fd ps ds/\sp (vs++dvs) H Q E
theorem lR(F:FnOk X.prog X.w X.K X.mg X.base (CX1 X.prog X.w) k f fd ps sp)(hr:Room k X.A)(hb:BdT X.K cls fd ps t3 sp)(hx:bF (CX1 X.prog X.w) X E2)
  (I:Inv X pins σ H s)(r:Vals vs us) (h:spX X.K cls t3 vs H Q (λc d H'=>TM X.K H H'->E2 σ c d H')):wpAny (model X.prog X.w) X.A (call (.ref f) us) (EP X pins σ Q) X.xe s:=by
 obtain⟨dvs,dsv,hv,bd,h'⟩:=hb _ _ _ _ h;have r2:Vals (vs++dvs) (us++dsv):=r.append hv;have hl:(us++dsv).length=ps.length:=by rw[<-r2.length];exact F.len _ _ _ _ h'
 refine wpAny_call (codeAny_mono (F.run X.A X.stack s H ⟨us,[]⟩ (us++dsv) (vs++dvs) Q _ hr I.env0 (bd s us I.kIn hl) r2 h') λz s' hq=>?_)
 match z,hq with
 |.error e,hq=>exact hx pins σ H s e s' I (tF hq)
 |.ok (.ret u),hq=>exact I.after hq
 |.ok .next,hq=>exact hq.elim
 |.ok .brk,hq=>exact hq.elim
 |.ok .cont,hq=>exact hq.elim
theorem pD{σ:St}{H:Hp}{xs:List D}{vs:List V}{M:MH}{Q:VK3}{Q2:VK}{E3:XN}(dl:DenL X.K H xs vs)(rm:RelM X.K M H)(lk:LkE X.K cls H E3 (E2 σ))(q:t3 xs M Q E3)(back:Back X.K H Q Q2) :
  spX X.K cls t3 vs H Q2 (λc d H'=>TM X.K H H'->E2 σ c d H'):=
 ⟨xs,M,Q,E3,dl,rm,q,back,λi M' H' t rm' q dx xd _=>lk i M' H' t rm' q dx xd⟩
theorem uz(F:FnOk X.prog X.w X.K X.mg X.base (CX1 X.prog X.w) k f fd ps sp)(hr:Room k X.A)(hg:Gl X x)(hm:X.mg x=some (.ref f))(hk:PySem.W.keepIn X.K (.ref f)=true)(hb:BdT X.K cls fd ps t3 sp)(hx:bF (CX1 X.prog X.w) X E2)
  (ha:PA X (e::es) (dN X.K cls E2 tr)) (hdb:(x == ("__debug__" : Str))=false) (he:starEach (e::es) X.env=(false,eval e X.env)::starEach es X.env) (hpl:(backTo pos (starEach es X.env)).any (·.1)=false) :
  PE X (.Call (.Name x p) (e::es) [] pos) (low X.K cls E2 λσ M Q E=>tr σ M (λxs M1=>t3 xs M1 Q E) E):=λpins s σ H Q2 I hl_=>ex9 hl_ λσ3 M Q E3 rm ds lk h back=>
 wpAny_Call_Name_kw (bU I hg hm (PySem.W.callWith_K (h₀:=X.base) I.ok.mod.kin hk (thn (ha pos pins s σ H _ I (fe (R2:=λvs H1=>spX X.K cls t3 vs H1 Q2 (λc d H'=>TM X.K H1 H'->E2 σ c d H')) rm ds lk h
  λvs H1 xs M1 dl rm1 t1 q1=>pD dl rm1 (lk.mono t1) q1 (back.mono t1))) λus s1 ⟨vs,H1,I1,r,q⟩=>⟨I1.kIn,lR F hr hb hx I1 r q⟩) he hpl) hdb)
theorem qX(F:FnOk X.prog X.w X.K X.mg X.base (CX1 X.prog X.w) k f fd ps sp)(hr:Room k X.A)(hg:Gl X x)(hm:X.mg x=some (.ref f))(hk:PySem.W.keepIn X.K (.ref f)=true)(hb:BdT X.K cls fd ps t3 sp)(hx:bF (CX1 X.prog X.w) X E2)(hdb:(x == ("__debug__" : Str))=false) :
  PE X (.Call (.Name x p) [] [] pos) (low X.K cls E2 λσ M Q E=>t3 [] M Q E):=λpins s σ H Q2 I hl_=>ex9 hl_ λσ3 M Q E3 rm ds lk h back=>
 wpAny_Call_Name_kw (bU I hg hm (PySem.W.callWith_K0 I.kIn hk (lR (us:=[]) F hr hb hx I .nil (pD (xs:=[]) .nil rm lk h back))) hdb)
theorem i7{id:String}(hc:VC X (.builtin id) r)(hg:Gl X x)(hm:X.mg x=none)(hv:bootBuiltins x=some (.builtin id))(ha:PA X (e::es) (dN X.K cls E2 tr))(hn:x≠"__name__")(hdb:(x == ("__debug__" : Str))=false)
  (he:starEach (e::es) X.env=(false,eval e X.env)::starEach es X.env) (hpl:(backTo pos (starEach es X.env)).any (·.1)=false):PE X (.Call (.Name x p) (e::es) [] pos) (low X.K cls E2 λσ M Q E=>tr σ M (λxs M1=>r xs M1 Q) E):=
 (gk hc.op hg hm hv ha hn hdb he hpl).imp λσ H Q2 hl_=>ex9 hl_ λσ3 M Q E3 rm ds lk h back=>fe rm ds lk h λvs H1 xs M1 dl rm1 t1 q1=>⟨xs,M1,Q,dl,rm1,q1,back.mono t1⟩
theorem fN(hc:VC X (.type T) r)(hg:Gl X x)(hm:X.mg x=none)(hv:bootBuiltins x=some (.type T))(ha:PA X (e::es) (dN X.K cls E2 tr))(hn:x≠"__name__")(hdb:(x == ("__debug__" : Str))=false)
  (he:starEach (e::es) X.env=(false,eval e X.env)::starEach es X.env) (hpl:(backTo pos (starEach es X.env)).any (·.1)=false):PE X (.Call (.Name x p) (e::es) [] pos) (low X.K cls E2 λσ M Q E=>tr σ M (λxs M1=>r xs M1 Q) E):=
 (ni hc.op hg hm hv ha hn hdb he hpl).imp λσ H Q2 hl_=>ex9 hl_ λσ3 M Q E3 rm ds lk h back=>fe rm ds lk h λvs H1 xs M1 dl rm1 t1 q1=>⟨xs,M1,Q,dl,rm1,q1,back.mono t1⟩
noncomputable def bA:BT->String
 |.int=>"int"|.bool=>"bool"|.str=>"str"|.tuple=>"tuple"|.list=>"list"|.dict=>"dict"
theorem tL{pins:List (Addr×Obj)}{σ:St}{H:Hp}{s:Shared}{A:Around}{Ex:Value->Shared->Prop}{t:BT}{x:D}{v:V}{v2:Value}{M:MH}{Q:VK3}{Q2:VK}(I:Inv X pins σ H s)(rv:RelV v v2)(dx:Den X.K H x v)(rm:RelM X.K M H)(q:di t x M Q)(back:Back X.K H Q Q2) :
  wpAny (model X.prog X.w) A (call (.builtin "isinstance") [v2,.type (bA t)]) (EP X pins σ Q2) Ex s:=by
 refine d5 I.tk ?_;have fin:∀b,Q (.bl b) M->∀tk,0 < tk->EP X pins σ Q2 (.bool b) {s with toks:=tk}:=λb q tk _=>⟨.bl b,H,I.tok _,rfl,back _ _ _ _ aP rm (.refl _) q⟩
 cases x with
 |non=>cases (show v=.non from dx);cases rv;cases t<;>exact PySem.W.kia_one PySem.W.kitx_none I.kIn True.intro rfl (λz=>nomatch z) (fin _ q)
 |bl b=>cases (show v=.bl b from dx);cases rv;cases t<;>exact PySem.W.kia_one PySem.W.kitx_bool I.kIn True.intro rfl (λz=>nomatch z) (fin _ q)
 |int i=>cases (show v=.int i from dx);obtain⟨tk,rfl⟩:=rv;cases t<;>exact PySem.W.kia_one PySem.W.kitx_int I.kIn True.intro rfl (λz=>nomatch z) (fin _ q)
 |str i=>cases (show v=.str i from dx);obtain⟨tk,rfl⟩:=rv;cases t<;>exact PySem.W.kia_one PySem.W.kitx_str I.kIn True.intro rfl (λz=>nomatch z) (fin _ q)
 |tup ds=>
  obtain⟨a,vs,rfl,sq,_⟩:=dx;cases rv;obtain⟨its,_,tt,_⟩:=I.tuple sq;obtain⟨o,h1,h2,_⟩:=(show s.heap.IsTuple a its.toArray from tt);cases t<;>exact PySem.W.kia_one PySem.W.kitx_tuple I.kIn ⟨o,h1,h2⟩ rfl (λz=>nomatch z) (fin _ q)
 |rol ds=>
  obtain⟨a,vs,rfl,sq,_⟩:=dx;cases rv;obtain⟨_,its,n,_,_,h1⟩:=I.rdL sq.rd;cases t<;>exact PySem.W.kia_one PySem.W.kitx_list I.kIn ⟨_,h1,rfl⟩ rfl (λz=>nomatch z) (fin _ q)
 |ref a=>
  cases (show v=.ref a from dx);cases rv;simp only[di]at q;split at q
  ·rename_i ds e;obtain⟨vs,e1,_⟩:=rm a _ e;obtain⟨_,its,n,_,_,h1⟩:=I.rdL (.inl (.inl e1));cases t<;>exact PySem.W.kia_one PySem.W.kitx_list I.kIn ⟨_,h1,rfl⟩ rfl (λz=>nomatch z) (fin _ q)
  ·rename_i ks ds e;obtain⟨vs,e1,_,_⟩:=rm a _ e;obtain⟨_,_,_,_,o,_,_,h1,h2,_⟩:=I.hok a _ e1;cases t<;>exact PySem.W.kia_one PySem.W.kitx_dict I.kIn ⟨o,h1,h2.1⟩ rfl (λz=>nomatch z) (fin _ q)
  ·rename_i ks ds e;obtain⟨vs,xs,e1,_⟩:=rm a _ e;obtain⟨⟨o,es,ep,h1,h2,_⟩,_⟩:=(show ObjOk X.prog X.w H s.heap a (.ext (dW a xs)) from I.hok a _ e1);cases t<;>exact PySem.W.kia_one PySem.W.kitx_dict I.kIn ⟨o,h1,h2.1⟩ rfl (λz=>nomatch z) (fin _ q)
  ·exact q.elim
 |dik ks ds=>
  obtain⟨a,vs,ob,rfl,e1,_⟩:=dx;cases rv;obtain⟨_,_,_,ws,_,p⟩:=(show ObjOk X.prog X.w H s.heap a (.frz ob (.dK (ks.zip vs))) from I.hok a _ e1);obtain⟨o,es,ep,h1,h2,_⟩:=p;cases t<;>exact PySem.W.kia_one PySem.W.kitx_dict I.kIn ⟨o,h1,h2.1⟩ rfl (λz=>nomatch z) (fin _ q)
 |dit ks ds=>
  obtain⟨a,vs,ob,xs,rfl,e1,_⟩:=dx;cases rv;obtain⟨_,⟨o,es,ep,h1,h2,_⟩,_⟩:=(show ObjOk X.prog X.w H s.heap a (.frz ob (.ext (dW a xs))) from I.hok a _ e1);cases t<;>exact PySem.W.kia_one PySem.W.kitx_dict I.kIn ⟨o,h1,h2.1⟩ rfl (λz=>nomatch z) (fin _ q)
 |obj i C ns ds=>exact (show False from q).elim
theorem wt(ha:PE X e (low X.K cls E2 te))(hg:Gl X "isinstance")(hm:X.mg "isinstance"=none)(hg2:Gl X (bA t))(hm2:X.mg (bA t)=none)(hs:starEach (e::[.Name (bA t) p2]) X.env=(false,eval e X.env)::starEach [.Name (bA t) p2] X.env) :
  PE X (.Call (.Name "isinstance" p) [e,.Name (bA t) p2] [] pos) (low X.K cls E2 λσ M Q E=>te σ M (λx M1=>di t x M1 Q) E):=by
 have hT:PE X (.Name (bA t) p2) (tC (.ty (bA t))):=by
  cases t<;>exact rT hg2 hm2 (by decide +kernel) rfl
 have hc:CallR X (.builtin "isinstance") (λvs H Q2=>∃x v M Q,vs=[v,.ty (bA t)]/\Den X.K H x v/\RelM X.K M H/\di t x M Q/\Back X.K H Q Q2):=by
  refine λpins s σ H vs us Q2 I r hl_=>ex9 hl_ λx v M Q e dx rm q back=>?_
  subst e;obtain⟨u,w,rfl,ru,rw⟩:=Vals.two r;cases (show w=Value.type (bA t) from rw);exact tL I ru dx rm q back
 refine (gk hc hg hm (by decide +kernel) (aW ha (aW hT pa_nil (by rfl)) hs) (by decide +kernel) (by decide +kernel) hs (by rfl)).imp λσ H Q2 hl_=>ex9 hl_ λσ3 M Q E3 rm ds lk h back=>?_
 exact aQ rm ds lk h λv H1 x M1 dx rm1 t1 q1=>⟨x,v,M1,Q,rfl,dx,rm1,q1,back.mono t1⟩
end
section
variable {X:Cx}
theorem uy{K:PySem.W.Frag}(sq:SqT K H0 p vs)(dl:DenL K H0 ds vs):ItOk K H0 (Itt K p) ds (λ_=>True):=by
 refine⟨λi H M t rm s hi=>?_,λi H M x H' t rm s hi y=>?_,λH M t rm s=>?_⟩
 ·have hi':i < vs.length:=by rw[<-dl.length];exact hi
  exact⟨vs,vs[i],t.t _ _ sq,by simp[hi']⟩
 ·obtain⟨e,y⟩:=y;subst e;obtain⟨d,e1,e2⟩:=(dl.mono t).get' (y vs (t.t _ _ sq));exact⟨.refl _,rm,d,e1,e2⟩
 ·exact⟨vs,t.t _ _ sq,by rw[dl.length];exact Nat.le_refl _⟩
theorem tQ{K:PySem.W.Frag}(sq:SqF K H0 p vs)(dl:DenL K H0 ds vs):ItOk K H0 (Itl K p) ds (λ_=>True):=by
 refine⟨λi H M t rm s hi=>?_,λi H M x H' t rm s hi y=>?_,λH M t rm s=>?_⟩
 ·have hi':i < vs.length:=by rw[<-dl.length];exact hi
  exact⟨vs,vs[i],(t.f _ _ sq).sq,by simp[hi']⟩
 ·obtain⟨e,y⟩:=y;subst e;obtain⟨d,e1,e2⟩:=(dl.mono t).get' (y vs (t.f _ _ sq).sq);exact⟨.refl _,rm,d,e1,e2⟩
 ·exact⟨vs,(t.f _ _ sq).sq,by rw[dl.length];exact Nat.le_refl _⟩
theorem sP{K:PySem.W.Frag}:ItOk K H0 (Itl K p) ds (λM=>M p=some (.lst ds)):=by
 refine⟨λi H M t rm s hi=>?_,λi H M x H' t rm s hi y=>?_,λH M t rm s=>?_⟩
 ·obtain⟨vs,e,dl⟩:=rm p _ s;have hi':i < vs.length:=by rw[<-dl.length];exact hi
  exact⟨vs,vs[i],.of e,by simp[hi']⟩
 ·obtain⟨vs,e,dl⟩:=rm p _ s;obtain⟨e',y⟩:=y;subst e';obtain⟨d,e1,e2⟩:=dl.get' (y vs (.of e));exact⟨.refl _,rm,d,e1,e2⟩
 ·obtain⟨vs,e,dl⟩:=rm p _ s;exact⟨vs,.of e,by rw[dl.length];exact Nat.le_refl _⟩
theorem iq(I:Inv X pins σ H s)(hq:SqL X.K H a xs)(q:R (Itl X.K a) H):wpAny (model X.prog X.w) X.A (pyIter (.ref a)) (PIE X pins σ tg R) Ex s:=by
 obtain⟨its,rv,p,hz⟩:=I.list hq;refine wpAny_pyIter_list p.isList ?_;refine⟨s.heap.objs.size,[s.heap.objs.size],_,_,H,rfl,I.kept (t':=s.toks) λb o e=>Heap.get?_push_of_some _ e,mU a _,⟨_,Heap.get?_push_size _ rfl,rfl,rfl⟩,λb hb=>?_,q⟩
 have e:b=s.heap.objs.size:=by simpa using hb
 subst e;exact I.fpOk (Nat.le_refl _) (I.hok.fresh (Nat.le_refl _))
theorem pP(I:Inv X pins σ H s)(hq:SqT X.K H a xs)(q:R (Itt X.K a) H):wpAny (model X.prog X.w) X.A (pyIter (.ref a)) (PIE X pins σ tg R) Ex s:=by
 obtain⟨its,rv,p,hz⟩:=I.tuple hq;refine wpAny_pyIter_tuple (show s.heap.IsTuple a its.toArray from p) ?_;refine⟨s.heap.objs.size,[s.heap.objs.size],_,_,H,rfl,I.kept (t':=s.toks) λb o e=>Heap.get?_push_of_some _ e,lr a _,⟨_,Heap.get?_push_size _ rfl,rfl,rfl⟩,λb hb=>?_,q⟩
 have e:b=s.heap.objs.size:=by simpa using hb
 subst e;exact I.fpOk (Nat.le_refl _) (I.hok.fresh (Nat.le_refl _))
noncomputable def qB(z:Str):It:=⟨λi _=>i < z.cps.size,λi H x H'=>H'=H/\∃c,z.cps[i]?=some c/\x=.str ⟨#[c]⟩,λi _=>z.cps.size<=i⟩
theorem pG{K:PySem.W.Frag}(it:Addr)(z:Str)(t:Tok)(ty:String)(hty:ty = "str_ascii_iterator"\/ty = "str_iterator"):Turn P w K tg (qB z) [it] it (λi h=>h.IsStrIter it ty z t i) where
 mem:=by simp
 obj:=λi h st b hb=>by
  have e:b=it:=by simpa using hb
  subst e;obtain⟨o,e,c,d⟩:=st;exact⟨o,e,λv z=>by rw[d]at z;cases z⟩
 keep:=λi h h' st k=>let ⟨o,e,r⟩:=st;⟨o,k it (by simp) o e,r⟩
 item:=by
  intro X hP hw hK hc i pins s σ H E I hf st hg;subst hP hw hK;have hi:i < z.cps.size:=hg;obtain⟨f0,f1,f2,f3,f4,f5⟩:=hf it (by simp)
  have hx:z.cps[i]?=some z.cps[i]:=by simp[hi]
  have fin:∀h':Heap,h'.IsStrIter it ty z t (i+1)->Heap.SameBut it s.heap h'->∃u,some (Value.str ⟨#[z.cps[i]]⟩ s.toks)=some u/\wpAny (model X.prog X.w) X.A (letOwnedTupleGo tg (.ref it) u) (λ_ s2=>∃x H',Inv X pins σ H' s2/\RelV x u/\(qB z).yld i H x H'/\s2.heap.IsStrIter it ty z t (i+1)/\∀b∈[it],H' b=none) E {s with heap:=h',toks:=s.toks+1}:=λh' st' sb=>by
   have I1:Inv X pins σ H {s with heap:=h',toks:=s.toks+1}:=I.turned (t':=s.toks+1) (λb o hb e=>(sb.2 b hb).trans e) f0 f1 f3 f4 f5
   obtain⟨o,e,c,d⟩:=id st';exact⟨_,rfl,oD (s:={s with heap:=h',toks:=s.toks+1}) e c d (by rcases hty with rfl|rfl<;>decide) ⟨.str ⟨#[z.cps[i]]⟩,H,I1,⟨_,rfl⟩,⟨rfl,_,hx,rfl⟩,st',λb hb=>(hf b hb).1⟩⟩
  rcases hty with rfl|rfl
  ·exact wpAny_pyNext_ascii_item st hx fin
  ·exact wpAny_pyNext_wide_item st hx fin
 done:=by
  intro X hP hw hK hc i pins s σ H E I hf st hg;subst hP hw hK;obtain⟨f0,f1,f2,f3,f4,f5⟩:=hf it (by simp)
  have hx:z.cps[i]?=none:=by simpa using (show z.cps.size<=i from hg)
  rcases hty with rfl|rfl
  ·exact wpAny_pyNext_ascii_end (I.ok.hd hc) st hx λh' eb=>⟨rfl,I.turned (t':=s.toks) (λb o hb e=>eb b o hb e) f0 f1 f3 f4 f5⟩
  ·exact wpAny_pyNext_wide_end (I.ok.hd hc) st hx λh' eb=>⟨rfl,I.turned (t':=s.toks) (λb o hb e=>eb b o hb e) f0 f1 f3 f4 f5⟩
 self:=λ_ _ _ _ _ st h=>by
  rcases hty with rfl|rfl
  ·exact wpAny_pyIter_striter_ascii st h
  ·exact wpAny_pyIter_striter_wide st h
theorem va{K:PySem.W.Frag}:ItOk K H0 (qB z) (cW z) (λ_=>True):=by
 have hl:(cW z).length=z.cps.size:=by simp[cW]
 refine⟨λi H M t rm s hi=>by rw[hl]at hi;exact hi,λi H M x H' t rm s hi y=>?_,λH M t rm s=>by show z.cps.size<=_;rw[hl];exact Nat.le_refl _⟩
 obtain⟨rfl,c,hc,rfl⟩:=y;exact⟨.refl _,rm,.str ⟨#[c]⟩,by simp[cW,hc],rfl⟩
theorem oE{X:Cx}(I:Inv X pins σ H s)(q:R (qB z) H):wpAny (model X.prog X.w) X.A (pyIter (.str z t)) (PIE X pins σ tg R) X.xe s:=by
 have go:∀ty:String,(ty = "str_ascii_iterator"\/ty = "str_iterator")->PIE X pins σ tg R (.ref s.heap.objs.size) {s with heap:=s.heap.push {cls:=.type ty,data:=.fields #[.str z t,.int 0 0]}}:=λty hty=>
  ⟨s.heap.objs.size,[s.heap.objs.size],_,_,H,rfl,I.kept (t':=s.toks) (λb o e=>Heap.get?_push_of_some _ e),pG s.heap.objs.size z t ty hty,⟨_,Heap.get?_push_size _ rfl,rfl,rfl⟩,λb hb=>by
   have e':b=s.heap.objs.size:=by simpa using hb
   subst e';exact I.fpOk (Nat.le_refl _) (I.hok.fresh (Nat.le_refl _)),q⟩
 cases ha:z.cps.all (· < 128)
 ·exact wpAny_pyIter_wide ha (go _ (.inr rfl))
 ·exact wpAny_pyIter_ascii ha (go _ (.inl rfl))
theorem yu(hl:PE X l (low X.K cls E2 te)):PI X tg l (jP X.K cls E2 λσ M R E=>te σ M (λx M1=>match x with
  |.tup ds=>R ds (λ_=>True) M1
  |.rol ds=>R ds (λ_=>True) M1
  |.ref a=>match M1 a with
   |some (.lst ds)=>R ds (λM=>M a=some (.lst ds)) M1
   |_=>False
  |.str z=>R (cW z) (λ_=>True) M1
  |_=>False) E):=by
 refine λpins s σ H R2 I hl_=>ex9 hl_ λσ3 M R E3 rm ds lk h k=>?_
 refine thn (hl pins s σ H _ I ⟨σ3,M,_,E3,rm,ds,lk,h,λv H' d M' a b c e=>(⟨d,M',a,b,c,e⟩:(λv H'=>∃d M',Den X.K H' d v/\RelM X.K M' H'/\TM X.K H H'/\(match d with
  |.tup ds=>R ds (λ_=>True) M'
  |.rol ds=>R ds (λ_=>True) M'
  |.ref a=>match M' a with
   |some (.lst ds)=>R ds (λM=>M a=some (.lst ds)) M'
   |_=>False
  |.str z=>R (cW z) (λ_=>True) M'
  |_=>False)) v H')⟩) λu s1 ⟨v,H1,I1,r1,d,M1,dv,rm1,t1,q1⟩=>?_
 split at q1
 ·obtain⟨p,vs,rfl,sq,dl⟩:=dv;cases r1;exact pP I1 sq (k _ _ _ _ _ (uy sq dl) rm1 t1 q1)
 ·obtain⟨p,vs,rfl,sq,dl⟩:=dv;cases r1;exact iq I1 sq.sq (k _ _ _ _ _ (tQ sq dl) rm1 t1 q1)
 ·rename_i a;cases (show v=.ref a from dv);cases r1;split at q1
  ·rename_i ds' e;obtain⟨vs,e1,dl⟩:=rm1 a _ e;exact iq I1 (.of e1) (k _ _ _ _ _ sP rm1 t1 q1)
  ·exact q1.elim
 ·rename_i z;cases (show v=.str z from dv);obtain⟨tt,rfl⟩:=r1;exact oE I1 (k _ _ _ _ _ va rm1 t1 q1)
 ·exact q1.elim
end
end L2
namespace L2
open PySem PySem.Spec PyProof.Rows
section
variable {X:Cx}
theorem ud(hX:∀i,i < ne->ExcI X.K (cls i)/\PySem.W.kitOne X.K (.ref (cls i)) cv=some (r i))
  (I:Inv X pins σ H s)(rv:RelV v v2)(dx:Den X.K H x v)(rm:RelM X.K M H)(q:jV ne cls r x M Q)(back:Back X.K H Q Q2) :
  wpAny (model X.prog X.w) A (call (.builtin "isinstance") [v2,cv]) (EP X pins σ Q2) Ex s:=by
 unfold jV at q;split at q
 ·rename_i a;cases (show v=.ref a from dx);cases rv;split at q
  ·rename_i i w e;obtain⟨hi,rfl,q⟩:=q;obtain⟨h1,h2⟩:=hX i.c hi;obtain⟨dx0,e0,_⟩:=rm a _ e;have ho:=I.hok _ _ e0;obtain⟨⟨o,vs,g1,g2,_⟩,_,_⟩:=ho;exact d5 I.tk <| PySem.W.kia_one (oo h1) I.kIn ⟨o,g1,g2⟩ h2 (λz=>nomatch z) λtk _=>⟨.bl _,H,I.tok _,rfl,back _ _ _ _ aP rm (.refl _) q⟩
  ·exact q.elim
 ·exact q.elim
theorem wG(ha:PE X e (low X.K cls E2 te))(hg:Gl X "isinstance")(hm:X.mg "isinstance"=none)(hg2:Gl X x)(hm2:X.mg x=some (.ref (cls j)))(hdb:(x == ("__debug__" : Str))=false)
  (hX:∀i,i < ne->ExcI X.K (cls i)/\PySem.W.kitOne X.K (.ref (cls i)) (.ref (cls j))=some (r i)) (hs:starEach (e::[.Name x p2]) X.env=(false,eval e X.env)::starEach [.Name x p2] X.env) :
  PE X (.Call (.Name "isinstance" p) [e,.Name x p2] [] pos) (low X.K cls E2 λσ M Q E=>te σ M (λx M1=>jV ne cls r x M1 Q) E):=by
 have hT:PE X (.Name x p2) (tC (.ref (cls j))):=l0 hg2 hm2 rfl hdb;have hc:CallR X (.builtin "isinstance") (λvs H Q2=>∃x v M Q,vs=[v,.ref (cls j)]/\Den X.K H x v/\RelM X.K M H/\jV ne cls r x M Q/\Back X.K H Q Q2):=by
  intro pins s σ H vs us Q2 I r ⟨x,v,M,Q,e,dx,rm,q,back⟩;subst e;obtain⟨u,w,rfl,ru,rw⟩:=Vals.two r;cases (show w=Value.ref (cls j) from rw);exact ud hX I ru dx rm q back
 refine (gk hc hg hm (by decide +kernel) (aW ha (aW hT pa_nil (by rfl)) hs) (by decide +kernel) (by decide +kernel) hs (by rfl)).imp λσ H Q2 hl_=>ex9 hl_ λσ3 M Q E3 rm ds lk h back=>?_
 exact aQ rm ds lk h λv H1 x M1 dx rm1 t1 q1=>⟨x,v,M1,Q,rfl,dx,rm1,q1,back.mono t1⟩
end
end L2
namespace L2
open PySem PySem.Spec PyProof.Rows
section
variable {K:PySem.W.Frag}
end
section
variable {X:Cx}{fs:List (Str×V)}
end
structure ClsI (K:PySem.W.Frag)(C f:Addr):Prop where
 ga:PySem.W.specialIn K (.ref C) "__getattribute__"=some (some (.builtin "type.__getattribute__"))
 rd:PySem.W.readsIn K C (.type "type")=true
 at_:PySem.W.findCls K (.ref C) (.type "type") "__init__"=some (.val (.ref f))
structure TyI (K:PySem.W.Frag)(C:Addr):Prop where
 ha:PySem.W.findIn K (.ref C) "__class__"=some (some (.builtin "object.__class__"))
 hn:PySem.W.specialIn K (.builtin "object.__class__") "__get__"=some (some (.builtin "getset_descriptor.__get__"))
 htk:PySem.W.takesIn K (.builtin "object.__class__")=some true
 hm:PySem.W.mroIn K C (.type "object")=some true
structure KOk (K:PySem.W.Frag)(B:WB)(fad:Nat->Addr)(i:Nat):Prop where
 cl:Cls K (B.kls i)
 na:∀f,B.fok i f=true->ju K (B.kls i) (fnm f)
 mt:∀m f,B.mth i m=some f->Meth K (B.kls i) (fnm m) (fad f)
 mkr:∀f,B.ini i=some f->Mk K (B.kls i) (fad f)
 ci:∀f,B.ini i=some f->ClsI K (B.kls i) (fad f)
 ty:TyI K (B.kls i)
 is:∀j,j < B.nk->PySem.W.kitOne K (.ref (B.kls i)) (.ref (B.kls j))=some (B.ksub i j)
section
variable {X:Cx}{B:WB}
end
end L2
namespace L2
open PySem PySem.Spec PyProof.Rows
noncomputable def BO(X:Cx)(cls:Nat->Addr)(k:Nat)(a:Addr)(t3:List D->MH->VK3->XN->Prop):Prop:=∃fd ps sp,PySem.W.keepIn X.K (.ref a)=true/\BdT X.K cls fd ps t3 sp/\FnOk X.prog X.w X.K X.mg X.base (CX1 X.prog X.w) k a fd ps sp
section
variable {X:Cx}{B:WB}{fad:Nat->Addr}{cls:Nat->Addr}{E2:St->XK}{o e:Expr}{es:List Expr}{to te:St3->MH->VK3->XN->Prop}{tr:St3->MH->(List D->MH->Prop)->XN->Prop}{pos apos p:Pos}{m k:Nat}
 {cl3:Nat->List D->MH->VK3->XN->Prop}
theorem sy(hg:Gl X x)(hm:X.mg x=some u)(r:RelV v u)(hdb:(x == ("__debug__" : Str))=false)(hd:∀H,Den X.K H d v):PE X (.Name x pos) (low X.K cls E2 λ_ M Q _=>Q d M):=kz (l0 hg hm r hdb) hd
end
end L2
namespace L2
open PySem PySem.Spec PyProof.Rows
noncomputable def VS(X:Cx)(r:D->Option Int->Option Int->MH->VK3->Prop):Prop:=
 ∀(pins:List (Addr×Obj)) (s:Shared)(σ:St)(H:Hp)(x:D)(v:V)(v2 vl vu:Value)(lo hi:Option Int)(sl:Addr)(M:MH)(Q:VK3)(Q2:VK),Inv X pins σ H s->RelV v v2->Den X.K H x v->RelM X.K M H->s.heap.IsSliceOf sl vl vu .none->IsPart vl lo->IsPart vu hi->r x lo hi M Q->Back X.K H Q Q2->
  ∃T id,typeLookup (.type T) "__getitem__"=pure (some (.builtin id))/\s.TypeIs v2 T/\wpAny (model X.prog X.w) X.A (getItem v2 (.ref sl)) (EP X pins σ Q2) X.xe s
section
variable {X:Cx}{lo:Option Expr}
theorem VS.op(h:VS X r):SlR X (λv lo hi H Q2=>∃x M Q,Den X.K H x v/\RelM X.K M H/\r x lo hi M Q/\Back X.K H Q Q2):=by
 intro pins s σ H v v2 vl vu lo hi sl Q2 I rv hs pl pu ⟨x,M,Q,dx,rm,q,back⟩;exact h pins s σ H x v v2 vl vu lo hi sl M Q Q2 I rv dx rm hs pl pu q back
theorem jF{K:PySem.W.Frag}{lo:Option Int}(dl:DenL K H ds vs):DenL K H (bO ds lo hi) (lf vs lo hi):=by
 unfold bO lf;rw[dl.length];exact (dl.drop _).take _
theorem xM(fz:Bool):VS X (eu fz):=by
 intro pins s σ H x v v2 vl vu lo hi sl M Q Q2 I rv dx rm hs pl pu q back;unfold eu at q;split at q
 ·rename_i ds;obtain⟨p,vs,rfl,sq,dl⟩:=dx;obtain⟨hw,q⟩:=q;refine vK pins s σ H _ v2 vl vu lo hi sl Q2 I rv hs pl pu ⟨p,vs,rfl,sq,λz=>?_,λp' hp=>?_⟩
  ·unfold whole at hw;rw[dl.length,z.1,z.2]at hw;simp at hw
  ·exact back _ _ (.tup (bO ds lo hi)) _ ⟨p',_,rfl,.of ag,(jF dl).mono (.new hp)⟩ (rm.grow hp) (.new hp) q
 ·rename_i z;cases (show v=.str z from dx);obtain⟨t,rfl⟩:=rv;obtain⟨hz,q⟩:=q;have fin:∀t' k,0 < k->EP X pins σ Q2 (.str (Txt.slice z lo hi) t') {s with toks:=k}:=λt' k _=>⟨.str _,H,I.tok _,⟨_,rfl⟩,back _ _ _ _ bS rm (.refl _) q⟩
  refine⟨"str",_,PySem.F.slot_str_getitem.lookup,typeIs_str _ _ _,?_⟩;cases pl with
  |none=>
   cases pu with
   |none=>exact d5 I.tk <| wpAny_getItem_str_slice (l:=none) (u:=none) (st:=none) hs rfl (post_val_or_str ⟨Nat.le_trans (Txt.slice_le z _ _) hz,fin⟩)
   |int j u=>exact d5 I.tk <| wpAny_getItem_str_slice (l:=none) (u:=some (j,u)) (st:=none) hs rfl (post_val_or_str ⟨Nat.le_trans (Txt.slice_le z _ _) hz,fin⟩)
  |int i u'=>
   cases pu with
   |none=>exact d5 I.tk <| wpAny_getItem_str_slice (l:=some (i,u')) (u:=none) (st:=none) hs rfl (post_val_or_str ⟨Nat.le_trans (Txt.slice_le z _ _) hz,fin⟩)
   |int j u=>exact d5 I.tk <| wpAny_getItem_str_slice (l:=some (i,u')) (u:=some (j,u)) (st:=none) hs rfl (post_val_or_str ⟨Nat.le_trans (Txt.slice_le z _ _) hz,fin⟩)
 ·split at q
  ·rename_i ds e;obtain⟨p,vs,rfl,hq,dl⟩:=bj rm e dx;cases rv;obtain⟨its,r,ht,hz⟩:=I.list hq.sq;have hlen:=r.length;refine⟨"list",_,slot_list_getitem.lookup,ht.isList.typeIs,?_⟩;refine wpAny_getItem_list_slice ht.isList hs pl pu .none (by simp) ?_ (by rw[List.size_toArray]<;>omega)
   rw[g8,<-hlen];have I2:=I.laid (t':=s.toks) (o:=.lst (lf vs lo hi)) (h':=s.heap.push {cls:=.type "list",data:=.seq ((its.drop (HT.sIx vs.length 0 lo)).take (HT.sIx vs.length vs.length hi - HT.sIx vs.length 0 lo)).toArray 0}) (λb ob q=>Heap.get?_push_of_some _ q) (Nat.le_refl _)
    ⟨Nat.le_trans (fm vs lo hi) hz,_,0,(r.drop (HT.sIx vs.length 0 lo)).take (HT.sIx vs.length vs.length hi - HT.sIx vs.length 0 lo),Heap.get?_push_size _ rfl⟩
   exact bH I2 (I.hok.fresh (Nat.le_refl _)) (jF dl) rm (.refl _) q back
  ·exact q.elim
theorem Bo(ha:PE X a (low X.K cls E2 ta))(hl:PO X lo (mE X.K cls E2 tl))(hh:PO X hi (mE X.K cls E2 th)) :
  PE X (.Subscript a (.Slice lo hi none p2) pos) (low X.K cls E2 λσ M Q E=>ta σ M (λx M1=>tl σ M1 (λl M2=>th σ M2 (λh M3=>eu fz x l h M3 Q) E) E) E):=
 (oG (xM fz).op ha hl hh).imp λσ H Q2 hl_=>ex9 hl_ λσ3 M Q E3 rm ds lk h back=>aQ rm ds lk h λv H1 x M1 dx rm1 t1 q1=>se rm1 (ds.mono t1) (lk.mono t1) q1 λl H2 M2 rm2 t2 q2=>se rm2 ((ds.mono t1).mono t2) ((lk.mono t1).mono t2) q2 λh H3 M3 rm3 t3 q3=>
  ⟨x,M3,Q,(dx.mono t2).mono t3,rm3,q3,back.mono ((t1.trans t2).trans t3)⟩
theorem iH{K:PySem.W.Frag}:∀{ds:List D}{bs:List Bool}{vs:List V}{us:List Value},cN ds=some bs->DenL K H ds vs->Vals vs us->LSm.BoolsAre us bs
 |[],bs,vs,us,e,dl,r=>by
  cases (show vs=[] from dl);cases r;cases (show some []=some bs from e);exact .nil
 |d::ds,bs,_,us,e,dl,r=>by
  obtain⟨v,vs,rfl,dv,dl⟩:=dl;cases r with
  |cons ru rt=>
   cases d with
   |bl b=>
    simp only[cN]at e;split at e
    ·rename_i ns q;cases e;cases (show v=.bl b from dv);cases ru;exact .cons b (iH q dl rt)
    ·cases e
   |_=>cases e
theorem rX(al:Bool)(hc:X.calm=true):VC X (.builtin (if al=true then "all" else "any")) (rBi (if al=true then .all else .any)):=by
 intro pins s σ H xs vs us M Q Q2 I r dl rm q back;have hh:X.A.handled=none:=I.ok.hd hc;have key:∃x ds bs,xs=[x]/\af M x=some ds/\cN ds=some bs/\Q (.bl (if al=true then bs.all id else bs.any id)) M:=by
  cases al with
  |true=>
   simp only[if_true,rBi]at q;split at q
   ·split at q
    ·split at q
     ·exact⟨_,_,_,rfl,by assumption,by assumption,q⟩
     ·exact q.elim
    ·exact q.elim
   ·exact q.elim
  |false=>
   simp only[Bool.false_eq_true,if_false,rBi]at q;split at q
   ·split at q
    ·split at q
     ·exact⟨_,_,_,rfl,by assumption,by assumption,q⟩
     ·exact q.elim
    ·exact q.elim
   ·exact q.elim
 obtain⟨x,ds,bs,rfl,e1,e2,q⟩:=key;obtain⟨v,rfl,dv⟩:=bZ dl;obtain⟨u,rfl,ru⟩:=dn r;obtain⟨p,ws,rfl,hq,dl2⟩:=bj rm e1 dv;cases ru;obtain⟨its,r2,pl',hz⟩:=I.list hq.sq;have hb:=iH e2 dl2 r2;have hl:=pl'.isList;have hlt:p < s.heap.objs.size:=by obtain⟨_,e,_⟩:=hl;exact Heap.lt_size e
 have fin:∀h' tk,(∀b o,s.heap.get? b=some o->h'.get? b=some o)->0 < tk->EP X pins σ Q2 (.bool (if al=true then bs.all id else bs.any id)) {s with heap:=h',toks:=tk}:=λh' tk hk _=>
  ⟨.bl _,H,I.kept (t':=tk) hk,rfl,back _ _ _ _ aP rm (.refl _) q⟩
 cases al with
 |true=>
  refine d5 I.tk <| call_all_walk (wpAny_pyIter_list hl ?_)
  refine⟨s.heap.objs.size,[s.heap.objs.size,p],[s.heap.objs.size],its.toArray.size,_,_,λi=>(bs[i]?).getD true,rfl,Walks.list (A:=X.A.in1) hh _ p (Nat.ne_of_lt hlt) its.toArray,
   ⟨⟨_,Heap.get?_push_size _ rfl,rfl,rfl⟩,hl.push _⟩,λi v s' Q' E' hP hQ=>?_,λh' tk hk=>?_⟩
  ·obtain⟨b,e,rfl⟩:=hb.get i v (by simpa using hP)
   simp only[e,Option.getD_some]at hQ;exact wpAny_truthy_bool hQ
  ·have e:((List.range its.toArray.size).all λi=>(bs[i]?).getD true)=bs.all id:=by
    rw[List.size_toArray,hb.length];exact LSm.range_all bs
   rw[e];exact fin h' tk (LSm.kept_iter hk)
 |false=>
  refine d5 I.tk <| call_any_walk (wpAny_pyIter_list hl ?_)
  refine⟨s.heap.objs.size,[s.heap.objs.size,p],[s.heap.objs.size],its.toArray.size,_,_,λi=>(bs[i]?).getD false,rfl,Walks.list (A:=X.A.in1) hh _ p (Nat.ne_of_lt hlt) its.toArray,
   ⟨⟨_,Heap.get?_push_size _ rfl,rfl,rfl⟩,hl.push _⟩,λi v s' Q' E' hP hQ=>?_,λh' tk hk=>?_⟩
  ·obtain⟨b,e,rfl⟩:=hb.get i v (by simpa using hP)
   simp only[e,Option.getD_some]at hQ;exact wpAny_truthy_bool hQ
  ·have e:((List.range its.toArray.size).any λi=>(bs[i]?).getD false)=bs.any id:=by
    rw[List.size_toArray,hb.length];exact LSm.range_any bs
   rw[e];exact fin h' tk (LSm.kept_iter hk)
end
end L2
namespace L2
open PySem PySem.Spec PyProof.Rows
noncomputable def TyV(X:Cx)(T:String)(x:V)(H:Hp):Prop:=∀(pins:List (Addr×Obj)) (σ:St)(s:Shared)(v:Value),Inv X pins σ H s->RelV x v->s.TypeIs v T/\∀a,v=.ref a->∃ob,s.heap.get? a=some ob/\ob.dict=none
section
variable {X:Cx}{o:Expr}{apos cpos pos:Pos}{id:String}
theorem uk(pa:PlainAttrs T)(slot:Slot T name id)(hty:typeOf (.builtin id)=pure (.type "method_descriptor"))(hm:MtR X id r)(ho:PE X o t2)(ha:PA X (e::es) ta)
  (hbase:attributeBase o name X.env (eval o X.env)=eval o X.env)
  (hfew:((backTo cpos (starEach (e::es) X.env)).all (λx=>!x.1)&&(backToKw cpos (keywordEach [] X.env)).all (λx=>x.1.isSome)
   &&decide ((e::es).length+([]:List Keyword).length+(if ([]:List Keyword).isEmpty then 0 else 1) < 30))=true)
  (hline:(apos.endLine == cpos.line)=true) (hs:starEach (e::es) X.env=(false,eval e X.env)::starEach es X.env) (hplain:(backTo cpos (starEach es X.env)).any (·.1)=false) :
  PE X (.Call (.Attribute o name apos) (e::es) [] cpos) (λσ H Q=>t2 σ H λx H1=>TyV X T x H1/\ta σ H1 λxs H2=>r x xs H2 Q):=by
 intro pins s σ H Q I h;refine wpAny_Call_method_late hbase hfew hline rfl (thn (ho pins s σ H _ I h) λv s1 ⟨x,H1,I1,r1,ty,q1⟩=>?_)
 obtain⟨h1,h2⟩:=ty pins σ s1 v I1 r1;refine⟨T,id,pa,slot,hty,h1,h2,?_⟩;have hA:=ha cpos pins s1 σ H1 _ I1 q1;rw[hs]at hA ⊢;refine Calls.callWith_builtin (by show (false||(backTo cpos (starEach es X.env)).any (·.1))=false;rw[hplain]<;>rfl) (Calls.evalArgs_plain ?_)
 exact thn hA λus s2 ⟨vs,H2,I2,r2,q2⟩=>hm pins s2 σ H2 x vs v us Q I2 r1 r2 q2
theorem qm(pa:PlainAttrs T)(slot:Slot T name id)(hty:typeOf (.builtin id)=pure (.type "method_descriptor"))(hm:MtR X id r)(ho:PE X o t2)
  (hbase:attributeBase o name X.env (eval o X.env)=eval o X.env) (hline:(apos.endLine == cpos.line)=true):PE X (.Call (.Attribute o name apos) [] [] cpos) (λσ H Q=>t2 σ H λx H1=>TyV X T x H1/\r x [] H1 Q):=by
 intro pins s σ H Q I h;refine wpAny_Call_method0_late hbase hline (thn (ho pins s σ H _ I h) λv s1 ⟨x,H1,I1,r1,ty,q1⟩=>?_)
 obtain⟨h1,h2⟩:=ty pins σ s1 v I1 r1;exact⟨T,id,pa,slot,hty,h1,h2,Calls.callWith_builtin rfl (PySem.evalArgs_none (hm pins s1 σ H1 x [] v [] Q I1 r1 .nil q1))⟩
noncomputable def VM(X:Cx)(id:String)(r:D->List D->MH->VK3->Prop):Prop:=
 ∀(pins:List (Addr×Obj)) (s:Shared)(σ:St)(H:Hp)(x:D)(xs:List D)(v:V)(vs:List V)(v2:Value)(us:List Value)(M:MH)(Q:VK3)(Q2:VK),Inv X pins σ H s->RelV v v2->Vals vs us->Den X.K H x v->DenL X.K H xs vs->RelM X.K M H->r x xs M Q->Back X.K H Q Q2->
  wpAny (model X.prog X.w) X.A (call (.builtin id) (v2::us)) (EP X pins σ Q2) X.xe s
theorem VM.op(h:VM X id r):MtR X id (λv vs H Q2=>∃x xs M Q,Den X.K H x v/\DenL X.K H xs vs/\RelM X.K M H/\r x xs M Q/\Back X.K H Q Q2):=by
 intro pins s σ H v vs v2 us Q2 I rv rs ⟨x,xs,M,Q,dx,dl,rm,q,back⟩;exact h pins s σ H x xs v vs v2 us M Q Q2 I rv rs dx dl rm q back
noncomputable def TyD(X:Cx)(T:String)(tb:D->MH->Bool):Prop:=∀(x:D)(v:V)(M:MH)(H:Hp),Den X.K H x v->RelM X.K M H->tb x M=true->TyV X T v H
theorem oy(pa:PlainAttrs T)(slot:Slot T name id)(hty:typeOf (.builtin id)=pure (.type "method_descriptor"))(hm:VM X id r)(ht:TyD X T tb)(ho:PE X o (low X.K cls E2 to))(ha:PA X (e::es) (dN X.K cls E2 tr))
  (hbase:attributeBase o name X.env (eval o X.env)=eval o X.env) (hn:(e::es).length < 30)
  (hline:(apos.endLine == cpos.line)=true) (hs:starEach (e::es) X.env=(false,eval e X.env)::starEach es X.env) (hplain:(backTo cpos (starEach es X.env)).any (·.1)=false) :
  PE X (.Call (.Attribute o name apos) (e::es) [] cpos) (low X.K cls E2 λσ M Q E=>to σ M (λx M1=>tb x M1=true/\tr σ M1 (λxs M2=>r x xs M2 Q) E) E):=by
 have hst:(backTo cpos (starEach (e::es) X.env)).any (·.1)=false:=by
  rw[hs];show ((false,_)::backTo cpos (starEach es X.env)).any (·.1)=false;rw[List.any_cons,hplain];rfl
 refine (uk pa slot hty hm.op ho ha hbase (qp hst hn) hline hs hplain).imp λσ H Q2 hl_=>ex9 hl_ λσ3 M Q E3 rm ds lk h back=>aQ rm ds lk h λv H1 x M1 dx rm1 t1 q1=>?_
 exact⟨ht x v M1 H1 dx rm1 q1.1,fe rm1 (ds.mono t1) (lk.mono t1) q1.2 λvs H2 xs M2 dl rm2 t2 q2=>⟨x,xs,M2,Q,dx.mono t2,dl,rm2,q2,back.mono (t1.trans t2)⟩⟩
theorem lT(pa:PlainAttrs T)(slot:Slot T name id)(hty:typeOf (.builtin id)=pure (.type "method_descriptor"))(hm:VM X id r)(ht:TyD X T tb)(ho:PE X o (low X.K cls E2 to))
  (hbase:attributeBase o name X.env (eval o X.env)=eval o X.env) (hline:(apos.endLine == cpos.line)=true) :
  PE X (.Call (.Attribute o name apos) [] [] cpos) (low X.K cls E2 λσ M Q E=>to σ M (λx M1=>tb x M1=true/\r x [] M1 Q) E):=
 (qm pa slot hty hm.op ho hbase hline).imp λσ H Q2 hl_=>ex9 hl_ λσ3 M Q E3 rm ds lk h back=>aQ rm ds lk h λv H1 x M1 dx rm1 t1 q1=>⟨ht x v M1 H1 dx rm1 q1.1,x,[],M1,Q,dx,.nil,rm1,q1.2,back.mono t1⟩
theorem pp:TyD X "str" (tyB .upper):=λx v M H dx rm h pins σ s v2 I rv=>by
 simp only[tyB]at h;split at h
 ·rename_i z;cases (show v=.str z from dx);obtain⟨t,rfl⟩:=rv;exact⟨typeIs_str s z t,λ_ e=>nomatch e⟩
 ·cases h
theorem kg:VM X "str.upper" (rBm .upper):=by
 intro pins s σ H x xs v vs v2 us M Q Q2 I rv rs dx dl rm q back;simp only[rBm]at q;split at q
 ·rename_i z;obtain⟨hz,q⟩:=q;cases (show v=.str z from dx);cases (show vs=[] from dl);obtain rfl:=rs.zero;obtain⟨t,rfl⟩:=rv;refine SCL.upper (Nat.le_trans hz (by decide)) λ_=>?_
  exact⟨.str _,H,I.tok _,⟨_,rfl⟩,back _ _ _ _ bS rm (.refl _) q⟩
 ·exact q.elim
theorem OptDen.getD{K:PySem.W.Frag}{o:Option D}{ov:Option V}(h:OptDen K H o ov)(dv:Den K H d v):Den K H (o.getD d) (ov.getD v):=by
 cases o with
 |none=>cases ov with
  |none=>exact dv
  |some _=>exact h.elim
 |some d'=>cases ov with
  |none=>exact h.elim
  |some v'=>exact h
theorem ng{K:PySem.W.Frag}(h:DenL K H (d::ds) vs):∃v ws,vs=v::ws/\Den K H d v/\DenL K H ds ws:=by
 obtain⟨v,r,e,dv,dl⟩:=h;exact⟨v,r,e,dv,dl⟩
theorem uW(hu:X.A.units+64 < cLine):vd X (λo i v H R2=>∃x k y M R,Den X.K H x o/\Den X.K H k i/\Den X.K H y v/\RelM X.K M H/\cC x k y M R/\∀H' M',RelM X.K M' H'->TM X.K H H'->R M'->R2 H'):=by
 intro pins s σ H o i v ov iv u R2 I ro ri rv ⟨x,k,y,M,R,dx,dk,dy,rm,q,back⟩;unfold cC at q;split at q
 ·rename_i a;cases (show o=.ref a from dx);split at q
  ·rename_i ds n e;split at q
   ·rename_i j ej;cases (show i=.int n from dk);obtain⟨vs,e1,dl⟩:=rm a _ e;have tw:TM X.K H (upd H a (.lst (vs.set j v))):=.put e1 (λ_ z=>by cases z) λ_ _ z=>by cases z
    refine nJ pins s σ H _ _ v ov iv u R2 I ro ri rv ⟨a,vs,n,j,rfl,rfl,e1,by rw[<-dl.length];exact ej,?_⟩
    exact back _ _ (rm.write (u:=.lst (ds.set j y)) e1 (λ_ z=>by cases z) (λ_ _ z=>by cases z) ⟨_,ag,(dl.set dy j).mono tw⟩) tw q
   ·exact q.elim
  ·rename_i ks ds e;split at q
   ·rename_i k' ek;cases ro;exact sN (by omega) I rm e (kC ek dk) ri dy rv q.1 q.2 back
   ·exact q.elim
  ·rename_i ks ds e;split at q
   ·rename_i k' ek;cases ro;obtain⟨b,rfl,sq⟩:=jJ ek dk;cases ri;exact tV (by omega) I rm e sq dy rv q.1 q.2 back
   ·exact q.elim
  ·exact q.elim
 ·exact q.elim
theorem qx(hu:X.A.units+64 < cLine)(ho:PE X o (low X.K cls E2 to))(hi:PE X ixe (low X.K cls E2 ti))(hv:PE X value (low X.K cls E2 tv))
  (ha:∀v,assign (.Subscript o ixe pos') X.env v=(do
   let ov<-holding [v] (eval o X.env)
   let iv<-holding [v,ov] (eval ixe X.env)
   standAt pos'
   holding [v,ov,iv] (setItem ov iv v)
   release [v,ov,iv] [])) (hs:swapsWithSole [.Subscript o ixe pos'] value pos.line X.env=pure false) (hw:swappedStores [.Subscript o ixe pos'] value X.env=pure none) (h1:(assignEach [.Subscript o ixe pos'] X.env).map (·.2)=[assign (.Subscript o ixe pos') X.env]) :
  PS X (.Assign [.Subscript o ixe pos'] value pos) (bz X.K cls E2 λD E σ M=>tv σ M (λy M1=>to σ M1 (λx M2=>ti σ M2 (λk M3=>cC x k y M3 λM4=>D.nx σ M4) (E σ)) (E σ)) (E σ)):=
 (uu hv (tJ ho hi (uW hu) ha) hs hw h1).imp λD2 σ H hl_=>ex9 hl_ λσ3 M D3 E3 rm ds lk h er=>aQ rm ds (lk.at ds) h λv H1 y M1 dy rm1 t1 q1=>
  aQ rm1 (ds.mono t1) ((lk.at ds).mono t1) q1 λw H2 x M2 dx rm2 t2 q2=>aQ rm2 ((ds.mono t1).mono t2) (((lk.at ds).mono t1).mono t2) q2 λz H3 k M3 dk rm3 t3 q3=>
   ⟨x,k,y,M3,_,dx.mono t3,dk,(dy.mono t2).mono t3,rm3,q3,λH' M' rm' t' q'=>er.nx _ _ σ3 M' rm' ((((ds.mono t1).mono t2).mono t3).mono t') (((t1.trans t2).trans t3).trans t') q'⟩
end
end L2
namespace L2
open PySem PySem.Spec PyProof.Rows PySem.W
section
variable {A:Around}{s:Shared} [DecidableEq κ] {knd:HeapKind prog w κ}{xs:List (κ×Addr×Value)}{p:Addr×Value}
end
section
variable {X:Cx}
end
end L2
namespace L2
open PySem PySem.Spec PyProof.Rows
section
variable {X:Cx}
theorem VM.of{id:String}{r3:D->List D->MH->VK3->Prop}{r:V->List V->Hp->VK->Prop}(h:MtM X id r)
  (hr:∀(H:Hp)(x:D)(xs:List D)(v:V)(vs:List V)(M:MH)(Q:VK3)(Q2:VK),Den X.K H x v->DenL X.K H xs vs->RelM X.K M H->r3 x xs M Q->Back X.K H Q Q2->r v vs H Q2):VM X id r3:=
 λpins s σ H x xs v vs v2 us M Q Q2 I rv rs dx dl rm q back=>h pins s σ H v vs v2 us Q2 I rv rs (hr H x xs v vs M Q Q2 dx dl rm q back)
theorem DenL.app{K:PySem.W.Frag}:∀{ds es:List D}{vs ws:List V},DenL K H ds vs->DenL K H es ws->DenL K H (ds++es) (vs++ws)
 |[],es,vs,ws,h,g=>by cases (show vs=[] from h);exact g
 |d::ds,es,vs,ws,h,g=>by
  obtain⟨v,us,rfl,dv,dw⟩:=ng h;exact .cons dv (DenL.app dw g)
theorem DenL.at{K:PySem.W.Frag}{H:Hp}{ds:List D}{vs:List V}{k:Nat}{d:D}(h:DenL K H ds vs)(e:ds[k]?=some d):∃v,vs[k]?=some v/\Den K H d v:=h.get e
end
end L2
namespace L2
open PySem PySem.Spec PyProof.Rows SeqAt PySem.MeetsSeq AutoSeq1
end L2
namespace L2
open PySem PySem.Spec PyProof.Rows PySem.W
section
variable {X:Cx}
end
end L2
namespace L2
open PySem PySem.Spec PyProof.Rows PySem.Calls PySem.NumText PySem.W.KIN
theorem jC{s:Shared}(hn:s.heap.NoDigits)(h:Q 4300 s):wpAny M A Builtin.intMaxStrDigits Q E s:=by
 obtain⟨mc,hns,hnone⟩:=hn;unfold Builtin.intMaxStrDigits;refine wpAny_bind (wpAny_nsGet hns ?_);rw[hnone];exact wpAny_pure h
theorem oX{s:Shared}{text:List Nat}(hd:s.heap.NoDigits)
  (hs:¬ (text.takeWhile (· != 0)).length<=640) (hr:(int_private% "readNumeral") 4300 10 (text.takeWhile (· != 0))=(int_private% "Numeral.value") n)
  (ha:((text.takeWhile (· != 0)).length == text.length)=true) (h:Q (.int n s.toks) {s with toks:=s.toks+1}) :
  wpAny M A ((int_private% "intFromText") v text 10) Q E s:=by
 obtain⟨hp,g,d,tk,os⟩:=s
 repeat (any_goals (first
  |assumption
  |(with_reducible refine wpAny_ite_false (decide_eq_false hs) ?_)
  |(with_reducible refine wpAny_ite_true (decide_eq_true ha) ?_)
  |(refine jC hd ?_)
  |wp_step))
 all_goals (try rw[hr])
 all_goals (try dsimp only)
 repeat (any_goals (first
  |assumption
  |(with_reducible refine wpAny_ite_true (decide_eq_true ha) ?_)
  |wp_step))
theorem k9{x:PySem.Str}(hl:x.length<=sizeLine)(hn:PySem.intText? x=some n):Meets (Builtin.«int.__new__» ⟨[.type "int",.str x u],[]⟩) (λA R s=>s.heap.NoDigits/\R (.ok (.ret (.int n s.toks))) {s with toks:=s.toks+1}):=by
 refine .of_wp λprog w A R s h=>?_
 obtain⟨hd,h⟩:=h;obtain⟨hp,g,d,tk,os⟩:=s;have f1:=F.conv_sub_int;have f2:=F.madeHere_int;have f3:=str_int;have f4:=str_idx;have f5:=str_trunc;have f6:typeOf (.str x u)=pure (.type "str"):=rfl;have hr:(int_private% "readNumeral") (numLimitOf x) 10 (numSeenOf x)=(int_private% "Numeral.value") n/\((numSeenOf x).length == (numTextOf x).length)=true:=by
  rcases readAny x hl with ⟨m,h1,h2,h3⟩|⟨h1,_⟩
  ·rw[hn]at h1;injection h1 with h1
   subst h1;exact⟨h3,h2⟩
  ·rw[hn]at h1;cases h1
 have hw:∀{A':Around}{E':Value->Shared->Prop}{Q':Value->Shared->Prop},Q' (.int n tk) ⟨hp,g,d,tk+1,os⟩->wpAny (model prog w) A' ((int_private% "intFromText") (.str x u) (numTextOf x) 10) Q' E' ⟨hp,g,d,tk,os⟩:=λh'=>by
  by_cases hs:(numSeenOf x).length<=640
  ·have e:numLimitOf x=0:=if_pos hs;rw[e]at hr;exact wp_text hs hr.1 hr.2 h'
  ·have e:numLimitOf x=4300:=if_neg hs;rw[e]at hr;exact oX hd hs hr.1 hr.2 h'
 have hk:=Hid.mk hr;clear hr hl hn
 repeat (any_goals (first
  |assumption
  |((with_reducible show wpAny _ _ ((int_private% "intFromText") _ _ _) _ _ _);refine hw ?_)
  |wp_step))
 all_goals first|exact⟨_,rfl,h⟩|skip
theorem kO{s:Shared}{x:PySem.Str}(hn:PySem.intText? x=some n)(hl:x.length<=sizeLine)(hd:s.heap.NoDigits)(h:Q (.int n s.toks) {s with toks:=s.toks+1}):wpAny (model prog w) A (call (.type "int") [.str x t]) Q E s:=
 call_int_1 (k9 hl hn) ⟨hd,typeIs_int _ _ _,h⟩
end L2
namespace L2
open PySem PySem.Spec PyProof.Rows
noncomputable def mJ(K:PySem.W.Frag):Prop:=PySem.W.nsIn K cStatics "sys.int_max_str_digits"=some none
theorem kr{X:Cx}{s:Shared}(hd:mJ X.K)(I:Inv X pins σ H s):s.heap.NoDigits:=
 let ⟨mc,hn,_⟩:=I.nolimit
 ⟨mc,hn,PySem.W.ns_none_of I.kIn hn hd⟩
section
variable {X:Cx}
theorem fF:TyD X "str" (tyB .startswith):=λx v M H dx rm h pins σ s v2 I rv=>by
 simp only[tyB]at h;split at h
 ·rename_i z;cases (show v=.str z from dx);obtain⟨t,rfl⟩:=rv;exact⟨typeIs_str s z t,λ_ e=>nomatch e⟩
 ·cases h
theorem l7:TyD X "str" (tyB .split):=fF
theorem dA:VM X "str.startswith" (rBm .startswith):=by
 intro pins s σ H x xs v vs v2 us M Q Q2 I rv rs dx dl rm q back;simp only[rBm]at q;split at q
 ·rename_i z y;cases (show v=.str z from dx);obtain⟨yv,rfl,dy⟩:=bZ dl;cases (show yv=.str y from dy);obtain⟨u,rfl,t2,rfl⟩:=rs.one;obtain⟨t,rfl⟩:=rv;exact SC.startswith ⟨.bl _,H,I,rfl,back _ _ _ _ aP rm (.refl _) q⟩
 ·exact q.elim
theorem i0:∀(l:List (Str×Tok)),Vals ((l.map (·.1)).map V.str) (strValues l)
 |[]=>.nil
 |(x,t)::r=>.cons ⟨t,rfl⟩ (i0 r)
theorem iM{K:PySem.W.Frag}:∀(l:List Str),DenL K H (l.map D.str) (l.map V.str)
 |[]=>rfl
 |x::r=>⟨.str x,r.map V.str,rfl,rfl,iM r⟩
theorem eK{s:Shared}{l:List (Str×Tok)}(I:Inv X pins σ H s)(hl:l.length<=sizeLine)(rm:RelM X.K M H)(back:Back X.K H Q Q2)(q:Q (.rol ((l.map (·.1)).map D.str)) M)(ht:0 < k:=by first|exact Nat.succ_pos _|assumption|exact Inv.tk (by assumption)|exact Nat.lt_of_lt_of_le (Inv.tk (by assumption)) (Nat.le_add_right _ _)) :
  EP X pins σ Q2 (.ref s.heap.objs.size) {s with toks:=k,heap:=s.heap.push {cls:=.type "list",data:=.seq (strValues l).toArray}}:=by
 have hp:H s.heap.objs.size=none:=I.hok.fresh (Nat.le_refl _);have I1:=I.laid (a:=s.heap.objs.size) (o:=.lst ((l.map (·.1)).map V.str)) (t':=k) (λb o e1=>Heap.get?_push_of_some _ e1) (Nat.le_refl _) ⟨by simpa using hl,strValues l,0,i0 l,Heap.get?_push_size _ rfl⟩
 exact bH (fz:=true) I1 hp (iM _) rm (.refl _) ⟨by simpa using hl,by rw[if_pos rfl];exact q⟩ back
theorem j8:VM X "str.split" (rBm .split):=by
 intro pins s σ H x xs v vs v2 us M Q Q2 I rv rs dx dl rm q back;simp only[rBm]at q;split at q
 ·rename_i z y;obtain⟨⟨q1,q2,q3⟩,q⟩:=q;cases (show v=.str z from dx);obtain⟨yv,rfl,dy⟩:=bZ dl;cases (show yv=.str y from dy);obtain⟨u,rfl,t2,rfl⟩:=rs.one;obtain⟨t,rfl⟩:=rv;have hy:(y.length == 0)=false:=by simpa using q1
  cases h1:(decide (z.length < y.length)||decide (Builtin.Str.strKind z < Builtin.Str.strKind y))
  ·cases hf:(Builtin.Str.occurrences z y 0 z.length (z.length+1)).isEmpty
   ·have e:Txt.split z y=Builtin.Str.partsBetween z (Builtin.Str.occurrences z y 0 z.length (z.length+1)) y.length:=(if_neg (ne_true_of_eq_false h1)).trans (if_neg (ne_true_of_eq_false hf));rw[e]at q3 q;refine call_meets F.slot_str_split (typeIs_str _ _ _) F.entry_str_split (F.args_str_split_2 _ _) (meets_str_split_sep z y t t2 h1 hy hf q2 q3) ?_;show wants _ _ _ {s with toks:=_,heap:=s.heap.push {cls:=.type "list",data:=.seq (strsFrom s.toks (Builtin.Str.partsBetween z (Builtin.Str.occurrences z y 0 z.length (z.length+1)) y.length)).toArray}}
    rw[strsFrom_eq];have hn:=numbered_texts s.toks (Builtin.Str.partsBetween z (Builtin.Str.occurrences z y 0 z.length (z.length+1)) y.length);exact eK I (by rw[<-List.length_map (f:=(·.1)),hn];exact q3) rm back (by rw[hn];exact q)
   ·have e:Txt.split z y=[z]:=(if_neg (ne_true_of_eq_false h1)).trans (if_pos hf);rw[e]at q;exact call_meets F.slot_str_split (typeIs_str _ _ _) F.entry_str_split (F.args_str_split_2 _ _) (meets_str_split_not_found z y t t2 h1 hy hf) (eK (l:=[(z,t)]) (k:=s.toks) I (by show 1<=sizeLine;decide) rm back q)
  ·have e:Txt.split z y=[z]:=if_pos h1;rw[e]at q;exact call_meets F.slot_str_split (typeIs_str _ _ _) F.entry_str_split (F.args_str_split_2 _ _) (meets_str_split_cannot_occur z y t t2 h1) (eK (l:=[(z,t)]) (k:=s.toks) I (by show 1<=sizeLine;decide) rm back q)
 ·exact q.elim
theorem ut(hd:mJ X.K):VC X (.type "int") (rBi .int):=by
 intro pins s σ H xs vs us M Q Q2 I r dl rm q back;simp only[rBi]at q;split at q
 ·rename_i z;obtain⟨v,rfl,dv⟩:=bZ dl;cases (show v=.str z from dv);obtain⟨u,rfl,t,rfl⟩:=dn r;obtain⟨q1,q⟩:=q;split at q
  ·rename_i n e;exact kO e q1 (kr hd I) ⟨.int n,H,I.tok _,⟨_,rfl⟩,back _ _ _ _ cg rm (.refl _) q⟩
  ·exact q.elim
 ·rename_i b;obtain⟨v,rfl,dv⟩:=bZ dl;cases (show v=.bl b from dv);obtain⟨u,rfl,ru⟩:=dn r;cases (show u=Value.bool b from ru);exact call_int_bool ⟨.int _,H,I.tok _,⟨_,rfl⟩,back _ _ _ _ cg rm (.refl _) q⟩
 ·exact q.elim
theorem qq(hc:X.calm=true)(hd:mJ X.K):VC X (.type "str") (rBi .strL):=by
 intro pins s σ H xs vs us M Q Q2 I r dl rm q back;simp only[rBi]at q;split at q
 ·rename_i i;obtain⟨v,rfl,dv⟩:=bZ dl;cases (show v=.int i from dv);obtain⟨u,rfl,t,rfl⟩:=dn r;exact str_of_int_or (I.ok.hd hc) (kr hd I) (λ_=>⟨.str _,H,I.tok _,⟨_,rfl⟩,back _ _ _ _ bS rm (.refl _) q.2⟩) λh=>absurd q.1 (Nat.not_lt.mpr h)
 ·exact q.elim
end
end L2
namespace L2
open PySem PySem.Spec PyProof.Rows
theorem lK:TyD X "str" (tyB .join):=fF
theorem iX{K:PySem.W.Frag}{H:Hp}:∀{ds:List D}{ts:List Str}{vs:List V}{us:List Value},ei ds=some ts->DenL K H ds vs->Vals vs us->∃l:List (Str×Tok),us=strValues l/\l.map (·.1)=ts
 |[],ts,vs,us,e,dl,r=>by
  cases e;cases (show vs=[] from dl);cases r;exact⟨[],rfl,rfl⟩
 |d::ds,ts,vs,us,e,dl,r=>by
  obtain⟨v,ws,rfl,dv,dl⟩:=dl;cases d with
  |str z=>
   cases q:ei ds with
   |none=>simp[ei,q]at e
   |some zs=>
    simp[ei,q]at e;subst e;cases (show v=.str z from dv);cases r with
    |cons h1 h2=>
     obtain⟨t,rfl⟩:=h1;obtain⟨l,rfl,rfl⟩:=iX q dl h2;exact⟨(z,t)::l,rfl,rfl⟩
  |_=>simp[ei]at e
theorem l6:VM X "str.join" (rBm .join):=by
 intro pins s σ H x xs v vs v2 us M Q Q2 I rv rs dx dl rm q back;simp only[rBm]at q;split at q
 ·rename_i z y;split at q
  ·rename_i ds e;split at q
   ·rename_i ts et;cases (show v=.str z from dx);obtain⟨yv,rfl,dy⟩:=bZ dl;obtain⟨u,rfl,ru⟩:=rs.one;obtain⟨t,rfl⟩:=rv;obtain⟨p,ws,rfl,hq,dl2⟩:=bj rm e dy;cases ru;obtain⟨its,r',pl,hz⟩:=I.list hq.sq;obtain⟨l,rfl,hl⟩:=iX et dl2 r';exact d5 I.tk <| SC.join pl.isList hl q.1 λt' k _=>⟨.str _,H,I.kept (t':=k) (λ_ _ e=>e),⟨_,rfl⟩,back _ _ _ _ bS rm (.refl _) q.2⟩
   ·exact q.elim
  ·exact q.elim
 ·exact q.elim
theorem tS{X:Cx}{o:Expr}{apos cpos:Pos}(ho:PE X o t2)(hbase:attributeBase o "replace" X.env (eval o X.env)=eval o X.env)(hline:(apos.endLine == cpos.line)=true) :
  PE X (.Call (.Attribute o "replace" apos) [.Constant (.str y) k1 p1,.Constant (.str z) k2 p2] [] cpos) (λσ H Q=>t2 σ H λx H1=>∃t,x=.str t/\(t.length<=1048576/\z.length<=14/\(y == z)=false)/\Q (.str (Txt.replace t y z)) H1):=by
 intro pins s σ H Q I h;refine wpAny_Call_method_late hbase rfl hline rfl (thn (ho pins s σ H _ I h) λv s1 ⟨x,H1,I1,r1,t,ex,⟨b1,b2,b3⟩,q⟩=>?_)
 subst ex;obtain⟨t0,rfl⟩:=r1;refine⟨"str","str.replace",PySem.F.plainAttrs_str,PySem.F.slot_str_replace,PySem.F.type_str_replace,typeIs_str _ _ _,(λ_ e=>nomatch e),?_⟩
 refine Calls.callWith_builtin rfl (Calls.evalArgs_plain ?_);show wpAny _ _ (spliced [(false,eval (.Constant (.str y) k1 p1) X.env),(false,eval (.Constant (.str z) k2 p2) X.env)]) _ _ _;refine Calls.spliced_cons (Calls.Constant_str (Calls.spliced_cons (Calls.Constant_str (Calls.spliced_nil ?_))));exact d5 (Nat.succ_pos _) <| SC.replaceW (Nat.ne_of_gt I1.tk) (Nat.succ_ne_zero _) (Nat.ne_of_lt (Nat.lt_succ_self _)) b3 b1 b2 λt' k _=>⟨.str _,H1,I1.tok _,⟨_,rfl⟩,q⟩
theorem ye{X:Cx}{o:Expr}{apos cpos:Pos}(ho:PE X o (low X.K cls E2 to))(hbase:attributeBase o "replace" X.env (eval o X.env)=eval o X.env)(hline:(apos.endLine == cpos.line)=true) :
  PE X (.Call (.Attribute o "replace" apos) [.Constant (.str y) k1 p1,.Constant (.str z) k2 p2] [] cpos) (low X.K cls E2 λσ M Q E=>to σ M (λx M1=>nP x y z M1 Q) E):=
 (tS ho hbase hline).imp λσ H Q2 hl_=>ex9 hl_ λσ3 M Q E3 rm ds lk h back=>aQ rm ds lk h λv H1 x M1 dx rm1 t1 q1=>by
  unfold nP at q1;split at q1
  ·rename_i t;exact⟨t,dx,q1.1,back _ _ _ _ bS rm1 t1 q1.2⟩
  ·exact q1.elim
end L2
namespace L2
open PySem PySem.Spec PyProof.Rows
section
variable {X:Cx}{s:Shared}{h':Heap}
end
end L2
namespace L2
open PySem PySem.Spec PyProof.Rows
section
variable {X:Cx}{s:Shared}{h':Heap}
theorem Inv.turnedL{t':Nat}{ch:List Addr}(I:Inv X pins σ H s)(k:∀b o,b∉ch->s.heap.get? b=some o->h'.get? b=some o)(f:∀b∈ch,gI X pins H b)(ht:0 < t':=by first|exact Nat.succ_pos _|assumption|exact Inv.tk (by assumption)):Inv X pins σ H {s with heap:=h',toks:=t'}:=by
 have nit:∀b u,H b=some u->b∉ch:=λb u e z=>by rw[(f b z).1]at e;cases e
 refine I.step (g':=s.gens) (d':=s.drawn) (ch:=ch) (λb hb=>?_) (λb o _ _ hc e _=>k b o hc e) (λb o _ _ hc e _=>⟨o.slots,k b o hc e⟩) (λ_ _ _ _ n=>n)
  (λb o hc e=>⟨o,k b o hc e⟩) (λ_ _ e=>e) (λ_ _ _ e=>e) (λb ps e=>⟨#[],by rw[e];simp⟩) (λm hm=>?_) (λb u e=>?_) I.bare ht
 ·obtain⟨hn,hL,_,h1,h2,h3⟩:=f b hb;exact⟨h1,hL,h2,h3⟩
 ·obtain⟨o,es,ep,ho,r⟩:=hm;exact⟨o,es,ep,k _ o (λz=>(f _ z).2.1 rfl) ho,r⟩
 ·refine (I.hok b u e).stay (λc v hc q=>k c v ?_ q) (λ_ q=>q) λ_ _ q=>q
  rcases hc with z|z
  ·rw[z];exact nit b u e
  ·exact nit c _ z
noncomputable def Itz(K:PySem.W.Frag)(a b:Addr):It:=
 ⟨λi H=>∃xs ys x y,SqL K H a xs/\SqL K H b ys/\xs[i]?=some x/\ys[i]?=some y,λi H v H'=>∃p,v=.ref p/\H p=none/\∃x y,(∀xs,SqL K H a xs->xs[i]?=some x)/\(∀ys,SqL K H b ys->ys[i]?=some y)/\H'=upd H p (.tup [x,y]),λi H=>∃xs ys,SqL K H a xs/\SqL K H b ys/\(xs.length<=i\/ys.length<=i)⟩
theorem pE{P:Program}{w:World}{K:PySem.W.Frag}{elts:List Expr}{x1:Nat}{pos:Pos}(a b z TI TO i1 i2:Addr)(D:ZipApart z TI TO i1 i2 a b):Turn P w K (.Tuple elts x1 pos) (Itz K a b) [z,TI,TO,i1,i2] z (λi h=>IsZip h z TI TO .none/\IsPair h TI (.ref i1) (.ref i2)/\(∃c d,IsPair h TO c d)/\h.IsListIter i1 a i/\h.IsListIter i2 b i) where
 mem:=by simp
 obj:=λi h st c hc=>by
  obtain⟨h1,h2,⟨_,_,h3⟩,h4,h5⟩:=st;simp only[List.mem_cons,List.not_mem_nil,or_false]at hc;rcases hc with rfl|rfl|rfl|rfl|rfl
  ·exact⟨_,h1,λv q=>by have q':Data.fields _=Data.cell v:=q;cases q'⟩
  ·exact⟨_,h2,λv q=>by have q':Data.seq _ _=Data.cell v:=q;cases q'⟩
  ·exact⟨_,h3,λv q=>by have q':Data.seq _ _=Data.cell v:=q;cases q'⟩
  ·obtain⟨o,e1,c,d⟩:=h4;exact⟨o,e1,λv q=>by rw[d]at q;cases q⟩
  ·obtain⟨o,e1,c,d⟩:=h5;exact⟨o,e1,λv q=>by rw[d]at q;cases q⟩
 keep:=λi h h' st k=>by
  obtain⟨h1,h2,⟨c,d,h3⟩,h4,h5⟩:=st;exact⟨k z (by simp) _ h1,k TI (by simp) _ h2,⟨c,d,k TO (by simp) _ h3⟩,h4.at λo e1=>k i1 (by simp) o e1,h5.at λo e1=>k i2 (by simp) o e1⟩
 item:=by
  intro X hP hw hK hc i pins s σ H E I hf st hg;subst hP hw hK;obtain⟨xs,ys,x,y,hq,hq2,hx,hy⟩:=hg;obtain⟨its,rv,p,hz⟩:=I.list hq;obtain⟨its2,rv2,p2,hz2⟩:=I.list hq2;obtain⟨u,hu,ru⟩:=rv.get hx;obtain⟨u2,hu2,ru2⟩:=rv2.get hy;obtain⟨h1,h2,⟨c,d,h3⟩,h4,h5⟩:=st;have lt:∀{c o},s.heap.get? c=some o->c < s.heap.objs.size:=λe=>Heap.lt_size e
  refine wpAny_pyNext_zip_item D h1 h2 h3 h4 h5 p.isList p2.isList (x:=u) (y:=u2) (by simpa using hu) (by simpa using hu2) λh' a1 a2 a3 a4 a5 a6 k=>?_
  have hp:H s.heap.objs.size=none:=I.hok.fresh (Nat.le_refl _);have I1:Inv X pins σ (upd H s.heap.objs.size (.tup [x,y])) {s with heap:=s.heap.push {cls:=.type "tuple",data:=.seq #[u,u2]},toks:=s.toks}:=
   I.laid (λb o e1=>Heap.get?_push_of_some _ e1) (Nat.le_refl _) ⟨by show 2<=sizeLine;decide,[u,u2],.cons ru (.cons ru2 .nil),⟨_,Heap.get?_push_size _ rfl,rfl,_,rfl⟩⟩
  have hlt:∀b∈[z,TI,TO,i1,i2],b < s.heap.objs.size:=λb hb=>by
   simp only[List.mem_cons,List.not_mem_nil,or_false]at hb;rcases hb with rfl|rfl|rfl|rfl|rfl
   ·exact lt h1
   ·exact lt h2
   ·exact lt h3
   ·obtain⟨_,e,_⟩:=h4;exact lt e
   ·obtain⟨_,e,_⟩:=h5;exact lt e
  have hf':∀b∈[z,TI,TO,i1,i2],gI X pins (upd H s.heap.objs.size (.tup [x,y])) b:=λb hb=>⟨by rw[ad (Nat.ne_of_lt (hlt b hb))];exact (hf b hb).1,(hf b hb).2⟩
  have I2:=I1.turnedL (t':=s.toks) (h':=h') (ch:=[z,TI,TO,i1,i2]) (λb o hb e1=>by
   simp only[List.mem_cons,List.not_mem_nil,or_false,not_or]at hb;obtain⟨n1,n2,n3,n4,n5⟩:=hb;by_cases hb:b=s.heap.objs.size
   ·subst hb;have e2:(s.heap.push {cls:=.type "tuple",data:=.seq #[u,u2]}).get? s.heap.objs.size=some {cls:=.type "tuple",data:=.seq #[u,u2]}:=Heap.get?_push_size _ rfl;rw[e2]at e1;cases e1;exact a5
   ·exact k b o n1 n3 n4 n5 ((Heap.get?_push_ne _ _ _ hb).symm.trans e1)) hf'
  refine⟨.ref s.heap.objs.size,rfl,wpAny_letOwnedTupleGo_zip (s:={s with heap:=h',toks:=s.toks}) a1 λh2' he2 hs2=>?_⟩
  have I3:=I2.turnedL (t':=s.toks) (h':=h2') (ch:=[z,TI,TO,i1,i2]) (λb o hb e1=>(hs2.2 b (λq=>hb (by simp[q]))).trans e1) hf'
  refine⟨.ref s.heap.objs.size,_,I3,rfl,⟨_,rfl,hp,x,y,λys' hy'=>by rw[I.list_inj hy' hq];exact hx,λys' hy'=>by rw[I.list_inj hy' hq2];exact hy,rfl⟩,⟨he2,?_,⟨u,u2,?_⟩,?_,?_⟩,λb hb=>(hf' b hb).1⟩
  ·exact (hs2.2 TI D.TIz).trans (k _ _ D.TIz D.TITO D.TIi1 D.TIi2 h2)
  ·exact (hs2.2 TO D.TOz).trans a2
  ·exact a3.at λo e1=>(hs2.2 i1 D.i1z).trans e1
  ·exact a4.at λo e1=>(hs2.2 i2 D.i2z).trans e1
 done:=by
  intro X hP hw hK hc i pins s σ H E I hf st hg;subst hP hw hK;obtain⟨xs,ys,hq,hq2,hx⟩:=hg;obtain⟨its,rv,p,hz⟩:=I.list hq;obtain⟨its2,rv2,p2,hz2⟩:=I.list hq2;obtain⟨h1,h2,⟨c,d,h3⟩,h4,h5⟩:=st;have hl:=rv.length;have hl2:=rv2.length;refine wpAny_pyNext_zip_end (I.ok.hd hc) D h1 h2 h3 h4 h5 p.isList p2.isList ?_ λh' eb=>⟨rfl,I.turnedL (t':=s.toks) (ch:=[z,TI,TO,i1,i2]) (λb o hb e=>?_) hf⟩
  ·rcases hx with hx|hx
   ·exact .inl (by simp;omega)
   ·exact .inr (by simp;omega)
  ·simp only[List.mem_cons,List.not_mem_nil,or_false,not_or]at hb;exact eb b o hb.1 hb.2.2.1 hb.2.2.2.1 hb.2.2.2.2 e
 self:=λ_ _ _ _ _ st h=>wpAny_pyIter_zip st.1 h
theorem sZ{K:PySem.W.Frag}(sq:SqF K H0 p vs)(dl:DenL K H0 ds vs)(sq2:SqF K H0 q ws)(dl2:DenL K H0 es ws):ItOk K H0 (Itz K p q) (cS ds es) (λ_=>True):=by
 have hlen:=dl.length;have hlen2:=dl2.length;refine⟨λi H M t rm s hi=>?_,λi H M x H' t rm s hi y=>?_,λH M t rm s=>?_⟩
 ·simp only[cS,List.length_map,List.length_zip]at hi;have hi':i < vs.length:=by omega
  have hi2:i < ws.length:=by omega
  exact⟨vs,ws,vs[i],ws[i],(t.f _ _ sq).sq,(t.f _ _ sq2).sq,by simp[hi'],by simp[hi2]⟩
 ·obtain⟨q,rfl,hq,v,w,hv,hw,rfl⟩:=y;obtain⟨d,e1,e2⟩:=(dl.mono t).get' (hv vs (t.f _ _ sq).sq);obtain⟨d',e1',e2'⟩:=(dl2.mono t).get' (hw ws (t.f _ _ sq2).sq);refine⟨.new hq,rm.grow hq,.tup [d,d'],?_,⟨q,[v,w],rfl,.inl (.inl ag),⟨_,_,rfl,e2.mono (.new hq),_,_,rfl,e2'.mono (.new hq),rfl⟩⟩⟩;have ez:(ds.zip es)[i]?=some (d,d'):=List.getElem?_zip_eq_some.mpr ⟨e1,e1'⟩;simp[cS,ez]
 ·refine⟨vs,ws,(t.f _ _ sq).sq,(t.f _ _ sq2).sq,?_⟩;simp only[cS,List.length_map,List.length_zip];omega
theorem rp{K:PySem.W.Frag}(sq:SqF K H0 p vs)(dl:DenL K H0 ds vs):ItOk K H0 (Itz K p q) (cS ds es) (λM=>M q=some (.lst es)):=by
 have hlen:=dl.length;refine⟨λi H M t rm s hi=>?_,λi H M x H' t rm s hi y=>?_,λH M t rm s=>?_⟩
 ·obtain⟨ws,e,dl2⟩:=rm q _ s;have hlen2:=dl2.length;simp only[cS,List.length_map,List.length_zip]at hi;have hi':i < vs.length:=by omega
  have hi2:i < ws.length:=by omega
  exact⟨vs,ws,vs[i],ws[i],(t.f _ _ sq).sq,.of e,by simp[hi'],by simp[hi2]⟩
 ·obtain⟨ws,e,dl2⟩:=rm q _ s;obtain⟨q',rfl,hq,v,w,hv,hw,rfl⟩:=y;obtain⟨d,e1,e2⟩:=(dl.mono t).get' (hv vs (t.f _ _ sq).sq);obtain⟨d',e1',e2'⟩:=dl2.get' (hw ws (.of e));refine⟨.new hq,rm.grow hq,.tup [d,d'],?_,⟨q',[v,w],rfl,.inl (.inl ag),⟨_,_,rfl,e2.mono (.new hq),_,_,rfl,e2'.mono (.new hq),rfl⟩⟩⟩;have ez:(ds.zip es)[i]?=some (d,d'):=List.getElem?_zip_eq_some.mpr ⟨e1,e1'⟩;simp[cS,ez]
 ·obtain⟨ws,e,dl2⟩:=rm q _ s;have hlen2:=dl2.length;refine⟨vs,ws,(t.f _ _ sq).sq,.of e,?_⟩;simp only[cS,List.length_map,List.length_zip];omega
noncomputable def Cd(K:PySem.W.Frag)(ta:TA):TI:=λσ H R=>ta σ H λvs H1=>∃a b,vs=[.ref a,.ref b]/\(∃xs,SqL K H1 a xs)/\(∃ys,SqL K H1 b ys)/\R (Itz K a b) H1
theorem uT(hg:Gl X "zip")(hm:X.mg "zip"=none)(ha:PA X [a,b] ta)(hs:starEach [a,b] X.env=[(false,eval a X.env),(false,eval b X.env)])(hs2:starEach [b] X.env=[(false,eval b X.env)]):PI X (.Tuple elts x1 pt) (.Call (.Name "zip" p) [a,b] [] pos) (Cd X.K ta):=by
 intro pins s σ H R I h;refine Call_ (gO I hg hm (u:=.type "zip") (by decide +kernel) (PyProof.Rows.callWith_type1 (thn (ha pos pins s σ H _ I h) λus s1 ⟨vs,H1,I1,r1,q1⟩=>?_) (by rw[hs,hs2]) (by rw[hs2];rfl)))
 obtain⟨c,d,e,⟨xs,hq⟩,⟨ys,hq2⟩,q⟩:=q1;subst e;obtain⟨u,w,rfl,ru,rw'⟩:=r1.two;cases ru;cases rw';obtain⟨its,rv,pl,hz⟩:=I1.list hq;obtain⟨its2,rv2,pl2,hz2⟩:=I1.list hq2;have a1:c < s1.heap.objs.size:=by obtain⟨_,_,e,_⟩:=pl;exact Heap.lt_size e
 have a2:d < s1.heap.objs.size:=by obtain⟨_,_,e,_⟩:=pl2;exact Heap.lt_size e
 refine call_zip_2 pl.isList pl2.isList λh' h1 h2 h3 h4 h5 _ k=>?_
 refine wpAny_pyIter_zip (s:={s1 with heap:=h'}) h1 ?_
 refine⟨s1.heap.objs.size+4,[s1.heap.objs.size+4,s1.heap.objs.size+2,s1.heap.objs.size+3,s1.heap.objs.size,s1.heap.objs.size+1],_,_,H1,rfl,I1.kept (t':=s1.toks) k,pE c d _ _ _ _ _ (zipApart_new a1 a2),⟨h1,h2,⟨_,_,h3⟩,h4,h5⟩,λb hb=>?_,q⟩
 have hle:s1.heap.objs.size<=b:=by
  simp only[List.mem_cons,List.not_mem_nil,or_false]at hb;rcases hb with rfl|rfl|rfl|rfl|rfl<;>first|exact Nat.le_refl _|exact Nat.le_add_right _ _
 exact I1.fpOk hle (I1.hok.fresh hle)
theorem wK(hg:Gl X "zip")(hm:X.mg "zip"=none)(ha:PE X a (low X.K cls E2 ta))(hb:PE X b (low X.K cls E2 tb))(hs:starEach [a,b] X.env=[(false,eval a X.env),(false,eval b X.env)])(hs2:starEach [b] X.env=[(false,eval b X.env)]) :
  PI X (.Tuple elts x1 pt) (.Call (.Name "zip" p) [a,b] [] pos) (jP X.K cls E2 λσ M R E=>ta σ M (λx M1=>tb σ M1 (λy M2=>match x,y with
  |.rol xs,.rol ys=>R (cS xs ys) (λ_=>True) M2
  |.rol xs,.ref b=>match M2 b with
   |some (.lst ys)=>R (cS xs ys) (λM=>M b=some (.lst ys)) M2
   |_=>False
  |_,_=>False) E) E):=
 (uT hg hm (aW ha (aW hb pa_nil hs2) (by rw[hs,hs2])) hs hs2).imp λσ H R2 hl_=>ex9 hl_ λσ3 M R E3 rm ds lk h k=>kI rm ds lk h λv w H2 x y M2 dx dy rm2 t2 q2=>by
  cases x with
  |rol es=>
   cases y with
   |rol fs=>
    obtain⟨q,vs,rfl,sq,dl⟩:=dx;obtain⟨q',ws,rfl,sq2,dl2⟩:=dy;exact⟨q,q',rfl,⟨vs,sq.sq⟩,⟨ws,sq2.sq⟩,k _ _ _ _ _ (sZ sq dl sq2 dl2) rm2 t2 q2⟩
   |ref b=>
    obtain⟨q,vs,rfl,sq,dl⟩:=dx;cases (show w=.ref b from dy);have q2:(match M2 b with
     |some (.lst ys)=>R (cS es ys) (λM=>M b=some (.lst ys)) M2
     |_=>False):=q2
    split at q2
    ·rename_i ys e;obtain⟨ws,eH,dl2⟩:=rm2 b _ e;exact⟨q,b,rfl,⟨vs,sq.sq⟩,⟨ws,.of eH⟩,k _ _ _ _ _ (rp sq dl) rm2 t2 q2⟩
    ·exact q2.elim
   |_=>exact q2.elim
  |_=>exact q2.elim
end
end L2
namespace L2
open PySem PySem.Spec PyProof.Rows
noncomputable abbrev Tr3(h:Heap)(T:Addr)(a b c:Value):Prop:=h.get? T=some {cls:=.type "tuple",data:=.seq #[a,b,c]}
structure Z3 (n l1 l2 l3:Nat)(f0:Value)(i j k:Nat)(h:Heap):Prop where
 z:IsZip h (n+5) (n+3) (n+4) f0
 t:Tr3 h (n+3) (.ref n) (.ref (n+1)) (.ref (n+2))
 o:∃a b c,Tr3 h (n+4) a b c
 p:h.IsListIter n l1 i
 q:h.IsListIter (n+1) l2 j
 r:h.IsListIter (n+2) l3 k
section
variable {prog:Program}{w:World}{A:Around}{E:Value->Shared->Prop}{s:Shared}{n l1 l2 l3:Nat}
theorem neA{a b:Nat}(h:a≠b):@Ne Addr a b:=h
theorem ot{T:Addr}{a b c x:Value}{Q:Unit->Shared->Prop}(g:Tr3 s.heap T a b c)(q:∀h',h'.get? T=some {cls:=.type "tuple",data:=.seq ((#[a,b,c]:Array Value).setIfInBounds k x)}->Heap.SameBut T s.heap h'->Q () {s with heap:=h'}) :
  wpAny (model prog w) A (updateSeq T (·.setIfInBounds k x)) Q E s:=by
 refine wpAny_updateSeq g rfl (q _ ?_ (Heap.SameBut.update ..));rw[Heap.get?_update_self _ g rfl];simp[Obj.mapSeq]
theorem re{Q:Value->Shared->Prop}(S:Z3 n l1 l2 l3 .none i i i s.heap)(a1:l1 < n)(a2:l2 < n)(a3:l3 < n)(L1:s.heap.IsList l1 xs)(L2:s.heap.IsList l2 ys)(L3:s.heap.IsList l3 zs)(hx:xs[i]?=some x)(hy:ys[i]?=some y)(hz:zs[i]?=some v)
  (fin:∀h',Z3 n l1 l2 l3 (rawInt s.heap.objs.size) (i+1) (i+1) (i+1) h'->Tr3 h' s.heap.objs.size x y v->(∀(c:Nat) o,c < n\/n+5 < c->s.heap.get? c=some o->h'.get? c=some o)->Q (.ref s.heap.objs.size) {s with heap:=h'}) :
  wpAny (model prog w) A (Builtin.«zip.__next__» ⟨[.ref (n+5)],[]⟩) (λfl s'=>∃u,fl=.done (.ret u)/\Q u s') E s:=by
 obtain⟨g0,g1,⟨a,b,c,g2⟩,p1,p2,p3⟩:=S;show wpAny _ _ (field (.ref (n+5)) 2 >>=_) _ _ _;refine wpAny_bind (wpAny_field g0 rfl (x:=.bool false) rfl ?_);show wpAny _ _ (field (.ref (n+5)) 3 >>=_) _ _ _;refine wpAny_bind (wpAny_field g0 rfl (x:=.ref (n+3)) rfl (wpAny_bind (wpAny_seqItems g1 rfl ?_)));show wpAny _ _ (Builtin.SmallTypes.ownedTupleIsFree (.ref (n+5)) >>=_) _ _ _;refine wpAny_bind ?_;unfold Builtin.SmallTypes.ownedTupleIsFree;refine wpAny_bind (wpAny_field g0 rfl (x:=.none) rfl (wpAny_pure ?_));simp only[if_true];refine wpAny_bind (wpAny_rule (wpAny_bind (wpAny_field g0 rfl (x:=.ref (n+4)) rfl (wpAny_bind (wpAny_setField_rec g0 (by simp) λh1 z1 s1=>?_)))))
 replace z1:IsZip h1 (n+5) (n+3) (n+4) .ellipsis:=z1
 refine wpAny_bind ?_;simp only[List.zipIdx_cons,List.zipIdx_nil,List.forIn_cons,List.forIn_nil];refine wpAny_bind (wpAny_bind (wpAny_onRaise ?_));show wpAny _ _ (Builtin.SmallTypes.nextOf (.ref n) >>=_) _ _ _;refine wpAny_bind (wpAny_nextOf_list_item (p1.extBut s1.extBut (neA (by omega))) (L1.extBut s1.extBut (neA (by omega))) hx λh2 q1 s2=>wpAny_pure ?_)
 have t2:Tr3 h2 (n+4) a b c:=s2.extBut _ _ (neA (by omega)) (s1.extBut _ _ (neA (by omega)) g2)
 refine wpAny_bind (wpAny_seqItems t2 rfl (wpAny_bind (ot t2 λh3 t3 s3=>?_)))
 replace t3:Tr3 h3 (n+4) x b c:=t3
 refine wpAny_bind (wpAny_letGo (wpAny_pure (wpAny_bind (wpAny_bind (wpAny_onRaise ?_)))));show wpAny _ _ (Builtin.SmallTypes.nextOf (.ref (n+1)) >>=_) _ _ _;refine wpAny_bind (wpAny_nextOf_list_item (((p2.extBut s1.extBut (neA (by omega))).extBut s2.extBut (neA (by omega))).extBut s3.extBut (neA (by omega))) (((L2.extBut s1.extBut (neA (by omega))).extBut s2.extBut (neA (by omega))).extBut s3.extBut (neA (by omega))) hy λh4 q2 s4=>wpAny_pure ?_)
 have t4:Tr3 h4 (n+4) x b c:=s4.extBut _ _ (neA (by omega)) t3
 refine wpAny_bind (wpAny_seqItems t4 rfl (wpAny_bind (ot t4 λh5 t5 s5=>?_)))
 replace t5:Tr3 h5 (n+4) x y c:=t5
 refine wpAny_bind (wpAny_letGo (wpAny_pure (wpAny_bind (wpAny_bind (wpAny_onRaise ?_)))));show wpAny _ _ (Builtin.SmallTypes.nextOf (.ref (n+2)) >>=_) _ _ _;have up5:∀c o,c≠n+5->c≠n+4->c≠n->c≠n+1->s.heap.get? c=some o->h5.get? c=some o:=λc o c1 c2 c3 c4 e=>s5.extBut _ _ c2 (s4.extBut _ _ c4 (s3.extBut _ _ c2 (s2.extBut _ _ c3 (s1.extBut _ _ c1 e))))
 refine wpAny_bind (wpAny_nextOf_list_item (p3.at λo e=>up5 _ o (neA (by omega)) (neA (by omega)) (neA (by omega)) (neA (by omega)) e) (L3.at λo e=>up5 _ o (neA (by omega)) (neA (by omega)) (neA (by omega)) (neA (by omega)) e) hz λh6 q3 s6=>wpAny_pure ?_)
 have t6:Tr3 h6 (n+4) x y c:=s6.extBut _ _ (neA (by omega)) t5
 refine wpAny_bind (wpAny_seqItems t6 rfl (wpAny_bind (ot t6 λh7 t7 s7=>?_)))
 replace t7:Tr3 h7 (n+4) x y v:=t7
 refine wpAny_bind (wpAny_letGo (wpAny_pure (wpAny_pure ?_)));refine wpAny_bind (wpAny_seqItems t7 rfl (wpAny_bind (wpAny_newTuple ?_)));have sz:h7.objs.size=s.heap.objs.size:=by rw[s7.1,s6.1,s5.1,s4.1,s3.1,s2.1,s1.1]
 have up7:∀c o,c≠n+5->c≠n+4->c≠n->c≠n+1->c≠n+2->s.heap.get? c=some o->h7.get? c=some o:=λc o c1 c2 c3 c4 c5 e=>s7.extBut _ _ c2 (s6.extBut _ _ c5 (up5 c o c1 c2 c3 c4 e))
 have z7:IsZip h7 (n+5) (n+3) (n+4) .ellipsis:=s7.extBut _ _ (neA (by omega)) (s6.extBut _ _ (neA (by omega)) (s5.extBut _ _ (neA (by omega)) (s4.extBut _ _ (neA (by omega)) (s3.extBut _ _ (neA (by omega)) (s2.extBut _ _ (neA (by omega)) z1)))))
 have r1:h7.IsListIter n l1 (i+1):=((((q1.extBut s3.extBut (neA (by omega))).extBut s4.extBut (neA (by omega))).extBut s5.extBut (neA (by omega))).extBut s6.extBut (neA (by omega))).extBut s7.extBut (neA (by omega))
 have r2:h7.IsListIter (n+1) l2 (i+1):=((q2.extBut s5.extBut (neA (by omega))).extBut s6.extBut (neA (by omega))).extBut s7.extBut (neA (by omega))
 have r3:h7.IsListIter (n+2) l3 (i+1):=q3.extBut s7.extBut (neA (by omega))
 have zlt:n+5 < h7.objs.size:=Heap.lt_size z7;show wpAny _ _ (Builtin.SmallTypes.ownedTupleHandOut (.ref (n+5)) (.ref h7.objs.size) >>=_) _ _ _;refine wpAny_bind ?_;unfold Builtin.SmallTypes.ownedTupleHandOut;have z8:IsZip (h7.push {cls:=.type "tuple",data:=.seq #[x,y,v]}) (n+5) (n+3) (n+4) .ellipsis:=Heap.get?_push_of_some _ z7;refine wpAny_bind (wpAny_setField_rec z8 (by simp) λh9 z9 s9=>?_)
 replace z9:IsZip h9 (n+5) (n+3) (n+4) (rawInt h7.objs.size):=z9
 refine wpAny_setField_rec z9 (by simp) λhA zA sA=>?_
 replace zA:IsZip hA (n+5) (n+3) (n+4) (rawInt h7.objs.size):=zA
 have up:∀c o,c≠n+5->h7.get? c=some o->hA.get? c=some o:=λc o c1 e=>sA.extBut _ _ c1 (s9.extBut _ _ c1 (Heap.get?_push_of_some _ e))
 have tA:Tr3 hA h7.objs.size x y v:=sA.extBut _ _ (neA (by omega)) (s9.extBut _ _ (neA (by omega)) (Heap.get?_push_size _ rfl))
 rw[sz]at zA tA;refine wpAny_pure ⟨_,rfl,?_⟩;show Q (.ref h7.objs.size) _;rw[sz];exact fin hA ⟨zA,up _ _ (neA (by omega)) (up7 _ _ (neA (by omega)) (neA (by omega)) (neA (by omega)) (neA (by omega)) (neA (by omega)) g1),⟨x,y,v,up _ _ (neA (by omega)) t7⟩,r1.at λo e=>up _ o (neA (by omega)) e,r2.at λo e=>up _ o (neA (by omega)) e,r3.at λo e=>up _ o (neA (by omega)) e⟩ tA
  λc o hc e=>up c o (neA (by omega)) (up7 c o (neA (by omega)) (neA (by omega)) (neA (by omega)) (neA (by omega)) (neA (by omega)) e)
theorem t9{Q:Fin->Shared->Prop}(hh:A.handled=none)(S:Z3 n l1 l2 l3 .none i i i s.heap)(a1:l1 < n)(a2:l2 < n)(a3:l3 < n)(L1:s.heap.IsList l1 xs)(L2:s.heap.IsList l2 ys)(L3:s.heap.IsList l3 zs)(no:xs[i]?=none\/ys[i]?=none\/zs[i]?=none)
  (fin:∀h' e,(∀(c:Nat) o,c < n\/n+5 < c->s.heap.get? c=some o->h'.get? c=some o)->(∃o,h'.get? e=some o/\o.cls=.type "StopIteration")->E (.ref e) {s with heap:=h'}) :
  wpAny (model prog w) A (Builtin.«zip.__next__» ⟨[.ref (n+5)],[]⟩) Q E s:=by
 obtain⟨g0,g1,⟨a,b,c,g2⟩,p1,p2,p3⟩:=S;show wpAny _ _ (field (.ref (n+5)) 2 >>=_) _ _ _;refine wpAny_bind (wpAny_field g0 rfl (x:=.bool false) rfl ?_);show wpAny _ _ (field (.ref (n+5)) 3 >>=_) _ _ _;refine wpAny_bind (wpAny_field g0 rfl (x:=.ref (n+3)) rfl (wpAny_bind (wpAny_seqItems g1 rfl ?_)));show wpAny _ _ (Builtin.SmallTypes.ownedTupleIsFree (.ref (n+5)) >>=_) _ _ _;refine wpAny_bind ?_;unfold Builtin.SmallTypes.ownedTupleIsFree;refine wpAny_bind (wpAny_field g0 rfl (x:=.none) rfl (wpAny_pure ?_));simp only[if_true];refine wpAny_bind (wpAny_rule (wpAny_bind (wpAny_field g0 rfl (x:=.ref (n+4)) rfl (wpAny_bind (wpAny_setField_rec g0 (by simp) λh1 z1 s1=>?_)))))
 replace z1:IsZip h1 (n+5) (n+3) (n+4) .ellipsis:=z1
 refine wpAny_bind ?_;simp only[List.zipIdx_cons,List.zipIdx_nil,List.forIn_cons,List.forIn_nil];refine wpAny_bind (wpAny_bind (wpAny_onRaise ?_));show wpAny _ _ (Builtin.SmallTypes.nextOf (.ref n) >>=_) _ _ _;have last:∀{h2:Heap}{e:Addr}{o:Obj},IsZip h2 (n+5) (n+3) (n+4) .ellipsis->h2.get? e=some o->o.cls=.type "StopIteration"->(∀(c:Nat) o,c < n\/n+5 < c->s.heap.get? c=some o->h2.get? c=some o)->
   wpAny (model prog w) A (setField (.ref (n+5)) 0 .none) (λ_ s'=>E (.ref e) s') (λx s'=>E x s') {s with heap:=h2}:=λ{h2 e o} zz he hc k=>by
  have ne:e≠n+5:=λx=>by subst x;rw[zz]at he;cases he;simp at hc
  exact wpAny_setField_rec zz (by simp) λh3 _ s3=>fin h3 e (λc o hc e=>s3.extBut _ _ (neA (by omega)) (k c o hc e)) ⟨o,s3.extBut _ _ ne he,hc⟩
 cases hx:xs[i]? with
 |none=>
  refine wpAny_bind (wpAny_nextOf_list_end hh (p1.extBut s1.extBut (neA (by omega))) (L1.extBut s1.extBut (neA (by omega))) hx λh2 e s2 ⟨o,he,hc⟩=>?_)
  exact last (s2 _ _ (neA (by omega)) z1) he hc λc o hc e=>s2 _ _ (neA (by omega)) (s1.extBut _ _ (neA (by omega)) e)
 |some x=>
  refine wpAny_bind (wpAny_nextOf_list_item (p1.extBut s1.extBut (neA (by omega))) (L1.extBut s1.extBut (neA (by omega))) hx λh2 q1 s2=>wpAny_pure ?_)
  have t2:Tr3 h2 (n+4) a b c:=s2.extBut _ _ (neA (by omega)) (s1.extBut _ _ (neA (by omega)) g2)
  refine wpAny_bind (wpAny_seqItems t2 rfl (wpAny_bind (ot t2 λh3 t3 s3=>?_)))
  replace t3:Tr3 h3 (n+4) x b c:=t3
  refine wpAny_bind (wpAny_letGo (wpAny_pure (wpAny_bind (wpAny_bind (wpAny_onRaise ?_)))));show wpAny _ _ (Builtin.SmallTypes.nextOf (.ref (n+1)) >>=_) _ _ _;have up3:∀c o,c≠n+5->c≠n+4->c≠n->s.heap.get? c=some o->h3.get? c=some o:=λc o c1 c2 c3 e=>s3.extBut _ _ c2 (s2.extBut _ _ c3 (s1.extBut _ _ c1 e))
  have z3:IsZip h3 (n+5) (n+3) (n+4) .ellipsis:=s3.extBut _ _ (neA (by omega)) (s2.extBut _ _ (neA (by omega)) z1)
  have p2':=p2.at λo e=>up3 _ o (neA (by omega)) (neA (by omega)) (neA (by omega)) e
  have L2':=L2.at λo e=>up3 _ o (neA (by omega)) (neA (by omega)) (neA (by omega)) e
  cases hy:ys[i]? with
  |none=>
   refine wpAny_bind (wpAny_nextOf_list_end hh p2' L2' hy λh4 e s4 ⟨o,he,hc⟩=>?_)
   exact last (s4 _ _ (neA (by omega)) z3) he hc λc o hc e=>s4 _ _ (neA (by omega)) (up3 c o (neA (by omega)) (neA (by omega)) (neA (by omega)) e)
  |some y=>
   have hz:zs[i]?=none:=by
    rcases no with h|h|h
    ·rw[hx]at h;cases h
    ·rw[hy]at h;cases h
    ·exact h
   refine wpAny_bind (wpAny_nextOf_list_item p2' L2' hy λh4 q2 s4=>wpAny_pure ?_)
   have t4:Tr3 h4 (n+4) x b c:=s4.extBut _ _ (neA (by omega)) t3
   refine wpAny_bind (wpAny_seqItems t4 rfl (wpAny_bind (ot t4 λh5 t5 s5=>?_)))
   refine wpAny_bind (wpAny_letGo (wpAny_pure (wpAny_bind (wpAny_bind (wpAny_onRaise ?_)))));show wpAny _ _ (Builtin.SmallTypes.nextOf (.ref (n+2)) >>=_) _ _ _;have up5:∀c o,c≠n+5->c≠n+4->c≠n->c≠n+1->s.heap.get? c=some o->h5.get? c=some o:=λc o c1 c2 c3 c4 e=>s5.extBut _ _ c2 (s4.extBut _ _ c4 (up3 c o c1 c2 c3 e))
   refine wpAny_bind (wpAny_nextOf_list_end hh (p3.at λo e=>up5 _ o (neA (by omega)) (neA (by omega)) (neA (by omega)) (neA (by omega)) e) (L3.at λo e=>up5 _ o (neA (by omega)) (neA (by omega)) (neA (by omega)) (neA (by omega)) e) hz λh6 e s6 ⟨o,he,hc⟩=>?_)
   exact last (s6 _ _ (neA (by omega)) (s5.extBut _ _ (neA (by omega)) (s4.extBut _ _ (neA (by omega)) z3))) he hc λc o hc e=>s6 _ _ (neA (by omega)) (up5 c o (neA (by omega)) (neA (by omega)) (neA (by omega)) (neA (by omega)) e)
theorem oj{Q:Option Value->Shared->Prop}(S:Z3 n l1 l2 l3 .none i i i s.heap)(a1:l1 < n)(a2:l2 < n)(a3:l3 < n)(L1:s.heap.IsList l1 xs)(L2:s.heap.IsList l2 ys)(L3:s.heap.IsList l3 zs)(hx:xs[i]?=some x)(hy:ys[i]?=some y)(hz:zs[i]?=some v)
  (fin:∀h',Z3 n l1 l2 l3 (rawInt s.heap.objs.size) (i+1) (i+1) (i+1) h'->Tr3 h' s.heap.objs.size x y v->(∀(c:Nat) o,c < n\/n+5 < c->s.heap.get? c=some o->h'.get? c=some o)->Q (some (.ref s.heap.objs.size)) {s with heap:=h'}) :
  wpAny (model prog w) A (pyNext (.ref (n+5))) Q E s:=by
 have hT:s.TypeIs (.ref (n+5)) "zip":=⟨_,S.z,rfl⟩;unfold pyNext;exact wpAny_bind (wpAny_attempt (wpAny_callSpecial?_slot (name:=Str.ofString "__next__") hT F.slot_zip_next (wpAny_call_entry F.slot_zip_next hT F.entry_zip_next (re S a1 a2 a3 L1 L2 L3 hx hy hz λh' b1 b2 b3=>wpAny_pure (fin h' b1 b2 b3)) (F.args_zip_next_1 _))))
theorem rA{Q:Option Value->Shared->Prop}(hh:A.handled=none)(S:Z3 n l1 l2 l3 .none i i i s.heap)(a1:l1 < n)(a2:l2 < n)(a3:l3 < n)(L1:s.heap.IsList l1 xs)(L2:s.heap.IsList l2 ys)(L3:s.heap.IsList l3 zs)(no:xs[i]?=none\/ys[i]?=none\/zs[i]?=none)
  (fin:∀h',(∀(c:Nat) o,c < n\/n+5 < c->s.heap.get? c=some o->h'.get? c=some o)->Q none {s with heap:=h'}):wpAny (model prog w) A (pyNext (.ref (n+5))) Q E s:=by
 have hT:s.TypeIs (.ref (n+5)) "zip":=⟨_,S.z,rfl⟩;unfold pyNext;refine wpAny_bind (wpAny_attempt (wpAny_callSpecial?_slot (name:=Str.ofString "__next__") hT F.slot_zip_next (wpAny_call_entry F.slot_zip_next hT F.entry_zip_next (t9 hh S a1 a2 a3 L1 L2 L3 no λh' e hk ⟨o,ho,hc⟩=>?_) (F.args_zip_next_1 _))))
 exact wpAny_bind (wpAny_isInstance (T:="StopIteration") (b:=true) ⟨o,ho,hc⟩ isSubtype_stop (wpAny_pure (fin _ hk)))
theorem tc3(a b c:Value):checkTypeCall "zip" ⟨[a,b,c],[]⟩=pure ():=by kernel_rfl
theorem nc3(a b c:Value):checkBuiltinCall "zip.__new__" ⟨[.type "zip",a,b,c],[]⟩=pure ():=by kernel_rfl
theorem ia4(a b c d:Value):argsOk "object.__init__" ⟨[a,b,c,d],[]⟩:=by
 unfold argsOk;rw[signature?_of (id:="object.__init__") (n:=['_','_','t','i','n','i','_','_']) (o:=['t','c','e','j','b','o']) (by kernel_rfl) F.owner_object];kernel_rfl
noncomputable abbrev zI(l:Addr):Obj:={cls:=.type "list_iterator",data:=.fields #[.ref l,.int 0 0]}
noncomputable abbrev zA(h:Heap)(l1 l2 l3:Addr):Heap:=((h.push (zI l1)).push (zI l2)).push (zI l3)
noncomputable abbrev zB(h:Heap)(l1 l2 l3:Addr):Heap:=(zA h l1 l2 l3).push {cls:=.type "tuple",data:=.seq #[.ref h.objs.size,.ref (h.push (zI l1)).objs.size,.ref ((h.push (zI l1)).push (zI l2)).objs.size]}
noncomputable abbrev zC(h:Heap)(l1 l2 l3:Addr):Heap:=(zB h l1 l2 l3).push {cls:=.type "tuple",data:=.seq #[.none,.none,.none]}
noncomputable abbrev zD(h:Heap)(l1 l2 l3:Addr):Heap:=(zC h l1 l2 l3).push {cls:=.type "zip",data:=.fields #[.none,.bool false,.bool false,.ref (zA h l1 l2 l3).objs.size,.ref (zB h l1 l2 l3).objs.size]}
theorem oS(l1 l2 l3:Addr)(xs ys zs:Array Value):Meets (Builtin.«zip.__new__» ⟨[.type "zip",.ref l1,.ref l2,.ref l3],[]⟩) (λ_ R s=>s.heap.IsList l1 xs/\s.heap.IsList l2 ys/\s.heap.IsList l3 zs/\R (.ok (.ret (.ref (zC s.heap l1 l2 l3).objs.size))) {s with heap:=zD s.heap l1 l2 l3}):=
 .of_wp λprog w A R s h=>by
  obtain⟨hp,g,d,tk,os⟩:=s;obtain⟨L1,L2,L3,h⟩:=h;have hsub:=sub_zip;have q1:Heap.IsList (Shared.heap ⟨hp,g,d,tk,os⟩) l1 xs:=L1;have q2:Heap.IsList (Shared.heap ⟨hp.push (zI l1),g,d,tk,os⟩) l2 ys:=Heap.IsList.push L2 _;have q3:Heap.IsList (Shared.heap ⟨(hp.push (zI l1)).push (zI l2),g,d,tk,os⟩) l3 zs:=Heap.IsList.push (Heap.IsList.push L3 _) _
  wp_walk using wpAny_pyIter_list q1,wpAny_pyIter_list q2,wpAny_pyIter_list q3
  exact⟨_,rfl,h⟩
theorem rM{l1 l2 l3:Addr}{Q:Value->Shared->Prop}(L1:s.heap.IsList l1 xs)(L2:s.heap.IsList l2 ys)(L3:s.heap.IsList l3 zs)
  (h:∀h',Z3 s.heap.objs.size l1 l2 l3 .none 0 0 0 h'->(∀c o,s.heap.get? c=some o->h'.get? c=some o)->Q (.ref (s.heap.objs.size+5)) {s with heap:=h'}) :
  wpAny (model prog w) A (call (.type "zip") [.ref l1,.ref l2,.ref l3]) Q E s:=by
 refine callType_new F.called_zip (by decide) (tc3 _ _ _) (nc3 _ _ _) (λobj=>ia4 obj _ _ _) F.entry_zip_new (oS l1 l2 l3 xs ys zs) ⟨L1,L2,L3,?_⟩
 have z1:(s.heap.push (zI l1)).objs.size=s.heap.objs.size+1:=Heap.size_push ..;have z2:((s.heap.push (zI l1)).push (zI l2)).objs.size=s.heap.objs.size+2:=by rw[Heap.size_push,z1]
 have z3:(zA s.heap l1 l2 l3).objs.size=s.heap.objs.size+3:=by rw[Heap.size_push,z2]
 have z4:(zB s.heap l1 l2 l3).objs.size=s.heap.objs.size+4:=by rw[Heap.size_push,z3]
 have z5:(zC s.heap l1 l2 l3).objs.size=s.heap.objs.size+5:=by rw[Heap.size_push,z4]
 have P:∀{h:Heap}{o:Obj}{c:Addr}{u:Obj},h.get? c=some u->(h.push o).get? c=some u:=λe=>Heap.get?_push_of_some _ e
 have g6:(zD s.heap l1 l2 l3).get? (zC s.heap l1 l2 l3).objs.size=some _:=Heap.get?_push_size _ rfl;have g5:(zD s.heap l1 l2 l3).get? (zB s.heap l1 l2 l3).objs.size=some _:=P (Heap.get?_push_size _ rfl);have g4:(zD s.heap l1 l2 l3).get? (zA s.heap l1 l2 l3).objs.size=some _:=P (P (Heap.get?_push_size _ rfl));have g3:(zD s.heap l1 l2 l3).get? ((s.heap.push (zI l1)).push (zI l2)).objs.size=some _:=P (P (P (Heap.get?_push_size _ rfl)));have g2:(zD s.heap l1 l2 l3).get? (s.heap.push (zI l1)).objs.size=some _:=P (P (P (P (Heap.get?_push_size _ rfl))));have g1:(zD s.heap l1 l2 l3).get? s.heap.objs.size=some _:=P (P (P (P (P (Heap.get?_push_size _ rfl)))));show _/\_;rw[z3,z4,z5]at g6;rw[z4]at g5;rw[z1,z2,z3]at g4;rw[z2]at g3;rw[z1]at g2;rw[z5];exact⟨⟨_,g6,rfl⟩,h _ ⟨g6,g4,⟨_,_,_,g5⟩,⟨_,g1,rfl,rfl⟩,⟨_,g2,rfl,rfl⟩,⟨_,g3,rfl,rfl⟩⟩ λc o x=>P (P (P (P (P (P x)))))⟩
end
section
variable {X:Cx}{s:Shared}{h':Heap}
noncomputable def tz (K : PySem.W.Frag) (a b c : Addr) : It :=
  ⟨λi H => ∃ xs ys zs x y z, SqL K H a xs /\ SqL K H b ys /\ SqL K H c zs /\ xs[i]? = some x /\ ys[i]? = some y /\ zs[i]? = some z, λi H v H' => ∃ p, v = .ref p /\ H p = none /\ ∃ x y z, (∀ xs, SqL K H a xs -> xs[i]? = some x) /\ (∀ ys, SqL K H b ys -> ys[i]? = some y) /\ (∀ zs, SqL K H c zs -> zs[i]? = some z) /\ H' = upd H p (.tup [x, y, z]),
   λi H => ∃ xs ys zs, SqL K H a xs /\ SqL K H b ys /\ SqL K H c zs /\ (xs.length <= i \/ ys.length <= i \/ zs.length <= i)⟩
noncomputable abbrev fp3(n:Nat):List Addr:=[n+5,n+3,n+4,n,n+1,n+2]
theorem oM{n c:Nat}(h:(c:Addr)∉fp3 n):c < n\/n+5 < c:=by
 simp only[List.mem_cons,List.not_mem_nil,or_false,not_or]at h;obtain⟨h1,h2,h3,h4,h5,h6⟩:=h;have h1:¬ (c=n+5):=h1;have h2:¬ (c=n+3):=h2;have h3:¬ (c=n+4):=h3;have h4:¬ (c=n):=h4;have h5:¬ (c=n+1):=h5;have h6:¬ (c=n+2):=h6;omega
theorem mQ{P:Program}{w:World}{K:PySem.W.Frag}{elts:List Expr}{x1:Nat}{pos:Pos}{a b c n:Nat}(a1:a < n)(a2:b < n)(a3:c < n):Turn P w K (.Tuple elts x1 pos) (tz K a b c) (fp3 n) (n+5) (λi h=>Z3 n a b c .none i i i h) where
 mem:=by simp
 obj:=λi h st d hd=>by
  obtain⟨h1,h2,⟨_,_,_,h3⟩,h4,h5,h6⟩:=st;simp only[List.mem_cons,List.not_mem_nil,or_false]at hd;have it:∀{d l:Addr}{k:Nat},h.IsListIter d l k->∃o,h.get? d=some o/\∀v,o.data≠.cell v:=λ⟨o,e1,_,d⟩=>⟨o,e1,λv q=>by rw[d]at q;cases q⟩
  rcases hd with rfl|rfl|rfl|rfl|rfl|rfl
  ·exact⟨_,h1,λv q=>by have q':Data.fields _=Data.cell v:=q;cases q'⟩
  ·exact⟨_,h2,λv q=>by have q':Data.seq _ _=Data.cell v:=q;cases q'⟩
  ·exact⟨_,h3,λv q=>by have q':Data.seq _ _=Data.cell v:=q;cases q'⟩
  ·exact it h4
  ·exact it h5
  ·exact it h6
 keep:=λi h h' st k=>by
  obtain⟨h1,h2,⟨d,e,f,h3⟩,h4,h5,h6⟩:=st;exact⟨k _ (by simp) _ h1,k _ (by simp) _ h2,⟨d,e,f,k _ (by simp) _ h3⟩,h4.at λo e1=>k _ (by simp) o e1,h5.at λo e1=>k _ (by simp) o e1,h6.at λo e1=>k _ (by simp) o e1⟩
 item:=by
  intro X hP hw hK hc i pins s σ H E I hf st hg;subst hP hw hK;obtain⟨xs,ys,zs,x,y,z,hq,hq2,hq3,hx,hy,hz⟩:=hg;obtain⟨its,rv,p,_⟩:=I.list hq;obtain⟨its2,rv2,p2,_⟩:=I.list hq2;obtain⟨its3,rv3,p3,_⟩:=I.list hq3;obtain⟨u,hu,ru⟩:=rv.get hx;obtain⟨u2,hu2,ru2⟩:=rv2.get hy;obtain⟨u3,hu3,ru3⟩:=rv3.get hz;refine oj st a1 a2 a3 p.isList p2.isList p3.isList (x:=u) (y:=u2) (v:=u3) (by simpa using hu) (by simpa using hu2) (by simpa using hu3) λh' b1 b2 k=>?_
  have hp:H s.heap.objs.size=none:=I.hok.fresh (Nat.le_refl _);have I1:Inv X pins σ (upd H s.heap.objs.size (.tup [x,y,z])) {s with heap:=s.heap.push {cls:=.type "tuple",data:=.seq #[u,u2,u3]},toks:=s.toks}:=
   I.laid (λb o e1=>Heap.get?_push_of_some _ e1) (Nat.le_refl _) ⟨by show 3<=sizeLine;decide,[u,u2,u3],.cons ru (.cons ru2 (.cons ru3 .nil)),⟨_,Heap.get?_push_size _ rfl,rfl,_,rfl⟩⟩
  have zl:n+5 < s.heap.objs.size:=Heap.lt_size st.z;have hlt:∀b∈fp3 n,b < s.heap.objs.size:=λb hb=>by
   simp only[List.mem_cons,List.not_mem_nil,or_false]at hb;have nl:∀c:Nat,c<=n+5->@LT.lt Addr _ c s.heap.objs.size:=λc hc=>Nat.lt_of_le_of_lt hc zl
   rcases hb with rfl|rfl|rfl|rfl|rfl|rfl<;>exact nl _ (by omega)
  have hf':∀b∈fp3 n,gI X pins (upd H s.heap.objs.size (.tup [x,y,z])) b:=λb hb=>⟨by rw[ad (Nat.ne_of_lt (hlt b hb))];exact (hf b hb).1,(hf b hb).2⟩
  have I2:=I1.turnedL (t':=s.toks) (h':=h') (ch:=fp3 n) (λb o hb e1=>by
   by_cases hs:b=s.heap.objs.size
   ·subst hs;have e2:(s.heap.push {cls:=.type "tuple",data:=.seq #[u,u2,u3]}).get? s.heap.objs.size=some {cls:=.type "tuple",data:=.seq #[u,u2,u3]}:=Heap.get?_push_size _ rfl;rw[e2]at e1;cases e1;exact b2
   ·exact k b o (oM hb) ((Heap.get?_push_ne _ _ _ hs).symm.trans e1)) hf'
  obtain⟨b3,b4,⟨d1,d2,d3,b5⟩,b6,b7,b8⟩:=b1;refine⟨.ref s.heap.objs.size,rfl,wpAny_letOwnedTupleGo_zip (s:={s with heap:=h',toks:=s.toks}) b3 λh2' he2 hs2=>?_⟩
  have I3:=I2.turnedL (t':=s.toks) (h':=h2') (ch:=fp3 n) (λb o hb e1=>(hs2.2 b (λq=>hb (by simp[q]))).trans e1) hf'
  have nz:∀{c:Nat},c≠n+5->@Ne Addr c (n+5):=λh=>h
  exact⟨.ref s.heap.objs.size,_,I3,rfl,⟨_,rfl,hp,x,y,z,λys' hy'=>by rw[I.list_inj hy' hq];exact hx,λys' hy'=>by rw[I.list_inj hy' hq2];exact hy,λys' hy'=>by rw[I.list_inj hy' hq3];exact hz,rfl⟩,
   ⟨he2,(hs2.2 _ (nz (by omega))).trans b4,⟨d1,d2,d3,(hs2.2 _ (nz (by omega))).trans b5⟩,b6.at λo e1=>(hs2.2 _ (nz (by omega))).trans e1,b7.at λo e1=>(hs2.2 _ (nz (by omega))).trans e1,b8.at λo e1=>(hs2.2 _ (nz (by omega))).trans e1⟩,λb hb=>(hf' b hb).1⟩
 done:=by
  intro X hP hw hK hc i pins s σ H E I hf st hg;subst hP hw hK;obtain⟨xs,ys,zs,hq,hq2,hq3,hx⟩:=hg;obtain⟨its,rv,p,_⟩:=I.list hq;obtain⟨its2,rv2,p2,_⟩:=I.list hq2;obtain⟨its3,rv3,p3,_⟩:=I.list hq3;have hl:=rv.length;have hl2:=rv2.length;have hl3:=rv3.length;refine rA (I.ok.hd hc) st a1 a2 a3 p.isList p2.isList p3.isList ?_ λh' eb=>⟨rfl,I.turnedL (t':=s.toks) (ch:=fp3 n) (λb o hb e=>eb b o (oM hb) e) hf⟩
  rcases hx with hx|hx|hx
  ·exact .inl (by simp;omega)
  ·exact .inr (.inl (by simp;omega))
  ·exact .inr (.inr (by simp;omega))
 self:=λ_ _ _ _ _ st h=>wpAny_pyIter_zip st.z h
theorem rV{K:PySem.W.Frag}(sq:SqF K H0 p vs)(dl:DenL K H0 ds vs)(sq2:SqF K H0 q ws)(dl2:DenL K H0 es ws)(sq3:SqF K H0 r us)(dl3:DenL K H0 fs us):ItOk K H0 (tz K p q r) (eB ds es fs) (λ_=>True):=by
 have e1:=dl.length;have e2:=dl2.length;have e3:=dl3.length;refine⟨λi H M t rm s hi=>?_,λi H M x H' t rm s hi y=>?_,λH M t rm s=>?_⟩
 ·simp only[eB,List.length_map,List.length_zip]at hi;exact⟨vs,ws,us,vs[i]'(by omega),ws[i]'(by omega),us[i]'(by omega),(t.f _ _ sq).sq,(t.f _ _ sq2).sq,(t.f _ _ sq3).sq,by simp,by simp,by simp⟩
 ·obtain⟨q,rfl,hq,v,w,u,hv,hw,hu,rfl⟩:=y;obtain⟨d,f1,g1⟩:=(dl.mono t).get' (hv vs (t.f _ _ sq).sq);obtain⟨d',f2,g2⟩:=(dl2.mono t).get' (hw ws (t.f _ _ sq2).sq);obtain⟨d'',f3,g3⟩:=(dl3.mono t).get' (hu us (t.f _ _ sq3).sq);refine⟨.new hq,rm.grow hq,.tup [d,d',d''],?_,⟨q,[v,w,u],rfl,.inl (.inl ag),⟨_,_,rfl,g1.mono (.new hq),_,_,rfl,g2.mono (.new hq),_,_,rfl,g3.mono (.new hq),rfl⟩⟩⟩;have ez:(ds.zip (es.zip fs))[i]?=some (d,d',d''):=List.getElem?_zip_eq_some.mpr ⟨f1,List.getElem?_zip_eq_some.mpr ⟨f2,f3⟩⟩;simp[eB,ez]
 ·refine⟨vs,ws,us,(t.f _ _ sq).sq,(t.f _ _ sq2).sq,(t.f _ _ sq3).sq,?_⟩;simp only[eB,List.length_map,List.length_zip];omega
noncomputable def xc(K:PySem.W.Frag)(ta:TA):TI:=λσ H R=>ta σ H λvs H1=>∃a b c,vs=[.ref a,.ref b,.ref c]/\(∃xs,SqL K H1 a xs)/\(∃ys,SqL K H1 b ys)/\(∃zs,SqL K H1 c zs)/\R (tz K a b c) H1
theorem Vals.three{a b c:V}(r:Vals [a,b,c] us):∃u v w,us=[u,v,w]/\RelV a u/\RelV b v/\RelV c w:=by
 cases r with
 |cons r1 r=>cases r with
  |cons r2 r=>cases r with
   |cons r3 r=>cases r;exact⟨_,_,_,rfl,r1,r2,r3⟩
theorem qt(hg:Gl X "zip")(hm:X.mg "zip"=none)(ha:PA X [a,b,c] ta)(hs:starEach [a,b,c] X.env=(false,eval a X.env)::starEach [b,c] X.env)(hs2:(backTo pos (starEach [b,c] X.env)).any (·.1)=false):PI X (.Tuple elts x1 pt) (.Call (.Name "zip" p) [a,b,c] [] pos) (xc X.K ta):=by
 intro pins s σ H R I h;refine Call_ (gO I hg hm (u:=.type "zip") (by decide +kernel) (PyProof.Rows.callWith_type1 (thn (ha pos pins s σ H _ I h) λus s1 ⟨vs,H1,I1,r1,q1⟩=>?_) hs hs2))
 obtain⟨d,e,f,eq,⟨xs,hq⟩,⟨ys,hq2⟩,⟨zs,hq3⟩,q⟩:=q1;subst eq;obtain⟨u,v,w,rfl,ru,rv',rw'⟩:=r1.three;cases ru;cases rv';cases rw';obtain⟨its,rv,pl,hz⟩:=I1.list hq;obtain⟨its2,rv2,pl2,hz2⟩:=I1.list hq2;obtain⟨its3,rv3,pl3,hz3⟩:=I1.list hq3;have a1:d < s1.heap.objs.size:=by obtain⟨_,_,e,_⟩:=pl;exact Heap.lt_size e
 have a2:e < s1.heap.objs.size:=by obtain⟨_,_,e,_⟩:=pl2;exact Heap.lt_size e
 have a3:f < s1.heap.objs.size:=by obtain⟨_,_,e,_⟩:=pl3;exact Heap.lt_size e
 refine rM pl.isList pl2.isList pl3.isList λh' S k=>?_
 refine wpAny_pyIter_zip (s:={s1 with heap:=h'}) S.z ?_
 refine⟨s1.heap.objs.size+5,fp3 s1.heap.objs.size,_,_,H1,rfl,I1.kept (t':=s1.toks) k,mQ a1 a2 a3,S,λb hb=>?_,q⟩
 have hle:s1.heap.objs.size<=b:=by
  simp only[List.mem_cons,List.not_mem_nil,or_false]at hb;rcases hb with rfl|rfl|rfl|rfl|rfl|rfl<;>first|exact Nat.le_refl _|exact Nat.le_add_right _ _
 exact I1.fpOk hle (I1.hok.fresh hle)
theorem uq(hg:Gl X "zip")(hm:X.mg "zip"=none)(ha:PE X a (low X.K cls E2 ta))(hb:PE X b (low X.K cls E2 tb))(hc:PE X c (low X.K cls E2 tc))(h1:starEach [a,b,c] X.env=(false,eval a X.env)::starEach [b,c] X.env)(h2:starEach [b,c] X.env=(false,eval b X.env)::starEach [c] X.env)(h3:starEach [c] X.env=(false,eval c X.env)::starEach [] X.env)(hs2:(backTo pos (starEach [b,c] X.env)).any (·.1)=false) :
  PI X (.Tuple elts x1 pt) (.Call (.Name "zip" p) [a,b,c] [] pos) (jP X.K cls E2 λσ M R E=>ta σ M (λx M1=>tb σ M1 (λy M2=>tc σ M2 (λz M3=>match x,y,z with
  |.rol xs,.rol ys,.rol zs=>R (eB xs ys zs) (λ_=>True) M3
  |_,_,_=>False) E) E) E):=
 (qt hg hm (aW ha (aW hb (aW hc pa_nil h3) h2) h1) h1 hs2).imp λσ H R2 hl_=>ex9 hl_ λσ3 M R E3 rm ds lk h k=>aQ rm ds lk h λv H1 x M1 dx rm1 t1 q1=>aQ rm1 (ds.mono t1) (lk.mono t1) q1 λw H2 y M2 dy rm2 t2 q2=>aQ rm2 ((ds.mono t1).mono t2) ((lk.mono t1).mono t2) q2 λu H3 z M3 dz rm3 t3 q3=>by
  cases x with
  |rol xs=>
   cases y with
   |rol ys=>
    cases z with
    |rol zs=>
     obtain⟨q,vs,rfl,sq,dl⟩:=(dx.mono t2).mono t3;obtain⟨q',ws,rfl,sq2,dl2⟩:=dy.mono t3;obtain⟨q'',us,rfl,sq3,dl3⟩:=dz;exact⟨q,q',q'',rfl,⟨vs,sq.sq⟩,⟨ws,sq2.sq⟩,⟨us,sq3.sq⟩,k _ _ _ _ _ (rV sq dl sq2 dl2 sq3 dl3) rm3 ((t1.trans t2).trans t3) q3⟩
    |_=>exact q3.elim
   |_=>exact q3.elim
  |_=>exact q3.elim
end
end L2
namespace L2
open PySem PySem.Spec PyProof.Rows
section
variable {A:Around}{s:Shared}
end
section
variable {prog:Program}{w:World}{A:Around}{E:Value->Shared->Prop}{s:Shared}{z TI TO i1 i2 l1 l2 S:Addr}{xs ys:Array Value}{i:Nat}
end
section
variable {prog:Program}{w:World}{A:Around}{s:Shared}{R:Result->Shared->Prop}{z TI TO i1 i2 l1 l2 S lo:Addr}{xs ys:Array Value}
end
section
variable {prog:Program}{w:World}{A:Around}{E:Value->Shared->Prop}{s:Shared}{R:Result->Shared->Prop}{z TI TO i1 i2 l1 l2 S lo:Addr}{xs ys:Array Value}
end
section
variable {X:Cx}{s:Shared}{h':Heap}
end
end L2
namespace L2
open PySem PySem.Spec PyProof.Rows
section
variable {X:Cx}
end
end L2
namespace L2
open PySem PySem.Spec PyProof.Rows
section
variable {A:Around}{s:Shared}{items:Array Value}
end
end L2
namespace L2
open PySem PySem.Spec PyProof.Rows
end L2
namespace L2
open PySem PySem.Spec PyProof.Rows
section
variable {X:Cx}
end
end L2
namespace L2
open PySem PySem.Spec PyProof.Rows
section
variable {X:Cx}
end
end L2
namespace L2
open PySem PySem.Spec PyProof.Rows
section
variable {X:Cx}{cls:Nat->Addr}{E2:St->XK}{e:Expr}{pos p:Pos}
end
end L2
namespace L2
open PySem PySem.Spec PyProof.Rows
noncomputable def isN(i:Int):Expr->Bool
 |.Constant k _ _=>match k with
  |.int j=>decide (j=i)
  |_=>false
 |_=>false
section
variable {X:Cx}
noncomputable def qa(ps:List (Str×Int)):List Key:=ps.map λp=>.inr p.1
noncomputable def rf(ps:List (Str×Int)):List D:=ps.map λp=>.int p.2
end
end L2
namespace L2
open PySem PySem.Spec PyProof.Rows
noncomputable def yz(Pm:Params)(p:Str×Int)(e:DictEntry):Prop:=(∀w:World,w.params=Pm->e.hash=hashStr w p.1)/\(∃t,e.key=.str p.1 t)/\∃t,e.val=.int p.2 t
noncomputable def GDk(K:PySem.W.Frag)(Pm:Params)(a:Addr)(ps:List (Str×Int)):Prop:=∃(es:List DictEntry) (n:Nat),K.lookup a=some {cls:=.type "dict",data:=.dict es.toArray n}/\(a == sysModules)=false/\Paired (yz Pm) ps es/\(ps.map (·.1)).Nodup
noncomputable def nW(K:PySem.W.Frag)(Pm:Params):D->V->Prop
 |.dik ks ds,v=>∃a ps,v=.ref a/\ks=qa ps/\ds=rf ps/\GDk K Pm a ps
 |d,v=>∀H,Den K H d v
noncomputable def gkv(ps:List (Str×Int)):List (Key×V):=ps.map λp=>(.inr p.1,.int p.2)
theorem sB{P:Program}{w:World}:∀{ps:List (Str×Int)}{es:List DictEntry},Paired (yz w.params) ps es->(∀e∈es,∃k,(aw P w).is k e.key=true/\e.hash=(aw P w).hash k)/\∃kvs,KV (gkv ps) kvs/\Pairs (aw P w) es kvs/\kvs.map (·.1)=ps.map λp=>Sum.inr p.1
 |[],_,h=>by
  cases h;exact⟨(λe h=>nomatch h),[],.nil,.nil,rfl⟩
 |p::ps,_,h=>by
  cases h with
  |cons h1 h2=>
   obtain⟨a1,⟨t,a2⟩,⟨u,a3⟩⟩:=h1;obtain⟨b1,kvs,b2,b3,b4⟩:=sB h2;refine⟨λe he=>?_,(.inr p.1,.int p.2 u)::kvs,.cons ⟨rfl,⟨u,rfl⟩⟩ b2,.cons (by rw[a2];exact cP P w p.1 t) a3 b3,by simp[b4]⟩
   rcases List.mem_cons.mp he with rfl|he
   ·exact⟨.inr p.1,by rw[a2];exact cP P w p.1 t,a1 w rfl⟩
   ·exact b1 e he
theorem GDk.dict{K:PySem.W.Frag}{P:Program}{w:World}{h:Heap}(g:GDk K w.params a ps)(hK:∀o,K.lookup a=some o->h.get? a=some o):∃kvs,KV (gkv ps) kvs/\h.DictOf (aw P w) a kvs:=by
 obtain⟨es,n,hk,_,hp,nd⟩:=g;obtain⟨b1,kvs,b2,b3,b4⟩:=sB (P:=P) hp;refine⟨kvs,b2,_,_,_,hK _ hk,⟨rfl,rfl,rfl⟩,rfl,λe he=>b1 e (by simpa using he),b3,?_⟩
 rw[b4,show (ps.map λp=>(.inr p.1:Key))=(ps.map (·.1)).map Sum.inr by rw[List.map_map];rfl]
 exact List.Pairwise.map _ (λa b h z=>h (Sum.inr.inj z)) nd
theorem xI(ps:List (Str×Int))(x:Str):ce (gkv ps) (.inr x)=(ps.lookup x).map V.int:=by
 induction ps with
 |nil=>rfl
 |cons p ps ih=>
  obtain⟨y,i⟩:=p;unfold gkv ce at ih ⊢;by_cases e:x=y
  ·subst e;simp
  ·have e':(x == y)=false:=beq_eq_false_iff_ne.mpr e;have e2:¬ y=x:=λz=>e z.symm
   simp[List.lookup,e',e2]at ih ⊢;exact ih
theorem q9(ps:List (Str×Int))(x:Str):getD (qa ps) (rf ps) (.inr x)=(ps.lookup x).map D.int:=by
 induction ps with
 |nil=>rfl
 |cons p ps ih=>
  obtain⟨y,i⟩:=p;unfold qa rf at ih ⊢;by_cases e:x=y
  ·subst e;simp[getD]
  ·have e':(x == y)=false:=beq_eq_false_iff_ne.mpr e;have e2:¬ y=x:=λz=>e z.symm
   simp[getD,List.lookup,e',e2];exact ih
theorem wL{X:Cx}(g:GDk X.K X.w.params a ps):TyD X "dict" (λx _=>match x with|.ref b=>b == a|_=>false):=λx v M H dx rm h pins σ s v2 I rv=>by
 cases x with
 |ref b=>
  have h:(b == a)=true:=h;have h:=beq_iff_eq.mp h;subst h;cases (show v=.ref b from dx);cases (show v2=Value.ref b from rv);obtain⟨kvs,_,dd⟩:=g.dict (P:=X.prog) (h:=s.heap) (λo e=>I.kIn _ o e)
  refine⟨dd.typeIs,λb q=>?_⟩
  cases q;obtain⟨ob,_,_,h1,h2,_⟩:=dd;exact⟨ob,h1,h2.2.1⟩
 |_=>cases h
theorem yn{X:Cx}(g:GDk X.K X.w.params a ps):VM X "dict.get" (λx ys M Q=>x=.ref a/\rGg (.dik (qa ps) (rf ps)) ys M Q):=by
 intro pins s σ H x xs v vs v2 us M Q Q2 I rv rs dx dl rm q back;obtain⟨rfl,q⟩:=q;unfold rGg at q;split at q
 ·rename_i ks ds t e;cases e;obtain⟨zv,rfl,dz⟩:=bZ dl;cases (show zv=.str t from dz);cases (show v=.ref a from dx);cases (show v2=Value.ref a from rv);cases rs with
  |cons ry r2=>
   cases r2;obtain⟨kvs,rel,dd⟩:=g.dict (P:=X.prog) (h:=s.heap) (λo e=>I.kIn _ o e)
   refine call_meetsIn PySem.F.slot_dict_get dd.typeIs PySem.F.entry_dict_get (PySem.F.args_dict_get_2 _ _) (meets_dict_get (aw X.prog X.w) a (iR (k:=.inr t) ry) (let ⟨_,_,_,h,_⟩:=g;h)) ⟨_,dd.mapOf,?_⟩
   have rl:=rel.val (.inr t);rw[xI]at rl;rw[q9]at q;refine⟨((ps.lookup t).map V.int).getD .non,H,I.tok _,rl.getD rfl,back _ _ _ _ ?_ rm (.refl _) q⟩;cases ps.lookup t<;>exact rfl
 ·exact q.elim
theorem sV{X:Cx}(hg:Gl X x)(hm:X.mg x=some u)(r:RelV v u)(hdb:(x == ("__debug__" : Str))=false)(hd:nW X.K X.w.params d v):PE X (.Name x pos) (low X.K cls E2 λ_ M Q _=>nq d M Q):=by
 cases d with
 |dik ks ds=>
  obtain⟨a,ps,rfl,_⟩:=hd;exact λpins s σ H Q2 I hl_=>ex9 hl_ λσ3 M Q E3 rm ds lk h back=>h.elim
 |_=>exact sy hg hm r hdb hd
theorem BP{X:Cx}{x:Str}(hg:Gl X x)(hm:X.mg x=some u)(r:RelV v u)(hdb:(x == ("__debug__" : Str))=false)(hd:nW X.K X.w.params d v)(ha:PA X (e::es) (dN X.K cls E2 tr))
  (hbase:attributeBase (.Name x pos) "get" X.env (eval (.Name x pos) X.env)=eval (.Name x pos) X.env) (hn:(e::es).length < 30)
  (hline:(apos.endLine == cpos.line)=true) (hs:starEach (e::es) X.env=(false,eval e X.env)::starEach es X.env) (hplain:(backTo cpos (starEach es X.env)).any (·.1)=false) :
  PE X (.Call (.Attribute (.Name x pos) "get" apos) (e::es) [] cpos) (low X.K cls E2 λσ M Q E=>ra d=true/\tr σ M (λxs M2=>rGg d xs M2 Q) E):=by
 cases d with
 |dik ks ds=>
  obtain⟨a,ps,rfl,rfl,rfl,g⟩:=hd;exact (oy PySem.F.plainAttrs_dict PySem.F.slot_dict_get PySem.F.type_dict_get (yn g) (wL g) (sy (d:=.ref a) hg hm r hdb λ_=>rfl) ha hbase hn hline hs hplain).imp λσ H Q2 hl_=>ex9 hl_ λσ3 M Q E3 rm ds lk h back=>⟨σ3,M,Q,E3,rm,ds,lk,⟨by simp,by simpa using h.2⟩,back⟩
 |_=>exact λpins s σ H Q2 I hl_=>ex9 hl_ λσ3 M Q E3 rm ds lk h back=>nomatch h.1
end L2
namespace L2
open PySem PySem.Spec PyProof.Rows
section
variable {X:Cx}{A:Around}
end
end L2
namespace L2
open PySem PySem.Spec PyProof.Rows
section
variable {A:Around}{s:Shared}{ob:Obj}{es:Array DictEntry}
end
section
variable {X:Cx}{apos cpos:Pos}
theorem TabOk.grow{K:PySem.W.Frag}(z:TabOk K H d ks xs vs)(t:TM K H H'):TabOk K H' d ks xs vs:=⟨z.kx,z.nd,z.sz,z.no,z.vx,λx hx=>t.t _ _ (z.at_ x hx)⟩
end
end L2
namespace L2
open PySem PySem.Spec PyProof.Rows PySem.W
section
variable {X:Cx}{apos cpos:Pos}
end
end L2
namespace L2
open PySem PySem.Spec PyProof.Rows
section
variable {X:Cx}
end
end L2
namespace L2
open PySem PySem.Spec PyProof.Rows
theorem ER.upd_nx{K:PySem.W.Frag}(er:ER K H D3 D2)(h:∀σ' H' σ3' M',RelM K M' H'->DenS K H' σ3' σ'->TM K H H'->n3 σ3' M'->n2 σ' H'):ER K H {D3 with nx:=n3} {D2 with nx:=n2}:=⟨h,er.rt,er.bk,er.ct⟩
section
variable {X:Cx}{cls:Nat->Addr}{E2:St->XK}{st:Stmt}{rest:List Stmt}{t u:Ends3->(St3->XN)->St3->MH->Prop}{e:Expr}{te:St3->MH->VK3->XN->Prop}{pos:Pos}
theorem wj:PSs X [] (bz X.K cls E2 λD _ σ M=>D.nx σ M):=pss_nil.imp λD2 σ H hl_=>ex9 hl_ λσ3 M D3 E3 rm ds lk h er=>er.nx σ H σ3 M rm ds (.refl _) h
theorem ua(h1:PS X st (bz X.K cls E2 t))(h2:PSs X rest (bz X.K cls E2 u)):PSs X (st::rest) (bz X.K cls E2 λD E σ M=>t {D with nx:=λσ' M'=>u D E σ' M'} E σ M):=
 (oH h1 h2).imp λD2 σ H hl_=>ex9 hl_ λσ3 M D3 E3 rm ds lk h er=>⟨σ3,M,_,E3,rm,ds,lk,h,er.upd_nx λσ' H' σ3' M' rm' ds' tm q=>⟨σ3',M',D3,E3,rm',ds',lk.mono tm,q,er.mono tm⟩⟩
theorem xT{i:Nat}(h2:PSs X rest (bz X.K cls E2 u)):PSs X rest (bz X.K cls E2 λD E σ M=>match σ[i]? with
  |some (some (.ref a))=>u D E σ (del M a)
  |_=>False):=h2.imp λD2 σ H hl_=>ex9 hl_ λσ3 M D3 E3 rm ds lk h er=>by
 dsimp only at h;split at h
 ·rename_i a e;exact⟨σ3,_,D3,E3,rm.sub λb o q=>(i3 q).2,ds,lk,h,er⟩
 ·exact h.elim
theorem vv(he:PE X e (low X.K cls E2 te))(hs:swapsWith e none pos.line X.env=pure false):PS X (.Expr e pos) (bz X.K cls E2 λD E σ M=>te σ M (λ_ M1=>D.nx σ M1) (E σ)):=
 (l4 he hs).imp λD2 σ H hl_=>ex9 hl_ λσ3 M D3 E3 rm ds lk h er=>aQ rm ds (lk.at ds) h λv H1 x M1 dx rm1 t1 q1=>er.nx σ H1 σ3 M1 rm1 (ds.mono t1) t1 q1
theorem w5(he:PE X e (low X.K cls E2 te)):PS X (.Return (some e) pos) (bz X.K cls E2 λD E σ M=>te σ M D.rt (E σ)):=
 (vg he).imp λD2 σ H hl_=>ex9 hl_ λσ3 M D3 E3 rm ds lk h er=>aQ rm ds (lk.at ds) h λv H1 x M1 dx rm1 t1 q1=>er.rt v H1 x M1 dx rm1 t1 q1
theorem CS(hc:PT X c (bB X.K cls E2 tA))(ha:PSs X a (bz X.K cls E2 t))(hb:PSs X b (bz X.K cls E2 u)) :
  PS X (.If c a b pos) (bz X.K cls E2 λD E σ M=>tA σ M (λk M1=>if k=true then t D E σ M1 else u D E σ M1) (E σ)):=
 (yk hc ha hb).imp λD2 σ H hl_=>ex9 hl_ λσ3 M D3 E3 rm ds lk h er=>f8 rm ds (lk.at ds) h λk H1 M1 rm1 t1 q1=>by
  cases k with
  |true=>rw[if_pos rfl]at q1 ⊢;exact⟨σ3,M1,D3,E3,rm1,ds.mono t1,lk.mono t1,q1,er.mono t1⟩
  |false=>rw[if_neg Bool.false_ne_true]at q1 ⊢;exact⟨σ3,M1,D3,E3,rm1,ds.mono t1,lk.mono t1,q1,er.mono t1⟩
theorem su(hN:X.N.Nodup)(hi:X.N[i]?=some x)(hx:Loc X.env.scope x)(he:PE X e (low X.K cls E2 te))(hs:swapsWith e (some (.Name x pos')) pos.line X.env=pure false)(hf:X.fn x=true\/X.env.scope.names.lookup x=some .local) :
  PS X (.Assign [.Name x pos'] e pos) (bz X.K cls E2 λD E σ M=>te σ M (λx M1=>D.nx (σ.set i (some x)) M1) (E σ)):=
 (uf hN hi hx he hs hf).imp λD2 σ H hl_=>ex9 hl_ λσ3 M D3 E3 rm ds lk h er=>aQ rm ds (lk.at ds) h λv H1 x M1 dx rm1 t1 q1=>er.nx _ _ _ _ rm1 ((ds.mono t1).set dx) t1 q1
theorem vw(hN:X.N.Nodup)(hi:X.N[i]?=some x)(hx:Loc X.env.scope x)(hf:X.fn x=true\/X.env.scope.names.lookup x=some .local):PG X (.Name x pos) (ln X.K (wpG (.name i))):=
 (fG hN hi hx hf).imp λv σ H Q2 ⟨d,σ3,M,Q,dv,rm,ds,h,back⟩=>back _ _ _ _ rm (ds.set dv) (.refl _) h
noncomputable def bW(N:List Str)(sc:Scope)(fn:Bool):List Nat->List Expr->Bool
 |[],[]=>true
 |i::is,.Name x _::es=>(N[i]? == some x)&&(sc.names.lookup x == some .local||(fn&&sc.names.lookup x == some .cell))&&bW N sc fn is es
 |_,_=>false
noncomputable def fY(is:List Nat)(xs:List α)(σ:List (Option α)):List (Option α):=(is.zip xs).foldl (λσ p=>σ.set p.1 (some p.2)) σ
theorem iO(hN:X.N.Nodup)(hfn:fn=true->∀x,X.fn x=true):∀{is:List Nat}{es:List Expr},bW X.N X.env.scope fn is es=true->
  PGs X es (λvs σ H Q=>vs.length=is.length/\Q (fY is vs σ) H)/\(assignEach es X.env).length=is.length/\(assignEach es X.env).findIdx? (·.1)=none
 |[],[],_=>⟨λpins s σ H vs us Q I r ⟨e,h⟩=>qe pins s σ H vs us Q I r ⟨List.length_eq_zero_iff.mp e,by cases List.length_eq_zero_iff.mp e;exact h⟩,rfl,rfl⟩
 |[],_::_,h=>by simp[bW]at h
 |i::is,es,h=>by
  unfold bW at h;split at h
  ·rename_i heq;cases heq
  ·rename_i i' is' x px es' heq;cases heq;simp only[Bool.and_eq_true,beq_iff_eq,Bool.or_eq_true]at h;obtain⟨⟨h1,h2⟩,h3⟩:=h;obtain⟨ih,il,ix⟩:=iO hN hfn h3;have hg:PG X (.Name x px) (l8 i):=by
    rcases h2 with h2|⟨h2,h4⟩
    ·exact fG hN h1 (.inl h2) (.inr h2)
    ·exact fG hN h1 (.inr h4) (.inl (hfn h2 x))
   refine⟨λpins s σ H vs us Q I r ⟨e,q⟩=>?_,by show (assignEach es' X.env).length+1=is.length+1;rw[il],?_⟩
   ·cases vs with
    |nil=>cases e
    |cons v vs=>exact ph hg ih rfl pins s σ H (v::vs) us Q I r ⟨v,vs,rfl,by simpa using e,q⟩
   ·show List.findIdx? (·.1) ((false,assign (.Name x px) X.env)::assignEach es' X.env)=none;rw[List.findIdx?_cons];simp[ix]
  ·cases h
theorem gN{K:PySem.W.Frag}:∀{is:List Nat}{ds:List D}{vs:List V}{σ3:St3}{σ:St},DenL K H ds vs->DenS K H σ3 σ->DenS K H (fY is ds σ3) (fY is vs σ)
 |[],_,_,_,_,_,h=>by simpa [fY] using h
 |i::is,[],vs,_,_,dl,h=>by cases (show vs=[] from dl);simpa [fY] using h
 |i::is,d::ds,vs,_,_,dl,h=>by
  obtain⟨v,r,rfl,dv,dl⟩:=dl;exact gN (is:=is) dl (h.set (i:=i) dv)
theorem xD(hc:X.calm=true)(hN:X.N.Nodup)(hfn:fn=true->∀x,X.fn x=true)(ok:bW X.N X.env.scope fn is es=true):PG X (.Tuple es k pos) (ln X.K (wpG (.tup is))):=by
 obtain⟨h1,h2,h3⟩:=iO hN hfn ok;refine (uh hc h1 h2 h3).imp λv σ H Q2 ⟨d,σ3,M,Q,dv,rm,ds,h,back⟩=>?_
 simp only[wpG]at h;split at h
 ·rename_i es';obtain⟨p,vs,rfl,sq,dl⟩:=dv;obtain⟨z,q⟩:=h;exact⟨p,vs,rfl,sq,by rw[<-dl.length];exact z,by rw[<-dl.length];exact z,back _ _ _ _ rm (gN dl ds) (.refl _) q⟩
 ·exact h.elim
theorem xw(hp:PassesOwn (model X.prog X.w) X.A X.env X.xe)(hc:X.calm=true)(hi:PI X tg iter (jP X.K cls E2 wi))(hg:PG X tg (ln X.K g))(hb:PSs X body (bz X.K cls E2 t))
  (hs:∀x,foldedSetIterable iter X.env x=pure x):PS X (.For tg iter body [] pos) (bz X.K cls E2 λD E σ M=>wi σ M (λds S M1=>fV g (λD σ M=>t D E σ M) S D ds σ M1) (E σ)):=by
 refine (sU hp hc hi hg hb hs).imp λD2 σ H hl_=>ex9 hl_ λσ3 M D3 E3 rm ds0 lk h er=>⟨σ3,M,_,E3 σ3,rm,ds0,lk.at ds0,h,λJ H1 ds S M1 ok rm1 tm1 hP=>?_⟩
 refine⟨λi m σ' H'=>∃σ3' M',m=ds.length - i/\i<=ds.length/\RelM X.K M' H'/\DenS X.K H' σ3' σ'/\TM X.K H1 H'/\fV g (λD σ M=>t D E3 σ M) S D3 (ds.drop i) σ3' M',⟨ds.length,σ3,M1,by simp,Nat.zero_le _,rm1,ds0.mono tm1,.refl _,hP⟩,?_⟩
 rintro i m σ' H' ⟨σ3',M',rfl,hil,rm',ds',tm',p⟩;by_cases hlt:i < ds.length
 ·rw[List.drop_eq_getElem_cons hlt]at p;obtain⟨s',p⟩:=p;refine .inr ⟨ok.go i H' M' tm' rm' s' hlt,λσ4 H4=>∃σ34 M4,RelM X.K M4 H4/\DenS X.K H4 σ34 σ4/\TM X.K H1 H4/\fV g (λD σ M=>t D E3 σ M) S D3 (ds.drop (i+1)) σ34 M4,?_,?_⟩
  ·rintro σ4 H4 ⟨σ34,M4,e1,e2,e3,e4⟩;exact⟨ds.length - (i+1),by omega,σ34,M4,rfl,hlt,e1,e2,e3,e4⟩
  ·intro x H2 y;obtain⟨tm2,rm2,d,hd,dv⟩:=ok.yld i H' M' x H2 tm' rm' s' hlt y;rw[List.getElem?_eq_getElem hlt]at hd;cases hd;refine⟨_,σ3',M',_,dv,rm2,ds'.mono tm2,p,λσ5 H5 σ35 M5 rm5 ds5 tm5 q5=>?_⟩
   have tmA:TM X.K H1 H5:=(tm'.trans tm2).trans tm5;exact⟨σ35,M5,_,E3,rm5,ds5,lk.mono (tm1.trans tmA),q5,⟨λσ6 H6 σ36 M6 rm6 ds6 tm6 q6=>⟨σ36,M6,rm6,ds6,tmA.trans tm6,q6⟩,λv H6 d6 M6 dv6 rm6 tm6 q6=>er.rt v H6 d6 M6 dv6 rm6 (tm1.trans (tmA.trans tm6)) q6,
    λσ6 H6 σ36 M6 rm6 ds6 tm6 q6=>er.nx σ6 H6 σ36 M6 rm6 ds6 (tm1.trans (tmA.trans tm6)) q6,λσ6 H6 σ36 M6 rm6 ds6 tm6 q6=>⟨σ36,M6,rm6,ds6,tmA.trans tm6,q6⟩⟩⟩
 ·have e:i=ds.length:=by omega
  subst e;rw[List.drop_length]at p;exact .inl ⟨ok.stop H' M' tm' rm' p.1,er.nx σ' H' σ3' M' rm' ds' (tm1.trans tm') p.2⟩
theorem rL(hx:ja X E)(hE:E2=λ_=>E)(hc:X.calm=true)(hg:Gl X x)(hm:X.mg x=some (.ref (cls i)))(q:qZ X.K (cls i))(ha:PA X (e::es) (dN X.K cls E2 tr))(hdb:(x == ("__debug__" : Str))=false)
  (he:starEach (e::es) X.env=(false,eval e X.env)::starEach es X.env) (hpl:(backTo cpos (starEach es X.env)).any (·.1)=false) :
  PS X (.Raise (some (.Call (.Name x np) (e::es) [] cpos)) none pos) (bz X.K cls E2 λ_ E σ M=>tr σ M (λxs M1=>xs.length<=sizeLine/\E σ ⟨i,none⟩ M1) (E σ)):=by
 subst hE;exact (om hx hc hg hm q ha hdb he hpl).imp λD2 σ H hl_=>ex9 hl_ λσ3 M D3 E3 rm ds lk h er=>fe rm ds (lk.at ds) h λvs H1 xs M1 dl rm1 t1 ⟨z,q⟩=>⟨by rw[<-dl.length];exact z,lk σ3 σ ⟨i,none⟩ M1 H1 t1 (ds.mono t1) rm1 q none rfl⟩
theorem zk{apos cpos:Pos}(ho:PE X o (low X.K cls E2 to))(he:PE X e (low X.K cls E2 te))(hbase:attributeBase o "append" X.env (eval o X.env)=eval o X.env)
  (hline:(apos.endLine == cpos.line)=true) (hs:starEach [e] X.env=[(false,eval e X.env)]) :
  PS X (.Expr (.Call (.Attribute o "append" apos) [e] [] cpos) pos) (bz X.K cls E2 λD E σ M=>to σ M (λx M1=>match x with
  |.ref a=>match M1 a with
   |some (.lst _)=>te σ M1 (λy M2=>match M2 a with
    |some (.lst ds)=>ds.length < sizeLine/\D.nx σ (put M2 a (.lst (ds++[y])))
    |_=>False) (E σ)
   |_=>False
  |_=>False) (E σ)):=by
 have hm:MtR X "list.append" rAppend:=iA;have h1:=wX (X:=X) PySem.F.plainAttrs_list PySem.F.slot_list_append PySem.F.type_list_append hm ho (aW he pa_nil hs) hbase (by rw[hs];rfl) hline hs (by rfl)
 refine (l4 h1 (by rfl)).imp λD2 σ H hl_=>ex9 hl_ λσ3 M D3 E3 rm ds lk h er=>?_
 refine aQ rm ds (lk.at ds) h λv H1 x M1 dx rm1 t1 q1=>?_
 split at q1
 ·rename_i a;cases (show v=.ref a from dx);split at q1
  ·rename_i ds0 e0;obtain⟨vs0,f0,_⟩:=rm1 a _ e0;refine⟨.inl ⟨rfl,vs0,.of f0⟩,aQ rm1 (ds.mono t1) ((lk.mono t1).at (ds.mono t1)) q1 λu H2 y M2 dy rm2 t2 q2=>?_⟩
   split at q2
   ·rename_i ds1 e1;obtain⟨vs,f1,dl⟩:=rm2 a _ e1;refine⟨a,vs,u,rfl,rfl,f1,by rw[<-dl.length];exact q2.1,?_⟩
    have tw:TM X.K H2 (upd H2 a (.lst (vs++[u]))):=.put f1 (λ_=>λz=>nomatch z) λ_ _=>λz=>nomatch z
    exact er.nx _ _ _ _ (rm2.write (u:=.lst (ds1++[y])) f1 (λ_=>λz=>nomatch z) (λ_ _=>λz=>nomatch z) ⟨_,ag,(dl.append (.one dy)).mono tw⟩) (((ds.mono t1).mono t2).mono tw) ((t1.trans t2).trans tw) q2.2
   ·exact q2.elim
  ·exact q1.elim
 ·exact q1.elim
end
end L2
namespace L2
open PySem PySem.Spec PyProof.Rows
noncomputable abbrev no2:St->XK:=λ_ _ _ _=>False
theorem on{K:PySem.W.Frag}(h:DenS K H σ3 σ):DenS K H (ai js σ3) (gC js σ):=by
 refine⟨by simp[ai,gC],λi d e=>?_⟩
 unfold ai at e;unfold gC;rw[List.getElem?_map]at e ⊢;cases q:js[i]? with
 |none=>rw[q]at e;cases e
 |some o=>
  rw[q]at e;cases o with
  |none=>cases e
  |some j=>
   rw[Option.map_some,Option.bind_some]at e;cases z:σ3[j]? with
   |none=>rw[z]at e;cases e
   |some y=>
    rw[z]at e;have e:some (id y)=some (some d):=e;have e:y=some d:=Option.some.inj e;subst e;obtain⟨v,e1,e2⟩:=h.2 j d z;refine⟨v,?_,e2⟩;rw[Option.map_some,Option.bind_some,e1];rfl
section
variable {X:Cx}
theorem dR{Ee:XN}{E2e:St->XK}(lke:∀σc,LkE X.K cls H Ee (E2e σc))(rm:RelM X.K M H)(ds0:DenS X.K H σ3 σ)(lk:LkE X.K cls H E3 (E2 σ))
  (h:wi σ3 M (λds S M1=>∀p,M1 p=none->aU g (λσ M Q=>tt σ M Q (λ_ _=>False)) (λσ M Q=>te σ M Q Ee) S p Q ds [] (ai js σ3) (put M1 p (.lst []))) E3) (back:Back X.K H Q Q2) :
  j6 js (jP X.K cls E2 wi) (ln X.K g) (bB X.K cls no2 tt) (low X.K cls E2e te) σ H Q2:=by
 refine⟨σ3,M,_,E3,rm,ds0,lk,h,λJ H1 ds S M1 ok rm1 tm1 hP p hp=>?_⟩
 have hP:=hP p (rm1.fresh hp);refine⟨λi m σc H'=>∃σ3c ys M',m=ds.length - i/\i<=ds.length/\RelM X.K M' H'/\DenS X.K H' σ3c σc/\TM X.K H1 H'/\aU g (λσ M Q=>tt σ M Q (λ_ _=>False)) (λσ M Q=>te σ M Q Ee) S p Q (ds.drop i) ys σ3c M',
  ⟨ds.length,_,[],_,by simp,Nat.zero_le _,rm1.lay (u:=.lst []) hp ⟨[],ag,.nil⟩,(on ds0).mono (tm1.trans (.new hp)),.new hp,hP⟩,?_⟩
 rintro i m σc H' ⟨σ3c,ys,M',rfl,hil,rm',ds',tm',q⟩;by_cases hlt:i < ds.length
 ·rw[List.drop_eq_getElem_cons hlt]at q;obtain⟨s',hl,q⟩:=q;refine .inr ⟨ok.go i H' M' tm' rm' s' hlt,λx H2 y=>?_⟩
  obtain⟨tm2,rm2,d,hd,dv⟩:=ok.yld i H' M' x H2 tm' rm' s' hlt y;rw[List.getElem?_eq_getElem hlt]at hd;cases hd;refine⟨_,σ3c,M',_,dv,rm2,ds'.mono tm2,q,λσ5 H5 σ35 M5 rm5 ds5 tm5 q5=>?_⟩
  refine⟨σ35,M5,_,_,rm5,ds5,LkE.no,q5,λb H6 M6 rm6 tm6 q6=>?_⟩
  have tmA:TM X.K H1 H6:=((tm'.trans tm2).trans tm5).trans tm6;cases b with
  |true=>
   rw[if_pos rfl]at q6;dsimp only;rw[if_pos rfl];refine⟨σ35,M6,_,_,rm6,ds5.mono tm6,(lke _).mono (tm1.trans tmA),q6,λv H7 y M7 dy rm7 tm7 ⟨e7,q7⟩=>?_⟩
   obtain⟨vs,f7,dl⟩:=rm7 p _ e7;have tw:TM X.K H7 (upd H7 p (.lst (vs++[v]))):=.put f7 (λ_=>λz=>nomatch z) λ_ _=>λz=>nomatch z
   exact⟨vs,f7,by rw[<-dl.length];exact hl,ds.length - (i+1),by omega,σ35,ys++[y],_,rfl,hlt,rm7.write (u:=.lst (ys++[y])) f7 (λ_=>λz=>nomatch z) (λ_ _=>λz=>nomatch z) ⟨_,ag,(dl.append (.one dy)).mono tw⟩,((ds5.mono tm6).mono tm7).mono tw,(tmA.trans tm7).trans tw,q7⟩
  |false=>
   rw[if_neg Bool.false_ne_true]at q6;dsimp only;rw[if_neg Bool.false_ne_true];exact⟨ds.length - (i+1),by omega,σ35,ys,M6,rfl,hlt,rm6,ds5.mono tm6,tmA,q6⟩
 ·have e:i=ds.length:=by omega
  subst e;rw[List.drop_length]at q;exact .inl ⟨ok.stop H' M' tm' rm' q.1,back _ _ _ _ i4 rm' (tm1.trans tm') q.2⟩
theorem qA(hok:bx N js scope X.env.scope X.N=true)(hcalm:X.calm=true)(hi:PI X tg iter (jP X.K cls E2 wi))(hE:E2=λ_=>Ex)(hp:kH X Ex)
  (hg:∀C s2 H2 fp pn,PG (compCx X scope C N s2 H2 fp pn) tg (ln X.K g)) (ht:∀C s2 H2 fp pn,PIf (compCx X scope C N s2 H2 fp pn) ifs (bB X.K cls no2 tt)) (he:∀C s2 H2 fp pn,PE ((compCx X scope C N s2 H2 fp pn).wish (iL X scope C N s2 H2 fp pn Ex)) elt (low X.K cls (λ_=>Ex) te))
  (hs:∀x,foldedSetIterable iter X.env x=pure x) (fz:Bool):PE X (.ListComp elt [⟨tg,iter,ifs,0⟩] scope pos) (low X.K cls E2 λσ M Q E=>wi σ M (λds S M1=>∀p,M1 p=none->aU g (λσ M Q=>tt σ M Q (λ_ _=>False)) (λσ M Q=>te σ M Q E) S p (if fz=true then bP Q else Q) ds [] (ai js σ) (put M1 p (.lst []))) E):=by
 subst hE;have k:PE X (.ListComp elt [⟨tg,iter,ifs,0⟩] scope pos) (low X.K cls (λ_=>Ex) λσ M Q E=>wi σ M (λds S M1=>∀p,M1 p=none->aU g (λσ M Q=>tt σ M Q (λ_ _=>False)) (λσ M Q=>te σ M Q E) S p Q ds [] (ai js σ) (put M1 p (.lst []))) E):=
  (ox hok hcalm hi hg ht he hp hs).imp λσ H Q2 hl_=>ex9 hl_ λσ3 M Q E3 rm ds lk h back=>dR (λ_=>lk) rm ds lk h back
 cases fz with
 |false=>exact k
 |true=>exact oi k
variable (hok:bx N js scope X.env.scope X.N=true) (hcalm:X.calm=true) (hi:PI X tg iter (jP X.K cls E2 wi))
  (hg:∀C s2 H2 fp pn,PG (compCx X scope C N s2 H2 fp pn) tg (ln X.K g)) (ht:∀C s2 H2 fp pn,PIf (compCx X scope C N s2 H2 fp pn) ifs (bB X.K cls no2 tt)) (he:∀C s2 H2 fp pn,PE (compCx X scope C N s2 H2 fp pn) elt (low X.K cls no2 te))
  (hs:∀x,foldedSetIterable iter X.env x=pure x)
include hok hcalm hi hg ht he hs
theorem lS:PE X (.ListComp elt [⟨tg,iter,ifs,0⟩] scope pos) (low X.K cls E2 λσ M Q E=>wi σ M (λds S M1=>∀p,M1 p=none->aU g (λσ M Q=>tt σ M Q (λ_ _=>False)) (λσ M Q=>te σ M Q (λ_ _=>False)) S p Q ds [] (ai js σ) (put M1 p (.lst []))) E):=
 (rO hok hcalm hi hg ht he hs).imp λσ H Q2 hl_=>ex9 hl_ λσ3 M Q E3 rm ds lk h back=>dR (λ_=>LkE.no) rm ds lk h back
theorem u6(fz:Bool):PE X (.ListComp elt [⟨tg,iter,ifs,0⟩] scope pos) (low X.K cls E2 λσ M Q E=>wi σ M (λds S M1=>∀p,M1 p=none->aU g (λσ M Q=>tt σ M Q (λ_ _=>False)) (λσ M Q=>te σ M Q (λ_ _=>False)) S p (if fz=true then bP Q else Q) ds [] (ai js σ) (put M1 p (.lst []))) E):=by
 cases fz with
 |false=>exact lS hok hcalm hi hg ht he hs
 |true=>exact oi (lS hok hcalm hi hg ht he hs)
theorem lg{spos:Pos}(hN:X.N.Nodup)(hy:X.N[i]?=some y)(hl:X.env.scope.names.lookup y=some .local)(hsw:swapsWith (.ListComp elt [⟨tg,iter,ifs,0⟩] scope pos) (some (.Name y py)) spos.line X.env=pure true)(fz:Bool) :
  PS X (.Assign [.Name y py] (.ListComp elt [⟨tg,iter,ifs,0⟩] scope pos) spos) (bz X.K cls E2 λD E σ M=>wi σ M (λds S M1=>∀p,M1 p=none->aU g (λσ M Q=>tt σ M Q (λ_ _=>False)) (λσ M Q=>te σ M Q (λ_ _=>False)) S p (if fz=true then bP (λx M1=>D.nx (σ.set i (some x)) M1) else (λx M1=>D.nx (σ.set i (some x)) M1)) ds [] (ai js σ) (put M1 p (.lst []))) (E σ)):=by
 cases fz with
 |false=>exact (gP hN hy hl hok hcalm hi hg ht he hs hsw).imp λD2 σ H hl_=>ex9 hl_ λσ3 M D3 E3 rm ds lk h er=>dR (λ_=>LkE.no) rm ds (lk.at ds) h λv H1 x M1 dx rm1 t1 q1=>er.nx _ _ _ _ rm1 ((ds.mono t1).set dx) t1 q1
 |true=>
  refine λpins s σ H D2 I hl_=>ex9 hl_ λσ3 M D3 E3 rm ds lk h er=>?_
  refine thn (gP hN hy hl hok hcalm hi hg ht he hs hsw pins s σ H {D2 with nx:=λσ' H'=>∃x v M1,σ'=σ.set i (some v)/\Den X.K H' x v/\RelM X.K M1 H'/\TM X.K H H'/\bP (λx M1=>D3.nx (σ3.set i (some x)) M1) x M1} I
   (dR (λ_=>LkE.no) rm ds (lk.at ds) h λv H1 x M1 dx rm1 t1 q1=>⟨x,v,M1,rfl,dx,rm1,t1,q1⟩)) λfl s1 q=>?_
  cases fl with
  |next=>
   obtain⟨σ',H',I1,x,v,M1,rfl,dx,rm1,t1,q1⟩:=q;unfold bP at q1;split at q1
   ·rename_i a;cases (show v=.ref a from dx);split at q1
    ·rename_i es e;obtain⟨vs,e1,dl⟩:=rm1 a _ e;obtain⟨o,I2⟩:=I1.freeze e1;exact⟨_,_,I2,er.nx _ _ _ _ (rm1.freeze e1) ((ds.mono (t1.trans (.freeze e1))).set (dL dl e1)) (t1.trans (.freeze e1)) q1⟩
    ·exact q1.elim
   ·exact q1.elim
  |brk=>exact q
  |cont=>exact q
  |ret u=>exact q
end
noncomputable def kZ(K:PySem.W.Frag)(cls:Nat->Addr)(t:XE->Ends3->St3->MH->Prop):Ends->St->XK:=λD2 σ c dx H=>∃i σ3 M D3,(c=.ref (cls i.c)/\XD K H i dx)/\RelM K M H/\DenS K H σ3 σ/\t i D3 σ3 M/\ER K H D3 D2
theorem ER.goes{K:PySem.W.Frag}{D2:Ends}(er:ER K H D3 D2)(i:Nat):ER K H (fc D3 i) (D2.goes i):=
 ⟨λσ' H' σ3' M' rm ds t q=>er.nx _ _ _ _ rm ds.drop t q,er.rt,λσ' H' σ3' M' rm ds t q=>er.bk _ _ _ _ rm ds.drop t q,λσ' H' σ3' M' rm ds t q=>er.ct _ _ _ _ rm ds.drop t q⟩
section
variable {X:Cx}{cls:Nat->Addr}{E2:St->XK}{c n:Str}{k j ne:Nat}{sub:Nat->Nat->Bool}{b0:Stmt}{suite:List Stmt}{np hpos pos:Pos}{rest:List ExceptHandler}{tb:Ends3->(St3->XN)->St3->MH->Prop}{tr:XE->Ends3->St3->MH->Prop}
theorem uV:PH X [] (kZ X.K cls λ_ _ _ _=>False):=λ_ _ _ _ _ _ _ _ _ ⟨_,_,_,_,_,_,_,h,_⟩=>h.elim
theorem xm(hg:Gl X c)(hm:X.mg c=some (.ref (cls k)))(hsub:∀i,i < ne->PySem.W.exmOne X.K (.ref (cls i)) (.ref (cls k))=some (sub i k))(hN:X.N.Nodup)(hj:X.N[j]?=some n)(hl:X.env.scope.names.lookup n=some .local)
  (hs:∀v,PSs (X.marked v) (b0::suite) (bz X.K cls no2 tb)) (hr:PH X rest (kZ X.K cls tr)) (hdb:(c == ("__debug__" : Str))=false) :
  PH X (.ExceptHandler (some (.Name c np)) (some n) (b0::suite) hpos::rest) (kZ X.K cls λi D σ M=>i.c < ne/\if sub i.c k=true then (∀a,M a=none->tb (fc D j) (λ_ _ _=>False) (σ.set j (some (.ref a))) (put M a (.exc i (.ref (cls i.c))))) else tr i D σ M):=by
 intro pins s σ H D a cv dx xi ⟨i,σ3,M,D3,⟨e,xd⟩,rm,ds,⟨hi,h⟩,er⟩;subst e;refine wT (i:=j) hg hm hN hj hl hs hr hdb pins s σ H D a _ dx xi ?_;have z:=hsub i.c hi;cases q:sub i.c k with
 |true=>
  rw[q]at z;rw[if_pos q]at h;refine .inl ⟨z,λa' ha=>?_⟩
  have tn:TM X.K H (upd H a' (q0 a' (.ref (cls i.c)) dx)):=.new ha;exact⟨_,_,_,_,rm.lay (u:=.exc i (.ref (cls i.c))) ha ⟨dx,ag,xd.mono tn⟩,(ds.mono tn).set i4,(λ_ _ _ _ _ _ _ _ w=>w.elim),h a' (rm.fresh ha),(er.goes j).mono tn⟩
 |false=>
  rw[q]at z;rw[if_neg (by rw[q];exact Bool.false_ne_true)]at h
  exact .inr ⟨z,i,σ3,M,D3,⟨rfl,xd⟩,rm,ds,h,er⟩
theorem wk(hg:Gl X c)(hm:X.mg c=some (.ref (cls k)))(hsub:∀i,i < ne->PySem.W.exmOne X.K (.ref (cls i)) (.ref (cls k))=some (sub i k))
  (hs:∀v,PSs (X.marked v) (b0::suite) (bz X.K cls no2 tb)) (hr:PH X rest (kZ X.K cls tr)) (hdb:(c == ("__debug__" : Str))=false) :
  PH X (.ExceptHandler (some (.Name c np)) none (b0::suite) hpos::rest) (kZ X.K cls λi D σ M=>i.c < ne/\if sub i.c k=true then tb D (λ_ _ _=>False) σ M else tr i D σ M):=by
 intro pins s σ H D a cv dx xi ⟨i,σ3,M,D3,⟨e,xd⟩,rm,ds,⟨hi,h⟩,er⟩;subst e;refine yU hg hm hs hr hdb pins s σ H D a _ dx xi ?_;have z:=hsub i.c hi;cases q:sub i.c k with
 |true=>
  rw[q]at z;rw[if_pos q]at h;exact .inl ⟨z,σ3,M,D3,_,rm,ds,(λ_ _ _ _ _ _ _ _ w=>w.elim),h,er⟩
 |false=>
  rw[q]at z;rw[if_neg (by rw[q];exact Bool.false_ne_true)]at h
  exact .inr ⟨z,i,σ3,M,D3,⟨rfl,xd⟩,rm,ds,h,er⟩
theorem qo(hst:X.stack=X.env::X.outer)(hfr:X.env.frame=some X.env.locals)(hex:X.ex=[])(hh:PH X (h0::hs) th) :
  PS X (.Try body (h0::hs) [] [] pos) (λD σ H=>∀pn W,bF (CX1 X.prog X.w) (X.tryX pn W) (λσ cls d H=>th D σ cls d H)->∃t,PSs (X.tryX pn W) body t/\t D σ H):=by
 intro pins s σ H D I h;have key:∀(W:Value->Shared->Prop),bF (CX1 X.prog X.w) (X.tryX pins W) (λσ cls d H=>th D σ cls d H)->wpAny (model X.prog X.w) X.A (execs body X.env) (SP (X.tryX pins W) [] D) W s:=λW hP=>by
  obtain⟨t,ht,q⟩:=h pins W hP;exact ht [] s σ H D (I.tryX _) q
 refine wpAny_Try_except (wpAny_mono (key _ ?hx) (λf s1 q=>?_) (λe s1 q=>q))
 case hx=>
  intro pins' σ1 H1 s1 e s' I' hc;have I1:=I'.untry I.ok;obtain⟨a,cls,B,H2,dx,rfl,os,bare,un,hok,⟨fl0,dd0⟩,ha,inc,he⟩:=hc;have hnew:=mr fl0 inc;obtain⟨a0,fl⟩:=fl0;have hfl:Heap.FlyingW B (X.env::X.outer) a cls a0 s'.heap:=hst▸fl;have hA:X.A.frames=some (X.env::X.outer):=hst▸I.ok.frames;refine kY hA hfr hfl dd0 λh4 held up4 dd4=>mv held dd4 λh5 fl5 up5 dd5=>?_
  refine hh pins _ σ1 H2 D a cls dx ⟨B,a0,I1.behind (s':=s') (h4:=h5) os bare un hok inc fl5.1 (up4.trans up5),⟨hst▸fl5,dd5⟩,ha,?_,λp hp z=>?_,λh6 st6 up6=>I1.behind (s':=s') (h4:=h6) os bare un hok inc st6 ((up4.trans up5).trans up6)⟩ he
  ·cases q:X.s₀.heap.get? a with
   |none=>rfl
   |some o=>
    obtain⟨o1,e1⟩:=I1.base.there a o q (by rw[hex];exact λz=>nomatch z)
    rw[hnew]at e1;cases e1
  ·have e1:=(I1.pin p hp).1;rw[z,hnew]at e1;cases e1
 ·match f,q with
  |.next,⟨σ',H',J,q⟩=>exact wpAny_execs_nil ⟨σ',H',J.untry I.ok,q⟩
  |.brk,⟨σ',H',J,q⟩=>exact⟨σ',H',J.untry I.ok,q⟩
  |.cont,⟨σ',H',J,q⟩=>exact⟨σ',H',J.untry I.ok,q⟩
  |.ret u,⟨v,σ',H',J,r,q⟩=>exact⟨v,σ',H',J.untry I.ok,r,q⟩
theorem wH(hst:X.stack=X.env::X.outer)(hfr:X.env.frame=some X.env.locals)(hex:X.ex=[])(hh:PH X (h0::hs) (kZ X.K cls th))
  (hb:∀pn W E2',bF (CX1 X.prog X.w) (X.tryX pn W) E2'->PSs (X.tryX pn W) body (bz X.K cls E2' tb)) :
  PS X (.Try body (h0::hs) [] [] pos) (bz X.K cls E2 λD _ σ M=>tb D (λσ' i M'=>th i D σ' M') σ M):=
 (qo hst hfr hex hh).imp λD2 σ H ⟨σ3,M,D3,E3,rm,ds,lk,h,er⟩ pn W hP=>⟨_,hb pn W _ hP,σ3,M,D3,_,rm,ds,λσ3' σ' i M' H' t ds' rm' q dx xd=>⟨i,σ3',M',D3,⟨rfl,xd⟩,rm',ds',q,er.mono t⟩,h,er⟩
end
end L2
namespace L2
open PySem PySem.Spec PyProof.Rows
section
variable {X:Cx}{s:Shared}{kvs:List (Key×V)}{o:Obj}
end
section
variable {X:Cx}{apos cpos:Pos}
end
end L2
namespace L2
open PySem PySem.Spec PyProof.Rows
section
variable {X:Cx}{s:Shared}
end
section
variable {X:Cx}{apos cpos:Pos}
end
end L2
namespace L2
open PySem PySem.Spec PyProof.Rows PySem.W
section
variable {X:Cx}
end
end L2
namespace L2
open PySem PySem.Spec PyProof.Rows
section
variable {X:Cx}{cls:Nat->Addr}{E2:St->XK}{tg o:Expr}
end
end L2
namespace L2
open PySem PySem.Spec PyProof.Rows
section
variable {X:Cx}{apos cpos:Pos}
end
end L2
namespace L2
open PySem PySem.Spec PyProof.Rows
structure Cfg where
 N:List Str
 sc:Scope
 fns:List (Option Str×Nat)
 exc:List Str
 kln:List Str
 gln:List Str
 xin:List (Nat×Nat)
 calm:Bool
 own:Bool
 tr:Bool
 fn:Bool
 cel:List (Str×NameKind):=[]
noncomputable def glB(c:Cfg)(x:Str):Bool:=c.sc.names.lookup x == some .globalImplicit
noncomputable def tP(sc:Scope)(x:Str):Bool:=match sc.names.lookup x with
 |some .local=>true
 |some .cell=>true
 |some .free=>true
 |_=>false
noncomputable def qR(c:Cfg)(x:Str):Bool:=c.sc.names.lookup x == some .local||(c.fn&&c.sc.names.lookup x == some .cell)||(c.cel.lookup x == some .cell&&c.sc.names.lookup x == some .cell)
noncomputable def cJ:Expr->Bool
 |.Starred ..=>false
 |_=>true
noncomputable def im:Expr->Bool
 |.Set ..=>false
 |_=>true
noncomputable def l9:Expr->Bool
 |.ListComp ..=>false
 |.SetComp ..=>false
 |.DictComp ..=>false
 |_=>true
noncomputable def wc:Expr->Bool
 |.Tuple ..=>false
 |_=>true
noncomputable def jn:Expr->Bool
 |.Slice ..=>false
 |_=>true
noncomputable def sg:Expr->Bool
 |.Call ..=>false
 |_=>true
noncomputable def nO:Expr->Bool
 |.Call (.Name _ _) [] [] _=>false
 |_=>true
noncomputable def my:Expr->Bool
 |.UnaryOp ..=>false
 |.BoolOp ..=>false
 |.IfExp ..=>false
 |.Compare ..=>false
 |_=>true
noncomputable def gZ:BI->String
 |.len=>"len"|.list _=>"list"|.tuple=>"tuple"|.all=>"all"|.any=>"any"|.int=>"int"|.strL=>"str"
noncomputable def fU:BM->String
 |.upper=>"upper"|.startswith=>"startswith"|.split=>"split"|.join=>"join"
noncomputable def biNames:List Str:=["len","abs","max","min","str","list","tuple","isinstance","range","int","bool","dict","ValueError","enumerate","all","any","sum","zip","reversed","sorted"]
noncomputable def uA(sc osc:Scope):Scope:={sc with names:=sc.names.map λ(n,k)=>if (k == .free&&osc.kind == .function&&osc.names.lookup n == some .cell) then (n,.cell) else (n,k)}
noncomputable def Cfg.comp(c:Cfg)(N:List Str)(sc:Scope):Cfg:={c with N:=N,sc:=uA sc c.sc,own:=false,tr:=false,fn:=false,cel:=sc.names}
noncomputable def Cfg.trying(c:Cfg):Cfg:={c with own:=false}
noncomputable def Cfg.caught(c:Cfg):Cfg:={c with calm:=false,own:=false,tr:=false}
noncomputable def okG(c:Cfg):ITg->Expr->Bool
 |.name i,e=>match e with
  |.Name x _=>(c.N[i]? == some x)&&qR c x
  |_=>false
 |.tup is,e=>match e with
  |.Tuple es _ _=>c.calm&&bW c.N c.sc c.fn is es
  |_=>false
noncomputable def nI:II->Expr->Bool
 |.zip _ _,e=>match e with
  |.Tuple ..=>true
  |_=>false
 |.zip3 _ _ _,e=>match e with
  |.Tuple ..=>true
  |_=>false
 |_,_=>true
mutual
noncomputable def okE:IE->Cfg->Expr->Bool
 |.var i,c,e=>match e with
  |.Name x _=>(c.N[i]? == some x)&&tP c.sc x&&!(x == ("__debug__" : Str))&&!(x == ("__classdict__" : Str))
  |_=>false
 |.con d,_,e=>match e with
  |.Constant k _ _=>match k,d with
   |.int i,.int j=>decide (i=j)
   |.bool i,.bl j=>decide (i=j)
   |.none,.non=>true
   |.str i,.str j=>decide (i=j)
   |_,_=>false
  |_=>false
 |.bin op a b,c,e=>match e with
  |.BinOp x op' y _=>decide (op=op')&&okE a c x&&okE b c y
  |_=>false
 |.neg a,c,e=>match e with
  |.UnaryOp op x _=>decide (op=.USub)&&okE a c x
  |_=>false
 |.cat _ a b,c,e=>match e with
  |.BinOp x op' y _=>decide (op'=.Add)&&okE a c x&&okE b c y
  |_=>false
 |.cmp op a b,c,e=>match e with
  |.Compare x [op'] [y] _=>decide (op=op')&&im y&&okE a c x&&okE b c y
  |_=>false
 |.chain op1 op2 a b d,c,e=>match e with
  |.Compare x [op1',op2'] [y,z] _=>decide (op1=op1')&&decide (op2=op2')&&im z&&okE a c x&&okE b c y&&okE d c z
  |_=>false
 |.and a b,c,e=>match e with
  |.BoolOp op (x::y::r) p=>decide (op=.And)&&okE a c x&&(match r with|[]=>okE b c y|_::_=>okE b c (.BoolOp .And (y::r) p))
  |_=>false
 |.or a b,c,e=>match e with
  |.BoolOp op (x::y::r) p=>decide (op=.Or)&&okE a c x&&(match r with|[]=>okE b c y|_::_=>okE b c (.BoolOp .Or (y::r) p))
  |_=>false
 |.not a,c,e=>match e with
  |.UnaryOp op x _=>decide (op=.Not)&&okE a c x
  |_=>false
 |.ifx t a b,c,e=>match e with
  |.IfExp x y z _=>okT t c x&&okE a c y&&okE b c z
  |_=>false
 |.tup es,c,e=>match e with
  |.Tuple xs _ _=>okA es c xs
  |_=>false
 |.lst _ es,c,e=>match e with
  |.List xs _=>okA es c xs
  |_=>false
 |.frz a,c,e=>okE a c e
 |.ix a b,c,e=>match e with
  |.Subscript x y _=>jn y&&okE a c x&&okE b c y
  |_=>false
 |.sl _ a lo hi,c,e=>match e with
  |.Subscript x (.Slice l h none _) _=>okE a c x&&okO lo c l&&okO hi c h
  |_=>false
 |.call f es,c,e=>match e with
  |.Call (.Name x _) args [] _=>c.calm&&(match c.fns[f]? with|some p=>decide (some x=p.1)&&decide (args.length=p.2)|none=>false)&&glB c x&&!(x == ("__debug__" : Str))&&okA es c args
  |_=>false
 |.bi b es,c,e=>match e with
  |.Call (.Name x _) args [] _=>c.calm&&decide (x=(gZ b:Str))&&glB c x&&!args.isEmpty&&okA es c args
  |_=>false
 |.isB a t,c,e=>match e with
  |.Call (.Name x _) [y,.Name z _] [] _=>decide (x=("isinstance" : Str))&&decide (z=(bA t:Str))&&glB c x&&glB c z&&cJ y&&okE a c y
  |_=>false
 |.isC a k,c,e=>match e with
  |.Call (.Name x _) [y,.Name z _] [] _=>decide (x=("isinstance" : Str))&&(c.exc[k]? == some z)&&glB c x&&glB c z&&!(z == ("__debug__" : Str))&&cJ y&&okE a c y
  |_=>false
 |.comp _ N js tg it cond elt,c,e=>match e with
  |.ListComp el [⟨tgE,iter,ifs,as⟩] scope _=>c.calm&&decide (as=0)&&nI it tgE&&im iter&&bx N js scope c.sc c.N&&okI it c iter&&okG (c.comp N scope) tg tgE&&oQ cond (c.comp N scope) ifs&&okE elt (c.comp N scope) el
  |_=>false
 |.compX _ N js tg it cond elt,c,e=>match e with
  |.ListComp el [⟨tgE,iter,ifs,as⟩] scope _=>c.own&&c.calm&&decide (as=0)&&nI it tgE&&im iter&&bx N js scope c.sc c.N&&okI it c iter&&okG (c.comp N scope) tg tgE&&oQ cond (c.comp N scope) ifs&&okE elt (c.comp N scope) el
  |_=>false
 |.rpl a y z,c,e=>match e with
  |.Call (.Attribute x n ap) [.Constant k1 _ _,.Constant k2 _ _] [] cp=>decide (n=("replace" : Str))&&nO x&&(ap.endLine == cp.line)&&okE a c x&&(match k1,k2 with|.str i,.str j=>decide (i=y/\j=z)|_,_=>false)
  |_=>false
 |.glo k,c,e=>match e with
  |.Name x _=>(c.gln[k]? == some x)&&glB c x&&!(x == ("__debug__" : Str))
  |_=>false
 |.gg k es,c,e=>match e with
  |.Call (.Attribute (.Name x _) n ap) args [] cp=>c.calm&&decide (n=("get" : Str))&&(c.gln[k]? == some x)&&glB c x&&!(x == ("__debug__" : Str))&&(ap.endLine == cp.line)&&decide (args.length < 30/\args.length≠0)&&okA es c args
  |_=>false
 |.bm b o es,c,e=>match e with
  |.Call (.Attribute x n ap) args [] cp=>c.calm&&decide (n=(fU b:Str))&&nO x&&(ap.endLine == cp.line)&&decide (args.length < 30)&&okE o c x&&okA es c args
  |_=>false
noncomputable def okT:IT->Cfg->Expr->Bool
 |.val a,c,e=>my e&&okE a c e
 |.cmp op a b,c,e=>match e with
  |.Compare x [op'] [y] _=>decide (op=op')&&im y&&okE a c x&&okE b c y
  |_=>false
 |.chain op1 op2 a b d,c,e=>match e with
  |.Compare x [op1',op2'] [y,z] _=>decide (op1=op1')&&decide (op2=op2')&&im z&&okE a c x&&okE b c y&&okE d c z
  |_=>false
 |.chain3 op1 op2 op3 a b d f,c,e=>match e with
  |.Compare x [op1',op2',op3'] [y,z,u] _=>decide (op1=op1')&&decide (op2=op2')&&decide (op3=op3')&&im u&&okE a c x&&okE b c y&&okE d c z&&okE f c u
  |_=>false
 |.and a b,c,e=>match e with
  |.BoolOp op (x::y::r) p=>decide (op=.And)&&okT a c x&&(match r with|[]=>okT b c y|_::_=>okT b c (.BoolOp .And (y::r) p))
  |_=>false
 |.or a b,c,e=>match e with
  |.BoolOp op (x::y::r) p=>decide (op=.Or)&&okT a c x&&(match r with|[]=>okT b c y|_::_=>okT b c (.BoolOp .Or (y::r) p))
  |_=>false
 |.not a,c,e=>match e with
  |.UnaryOp op x _=>decide (op=.Not)&&okT a c x
  |_=>false
noncomputable def okA:IA->Cfg->List Expr->Bool
 |.nil,_,es=>es.isEmpty
 |.cons a r,c,es=>match es with
  |x::xs=>cJ x&&okE a c x&&okA r c xs
  |[]=>false
noncomputable def okO:IO->Cfg->Option Expr->Bool
 |.no,_,o=>o.isNone
 |.yes a,c,o=>match o with
  |some x=>okE a c x
  |none=>false
noncomputable def oQ:ITO->Cfg->List Expr->Bool
 |.no,_,es=>es.isEmpty
 |.yes t,c,es=>match es with
  |[x]=>okT t c x
  |_=>false
noncomputable def okI:II->Cfg->Expr->Bool
 |.seq a,c,e=>okE a c e
 |.zip a b,c,e=>match e with
  |.Call (.Name x _) [y,z] [] _=>decide (x=("zip" : Str))&&glB c x&&cJ y&&cJ z&&okE a c y&&okE b c z
  |_=>false
 |.zip3 a b d,c,e=>match e with
  |.Call (.Name x _) [y,z,u] [] _=>decide (x=("zip" : Str))&&glB c x&&cJ y&&cJ z&&cJ u&&okE a c y&&okE b c z&&okE d c u
  |_=>false
end
noncomputable def swB(c:Cfg)(scope:Scope)(x:Str)(l1 l2:Nat):Bool:=c.sc.kind == .function&&c.sc.names.lookup x == some .local&&l1 == l2&&!(scope.names.any λ(n,k)=>n == x&&(k == .local||k == .cell))
mutual
noncomputable def okS:IS->Cfg->Stmt->Bool
 |.set i a,c,s=>match s with
  |.Assign [.Name x px] e _=>(c.N[i]? == some x)&&qR c x&&okE a c e&&(l9 e||match e,a with
   |.ListComp _ _ scope pos,.comp ..=>swB c scope x px.line pos.line||c.sc.names.lookup x == some .cell
   |_,_=>false)
  |_=>false
 |.expr a,c,s=>match s with
  |.Expr e _=>l9 e&&okE a c e
  |_=>false
 |.ret a,c,s=>match s with
  |.Return (some e) _=>okE a c e
  |_=>false
 |.ifs t a b,c,s=>match s with
  |.If x y z _=>okT t c x&&gB a c y&&gB b c z
  |_=>false
 |.for_ tg it body,c,s=>match s with
  |.For tgE iter b [] _=>c.own&&nI it tgE&&c.calm&&im iter&&okG c tg tgE&&okI it c iter&&gB body c b
  |_=>false
 |.raise k es,c,s=>match s with
  |.Raise (some (.Call (.Name x _) args [] _)) none _=>(c.xin.lookup k).isNone&&c.own&&c.calm&&(c.exc[k]? == some x)&&glB c x&&!(x == ("__debug__" : Str))&&!args.isEmpty&&okA es c args
  |_=>false
 |.try_ body hs,c,s=>match s with
  |.Try b handlers [] [] _=>c.tr&&!handlers.isEmpty&&gB body c.trying b&&nR hs c handlers
  |_=>false
 |.app o a,c,s=>match s with
  |.Expr (.Call (.Attribute x m ap) [y] [] cp) _=>decide (m=("append" : Str))&&sg x&&(ap.endLine == cp.line)&&cJ y&&okE o c x&&okE a c y
  |_=>false
 |.del _,_,_=>false
 |.ixset o i a,c,s=>match s with
  |.Assign [.Subscript x y _] v _=>jn y&&l9 v&&okE o c x&&okE i c y&&okE a c v
  |_=>false
noncomputable def gB:ISs->Cfg->List Stmt->Bool
 |.nil,_,sts=>sts.isEmpty
 |.cons s r,c,sts=>match s with
  |.del _=>gB r c sts
  |s=>match sts with
   |st::rest=>okS s c st&&gB r c rest
   |[]=>false
noncomputable def nR:IHs->Cfg->List ExceptHandler->Bool
 |.nil,_,hs=>hs.isEmpty
 |.cons k nm body r,c,hs=>match hs with
  |.ExceptHandler (some (.Name x _)) nmE bodyE _::rest=>(c.exc[k]? == some x)&&glB c x&&!(x == ("__debug__" : Str))&&(match nm,nmE with
   |none,none=>true
   |some j,some n=>(c.N[j]? == some n)&&c.sc.names.lookup n == some .local
   |_,_=>false)&&!bodyE.isEmpty&&gB body c.caught bodyE&&nR r c rest
  |_=>false
end
end L2
namespace L2
open PySem PySem.Spec PyProof.Rows
structure Good (c:Cfg)(W:WC)(X:Cx)(E2:St->XK):Prop where
 N:X.N=c.N
 nd:c.N.Nodup
 sc:X.env.scope=c.sc
 un:X.A.units+64 < cLine
 calm:c.calm=true->X.calm=true
 fnx:c.fn=true->∀x,X.fn x=true
 cel:∀x,c.cel.lookup x=some .cell->X.fn x=true
 own:c.own=true->PassesOwn (model X.prog X.w) X.A X.env X.xe/\∃E,(E2=λ_=>E)/\ja X E/\mh X E/\Room 2 X.A/\kH X E
 tr:c.tr=true->X.stack=X.env::X.outer/\X.env.frame=some X.env.locals/\X.ex=[]
 fns:c.calm=true->∃k,Room (k+1) X.A/\∀f,f < c.fns.length->BO X W.cls k (W.fad f) (W.call f)
 fnn:∀f x n,c.fns[f]?=some (some x,n)->X.mg x=some (.ref (W.fad f))
 kok:∀i,i < W.nk->KOk X.K W.toWB W.fad i
 kin:∀i,i < W.nk->∃f,W.ini i=some f
 kfi:∀i f,i < W.nk->W.ini i=some f->f < c.fns.length
 kfm:∀i m f,i < W.nk->W.mth i m=some f->f < c.fns.length
 knm:∀i x,c.kln[i]?=some x->X.mg x=some (.ref (W.kls i))/\i < W.nk
 glo:∀k x,c.gln[k]?=some x->∃u v,X.mg x=some u/\RelV v u/\nW X.K X.w.params (W.glo k) v
 exc:∀i x,c.exc[i]?=some x->X.mg x=some (.ref (W.cls i))/\(c.xin.lookup i=none->qZ X.K (W.cls i))/\∀j,j < W.ne->PySem.W.exmOne X.K (.ref (W.cls j)) (.ref (W.cls i))=some (W.sub j i)
 exi:∀i,i < W.ne->ExcI X.K (W.cls i)/\PySem.W.kitOne X.K (.ref (W.cls i)) (.type "ValueError")=some true/\∀j x,c.exc[j]?=some x->PySem.W.kitOne X.K (.ref (W.cls i)) (.ref (W.cls j))=some (W.sub i j)
 xi:∀i f,c.xin.lookup i=some f->W.xin i=some f/\∃fI fd ps,XIni X.K (W.cls i) fI (fnm f)/\Binds X.K fd ps []/\FnOk X.prog X.w X.K X.mg X.base (CX1 X.prog X.w) 1 fI fd ps (nM (cpF f) X.K (W.cls i) (fnm f))
 xn:∀i f,i < W.ne->W.xin i=some f->ju X.K (W.cls i) (fnm f)
 bi:∀x∈biNames,X.mg x=none
 dig:mJ X.K
 pass:bF (CX1 X.prog X.w) X E2
section
variable {c:Cfg}{X:Cx}
theorem Good.gl(G:Good c W X E2)(h:glB c x=true):Gl X x:=by
 show X.env.scope.names.lookup x=_;rw[G.sc];exact beq_iff_eq.mp h
theorem Good.loc(G:Good c W X E2)(h:qR c x=true):Loc X.env.scope x/\(X.fn x=true\/X.env.scope.names.lookup x=some .local):=by
 unfold qR at h;rw[G.sc];simp only[Bool.or_eq_true,Bool.and_eq_true,beq_iff_eq]at h;rcases h with (h|⟨h1,h2⟩)|⟨h1,h2⟩
 ·exact⟨.inl h,.inr h⟩
 ·exact⟨.inr h2,.inl (G.fnx h1 x)⟩
 ·exact⟨.inr h2,.inl (G.cel x h1)⟩
theorem Good.vis(G:Good c W X E2)(h:tP c.sc x=true):Vis X.env.scope x:=by
 rw[G.sc];unfold tP at h;split at h
 ·exact .inl (by assumption)
 ·exact .inr (.inl (by assumption))
 ·exact .inr (.inr (by assumption))
 ·cases h
theorem Good.at{i:Nat}{x:Str}(G:Good c W X E2)(h:(c.N[i]? == some x)=true):X.N[i]?=some x:=by rw[G.N];exact beq_iff_eq.mp h
theorem Good.ndX(G:Good c W X E2):X.N.Nodup:=by rw[G.N];exact G.nd
theorem Good.names(G:Good c W X E2)(h:bW c.N c.sc c.fn is es=true):bW X.N X.env.scope c.fn is es=true:=by rw[G.N,G.sc];exact h
theorem Good.trying(G:Good c W X E2)(h:bF (CX1 X.prog X.w) (X.tryX pn V') E2'):Good c.trying W (X.tryX pn V') E2':=
 ⟨G.N,G.nd,G.sc,G.un,G.calm,G.fnx,G.cel,(λz=>nomatch z),G.tr,G.fns,G.fnn,G.kok,G.kin,G.kfi,G.kfm,G.knm,G.glo,G.exc,G.exi,G.xi,G.xn,G.bi,G.dig,h⟩
theorem nN:bF (CX1 P w) X no2:=λ_ _ _ _ _ _ _ h=>by
 obtain⟨_,_,_,_,_,_,_,_,_,_,_,_,_,he⟩:=h;exact he.elim
theorem Good.caught(G:Good c W X E2)(v:Value):Good c.caught W (X.marked v) no2:=
 ⟨G.N,G.nd,G.sc,G.un,(λz=>nomatch z),G.fnx,G.cel,(λz=>nomatch z),(λz=>nomatch z),(λz=>nomatch z),G.fnn,G.kok,G.kin,G.kfi,G.kfm,G.knm,G.glo,G.exc,G.exi,G.xi,G.xn,G.bi,G.dig,nN⟩
theorem Good.comp(G:Good c W X E2){N:List Str}{js:List (Option Nat)}{scope:Scope}(h:bx N js scope c.sc c.N=true)(C:Addr)(s2:Shared)(H2:Hp)(fp:List Addr)(pn:List (Addr×Obj)):Good (c.comp N scope) W (compCx X scope C N s2 H2 fp pn) no2:=by
 have hc:=iG h;refine⟨rfl,hc.nd,?_,G.un,G.calm,(λz=>nomatch z),(λx z=>beq_iff_eq.mpr z),(λz=>nomatch z),(λz=>nomatch z),G.fns,G.fnn,G.kok,G.kin,G.kfi,G.kfm,G.knm,G.glo,G.exc,G.exi,G.xi,G.xn,G.bi,G.dig,nN⟩
 show relabel scope X.env=uA scope c.sc;unfold relabel uA;rw[<-G.sc];rfl
end
theorem Good.compX{X:Cx}(G:Good c W X E2){N:List Str}{js:List (Option Nat)}{scope:Scope}(h:bx N js scope c.sc c.N=true)(Ex:XK)(C:Addr)(s2:Shared)(H2:Hp)(fp:List Addr)(pn:List (Addr×Obj)):Good (c.comp N scope) W ((compCx X scope C N s2 H2 fp pn).wish (iL X scope C N s2 H2 fp pn Ex)) (λ_=>Ex):=by
 have g:=G.comp h C s2 H2 fp pn;exact⟨g.N,g.nd,g.sc,g.un,g.calm,g.fnx,g.cel,(λz=>nomatch z),(λz=>nomatch z),g.fns,g.fnn,g.kok,g.kin,g.kfi,g.kfm,g.knm,g.glo,g.exc,g.exi,g.xi,g.xn,g.bi,g.dig,λpins σ H s e s' I q=>⟨pins,σ,H,s,I.unwish,q⟩⟩
theorem bc(h:cJ e=true):starEach (e::es) env=(false,eval e env)::starEach es env:=by
 cases e<;>first|rfl|cases h
theorem ma(h:im e=true):∀x,foldedSetIterable e env x=pure x:=by
 intro x;cases e<;>first|rfl|cases h
theorem d9(h:im e=true):behindInMarks op e=false:=by
 cases e<;>first|rfl|cases h
theorem lG(h:l9 e=true):swapsWith e t n env=pure false:=by
 cases e<;>first|rfl|cases h
theorem m7{e:Expr}(h:my e=true):∀whole,isTrue e env whole=(do let v<-whole;standAt e.pos;holding [v] (truthy v)):=by
 intro whole;cases e<;>first|rfl|cases h
theorem qY(h:jn e=true):jx e:=by
 intro o i;cases e<;>first|rfl|cases h
theorem ue{e:Expr}{m:Str}{env:Env}{whole:Sem Value}(h:sg e=true):attributeBase e m env whole=whole:=by
 cases e<;>first|rfl|cases h
theorem fL{e:Expr}{m:Str}{env:Env}{whole:Sem Value}(h:nO e=true):attributeBase e m env whole=whole:=by
 cases e with
 |Call f as ks p=>
  cases f with
  |Name x px=>
   cases as with
   |nil=>
    cases ks with
    |nil=>cases h
    |cons _ _=>rfl
   |cons _ _=>rfl
  |_=>rfl
 |_=>rfl
theorem uF(h:jn i=true):∀v,assign (.Subscript o i p) env v=(do
   let ov<-holding [v] (eval o env)
   let iv<-holding [v,ov] (eval i env)
   standAt p
   holding [v,ov,iv] (setItem ov iv v)
   release [v,ov,iv] []):=by
 intro v;cases i<;>first|rfl|cases h
theorem dc(pos:Pos):∀{r:IA}{c:Cfg}{es:List Expr}{env:Env},okA r c es=true->(backTo pos (starEach es env)).any (·.1)=false
 |.nil,c,es,env,h=>by
  simp only[okA]at h;cases es with
  |nil=>rfl
  |cons _ _=>cases h
 |.cons a r,c,es,env,h=>by
  cases es with
  |nil=>simp[okA]at h
  |cons x xs=>
   simp only[okA,Bool.and_eq_true]at h;rw[bc h.1.1];show (false||(backTo pos (starEach xs env)).any (·.1))=false
   rw[dc pos h.2];rfl
end L2
namespace L2
open PySem PySem.Spec PyProof.Rows
theorem sr(h:PE X a t):PE X (.BoolOp op [a] pos) t:=vn h
theorem vm(b:BI):((gZ b:String):Str)∈biNames:=by
 cases b with
 |list fz=>cases fz<;>decide +kernel
 |_=>decide +kernel
theorem vI(t:BT):((bA t:String):Str)∈biNames:=by cases t<;>decide +kernel
theorem qH{X:Cx}(hu:X.A.units+64 < cLine)(hc:X.calm=true)(hd:mJ X.K)(hg:Gl X (gZ b:String))(hm:X.mg (gZ b:String)=none)(ha:PA X (e::es) (dN X.K cls E2 tr))
  (he:starEach (e::es) X.env=(false,eval e X.env)::starEach es X.env) (hpl:(backTo pos (starEach es X.env)).any (·.1)=false):PE X (.Call (.Name (gZ b:String) p) (e::es) [] pos) (low X.K cls E2 λσ M Q E=>tr σ M (λxs M1=>rBi b xs M1 Q) E):=by
 cases b with
 |len=>exact i7 sW hg hm (by decide +kernel) ha (by decide +kernel) (by decide +kernel) he hpl
 |list fz=>exact fN (qg fz hc) hg hm (by cases fz<;>decide +kernel) ha (by cases fz<;>decide +kernel) (by cases fz<;>decide +kernel) he hpl
 |tuple=>exact fN nK hg hm (by decide +kernel) ha (by decide +kernel) (by decide +kernel) he hpl
 |all=>exact i7 (rX true hc) hg hm (by decide +kernel) ha (by decide +kernel) (by decide +kernel) he hpl
 |any=>exact i7 (rX false hc) hg hm (by decide +kernel) ha (by decide +kernel) (by decide +kernel) he hpl
 |int=>exact fN (ut hd) hg hm (by decide +kernel) ha (by decide +kernel) (by decide +kernel) he hpl
 |strL=>exact fN (qq hc hd) hg hm (by decide +kernel) ha (by decide +kernel) (by decide +kernel) he hpl
theorem qQ{X:Cx}{apos pos:Pos}(hu:X.A.units+64 < cLine)(ho:PE X o (low X.K cls E2 to))(ha:PA X (e::es) (dN X.K cls E2 tr))
  (hb:attributeBase o (fU b:String) X.env (eval o X.env)=eval o X.env) (hn:(e::es).length < 30) (hl:(apos.endLine == pos.line)=true) (he:starEach (e::es) X.env=(false,eval e X.env)::starEach es X.env) (hpl:(backTo pos (starEach es X.env)).any (·.1)=false) :
  PE X (.Call (.Attribute o (fU b:String) apos) (e::es) [] pos) (low X.K cls E2 λσ M Q E=>to σ M (λx M1=>tyB b x M1=true/\tr σ M1 (λxs M2=>rBm b x xs M2 Q) E) E):=by
 cases b with
 |upper=>exact oy PySem.F.plainAttrs_str PySem.F.slot_str_upper PySem.F.type_str_upper kg pp ho ha hb hn hl he hpl
 |startswith=>exact oy PySem.F.plainAttrs_str PySem.F.slot_str_startswith PySem.F.type_str_startswith dA fF ho ha hb hn hl he hpl
 |split=>exact oy PySem.F.plainAttrs_str PySem.F.slot_str_split PySem.F.type_str_split j8 l7 ho ha hb hn hl he hpl
 |join=>exact oy PySem.F.plainAttrs_str PySem.F.slot_str_join PySem.F.type_str_join l6 lK ho ha hb hn hl he hpl
theorem oh{X:Cx}{apos pos:Pos}(hu:X.A.units+64 < cLine)(ho:PE X o (low X.K cls E2 to))
  (hb:attributeBase o (fU b:String) X.env (eval o X.env)=eval o X.env) (hl:(apos.endLine == pos.line)=true) :
  PE X (.Call (.Attribute o (fU b:String) apos) [] [] pos) (low X.K cls E2 λσ M Q E=>to σ M (λx M1=>tyB b x M1=true/\rBm b x [] M1 Q) E):=by
 cases b with
 |upper=>exact lT PySem.F.plainAttrs_str PySem.F.slot_str_upper PySem.F.type_str_upper kg pp ho hb hl
 |startswith=>exact lT PySem.F.plainAttrs_str PySem.F.slot_str_startswith PySem.F.type_str_startswith dA fF ho hb hl
 |split=>exact lT PySem.F.plainAttrs_str PySem.F.slot_str_split PySem.F.type_str_split j8 l7 ho hb hl
 |join=>exact lT PySem.F.plainAttrs_str PySem.F.slot_str_join PySem.F.type_str_join l6 lK ho hb hl
theorem da(h:okA (.cons a r) c es=true):∃x xs,es=x::xs/\cJ x=true/\okE a c x=true/\okA r c xs=true:=by
 cases es with
 |nil=>simp[okA]at h
 |cons x xs=>
  simp only[okA,Bool.and_eq_true]at h;exact⟨x,xs,rfl,h.1.1,h.1.2,h.2⟩
noncomputable def Cm:IT->Bool
 |.and _ _=>true
 |.or _ _=>true
 |_=>false
section
variable {W:WC}
theorem sG:∀(tg:ITg) {c:Cfg}{e:Expr}{X:Cx}{E2:St->XK},okG c tg e=true->Good c W X E2->PG X e (ln X.K (wpG tg))
 |.name i,c,e,X,E2,h,G=>by
  simp only[okG]at h;split at h
  ·simp only[Bool.and_eq_true]at h;obtain⟨l1,l2⟩:=G.loc h.2;exact vw G.ndX (G.at h.1) l1 l2
  ·cases h
 |.tup is,c,e,X,E2,h,G=>by
  simp only[okG]at h;split at h
  ·simp only[Bool.and_eq_true]at h;exact xD (G.calm h.1) G.ndX G.fnx (G.names h.2)
  ·cases h
mutual
theorem sE:∀(ie:IE) {c:Cfg}{e:Expr}{X:Cx}{E2:St->XK},okE ie c e=true->Good c W X E2->PE X e (low X.K W.cls E2 (wpE W ie))
 |.var i,c,e,X,E2,h,G=>by
  unfold okE at h;split at h
  ·simp only[Bool.and_eq_true,Bool.not_eq_true']at h;exact xV (G.at h.1.1.1) (G.vis h.1.1.2) h.1.2 h.2
  ·cases h
 |.con d,c,e,X,E2,h,G=>by
  unfold okE at h;split at h
  ·split at h
   ·cases of_decide_eq_true h;exact kz vN λ_=>rfl
   ·cases of_decide_eq_true h;exact kz we λ_=>rfl
   ·exact kz vt λ_=>rfl
   ·cases of_decide_eq_true h;exact kz uP λ_=>rfl
   ·cases h
  ·cases h
 |.bin op a b,c,e,X,E2,h,G=>by
  unfold okE at h;split at h
  ·simp only[Bool.and_eq_true,decide_eq_true_eq]at h;obtain⟨⟨rfl,h1⟩,h2⟩:=h;exact wR (tK op) (sE a h1 G) (sE b h2 G)
  ·cases h
 |.neg a,c,e,X,E2,h,G=>by
  unfold okE at h;split at h
  ·simp only[Bool.and_eq_true,decide_eq_true_eq]at h;obtain⟨rfl,h1⟩:=h;exact BY (ta:=wpE W a) (r:=rNeg) tW (sE a h1 G)
  ·cases h
 |.cat fz a b,c,e,X,E2,h,G=>by
  unfold okE at h;split at h
  ·simp only[Bool.and_eq_true,decide_eq_true_eq]at h;obtain⟨⟨rfl,h1⟩,h2⟩:=h;exact vX (sE a h1 G) (sE b h2 G)
  ·cases h
 |.cmp op a b,c,e,X,E2,h,G=>by
  unfold okE at h;split at h
  ·simp only[Bool.and_eq_true,decide_eq_true_eq]at h;obtain⟨⟨⟨rfl,h0⟩,h1⟩,h2⟩:=h;exact xA (cm G.un op) (sE a h1 G) (sE b h2 G) (d9 h0)
  ·cases h
 |.chain op1 op2 a b d,c,e,X,E2,h,G=>by
  unfold okE at h;split at h
  ·simp only[Bool.and_eq_true,decide_eq_true_eq]at h;obtain⟨⟨⟨⟨⟨rfl,rfl⟩,h0⟩,h1⟩,h2⟩,h3⟩:=h;exact rF (cm G.un op1) (cm G.un op2) (sE a h1 G) (sE b h2 G) (sE d h3 G) (d9 h0)
  ·cases h
 |.and a b,c,e,X,E2,h,G=>by
  unfold okE at h;split at h
  ·rename_i op x y r p;simp only[Bool.and_eq_true,decide_eq_true_eq]at h;obtain⟨⟨rfl,h1⟩,h2⟩:=h;cases r with
   |nil=>exact rY (sE a h1 G) (sr (sE b h2 G))
   |cons z r=>exact rY (sE a h1 G) (sE b h2 G)
  ·cases h
 |.or a b,c,e,X,E2,h,G=>by
  unfold okE at h;split at h
  ·rename_i op x y r p;simp only[Bool.and_eq_true,decide_eq_true_eq]at h;obtain⟨⟨rfl,h1⟩,h2⟩:=h;cases r with
   |nil=>exact zi (sE a h1 G) (sr (sE b h2 G))
   |cons z r=>exact zi (sE a h1 G) (sE b h2 G)
  ·cases h
 |.not a,c,e,X,E2,h,G=>by
  unfold okE at h;split at h
  ·simp only[Bool.and_eq_true,decide_eq_true_eq]at h;obtain⟨rfl,h1⟩:=h;exact yR (sE a h1 G)
  ·cases h
 |.ifx t a b,c,e,X,E2,h,G=>by
  unfold okE at h;split at h
  ·simp only[Bool.and_eq_true]at h;exact CB (sT t h.1.1 G).1 (sE a h.1.2 G) (sE b h.2 G)
  ·cases h
 |.tup es,c,e,X,E2,h,G=>by
  unfold okE at h;split at h
  ·exact vU (sA es h G)
  ·cases h
 |.lst fz es,c,e,X,E2,h,G=>by
  unfold okE at h;split at h
  ·exact xj (sA es h G)
  ·cases h
 |.frz a,c,e,X,E2,h,G=>by
  unfold okE at h;exact yI (sE a h G)
 |.ix a b,c,e,X,E2,h,G=>by
  unfold okE at h;split at h
  ·simp only[Bool.and_eq_true]at h;exact BF G.un (sE a h.1.2 G) (sE b h.2 G) (qY h.1.1)
  ·cases h
 |.sl fz a lo hi,c,e,X,E2,h,G=>by
  unfold okE at h;split at h
  ·simp only[Bool.and_eq_true]at h;exact Bo (sE a h.1.1 G) (sO lo h.1.2 G) (sO hi h.2 G)
  ·cases h
 |.call f es,c,e,X,E2,h,G=>by
  unfold okE at h;split at h
  ·rename_i x px args pos;simp only[Bool.and_eq_true,Bool.not_eq_true']at h;obtain⟨⟨⟨⟨h0,h1⟩,h2⟩,h3⟩,h4⟩:=h;split at h1
   ·rename_i p hp;simp only[Bool.and_eq_true,decide_eq_true_eq]at h1;obtain⟨h1,_⟩:=h1;obtain⟨p1,p2⟩:=p;cases h1;obtain⟨k,hr,hF⟩:=G.fns h0;obtain⟨fd,ps,sp0,m2,m3,m5⟩:=hF f (List.getElem?_eq_some_iff.mp hp).1;have m1:=G.fnn f x p2 hp;have m4:=hr.mono (Nat.le_succ k);have hA:=sA es h4 G;cases args with
    |nil=>
     cases es with
     |nil=>exact qX m5 m4 (G.gl h2) m1 m2 m3 G.pass h3
     |cons _ _=>simp[okA]at h4
    |cons z zs=>
     cases es with
     |nil=>simp[okA]at h4
     |cons ea er=>
      obtain⟨_,_,e1,n1,_,n3⟩:=da h4;cases e1;exact uz m5 m4 (G.gl h2) m1 m2 m3 G.pass hA h3 (bc n1) (dc _ n3)
   ·cases h1
  ·cases h
 |.bi b es,c,e,X,E2,h,G=>by
  unfold okE at h;split at h
  ·rename_i x px args pos;simp only[Bool.and_eq_true,decide_eq_true_eq]at h;obtain⟨⟨⟨⟨h0,rfl⟩,h2⟩,h3⟩,h4⟩:=h;have hA:=sA es h4 G;cases args with
   |nil=>cases h3
   |cons z zs=>
    cases es with
    |nil=>simp[okA]at h4
    |cons ea er=>
     obtain⟨_,_,e1,n1,_,n3⟩:=da h4;cases e1;exact qH G.un (G.calm h0) G.dig (G.gl h2) (G.bi _ (vm b)) hA (bc n1) (dc _ n3)
  ·cases h
 |.isB a t,c,e,X,E2,h,G=>by
  unfold okE at h;split at h
  ·simp only[Bool.and_eq_true,decide_eq_true_eq]at h;obtain⟨⟨⟨⟨⟨rfl,rfl⟩,h2⟩,h3⟩,h4⟩,h5⟩:=h;exact wt (sE a h5 G) (G.gl h2) (G.bi _ (by decide +kernel)) (G.gl h3) (G.bi _ (vI t)) (bc h4)
  ·cases h
 |.isC a k,c,e,X,E2,h,G=>by
  unfold okE at h;split at h
  ·simp only[Bool.and_eq_true,decide_eq_true_eq,beq_iff_eq,Bool.not_eq_true']at h;obtain⟨⟨⟨⟨⟨⟨rfl,h1⟩,h2⟩,h3⟩,h4⟩,h5⟩,h6⟩:=h;exact wG (sE a h6 G) (G.gl h2) (G.bi _ (by decide +kernel)) (G.gl h3) (G.exc _ _ h1).1 h4 (λi hi=>⟨(G.exi i hi).1,(G.exi i hi).2.2 _ _ h1⟩) (bc h5)
  ·cases h
 |.comp fz N js tg it cond elt,c,e,X,E2,h,G=>by
  unfold okE at h;split at h
  ·simp only[Bool.and_eq_true,decide_eq_true_eq]at h;obtain⟨⟨⟨⟨⟨⟨⟨⟨h0,rfl⟩,ht⟩,h1⟩,h2⟩,h3⟩,h4⟩,h5⟩,h6⟩:=h;have hok:=h2;rw[<-G.sc,<-G.N]at hok;exact u6 hok (G.calm h0) (sI it h3 G ht) (λC s2 H2 fp pn=>sG tg h4 (G.comp h2 C s2 H2 fp pn)) (λC s2 H2 fp pn=>sTO cond h5 (G.comp h2 C s2 H2 fp pn)) (λC s2 H2 fp pn=>sE elt h6 (G.comp h2 C s2 H2 fp pn)) (ma h1) fz
  ·cases h
 |.compX fz N js tg it cond elt,c,e,X,E2,h,G=>by
  unfold okE at h;split at h
  ·simp only[Bool.and_eq_true,decide_eq_true_eq]at h;obtain⟨⟨⟨⟨⟨⟨⟨⟨⟨hw,h0⟩,rfl⟩,ht⟩,h1⟩,h2⟩,h3⟩,h4⟩,h5⟩,h6⟩:=h;have hok:=h2;rw[<-G.sc,<-G.N]at hok;obtain⟨_,Ex,hE,_,_,_,hp⟩:=G.own hw;exact qA hok (G.calm h0) (sI it h3 G ht) hE hp (λC s2 H2 fp pn=>sG tg h4 (G.comp h2 C s2 H2 fp pn)) (λC s2 H2 fp pn=>sTO cond h5 (G.comp h2 C s2 H2 fp pn)) (λC s2 H2 fp pn=>sE elt h6 (G.compX h2 Ex C s2 H2 fp pn)) (ma h1) fz
  ·cases h
 |.rpl a y z,c,e,X,E2,h,G=>by
  unfold okE at h;split at h
  ·simp only[Bool.and_eq_true,decide_eq_true_eq]at h;obtain⟨⟨⟨⟨rfl,h1⟩,h2⟩,h3⟩,h4⟩:=h;split at h4
   ·simp only[decide_eq_true_eq]at h4;obtain⟨rfl,rfl⟩:=h4;exact ye (sE a h3 G) (fL h1) h2
   ·cases h4
  ·cases h
 |.glo k,c,e,X,E2,h,G=>by
  unfold okE at h;split at h
  ·rename_i x px;simp only[Bool.and_eq_true,Bool.not_eq_true']at h;obtain⟨u,v,m1,r,hd⟩:=G.glo k x (beq_iff_eq.mp h.1.1);exact sV (G.gl h.1.2) m1 r h.2 hd
  ·cases h
 |.gg k es,c,e,X,E2,h,G=>by
  unfold okE at h;split at h
  ·rename_i x px n ap args cp;simp only[Bool.and_eq_true,decide_eq_true_eq,Bool.not_eq_true']at h;obtain⟨⟨⟨⟨⟨⟨⟨h0,rfl⟩,h1⟩,h2⟩,h3⟩,h4⟩,h5⟩,h6⟩:=h;have hA:=sA es h6 G;obtain⟨u,v,m1,r,hd⟩:=G.glo k x (beq_iff_eq.mp h1);cases args with
   |nil=>exact absurd rfl h5.2
   |cons z zs=>
    cases es with
    |nil=>simp[okA]at h6
    |cons ea er=>
     obtain⟨_,_,e1,n1,_,n3⟩:=da h6;cases e1;exact BP (G.gl h2) m1 r h3 hd hA (fL rfl) h5.1 h4 (bc n1) (dc _ n3)
  ·cases h
 |.bm b o es,c,e,X,E2,h,G=>by
  unfold okE at h;split at h
  ·rename_i x n ap args cp;simp only[Bool.and_eq_true,decide_eq_true_eq]at h;obtain⟨⟨⟨⟨⟨⟨h0,rfl⟩,h1⟩,h2⟩,h3⟩,h4⟩,h5⟩:=h;have hA:=sA es h5 G;cases args with
   |nil=>
    cases es with
    |nil=>exact oh G.un (sE o h4 G) (fL h1) h2
    |cons _ _=>simp[okA]at h5
   |cons z zs=>
    cases es with
    |nil=>simp[okA]at h5
    |cons ea er=>
     obtain⟨_,_,e1,n1,_,n3⟩:=da h5;cases e1;exact qQ G.un (sE o h4 G) hA (fL h1) h3 h2 (bc n1) (dc _ n3)
  ·cases h
theorem sT:∀(it:IT) {c:Cfg}{e:Expr}{X:Cx}{E2:St->XK},okT it c e=true->Good c W X E2->PT X e (bB X.K W.cls E2 (wpT W it))/\(Cm it=true->PW X e (bB X.K W.cls E2 (wpT W it)))
 |.val a,c,e,X,E2,h,G=>by
  unfold okT at h;simp only[Bool.and_eq_true]at h;exact⟨wW (sE a h.2 G) (m7 h.1),λz=>nomatch z⟩
 |.cmp op a b,c,e,X,E2,h,G=>by
  unfold okT at h;split at h
  ·simp only[Bool.and_eq_true,decide_eq_true_eq]at h;obtain⟨⟨⟨rfl,h0⟩,h1⟩,h2⟩:=h;exact⟨yp (cm G.un op) (sE a h1 G) (sE b h2 G) (d9 h0),λz=>nomatch z⟩
  ·cases h
 |.chain op1 op2 a b d,c,e,X,E2,h,G=>by
  unfold okT at h;split at h
  ·simp only[Bool.and_eq_true,decide_eq_true_eq]at h;obtain⟨⟨⟨⟨⟨rfl,rfl⟩,h0⟩,h1⟩,h2⟩,h3⟩:=h;exact⟨qd (cm G.un op1) (cm G.un op2) (sE a h1 G) (sE b h2 G) (sE d h3 G) (d9 h0),λz=>nomatch z⟩
  ·cases h
 |.chain3 op1 op2 op3 a b d f,c,e,X,E2,h,G=>by
  unfold okT at h;split at h
  ·simp only[Bool.and_eq_true,decide_eq_true_eq]at h;obtain⟨⟨⟨⟨⟨⟨⟨rfl,rfl⟩,rfl⟩,h0⟩,h1⟩,h2⟩,h3⟩,h4⟩:=h;exact⟨oU (cm G.un op1) (cm G.un op2) (cm G.un op3) (sE a h1 G) (sE b h2 G) (sE d h3 G) (sE f h4 G) (d9 h0),λz=>nomatch z⟩
  ·cases h
 |.and a b,c,e,X,E2,h,G=>by
  unfold okT at h;split at h
  ·rename_i op x y r p;simp only[Bool.and_eq_true,decide_eq_true_eq]at h;obtain⟨⟨rfl,h1⟩,h2⟩:=h;have hA:=(sT a h1 G).1;cases r with
   |nil=>exact⟨(lN hA (mn (sT b h2 G).1)).pt,λ_=>lN hA (mn (sT b h2 G).1)⟩
   |cons z r=>
    have hB:=(sT b h2 G).2;cases b with
    |and b1 b2=>exact⟨(lN hA (hB rfl)).pt,λ_=>lN hA (hB rfl)⟩
    |val b1=>simp[okT,my]at h2
    |cmp=>simp[okT]at h2
    |chain=>simp[okT]at h2
    |chain3=>simp[okT]at h2
    |or=>simp[okT]at h2
    |not=>simp[okT]at h2
  ·cases h
 |.or a b,c,e,X,E2,h,G=>by
  unfold okT at h;split at h
  ·rename_i op x y r p;simp only[Bool.and_eq_true,decide_eq_true_eq]at h;obtain⟨⟨rfl,h1⟩,h2⟩:=h;have hA:=(sT a h1 G).1;cases r with
   |nil=>exact⟨(rE hA (n8 (sT b h2 G).1)).pt,λ_=>rE hA (n8 (sT b h2 G).1)⟩
   |cons z r=>
    have hB:=(sT b h2 G).2;cases b with
    |or b1 b2=>exact⟨(rE hA (hB rfl)).pt,λ_=>rE hA (hB rfl)⟩
    |val b1=>simp[okT,my]at h2
    |cmp=>simp[okT]at h2
    |chain=>simp[okT]at h2
    |chain3=>simp[okT]at h2
    |and=>simp[okT]at h2
    |not=>simp[okT]at h2
  ·cases h
 |.not a,c,e,X,E2,h,G=>by
  unfold okT at h;split at h
  ·simp only[Bool.and_eq_true,decide_eq_true_eq]at h;obtain⟨rfl,h1⟩:=h;exact⟨vZ (sT a h1 G).1,λz=>nomatch z⟩
  ·cases h
theorem sA:∀(ia:IA) {c:Cfg}{es:List Expr}{X:Cx}{E2:St->XK},okA ia c es=true->Good c W X E2->PA X es (dN X.K W.cls E2 (wpA W ia))
 |.nil,c,es,X,E2,h,G=>by
  simp only[okA]at h;cases es with
  |nil=>exact wV
  |cons _ _=>cases h
 |.cons a r,c,es,X,E2,h,G=>by
  obtain⟨x,xs,rfl,h1,h2,h3⟩:=da h;exact vB (sE a h2 G) (sA r h3 G) (bc h1)
theorem sO:∀(io:IO) {c:Cfg}{o:Option Expr}{X:Cx}{E2:St->XK},okO io c o=true->Good c W X E2->PO X o (mE X.K W.cls E2 (wpO W io))
 |.no,c,o,X,E2,h,G=>by
  simp only[okO]at h;cases o with
  |none=>exact CI
  |some _=>cases h
 |.yes a,c,o,X,E2,h,G=>by
  cases o with
  |none=>simp[okO]at h
  |some x=>
   simp only[okO]at h;exact xQ (sE a h G)
theorem sTO:∀(io:ITO) {c:Cfg}{es:List Expr}{X:Cx}{E2:St->XK},oQ io c es=true->Good c W X E2->PIf X es (bB X.K W.cls E2 (eQ W io))
 |.no,c,es,X,E2,h,G=>by
  simp only[oQ]at h;cases es with
  |nil=>exact λpins s σ H Q2 I ⟨σ3,M,Q,E3,rm,ds,lk,h,back⟩=>qu pins s σ H Q2 I (back _ _ _ rm (.refl _) h)
  |cons _ _=>cases h
 |.yes t,c,es,X,E2,h,G=>by
  unfold oQ at h;split at h
  ·exact rq (sT t h G).1
  ·cases h
theorem sI:∀(ii:II) {c:Cfg}{e:Expr}{X:Cx}{E2:St->XK}{tg:Expr},okI ii c e=true->Good c W X E2->nI ii tg=true->PI X tg e (jP X.K W.cls E2 (wpI W ii))
 |.seq a,c,e,X,E2,tg,h,G,_=>by
  unfold okI at h;exact yu (sE a h G)
 |.zip a b,c,e,X,E2,tg,h,G,ht=>by
  unfold okI at h;split at h
  ·simp only[Bool.and_eq_true,decide_eq_true_eq]at h;obtain⟨⟨⟨⟨⟨rfl,h1⟩,h2⟩,h3⟩,h4⟩,h5⟩:=h;have hA:=sE a h4 G;have hB:=sE b h5 G;cases tg<;>first
    |exact wK (G.gl h1) (G.bi _ (by decide +kernel)) hA hB (by rw[bc h2,bc h3];rfl) (bc h3)
    |(simp[nI]at ht)
  ·cases h
 |.zip3 a b d,c,e,X,E2,tg,h,G,ht=>by
  unfold okI at h;split at h
  ·simp only[Bool.and_eq_true,decide_eq_true_eq]at h;obtain⟨⟨⟨⟨⟨⟨⟨rfl,h1⟩,h2⟩,h3⟩,h4⟩,h5⟩,h6⟩,h7⟩:=h;have hA:=sE a h5 G;have hB:=sE b h6 G;have hC:=sE d h7 G;cases tg<;>first
    |exact uq (G.gl h1) (G.bi _ (by decide +kernel)) hA hB hC (bc h2) (bc h3) (bc h4) (by rw[bc h3,bc h4];rfl)
    |(simp[nI]at ht)
  ·cases h
end
end
end L2
namespace L2
open PySem PySem.Spec PyProof.Rows
theorem pH{X:Cx}(G:Good c W X E2){pos px spos:Pos}(h:swB c scope x px.line pos.line=true) :
  swapsWith (.ListComp el gs scope pos) (some (.Name x px)) spos.line X.env=pure true:=by
 unfold swB at h;simp only[Bool.and_eq_true]at h;have h1:X.env.scope.kind=.function:=by rw[G.sc];exact beq_iff_eq.mp h.1.1.1
 have h2:X.env.kindOf x=some .local:=by show X.env.scope.names.lookup x=_;rw[G.sc];exact beq_iff_eq.mp h.1.1.2
 have hb:(X.env.blockKind == .function)=true:=by
  unfold Env.blockKind;rw[h1];rfl
 show (pure (X.env.blockKind == .function&&X.env.kindOf x == some .local&&px.line == pos.line&&!(scope.names.any λ(n,k)=>n == x&&(k == .local||k == .cell))):Sem Bool)=pure true
 rw[hb,h2,h.1.2,h.2];rfl
theorem uS{c:Cfg}{X:Cx}(G:Good c W X E2){spos:Pos}(h:(c.sc.names.lookup x == some .cell)=true) :
  swapsWith (.ListComp el gs scope pos) (some (.Name x px)) spos.line X.env=pure false:=by
 have h2:X.env.kindOf x=some .cell:=by show X.env.scope.names.lookup x=_;rw[G.sc];exact beq_iff_eq.mp h
 show (pure (X.env.blockKind == .function&&X.env.kindOf x == some .local&&px.line == pos.line&&!(scope.names.any λ(n,k)=>n == x&&(k == .local||k == .cell))):Sem Bool)=pure false
 rw[h2,show ((some NameKind.cell:Option NameKind) == some .local)=false from rfl,Bool.and_false];rfl
theorem qD{c:Cfg}(h:swB c scope x a b=true):c.sc.names.lookup x=some .local:=by
 unfold swB at h;simp only[Bool.and_eq_true,beq_iff_eq]at h;exact h.1.1.2
section
variable {W:WC}
theorem n9{fz:Bool}{N:List Str}{js:List (Option Nat)}{tg:ITg}{it:II}{cond:ITO}{elt:IE}{c:Cfg}{X:Cx}{E2:St->XK}{i:Nat}{x:Str}{px spos pos:Pos}{el:Expr}{gs:List Comprehension}{scope:Scope}
  (h:okE (.comp fz N js tg it cond elt) c (.ListComp el gs scope pos)=true) (hi:(c.N[i]? == some x)=true) (hsw:swB c scope x px.line pos.line=true) (G:Good c W X E2) :
  PS X (.Assign [.Name x px] (.ListComp el gs scope pos) spos) (bz X.K W.cls E2 (wpS W (.set i (.comp fz N js tg it cond elt)))):=by
 have sp:=pH (spos:=spos) (el:=el) (gs:=gs) G hsw;unfold okE at h;split at h
 ·rename_i el' tgE iter ifs as scope' pos' heq;cases heq;simp only[Bool.and_eq_true,decide_eq_true_eq]at h;obtain⟨⟨⟨⟨⟨⟨⟨⟨h0,rfl⟩,ht⟩,h1⟩,h2⟩,h3⟩,h4⟩,h5⟩,h6⟩:=h;have hok:=h2;rw[<-G.sc,<-G.N]at hok;exact lg hok (G.calm h0) (sI it h3 G ht) (λC s2 H2 fp pn=>sG tg h4 (G.comp h2 C s2 H2 fp pn)) (λC s2 H2 fp pn=>sTO cond h5 (G.comp h2 C s2 H2 fp pn)) (λC s2 H2 fp pn=>sE elt h6 (G.comp h2 C s2 H2 fp pn)) (ma h1) G.ndX (G.at hi) (by rw[G.sc];exact qD hsw) sp fz
 ·cases h
mutual
theorem sS:∀(is:IS) {c:Cfg}{s:Stmt}{X:Cx}{E2:St->XK},okS is c s=true->Good c W X E2->PS X s (bz X.K W.cls E2 (wpS W is))
 |.set i a,c,s,X,E2,h,G=>by
  unfold okS at h;split at h
  ·simp only[Bool.and_eq_true,Bool.or_eq_true]at h;obtain⟨⟨⟨h1,h2⟩,h3⟩,h4⟩:=h;obtain⟨l1,l2⟩:=G.loc h2;rcases h4 with h4|h4
   ·exact su G.ndX (G.at h1) l1 (sE a h3 G) (lG h4) l2
   ·split at h4
    ·rcases Bool.or_eq_true_iff.mp h4 with h4|h4
     ·exact n9 h3 h1 h4 G
     ·exact su G.ndX (G.at h1) l1 (sE _ h3 G) (uS G h4) l2
    ·cases h4
  ·cases h
 |.expr a,c,s,X,E2,h,G=>by
  unfold okS at h;split at h
  ·simp only[Bool.and_eq_true]at h;exact vv (sE a h.2 G) (lG h.1)
  ·cases h
 |.ret a,c,s,X,E2,h,G=>by
  unfold okS at h;split at h
  ·exact w5 (sE a h G)
  ·cases h
 |.ifs t a b,c,s,X,E2,h,G=>by
  unfold okS at h;split at h
  ·simp only[Bool.and_eq_true]at h;exact CS (sT t h.1.1 G).1 (sSs a h.1.2 G) (sSs b h.2 G)
  ·cases h
 |.for_ tg it body,c,s,X,E2,h,G=>by
  unfold okS at h;split at h
  ·simp only[Bool.and_eq_true]at h;obtain⟨⟨⟨⟨⟨⟨h1,ht⟩,h2⟩,h3⟩,h4⟩,h5⟩,h6⟩:=h;exact xw (G.own h1).1 (G.calm h2) (sI it h5 G ht) (sG tg h4 G) (sSs body h6 G) (ma h3)
  ·cases h
 |.raise k es,c,s,X,E2,h,G=>by
  unfold okS at h;split at h
  ·rename_i x px args cp pos;simp only[Bool.and_eq_true,Bool.not_eq_true']at h;obtain⟨⟨⟨⟨⟨⟨⟨h0,h1⟩,h2⟩,h3⟩,h4⟩,h5⟩,h6⟩,h7⟩:=h;obtain⟨_,E,hE,hR,hRD,hr2,_⟩:=G.own h1;obtain⟨m1,m2,_⟩:=G.exc k x (beq_iff_eq.mp h3);have hA:=sA (W:=W) es h7 G;cases args with
   |nil=>cases h6
   |cons z zs=>
    cases es with
    |nil=>simp[okA]at h7
    |cons ea er=>
     obtain⟨_,_,e1,n1,_,n3⟩:=da h7;cases e1;exact rL hR hE (G.calm h2) (G.gl h4) m1 (m2 (Option.isNone_iff_eq_none.mp h0)) hA h5 (bc n1) (dc _ n3)
  ·cases h
 |.try_ body hs,c,s,X,E2,h,G=>by
  unfold okS at h;split at h
  ·rename_i b handlers pos;simp only[Bool.and_eq_true]at h;obtain⟨⟨⟨h1,h2⟩,h3⟩,h4⟩:=h;obtain⟨t1,t2,t3⟩:=G.tr h1;have hH:=sHs hs h4 G;cases handlers with
   |nil=>cases h2
   |cons h0 hr=>exact wH t1 t2 t3 hH λpn V' E2' hP=>sSs body h3 (G.trying hP)
  ·cases h
 |.app o a,c,s,X,E2,h,G=>by
  unfold okS at h;split at h
  ·simp only[Bool.and_eq_true,decide_eq_true_eq]at h;obtain⟨⟨⟨⟨⟨rfl,h1⟩,h2⟩,h3⟩,h4⟩,h5⟩:=h;exact zk (sE o h4 G) (sE a h5 G) (ue h1) h2 (bc h3)
  ·cases h
 |.del i,c,s,X,E2,h,G=>by
  unfold okS at h;cases h
 |.ixset o i a,c,s,X,E2,h,G=>by
  unfold okS at h;split at h
  ·simp only[Bool.and_eq_true]at h;obtain⟨⟨⟨⟨h0,h1⟩,h2⟩,h3⟩,h4⟩:=h;exact qx G.un (sE o h2 G) (sE i h3 G) (sE a h4 G) (uF h0) (by unfold swapsWithSole;exact lG h1) (by rfl) (by rfl)
  ·cases h
theorem sSs:∀(is:ISs) {c:Cfg}{sts:List Stmt}{X:Cx}{E2:St->XK},gB is c sts=true->Good c W X E2->PSs X sts (bz X.K W.cls E2 (av W is))
 |.nil,c,sts,X,E2,h,G=>by
  simp only[gB]at h;cases sts with
  |nil=>exact wj
  |cons _ _=>cases h
 |.cons s r,c,sts,X,E2,h,G=>by
  unfold gB at h;split at h
  ·exact xT (sSs r h G)
  ·split at h
   ·simp only[Bool.and_eq_true]at h;exact ua (t:=wpS W s) (u:=av W r) (sS s h.1 G) (sSs r h.2 G)
   ·cases h
theorem sHs:∀(ih:IHs) {c:Cfg}{hs:List ExceptHandler}{X:Cx}{E2:St->XK},nR ih c hs=true->Good c W X E2->PH X hs (kZ X.K W.cls (wpH W ih))
 |.nil,c,hs,X,E2,h,G=>by
  simp only[nR]at h;cases hs with
  |nil=>exact uV
  |cons _ _=>cases h
 |.cons k nm body r,c,hs,X,E2,h,G=>by
  unfold nR at h;split at h
  ·rename_i x px nmE bodyE hp rest;simp only[Bool.and_eq_true,Bool.not_eq_true']at h;obtain⟨⟨⟨⟨⟨⟨h1,h2⟩,h3⟩,h4⟩,h5⟩,h6⟩,h7⟩:=h;obtain⟨m1,m2,m3⟩:=G.exc k x (beq_iff_eq.mp h1);have hB:=λv=>sSs body h6 (G.caught v)
   have hR:=sHs r h7 G;cases bodyE with
   |nil=>cases h5
   |cons b0 suite=>
    cases nm with
    |none=>
     cases nmE with
     |none=>exact wk (G.gl h2) m1 m3 hB hR h3
     |some n=>cases h4
    |some j=>
     cases nmE with
     |none=>cases h4
     |some n=>
      simp only[Bool.and_eq_true,beq_iff_eq]at h4;exact xm (G.gl h2) m1 m3 G.ndX (by rw[G.N];exact h4.1) (by rw[G.sc];exact h4.2) hB hR h3
  ·cases h
end
end
end L2
namespace L2
open PySem PySem.W PySem.Spec PyProof.Rows
theorem holdsT{l:OpenLaw}{q:Program}{loose:List Str}{Xt:Shared->Bool}{XP:(Str->Option Value)->Heap->Prop}{α:Type}{Yf:Shared->α}{Ya:World->α}{YP:World->Heap->Prop}{d:DefRec}{N n:Nat}
  (left:LeftO l.row.prog q loose Xt Yf Ya N) (hY:∀w s,Yf s=Ya w->YP w s.heap/\0 < s.toks) (hYk:∀w h h',YP w h->(∀b o,h.get? b=some o->h'.get? b=some o)->YP w h')
  (hX:∀s,Xt s=true->XP (s.heap.nsMap mainGlobals) s.heap) (hXk:∀mg h h',XP mg h->(∀b o,h.get? b=some o->h'.get? b=some o)->XP mg h')
  (hdef:defOf q l.row.name=some (d,[])) (hp:l.row.prog.theDef l.row.name=some (d.params,d.body,d.scope)) (hk:kwWritten? d.params.kwonlyargs d.params.kw_defaults=some []) (hRf:∀s,Xt s=true->RecFacts l.row.records s.heap) (hwr:(!l.row.writes||l.row.records.isEmpty)=true)
  (k1:l.row.wellSaid=true) (ok:(chainsOk q&&opensWell l.row.prog&&(frees l.row.toRowW&&l.row.within.isEmpty))=true) (hb:l.row.prog.bare)(hw:l.row.toRowW.promised) (hn:l.most=some n) (hdf:d.params.defaults=[])
  (call:∀(w:World)(s₀ s:Shared)(mg mb:Str->Option Value)(fa:Addr)(a:Addr)(vs:List Value)(ns:List Int),0 < s.toks->Ground q loose [] XP w s₀ mg mb s.heap->YP w s.heap->mg d.name=some (.ref fa)->s.heap.get? a=some {cls:=.type "list",data:=.seq vs.toArray}->IntsAre vs ns->ns.length<=n->s.gens=#[]->
   codeAny (model l.prog w) callerA (.call (.ref fa) ⟨[.ref a],[]⟩) (λr s'=>r=.ok (.ret (.bool true))/\OldK s.heap s'.heap/\s'.os=s.os/\AllBare s'.gens) s):l.row.Holds:=by
 refine⟨k1,hw,?_⟩;have mk:∀r:RowW,r.makers=[]->r.claim.makers=[]:=λr hm=>by show r.makers.map _=[];rw[hm];rfl
 obtain⟨ok,k5⟩:=Bool.and_eq_true_iff.mp ok;obtain⟨hch,o1⟩:=Bool.and_eq_true_iff.mp ok;obtain⟨k5,k6⟩:=Bool.and_eq_true_iff.mp k5;obtain⟨hsame,hu,ha,hap,hm⟩:=frees_parts k5;refine⟨⟨hb,o1,mk _ hm⟩,hw.witness,λw=>⟨(left.behind hX hch w).1,λs' hs'=>?_⟩⟩
 obtain⟨s₀,hf,hg0,s,hT,hz,hgens,hg,G00,y⟩:=(left.behind (XP:=λmg h=>XP mg h/\RecFacts l.row.records h) (λs hs=>⟨hX s hs,hRf s hs⟩) hch w).2 s' hs'
 have G0:Ground q loose [] XP w s (s.heap.nsMap mainGlobals) (s.heap.nsMap builtinsNs) s.heap:=⟨G00.T,G00.B,G00.D,G00.TE,G00.TD,G00.W,G00.X.1,G00.cls,G00.has,G00.apart,G00.once,G00.K⟩;have RF:=G00.X.2;refine⟨s₀,hf,hg0,s,hT,λn hn=>?_,RF.1,RF.2.1,?_⟩
 ·obtain rfl:n=l.row.name:=by split at hn<;>simp_all
  exact pinned_of_view hg G0 hdef hp hk
 have hgens:s.gens=#[]:=Array.eq_empty_of_size_eq_zero (beq_iff_eq.mp hgens);have G:Ground q loose l.row.records XP w s _ _ s.heap:=RF.ground G0;refine ClaimW.callFrom_of_specG (c:=l.row.toRowW.claim) hz hgens λargs hpre hlay ord hord=>?_
 obtain⟨⟨vs,s₁⟩,hlaid⟩:=Option.isSome_iff_exists.mp (layAllW_isSome (P:=w.params) (ord:=ord) G.has args l.row.toRowW.args s (pre_splitW hpre).1);have keeps:=layAllW_keeps _ _ _ hlaid;have hal:=layAllW_rest _ _ _ hlaid;obtain⟨as,hrd,hin,hold⟩:=reads_layAllW hord _ _ _ hlaid hlay s₁.heap (λ_ _ e=>e)
 have L:Laid l.row.records w s s₁ args vs as:=⟨⟨ord,hord,hlaid⟩,hrd,hin,hold,keeps,hal.1.trans hgens,hal.2.2.1⟩;have G₁:=G.keeps hXk keeps;obtain⟨fa,o,pm,cd,doc,dV,kV,h1,h2,h3,h4,h5⟩:=G₁.fn hdef;have hi:=ident_freeW hu ha hap;have hwi:l.row.toRowW.claim.within=[]:=List.isEmpty_iff.mp k6;obtain⟨a,vs',ns,rfl,rfl,hobj,hints,hlen⟩:=Att.script_of hn hpre L.well;have tk:0 < s₁.toks:=Nat.lt_of_lt_of_le (hY w s y).2 (layAllW_grows _ _ _ hlaid).toks;have key:=call w s s₁ _ _ fa a vs' ns tk G₁ (hYk _ _ _ (hY w s y).1 keeps) (defOf_name hdef▸h1) hobj hints hlen L.gens;refine⟨_,s₁,hlaid,wpAny_bind (wpAny_nsGet G₁.T.g ?_)⟩;rw[h1];refine wpAny_bind (wpAny_call (codeAny_mono key λr s2 hq=>?_))
 obtain⟨rfl,q2,q3,q4⟩:=hq;have g:GoodWG l.row.toRowW.claim (classAt s.heap) (ExcName.means s.heap) [WData.list (ns.map WData.int)] s₁ (.ok (.ret (.bool true))) s2:=⟨.inl ⟨.bool true,.bool true,[],rfl,λ_=>rfl,.bool true,Att.post_true l _,λ_=>⟨List.Pairwise.nil,λ_ hm=>(nomatch hm)⟩⟩,q2,q3,q4⟩
 have z:=g.laid (c:=l.row.toRowW.claim) hsame hwi hi L;exact wpAny_pure ⟨_,rfl,z.1,z.2.1,z.2.2,λq=>⟨namesKept_of hT hg _ keeps g.2.1.old,noTable hwr q⟩⟩
end L2
namespace L2
open PySem PySem.Spec PyProof.Rows
theorem dF:∀{l:List (Nat×Nat)}{m f:Nat},l.lookup m=some f->(m,f)∈l
 |[],_,_,h=>by cases h
 |(a,b)::r,m,f,h=>by
  rw[List.lookup_cons]at h;by_cases e:m=a
  ·subst e;simp at h;subst h;exact List.mem_cons_self
  ·have:(m == a)=false:=by simpa using e
   rw[this]at h;exact List.mem_cons_of_mem _ (dF h)
theorem ixc{α:Type}{P:Nat->α->Prop}{a:α}{r:List α}(h0:P 0 a)(hr:∀i x,r[i]?=some x->P (i+1) x):∀i x,(a::r)[i]?=some x->P i x
 |0,x,h=>by cases h;exact h0
 |i+1,x,h=>hr i x h
theorem ixn{α:Type}{P:Nat->α->Prop}:∀i x,([]:List α)[i]?=some x->P i x:=λi x h=>by simp at h
theorem us0{P:List Value->Prop}(h:P []):∀us:List Value,us.length=0->P us:=λus e=>(List.eq_nil_of_length_eq_zero e)▸h
theorem usS{n:Nat}{P:List Value->Prop}(h:∀a,∀us:List Value,us.length=n->P (a::us)):∀us:List Value,us.length=n+1->P us:=λus e=>by
 cases us with
 |nil=>cases e
 |cons a r=>exact h a r (Nat.succ.inj e)
structure FB where
 np:Nat
 nl:Nat
 cl:Bool
 body:ISs
 df:List Int:=[]
noncomputable def FB.full(fb:FB)(ds:List D):List D:=ds++(fb.df.drop (ds.length+fb.df.length - fb.np)).map D.int
noncomputable def lE(nl:Nat)(ds:List D):St3:=ds.map some++List.replicate (nl - ds.length) none
noncomputable def aa(T:List FB)(B:WB):Nat->Nat->List D->MH->VK3->XN->Prop
 |0,_,_,_,_,_=>False
 |n+1,f,ds,M,Q,E=>match T[f]? with
  |none=>False
  |some fb=>(fb.full ds).length=fb.np/\av {toWB:=B,call:=aa T B n} fb.body {nx:=λ_ M'=>Q .non (kp fb.cl M M'),rt:=λv M'=>Q v (kp fb.cl M M')} (λ_ i M'=>E i (ac M M')) (lE fb.nl (fb.full ds)) M
structure FL where
 name:Str
 qual:Str
 glob:Bool
 cl:Bool
 st:Stmt
 N:List Str
 ps:List Str
 body:ISs
 gn:Str:=name
 df:List Int:=[]
noncomputable def lq(N ps:List Str)(sc:Scope):Bool:=(sc.kind == .function)&&!sc.isCoroutine&&!sc.isGenerator&&decide N.Nodup&&(N.take ps.length == ps)&&
 ps.all (λx=>sc.names.lookup x == some .local||sc.names.lookup x == some .cell)&&sc.names.all (λy=>y.2 != .free)
theorem mO(h:lq N ps sc=true):FnScope N ps sc:=by
 unfold lq at h;simp only[Bool.and_eq_true,Bool.not_eq_true',beq_iff_eq,decide_eq_true_eq,List.all_eq_true,Bool.or_eq_true,bne_iff_ne]at h;obtain⟨⟨⟨⟨⟨⟨h1,h2⟩,h3⟩,h4⟩,h5⟩,h6⟩,h7⟩:=h;exact⟨h1,h2,h3,h4,h5,h6,h7⟩
structure NM where
 exc:List Str
 kln:List Str
 gln:List Str
 xin:List (Nat×Nat)
noncomputable def FL.cfg(l:FL)(fns:List (Option Str×Nat))(n:NM):Cfg:={N:=l.N,sc:=bt l.st,fns:=fns,exc:=n.exc,kln:=n.kln,gln:=n.gln,xin:=n.xin,calm:=true,own:=true,tr:=true,fn:=true}
noncomputable def FL.fb(l:FL):FB:=⟨l.ps.length,l.N.length,l.cl,l.body,l.df⟩
noncomputable def FL.ok(l:FL)(fns:List (Option Str×Nat))(n:NM):Bool:=lq l.N l.ps (bt l.st)&&gB l.body (l.cfg fns n) (db l.st)
noncomputable def dB(L:List FL):List (Option Str×Nat):=L.map λl=>(if l.glob=true then some l.gn else none,l.ps.length)
structure FunD (K:PySem.W.Frag)(x qual:Str)(st:Stmt)(f:Addr)(fd:FuncData):Prop where
 ex:∃(oc:Value) (od:Option Addr) (dV kV doc pm:Value) (an:Option Addr) (cdv ct:Value) (osl:Array (Option Value)),
  fd=PySem.W.fnOf x qual (dX st) (db st) (bt st) dV kV doc pm an cdv ct/\K.lookup f=some ⟨oc,od,.func fd,osl⟩/\PySem.W.codeIn K cdv qual=true
 kp:PySem.W.keepIn K (.ref f)=true
structure Top (Pm:Params)(K:PySem.W.Frag)(mg:Str->Option Value)(L:List FL)(n:NM)(B:WB):Prop where
 ok:∀l∈L,l.ok (dB L) n=true
 fn:∀f l,L[f]?=some l->∃fd,FunD K l.name l.qual l.st (B.fad f) fd/\(l.glob=true->mg l.gn=some (.ref (B.fad f)))/\(l.df=[]->∀us:List Value,us.length=l.ps.length->bindArgs fd ⟨us,[]⟩=pure (l.ps.zip us))/\∃dv,Vals (l.df.map V.int) dv/\∀j,Binds K fd l.ps (dv.drop j)
 exi:∀i,i < B.ne->ExcI K (B.cls i)/\PySem.W.kitOne K (.ref (B.cls i)) (.type "ValueError")=some true/\∀j x,n.exc[j]?=some x->PySem.W.kitOne K (.ref (B.cls i)) (.ref (B.cls j))=some (B.sub i j)
 exc:∀i x,n.exc[i]?=some x->mg x=some (.ref (B.cls i))/\(n.xin.lookup i=none->qZ K (B.cls i))/\∀j,j < B.ne->PySem.W.exmOne K (.ref (B.cls j)) (.ref (B.cls i))=some (B.sub j i)
 kok:∀i,i < B.nk->KOk K B B.fad i
 kin:∀i,i < B.nk->∃f,B.ini i=some f
 kfi:∀i f,i < B.nk->B.ini i=some f->f < L.length
 kfm:∀i m f,i < B.nk->B.mth i m=some f->f < L.length
 knm:∀i x,n.kln[i]?=some x->mg x=some (.ref (B.kls i))/\i < B.nk
 glo:∀k x,n.gln[k]?=some x->∃u v,mg x=some u/\RelV v u/\nW K Pm (B.glo k) v
 bi:∀x∈biNames,mg x=none
 dig:mJ K
 xi:∀i f,n.xin.lookup i=some f->B.xin i=some f/\∃fI fd ps,XIni K (B.cls i) fI (fnm f)/\Binds K fd ps []/\∀(P:Program)(w:World)(base:Heap),FnOk P w K mg base (CX1 P w) 1 fI fd ps (nM (cpF f) K (B.cls i) (fnm f))
 xn:∀i f,i < B.ne->B.xin i=some f->ju K (B.cls i) (fnm f)
section
variable {w:World}{K:PySem.W.Frag}{L:List FL}{B:WB}
noncomputable def spF(K:PySem.W.Frag)(cls:Nat->Addr)(l:FL)(t3:List D->MH->VK3->XN->Prop):Sp:=λvs H Q E=>vs.length=l.ps.length/\spX K cls t3 vs H Q E
theorem FB.full_at{fb:FB}{ds:List D}(h:ds.length=fb.np):fb.full ds=ds:=by
 unfold FB.full;rw[List.drop_of_length_le (by omega),List.map_nil,List.append_nil]
theorem iS:∀{vs:List V}{us:List Value} (j:Nat),Vals vs us->Vals (vs.drop j) (us.drop j)
 |_,_,0,h=>h
 |_,_,_+1,.nil=>.nil
 |_,_,j+1,.cons _ h=>iS j h
theorem wy{l:FL}(hl:L[f]?=some l){dv:List Value}(hv:Vals (l.df.map V.int) dv)(hb:∀j,Binds K fd l.ps (dv.drop j)):BdT K B.cls fd l.ps (aa (L.map FL.fb) B n f) (spF K B.cls l (aa (L.map FL.fb) B n f)):=by
 rintro vs H Q E ⟨ds,M,Q3,E3,dl,rm,h,back,lk⟩;cases n with
 |zero=>exact h.elim
 |succ n=>
  have hT:(L.map FL.fb)[f]?=some l.fb:=by rw[List.getElem?_map,hl];rfl
  have h0:=h;simp only[aa,hT]at h0;have e:=h0.1;have hlen:=dl.length;refine⟨(l.df.map V.int).drop (ds.length+l.df.length - l.ps.length),dv.drop (ds.length+l.df.length - l.ps.length),iS _ hv,hb _,?_,?_⟩
  ·have e2:(l.fb.full ds).length=l.ps.length:=e;unfold FB.full at e2;rw[List.length_append,List.length_map]at e2;rw[List.length_append,List.length_drop,List.length_map,<-hlen];rw[List.length_drop]at e2;exact e2
  ·refine⟨l.fb.full ds,M,Q3,E3,?_,rm,?_,back,lk⟩
   ·unfold FB.full;rw[<-List.map_drop];exact dl.append DenL.of_int
   ·simp only[aa,hT];rw[FB.full_at e];exact h0
theorem ou(T:Top w.params K mg L nm B):∀(n f:Nat)(l:FL),L[f]?=some l->∀(fd:FuncData),FunD K l.name l.qual l.st (B.fad f) fd->FnOk P w K mg base (CX1 P w) (2 * n+2) (B.fad f) fd l.ps (spF K B.cls l (aa (L.map FL.fb) B n f)):=by
 intro n
 induction n with
 |zero=>
  intro f l hl fd F;exact⟨λvs H Q E h=>h.1,λA outer s H args us vs Q E hr e0 hb r ⟨_,_,_,_,_,_,_,h,_⟩=>h.elim⟩
 |succ n ih=>
  intro f l hl fd F;have hT:(L.map FL.fb)[f]?=some l.fb:=by rw[List.getElem?_map,hl];rfl
  have hm:l∈L:=List.mem_of_getElem? hl;have okl:=T.ok l hm;unfold FL.ok at okl;rw[Bool.and_eq_true]at okl;have S:=mO okl.1;obtain⟨oc,od,dV,kV,doc,pm,an,cdv,ct,osl,rfl,lk,hcd⟩:=F.ex;have un:∀ds M Q E,aa (L.map FL.fb) B (n+1) f ds M Q E->ds.length=l.ps.length->av {toWB:=B,call:=aa (L.map FL.fb) B n} l.body {nx:=λ_ M'=>Q .non (kp l.cl M M'),rt:=λv M'=>Q v (kp l.cl M M')} (λ_ i M'=>E i (ac M M')) (lE l.N.length ds) M:=λds M Q E h e=>by
   simp only[aa,hT]at h;rw[FB.full_at (fb:=l.fb) e]at h;exact h.2
  show FnOk P w K mg base (CX1 P w) (2 * n+3+1) _ _ _ _;refine wC lk hcd S (λvs H Q E h=>?_) λA outer s H vs Q E hr hsp=>?_
  ·exact h.1
  ·obtain⟨hle,ds,M,Q3,E3,dl,rm,h,back,lkE⟩:=hsp;have h:=un _ _ _ _ h (by rw[dl.length];exact hle)
   have len:(dB L).length=L.length:=by unfold dB;rw[List.length_map]
   have G:Good (l.cfg (dB L) nm) {toWB:=B,call:=aa (L.map FL.fb) B n} (bN (CX1 P w) P w K mg base l.N l.qual (bt l.st) (B.fad f) cdv A outer s H E) (λ_=>E):=by
    refine⟨rfl,S.nd,rfl,hr.units,λ_=>rfl,λ_ _=>rfl,(λ_ z=>nomatch z),λ_=>⟨Ci,E,rfl,qw,oW,hr.mono (by omega),tT⟩,λ_=>⟨rfl,rfl,rfl⟩,λ_=>⟨2 * n+2,hr,λg hg=>?_⟩,λg x k hg=>?_,T.kok,T.kin,λi g hi q=>?_,λi m g hi q=>?_,T.knm,T.glo,T.exc,T.exi,(λi f hi=>?_),T.xn,T.bi,T.dig,λpins σ H' s' e s'' I hc=>xP pins σ H' s' e s'' I hc⟩
    ·have hg:g < (dB L).length:=hg;rw[len]at hg;obtain⟨fd2,F2,_,_,dv2,v2,b2⟩:=T.fn g L[g] (by simp[hg])
     exact⟨fd2,_,_,F2.kp,wy (by simp[hg]) v2 b2,ih g L[g] (by simp[hg]) fd2 F2⟩
    ·have hg:(dB L)[g]?=some (some x,k):=hg;unfold dB at hg;rw[List.getElem?_map]at hg;cases q:L[g]? with
     |none=>rw[q]at hg;cases hg
     |some l2=>
      rw[q]at hg;obtain⟨fd2,F2,m2,_⟩:=T.fn g l2 q;have e:((if l2.glob=true then some l2.gn else none),l2.ps.length)=(some x,k):=Option.some.inj hg
      by_cases z:l2.glob=true
      ·rw[if_pos z]at e;cases e;exact m2 z
      ·rw[if_neg z]at e;cases e
    ·show g < (dB L).length;rw[len];exact T.kfi i g hi q
    ·show g < (dB L).length;rw[len];exact T.kfm i m g hi q
    ·obtain⟨a,fI,fd3,ps3,x3,b3,F3⟩:=T.xi i f hi;exact⟨a,fI,fd3,ps3,x3,b3,F3 P w base⟩
   exact⟨_,sSs l.body okl.2 G,lE l.N.length ds,M,_,_,rm,lp dl,λσ3 σ i M' H' t _ rm' q dx xd=>lkE i _ H' t (rm'.sub λ_ _ z=>iu z) q dx xd,h,
    ⟨λσ' H' σ3' M' rm' ds' tm q=>back _ _ _ _ oJ (rm'.sub λ_ _ z=>pN z) tm q,λv H' d M' dv rm' tm q=>back _ _ _ _ dv (rm'.sub λ_ _ z=>pN z) tm q,λ_ _ _ _ _ _ _ z=>z.elim,λ_ _ _ _ _ _ _ z=>z.elim⟩⟩
end
noncomputable abbrev scr(ns:List Int):D:=.rol (ns.map D.int)
theorem walkD{l:PySem.W.OpenLaw}{k f:Nat}{q:Program}{loose:List Str}{XP:(Str->Option Value)->Heap->Prop}{YP:World->Heap->Prop}{d:DefRec}{K:Params->PySem.W.Frag}{fl:FL}{x:Str}{L:List FL}{nm:NM}{BB:(Nat->Addr)->(Nat->Addr)->(Nat->Addr)->WB}
  (hr:Room (2 * k+2) callerA) (hY:∀(w:World)(h:Heap),YP w h->(K w.params).In h) (hf:L[f]?=some fl) (hps:fl.ps=[x]) (hname:fl.gn=d.name) (hgl:fl.glob=true)
  (T:∀(w:World)(mg:Str->Option Value)(h:Heap),(K w.params).In h->h.Ns mainGlobals mg->∃cls kls fad,Top w.params (K w.params) mg L nm (BB cls kls fad))
  (main:∀(cls kls fad:Nat->Addr)(ns:List Int),ns.length<=63->aa (L.map FL.fb) (BB cls kls fad) k f [scr ns] (λ_=>none) (λd _=>d=.bl true) (λ_ _=>False)) (hd0:fl.df=[]:=by rfl) :
  ∀(w:World)(s₀ s₁:Shared)(mg mb:Str->Option Value)(fa:Addr)(a:Addr)(vs:List Value)(ns:List Int),0 < s₁.toks->PySem.W.Ground q loose [] XP w s₀ mg mb s₁.heap->YP w s₁.heap->mg d.name=some (.ref fa)->s₁.heap.get? a=some {cls:=.type "list",data:=.seq vs.toArray}->PyProof.Rows.IntsAre vs ns->ns.length<=63->s₁.gens=#[]->
   codeAny (model l.prog w) callerA (.call (.ref fa) ⟨[.ref a],[]⟩) (λr s'=>r=.ok (.ret (.bool true))/\OldK s₁.heap s'.heap/\s'.os=s₁.os/\AllBare s'.gens) s₁:=by
 intro w s₀ s₁ mg mb fa a vs ns htk G Y hmg hobj hints hlen hg;have KX:=hY w _ Y;obtain⟨cls,kls,fad,T⟩:=T w mg _ KX G.T.g;obtain⟨fd,F,m1,b1,_⟩:=T.fn f fl hf;have m1:=m1 hgl;rw[hname,hmg]at m1;have m1:=Value.ref.inj (Option.some.inj m1);subst m1;refine ow (K:=K w.params) (CX:=CX1 l.prog w) (fd:=fd) (x:=x) (sp:=spF (K w.params) (BB cls kls fad).cls fl (aa (L.map FL.fb) (BB cls kls fad) k f)) KX G.T.g G.T.b G.T.builtins G.T.nolimit hg htk hobj hints (Nat.le_trans hlen (by decide)) hr (λbase kb gb=>by rw[<-hps];exact ou T k f fl hf fd F) (λs u=>?_) (λH hO hS=>?_) λH e s' h=>?_
 ·have hb:=b1 hd0 [u] (by rw[hps];rfl)
  rw[hps]at hb;exact .of_eq hb
 ·have sq:SqF (K w.params) H a (ns.map V.int):=by
   cases hk:(K w.params).lookup a with
   |some ob=>
    have e:=KX a ob hk;rw[hobj]at e;cases e;exact .inr ⟨vs,_,hk,by rw[hints.length];exact Nat.le_trans hlen (by decide),eU hints⟩
   |none=>
    rcases hS with (h|⟨ob,h⟩)|⟨ob,_,_,h,_⟩
    ·rcases hO a with z|⟨o2,xs,z⟩
     ·rw[h]at z;cases z
     ·rw[h]at z;cases z
    ·exact .inl ⟨ob,h⟩
    ·rw[hk]at h;cases h
  refine⟨by rw[hps];rfl,[scr ns],λ_=>none,λd _=>d=.bl true,λ_ _=>False,.one ⟨a,_,rfl,sq,.of_int⟩,λa o e=>(by cases e),main cls kls fad ns hlen,λv H' d M' dv _ _ q=>?_,λ_ _ _ _ _ h=>h.elim⟩
  subst q;exact dv
 ·obtain⟨_,_,_,_,_,_,_,_,_,_,_,_,_,he⟩:=h;exact he
end L2
namespace L2
open PySem
noncomputable def kn(K:PySem.W.Frag)(a:Addr):Option FuncData:=match K.lookup a with
 |some ⟨_,_,.func fd,_⟩=>some fd
 |_=>none
noncomputable def fdN(l:FL)(fd:FuncData):FuncData:=PySem.W.fnOf l.name l.qual (dX l.st) (db l.st) (bt l.st) (if l.df.isEmpty=true then .none else fd.defaults) fd.kwdefaults fd.doc fd.pyModule fd.annotations fd.code fd.closureTuple
noncomputable def fnB(K:PySem.W.Frag)(B:WB)(l:FL)(i:Nat):Bool:=(match kn K (B.fad i) with
 |some fd=>PySem.W.codeIn K fd.code l.qual
 |none=>false)&&PySem.W.keepIn K (.ref (B.fad i))&&(!l.glob||PySem.W.nsIn K mainGlobals l.gn == some (some (.ref (B.fad i))))
theorem qI{K:PySem.W.Frag}(h:kn K a=some fd):∃oc od sl,K.lookup a=some ⟨oc,od,.func fd,sl⟩:=by
 unfold kn at h;split at h
 ·rename_i oc od fd' sl e;cases h;exact⟨oc,od,sl,e⟩
 ·cases h
noncomputable def vW(K:PySem.W.Frag)(C:Addr):Bool:=PySem.W.hasDictIn K C&&PySem.W.findIn K (.ref C) "__getattribute__" == some (some (.builtin "BaseException.__getattribute__"))&&PySem.W.findIn K (.ref C) "__getattr__" == some none&&PySem.W.findIn K (.ref C) "__class__" == some (some (.builtin "object.__class__"))&&PySem.W.mroIn K C (.type "object") == some true&&PySem.W.mroIn K C (.type "BaseException") == some true&&PySem.W.kitOne K (.ref C) (.type "ValueError") == some true
noncomputable def wQ(K:PySem.W.Frag):Bool:=PySem.W.specialIn K (.builtin "object.__class__") "__get__" == some (some (.builtin "getset_descriptor.__get__"))&&PySem.W.takesIn K (.builtin "object.__class__") == some true&&PySem.W.nsIn K cStatics "sys.int_max_str_digits" == some none&&biNames.all λx=>PySem.W.nsIn K mainGlobals x == some none
noncomputable def wg(K:PySem.W.Frag)(B:WB)(n:NM):Bool:=(List.range B.ne).all (λi=>vW K (B.cls i)&&(List.range n.exc.length).all λj=>PySem.W.kitOne K (.ref (B.cls i)) (.ref (B.cls j)) == some (B.sub i j)&&PySem.W.exmOne K (.ref (B.cls i)) (.ref (B.cls j)) == some (B.sub i j))&&
 n.exc.zipIdx.all λp=>PySem.W.nsIn K mainGlobals p.1 == some (some (.ref (B.cls p.2)))&&((n.xin.lookup p.2).isSome||PySem.W.excIn K (B.cls p.2) bmV "ValueError.__new__")
noncomputable def kB(K:PySem.W.Frag)(B:WB)(fT:List (List Nat))(mT:List (List (Nat×Nat)))(iT:List Nat)(i:Nat):Bool:=
 PySem.W.plainGet K (B.kls i) Str.empty&&PySem.W.hasDictIn K (B.kls i)&&PySem.W.plainOver K (B.kls i)&&PySem.W.findIn K (.ref (B.kls i)) "__setattr__" == some (some (.builtin "object.__setattr__"))&&
 (fT.getD i []).all (λf=>PySem.W.findIn K (.ref (B.kls i)) (fnm f) == some none)&&
 (mT.getD i []).all (λp=>PySem.W.findIn K (.ref (B.kls i)) (fnm p.1) == some (some (.ref (B.fad p.2)))&&PySem.W.isFn K (.ref (B.fad p.2))&&PySem.W.keepIn K (.ref (B.fad p.2)))&&
 (match iT[i]? with
  |some f=>PySem.W.makesIn K (B.kls i)&&PySem.W.findIn K (.ref (B.kls i)) "__init__" == some (some (.ref (B.fad f)))&&PySem.W.isFn K (.ref (B.fad f))&&PySem.W.keepIn K (.ref (B.kls i))&&PySem.W.specialIn K (.ref (B.kls i)) "__getattribute__" == some (some (.builtin "type.__getattribute__"))&&PySem.W.readsIn K (B.kls i) (.type "type")&&
   (match PySem.W.findCls K (.ref (B.kls i)) (.type "type") "__init__" with
    |some (.val (.ref g))=>g == B.fad f
    |_=>false)
  |none=>false)&&
 PySem.W.findIn K (.ref (B.kls i)) "__class__" == some (some (.builtin "object.__class__"))&&PySem.W.mroIn K (B.kls i) (.type "object") == some true&&
 (List.range B.nk).all λj=>PySem.W.kitOne K (.ref (B.kls i)) (.ref (B.kls j)) == some (B.ksub i j)
noncomputable def za(L m:Nat)(mT:List (List (Nat×Nat)))(iT:List Nat):Bool:=iT.length == m&&iT.all (λf=>decide (f < L))&&mT.all λl=>l.all λp=>decide (p.2 < L)
theorem eO(h:(List.range n).all p=true)(hi:i < n):p i=true:=List.all_eq_true.mp h i (List.mem_range.mpr hi)
theorem ll{l:List α}(h:l.zipIdx.all p=true)(hx:l[i]?=some x):p (x,i)=true:=by
 refine List.all_eq_true.mp h (x,i) ?_;rw[List.mem_zipIdx_iff_getElem?];exact hx
theorem vT{K:PySem.W.Frag}{L:List FL}{B:WB}(h:L.all (λl=>l.df.isEmpty)=true):∀(f:Nat)(l:FL),L[f]?=some l->l.df≠[]->∀fd,kn K (B.fad f)=some fd->∃dv,Vals (l.df.map V.int) dv/\∀j,Binds K fd l.ps (dv.drop j):=λf l hl z=>absurd (List.isEmpty_iff.mp (List.all_eq_true.mp h l (List.mem_of_getElem? hl))) z
theorem Top.of{Pm:Params}{K:PySem.W.Frag}{h:Heap}{L:List FL}{n:NM}{B:WB}{fT:List (List Nat)}{mT:List (List (Nat×Nat))}(X:K.In h)(Gn:h.Ns mainGlobals mg)
  (h1:L.all (λl=>l.ok (dB L) n)=true)
  (h2:L.zipIdx.map (λp=>kn K (B.fad p.2))=L.zipIdx.map λp=>(kn K (B.fad p.2)).map (fdN p.1))
  (h3:L.zipIdx.all (λp=>fnB K B p.1 p.2)=true)
  (h4:∀(f:Nat)(l:FL),L[f]?=some l->∀us:List Value,us.length=l.ps.length->∀(kV doc pm:Value)(an:Option Addr)(cdv ct:Value),bindArgs (PySem.W.fnOf l.name l.qual (dX l.st) (db l.st) (bt l.st) .none kV doc pm an cdv ct) ⟨us,[]⟩=pure (l.ps.zip us))
  (h5:wQ K=true) (h6:wg K B n=true)
  (h7:(List.range B.nk).all (kB K B fT mT iT)=true) (h8:za L.length B.nk mT iT=true)
  (hf:∀i f,B.fok i f=(fT.getD i []).contains f) (hm:∀i m,B.mth i m=(mT.getD i []).lookup m) (hi:∀i,B.ini i=iT[i]?)
  (h9:n.kln.zipIdx.all (λp=>PySem.W.nsIn K mainGlobals p.1 == some (some (.ref (B.kls p.2)))&&decide (p.2 < B.nk))=true)
  (glo:∀(k:Nat)(x:Str),n.gln[k]?=some x->∃u v,mg x=some u/\RelV v u/\nW K Pm (B.glo k) v)
  (xi:∀i f,n.xin.lookup i=some f->B.xin i=some f/\∃fI fd ps,XIni K (B.cls i) fI (fnm f)/\Binds K fd ps []/\∀(P:Program)(w:World)(base:Heap),FnOk P w K mg base (CX1 P w) 1 fI fd ps (nM (cpF f) K (B.cls i) (fnm f)))
  (xn:∀i f,i < B.ne->B.xin i=some f->ju K (B.cls i) (fnm f))
  (hd:∀(f:Nat)(l:FL),L[f]?=some l->l.df≠[]->∀fd,kn K (B.fad f)=some fd->∃dv,Vals (l.df.map V.int) dv/\∀j,Binds K fd l.ps (dv.drop j)):Top Pm K mg L n B:=by
 unfold wQ at h5;simp only[Bool.and_eq_true,beq_iff_eq]at h5;obtain⟨⟨⟨o1,o2⟩,o3⟩,o4⟩:=h5;unfold wg at h6;rw[Bool.and_eq_true]at h6;obtain⟨e1,e2⟩:=h6;unfold za at h8;simp only[Bool.and_eq_true,beq_iff_eq]at h8;obtain⟨⟨t1,t2⟩,t3⟩:=h8;have ki:∀i,i < B.nk->kB K B fT mT iT i=true:=λi hi=>eO h7 hi
 refine⟨λl hl=>List.all_eq_true.mp h1 l hl,λf l hl=>?_,λi hi=>?_,λi x hx=>?_,λi hi'=>?_,λi hi'=>?_,λi f hi' hf'=>?_,λi m f hi' hf'=>?_,λi x hx=>?_,glo,λx hx=>?_,o3,xi,xn⟩
 ·have g:=ll h3 hl;unfold fnB at g;simp only[Bool.and_eq_true]at g;obtain⟨⟨g1,g2⟩,g3⟩:=g;have hz:L.zipIdx[f]?=some (l,f):=by
   rw[List.getElem?_zipIdx,hl];simp
  have e:=congrArg (λz:List (Option FuncData)=>z[f]?) h2
  simp only[List.getElem?_map,hz,Option.map_some,Option.some.injEq]at e;cases hfd:kn K (B.fad f) with
  |none=>rw[hfd]at g1;cases g1
  |some fd=>
   rw[hfd]at e g1;simp only[Option.map_some,Option.some.injEq]at e;obtain⟨oc,od,sl,lk⟩:=qI hfd;have hb:l.df=[]->∀us:List Value,us.length=l.ps.length->bindArgs fd ⟨us,[]⟩=pure (l.ps.zip us):=λz us hu=>by
    rw[e];unfold fdN;rw[z];exact h4 f l hl us hu _ _ _ _ _ _
   refine⟨fd,⟨⟨oc,od,_,fd.kwdefaults,fd.doc,fd.pyModule,fd.annotations,fd.code,fd.closureTuple,sl,e,lk,g1⟩,g2⟩,λz=>?_,hb,?_⟩
   ·rw[z]at g3;exact PySem.W.mg_of X Gn (beq_iff_eq.mp (by simpa using g3))
   ·by_cases z:l.df=[]
    ·exact⟨[],by rw[z];exact .nil,λj=>by rw[List.drop_nil];exact .all (hb z)⟩
    ·exact hd f l hl z fd hfd
 ·have g:=eO e1 hi;rw[Bool.and_eq_true]at g;obtain⟨g1,g2⟩:=g;unfold vW at g1;simp only[Bool.and_eq_true,beq_iff_eq]at g1;obtain⟨⟨⟨⟨⟨⟨a1,a2⟩,a3⟩,a4⟩,a5⟩,a6⟩,a7⟩:=g1;refine⟨⟨a1,a2,a3,a4,o1,o2,a5,a6⟩,a7,λj x hx=>?_⟩
  have hj:j < n.exc.length:=(List.getElem?_eq_some_iff.mp hx).1;have g:=eO g2 hj;rw[Bool.and_eq_true,beq_iff_eq]at g;exact g.1
 ·have g:=ll e2 hx;rw[Bool.and_eq_true,beq_iff_eq]at g;refine⟨PySem.W.mg_of X Gn g.1,λz=>?_,λj hj=>?_⟩
  ·have g2:=g.2;rw[show n.xin.lookup (x,i).2=none from z]at g2;have g3:PySem.W.excIn K (B.cls i) bmV "ValueError.__new__"=true:=by simpa using g2
   exact g3
  ·have q:=eO e1 hj;rw[Bool.and_eq_true]at q;have hi:i < n.exc.length:=(List.getElem?_eq_some_iff.mp hx).1;have g:=eO q.2 hi;rw[Bool.and_eq_true,beq_iff_eq,beq_iff_eq]at g;exact g.2
 ·have g:=ki i hi';unfold kB at g;simp only[Bool.and_eq_true,beq_iff_eq]at g;obtain⟨⟨⟨⟨⟨⟨⟨⟨⟨a1,a2⟩,a3⟩,a4⟩,a5⟩,a6⟩,a7⟩,a8⟩,a9⟩,a10⟩:=g;have iI:∀f,B.ini i=some f->PySem.W.makesIn K (B.kls i)=true/\PySem.W.findIn K (.ref (B.kls i)) "__init__"=some (some (.ref (B.fad f)))/\PySem.W.isFn K (.ref (B.fad f))=true/\PySem.W.keepIn K (.ref (B.kls i))=true/\PySem.W.specialIn K (.ref (B.kls i)) "__getattribute__"=some (some (.builtin "type.__getattribute__"))/\PySem.W.readsIn K (B.kls i) (.type "type")=true/\PySem.W.findCls K (.ref (B.kls i)) (.type "type") "__init__"=some (.val (.ref (B.fad f))):=λf hf=>by
   rw[hi i]at hf;rw[hf]at a7;simp only[Bool.and_eq_true,beq_iff_eq]at a7;obtain⟨⟨⟨⟨⟨⟨b1,b2⟩,b3⟩,b4⟩,b5⟩,b6⟩,b7⟩:=a7;refine⟨b1,b2,b3,b4,b5,b6,?_⟩;split at b7
   ·rename_i g hg;rw[hg,beq_iff_eq.mp b7]
   ·cases b7
  refine⟨⟨a1,a2,a3,a4⟩,λf hf'=>?_,λm f hm'=>?_,λf hf'=>?_,λf hf'=>?_,⟨a8,o1,o2,a9⟩,λj hj=>?_⟩
  ·rw[hf i f]at hf';exact beq_iff_eq.mp (List.all_eq_true.mp a5 f (List.contains_iff_mem.mp hf'))
  ·rw[hm i m]at hm';have q:=List.all_eq_true.mp a6 (m,f) (dF hm');simp only[Bool.and_eq_true,beq_iff_eq]at q;exact⟨q.1.1,q.1.2,q.2⟩
  ·obtain⟨b1,b2,b3,b4,_⟩:=iI f hf';exact⟨b1,b2,b3,b4⟩
  ·obtain⟨_,_,_,_,b5,b6,b7⟩:=iI f hf';exact⟨b5,b6,b7⟩
  ·exact beq_iff_eq.mp (eO a10 hj)
 ·rw[hi i];have:i < iT.length:=by rw[t1];exact hi'
  exact⟨iT[i],List.getElem?_eq_getElem this⟩
 ·rw[hi i]at hf';exact of_decide_eq_true (List.all_eq_true.mp t2 f (List.mem_of_getElem? hf'))
 ·rw[hm i m]at hf';have q:=dF hf';by_cases z:i < mT.length
  ·rw[List.getD_eq_getElem?_getD,List.getElem?_eq_getElem z]at q;exact of_decide_eq_true (List.all_eq_true.mp (List.all_eq_true.mp t3 _ (List.getElem_mem z)) _ q)
  ·rw[List.getD_eq_getElem?_getD,List.getElem?_eq_none (by omega)]at q
   cases q
 ·have g:=ll h9 hx;rw[Bool.and_eq_true,beq_iff_eq]at g;exact⟨PySem.W.mg_of X Gn g.1,of_decide_eq_true g.2⟩
 ·exact PySem.W.mg_none_of X Gn (beq_iff_eq.mp (List.all_eq_true.mp o4 x hx))
theorem n1{P:List Value->Prop}(h:∀a,P [a]):∀us:List Value,us.length=1->P us:=usS λa=>us0 (h a)
theorem n2{P:List Value->Prop}(h:∀a b,P [a,b]):∀us:List Value,us.length=2->P us:=usS λa=>usS λb=>us0 (h a b)
theorem n3{P:List Value->Prop}(h:∀a b c,P [a,b,c]):∀us:List Value,us.length=3->P us:=usS λa=>usS λb=>usS λc=>us0 (h a b c)
theorem n4{P:List Value->Prop}(h:∀a b c d,P [a,b,c,d]):∀us:List Value,us.length=4->P us:=usS λa=>usS λb=>usS λc=>usS λd=>us0 (h a b c d)
end L2
namespace L2
theorem aX{i j:Int}(h1:0 < j)(h2:j < 10 ^ 250):ku i j=True:=by
 refine eq_true ⟨h1,kS ?_⟩;omega
theorem wB{i j:Int}(h1 : -(10 ^ 240) < i)(h2:i < 10 ^ 240)(h3 : -(10 ^ 240) < j)(h4:j < 10 ^ 240):jM i j=True:=by
 refine eq_true ⟨kS ?_,kS ?_⟩<;>omega
theorem BJ{i j:Int}(h1:0<=j)(h2:j<=1000000)(h3:i.natAbs < 2 ^ 64):pv i j=True:=eq_true ⟨h1,h2,h3⟩
theorem xX{α:Type}(a:α)(l:List α):atI (a::l) 0=some a:=by simp[atI,ixN]
theorem yE{α:Type}(a b:α)(l:List α):atI (a::b::l) 1=some b:=fO (j:=1) rfl
theorem ym{α:Type}(a b c:α)(l:List α):atI (a::b::c::l) 2=some c:=fO (j:=2) rfl
theorem zj{α:Type}(a b c d:α)(l:List α):atI (a::b::c::d::l) 3=some d:=fO (j:=3) rfl
end L2
namespace L2
open PySem
section
variable {W:WC}{σ:St3}
@[simp ↓] theorem Eo:wpE W (.var 0) (some v::σ) M Q E=Q v M:=rfl
@[simp ↓] theorem Ed:wpE W (.var 1) (y0::some v::σ) M Q E=Q v M:=rfl
@[simp ↓] theorem Ei:wpE W (.var 2) (y0::y1::some v::σ) M Q E=Q v M:=rfl
@[simp ↓] theorem ED:wpE W (.var 3) (y0::y1::y2::some v::σ) M Q E=Q v M:=rfl
@[simp ↓] theorem Er:wpE W (.var 4) (y0::y1::y2::y3::some v::σ) M Q E=Q v M:=rfl
@[simp ↓] theorem EA:wpE W (.var 5) (y0::y1::y2::y3::y4::some v::σ) M Q E=Q v M:=rfl
@[simp ↓] theorem Em:wpE W (.var 6) (y0::y1::y2::y3::y4::y5::some v::σ) M Q E=Q v M:=rfl
@[simp ↓] theorem Eu:wpE W (.var 7) (y0::y1::y2::y3::y4::y5::y6::some v::σ) M Q E=Q v M:=rfl
@[simp ↓] theorem Ez:wpE W (.var 8) (y0::y1::y2::y3::y4::y5::y6::y7::some v::σ) M Q E=Q v M:=rfl
@[simp ↓] theorem En:wpE W (.var 9) (y0::y1::y2::y3::y4::y5::y6::y7::y8::some v::σ) M Q E=Q v M:=rfl
@[simp ↓] theorem DX:wpE W (.var 10) (y0::y1::y2::y3::y4::y5::y6::y7::y8::y9::some v::σ) M Q E=Q v M:=rfl
@[simp ↓] theorem DJ:wpE W (.var 11) (y0::y1::y2::y3::y4::y5::y6::y7::y8::y9::y10::some v::σ) M Q E=Q v M:=rfl
@[simp ↓] theorem D7:wpE W (.var 12) (y0::y1::y2::y3::y4::y5::y6::y7::y8::y9::y10::y11::some v::σ) M Q E=Q v M:=rfl
@[simp ↓] theorem Dj:wpE W (.var 13) (y0::y1::y2::y3::y4::y5::y6::y7::y8::y9::y10::y11::y12::some v::σ) M Q E=Q v M:=rfl
@[simp ↓] theorem DF:wpE W (.var 14) (y0::y1::y2::y3::y4::y5::y6::y7::y8::y9::y10::y11::y12::y13::some v::σ) M Q E=Q v M:=rfl
@[simp ↓] theorem DR:wpE W (.var 15) (y0::y1::y2::y3::y4::y5::y6::y7::y8::y9::y10::y11::y12::y13::y14::some v::σ) M Q E=Q v M:=rfl
@[simp ↓] theorem Dv:wpE W (.var 16) (y0::y1::y2::y3::y4::y5::y6::y7::y8::y9::y10::y11::y12::y13::y14::y15::some v::σ) M Q E=Q v M:=rfl
@[simp ↓] theorem D9:wpE W (.var 17) (y0::y1::y2::y3::y4::y5::y6::y7::y8::y9::y10::y11::y12::y13::y14::y15::y16::some v::σ) M Q E=Q v M:=rfl
@[simp ↓] theorem C5:wpE W (.con v) σ M Q E=Q v M:=rfl
@[simp ↓] theorem Dh{op a b}:wpE W (.bin op a b) σ M Q E=wpE W a σ M (λx M1=>wpE W b σ M1 (λy M2=>dU op x y M2 Q) E) E:=rfl
@[simp ↓] theorem CU{a}:wpE W (.neg a) σ M Q E=wpE W a σ M (λx M1=>rNeg x M1 Q) E:=rfl
@[simp ↓] theorem D1{fz a b}:wpE W (.cat fz a b) σ M Q E=wpE W a σ M (λx M1=>wpE W b σ M1 (λy M2=>ba fz x y M2 Q) E) E:=rfl
@[simp ↓] theorem DT{op a b}:wpE W (.cmp op a b) σ M Q E=wpE W a σ M (λx M1=>wpE W b σ M1 (λy M2=>aj op x y M2 Q) E) E:=rfl
@[simp ↓] theorem Ad{op op' a b c}:wpE W (.chain op op' a b c) σ M Q E=wpE W a σ M (λx M1=>wpE W b σ M1 (λy M2=>aj op x y M2 λr M3=>match r with
  |.bl k=>if k=true then wpE W c σ M3 (λz M4=>aj op' y z M4 Q) E else Q (.bl false) M3
  |_=>False) E) E:=rfl
@[simp ↓] theorem DB{a b}:wpE W (.and a b) σ M Q E=wpE W a σ M (λx M1=>match x with
  |.bl c=>if c=true then wpE W b σ M1 Q E else Q (.bl false) M1
  |_=>False) E:=rfl
@[simp ↓] theorem Ep{a b}:wpE W (.or a b) σ M Q E=wpE W a σ M (λx M1=>match x with
  |.bl c=>if c=true then Q (.bl true) M1 else wpE W b σ M1 Q E
  |_=>False) E:=rfl
@[simp ↓] theorem D6{a}:wpE W (.not a) σ M Q E=wpE W a σ M (λx M1=>match x with
  |.bl c=>Q (.bl (!c)) M1
  |_=>False) E:=rfl
@[simp ↓] theorem DS{c a b}:wpE W (.ifx c a b) σ M Q E=wpT W c σ M (λk M1=>if k=true then wpE W a σ M1 Q E else wpE W b σ M1 Q E) E:=rfl
@[simp ↓] theorem Du{es}:wpE W (.tup es) σ M Q E=wpA W es σ M (λxs M1=>xs.length<=sizeLine/\Q (.tup xs) M1) E:=rfl
@[simp ↓] theorem D0{fz es}:wpE W (.lst fz es) σ M Q E=wpA W es σ M (λxs M1=>bb fz xs M1 Q) E:=rfl
@[simp ↓] theorem Dn{e}:wpE W (.frz e) σ M Q E=wpE W e σ M (fx Q) E:=rfl
@[simp ↓] theorem EC{a b}:wpE W (.ix a b) σ M Q E=wpE W a σ M (λx M1=>wpE W b σ M1 (λy M2=>aG x y M2 Q) E) E:=rfl
@[simp ↓] theorem Ef{fz a lo hi}:wpE W (.sl fz a lo hi) σ M Q E=wpE W a σ M (λx M1=>wpO W lo σ M1 (λl M2=>wpO W hi σ M2 (λh M3=>eu fz x l h M3 Q) E) E) E:=rfl
@[simp ↓] theorem B4{f es}:wpE W (.call f es) σ M Q E=wpA W es σ M (λxs M1=>W.call f xs M1 Q E) E:=rfl
@[simp ↓] theorem Ek{b es}:wpE W (.bi b es) σ M Q E=wpA W es σ M (λxs M1=>rBi b xs M1 Q) E:=rfl
@[simp ↓] theorem Dt{e t}:wpE W (.isB e t) σ M Q E=wpE W e σ M (λx M1=>di t x M1 Q) E:=rfl
@[simp ↓] theorem CZ{e c}:wpE W (.isC e c) σ M Q E=wpE W e σ M (λx M1=>jV W.ne W.cls (λi=>W.sub i c) x M1 Q) E:=rfl
@[simp ↓] theorem Cn{B:WB}:rXf B f (.ref a) (put M a (.exc ⟨c,some (g,y)⟩ v)) Q=((v=.ref (B.cls c)/\c < B.ne/\B.xin c=some f)/\g=f/\Q y (put M a (.exc ⟨c,some (g,y)⟩ v))):=by
 simp[rXf,ah]
@[simp ↓] theorem D5{k}:wpE W (.glo k) σ M Q E=nq (W.glo k) M Q:=rfl
@[simp ↓] theorem Ej{b o es}:wpE W (.bm b o es) σ M Q E=wpE W o σ M (λx M1=>tyB b x M1=true/\wpA W es σ M1 (λxs M2=>rBm b x xs M2 Q) E) E:=rfl
@[simp] theorem vR:ac M M=M:=by
 funext a;unfold ac;split<;>simp_all
@[simp] theorem yQ(h:M p=none):ac M (put M' p o)=ac M M':=by
 funext a;unfold ac put;split
 ·rename_i x e;split
  ·rename_i z;subst z;rw[h]at e;cases e
  ·rfl
 ·rfl
@[simp] theorem xZ(h:M p=none):ac M (L2.del M' p)=ac M M':=by
 funext a;unfold ac L2.del;split
 ·rename_i x e;split
  ·rename_i z;subst z;rw[h]at e;cases e
  ·rfl
 ·rfl
@[simp] theorem zg(h:M p=some u):ac M (put M' p o)=put (ac M M') p o:=by
 funext a;unfold ac put;by_cases z:a=p
 ·subst z;simp[h]
 ·simp[z]
@[simp] theorem z0:ac (put M p o) (put M' p u)=put (ac M M') p u:=by
 funext a;unfold ac put;by_cases z:a=p
 ·subst z;simp
 ·simp[z]
@[simp] theorem zw:kp true M M'=ac M M':=rfl
@[simp] theorem yW:kp false M M'=M':=rfl
@[simp ↓] theorem wu:pz (some f) R=R f:=rfl
@[simp ↓] theorem AV{B:WB}{f i C ns ds}:sL B f (.obj i C ns ds) M Q=((C=B.kls i/\i < B.nk/\B.fok i f=true)/\kK f ns ds M Q):=rfl
@[simp ↓] theorem At{B:WB}{f i C ns ds}:sL B f (.ref a) (put M a (.ins i C ns ds)) Q=((C=B.kls i/\i < B.nk/\B.fok i f=true)/\kK f ns ds (put M a (.ins i C ns ds)) Q):=by
 simp[sL,ah]
@[simp ↓] theorem yC{f n ns d ds}:kK f (n::ns) (d::ds) M Q=if n=f then Q d M else kK f ns ds M Q:=by
 unfold kK;rw[cD];by_cases h:n=f
 ·rw[if_pos h,if_pos h]
 ·rw[if_neg h,if_neg h]
@[simp ↓] theorem A1{B:WB}{m i C ns ds}:uI B m (.obj i C ns ds) M R=((C=B.kls i/\i < B.nk/\cD m ns ds=none)/\pz (B.mth i m) R):=rfl
@[simp ↓] theorem AH{B:WB}{m i C ns ds}:uI B m (.ref a) (put M a (.ins i C ns ds)) R=((C=B.kls i/\i < B.nk/\cD m ns ds=none)/\pz (B.mth i m) R):=by
 simp[uI,ah]
@[simp] theorem vP:cD f [] ds=none:=by unfold cD;rfl
@[simp] theorem vh:cD f (n::ns) (d::ds)=if n=f then some d else cD f ns ds:=by rw[cD]
@[simp ↓] theorem A2{B:WB}{j i C ns ds}:Ce B j (.obj i C ns ds) M Q=((C=B.kls i/\i < B.nk/\j < B.nk)/\Q (.bl (B.ksub i j)) M):=rfl
@[simp] theorem vS:iU f []=[f]:=rfl
@[simp] theorem uv:iU f (n::ns)=if n=f then n::ns else n::iU f ns:=rfl
@[simp] theorem vQ:fk f y [] ds=[y]:=by unfold fk;rfl
@[simp] theorem tG:fk f y (n::ns) (d::ds)=if n=f then y::ds else d::fk f y ns ds:=by rw[fk]
@[simp ↓] theorem p8{ds}(h:M a=none):fx Q (.ref a) (put M a (.lst ds))=Q (.rol ds) M:=by
 simp only[fx,ah,d8 h]
@[simp ↓] theorem Ap{i C ns ds}(h:M a=none):fx Q (.ref a) (put M a (.ins i C ns ds))=bC ds M (λr M'=>Q (.obj i C ns r) M'):=by
 simp only[fx,ah,d8 h]
@[simp ↓] theorem wE:bC [] M R=R [] M:=rfl
@[simp ↓] theorem yc{i ds}:bC (.int i::ds) M R=bC ds M (λr M'=>R (.int i::r) M'):=rfl
@[simp ↓] theorem Au{i ds}:bC (.bl i::ds) M R=bC ds M (λr M'=>R (.bl i::r) M'):=rfl
@[simp ↓] theorem yl{ds}:bC (.non::ds) M R=bC ds M (λr M'=>R (.non::r) M'):=rfl
@[simp ↓] theorem wA{i ds}:bC (.str i::ds) M R=bC ds M (λr M'=>R (.str i::r) M'):=rfl
@[simp ↓] theorem wI{i ds}:bC (.tup i::ds) M R=bC ds M (λr M'=>R (.tup i::r) M'):=rfl
@[simp ↓] theorem v7{i ds}:bC (.rol i::ds) M R=bC ds M (λr M'=>R (.rol i::r) M'):=rfl
@[simp ↓] theorem AZ{fz ds lo hi}:eu fz (.tup ds) lo hi M Q=(whole ds.length lo hi=false/\Q (.tup (bO ds lo hi)) M):=rfl
@[simp ↓] theorem Aa{fz z lo hi}:eu fz (.str z) lo hi M Q=(z.length<=sizeLine/\Q (.str (Txt.slice z lo hi)) M):=rfl
@[simp ↓] theorem zH{ds lo hi}:eu true (.rol ds) lo hi M Q=((bO ds lo hi).length<=sizeLine/\Q (.rol (bO ds lo hi)) M):=rfl
@[simp ↓] theorem cat_tup{fz a b}:ba fz (.tup a) (.tup b) M Q=(a.length+b.length<=sizeLine/\Q (.tup (a++b)) M):=rfl
@[simp ↓] theorem Ak{a b}:dU .Add (.tup a) (.tup b) M Q=(a.length+b.length<=sizeLine/\Q (.tup (a++b)) M):=rfl
@[simp ↓] theorem Am{a b}:lP (.tup a) (.tup b) M Q=(a.length+b.length<=sizeLine/\Q (.tup (a++b)) M):=rfl
theorem nG{ds}(h:M a=some (.lst ds))(hj:ixN ds.length i=some j):cC (.ref a) (.int i) y M R=R (put M a (.lst (ds.set j y))):=by simp[cC,h,hj]
@[simp ↓] theorem AN:wn p (.int i) y (put M p (.dk [] [])) Q=Q (.ref p) (put M p (.dk [.inl i] [y])):=by
 simp[wn,ah,c9]
@[simp ↓] theorem B2{t}{ks ds}:di t (.ref p) (put M p (.dk ks ds)) Q=Q (.bl (match t with|.dict=>true|_=>false)) (put M p (.dk ks ds)):=by
 cases t<;>simp[di,ah]
@[simp ↓] theorem uZ{ne:Nat}{cls:Nat->Addr}{r:Nat->Bool}{a:Addr}{c:Nat}{pl:Option (Nat×D)}:jV ne cls r (.ref a) (put M a (.exc ⟨c,pl⟩ (.ref (cls c)))) Q=(c < ne/\Q (.bl (r c)) (put M a (.exc ⟨c,pl⟩ (.ref (cls c))))):=by
 simp[jV,ah]
@[simp ↓] theorem DU{i De}:wpH W .nil i De σ M=False:=rfl
@[simp ↓] theorem AU{c body r i De}:wpH W (.cons c none body r) i De σ M=(i.c < W.ne/\if W.sub i.c c=true then av W body De (λ_ _ _=>False) σ M else wpH W r i De σ M):=rfl
@[simp ↓] theorem zZ{c j body r i De}:wpH W (.cons c (some j) body r) i De σ M=(i.c < W.ne/\if W.sub i.c c=true then (∀a,M a=none->av W body (fc De j) (λ_ _ _=>False) (σ.set j (some (.ref a))) (put M a (.exc i (.ref (W.cls i.c))))) else wpH W r i De σ M):=rfl
@[simp ↓] theorem zL{ds}:CH true (.rol ds) M Q=(ds.reverse.length<=sizeLine/\Q (.rol ds.reverse) M):=rfl
noncomputable def gt(W:WC)(tg:ITg)(cond:ITO)(elt:IE)(S:MH->Prop)(p:Addr)(Q:VK3):List D->List D->St3->MH->Prop:=aU (wpG tg) (λσ M Q=>eQ W cond σ M Q (λ_ _=>False)) (λσ M Q=>wpE W elt σ M Q (λ_ _=>False)) S p Q
noncomputable def iV(W:WC)(tg:ITg)(cond:ITO)(elt:IE)(S:MH->Prop)(Q:VK3)(ds:List D)(σ:St3)(M:MH):Prop:=∀p,M p=none->gt W tg cond elt S p (bP Q) ds [] σ (put M p (.lst []))
@[simp ↓] theorem Aq{N js tg it cond elt}:wpE W (.comp true N js tg it cond elt) σ M Q E=wpI W it σ M (λds S M1=>iV W tg cond elt S Q ds (ai js σ) M1) E:=rfl
@[simp ↓] theorem zT{N js tg it cond elt}:wpE W (.comp false N js tg it cond elt) σ M Q E=wpI W it σ M (λds S M1=>∀p,M1 p=none->gt W tg cond elt S p Q ds [] (ai js σ) (put M1 p (.lst []))) E:=rfl
@[simp ↓] theorem Bb{e}:wpT W (.val e) σ M QB E=wpE W e σ M (λx M1=>match x with
  |.bl k=>QB k M1
  |_=>False) E:=rfl
@[simp ↓] theorem Bx{op a b}:wpT W (.cmp op a b) σ M QB E=wpE W a σ M (λx M1=>wpE W b σ M1 (λy M2=>aj op x y M2 λr M3=>match r with
  |.bl k=>QB k M3
  |_=>False) E) E:=rfl
@[simp ↓] theorem vO{op op' op'' a b c d}:wpT W (.chain3 op op' op'' a b c d) σ M QB E=wpE W a σ M (λx M1=>wpE W b σ M1 (λy M2=>aj op x y M2 λr M3=>match r with
  |.bl k=>if k=true then wpE W c σ M3 (λz M4=>aj op' y z M4 λr M5=>match r with
   |.bl k=>if k=true then wpE W d σ M5 (λu M6=>aj op'' z u M6 λr M7=>match r with
    |.bl k=>QB k M7
    |_=>False) E else QB false M5
   |_=>False) E else QB false M3
  |_=>False) E) E:=rfl
@[simp ↓] theorem xa{op op' a b c}:wpT W (.chain op op' a b c) σ M QB E=wpE W a σ M (λx M1=>wpE W b σ M1 (λy M2=>aj op x y M2 λr M3=>match r with
  |.bl k=>if k=true then wpE W c σ M3 (λz M4=>aj op' y z M4 λr M5=>match r with
   |.bl k=>QB k M5
   |_=>False) E else QB false M3
  |_=>False) E) E:=rfl
@[simp ↓] theorem A8{a b}:wpT W (.and a b) σ M QB E=wpT W a σ M (λc M1=>if c=true then wpT W b σ M1 QB E else QB false M1) E:=rfl
@[simp ↓] theorem DC{a b}:wpT W (.or a b) σ M QB E=wpT W a σ M (λc M1=>if c=true then QB true M1 else wpT W b σ M1 QB E) E:=rfl
@[simp ↓] theorem Cc{a}:wpT W (.not a) σ M QB E=wpT W a σ M (λc M1=>QB (!c) M1) E:=rfl
@[simp ↓] theorem B6:wpA W .nil σ M QL E=QL [] M:=rfl
@[simp ↓] theorem Aj{e r}:wpA W (.cons e r) σ M QL E=wpE W e σ M (λx M1=>wpA W r σ M1 (λxs M2=>QL (x::xs) M2) E) E:=rfl
@[simp ↓] theorem Dy:wpO W .no σ M QO E=QO none M:=rfl
@[simp ↓] theorem CO{e}:wpO W (.yes e) σ M QO E=wpE W e σ M (λx M1=>match x with
  |.int i=>QO (some i) M1
  |_=>False) E:=rfl
@[simp ↓] theorem Dw:eQ W .no σ M QB E=QB true M:=rfl
@[simp ↓] theorem Bg{e}:eQ W (.yes e) σ M QB E=wpT W e σ M QB E:=rfl
noncomputable def gA(R:List D->(MH->Prop)->MH->Prop):VK3:=λx M1=>match x with
  |.tup ds=>R ds (λ_=>True) M1
  |.rol ds=>R ds (λ_=>True) M1
  |.ref a=>match M1 a with
   |some (.lst ds)=>R ds (λM=>M a=some (.lst ds)) M1
   |_=>False
  |.str z=>R (cW z) (λ_=>True) M1
  |_=>False
@[simp ↓] theorem ww{z}:gA R (.str z) M=R (cW z) (λ_=>True) M:=rfl
@[simp ↓] theorem yK{ds}:gA R (.tup ds) M=R ds (λ_=>True) M:=rfl
@[simp ↓] theorem xO{ds}:gA R (.rol ds) M=R ds (λ_=>True) M:=rfl
theorem pf{a ds}(h:M a=some (.lst ds)):gA R (.ref a) M=R ds (λM=>M a=some (.lst ds)) M:=by
 unfold gA;simp only[h]
@[simp ↓] theorem Ck{e}:wpI W (.seq e) σ M R E=wpE W e σ M (gA R) E:=rfl
@[simp ↓] theorem BW{a b}:wpI W (.zip a b) σ M R E=wpE W a σ M (λx M1=>wpE W b σ M1 (λy M2=>match x,y with
  |.rol xs,.rol ys=>R (cS xs ys) (λ_=>True) M2
  |.rol xs,.ref b=>match M2 b with
   |some (.lst ys)=>R (cS xs ys) (λM=>M b=some (.lst ys)) M2
   |_=>False
  |_,_=>False) E) E:=rfl
end
section
variable {W:WC}{σ:St3}{De:Ends3}{x:Option D}
@[simp ↓] theorem Bw:av W .nil De ES σ M=De.nx σ M:=rfl
@[simp ↓] theorem AD{s r}:av W (.cons s r) De ES (x::σ) M=wpS W s {De with nx:=λσ' M'=>av W r De ES σ' M'} ES (x::σ) M:=rfl
@[simp ↓] theorem AK{s r}:av W (.cons s r) De ES [] M=wpS W s {De with nx:=λσ' M'=>av W r De ES σ' M'} ES [] M:=rfl
@[simp ↓] theorem Bn{e}:wpS W (.set 0 e) De ES (x::σ) M=wpE W e (x::σ) M (λv M1=>De.nx (some v::σ) M1) (ES (x::σ)):=rfl
@[simp ↓] theorem B9{e}:wpS W (.set 1 e) De ES (y0::x::σ) M=wpE W e (y0::x::σ) M (λv M1=>De.nx (y0::some v::σ) M1) (ES (y0::x::σ)):=rfl
@[simp ↓] theorem A3{e}:wpS W (.set 2 e) De ES (y0::y1::x::σ) M=wpE W e (y0::y1::x::σ) M (λv M1=>De.nx (y0::y1::some v::σ) M1) (ES (y0::y1::x::σ)):=rfl
@[simp ↓] theorem CQ{e}:wpS W (.set 3 e) De ES (y0::y1::y2::x::σ) M=wpE W e (y0::y1::y2::x::σ) M (λv M1=>De.nx (y0::y1::y2::some v::σ) M1) (ES (y0::y1::y2::x::σ)):=rfl
@[simp ↓] theorem Cr{e}:wpS W (.set 4 e) De ES (y0::y1::y2::y3::x::σ) M=wpE W e (y0::y1::y2::y3::x::σ) M (λv M1=>De.nx (y0::y1::y2::y3::some v::σ) M1) (ES (y0::y1::y2::y3::x::σ)):=rfl
@[simp ↓] theorem BK{e}:wpS W (.set 5 e) De ES (y0::y1::y2::y3::y4::x::σ) M=wpE W e (y0::y1::y2::y3::y4::x::σ) M (λv M1=>De.nx (y0::y1::y2::y3::y4::some v::σ) M1) (ES (y0::y1::y2::y3::y4::x::σ)):=rfl
@[simp ↓] theorem Cu{e}:wpS W (.set 6 e) De ES (y0::y1::y2::y3::y4::y5::x::σ) M=wpE W e (y0::y1::y2::y3::y4::y5::x::σ) M (λv M1=>De.nx (y0::y1::y2::y3::y4::y5::some v::σ) M1) (ES (y0::y1::y2::y3::y4::y5::x::σ)):=rfl
@[simp ↓] theorem CT{e}:wpS W (.set 7 e) De ES (y0::y1::y2::y3::y4::y5::y6::x::σ) M=wpE W e (y0::y1::y2::y3::y4::y5::y6::x::σ) M (λv M1=>De.nx (y0::y1::y2::y3::y4::y5::y6::some v::σ) M1) (ES (y0::y1::y2::y3::y4::y5::y6::x::σ)):=rfl
@[simp ↓] theorem CN{e}:wpS W (.set 8 e) De ES (y0::y1::y2::y3::y4::y5::y6::y7::x::σ) M=wpE W e (y0::y1::y2::y3::y4::y5::y6::y7::x::σ) M (λv M1=>De.nx (y0::y1::y2::y3::y4::y5::y6::y7::some v::σ) M1) (ES (y0::y1::y2::y3::y4::y5::y6::y7::x::σ)):=rfl
@[simp ↓] theorem Bl{e}:wpS W (.set 9 e) De ES (y0::y1::y2::y3::y4::y5::y6::y7::y8::x::σ) M=wpE W e (y0::y1::y2::y3::y4::y5::y6::y7::y8::x::σ) M (λv M1=>De.nx (y0::y1::y2::y3::y4::y5::y6::y7::y8::some v::σ) M1) (ES (y0::y1::y2::y3::y4::y5::y6::y7::y8::x::σ)):=rfl
@[simp ↓] theorem AY{e}:wpS W (.set 10 e) De ES (y0::y1::y2::y3::y4::y5::y6::y7::y8::y9::x::σ) M=wpE W e (y0::y1::y2::y3::y4::y5::y6::y7::y8::y9::x::σ) M (λv M1=>De.nx (y0::y1::y2::y3::y4::y5::y6::y7::y8::y9::some v::σ) M1) (ES (y0::y1::y2::y3::y4::y5::y6::y7::y8::y9::x::σ)):=rfl
@[simp ↓] theorem Ax{e}:wpS W (.set 11 e) De ES (y0::y1::y2::y3::y4::y5::y6::y7::y8::y9::y10::x::σ) M=wpE W e (y0::y1::y2::y3::y4::y5::y6::y7::y8::y9::y10::x::σ) M (λv M1=>De.nx (y0::y1::y2::y3::y4::y5::y6::y7::y8::y9::y10::some v::σ) M1) (ES (y0::y1::y2::y3::y4::y5::y6::y7::y8::y9::y10::x::σ)):=rfl
@[simp ↓] theorem AF{e}:wpS W (.set 12 e) De ES (y0::y1::y2::y3::y4::y5::y6::y7::y8::y9::y10::y11::x::σ) M=wpE W e (y0::y1::y2::y3::y4::y5::y6::y7::y8::y9::y10::y11::x::σ) M (λv M1=>De.nx (y0::y1::y2::y3::y4::y5::y6::y7::y8::y9::y10::y11::some v::σ) M1) (ES (y0::y1::y2::y3::y4::y5::y6::y7::y8::y9::y10::y11::x::σ)):=rfl
@[simp ↓] theorem zG{e}:wpS W (.set 13 e) De ES (y0::y1::y2::y3::y4::y5::y6::y7::y8::y9::y10::y11::y12::x::σ) M=wpE W e (y0::y1::y2::y3::y4::y5::y6::y7::y8::y9::y10::y11::y12::x::σ) M (λv M1=>De.nx (y0::y1::y2::y3::y4::y5::y6::y7::y8::y9::y10::y11::y12::some v::σ) M1) (ES (y0::y1::y2::y3::y4::y5::y6::y7::y8::y9::y10::y11::y12::x::σ)):=rfl
@[simp ↓] theorem Ab{e}:wpS W (.set 14 e) De ES (y0::y1::y2::y3::y4::y5::y6::y7::y8::y9::y10::y11::y12::y13::x::σ) M=wpE W e (y0::y1::y2::y3::y4::y5::y6::y7::y8::y9::y10::y11::y12::y13::x::σ) M (λv M1=>De.nx (y0::y1::y2::y3::y4::y5::y6::y7::y8::y9::y10::y11::y12::y13::some v::σ) M1) (ES (y0::y1::y2::y3::y4::y5::y6::y7::y8::y9::y10::y11::y12::y13::x::σ)):=rfl
@[simp ↓] theorem AB{e}:wpS W (.set 15 e) De ES (y0::y1::y2::y3::y4::y5::y6::y7::y8::y9::y10::y11::y12::y13::y14::x::σ) M=wpE W e (y0::y1::y2::y3::y4::y5::y6::y7::y8::y9::y10::y11::y12::y13::y14::x::σ) M (λv M1=>De.nx (y0::y1::y2::y3::y4::y5::y6::y7::y8::y9::y10::y11::y12::y13::y14::some v::σ) M1) (ES (y0::y1::y2::y3::y4::y5::y6::y7::y8::y9::y10::y11::y12::y13::y14::x::σ)):=rfl
@[simp ↓] theorem zO{e}:wpS W (.set 16 e) De ES (y0::y1::y2::y3::y4::y5::y6::y7::y8::y9::y10::y11::y12::y13::y14::y15::x::σ) M=wpE W e (y0::y1::y2::y3::y4::y5::y6::y7::y8::y9::y10::y11::y12::y13::y14::y15::x::σ) M (λv M1=>De.nx (y0::y1::y2::y3::y4::y5::y6::y7::y8::y9::y10::y11::y12::y13::y14::y15::some v::σ) M1) (ES (y0::y1::y2::y3::y4::y5::y6::y7::y8::y9::y10::y11::y12::y13::y14::y15::x::σ)):=rfl
@[simp ↓] theorem zn{e}:wpS W (.set 17 e) De ES (y0::y1::y2::y3::y4::y5::y6::y7::y8::y9::y10::y11::y12::y13::y14::y15::y16::x::σ) M=wpE W e (y0::y1::y2::y3::y4::y5::y6::y7::y8::y9::y10::y11::y12::y13::y14::y15::y16::x::σ) M (λv M1=>De.nx (y0::y1::y2::y3::y4::y5::y6::y7::y8::y9::y10::y11::y12::y13::y14::y15::y16::some v::σ) M1) (ES (y0::y1::y2::y3::y4::y5::y6::y7::y8::y9::y10::y11::y12::y13::y14::y15::y16::x::σ)):=rfl
@[simp ↓] theorem CC:wpS W (.del 0) De ES (some (.ref a)::σ) M=De.nx (some (.ref a)::σ) (L2.del M a):=rfl
@[simp ↓] theorem BA:wpS W (.del 1) De ES (y0::some (.ref a)::σ) M=De.nx (y0::some (.ref a)::σ) (L2.del M a):=rfl
@[simp ↓] theorem BE:wpS W (.del 2) De ES (y0::y1::some (.ref a)::σ) M=De.nx (y0::y1::some (.ref a)::σ) (L2.del M a):=rfl
@[simp ↓] theorem Bk:wpS W (.del 3) De ES (y0::y1::y2::some (.ref a)::σ) M=De.nx (y0::y1::y2::some (.ref a)::σ) (L2.del M a):=rfl
@[simp ↓] theorem B8:wpS W (.del 4) De ES (y0::y1::y2::y3::some (.ref a)::σ) M=De.nx (y0::y1::y2::y3::some (.ref a)::σ) (L2.del M a):=rfl
@[simp ↓] theorem BV:wpS W (.del 5) De ES (y0::y1::y2::y3::y4::some (.ref a)::σ) M=De.nx (y0::y1::y2::y3::y4::some (.ref a)::σ) (L2.del M a):=rfl
@[simp ↓] theorem Cz:wpS W (.del 6) De ES (y0::y1::y2::y3::y4::y5::some (.ref a)::σ) M=De.nx (y0::y1::y2::y3::y4::y5::some (.ref a)::σ) (L2.del M a):=rfl
@[simp ↓] theorem Be:wpS W (.del 7) De ES (y0::y1::y2::y3::y4::y5::y6::some (.ref a)::σ) M=De.nx (y0::y1::y2::y3::y4::y5::y6::some (.ref a)::σ) (L2.del M a):=rfl
@[simp ↓] theorem Cp:wpS W (.del 8) De ES (y0::y1::y2::y3::y4::y5::y6::y7::some (.ref a)::σ) M=De.nx (y0::y1::y2::y3::y4::y5::y6::y7::some (.ref a)::σ) (L2.del M a):=rfl
@[simp ↓] theorem Co:wpS W (.del 9) De ES (y0::y1::y2::y3::y4::y5::y6::y7::y8::some (.ref a)::σ) M=De.nx (y0::y1::y2::y3::y4::y5::y6::y7::y8::some (.ref a)::σ) (L2.del M a):=rfl
@[simp ↓] theorem zt:wpS W (.del 10) De ES (y0::y1::y2::y3::y4::y5::y6::y7::y8::y9::some (.ref a)::σ) M=De.nx (y0::y1::y2::y3::y4::y5::y6::y7::y8::y9::some (.ref a)::σ) (L2.del M a):=rfl
@[simp ↓] theorem zS:wpS W (.del 11) De ES (y0::y1::y2::y3::y4::y5::y6::y7::y8::y9::y10::some (.ref a)::σ) M=De.nx (y0::y1::y2::y3::y4::y5::y6::y7::y8::y9::y10::some (.ref a)::σ) (L2.del M a):=rfl
@[simp ↓] theorem Ar:wpS W (.del 12) De ES (y0::y1::y2::y3::y4::y5::y6::y7::y8::y9::y10::y11::some (.ref a)::σ) M=De.nx (y0::y1::y2::y3::y4::y5::y6::y7::y8::y9::y10::y11::some (.ref a)::σ) (L2.del M a):=rfl
@[simp ↓] theorem zJ:wpS W (.del 13) De ES (y0::y1::y2::y3::y4::y5::y6::y7::y8::y9::y10::y11::y12::some (.ref a)::σ) M=De.nx (y0::y1::y2::y3::y4::y5::y6::y7::y8::y9::y10::y11::y12::some (.ref a)::σ) (L2.del M a):=rfl
@[simp ↓] theorem Ah:wpS W (.del 14) De ES (y0::y1::y2::y3::y4::y5::y6::y7::y8::y9::y10::y11::y12::y13::some (.ref a)::σ) M=De.nx (y0::y1::y2::y3::y4::y5::y6::y7::y8::y9::y10::y11::y12::y13::some (.ref a)::σ) (L2.del M a):=rfl
@[simp ↓] theorem Ao:wpS W (.del 15) De ES (y0::y1::y2::y3::y4::y5::y6::y7::y8::y9::y10::y11::y12::y13::y14::some (.ref a)::σ) M=De.nx (y0::y1::y2::y3::y4::y5::y6::y7::y8::y9::y10::y11::y12::y13::y14::some (.ref a)::σ) (L2.del M a):=rfl
@[simp ↓] theorem Ag:wpS W (.del 16) De ES (y0::y1::y2::y3::y4::y5::y6::y7::y8::y9::y10::y11::y12::y13::y14::y15::some (.ref a)::σ) M=De.nx (y0::y1::y2::y3::y4::y5::y6::y7::y8::y9::y10::y11::y12::y13::y14::y15::some (.ref a)::σ) (L2.del M a):=rfl
@[simp ↓] theorem zp:wpS W (.del 17) De ES (y0::y1::y2::y3::y4::y5::y6::y7::y8::y9::y10::y11::y12::y13::y14::y15::y16::some (.ref a)::σ) M=De.nx (y0::y1::y2::y3::y4::y5::y6::y7::y8::y9::y10::y11::y12::y13::y14::y15::y16::some (.ref a)::σ) (L2.del M a):=rfl
@[simp ↓] theorem Aw{j}:(fc De j).nx σ M=De.nx (σ.set j none) M:=rfl
@[simp ↓] theorem zX{j v}:(fc De j).rt v M=De.rt v M:=rfl
@[simp ↓] theorem wN{j}:(fc De j).nx=λσ M=>De.nx (σ.set j none) M:=rfl
@[simp ↓] theorem v9{j}:(fc De j).rt=De.rt:=rfl
noncomputable def rZ(B:WB)(f:Nat)(y:D)(R:MH->Prop):VK3:=λx M2=>match x with
  |.ref a=>match M2 a with
   |some (.ins i C ns ds)=>(C=B.kls i/\i < B.nk/\B.fok i f=true/\ns.length < 1000)/\R (put M2 a (.ins i C (iU f ns) (fk f y ns ds)))
   |_=>False
  |_=>False
@[simp ↓] theorem xY{B:WB}{i C ns ds}:rZ B f y R (.ref a) (put M a (.ins i C ns ds))=((C=B.kls i/\i < B.nk/\B.fok i f=true/\ns.length < 1000)/\R (put M a (.ins i C (iU f ns) (fk f y ns ds)))):=by
 simp[rZ,ah,c9]
noncomputable def tE(is:List Nat)(σ:St3)(k:St3->MH->Prop):VK3:=λx M1=>match x with
  |.tup ds=>ds.length=is.length/\k ((is.zip ds).foldl (λσ p=>σ.set p.1 (some p.2)) σ) M1
  |_=>False
@[simp ↓] theorem Al{i j a b k}:tE [i,j] σ k (.tup [a,b]) M=k ((σ.set i (some a)).set j (some b)) M:=by
 simp[tE]
@[simp ↓] theorem zR{e}:wpS W (.expr e) De ES σ M=wpE W e σ M (λ_ M1=>De.nx σ M1) (ES σ):=rfl
@[simp ↓] theorem A7{e}:wpS W (.ret e) De ES σ M=wpE W e σ M De.rt (ES σ):=rfl
@[simp ↓] theorem xg{o i e}:wpS W (.ixset o i e) De ES σ M=wpE W e σ M (λy M1=>wpE W o σ M1 (λx M2=>wpE W i σ M2 (λk M3=>cC x k y M3 λM4=>De.nx σ M4) (ES σ)) (ES σ)) (ES σ):=rfl
@[simp ↓] theorem A4{c a b}:wpS W (.ifs c a b) De ES σ M=wpT W c σ M (λk M1=>if k=true then av W a De ES σ M1 else av W b De ES σ M1) (ES σ):=rfl
noncomputable def mL(W:WC)(tg:ITg)(body:ISs)(ES:St3->XN)(S:MH->Prop)(De:Ends3):List D->St3->MH->Prop:=fV (wpG tg) (λD σ M=>av W body D ES σ M) S De
@[simp ↓] theorem BH{tg it body}:wpS W (.for_ tg it body) De ES σ M=wpI W it σ M (λds S M1=>mL W tg body ES S De ds σ M1) (ES σ):=rfl
theorem c6{tg body S}:mL W tg body ES S De [] σ M=(S M/\De.nx σ M):=rfl
theorem b9{tg body S d r}:mL W tg body ES S De (d::r) σ M=(S M/\wpG tg d σ M λσ2 M2=>av W body {De with nx:=mL W tg body ES S De r,ct:=mL W tg body ES S De r,bk:=De.nx} ES σ2 M2):=rfl
@[simp ↓] theorem wU{c es}:wpS W (.raise c es) De ES σ M=wpA W es σ M (λxs M1=>xs.length<=sizeLine/\ES σ ⟨c,none⟩ M1) (ES σ):=rfl
@[simp ↓] theorem CL{body hs}:wpS W (.try_ body hs) De ES σ M=av W body De (λσ' i M'=>wpH W hs i De σ' M') σ M:=rfl
noncomputable def ug(W:WC)(e:IE)(De:Ends3)(E:XN)(σ:St3):VK3:=λx M1=>match x with
  |.ref a=>match M1 a with
   |some (.lst _)=>wpE W e σ M1 (λy M2=>match M2 a with
    |some (.lst ds)=>ds.length < sizeLine/\De.nx σ (put M2 a (.lst (ds++[y])))
    |_=>False) E
   |_=>False
  |_=>False
@[simp ↓] theorem BX{o e}:wpS W (.app o e) De ES σ M=wpE W o σ M (ug W e De (ES σ) σ) (ES σ):=rfl
noncomputable def n6(p:Addr)(De:Ends3)(σ:St3):VK3:=λy M2=>match M2 p with
    |some (.lst ds)=>ds.length < sizeLine/\De.nx σ (put M2 p (.lst (ds++[y])))
    |_=>False
@[simp ↓] theorem zu{e E p ds}:ug W e De E σ (.ref p) (put M p (.lst ds))=wpE W e σ (put M p (.lst ds)) (n6 p De σ) E:=by
 unfold ug;simp only[ah];rfl
@[simp ↓] theorem yN{p ds y}:n6 p De σ y (put M p (.lst ds))=(ds.length < sizeLine/\De.nx σ (put M p (.lst (ds++[y])))):=by
 unfold n6;simp only[ah,c9]
@[simp ↓] theorem yX{R p ds}:gA R (.ref p) (put M p (.lst ds))=R ds (λM=>M p=some (.lst ds)) (put M p (.lst ds)):=pf ah
@[simp ↓] theorem zx{i d k}:wpG (.name i) d σ M k=k (σ.set i (some d)) M:=rfl
@[simp ↓] theorem A9{is d k}:wpG (.tup is) d σ M k=tE is σ k d M:=rfl
end
section
variable {i j:Int}{x:D}
@[simp ↓] theorem xx:dU .Add (.int i) (.int j) M Q=Q (.int (i+j)) M:=rfl
@[simp ↓] theorem Dc:dU .Sub (.int i) (.int j) M Q=Q (.int (i - j)) M:=rfl
@[simp ↓] theorem C8:dU .Mult (.int i) (.int j) M Q=(jM i j/\Q (.int (i * j)) M):=rfl
@[simp ↓] theorem Di:dU .FloorDiv (.int i) (.int j) M Q=(ku i j/\Q (.int (i / j)) M):=rfl
@[simp ↓] theorem ft:dU .Mod (.int i) (.int j) M Q=(0 < j/\Q (.int (i % j)) M):=rfl
@[simp ↓] theorem Dg:dU .Pow (.int i) (.int j) M Q=(pv i j/\Q (.int (i ^ j.toNat)) M):=rfl
@[simp ↓] theorem DM:dU .RShift (.int i) (.int j) M Q=(0<=j/\Q (.int (i / 2 ^ j.toNat)) M):=rfl
@[simp ↓] theorem DD:dU .BitAnd (.int i) (.int j) M Q=Q (.int (Builtin.bitAnd i j)) M:=rfl
@[simp ↓] theorem Bs{s t:Str}:dU .Add (.str s) (.str t) M Q=(s.length+t.length<=sizeLine/\Q (.str (s++t)) M):=rfl
@[simp ↓] theorem Cl{z:Str}:dU .Mult (.str z) (.int j) M Q=((0<=j/\j<=100000/\z.length<=10)/\Q (.str (fX z j)) M):=rfl
@[simp ↓] theorem DH:aj .In (.str s) (.str t) M Q=Q (.bl (fq s t)) M:=by simp[aj,mW,aD,af,lD,mF,jD]
@[simp ↓] theorem Cq:aj .NotIn (.str s) (.str t) M Q=Q (.bl (!fq s t)) M:=by simp[aj,mW,aD,af,lD,mF,jD]
@[simp ↓] theorem El{s:Str}:aG (.str s) (.int j) M Q=((0<=j/\j < s.length/\j < 2 ^ 63)/\Q (.str (cR s j.toNat)) M):=by simp[aG,aD,af,lD,mF,jD]
@[simp ↓] theorem zY{ks:List (List Int)}:rBi .len [.dit ks ds] M Q=Q (.int ks.length) M:=rfl
@[simp ↓] theorem xL{fz}{ks:List (List Int)}:rBi (.list fz) [.dit ks ds] M Q=bb fz (ks.map tO) M Q:=rfl
@[simp ↓] theorem zU{s:Str}:rBi .len [.str s] M Q=(s.length<=sizeLine/\Q (.int s.length) M):=rfl
@[simp ↓] theorem zQ:rBi .strL [.int i] M Q=(i.natAbs < 10 ^ 4300/\Q (.str (toString i)) M):=rfl
@[simp ↓] theorem Dq:tyB .startswith (.str s) M=true:=rfl
@[simp ↓] theorem Dd:tyB .split (.str s) M=true:=rfl
@[simp ↓] theorem Ds:rBm .startswith (.str s) [.str t] M Q=Q (.bl (Txt.startswith s t)) M:=rfl
@[simp ↓] theorem DW{s t:Str}:rBm .split (.str s) [.str t] M Q=((t.length≠0/\s.length<=sizeLine/\(Txt.split s t).length<=sizeLine)/\Q (.rol ((Txt.split s t).map D.str)) M):=rfl
theorem kP{s:Str}(h:intText? s=some k):rBi .int [.str s] M Q=(s.length<=sizeLine/\Q (.int k) M):=by simp[rBi,h]
@[simp ↓] theorem DI:rNeg (.int i) M Q=Q (.int (-i)) M:=rfl
@[simp ↓] theorem Ey:aj .Lt (.int i) (.int j) M Q=Q (.bl (decide (i < j))) M:=rfl
@[simp ↓] theorem EB:aj .LtE (.int i) (.int j) M Q=Q (.bl (decide (i<=j))) M:=rfl
@[simp ↓] theorem Eh:aj .Gt (.int i) (.int j) M Q=Q (.bl (decide (j < i))) M:=rfl
@[simp ↓] theorem Eg:aj .GtE (.int i) (.int j) M Q=Q (.bl (decide (j<=i))) M:=rfl
@[simp ↓] theorem DZ:aj .Eq (.int i) (.int j) M Q=Q (.bl (decide (i=j))) M:=by simp[aj,dI,rs,af,plN,eqD]
@[simp ↓] theorem DP:aj .NotEq (.int i) (.int j) M Q=Q (.bl (!decide (i=j))) M:=by simp[aj,dI,rs,af,plN,eqD]
@[simp ↓] theorem Dp:aj .Eq (.bl a) (.bl b) M Q=Q (.bl (a == b)) M:=by simp[aj,dI,rs,af,plN,eqD]
@[simp ↓] theorem C6:aj .NotEq (.bl a) (.bl b) M Q=Q (.bl (!(a == b))) M:=by simp[aj,dI,rs,af,plN,eqD]
@[simp ↓] theorem DY:aj .NotEq (.str s) (.str t) M Q=Q (.bl (!decide (s=t))) M:=by simp[aj,dI,rs,af,plN,eqD]
@[simp ↓] theorem C1:aj .Eq (.str s) (.str t) M Q=Q (.bl (decide (s=t))) M:=by simp[aj,dI,rs,af,plN,eqD]
@[simp ↓] theorem C7:aj .Is x .non M Q=Q (.bl x.isN) M:=by simp[aj,jQ]
@[simp ↓] theorem A6:aj .IsNot x .non M Q=Q (.bl (!x.isN)) M:=by simp[aj,jQ]
@[simp ↓] theorem DV:aj .Is (.bl a) (.bl b) M Q=Q (.bl (a == b)) M:=by simp[aj,jQ]
@[simp ↓] theorem Ca:aj .IsNot (.bl a) (.bl b) M Q=Q (.bl (!(a == b))) M:=by simp[aj,jQ]
@[simp] theorem AT:(D.int i).isN=false:=rfl
@[simp] theorem AC:D.non.isN=true:=rfl
@[simp] theorem Az{ds}:(D.tup ds).isN=false:=rfl
@[simp] theorem AL{ds}:(D.rol ds).isN=false:=rfl
@[simp] theorem Bz:(D.bl a).isN=false:=rfl
@[simp ↓] theorem D4{d l}:aG (.tup (d::l)) (.int 0) M Q=Q d M:=by simp[aG,aD,xX]
@[simp ↓] theorem C9{d e l}:aG (.tup (d::e::l)) (.int 1) M Q=Q e M:=by simp[aG,aD,yE]
@[simp ↓] theorem C4{d e f l}:aG (.tup (d::e::f::l)) (.int 2) M Q=Q f M:=by simp[aG,aD,ym]
@[simp ↓] theorem Db{d e f g l}:aG (.tup (d::e::f::g::l)) (.int 3) M Q=Q g M:=by simp[aG,aD,zj]
@[simp ↓] theorem Dx{d e f g h l}:aG (.tup (d::e::f::g::h::l)) (.int 4) M Q=Q h M:=by
 have:atI (d::e::f::g::h::l) 4=some h:=fO (j:=4) rfl;simp[aG,aD,this]
theorem ix_ref{ds y}(h:M a=some (.lst ds)):aG (.ref a) y M Q=aG (.rol ds) y M Q:=by
 cases y<;>simp[aG,aD,af,h]
@[simp ↓] theorem Bi{ds y}:aG (.ref a) y (put M a (.lst ds)) Q=aG (.rol ds) y (put M a (.lst ds)) Q:=ix_ref ah
@[simp ↓] theorem zP{fz ds es}:ba fz (.ref a) (.rol es) (put M a (.lst ds)) Q=bb fz (ds++es) (put M a (.lst ds)) Q:=by simp[ba,af,ah]
@[simp] theorem zM{ds}:res (put M a (.lst ds)) (.ref a)=.rol ds:=by simp[res,af,ah]
@[simp ↓] theorem vV{ds}:rBi (.list true) [.tup ds] M Q=(ds.length<=sizeLine/\Q (.rol ds) M):=rfl
@[simp ↓] theorem zh{ds}:rBi (.list true) [.rol ds] M Q=(ds.length<=sizeLine/\Q (.rol ds) M):=rfl
@[simp ↓] theorem Ba{ds es}:aj .Eq (.ref a) (.rol es) (put M a (.lst ds)) Q=aj .Eq (.rol ds) (.rol es) (put M a (.lst ds)) Q:=by
 simp[aj,dI,rs,af,ah]
@[simp ↓] theorem BR{ds es}:aj .NotEq (.ref a) (.rol es) (put M a (.lst ds)) Q=aj .NotEq (.rol ds) (.rol es) (put M a (.lst ds)) Q:=by
 simp[aj,dI,rs,af,ah]
@[simp ↓] theorem Df{d l}:aG (.rol (d::l)) (.int 0) M Q=Q d M:=by simp[aG,aD,af,xX]
@[simp ↓] theorem C0{d e l}:aG (.rol (d::e::l)) (.int 1) M Q=Q e M:=by simp[aG,aD,af,yE]
@[simp ↓] theorem DN{d e f l}:aG (.rol (d::e::f::l)) (.int 2) M Q=Q f M:=by simp[aG,aD,af,ym]
@[simp ↓] theorem DK{d e f g l}:aG (.rol (d::e::f::g::l)) (.int 3) M Q=Q g M:=by simp[aG,aD,af,zj]
@[simp ↓] theorem Ay{ds}:rBi .len [.tup ds] M Q=Q (.int ds.length) M:=rfl
@[simp ↓] theorem zV{ds}:rBi .len [.rol ds] M Q=Q (.int ds.length) M:=rfl
@[simp ↓] theorem D8{ds}:bb true ds M Q=(ds.length<=sizeLine/\Q (.rol ds) M):=by simp[bb]
@[simp ↓] theorem cat_rr{ds es}:ba true (.rol ds) (.rol es) M Q=((ds++es).length<=sizeLine/\Q (.rol (ds++es)) M):=by simp[ba,af,bb]
@[simp ↓] theorem C3{ds}:bb false ds M Q=(ds.length<=sizeLine/\∀p,M p=none->Q (.ref p) (put M p (.lst ds))):=by simp[bb]
@[simp ↓] theorem zF{ds es}:ba false (.rol ds) (.rol es) M Q=((ds++es).length<=sizeLine/\∀p,M p=none->Q (.ref p) (put M p (.lst (ds++es)))):=by simp[ba,af,bb]
theorem aq(h:n<=1000):(n<=sizeLine)=True:=eq_true (Nat.le_trans h (by decide))
@[simp ↓] theorem Br{mx dflt ds}:rMM mx dflt (.rol ds) M Q=(match gH ds with
  |some []=>dflt=true/\Q .non M
  |some (n::ns)=>Q (.int (ns.foldl (mmI mx) n)) M
  |none=>False):=rfl
@[simp ↓] theorem Av{mx ds}:Cg mx (.rol ds) M Q=(match gH ds with
  |some []=>Q (.int 0) M
  |some (n::ns)=>Q (.int (ns.foldl (mmI mx) n)) M
  |none=>False):=rfl
@[simp ↓] theorem Cv{ds}:rSm (.rol ds) M Q=(match gH ds with
  |some ns=>Q (.int ns.sum) M
  |none=>False):=rfl
@[simp ↓] theorem Cw{j:Int}:rLg true (.int j) M Q=((-(2 ^ 62)<=j/\j<=2 ^ 20)/\bb true (rng 0 j.toNat) M Q):=rfl
@[simp ↓] theorem Et{ds l h}:eu true (.rol ds) l h M Q=((bO ds l h).length<=sizeLine/\Q (.rol (bO ds l h)) M):=by simp[eu,af,bb]
@[simp ↓] theorem xr{ds}:rBi (.list true) [.rol ds] M Q=(ds.length<=sizeLine/\Q (.rol ds) M):=by simp[rBi,aD,af,bb]
@[simp ↓] theorem AA{t}:di t (.int i) M Q=Q (.bl (match t with|.int=>true|_=>false)) M:=rfl
@[simp ↓] theorem BG{t}:di t (.bl a) M Q=Q (.bl (match t with|.int=>true|.bool=>true|_=>false)) M:=rfl
@[simp ↓] theorem AW{t}:di t .non M Q=Q (.bl false) M:=rfl
@[simp ↓] theorem zE{t ds}:di t (.tup ds) M Q=Q (.bl (match t with|.tuple=>true|_=>false)) M:=rfl
@[simp ↓] theorem AS{t ds}:di t (.rol ds) M Q=Q (.bl (match t with|.list=>true|_=>false)) M:=rfl
@[simp ↓] theorem zq{t}:di t (.str s) M Q=Q (.bl (match t with|.str=>true|_=>false)) M:=rfl
end
section
variable {W:WC}{tg:ITg}{cond:ITO}{elt:IE}{p:Addr}{Q:VK3}{σ:St3}{M:MH}{ys:List D}
@[simp ↓] theorem Ai{ds}:bP Q (.ref p) (put M p (.lst ds))=Q (.rol ds) (L2.del (put M p (.lst ds)) p):=by
 simp only[bP,ah]
noncomputable def Fm(M:MH):Prop:=∃n,∀p,n<=p->M p=none
theorem Fm.nil:Fm (λ_=>none):=⟨0,λ_ _=>rfl⟩
theorem m9{M:MH}(h:Fm M){p:Prop}:(∀a:Addr,M a=none->p)=p:=propext ⟨λf=>let ⟨n,k⟩:=h;f n (k n (Nat.le_refl _)),λf _ _=>f⟩
theorem Fm.put{M:MH}(h:Fm M)(p:Addr)(o:DO):Fm (put M p o):=by
 obtain⟨n,h⟩:=h;refine⟨max n (p+1),λq hq=>?_⟩
 rw[gx (Nat.ne_of_gt (Nat.lt_of_succ_le (Nat.le_trans (Nat.le_max_right n (p+1)) hq)))];exact h q (Nat.le_trans (Nat.le_max_left _ _) hq)
theorem ar{M:MH}(hM:Fm M){P:Addr->Prop}{q:Prop}(h:∀p,M p=none->P p=q):(∀p,M p=none->P p)=q:=by
 rw[<-m9 hM (p:=q)];exact forall_congr λp=>implies_congr_ctx rfl λhp=>h p hp
theorem bK(h:atI ds i=some x):aG (.rol ds) (.int i) M Q=Q x M:=by simp[aG,aD,af,h]
noncomputable def Ext(M M':MH):Prop:=Fm M'/\∀a o,M a=some o->M' a=some o
theorem Ext.put{M:MH}(hM:Fm M){p:Addr}(h:M p=none)(o:DO):Ext M (put M p o):=⟨hM.put _ _,λa u e=>by rw[gx (λz=>by rw[z,h]at e;cases e)];exact e⟩
section
variable {W:WC}{σ:St3}{M:MH}{Q:VK3}{tg:ITg}{cond:ITO}{elt:IE}{p:Addr}{S:MH->Prop}
theorem mY{ys:List D}(hp:M p=none)(hS:S (put M p (.lst ys))):gt W tg cond elt S p (bP Q) [] ys σ (put M p (.lst ys))=Q (.rol ys) M:=by
 show (S (put M p (.lst ys))/\bP Q (.ref p) (put M p (.lst ys)))=_;simp[bP,ah,hS,d8 hp]
theorem lA{d:D}{r ys:List D}:gt W tg cond elt S p Q (d::r) ys σ M=(S M/\ys.length < sizeLine/\wpG tg d σ M λσ2 M2=>eQ W cond σ2 M2 (λb M3=>if b=true then wpE W elt σ2 M3 (λy M4=>M4 p=some (.lst ys)/\gt W tg cond elt S p Q r (ys++[y]) σ2 (put M4 p (.lst (ys++[y])))) (λ_ _=>False) else gt W tg cond elt S p Q r ys σ2 M3) (λ_ _=>False)):=rfl
theorem gY(P:St3->Prop)(st:D->St3)(c:D->Bool)(f:D->D):∀(ds ys:List D)(σ:St3) {M:MH},P σ->Fm M->M p=none->ys.length+ds.length < sizeLine->(∀M',Ext M M'->S M')->
  (∀d∈ds,P (st d)/\∀σ,P σ->∀(M:MH)(k:St3->MH->Prop),wpG tg d σ M k=k (st d) M)->
  (∀d∈ds,∀M',Ext M M'->∀Q:Bool->MH->Prop,eQ W cond (st d) M' Q (λ_ _=>False)=Q (c d) M')->
  (∀d∈ds,c d=true->∀M',Ext M M'->∀Q,wpE W elt (st d) M' Q (λ_ _=>False)=Q (f d) M')->
  gt W tg cond elt S p (bP Q) ds ys σ (put M p (.lst ys))=Q (.rol (ys++(ds.filter c).map f)) M
 |[],ys,σ,M,h0,hM,hp,hl,hS,hg,hc,he=>by rw[mY hp (hS _ (.put hM hp _))];simp
 |d::ds,ys,σ,M,h0,hM,hp,hl,hS,hg,hc,he=>by
  have hl':ys.length+(ds.length+1) < sizeLine:=hl;obtain⟨g1,g2⟩:=hg d List.mem_cons_self;rw[lA,g2 σ h0,hc d List.mem_cons_self _ (.put hM hp _),eq_true (hS _ (.put hM hp _)),true_and];cases q:c d with
  |true=>
   rw[if_pos rfl,he d List.mem_cons_self q _ (.put hM hp _),ah,c9];rw[gY P st c f ds (ys++[f d]) (st d) g1 hM hp (by rw[List.length_append,List.length_singleton];omega) hS (λe h=>hg e (List.mem_cons_of_mem _ h)) (λe h=>hc e (List.mem_cons_of_mem _ h)) (λe h=>he e (List.mem_cons_of_mem _ h))]
   simp only[List.filter_cons,q,if_true,List.map_cons,List.append_assoc,List.singleton_append,true_and];rw[eq_true (show ys.length < sizeLine by omega),true_and]
  |false=>
   rw[if_neg Bool.false_ne_true];rw[gY P st c f ds ys (st d) g1 hM hp (by omega) hS (λe h=>hg e (List.mem_cons_of_mem _ h)) (λe h=>hc e (List.mem_cons_of_mem _ h)) (λe h=>he e (List.mem_cons_of_mem _ h))]
   simp only[List.filter_cons,q,Bool.false_eq_true,if_false];rw[eq_true (show ys.length < sizeLine by omega),true_and]
theorem iP{ds:List D}(P:St3->Prop)(st:D->St3)(c:D->Bool)(f:D->D)(h0:P σ)(hM:Fm M)(hl:ds.length < 10000)
  (hg:∀d∈ds,P (st d)/\∀σ,P σ->∀(M:MH)(k:St3->MH->Prop),wpG tg d σ M k=k (st d) M)
  (hc:∀d∈ds,∀M',Ext M M'->∀Q:Bool->MH->Prop,eQ W cond (st d) M' Q (λ_ _=>False)=Q (c d) M')
  (he:∀d∈ds,c d=true->∀M',Ext M M'->∀Q,wpE W elt (st d) M' Q (λ_ _=>False)=Q (f d) M') (hS:∀M',Ext M M'->S M':=by exact λ_ _=>trivial) :
  iV W tg cond elt S Q ds σ M=Q (.rol ((ds.filter c).map f)) M:=by
 have hl':([]:List D).length+ds.length < sizeLine:=by rw[List.length_nil,Nat.zero_add];exact Nat.lt_trans hl (by decide)
 exact ar hM λp hp=>by
  rw[gY P st c f ds [] σ h0 hM hp hl' hS hg hc he];simp
theorem jk{rest:St3}{x:Option D}{ds:List D}(c:D->Bool)(f:D->D)(hM:Fm M)(hl:ds.length < 10000)
  (hc:∀d∈ds,∀M',Ext M M'->∀Q:Bool->MH->Prop,eQ W cond (some d::rest) M' Q (λ_ _=>False)=Q (c d) M')
  (he:∀d∈ds,c d=true->∀M',Ext M M'->∀Q,wpE W elt (some d::rest) M' Q (λ_ _=>False)=Q (f d) M') (hS:∀M',Ext M M'->S M':=by exact λ_ _=>trivial) :
  iV W (.name 0) cond elt S Q ds (x::rest) M=Q (.rol ((ds.filter c).map f)) M:=
 iP (λσ=>∃y,σ=y::rest) (λd=>some d::rest) c f ⟨x,rfl⟩ hM hl (λd _=>⟨⟨_,rfl⟩,λσ ⟨y,e⟩ M k=>by subst e;rfl⟩) hc he hS
theorem cf{rest:St3}{x:Option D}{ds:List D}(f:D->D)(hM:Fm M)(hl:ds.length < 10000)
  (he:∀d∈ds,∀M',Ext M M'->∀Q,wpE W elt (some d::rest) M' Q (λ_ _=>False)=Q (f d) M') (hS:∀M',Ext M M'->S M':=by exact λ_ _=>trivial) :
  iV W (.name 0) .no elt S Q ds (x::rest) M=Q (.rol (ds.map f)) M:=by
 rw[jk (λ_=>true) f hM hl (λ_ _ _ _ _=>rfl) (λd hd _=>he d hd) hS]
 rw[List.filter_eq_self.mpr (λ_ _=>rfl)]
end
theorem rH(P:St3->Prop)(h0:P σ)(step:∀d∈ds,∀σ,P σ->∀k:St3->MH->Prop,(∀σ',P σ'->k σ' M)->wpG tg d σ M λσ2 M2=>av W body {De with nx:=k,ct:=k,bk:=De.nx} ES σ2 M2)(done:∀σ,P σ->De.nx σ M) :
  mL W tg body ES (λ_=>True) De ds σ M:=by
 induction ds generalizing σ with
 |nil=>rw[c6];exact⟨trivial,done σ h0⟩
 |cons d ds ih=>
  rw[b9];exact⟨trivial,step d List.mem_cons_self σ h0 _ λσ' p=>ih p λe he=>step e (List.mem_cons_of_mem _ he)⟩
theorem mX(g:α->D)(f:α->Bool)(xs:List α)(h:∀x∈xs,g x=.bl (f x)):cN (xs.map g)=some (xs.map f):=by
 induction xs with
 |nil=>rfl
 |cons a r ih=>
  rw[List.map_cons,h a List.mem_cons_self];simp only[cN];rw[ih λx hx=>h x (List.mem_cons_of_mem _ hx)]
  rfl
theorem lL(f:α->Bool){xs:List α}(h:∀x∈xs,g x=.bl (f x)):rBi .all [.rol (xs.map g)] M Q=Q (.bl (xs.all f)) M:=by
 simp only[rBi,af,mX g f xs h];simp[List.all_map,Function.comp_def]
end
end L2
namespace L2
open PySem
section
variable {W:WC}{σ:St3}{M:MH}{Q:VK3}{E:XN}{s:Str}{ds:List D}
@[simp ↓] theorem Dk{o y z}:wpE W (.rpl o y z) σ M Q E=wpE W o σ M (λx M1=>nP x y z M1 Q) E:=rfl
@[simp ↓] theorem Do{y z:Str}:nP (.str s) y z M Q=((s.length<=1048576/\z.length<=14/\(y == z)=false)/\Q (.str (Txt.replace s y z)) M):=rfl
@[simp ↓] theorem Es{k es}:wpE W (.gg k es) σ M Q E=(ra (W.glo k)=true/\wpA W es σ M (λxs M2=>rGg (W.glo k) xs M2 Q) E):=rfl
@[simp ↓] theorem A0{i:Int}:nq (.int i) M Q=Q (.int i) M:=rfl
@[simp ↓] theorem zo:nq (.str s) M Q=Q (.str s) M:=rfl
@[simp ↓] theorem An:nq (.tup ds) M Q=Q (.tup ds) M:=rfl
@[simp ↓] theorem Eb{ks}:rGg (.dik ks ds) [.str s] M Q=Q ((getD ks ds (.inr s)).getD .non) M:=rfl
@[simp ↓] theorem AR{b:Bool}:rBi .int [.bl b] M Q=Q (.int (if b then 1 else 0)) M:=rfl
@[simp ↓] theorem Ac{a b c}{R:List D->(MH->Prop)->MH->Prop}:wpI W (.zip3 a b c) σ M R E=wpE W a σ M (λx M1=>wpE W b σ M1 (λy M2=>wpE W c σ M2 (λz M3=>match x,y,z with
  |.rol xs,.rol ys,.rol zs=>R (eB xs ys zs) (λ_=>True) M3
  |_,_,_=>False) E) E) E:=rfl
@[simp ↓] theorem Dl:tyB .join (.str s) M=true:=rfl
theorem gG:∀ts:List Str,ei (ts.map D.str)=some ts
 |[]=>rfl
 |t::r=>by simp[ei,gG r]
theorem sD{ts:List Str}:rBm .join (.str s) [.rol (ts.map D.str)] M Q=(JoinOk s ts=true/\Q (.str (Txt.join s ts)) M):=by simp[rBm,af,gG]
noncomputable def oF(W:WC)(tg:ITg)(cond:ITO)(elt:IE)(S:MH->Prop)(Q:VK3)(E:XN)(ds:List D)(σ:St3)(M:MH):Prop:=∀p,M p=none->aU (wpG tg) (λσ M Q=>eQ W cond σ M Q (λ_ _=>False)) (λσ M Q=>wpE W elt σ M Q E) S p (bP Q) ds [] σ (put M p (.lst []))
@[simp ↓] theorem Ew{N js tg it cond elt}:wpE W (.compX true N js tg it cond elt) σ M Q E=wpI W it σ M (λds S M1=>oF W tg cond elt S Q E ds (ai js σ) M1) E:=rfl
noncomputable def bJ(f:D->Option D):List D->Option (List D)
 |[]=>some []
 |d::r=>match f d with
  |some y=>match bJ f r with
   |some ys=>some (y::ys)
   |none=>none
  |none=>none
theorem jI{rest:St3}{elt:IE}{x0:XE}{R:Prop}{p:Addr}(f:D->Option D)(hM:Fm M)(hp:M p=none)(hE:∀ys,E x0 (put M p (.lst ys))=R):∀(ds ys:List D)(x:Option D),ys.length+ds.length < sizeLine->
  (∀d∈ds,∀M',Ext M M'->∀Q,wpE W elt (some d::rest) M' Q E=(match f d with|some y=>Q y M'|none=>E x0 M'))->
  aU (wpG (.name 0)) (λσ M Q=>eQ W .no σ M Q (λ_ _=>False)) (λσ M Q=>wpE W elt σ M Q E) (λ_=>True) p (bP Q) ds ys (x::rest) (put M p (.lst ys))=(match bJ f ds with|some zs=>Q (.rol (ys++zs)) M|none=>R)
 |[],ys,x,hl,he=>by
  show (True/\bP Q (.ref p) (put M p (.lst ys)))=_;simp[bP,ah,bJ,d8 hp]
 |d::r,ys,x,hl,he=>by
  have hl':ys.length+(r.length+1) < sizeLine:=hl;show (True/\ys.length < sizeLine/\wpE W elt (some d::rest) (put M p (.lst ys)) (λy M4=>M4 p=some (.lst ys)/\aU (wpG (.name 0)) (λσ M Q=>eQ W .no σ M Q (λ_ _=>False)) (λσ M Q=>wpE W elt σ M Q E) (λ_=>True) p (bP Q) r (ys++[y]) (some d::rest) (put M4 p (.lst (ys++[y])))) E)=_
  rw[he d List.mem_cons_self _ (.put hM hp _),eq_true (show ys.length < sizeLine by omega),true_and,true_and]
  cases q:f d with
  |none=>simp[bJ,q,hE]
  |some y=>
   have ih:=jI f hM hp hE r (ys++[y]) (some d) (by rw[List.length_append,List.length_singleton];omega) (λe h=>he e (List.mem_cons_of_mem _ h))
   simp only[ah,c9,true_and,bJ,q];rw[ih];cases bJ f r with
   |none=>rfl
   |some zs=>simp
theorem iz{rest:St3}{x:Option D}{elt:IE}{R:Prop}(f:D->Option D)(x0:XE)(hM:Fm M)(hl:ds.length < 10000)(hE:∀p ys,M p=none->E x0 (put M p (.lst ys))=R)
  (he:∀d∈ds,∀M',Ext M M'->∀Q,wpE W elt (some d::rest) M' Q E=(match f d with|some y=>Q y M'|none=>E x0 M')) :
  oF W (.name 0) .no elt (λ_=>True) Q E ds (x::rest) M=(match bJ f ds with|some zs=>Q (.rol zs) M|none=>R):=
 ar hM λp hp=>by
  rw[jI f hM hp (λys=>hE p ys hp) ds [] x (by rw[List.length_nil,Nat.zero_add];exact Nat.lt_trans hl (by decide)) he]
  rfl
end
end L2
namespace L2
open PySem PySem.NumText PyProof.Rows StrLaws
theorem bQ{a b:Str}(h:a.cps.toList=b.cps.toList):a=b:=by
 obtain⟨a⟩:=a;obtain⟨b⟩:=b;congr 1;exact Array.toList_inj.mp h
theorem am(z:Str):z.cps.toList.length=z.length:=rfl
theorem fA(z:Str):Txt.startswith z "-"=true<->∃cs,z.cps.toList=45::cs:=by
 unfold Txt.startswith;rw[Bool.and_eq_true,subAt_eq];have e:(("-" : String):Str).cps.toList=[45]:=by decide +kernel
 have e2:(("-" : String):Str).length=1:=by decide +kernel
 rw[e,e2];cases h:z.cps.toList with
 |nil=>simp
 |cons c cs=>
  have:1<=z.length:=by rw[<-am,h];simp
  simp[this]
theorem i6{z:Str}(h:z.cps.toList=c::cs):(Txt.slice z (some 1) none).cps.toList=cs:=by
 have hl:z.length=cs.length+1:=by rw[<-am,h];simp
 rw[slice_from_eq (b:=z.length) (by decide) (by omega) rfl]
 simp[h,hl]
noncomputable def figCps:List Nat:=[48,49,50,51,52,53,54,55,56,57]
theorem l5(c:Nat):fq ⟨#[c]⟩ "0123456789"=true<->48<=c/\c<=57:=by
 unfold fq;rw[found_one];have e:(("0123456789" : String):Str).cps.toList=figCps:=by decide +kernel
 rw[e,decide_eq_true_eq];simp only[figCps,List.mem_cons,List.not_mem_nil,or_false];omega
noncomputable def bv(z:Str):Str:=if Txt.startswith z "-"=true then Txt.slice z (some 1) none else z
noncomputable def dP(z:Str):Bool:=z.cps.toList.all λc=>fq ⟨#[c]⟩ "0123456789"
noncomputable def okN(z:Str):Bool:=decide (0 < (bv z).length)&&decide ((bv z).length<=1000)&&dP (bv z)&&!(decide (cR (bv z) 0 = "0")&&!decide (z = "0"))
noncomputable def num(z:Str):Int:=(intText? z).getD 0
theorem rk(z:Str):(bv z).length<=z.length:=by
 unfold bv;split
 ·exact Txt.slice_le _ _ _
 ·exact Nat.le_refl _
theorem gj{z:Str}(h:dP z=true):AllDigits z.cps.toList:=λc hc=>(l5 c).mp (List.all_eq_true.mp h c hc)
theorem li(h1:0 < (bv z).length)(h2:(bv z).length<=1000)(h:dP (bv z)=true):intText? z=some (num z):=by
 have hd:=gj h;have:∃k,intText? z=some k:=by
  unfold bv at h1 h2 hd;by_cases q:Txt.startswith z "-"=true
  ·rw[if_pos q]at h1 h2 hd;obtain⟨cs,hc⟩:=(fA z).mp q;have e:=i6 hc;rw[e]at hd;rw[<-am,e]at h1 h2;refine⟨_,intText_neg hc hd (by intro z;subst z;simp at h1) ?_⟩
   rw[<-am,hc];simp;omega
  ·rw[if_neg q]at h1 h2 hd;refine⟨_,intText_digits hd (by intro z;rw[<-am,z]at h1;simp at h1) (by omega)⟩
 obtain⟨k,e⟩:=this;unfold num;rw[e];rfl
theorem eP(z y:Str):(Txt.split z y).length<=z.length+2:=by
 unfold Txt.split;split
 ·simp
 ·split
  ·simp
  ·have:=occ_length_le z y 0 z.length (z.length+1);simp[Builtin.Str.partsBetween];omega
theorem cB{z p:Str}(h:p∈Txt.split z y):p.length<=z.length:=by
 unfold Txt.split at h;split at h
 ·rw[List.mem_singleton.mp h];exact Nat.le_refl _
 ·split at h
  ·rw[List.mem_singleton.mp h];exact Nat.le_refl _
  ·simp only[Builtin.Str.partsBetween,List.mem_map]at h;obtain⟨⟨i,j⟩,_,rfl⟩:=h;exact strSub_length_le ..
end L2
namespace L2
open PySem PySem.NumText PyProof.Rows StrLaws Builtin Builtin.Str
noncomputable def spl(w:List Nat):List Nat->Nat->List (List Nat)
 |[],_=>[[]]
 |c::r,0=>if w.isPrefixOf (c::r)=true then []::spl w r (w.length - 1) else (match spl w r 0 with
  |p::q=>(c::p)::q
  |[]=>[])
 |_::r,k+1=>spl w r k
noncomputable def scn(w:List Nat):List Nat->Nat->Nat->List Nat
 |[],_,_=>[]
 |c::r,i,0=>if w.isPrefixOf (c::r)=true then i::scn w r (i+1) (w.length - 1) else scn w r (i+1) 0
 |_::r,i,k+1=>scn w r (i+1) k
noncomputable def ofC(cs:List Nat):Str:=⟨cs.toArray⟩
theorem cy(cs:List Nat):(ofC cs).cps.toList=cs:=by simp[ofC]
theorem dH(z:Str):ofC z.cps.toList=z:=bQ (cy _)
theorem rb{x y:Str}(hd:x.cps.toList.drop i=cs):subAt x y i=true<->y.cps.toList.isPrefixOf cs=true:=by
 rw[subAt_eq,hd,beq_iff_eq,List.isPrefixOf_iff_prefix,List.prefix_iff_eq_take,am,eq_comm]
theorem fK{x y:Str}(hy:0 < y.length):∀(cs:List Nat)(i:Nat)(acc:Array Nat)(f:Nat),x.cps.toList.drop i=cs->i+cs.length=x.length->acc.size<=i->
  (forIn (List.range' i (cs.length+1)) (acc,f) (occBody x y x.length (x.length+1))).run.fst.toList=acc.toList++scn y.cps.toList cs i (f - i)
 |[],i,acc,f,hd,hl,ha=>by
  rw[List.length_nil,List.range'_succ,List.range'_zero,List.forIn_cons];rw[List.length_nil]at hl;unfold occBody;rw[if_neg (λh=>by have:=h.1.2;omega)]
  simp[scn]
 |c::r,i,acc,f,hd,hl,ha=>by
  rw[List.length_cons]at hl;have hd':x.cps.toList.drop (i+1)=r:=by rw[<-List.drop_drop,hd];rfl
  rw[List.length_cons,List.range'_succ,List.forIn_cons];have key:=rb (y:=y) hd;by_cases hf:f<=i
  ·have e0:f - i=0:=by omega
   rw[e0];by_cases hp:y.cps.toList.isPrefixOf (c::r)=true
   ·have hm:i+y.length<=x.length:=by
     have:=(List.isPrefixOf_iff_prefix.mp hp).length_le;rw[am,List.length_cons]at this;omega
    have hc:((((acc,f).fst.size < x.length+1/\(acc,f).snd<=i)/\i+y.length<=x.length)/\subAt x y i=true):=⟨⟨⟨by show acc.size < _;omega,hf⟩,hm⟩,key.mpr hp⟩
    have ih:=fK hy r (i+1) (acc.push i) (i+y.length) hd' (by omega) (by rw[Array.size_push];omega)
    unfold occBody at ih ⊢;rw[if_pos hc];refine ih.trans ?_;rw[show i+y.length - (i+1)=y.length - 1 by omega]
    simp[scn,hp];rfl
   ·have hc:¬ ((((acc,f).fst.size < x.length+1/\(acc,f).snd<=i)/\i+y.length<=x.length)/\subAt x y i=true):=λh=>hp (key.mp h.2)
    have ih:=fK hy r (i+1) acc f hd' (by omega) (by omega)
    unfold occBody at ih ⊢;rw[if_neg hc];refine ih.trans ?_;rw[show f - (i+1)=0 by omega]
    simp[scn,hp]
  ·have hc:¬ ((((acc,f).fst.size < x.length+1/\(acc,f).snd<=i)/\i+y.length<=x.length)/\subAt x y i=true):=λh=>hf h.1.1.2
   have ih:=fK hy r (i+1) acc f hd' (by omega) (by omega)
   unfold occBody at ih ⊢;rw[if_neg hc];refine ih.trans ?_;rw[show f - i=f - (i+1)+1 by omega]
   rfl
theorem uQ{x y:Str}(hy:0 < y.length):Builtin.Str.occurrences x y 0 x.length (x.length+1)=scn y.cps.toList x.cps.toList 0 0:=by
 rw[occ_eq];have:=fK (x:=x) hy x.cps.toList 0 #[] 0 rfl (by rw[am];omega) (Nat.le_refl _)
 rw[am]at this;simpa using this
noncomputable def hd1(p:List Nat):List (List Nat)->List (List Nat)
 |q::r=>(p++q)::r
 |[]=>[]
theorem dh{x:Str}{w:List Nat}(hw:0 < w.length):∀(cs:List Nat)(i k a:Nat),x.cps.toList.drop i=cs->i+cs.length=x.length->(k=0->a<=i)->(k≠0->a=i+k)->k<=cs.length->
  (partsFrom x w.length a (scn w cs i k)).map (λz:Str=>z.cps.toList)=if k=0 then hd1 ((x.cps.toList.drop a).take (i - a)) (spl w cs 0) else spl w cs k
 |[],i,k,a,hd,hl,h0,h1,hk=>by
  have:k=0:=by simpa using hk
  subst this;have h0:=h0 rfl;rw[List.length_nil]at hl;simp[scn,spl,partsFrom,hd1,strSub_toList];rw[show x.length=i by omega]
 |c::r,i,0,a,hd,hl,h0,h1,hk=>by
  have h0:=h0 rfl;rw[List.length_cons]at hl;have hd':x.cps.toList.drop (i+1)=r:=by rw[<-List.drop_drop,hd];rfl
  rw[if_pos rfl];by_cases hp:w.isPrefixOf (c::r)=true
  ·have hm:=(List.isPrefixOf_iff_prefix.mp hp).length_le;rw[List.length_cons]at hm;have ih:=dh hw r (i+1) (w.length - 1) (i+w.length) hd' (by omega) (λh=>by omega) (λh=>by omega) (by omega)
   simp only[scn,spl,hp,if_true,partsFrom,List.map_cons,hd1,strSub_toList,List.append_nil];congr 1;rw[ih];by_cases hk1:w.length - 1=0
   ·rw[if_pos hk1,hk1,show i+1 - (i+w.length)=0 by omega]
    cases h:spl w r 0 with
    |nil=>rfl
    |cons p q=>simp[hd1]
   ·rw[if_neg hk1]
  ·have ih:=dh hw r (i+1) 0 a hd' (by omega) (λ_=>by omega) (λh=>absurd rfl h) (Nat.zero_le _)
   simp only[scn,spl,hp];rw[if_neg (by simpa using hp)]
   refine ih.trans ?_;rw[if_pos rfl];have e:(x.cps.toList.drop a).take (i+1 - a)=(x.cps.toList.drop a).take (i - a)++[c]:=by
    have g:(x.cps.toList.drop a)[i - a]?=some c:=by
     rw[List.getElem?_drop,show a+(i - a)=i by omega]
     have:=congrArg (λl:List Nat=>l[0]?) hd
     simpa [List.getElem?_drop] using this
    rw[show i+1 - a=(i - a)+1 by omega,List.take_add_one,g]
    rfl
   rw[e];cases h:spl w r 0 with
   |nil=>simp[hd1]
   |cons p q=>simp[hd1]
 |c::r,i,k+1,a,hd,hl,h0,h1,hk=>by
  rw[List.length_cons]at hl hk;have hd':x.cps.toList.drop (i+1)=r:=by rw[<-List.drop_drop,hd];rfl
  have h1:=h1 (by omega)
  have ih:=dh hw r (i+1) k a hd' (by omega) (λh=>by omega) (λh=>by omega) (by omega)
  show (partsFrom x w.length a (scn w r (i+1) k)).map _=_;rw[if_neg (show ¬ k+1=0 by omega)]
  refine ih.trans ?_;show _=spl w r k;by_cases hk0:k=0
  ·subst hk0;rw[if_pos rfl,show i+1 - a=0 by omega]
   cases h:spl w r 0 with
   |nil=>rfl
   |cons p q=>simp[hd1]
  ·rw[if_neg hk0]
theorem gi{w:List Nat}:∀{cs:List Nat}{i:Nat},scn w cs i 0=[]->spl w cs 0=[cs]
 |[],_,_=>rfl
 |c::r,i,h=>by
  unfold scn at h;split at h
  ·cases h
  ·rename_i hp;have:=gi h;simp[spl,hp,this]
theorem aO{x y:Str}(hy:0 < y.length)(hk:Builtin.Str.strKind y=1):Txt.split x y=(spl y.cps.toList x.cps.toList 0).map ofC:=by
 have inv:∀{l:List Str}{m:List (List Nat)},l.map (λz:Str=>z.cps.toList)=m->l=m.map ofC:=λ{l m} e=>by
  subst e;rw[List.map_map];exact (List.map_id' _).symm.trans (List.map_congr_left λz _=>(dH z).symm)
 unfold Txt.split;rw[uQ hy];have kk:decide (Builtin.Str.strKind x < Builtin.Str.strKind y)=false:=by
  rw[hk];unfold Builtin.Str.strKind;refine decide_eq_false ?_;split
  ·decide
  ·split<;>decide
 rw[kk,Bool.or_false];by_cases h1:decide (x.length < y.length)=true
 ·rw[if_pos h1];have hs:scn y.cps.toList x.cps.toList 0 0=[]:=by
   have hl:=of_decide_eq_true h1;have:∀(cs:List Nat)(i:Nat),cs.length < y.cps.toList.length->scn y.cps.toList cs i 0=[]:=by
    intro cs
    induction cs with
    |nil=>intros;rfl
    |cons c r ih=>
     intro i h;unfold scn;rw[if_neg (λhp=>by have:=(List.isPrefixOf_iff_prefix.mp hp).length_le;omega)]
     exact ih _ (by rw[List.length_cons]at h;omega)
   exact this _ _ (by rw[am,am];exact hl)
  rw[gi hs];simp[dH]
 ·rw[if_neg h1];by_cases h2:(scn y.cps.toList x.cps.toList 0 0).isEmpty=true
  ·rw[if_pos h2,gi (List.isEmpty_iff.mp h2)];simp[dH]
  ·rw[if_neg h2,partsBetween_eq];refine inv ?_;have:=dh (x:=x) (w:=y.cps.toList) (by rw[am];exact hy) x.cps.toList 0 0 0 rfl (by rw[am];omega) (λ_=>Nat.le_refl _) (λh=>absurd rfl h) (Nat.zero_le _)
   rw[am]at this;rw[this,if_pos rfl];simp;cases spl y.cps.toList x.cps.toList 0 with
   |nil=>rfl
   |cons p q=>simp[hd1]
theorem kA{x y z:Str}(hy:0 < y.length)(hk:Builtin.Str.strKind y=1):Txt.replace x y z=Str.join z (Txt.split x y):=by
 have kk:decide (Builtin.Str.strKind x < Builtin.Str.strKind y)=false:=by
  rw[hk];unfold Builtin.Str.strKind;refine decide_eq_false ?_;split
  ·decide
  ·split<;>decide
 unfold Txt.replace Txt.split;rw[kk,Bool.or_false,show (y.length == 0)=false from by simp;omega,Bool.false_and,Bool.or_false]
 cases h:(Builtin.Str.occurrences x y 0 x.length (x.length+1)).isEmpty with
 |true=>simp[h,Str.join]
 |false=>
  have h1:¬ decide (x.length < y.length)=true:=λhd=>by
   have hl:=of_decide_eq_true hd;obtain⟨f,hc⟩:=occ_chain x y (x.length+1);cases q:Builtin.Str.occurrences x y 0 x.length (x.length+1) with
   |nil=>rw[q]at h;cases h
   |cons c r=>
    rw[q]at hc;have:=hc.2.1.1;omega
  rw[if_neg Bool.false_ne_true,if_neg h1,if_neg Bool.false_ne_true,glued_eq_join]
end L2
namespace L2
open PySem PySem.NumText PyProof.Rows StrLaws Builtin Builtin.Str
noncomputable def tx(k:Int):Str:=Str.ofString k.repr
noncomputable def dg(m:Nat):List Nat:=(Nat.toDigits 10 m).map Char.toNat
theorem pI(m:Nat):(tx (m:Int)).cps.toList=dg m:=PySem.W.KIN.signs_num m
theorem nX(m:Nat):(tx (Int.negSucc m)).cps.toList=45::dg (m+1):=by
 unfold tx dg;rw[signs_ofString];show ("-"++Nat.repr (m+1)).toList.map Char.toNat=_;rw[String.toList_append,List.map_append,Nat.toList_repr];rfl
theorem eR(m:Nat):AllDigits (dg m):=λc hc=>by
 obtain⟨ch,hch,e⟩:=List.mem_map.mp hc;rw[<-e];exact digit_range (Nat.isDigit_of_mem_toDigits (by decide) (by decide) hch)
theorem mj(m:Nat):dg m≠[]:=λe=>by
 have h:=toDigits_len_ge 10 m;rw[List.map_eq_nil_iff.mp e]at h;exact absurd h (by decide)
theorem pX{m:Nat}(h:m < 10 ^ k)(hk:1<=k):(dg m).length<=k:=by
 unfold dg;rw[List.length_map];exact digits10_le hk h
theorem qU:∀d:Nat,d < 10->0 < d->49<=(Nat.digitChar d).toNat:=by decide
theorem lU(m:Nat)(h0:0 < m):∃c r,dg m=c::r/\49<=c:=by
 induction m using Nat.strongRecOn with
 |_ m ih=>
  by_cases h:m < 10
  ·exact⟨_,[],by unfold dg;rw[Nat.toDigits_of_lt_base h];rfl,qU m h h0⟩
  ·have hm:m % 10 < 10:=Nat.mod_lt m (by decide)
   have t:Nat.toDigits 10 (m / 10)++Nat.toDigits 10 (m % 10)=Nat.toDigits 10 (10 * (m / 10)+m % 10):=Nat.toDigits_append_toDigits (by decide) (by omega) hm
   rw[Nat.div_add_mod]at t;obtain⟨c,r,e,hc⟩:=ih (m / 10) (by omega) (by omega)
   refine⟨c,r++dg (m % 10),?_,hc⟩;unfold dg at e ⊢;rw[<-t,List.map_append,e];rfl
theorem ql:dg 0=[48]:=by decide
theorem pA(m:Nat):digitsVal (dg m)=m:=PySem.W.KIN.val_back m
noncomputable def Nsg(z:Str):Prop:=∀c∈z.cps.toList,c=45\/(48<=c/\c<=57)
theorem dq:∀k:Int,Nsg (tx k)
 |.ofNat m,c,hc=>.inr (eR m c (pI m▸hc))
 |.negSucc m,c,hc=>by
  rw[nX]at hc;rcases List.mem_cons.mp hc with rfl|hc
  ·exact .inl rfl
  ·exact .inr (eR _ c hc)
theorem rS:(("0" : String):Str)=ofC [48]:=by decide +kernel
theorem zc{z:Str}(h:z.cps.toList=c::r):cR z 0 = "0"<->c=48:=by
 have e:z.cps.getD 0 0=c:=by
  have:=congrArg (λl:List Nat=>l[0]?) h
  rw[Array.getD_eq_getD_getElem?,<-Array.getElem?_toList];simpa using congrArg (·.getD 0) this
 unfold cR;rw[e,rS];constructor
 ·intro q;have:=congrArg (λz:Str=>z.cps.toList) q
  simpa [cy] using this
 ·rintro rfl;rfl
theorem lQ{z:Str}(h:AllDigits z.cps.toList):dP z=true:=List.all_eq_true.mpr λc hc=>(l5 c).mpr (h c hc)
theorem xu{k:Int}(h:k.natAbs < 10 ^ 1000):okN (tx k)=true/\num (tx k)=k:=by
 cases k with
 |ofNat m=>
  have hc:=pI m;have hl:(tx (m:Int)).length<=1000:=by rw[<-am,hc];exact pX h (by decide)
  have hn:0 < (tx (m:Int)).length:=by rw[<-am,hc];exact List.length_pos_iff.mpr (mj m)
  have hs:¬ Txt.startswith (tx (m:Int)) "-"=true:=λq=>by
   obtain⟨cs,e⟩:=(fA _).mp q;rw[hc]at e;have:=(eR m 45 (by rw[e];exact List.mem_cons_self)).1
   omega
  have hf:bv (tx (m:Int))=tx (m:Int):=if_neg hs;have hd:AllDigits (tx (m:Int)).cps.toList:=hc▸eR m;refine⟨?_,?_⟩
  ·show okN (tx (m:Int))=true;unfold okN;rw[hf,lQ hd,decide_eq_true hn,decide_eq_true hl];by_cases h0:m=0
   ·subst h0;rw[show tx ((0:Nat):Int) = "0" from bQ (by rw[hc,ql];decide +kernel)]
    simp
   ·obtain⟨c,r,e,h1⟩:=lU m (by omega)
    have:¬ cR (tx (m:Int)) 0 = "0":=λq=>by have:=(zc (hc.trans e)).mp q;omega
    simp[this]
  ·show num (tx (m:Int))=(m:Int);unfold num;rw[intText_digits hd (hc▸mj m) (by omega),hc,pA]
   rfl
 |negSucc m=>
  have hc:=nX m;have hm:m+1 < 10 ^ 1000:=h;have hl:(tx (Int.negSucc m)).length<=1001:=by rw[<-am,hc,List.length_cons];exact Nat.succ_le_succ (pX hm (by decide))
  have hs:Txt.startswith (tx (Int.negSucc m)) "-"=true:=(fA _).mpr ⟨_,hc⟩;have hf:bv (tx (Int.negSucc m))=Txt.slice (tx (Int.negSucc m)) (some 1) none:=if_pos hs;have hfc:(bv (tx (Int.negSucc m))).cps.toList=dg (m+1):=by rw[hf];exact i6 hc
  obtain⟨c,r,e,h1⟩:=lU (m+1) (by omega)
  refine⟨?_,?_⟩
  ·unfold okN;rw[lQ (hfc▸eR _),decide_eq_true (show 0 < (bv (tx (Int.negSucc m))).length by rw[<-am,hfc];exact List.length_pos_iff.mpr (mj _)),decide_eq_true (show (bv (tx (Int.negSucc m))).length<=1000 by rw[<-am,hfc];exact pX hm (by decide))]
   have:¬ cR (bv (tx (Int.negSucc m))) 0 = "0":=λq=>by have:=(zc (hfc.trans e)).mp q;omega
   simp[this]
  ·unfold num;rw[intText_neg hc (eR _) (mj _) (by omega),pA]
   rfl
theorem aC{k:Int}(h:k.natAbs < 10 ^ 62):(tx k).length<=63:=by
 have:=int_text_length_le10 (by decide) h
 unfold tx;rw[PySem.ofString_length];exact this
theorem ub{z:Str}(h:¬ Nsg z):okN z=false:=by
 cases q:okN z with
 |false=>rfl
 |true=>
  refine absurd (λc hc=>?_) h
  unfold okN at q;simp only[Bool.and_eq_true]at q;have hd:=gj q.1.2;unfold bv at hd;split at hd
  ·rename_i hs;obtain⟨cs,e⟩:=(fA z).mp hs;rw[i6 e]at hd;rw[e]at hc;rcases List.mem_cons.mp hc with rfl|hc
   ·exact .inl rfl
   ·exact .inr (hd c hc)
  ·exact .inr (hd c hc)
noncomputable def jnl(w:List Nat):List (List Nat)->List Nat
 |[]=>[]
 |[p]=>p
 |p::r=>p++w++jnl w r
theorem kj(y:Str):∀ts:List Str,(Str.join y ts).cps.toList=jnl y.cps.toList (ts.map λz:Str=>z.cps.toList)
 |[]=>rfl
 |[t]=>rfl
 |t::u::r=>by
  show (t++y++Str.join y (u::r)).cps.toList=_;simp only[Str.cps_append,Array.toList_append,kj y (u::r)];rfl
theorem cc{w:List Nat}{a:Nat}:∀{p:List Nat},a∉p->spl (a::w) p 0=[p]
 |[],_=>rfl
 |c::r,h=>by
  have hc:¬ (a == c)=true:=λe=>h (by simp[eq_of_beq e])
  have:=cc (w:=w) (p:=r) λz=>h (List.mem_cons_of_mem _ z)
  simp[spl,List.isPrefixOf,hc,this]
theorem jG{w:List Nat}:∀(v r:List Nat),spl w (v++r) v.length=spl w r 0
 |[],_=>rfl
 |_::v,r=>jG v r
theorem bT{w:List Nat}{a:Nat}(r:List Nat):∀{p:List Nat},a∉p->spl (a::w) (p++(a::w)++r) 0=p::spl (a::w) r 0
 |[],_=>by
  have:(a::w).isPrefixOf (a::w++r)=true:=List.isPrefixOf_iff_prefix.mpr ⟨r,rfl⟩;simp only[List.nil_append,List.cons_append]at this ⊢;simp only[spl,this,if_true];rw[show (a::w).length - 1=w.length from rfl,jG]
 |c::p,h=>by
  have hc:¬ (a == c)=true:=λe=>h (by simp[eq_of_beq e])
  have:=bT (w:=w) r (p:=p) λz=>h (List.mem_cons_of_mem _ z)
  simp only[List.cons_append,List.append_assoc]at this ⊢;simp[spl,List.isPrefixOf,hc,this]
theorem j4{w:List Nat}{a:Nat}:∀{ps:List (List Nat)},ps≠[]->(∀p∈ps,a∉p)->spl (a::w) (jnl (a::w) ps) 0=ps
 |[],h,_=>absurd rfl h
 |[p],_,h=>cc (h p (by simp))
 |p::q::r,_,h=>by
  show spl (a::w) (p++(a::w)++jnl (a::w) (q::r)) 0=_;rw[bT _ (h p (by simp)),j4 (by simp) λz hz=>h z (List.mem_cons_of_mem _ hz)]
theorem um(ts:List Str):(ts.map λz:Str=>z.cps.toList).map ofC=ts:=by
 rw[List.map_map];exact (List.map_congr_left λz _=>dH z).trans (List.map_id' _)
theorem bL{y:Str}{a:Nat}{w:List Nat}(hy:y.cps.toList=a::w)(hk:strKind y=1){ts:List Str}(h0:ts≠[])(h:∀t∈ts,a∉t.cps.toList):Txt.split (Str.join y ts) y=ts:=by
 have hl:0 < y.length:=by rw[<-am,hy];simp
 rw[aO hl hk,kj,hy,j4 (by simpa using h0) (λp hp=>by
  obtain⟨t,ht,rfl⟩:=List.mem_map.mp hp;exact h t ht),um]
theorem gw(y:Str)(ts:List Str):Txt.join y ts=Str.join y ts:=glued_eq_join y ts
theorem fP{y:Str}{ts:List Str}(h1:ts.length<=100)(hy:y.length<=10)(h:∀t∈ts,t.length<=1000):JoinOk y ts=true:=by
 unfold JoinOk;rw[joinFits h (by
  have a1:ts.length * 1000<=100 * 1000:=Nat.mul_le_mul_right _ h1;have a2:ts.length * y.length<=100 * 10:=Nat.mul_le_mul h1 hy;omega)]
 rfl
theorem eh{y:Str}{B:Nat}(ts:List Str)(h:∀t∈ts,t.length<=B):(Str.join y ts).length<=ts.length * (B+y.length):=by
 have h1:=StrLaws.join_length_le y ts;have h2:(ts.map (·.length)).sum<=ts.length * B:=by
  clear h1
  induction ts with
  |nil=>simp
  |cons t r ih=>
   have a:=h t List.mem_cons_self;have b:=ih λz hz=>h z (List.mem_cons_of_mem _ hz)
   simp only[List.map_cons,List.sum_cons,List.length_cons,Nat.add_mul,Nat.one_mul];omega
 rw[Nat.mul_add];omega
end L2
namespace HD
open PySem PySem.W PyProof.Rows L2
noncomputable def pw:Program:=PySem.Challenge.pw_driftmeet_k87_rows_and_logs
noncomputable def top(i:Nat):Stmt:=PySem.Challenge.pw_driftmeet_k87_rows_and_logs.main.body.getD i (.Pass ⟨0,0,0,0⟩)
noncomputable abbrev R(a:Nat):Value:=.ref a
noncomputable abbrev I(i:Nat):Value:=.int i 0
noncomputable abbrev e(P:Params)(s:String)(t:Nat)(v:Value):DictEntry:=⟨PyData.keyHash P s,.str s t,v⟩
noncomputable abbrev co(n:String)(a:Nat)(m:String)(b c d e g h i j:Nat)(k:Bool)(l o q r s:Nat):Data:=.fields #[.str n a,.str m b,.str "/claim/cut.py" c,I d,I e,I g,I h,I i,R j,.bool k,I l,R o,.none,.none,.none,.none,I q,I r,.str "/claim/cut.py" s]
noncomputable abbrev cp(n:String)(a:Nat)(m:String)(b c d e g h i j:Nat)(k:Bool)(l o x y z q r s:Nat):Data:=.fields #[.str n a,.str m b,.str "/claim/cut.py" c,I d,I e,I g,I h,I i,R j,.bool k,I l,R o,.none,R x,R y,R z,I q,I r,.str "/claim/cut.py" s]
noncomputable abbrev F:=Params->Obj
noncomputable abbrev fo(n q:String)(s:Stmt)(m:String)(t c:Nat):F:=λ_=>⟨.type "function",none,.func (fnOf n q (dX s) (db s) (bt s) .none .none .none (.str m t) none (.ref c) .none),#[]⟩
noncomputable abbrev fp(n q:String)(s:Stmt):F:=λ_=>⟨.none,none,.func {fnOf n q (dX s) (db s) (bt s) .none .none .none .none none .none .none with globals:=0,builtins:=0},#[]⟩
noncomputable abbrev vf(l:Array Value):F:=λ_=>⟨.none,none,.fields l,#[]⟩
noncomputable abbrev tu(l:Array Value):F:=λ_=>⟨.type "tuple",none,.seq l 0,#[]⟩
noncomputable abbrev cd(d:Data):F:=λ_=>⟨.type "code",none,d,#[]⟩
noncomputable abbrev bf(a:String)(b:Nat):F:=λ_=>⟨.type "builtin_function_or_method",none,.fields #[.builtin a,.ref b],#[]⟩
noncomputable abbrev n(o:F)(x y:Params->W.BT):Params->W.BT:=λP=>.node (o P) (x P) (y P)
noncomputable abbrev z:Params->W.BT:=λ_=>.nil
noncomputable abbrev l(o:F):Params->W.BT:=λP=>.node (o P) .nil .nil
noncomputable def o0:F:=tu #[]
noncomputable def o1:F:=vf #[]
noncomputable def o2:F:=cd (co "<module>" 182 "<module>" 183 184 1 0 0 0 0 11 false 181 12 185 1 186)
noncomputable def o3:F:=λ_=>⟨(.type "frame"),none,.plain,#[some (R 13),some (R 3),some (R 3),none,some (.str "__main__" 164),none,some (R 0)]⟩
noncomputable def o4:F:=λP=>⟨(.type "dict"),none,(.dict #[e P "__name__" 165 (.str "law_driftmeet_k87_rows_and_logs" 362),e P "__doc__" 166 .none,e P "__package__" 167 .none,e P "__loader__" 168 (.builtin "__main__.__loader__#opaque"),e P "__spec__" 169 .none,e P "__annotations__" 170 (R 6),e P "__builtins__" 171 (R 4),e P "__file__" 173 (.str "/claim/cut.py" 172),e P "__cached__" 174 .none,e P "DriftError" 206 (R 24),e P "NoHappening" 222 (R 37),e P "NoText" 238 (R 49),e P "NoRow" 254 (R 61),e P "FIGURES" 258 (.str "0123456789" 257),e P "MOST_FIGURES" 260 (.int 1000 259),e P "LENGTHS" 270 (R 64),e P "show_number" 277 (R 71),e P "show_name" 284 (R 78),e P "show_part" 291 (R 85),e P "show_row" 297 (R 90),e P "show_log" 303 (R 95),e P "refuse_other" 310 (R 102),e P "are_figures" 316 (R 107),e P "read_number" 324 (R 114),e P "split_in_two" 333 (R 121),e P "read_name" 341 (R 128),e P "parts_of" 349 (R 135),e P "read_row" 355 (R 140),e P "read_log" 361 (R 145),e P "_law_cell_at" 371 (R 152),e P "_law_number" 378 (R 159),e P "_law_row" 387 (R 166),e P "_law_words" 396 (R 173),e P "_law_spoilt" 407 (R 180),e P "_law_equal" 418 (R 187),e P "_law_refused" 428 (R 194),e P "_law_log_right" 434 (R 199),e P "law" 440 (R 204)] 38),#[]⟩
noncomputable def o5:F:=vf #[(I 2),(I 0),(R 20),(I 4),(I 0),(R 33),(I 6),(I 0),(R 45),(I 8),(I 0),(R 57),(I 14),(I 0),(R 70),(I 16),(I 0),(R 77),(I 18),(I 0),(R 84),(I 20),(I 0),(R 89),(I 22),(I 0),(R 94),(I 24),(I 0),(R 101),(I 27),(I 0),(R 106),(I 29),(I 0),(R 113),(I 37),(I 0),(R 120),(I 43),(I 0),(R 127),(I 46),(I 0),(R 134),(I 49),(I 0),(R 139),(I 57),(I 0),(R 144),(I 60),(I 0),(R 151),(I 64),(I 0),(R 158),(I 70),(I 0),(R 165),(I 80),(I 0),(R 172),(I 88),(I 0),(R 179),(I 110),(I 0),(R 186),(I 121),(I 0),(R 193),(I 133),(I 0),(R 198),(I 142),(I 0),(R 203)]
noncomputable def o6:F:=tu #[(.type "ValueError")]
noncomputable def o7:F:=λ_=>⟨(.type "builtin_function_or_method"),none,(.fields #[(.builtin "type.__prepare__"),(.type "type")]),#[]⟩
noncomputable def o8:F:=λP=>⟨(.type "dict"),none,(.dict #[e P "__module__" 196 (.str "driftmeet.errors" 187),e P "__qualname__" 198 (.str "DriftError" 197),e P "__firstlineno__" 200 (.int 2 199),e P "__static_attributes__" 201 (R 22)] 4),#[]⟩
noncomputable def o9:F:=cd (co "DriftError" 191 "DriftError" 192 193 2 0 0 0 0 18 false 181 19 194 2 195)
noncomputable def o10:F:=λ_=>⟨(.type "frame"),none,.plain,#[some (R 20),some (R 3),some (R 17),none,some (.str "driftmeet.errors" 187),none,some (R 0)]⟩
noncomputable def o11:F:=λP=>⟨(.type "dict"),none,(.dict #[e P "__module__" 196 (.str "driftmeet.errors" 187),e P "__firstlineno__" 200 (.int 2 199),e P "__static_attributes__" 201 (R 22),e P "__weakref__" 203 (R 25),e P "__doc__" 204 .none] 3),#[]⟩
noncomputable def o12:F:=λ_=>⟨(.type "type"),none,(.cls ⟨"DriftError",[(.type "ValueError")],[(R 24),(.type "ValueError"),(.type "Exception"),(.type "BaseException"),(.type "object")],23,"DriftError",true,[],[(R 37),(R 49),(R 61)],false,none,false⟩),#[some (R 15),none,some (.str "DriftError" 189),some (.str "DriftError" 197),some (.builtin "ValueError.__new__"),some (.bool true)]⟩
noncomputable def o13:F:=λ_=>⟨(.type "getset_descriptor"),none,(.fields #[(.str "__weakref__" 202),(R 24),(.builtin "ExceptionGroup.__weakref__"),.none]),#[]⟩
noncomputable def o14:F:=λ_=>⟨(.type "super"),none,(.fields #[(R 24),(R 24),(R 24)]),#[]⟩
noncomputable def o15:F:=bf "object.__init_subclass__" 24
noncomputable def o16:F:=tu #[(R 24)]
noncomputable def o17:F:=λP=>⟨(.type "dict"),none,(.dict #[e P "__module__" 214 (.str "driftmeet.errors" 187),e P "__qualname__" 216 (.str "NoHappening" 215),e P "__firstlineno__" 218 (.int 4 217),e P "__static_attributes__" 219 (R 35)] 4),#[]⟩
noncomputable def o18:F:=cd (co "NoHappening" 209 "NoHappening" 210 211 4 0 0 0 0 31 false 181 32 212 4 213)
noncomputable def o19:F:=λ_=>⟨(.type "frame"),none,.plain,#[some (R 33),some (R 3),some (R 30),none,some (.str "driftmeet.errors" 187),none,some (R 0)]⟩
noncomputable def o20:F:=λP=>⟨(.type "dict"),none,(.dict #[e P "__module__" 214 (.str "driftmeet.errors" 187),e P "__firstlineno__" 218 (.int 4 217),e P "__static_attributes__" 219 (R 35),e P "__doc__" 220 .none] 2),#[]⟩
noncomputable def o21:F:=λ_=>⟨(.type "type"),none,(.cls ⟨"NoHappening",[(R 24)],[(R 37),(R 24),(.type "ValueError"),(.type "Exception"),(.type "BaseException"),(.type "object")],36,"NoHappening",true,[],[],false,none,false⟩),#[some (R 28),none,some (.str "NoHappening" 207),some (.str "NoHappening" 215),some (.builtin "ValueError.__new__"),some (.bool true)]⟩
noncomputable def o22:F:=λ_=>⟨(.type "super"),none,(.fields #[(R 37),(R 37),(R 37)]),#[]⟩
noncomputable def o23:F:=bf "object.__init_subclass__" 37
noncomputable def o24:F:=λP=>⟨(.type "dict"),none,(.dict #[e P "__module__" 230 (.str "driftmeet.errors" 187),e P "__qualname__" 232 (.str "NoText" 231),e P "__firstlineno__" 234 (.int 6 233),e P "__static_attributes__" 235 (R 47)] 4),#[]⟩
noncomputable def o25:F:=cd (co "NoText" 225 "NoText" 226 227 6 0 0 0 0 43 false 181 44 228 6 229)
noncomputable def o26:F:=λ_=>⟨(.type "frame"),none,.plain,#[some (R 45),some (R 3),some (R 42),none,some (.str "driftmeet.errors" 187),none,some (R 0)]⟩
noncomputable def o27:F:=λP=>⟨(.type "dict"),none,(.dict #[e P "__module__" 230 (.str "driftmeet.errors" 187),e P "__firstlineno__" 234 (.int 6 233),e P "__static_attributes__" 235 (R 47),e P "__doc__" 236 .none] 2),#[]⟩
noncomputable def o28:F:=λ_=>⟨(.type "type"),none,(.cls ⟨"NoText",[(R 24)],[(R 49),(R 24),(.type "ValueError"),(.type "Exception"),(.type "BaseException"),(.type "object")],48,"NoText",true,[],[],false,none,false⟩),#[some (R 40),none,some (.str "NoText" 223),some (.str "NoText" 231),some (.builtin "ValueError.__new__"),some (.bool true)]⟩
noncomputable def o29:F:=λ_=>⟨(.type "super"),none,(.fields #[(R 49),(R 49),(R 49)]),#[]⟩
noncomputable def o30:F:=bf "object.__init_subclass__" 49
noncomputable def o31:F:=λP=>⟨(.type "dict"),none,(.dict #[e P "__module__" 246 (.str "driftmeet.errors" 187),e P "__qualname__" 248 (.str "NoRow" 247),e P "__firstlineno__" 250 (.int 8 249),e P "__static_attributes__" 251 (R 59)] 4),#[]⟩
noncomputable def o32:F:=cd (co "NoRow" 241 "NoRow" 242 243 8 0 0 0 0 55 false 181 56 244 8 245)
noncomputable def o33:F:=λ_=>⟨(.type "frame"),none,.plain,#[some (R 57),some (R 3),some (R 54),none,some (.str "driftmeet.errors" 187),none,some (R 0)]⟩
noncomputable def o34:F:=λP=>⟨(.type "dict"),none,(.dict #[e P "__module__" 246 (.str "driftmeet.errors" 187),e P "__firstlineno__" 250 (.int 8 249),e P "__static_attributes__" 251 (R 59),e P "__doc__" 252 .none] 2),#[]⟩
noncomputable def o35:F:=λ_=>⟨(.type "type"),none,(.cls ⟨"NoRow",[(R 24)],[(R 61),(R 24),(.type "ValueError"),(.type "Exception"),(.type "BaseException"),(.type "object")],60,"NoRow",true,[],[],false,none,false⟩),#[some (R 52),none,some (.str "NoRow" 239),some (.str "NoRow" 247),some (.builtin "ValueError.__new__"),some (.bool true)]⟩
noncomputable def o36:F:=λ_=>⟨(.type "super"),none,(.fields #[(R 61),(R 61),(R 61)]),#[]⟩
noncomputable def o37:F:=bf "object.__init_subclass__" 61
noncomputable def o38:F:=λP=>⟨(.type "dict"),none,(.dict #[e P "look" 261 (.int 3 262),e P "sight" 263 (.int 5 264),e P "send" 265 (.int 4 266)] 3),#[]⟩
noncomputable def o39:F:=tu #[(.str "number" 274)]
noncomputable def o40:F:=fp "show_number" "show_number" (top 9)
noncomputable def o41:F:=cd (cp "show_number" 271 "show_number" 272 273 14 1 0 0 3 65 true 181 66 67 68 69 275 14 276)
noncomputable def o42:F:=fo "show_number" "show_number" (top 9) "driftmeet.texts" 255 70
noncomputable def o43:F:=tu #[(.str "name" 281)]
noncomputable def o44:F:=fp "show_name" "show_name" (top 10)
noncomputable def o45:F:=cd (cp "show_name" 278 "show_name" 279 280 16 1 0 0 3 72 true 181 73 74 75 76 282 16 283)
noncomputable def o46:F:=fo "show_name" "show_name" (top 10) "driftmeet.texts" 255 77
noncomputable def o47:F:=tu #[(.str "part" 288)]
noncomputable def o48:F:=fp "show_part" "show_part" (top 11)
noncomputable def o49:F:=cd (cp "show_part" 285 "show_part" 286 287 18 1 0 0 3 79 true 181 80 81 82 83 289 18 290)
noncomputable def o50:F:=fo "show_part" "show_part" (top 11) "driftmeet.texts" 255 84
noncomputable def o51:F:=fp "show_row" "show_row" (top 12)
noncomputable def o52:F:=cd (.fields #[(.str "show_row" 292),(.str "show_row" 293),(.str "/claim/cut.py" 294),(I 20),(I 1),(I 0),(I 0),(I 3),(R 86),(.bool true),(I 181),(R 87),.none,.none,.none,(R 88),(I 295),(I 20),(.str "/claim/cut.py" 296)])
noncomputable def o53:F:=fo "show_row" "show_row" (top 12) "driftmeet.texts" 255 89
noncomputable def o54:F:=fp "show_log" "show_log" (top 13)
noncomputable def o55:F:=cd (.fields #[(.str "show_log" 298),(.str "show_log" 299),(.str "/claim/cut.py" 300),(I 22),(I 1),(I 0),(I 0),(I 3),(R 91),(.bool true),(I 181),(R 92),.none,.none,.none,(R 93),(I 301),(I 22),(.str "/claim/cut.py" 302)])
noncomputable def o56:F:=fo "show_log" "show_log" (top 13) "driftmeet.texts" 255 94
noncomputable def o57:F:=tu #[(.str "text" 307)]
noncomputable def o58:F:=fp "refuse_other" "refuse_other" (top 14)
noncomputable def o59:F:=cd (cp "refuse_other" 304 "refuse_other" 305 306 24 1 0 0 3 96 true 181 97 98 99 100 308 24 309)
noncomputable def o60:F:=fo "refuse_other" "refuse_other" (top 14) "driftmeet.texts" 255 101
noncomputable def o61:F:=fp "are_figures" "are_figures" (top 15)
noncomputable def o62:F:=cd (.fields #[(.str "are_figures" 311),(.str "are_figures" 312),(.str "/claim/cut.py" 313),(I 27),(I 1),(I 0),(I 0),(I 3),(R 103),(.bool true),(I 181),(R 104),.none,.none,.none,(R 105),(I 314),(I 27),(.str "/claim/cut.py" 315)])
noncomputable def o63:F:=fo "are_figures" "are_figures" (top 15) "driftmeet.texts" 255 106
noncomputable def o64:F:=tu #[(.str "text" 320),(.str "figures" 321)]
noncomputable def o65:F:=fp "read_number" "read_number" (top 16)
noncomputable def o66:F:=cd (cp "read_number" 317 "read_number" 318 319 29 1 0 0 3 108 true 181 109 110 111 112 322 29 323)
noncomputable def o67:F:=fo "read_number" "read_number" (top 16) "driftmeet.texts" 255 113
noncomputable def o68:F:=tu #[(.str "text" 328),(.str "sign" 329),(.str "parts" 330)]
noncomputable def o69:F:=fp "split_in_two" "split_in_two" (top 17)
noncomputable def o70:F:=cd (cp "split_in_two" 325 "split_in_two" 326 327 37 2 0 0 3 115 true 181 116 117 118 119 331 37 332)
noncomputable def o71:F:=fo "split_in_two" "split_in_two" (top 17) "driftmeet.texts" 255 120
noncomputable def o72:F:=tu #[(.str "text" 337),(.str "parts" 338)]
noncomputable def o73:F:=fp "read_name" "read_name" (top 18)
noncomputable def o74:F:=cd (cp "read_name" 334 "read_name" 335 336 43 1 0 0 3 122 true 181 123 124 125 126 339 43 340)
noncomputable def o75:F:=fo "read_name" "read_name" (top 18) "driftmeet.texts" 255 127
noncomputable def o76:F:=tu #[(.str "text" 345),(.str "sign" 346)]
noncomputable def o77:F:=fp "parts_of" "parts_of" (top 19)
noncomputable def o78:F:=cd (cp "parts_of" 342 "parts_of" 343 344 46 2 0 0 3 129 true 181 130 131 132 133 347 46 348)
noncomputable def o79:F:=fo "parts_of" "parts_of" (top 19) "driftmeet.texts" 255 134
noncomputable def o80:F:=fp "read_row" "read_row" (top 20)
noncomputable def o81:F:=cd (.fields #[(.str "read_row" 350),(.str "read_row" 351),(.str "/claim/cut.py" 352),(I 49),(I 1),(I 0),(I 0),(I 3),(R 136),(.bool true),(I 181),(R 137),.none,.none,.none,(R 138),(I 353),(I 49),(.str "/claim/cut.py" 354)])
noncomputable def o82:F:=fo "read_row" "read_row" (top 20) "driftmeet.texts" 255 139
noncomputable def o83:F:=fp "read_log" "read_log" (top 21)
noncomputable def o84:F:=cd (.fields #[(.str "read_log" 356),(.str "read_log" 357),(.str "/claim/cut.py" 358),(I 57),(I 1),(I 0),(I 0),(I 3),(R 141),(.bool true),(I 181),(R 142),.none,.none,.none,(R 143),(I 359),(I 57),(.str "/claim/cut.py" 360)])
noncomputable def o85:F:=fo "read_log" "read_log" (top 21) "driftmeet.texts" 255 144
noncomputable def o86:F:=tu #[(.str "_law_script" 367),(.str "_law_k" 368)]
noncomputable def o87:F:=fp "_law_cell_at" "_law_cell_at" (top 23)
noncomputable def o88:F:=cd (cp "_law_cell_at" 364 "_law_cell_at" 365 366 60 2 0 0 3 146 true 181 147 148 149 150 369 60 370)
noncomputable def o89:F:=fo "_law_cell_at" "_law_cell_at" (top 23) "law_driftmeet_k87_rows_and_logs" 362 151
noncomputable def o90:F:=tu #[(.str "_law_cell" 375)]
noncomputable def o91:F:=fp "_law_number" "_law_number" (top 24)
noncomputable def o92:F:=cd (cp "_law_number" 372 "_law_number" 373 374 64 1 0 0 3 153 true 181 154 155 156 157 376 64 377)
noncomputable def o93:F:=fo "_law_number" "_law_number" (top 24) "law_driftmeet_k87_rows_and_logs" 362 158
noncomputable def o94:F:=tu #[(.str "_law_cell" 382),(.str "_law_head" 383),(.str "_law_third" 384)]
noncomputable def o95:F:=fp "_law_row" "_law_row" (top 25)
noncomputable def o96:F:=cd (cp "_law_row" 379 "_law_row" 380 381 70 1 0 0 3 160 true 181 161 162 163 164 385 70 386)
noncomputable def o97:F:=fo "_law_row" "_law_row" (top 25) "law_driftmeet_k87_rows_and_logs" 362 165
noncomputable def o98:F:=tu #[(.str "_law_row_here" 391),(.str "_law_words_here" 392),(.str "_law_part" 393)]
noncomputable def o99:F:=fp "_law_words" "_law_words" (top 26)
noncomputable def sY:F:=cd (cp "_law_words" 388 "_law_words" 389 390 80 1 0 0 3 167 true 181 168 169 170 171 394 80 395)
noncomputable def uJ:F:=fo "_law_words" "_law_words" (top 26) "law_driftmeet_k87_rows_and_logs" 362 172
noncomputable def u9:F:=tu #[(.str "_law_row_here" 400),(.str "_law_cell" 401),(.str "_law_words_here" 402),(.str "_law_part" 403),(.str "_law_kind" 404)]
noncomputable def yj:F:=fp "_law_spoilt" "_law_spoilt" (top 27)
noncomputable def vc:F:=cd (cp "_law_spoilt" 397 "_law_spoilt" 398 399 88 2 0 0 3 174 true 181 175 176 177 178 405 88 406)
noncomputable def uO:F:=fo "_law_spoilt" "_law_spoilt" (top 27) "law_driftmeet_k87_rows_and_logs" 362 179
noncomputable def sQ:F:=tu #[(.str "_law_found" 411),(.str "_law_row_here" 412),(.str "_law_part" 413),(.str "_law_numbers" 414),(.str "_law_number_here" 415)]
noncomputable def v6:F:=fp "_law_equal" "_law_equal" (top 28)
noncomputable def t8:F:=cd (cp "_law_equal" 408 "_law_equal" 409 410 110 2 0 0 3 181 true 181 182 183 184 185 416 110 417)
noncomputable def tD:F:=fo "_law_equal" "_law_equal" (top 28) "law_driftmeet_k87_rows_and_logs" 362 186
noncomputable def ve:F:=tu #[(.str "_law_way" 422),(.str "_law_text" 423),(.str "_law_word" 424),(.str "e" 425)]
noncomputable def wJ:F:=fp "_law_refused" "_law_refused" (top 29)
noncomputable def sX:F:=cd (cp "_law_refused" 419 "_law_refused" 420 421 121 2 0 0 3 188 true 181 189 190 191 192 426 121 427)
noncomputable def tX:F:=fo "_law_refused" "_law_refused" (top 29) "law_driftmeet_k87_rows_and_logs" 362 193
noncomputable def yy:F:=fp "_law_log_right" "_law_log_right" (top 30)
noncomputable def uR:F:=cd (.fields #[(.str "_law_log_right" 429),(.str "_law_log_right" 430),(.str "/claim/cut.py" 431),(I 133),(I 2),(I 0),(I 0),(I 3),(R 195),(.bool true),(I 181),(R 196),.none,.none,.none,(R 197),(I 432),(I 133),(.str "/claim/cut.py" 433)])
noncomputable def uo:F:=fo "_law_log_right" "_law_log_right" (top 30) "law_driftmeet_k87_rows_and_logs" 362 198
noncomputable def xl:F:=fp "law" "law" (top 31)
noncomputable def uY:F:=cd (.fields #[(.str "law" 435),(.str "law" 436),(.str "/claim/cut.py" 437),(I 142),(I 1),(I 0),(I 0),(I 3),(R 200),(.bool true),(I 181),(R 201),.none,.none,.none,(R 202),(I 438),(I 142),(.str "/claim/cut.py" 439)])
noncomputable def tU:F:=fo "law" "law" (top 31) "law_driftmeet_k87_rows_and_logs" 362 203
noncomputable def env:Env:={scope:=pw.main.scope,locals:=mainNs,globals:=mainNs,cells:=[],code:=(R 13),frame:=some 14}
noncomputable def bE:List Stmt:=behindTheImports pw
noncomputable def b(i:Nat):Stmt:=bE.getD i (.Pass ⟨0,0,0,0⟩)
noncomputable def cE:Code:=.body bE env
noncomputable def qF:List Frame:=[topFrame ⟨0,0,0,0⟩]
noncomputable def an:Option Value:=(some (R 6))
noncomputable def hA(P:Params):Heap:=⟨⟨[boot_o_0 P,boot_o_1 P,boot_o_2 P,boot_o_3 P,boot_o_4 P,boot_o_5 P,boot_o_6 P,boot_o_7 P,boot_o_8 P,boot_o_9 P,boot_o_10 P,o0 P,o1 P,o2 P,o3 P]⟩,{}⟩
noncomputable def sA(w:World)(os:OsState):Shared:=⟨hA w.params,⟨[]⟩,{},187,os⟩
noncomputable def t0:Params->W.BT:=(n boot_o_0 (n boot_o_1 (n boot_o_3 (l boot_o_7) (l o0)) (n boot_o_5 (l boot_o_9) (l o2))) (n boot_o_2 (n boot_o_4 (l boot_o_8) (l o1)) (n boot_o_6 (l boot_o_10) (l o3))))
noncomputable def s0(w:World)(os:OsState):SharedT:=⟨t0 w.params,15,{},⟨[]⟩,{},187,os⟩
noncomputable def t1:Params->W.BT:=(n boot_o_0 (n boot_o_1 (n o4 (n boot_o_7 (n o6 (n o0 (n o37 (l o74) (l o0)) (n o56 (l o93) z)) (n o0 (n o0 (l o83) z) (n o0 (l o1) z))) (n o11 (n o23 (n o42 (l o79) (l uo)) (n o0 (l o0) z)) (n o0 (n o1 (l o88) z) (n o69 (l sQ) z)))) (n o0 (n o1 (n o0 (n o39 (l o76) (l o0)) (n o0 (l o0) z)) (n o30 (n o48 (l o1) z) (n o0 (l vc) z))) (n o15 (n o0 (n o0 (l o81) (l uY)) (n o63 (l o99) z)) (n o0 (n o0 (l o90) z) (n o1 (l tD) z))))) (n boot_o_5 (n boot_o_9 (n o8 (n o18 (n o0 (l o0) (l sX)) (n o1 (l o1) z)) (n o28 (n o47 (l o85) z) (n o66 (l o0) z))) (n o13 (n o7 (n o1 (l o1) (l o1)) (n o61 (l o98) z)) (n o32 (n o52 (l o0) z) (n o71 (l v6) z)))) (n o2 (n o10 (n o21 (n o40 (l o77) (l yy)) (n o59 (l o96) z)) (n o7 (n o50 (l o0) z) (n o68 (l o0) z))) (n o7 (n o25 (n o45 (l o0) z) (n o1 (l uJ) z)) (n o35 (n o54 (l o91) z) (n o0 (l o1) z)))))) (n boot_o_2 (n boot_o_4 (n boot_o_8 (n o7 (n o1 (n o38 (l o75) (l wJ)) (n o0 (l o0) z)) (n o27 (n o1 (l o84) z) (n o65 (l u9) z))) (n o12 (n o16 (n o0 (l o0) (l o0)) (n o1 (l o1) z)) (n o1 (n o51 (l o89) z) (n o70 (l o0) z)))) (n o5 (n o9 (n o20 (n o0 (l o0) (l o1)) (n o58 (l o95) z)) (n o16 (n o49 (l o86) z) (n o1 (l uO) z))) (n o16 (n o1 (n o44 (l o82) (l tU)) (n o0 (l sY) z)) (n o34 (n o1 (l o0) z) (n o72 (l o0) z))))) (n boot_o_6 (n boot_o_10 (n o0 (n o19 (n o1 (l o1) (l tX)) (n o57 (l o94) z)) (n o29 (n o0 (l o0) z) (n o67 (l yj) z))) (n o14 (n o24 (n o43 (l o80) (l xl)) (n o62 (l o0) z)) (n o33 (n o53 (l o1) z) (n o0 (l t8) z)))) (n o3 (n o0 (n o22 (n o41 (l o78) (l uR)) (n o60 (l o97) z)) (n o31 (n o0 (l o87) z) (n o0 (l o1) z))) (n o17 (n o26 (n o46 (l o1) z) (n o64 (l o0) z)) (n o36 (n o55 (l o92) z) (n o73 (l ve) z)))))))
noncomputable def s1(w:World)(os:OsState):SharedT:=⟨t1 w.params,205,{},⟨[]⟩,{},441,os⟩
noncomputable def t2:Params->W.BT:=(n boot_o_0 (n boot_o_1 (n o4 (n boot_o_7 (n o6 (n o0 (n o37 (l o74) (l o0)) (n o56 (l o93) z)) (n o0 (n o0 (l o83) z) (n o0 (l o1) z))) (n o11 (n o23 (n o42 (l o79) (l uo)) (n o0 (l o0) z)) (n o0 (n o1 (l o88) z) (n o69 (l sQ) z)))) (n o0 (n o1 (n o0 (n o39 (l o76) (l o0)) (n o0 (l o0) z)) (n o30 (n o48 (l o1) z) (n o0 (l vc) z))) (n o15 (n o0 (n o0 (l o81) (l uY)) (n o63 (l o99) z)) (n o0 (n o0 (l o90) z) (n o1 (l tD) z))))) (n boot_o_5 (n boot_o_9 (n o8 (n o18 (n o0 (l o0) (l sX)) (n o1 (l o1) z)) (n o28 (n o47 (l o85) z) (n o66 (l o0) z))) (n o13 (n o7 (n o1 (l o1) (l o1)) (n o61 (l o98) z)) (n o32 (n o52 (l o0) z) (n o71 (l v6) z)))) (n o2 (n o10 (n o21 (n o40 (l o77) (l yy)) (n o59 (l o96) z)) (n o7 (n o50 (l o0) z) (n o68 (l o0) z))) (n o7 (n o25 (n o45 (l o0) z) (n o1 (l uJ) z)) (n o35 (n o54 (l o91) z) (n o0 (l o1) z)))))) (n boot_o_2 (n boot_o_4 (n boot_o_8 (n o7 (n o1 (n o38 (l o75) (l wJ)) (n o0 (l o0) z)) (n o27 (n o1 (l o84) z) (n o65 (l u9) z))) (n o12 (n o16 (n o0 (l o0) (l o0)) (n o1 (l o1) z)) (n o1 (n o51 (l o89) z) (n o70 (l o0) z)))) (n o5 (n o9 (n o20 (n o0 (l o0) (l o1)) (n o58 (l o95) z)) (n o16 (n o49 (l o86) z) (n o1 (l uO) z))) (n o16 (n o1 (n o44 (l o82) (l tU)) (n o0 (l sY) z)) (n o34 (n o1 (l o0) z) (n o72 (l o0) z))))) (n boot_o_6 (n boot_o_10 (n o0 (n o19 (n o1 (l o1) (l tX)) (n o57 (l o94) z)) (n o29 (n o0 (l o0) z) (n o67 (l yj) z))) (n o14 (n o24 (n o43 (l o80) (l xl)) (n o62 (l o0) z)) (n o33 (n o53 (l o1) z) (n o0 (l t8) z)))) (n o3 (n o0 (n o22 (n o41 (l o78) (l uR)) (n o60 (l o97) z)) (n o31 (n o0 (l o87) z) (n o0 (l o1) z))) (n o17 (n o26 (n o46 (l o1) z) (n o64 (l o0) z)) (n o36 (n o55 (l o92) z) (n o73 (l ve) z)))))))
noncomputable def s2(w:World)(os:OsState):SharedT:=⟨t2 w.params,205,{},⟨[]⟩,{},441,os⟩
theorem pre:∀w:World,(λos=>topGo treeTable pw w 11 an 12 ⟨boot_heap w.params,⟨[]⟩,boot_drawn,boot_toks,os⟩ (topStub pw))=λos=>some (sA w os,⟨denote treeTable cE,cE,⟨0,0,0,0⟩,qF⟩):=λw=>by kernel_rfl
theorem blk:∀w:World,(λos=>segRun treeTable pw w 11 an 1 1 (sA w os) (blockOf bE env cE ⟨0,0,0,0⟩ qF))=λos=>some (.next,(s0 w os).abs,cE,⟨0,0,0,0⟩):=λw=>by kernel_rfl
noncomputable def g0:List Stmt:=[b 0,b 1,b 2,b 3,b 4,b 5,b 6,b 7,b 8,b 9,b 10,b 11,b 12,b 13,b 14,b 15,b 16,b 17,b 18,b 19,b 20,b 21,b 22,b 23,b 24,b 25,b 26,b 27,b 28,b 29,b 30,b 31]
theorem p0:∀w:World,(λos=>segRunT treeTable pw w 11 an 1 1564 (s0 w os) (piecesOf g0 env cE ⟨0,0,0,0⟩ qF))=λos=>some (.next,s1 w os,cE,⟨142,0,166,57⟩):=byRow2 "special-get-raises" (λw=>by kernel_rfl) (λw=>by kernel_rfl)
theorem fin:∀w:World,(λos=>topRun treeTable pw w 11 an 2 (s1 w os).abs (restOf [] env cE ⟨142,0,166,57⟩ qF))=λos=>some (s2 w os).abs:=λw=>by kernel_rfl
theorem wF:bE=g0++([]):=by kernel_rfl
theorem Bj(w:World)(os:OsState):topRun treeTable pw w 11 an (1564+(2)) (s0 w os).abs (restOf (g0++([])) env cE ⟨0,0,0,0⟩ qF)=some (s2 w os).abs:=piece_app (segRun_of (congrFun (p0 w) os)) (congrFun (fin w) os)
theorem run(w:World)(os:OsState):topRun treeTable pw w 11 an (12+(1+(1564+(2)))) ⟨boot_heap w.params,⟨[]⟩,boot_drawn,boot_toks,os⟩ (topStub pw)=some (s2 w os).abs:=go_top (congrFun (pre w) os) (piece_block (congrFun (blk w) os) (by rw[wF];exact Bj w os))
noncomputable def view:Program:={pw with main:={pw.main with body:=[top 31]}}
noncomputable def loose:List Str:=(["DriftError","NoHappening","NoText","NoRow","FIGURES","MOST_FIGURES","LENGTHS","show_number","show_name","show_part","show_row","show_log","refuse_other","are_figures","read_number","split_in_two","read_name","parts_of","read_row","read_log","_law_cell_at","_law_number","_law_row","_law_words","_law_spoilt","_law_equal","_law_refused","_law_log_right"]:List String).map Str.ofString
noncomputable def K(P:Params):Frag:=(nat_lit 2,boot_o_2 P)::(nat_lit 3,o4 P)::(nat_lit 15,o6 P)::(nat_lit 22,o0 P)::(nat_lit 23,o11 P)::(nat_lit 24,o12 P)::(nat_lit 25,o13 P)::(nat_lit 28,o16 P)::(nat_lit 35,o0 P)::(nat_lit 36,o20 P)::(nat_lit 37,o21 P)::(nat_lit 40,o16 P)::(nat_lit 47,o0 P)::(nat_lit 48,o27 P)::(nat_lit 49,o28 P)::(nat_lit 52,o16 P)::(nat_lit 59,o0 P)::(nat_lit 60,o34 P)::(nat_lit 61,o35 P)::(nat_lit 64,o38 P)::(nat_lit 65,o0 P)::(nat_lit 67,o39 P)::(nat_lit 68,o0 P)::(nat_lit 70,o41 P)::(nat_lit 71,o42 P)::(nat_lit 72,o0 P)::(nat_lit 74,o43 P)::(nat_lit 75,o0 P)::(nat_lit 77,o45 P)::(nat_lit 78,o46 P)::(nat_lit 79,o0 P)::(nat_lit 81,o47 P)::(nat_lit 82,o0 P)::(nat_lit 84,o49 P)::(nat_lit 85,o50 P)::(nat_lit 86,o0 P)::(nat_lit 89,o52 P)::(nat_lit 90,o53 P)::(nat_lit 91,o0 P)::(nat_lit 94,o55 P)::(nat_lit 95,o56 P)::(nat_lit 96,o0 P)::(nat_lit 98,o57 P)::(nat_lit 99,o0 P)::(nat_lit 101,o59 P)::(nat_lit 102,o60 P)::(nat_lit 103,o0 P)::(nat_lit 106,o62 P)::(nat_lit 107,o63 P)::(nat_lit 108,o0 P)::(nat_lit 110,o64 P)::(nat_lit 111,o0 P)::(nat_lit 113,o66 P)::(nat_lit 114,o67 P)::(nat_lit 115,o0 P)::(nat_lit 117,o68 P)::(nat_lit 118,o0 P)::(nat_lit 120,o70 P)::(nat_lit 121,o71 P)::(nat_lit 122,o0 P)::(nat_lit 124,o72 P)::(nat_lit 125,o0 P)::(nat_lit 127,o74 P)::(nat_lit 128,o75 P)::(nat_lit 129,o0 P)::(nat_lit 131,o76 P)::(nat_lit 132,o0 P)::(nat_lit 134,o78 P)::(nat_lit 135,o79 P)::(nat_lit 136,o0 P)::(nat_lit 139,o81 P)::(nat_lit 140,o82 P)::(nat_lit 141,o0 P)::(nat_lit 144,o84 P)::(nat_lit 145,o85 P)::(nat_lit 146,o0 P)::(nat_lit 148,o86 P)::(nat_lit 149,o0 P)::(nat_lit 151,o88 P)::(nat_lit 152,o89 P)::(nat_lit 153,o0 P)::(nat_lit 155,o90 P)::(nat_lit 156,o0 P)::(nat_lit 158,o92 P)::(nat_lit 159,o93 P)::(nat_lit 160,o0 P)::(nat_lit 162,o94 P)::(nat_lit 163,o0 P)::(nat_lit 165,o96 P)::(nat_lit 166,o97 P)::(nat_lit 167,o0 P)::(nat_lit 169,o98 P)::(nat_lit 170,o0 P)::(nat_lit 172,sY P)::(nat_lit 173,uJ P)::(nat_lit 174,o0 P)::(nat_lit 176,u9 P)::(nat_lit 177,o0 P)::(nat_lit 179,vc P)::(nat_lit 180,uO P)::(nat_lit 181,o0 P)::(nat_lit 183,sQ P)::(nat_lit 184,o0 P)::(nat_lit 186,t8 P)::(nat_lit 187,tD P)::(nat_lit 188,o0 P)::(nat_lit 190,ve P)::(nat_lit 191,o0 P)::(nat_lit 193,sX P)::(nat_lit 194,tX P)::(nat_lit 195,o0 P)::(nat_lit 198,uR P)::(nat_lit 199,uo P)::(nat_lit 200,o0 P)::(nat_lit 203,uY P)::(nat_lit 204,tU P)::[]
noncomputable def as:List Addr:=[2,3,15,22,23,24,25,28,35,36,37,40,47,48,49,52,59,60,61,64,65,67,68,70,71,72,74,75,77,78,79,81,82,84,85,86,89,90,91,94,95,96,98,99,101,102,103,106,107,108,110,111,113,114,115,117,118,120,121,122,124,125,127,128,129,131,132,134,135,136,139,140,141,144,145,146,148,149,151,152,153,155,156,158,159,160,162,163,165,166,167,169,170,172,173,174,176,177,179,180,181,183,184,186,187,188,190,191,193,194,195,198,199,200,203,204]
theorem as_eq:∀P,as=(K P).map (·.1):=λP=>by kernel_rfl
noncomputable def h1(P:Params):Heap:=absHeap (t2 P) 205 {}
noncomputable def f1(w:World)(os:OsState):Shared:=⟨h1 w.params,⟨[]⟩,{},441,os⟩
noncomputable def Xt(s:Shared):Bool:=xlAt view [] s&&recOk (RowW.records PySem.Challenge.rw_driftmeet_k87_rows_and_logs.row.toRowW) s
theorem lk1:∀w:World,(λos=>(staticsOk (importedModules pw.main.body) (boot_heap w.params) (h1 w.params)&&namesBound pw (h1 w.params)&&gensDone (f1 w os)&&laidKept (boot_heap w.params) (h1 w.params)))=λ_=>true:=λw=>by kernel_rfl
theorem lk2:∀w:World,(λos=>openSeen view loose (importedModules pw.main.body) Xt true (f1 w os))=λ_=>openGood view loose:=λw=>by kernel_rfl
theorem lk3:∀w:World,(λos=>((Hook.obs (kHook K as as_eq)) (f1 w os),Nat.ble 1 (f1 w os).toks))=λ_=>((Hook.val (kHook K as as_eq)) w,true):=λw=>by kernel_rfl
theorem left:LeftO pw view loose Xt (λs=>(Hook.obs (kHook K as as_eq) s,Nat.ble 1 s.toks)) (λw=>(Hook.val (kHook K as as_eq) w,true)) 3252:=LeftO.of_pieces (boot_open (by kernel_rfl) (by decide) (λs=>by kernel_rfl)) (H₀:=boot_heap) (H₁:=h1) (gs₀:=⟨[]⟩) (m₀:=11) (ann:=an) (M:=12+(1+(1564+(2)))) (λw=>by kernel_rfl) (λw os=>run w os) (by decide) λw=>funext λos=>looks_pair (congrFun (lk1 w) os) (looks_pair (congrFun (lk2 w) os) (congrFun (lk3 w) os))
end HD
namespace G
open PySem L2
noncomputable def top(i:Nat):Stmt:=PySem.Challenge.pw_driftmeet_k87_rows_and_logs.main.body.getD i (.Pass ⟨0,0,0,0⟩)
noncomputable def bq:ISs:=.cons (.ret (.bi .strL (.cons (.var 0) (.nil)))) (.nil)
noncomputable def bY:ISs:=.cons (.ret (.bin .Add (.bin .Add (.call 0 (.cons (.ix (.var 0) (.con (.int 0))) (.nil))) (.con (.str "."))) (.call 0 (.cons (.ix (.var 0) (.con (.int 1))) (.nil))))) (.nil)
noncomputable def bu:ISs:=.cons (.ret (.ifx (.val (.isB (.var 0) .tuple)) (.call 1 (.cons (.var 0) (.nil))) (.call 0 (.cons (.var 0) (.nil))))) (.nil)
noncomputable def cj:ISs:=.cons (.ret (.bm .join (.con (.str " ")) (.cons (.cat true (.lst true (.cons (.ix (.var 0) (.con (.int 0))) (.nil))) (.comp true ["part"] [none] (.name 0) (.seq (.sl true (.var 0) (.yes (.con (.int 1))) (.no))) (.no) (.call 2 (.cons (.var 0) (.nil))))) (.nil)))) (.nil)
noncomputable def cx:ISs:=.cons (.ret (.bm .join (.con (.str "; ")) (.cons (.comp true ["row"] [none] (.name 0) (.seq (.var 0)) (.no) (.call 3 (.cons (.var 0) (.nil)))) (.nil)))) (.nil)
noncomputable def aL:ISs:=.cons (.ifs (.not (.val (.isB (.var 0) .str))) (.cons (.raise 2 (.cons (.con (.str "this is no text")) (.nil))) (.nil)) (.nil)) (.nil)
noncomputable def br:ISs:=.cons (.ret (.and (.chain .Lt .LtE (.con (.int 0)) (.bi .len (.cons (.var 0) (.nil))) (.glo 1)) (.bi .all (.cons (.comp true ["sign"] [none] (.name 0) (.seq (.var 0)) (.no) (.cmp .In (.var 0) (.glo 0))) (.nil))))) (.nil)
noncomputable def aS:ISs:=.cons (.expr (.call 5 (.cons (.var 0) (.nil)))) (.cons (.set 1 (.ifx (.val (.bm .startswith (.var 0) (.cons (.con (.str "-")) (.nil)))) (.sl true (.var 0) (.yes (.con (.int 1))) (.no)) (.var 0))) (.cons (.ifs (.not (.val (.call 6 (.cons (.var 1) (.nil))))) (.cons (.raise 2 (.cons (.con (.str "a number is written by one to a thousand figures")) (.nil))) (.nil)) (.nil)) (.cons (.ifs (.and (.cmp .Eq (.ix (.var 1) (.con (.int 0))) (.con (.str "0"))) (.cmp .NotEq (.var 0) (.con (.str "0")))) (.cons (.raise 2 (.cons (.con (.str "a nought stands ahead, or a sign ahead of nought")) (.nil))) (.nil)) (.nil)) (.cons (.ret (.bi .int (.cons (.var 0) (.nil)))) (.nil)))))
noncomputable def aI:ISs:=.cons (.expr (.call 5 (.cons (.var 0) (.nil)))) (.cons (.set 2 (.bm .split (.var 0) (.cons (.var 1) (.nil)))) (.cons (.ifs (.cmp .NotEq (.bi .len (.cons (.var 2) (.nil))) (.con (.int 2))) (.cons (.raise 2 (.cons (.con (.str "two parts are to be told")) (.nil))) (.nil)) (.nil)) (.cons (.ret (.var 2)) (.nil))))
noncomputable def aK:ISs:=.cons (.set 1 (.call 8 (.cons (.var 0) (.cons (.con (.str ".")) (.nil))))) (.cons (.ret (.tup (.cons (.call 7 (.cons (.ix (.var 1) (.con (.int 0))) (.nil))) (.cons (.call 7 (.cons (.ix (.var 1) (.con (.int 1))) (.nil))) (.nil))))) (.nil))
noncomputable def bo:ISs:=.cons (.expr (.call 5 (.cons (.var 0) (.nil)))) (.cons (.ret (.ifx (.cmp .Eq (.var 0) (.con (.str ""))) (.lst true (.nil)) (.bm .split (.var 0) (.cons (.var 1) (.nil))))) (.nil))
noncomputable def aE:ISs:=.cons (.expr (.call 5 (.cons (.var 0) (.nil)))) (.cons (.set 1 (.bm .split (.var 0) (.cons (.con (.str " ")) (.nil)))) (.cons (.ifs (.and (.cmp .Eq (.ix (.var 1) (.con (.int 0))) (.con (.str "take"))) (.cmp .Eq (.bi .len (.cons (.var 1) (.nil))) (.con (.int 4)))) (.cons (.ret (.tup (.cons (.con (.str "take")) (.cons (.call 7 (.cons (.ix (.var 1) (.con (.int 1))) (.nil))) (.cons (.call 7 (.cons (.ix (.var 1) (.con (.int 2))) (.nil))) (.cons (.call 9 (.cons (.ix (.var 1) (.con (.int 3))) (.nil))) (.nil))))))) (.nil)) (.nil)) (.cons (.ifs (.cmp .Eq (.bi .len (.cons (.var 1) (.nil))) (.gg 2 (.cons (.ix (.var 1) (.con (.int 0))) (.nil)))) (.cons (.ret (.bi .tuple (.cons (.cat true (.lst true (.cons (.ix (.var 1) (.con (.int 0))) (.nil))) (.compX true ["word"] [none] (.name 0) (.seq (.sl true (.var 1) (.yes (.con (.int 1))) (.no))) (.no) (.call 7 (.cons (.var 0) (.nil))))) (.nil)))) (.nil)) (.nil)) (.cons (.raise 2 (.cons (.con (.str "this is no row of a happening")) (.nil))) (.nil)))))
noncomputable def bM:ISs:=.cons (.ret (.compX true ["part"] [none] (.name 0) (.seq (.call 10 (.cons (.var 0) (.cons (.con (.str "; ")) (.nil))))) (.no) (.call 11 (.cons (.var 0) (.nil))))) (.nil)
noncomputable def aR:ISs:=.cons (.ifs (.cmp .Lt (.var 1) (.bi .len (.cons (.var 0) (.nil)))) (.cons (.ret (.ix (.var 0) (.var 1))) (.nil)) (.nil)) (.cons (.ret (.con (.int 0))) (.nil))
noncomputable def aN:ISs:=.cons (.ifs (.cmp .Eq (.bin .Mod (.var 0) (.con (.int 3))) (.con (.int 0))) (.cons (.ret (.bin .Sub (.bin .Mod (.bin .FloorDiv (.var 0) (.con (.int 3))) (.con (.int 19))) (.con (.int 9)))) (.nil)) (.nil)) (.cons (.ifs (.cmp .Eq (.bin .Mod (.var 0) (.con (.int 3))) (.con (.int 1))) (.cons (.ret (.bin .Sub (.bin .Mod (.bin .FloorDiv (.var 0) (.con (.int 3))) (.con (.int 2000001))) (.con (.int 1000000)))) (.nil)) (.nil)) (.cons (.ret (.bin .Sub (.bin .Mod (.bin .FloorDiv (.var 0) (.con (.int 3))) (.bin .Add (.bin .Mult (.con (.int 2)) (.bin .Pow (.con (.int 10)) (.con (.int 60)))) (.con (.int 1)))) (.bin .Pow (.con (.int 10)) (.con (.int 60))))) (.nil)))
noncomputable def bn:ISs:=.cons (.set 1 (.tup (.cons (.call 14 (.cons (.bin .FloorDiv (.var 0) (.con (.int 4))) (.nil))) (.cons (.call 14 (.cons (.bin .FloorDiv (.var 0) (.con (.int 28))) (.nil))) (.nil))))) (.cons (.set 2 (.call 14 (.cons (.bin .FloorDiv (.var 0) (.con (.int 12))) (.nil)))) (.cons (.ifs (.cmp .Eq (.bin .Mod (.var 0) (.con (.int 4))) (.con (.int 0))) (.cons (.ret (.bin .Add (.tup (.cons (.con (.str "look")) (.nil))) (.var 1))) (.nil)) (.nil)) (.cons (.ifs (.cmp .Eq (.bin .Mod (.var 0) (.con (.int 4))) (.con (.int 1))) (.cons (.ret (.bin .Add (.bin .Add (.tup (.cons (.con (.str "sight")) (.nil))) (.var 1)) (.tup (.cons (.var 2) (.cons (.call 14 (.cons (.bin .FloorDiv (.var 0) (.con (.int 52))) (.nil))) (.nil)))))) (.nil)) (.nil)) (.cons (.ifs (.cmp .Eq (.bin .Mod (.var 0) (.con (.int 4))) (.con (.int 2))) (.cons (.ret (.bin .Add (.bin .Add (.tup (.cons (.con (.str "send")) (.nil))) (.var 1)) (.tup (.cons (.var 2) (.nil))))) (.nil)) (.nil)) (.cons (.ret (.bin .Add (.bin .Add (.tup (.cons (.con (.str "take")) (.nil))) (.var 1)) (.tup (.cons (.tup (.cons (.var 2) (.cons (.call 14 (.cons (.bin .FloorDiv (.var 0) (.con (.int 52))) (.nil))) (.nil)))) (.nil))))) (.nil))))))
noncomputable def aM:ISs:=.cons (.ifs (.val (.isB (.var 2) .tuple)) (.cons (.app (.var 1) (.bin .Add (.bin .Add (.bi .strL (.cons (.ix (.var 2) (.con (.int 0))) (.nil))) (.con (.str "."))) (.bi .strL (.cons (.ix (.var 2) (.con (.int 1))) (.nil))))) (.nil)) (.cons (.app (.var 1) (.bi .strL (.cons (.var 2) (.nil)))) (.nil))) (.nil)
noncomputable def bR:ISs:=.cons (.set 1 (.lst false (.cons (.ix (.var 0) (.con (.int 0))) (.nil)))) (.cons (.for_ (.name 2) (.seq (.sl true (.var 0) (.yes (.con (.int 1))) (.no))) aM) (.cons (.ret (.var 1)) (.nil)))
noncomputable def ak:ISs:=.cons (.set 2 (.call 16 (.cons (.var 0) (.nil)))) (.cons (.set 3 (.bin .Mod (.bin .FloorDiv (.var 1) (.con (.int 10))) (.bi .len (.cons (.var 2) (.nil))))) (.cons (.set 4 (.bin .Mod (.var 1) (.con (.int 10)))) (.cons (.ifs (.cmp .Eq (.var 4) (.con (.int 0))) (.cons (.ret (.bm .join (.con (.str " ")) (.cons (.cat true (.cat true (.sl true (.var 2) (.no) (.yes (.var 3))) (.lst true (.cons (.con (.str "")) (.nil)))) (.sl true (.var 2) (.yes (.var 3)) (.no))) (.nil)))) (.nil)) (.nil)) (.cons (.ifs (.cmp .Eq (.var 4) (.con (.int 1))) (.cons (.ret (.bm .join (.con (.str " ")) (.cons (.cat true (.sl true (.var 2) (.no) (.yes (.var 3))) (.sl true (.var 2) (.yes (.bin .Add (.var 3) (.con (.int 1)))) (.no))) (.nil)))) (.nil)) (.nil)) (.cons (.ifs (.cmp .Eq (.var 4) (.con (.int 2))) (.cons (.ret (.bm .join (.con (.str " ")) (.cons (.cat true (.var 2) (.lst true (.cons (.ix (.lst true (.cons (.con (.str "1")) (.cons (.con (.str "0.0")) (.cons (.con (.str "x")) (.cons (.con (.str "")) (.nil)))))) (.bin .Mod (.bin .FloorDiv (.var 1) (.con (.int 10))) (.con (.int 4)))) (.nil)))) (.nil)))) (.nil)) (.nil)) (.cons (.ifs (.cmp .Eq (.var 4) (.con (.int 3))) (.cons (.ixset (.var 2) (.neg (.con (.int 1))) (.ix (.lst true (.cons (.rpl (.ix (.var 2) (.neg (.con (.int 1)))) "." "") (.cons (.bin .Add (.ix (.var 2) (.neg (.con (.int 1)))) (.con (.str ".0"))) (.nil)))) (.bi .int (.cons (.cmp .NotEq (.ix (.var 0) (.con (.int 0))) (.con (.str "take"))) (.nil))))) (.cons (.ret (.bm .join (.con (.str " ")) (.cons (.var 2) (.nil)))) (.nil))) (.nil)) (.cons (.ifs (.cmp .Eq (.var 4) (.con (.int 4))) (.cons (.ixset (.var 2) (.bin .Add (.con (.int 1)) (.bin .Mod (.bin .FloorDiv (.var 1) (.con (.int 10))) (.con (.int 2)))) (.ix (.lst true (.cons (.con (.str "0.0")) (.cons (.con (.str "+1")) (.cons (.con (.str "01")) (.cons (.con (.str "-0")) (.cons (.con (.str "")) (.cons (.con (.str "1_0")) (.nil)))))))) (.bin .Mod (.bin .FloorDiv (.var 1) (.con (.int 20))) (.con (.int 6))))) (.cons (.ret (.bm .join (.con (.str " ")) (.cons (.var 2) (.nil)))) (.nil))) (.nil)) (.cons (.ifs (.cmp .Eq (.var 4) (.con (.int 5))) (.cons (.ixset (.var 2) (.con (.int 0)) (.ix (.lst true (.cons (.bm .upper (.ix (.var 2) (.con (.int 0))) (.nil)) (.cons (.bin .Add (.ix (.var 2) (.con (.int 0))) (.con (.str "s"))) (.cons (.sl true (.ix (.var 2) (.con (.int 0))) (.yes (.con (.int 1))) (.no)) (.cons (.con (.str "log")) (.nil)))))) (.bin .Mod (.bin .FloorDiv (.var 1) (.con (.int 10))) (.con (.int 4))))) (.cons (.ret (.bm .join (.con (.str " ")) (.cons (.var 2) (.nil)))) (.nil))) (.nil)) (.cons (.ifs (.cmp .Eq (.var 4) (.con (.int 6))) (.cons (.ret (.bm .join (.con (.str ",")) (.cons (.var 2) (.nil)))) (.nil)) (.nil)) (.cons (.ret (.ix (.lst true (.cons (.con (.str "")) (.cons (.con (.str " ")) (.cons (.con (.str "look")) (.cons (.con (.str "look 0")) (.cons (.con (.str "take 0 0 0")) (.cons (.con (.str "sight 0 0 0")) (.cons (.con (.str "send 0 0 0 0")) (.cons (.con (.str "look 0 0;")) (.nil)))))))))) (.bin .Mod (.bin .FloorDiv (.var 1) (.con (.int 10))) (.con (.int 8))))) (.nil)))))))))))
noncomputable def cI:ISs:=.cons (.ifs (.or (.not (.val (.isB (.var 4) .int))) (.val (.isB (.var 4) .bool))) (.cons (.ret (.con (.bl false))) (.nil)) (.nil)) (.nil)
noncomputable def cY:ISs:=.cons (.set 3 (.lst true (.cons (.var 2) (.nil)))) (.cons (.ifs (.val (.isB (.var 2) .tuple)) (.cons (.set 3 (.bi (.list true) (.cons (.var 2) (.nil)))) (.nil)) (.nil)) (.cons (.for_ (.name 4) (.seq (.var 3)) cI) (.nil)))
noncomputable def bV:ISs:=.cons (.ifs (.or (.not (.val (.isB (.var 0) .tuple))) (.or (.cmp .NotEq (.var 0) (.var 1)) (.not (.val (.isB (.ix (.var 0) (.con (.int 0))) .str))))) (.cons (.ret (.con (.bl false))) (.nil)) (.nil)) (.cons (.for_ (.name 2) (.seq (.sl true (.var 0) (.yes (.con (.int 1))) (.no))) cY) (.cons (.ret (.con (.bl true))) (.nil)))
noncomputable def aB:ISs:=.cons (.set 2 (.con (.str "told"))) (.cons (.try_ (.cons (.ifs (.cmp .Eq (.var 0) (.con (.int 0))) (.cons (.expr (.call 11 (.cons (.var 1) (.nil)))) (.nil)) (.cons (.expr (.call 12 (.cons (.var 1) (.nil)))) (.nil))) (.nil)) (.cons 0 (some 3) (.cons (.set 2 (.con (.str "other"))) (.cons (.ifs (.and (.val (.isC (.var 3) 2)) (.and (.not (.val (.isC (.var 3) 1))) (.not (.val (.isC (.var 3) 3))))) (.cons (.set 2 (.con (.str "none"))) (.nil)) (.nil)) (.nil))) (.nil))) (.cons (.ret (.cmp .Eq (.var 2) (.con (.str "none")))) (.nil)))
noncomputable def aT:ISs:=.cons (.set 2 (.bi (.list true) (.cons (.var 0) (.nil)))) (.cons (.set 3 (.call 4 (.cons (.var 2) (.nil)))) (.cons (.set 4 (.call 12 (.cons (.var 1) (.nil)))) (.cons (.ifs (.or (.not (.val (.isB (.var 3) .str))) (.or (.cmp .NotEq (.var 3) (.var 1)) (.cmp .NotEq (.var 2) (.var 0)))) (.cons (.ret (.con (.bl false))) (.nil)) (.nil)) (.cons (.ifs (.or (.not (.val (.isB (.var 4) .list))) (.cmp .NotEq (.bi .len (.cons (.var 4) (.nil))) (.bi .len (.cons (.var 0) (.nil))))) (.cons (.ret (.con (.bl false))) (.nil)) (.nil)) (.cons (.ret (.bi .all (.cons (.comp true ["_law_one","_law_row_here"] [none,none] (.tup [0,1]) (.zip (.var 4) (.var 0)) (.no) (.call 18 (.cons (.var 0) (.cons (.var 1) (.nil))))) (.nil)))) (.nil))))))
noncomputable def gK:ISs:=.cons (.set 6 (.call 3 (.cons (.var 3) (.nil)))) (.cons (.ifs (.or (.not (.val (.isB (.var 6) .str))) (.or (.cmp .NotEq (.var 6) (.var 4)) (.not (.val (.call 18 (.cons (.call 11 (.cons (.var 4) (.nil))) (.cons (.var 3) (.nil)))))))) (.cons (.ret (.con (.bl false))) (.nil)) (.nil)) (.cons (.ifs (.not (.val (.call 19 (.cons (.con (.int 0)) (.cons (.call 17 (.cons (.var 3) (.cons (.bin .FloorDiv (.var 5) (.con (.int 4))) (.nil)))) (.nil)))))) (.cons (.ret (.con (.bl false))) (.nil)) (.nil)) (.nil)))
noncomputable def lW:ISs:=.cons (.set 1 (.comp true ["_law_cell"] [none] (.name 0) (.seq (.sl true (.var 0) (.yes (.con (.int 1))) (.yes (.con (.int 31))))) (.no) (.call 15 (.cons (.var 0) (.nil))))) (.cons (.set 2 (.comp true ["_law_row_here"] [none] (.name 0) (.seq (.var 1)) (.no) (.bm .join (.con (.str " ")) (.cons (.frz (.call 16 (.cons (.var 0) (.nil)))) (.nil))))) (.cons (.for_ (.tup [3,4,5]) (.zip3 (.var 1) (.var 2) (.cat true (.sl true (.var 0) (.yes (.con (.int 2))) (.yes (.con (.int 31)))) (.sl true (.var 0) (.no) (.yes (.con (.int 1)))))) gK) (.cons (.ifs (.not (.val (.call 20 (.cons (.var 1) (.cons (.bm .join (.con (.str "; ")) (.cons (.var 2) (.nil))) (.nil)))))) (.cons (.ret (.con (.bl false))) (.nil)) (.nil)) (.cons (.set 5 (.call 13 (.cons (.var 0) (.cons (.con (.int 0)) (.nil))))) (.cons (.set 7 (.ix (.lst true (.cons (.con .non) (.cons (.con (.int 5)) (.cons (.tup (.cons (.con (.str "look")) (.cons (.con (.int 0)) (.cons (.con (.int 0)) (.nil))))) (.nil))))) (.bin .Mod (.var 5) (.con (.int 3))))) (.cons (.ifs (.or (.not (.val (.call 19 (.cons (.con (.int 0)) (.cons (.var 7) (.nil)))))) (.or (.not (.val (.call 19 (.cons (.con (.int 1)) (.cons (.var 7) (.nil)))))) (.not (.val (.call 19 (.cons (.con (.int 0)) (.cons (.con (.str "")) (.nil)))))))) (.cons (.ret (.con (.bl false))) (.nil)) (.nil)) (.cons (.ifs (.cmp .Eq (.var 1) (.lst true (.nil))) (.cons (.ret (.cmp .Eq (.call 12 (.cons (.con (.str "")) (.nil))) (.lst true (.nil)))) (.nil)) (.nil)) (.cons (.set 8 (.bin .Mod (.bin .FloorDiv (.var 5) (.con (.int 3))) (.bi .len (.cons (.var 1) (.nil))))) (.cons (.set 9 (.call 17 (.cons (.ix (.var 1) (.var 8)) (.cons (.bin .FloorDiv (.var 5) (.con (.int 90))) (.nil))))) (.cons (.ifs (.or (.not (.val (.call 19 (.cons (.con (.int 0)) (.cons (.var 9) (.nil)))))) (.not (.val (.call 19 (.cons (.con (.int 1)) (.cons (.bm .join (.con (.str "; ")) (.cons (.cat true (.var 2) (.lst true (.cons (.con (.str "look 0 0")) (.cons (.var 9) (.nil))))) (.nil))) (.nil))))))) (.cons (.ret (.con (.bl false))) (.nil)) (.nil)) (.cons (.set 10 (.bm .join (.con (.str "; ")) (.cons (.cat true (.var 2) (.sl true (.var 2) (.no) (.yes (.con (.int 1))))) (.nil)))) (.cons (.set 11 (.lst false (.cons (.bin .Add (.var 10) (.con (.str "; "))) (.cons (.bin .Add (.con (.str "; ")) (.var 10)) (.cons (.rpl (.var 10) "; " ";") (.cons (.rpl (.var 10) "; " ";  ") (.nil))))))) (.cons (.app (.var 11) (.rpl (.var 10) "; " "; ; ")) (.cons (.ret (.call 19 (.cons (.con (.int 1)) (.cons (.ix (.var 11) (.bin .Mod (.bin .FloorDiv (.var 5) (.con (.int 7))) (.con (.int 5)))) (.nil))))) (.nil)))))))))))))))
noncomputable def ig:FL:={name:="show_number",qual:="show_number",glob:=true,cl:=true,st:=top 9,N:=["number"],ps:=["number"],body:=bq}
noncomputable def ka:FL:={name:="show_name",qual:="show_name",glob:=true,cl:=true,st:=top 10,N:=["name"],ps:=["name"],body:=bY}
noncomputable def kE:FL:={name:="show_part",qual:="show_part",glob:=true,cl:=true,st:=top 11,N:=["part"],ps:=["part"],body:=bu}
noncomputable def kM:FL:={name:="show_row",qual:="show_row",glob:=true,cl:=true,st:=top 12,N:=["row"],ps:=["row"],body:=cj}
noncomputable def ly:FL:={name:="show_log",qual:="show_log",glob:=true,cl:=true,st:=top 13,N:=["log"],ps:=["log"],body:=cx}
noncomputable def gR:FL:={name:="refuse_other",qual:="refuse_other",glob:=true,cl:=true,st:=top 14,N:=["text"],ps:=["text"],body:=aL}
noncomputable def hD:FL:={name:="are_figures",qual:="are_figures",glob:=true,cl:=true,st:=top 15,N:=["text"],ps:=["text"],body:=br}
noncomputable def hJ:FL:={name:="read_number",qual:="read_number",glob:=true,cl:=true,st:=top 16,N:=["text","figures"],ps:=["text"],body:=aS}
noncomputable def gS:FL:={name:="split_in_two",qual:="split_in_two",glob:=true,cl:=true,st:=top 17,N:=["text","sign","parts"],ps:=["text","sign"],body:=aI}
noncomputable def kl:FL:={name:="read_name",qual:="read_name",glob:=true,cl:=true,st:=top 18,N:=["text","parts"],ps:=["text"],body:=aK}
noncomputable def kU:FL:={name:="parts_of",qual:="parts_of",glob:=true,cl:=true,st:=top 19,N:=["text","sign"],ps:=["text","sign"],body:=bo}
noncomputable def kR:FL:={name:="read_row",qual:="read_row",glob:=true,cl:=true,st:=top 20,N:=["text","words"],ps:=["text"],body:=aE}
noncomputable def lI:FL:={name:="read_log",qual:="read_log",glob:=true,cl:=true,st:=top 21,N:=["text"],ps:=["text"],body:=bM}
noncomputable def hW:FL:={name:="_law_cell_at",qual:="_law_cell_at",glob:=true,cl:=true,st:=top 23,N:=["_law_script","_law_k"],ps:=["_law_script","_law_k"],body:=aR}
noncomputable def jd:FL:={name:="_law_number",qual:="_law_number",glob:=true,cl:=true,st:=top 24,N:=["_law_cell"],ps:=["_law_cell"],body:=aN}
noncomputable def nE:FL:={name:="_law_row",qual:="_law_row",glob:=true,cl:=true,st:=top 25,N:=["_law_cell","_law_head","_law_third"],ps:=["_law_cell"],body:=bn}
noncomputable def jN:FL:={name:="_law_words",qual:="_law_words",glob:=true,cl:=false,st:=top 26,N:=["_law_row_here","_law_words_here","_law_part"],ps:=["_law_row_here"],body:=bR}
noncomputable def je:FL:={name:="_law_spoilt",qual:="_law_spoilt",glob:=true,cl:=true,st:=top 27,N:=["_law_row_here","_law_cell","_law_words_here","_law_part","_law_kind"],ps:=["_law_row_here","_law_cell"],body:=ak}
noncomputable def ko:FL:={name:="_law_equal",qual:="_law_equal",glob:=true,cl:=true,st:=top 28,N:=["_law_found","_law_row_here","_law_part","_law_numbers","_law_number_here"],ps:=["_law_found","_law_row_here"],body:=bV}
noncomputable def hU:FL:={name:="_law_refused",qual:="_law_refused",glob:=true,cl:=true,st:=top 29,N:=["_law_way","_law_text","_law_word","e"],ps:=["_law_way","_law_text"],body:=aB}
noncomputable def fv:FL:={name:="_law_log_right",qual:="_law_log_right",glob:=true,cl:=true,st:=top 30,N:=["_law_log","_law_text","_law_handed","_law_shown","_law_found"],ps:=["_law_log","_law_text"],body:=aT}
noncomputable def l_law:FL:={name:="law",qual:="law",glob:=true,cl:=true,st:=top 31,N:=["_law_script","_law_log","_law_texts","_law_row_here","_law_text","_law_cell","_law_shown","_law_odd","_law_at","_law_spoilt_here","_law_whole","_law_some"],ps:=["_law_script"],body:=lW}
noncomputable def L:List FL:=[ig,ka,kE,kM,ly,gR,hD,hJ,gS,kl,kU,kR,lI,hW,jd,nE,jN,je,ko,hU,fv,l_law]
noncomputable def xinT:List (Nat×Nat):=[]
noncomputable def nm:NM:=⟨["DriftError","NoHappening","NoText","NoRow"],[],["FIGURES","MOST_FIGURES","LENGTHS"],xinT⟩
noncomputable def xin(i:Nat):Option Nat:=xinT.lookup i
noncomputable def subT:List (List Bool):=[[true,false,false,false],[true,true,false,false],[true,false,true,false],[true,false,false,true]]
noncomputable def sub(i j:Nat):Bool:=(subT.getD i []).getD j false
noncomputable def ksubT:List (List Bool):=[]
noncomputable def ksub(i j:Nat):Bool:=(ksubT.getD i []).getD j false
noncomputable def fokT:List (List Nat):=[]
noncomputable def fok(i f:Nat):Bool:=(fokT.getD i []).contains f
noncomputable def mthT:List (List (Nat×Nat)):=[]
noncomputable def mth(i m:Nat):Option Nat:=(mthT.getD i []).lookup m
noncomputable def xz:List Nat:=[]
noncomputable def ini(i:Nat):Option Nat:=xz[i]?
noncomputable def gloT:List D:=[.str "0123456789",.int 1000,.dik [.inr "look",.inr "sight",.inr "send"] [.int 3,.int 5,.int 4]]
noncomputable def glo(k:Nat):D:=gloT.getD k .non
noncomputable def B(cls kls fad:Nat->Addr):WB:={ne:=4,cls:=cls,sub:=sub,nk:=0,kls:=kls,ksub:=ksub,fok:=fok,mth:=mth,ini:=ini,xin:=xin,glo:=glo,fad:=fad}
section
variable {cls kls fad:Nat->Addr}
@[simp] theorem Ec:(B cls kls fad).ne=4:=rfl
@[simp] theorem DE:(B cls kls fad).cls=cls:=rfl
@[simp] theorem DQ:(B cls kls fad).sub=sub:=rfl
@[simp] theorem Ev:(B cls kls fad).nk=0:=rfl
@[simp] theorem CY:(B cls kls fad).kls=kls:=rfl
@[simp] theorem Cj:(B cls kls fad).ksub=ksub:=rfl
@[simp] theorem Ea:(B cls kls fad).fok=fok:=rfl
@[simp] theorem Dm:(B cls kls fad).mth=mth:=rfl
@[simp] theorem DL:(B cls kls fad).ini=ini:=rfl
@[simp] theorem Dz:(B cls kls fad).xin=xin:=rfl
@[simp] theorem CV:(B cls kls fad).glo=glo:=rfl
end
@[simp] theorem AO:sub 0 0=true:=rfl
@[simp] theorem AG:sub 0 1=false:=rfl
@[simp] theorem zW:sub 0 2=false:=rfl
@[simp] theorem zN:sub 0 3=false:=rfl
@[simp] theorem As:sub 1 0=true:=rfl
@[simp] theorem AI:sub 1 1=true:=rfl
@[simp] theorem AX:sub 1 2=false:=rfl
@[simp] theorem zr:sub 1 3=false:=rfl
@[simp] theorem Ae:sub 2 0=true:=rfl
@[simp] theorem AE:sub 2 1=false:=rfl
@[simp] theorem AJ:sub 2 2=true:=rfl
@[simp] theorem Af:sub 2 3=false:=rfl
@[simp] theorem AQ:sub 3 0=true:=rfl
@[simp] theorem zK:sub 3 1=false:=rfl
@[simp] theorem zy:sub 3 2=false:=rfl
@[simp] theorem AM:sub 3 3=true:=rfl
@[simp] theorem CW:glo 0=.str "0123456789":=rfl
@[simp] theorem DG:glo 1=.int 1000:=rfl
@[simp] theorem Dr:glo 2=.dik [.inr "look",.inr "sight",.inr "send"] [.int 3,.int 5,.int 4]:=rfl
noncomputable def T:List FB:=[⟨1,1,true,bq,[]⟩,⟨1,1,true,bY,[]⟩,⟨1,1,true,bu,[]⟩,⟨1,1,true,cj,[]⟩,⟨1,1,true,cx,[]⟩,⟨1,1,true,aL,[]⟩,⟨1,1,true,br,[]⟩,⟨1,2,true,aS,[]⟩,⟨2,3,true,aI,[]⟩,⟨1,2,true,aK,[]⟩,⟨2,2,true,bo,[]⟩,⟨1,2,true,aE,[]⟩,⟨1,1,true,bM,[]⟩,⟨2,2,true,aR,[]⟩,⟨1,1,true,aN,[]⟩,⟨1,3,true,bn,[]⟩,⟨1,3,false,bR,[]⟩,⟨2,5,true,ak,[]⟩,⟨2,5,true,bV,[]⟩,⟨2,4,true,aB,[]⟩,⟨2,5,true,aT,[]⟩,⟨1,12,true,lW,[]⟩]
theorem Bd:L.map FL.fb=T:=rfl
section
variable {B:WB}{M:MH}{Q:VK3}{E:XN}{n:Nat}
theorem ic{x0:D}:aa T B (n+1) 0 [x0] M Q E=av {toWB:=B,call:=aa T B n} bq {nx:=λ_ M'=>Q .non (ac M M'),rt:=λv M'=>Q v (ac M M')} (λ_ i M'=>E i (ac M M')) [some x0] M:=propext ⟨λh=>h.2,λh=>⟨rfl,h⟩⟩
theorem j5{x0:D}:aa T B (n+1) 1 [x0] M Q E=av {toWB:=B,call:=aa T B n} bY {nx:=λ_ M'=>Q .non (ac M M'),rt:=λv M'=>Q v (ac M M')} (λ_ i M'=>E i (ac M M')) [some x0] M:=propext ⟨λh=>h.2,λh=>⟨rfl,h⟩⟩
theorem fi{x0:D}:aa T B (n+1) 2 [x0] M Q E=av {toWB:=B,call:=aa T B n} bu {nx:=λ_ M'=>Q .non (ac M M'),rt:=λv M'=>Q v (ac M M')} (λ_ i M'=>E i (ac M M')) [some x0] M:=propext ⟨λh=>h.2,λh=>⟨rfl,h⟩⟩
theorem lj{x0:D}:aa T B (n+1) 3 [x0] M Q E=av {toWB:=B,call:=aa T B n} cj {nx:=λ_ M'=>Q .non (ac M M'),rt:=λv M'=>Q v (ac M M')} (λ_ i M'=>E i (ac M M')) [some x0] M:=propext ⟨λh=>h.2,λh=>⟨rfl,h⟩⟩
theorem kN{x0:D}:aa T B (n+1) 4 [x0] M Q E=av {toWB:=B,call:=aa T B n} cx {nx:=λ_ M'=>Q .non (ac M M'),rt:=λv M'=>Q v (ac M M')} (λ_ i M'=>E i (ac M M')) [some x0] M:=propext ⟨λh=>h.2,λh=>⟨rfl,h⟩⟩
theorem cQ{x0:D}:aa T B (n+1) 5 [x0] M Q E=av {toWB:=B,call:=aa T B n} aL {nx:=λ_ M'=>Q .non (ac M M'),rt:=λv M'=>Q v (ac M M')} (λ_ i M'=>E i (ac M M')) [some x0] M:=propext ⟨λh=>h.2,λh=>⟨rfl,h⟩⟩
theorem hG{x0:D}:aa T B (n+1) 6 [x0] M Q E=av {toWB:=B,call:=aa T B n} br {nx:=λ_ M'=>Q .non (ac M M'),rt:=λv M'=>Q v (ac M M')} (λ_ i M'=>E i (ac M M')) [some x0] M:=propext ⟨λh=>h.2,λh=>⟨rfl,h⟩⟩
theorem dD{x0:D}:aa T B (n+1) 7 [x0] M Q E=av {toWB:=B,call:=aa T B n} aS {nx:=λ_ M'=>Q .non (ac M M'),rt:=λv M'=>Q v (ac M M')} (λ_ i M'=>E i (ac M M')) [some x0,none] M:=propext ⟨λh=>h.2,λh=>⟨rfl,h⟩⟩
theorem cX{x0 x1:D}:aa T B (n+1) 8 [x0,x1] M Q E=av {toWB:=B,call:=aa T B n} aI {nx:=λ_ M'=>Q .non (ac M M'),rt:=λv M'=>Q v (ac M M')} (λ_ i M'=>E i (ac M M')) [some x0,some x1,none] M:=propext ⟨λh=>h.2,λh=>⟨rfl,h⟩⟩
theorem bX{x0:D}:aa T B (n+1) 9 [x0] M Q E=av {toWB:=B,call:=aa T B n} aK {nx:=λ_ M'=>Q .non (ac M M'),rt:=λv M'=>Q v (ac M M')} (λ_ i M'=>E i (ac M M')) [some x0,none] M:=propext ⟨λh=>h.2,λh=>⟨rfl,h⟩⟩
theorem dM{x0 x1:D}:aa T B (n+1) 10 [x0,x1] M Q E=av {toWB:=B,call:=aa T B n} bo {nx:=λ_ M'=>Q .non (ac M M'),rt:=λv M'=>Q v (ac M M')} (λ_ i M'=>E i (ac M M')) [some x0,some x1] M:=propext ⟨λh=>h.2,λh=>⟨rfl,h⟩⟩
theorem bg{x0:D}:aa T B (n+1) 11 [x0] M Q E=av {toWB:=B,call:=aa T B n} aE {nx:=λ_ M'=>Q .non (ac M M'),rt:=λv M'=>Q v (ac M M')} (λ_ i M'=>E i (ac M M')) [some x0,none] M:=propext ⟨λh=>h.2,λh=>⟨rfl,h⟩⟩
theorem fS{x0:D}:aa T B (n+1) 12 [x0] M Q E=av {toWB:=B,call:=aa T B n} bM {nx:=λ_ M'=>Q .non (ac M M'),rt:=λv M'=>Q v (ac M M')} (λ_ i M'=>E i (ac M M')) [some x0] M:=propext ⟨λh=>h.2,λh=>⟨rfl,h⟩⟩
theorem dm{x0 x1:D}:aa T B (n+1) 13 [x0,x1] M Q E=av {toWB:=B,call:=aa T B n} aR {nx:=λ_ M'=>Q .non (ac M M'),rt:=λv M'=>Q v (ac M M')} (λ_ i M'=>E i (ac M M')) [some x0,some x1] M:=propext ⟨λh=>h.2,λh=>⟨rfl,h⟩⟩
theorem cz{x0:D}:aa T B (n+1) 14 [x0] M Q E=av {toWB:=B,call:=aa T B n} aN {nx:=λ_ M'=>Q .non (ac M M'),rt:=λv M'=>Q v (ac M M')} (λ_ i M'=>E i (ac M M')) [some x0] M:=propext ⟨λh=>h.2,λh=>⟨rfl,h⟩⟩
theorem c8{x0:D}:aa T B (n+1) 15 [x0] M Q E=av {toWB:=B,call:=aa T B n} bn {nx:=λ_ M'=>Q .non (ac M M'),rt:=λv M'=>Q v (ac M M')} (λ_ i M'=>E i (ac M M')) [some x0,none,none] M:=propext ⟨λh=>h.2,λh=>⟨rfl,h⟩⟩
theorem j2{x0:D}:aa T B (n+1) 16 [x0] M Q E=av {toWB:=B,call:=aa T B n} bR {nx:=λ_ M'=>Q .non M',rt:=λv M'=>Q v M'} (λ_ i M'=>E i (ac M M')) [some x0,none,none] M:=propext ⟨λh=>h.2,λh=>⟨rfl,h⟩⟩
theorem ax{x0 x1:D}:aa T B (n+1) 17 [x0,x1] M Q E=av {toWB:=B,call:=aa T B n} ak {nx:=λ_ M'=>Q .non (ac M M'),rt:=λv M'=>Q v (ac M M')} (λ_ i M'=>E i (ac M M')) [some x0,some x1,none,none,none] M:=propext ⟨λh=>h.2,λh=>⟨rfl,h⟩⟩
theorem jX{x0 x1:D}:aa T B (n+1) 18 [x0,x1] M Q E=av {toWB:=B,call:=aa T B n} bV {nx:=λ_ M'=>Q .non (ac M M'),rt:=λv M'=>Q v (ac M M')} (λ_ i M'=>E i (ac M M')) [some x0,some x1,none,none,none] M:=propext ⟨λh=>h.2,λh=>⟨rfl,h⟩⟩
theorem bp{x0 x1:D}:aa T B (n+1) 19 [x0,x1] M Q E=av {toWB:=B,call:=aa T B n} aB {nx:=λ_ M'=>Q .non (ac M M'),rt:=λv M'=>Q v (ac M M')} (λ_ i M'=>E i (ac M M')) [some x0,some x1,none,none] M:=propext ⟨λh=>h.2,λh=>⟨rfl,h⟩⟩
theorem fu{x0 x1:D}:aa T B (n+1) 20 [x0,x1] M Q E=av {toWB:=B,call:=aa T B n} aT {nx:=λ_ M'=>Q .non (ac M M'),rt:=λv M'=>Q v (ac M M')} (λ_ i M'=>E i (ac M M')) [some x0,some x1,none,none,none] M:=propext ⟨λh=>h.2,λh=>⟨rfl,h⟩⟩
theorem yt{x0:D}:aa T B (n+1) 21 [x0] M Q E=av {toWB:=B,call:=aa T B n} lW {nx:=λ_ M'=>Q .non (ac M M'),rt:=λv M'=>Q v (ac M M')} (λ_ i M'=>E i (ac M M')) [some x0,none,none,none,none,none,none,none,none,none,none,none] M:=propext ⟨λh=>h.2,λh=>⟨rfl,h⟩⟩
end
theorem top_mk{P:Params}{h:Heap}{mg:Str->Option Value}(X:(HD.K P).In h)(Gn:h.Ns mainGlobals mg)
  {qt0:Tok}
  (gl0:PySem.W.nsIn (HD.K P) mainGlobals "FIGURES"=some (some (.str "0123456789" qt0)))
  {qt1:Tok}
  (gl1:PySem.W.nsIn (HD.K P) mainGlobals "MOST_FIGURES"=some (some (.int (1000) qt1)))
  {q2:Addr}{qn2:Nat}{qt2_0 qu2_0:Tok}{qt2_1 qu2_1:Tok}{qt2_2 qu2_2:Tok}
  (gl2:PySem.W.nsIn (HD.K P) mainGlobals "LENGTHS"=some (some (.ref q2)))
  (gt2:(HD.K P).lookup q2=some {cls:=.type "dict",data:=.dict #[⟨PyData.keyHash P "look",.str "look" qt2_0,.int 3 qu2_0⟩,⟨PyData.keyHash P "sight",.str "sight" qt2_1,.int 5 qu2_1⟩,⟨PyData.keyHash P "send",.str "send" qt2_2,.int 4 qu2_2⟩] qn2})
  (gs2:(q2 == sysModules)=false)
  : ∃cls kls fad,Top P (HD.K P) mg L nm (B cls kls fad):=by
 refine⟨λi=>([24,37,49,61]:List Nat).getD i 0,λi=>([]:List Nat).getD i 0,λi=>([71,78,85,90,95,102,107,114,121,128,135,140,145,152,159,166,173,180,187,194,199,204]:List Nat).getD i 0,Top.of (fT:=fokT) (mT:=mthT) (iT:=xz) X Gn (by kernel_rfl) (by kernel_rfl) (by kernel_rfl) (ixc (n1 (by intros;rfl)) (ixc (n1 (by intros;rfl)) (ixc (n1 (by intros;rfl)) (ixc (n1 (by intros;rfl)) (ixc (n1 (by intros;rfl)) (ixc (n1 (by intros;rfl)) (ixc (n1 (by intros;rfl)) (ixc (n1 (by intros;rfl)) (ixc (n2 (by intros;rfl)) (ixc (n1 (by intros;rfl)) (ixc (n2 (by intros;rfl)) (ixc (n1 (by intros;rfl)) (ixc (n1 (by intros;rfl)) (ixc (n2 (by intros;rfl)) (ixc (n1 (by intros;rfl)) (ixc (n1 (by intros;rfl)) (ixc (n1 (by intros;rfl)) (ixc (n2 (by intros;rfl)) (ixc (n2 (by intros;rfl)) (ixc (n2 (by intros;rfl)) (ixc (n2 (by intros;rfl)) (ixc (n1 (by intros;rfl)) (ixn))))))))))))))))))))))) (by kernel_rfl) (by kernel_rfl) (by kernel_rfl) (by kernel_rfl) (λ_ _=>rfl) (λ_ _=>rfl) (λ_=>rfl) (by kernel_rfl) ?_ ?_ ?_ (vT (by kernel_rfl))⟩
 ·intro k x hi
  match k,hi with
  |0,hi=>cases hi;exact⟨_,.str "0123456789",PySem.W.mg_of X Gn gl0,⟨_,rfl⟩,λH=>rfl⟩
  |1,hi=>cases hi;exact⟨_,.int (1000),PySem.W.mg_of X Gn gl1,⟨_,rfl⟩,λH=>rfl⟩
  |2,hi=>cases hi;exact⟨_,.ref q2,PySem.W.mg_of X Gn gl2,rfl,q2,[("look",3),("sight",5),("send",4)],rfl,rfl,rfl,[_,_,_],qn2,gt2,gs2,.cons ⟨(λw e=>by subst e;rfl),⟨_,rfl⟩,_,rfl⟩ (.cons ⟨(λw e=>by subst e;rfl),⟨_,rfl⟩,_,rfl⟩ (.cons ⟨(λw e=>by subst e;rfl),⟨_,rfl⟩,_,rfl⟩ (.nil))),by decide +kernel⟩
  |n+3,hi=>simp[nm]at hi
 ·intro i f hx;cases (show ([]:List (Nat×Nat)).lookup i=some f from hx)
 ·intro i f hi hx;cases (show ([]:List (Nat×Nat)).lookup i=some f from hx)
end G
namespace G
open L2
section
variable {cls kls fad:Nat->PySem.Addr}{M:MH}{Q:VK3}{E:XN}{n:Nat}{z y:PySem.Str}{i:Int}
theorem szl{k:Nat}(h:k<=10000):k<=PySem.sizeLine:=Nat.le_trans h (by decide)
theorem aY{k:Int}(h:k.natAbs < 10 ^ 62):k.natAbs < 10 ^ 4300:=Nat.lt_of_lt_of_le h (Nat.pow_le_pow_right (by decide) (by decide))
theorem w6{k:Int}(h:k.natAbs < 10 ^ 62):k.natAbs < 10 ^ 1000:=Nat.lt_of_lt_of_le h (Nat.pow_le_pow_right (by decide) (by decide))
theorem lF(h:i.natAbs < 10 ^ 62):aa T (B cls kls fad) (n+1) 0 [.int i] M Q E=Q (.str (tx i)) M:=by
 simp[ic,bq,aY h,tx]
theorem aJ:aa T (B cls kls fad) (n+1) 5 [.str z] M Q E=Q .non M:=by
 simp[cQ,aL]
noncomputable def dJ:D->Bool
 |.non=>true|.int _=>true|.tup _=>true|.rol _=>true|_=>false
theorem fj{x:D}(h:dJ x=true):aa T (B cls kls fad) (n+1) 5 [x] M Q E=E ⟨2,none⟩ M:=by
 cases x<;>first|(simp[dJ]at h;done)|simp[cQ,aL,aq]
noncomputable def gV(z:PySem.Str):Bool:=decide (0 < z.length)&&decide (z.length<=1000)&&dP z
noncomputable def inF:D->D
 |.str s=>.bl (fq s "0123456789")
 |_=>.non
theorem kT(hM:Fm M)(hz:z.length<=10000):aa T (B cls kls fad) (n+1) 6 [.str z] M Q E=Q (.bl (gV z)) M:=by
 simp[hG,br,szl hz];have e:ai [none] [some (D.str z)]=[none]:=rfl;by_cases h1:0 < z.length
 ·by_cases h2:z.length<=1000
  ·have h2':(z.length:Int)<=1000:=by omega
   rw[if_pos h1,if_pos h2',e,cf inF hM (by rw[cW,List.length_map,am];omega) (λd hd M' _ Q=>by
    obtain⟨c,_,rfl⟩:=List.mem_map.mp hd;simp[inF])]
   rw[cW,List.map_map,lL (g:=inF∘λc=>D.str ⟨#[c]⟩) (λc=>fq ⟨#[c]⟩ "0123456789") λc _=>rfl]
   simp[gV,h1,h2,dP]
  ·have h2':¬ (z.length:Int)<=1000:=by omega
   rw[if_pos h1,if_neg h2'];simp[gV,h2]
 ·rw[if_neg h1];simp[gV,h1]
theorem qz{s:PySem.Str}(h:gV s=true):0 < s.length/\s.length<=1000/\dP s=true:=by
 simp only[gV,Bool.and_eq_true,decide_eq_true_eq]at h;exact⟨h.1.1,h.1.2,h.2⟩
theorem kW(z:PySem.Str):okN z=(gV (bv z)&&!(decide (cR (bv z) 0 = "0")&&!decide (z = "0"))):=rfl
theorem xN:PySem.Txt.startswith "0" "-"=false:=by decide +kernel
theorem oa:bv "0" = "0":=if_neg (by rw[xN];exact Bool.false_ne_true)
theorem lx:gV "0"=true:=by decide +kernel
theorem Bp:okN "0"=true:=by rw[kW,oa,lx];simp
theorem xb:PySem.intText? "0"=some (num "0"):=by
 obtain⟨h1,h2,h3⟩:=qz (s:=bv "0") (by rw[oa];exact lx)
 exact li h1 h2 h3
theorem yO:("0" : PySem.Str).length=1:=by decide +kernel
noncomputable def rdN(z:PySem.Str):Option D:=if okN z=true then some (.int (num z)) else none
noncomputable def rdQ(r:Option D)(M:MH)(Q:VK3)(E:XN):Prop:=match r with
 |some y=>Q y M
 |none=>E ⟨2,none⟩ M
@[simp ↓] theorem yh{y:D}:rdQ (some y) M Q E=Q y M:=rfl
@[simp ↓] theorem wP:rdQ none M Q E=E ⟨2,none⟩ M:=rfl
theorem ge(hM:Fm M)(hz:z.length<=10000):aa T (B cls kls fad) (n+2) 7 [.str z] M Q E=rdQ (rdN z) M Q E:=by
 have hf:=Nat.le_trans (rk z) hz;unfold rdN;by_cases c2:z = "0"
 ·subst c2;simp[dD,aS,aJ,szl hz,xN];rw[kT hM hz,lx];simp[kP xb,Bp,yO,aq]
 simp[dD,aS,aJ,szl hz,c2];by_cases sw:PySem.Txt.startswith z "-"=true
 ·have ef:bv z=PySem.Txt.slice z (some 1) none:=if_pos sw;rw[if_pos sw,<-ef,kT hM hf,kW];cases h:gV (bv z) with
  |false=>simp[aq]
  |true=>
   obtain⟨l1,l2,l3⟩:=qz h;by_cases c1:cR (bv z) 0 = "0"<;>simp[kP (li l1 l2 l3),szl hz,aq,c1,c2,l1]
 ·have ef:bv z=z:=if_neg sw;rw[if_neg sw,kT hM hz,kW,ef];cases h:gV z with
  |false=>simp[aq]
  |true=>
   have h':gV (bv z)=true:=by rw[ef];exact h
   obtain⟨l1,l2,l3⟩:=qz h';obtain⟨k1,k2,k3⟩:=qz h;by_cases c1:cR z 0 = "0"<;>simp[kP (li l1 l2 l3),szl hz,aq,k1,c1,c2]
theorem i9(hz:z.length<=9000):(PySem.Txt.split z y).length<=PySem.sizeLine:=szl (Nat.le_trans (eP z y) (by omega))
theorem fH(hz:z.length<=9000)(hy:y.length≠0):aa T (B cls kls fad) (n+2) 8 [.str z,.str y] M Q E=(if (PySem.Txt.split z y).length=2 then Q (.rol ((PySem.Txt.split z y).map D.str)) M else E ⟨2,none⟩ M):=by
 by_cases h:(PySem.Txt.split z y).length=2
 ·simp[cX,aI,aJ,szl (show z.length<=10000 by omega),i9 hz,hy,h,aq]
 ·have h':¬ ((PySem.Txt.split z y).length:Int)=2:=by omega
  simp[cX,aI,aJ,szl (show z.length<=10000 by omega),i9 hz,hy,h,h',aq]
theorem rP:("." : PySem.Str).length≠0:=by decide +kernel
noncomputable def rdP(z:PySem.Str):Option D:=match PySem.Txt.split z "." with
 |[a,b]=>match rdN a,rdN b with
  |some x,some y=>some (.tup [x,y])
  |_,_=>none
 |_=>none
theorem kc(hM:Fm M)(hz:z.length<=9000):aa T (B cls kls fad) (n+3) 9 [.str z] M Q E=rdQ (rdP z) M Q E:=by
 rcases hsp:PySem.Txt.split z "." with _|⟨a,_|⟨b,_|⟨c,r⟩⟩⟩
 ·simp[bX,aK,fH hz rP,hsp,rdP]
 ·simp[bX,aK,fH hz rP,hsp,rdP]
 ·have la:a.length<=10000:=Nat.le_trans (cB (z:=z) (y:=".") (by rw[hsp];simp)) (by omega)
  have lb:b.length<=10000:=Nat.le_trans (cB (z:=z) (y:=".") (by rw[hsp];simp)) (by omega)
  cases ha:rdN a<;>cases hb:rdN b<;>simp[bX,aK,fH hz rP,hsp,rdP,ge hM la,ge hM lb,ha,hb,aq]
 ·simp[bX,aK,fH hz rP,hsp,rdP]
noncomputable def eG(y z:PySem.Str):List PySem.Str:=if z = "" then [] else PySem.Txt.split z y
theorem gX:(" " : PySem.Str).length≠0:=by decide +kernel
theorem xo:("; " : PySem.Str).length≠0:=by decide +kernel
theorem rJ(hz:z.length<=9000)(hy:y.length≠0):aa T (B cls kls fad) (n+2) 10 [.str z,.str y] M Q E=Q (.rol ((eG y z).map D.str)) M:=by
 unfold eG;by_cases h:z = ""
 ·simp[dM,bo,aJ,h,aq]
 ·simp[dM,bo,aJ,h,szl (show z.length<=10000 by omega),i9 hz,hy]
theorem ls{x:D}(h:dJ x=true):aa T (B cls kls fad) (n+2) 10 [x,.str y] M Q E=E ⟨2,none⟩ M:=by
 simp[dM,bo,fj h]
theorem oq(y z:PySem.Str):(eG y z).length<=z.length+2:=by
 unfold eG;split
 ·simp
 ·exact eP _ _
theorem nu{p:PySem.Str}(h:p∈eG y z):p.length<=z.length:=by
 unfold eG at h;split at h
 ·cases h
 ·exact cB h
noncomputable def onS(f:PySem.Str->Option D):D->Option D
 |.str s=>f s
 |_=>none
noncomputable def vo:Option (List D)->Option D
 |some ys=>some (.rol ys)
 |none=>none
noncomputable def cn(z:PySem.Str):Option Nat:=if z = "look" then some 3 else if z = "sight" then some 5 else if z = "send" then some 4 else none
theorem fB:(getD ([Sum.inr (PySem.Str.ofString "look"),Sum.inr (PySem.Str.ofString "sight"),Sum.inr (PySem.Str.ofString "send")]:List Key) [D.int 3,D.int 5,D.int 4] (Sum.inr z:Key)).getD .non=(match cn z with|some k=>.int k|none=>.non):=by
 unfold cn;by_cases h1:z = "look"
 ·simp[getD,h1]
 by_cases h2:z = "sight"
 ·simp +decide [getD,h2]
 by_cases h3:z = "send"
 ·simp +decide [getD,h3]
 have e1:¬ PySem.Str.ofString "look"=z:=λe=>h1 e.symm
 have e2:¬ PySem.Str.ofString "sight"=z:=λe=>h2 e.symm
 have e3:¬ PySem.Str.ofString "send"=z:=λe=>h3 e.symm
 simp[getD,h1,h2,h3,e1,e2,e3]
theorem eY{w:List Nat}:∀(x:List Nat)(k:Nat),spl w x k≠[]
 |[],_,h=>nomatch h
 |c::r,0,h=>by
  unfold spl at h;split at h
  ·cases h
  ·cases q:spl w r 0 with
   |nil=>exact eY r 0 q
   |cons p t=>rw[q]at h;cases h
 |_::r,k+1,h=>eY r k h
theorem xf:PySem.Txt.split z " "≠[]:=by
 rw[aO (by decide +kernel) (by decide +kernel)]
 intro h;exact eY _ _ (List.map_eq_nil_iff.mp h)
noncomputable def jS(z:PySem.Str):Option (List D)->Option D
 |some ys=>some (.tup (.str z::ys))
 |none=>none
noncomputable def rdW:List PySem.Str->Option D
 |[]=>none
 |w::ws=>if w = "take"/\ws.length=3 then (match ws with
   |[a,b,c]=>match rdN a,rdN b,rdP c with
    |some x,some y,some u=>some (.tup [.str "take",x,y,u])
    |_,_,_=>none
   |_=>none)
  else if cn w=some (ws.length+1) then jS w (bJ (onS rdN) (ws.map D.str)) else none
noncomputable def rdR(z:PySem.Str):Option D:=rdW (PySem.Txt.split z " ")
theorem jZ{f:D->Option D}:∀{xs ys:List D},bJ f xs=some ys->ys.length=xs.length
 |[],ys,h=>by cases h;rfl
 |x::r,ys,h=>by
  unfold bJ at h;cases q:f x with
  |none=>rw[q]at h;cases h
  |some y=>
   cases q2:bJ f r with
   |none=>simp[q,q2]at h
   |some zs=>
    simp[q,q2]at h;subst h;simp[jZ q2]
theorem qW{x:D}{l:List D}:bO (x::l) (some 1) none=l:=by
 unfold bO HT.sIx;simp
theorem sJ:aj .Eq (.int i) .non M Q=Q (.bl false) M:=by simp[aj,dI,rs,pl,plN,eqD,af]
theorem jm{ks:List Key}{ds:List D}:ra (.dik ks ds)=true:=rfl
theorem gM:cn "take"=none:=by decide +kernel
theorem dQ(hM:Fm M)(hz:z.length<=9000):aa T (B cls kls fad) (n+4) 11 [.str z] M Q E=rdQ (rdR z) M Q E:=by
 have hp:∀p∈PySem.Txt.split z " ",p.length<=9000:=λp h=>Nat.le_trans (cB h) hz
 have hs:=i9 (y:=" ") hz;have hs9:=eP z " ";have s0:=szl (show z.length<=10000 by omega)
 unfold rdR;cases hsp:PySem.Txt.split z " " with
 |nil=>exact absurd hsp xf
 |cons w ws=>
  rw[hsp]at hp hs hs9;simp only[List.length_cons]at hs hs9;by_cases ht:w = "take"
  ·subst ht;by_cases hl:ws.length=3
   ·obtain⟨a,b,c,rfl⟩:∃a b c,ws=[a,b,c]:=by
     rcases ws with _|⟨a,_|⟨b,_|⟨c,_|⟨d,r⟩⟩⟩⟩<;>simp at hl
     exact⟨a,b,c,rfl⟩
    have la:a.length<=10000:=Nat.le_trans (hp a (by simp)) (by omega)
    have lb:b.length<=10000:=Nat.le_trans (hp b (by simp)) (by omega)
    have lc:c.length<=9000:=hp c (by simp)
    cases ha:rdN a<;>cases hb:rdN b<;>cases hc:rdP c<;>simp[bg,aE,aJ,hsp,s0,gX,aq,ge hM la,ge hM lb,kc hM lc,ha,hb,hc,rdW]
   ·have hl':¬ ((ws.length:Int)+1=4):=by omega
    have e:rdW ("take"::ws)=none:=by simp[rdW,hl,gM]
    rw[e];simp[bg,aE,aJ,hsp,s0,hs,gX,aq,hl,hl',fB,gM,sJ,jm]
  ·have ew:rdW (w::ws)=if cn w=some (ws.length+1) then jS w (bJ (onS rdN) (ws.map D.str)) else none:=by simp[rdW,ht]
   rw[ew];cases hk:cn w with
   |none=>simp[bg,aE,aJ,hsp,s0,hs,gX,aq,ht,fB,hk,sJ,jm]
   |some k=>
    by_cases hl:ws.length+1=k
    ·subst hl;have hc:=iz (W:={toWB:=B cls kls fad,call:=aa T (B cls kls fad) (n+3)}) (x:=none) (rest:=[]) (elt:=IE.call 7 (IA.cons (IE.var 0) IA.nil)) (ds:=ws.map D.str) (onS rdN) ⟨2,none⟩ (R:=E ⟨2,none⟩ M) (E:=λi M'=>E i (ac M M')) (Q:=λy M2=>ba true (D.rol [D.str w]) y M2 λx M1=>rBi BI.tuple [x] M1 λv M'=>Q v (ac M M')) hM (by rw[List.length_map];omega) (λp ys hp=>by simp[hp]) (λd hd M' hM' Q=>by
      obtain⟨s,hs,rfl⟩:=List.mem_map.mp hd;cases hr:rdN s<;>simp[onS,ge hM'.1 (Nat.le_trans (hp s (by simp[hs])) (show 9000<=10000 by omega)),hr])
     simp[bg,aE,aJ,hsp,s0,hs,gX,aq,ht,fB,hk,jm,qW];rw[show ai [none] [some (D.str z),some (D.rol (D.str w::List.map D.str ws))]=[none] from rfl,hc];have hs':ws.length<=PySem.sizeLine:=by omega
     cases hm:bJ (onS rdN) (ws.map D.str) with
     |none=>simp[hs',jS]
     |some ys=>
      have hy:ys.length=ws.length:=by rw[jZ hm,List.length_map]
      simp[hs',jS,ba,af,bb,hy,hs,Nat.add_comm,rBi,aD]
    ·have hl':¬ ((ws.length:Int)+1=k):=by omega
     have hl2:¬ k=ws.length+1:=λe=>hl e.symm
     simp[bg,aE,aJ,hsp,s0,hs,gX,aq,ht,fB,hk,jm,hl',hl2]
theorem g9{x:D}(h:dJ x=true):aa T (B cls kls fad) (n+2) 11 [x] M Q E=E ⟨2,none⟩ M:=by
 simp[bg,aE,fj h]
noncomputable def rdG(z:PySem.Str):Option D:=vo (bJ (onS rdR) ((eG "; " z).map D.str))
theorem dG(hM:Fm M)(hz:z.length<=9000):aa T (B cls kls fad) (n+5) 12 [.str z] M Q E=rdQ (rdG z) M Q E:=by
 simp[fS,bM,rJ hz xo];have e:ai [none] [some (D.str z)]=[none]:=rfl;have:=oq "; " z;rw[e,iz (onS rdR) ⟨2,none⟩ (R:=E ⟨2,none⟩ M) hM (by simp;omega) (λp ys hp=>by simp[hp]) (λd hd M' hM' Q=>by
  obtain⟨s,hs,rfl⟩:=List.mem_map.mp hd;cases hr:rdR s<;>simp[onS,dQ hM'.1 (Nat.le_trans (nu hs) hz),hr])]
 unfold rdG;cases bJ (onS rdR) ((eG "; " z).map D.str)<;>simp[vo]
theorem hZ{x:D}(h:dJ x=true):aa T (B cls kls fad) (n+3) 12 [x] M Q E=E ⟨2,none⟩ M:=by
 simp[fS,bM,ls h]
noncomputable def Bad(f:PySem.Str->Option D)(x:D):Prop:=(∃s,x=.str s/\s.length<=9000/\f s=none)\/dJ x=true
theorem gU{x:D}(hM:Fm M)(h:Bad rdR x):aa T (B cls kls fad) (n+6) 19 [.int 0,x] M Q E=Q (.bl true) M:=by
 rcases h with ⟨s,rfl,hs,hr⟩|h
 ·simp[bp,aB,dQ hM hs,hr];exact iff_of_eq (ar hM λa ha=>by simp +decide [ha,aq])
 ·simp[bp,aB,g9 h];exact iff_of_eq (ar hM λa ha=>by simp +decide [ha,aq])
theorem gp{x:D}(hM:Fm M)(h:Bad rdG x):aa T (B cls kls fad) (n+6) 19 [.int 1,x] M Q E=Q (.bl true) M:=by
 rcases h with ⟨s,rfl,hs,hr⟩|h
 ·simp[bp,aB,dG hM hs,hr];exact iff_of_eq (ar hM λa ha=>by simp +decide [ha,aq])
 ·simp[bp,aB,hZ h];exact iff_of_eq (ar hM λa ha=>by simp +decide [ha,aq])
end
end G
namespace G
open L2
open PySem (Str)
theorem jL:(("." : String):Str).cps.toList=[46]:=by decide +kernel
theorem ib:((" " : String):Str).cps.toList=[32]:=by decide +kernel
theorem d_e:(("" : String):Str).cps.toList=[]:=by decide +kernel
theorem j7:PySem.Builtin.Str.strKind "."=1:=by decide +kernel
theorem nH:PySem.Builtin.Str.strKind " "=1:=by decide +kernel
theorem ae(a b:Str):(a++b).cps.toList=a.cps.toList++b.cps.toList:=by simp[PySem.Str.cps_append]
theorem mi{z:Str}(h:Nsg z){c:Nat}(hc:c≠45/\(c < 48\/57 < c)):c∉z.cps.toList:=λq=>by
 have:=h c q;omega
noncomputable def Sm(k:Int):Prop:=k.natAbs < 10 ^ 62
theorem g7{k:Int}(h:Sm k):rdN (tx k)=some (.int k):=by
 obtain⟨h1,h2⟩:=xu (w6 h);unfold rdN;rw[if_pos h1,h2]
theorem nU{y a b:Str}{c:Nat}{w:List Nat}(hy:y.cps.toList=c::w)(hk:PySem.Builtin.Str.strKind y=1)(ha:c∉a.cps.toList)(hb:c∉b.cps.toList):PySem.Txt.split (a++y++b) y=[a,b]:=by
 have:=bL hy hk (ts:=[a,b]) (by simp) (λt ht=>by
  simp at ht;rcases ht with rfl|rfl<;>assumption)
 exact this
theorem gm:(46:Nat)≠45/\((46:Nat) < 48\/57 < (46:Nat)):=by decide
noncomputable def nT(p:Int×Int):Str:=tx p.1++"."++tx p.2
noncomputable def nD(p:Int×Int):D:=.tup [.int p.1,.int p.2]
theorem qh{p:Int×Int}(h1:Sm p.1)(h2:Sm p.2):rdP (nT p)=some (nD p):=by
 unfold rdP nT;rw[nU jL j7 (mi (dq _) gm) (mi (dq _) gm)];simp only[g7 h1,g7 h2];rfl
theorem ne_of{z:Str}(h:z.cps.toList≠[]):z≠"":=λe=>h (by rw[e,d_e])
theorem iC{y:Str}{t:Str}{r:List Str}:∃u,(PySem.Str.join y (t::r)).cps.toList=t.cps.toList++u:=by
 cases r with
 |nil=>exact⟨[],by simp[PySem.Str.join]⟩
 |cons s r=>exact⟨y.cps.toList++(PySem.Str.join y (s::r)).cps.toList,by
   show (t++y++PySem.Str.join y (s::r)).cps.toList=_;rw[ae,ae,List.append_assoc]⟩
theorem gq{f:D->Option D}{g:α->D}{h:α->D}:∀{xs:List α},(∀x∈xs,f (g x)=some (h x))->bJ f (xs.map g)=some (xs.map h)
 |[],_=>rfl
 |x::r,q=>by
  have:=gq (f:=f) (g:=g) (h:=h) (xs:=r) λz hz=>q z (List.mem_cons_of_mem _ hz)
  simp[bJ,q x (by simp),this]
theorem cZ{f:D->Option D}:∀{xs:List D}{x:D},x∈xs->f x=none->bJ f xs=none
 |y::r,x,h,q=>by
  rcases List.mem_cons.mp h with rfl|h
  ·simp[bJ,q]
  ·have:=cZ h q;unfold bJ;rw[this];cases f y<;>rfl
theorem vj{z:Str}(h:okN z=false):rdN z=none:=if_neg (by rw[h];exact Bool.false_ne_true)
theorem lu{z:Str}{c:Nat}(h:c∈z.cps.toList)(hc:c≠45/\(c < 48\/57 < c)):rdN z=none:=vj (ub λq=>by have:=q c h;omega)
theorem mV{f:D->Option D}{xs:List D}{x:D}(h:x∈xs)(q:f x=none):vo (bJ f xs)=none:=by rw[cZ h q];rfl
theorem bh:(("; " : String):Str).cps.toList=[59,32]:=by decide +kernel
theorem jw:PySem.Builtin.Str.strKind "; "=1:=by decide +kernel
noncomputable def Odd(c:Nat):Prop:=c≠45/\c≠46/\(c < 48\/57 < c)
theorem fQ{a c:Nat}(hc:c≠a):∀{x:List Nat},c∈x->∃p∈spl [a] x 0,c∈p
 |d::r,h=>by
  unfold spl;by_cases e:[a].isPrefixOf (d::r)=true
  ·have ed:a=d:=by simpa using e
   rw[if_pos e];rcases List.mem_cons.mp h with q|q
   ·exact absurd (q.trans ed.symm) hc
   ·obtain⟨p,h1,h2⟩:=fQ hc q;exact⟨p,List.mem_cons_of_mem _ h1,h2⟩
  ·rw[if_neg e];cases q:spl [a] r 0 with
   |nil=>exact absurd q (eY _ _)
   |cons p t=>
    rcases List.mem_cons.mp h with z|z
    ·exact⟨d::p,by simp,by simp[z]⟩
    ·obtain⟨p',h1,h2⟩:=fQ hc z;rw[q]at h1;rcases List.mem_cons.mp h1 with w|w
     ·exact⟨d::p,by simp,by subst w;simp[h2]⟩
     ·exact⟨p',by simp[w],h2⟩
theorem nr{z:Str}{c:Nat}(hc:c≠46)(h:c∈z.cps.toList):∃p∈PySem.Txt.split z ".",c∈p.cps.toList:=by
 obtain⟨p,h1,h2⟩:=fQ hc h;rw[aO (by decide +kernel) j7,jL]
 exact⟨ofC p,List.mem_map.mpr ⟨p,h1,rfl⟩,by rw[cy];exact h2⟩
theorem uN{z:Str}{c:Nat}(h:c∈z.cps.toList)(hc:Odd c):rdP z=none:=by
 obtain⟨p,h1,h2⟩:=nr hc.2.1 h;have hr:=lu h2 ⟨hc.1,hc.2.2⟩;unfold rdP;rcases q:PySem.Txt.split z "." with _|⟨a,_|⟨b,_|⟨d,r⟩⟩⟩
 ·rfl
 ·rfl
 ·rw[q]at h1;simp at h1;rcases h1 with rfl|rfl
  ·simp[hr]
  ·cases rdN a<;>simp[hr]
 ·rfl
theorem bw{w:Str}{ws:List Str}:rdW (w::ws)=if w = "take"/\ws.length=3 then (match ws with
   |[a,b,c]=>match rdN a,rdN b,rdP c with
    |some x,some y,some u=>some (.tup [.str "take",x,y,u])
    |_,_,_=>none
   |_=>none)
  else if cn w=some (ws.length+1) then jS w (bJ (onS rdN) (ws.map D.str)) else none:=rfl
theorem vC{w:Str}{ws:List Str}{t:Str}(h:t∈ws)(h1:rdN t=none)(h2:rdP t=none):rdW (w::ws)=none:=by
 rw[bw];split
 ·rename_i q;obtain⟨_,q⟩:=q;rcases ws with _|⟨a,_|⟨b,_|⟨c,_|⟨d,r⟩⟩⟩⟩<;>simp at q
  simp at h;rcases h with rfl|rfl|rfl
  ·simp[h1]
  ·cases rdN a<;>simp[h1]
  ·cases rdN a<;>cases rdN b<;>simp[h2]
 ·split
  ·rw[cZ (f:=onS rdN) (x:=.str t) (List.mem_map.mpr ⟨t,h,rfl⟩) h1];rfl
  ·rfl
theorem eE{w:Str}{ws:List Str}{t:Str}(h:t∈ws)(h1:rdN t=none)(h2:w≠"take"\/∃a c,ws=[t,a,c]\/ws=[a,t,c]):rdW (w::ws)=none:=by
 rw[bw];split
 ·rename_i q;rcases h2 with h2|⟨a,c,rfl|rfl⟩
  ·exact absurd q.1 h2
  ·simp[h1]
  ·cases rdN a<;>simp[h1]
 ·split
  ·rw[cZ (f:=onS rdN) (x:=.str t) (List.mem_map.mpr ⟨t,h,rfl⟩) h1];rfl
  ·rfl
theorem eD{w:Str}{ws:List Str}(h1:w = "take"->ws.length≠3)(h2:cn w≠some (ws.length+1)):rdW (w::ws)=none:=by
 rw[bw];rw[if_neg (λq=>h1 q.1 q.2),if_neg h2]
theorem qK(w:Str):rdW [w]=none:=eD (λ_=>by simp) (by unfold cn;split<;>(try split)<;>(try split)<;>simp)
theorem jY{w x:Str}(h:32∉w.cps.toList):PySem.Txt.split (w++" "++x) " "=w::PySem.Txt.split x " ":=by
 rw[aO (by decide +kernel) nH,aO (by decide +kernel) nH,ae,ae,ib,bT (w:=[]) _ h,List.map_cons,dH]
theorem rD{w x:Str}{c:Nat}(h:32∉w.cps.toList)(hx:c∈x.cps.toList)(hc:Odd c)(h3:c≠32):rdR (w++" "++x)=none:=by
 unfold rdR;rw[jY h];obtain⟨p,h1,h2⟩:=fQ h3 hx;refine vC (t:=ofC p) ?_ (lu (c:=c) (by rw[cy];exact h2) ⟨hc.1,hc.2.2⟩) (uN (c:=c) (by rw[cy];exact h2) hc)
 rw[aO (by decide +kernel) nH,ib]
 exact List.mem_map.mpr ⟨p,h1,rfl⟩
theorem nV:rdR ""=none:=by decide +kernel
theorem pV:cn ""=none:=by decide +kernel
theorem mK{x:Str}:rdR (" "++x)=none:=by
 have e : " "++x = ""++" "++x:=bQ (by rw[ae,ae,ae,d_e];rfl)
 unfold rdR;rw[e,jY (by rw[d_e];simp)]
 exact eD (λq=>absurd q (by decide +kernel)) (by rw[pV];simp)
theorem eA{z:Str}(h:z≠""):eG "; " z=(spl [59,32] z.cps.toList 0).map ofC:=by
 unfold eG;rw[if_neg h,aO (by decide +kernel) jw,bh]
theorem dS{z p:Str}(h:p∈eG "; " z)(q:rdR p=none):rdG z=none:=by
 unfold rdG;exact mV (x:=.str p) (List.mem_map.mpr ⟨p,h,rfl⟩) q
theorem mm{t x p:Str}(ht:59∉t.cps.toList)(hp:p.cps.toList∈spl [59,32] x.cps.toList 0)(q:rdR p=none):rdG (t++"; "++x)=none:=by
 refine dS (p:=p) ?_ q;rw[eA (ne_of (by rw[ae,ae,bh];simp)),ae,ae,bh,bT (w:=[32]) _ ht]
 exact List.mem_map.mpr ⟨p.cps.toList,by simp[hp],dH p⟩
theorem jO{x:List Nat}:∀{ts:List Str},ts≠[]->(∀t∈ts,59∉t.cps.toList)->spl [59,32] ((PySem.Str.join "; " ts++"; ").cps.toList++x) 0=ts.map (λt:Str=>t.cps.toList)++spl [59,32] x 0
 |[],h,_=>absurd rfl h
 |[t],_,h=>by
  show spl [59,32] ((t++"; ").cps.toList++x) 0=_;rw[ae,bh,bT (w:=[32]) _ (h t (by simp))]
  rfl
 |t::u::r,_,h=>by
  have ih:=jO (x:=x) (ts:=u::r) (by simp) λz hz=>h z (List.mem_cons_of_mem _ hz)
  show spl [59,32] ((t++"; "++PySem.Str.join "; " (u::r)++"; ").cps.toList++x) 0=_;have e:(t++"; "++PySem.Str.join "; " (u::r)++"; ").cps.toList++x=t.cps.toList++[59,32]++((PySem.Str.join "; " (u::r)++"; ").cps.toList++x):=by
   simp only[ae,bh,List.append_assoc]
  rw[e,bT (w:=[32]) _ (h t (by simp)),ih]
  rfl
theorem pF{ts:List Str}{x p:Str}(h0:ts≠[])(ht:∀t∈ts,59∉t.cps.toList)(hp:p.cps.toList∈spl [59,32] x.cps.toList 0)(q:rdR p=none):rdG (PySem.Str.join "; " ts++"; "++x)=none:=by
 refine dS (p:=p) ?_ q;rw[eA (ne_of (by rw[ae,ae,bh];simp)),ae,jO h0 ht]
 exact List.mem_map.mpr ⟨p.cps.toList,by simp[hp],dH p⟩
theorem mw{c:Nat}{u:List Nat}(hc:c≠32):∀{p:List Nat},59∉p->∃q r,spl [59,32] (p++59::c::u) 0=(p++59::q)::r
 |[],_=>by
  have e:[59,32].isPrefixOf (59::c::u)=false:=by
   have:¬ 32=c:=λe=>hc e.symm
   simp[List.isPrefixOf,this]
  simp only[List.nil_append];unfold spl;rw[if_neg (by rw[e];exact Bool.false_ne_true)]
  cases q:spl [59,32] (c::u) 0 with
  |nil=>exact absurd q (eY _ _)
  |cons a b=>exact⟨a,b,rfl⟩
 |d::p,h=>by
  obtain⟨q,r,e⟩:=mw (u:=u) hc (p:=p) λz=>h (List.mem_cons_of_mem _ z)
  have hd:¬ 59=d:=λe=>h (by simp[e])
  refine⟨q,r,?_⟩;simp only[List.cons_append];unfold spl;rw[if_neg (by simp[List.isPrefixOf,hd]),e]
end G
namespace G
open L2
open PySem (Str)
inductive Rw where
 |look (a b:Int)|sight (a b c d:Int)|send (a b c:Int)|take (a b c d:Int)
noncomputable def Rw.tag:Rw->Str
 |.look _ _=>"look"|.sight _ _ _ _=>"sight"|.send _ _ _=>"send"|.take _ _ _ _=>"take"
noncomputable def Rw.ps:Rw->List D
 |.look a b=>[.int a,.int b]
 |.sight a b c d=>[.int a,.int b,.int c,.int d]
 |.send a b c=>[.int a,.int b,.int c]
 |.take a b c d=>[.int a,.int b,nD (c,d)]
noncomputable def Rw.d(r:Rw):D:=.tup (.str r.tag::r.ps)
noncomputable def Rw.ns:Rw->List Int
 |.look a b=>[a,b]|.sight a b c d=>[a,b,c,d]|.send a b c=>[a,b,c]|.take a b c d=>[a,b,c,d]
noncomputable def Rw.ok(r:Rw):Prop:=∀k∈r.ns,Sm k
noncomputable def qj(x:D):Prop:=(∃k,x=.int k/\Sm k)\/∃p:Int×Int,x=nD p/\Sm p.1/\Sm p.2
noncomputable def pT:D->Str
 |.int k=>tx k
 |.tup [.int a,.int b]=>nT (a,b)
 |_=>""
noncomputable def Rw.ws(r:Rw):List Str:=r.tag::r.ps.map pT
noncomputable def Rw.t(r:Rw):Str:=PySem.Str.join " " r.ws
theorem Rw.pt{r:Rw}(h:r.ok):∀x∈r.ps,qj x:=by
 intro x hx;cases r<;>simp[Rw.ok,Rw.ns,Rw.ps]at h hx
 ·rcases hx with rfl|rfl
  ·exact .inl ⟨_,rfl,h.1⟩
  ·exact .inl ⟨_,rfl,h.2⟩
 ·rcases hx with rfl|rfl|rfl|rfl
  ·exact .inl ⟨_,rfl,h.1⟩
  ·exact .inl ⟨_,rfl,h.2.1⟩
  ·exact .inl ⟨_,rfl,h.2.2.1⟩
  ·exact .inl ⟨_,rfl,h.2.2.2⟩
 ·rcases hx with rfl|rfl|rfl
  ·exact .inl ⟨_,rfl,h.1⟩
  ·exact .inl ⟨_,rfl,h.2.1⟩
  ·exact .inl ⟨_,rfl,h.2.2⟩
 ·rcases hx with rfl|rfl|rfl
  ·exact .inl ⟨_,rfl,h.1⟩
  ·exact .inl ⟨_,rfl,h.2.1⟩
  ·exact .inr ⟨_,rfl,h.2.2.1,h.2.2.2⟩
theorem Rw.pl(r:Rw):2<=r.ps.length/\r.ps.length<=4:=by cases r<;>simp[Rw.ps]
section
variable {cls kls fad:Nat->PySem.Addr}{M:MH}{Q:VK3}{E:XN}{n:Nat}{z y:PySem.Str}{i:Int}
theorem aH(a b:PySem.Str):(a++b).length=a.length+b.length:=Array.size_append
theorem oz:(("." : String):Str).length=1:=by decide +kernel
theorem nj:((" " : String):Str).length=1:=by decide +kernel
theorem gE:(("; " : String):Str).length=2:=by decide +kernel
theorem l_e:(("" : String):Str).length=0:=by decide +kernel
theorem pK{p:Int×Int}(h1:Sm p.1)(h2:Sm p.2):(nT p).length<=127:=by
 unfold nT;rw[aH,aH,oz];have:=aC h1;have:=aC h2;omega
theorem jK{p:Int×Int}(h1:Sm p.1)(h2:Sm p.2):aa T (B cls kls fad) (n+2) 1 [nD p] M Q E=Q (.str (nT p)) M:=by
 have a1:=aC h1;have a2:=aC h2;have b1:(tx p.1).length+1<=PySem.sizeLine:=szl (by omega)
 have b2:(tx p.1).length+1+(tx p.2).length<=PySem.sizeLine:=szl (by omega)
 simp[j5,bY,nD,lF h1,lF h2,oz,aH,b1,b2,nT]
theorem oY(k:Int):pT (.int k)=tx k:=rfl
theorem vk(p:Int×Int):pT (nD p)=nT p:=rfl
theorem kf{x:D}(h:qj x):aa T (B cls kls fad) (n+3) 2 [x] M Q E=Q (.str (pT x)) M:=by
 rcases h with ⟨k,rfl,h⟩|⟨p,rfl,h1,h2⟩
 ·simp[fi,bu,lF h,pT]
 ·have e:di .tuple (nD p) M=λQ=>Q (.bl true) M:=by funext Q;simp[nD]
  simp[fi,bu,jK h1 h2,vk,e]
theorem uE{x:D}(h:qj x):(pT x).length<=127:=by
 rcases h with ⟨k,rfl,h⟩|⟨p,rfl,h1,h2⟩
 ·exact Nat.le_trans (aC h) (by decide)
 ·exact pK h1 h2
theorem sd{x:D}(h:qj x):∀c∈(pT x).cps.toList,c=45\/c=46\/(48<=c/\c<=57):=by
 rcases h with ⟨k,rfl,h⟩|⟨p,rfl,h1,h2⟩
 ·intro c hc;have:=dq k c hc;omega
 ·intro c hc;rw[vk]at hc;unfold nT at hc;rw[ae,ae,jL]at hc;simp only[List.mem_append,List.mem_singleton]at hc;rcases hc with (hc|hc)|hc
  ·have:=dq _ c hc;omega
  ·omega
  ·have:=dq _ c hc;omega
theorem pZ(r:Rw):r.tag = "look"\/r.tag = "sight"\/r.tag = "send"\/r.tag = "take":=by cases r<;>simp[Rw.tag]
theorem lC(r:Rw):∀c∈r.tag.cps.toList,97<=c/\c<=122:=by rcases pZ r with e|e|e|e<;>rw[e]<;>decide +kernel
theorem lO(r:Rw):r.tag.length<=5:=by rcases pZ r with e|e|e|e<;>rw[e]<;>decide +kernel
theorem Rw.wlen{r:Rw}:3<=r.ws.length/\r.ws.length<=5:=by
 have:=r.pl;simp[Rw.ws];omega
theorem Rw.wl{r:Rw}(h:r.ok):∀t∈r.ws,t.length<=127:=λt ht=>by
 rcases List.mem_cons.mp ht with rfl|ht
 ·exact Nat.le_trans (lO r) (by decide)
 ·obtain⟨x,hx,rfl⟩:=List.mem_map.mp ht;exact uE (Rw.pt h x hx)
theorem Rw.wno{r:Rw}(h:r.ok):∀t∈r.ws,∀c∈t.cps.toList,45<=c/\c≠59:=λt ht c hc=>by
 rcases List.mem_cons.mp ht with rfl|ht
 ·have:=lC r c hc;omega
 ·obtain⟨x,hx,rfl⟩:=List.mem_map.mp ht;have:=sd (Rw.pt h x hx) c hc;omega
theorem lz{k:Nat}:whole (k+1) (some 1) none=false:=by simp[whole,HT.sIx]
noncomputable def shP(x:D):D:=.str (pT x)
theorem vq{ts:List Str}(h1:ts.length<=6)(h:∀t∈ts,t.length<=200):PySem.JoinOk " " ts=true:=fP (by omega) (by rw[nj];decide) λt ht=>Nat.le_trans (h t ht) (by decide)
theorem gu{r:Rw}(hM:Fm M)(h:r.ok):aa T (B cls kls fad) (n+4) 3 [r.d] M Q E=Q (.str r.t) M:=by
 have hl:=r.pl;have hp:=Rw.pt h;have hw:=Rw.wl h;have hw2:=(Rw.wlen (r:=r)).2;unfold Rw.d Rw.t Rw.ws at *
 simp[lj,cj,lz,qW,aq];have e:∀{x:Option D},ai [none] [x]=[none]:=rfl;rw[e,cf shP hM (by omega) (λd hd M' _ Q=>by
  simp[shP,kf (hp d hd)])]
 have e2:D.rol (D.str r.tag::r.ps.map shP)=.rol ((r.tag::r.ps.map pT).map D.str):=by
  rw[List.map_cons,List.map_map];rfl
 have hs:r.ps.length+1<=PySem.sizeLine:=szl (by omega)
 simp[ba,af,bb,hs];rw[e2,sD,vq (by omega) (λt ht=>Nat.le_trans (hw t ht) (by decide)),gw]
 simp
theorem lh{ks:List Int}(h:∀k∈ks,Sm k):bJ (onS rdN) ((ks.map tx).map D.str)=some (ks.map D.int):=by
 rw[List.map_map];exact gq λk hk=>g7 (h k hk)
theorem qP{r:Rw}(h:r.ok):rdW r.ws=some r.d:=by
 cases r with
 |look a b=>
  have:=lh h;simp[Rw.ns]at this;simp +decide [Rw.ws,Rw.tag,Rw.ps,Rw.d,bw,cn,this,pT,jS]
 |sight a b c d=>
  have:=lh h;simp[Rw.ns]at this;simp +decide [Rw.ws,Rw.tag,Rw.ps,Rw.d,bw,cn,this,pT,jS]
 |send a b c=>
  have:=lh h;simp[Rw.ns]at this;simp +decide [Rw.ws,Rw.tag,Rw.ps,Rw.d,bw,cn,this,pT,jS]
 |take a b c d=>
  simp[Rw.ok,Rw.ns]at h;have h3:=qh (p:=(c,d)) h.2.2.1 h.2.2.2;simp[Rw.ws,Rw.tag,Rw.ps,Rw.d,bw,oY,vk,g7 h.1,g7 h.2.1,h3]
theorem mf{r:Rw}(h:r.ok):rdR r.t=some r.d:=by
 unfold rdR Rw.t;rw[bL ib nH (by simp[Rw.ws]) (λt ht q=>by have:=Rw.wno h t ht 32 q;omega)]
 exact qP h
theorem CG{r:Rw}:aj .NotEq r.d r.d M Q=Q (.bl false) M:=by
 cases r<;>simp[aj,dI,rs,pl,plN,eqD,cG,af,Rw.d,Rw.ps,nD]
theorem lY{r:Rw}(hM:Fm M)(h:r.ok):aa T (B cls kls fad) (n+1) 18 [r.d,r.d] M Q E=Q (.bl true) M:=by
 have hp:=Rw.pt h;have e1:di .tuple r.d M=λQ=>Q (.bl true) M:=by funext Q;simp[Rw.d]
 have e2:aG r.d (.int 0) M=λQ=>Q (.str r.tag) M:=by funext Q;simp[Rw.d]
 have e3:∀Q,eu true r.d (some 1) none M Q=Q (.tup r.ps) M:=λQ=>by simp[Rw.d,lz,qW]
 simp[jX,bV,e1,e2,e3,CG];clear e1 e2 e3;cases r<;>simp[b9,c6,cY,cI,Rw.ps,nD,aq]
noncomputable def cF(i:Int):Int:=if i % 3=0 then i / 3 % 19 - 9 else if i % 3=1 then i / 3 % 2000001 - 1000000 else i / 3 % (2 * 10 ^ 60+1) - 10 ^ 60
theorem fM(i:Int):Sm (cF i):=by
 have:(cF i).natAbs<=10 ^ 60:=by
  unfold cF;split
  ·omega
  ·split<;>omega
 unfold Sm;omega
theorem d7:aa T (B cls kls fad) (n+1) 14 [.int i] M Q E=Q (.int (cF i)) M:=by
 unfold cF;by_cases m0:i % 3=0
 ·simp[cz,aN,m0,aX]
 by_cases m1:i % 3=1
 ·simp[cz,aN,m0,m1,aX]
 simp[cz,aN,m0,m1,aX,BJ,wB]
noncomputable def jb(c:Int):Rw:=
 if c % 4=0 then .look (cF (c / 4)) (cF (c / 28)) else if c % 4=1 then .sight (cF (c / 4)) (cF (c / 28)) (cF (c / 12)) (cF (c / 52))
 else if c % 4=2 then .send (cF (c / 4)) (cF (c / 28)) (cF (c / 12)) else .take (cF (c / 4)) (cF (c / 28)) (cF (c / 12)) (cF (c / 52))
theorem qC(c:Int):(jb c).ok:=by
 unfold jb;split
 ·intro k hk;simp[Rw.ns]at hk;rcases hk with rfl|rfl<;>exact fM _
 ·split
  ·intro k hk;simp[Rw.ns]at hk;rcases hk with rfl|rfl|rfl|rfl<;>exact fM _
  ·split
   ·intro k hk;simp[Rw.ns]at hk;rcases hk with rfl|rfl|rfl<;>exact fM _
   ·intro k hk;simp[Rw.ns]at hk;rcases hk with rfl|rfl|rfl|rfl<;>exact fM _
theorem yo{c:Int}:aa T (B cls kls fad) (n+2) 15 [.int c] M Q E=Q (jb c).d M:=by
 unfold jb;by_cases m0:c % 4=0
 ·simp[c8,bn,d7,aX,m0,Rw.d,Rw.tag,Rw.ps,aq]
 by_cases m1:c % 4=1
 ·simp[c8,bn,d7,aX,m0,m1,Rw.d,Rw.tag,Rw.ps,aq]
 by_cases m2:c % 4=2
 ·simp[c8,bn,d7,aX,m0,m1,m2,Rw.d,Rw.tag,Rw.ps,aq]
 simp[c8,bn,d7,aX,m0,m1,m2,Rw.d,Rw.tag,Rw.ps,aq,nD]
theorem lZ(k:Int):PySem.Str.ofString k.repr=tx k:=rfl
theorem z1:1 < PySem.sizeLine:=by decide
theorem z2:2 < PySem.sizeLine:=by decide
theorem z3:3 < PySem.sizeLine:=by decide
theorem z4:4 < PySem.sizeLine:=by decide
theorem bD{r:Rw}(hM:Fm M)(h:r.ok):aa T (B cls kls fad) (n+1) 16 [r.d] M Q E=∀p,M p=none->Q (.ref p) (put M p (.lst (r.ws.map D.str))):=by
 have e2:aG r.d (.int 0) M=λQ=>Q (.str r.tag) M:=by funext Q;simp[Rw.d]
 simp[j2,bR,e2,aq];refine forall_congr' λp=>imp_congr_right λhp=>?_
 have e3:∀(M:MH) Q,eu true r.d (some 1) none M Q=Q (.tup r.ps) M:=λM Q=>by simp[Rw.d,lz,qW]
 rw[e3];cases r with
 |look a b=>
  simp[Rw.ok,Rw.ns]at h;simp[b9,c6,aM,Rw.ps,Rw.ws,Rw.tag,aq,z1,z2,z3,z4,aY h.1,aY h.2,lZ,oY]
 |sight a b c d=>
  simp[Rw.ok,Rw.ns]at h;simp[b9,c6,aM,Rw.ps,Rw.ws,Rw.tag,aq,z1,z2,z3,z4,aY h.1,aY h.2.1,aY h.2.2.1,aY h.2.2.2,lZ,oY]
 |send a b c=>
  simp[Rw.ok,Rw.ns]at h;simp[b9,c6,aM,Rw.ps,Rw.ws,Rw.tag,aq,z1,z2,z3,z4,aY h.1,aY h.2.1,aY h.2.2,lZ,oY]
 |take a b c d=>
  simp[Rw.ok,Rw.ns]at h;have a1:=aC h.2.2.1;have a2:=aC h.2.2.2;simp[b9,c6,aM,Rw.ps,Rw.ws,Rw.tag,aq,z1,z2,z3,z4,aY h.1,aY h.2.1,aY h.2.2.1,aY h.2.2.2,lZ,oY,pT,nD,nT,oz,aH,szl (show (tx c).length+1<=10000 by omega),szl (show (tx c).length+1+(tx d).length<=10000 by omega)]
end
end G
namespace G
open L2
open PySem (Str)
structure SpOk (s:Str):Prop where
 l:s.length<=800
 r:rdR s=none
 one:spl [59,32] s.cps.toList 0=[s.cps.toList]
theorem eg{y:Str}{c:Nat}(hy:c∉y.cps.toList):∀{ts:List Str},(∀t∈ts,c∉t.cps.toList)->c∉(PySem.Str.join y ts).cps.toList
 |[],_=>by
  show c∉(("" : String):Str).cps.toList;rw[d_e];simp
 |[t],h=>h t (by simp)
 |t::u::r,h=>by
  show c∉(t++y++PySem.Str.join y (u::r)).cps.toList;rw[ae,ae];have:=eg hy (ts:=u::r) λz hz=>h z (List.mem_cons_of_mem _ hz)
  simp[hy,h t (by simp),this]
structure Wd (t:Str):Prop where
 l:t.length<=132
 b:32∉t.cps.toList
 s:59∉t.cps.toList
theorem spW{ts:List Str}(h0:ts≠[])(h:∀t∈ts,Wd t)(hl:ts.length<=6)(hr:rdW ts=none):SpOk (PySem.Str.join " " ts) where
 l:=by
  have h1:=eh (y:=" ") (B:=132) ts λt ht=>(h t ht).l
  rw[nj]at h1;have h2:ts.length * (132+1)<=6 * (132+1):=Nat.mul_le_mul_right _ hl;omega
 r:=by
  unfold rdR;rw[bL ib nH h0 λt ht=>(h t ht).b]
  exact hr
 one:=cc (w:=[32]) (eg (by rw[ib];simp) λt ht=>(h t ht).s)
variable {r:Rw}
theorem Rw.wd(h:r.ok):∀t∈r.ws,Wd t:=λt ht=>⟨Nat.le_trans (Rw.wl h t ht) (by decide),λq=>by have:=Rw.wno h t ht _ q;omega,λq=>by have:=Rw.wno h t ht _ q;omega⟩
theorem Cf(r:Rw):(r.tag = "take"/\r.ps.length=3)\/(r.tag≠"take"/\cn r.tag=some (r.ps.length+1)):=by
 cases r<;>simp +decide [Rw.tag,Rw.ps,cn]
theorem eJ{us:List Str}(h:us.length≠r.ps.length):rdW (r.tag::us)=none:=by
 rcases Cf r with ⟨h1,h2⟩|⟨h1,h2⟩
 ·exact eD (λ_=>by omega) (by rw[h1,gM];simp)
 ·exact eD (λq=>absurd q h1) (by rw[h2];simp;omega)
theorem eW{w:Str}{us:List Str}(h1:w≠"take")(h2:cn w=none):rdW (w::us)=none:=eD (λq=>absurd q h1) (by rw[h2];simp)
theorem mG{w:Str}(h:∀c∈w.cps.toList,c=45\/c=46\/(48<=c/\c<=57)):w≠"take"/\cn w=none:=by
 have no:∀(s:Str)(c:Nat),c∈s.cps.toList->60 < c->w≠s:=λs c hc hl e=>by
  subst e;have:=h c hc;omega
 have a1:=no "take" 116 (by decide +kernel) (by decide)
 have a2:=no "look" 108 (by decide +kernel) (by decide)
 have a3:=no "sight" 115 (by decide +kernel) (by decide)
 have a4:=no "send" 115 (by decide +kernel) (by decide)
 refine⟨a1,?_⟩;unfold cn;rw[if_neg a2,if_neg a3,if_neg a4]
noncomputable def b2:List Str:=["1","0.0","x",""]
noncomputable def b4:List Str:=["0.0","+1","01","-0","","1_0"]
noncomputable def b7:List Str:=[""," ","look","look 0","take 0 0 0","sight 0 0 0","send 0 0 0 0","look 0 0;"]
theorem yZ:Wd "":=⟨by decide +kernel,by decide +kernel,by decide +kernel⟩
theorem sh:∀t∈b2,Wd t:=by
 intro t ht;simp[b2]at ht;rcases ht with rfl|rfl|rfl|rfl<;>exact⟨by decide +kernel,by decide +kernel,by decide +kernel⟩
theorem sH:∀t∈b4,Wd t/\rdN t=none:=by
 intro t ht;simp[b4]at ht;rcases ht with rfl|rfl|rfl|rfl|rfl|rfl<;>exact⟨⟨by decide +kernel,by decide +kernel,by decide +kernel⟩,by decide +kernel⟩
theorem sF:∀t∈b7,SpOk t:=by
 intro t ht;simp[b7]at ht;rcases ht with rfl|rfl|rfl|rfl|rfl|rfl|rfl|rfl<;>exact⟨by decide +kernel,by decide +kernel,by decide +kernel⟩
theorem fD{ts:List Str}(h:∀t∈ts,Wd t)(k:Nat):∀t∈ts.take k,Wd t:=λt ht=>h t (List.mem_of_mem_take ht)
theorem fJ{ts:List Str}(h:∀t∈ts,Wd t)(k:Nat):∀t∈ts.drop k,Wd t:=λt ht=>h t (List.mem_of_mem_drop ht)
theorem sp0(h:r.ok)(k:Nat)(hk:k < r.ws.length):SpOk (PySem.Str.join " " (r.ws.take k++[((("" : String):Str))]++r.ws.drop k)):=by
 have hw:=Rw.wd h;have hl:=Rw.wlen (r:=r);refine spW (by simp) (λt ht=>?_) (by simp;omega) ?_
 ·rcases List.mem_append.mp ht with q|q
  ·rcases List.mem_append.mp q with q|q
   ·exact fD hw k t q
   ·rw[List.mem_singleton.mp q];exact yZ
  ·exact fJ hw k t q
 ·cases k with
  |zero=>exact eW (by decide +kernel) pV
  |succ k=>
   show rdW (r.tag::(((r.ps.map pT).take k++[((("" : String):Str))])++(r.ps.map pT).drop k))=none;have:r.ps.length+1=r.ws.length:=by simp[Rw.ws]
   exact eJ (by simp;omega)
theorem sp1(h:r.ok)(k:Nat)(hk:k < r.ws.length):SpOk (PySem.Str.join " " (r.ws.take k++r.ws.drop (k+1))):=by
 have hw:=Rw.wd h;have hl:=Rw.wlen (r:=r);have e:r.ps.length+1=r.ws.length:=by simp[Rw.ws]
 refine spW (λq=>?_) (λt ht=>?_) (by simp;omega) ?_
 ·have:=congrArg List.length q;rw[List.length_append,List.length_take,List.length_drop,List.length_nil]at this;omega
 ·rcases List.mem_append.mp ht with q|q
  ·exact fD hw k t q
  ·exact fJ hw _ t q
 ·cases k with
  |zero=>
   show rdW (r.ps.map pT)=none;rcases q:r.ps with _|⟨x,xs⟩
   ·rw[q]at e;simp at e;omega
   ·obtain⟨h1,h2⟩:=mG (sd (Rw.pt h x (by rw[q];simp)))
    exact eW h1 h2
  |succ k=>
   show rdW (r.tag::((r.ps.map pT).take k++(r.ps.map pT).drop (k+1)))=none;exact eJ (by simp;omega)
theorem sp2(h:r.ok){x:Str}(hx:x∈b2):SpOk (PySem.Str.join " " (r.ws++[x])):=by
 have hl:=Rw.wlen (r:=r);refine spW (by simp) (λt ht=>?_) (by simp;omega) ?_
 ·rcases List.mem_append.mp ht with q|q
  ·exact Rw.wd h t q
  ·rw[List.mem_singleton.mp q];exact sh x hx
 ·show rdW (r.tag::(r.ps.map pT++[x]))=none;exact eJ (by simp)
theorem ws3(r:Rw):∃a b l,r.ws=r.tag::a::b::l/\(r.tag = "take"->∃x,l=[x]):=by
 cases r with
 |look a b=>exact⟨_,_,_,rfl,λq=>absurd q (by simp +decide [Rw.tag])⟩
 |sight a b c d=>exact⟨_,_,_,rfl,λq=>absurd q (by simp +decide [Rw.tag])⟩
 |send a b c=>exact⟨_,_,_,rfl,λq=>absurd q (by simp +decide [Rw.tag])⟩
 |take a b c d=>exact⟨_,_,_,rfl,λ_=>⟨_,rfl⟩⟩
theorem gD{ts:List Str}(h:∀t∈ts,Wd t){x:Str}(hx:Wd x)(j:Nat):∀t∈ts.set j x,Wd t:=λt ht=>by
 rcases List.mem_or_eq_of_mem_set ht with q|q
 ·exact h t q
 ·rw[q];exact hx
theorem sp4(h:r.ok){x:Str}(hx:x∈b4){j:Nat}(hj:j < 2):SpOk (PySem.Str.join " " (r.ws.set (j+1) x)):=by
 have hl:=Rw.wlen (r:=r);obtain⟨hx1,hx2⟩:=sH x hx;refine spW (λq=>?_) (gD (Rw.wd h) hx1 _) (by simp;omega) ?_
 ·have:=congrArg List.length q;rw[List.length_set,List.length_nil]at this;omega
 ·obtain⟨a,b,l,e,ht⟩:=ws3 r;rw[e];have hc:r.tag≠"take"\/∃u,l=[u]:=by
   by_cases q:r.tag = "take"
   ·exact .inr (ht q)
   ·exact .inl q
  obtain rfl|rfl:j=0\/j=1:=by omega
  ·refine eE (w:=r.tag) (ws:=x::b::l) (t:=x) (by simp) hx2 ?_
   rcases hc with q|⟨u,rfl⟩
   ·exact .inl q
   ·exact .inr ⟨b,u,.inl rfl⟩
  ·refine eE (w:=r.tag) (ws:=a::x::l) (t:=x) (by simp) hx2 ?_
   rcases hc with q|⟨u,rfl⟩
   ·exact .inl q
   ·exact .inr ⟨a,u,.inr rfl⟩
noncomputable def b5(t:Str):List Str:=[PySem.Txt.upper t,t++"s",PySem.Txt.slice t (some 1) none,"log"]
theorem sj:∀x∈b5 r.tag,Wd x/\x≠"take"/\cn x=none:=by
 rcases pZ r with e|e|e|e<;>rw[e]<;>intro x hx<;>simp only[b5,List.mem_cons,List.not_mem_nil,or_false]at hx<;>
  rcases hx with rfl|rfl|rfl|rfl<;>exact⟨⟨by decide +kernel,by decide +kernel,by decide +kernel⟩,by decide +kernel,by decide +kernel⟩
theorem sp5(h:r.ok){x:Str}(hx:x∈b5 r.tag):SpOk (PySem.Str.join " " (r.ws.set 0 x)):=by
 have hl:=Rw.wlen (r:=r);obtain⟨hx1,hx2,hx3⟩:=sj x hx;refine spW (by simp[Rw.ws]) (gD (Rw.wd h) hx1 _) (by simp;omega) ?_
 exact eW hx2 hx3
theorem sp6(h:r.ok):SpOk (PySem.Str.join "," r.ws) where
 l:=by
  have hl:=Rw.wlen (r:=r);have h1:=eh (y:=",") (B:=132) r.ws λt ht=>(Rw.wd h t ht).l
  rw[show ((("," : String):Str)).length=1 by decide +kernel]at h1
  have h2:r.ws.length * (132+1)<=5 * (132+1):=Nat.mul_le_mul_right _ hl.2;omega
 r:=by
  unfold rdR;rw[aO (by decide +kernel) nH,ib,cc (w:=[]) (eg (by decide +kernel) λt ht=>(Rw.wd h t ht).b)]
  exact qK _
 one:=cc (w:=[32]) (eg (by decide +kernel) λt ht=>(Rw.wd h t ht).s)
end G
namespace G
open L2
open PySem (Str)
theorem yd:((".0" : String):Str).cps.toList=[46,48]:=by decide +kernel
theorem rW:((".0" : String):Str).length=2:=by decide +kernel
theorem oO(k:Int):rdN (tx k++".0")=none:=lu (c:=46) (by rw[ae,yd];simp) gm
theorem ir{k:Int}(h:Sm k):Wd (tx k++".0"):=by
 have a:=aC h;refine⟨by rw[aH,rW];omega,?_,?_⟩<;>rw[ae,yd]<;>intro q<;>simp only[List.mem_append,List.mem_cons,List.not_mem_nil,or_false]at q<;>rcases q with q|q|q<;>first|(have:=dq k _ q;omega)|omega
theorem CP(p:Int×Int):PySem.Txt.replace (nT p) "." ""=tx p.1++""++tx p.2:=by
 rw[kA (by decide +kernel) j7]
 unfold nT;rw[nU jL j7 (mi (dq _) gm) (mi (dq _) gm)];rfl
theorem xE(p:Int×Int):rdP (tx p.1++""++tx p.2)=none:=by
 unfold rdP;rw[aO (by decide +kernel) j7,jL,cc (w:=[]) (λq=>?_)]
 ·rfl
 ·rw[ae,ae,d_e]at q;simp only[List.mem_append,List.not_mem_nil,or_false]at q;rcases q with q|q<;>have:=dq _ _ q<;>omega
theorem sx{p:Int×Int}(h1:Sm p.1)(h2:Sm p.2):Wd (tx p.1++""++tx p.2):=by
 have a:=aC h1;have b:=aC h2;refine⟨by rw[aH,aH,l_e];omega,?_,?_⟩<;>rw[ae,ae,d_e]<;>intro q<;>simp only[List.mem_append,List.not_mem_nil,or_false]at q<;>rcases q with q|q<;>have:=dq _ _ q<;>omega
noncomputable def fZ:Rw->Str
 |.look _ b=>tx b++".0"
 |.sight _ _ _ d=>tx d++".0"
 |.send _ _ c=>tx c++".0"
 |.take _ _ c d=>tx c++""++tx d
variable {r:Rw}
theorem sp3(h:r.ok):SpOk (PySem.Str.join " " (r.ws.set (r.ws.length - 1) (fZ r))):=by
 have hl:=Rw.wlen (r:=r);have hw:=Rw.wd h;have hx:Wd (fZ r):=by
  cases r<;>simp[Rw.ok,Rw.ns]at h
  ·exact ir h.2
  ·exact ir h.2.2.2
  ·exact ir h.2.2
  ·exact sx (p:=(_,_)) h.2.2.1 h.2.2.2
 refine spW (λq=>?_) (gD hw hx _) (by simp;omega) ?_
 ·have:=congrArg List.length q;rw[List.length_set,List.length_nil]at this;omega
 ·cases r with
  |look a b=>exact eE (w:="look") (ws:=[tx a,tx b++".0"]) (t:=tx b++".0") (by simp) (oO b) (.inl (by decide +kernel))
  |sight a b c d=>exact eE (w:="sight") (ws:=[tx a,tx b,tx c,tx d++".0"]) (t:=tx d++".0") (by simp) (oO d) (.inl (by decide +kernel))
  |send a b c=>exact eE (w:="send") (ws:=[tx a,tx b,tx c++".0"]) (t:=tx c++".0") (by simp) (oO c) (.inl (by decide +kernel))
  |take a b c d=>
   show rdW ["take",tx a,tx b,tx c++""++tx d]=none;rw[bw,if_pos ⟨rfl,rfl⟩];have e:rdP (tx c++""++tx d)=none:=xE (c,d);show (match rdN (tx a),rdN (tx b),rdP (tx c++""++tx d) with
    |some x,some y,some u=>some (D.tup [.str "take",x,y,u])
    |_,_,_=>none)=none
   rw[e];cases rdN (tx a)<;>cases rdN (tx b)<;>rfl
section
variable {cls kls fad:Nat->PySem.Addr}{M:MH}{Q:VK3}{E:XN}{n:Nat}{z y:PySem.Str}{i c:Int}{p:PySem.Addr}{ds:List D}{R:MH->Prop}
theorem cO:rBi .len [.ref p] (put M p (.lst ds)) Q=Q (.int ds.length) (put M p (.lst ds)):=by simp[rBi,aD,af,ah]
theorem oR{k:Nat}:bO ds none (some (k:Int))=ds.take k:=by
 have h:¬ ((k:Int) < 0):=by omega
 unfold bO HT.sIx;simp[h]
theorem qr{k:Nat}:bO ds (some (k:Int)) none=ds.drop k:=by
 have h:¬ ((k:Int) < 0):=by omega
 unfold bO HT.sIx;simp[h];rw[List.take_of_length_le (by simp)]
 by_cases hk:k<=ds.length
 ·rw[Nat.min_eq_left hk]
 ·rw[Nat.min_eq_right (by omega),List.drop_of_length_le (Nat.le_refl _),List.drop_of_length_le (by omega)]
theorem jj{lo hi:Option Int}(h:(bO ds lo hi).length<=100):eu true (.ref p) lo hi (put M p (.lst ds)) Q=Q (.rol (bO ds lo hi)) (put M p (.lst ds)):=by
 have h':(bO ds lo hi).length<=PySem.sizeLine:=Nat.le_trans h (by decide)
 simp[eu,af,ah,bb,h']
theorem ix_ref{x:D}(h:atI ds i=some x):aG (.ref p) (.int i) (put M p (.lst ds)) Q=Q x (put M p (.lst ds)):=by simp[aG,aD,af,ah,h]
theorem cat_rr{as bs:List D}(h:as.length+bs.length<=100):ba true (.rol as) (.rol bs) M Q=Q (.rol (as++bs)) M:=by
 have h':as.length+bs.length<=PySem.sizeLine:=Nat.le_trans h (by decide)
 simp[ba,af,bb,h']
theorem sK{bs:List D}(h:ds.length+bs.length<=100):ba true (.ref p) (.rol bs) (put M p (.lst ds)) Q=Q (.rol (ds++bs)) (put M p (.lst ds)):=by
 have h':ds.length+bs.length<=PySem.sizeLine:=Nat.le_trans h (by decide)
 simp[ba,af,bb,ah,h']
theorem okJ{y:Str}{ts:List Str}(hy:y.length<=10)(h1:ts.length<=100)(h:∀t∈ts,Wd t):PySem.JoinOk y ts=true:=fP h1 hy λt ht=>Nat.le_trans (h t ht).l (by decide)
theorem cK{y:Str}{ts:List Str}(h:PySem.JoinOk y ts=true):rBm .join (.str y) [.rol (ts.map D.str)] M Q=Q (.str (PySem.Str.join y ts)) M:=by
 rw[sD,h,gw];simp
theorem i8{y:Str}{ts:List Str}(h:PySem.JoinOk y ts=true):rBm .join (.str y) [.ref p] (put M p (.lst (ts.map D.str))) Q=Q (.str (PySem.Str.join y ts)) (put M p (.lst (ts.map D.str))):=by
 simp[rBm,af,ah,gG,h,gw]
theorem pj{ts:List Str}{k:Nat}{x:Str}(h:ts[k]?=some x):atI (ts.map D.str) (k:Int)=some (.str x):=by
 have h0:¬ ((k:Int) < 0):=by omega
 have h1:k < ts.length:=(List.getElem?_eq_some_iff.mp h).1;have e:ixN ts.length (k:Int)=some k:=by unfold ixN;simp;omega
 simp[atI,e,h]
theorem cw{o:DO}(hp:M p=none):ac M (put M p o)=M:=by simp[hp]
theorem dY{a:Int}{m:Nat}(h:0 < m):∃k:Nat,a % (m:Int)=k/\k < m:=by
 have h1:=Int.emod_nonneg a (show (m:Int)≠0 by omega)
 have h2:=Int.emod_lt_of_pos a (show 0 < (m:Int) by omega)
 exact⟨(a % m).toNat,by omega,by omega⟩
noncomputable def Spo(r:Rw)(c:Int):Prop:=∃s,SpOk s/\∀{cls kls fad} {M:MH}{Q:VK3}{E:XN}{n:Nat},Fm M->aa T (B cls kls fad) (n+2) 17 [r.d,.int c] M Q E=Q (.str s) M
theorem pR:1<=PySem.sizeLine:=by decide
theorem wS:2<=PySem.sizeLine:=by decide
theorem nS:4<=PySem.sizeLine:=by decide
theorem lm(ts:List Str):(ts.map D.str).length=ts.length:=List.length_map ..
theorem xG:6<=PySem.sizeLine:=by decide
theorem qN:8<=PySem.sizeLine:=by decide
theorem xS(h:r.ok)(c:Int)(hk:c % 10=0):Spo r c:=by
 have hl:=Rw.wlen (r:=r);obtain⟨k,hk2,hkl⟩:=dY (a:=c / 10) (m:=r.ws.length) (by omega)
 refine⟨_,sp0 h k hkl,λ{cls kls fad M Q E n} hM=>?_⟩
 simp[ax,ak,bD hM h,aX,hk];refine iff_of_eq (ar hM λp hp=>?_)
 have hpos:(0:Int) < r.ws.length:=by omega
 simp only[cO,List.length_map];simp only[ft,hk2,hpos,true_and];rw[jj (by rw[oR,List.length_take];omega),oR,<-List.map_take,eq_true pR,true_and,cat_rr (by simp;omega),jj (by rw[qr,List.length_drop,lm];omega),qr,<-List.map_drop,cat_rr (by simp;omega)]
 rw[show [D.str (Str.ofString "")]=[(("" : String):Str)].map D.str from rfl,<-List.map_append,<-List.map_append,cK (okJ (by decide +kernel) (by simp;omega) λt ht=>?_),cw hp]
 ·simp
 ·rcases List.mem_append.mp ht with q|q
  ·rcases List.mem_append.mp q with q|q
   ·exact fD (Rw.wd h) k t q
   ·rw[List.mem_singleton.mp q];exact yZ
  ·exact fJ (Rw.wd h) k t q
end
end G
namespace G
open L2
open PySem (Str)
variable {r:Rw}
theorem wz(h:r.ok)(c:Int)(hk:c % 10=1):Spo r c:=by
 have hl:=Rw.wlen (r:=r);obtain⟨k,hk2,hkl⟩:=dY (a:=c / 10) (m:=r.ws.length) (by omega)
 refine⟨_,sp1 h k hkl,λ{cls kls fad M Q E n} hM=>?_⟩
 simp[ax,ak,bD hM h,aX,hk];refine iff_of_eq (ar hM λp hp=>?_)
 have hpos:(0:Int) < r.ws.length:=by omega
 have e1:(k:Int)+1=((k+1:Nat):Int):=by omega
 simp only[cO,List.length_map];simp only[ft,hk2,hpos,true_and];rw[jj (by rw[oR,List.length_take];omega),oR,<-List.map_take]
 simp only[xx];rw[e1];rw[jj (by rw[qr,List.length_drop,lm];omega),qr,<-List.map_drop,cat_rr (by simp;omega)]
 rw[<-List.map_append,cK (okJ (by decide +kernel) (by simp;omega) λt ht=>?_),cw hp]
 rcases List.mem_append.mp ht with q|q
 ·exact fD (Rw.wd h) k t q
 ·exact fJ (Rw.wd h) _ t q
theorem qV{a:Int}{l:List Str}{m:Nat}(hm:l.length=m)(h0:0 < m):∃x,x∈l/\atI (l.map D.str) (a % (m:Int))=some (.str x):=by
 obtain⟨k,e,hk⟩:=dY (a:=a) h0;rw[e];exact⟨l[k],by simp,pj (List.getElem?_eq_getElem _)⟩
theorem zm(h:r.ok)(c:Int)(hk:c % 10=2):Spo r c:=by
 have hl:=Rw.wlen (r:=r);obtain⟨x,hx,hx2⟩:=qV (a:=c / 10) (l:=b2) (m:=4) rfl (by decide)
 refine⟨_,sp2 h hx,λ{cls kls fad M Q E n} hM=>?_⟩
 simp[ax,ak,bD hM h,aX,hk];refine iff_of_eq (ar hM λp hp=>?_)
 have hpos:(0:Int) < r.ws.length:=by omega
 simp only[cO,List.length_map];simp only[ft,hpos,true_and];have hx3:atI [D.str (Str.ofString "1"),D.str (Str.ofString "0.0"),D.str (Str.ofString "x"),D.str (Str.ofString "")] (c / 10 % 4)=some (.str x):=hx2;simp only[bK hx3,nS,pR,true_and];rw[sK (by simp;omega),show [D.str x]=[x].map D.str from rfl,<-List.map_append,cK (okJ (by decide +kernel) (by simp;omega) λt ht=>?_),cw hp]
 rcases List.mem_append.mp ht with q|q
 ·exact Rw.wd h t q
 ·rw[List.mem_singleton.mp q];exact sh x hx
theorem jy{M:MH}{p:PySem.Addr}{ts:List Str}{i:Int}{j:Nat}{x:Str}{R:MH->Prop}(h:ixN ts.length i=some j):cC (.ref p) (.int i) (.str x) (put M p (.lst (ts.map D.str))) R=R (put M p (.lst ((ts.set j x).map D.str))):=by
 rw[nG ah (j:=j) (by rw[lm];exact h),c9,List.map_set]
theorem yL(h:r.ok)(c:Int)(hk:c % 10=4):Spo r c:=by
 have hl:=Rw.wlen (r:=r);obtain⟨x,hx,hx2⟩:=qV (a:=c / 20) (l:=b4) (m:=6) rfl (by decide)
 obtain⟨k,hk2,hkl⟩:=dY (a:=c / 10) (m:=2) (by decide)
 refine⟨_,sp4 h hx hkl,λ{cls kls fad M Q E n} hM=>?_⟩
 simp[ax,ak,bD hM h,aX,hk];refine iff_of_eq (ar hM λp hp=>?_)
 have hpos:(0:Int) < r.ws.length:=by omega
 simp only[cO,List.length_map];simp only[ft,hpos,true_and];have hx3:atI [D.str (Str.ofString "0.0"),D.str (Str.ofString "+1"),D.str (Str.ofString "01"),D.str (Str.ofString "-0"),D.str (Str.ofString ""),D.str (Str.ofString "1_0")] (c / 20 % 6)=some (.str x):=hx2;have hk3:c / 10 % 2=(k:Int):=hk2;have hj:ixN r.ws.length (1+(k:Int))=some (k+1):=by
  unfold ixN;rw[if_pos (by omega),if_pos (by omega)]
  congr 1;omega
 simp only[bK hx3,xG,hk3,true_and];rw[jy hj,i8 (okJ (by decide +kernel) (by simp;omega) (gD (Rw.wd h) (sH x hx).1 _)),cw hp]
theorem wD(h:r.ok)(c:Int)(hk:c % 10=6):Spo r c:=by
 have hl:=Rw.wlen (r:=r);refine⟨_,sp6 h,λ{cls kls fad M Q E n} hM=>?_⟩
 simp[ax,ak,bD hM h,aX,hk];refine iff_of_eq (ar hM λp hp=>?_)
 have hpos:(0:Int) < r.ws.length:=by omega
 simp only[cO,List.length_map];simp only[ft,hpos,true_and];rw[i8 (okJ (by decide +kernel) (by omega) (Rw.wd h)),cw hp]
theorem wb(h:r.ok)(c:Int)(hk:7<=c % 10):Spo r c:=by
 have hl:=Rw.wlen (r:=r);obtain⟨x,hx,hx2⟩:=qV (a:=c / 10) (l:=b7) (m:=8) rfl (by decide)
 refine⟨_,sF x hx,λ{cls kls fad M Q E n} hM=>?_⟩
 have m0:¬ c % 10=0:=by omega
 have m1:¬ c % 10=1:=by omega
 have m2:¬ c % 10=2:=by omega
 have m3:¬ c % 10=3:=by omega
 have m4:¬ c % 10=4:=by omega
 have m5:¬ c % 10=5:=by omega
 have m6:¬ c % 10=6:=by omega
 simp[ax,ak,bD hM h,aX,m0,m1,m2,m3,m4,m5,m6];refine iff_of_eq (ar hM λp hp=>?_)
 have hpos:(0:Int) < r.ws.length:=by omega
 simp only[cO,List.length_map];simp only[ft,hpos,true_and];have hx3:atI [D.str (Str.ofString ""),D.str (Str.ofString " "),D.str (Str.ofString "look"),D.str (Str.ofString "look 0"),D.str (Str.ofString "take 0 0 0"),D.str (Str.ofString "sight 0 0 0"),D.str (Str.ofString "send 0 0 0 0"),D.str (Str.ofString "look 0 0;")] (c / 10 % 8)=some (.str x):=hx2;simp only[bK hx3,qN,true_and];rw[cw hp]
end G
namespace G
open L2
open PySem (Str)
variable {r:Rw}
theorem l_s:(("s" : String):Str).length=1:=by decide +kernel
theorem v8{s:Str}{M:MH}:tyB .upper (.str s) M=true:=rfl
theorem yD{s:Str}{M:MH}{Q:VK3}:rBm .upper (.str s) [] M Q=(s.length<=1000/\Q (.str (PySem.Txt.upper s)) M):=rfl
theorem ze(h:r.ok)(c:Int)(hk:c % 10=5):Spo r c:=by
 have hl:=Rw.wlen (r:=r);obtain⟨x,hx,hx2⟩:=qV (a:=c / 10) (l:=b5 r.tag) (m:=4) rfl (by decide)
 refine⟨_,sp5 h hx,λ{cls kls fad M Q E n} hM=>?_⟩
 simp[ax,ak,bD hM h,aX,hk];refine iff_of_eq (ar hM λp hp=>?_)
 have hpos:(0:Int) < r.ws.length:=by omega
 have tl:=lO r;have a0:atI (r.ws.map D.str) 0=some (.str r.tag):=pj (k:=0) rfl;have j0:ixN r.ws.length 0=some 0:=by
  unfold ixN;rw[if_pos (by omega),if_pos (by omega)]
  rfl
 have hx3:atI [D.str (PySem.Txt.upper r.tag),D.str (r.tag++"s"),D.str (PySem.Txt.slice r.tag (some 1) none),D.str (Str.ofString "log")] (c / 10 % 4)=some (.str x):=hx2;simp only[cO,List.length_map];simp only[ft,hpos,true_and,ix_ref a0];simp[v8,yD,bK a0,tl,l_s,szl (show r.tag.length<=10000 by omega),szl (show r.tag.length+1<=10000 by omega),show r.tag.length<=1000 by omega,ix_ref a0,nS,bK hx3,jy j0]
 rw[<-List.map_set,i8 (okJ (ts:=r.ws.set 0 x) (y:=" ") (by decide +kernel) (by simp;omega) (gD (Rw.wd h) (sj x hx).1 _)),cw hp]
theorem xU(h:r.ok)(c:Int)(hk:c % 10=3):Spo r c:=by
 have hl:=Rw.wlen (r:=r);refine⟨_,sp3 h,λ{cls kls fad M Q E n} hM=>?_⟩
 simp[ax,ak,bD hM h,aX,hk];refine iff_of_eq (ar hM λp hp=>?_)
 have hpos:(0:Int) < r.ws.length:=by omega
 have e2:∀(M:MH) Q,aG r.d (.int 0) M Q=Q (.str r.tag) M:=λM Q=>by simp[Rw.d]
 have j1:ixN r.ws.length (-1)=some (r.ws.length - 1):=by
  unfold ixN;rw[if_neg (by omega),if_pos (by omega)]
  congr 1;omega
 obtain⟨w,hw⟩:∃w,r.ws[r.ws.length - 1]?=some w:=⟨_,List.getElem?_eq_getElem (by omega)⟩
 have a1:atI (r.ws.map D.str) (-1)=some (.str w):=by
  unfold atI;rw[lm,j1];simp[hw]
 have wl:=Rw.wl h w (List.mem_of_getElem? hw);have hj:=i8 (M:=M) (p:=p) (Q:=λv M'=>Q v (ac M M')) (okJ (ts:=r.ws.set (r.ws.length - 1) (fZ r)) (y:=" ") (by decide +kernel) (by simp;omega) λt ht=>by
  rcases List.mem_or_eq_of_mem_set ht with q|q
  ·exact Rw.wd h t q
  ·rw[q];cases r<;>simp[Rw.ok,Rw.ns]at h
   ·exact ir h.2
   ·exact ir h.2.2.2
   ·exact ir h.2.2
   ·exact sx (p:=(_,_)) h.2.2.1 h.2.2.2)
 have e3:∀(R:MH->Prop),cC (.ref p) (.int (-1)) (.str (fZ r)) (put M p (.lst (r.ws.map D.str))) R=R (put M p (.lst ((r.ws.set (r.ws.length - 1) (fZ r)).map D.str))):=λR=>jy j1
 have nd:((Str.ofString ".") == (Str.ofString ""))=false:=by decide +kernel
 have le:(Str.ofString "").length<=14:=by decide +kernel
 simp only[cO,List.length_map];simp only[ft,hpos,true_and,ix_ref a1];simp[nd,le,rW,l_e,show w.length<=1048576 by omega,szl (show w.length+2<=10000 by omega),bK a1,e2,wS]
 by_cases ht:r.tag = "take"
 ·have ex:PySem.Txt.replace w "." ""=fZ r:=by
   cases r<;>simp +decide [Rw.tag]at ht;simp[Rw.ws,Rw.ps]at hw;subst hw;exact CP (_,_)
  simp[bK a1,rW,szl (show w.length+2<=10000 by omega),ht,ex,e3]
  rw[<-List.map_set,hj,cw hp]
 ·have ex:w++".0"=fZ r:=by
   cases r<;>simp[Rw.ws,Rw.ps]at hw<;>first|(subst hw;rfl)|simp[Rw.tag]at ht
  simp[bK a1,rW,szl (show w.length+2<=10000 by omega),ht,ex,e3]
  rw[<-List.map_set,hj,cw hp]
theorem pC(h:r.ok)(c:Int):Spo r c:=by
 by_cases h7:7<=c % 10
 ·exact wb h c h7
 have:c % 10=0\/c % 10=1\/c % 10=2\/c % 10=3\/c % 10=4\/c % 10=5\/c % 10=6:=by omega
 rcases this with e|e|e|e|e|e|e
 ·exact xS h c e
 ·exact wz h c e
 ·exact zm h c e
 ·exact xU h c e
 ·exact yL h c e
 ·exact ze h c e
 ·exact wD h c e
end G
namespace G
open L2
open PySem (Str)
section
variable {cls kls fad:Nat->PySem.Addr}{M:MH}{Q:VK3}{E:XN}{n:Nat}{z y:PySem.Str}{i:Int}{r:Rw}{rs:List Rw}
theorem yJ{y a b c:Str}:PySem.Str.join y [a,b,c]=a++y++(b++y++c):=rfl
theorem sv{y a b c d:Str}:PySem.Str.join y [a,b,c,d]=a++y++(b++y++(c++y++d)):=rfl
theorem wa{y a b c d e:Str}:PySem.Str.join y [a,b,c,d,e]=a++y++(b++y++(c++y++(d++y++e))):=rfl
theorem vH:(("look" : String):Str).length=4:=by decide +kernel
theorem rj:(("sight" : String):Str).length=5:=by decide +kernel
theorem u7:(("send" : String):Str).length=4:=by decide +kernel
theorem tY:(("take" : String):Str).length=4:=by decide +kernel
theorem Rw.tl(h:r.ok):r.t.length<=261:=by
 cases r with
 |look a b=>
  simp[Rw.ok,Rw.ns]at h;have:=aC h.1;have:=aC h.2;show (PySem.Str.join " " ["look",tx a,tx b]).length<=261;simp only[yJ,aH,nj,vH];omega
 |sight a b c d=>
  simp[Rw.ok,Rw.ns]at h;have:=aC h.1;have:=aC h.2.1;have:=aC h.2.2.1;have:=aC h.2.2.2;show (PySem.Str.join " " ["sight",tx a,tx b,tx c,tx d]).length<=261;simp only[wa,aH,nj,rj];omega
 |send a b c=>
  simp[Rw.ok,Rw.ns]at h;have:=aC h.1;have:=aC h.2.1;have:=aC h.2.2;show (PySem.Str.join " " ["send",tx a,tx b,tx c]).length<=261;simp only[sv,aH,nj,u7];omega
 |take a b c d=>
  simp[Rw.ok,Rw.ns]at h;have:=aC h.1;have:=aC h.2.1;have:=pK (p:=(c,d)) h.2.2.1 h.2.2.2;show (PySem.Str.join " " ["take",tx a,tx b,nT (c,d)]).length<=261;simp only[sv,aH,nj,tY];omega
theorem Rw.t59(h:r.ok):59∉r.t.cps.toList:=eg (by rw[ib];simp) λt ht=>(Rw.wd h t ht).s
theorem Rw.tcut(r:Rw):∃u,r.t=r.tag++" "++u:=by
 obtain⟨a,b,l,e,_⟩:=ws3 r;exact⟨PySem.Str.join " " (a::b::l),by unfold Rw.t;rw[e];rfl⟩
theorem Rw.tne(r:Rw):r.t.cps.toList≠[]:=by
 obtain⟨u,e⟩:=Rw.tcut r;rw[e,ae,ae,ib];simp
structure Rws (rs:List Rw):Prop where
 l:rs.length<=31
 s:∀r∈rs,r.ok
noncomputable def gT(rs:List Rw):Str:=PySem.Str.join "; " (rs.map Rw.t)
theorem i5(h:Rws rs):(gT rs).length<=8160:=by
 have h1:=eh (y:="; ") (B:=261) (rs.map Rw.t) (λt ht=>by
  obtain⟨r,hr,rfl⟩:=List.mem_map.mp ht;exact Rw.tl (h.s r hr))
 rw[List.length_map,gE]at h1;have h2:rs.length * (261+2)<=31 * (261+2):=Nat.mul_le_mul_right _ h.l;unfold gT;omega
theorem rh(h:Rws rs):eG "; " (gT rs)=rs.map Rw.t:=by
 unfold gT;cases rs with
 |nil=>exact if_pos (by decide +kernel)
 |cons r l=>
  unfold eG;rw[if_neg,bL bh jw (by simp) (λt ht=>by
   obtain⟨x,hx,rfl⟩:=List.mem_map.mp ht;exact Rw.t59 (h.s x hx))]
  obtain⟨u,e⟩:=iC (y:="; ") (t:=r.t) (r:=l.map Rw.t);refine ne_of ?_;rw[List.map_cons,e];intro q;exact Rw.tne r (List.append_eq_nil_iff.mp q).1
theorem qJ(h:Rws rs):rdG (gT rs)=some (.rol (rs.map Rw.d)):=by
 unfold rdG;rw[rh h,List.map_map,gq (h:=Rw.d) λr hr=>mf (h.s r hr)]
 rfl
theorem okG(h:Rws rs):PySem.JoinOk "; " (rs.map Rw.t)=true:=fP (by have:=h.l;simp;omega) (by rw[gE];decide) λt ht=>by
 obtain⟨r,hr,rfl⟩:=List.mem_map.mp ht;exact Nat.le_trans (Rw.tl (h.s r hr)) (by decide)
noncomputable def shR:D->D
 |.tup (.str t::ps)=>.str (PySem.Str.join " " (t::ps.map pT))
 |_=>.non
theorem sk(r:Rw):shR r.d=.str r.t:=rfl
theorem lB(hM:Fm M)(h:Rws rs):aa T (B cls kls fad) (n+5) 4 [.rol (rs.map Rw.d)] M Q E=Q (.str (gT rs)) M:=by
 simp[kN,cx];have e:∀{x:Option D},ai [none] [x]=[none]:=rfl;rw[e,cf shR hM (by have:=h.l;simp;omega) (λd hd M' hM' Q=>by
  obtain⟨r,hr,rfl⟩:=List.mem_map.mp hd;simp[sk,gu hM'.1 (h.s r hr)])]
 have e2:(rs.map Rw.d).map shR=(rs.map Rw.t).map D.str:=by rw[List.map_map,List.map_map];rfl
 rw[e2,cK (okG h)];simp[gT]
theorem xF(r:Rw):plN 7 r.d=true:=by cases r<;>simp[plN,Rw.d,Rw.ps,nD]
theorem qL:aj .NotEq (.rol (rs.map Rw.d)) (.rol (rs.map Rw.d)) M Q=Q (.bl false) M:=by
 have h':plN 8 (.rol (rs.map Rw.d))=true:=by
  show (rs.map Rw.d).all (plN 7)=true;rw[List.all_eq_true];intro x hx;obtain⟨r,_,rfl⟩:=List.mem_map.mp hx;exact xF r
 have h'':(rs.map Rw.d).all (plN 8)=true:=by
  rw[List.all_eq_true];intro x hx;obtain⟨r,_,rfl⟩:=List.mem_map.mp hx;cases r<;>simp[plN,Rw.d,Rw.ps,nD]
 simp[aj,dI,L2.rs,af,pl,kD 8 h',h',h'']
noncomputable def stP:D->St3
 |.tup [a,b]=>[some a,some b]
 |_=>[]
theorem jE(hM:Fm M)(h:Rws rs):aa T (B cls kls fad) (n+6) 20 [.rol (rs.map Rw.d),.str (gT rs)] M Q E=Q (.bl true) M:=by
 have hl:=h.l;have c1:∀{Q:VK3}{E:XN},aa T (B cls kls fad) (n+5) 4 [.rol (rs.map Rw.d)] M Q E=Q (.str (gT rs)) M:=λ{Q E}=>lB hM h
 have c2:∀{Q:VK3}{E:XN},aa T (B cls kls fad) (n+5) 12 [.str (gT rs)] M Q E=Q (.rol (rs.map Rw.d)) M:=λ{Q E}=>by
  rw[dG hM (Nat.le_trans (i5 h) (by decide)),qJ h];rfl
 have hs:rs.length<=PySem.sizeLine:=szl (by omega)
 simp[fu,aT,c1,c2,qL,hs];have e0:∀{σ:St3},ai [none,none] σ=[none,none]:=rfl;have ez:cS (rs.map Rw.d) (rs.map Rw.d)=rs.map λr=>.tup [r.d,r.d]:=by
  unfold cS;rw[List.zip_map',List.map_map];rfl
 rw[e0,ez,iP (λσ=>∃a b,σ=[a,b]) stP (λ_=>true) (λ_=>.bl true) ⟨_,_,rfl⟩ hM (by simp;omega) (λd hd=>by
   obtain⟨r,hr,rfl⟩:=List.mem_map.mp hd;refine⟨⟨_,_,rfl⟩,λσ ⟨a,b,e⟩ M k=>?_⟩
   subst e;simp[stP]) (λ_ _ _ _ _=>rfl) (λd hd _ M' hM' Q=>by
   obtain⟨r,hr,rfl⟩:=List.mem_map.mp hd;simp[stP,lY hM'.1 (h.s r hr)])]
 rw[List.filter_eq_self.mpr (λ_ _=>rfl),lL (g:=λ_=>.bl true) (λ_=>true) λ_ _=>rfl,List.all_eq_true.mpr λ_ _=>rfl]
 simp
end
end G
namespace G
open L2
open PySem (Str)
section
variable {cls kls fad:Nat->PySem.Addr}{M:MH}{Q:VK3}{E:XN}{n:Nat}{z y:PySem.Str}{i:Int}{r:Rw}{rs:List Rw}{W:WC}{σ:St3}
theorem fR(ns:List Int)(lo hi:Option Int):∃cs:List Int,bO (ns.map D.int) lo hi=cs.map D.int/\cs.length<=HT.sIx ns.length ns.length hi - HT.sIx ns.length 0 lo:=by
 unfold bO;rw[List.length_map,<-List.map_drop,<-List.map_take];exact⟨_,rfl,by simp only[List.length_take];omega⟩
noncomputable def zb:D->D
 |.int c=>(jb c).d
 |_=>.non
theorem rB{cs:List Int}(hM:Fm M)(hl:cs.length<=100):iV {toWB:=B cls kls fad,call:=aa T (B cls kls fad) (n+2)} (.name 0) .no (.call 15 (.cons (.var 0) .nil)) (λ_=>True) Q (cs.map D.int) (ai [none] σ) M=Q (.rol ((cs.map jb).map Rw.d)) M:=by
 rw[show ai [none] σ=[none] from rfl,cf zb hM (by simp;omega) (λd hd M' _ Q=>by
  obtain⟨k,hk,rfl⟩:=List.mem_map.mp hd;simp[zb,yo])]
 rw[List.map_map,List.map_map];rfl
theorem pk(hM:Fm M)(h:Rws rs):iV {toWB:=B cls kls fad,call:=aa T (B cls kls fad) (n+1)} (.name 0) .no (.bm .join (.con (.str " ")) (.cons (.frz (.call 16 (.cons (.var 0) .nil))) .nil)) (λ_=>True) Q (rs.map Rw.d) (ai [none] σ) M=Q (.rol ((rs.map Rw.t).map D.str)) M:=by
 have hl:=h.l;rw[show ai [none] σ=[none] from rfl,cf shR hM (by simp;omega) (λd hd M' hM' Q=>by
  obtain⟨r,hr,rfl⟩:=List.mem_map.mp hd;have hk:=h.s r hr;simp[sk,bD hM'.1 hk];refine iff_of_eq (ar hM'.1 λp hp=>?_)
  rw[p8 hp,cK (okJ (by decide +kernel) (by have:=(Rw.wlen (r:=r)).2;omega) (Rw.wd hk))]
  rfl)]
 rw[List.map_map,List.map_map];rfl
theorem ul{cs:List Int}{d:D}(hd:d∈eB (rs.map Rw.d) ((rs.map Rw.t).map D.str) (cs.map D.int)):∃r∈rs,∃c:Int,d=.tup [r.d,.str r.t,.int c]:=by
 unfold eB at hd;obtain⟨⟨a,b,c⟩,hp,rfl⟩:=List.mem_map.mp hd;obtain⟨i,hi⟩:=List.mem_iff_getElem?.mp hp;obtain⟨h1,h4⟩:=List.getElem?_zip_eq_some.mp hi;obtain⟨h2,h3⟩:=List.getElem?_zip_eq_some.mp h4;clear h4 hd hp hi;rw[List.map_map]at h2;rw[List.getElem?_map]at h1 h2 h3;cases q:rs[i]? with
 |none=>simp[q]at h1
 |some r=>
  cases q3:cs[i]? with
  |none=>simp[q3]at h3
  |some k=>
   simp[q]at h1 h2;simp[q3]at h3;subst h1 h2 h3;exact⟨r,List.mem_of_getElem? q,k,rfl⟩
end
end G
namespace G
open L2
open PySem (Str)
section
variable {r r1:Rw}{rs l:List Rw}{s:Str}
theorem iy{y s:Str}:∀{ts:List Str},ts≠[]->PySem.Str.join y (ts++[s])=PySem.Str.join y ts++y++s
 |[],h=>absurd rfl h
 |[t],_=>rfl
 |t::u::r,_=>by
  have ih:=iy (y:=y) (s:=s) (ts:=u::r) (by simp)
  show t++y++PySem.Str.join y ((u::r)++[s])=t++y++PySem.Str.join y (u::r)++y++s;rw[ih];exact bQ (by simp only[ae,List.append_assoc])
theorem l00:(Rw.look 0 0).t = "look 0 0":=by decide +kernel
theorem BL:(Rw.look 0 0).ok:=by
 intro k hk;simp[Rw.ns]at hk;subst hk;unfold Sm;decide
theorem Rws.snoc(h:Rws rs)(hl:rs.length<=30)(hr:r.ok):Rws (rs++[r]):=⟨by simp;omega,λx hx=>by
 rcases List.mem_append.mp hx with q|q
 ·exact h.s x q
 ·rw[List.mem_singleton.mp q];exact hr⟩
theorem jT{ks:List Rw}(h:Rws ks)(h0:ks≠[])(hs:SpOk s):Bad rdG (.str (gT ks++"; "++s)):=by
 have h1:=i5 h;have h2:=hs.l;refine .inl ⟨_,rfl,by rw[aH,aH,gE];omega,?_⟩
 exact pF (by simpa using h0) (λt ht=>by
  obtain⟨x,hx,rfl⟩:=List.mem_map.mp ht;exact Rw.t59 (h.s x hx)) (by rw[hs.one];simp) hs.r
theorem CF:SpOk "":=sF "" (by simp[b7])
theorem yP{ks:List Rw}(h:Rws ks)(h0:ks≠[]):Bad rdG (.str (gT ks++"; ")):=by
 have:=jT h h0 CF
 rwa [show gT ks++"; "++""=gT ks++"; " from bQ (by rw[ae,d_e];simp)]at this
theorem yf{ks:List Rw}(h:Rws ks):Bad rdG (.str ("; "++gT ks)):=by
 have h1:=i5 h;refine .inl ⟨_,rfl,by rw[aH,gE];omega,dS (p:="") ?_ nV⟩
 rw[eA (ne_of (by rw[ae,bh];simp)),ae,bh]
 have:=bT (w:=[32]) (a:=59) (gT ks).cps.toList (p:=[]) (by simp)
 rw[List.nil_append]at this;rw[this];exact List.mem_map.mpr ⟨[],by simp,by decide +kernel⟩
theorem wf{ks:List Rw}(h:Rws ks)(h0:ks≠[])(z:Str):PySem.Txt.replace (gT ks) "; " z=PySem.Str.join z (ks.map Rw.t):=by
 rw[kA (by decide +kernel) jw]
 unfold gT;rw[bL bh jw (by simpa using h0) (λt ht=>by
  obtain⟨x,hx,rfl⟩:=List.mem_map.mp ht;exact Rw.t59 (h.s x hx))]
theorem jz{ks:List Rw}(h:Rws ks){z:Str}(hz:z.length<=4):(PySem.Str.join z (ks.map Rw.t)).length<=9000:=by
 have h1:=eh (y:=z) (B:=261) (ks.map Rw.t) (λt ht=>by
  obtain⟨r,hr,rfl⟩:=List.mem_map.mp ht;exact Rw.tl (h.s r hr))
 rw[List.length_map]at h1;have h2:ks.length * (261+z.length)<=31 * (261+4):=Nat.mul_le_mul h.l (by omega)
 omega
theorem two(r r1:Rw)(l:List Rw)(z:Str):PySem.Str.join z ((r::r1::l).map Rw.t)=r.t++z++PySem.Str.join z ((r1::l).map Rw.t):=rfl
theorem yr(r:Rw):∃c u,r.tag.cps.toList=c::u/\c≠32:=by
 have h:=lC r;rcases q:r.tag.cps.toList with _|⟨c,u⟩
 ·exfalso;rcases pZ r with e|e|e|e<;>rw[e]at q<;>revert q<;>decide +kernel
 ·exact⟨c,u,rfl,by have:=h c (by rw[q];simp);omega⟩
theorem Bq:((";" : String):Str).cps.toList=[59]:=by decide +kernel
theorem B1:((";  " : String):Str).cps.toList=[59,32,32]:=by decide +kernel
theorem BD:(("; ; " : String):Str).cps.toList=[59,32,59,32]:=by decide +kernel
theorem p4(r1:Rw)(l:List Rw)(z:Str):∃c u,(PySem.Str.join z ((r1::l).map Rw.t)).cps.toList=c::u/\c≠32:=by
 obtain⟨c,u,e,hc⟩:=yr r1;obtain⟨v,ev⟩:=Rw.tcut r1;obtain⟨w,ew⟩:=iC (y:=z) (t:=r1.t) (r:=l.map Rw.t);rw[List.map_cons,ew,ev,ae,ae,e];exact⟨c,_,rfl,hc⟩
theorem yq(h:Rws (r::r1::l)):Bad rdG (.str (PySem.Str.join ";" ((r::r1::l).map Rw.t))):=by
 refine .inl ⟨_,rfl,jz h (by decide +kernel),?_⟩
 obtain⟨c,u,e,hc⟩:=p4 r1 l ";";obtain⟨q,w,ew⟩:=mw (u:=u) hc (p:=r.t.cps.toList) (Rw.t59 (h.s r (by simp)))
 obtain⟨v,ev⟩:=Rw.tcut r;have et:(PySem.Str.join ";" ((r::r1::l).map Rw.t)).cps.toList=r.t.cps.toList++59::c::u:=by
  rw[two,ae,ae,Bq,e];simp
 refine dS (p:=ofC (r.t.cps.toList++59::q)) ?_ ?_
 ·rw[eA (ne_of (by rw[et];simp)),et,ew]
  simp
 ·have e2:ofC (r.t.cps.toList++59::q)=r.tag++" "++(v++ofC (59::q)):=bQ (by rw[cy,ev];simp only[ae,cy,List.append_assoc])
  rw[e2];exact rD (c:=59) (λq=>by have:=lC r _ q;omega) (by rw[ae,cy];simp) ⟨by decide,by decide,by decide⟩ (by decide)
theorem xC(h:Rws (r::r1::l)):Bad rdG (.str (PySem.Str.join ";  " ((r::r1::l).map Rw.t))):=by
 refine .inl ⟨_,rfl,jz h (by decide +kernel),?_⟩
 generalize hu:PySem.Str.join ";  " ((r1::l).map Rw.t)=u;have e:PySem.Str.join ";  " ((r::r1::l).map Rw.t)=r.t++"; "++(" "++u):=by
  rw[two,hu];exact bQ (by simp only[ae,B1,bh,ib,List.append_assoc];rfl)
 rw[e];rcases q:spl [59,32] u.cps.toList 0 with _|⟨a,b⟩
 ·exact absurd q (eY _ _)
 ·refine mm (p:=" "++ofC a) (Rw.t59 (h.s r (by simp))) ?_ mK
  rw[ae,ae,ib,cy];show 32::a∈spl [59,32] (32::u.cps.toList) 0;unfold spl;rw[if_neg (by simp[List.isPrefixOf]),q]
  simp
theorem xp(h:Rws (r::r1::l)):Bad rdG (.str (PySem.Str.join "; ; " ((r::r1::l).map Rw.t))):=by
 refine .inl ⟨_,rfl,jz h (by decide +kernel),?_⟩
 generalize hu:PySem.Str.join "; ; " ((r1::l).map Rw.t)=u;have e:PySem.Str.join "; ; " ((r::r1::l).map Rw.t)=r.t++"; "++("; "++u):=by
  rw[two,hu];exact bQ (by simp only[ae,BD,bh,List.append_assoc];rfl)
 rw[e];refine mm (p:="") (Rw.t59 (h.s r (by simp))) ?_ nV
 rw[ae,bh,d_e];have:=bT (w:=[32]) (a:=59) u.cps.toList (p:=[]) (by simp)
 rw[List.nil_append]at this;rw[this];simp
end
end G
namespace G
open L2
open PySem (Str)
section
variable {cls kls fad:Nat->PySem.Addr}{M:MH}{Q:VK3}{E:XN}{n:Nat}{z y:PySem.Str}{i:Int}{r:Rw}{rs:List Rw}{W:WC}{σ:St3}
theorem lJ(hM:Fm M)(h:r.ok):aa T (B cls kls fad) (n+4) 11 [.str r.t] M Q E=Q r.d M:=by
 rw[dQ hM (Nat.le_trans (Rw.tl h) (by decide)),mf h];rfl
theorem vD{ns:List Int}:aa T (B cls kls fad) (n+1) 13 [scr ns,.int 0] M Q E=Q (.int (ns.headD 0)) M:=by
 cases ns with
 |nil=>simp[dm,aR,scr]
 |cons a l=>
  have h:(0:Int) < l.length+1:=by omega
  simp[dm,aR,scr,h]
theorem kL{c:Int}{De:Ends3}{ES:St3->XN}{x0 x1 x2 x6 x7 x8 x9 x10 x11:Option D}(hM:Fm M)(h:r.ok)(hk:∀y,De.nx [x0,x1,x2,some r.d,some (.str r.t),some (.int c),y,x7,x8,x9,x10,x11] M) :
  av {toWB:=B cls kls fad,call:=aa T (B cls kls fad) (n+6)} gK De ES [x0,x1,x2,some r.d,some (.str r.t),some (.int c),x6,x7,x8,x9,x10,x11] M:=by
 obtain⟨s,hs,he⟩:=pC h (c / 4);have c1:∀{Q:VK3}{E:XN},aa T (B cls kls fad) (n+6) 3 [r.d] M Q E=Q (.str r.t) M:=λ{Q E}=>gu (n:=n+2) hM h
 have c2:∀{Q:VK3}{E:XN},aa T (B cls kls fad) (n+6) 11 [.str r.t] M Q E=Q r.d M:=λ{Q E}=>lJ (n:=n+2) hM h
 have c3:∀{Q:VK3}{E:XN},aa T (B cls kls fad) (n+6) 18 [r.d,r.d] M Q E=Q (.bl true) M:=λ{Q E}=>lY (n:=n+5) hM h
 have c4:∀{Q:VK3}{E:XN},aa T (B cls kls fad) (n+6) 17 [r.d,.int (c / 4)] M Q E=Q (.str s) M:=λ{Q E}=>he (n:=n+4) hM
 have c5:∀{Q:VK3}{E:XN},aa T (B cls kls fad) (n+6) 19 [.int 0,.str s] M Q E=Q (.bl true) M:=λ{Q E}=>gU (n:=n) hM (.inl ⟨s,rfl,Nat.le_trans hs.l (by decide),hs.r⟩)
 simp[gK,c1,c2,c3,c4,c5,aX,hk]
theorem xK:Bad rdR (.str ""):=.inl ⟨"",rfl,by decide +kernel,nV⟩
theorem wx:rdG ""=some (.rol []):=by
 unfold rdG eG;rw[if_pos rfl];rfl
theorem vY{l:List Rw}:aj .Eq (.rol ((r::l).map Rw.d)) (.rol []) M Q=Q (.bl false) M:=by
 have h':∀x∈(r::l).map Rw.d,plN 7 x=true/\plN 8 x=true:=λx hx=>by
  obtain⟨k,_,rfl⟩:=List.mem_map.mp hx;exact⟨xF k,by cases k<;>simp[plN,Rw.d,Rw.ps,nD]⟩
 have h1:((r::l).map Rw.d).all (plN 8)=true:=List.all_eq_true.mpr λx hx=>(h' x hx).2
 have h2:pl (.rol ((r::l).map Rw.d))=true:=List.all_eq_true.mpr λx hx=>(h' x hx).1
 have e:L2.rs M (.rol ((r::l).map Rw.d))=.rol ((r::l).map Rw.d):=by simp only[L2.rs,af,h1,if_true]
 have e2:L2.rs M (.rol [])=.rol []:=rfl;show (pl (L2.rs M _)=true/\pl (L2.rs M _)=true/\Q (.bl (false ^^ eqD (L2.rs M _) (L2.rs M _))) M)=_;rw[e,e2,h2];simp[eqD,cG,plN]
theorem main(cls kls fad:Nat->PySem.Addr)(ns:List Int)(hl:ns.length<=63):aa (L.map FL.fb) (B cls kls fad) 7 21 [scr ns] (λ_=>none) (λd _=>d=.bl true) (λ_ _=>False):=by
 rw[Bd];have hM:Fm (λ_=>none):=Fm.nil
 obtain⟨cs,e1,l1⟩:=fR ns (some 1) (some 31);obtain⟨cs2,e2,l2⟩:=fR ns (some 2) (some 31);obtain⟨cs3,e3,l3⟩:=fR ns none (some 1);have l1:cs.length<=30:=by
  simp[HT.sIx]at l1;omega
 have l2:cs2.length<=30:=by
  simp[HT.sIx]at l2;omega
 have l3:cs3.length<=1:=by
  simp[HT.sIx]at l3;omega
 have hc:∀{Q:VK3}{E:XN}{M:MH},aa T (B cls kls fad) 6 13 [scr ns,.int 0] M Q E=Q (.int (ns.headD 0)) M:=λ{Q E M}=>vD (n:=5)
 simp only[yt,lW];simp[e1,e2,e3,-List.length_map,-List.map_map];refine⟨by rw[List.length_map];exact szl (by omega),?_⟩
 rw[rB (n:=4) hM (by omega)]
 have hR:Rws (cs.map jb):=⟨by simp;omega,λx hx=>by
  obtain⟨c,_,rfl⟩:=List.mem_map.mp hx;exact qC c⟩
 have hR2:(cs.map jb).length<=30:=by simpa using l1
 revert hR hR2;generalize cs.map jb=rs;intro hR hR2;simp[-List.length_map,-List.map_map];rw[pk (n:=5) hM hR];refine⟨by rw[List.length_map];exact szl (by omega),by rw[List.length_map];exact szl (by omega),by rw[List.length_map,List.length_map];exact szl (by omega),?_⟩
 rw[<-List.map_append];generalize cs2++cs3=ks;refine rH (λσ=>∃y3 y4 y5 y6,σ=[some (scr ns),some (.rol (rs.map Rw.d)),some (.rol ((rs.map Rw.t).map D.str)),y3,y4,y5,y6,none,none,none,none,none]) ⟨_,_,_,_,rfl⟩ (λd hd σ ⟨y3,y4,y5,y6,q⟩ kk hkk=>?_) (λσ ⟨y3,y4,y5,y6,q⟩=>?_)
 ·subst q;obtain⟨r,hr,c,rfl⟩:=ul hd;refine⟨rfl,?_⟩;refine kL (n:=0) hM (hR.s r hr) ?_;exact λy=>hkk _ ⟨_,_,_,_,rfl⟩
 ·subst q;have r1:∀{Q:VK3}{E:XN},aa T (B cls kls fad) 6 20 [.rol (rs.map Rw.d),.str (gT rs)] (λ_=>none) Q E=Q (.bl true) (λ_=>none):=λ{Q E}=>jE (n:=0) hM hR
  have r2:∀{Q:VK3},rBm .join (.str "; ") [.rol ((rs.map Rw.t).map D.str)] (λ_=>none) Q=Q (.str (gT rs)) (λ_=>none):=λ{Q}=>by rw[cK (okG hR)];rfl
  have r3:∀{Q:VK3}{E:XN}{x:D},Bad rdR x->aa T (B cls kls fad) 6 19 [.int 0,x] (λ_=>none) Q E=Q (.bl true) (λ_=>none):=λ{Q E x} h=>gU (n:=0) hM h
  have r4:∀{Q:VK3}{E:XN}{x:D},Bad rdG x->aa T (B cls kls fad) 6 19 [.int 1,x] (λ_=>none) Q E=Q (.bl true) (λ_=>none):=λ{Q E x} h=>gp (n:=0) hM h
  simp[-List.map_map,-List.length_map,r1,r2,hc,aq];generalize ns.head?.getD 0=c0;obtain⟨x,hx,hn⟩:∃x,atI [D.non,D.int 5,D.tup [D.str (Str.ofString "look"),D.int 0,D.int 0]] (c0 % 3)=some x/\dJ x=true:=by
   obtain e|e|e:c0 % 3=0\/c0 % 3=1\/c0 % 3=2:=by omega
   ·rw[e];exact⟨_,rfl,rfl⟩
   ·rw[e];exact⟨_,rfl,rfl⟩
   ·rw[e];exact⟨_,rfl,rfl⟩
  rw[bK hx,r3 (.inr hn)];refine⟨rfl,?_⟩;rw[r4 (.inr hn)];refine⟨rfl,?_⟩;rw[r3 xK];refine⟨rfl,?_⟩;cases rs with
  |nil=>
   have r5:∀{Q:VK3}{E:XN},aa T (B cls kls fad) 6 12 [.str ""] (λ_=>none) Q E=Q (.rol []) (λ_=>none):=λ{Q E}=>by
    rw[dG (n:=1) hM (by decide +kernel),wx];rfl
   simp[r5,aj,dI,L2.rs,af,eqD,cG,plN]
  |cons r0 l=>
   rw[vY];generalize hrs:r0::l=rs at *
   have hpos:0 < rs.length:=by rw[<-hrs];simp
   obtain⟨k,ek,hk⟩:=dY (a:=c0 / 3) hpos;have hat:atI (rs.map Rw.d) (c0 / 3 % ((rs.map Rw.d).length:Int))=some (rs[k]).d:=by
    rw[List.length_map,ek];have e:ixN rs.length (k:Int)=some k:=by unfold ixN;simp;omega
    simp[atI,e];exact⟨rs[k],List.getElem?_eq_getElem hk,rfl⟩
   have hok:(rs[k]).ok:=hR.s _ (by simp)
   obtain⟨s,hs,he⟩:=pC hok (c0 / 90);have c4:∀{Q:VK3}{E:XN},aa T (B cls kls fad) 6 17 [(rs[k]).d,.int (c0 / 90)] (λ_=>none) Q E=Q (.str s) (λ_=>none):=λ{Q E}=>he (n:=4) hM
   simp only[bK hat,c4];rw[if_neg Bool.false_ne_true];refine⟨by simp[aX],by simpa using hpos,by simp[aX],?_⟩
   rw[r3 (.inl ⟨s,rfl,Nat.le_trans hs.l (by decide),hs.r⟩)]
   refine⟨rfl,by rw[List.length_map,List.length_map];exact szl (by omega),?_⟩
   have hR3:Rws (rs++[Rw.look 0 0]):=hR.snoc hR2 BL;have et:(rs.map Rw.t).map D.str++[D.str (Str.ofString "look 0 0"),D.str s]=((rs++[Rw.look 0 0]).map Rw.t++[s]).map D.str:=by simp[l00]
   have tl:∀{ks:List Rw},Rws ks->∀t∈ks.map Rw.t,t.length<=1000:=λ{ks} hK t ht=>by
    obtain⟨x,hx,rfl⟩:=List.mem_map.mp ht;exact Nat.le_trans (Rw.tl (hK.s x hx)) (by decide)
   rw[et,cK (fP (by simp;omega) (by decide +kernel) λt ht=>?_),iy (by simp)]
   ·rw[r4 (show Bad rdG (.str (PySem.Str.join "; " ((rs++[Rw.look 0 0]).map Rw.t)++"; "++s)) from jT hR3 (by simp) hs)]
    refine⟨rfl,?_⟩;have hR4:Rws (rs++[r0]):=hR.snoc hR2 (hR.s r0 (by rw[<-hrs];simp))
    have ec:bO ((rs.map Rw.t).map D.str) none (some 1)=[D.str r0.t]:=by
     rw[show bO ((rs.map Rw.t).map D.str) none (some 1)=((rs.map Rw.t).map D.str).take 1 from oR (k:=1),<-hrs];rfl
    have ew:(rs.map Rw.t).map D.str++[D.str r0.t]=((rs++[r0]).map Rw.t).map D.str:=by simp
    rw[ec];refine⟨pR,by rw[List.length_map,List.length_map];exact szl (by simp;omega),?_⟩
    rw[ew,cK (okG hR4)];have gl:=i5 hR4;have g2:=λz:Str=>wf hR4 (by simp) z
    rw[show PySem.Str.join "; " ((rs++[r0]).map Rw.t)=gT (rs++[r0]) from rfl];have b0:=yP hR4 (by simp)
    have b1:=yf hR4;obtain⟨r1,l',e1⟩:∃r1 l',rs++[r0]=r0::r1::l':=by
     rw[<-hrs];cases l with
     |nil=>exact⟨r0,[],rfl⟩
     |cons a b=>exact⟨a,b++[r0],rfl⟩
    have b2':Bad rdG (.str (PySem.Str.join ";" ((rs++[r0]).map Rw.t))):=by rw[e1]at hR4 ⊢;exact yq hR4
    have b3':Bad rdG (.str (PySem.Str.join ";  " ((rs++[r0]).map Rw.t))):=by rw[e1]at hR4 ⊢;exact xC hR4
    have b4':Bad rdG (.str (PySem.Str.join "; ; " ((rs++[r0]).map Rw.t))):=by rw[e1]at hR4 ⊢;exact xp hR4
    rw[<-g2]at b2' b3' b4';generalize gT (rs++[r0])=w at gl b0 b1 b2' b3' b4';have n1:(Str.ofString "; " == Str.ofString ";")=false:=by decide +kernel
    have n2:(Str.ofString "; " == Str.ofString ";  ")=false:=by decide +kernel
    have n3:(Str.ofString "; " == Str.ofString "; ; ")=false:=by decide +kernel
    have m1:(Str.ofString ";").length<=14:=by decide +kernel
    have m2:(Str.ofString ";  ").length<=14:=by decide +kernel
    have m3:(Str.ofString "; ; ").length<=14:=by decide +kernel
    simp[gE,n1,n2,n3,m1,m2,m3,szl (show w.length+2<=10000 by omega),szl (show 2+w.length<=10000 by omega),show w.length<=1048576 by omega,aq,aX]
    intro p;refine⟨z4,?_⟩;have fin:∀{o:DO}{x:D},Bad rdG x->aa T (B cls kls fad) 6 19 [.int 1,x] (put (λ_=>none) p o) (λd _=>d=.bl true) (λ_ _=>False):=λ{o x} hb=>by
     rw[gp (n:=0) (Ext.put hM rfl o).1 hb]
    obtain e|e|e|e|e:c0 / 7 % 5=0\/c0 / 7 % 5=1\/c0 / 7 % 5=2\/c0 / 7 % 5=3\/c0 / 7 % 5=4:=by omega
    ·rw[e,bK (x:=D.str (w++"; ")) rfl];exact fin b0
    ·rw[e,bK (x:=D.str ("; "++w)) rfl];exact fin b1
    ·rw[e,bK (x:=D.str (PySem.Txt.replace w "; " ";")) rfl];exact fin b2'
    ·rw[e,bK (x:=D.str (PySem.Txt.replace w "; " ";  ")) rfl];exact fin b3'
    ·rw[e,bK (x:=D.str (PySem.Txt.replace w "; " "; ; ")) rfl];exact fin b4'
   ·rcases List.mem_append.mp ht with q|q
    ·exact tl hR3 t q
    ·rw[List.mem_singleton.mp q];exact Nat.le_trans hs.l (by decide)
end
end G
open PySem PySem.W PyProof.Rows
set_option maxRecDepth 100000 in
set_option maxHeartbeats 0 in
theorem PySem.Challenge.cw_driftmeet_k87_rows_and_logs_holds : PySem.Challenge.rw_driftmeet_k87_rows_and_logs.Holds := by
 w_on;o_law
 refine L2.holdsT (l:=PySem.Challenge.rw_driftmeet_k87_rows_and_logs) (q:=HD.view) (loose:=HD.loose) (Xt:=HD.Xt) (XP:=XL HD.view []) (YP:=Hook.says (kHook HD.K HD.as HD.as_eq)) (N:=3252) (n:=63) HD.left (λw s e=>⟨Hook.of (kHook HD.K HD.as HD.as_eq) w s (congrArg Prod.fst e),Nat.le_of_ble_eq_true (congrArg Prod.snd e)⟩) (Hook.keeps (kHook HD.K HD.as HD.as_eq)) (λs e=>xl_of s (Bool.and_eq_true_iff.mp e).1) XL.keeps (by rfl) (by rfl) (by rfl) (λs e=>recFacts_of (Bool.and_eq_true_iff.mp e).2) (by kernel_rfl) (by first|assumption|decide +kernel) (by decide +kernel) ⟨rfl,rfl,rfl,rfl,rfl,by decide +kernel⟩ ?hw rfl rfl ?hc
 (case hw=>w_witness2)
 k_fill
 refine L2.walkD (l:=PySem.Challenge.rw_driftmeet_k87_rows_and_logs) (k:=7) (f:=21) (fl:=G.l_law) (x:="_law_script") (L:=G.L) (nm:=G.nm) (BB:=G.B) ⟨rfl,by decide,by decide⟩ (λw h Y=>PySem.W.kIn_of Y) rfl rfl rfl rfl ?F (λcls kls fad ns hl=>G.main cls kls fad ns hl)
 case F=>
  intro w mg h KX Gn
  refine' G.top_mk KX Gn ?gl0 ?gl1 ?gl2 ?gt2 ?gs2
  (case gl0=>k_is)
  (case gl1=>k_is)
  (case gl2=>k_is)
  (case gt2=>k_is)
  (case gs2=>kernel_rfl)
  all_goals exact⟨0,0,0,0⟩
