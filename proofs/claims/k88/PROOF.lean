import PyProof.Rows.All
import Wide.All
import OpenK.AllK
import Wide.FinOn
import Lean
import PyProof.EqAt
import PyProof.EqKinds
import PyProof.TupleCall
import PySem.Challenge.RW_driftmeet_k88_worlds_written
set_option Elab.async false
set_option linter.all false
set_option maxRecDepth 100000
namespace L2
open PySem
theorem gC{M:Model}(h:Runs M Γ p t fs s e s'):s.toks<=s'.toks:=by
 induction h with
 |done|raise|yield=>exact Nat.le_refl _
 |fresh _ ih=>exact Nat.le_of_succ_le ih
 |call _ _ a b|segRet _ _ a b=>exact Nat.le_trans a b
 |resumeFresh _ _ _ _ a b|resumeSuspended _ _ _ _ a b|segGen _ _ a b|segSuspGen _ _ _ _ a b=>exact Nat.le_trans a b
 |_=>assumption
theorem n8{M:Model}(h:Wakes M Γ p g r s res s'):s.toks<=s'.toks:=by
 unfold Wakes at h;split at h
 ·exact h.elim
 ·split at h
  ·obtain⟨e,s1,h1,_,_,rfl⟩:=h;have:=gC h1;exact this
  ·rw[h.2];exact Nat.le_refl _
  ·rw[h.2];exact Nat.le_refl _
 ·obtain⟨e,s1,h1,_,_,rfl⟩:=h;have:=gC h1;exact this
 ·rw[h.2];exact Nat.le_refl _
 ·rw[h.2];exact Nat.le_refl _
theorem vD{M:Model}{t:Sem α}{Q:α->Pos->Shared->Prop}{E:Value->Pos->Shared->Prop}(n:Nat)(h:Sem.wp M Γ t (λa p s'=>n<=s'.toks->Q a p s') (λa p s'=>n<=s'.toks->E a p s') p s)(hn:n<=s.toks):Sem.wp M Γ t Q E p s:=by
 revert h hn
 induction t generalizing p s with
 |pure x=>exact λh g=>h g
 |raise v=>exact λh g=>h g
 |unsupported|finish|yield|fork|await|register=>exact λh _=>h
 |fresh k ih=>exact λh g=>ih _ h (Nat.le_succ_of_le g)
 |rule _ k ih|«at» _ k ih|alloc _ k ih|loadIfAlive _ k ih|point _ k ih|ask k ih|os _ _ k ih|handled _ k ih|newGen _ k ih|stack k ih|thread k ih=>exact λh g=>ih _ h g
 |load a _ k ih|genState a k ih=>exact λ⟨o,ho,h⟩ g=>⟨o,ho,ih _ h g⟩
 |update a _ f k ih|choose _ _ k ih=>exact λ⟨ha,h⟩ g=>⟨ha,ih _ h g⟩
 |call c h g l k ih=>exact λ⟨r,s1,q,z⟩ g=>⟨r,s1,q,ih _ z (Nat.le_trans g (gC q))⟩
 |resume g r l k ih=>exact λ⟨res,s',hw,h⟩ g=>⟨res,s',hw,ih _ h (Nat.le_trans g (n8 hw))⟩
theorem d8{M:Model}{A:Around}{t:Sem α}{Q:α->Shared->Prop}{E:Value->Shared->Prop}(hn:0 < s.toks)(h:wpAny M A t (λa s'=>0 < s'.toks->Q a s') (λa s'=>0 < s'.toks->E a s') s):wpAny M A t Q E s:=λΓ p hΓ=>vD 1 (h Γ p hΓ) hn
end L2
set_option maxHeartbeats 4000000
namespace L2
open PySem PySem.Spec PyProof.Rows
theorem j3:entryFor table "proto.unchain"=some Builtin.«proto.unchain»:=entryFor_of_tree (by kernel_rfl)
noncomputable def mZ(o:Obj):Prop:=∃vs,o.data=.fields vs/\vs[2]?=some .none
noncomputable def vd(A:Around)(h:Heap):Prop:=A.handled=none\/∃a o,A.handled=some (.ref a)/\h.get? a=some o/\mZ o
section
variable {prog:Program}{w:World}{A:Around}{E:Value->Shared->Prop}{s:Shared}
theorem tG{b:Addr}{T:String}{ws:Array Value}{Q:α->Shared->Prop}(hh:vd A s.heap)(hb:s.heap.get? b=some {cls:=.type T,data:=.fields ws})(hz:2 < ws.size)(hws:ws.size<=100)(hne:A.handled≠some (.ref b))
  (h:∀h',Heap.SameBut b s.heap h'->(∃o',h'.get? b=some o'/\o'.cls=.type T)->E (.ref b) {s with heap:=h'}):wpAny (model prog w) A (raiseNew (.ref b)) Q E s:=by
 simp only[raiseNew];refine wpAny_bind (wpAny_handled ?_);rcases hh with e|⟨a,o,e,ho,vs,hv,h2⟩
 ·rw[e];exact wpAny_bind (wpAny_pure (wpAny_throw (h _ ⟨rfl,λ_ _=>rfl⟩ ⟨_,hb,rfl⟩)))
 ·rw[e];have ab:a≠b:=λz=>hne (by rw[e,z])
  have hn:(Value.ref a != Value.ref b)=true:=by simpa using ab
  simp only[hn,if_true];refine wpAny_bind (wpAny_holding (wpAny_runValue (codeAny_builtin j3 ?_)));show wpAny _ _ (field (.ref a) 2 >>=_) _ _ s;refine wpAny_bind (wpAny_field ho hv (x:=.none) h2 ?_);show wpAny _ _ (ret .none) _ _ s;refine wpAny_pure (wpAny_bind ?_);have us:=wpAny_setField (M:=model prog w) (A:=A) (E:=E) (x:=.ref a) hb rfl hz (Q:=λ_ s'=>wpAny (model prog w) A (throw (.ref b)) Q E s') (wpAny_throw (h _ (Heap.SameBut.update ..) ⟨_,Heap.get?_update_self _ hb rfl,rfl⟩))
  exact us
open PySem in
theorem fi{it l:Addr}{i:Nat}{items}{Q:Option Value->Shared->Prop}(hh:vd A s.heap)(hl':∀a,A.handled=some (.ref a)->a≠it)
  (hit:s.heap.IsListIter it l i)(hl:s.heap.IsList l items) (hx:items[i]?=none)
  (hQ:∀h',Heap.ExtBut it s.heap h'->Q none {s with heap:=h'}):wpAny (model prog w) A (pyNext (.ref it)) Q E s:=by
 obtain⟨o,ho,hc,hd⟩:=id hit;obtain⟨ol,hol,_,nl,hdl⟩:=hl;unfold pyNext;refine wpAny_bind (wpAny_attempt (wpAny_callSpecial?_slot (name:=Str.ofString "__next__") hit.typeIs slot_listiter_next
  (wpAny_call_entry slot_listiter_next hit.typeIs entry_listiter_next ?_ (args_listiter_next _))))
 show wpAny _ _ (field (.ref it) 0 >>=_) _ _ s;refine wpAny_bind (wpAny_field ho hd (x:=.ref l) rfl ?_);show wpAny _ _ (if (Value.ref l == Value.none)=true then _ else _) _ _ s
 rw[if_neg (show ¬ ((Value.ref l == Value.none)=true) from Bool.false_ne_true)];show wpAny _ _ (field (.ref it) 1 >>=_) _ _ s;refine wpAny_bind (wpAny_field ho hd (x:=.int i 0) rfl ?_);show wpAny _ _ (seqItems? (.ref l) >>=_) _ _ s;refine wpAny_bind (wpAny_seqItems hol hdl ?_);simp only[Int.toNat_natCast,hx];refine wpAny_bind (wpAny_rule (wpAny_bind (wpAny_setField ho hd (by simp) ?_)))
 show wpAny _ _ (newExc (.type "StopIteration") [] >>=_) _ _ _;refine wpAny_bind ?_;simp only[newExc,newTuple];refine wpAny_bind (wpAny_newObj_type ?_ (by size_fits))
 refine wpAny_bind (m:=firstArgMember _ _) (wpAny_of_eq (a:=Value.none) (by first|rfl|(simp only[firstArgMember];rfl)) ?_)
 refine wpAny_newObj_type ?_ (by size_fits)
 have sb:Heap.SameBut it s.heap (s.heap.update it (Obj.mapFields λx=>x.setIfInBounds 0 .none)):=Heap.SameBut.update ..
 have ext:∀x y,Heap.ExtBut it s.heap (((s.heap.update it (Obj.mapFields λx=>x.setIfInBounds 0 .none)).push x).push y):=λx y=>(sb.extBut.push _).push _
 have big:∀b ob,s.heap.get? b=some ob->b < s.heap.objs.size:=λb ob e=>Heap.lt_size e
 have hn:∀x:Obj,((s.heap.update it (Obj.mapFields λx=>x.setIfInBounds 0 .none)).push x).objs.size=s.heap.objs.size+1:=λx=>by rw[Heap.size_push,sb.1]
 refine tG (T:="StopIteration") ?_ (Heap.get?_push_size _ rfl) (by simp[ownMembersOf]) (by simp[ownMembersOf]) ?_ λh' sb2 ⟨o',ho',hc'⟩=>?_
 ·rcases hh with e|⟨a,oa,e,ha,lo⟩
  ·exact .inl e
  ·exact .inr ⟨a,oa,e,ext _ _ a oa (hl' a e) ha,lo⟩
 ·intro q;rcases hh with e|⟨a,oa,e,ha,lo⟩
  ·rw[show A.in1.handled=none from e]at q;cases q
  ·rw[show A.in1.handled=some (.ref a) from e]at q;have:=big a oa ha;have q2:=Value.ref.inj (Option.some.inj q);have q3:a=s.heap.objs.size+1:=q2.trans (hn _);exact Nat.lt_irrefl _ (Nat.lt_of_lt_of_le (q3▸this:s.heap.objs.size+1 < s.heap.objs.size) (Nat.le_succ _))
 ·refine wpAny_bind (wpAny_isInstance (T:="StopIteration") (b:=true) ⟨o',ho',hc'⟩ isSubtype_stop ?_);refine wpAny_pure (hQ _ λb ob hb e=>?_)
  have:=big b ob e;refine (sb2.2 b λq=>?_).trans (ext _ _ b ob hb e)
  have q3:b=s.heap.objs.size+1:=q.trans (hn _);exact Nat.lt_irrefl _ (Nat.lt_of_lt_of_le (q3▸this:s.heap.objs.size+1 < s.heap.objs.size) (Nat.le_succ _))
end
end L2
namespace L2
open PySem PySem.Spec PyProof.Rows
noncomputable abbrev Key:=Sum Int Str
noncomputable def kM:Key->Value->Bool
 |.inl k,v=>Value.isInt k v
 |.inr x,v=>Value.isStrOf x v
noncomputable def ED(w:World):Key->Int
 |.inl k=>hashInt k
 |.inr x=>hashStr w x
theorem aG:∀{k:Key}{v:Value},kM k v=true->(∃i t,k=Sum.inl i/\v=Value.int i t)\/(∃x t,k=Sum.inr x/\v=Value.str x t)
 |.inl i,v,h=>by
  obtain⟨t,e⟩:=Value.isInt_shape (k:=i) (v:=v) h;exact .inl ⟨i,t,rfl,e⟩
 |.inr x,v,h=>by
  obtain⟨t,e⟩:=Value.isStrOf_shape (x:=x) (v:=v) h;exact .inr ⟨x,t,rfl,e⟩
theorem qW(i:Int)(t:Tok):kM (.inl i) (.int i t)=true:=by simp[kM,Value.isInt]
theorem rq(x:Str)(t:Tok):kM (.inr x) (.str x t)=true:=by simp[kM,Value.isStrOf]
theorem yx(a b:Int):decide ((Sum.inl a:Key)=Sum.inl b)=(a == b):=by
 by_cases e:a=b
 ·subst e;simp
 ·have h:¬ (Sum.inl a:Key)=Sum.inl b:=λq=>e (Sum.inl.inj q)
  rw[decide_eq_false h];exact (beq_eq_false_iff_ne.mpr e).symm
theorem yd(a b:Str):decide ((Sum.inr a:Key)=Sum.inr b)=decide (a=b):=by
 by_cases e:a=b
 ·subst e;simp
 ·have h:¬ (Sum.inr a:Key)=Sum.inr b:=λq=>e (Sum.inr.inj q)
  rw[decide_eq_false h,decide_eq_false e]
theorem Ak(a:Int)(b:Str):decide ((Sum.inl a:Key)=Sum.inr b)=false:=decide_eq_false (λq=>nomatch q)
theorem zn(a:Str)(b:Int):decide ((Sum.inr a:Key)=Sum.inl b)=false:=decide_eq_false (λq=>nomatch q)
noncomputable def aH(prog:Program)(w:World):PySem.KeyKind prog w Key where
 is:=kM
 hash:=ED w
 inj:=λv a b ha hb=>by
  rcases aG ha with ⟨i,t,rfl,rfl⟩|⟨x,t,rfl,rfl⟩
  ·rcases aG hb with ⟨j,u,rfl,e⟩|⟨y,u,rfl,e⟩
   ·injection e with e1 _;rw[e1]
   ·exact nomatch e
  ·rcases aG hb with ⟨j,u,rfl,e⟩|⟨y,u,rfl,e⟩
   ·exact nomatch e
   ·injection e with e1 _;rw[e1]
 byValue:=λk v h=>by
  rcases aG h with ⟨i,t,rfl,rfl⟩|⟨x,t,rfl,rfl⟩<;>rfl
 pyHash:=λhv h=>by
  rcases aG hv with ⟨i,t,rfl,rfl⟩|⟨x,t,rfl,rfl⟩
  ·exact wpAny_pyHash_int h
  ·exact wpAny_pyHash_str h
 eqBool:=λhu hv h=>by
  rcases aG hu with ⟨i,t,rfl,rfl⟩|⟨x,t,rfl,rfl⟩
  ·rcases aG hv with ⟨j,u,rfl,rfl⟩|⟨y,u,rfl,rfl⟩
   ·rw[yx]at h;exact wpAny_eqBool_int h
   ·rw[Ak]at h;exact SeqAt.EqAt.int_str i t y u _ _ _ _ h
  ·rcases aG hv with ⟨j,u,rfl,rfl⟩|⟨y,u,rfl,rfl⟩
   ·rw[zn]at h;exact SeqAt.EqAt.str_int x t j u _ _ _ _ h
   ·rw[yd]at h;exact wpAny_eqBool_str h
 «strs»:=λk x t v h=>by
  rcases aG h with ⟨i,u,rfl,e⟩|⟨y,u,rfl,e⟩
  ·exact nomatch e
  ·injection e with e1 _
   subst e1;cases v<;>rfl
theorem nA(prog:Program)(w:World)(i:Int)(t:Tok):(aH prog w).is (.inl i) (.int i t)=true:=qW i t
theorem eD(prog:Program)(w:World)(x:Str)(t:Tok):(aH prog w).is (.inr x) (.str x t)=true:=rq x t
end L2
namespace L2
open PySem PySem.Spec PyProof.Rows
inductive V where
 |non|bl (b:Bool)|int (i:Int)|str (x:Str)|byt (b:Array UInt8)|flt (b:UInt64)|ref (a:Addr)|ty (n:String)
 deriving DecidableEq
noncomputable def RelV:V->Value->Prop
 |.non,u=>u=Value.none
 |.bl b,u=>u=Value.bool b
 |.int i,u=>∃t,u=Value.int i t
 |.str x,u=>∃t,u=Value.str x t
 |.byt b,u=>∃t,u=Value.bytes b t
 |.flt b,u=>∃t,u=Value.float b t
 |.ref a,u=>u=Value.ref a
 |.ty n,u=>u=Value.type n
noncomputable abbrev Vals:List V->List Value->Prop:=Paired RelV
theorem Vals.length{xs:List V}{us:List Value}(r:Vals xs us):xs.length=us.length:=Paired.length r
theorem Vals.get:∀{xs:List V}{us:List Value}{i:Nat}{x:V},Vals xs us->xs[i]?=some x->∃u,us[i]?=some u/\RelV x u
 |_,_,_,_,.nil,e=>by simp at e
 |_,_,0,_,.cons r _,e=>by simp at e;subst e;exact⟨_,rfl,r⟩
 |_,_,i+1,x,.cons _ t,e=>by
  obtain⟨u,h1,h2⟩:=Vals.get (i:=i) (x:=x) t (by simpa using e)
  exact⟨u,by simpa using h1,h2⟩
theorem Vals.set(r:RelV x u):∀{xs:List V}{us:List Value} (i:Nat),Vals xs us->Vals (xs.set i x) (us.set i u)
 |_,_,_,.nil=>.nil
 |_,_,0,.cons _ t=>.cons r t
 |_,_,i+1,.cons q t=>.cons q (Vals.set r i t)
theorem Vals.append:∀{xs ys:List V}{us ws:List Value},Vals xs us->Vals ys ws->Vals (xs++ys) (us++ws)
 |_,_,_,_,.nil,s=>s
 |_,_,_,_,.cons r t,s=>.cons r (Vals.append t s)
theorem Vals.take:∀{xs:List V}{us:List Value} (n:Nat),Vals xs us->Vals (xs.take n) (us.take n)
 |_,_,0,_=>.nil
 |_,_,_+1,.nil=>.nil
 |_,_,n+1,.cons r t=>.cons r (Vals.take n t)
theorem Vals.drop:∀{xs:List V}{us:List Value} (n:Nat),Vals xs us->Vals (xs.drop n) (us.drop n)
 |_,_,0,r=>r
 |_,_,_+1,.nil=>.nil
 |_,_,n+1,.cons _ t=>Vals.drop n t
noncomputable def RelO:Option V->Option Value->Prop
 |some v,some u=>RelV v u
 |none,none=>True
 |_,_=>False
noncomputable def KV:List (κ×V)->List (κ×Value)->Prop:=Paired λ(p:κ×V) (q:κ×Value)=>p.1=q.1/\RelV p.2 q.2
noncomputable def kV:Key->V
 |.inl i=>.int i
 |.inr x=>.str x
inductive HO where
 |lst (xs:List V)
 |tup (xs:List V)
 |dK (kvs:List (Key×V))|dT (kvs:List (List Key×V))
 |set (S:Int->Bool) (n:Nat)
 |ins (C dx:Addr) (fs:List (Str×V))
 |own (x:Addr)
 |xd (fs:List (Str×V))
 |met (f x:Addr)
 |rng (lo hi:Int)
 |frz (o:Obj) (u:HO)
 |tbl (ps:Array Value)
 |ext (φ:Heap->Prop)
noncomputable abbrev Hp:=Addr->Option HO
noncomputable def upd(H:Hp)(a:Addr)(o:HO):Hp:=λb=>if b=a then some o else H b
theorem ae:upd H a o a=some o:=by unfold upd;rw[if_pos rfl]
theorem ad(h:b≠a):upd H a o b=H b:=by unfold upd;rw[if_neg h]
theorem ne_of{H:Hp}{a b:Addr}{o u:HO}(h:H a=some o)(h':H b=some u)(d:o≠u):a≠b:=by
 intro e;subst e;rw[h]at h';exact d (Option.some.inj h')
theorem aE{H:Hp}{a b:Addr}{o:HO}(h:H a=some o)(h':H b=none):a≠b:=by
 intro e;subst e;rw[h]at h';cases h'
section
variable (P:Program) (w:World)
noncomputable def ObjOk(H:Hp)(h:Heap)(a:Addr):HO->Prop
 |.lst xs=>xs.length<=sizeLine/\∃(its:List Value) (n:Nat),Vals xs its/\h.get? a=some {cls:=.type "list",data:=.seq its.toArray n}
 |.tup xs=>xs.length<=sizeLine/\∃its:List Value,Vals xs its/\IsTup h a its.toArray
 |.dK kvs=>kvs.length<=sizeLine/\(a == sysModules)=false/\∃vs,KV kvs vs/\h.DictOf (aH P w) a vs
 |.dT kvs=>kvs.length<=sizeLine/\(a == sysModules)=false/\∃xs:List (List Key×Addr×Value),
   Paired (λ(p:List Key×V) (q:List Key×Addr×Value)=>p.1=q.1/\H q.2.1=some (.tup (p.1.map kV))/\RelV p.2 q.2.2) kvs xs/\
   ∃o es ep,h.get? a=some o/\o.ExactDict/\o.data=.dict es ep/\es.toList=xs.map (entryOfKey (tupleKind (aH P w)))/\(xs.map (·.1)).Nodup
 |.set S n=>h.SetOf (intKind P w) a S n
 |.ins C dx fs=>H dx=some (.own a)/\fs.length<=1000/\dx≠a/\h.get? a=some (PySem.W.instObj C dx)/\
   ∃mA,h.Ns1 dx mA/\(∀f,RelO (fs.lookup f) (mA f))/\PySem.Within mA (fs.map (·.1))
 |.own _=>∃o,h.get? a=some o
 |.xd fs=>∃mA,h.Ns1 a mA/\∀f,RelO (fs.lookup f) (mA f)
 |.rng lo hi=>∃t u v,h.get? a=some {cls:=.type "range",data:=.fields #[.int lo t,.int hi u,.int 1 v]}
 |.frz o u=>h.get? a=some o/\ObjOk H h a u
 |.tbl ps=>h.get? a=some {cls:=.none,data:=.fields ps}
 |.met f x=>h.get? a=some (PySem.W.methodObj (.ref f) (.ref x))
 |.ext φ=>φ h/\(∃o,h.get? a=some o)/\∀h1 h2:Heap,φ h1->(∀o,h1.get? a=some o->h2.get? a=some o)->φ h2
noncomputable def HOk(H:Hp)(h:Heap):Prop:=∀a o,H a=some o->ObjOk P w H h a o
end
section
variable {P:Program}{w:World}{H H':Hp}{h h':Heap}{a:Addr}{o:HO}
theorem ObjOk.lt(x:ObjOk P w H h a o):a < h.objs.size:=by
 cases o with
 |lst xs=>obtain⟨_,_,_,_,e⟩:=x;exact Heap.lt_size e
 |tup xs=>obtain⟨_,_,_,p⟩:=x;exact p.lt
 |dK kvs=>obtain⟨_,_,_,_,o,_,_,e,_⟩:=x;exact Heap.lt_size e
 |dT kvs=>obtain⟨_,_,_,_,o,_,_,e,_⟩:=x;exact Heap.lt_size e
 |set S n=>obtain⟨o,_,_,_,e,_⟩:=x;exact Heap.lt_size e
 |ins C dx fs=>obtain⟨_,_,_,e,_⟩:=x;exact Heap.lt_size e
 |own y=>obtain⟨_,e⟩:=x;exact Heap.lt_size e
 |xd fs=>obtain⟨_,⟨_,_,_,e,_⟩,_⟩:=x;exact Heap.lt_size e
 |rng lo hi=>obtain⟨_,_,_,e⟩:=x;exact Heap.lt_size e
 |frz ob u=>obtain⟨e,_⟩:=x;exact Heap.lt_size e
 |tbl ps=>exact Heap.lt_size (show h.get? a=some _ from x)
 |met f y=>exact Heap.lt_size (show h.get? a=some _ from x)
 |ext φ=>obtain⟨_,⟨_,e⟩,_⟩:=x;exact Heap.lt_size e
theorem Paired.mapP:∀{l₁:List α}{l₂:List β},Paired F l₁ l₂->(∀a b,F a b->G a b)->Paired G l₁ l₂
 |_,_,.nil,_=>.nil
 |_,_,.cons r t,f=>.cons (f _ _ r) (Paired.mapP t f)
theorem ObjOk.stay(x:ObjOk P w H h a o)(k:∀b u,(b=a\/H b=some (.own a))->h.get? b=some u->h'.get? b=some u)
  (ho:∀b,H b=some (.own a)->H' b=some (.own a)) (ht:∀b xs,H b=some (.tup xs)->H' b=some (.tup xs)):ObjOk P w H' h' a o:=by
 induction o with
 |lst xs=>obtain⟨z,its,n,r,e⟩:=x;exact⟨z,its,n,r,k _ _ (.inl rfl) e⟩
 |tup xs=>obtain⟨z,its,r,ob,e,c⟩:=x;exact⟨z,its,r,ob,k _ _ (.inl rfl) e,c⟩
 |dK kvs=>obtain⟨z,y,vs,r,ob,es,ep,e,c⟩:=x;exact⟨z,y,vs,r,ob,es,ep,k _ _ (.inl rfl) e,c⟩
 |dT kvs=>
  obtain⟨z,y,xs,r,ob,es,ep,e,c⟩:=x;exact⟨z,y,xs,Paired.mapP r λp q z=>⟨z.1,ht _ _ z.2.1,z.2.2⟩,ob,es,ep,k _ _ (.inl rfl) e,c⟩
 |set S n=>obtain⟨ob,es,ep,t,e,c⟩:=x;exact⟨ob,es,ep,t,k _ _ (.inl rfl) e,c⟩
 |ins C dx fs=>
  obtain⟨d,z,ne,e,mA,⟨od,es,ep,e2,c⟩,r⟩:=x;exact⟨ho _ d,z,ne,k _ _ (.inl rfl) e,mA,⟨od,es,ep,k _ _ (.inr d) e2,c⟩,r⟩
 |own y=>obtain⟨ob,e⟩:=x;exact⟨ob,k _ _ (.inl rfl) e⟩
 |xd fs=>obtain⟨mA,⟨od,es,ep,e,c⟩,r⟩:=x;exact⟨mA,⟨od,es,ep,k _ _ (.inl rfl) e,c⟩,r⟩
 |rng lo hi=>obtain⟨t,u,v,e⟩:=x;exact⟨t,u,v,k _ _ (.inl rfl) e⟩
 |frz ob u ih=>obtain⟨e,q⟩:=x;exact⟨k _ _ (.inl rfl) e,ih q⟩
 |tbl ps=>
  have e:h.get? a=some {cls:=.none,data:=.fields ps}:=x;show h'.get? a=some {cls:=.none,data:=.fields ps};exact k a _ (.inl rfl) e
 |met f y=>
  have e:h.get? a=some (PySem.W.methodObj (.ref f) (.ref y)):=x;show h'.get? a=some (PySem.W.methodObj (.ref f) (.ref y));exact k a _ (.inl rfl) e
 |ext φ=>obtain⟨p,⟨o,e⟩,st⟩:=x;exact⟨st _ _ p λo q=>k _ _ (.inl rfl) q,⟨o,k _ _ (.inl rfl) e⟩,st⟩
theorem HOk.lt(x:HOk P w H h)(e:H a=some o):a < h.objs.size:=(x a o e).lt
theorem HOk.fresh(x:HOk P w H h)(e:h.objs.size<=a):H a=none:=by
 cases q:H a with
 |none=>rfl
 |some u=>exact absurd (Nat.lt_of_lt_of_le (x.lt q) e) (Nat.lt_irrefl _)
theorem HOk.kept(x:HOk P w H h)(k:∀b u,h.get? b=some u->h'.get? b=some u):HOk P w H h':=λa o e=>
 (x a o e).stay (λb u _ q=>k b u q) (λ_ q=>q) λ_ _ q=>q
theorem HOk.laid(x:HOk P w H h)(k:∀b u,h.get? b=some u->h'.get? b=some u)(hp:h.objs.size<=a)(new:ObjOk P w (upd H a o) h' a o):HOk P w (upd H a o) h':=λb u e=>by
 have hn:=x.fresh hp;by_cases hb:b=a
 ·subst hb;rw[ae]at e;cases e;exact new
 ·rw[ad hb]at e;exact (x b u e).stay (λc v _ q=>k c v q) (λc q=>by rw[ad (aE q hn)];exact q) λc xs q=>by rw[ad (aE q hn)];exact q
end
noncomputable def Rd(H:Hp)(a:Addr)(u:HO):Prop:=H a=some u\/∃o,H a=some (.frz o u)
theorem Rd.ok{P:Program}{w:World}{H:Hp}{h:Heap}{a:Addr}{u:HO}(r:Rd H a u)(x:HOk P w H h):ObjOk P w H h a u:=by
 rcases r with r|⟨o,r⟩
 ·exact x a u r
 ·obtain⟨_,q⟩:=x a _ r;exact q
noncomputable def Mut:Option HO->Prop
 |some (.lst _)=>True
 |some (.dK _)=>True
 |some (.dT _)=>True
 |some (.set _ _)=>True
 |some (.ins _ _ _)=>True
 |some (.ext _)=>True
 |_=>False
section
variable {P:Program}{w:World}{h h':Heap}{x e:Addr}
theorem HOk.write(ok:HOk P w H h)(mu:Mut (H x))(he:e=x\/H e=some (.own x))(k:∀b u,b≠e->h.get? b=some u->h'.get? b=some u)(heo:∃u,h'.get? e=some u)
  (new:ObjOk P w (upd H x o') h' x o'):HOk P w (upd H x o') h':=λb u q=>by
 have nown:∀c y,H c=some (.own y)->c≠x:=λc y r z=>by subst z;rw[r]at mu;exact mu
 have vA:∀c xs,H c=some (.tup xs)->c≠x:=λc xs r z=>by subst z;rw[r]at mu;exact mu
 by_cases hb:b=x
 ·subst hb;rw[ae]at q;cases q;exact new
 ·rw[ad hb]at q;by_cases hbe:b=e
  ·have q':H b=some (.own x):=by
    rcases he with z|z
    ·exact absurd (hbe.trans z) hb
    ·rw[hbe];exact z
   rw[q]at q';cases q';obtain⟨v,hv⟩:=heo;exact⟨v,by rw[hbe];exact hv⟩
  ·refine (ok b u q).stay (λc v hc r=>k c v ?_ r) (λc r=>by rw[ad (nown c b r)];exact r) λc xs r=>by rw[ad (vA c xs r)];exact r
   rcases hc with rfl|hc
   ·exact hbe
   ·rintro rfl;rcases he with z|z
    ·exact nown c b hc z
    ·rw[hc]at z;cases z;exact hb rfl
end
structure Un (fs ex:List Addr)(H H':Hp)(h h':Heap):Prop where
 keep:∀b o,h.get? b=some o->H b=none->b∉fs->b∉ex->h'.get? b=some o
 slot:∀b o,h.get? b=some o->H b=none->b∈fs->b∉ex->∃sl,h'.get? b=some {o with slots:=sl}
 free:∀b o,h.get? b=some o->H b=none->b∉ex->H' b=none
 there:∀b o,h.get? b=some o->b∉ex->∃o',h'.get? b=some o'
 tups:∀b xs,H b=some (.tup xs)->H' b=some (.tup xs)
 frzs:∀b o u,H b=some (.frz o u)->H' b=some (.frz o u)
 tbls:∀b ps,H b=some (.tbl ps)->∃more,H' b=some (.tbl (ps++more))
section
variable {fs fs' ex ex':List Addr}{H H1 H2:Hp}{h h1 h2 h':Heap}{a x e:Addr}{o:HO}
theorem Un.any(u:Un fs ex H H1 h h1)(q:h.get? b=some ob)(n:H b=none)(hx:b∉ex):∃sl,h1.get? b=some {ob with slots:=sl}:=by
 by_cases hb:b∈fs
 ·exact u.slot b ob q n hb hx
 ·exact⟨ob.slots,u.keep b ob q n hb hx⟩
theorem Un.trans(a:Un fs ex H H1 h h1)(b:Un fs ex H1 H2 h1 h2):Un fs ex H H2 h h2 where
 keep:=λc ob q n hc hx=>b.keep c ob (a.keep c ob q n hc hx) (a.free c ob q n hx) hc hx
 slot:=λc ob q n hc hx=>by
  obtain⟨sl,e1⟩:=a.slot c ob q n hc hx;obtain⟨sl',e2⟩:=b.slot c _ e1 (a.free c ob q n hx) hc hx;exact⟨sl',e2⟩
 free:=λc ob q n hx=>by
  obtain⟨o',e1⟩:=a.there c ob q hx;exact b.free c o' e1 (a.free c ob q n hx) hx
 there:=λc ob q hx=>by
  obtain⟨o',e1⟩:=a.there c ob q hx;exact b.there c o' e1 hx
 tups:=λc xs q=>b.tups c xs (a.tups c xs q)
 frzs:=λc ob xs q=>b.frzs c ob xs (a.frzs c ob xs q)
 tbls:=λc ps q=>by
  obtain⟨m1,e1⟩:=a.tbls c ps q;obtain⟨m2,e2⟩:=b.tbls c _ e1;exact⟨m1++m2,by rw[e2,Array.append_assoc]⟩
theorem Un.kept(k:∀b u,h.get? b=some u->h'.get? b=some u):Un fs ex H H h h':=
 ⟨λb ob q _ _ _=>k b ob q,λb ob q _ _ _=>⟨ob.slots,k b ob q⟩,λ_ _ _ n _=>n,λb ob q _=>⟨ob,k b ob q⟩,λ_ _ q=>q,λ_ _ _ q=>q,λ_ ps q=>⟨#[],by rw[q];simp⟩⟩
theorem Un.refl:Un fs ex H H h h:=Un.kept λ_ _ q=>q
theorem Un.laid(k:∀b u,h.get? b=some u->h'.get? b=some u)(hp:h.objs.size<=a)(hn:H a=none):Un fs ex H (upd H a o) h h' where
 keep:=λb u q _ _ _=>k b u q
 slot:=λb u q _ _ _=>⟨u.slots,k b u q⟩
 free:=λb u q n _=>by rw[ad (Nat.ne_of_lt (Nat.lt_of_lt_of_le (Heap.lt_size q) hp))];exact n
 there:=λb u q _=>⟨u,k b u q⟩
 tups:=λb xs q=>by rw[ad (aE q hn)];exact q
 frzs:=λb u xs q=>by rw[ad (aE q hn)];exact q
 tbls:=λb ps q=>⟨#[],by rw[ad (aE q hn),q];simp⟩
theorem Un.write(mu:Mut (H x))(he:e=x\/H e=some (.own x))(k:∀b u,b≠e->h.get? b=some u->h'.get? b=some u)(heo:∃u,h'.get? e=some u):Un fs ex H (upd H x o) h h':=by
 have hx:∀b,H b=none->b≠x:=λb n z=>by subst z;rw[n]at mu;exact mu
 have hb:∀b,H b=none->b≠e:=λb n z=>by
  subst z;rcases he with r|r
  ·exact hx b n r
  ·rw[n]at r;cases r
 have hm:∀b u,H b=some u->¬ Mut (some u)->b≠x:=λb u q nm z=>by subst z;rw[q]at mu;exact nm mu
 refine⟨λb u q n _ _=>k b u (hb b n) q,λb u q n _ _=>⟨u.slots,k b u (hb b n) q⟩,λb u q n _=>by rw[ad (hx b n)];exact n,λb u q _=>?_,
  λb xs q=>by rw[ad (hm b _ q λz=>z)];exact q,λb u xs q=>by rw[ad (hm b _ q λz=>z)];exact q,λb ps q=>⟨#[],by rw[ad (hm b _ q λz=>z),q];simp⟩⟩
 by_cases hbe:b=e
 ·subst hbe;exact heo
 ·exact⟨u,k b u hbe q⟩
end
noncomputable def trk(h:Heap)(H:Hp):List Addr:=(List.range h.objs.size).filter λa=>(H a).isSome
noncomputable def lN(h:Heap)(H:Hp):Heap:=PySem.W.hideAll h (trk h H)
theorem qB(h:Heap)(H:Hp):(lN h H).objs.size=h.objs.size:=PySem.W.hideAll_size _ _
theorem rS{h:Heap}(e:h.get? b=some o)(n:H b=none):(lN h H).get? b=some o:=
 PySem.W.hideAll_get _ e λhm=>by
  have q:(H b).isSome=true:=(List.mem_filter.mp hm).2;rw[n]at q;simp at q
theorem uP{h:Heap}(e:(lN h H).get? b=some o):h.get? b=some o/\H b=none:=by
 have e':h.get? b=some o:=PySem.W.of_hideAll (trk h H) e;refine⟨e',?_⟩;cases q:H b with
 |none=>rfl
 |some x=>
  have hm:b∈trk h H:=List.mem_filter.mpr ⟨List.mem_range.mpr (Heap.lt_size e'),by simp[q]⟩
  have z:(lN h H).get? b=none:=PySem.W.hideAll_none (trk h H) hm;rw[z]at e;cases e
noncomputable def wd(g h:Heap)(L:Addr):List (Addr×Obj):=(List.range h.objs.size).filterMap λa=>if a=L\/(g.get? a).isSome=true then none else (h.get? a).map λo=>(a,o)
noncomputable def az(g h:Heap)(L d:Addr):List (Addr×Obj):=(wd g h L).filter λp=>decide (p.1≠d)
end L2
namespace L2
open PySem PySem.Spec PyProof.Rows
structure Mod (K:PySem.W.Frag)(mg:Str->Option Value)(base:Heap):Prop where
 kin:K.In base
 glob:base.Ns mainGlobals mg
 blt:∃mb,base.Ns builtinsNs mb/\∀x:Str,x≠"__name__"->mb x=bootBuiltins x
 nolimit:base.NoLimit
structure Cx where
 prog:Program
 w:World
 K:PySem.W.Frag
 mg:Str->Option Value
 base:Heap
 A:Around
 N:List Str
 s₀:Shared
 H₀:Hp
 env:Env
 outer:List Env
 stack:List Env
 ex:List Addr
 fn:Str->Bool
 calm:Bool
 pn:List (Addr×Obj)
 xe:Value->Shared->Prop
noncomputable def frs(l:List Env):List Addr:=l.filterMap (·.frame)
noncomputable abbrev Cx.fs(X:Cx):List Addr:=frs X.outer
noncomputable def Vis(sc:Scope)(x:Str):Prop:=sc.names.lookup x=some .local\/sc.names.lookup x=some .cell\/sc.names.lookup x=some .free
noncomputable def Loc(sc:Scope)(x:Str):Prop:=sc.names.lookup x=some .local\/sc.names.lookup x=some .cell
noncomputable def Cm(env:Env)(h:Heap)(m:Str->Option Value)(x:Str)(u:Value):Prop:=
 (env.kindOf x=some .local/\m x=some u)\/((env.kindOf x=some .cell\/env.kindOf x=some .free)/\∃c,env.cells.lookup x=some c/\h.IsCell c (some u))
structure Cx.Ok (X:Cx):Prop where
 mod:Mod X.K X.mg X.base
 kind:X.env.scope.kind=.function
 glob:X.env.globals=mainGlobals
 blt:X.env.builtins=builtinsNs
 above:X.s₀.heap.objs.size<=X.env.locals
 inj:∀x y c,X.env.cells.lookup x=some c->X.env.cells.lookup y=some c->x=y
 has:∀x,(X.env.kindOf x=some .cell\/X.env.kindOf x=some .free)->∃c,X.env.cells.lookup x=some c
 cab:∀x c,X.fn x=true->X.env.cells.lookup x=some c->X.s₀.heap.objs.size<=c
 hd:X.calm=true->X.A.handled=none
 frames:X.A.frames=some X.stack
 stk:X.stack=X.outer\/(X.stack=X.env::X.outer/\X.env.frame=some X.env.locals)
 exf:∀b∈X.ex,b≠X.env.locals/\∀x c,X.env.cells.lookup x=some c->c≠b
 bs:∀b o,X.base.get? b=some o->X.s₀.heap.get? b=some o/\X.H₀ b=none
 bsz:X.base.objs.size<=X.s₀.heap.objs.size
 noex:∀b o,X.base.get? b=some o->b∉X.ex
 exfs:∀b∈X.ex,b∉X.fs
 funs:X.s₀.heap.FunFrames X.base X.outer
 frf:∀b∈X.fs,X.H₀ b=none
structure Inv (X:Cx) (pins:List (Addr×Obj)) (σ:List (Option V)) (H:Hp)(s:Shared):Prop where
 ok:X.Ok
 os:s.os=X.s₀.os/\0 < s.toks
 bare:AllBare s.gens
 base:Un X.fs X.ex X.H₀ H X.s₀.heap s.heap
 loc:∃m,s.heap.Ns X.env.locals m/\∀(i:Nat)(x:Str)(v:V),X.N[i]?=some x->σ[i]?=some (some v)->Vis X.env.scope x->∃u,RelV v u/\Cm X.env s.heap m x u
 cell:∀x c,X.env.cells.lookup x=some c->∃v,s.heap.IsCell c v
 free:H X.env.locals=none
 freeC:∀x c,X.env.cells.lookup x=some c->H c=none
 pin:∀p∈X.pn++pins,s.heap.get? p.1=some p.2/\H p.1=none/\p.1≠X.env.locals/\p.1∉X.fs/\∀v,p.2.data≠.cell v
 hok:HOk X.prog X.w H s.heap
 len:σ.length=X.N.length
section
variable {X:Cx}{σ:List (Option V)}{s:Shared}{h':Heap}
theorem Inv.tk(I:Inv X pins σ H s):0 < s.toks:=I.os.2
theorem Cx.Ok.nofr(ok:X.Ok)(e:X.base.get? b=some o):b∉X.fs:=λhb=>by
 have:=(ok.funs.mem hb).1;rw[e]at this;cases this
theorem Inv.bs(I:Inv X pins σ H s):∀b o,X.base.get? b=some o->s.heap.get? b=some o/\H b=none:=λb o e=>
 ⟨I.base.keep b o (I.ok.bs b o e).1 (I.ok.bs b o e).2 (I.ok.nofr e) (I.ok.noex b o e),I.base.free b o (I.ok.bs b o e).1 (I.ok.bs b o e).2 (I.ok.noex b o e)⟩
theorem Inv.bk(I:Inv X pins σ H s):∀b o,X.base.get? b=some o->s.heap.get? b=some o:=λb o e=>(I.bs b o e).1
theorem Inv.mod(I:Inv X pins σ H s):Mod X.K X.mg X.base:=I.ok.mod
theorem Inv.kIn(I:Inv X pins σ H s):X.K.In s.heap:=I.ok.mod.kin.keeps I.bk
theorem Inv.nolimit(I:Inv X pins σ H s):s.heap.NoLimit:=I.ok.mod.nolimit.keeps I.bk
theorem Inv.lt(I:Inv X pins σ H s):X.env.locals < s.heap.objs.size:=let ⟨_,hn,_⟩:=I.loc;hn.lt
theorem Inv.sz(I:Inv X pins σ H s):X.s₀.heap.objs.size<=s.heap.objs.size:=Nat.le_trans I.ok.above (Nat.le_of_lt I.lt)
theorem Inv.nofs(I:Inv X pins σ H s)(h:s.heap.objs.size<=a):a∉X.fs:=λhb=>by
 obtain⟨_,o,ho,_⟩:=I.ok.funs.mem hb;exact absurd (Nat.lt_of_lt_of_le (Heap.lt_size ho) (Nat.le_trans I.sz h)) (Nat.lt_irrefl _)
theorem Inv.cne(I:Inv X pins σ H s):∀x c,X.env.cells.lookup x=some c->c≠X.env.locals:=λx c e z=>by
 obtain⟨v,o,ho,hd⟩:=I.cell x c e;obtain⟨m,⟨o',es,ep,ho',hd',_⟩,_⟩:=I.loc;rw[z,ho']at ho;cases ho;rw[hd']at hd;cases hd
theorem Inv.funs(I:Inv X pins σ H s):s.heap.FunFrames X.base X.outer:=by
 have all:∀(l:List Env),(∀b∈frs l,b∈X.fs)->X.s₀.heap.FunFrames X.base l->s.heap.FunFrames X.base l:=by
  intro l
  induction l with
  |nil=>intro _ _;trivial
  |cons env r ih=>
   intro hs hl;obtain⟨hk,⟨L,o,hf,hn,ho,hd⟩,hr⟩:=hl;have hL:L∈X.fs:=hs L (by unfold frs;rw[List.filterMap_cons,hf];exact List.mem_cons_self)
   obtain⟨sl,e⟩:=I.base.slot L o ho (I.ok.frf L hL) hL λz=>I.ok.exfs L z hL
   exact⟨hk,⟨L,_,hf,hn,e,hd⟩,ih (λb hb=>hs b (by unfold frs;rw[List.filterMap_cons,hf];exact List.mem_cons_of_mem _ hb)) hr⟩
 exact all X.outer (λ_ hb=>hb) I.ok.funs
theorem Inv.stack(I:Inv X pins σ H s):s.heap.FunFrames X.base X.stack:=by
 rcases I.ok.stk with e|⟨e,hf⟩
 ·rw[e];exact I.funs
 ·rw[e];obtain⟨m,hn,_⟩:=I.loc;refine .cons (by rw[I.ok.kind];decide) hf hn ?_ I.funs
  exact Heap.get?_none_of_le (Nat.le_trans I.ok.bsz I.ok.above)
theorem Inv.stkSub(I:Inv X pins σ H s):∀b∈frs X.stack,b∈X.env.locals::X.fs:=λb hb=>by
 rcases I.ok.stk with e|⟨e,hf⟩
 ·rw[e]at hb;exact List.mem_cons_of_mem _ hb
 ·rw[e]at hb;unfold frs at hb;rw[List.filterMap_cons,hf]at hb;exact hb
theorem Inv.stkFree(I:Inv X pins σ H s):∀b∈frs X.stack,H b=none:=λb hb=>by
 rcases List.mem_cons.mp (I.stkSub b hb) with e|hb
 ·rw[e];exact I.free
 ·obtain⟨_,o,ho,_⟩:=I.ok.funs.mem hb;exact I.base.free b o ho (I.ok.frf b hb) λz=>I.ok.exfs b z hb
theorem Inv.step{g':Array GenState}{t':Nat}{d':Drawn}{ch:List Addr}(I:Inv X pins σ H s)
  (hch:∀b∈ch,(b∈X.ex\/X.s₀.heap.objs.size<=b)/\b≠X.env.locals/\(∀x c,X.env.cells.lookup x=some c->c≠b)/\∀p∈X.pn++pins,p.1≠b)
  (keep:∀b o,b≠X.env.locals->b∉X.fs->b∉ch->s.heap.get? b=some o->H b=none->h'.get? b=some o)
  (slot:∀b o,b≠X.env.locals->b∈X.fs->b∉ch->s.heap.get? b=some o->H b=none->∃sl,h'.get? b=some {o with slots:=sl}) (free:∀b o,b∉ch->s.heap.get? b=some o->H b=none->H' b=none)
  (there:∀b o,b∉ch->s.heap.get? b=some o->∃o',h'.get? b=some o')
  (tups:∀b xs,H b=some (.tup xs)->H' b=some (.tup xs)) (frzs:∀b o u,H b=some (.frz o u)->H' b=some (.frz o u)) (tbls:∀b ps,H b=some (.tbl ps)->∃more,H' b=some (.tbl (ps++more)))
  (ns:∀m,s.heap.Ns X.env.locals m->h'.Ns X.env.locals m)(hok:HOk X.prog X.w H' h')(hg:AllBare g')(ht:0 < t') :
  Inv X pins σ H' {s with heap:=h',gens:=g',drawn:=d',toks:=t'}:=by
 have neL:∀b o,X.s₀.heap.get? b=some o->b≠X.env.locals:=λb o e=>Nat.ne_of_lt (Nat.lt_of_lt_of_le (Heap.lt_size e) I.ok.above)
 have neC:∀b o,X.s₀.heap.get? b=some o->b∉X.ex->b∉ch:=λb o e hx hb=>by
  rcases (hch b hb).1 with z|z
  ·exact hx z
  ·exact absurd (Nat.lt_of_lt_of_le (Heap.lt_size e) z) (Nat.lt_irrefl _)
 have cellK:∀x c,X.env.cells.lookup x=some c->∀v,s.heap.IsCell c v->h'.IsCell c v:=λx c e v ⟨o,ho,hd⟩=>by
  have nch:c∉ch:=λz=>(hch c z).2.2.1 x c e rfl
  by_cases hc:c∈X.fs
  ·obtain⟨sl,q⟩:=slot c o (I.cne x c e) hc nch ho (I.freeC x c e);exact⟨_,q,hd⟩
  ·exact⟨o,keep c o (I.cne x c e) hc nch ho (I.freeC x c e),hd⟩
 refine⟨I.ok,⟨I.os.1,ht⟩,hg,⟨λb o e n hb hx=>?_,λb o e n hb hx=>?_,λb o e n hx=>?_,λb o e hx=>?_,λb xs e=>tups b xs (I.base.tups b xs e),λb o xs e=>frzs b o xs (I.base.frzs b o xs e),λb ps e=>?_⟩,?_,λx c e=>?_,?_,λx c e=>?_,λp hp=>?_,hok,I.len⟩
 ·exact keep b o (neL b o e) hb (neC b o e hx) (I.base.keep b o e n hb hx) (I.base.free b o e n hx)
 ·obtain⟨sl,e1⟩:=I.base.slot b o e n hb hx;obtain⟨sl',e2⟩:=slot b _ (neL b o e) hb (neC b o e hx) e1 (I.base.free b o e n hx);exact⟨sl',e2⟩
 ·obtain⟨o',e1⟩:=I.base.there b o e hx;exact free b o' (neC b o e hx) e1 (I.base.free b o e n hx)
 ·obtain⟨o',e1⟩:=I.base.there b o e hx;exact there b o' (neC b o e hx) e1
 ·obtain⟨m1,e1⟩:=I.base.tbls b ps e;obtain⟨m2,e2⟩:=tbls b _ e1;exact⟨m1++m2,by rw[e2,Array.append_assoc]⟩
 ·obtain⟨m,hn,hl⟩:=I.loc;refine⟨m,ns m hn,λi x v e1 e2 e3=>?_⟩
  obtain⟨u,r,l⟩:=hl i x v e1 e2 e3;refine⟨u,r,?_⟩;rcases l with l|⟨k,c,e,z⟩
  ·exact .inl l
  ·exact .inr ⟨k,c,e,cellK x c e _ z⟩
 ·obtain⟨v,z⟩:=I.cell x c e;exact⟨v,cellK x c e v z⟩
 ·obtain⟨m,⟨o,_,_,ho,_⟩,_⟩:=I.loc;exact free _ o (λz=>(hch _ z).2.1 rfl) ho I.free
 ·obtain⟨v,o,ho,hd⟩:=I.cell x c e;exact free c o (λz=>(hch c z).2.2.1 x c e rfl) ho (I.freeC x c e)
 ·obtain⟨e,n,ne,nf,d⟩:=I.pin p hp;have nch:p.1∉ch:=λz=>(hch p.1 z).2.2.2 p hp rfl
  exact⟨keep p.1 p.2 ne nf nch e n,free p.1 p.2 nch e n,ne,nf,d⟩
theorem Inv.un{t':Nat}(I:Inv X pins σ H s)(u:Un X.fs [] H H' s.heap h')(hok:HOk X.prog X.w H' h')(ht:0 < t':=by first|exact Nat.succ_pos _|assumption|exact Inv.tk (by assumption)|exact Env0.tk (by assumption)|exact Nat.lt_of_lt_of_le (Inv.tk (by assumption)) (Nat.le_add_right _ _)):Inv X pins σ H' {s with heap:=h',toks:=t'}:=by
 obtain⟨m,⟨o,es,ep,ho,r⟩,_⟩:=id I.loc;obtain⟨sl,hL⟩:=u.any ho I.free (by simp)
 exact I.step (g':=s.gens) (d':=s.drawn) (ch:=[]) (λ_ z=>nomatch z) (λb o _ hb _ e n=>u.keep b o e n hb (by simp)) (λb o _ hb _ e n=>u.slot b o e n hb (by simp)) (λb o _ e n=>u.free b o e n (by simp)) (λb o _ e=>u.there b o e (by simp)) u.tups u.frzs u.tbls (λm' hm=>by
  obtain⟨o',es',ep',ho',r'⟩:=hm;rw[ho]at ho';cases ho';exact⟨_,es',ep',hL,r'⟩) hok I.bare ht
theorem Inv.call{g':Array GenState}{t':Nat}{d':Drawn}{ch:List Addr}(I:Inv X pins σ H s)(u:Un (frs X.stack) ch H H' s.heap h')(hok:HOk X.prog X.w H' h')(hg:AllBare g')
  (hch:∀b∈ch,(b∈X.ex\/X.s₀.heap.objs.size<=b)/\b≠X.env.locals/\(∀x c,X.env.cells.lookup x=some c->c≠b)/\∀p∈X.pn++pins,p.1≠b) (ht:0 < t':=by first|exact Nat.succ_pos _|assumption|exact Inv.tk (by assumption)|exact Env0.tk (by assumption)|exact Nat.lt_of_lt_of_le (Inv.tk (by assumption)) (Nat.le_add_right _ _)) :
  Inv X pins σ H' {s with heap:=h',gens:=g',drawn:=d',toks:=t'}:=by
 obtain⟨m,⟨o,es,ep,ho,r⟩,_⟩:=id I.loc;obtain⟨sl,hL⟩:=u.any ho I.free λz=>(hch _ z).2.1 rfl
 exact I.step (ch:=ch) hch (λb o hL hb hc e n=>u.keep b o e n (λz=>(List.mem_cons.mp (I.stkSub b z)).elim hL hb) hc) (λb o _ _ hc e n=>u.any e n hc) (λb o hc e n=>u.free b o e n hc) (λb o hc e=>u.there b o e hc) u.tups u.frzs u.tbls (λm' hm=>by
  obtain⟨o',es',ep',ho',r'⟩:=hm;rw[ho]at ho';cases ho';exact⟨_,es',ep',hL,r'⟩) hok hg ht
theorem Inv.turned{t':Nat}{it:Addr}(I:Inv X pins σ H s)(k:∀b o,b≠it->s.heap.get? b=some o->h'.get? b=some o)(hn:H it=none)(hL:it≠X.env.locals)
  (h1:it∈X.ex\/X.s₀.heap.objs.size<=it) (h2:∀x c,X.env.cells.lookup x=some c->c≠it) (h3:∀p∈X.pn++pins,p.1≠it) (ht:0 < t':=by first|exact Nat.succ_pos _|assumption|exact Inv.tk (by assumption)|exact Env0.tk (by assumption)|exact Nat.lt_of_lt_of_le (Inv.tk (by assumption)) (Nat.le_add_right _ _)):Inv X pins σ H {s with heap:=h',toks:=t'}:=by
 have nit:∀b u,H b=some u->b≠it:=λb u e z=>by rw[z,hn]at e;cases e
 refine I.step (g':=s.gens) (d':=s.drawn) (ch:=[it]) (λb hb=>?_) (λb o _ _ hc e _=>k b o (λz=>hc (by simp[z])) e) (λb o _ _ hc e _=>⟨o.slots,k b o (λz=>hc (by simp[z])) e⟩) (λ_ _ _ _ n=>n)
  (λb o hc e=>⟨o,k b o (λz=>hc (by simp[z])) e⟩) (λ_ _ e=>e) (λ_ _ _ e=>e) (λb ps e=>⟨#[],by rw[e];simp⟩) (λm hm=>?_) (λb u e=>?_) I.bare ht
 ·have e:b=it:=by simpa using hb
  subst e;exact⟨h1,hL,h2,h3⟩
 ·obtain⟨o,es,ep,ho,r⟩:=hm;exact⟨o,es,ep,k _ o (Ne.symm hL) ho,r⟩
 ·refine (I.hok b u e).stay (λc v hc q=>k c v ?_ q) (λ_ q=>q) λ_ _ q=>q
  rcases hc with z|z
  ·rw[z];exact nit b u e
  ·exact nit c _ z
theorem Inv.tok(I:Inv X pins σ H s)(t:Nat)(ht:0 < t:=by first|exact Nat.succ_pos _|assumption|exact Inv.tk (by assumption)|exact Env0.tk (by assumption)|exact Nat.lt_of_lt_of_le (Inv.tk (by assumption)) (Nat.le_add_right _ _)):Inv X pins σ H {s with toks:=t}:=I.un (h':=s.heap) (t':=t) Un.refl I.hok
theorem Inv.kept(I:Inv X pins σ H s)(k:∀b u,s.heap.get? b=some u->h'.get? b=some u)(ht:0 < t':=by first|exact Nat.succ_pos _|assumption|exact Inv.tk (by assumption)|exact Env0.tk (by assumption)|exact Nat.lt_of_lt_of_le (Inv.tk (by assumption)) (Nat.le_add_right _ _)):Inv X pins σ H {s with heap:=h',toks:=t'}:=I.un (Un.kept k) (I.hok.kept k)
theorem Inv.laid(I:Inv X pins σ H s)(k:∀b u,s.heap.get? b=some u->h'.get? b=some u)(hp:s.heap.objs.size<=a)(new:ObjOk X.prog X.w (upd H a o) h' a o)(ht:0 < t':=by first|exact Nat.succ_pos _|assumption|exact Inv.tk (by assumption)|exact Env0.tk (by assumption)|exact Nat.lt_of_lt_of_le (Inv.tk (by assumption)) (Nat.le_add_right _ _)) :
  Inv X pins σ (upd H a o) {s with heap:=h',toks:=t'}:=I.un (Un.laid k hp (I.hok.fresh hp)) (I.hok.laid k hp new)
theorem Inv.write(I:Inv X pins σ H s)(mu:Mut (H x))(he:e=x\/H e=some (.own x))(k:∀b u,b≠e->s.heap.get? b=some u->h'.get? b=some u)(heo:∃u,h'.get? e=some u)
  (new:ObjOk X.prog X.w (upd H x o) h' x o) (ht:0 < t':=by first|exact Nat.succ_pos _|assumption|exact Inv.tk (by assumption)|exact Env0.tk (by assumption)|exact Nat.lt_of_lt_of_le (Inv.tk (by assumption)) (Nat.le_add_right _ _)):Inv X pins σ (upd H x o) {s with heap:=h',toks:=t'}:=I.un (Un.write mu he k heo) (I.hok.write mu he k heo new)
theorem Inv.pins_of(I:Inv X pins σ H s)(h:∀p∈pins',s.heap.get? p.1=some p.2/\H p.1=none/\p.1≠X.env.locals/\p.1∉X.fs/\∀v,p.2.data≠.cell v):Inv X pins' σ H s:=
 ⟨I.ok,I.os,I.bare,I.base,I.loc,I.cell,I.free,I.freeC,λp hp=>(List.mem_append.mp hp).elim (λz=>I.pin p (List.mem_append_left _ z)) (h p),I.hok,I.len⟩
theorem iJ{N:List Str}(hN:N.Nodup){i j:Nat}{x:Str}(a:N[i]?=some x)(b:N[j]?=some x):i=j:=by
 obtain⟨h1,e1⟩:=List.getElem?_eq_some_iff.mp a;obtain⟨h2,e2⟩:=List.getElem?_eq_some_iff.mp b;exact (List.getElem_inj hN).mp (e1.trans e2.symm)
theorem rA{M:Model}{A:Around}{E:Value->Shared->Prop}{i:Nat}{x:Str}{v:V}{u:Value}{Q:Unit->Shared->Prop}(I:Inv X pins σ H s)(hN:X.N.Nodup)(hi:X.N[i]?=some x)(hx:Loc X.env.scope x)(r:RelV v u)
  (h:∀s',Inv X pins (σ.set i (some v)) H s'->(∃a,Heap.SameBut a s.heap s'.heap/\(a=X.env.locals\/X.env.cells.lookup x=some a))->Q () s') (hf:X.fn x=true\/X.env.scope.names.lookup x=some .local:=by first|exact .inl rfl|exact .inr rfl|assumption):wpAny M A (storeName X.env x u) Q E s:=by
 obtain⟨m,hn,hl⟩:=id I.loc;have hcls:(X.env.scope.kind == .class||(X.env.scope.kind == .module&&X.env.locals != X.env.globals))=false:=by rw[I.ok.kind];rfl
 have hiσ:i < σ.length:=by rw[I.len];exact (List.getElem?_eq_some_iff.mp hi).1
 have cne:=I.cne;have tracked:∀{a:Addr}{h':Heap},(∃o,s.heap.get? a=some o/\H a=none)->Heap.SameBut a s.heap h'->HOk X.prog X.w H h':=λ{a h'} ha hs b ob e=>by
  obtain⟨_,_,hfree⟩:=ha;refine (I.hok b ob e).stay (λc w' hc q=>(hs.2 c ?_).trans q) (λ_ q=>q) λ_ _ q=>q
  rintro rfl;rcases hc with rfl|hc
  ·rw[hfree]at e;cases e
  ·rw[hfree]at hc;cases hc
 rcases hx with hk|hk
 ·refine wpAny_storeName_local hk hn (λh' hn' hs=>?_) hcls
  obtain⟨oL,_,_,hoL,_⟩:=id hn;refine h _ ⟨I.ok,⟨I.os.1,Nat.succ_pos _⟩,I.bare,⟨λb o e n hb hx=>?_,λb o e n hb hx=>?_,I.base.free,λb o e hx=>?_,I.base.tups,I.base.frzs,I.base.tbls⟩,⟨_,hn',λj y v' e1 e2 e3=>?_⟩,λy c e=>?_,I.free,I.freeC,λp hp=>?_,tracked ⟨oL,hoL,I.free⟩ hs,by simpa using I.len⟩ ⟨_,hs,.inl rfl⟩
  ·exact (hs.2 b (Nat.ne_of_lt (Nat.lt_of_lt_of_le (Heap.lt_size e) I.ok.above))).trans (I.base.keep b o e n hb hx)
  ·obtain⟨sl,e1⟩:=I.base.slot b o e n hb hx;exact⟨sl,(hs.2 b (Nat.ne_of_lt (Nat.lt_of_lt_of_le (Heap.lt_size e) I.ok.above))).trans e1⟩
  ·obtain⟨o',e1⟩:=I.base.there b o e hx;exact⟨o',(hs.2 b (Nat.ne_of_lt (Nat.lt_of_lt_of_le (Heap.lt_size e) I.ok.above))).trans e1⟩
  ·by_cases hj:j=i
   ·subst hj;rw[hi]at e1;cases e1;rw[List.getElem?_set_self hiσ]at e2;cases e2;exact⟨u,r,.inl ⟨hk,by simp⟩⟩
   ·rw[List.getElem?_set_ne (Ne.symm hj)]at e2;obtain⟨u',r',q⟩:=hl j y v' e1 e2 e3;refine⟨u',r',?_⟩;rcases q with ⟨k,e⟩|⟨k,c,e,z⟩
    ·refine .inl ⟨k,?_⟩;have:y≠x:=λe=>hj (iJ hN e1 (e▸hi))
     simp[this,e]
    ·exact .inr ⟨k,c,e,z.sameBut hs (cne y c e)⟩
  ·obtain⟨w',z⟩:=I.cell y c e;exact⟨w',z.sameBut hs (cne y c e)⟩
  ·obtain⟨e,n,ne,nf,d⟩:=I.pin p hp;exact⟨(hs.2 p.1 ne).trans e,n,ne,nf,d⟩
 ·have hfn:X.fn x=true:=by
   rcases hf with z|z
   ·exact z
   ·rw[z]at hk;cases hk
  obtain⟨c,hc⟩:=I.ok.has x (.inl hk);obtain⟨w',z⟩:=I.cell x c hc;refine wpAny_storeName_cell I.ok.kind hk hc z (λh' hc' hs=>?_)
  obtain⟨oc,hoc,hocd⟩:=id z;refine h {s with heap:=h'} ⟨I.ok,I.os,I.bare,⟨λb o e n hb hx=>?_,λb o e n hb hx=>?_,I.base.free,λb o e hx=>?_,I.base.tups,I.base.frzs,I.base.tbls⟩,⟨m,hn.sameBut hs (Ne.symm (cne x c hc)),λj y v' e1 e2 e3=>?_⟩,λy c' e=>?_,I.free,I.freeC,λp hp=>?_,tracked ⟨oc,hoc,I.freeC x c hc⟩ hs,by simpa using I.len⟩ ⟨c,hs,.inr hc⟩
  ·exact (hs.2 b (Nat.ne_of_lt (Nat.lt_of_lt_of_le (Heap.lt_size e) (I.ok.cab x c hfn hc)))).trans (I.base.keep b o e n hb hx)
  ·obtain⟨sl,e1⟩:=I.base.slot b o e n hb hx;exact⟨sl,(hs.2 b (Nat.ne_of_lt (Nat.lt_of_lt_of_le (Heap.lt_size e) (I.ok.cab x c hfn hc)))).trans e1⟩
  ·obtain⟨o',e1⟩:=I.base.there b o e hx;exact⟨o',(hs.2 b (Nat.ne_of_lt (Nat.lt_of_lt_of_le (Heap.lt_size e) (I.ok.cab x c hfn hc)))).trans e1⟩
  ·by_cases hj:j=i
   ·subst hj;rw[hi]at e1;cases e1;rw[List.getElem?_set_self hiσ]at e2;cases e2;exact⟨u,r,.inr ⟨.inl hk,c,hc,hc'⟩⟩
   ·rw[List.getElem?_set_ne (Ne.symm hj)]at e2;obtain⟨u',r',q⟩:=hl j y v' e1 e2 e3;refine⟨u',r',?_⟩;rcases q with q|⟨k,c',e,z'⟩
    ·exact .inl q
    ·refine .inr ⟨k,c',e,z'.sameBut hs ?_⟩;rintro rfl;exact hj (iJ hN e1 (I.ok.inj _ _ _ e hc▸hi))
  ·by_cases hcc:c'=c
   ·subst hcc;exact⟨_,hc'⟩
   ·obtain⟨w2,z2⟩:=I.cell y c' e;exact⟨w2,z2.sameBut hs hcc⟩
  ·obtain⟨e,n,ne,nf,d⟩:=I.pin p hp;refine⟨(hs.2 p.1 ?_).trans e,n,ne,nf,d⟩;intro q;rw[q,hoc]at e;have q':oc=p.2:=Option.some.inj e;exact d w' (by rw[<-q'];exact hocd)
theorem i5(I:Inv X pins σ H s)(hN:X.N.Nodup)(hi:X.N[i]?=some x)(hx:Loc X.env.scope x)(r:RelV v u)
  (h:∀s',Inv X pins (σ.set i (some v)) H s'->Q () s') (hf:X.fn x=true\/X.env.scope.names.lookup x=some .local:=by first|exact .inl rfl|exact .inr rfl|assumption):wpAny M A (storeName X.env x u) Q E s:=
 rA I hN hi hx r (λs' I' _=>h s' I') hf
theorem Inv.call'{s':Shared}(I:Inv X pins σ H s)(ho:s'.os=s.os/\0 < s'.toks)(u:Un (frs X.stack) ch H H' s.heap s'.heap)(hok:HOk X.prog X.w H' s'.heap)(hg:AllBare s'.gens)
  (hch:∀b∈ch,(b∈X.ex\/X.s₀.heap.objs.size<=b)/\b≠X.env.locals/\(∀x c,X.env.cells.lookup x=some c->c≠b)/\∀p∈X.pn++pins,p.1≠b):Inv X pins σ H' s':=by
 obtain⟨h',g',d',t',o'⟩:=s';have e:o'=s.os:=ho.1;subst e;have ht:=ho.2;exact I.call (g':=g') (t':=t') (d':=d') u hok hg hch
end
noncomputable abbrev XK:=Value->Option Addr->Hp->Prop
noncomputable abbrev St:=List (Option V)
noncomputable abbrev VK:=V->Hp->Prop
noncomputable abbrev TE:=St->Hp->VK->Prop
noncomputable abbrev TT:=St->Hp->(Bool->Hp->Prop)->Prop
noncomputable abbrev TA:=St->Hp->(List V->Hp->Prop)->Prop
structure Ends where
 nx:St->Hp->Prop
 rt:VK
 bk:St->Hp->Prop:=λ_ _=>False
 ct:St->Hp->Prop:=λ_ _=>False
noncomputable abbrev TS:=Ends->St->Hp->Prop
noncomputable def EP(X:Cx)(pins:List (Addr×Obj))(σ:St)(Q:VK)(u:Value)(s':Shared):Prop:=∃v H',Inv X pins σ H' s'/\RelV v u/\Q v H'
noncomputable def TP(X:Cx)(pins:List (Addr×Obj))(σ:St)(Q:Bool->Hp->Prop)(b:Bool)(s':Shared):Prop:=∃H',Inv X pins σ H' s'/\Q b H'
noncomputable def AP(X:Cx)(pins:List (Addr×Obj))(σ:St)(Q:List V->Hp->Prop)(us:List Value)(s':Shared):Prop:=∃vs H',Inv X pins σ H' s'/\Vals vs us/\Q vs H'
noncomputable def SP(X:Cx)(pins:List (Addr×Obj))(D:Ends)(f:Flow)(s':Shared):Prop:=
 match f with
 |.next=>∃σ' H',Inv X pins σ' H' s'/\D.nx σ' H'
 |.brk=>∃σ' H',Inv X pins σ' H' s'/\D.bk σ' H'
 |.cont=>∃σ' H',Inv X pins σ' H' s'/\D.ct σ' H'
 |.ret u=>∃v σ' H',Inv X pins σ' H' s'/\RelV v u/\D.rt v H'
noncomputable def PE(X:Cx)(e:Expr)(t:TE):Prop:=
 ∀(pins:List (Addr×Obj)) (s:Shared)(σ:St)(H:Hp)(Q:VK),Inv X pins σ H s->t σ H Q->wpAny (model X.prog X.w) X.A (eval e X.env) (EP X pins σ Q) X.xe s
noncomputable def PT(X:Cx)(e:Expr)(t:TT):Prop:=
 ∀(pins:List (Addr×Obj)) (s:Shared)(σ:St)(H:Hp)(Q:Bool->Hp->Prop),Inv X pins σ H s->t σ H Q->wpAny (model X.prog X.w) X.A (isTrue e X.env (eval e X.env)) (TP X pins σ Q) X.xe s
noncomputable def PW(X:Cx)(e:Expr)(t:TT):Prop:=
 ∀(whole:Sem Value) (pins:List (Addr×Obj)) (s:Shared)(σ:St)(H:Hp)(Q:Bool->Hp->Prop),Inv X pins σ H s->t σ H Q->wpAny (model X.prog X.w) X.A (isTrue e X.env whole) (TP X pins σ Q) X.xe s
theorem PW.pt(h:PW X e t):PT X e t:=h _
noncomputable def PA(X:Cx)(es:List Expr)(t:TA):Prop:=
 ∀(pos:Pos) (pins:List (Addr×Obj)) (s:Shared)(σ:St)(H:Hp)(Q:List V->Hp->Prop),Inv X pins σ H s->t σ H Q->wpAny (model X.prog X.w) X.A (spliced (backTo pos (starEach es X.env))) (AP X pins σ Q) X.xe s
noncomputable def PS(X:Cx)(st:Stmt)(t:TS):Prop:=
 ∀(pins:List (Addr×Obj)) (s:Shared)(σ:St)(H:Hp)(D:Ends),Inv X pins σ H s->t D σ H->wpAny (model X.prog X.w) X.A (exec st X.env) (SP X pins D) X.xe s
noncomputable def PSs(X:Cx)(st:List Stmt)(t:TS):Prop:=
 ∀(pins:List (Addr×Obj)) (s:Shared)(σ:St)(H:Hp)(D:Ends),Inv X pins σ H s->t D σ H->wpAny (model X.prog X.w) X.A (execs st X.env) (SP X pins D) X.xe s
theorem thn{α:Type}{t:Sem α}{Q Q':α->Shared->Prop}{M:Model}{A:Around}{E:Value->Shared->Prop}{s:Shared}(h:wpAny M A t Q E s)(hQ:∀a s,Q a s->Q' a s):wpAny M A t Q' E s:=wpAny_mono h hQ λ_ _ x=>x
end L2
namespace L2
open PySem PySem.Spec PyProof.Rows
section
variable {X:Cx}
theorem bin{a b:Expr}{ta tb:TE}(ha:PE X a ta)(hb:PE X b tb){pins:List (Addr×Obj)}{s:Shared}{σ:St}{H:Hp}{R:V->V->Hp->Prop}(I:Inv X pins σ H s)(h:ta σ H λx H1=>tb σ H1 λy H2=>R x y H2)
  {α:Type}{Q:α->Shared->Prop}{f:Value->Value->Sem α}
  (hf:∀v u s2 x y H2,Inv X pins σ H2 s2->RelV x v->RelV y u->R x y H2->wpAny (model X.prog X.w) X.A (f v u) Q X.xe s2) :
  wpAny (model X.prog X.w) X.A (eval a X.env) (λv s₁=>wpAny (model X.prog X.w) X.A (eval b X.env) (λu s₂=>wpAny (model X.prog X.w) X.A (f v u) Q X.xe s₂) X.xe s₁) X.xe s:=by
 refine thn (ha pins s σ H _ I h) λv s1 ⟨x,H1,I1,r1,q1⟩=>?_
 refine thn (hb pins s1 σ H1 _ I1 q1) λu s2 ⟨y,H2,I2,r2,q2⟩=>?_
 exact hf v u s2 x y H2 I2 r1 r2 q2
noncomputable def Er(i:Nat):TE:=λσ H Q=>∃v,σ[i]?=some (some v)/\Q v H
noncomputable def tC(v:V):TE:=λ_ H Q=>Q v H
theorem r0(hN:X.N[i]?=some x)(hv:Vis X.env.scope x)(hd:(x == ("__debug__" : Str))=false:=by decide)(hcd:(x == ("__classdict__" : Str))=false:=by decide):PE X (.Name x pos) (Er i):=by
 intro pins s σ H Q I h;obtain⟨v,e,h⟩:=h;obtain⟨m,hn,hl⟩:=I.loc;obtain⟨u,r,l⟩:=hl i x v hN e hv;have fin:EP X pins σ Q u s:=⟨v,H,I,r,h⟩;rcases l with ⟨hk,hm⟩|⟨hk,c,hc,hcell⟩
 ·exact wpAny_Name (wpAny_loadName_local I.ok.kind hk hn hm fin) hd
 ·rcases hk with hk|hk
  ·exact wpAny_Name (wpAny_loadName_cell I.ok.kind hk hc hcell fin) hd
  ·exact wpAny_Name (wpAny_loadName_free I.ok.kind hk hc hcell fin hcd) hd
theorem sJ{i j pos}:PE X (.Constant (.int i) j pos) (tC (.int i)):=λ_ _ _ H _ I h=>wpAny_Constant_int ⟨.int i,H,I.tok _,⟨_,rfl⟩,h⟩
theorem C7{b j pos}:PE X (.Constant (.bool b) j pos) (tC (.bl b)):=λ_ _ _ H _ I h=>Constant_bool ⟨.bl b,H,I,rfl,h⟩
theorem yU{j pos}:PE X (.Constant .none j pos) (tC .non):=λ_ _ _ H _ I h=>Constant_none ⟨.non,H,I,rfl,h⟩
theorem xL{x j pos}:PE X (.Constant (.str x) j pos) (tC (.str x)):=λ_ _ _ H _ I h=>Calls.Constant_str ⟨.str x,H,I.tok _,⟨_,rfl⟩,h⟩
noncomputable def Gl(X:Cx)(x:Str):Prop:=X.env.kindOf x=some .globalImplicit
theorem bV(I:Inv X pins σ H s)(hg:Gl X x)(hm:X.mg x=some u)(h:Q u s)
  (hd:(x == ("__debug__" : Str))=false:=by decide):wpAny (model X.prog X.w) X.A (eval (.Name x pos) X.env) Q E s:=
 Calls.Name_function_global I.ok.kind hg (Calls.loadGlobal_global (by rw[I.ok.glob];exact I.mod.glob.keeps I.bk) hm h) hd
theorem gD(I:Inv X pins σ H s)(hg:Gl X x)(hm:X.mg x=none)(hv:bootBuiltins x=some u)(h:Q u s)
  (hn:x≠"__name__":=by decide) (hd:(x == ("__debug__" : Str))=false:=by decide):wpAny (model X.prog X.w) X.A (eval (.Name x pos) X.env) Q E s:=by
 obtain⟨mb,h1,h2⟩:=I.mod.blt;exact Calls.Name_function_global I.ok.kind hg (Calls.loadGlobal_builtin (by rw[I.ok.glob];exact I.mod.glob.keeps I.bk) hm (by rw[I.ok.blt];exact h1.keeps I.bk) ((h2 x hn).trans hv) h) hd
theorem lL(hg:Gl X x)(hm:X.mg x=some u)(r:RelV v u)(hd:(x == ("__debug__" : Str))=false:=by decide):PE X (.Name x pos) (tC v):=
 λ_ _ _ H _ I h=>bV I hg hm ⟨v,H,I,r,h⟩ hd
theorem wl(hg:Gl X x)(hm:X.mg x=none)(hv:bootBuiltins x=some u)(r:RelV v u)(hn:x≠"__name__":=by decide)(hd:(x == ("__debug__" : Str))=false:=by decide):PE X (.Name x pos) (tC v):=
 λ_ _ _ H _ I h=>gD I hg hm hv ⟨v,H,I,r,h⟩ hn hd
variable {a b:Expr}{ta tb:TE}{pos:Pos}
noncomputable def tB(t:TE):TT:=λσ H Q=>t σ H λx H1=>∃c,x=.bl c/\Q c H1
theorem w5{e:Expr}(h:PE X e t)(he:∀whole,isTrue e X.env whole=(do let v<-whole;standAt e.pos;holding [v] (truthy v)):=by intro _;rfl):PT X e (tB t):=by
 intro pins s σ H Q I hw;refine isTrue_plain (thn (h pins s σ H _ I hw) λv s1 ⟨x,H1,I1,r1,q1⟩=>?_) (he _)
 obtain⟨d,rfl,q⟩:=q1;cases r1;exact wpAny_truthy_bool ⟨H1,I1,q⟩
variable {tA tB':TT}{az:List Expr}
noncomputable def Eu(t u:TT):TT:=λσ H Q=>t σ H λc H1=>if c=true then u σ H1 Q else Q false H1
noncomputable def tOr(t u:TT):TT:=λσ H Q=>t σ H λc H1=>if c=true then Q true H1 else u σ H1 Q
noncomputable def Fq(t:TT):TT:=λσ H Q=>t σ H λc H1=>Q (!c) H1
theorem vS(ha:PT X a tA):PW X (.BoolOp .And [a] pos) tA:=by
 intro wh pins s σ H Q I h;refine isTrue_and (thn (ha pins s σ H Q I h) λc s1 e=>?_)
 cases c with
 |true=>exact isTrue_and_nil e
 |false=>exact e
theorem yI(ha:PT X a tA):PW X (.BoolOp .Or [a] pos) tA:=by
 intro wh pins s σ H Q I h;refine isTrue_or (thn (ha pins s σ H Q I h) λc s1 e=>?_)
 cases c with
 |false=>exact isTrue_or_nil e
 |true=>exact e
theorem yR(ha:PT X a tA)(hb:PW X (.BoolOp .And (b::az) pos) tB'):PW X (.BoolOp .And (a::b::az) pos) (Eu tA tB'):=by
 intro wh pins s σ H Q I h;refine isTrue_and (thn (ha pins s σ H _ I h) λc s1 ⟨H1,I1,q1⟩=>?_)
 cases c with
 |true=>exact hb wh pins s1 σ H1 Q I1 q1
 |false=>exact⟨H1,I1,q1⟩
theorem CT(ha:PT X a tA)(hb:PW X (.BoolOp .Or (b::az) pos) tB'):PW X (.BoolOp .Or (a::b::az) pos) (tOr tA tB'):=by
 intro wh pins s σ H Q I h;refine isTrue_or (thn (ha pins s σ H _ I h) λc s1 ⟨H1,I1,q1⟩=>?_)
 cases c with
 |true=>exact⟨H1,I1,q1⟩
 |false=>exact hb wh pins s1 σ H1 Q I1 q1
theorem zS(ha:PT X a tA):PT X (.UnaryOp .Not a pos) (Fq tA):=by
 intro pins s σ H Q I h;exact isTrue_not (ha pins s σ H (λc H1=>Q (!c) H1) I h)
noncomputable def Dc(ta tb:TE):TE:=λσ H Q=>ta σ H λx H1=>∃c,x=.bl c/\if c=true then tb σ H1 Q else Q (.bl false) H1
noncomputable def Fn(ta tb:TE):TE:=λσ H Q=>ta σ H λx H1=>∃c,x=.bl c/\if c=true then Q (.bl true) H1 else tb σ H1 Q
noncomputable def AI(ta:TE):TE:=λσ H Q=>ta σ H λx H1=>∃c,x=.bl c/\Q (.bl (!c)) H1
theorem xW{op}(h:PE X a t):PE X (.BoolOp op [a] pos) t:=λpins s σ H Q I hw=>BoolOp_one (h pins s σ H Q I hw)
theorem xK(ha:PE X a ta)(hb:PE X (.BoolOp .And (b::az) pos) tb):PE X (.BoolOp .And (a::b::az) pos) (Dc ta tb):=by
 intro pins s σ H Q I h;refine BoolOp_and (thn (ha pins s σ H _ I h) λv s1 ⟨x,H1,I1,r1,q1⟩=>?_)
 obtain⟨c,rfl,q1⟩:=q1;cases r1;refine wpAny_truthy_bool ?_;cases c with
 |true=>exact hb pins s1 σ H1 Q I1 q1
 |false=>exact⟨.bl false,H1,I1,rfl,q1⟩
theorem CO(ha:PE X a ta)(hb:PE X (.BoolOp .Or (b::az) pos) tb):PE X (.BoolOp .Or (a::b::az) pos) (Fn ta tb):=by
 intro pins s σ H Q I h;refine BoolOp_or (thn (ha pins s σ H _ I h) λv s1 ⟨x,H1,I1,r1,q1⟩=>?_)
 obtain⟨c,rfl,q1⟩:=q1;cases r1;refine wpAny_truthy_bool ?_;cases c with
 |false=>exact hb pins s1 σ H1 Q I1 q1
 |true=>exact⟨.bl true,H1,I1,rfl,q1⟩
theorem yf(ha:PE X a ta):PE X (.UnaryOp .Not a pos) (AI ta):=by
 intro pins s σ H Q I h;refine UnaryOp_ (thn (ha pins s σ H _ I h) λv s1 ⟨x,H1,I1,r1,q1⟩=>?_)
 obtain⟨c,rfl,q1⟩:=q1;cases r1;exact not_of (wpAny_truthy_bool ⟨.bl (!c),H1,I1,rfl,q1⟩)
noncomputable def tIf(t:TT)(ta tb:TE):TE:=λσ H Q=>t σ H λc H1=>if c=true then ta σ H1 Q else tb σ H1 Q
theorem rP(hc:PT X c tA)(ha:PE X a ta)(hb:PE X b tb):PE X (.IfExp c a b pos) (tIf tA ta tb):=by
 intro pins s σ H Q I h;refine wpAny_IfExp (thn (hc pins s σ H _ I h) λd s1 ⟨H1,I1,q1⟩=>?_)
 cases d with
 |true=>exact ha pins s1 σ H1 Q I1 q1
 |false=>exact hb pins s1 σ H1 Q I1 q1
end
end L2
namespace L2
open PySem PySem.Spec PyProof.Rows
noncomputable def SqL(K:PySem.W.Frag)(H:Hp)(a:Addr)(xs:List V):Prop:=
 Rd H a (.lst xs)\/
  ∃(o:Obj) (its:Array Value) (n:Nat),K.lookup a=some o/\o.cls=.type "list"/\o.dict=none/\o.data=.seq its n/\its.size<=sizeLine/\Vals xs its.toList
noncomputable def SqT(K:PySem.W.Frag)(H:Hp)(a:Addr)(xs:List V):Prop:=
 Rd H a (.tup xs)\/
  ∃(o:Obj) (its:Array Value) (n:Nat),K.lookup a=some o/\o.cls=.type "tuple"/\o.data=.seq its n/\its.size<=sizeLine/\Vals xs its.toList
noncomputable def EA:Value->Option V
 |.none=>some .non
 |.bool b=>some (.bl b)
 |.int i _=>some (.int i)
 |.str x _=>some (.str x)
 |.bytes b _=>some (.byt b)
 |.float b _=>some (.flt b)
 |.ref a=>some (.ref a)
 |.type n=>some (.ty n)
 |_=>none
theorem RelV.abs(r:RelV x u):EA u=some x:=by
 cases x with
 |non=>cases r;rfl
 |bl _=>cases r;rfl
 |int _=>obtain⟨t,rfl⟩:=r;rfl
 |str _=>obtain⟨t,rfl⟩:=r;rfl
 |byt _=>obtain⟨t,rfl⟩:=r;rfl
 |flt _=>obtain⟨t,rfl⟩:=r;rfl
 |ref _=>cases r;rfl
 |ty _=>cases r;rfl
theorem RelV.inj(r:RelV x u)(q:RelV y u):x=y:=Option.some.inj (r.abs.symm.trans q.abs)
theorem Vals.inj:∀{xs ys:List V}{us:List Value},Vals xs us->Vals ys us->xs=ys
 |_,_,_,.nil,.nil=>rfl
 |_,_,_,.cons r t,.cons r' t'=>by rw[r.inj r',Vals.inj t t']
section
variable {X:Cx}{s:Shared}{a:Addr}{xs ys:List V}
theorem SqL.of{K:PySem.W.Frag}(h:H a=some (.lst xs)):SqL K H a xs:=.inl (.inl h)
theorem SqT.of{K:PySem.W.Frag}(h:H a=some (.tup xs)):SqT K H a xs:=.inl (.inl h)
theorem Inv.list(I:Inv X pins σ H s)(h:SqL X.K H a xs):∃its:List Value,Vals xs its/\PlainL s.heap a its.toArray/\xs.length<=sizeLine:=by
 rcases h with h|⟨o,its,n,hk,hc,hd,hs,hz,r⟩
 ·obtain⟨z,its,n,r,e⟩:=h.ok I.hok;exact⟨its,r,⟨_,n,e,rfl,rfl,rfl⟩,z⟩
 ·refine⟨its.toList,r,⟨o,n,I.kIn a o hk,hc,hd,by simpa using hs⟩,?_⟩
  have e:=r.length;simp only[Array.length_toList]at e;omega
theorem Inv.tuple(I:Inv X pins σ H s)(h:SqT X.K H a xs):∃its:List Value,Vals xs its/\IsTup s.heap a its.toArray/\xs.length<=sizeLine:=by
 rcases h with h|⟨o,its,n,hk,hc,hs,hz,r⟩
 ·obtain⟨z,its,r,p⟩:=h.ok I.hok;exact⟨its,r,p,z⟩
 ·refine⟨its.toList,r,⟨o,I.kIn a o hk,hc,n,by simpa using hs⟩,?_⟩
  have e:=r.length;simp only[Array.length_toList]at e;omega
theorem Inv.list_inj(I:Inv X pins σ H s)(h:SqL X.K H a xs)(h':SqL X.K H a ys):xs=ys:=by
 obtain⟨its,r,⟨o,n,e,_,_,d⟩,_⟩:=I.list h;obtain⟨its',r',⟨o',n',e',_,_,d'⟩,_⟩:=I.list h';rw[e]at e';cases e';rw[d]at d';injection d' with d1 _
 have:its=its':=by simpa using congrArg Array.toList d1
 subst this;exact r.inj r'
theorem Inv.tuple_inj(I:Inv X pins σ H s)(h:SqT X.K H a xs)(h':SqT X.K H a ys):xs=ys:=by
 obtain⟨its,r,⟨o,e,_,n,d⟩,_⟩:=I.tuple h;obtain⟨its',r',⟨o',e',_,n',d'⟩,_⟩:=I.tuple h';rw[e]at e';cases e';rw[d]at d';injection d' with d1 _
 have:its=its':=by simpa using congrArg Array.toList d1
 subst this;exact r.inj r'
end
noncomputable abbrev Cx.wish(X:Cx)(E:Value->Shared->Prop):Cx:={X with xe:=E}
theorem Cx.Ok.wish{X:Cx}(ok:X.Ok)(E:Value->Shared->Prop):(X.wish E).Ok:=
 ⟨ok.mod,ok.kind,ok.glob,ok.blt,ok.above,ok.inj,ok.has,ok.cab,ok.hd,ok.frames,ok.stk,ok.exf,ok.bs,ok.bsz,ok.noex,ok.exfs,ok.funs,ok.frf⟩
theorem Cx.Ok.unwish{X:Cx}(ok:(X.wish E).Ok):X.Ok:=
 ⟨ok.mod,ok.kind,ok.glob,ok.blt,ok.above,ok.inj,ok.has,ok.cab,ok.hd,ok.frames,ok.stk,ok.exf,ok.bs,ok.bsz,ok.noex,ok.exfs,ok.funs,ok.frf⟩
section
variable {X:Cx}{s:Shared}
theorem Inv.wish(I:Inv X pins σ H s)(E:Value->Shared->Prop):Inv (X.wish E) pins σ H s:=⟨I.ok.wish E,I.os,I.bare,I.base,I.loc,I.cell,I.free,I.freeC,I.pin,I.hok,I.len⟩
theorem Inv.unwish(I:Inv (X.wish E) pins σ H s):Inv X pins σ H s:=⟨I.ok.unwish,I.os,I.bare,I.base,I.loc,I.cell,I.free,I.freeC,I.pin,I.hok,I.len⟩
end
section
variable {X:Cx}{st:Stmt}{az:List Stmt}{t u:TS}{e:Expr}{te:TE}{pos:Pos}
noncomputable def tNext:TS:=λD σ H=>D.nx σ H
noncomputable def Em(t u:TS):TS:=λD σ H=>t {D with nx:=u D} σ H
theorem pss_nil:PSs X [] tNext:=λ_ _ σ H _ I h=>wpAny_execs_nil ⟨σ,H,I,h⟩
theorem ur(h1:PS X st t)(h2:PSs X az u):PSs X (st::az) (Em t u):=by
 intro pins s σ H D I h;refine wpAny_execs_cons (thn (h1 pins s σ H {D with nx:=u D} I h) λf s1 q=>?_)
 cases f with
 |next=>
  obtain⟨σ',H',I',q⟩:=q;exact h2 pins s1 σ' H' D I' q
 |ret v=>exact q
 |brk=>exact q
 |cont=>exact q
theorem Inv.quiet(I:Inv X pins σ H s):interactive X.env=false:=by simp[interactive,I.ok.kind]
noncomputable def B5(te:TE):TS:=λD σ H=>te σ H λ_ H1=>D.nx σ H1
theorem pD(he:PE X e te)(hs:swapsWith e none pos.line X.env=pure false:=by rfl):PS X (.Expr e pos) (B5 te):=by
 intro pins s σ H D I h;exact wpAny_Expr_any (thn (he pins s σ H _ I h) λv s1 ⟨x,H1,I1,r1,q1⟩=>⟨σ,H1,I1,q1⟩) I.quiet hs
noncomputable def E4(te:TE):TS:=λD σ H=>te σ H D.rt
theorem zx(he:PE X e te):PS X (.Return (some e) pos) (E4 te):=by
 intro pins s σ H D I h;exact wpAny_Return_some (thn (he pins s σ H _ I h) λv s1 ⟨x,H1,I1,r1,q1⟩=>⟨x,σ,H1,I1,r1,q1⟩)
noncomputable def FO(c:TT)(t u:TS):TS:=λD σ H=>c σ H λb H1=>if b=true then t D σ H1 else u D σ H1
theorem A7(hc:PT X c tc)(ha:PSs X a t)(hb:PSs X b u):PS X (.If c a b pos) (FO tc t u):=by
 intro pins s σ H D I h;refine wpAny_If (thn (hc pins s σ H _ I h) λd s1 ⟨H1,I1,q1⟩=>?_)
 cases d with
 |true=>exact ha pins s1 σ H1 D I1 q1
 |false=>exact hb pins s1 σ H1 D I1 q1
end
noncomputable abbrev TG:=V->St->Hp->(St->Hp->Prop)->Prop
noncomputable abbrev TGs:=List V->St->Hp->(St->Hp->Prop)->Prop
noncomputable def PG(X:Cx)(target:Expr)(t:TG):Prop:=
 ∀(pins:List (Addr×Obj)) (s:Shared)(σ:St)(H:Hp)(v:V)(u:Value)(Q:St->Hp->Prop),Inv X pins σ H s->RelV v u->t v σ H Q->
  wpAny (model X.prog X.w) X.A (assign target X.env u) (λ_ s'=>∃σ' H',Inv X pins σ' H' s'/\Q σ' H') X.xe s
noncomputable def PGs(X:Cx)(ts:List Expr)(t:TGs):Prop:=
 ∀(pins:List (Addr×Obj)) (s:Shared)(σ:St)(H:Hp)(vs:List V)(us:List Value)(Q:St->Hp->Prop),Inv X pins σ H s->Vals vs us->t vs σ H Q->
  wpAny (model X.prog X.w) X.A (assignInOrder ((assignEach ts X.env).map (·.2)) us) (λ_ s'=>∃σ' H',Inv X pins σ' H' s'/\Q σ' H') X.xe s
noncomputable abbrev TSet:=V->V->V->Hp->(Hp->Prop)->Prop
noncomputable def za(X:Cx)(t:TSet):Prop:=
 ∀(pins:List (Addr×Obj)) (s:Shared)(σ:St)(H:Hp)(o i v:V)(ov iv u:Value)(Q:Hp->Prop),Inv X pins σ H s->RelV o ov->RelV i iv->RelV v u->t o i v H Q->
  wpAny (model X.prog X.w) X.A (setItem ov iv u) (λ_ s'=>∃H',Inv X pins σ H' s'/\Q H') X.xe s
section
variable {X:Cx}{pos:Pos}
noncomputable def qh(i:Nat):TG:=λv σ H Q=>Q (σ.set i (some v)) H
theorem iu(hN:X.N.Nodup)(hi:X.N[i]?=some x)(hx:Loc X.env.scope x)(hf:X.fn x=true\/X.env.scope.names.lookup x=some .local:=by first|exact .inl rfl|exact .inr rfl|assumption):PG X (.Name x pos) (qh i):=by
 intro pins s σ H v u Q I r h;exact wpAny_assign_Name (i5 I hN hi hx r (λs' I'=>⟨_,H,I',h⟩) hf)
noncomputable def gNil:TGs:=λvs σ H Q=>vs=[]/\Q σ H
noncomputable def AX(t:TG)(u:TGs):TGs:=λvs σ H Q=>∃v r,vs=v::r/\t v σ H λσ' H'=>u r σ' H' Q
theorem uU:PGs X [] gNil:=by
 intro pins s σ H vs us Q I r h;obtain⟨e,h⟩:=h;subst e;cases r;exact assignInOrder_nil ⟨σ,H,I,h⟩
theorem sZ(h1:PG X e t)(h2:PGs X es u)
  (hs:(assignEach (e::es) X.env).map (·.2)=assign e X.env::(assignEach es X.env).map (·.2):=by rfl):PGs X (e::es) (AX t u):=by
 intro pins s σ H vs us Q I r h;obtain⟨v,vr,e1,h⟩:=h;subst e1;cases r with
 |cons r rr=>
  rw[hs];refine assignInOrder_cons (thn (h1 pins s σ H _ _ _ I r h) λ_ s1 ⟨σ1,H1,I1,q1⟩=>?_)
  exact h2 pins s1 σ1 H1 _ _ Q I1 rr q1
noncomputable def FC(K:PySem.W.Frag)(n:Nat)(t:TGs):TG:=λv σ H Q=>∃a xs,v=.ref a/\SqT K H a xs/\xs.length=n/\t xs σ H Q
theorem z9(hc:X.calm=true)(h:PGs X es t)
  (hn:(assignEach es X.env).length=n:=by rfl) (hst:(assignEach es X.env).findIdx? (·.1)=none:=by rfl):PG X (.Tuple es k pos) (FC X.K n t):=by
 intro pins s σ H v u Q I r hw;obtain⟨a,xs,e1,hq,hl,hw⟩:=hw;subst e1;cases r;obtain⟨its,rv,ht,hz⟩:=I.tuple hq;refine assign_Tuple_tuple (I.ok.hd hc) ht (by simp[hn,<-hl,rv.length]) hst λh' hx=>?_
 have I1:Inv X pins σ H {s with heap:=h'}:=I.kept (t':=s.toks) λb o e=>hx b o (Nat.ne_of_lt (Heap.lt_size e)) e
 exact h pins _ σ H xs _ Q I1 (by simpa using rv) hw
noncomputable def Ej(to ti:TE)(t:TSet):TG:=λv σ H Q=>to σ H λo H1=>ti σ H1 λi H2=>t o i v H2 λH3=>Q σ H3
theorem yp(ho:PE X o to)(hi:PE X i ti)(hs:za X t)
  (ha:∀v,assign (.Subscript o i pos) X.env v=(do
   let ov<-holding [v] (eval o X.env)
   let iv<-holding [v,ov] (eval i X.env)
   standAt pos
   holding [v,ov,iv] (setItem ov iv v)
   release [v,ov,iv] []):=by intro _;rfl):PG X (.Subscript o i pos) (Ej to ti t):=by
 intro pins s σ H v u Q I r h;rw[ha];refine wpAny_bind (wpAny_holding (thn (ho pins s σ H _ I h) λov s1 ⟨x,H1,I1,r1,q1⟩=>?_))
 refine wpAny_bind (wpAny_holding (thn (hi pins s1 σ H1 _ I1 q1) λiv s2 ⟨y,H2,I2,r2,q2⟩=>?_))
 refine wpAny_bind (wpAny_standAt (wpAny_bind (wpAny_holding (thn (hs pins s2 σ H2 x y v ov iv u _ I2 r1 r2 r q2) λ_ s3 ⟨H3,I3,q3⟩=>?_))))
 exact wpAny_release ⟨σ,H3,I3,q3⟩
noncomputable def yC(te:TE)(g:TG):TS:=λD σ H=>te σ H λx H1=>g x σ H1 D.nx
theorem uD(he:PE X e te)(hg:PG X tg g)(hs:swapsWithSole [tg] e pos.line X.env=pure false:=by rfl)(hw:swappedStores [tg] e X.env=pure none:=by rfl)
  (h1:(assignEach [tg] X.env).map (·.2)=[assign tg X.env]:=by rfl):PS X (.Assign [tg] e pos) (yC te g):=by
 intro pins s σ H D I h;refine wpAny_Assign_stores (thn (he pins s σ H _ I h) λv s1 ⟨x,H1,I1,r1,q1⟩=>?_) hs hw
 rw[h1];exact thn (hg pins s1 σ H1 x v _ I1 r1 q1) λ_ s2 q=>q
theorem w6(hN:X.N.Nodup)(hi:X.N[i]?=some x)(hx:Loc X.env.scope x)(he:PE X e te)(hs:swapsWith e (some (.Name x pos')) pos.line X.env=pure false:=by rfl)(hf:X.fn x=true\/X.env.scope.names.lookup x=some .local:=by first|exact .inl rfl|exact .inr rfl|assumption) :
  PS X (.Assign [.Name x pos'] e pos) (yC te (qh i)):=by
 intro pins s σ H D I h;refine wpAny_Assign_Name (thn (he pins s σ H _ I h) λv s1 ⟨y,H1,I1,r1,q1⟩=>?_) hs
 exact i5 I1 hN hi hx r1 (λs2 I2=>⟨_,H1,I2,q1⟩) hf
end
section
variable {X:Cx}{pos:Pos}
end
structure It where
 go:Nat->Hp->Prop
 yld:Nat->Hp->V->Hp->Prop
 stop:Nat->Hp->Prop
noncomputable def mH(X:Cx)(pins:List (Addr×Obj))(H:Hp)(b:Addr):Prop:=
 H b=none/\b≠X.env.locals/\b∉X.fs/\(b∈X.ex\/X.s₀.heap.objs.size<=b)/\(∀x c,X.env.cells.lookup x=some c->c≠b)/\∀p∈X.pn++pins,p.1≠b
theorem Inv.fpOk{s:Shared}(I:Inv X pins σ H s)(hb:s.heap.objs.size<=b)(hn:H' b=none):mH X pins H' b:=by
 refine⟨hn,Nat.ne_of_gt (Nat.lt_of_lt_of_le I.lt hb),I.nofs hb,.inr (Nat.le_trans I.sz hb),λx c e z=>?_,λp hp z=>?_⟩
 ·obtain⟨v,q⟩:=I.cell x c e;exact absurd (Nat.lt_of_lt_of_le q.lt (by rw[z];exact hb)) (Nat.lt_irrefl _)
 ·exact absurd (Nat.lt_of_lt_of_le (Heap.lt_size (I.pin p hp).1) (by rw[z];exact hb)) (Nat.lt_irrefl _)
noncomputable def HdA(X:Cx):Prop:=X.calm=true\/∃a o u,X.A.handled=some (.ref a)/\X.H₀ a=some (.frz o u)/\mZ o
noncomputable def Qt(q:Bool)(X:Cx):Prop:=match q with
 |false=>X.calm=true
 |true=>HdA X
theorem Inv.hdA{X:Cx}(I:Inv X pins σ H s)(q:HdA X):vd X.A s.heap/\∀c,X.A.handled=some (.ref c)->H c≠none:=by
 rcases q with q|⟨a,o,u,e,f,l⟩
 ·have z:=I.ok.hd q;exact⟨.inl z,λc e=>by rw[z]at e;cases e⟩
 ·have z:=I.base.frzs a o u f;exact⟨.inr ⟨a,o,e,(I.hok a _ z).1,l⟩,λc w n=>by rw[e]at w;cases w;rw[z]at n;cases n⟩
theorem Qt.hd{X:Cx}(h:Qt q X):HdA X:=by
 cases q with
 |false=>exact .inl h
 |true=>exact h
structure TurnB (q:Bool)(P:Program)(w:World)(K:PySem.W.Frag)(tg:Expr)(J:It)(fp:List Addr)(it:Addr)(tn:Nat->Heap->Prop):Prop where
 mem:it∈fp
 obj:∀i h,tn i h->∀b∈fp,∃o,h.get? b=some o/\∀v,o.data≠.cell v
 keep:∀i h h',tn i h->(∀b∈fp,∀o,h.get? b=some o->h'.get? b=some o)->tn i h'
 item:∀(X:Cx),X.prog=P->X.w=w->X.K=K->Qt q X->∀(i:Nat) (pins:List (Addr×Obj)) (s:Shared)(σ:St)(H:Hp)(E:Value->Shared->Prop),Inv X pins σ H s->(∀b∈fp,mH X pins H b)->tn i s.heap->J.go i H->
  wpAny (model P w) X.A (pyNext (.ref it)) (λr s1=>∃u,r=some u/\
   wpAny (model P w) X.A (letOwnedTupleGo tg (.ref it) u) (λ_ s2=>∃x H',Inv X pins σ H' s2/\RelV x u/\J.yld i H x H'/\tn (i+1) s2.heap/\∀b∈fp,H' b=none) E s1) E s
 done:∀(X:Cx),X.prog=P->X.w=w->X.K=K->Qt q X->∀(i:Nat) (pins:List (Addr×Obj)) (s:Shared)(σ:St)(H:Hp)(E:Value->Shared->Prop),Inv X pins σ H s->(∀b∈fp,mH X pins H b)->tn i s.heap->J.stop i H->
  wpAny (model P w) X.A (pyNext (.ref it)) (λr s1=>r=none/\Inv X pins σ H s1) E s
 self:∀(A:Around)(i:Nat)(s:Shared)(Q:Value->Shared->Prop)(E:Value->Shared->Prop),tn i s.heap->Q (.ref it) s->wpAny (model P w) A (pyIter (.ref it)) Q E s
noncomputable abbrev Turn:=TurnB false
theorem TurnB.calm{K:PySem.W.Frag}(T:TurnB q P w K tg J fp it tn):Turn P w K tg J fp it tn:=by
 cases q with
 |false=>exact T
 |true=>exact⟨T.mem,T.obj,T.keep,λX a b c h=>T.item X a b c (.inl h),λX a b c h=>T.done X a b c (.inl h),T.self⟩
noncomputable abbrev TI:=St->Hp->(It->Hp->Prop)->Prop
noncomputable def xX(q:Bool)(X:Cx)(pins:List (Addr×Obj))(σ:St)(tg:Expr)(R:It->Hp->Prop)(itv:Value)(s2:Shared):Prop:=
 ∃(it:Addr)(fp:List Addr)(tn:Nat->Heap->Prop)(J:It)(H':Hp),itv=.ref it/\Inv X pins σ H' s2/\TurnB q X.prog X.w X.K tg J fp it tn/\tn 0 s2.heap/\(∀b∈fp,mH X pins H' b)/\R J H'
noncomputable abbrev PIE:=xX false
noncomputable def PIB(q:Bool)(X:Cx)(tg iter:Expr)(wi:TI):Prop:=
 ∀(pins:List (Addr×Obj)) (s:Shared)(σ:St)(H:Hp)(R:It->Hp->Prop),Inv X pins σ H s->wi σ H R->
  wpAny (model X.prog X.w) X.A (eval iter X.env) (λv s1=>wpAny (model X.prog X.w) X.A (pyIter v) (xX q X pins σ tg R) X.xe s1) X.xe s
noncomputable abbrev PI:=PIB false
theorem PIB.calm{X:Cx}(h:PIB q X tg iter wi):PI X tg iter wi:=λpins s σ H R I z=>wpAny_mono (h pins s σ H R I z) (λ_ _ k=>wpAny_mono k (λ_ _ ⟨it,fp,tn,J,H',e,I',T,r⟩=>⟨it,fp,tn,J,H',e,I',T.calm,r⟩) λ_ _ x=>x) λ_ _ x=>x
theorem pz {s : Shared} {o : Obj} (ho : s.heap.get? it = some o) (hc : o.cls = .type n) (hd : o.data = .fields vs)
    (hn : ["enumerate", "zip", "dict_itemiterator", "dict_reverseitemiterator", "odict_iterator", "itertools.zip_longest", "itertools.pairwise"].contains n = false) (hQ : Q () s) : wpAny M A (letOwnedTupleGo tg (.ref it) u) Q E s := by
  unfold letOwnedTupleGo;cases tg <;> first
    | exact wpAny_pure hQ
    | (cases u <;> first
        | exact wpAny_pure hQ
        | (refine wpAny_bind (wpAny_load ho ?_)
           rw [hc, hd];show wpAny M A (if (["enumerate", "zip", "dict_itemiterator", "dict_reverseitemiterator", "odict_iterator", "itertools.zip_longest", "itertools.pairwise"].contains n && vs[0]? == some (rawInt _)) = true then _ else _) Q E s
           rw [if_neg (by intro h; rw [hn, Bool.false_and] at h; cases h)]
           exact wpAny_pure hQ))
noncomputable def Itl(K:PySem.W.Frag)(a:Addr):It:=
 ⟨λi H=>∃xs x,SqL K H a xs/\xs[i]?=some x,λi H x H'=>H'=H/\∀xs,SqL K H a xs->xs[i]?=some x,λi H=>∃xs,SqL K H a xs/\xs.length<=i⟩
noncomputable def Itt(K:PySem.W.Frag)(a:Addr):It:=
 ⟨λi H=>∃xs x,SqT K H a xs/\xs[i]?=some x,λi H x H'=>H'=H/\∀xs,SqT K H a xs->xs[i]?=some x,λi H=>∃xs,SqT K H a xs/\xs.length<=i⟩
noncomputable def Itr(lo:Int)(n:Nat):It:=⟨λi _=>i < n,λi H x H'=>H'=H/\x=.int (lo+i),λi _=>n<=i⟩
theorem qN{K:PySem.W.Frag}{q:Bool}(a it:Addr):TurnB q P w K tg (Itl K a) [it] it (λi h=>h.IsListIter it a i) where
 mem:=by simp
 obj:=λi h st b hb=>by
  have e:b=it:=by simpa using hb
  subst e;obtain⟨o,e,c,d⟩:=st;exact⟨o,e,λv z=>by rw[d]at z;cases z⟩
 keep:=λi h h' st k=>st.at λo e=>k it (by simp) o e
 item:=by
  intro X hP hw hK hc i pins s σ H E I hf st hg;subst hP hw hK;obtain⟨xs,x,hq,hx⟩:=hg;obtain⟨its,rv,p,hz⟩:=I.list hq;obtain⟨u,hu,ru⟩:=rv.get hx;obtain⟨f0,f1,f2,f3,f4,f5⟩:=hf it (by simp)
  refine wpAny_pyNext_list_item st p.isList (x:=u) (by simpa using hu) λh' st' sb=>?_
  have I1:Inv X pins σ H {s with heap:=h'}:=I.turned (t':=s.toks) (λb o hb e=>(sb.2 b hb).trans e) f0 f1 f3 f4 f5
  obtain⟨o,e,c,d⟩:=id st';exact⟨u,rfl,pz (s:={s with heap:=h'}) e c d (by decide) ⟨x,H,I1,ru,⟨rfl,λys hy=>by rw[I.list_inj hy hq];exact hx⟩,st',λb hb=>(hf b hb).1⟩⟩
 done:=by
  intro X hP hw hK hc i pins s σ H E I hf st hg;subst hP hw hK;obtain⟨xs,hq,hx⟩:=hg;obtain⟨its,rv,p,hz⟩:=I.list hq;obtain⟨f0,f1,f2,f3,f4,f5⟩:=hf it (by simp)
  have hl:=rv.length;exact fi (I.hdA hc.hd).1 (λc e z=>(I.hdA hc.hd).2 c e (z▸f0)) st p.isList (by simp;omega) λh' eb=>⟨rfl,I.turned (t':=s.toks) (λb o hb e=>eb b o hb e) f0 f1 f3 f4 f5⟩
 self:=λ_ _ _ _ _ st h=>wpAny_pyIter_listiter st h
theorem oK{K:PySem.W.Frag}(a it:Addr):Turn P w K tg (Itt K a) [it] it (λi h=>h.IsTupleIter it a i) where
 mem:=by simp
 obj:=λi h st b hb=>by
  have e:b=it:=by simpa using hb
  subst e;obtain⟨o,e,c,d⟩:=st;exact⟨o,e,λv z=>by rw[d]at z;cases z⟩
 keep:=λi h h' st k=>st.at λo e=>k it (by simp) o e
 item:=by
  intro X hP hw hK hc i pins s σ H E I hf st hg;subst hP hw hK;obtain⟨xs,x,hq,hx⟩:=hg;obtain⟨its,rv,p,hz⟩:=I.tuple hq;obtain⟨u,hu,ru⟩:=rv.get hx;obtain⟨f0,f1,f2,f3,f4,f5⟩:=hf it (by simp)
  refine wpAny_pyNext_tuple_item st (show s.heap.IsTuple a its.toArray from p) (x:=u) (by simpa using hu) λh' st' sb=>?_
  have I1:Inv X pins σ H {s with heap:=h'}:=I.turned (t':=s.toks) (λb o hb e=>(sb.2 b hb).trans e) f0 f1 f3 f4 f5
  obtain⟨o,e,c,d⟩:=id st';exact⟨u,rfl,pz (s:={s with heap:=h'}) e c d (by decide) ⟨x,H,I1,ru,⟨rfl,λys hy=>by rw[I.tuple_inj hy hq];exact hx⟩,st',λb hb=>(hf b hb).1⟩⟩
 done:=by
  intro X hP hw hK hc i pins s σ H E I hf st hg;subst hP hw hK;obtain⟨xs,hq,hx⟩:=hg;obtain⟨its,rv,p,hz⟩:=I.tuple hq;obtain⟨f0,f1,f2,f3,f4,f5⟩:=hf it (by simp)
  have hl:=rv.length;exact wpAny_pyNext_tuple_end (I.ok.hd hc) st (show s.heap.IsTuple a its.toArray from p) (by simp;omega) λh' eb=>⟨rfl,I.turned (t':=s.toks) (λb o hb e=>eb b o hb e) f0 f1 f3 f4 f5⟩
 self:=λ_ _ _ _ _ st h=>wpAny_pyIter_tupleiter st h
theorem pv{K:PySem.W.Frag}(it:Addr)(lo:Int)(n:Nat):Turn P w K tg (Itr lo n) [it] it (λi h=>IsRangeIter h it (lo+(i:Nat) * 1) ((n:Int) - (i:Nat)) 1) where
 mem:=by simp
 obj:=λi h st b hb=>by
  have e:b=it:=by simpa using hb
  subst e;exact⟨_,st,λv z=>by
   have z':Data.fields _=Data.cell v:=z;cases z'⟩
 keep:=λi h h' st k=>k it (by simp) _ st
 item:=by
  intro X hP hw hK hc i pins s σ H E I hf st hg;subst hP hw hK;obtain⟨f0,f1,f2,f3,f4,f5⟩:=hf it (by simp)
  have W:=Walks.range (prog:=X.prog) (w:=X.w) (I.ok.hd hc) it lo 1 n;refine d8 I.tk (W.item i s _ _ hg st λv h' tk hv st' kk h0=>?_)
  obtain⟨t,rfl⟩:=hv;have I1:Inv X pins σ H {s with heap:=h',toks:=tk}:=I.turned (λb o hb e=>kk b o (by simpa using hb) e) f0 f1 f3 f4 f5
  refine⟨_,rfl,pz (s:={s with heap:=h',toks:=tk}) (n:="range_iterator") st' rfl rfl (by decide) ⟨.int (lo+i),H,I1,⟨t,?_⟩,⟨rfl,rfl⟩,st',λb hb=>(hf b hb).1⟩⟩
  rw[Int.mul_one]
 done:=by
  intro X hP hw hK hc i pins s σ H E I hf st hg;subst hP hw hK;obtain⟨f0,f1,f2,f3,f4,f5⟩:=hf it (by simp)
  exact wpAny_pyNext_range_end (I.ok.hd hc) st (by have:n<=i:=hg;omega) λh' eb=>⟨rfl,I.turned (t':=s.toks) (λb o hb e=>eb b o hb e) f0 f1 f3 f4 f5⟩
 self:=λ_ _ _ _ _ st h=>wpAny_pyIter_rangeiter st h
end L2
namespace L2
open PySem PySem.Spec PyProof.Rows
section
variable {X:Cx}
theorem sx{s:Shared}{lo:Int}(I:Inv X pins σ H s)(h1 : -(2 ^ 62)<=lo)(h2:lo < 2 ^ 62)(h3 : -(2 ^ 62)<=hi)(h4:hi < 2 ^ 62)
  (q:R (Itr lo (hi - lo).toNat) H) (h0:0 < tk:=by first|exact Nat.succ_pos _|assumption|exact Inv.tk (by assumption)|exact Env0.tk (by assumption)|exact Nat.lt_of_lt_of_le (Inv.tk (by assumption)) (Nat.le_add_right _ _)):wpAny (model X.prog X.w) X.A (pyIter (.ref s.heap.objs.size)) (PIE X pins σ tg R) E {s with heap:=s.heap.push {cls:=.type "range",data:=.fields #[.int lo t,.int hi u,.int 1 v]},toks:=tk}:=by
 refine wpAny_pyIter_range (IsRange.new ..) (small_one h1 h2 h3 h4) ?_;have I1:Inv X pins σ H {s with heap:=s.heap.push {cls:=.type "range",data:=.fields #[.int lo t,.int hi u,.int 1 v]},toks:=tk}:=I.kept λb o e=>Heap.get?_push_of_some _ e
 refine⟨(s.heap.push {cls:=.type "range",data:=.fields #[.int lo t,.int hi u,.int 1 v]}).objs.size,[(s.heap.push {cls:=.type "range",data:=.fields #[.int lo t,.int hi u,.int 1 v]}).objs.size],_,_,H,rfl,
  I1.kept (t':=tk) λb o e=>Heap.get?_push_of_some _ e,pv _ lo (hi - lo).toNat,?_,λb hb=>?_,q⟩
 ·have e1:lo+((0:Nat):Int) * 1=lo:=by simp
  have e2:(((hi - lo).toNat:Nat):Int) - ((0:Nat):Int)=Builtin.Range.rangeSize lo hi 1:=by rw[rangeSize_one];split<;>omega
  show IsRangeIter _ _ (lo+((0:Nat):Int) * 1) ((((hi - lo).toNat:Nat):Int) - ((0:Nat):Int)) 1;rw[e1,e2];exact Heap.get?_push_size _ rfl
 ·have e:b=(s.heap.push {cls:=.type "range",data:=.fields #[.int lo t,.int hi u,.int 1 v]}).objs.size:=by simpa using hb
  subst e;exact I1.fpOk (Nat.le_refl _) (I1.hok.fresh (Nat.le_refl _))
noncomputable def By(ta:TA):TI:=λσ H R=>ta σ H λvs H1=>∃j:Int,vs=[.int j]/\-(2 ^ 62)<=j/\j < 2 ^ 62/\R (Itr 0 j.toNat) H1
theorem rB(hg:Gl X "range")(hm:X.mg "range"=none)(ha:PA X [a] ta)(hs:starEach [a] X.env=[(false,eval a X.env)]:=by rfl):PI X tg (.Call (.Name "range" p) [a] [] pos) (By ta):=by
 intro pins s σ H R I h;refine Call_ (gD I hg hm boot_range (PyProof.Rows.callWith_type1 (thn (ha pos pins s σ H _ I h) λus s1 ⟨vs,H1,I1,r1,q1⟩=>?_) hs rfl))
 obtain⟨j,e,q1,q2,q⟩:=q1;subst e;cases r1 with
 |cons r rr=>
  cases rr;obtain⟨t,rfl⟩:=r;exact call_range_1 (sx I1 (by omega) (by omega) q1 q2 (by simpa using q))
noncomputable def FU(wi:TI)(g:TG)(tb:TS):TS:=λD σ H=>wi σ H λJ H1=>∃W:Nat->Nat->St->Hp->Prop,(∃m,W 0 m σ H1)/\∀i m σ H,W i m σ H->
 (J.stop i H/\D.nx σ H)\/(J.go i H/\∃N:St->Hp->Prop,(∀σ' H',N σ' H'->∃m',m' < m/\W (i+1) m' σ' H')/\∀x H',J.yld i H x H'->g x σ H' λσ2 H2=>tb {D with nx:=N,ct:=N,bk:=D.nx} σ2 H2)
noncomputable def jp(fp:List Addr)(h:Heap):List (Addr×Obj):=fp.filterMap λb=>(h.get? b).map λo=>(b,o)
theorem dB{h:Heap}(hb:b∈fp)(e:h.get? b=some o):(b,o)∈jp fp h:=List.mem_filterMap.mpr ⟨b,hb,by rw[e];rfl⟩
theorem rH{h:Heap}{p:Addr×Obj}(hp:p∈jp fp h):p.1∈fp/\h.get? p.1=some p.2:=by
 obtain⟨b,hb,e⟩:=List.mem_filterMap.mp hp;cases q:h.get? b with
 |none=>rw[q]at e;cases e
 |some o=>
  rw[q]at e;have e':(b,o)=p:=Option.some.inj e;subst e';exact⟨hb,q⟩
theorem Inv.pinned{s:Shared}(I:Inv X pins σ H s)(hf:∀b∈fp,mH X pins H b)(ho:∀b∈fp,∃o,s.heap.get? b=some o/\∀v,o.data≠.cell v):Inv X (pins++jp fp s.heap) σ H s:=
 I.pins_of λp hp=>(List.mem_append.mp hp).elim (λz=>I.pin p (List.mem_append_right _ z)) λz=>by
  obtain⟨hb,e⟩:=rH z;obtain⟨f0,f1,f2,_⟩:=hf p.1 hb;obtain⟨o,e',d⟩:=ho p.1 hb;rw[e]at e';cases e';exact⟨e,f0,f1,f2,d⟩
theorem Inv.unpinned(I:Inv X (pins++pl) σ H s):Inv X pins σ H s:=I.pins_of λp hp=>I.pin p (List.mem_append_right _ (List.mem_append_left _ hp))
theorem zH(hp:PassesOwn (model X.prog X.w) X.A X.env X.xe)(hc:X.calm=true)(hi:PI X tg iter wi)(hg:PG X tg g)(hb:PSs X body tb)
  (hs:∀x,foldedSetIterable iter X.env x=pure x:=by intro _;rfl):PS X (.For tg iter body [] pos) (FU wi g tb):=by
 intro pins s σ H D I h;refine wpAny_For (thn (hi pins s σ H _ I h) λv s1 h1=>thn h1 λitv s2 h2=>?_) hs
 obtain⟨it,fp,tn,J,H2,e,I2,T,st2,f2,W,⟨m0,w0⟩,turn⟩:=h2;subst e;have stat:∀{H':Hp},(∀b∈fp,H' b=none)->∀b∈fp,mH X pins H' b:=λhn b hb=>⟨hn b hb,(f2 b hb).2⟩
 refine codeAny_forLoop_any (λn s'=>∃i σ' H',Inv X pins σ' H' s'/\tn i s'.heap/\(∀b∈fp,H' b=none)/\W i n σ' H') ?_ m0 ⟨0,σ,H2,I2,st2,λb hb=>(f2 b hb).1,w0⟩
 rintro n s3 ⟨i,σ3,H3,I3,st3,fr3,w3⟩;rcases turn i n σ3 H3 w3 with ⟨stop,qn⟩|⟨go,N,hN,step⟩
 ·refine wpAny_passesOwn hp (thn (T.done X rfl rfl rfl hc i pins s3 σ3 H3 X.xe I3 (stat fr3) st3 stop) λr s4 ⟨hr,I4⟩=>?_)
  subst hr;exact wpAny_execs_nil ⟨σ3,H3,I4,qn⟩
 ·refine wpAny_passesOwn hp (thn (T.item X rfl rfl rfl hc i pins s3 σ3 H3 X.xe I3 (stat fr3) st3 go) λr s4 ⟨u,hr,h4⟩=>?_)
  subst hr;refine wpAny_passesOwn hp (thn h4 λ_ s5 ⟨x,H5,I5,r5,y5,st5,fr5⟩=>?_)
  have I5':=I5.pinned (stat fr5) (T.obj _ _ st5);refine wpAny_passesOwn hp (thn (hg _ s5 σ3 H5 x u _ I5' r5 (step x H5 y5)) λ_ s6 ⟨σ6,H6,I6,q6⟩=>?_)
  refine wpAny_passesOwn hp (thn (hb _ s6 σ6 H6 _ I6 q6) λf s7 q7=>?_)
  have again:∀{σ7:St}{H7:Hp},Inv X (pins++jp fp s5.heap) σ7 H7 s7->N σ7 H7->∃m,m < n/\∃i σ' H',Inv X pins σ' H' s7/\tn i s7.heap/\(∀b∈fp,H' b=none)/\W i m σ' H':=λ{σ7 H7} I7 n7=>by
   obtain⟨m',hm,w7⟩:=hN σ7 H7 n7;refine⟨m',hm,i+1,σ7,H7,I7.unpinned,T.keep _ _ _ st5 λb hb o e=>(I7.pin (b,o) (List.mem_append_right _ (List.mem_append_right _ (dB hb e)))).1,λb hb=>?_,w7⟩
   obtain⟨o,e,d⟩:=T.obj _ _ st5 b hb;exact (I7.pin (b,o) (List.mem_append_right _ (List.mem_append_right _ (dB hb e)))).2.1
  cases f with
  |next=>obtain⟨σ7,H7,I7,n7⟩:=q7;exact again I7 n7
  |cont=>obtain⟨σ7,H7,I7,n7⟩:=q7;exact again I7 n7
  |brk=>obtain⟨σ7,H7,I7,q7⟩:=q7;exact⟨σ7,H7,I7.unpinned,q7⟩
  |ret v=>obtain⟨x7,σ7,H7,I7,r7,q7⟩:=q7;exact⟨x7,σ7,H7,I7.unpinned,r7,q7⟩
end
end L2
namespace L2
open PySem PySem.Spec PyProof.Rows
noncomputable abbrev R2:=V->V->Hp->VK->Prop
noncomputable def OpR(X:Cx)(f:Value->Value->Sem Value)(r:R2):Prop:=
 ∀(pins:List (Addr×Obj)) (s:Shared)(σ:St)(H:Hp)(x y:V)(v u:Value)(Q:VK),Inv X pins σ H s->RelV x v->RelV y u->r x y H Q->
  wpAny (model X.prog X.w) X.A (f v u) (EP X pins σ Q) X.xe s
noncomputable def UnR(X:Cx)(f:Value->Sem Value)(r:V->Hp->VK->Prop):Prop:=
 ∀(pins:List (Addr×Obj)) (s:Shared)(σ:St)(H:Hp)(x:V)(v:Value)(Q:VK),Inv X pins σ H s->RelV x v->r x H Q->
  wpAny (model X.prog X.w) X.A (f v) (EP X pins σ Q) X.xe s
noncomputable def CallR(X:Cx)(f:Value)(r:List V->Hp->VK->Prop):Prop:=
 ∀(pins:List (Addr×Obj)) (s:Shared)(σ:St)(H:Hp)(xs:List V)(us:List Value)(Q:VK),Inv X pins σ H s->Vals xs us->r xs H Q->
  wpAny (model X.prog X.w) X.A (call f us) (EP X pins σ Q) X.xe s
noncomputable def tOp(r:R2)(ta tb:TE):TE:=λσ H Q=>ta σ H λx H1=>tb σ H1 λy H2=>r x y H2 Q
noncomputable def tUn(r:V->Hp->VK->Prop)(ta:TE):TE:=λσ H Q=>ta σ H λx H1=>r x H1 Q
noncomputable def rI(C:Int->Int->Prop)(g:Int->Int->V):R2:=λx y H Q=>∃i j,x=.int i/\y=.int j/\C i j/\Q (g i j) H
noncomputable def rI0(g:Int->Int->V):R2:=λx y H Q=>∃i j,x=.int i/\y=.int j/\Q (g i j) H
noncomputable def rU(g:Int->V):V->Hp->VK->Prop:=λx H Q=>∃i,x=.int i/\Q (g i) H
section
variable {X:Cx}{a b c:Expr}{ta tb tc:TE}{pos:Pos}
theorem yN(ha:PE X a ta)(hb:PE X b tb){pins:List (Addr×Obj)}{s:Shared}{σ:St}{H:Hp}{R:V->V->Hp->Prop}(I:Inv X pins σ H s)
  (h:ta σ H λx H1=>tb σ H1 λy H2=>R x y H2) {Q:Value->Shared->Prop}{f:Value->Value->Sem Value}
  (hf:∀v u s2 x y H2,Inv X pins σ H2 s2->RelV x v->RelV y u->R x y H2->wpAny (model X.prog X.w) X.A (f v u) Q X.xe s2) :
  wpAny (model X.prog X.w) X.A (eval a X.env) (λv s₁=>wpAny (model X.prog X.w) X.A (eval b X.env) (λu s₂=>wpAny (model X.prog X.w) X.A (f v u) Q X.xe s₂) X.xe s₁) X.xe s:=by
 refine thn (ha pins s σ H _ I h) λv s1 ⟨x,H1,I1,r1,q1⟩=>?_
 refine thn (hb pins s1 σ H1 _ I1 q1) λu s2 ⟨y,H2,I2,r2,q2⟩=>?_
 exact hf v u s2 x y H2 I2 r1 r2 q2
theorem CU{op:Operator}{r:R2}(ho:OpR X (binaryOp op) r)(ha:PE X a ta)(hb:PE X b tb):PE X (.BinOp a op b pos) (tOp r ta tb):=by
 intro pins s σ H Q I h;exact wpAny_BinOp (yN ha hb I h λv u s2 x y H2 I2 rx ry q=>ho pins s2 σ H2 x y v u Q I2 rx ry q)
theorem Cf(ho:UnR X (unaryOp op) r)(ha:PE X a ta):PE X (.UnaryOp op a pos) (tUn r ta):=by
 intro pins s σ H Q I h;exact UnaryOp_ (thn (ha pins s σ H _ I h) λv s1 ⟨x,H1,I1,r1,q1⟩=>ho pins s1 σ H1 x v Q I1 r1 q1)
theorem opI{f:Value->Value->Sem Value}{C:Int->Int->Prop}{g:Int->Int->Int}
  (rule:∀(i j:Int)(t u:Tok)(s:Shared)(Q:Value->Shared->Prop)(E:Value->Shared->Prop),C i j->Q (.int (g i j) s.toks) {s with toks:=s.toks+1}->wpAny (model X.prog X.w) X.A (f (.int i t) (.int j u)) Q E s) :
  OpR X f (rI C λi j=>.int (g i j)):=by
 intro pins s σ H x y v u Q I rx ry h;obtain⟨i,j,rfl,rfl,hc,q⟩:=h;obtain⟨t,rfl⟩:=rx;obtain⟨t',rfl⟩:=ry;exact rule i j t t' s _ _ hc ⟨.int (g i j),H,I.tok _,⟨_,rfl⟩,q⟩
theorem Ad{f:Value->Value->Sem Value}{g:Int->Int->Int}
  (rule:∀(i j:Int)(t u:Tok)(s:Shared)(Q:Value->Shared->Prop)(E:Value->Shared->Prop),Q (.int (g i j) s.toks) {s with toks:=s.toks+1}->wpAny (model X.prog X.w) X.A (f (.int i t) (.int j u)) Q E s) :
  OpR X f (rI0 λi j=>.int (g i j)):=by
 intro pins s σ H x y v u Q I rx ry h;obtain⟨i,j,rfl,rfl,q⟩:=h;obtain⟨t,rfl⟩:=rx;obtain⟨t',rfl⟩:=ry;exact rule i j t t' s _ _ ⟨.int (g i j),H,I.tok _,⟨_,rfl⟩,q⟩
theorem v5{f:Value->Value->Sem Value}{g:Int->Int->Bool}
  (rule:∀(i j:Int)(t u:Tok)(s:Shared)(Q:Value->Shared->Prop)(E:Value->Shared->Prop),Q (.bool (g i j)) s->wpAny (model X.prog X.w) X.A (f (.int i t) (.int j u)) Q E s) :
  OpR X f (rI0 λi j=>.bl (g i j)):=by
 intro pins s σ H x y v u Q I rx ry h;obtain⟨i,j,rfl,rfl,q⟩:=h;obtain⟨t,rfl⟩:=rx;obtain⟨t',rfl⟩:=ry;exact rule i j t t' s _ _ ⟨.bl (g i j),H,I,rfl,q⟩
noncomputable def uq(i j:Int):Prop:=0<=j/\j<=1000000/\i.natAbs < 2 ^ 64
theorem pb(k:Nat):(0:Int)<=2 ^ k:=by
 rw[two_pow_cast];exact Int.natCast_nonneg _
theorem xo:OpR X (binaryOp .Add) (rI0 λi j=>.int (i+j)):=Ad λ_ _ _ _ _ _ _ q=>add_int q
theorem xa:OpR X (binaryOp .Sub) (rI0 λi j=>.int (i - j)):=Ad λ_ _ _ _ _ _ _ q=>sub_int q
theorem xM:OpR X (binaryOp .Mod) (rI (λ_ j=>0 < j) λi j=>.int (i % j)):=opI λi j _ _ _ _ _ hc q=>by
 have h1:(0:Int) < j:=hc;exact mod_int' (by omega) (by rw[Int.fmod_eq_emod_of_nonneg i (by omega)];exact q)
theorem xk:OpR X (binaryOp .Pow) (rI uq λi j=>.int (i ^ j.toNat)):=opI λ_ _ _ _ _ _ _ hc q=>pow_int_small hc.1 hc.2.1 hc.2.2 q
theorem yq:OpR X (binaryOp .RShift) (rI (λ_ j=>0<=j) λi j=>.int (i / 2 ^ j.toNat)):=opI λi j _ _ _ _ _ hc q=>
 rshift_int hc (by rw[Int.fdiv_eq_ediv_of_nonneg i (pb _)];exact q)
theorem zK:OpR X (binaryOp .BitAnd) (rI0 λi j=>.int (Builtin.bitAnd i j)):=Ad λ_ _ _ _ _ _ _ q=>and_int q
theorem unI{f:Value->Sem Value}{g:Int->Int}
  (rule:∀(i:Int)(t:Tok)(s:Shared)(Q:Value->Shared->Prop)(E:Value->Shared->Prop),Q (.int (g i) s.toks) {s with toks:=s.toks+1}->wpAny (model X.prog X.w) X.A (f (.int i t)) Q E s) :
  UnR X f (rU λi=>.int (g i)):=by
 intro pins s σ H x v Q I rx h;obtain⟨i,rfl,q⟩:=h;obtain⟨t,rfl⟩:=rx;exact rule i t s _ _ ⟨.int (g i),H,I.tok _,⟨_,rfl⟩,q⟩
theorem Ap:UnR X (unaryOp .USub) (rU λi=>.int (-i)):=unI λ_ _ _ _ _ q=>neg_int q
end
section
variable {X:Cx}{a b c:Expr}{ta tb tc:TE}{pos:Pos}
theorem l0(I:Inv X pins σ H s)(q:Q (.bl k) H)(e:k=k'):EP X pins σ Q (.bool k') s:=by
 subst e;exact⟨.bl k,H,I,rfl,q⟩
theorem CK:OpR X (compareOp .Lt) (rI0 λi j=>.bl (decide (i < j))):=v5 λ_ _ _ _ _ _ _ q=>lt_int q
theorem Bm:OpR X (compareOp .LtE) (rI0 λi j=>.bl (decide (i<=j))):=v5 λ_ _ _ _ _ _ _ q=>le_int q
theorem Cq:OpR X (compareOp .Gt) (rI0 λi j=>.bl (decide (j < i))):=v5 λ_ _ _ _ _ _ _ q=>gt_int q
theorem Bt:OpR X (compareOp .GtE) (rI0 λi j=>.bl (decide (j<=i))):=v5 λ_ _ _ _ _ _ _ q=>ge_int q
theorem rJ:OpR X (compareOp .In) (λx y H Q=>∃i j,x=.str i/\y=.str j/\Q (.bl (!(Builtin.Str.occurrences j i 0 j.length 1).isEmpty)) H):=by
 intro pins s σ H x y v u Q I rx ry h;obtain⟨i,j,rfl,rfl,q⟩:=h;obtain⟨t,rfl⟩:=rx;obtain⟨t',rfl⟩:=ry;exact in_str (l0 I q rfl)
theorem zF:OpR X (compareOp .Is) (λx y H Q=>y=.non/\Q (.bl (decide (x=.non))) H):=by
 intro pins s σ H x y v u Q I rx ry h;obtain⟨rfl,q⟩:=h;cases ry;refine is_none_gen (l0 I q ?_);cases x<;>first
  |(cases rx;rfl)
  |(obtain⟨t,rfl⟩:=rx;rfl)
theorem vH:OpR X (compareOp .IsNot) (λx y H Q=>y=.non/\Q (.bl (!decide (x=.non))) H):=by
 intro pins s σ H x y v u Q I rx ry h;obtain⟨rfl,q⟩:=h;cases ry;refine isnot_none_gen (l0 I q ?_);cases x<;>first
  |(cases rx;rfl)
  |(obtain⟨t,rfl⟩:=rx;rfl)
theorem k8:OpR X (compareOp .NotIn) (λx y H Q=>∃i j,x=.str i/\y=.str j/\Q (.bl (!(!(Builtin.Str.occurrences j i 0 j.length 1).isEmpty))) H):=by
 intro pins s σ H x y v u Q I rx ry h;obtain⟨i,j,rfl,rfl,q⟩:=h;obtain⟨t,rfl⟩:=rx;obtain⟨t',rfl⟩:=ry;exact notIn_str (l0 I q rfl)
theorem OpR.or(h:OpR X f r)(h':OpR X f r'):OpR X f (λx y H Q=>r x y H Q\/r' x y H Q):=by
 intro pins s σ H x y v u Q I rx ry q;rcases q with q|q
 ·exact h pins s σ H x y v u Q I rx ry q
 ·exact h' pins s σ H x y v u Q I rx ry q
theorem u3{op:CmpOp}{r:R2}(ho:OpR X (compareOp op) r)(ha:PE X a ta)(hb:PE X b tb)(hm:behindInMarks op b=false):PE X (.Compare a [op] [b] pos) (tOp r ta tb):=by
 intro pins s σ H Q I h;exact wpAny_Compare1 (yN ha hb I h λv u s2 x y H2 I2 rx ry q=>ho pins s2 σ H2 x y v u Q I2 rx ry q) hm
noncomputable def ud(t:TE):TT:=λσ H Q=>t σ H λx H'=>∃k,x=.bl k/\Q k H'
theorem vW(ho:OpR X (compareOp op) r)(ha:PE X a ta)(hb:PE X b tb)(hm:behindInMarks op b=false):PT X (.Compare a [op] [b] pos) (ud (tOp r ta tb)):=by
 intro pins s σ H Q I h;refine wpAny_isTrue_Compare1 (thn (ha pins s σ H _ I h) λv s1 ⟨x,H1,I1,r1,q1⟩=>thn (hb pins s1 σ H1 _ I1 q1) λu s2 ⟨y,H2,I2,r2,q2⟩=>
  thn (ho pins s2 σ H2 x y v u _ I2 r1 r2 q2) λc s3 ⟨z,H3,I3,r3,k,e,q3⟩=>?_) hm
 subst e;cases r3;exact wpAny_truthy_bool ⟨H3,I3,q3⟩
noncomputable def ux(r r':R2)(ta tb tc:TE):TE:=λσ H Q=>ta σ H λx H1=>tb σ H1 λy H2=>r x y H2 λz H3=>∃k,z=.bl k/\
 (if k=true then tc σ H3 λw' H4=>r' y w' H4 Q else Q (.bl false) H3)
theorem tZ(ho:OpR X (compareOp op) r)(ho':OpR X (compareOp op') r')(ha:PE X a ta)(hb:PE X b tb)(hc:PE X c tc)
  (hm:lastMarks [op,op'] [b,c]=false:=by with_unfolding_all rfl):PE X (.Compare a [op,op'] [b,c] pos) (ux r r' ta tb tc):=by
 intro pins s σ H Q I h;refine Compare_chain (thn (ha pins s σ H _ I h) λv s1 ⟨x,H1,I1,r1,q1⟩=>chain_link (thn (hb pins s1 σ H1 _ I1 q1) λu s2 ⟨y,H2,I2,r2,q2⟩=>
  thn (ho pins s2 σ H2 x y v u _ I2 r1 r2 q2) λd s3 ⟨z,H3,I3,r3,k,e,q3⟩=>?_)) hm
 subst e;cases r3;refine wpAny_truthy_bool ?_;cases k with
 |false=>exact ite_ff ⟨.bl false,H3,I3,rfl,q3⟩
 |true=>exact ite_tt (chain_last (thn (hc pins s3 σ H3 _ I3 q3) λw' s4 ⟨z',H4,I4,r4,q4⟩=>ho' pins s4 σ H4 y z' u w' Q I4 r2 r4 q4))
theorem tV(ho:OpR X (compareOp op) r)(ho':OpR X (compareOp op') r')(ha:PE X a ta)(hb:PE X b tb)(hc:PE X c tc)
  (hm:lastMarks [op,op'] [b,c]=false:=by with_unfolding_all rfl):PT X (.Compare a [op,op'] [b,c] pos) (ud (ux r r' ta tb tc)):=by
 intro pins s σ H Q I h;refine isTrue_chain (thn (ha pins s σ H _ I h) λv s1 ⟨x,H1,I1,r1,q1⟩=>test_link (thn (hb pins s1 σ H1 _ I1 q1) λu s2 ⟨y,H2,I2,r2,q2⟩=>
  thn (ho pins s2 σ H2 x y v u _ I2 r1 r2 q2) λd s3 ⟨z,H3,I3,r3,k,e,q3⟩=>?_)) hm
 subst e;cases r3;refine wpAny_truthy_bool ?_;cases k with
 |false=>
  obtain⟨k',e',q'⟩:=q3;cases e';exact ite_ff ⟨H3,I3,q'⟩
 |true=>
  refine ite_tt (test_last (thn (hc pins s3 σ H3 _ I3 q3) λw' s4 ⟨z',H4,I4,r4,q4⟩=>thn (ho' pins s4 σ H4 y z' u w' _ I4 r2 r4 q4) λd' s5 ⟨z2,H5,I5,r5,k2,e2,q5⟩=>?_))
  subst e2;cases r5;exact wpAny_truthy_bool ⟨H5,I5,q5⟩
theorem gw:(sizeLine:Nat) < 2 ^ 63:=by rw[sizeLine_eq];decide
theorem oh:OpR X (binaryOp .Add) (λx y H Q=>∃i j,x=.str i/\y=.str j/\i.length+j.length<=sizeLine/\Q (.str (i++j)) H):=by
 intro pins s σ H x y v u Q I rx ry h;obtain⟨i,j,rfl,rfl,hz,q⟩:=h;obtain⟨t,rfl⟩:=rx;obtain⟨t',rfl⟩:=ry;exact d8 I.tk <| add_str (λt' tk _=>⟨.str (i++j),H,I.tok _,⟨_,rfl⟩,q⟩) hz
theorem eg(r:Vals [x] us):∃u,us=[u]/\RelV x u:=by
 cases r with
 |cons r1 r2=>cases r2;exact⟨_,rfl,r1⟩
end
end L2
namespace L2
open PySem PySem.Spec PyProof.Rows
structure ObjM (h:Heap)(x dx C:Addr)(mA:Str->Option Value):Prop where
 obj:h.get? x=some (PySem.W.instObj C dx)
 ns:h.Ns1 dx mA
 ne:dx≠x
theorem qQ{h:Heap}(n:h.Ns1 dx mA):∃od,h.get? dx=some od/\∀name,PySem.W.lookIn name od=some (mA name):=by
 obtain⟨o,es,ep,ho,hd,hk,_,hm⟩:=n;refine⟨o,ho,λname=>?_⟩
 have e:=hm name;unfold nsFind findBy at e;rw[<-Array.find?_toList]at e;unfold PySem.W.lookIn;rw[hd];dsimp only;split
 ·rename_i y q;rw[q]at e;exact congrArg some e
 ·rename_i q;rw[q]at e;have a:es.toList.any (·.refKey)=false:=by
   rw[List.any_eq_false];intro y hy;obtain⟨z,t,hkey⟩:=hk y (Array.mem_toList_iff.mp hy);simp[DictEntry.refKey,hkey]
  have a':¬ es.toList.any (·.refKey)=true:=by rw[a];exact Bool.false_ne_true
  rw[if_neg a'];exact congrArg some e
theorem ObjM.look(I:ObjM h x dx C mA):∃od,PySem.W.InstAt h x (PySem.W.instObj C dx) C (some od)/\∀name,PySem.W.lookIn name od=some (mA name):=
 let ⟨od,ho,hl⟩:=qQ I.ns
 ⟨od,⟨I.obj,rfl,rfl,ho⟩,hl⟩
section
variable {w:World}{A:Around}{s:Shared}{K:PySem.W.Frag}{x:Addr}
theorem v8(X:K.In s.heap)(I:ObjM s.heap x dx C mA)(hg:PySem.W.plainGet K C name=true)(hh:PySem.W.hasDictIn K C=true)
  (ha:PySem.W.findIn K (.ref C) name=some none) (hv:mA name=some v) (hv':PySem.W.handedIn v=true) (h:Q v {s with toks:=s.toks+1}) :
  wpAny (model prog w) A (getAttr (.ref x) name expr) Q E s:=by
 obtain⟨od,J,hl⟩:=I.look;exact PySem.W.get_value X J (PySem.W.plainGet_of hg).1 (PySem.W.findObj_own hh ha rfl (by rw[hl,hv])) hv' h
theorem rX(X:K.In s.heap)(I:ObjM s.heap x dx C mA)(hg:PySem.W.plainGet K C name=true)
  (hf:PySem.W.findIn K (.ref C) name=some (some (.ref f))) (ht:PySem.W.isFn K (.ref f)=true) (hv:mA name=none) (h:Q (.ref f,[.ref x]) s) :
  wpAny (model prog w) A (getMethod (.ref x) name pl) Q E s:=by
 obtain⟨od,J,hl⟩:=I.look;exact PySem.W.method_fn X J (PySem.W.plainGet_of hg).1 (PySem.W.plainGet_of hg).2 hf (beq_iff_eq.mp ht) (by show (PySem.W.lookIn name od).map (·.isSome)=some false;rw[hl,hv];rfl) h
theorem u9{ns:List Str}(X:K.In s.heap)(I:ObjM s.heap x dx C mA)
  (hs:PySem.W.findIn K (.ref C) "__setattr__"=some (some (.builtin "object.__setattr__"))) (hp:PySem.W.plainOver K C=true) (ht:PySem.W.takerIn K C name=some none) (hh:PySem.W.hasDictIn K C=true)
  (hw:PySem.Within mA ns) (hsz:ns.length<=sizeLine)
  (h:∀h',ObjM h' x dx C (λy=>if y=name then some v else mA y)->Heap.SameBut dx s.heap h'->Q () {s with heap:=h',toks:=s.toks+2}) :
  wpAny (model prog w) A (setAttr (.ref x) name v) Q E s:=by
 obtain⟨od,J,hl⟩:=I.look;refine PySem.W.set_plain X J hs (PySem.W.osa_open (s:={s with toks:=s.toks+1}) (r:=none) X J hp ht λb=>?_)
 obtain⟨cd,hc,hd'⟩:=PySem.W.any_some hh;have hx:s.heap.get? x=some ⟨.ref C,some dx,.plain,#[]⟩:=I.obj;refine wpAny_bind (wpAny_pure (wpAny_bind (wpAny_bind (wpAny_loadPart hx (wpAny_bind (PySem.W.Looks.here (s:={s with toks:=s.toks+1}) (PySem.W.looks_clsIn X hc) ?_))))))
 rw[hd'];refine wpAny_pure (a:=some dx) (wpAny_bind (wpAny_pure (wpAny_bind ?_)));refine wpAny_nsSet1 (s:={s with toks:=s.toks+1}) I.ns λh' hn2 hs2=>?_
 obtain⟨oD,esD,epD,hoD,hdD,hcD⟩:=hn2.count (PySem.Within.cons name v hw);refine wpAny_bind (wpAny_lookBehind hoD (by rw[hdD];exact pastItsLine_dict (Nat.le_trans hcD (by rw[List.length_cons];omega))) ?_)
 exact wpAny_pure (h _ ⟨(hs2.2 _ (Ne.symm I.ne)).trans I.obj,hn2,I.ne⟩ hs2)
theorem t9(X:K.In s.heap)(hm:PySem.W.makesIn K C=true)
  (hi:PySem.W.findIn K (.ref C) "__init__"=some (some (.ref f))) (hf:PySem.W.typeIn K (.ref f)=some (.type "function"))
  (h:codeAny (model prog w) (A.under (.builtin "type.__call__" ⟨.ref C::vs,kw⟩)) (.call (.ref f) ⟨.ref (s.heap.objs.size+1)::vs,kw⟩) (PySem.W.InitBack (s.heap.objs.size+1) R)
   {s with heap:=(s.heap.push PySem.W.emptyDict).push (PySem.W.instObj C s.heap.objs.size)}) :
  codeAny (model prog w) A (.call (.ref C) ⟨vs,kw⟩) R s:=by
 obtain⟨hh,g,d,t,os⟩:=s;exact PySem.W.make_core (PySem.W.makes_of X hm) (PySem.W.looks_findIn X hi) (λself=>PySem.W.bind_fn X self hf) (.inl rfl) h
end
noncomputable def da(f:Str)(v:V):List (Str×V)->List (Str×V)
 |[]=>[(f,v)]
 |(g,x)::r=>if g=f then (g,v)::r else (g,x)::da f v r
theorem g9(f g:Str)(v:V):∀fs:List (Str×V),(da f v fs).lookup g=if g=f then some v else fs.lookup g
 |[]=>by
  show List.lookup g [(f,v)]=_;by_cases h:g=f
  ·have hb:(g == f)=true:=beq_iff_eq.mpr h;simp only[List.lookup,hb,if_pos h]
  ·have hb:(g == f)=false:=beq_eq_false_iff_ne.mpr h;simp only[List.lookup,hb,if_neg h]
 |(k,x)::r=>by
  have ih:=g9 f g v r;rw[show da f v ((k,x)::r)=(if k=f then (k,v)::r else (k,x)::da f v r) from rfl]
  by_cases hk:k=f
  ·rw[if_pos hk];by_cases h:g=k
   ·have hb:(g == k)=true:=beq_iff_eq.mpr h;simp only[List.lookup,hb,if_pos (h.trans hk)]
   ·have hb:(g == k)=false:=beq_eq_false_iff_ne.mpr h;simp only[List.lookup,hb,if_neg (λe:g=f=>h (e.trans hk.symm))]
  ·rw[if_neg hk];by_cases h:g=k
   ·have hb:(g == k)=true:=beq_iff_eq.mpr h;simp only[List.lookup,hb,if_neg (λe:g=f=>hk (h.symm.trans e))]
   ·have hb:(g == k)=false:=beq_eq_false_iff_ne.mpr h;simp only[List.lookup,hb];exact ih
theorem gy(f:Str)(v:V):∀fs:List (Str×V),f∈(da f v fs).map (·.1)/\∀g,g∈fs.map (·.1)->g∈(da f v fs).map (·.1)
 |[]=>⟨by simp[da],λg h=>by simp at h⟩
 |(k,x)::r=>by
  obtain⟨i1,i2⟩:=gy f v r;rw[show da f v ((k,x)::r)=(if k=f then (k,v)::r else (k,x)::da f v r) from rfl]
  by_cases hk:k=f
  ·rw[if_pos hk];subst hk;exact⟨by simp,λg h=>by simpa using h⟩
  ·rw[if_neg hk];refine⟨?_,λg h=>?_⟩
   ·rw[List.map_cons];exact List.mem_cons_of_mem _ i1
   ·rw[List.map_cons]at h ⊢;rcases List.mem_cons.mp h with e|e
    ·exact List.mem_cons.mpr (.inl e)
    ·exact List.mem_cons_of_mem _ (i2 g e)
theorem g8(f:Str)(v:V):∀fs:List (Str×V),(da f v fs).length<=fs.length+1
 |[]=>by simp[da]
 |(k,x)::r=>by
  have ih:=g8 f v r;rw[show da f v ((k,x)::r)=(if k=f then (k,v)::r else (k,x)::da f v r) from rfl]
  by_cases hk:k=f
  ·rw[if_pos hk,List.length_cons,List.length_cons];omega
  ·rw[if_neg hk,List.length_cons,List.length_cons];omega
theorem RelO.some_of(r:RelO (some v) o):∃u,o=some u/\RelV v u:=by
 cases o with
 |none=>exact (show False from r).elim
 |some u=>exact⟨u,rfl,r⟩
theorem RelO.none_of(r:RelO none o):o=none:=by
 cases o with
 |none=>rfl
 |some u=>exact (show False from r).elim
theorem rK(r:RelV v u):PySem.W.handedIn u=true:=by
 cases v with
 |non=>cases (show u=Value.none from r);rfl
 |bl b=>cases (show u=Value.bool b from r);rfl
 |int i=>obtain⟨t,e⟩:=(show ∃t,u=Value.int i t from r);cases e;rfl
 |str x=>obtain⟨t,e⟩:=(show ∃t,u=Value.str x t from r);cases e;rfl
 |byt b=>obtain⟨t,e⟩:=(show ∃t,u=Value.bytes b t from r);cases e;rfl
 |flt b=>obtain⟨t,e⟩:=(show ∃t,u=Value.float b t from r);cases e;rfl
 |ref a=>cases (show u=Value.ref a from r);rfl
 |ty n=>cases (show u=Value.type n from r);rfl
section
variable {P:Program}{w:World}{h h':Heap}{a:Addr}{fs:List (Str×V)}
theorem uR(hok:HOk P w H h)(e:H a=some (.ins C dx fs)):∃mA,ObjM h a dx C mA/\(∀f,RelO (fs.lookup f) (mA f))/\PySem.Within mA (fs.map (·.1))/\fs.length<=1000/\H dx=some (.own a):=by
 obtain⟨d,z,ne,ob,mA,n,r,q⟩:=(show ObjOk P w H h a (.ins C dx fs) from hok a _ e);exact⟨mA,⟨ob,n,ne⟩,r,q,z,d⟩
end
structure Cls (K:PySem.W.Frag)(C:Addr):Prop where
 pg:PySem.W.plainGet K C Str.empty=true
 hd:PySem.W.hasDictIn K C=true
 po:PySem.W.plainOver K C=true
 sa:PySem.W.findIn K (.ref C) "__setattr__"=some (some (.builtin "object.__setattr__"))
theorem Cls.get{K:PySem.W.Frag}{C:Addr}(c:Cls K C)(f:Str):PySem.W.plainGet K C f=true:=c.pg
noncomputable def NoAttr(K:PySem.W.Frag)(C:Addr)(f:Str):Prop:=PySem.W.findIn K (.ref C) f=some none
theorem NoAttr.taker{K:PySem.W.Frag}(n:NoAttr K C f):PySem.W.takerIn K C f=some none:=by
 unfold PySem.W.takerIn;rw[show PySem.W.findIn K (.ref C) f=some none from n];rfl
structure Meth (K:PySem.W.Frag)(C:Addr)(m:Str)(f:Addr):Prop where
 at_:PySem.W.findIn K (.ref C) m=some (some (.ref f))
 fn:PySem.W.isFn K (.ref f)=true
 kp:PySem.W.keepIn K (.ref f)=true
section
variable {X:Cx}{s:Shared}{a:Addr}{fs:List (Str×V)}{A:Around}
theorem ox(I:Inv X pins σ H s)(e:H a=some (.ins C dx fs))(c:Cls X.K C)(n:NoAttr X.K C f)(hl:fs.length < 1000)(ry:RelV y u)
  (h:∀s',Inv X pins σ (upd H a (.ins C dx (da f y fs))) s'->Q () s'):wpAny (model X.prog X.w) A (setAttr (.ref a) f u) Q E s:=by
 obtain⟨mA,O,r,wi,_,ho⟩:=uR I.hok e;have hz:(fs.map (·.1)).length<=sizeLine:=by rw[List.length_map,sizeLine_eq];omega
 refine u9 I.kIn O c.sa c.po n.taker c.hd wi hz λh' O' sb=>h _ ?_
 have hd:∃o,h'.get? dx=some o:=let ⟨o,_,_,e',_⟩:=O'.ns;⟨o,e'⟩
 refine I.write (x:=a) (e:=dx) (by rw[e];exact True.intro) (.inr ho) (λb q hb z=>(sb.2 b hb).trans z) hd ?_
 refine⟨by rw[ad O.ne];exact ho,?_,O.ne,O'.obj,_,O'.ns,λg=>?_,λg hg=>?_⟩
 ·have:=g8 f y fs;omega
 ·show RelO ((da f y fs).lookup g) (if g=f then some u else mA g)
  rw[g9];by_cases q:g=f
  ·rw[if_pos q,if_pos q];exact ry
  ·rw[if_neg q,if_neg q];exact r g
 ·by_cases q:g=f
  ·rw[q];exact (gy f y fs).1
  ·refine (gy f y fs).2 g (wi g λz=>hg ?_)
   show (if g=f then some u else mA g)=none
   rw[if_neg q];exact z
theorem Inv.made(I:Inv X pins σ H s):Inv X pins σ (upd (upd H s.heap.objs.size (.own (s.heap.objs.size+1))) (s.heap.objs.size+1) (.ins C s.heap.objs.size []))
  {s with heap:=(s.heap.push PySem.W.emptyDict).push (PySem.W.instObj C s.heap.objs.size)}:=by
 have e1:(s.heap.push PySem.W.emptyDict).get? s.heap.objs.size=some PySem.W.emptyDict:=Heap.get?_push_size s.heap rfl;have e2:((s.heap.push PySem.W.emptyDict).push (PySem.W.instObj C s.heap.objs.size)).get? (s.heap.objs.size+1)=some (PySem.W.instObj C s.heap.objs.size):=by
  have:=Heap.get?_push_size (s.heap.push PySem.W.emptyDict) (o:=PySem.W.instObj C s.heap.objs.size) rfl
  rwa [Heap.size_push]at this
 have e3:(s.heap.push PySem.W.emptyDict).Ns s.heap.objs.size (λ_=>none):=⟨PySem.W.emptyDict,#[],_,e1,rfl,(λe he=>absurd he (by simp)),λ_=>rfl⟩
 have I1:=I.laid (a:=s.heap.objs.size) (o:=.own (s.heap.objs.size+1)) (h':=s.heap.push PySem.W.emptyDict) (t':=s.toks) (λb u q=>Heap.get?_push_of_some _ q) (Nat.le_refl _) ⟨_,e1⟩
 refine I1.laid (a:=s.heap.objs.size+1) (o:=.ins C s.heap.objs.size []) (t':=s.toks) (λb u q=>Heap.get?_push_of_some _ q) (Nat.le_of_eq (Heap.size_push _ _)) ?_
 have ne:s.heap.objs.size≠s.heap.objs.size+1:=Nat.ne_of_lt (Nat.lt_succ_self _);refine⟨by rw[ad ne,ae],Nat.zero_le _,ne,e2,λ_=>none,(Heap.Ns1.of_empty e3).at λo q=>Heap.get?_push_of_some _ q,λ_=>True.intro,λy hy=>absurd rfl hy⟩
theorem vB(hb:attributeBase e f env (eval e env)=eval e env)
  (h:wpAny (model prog w) A (eval e env) (λo s₁=>wpAny (model prog w) A (getAttr o f true) Q E s₁) E s):wpAny (model prog w) A (eval (.Attribute e f pos) env) Q E s:=
 Attribute_any_ h (by rw[arm_eval_Attribute,hb])
end
noncomputable def FM(K:PySem.W.Frag)(ta tv:TE)(f:Str):TS:=λD σ H=>tv σ H λy H1=>ta σ H1 λx H2=>∃a C dx fs,x=.ref a/\H2 a=some (.ins C dx fs)/\Cls K C/\NoAttr K C f/\fs.length < 1000/\
 D.nx σ (upd H2 a (.ins C dx (da f y fs)))
section
variable {X:Cx}{o:Expr}{pos:Pos}
theorem z7(ha:PE X o ta)(hv:PE X value tv)(hs:swapsWith value (some (.Attribute o f pos')) pos.line X.env=pure false):PS X (.Assign [.Attribute o f pos'] value pos) (FM X.K ta tv f):=by
 intro pins s σ H D I h;refine plainObj_wpAny_Assign_Attribute (thn (hv pins s σ H _ I h) λu s1 ⟨y,H1,I1,ry,q⟩=>thn (ha pins s1 σ H1 _ I1 q) λov s2 ⟨x,H2,I2,rx,a,C,dx,fs,ex,ea,c,n,l,q2⟩=>?_) hs
 subst ex;obtain rfl:ov=Value.ref a:=rx;exact ox I2 ea c n l ry λs3 I3=>⟨σ,_,I3,q2⟩
end
section
variable {X:Cx}{s:Shared}{A:Around}{c:Value}{b:Bool}
end
end L2
namespace L2
open PySem PySem.Spec PyProof.Rows
structure Room (k:Nat)(A:Around):Prop where
 hd:A.handled=none
 dp:A.depth+3 * k+5 < recursionLimit
 un:A.units+16 * k+200 < cLine
theorem Room.mono(r:Room k A)(h:j<=k):Room j A:=⟨r.hd,by have:=r.dp;omega,by have:=r.un;omega⟩
theorem Room.deeper{A:Around}(r:Room (k+1) A)(env:Env):Room k (A.deeper env):=
 ⟨r.hd,by have:=r.dp;show A.depth+1+3 * k+5 < _;omega,by have:=r.un;show A.units+3+16 * k+200 < _;omega⟩
theorem nQ{A:Around}:(A.under (.builtin "type.__call__" ⟨.ref C::us,kw⟩)).depth=A.depth+1:=by
 first|rfl|simp[Around.under,Code.weight,Code.isCreation,Code.isGuard,Code.isCaller,Code.frames,Code.isFrame,guardIds]
theorem ow{A:Around}:(A.under (.builtin "type.__call__" ⟨.ref C::us,kw⟩)).units=A.units+1:=by
 first|rfl|simp[Around.under,Code.cUnits,Code.frames,Code.isFrame]
theorem Room.make{A:Around}(r:Room (k+1) A)(C:Addr)(us:List Value)(kw:List (Str×Value)):Room k (A.under (.builtin "type.__call__" ⟨.ref C::us,kw⟩)):=
 ⟨r.hd,by have:=r.dp;rw[nQ];omega,by have:=r.un;rw[ow];omega⟩
theorem Room.depth{A:Around}(r:Room k A):A.depth < recursionLimit:=by have:=r.dp;omega
theorem Room.units{A:Around}(r:Room k A):A.units+64 < cLine:=by have:=r.un;omega
noncomputable def tNil:TA:=λ_ H Q=>Q [] H
noncomputable def CW(ta:TE)(tr:TA):TA:=λσ H Q=>ta σ H λx H1=>tr σ H1 λxs H2=>Q (x::xs) H2
section
variable {X:Cx}{pos:Pos}
theorem pa_nil:PA X [] tNil:=λ_ _ _ _ H Q I h=>Calls.spliced_nil ⟨[],H,I,.nil,h⟩
theorem bz(ha:PE X e te)(hr:PA X es t)(hs:starEach (e::es) X.env=(false,eval e X.env)::starEach es X.env:=by rfl):PA X (e::es) (CW te t):=by
 intro pos pins s σ H Q I h;rw[hs];show wpAny _ _ (spliced ((false,eval e X.env)::backTo pos (starEach es X.env))) _ _ s;refine Calls.spliced_cons (thn (ha pins s σ H _ I h) λu s1 ⟨x,H1,I1,r1,q1⟩=>?_)
 exact thn (hr pos pins s1 σ H1 _ I1 q1) λus s2 ⟨xs,H2,I2,r2,q2⟩=>⟨x::xs,H2,I2,.cons r1 r2,q2⟩
noncomputable def EF(t:TA):TE:=λσ H Q=>t σ H λxs H1=>xs.length<=sizeLine/\∀p,H1 p=none->Q (.ref p) (upd H1 p (.tup xs))
noncomputable def E7(t:TA):TE:=λσ H Q=>t σ H λxs H1=>xs.length<=sizeLine/\∀p,H1 p=none->Q (.ref p) (upd H1 p (.lst xs))
theorem xI{x1}(h:PA X es t):PE X (.Tuple es x1 pos) (EF t):=by
 intro pins s σ H Q I hq;refine wpAny_Tuple_spliced (thn (h pos pins s σ H _ I hq) λus s1 ⟨xs,H1,I1,r,z,q⟩=>⟨by rw[<-r.length];exact z,?_⟩)
 have hf:H1 s1.heap.objs.size=none:=I1.hok.fresh (Nat.le_refl _);refine⟨.ref s1.heap.objs.size,upd H1 s1.heap.objs.size (.tup xs),I1.laid (t':=s1.toks) (λb u e=>Heap.get?_push_of_some _ e) (Nat.le_refl _) ?_,rfl,q _ hf⟩
 exact⟨z,us,r,⟨_,Heap.get?_push_size _ rfl,rfl,_,rfl⟩⟩
theorem Am(h:PA X es t):PE X (.List es pos) (E7 t):=by
 intro pins s σ H Q I hq;refine wpAny_List_spliced (thn (h pos pins s σ H _ I hq) λus s1 ⟨xs,H1,I1,r,z,q⟩=>⟨by rw[<-r.length];exact z,?_⟩)
 have hf:H1 s1.heap.objs.size=none:=I1.hok.fresh (Nat.le_refl _);refine⟨.ref s1.heap.objs.size,upd H1 s1.heap.objs.size (.lst xs),I1.laid (t':=s1.toks) (λb u e=>Heap.get?_push_of_some _ e) (Nat.le_refl _) ?_,rfl,q _ hf⟩
 exact⟨z,us,0,r,Heap.get?_push_size _ rfl⟩
end
noncomputable abbrev Sp:=List V->Hp->VK->XK->Prop
noncomputable abbrev CXT:=List Env->Hp->Shared->XK->Value->Shared->Prop
structure Env0 (P:Program)(w:World)(K:PySem.W.Frag)(mg:Str->Option Value)(base:Heap)(A:Around)(outer:List Env)(s:Shared)(H:Hp):Prop where
 frames:A.frames=some outer
 mod:Mod K mg base
 bs:∀b o,base.get? b=some o->s.heap.get? b=some o/\H b=none
 bsz:base.objs.size<=s.heap.objs.size
 funs:s.heap.FunFrames base outer
 frf:∀b∈frs outer,H b=none
 hok:HOk P w H s.heap
 bare:AllBare s.gens
 tk:0 < s.toks
noncomputable def CE(outer:List Env)(P:Program)(w:World)(H:Hp)(s:Shared)(Q:VK)(u:Value)(s':Shared):Prop:=
 ∃v H',(s'.os=s.os/\0 < s'.toks)/\AllBare s'.gens/\Un (frs outer) [] H H' s.heap s'.heap/\HOk P w H' s'.heap/\RelV v u/\Q v H'
noncomputable def CR(CX:CXT)(outer:List Env)(P:Program)(w:World)(H:Hp)(s:Shared)(Q:VK)(E:XK)(r:Result)(s':Shared):Prop:=
 match r with
 |.ok (.ret u)=>CE outer P w H s Q u s'
 |.ok _=>False
 |.error e=>CX outer H s E e s'
structure FnOk (P:Program)(w:World)(K:PySem.W.Frag)(mg:Str->Option Value)(base:Heap)(CX:CXT)(k:Nat)(f:Addr)(fd:FuncData)(ps:List Str)(sp:Sp):Prop where
 len:∀vs H Q E,sp vs H Q E->vs.length=ps.length
 run:∀(A:Around)(outer:List Env)(s:Shared)(H:Hp)(args:Args)(us:List Value)(vs:List V)(Q:VK)(E:XK),Room k A->Env0 P w K mg base A outer s H->BindsTo s fd args (ps.zip us)->Vals vs us->sp vs H Q E->
  codeAny (model P w) A (.call (.ref f) args) (CR CX outer P w H s Q E) s
theorem Env0.make{K:PySem.W.Frag}{A:Around}(e:Env0 P w K mg base A outer s H)(C:Addr)(us:List Value)(kw:List (Str×Value)) :
  Env0 P w K mg base (A.under (.builtin "type.__call__" ⟨.ref C::us,kw⟩)) outer s H:=⟨by first|exact e.frames|(simpa [Around.under,Code.envs,Code.isFrame,pushEnvs] using e.frames),e.mod,e.bs,e.bsz,e.funs,e.frf,e.hok,e.bare,e.tk⟩
section
variable {X:Cx}{s:Shared}
theorem Inv.env0(I:Inv X pins σ H s):Env0 X.prog X.w X.K X.mg X.base X.A X.stack s H:=
 ⟨I.ok.frames,I.ok.mod,I.bs,Nat.le_trans I.ok.bsz I.sz,I.stack,I.stkFree,I.hok,I.bare,I.tk⟩
theorem Inv.after(I:Inv X pins σ H s)(h:CE X.stack X.prog X.w H s Q u s'):EP X pins σ Q u s':=by
 obtain⟨v,H',os,bare,un,hok,r,q⟩:=h;obtain⟨hh,g,d,t,os'⟩:=s';obtain⟨os,ht⟩:=os;obtain rfl:os'=s.os:=os;exact⟨v,H',I.call (h':=hh) (g':=g) (d':=d) (t':=t) (ch:=[]) un hok bare (λb z=>absurd z (by simp)),r,q⟩
end
noncomputable def Binds(K:PySem.W.Frag)(fd:FuncData)(ps:List Str)(ds:List Value):Prop:=
 ∀(s:Shared)(us:List Value),K.In s.heap->(us++ds).length=ps.length->BindsTo s fd ⟨us,[]⟩ (ps.zip (us++ds))
theorem Binds.all{K:PySem.W.Frag}{ps:List Str}(h:∀us:List Value,us.length=ps.length->bindArgs fd ⟨us,[]⟩=pure (ps.zip us)):Binds K fd ps []:=λs us _ hl=>by
 rw[List.append_nil]at hl ⊢;exact .of_eq (h us hl)
noncomputable def ye(CX:CXT)(X:Cx)(E:XK):Prop:=∀(pins:List (Addr×Obj)) (σ:St)(H:Hp)(s:Shared)(e:Value)(s':Shared),Inv X pins σ H s->CX X.stack H s E e s'->X.xe e s'
section
variable {X:Cx}{k:Nat}{ps:List Str}{x:Str}{p pos apos:Pos}{o:Expr}
structure Mk (K:PySem.W.Frag)(C f:Addr):Prop where
 makes:PySem.W.makesIn K C=true
 init:PySem.W.findIn K (.ref C) "__init__"=some (some (.ref f))
 fn:PySem.W.isFn K (.ref f)=true
 kp:PySem.W.keepIn K (.ref C)=true
end
section
variable {X:Cx}{k:Nat}{ps ks:List Str}{x:Str}{p pos apos:Pos}{o:Expr}
end
structure FnScope (N P:List Str)(sc:Scope):Prop where
 kind:sc.kind=.function
 co:sc.isCoroutine=false
 gen:sc.isGenerator=false
 nd:N.Nodup
 pre:N.take P.length=P
 par:∀x∈P,sc.names.lookup x=some .local\/sc.names.lookup x=some .cell
 nofree:∀y∈sc.names,y.2≠.free
theorem j9{kindOf:Str->Option NameKind}{x:Str}:∀{binds:List (Str×Value)}{m:Str->Option Value},(∀v,(x,v)∉binds)->bindL kindOf binds m x=m x
 |[],_,_=>rfl
 |(n,v)::r,m,h=>by
  unfold bindL;rw[j9 λw hw=>h w (List.mem_cons_of_mem _ hw)]
  split
  ·have:x≠n:=by rintro rfl;exact h v List.mem_cons_self
   simp[this]
  ·rfl
theorem ky{kindOf:Str->Option NameKind}{x:Str}:∀{binds:List (Str×Value)}{m:Str->Option Value},(∀v,(x,v)∉binds)->bindC kindOf binds m x=m x
 |[],_,_=>rfl
 |(n,v)::r,m,h=>by
  unfold bindC;rw[ky λw hw=>h w (List.mem_cons_of_mem _ hw)]
  split
  ·rfl
  ·have:x≠n:=by rintro rfl;exact h v List.mem_cons_self
   simp[this]
theorem kD{kindOf:Str->Option NameKind}{x:Str}{v:Value}:∀{P:List Str}{vs:List Value}{i:Nat}{m:Str->Option Value},P.Nodup->P[i]?=some x->vs[i]?=some v->kindOf x=some .local->
  bindL kindOf (P.zip vs) m x=some v
 |[],_,_,_,_,h,_,_=>by simp at h
 |_::_,[],_,_,_,_,h,_=>by simp at h
 |p::P,w::vs,0,m,nd,h1,h2,hk=>by
  simp at h1 h2;subst h1;subst h2;show bindL kindOf ((p,w)::P.zip vs) m p=_;unfold bindL;rw[j9 λv hv=>(List.nodup_cons.mp nd).1 (List.of_mem_zip hv).1,if_pos hk]
  simp
 |p::P,w::vs,i+1,m,nd,h1,h2,hk=>by
  show bindL kindOf ((p,w)::P.zip vs) m x=_;unfold bindL;exact kD (i:=i) (List.nodup_cons.mp nd).2 (by simpa using h1) (by simpa using h2) hk
theorem kU{kindOf:Str->Option NameKind}{x:Str}{v:Value}:∀{P:List Str}{vs:List Value}{i:Nat}{m:Str->Option Value},P.Nodup->P[i]?=some x->vs[i]?=some v->kindOf x≠some .local->
  bindC kindOf (P.zip vs) m x=some v
 |[],_,_,_,_,h,_,_=>by simp at h
 |_::_,[],_,_,_,_,h,_=>by simp at h
 |p::P,w::vs,0,m,nd,h1,h2,hk=>by
  simp at h1 h2;subst h1;subst h2;show bindC kindOf ((p,w)::P.zip vs) m p=_;unfold bindC;rw[ky λv hv=>(List.nodup_cons.mp nd).1 (List.of_mem_zip hv).1,if_neg hk]
  simp
 |p::P,w::vs,i+1,m,nd,h1,h2,hk=>by
  show bindC kindOf ((p,w)::P.zip vs) m x=_;unfold bindC;exact kU (i:=i) (List.nodup_cons.mp nd).2 (by simpa using h1) (by simpa using h2) hk
noncomputable def eU(N:List Str)(vs:List V):St:=vs.map some++List.replicate (N.length - vs.length) none
noncomputable def cR(CX:CXT)(P:Program)(w:World)(K:PySem.W.Frag)(mg:Str->Option Value)(base:Heap)(N:List Str)(qual:Str)(scope:Scope)(f:Addr)(cd:Value)(A:Around)(outer:List Env)(s:Shared)(H:Hp)(E:XK):Cx where
 prog:=P
 w:=w
 K:=K
 mg:=mg
 base:=base
 A:=A.deeper (envOfC qual scope s.heap.objs.size f cd)
 N:=N
 s₀:=s
 H₀:=H
 env:=envOfC qual scope s.heap.objs.size f cd
 outer:=outer
 stack:=envOfC qual scope s.heap.objs.size f cd::outer
 ex:=[]
 calm:=true
 fn:=λ_=>true
 pn:=[]
 xe:=λe s'=>wpAny (model P w) (A.deeper (envOfC qual scope s.heap.objs.size f cd)) (leaving (envOfC qual scope s.heap.objs.size f cd) e) (λ_ s''=>CX outer H s E e s'') (λe' s''=>CX outer H s E e' s'') s'
theorem nu{sc:Scope}(h:sc.names.lookup x=some .cell):∃c,(cellsFrom n sc.names []).lookup x=some c:=by
 have q:=PySem.W.cellsFrom_some sc.names n [] (.inl h);exact Option.isSome_iff_exists.mp q
theorem qS{K:PySem.W.Frag}{ps:List Str}{scope:Scope}{A:Around}{s:Shared}{vs:List V}
  (S:FnScope N ps scope) (hd:A.handled=none) (e0:Env0 P w K mg base A outer s H) (hl:vs.length=ps.length) (r:Vals vs us)
  (x:InCallC s s.heap.objs.size (bindL (envOfC qual scope s.heap.objs.size f cd).kindOf (ps.zip us) λ_=>none) (cellsFrom (s.heap.objs.size+1) scope.names []) (bindC (envOfC qual scope s.heap.objs.size f cd).kindOf (ps.zip us) λ_=>none) s1) :
  0 < s1.toks->Inv (cR CX P w K mg base N qual scope f cd A outer s H E) [] (eU N vs) H s1:=by
 intro htk;have hpl:ps.length<=N.length:=by have:=congrArg List.length S.pre;rw[List.length_take]at this;omega
 obtain⟨h1,tk,rfl,hk⟩:=x.done;have noA:∀b:Addr,b∉(cR CX P w K mg base N qual scope f cd A outer s H E).ex:=λb z=>absurd (show b∈([]:List Addr) from z) (by simp)
 refine⟨⟨e0.mod,S.kind,rfl,rfl,Nat.le_refl _,λy z c h1 h2=>?_,λy hy=>?_,λy c _ h=>?_,λ_=>hd,Around.frames_deeper e0.frames,.inr ⟨rfl,rfl⟩,λb z=>absurd z (noA b),e0.bs,e0.bsz,λb _ _=>noA b,λb z=>absurd z (noA b),e0.funs,e0.frf⟩,
  ⟨rfl,htk⟩,e0.bare,Un.kept hk,⟨_,x.toInCall.ns,λi y v h1 h2 h3=>?_⟩,λy c h=>⟨_,x.cell y c h⟩,e0.hok.fresh (Nat.le_refl _),λy c h=>?_,λp hp=>absurd (show p∈([]:List (Addr×Obj)) from hp) (by simp),e0.hok.kept hk,?_⟩
 ·exact name_of_addr x.apart (PySem.mem_of_lookup h1) (PySem.mem_of_lookup h2)
 ·have hy:scope.names.lookup y=some .cell\/scope.names.lookup y=some .free:=hy;rcases hy with hy|hy
  ·exact nu hy
  ·exact absurd rfl (S.nofree _ (PySem.mem_of_lookup hy))
 ·exact Nat.le_of_lt (x.above y c (PySem.mem_of_lookup h))
 ·have hi:i < vs.length:=by
   unfold eU at h2;by_cases hi:i < vs.length
   ·exact hi
   ·rw[List.getElem?_append_right (by simpa using hi)]at h2
    rw[List.getElem?_replicate]at h2;split at h2<;>cases h2
  have ha:vs[i]?=some v:=by
   unfold eU at h2;rw[List.getElem?_append_left (by simpa using hi),List.getElem?_map]at h2
   cases e:vs[i]? with
   |none=>rw[e]at h2;cases h2
   |some a=>rw[e]at h2;cases h2;rfl
  obtain⟨u,hu,rv⟩:=r.get ha;have hp:ps[i]?=some y:=by
   rw[<-S.pre,List.getElem?_take_of_lt (by omega)];exact h1
  have ndP:ps.Nodup:=by rw[<-S.pre];exact S.nd.sublist (List.take_sublist _ _)
  refine⟨u,rv,?_⟩;rcases S.par y (List.mem_of_getElem? hp) with k|k
  ·exact .inl ⟨k,kD ndP hp hu k⟩
  ·obtain⟨c,e⟩:=nu (n:=s.heap.objs.size+1) k;refine .inr ⟨.inl k,c,e,?_⟩;have q:=x.cell y c e;rw[kU ndP hp hu (by show scope.names.lookup y≠_;rw[k];decide)]at q
   exact q
 ·exact e0.hok.fresh (Nat.le_of_lt (x.above y c (PySem.mem_of_lookup h)))
 ·unfold eU;show _=N.length;rw[List.length_append,List.length_map,List.length_replicate];omega
theorem BY{CX:CXT}{P:Program}{w:World}{K:PySem.W.Frag}{mg:Str->Option Value}{base:Heap}{k:Nat}{f:Addr}{name qual:Str}{params:Arguments}{body:List Stmt}{scope:Scope}{dV kV doc pm cdv ct oc:Value}{an od:Option Addr}
  {osl:Array (Option Value)}{N ps:List Str}{sp:Sp} (lk:K.lookup f=some ⟨oc,od,.func (PySem.W.fnOf name qual params body scope dV kV doc pm an cdv ct),osl⟩) (hcd:PySem.W.codeIn K cdv qual=true) (S:FnScope N ps scope)
  (len:∀vs H Q E,sp vs H Q E->vs.length=ps.length)
  (hbody:∀(A:Around)(outer:List Env)(s:Shared)(H:Hp)(vs:List V)(Q:VK)(E:XK),Room k (A.deeper (envOfC qual scope s.heap.objs.size f cdv))->sp vs H Q E->
   ∃t,PSs (cR CX P w K mg base N qual scope f cdv A outer s H E) body t/\t {nx:=λ_ H'=>Q .non H',rt:=Q} (eU N vs) H) :
  FnOk P w K mg base CX (k+1) f (PySem.W.fnOf name qual params body scope dV kV doc pm an cdv ct) ps sp:=by
 refine⟨len,λA outer s H args us vs Q E hr e0 hb r hsp=>?_⟩
 have hl:=len _ _ _ _ hsp;have KX:K.In s.heap:=e0.mod.kin.keeps λb o e=>(e0.bs b o e).1
 have lim:s.heap.NoLimit:=e0.mod.nolimit.keeps λb o e=>(e0.bs b o e).1
 have hkind:∀y∈ps.zip us,scope.names.lookup y.1=some .local\/(scope.names.lookup y.1=some .cell/\((cellsFrom (s.heap.objs.size+1) scope.names []).lookup y.1).isSome=true):=λ⟨n,v⟩ hy=>by
  rcases S.par n (List.of_mem_zip hy).1 with q|q
  ·exact .inl q
  ·exact .inr ⟨q,PySem.W.cellsFrom_some _ _ _ (.inl q)⟩
 refine codeAny_call_function hr.depth (KX _ _ lk) rfl S.co S.gen rfl (PySem.W.codeRec_of KX hcd) (hb _ _ _ _ ?_);refine d8 e0.tk (wpAny_newFunctionEnv_cells S.kind hkind λenv he s1 x htk=>?_)
 subst he;refine⟨lim.keeps x.toInCall.keep,codeAny_func ?_⟩;obtain⟨t,ht,hq⟩:=hbody A outer s H vs Q E (hr.deeper _) hsp;have I:Inv (cR CX P w K mg base N qual scope f cdv A outer s H E) [] (eU N vs) H s1:=qS S hr.hd e0 hl r x htk;refine wpAny_mono (ht [] s1 (eU N vs) H _ I hq) (λfl s' hs=>?_) λe s' hs=>hs
 have fin:∀{σ':St}{H':Hp}{v:V}{u:Value},Inv (cR CX P w K mg base N qual scope f cdv A outer s H E) [] σ' H' s'->RelV v u->Q v H'->CE outer P w H s Q u s':=
  λ{σ' H' v u} J rv q=>⟨v,H',J.os,J.bare,J.base,J.hok,rv,q⟩
 cases fl with
 |ret u=>
  obtain⟨v,σ',H',J,rv,q⟩:=hs;exact fin J rv q
 |next=>
  obtain⟨σ',H',J,q⟩:=hs;exact fin (v:=V.non) (u:=Value.none) J rfl q
 |brk=>
  obtain⟨_,_,_,q⟩:=hs;exact False.elim q
 |cont=>
  obtain⟨_,_,_,q⟩:=hs;exact False.elim q
end L2
namespace L2
open PySem PySem.Spec PyProof.Rows
section
variable {X:Cx}{x:Str}{p pos:Pos}{id:String}
noncomputable def tCB(r:List V->Hp->VK->Prop)(t:TA):TE:=λσ H Q=>t σ H λvs H1=>r vs H1 Q
theorem dN(hc:CallR X (.builtin id) r)(hg:Gl X x)(hm:X.mg x=none)(hv:bootBuiltins x=some (.builtin id))(ha:PA X (e::es) t)(hn:x≠"__name__":=by decide)(hdb:(x == ("__debug__" : Str))=false:=by decide)
  (he:starEach (e::es) X.env=(false,eval e X.env)::starEach es X.env:=by rfl) (hpl:(backTo pos (starEach es X.env)).any (·.1)=false:=by rfl):PE X (.Call (.Name x p) (e::es) [] pos) (tCB r t):=by
 intro pins s σ H Q I h;refine wpAny_Call_Name_kw (gD I hg hm hv ?_ hn hdb);exact PyProof.Rows.callWith_builtin1 (thn (ha pos pins s σ H _ I h) λus s1 ⟨vs,H1,I1,r1,q1⟩=>hc pins s1 σ H1 vs us Q I1 r1 q1) he hpl
theorem qP(hc:CallR X (.type T) r)(hg:Gl X x)(hm:X.mg x=none)(hv:bootBuiltins x=some (.type T))(ha:PA X (e::es) t)(hn:x≠"__name__":=by decide)(hdb:(x == ("__debug__" : Str))=false:=by decide)
  (he:starEach (e::es) X.env=(false,eval e X.env)::starEach es X.env:=by rfl) (hpl:(backTo pos (starEach es X.env)).any (·.1)=false:=by rfl):PE X (.Call (.Name x p) (e::es) [] pos) (tCB r t):=by
 intro pins s σ H Q I h;refine wpAny_Call_Name_kw (gD I hg hm hv ?_ hn hdb);exact PyProof.Rows.callWith_type1 (thn (ha pos pins s σ H _ I h) λus s1 ⟨vs,H1,I1,r1,q1⟩=>hc pins s1 σ H1 vs us Q I1 r1 q1) he hpl
end
end L2
namespace L2
open PySem PySem.Spec PyProof.Rows
section
variable [DecidableEq κ]
noncomputable def dM(kvs:List (κ×V))(k:κ):Option V:=(kvs.find? λkv=>decide (kv.1=k)).map (·.2)
noncomputable def dQ(kvs:List (κ×V))(k:κ)(v:V):List (κ×V):=
 if (kvs.any λkv=>decide (kv.1=k))=true then kvs.map (λkv=>if kv.1=k then (kv.1,v) else kv) else kvs++[(k,v)]
noncomputable def wP(kvs:List (κ×V))(k:κ):List (κ×V):=kvs.filter λkv=>decide (kv.1≠k)
theorem dR{p:κ×V}(e:p.1=k):dM (p::r) k=some p.2:=by simp[dM,List.find?_cons,e]
theorem c9{p:κ×V}(e:¬ p.1=k):dM (p::r) k=dM r k:=by simp[dM,List.find?_cons,e]
theorem mL(k:κ):∀kvs:List (κ×V),(kvs.any λkv=>decide (kv.1=k))=(dM kvs k).isSome
 |[]=>rfl
 |p::r=>by
  rw[List.any_cons];by_cases e:p.1=k
  ·simp only[dR e,decide_eq_true e,Bool.true_or,Option.isSome_some]
  ·rw[c9 e,decide_eq_false e,Bool.false_or];exact mL k r
theorem gZ(kvs:List (κ×V))(k:κ)(v:V):(dQ kvs k v).length<=kvs.length+1:=by
 unfold dQ;split
 ·rw[List.length_map];omega
 ·rw[List.length_append,List.length_cons,List.length_nil];omega
theorem RelO.isSome_eq{o:Option V}{u:Option Value}(r:RelO o u):o.isSome=u.isSome:=by
 cases o with
 |none=>cases u with
  |none=>rfl
  |some _=>exact (show False from r).elim
 |some _=>cases u with
  |none=>exact (show False from r).elim
  |some _=>rfl
theorem RelO.getD{o:Option V}{u:Option Value}(r:RelO o u)(rd:RelV d d'):RelV (o.getD d) (u.getD d'):=by
 cases o with
 |none=>cases u with
  |none=>exact rd
  |some _=>exact (show False from r).elim
 |some _=>cases u with
  |none=>exact (show False from r).elim
  |some _=>exact r
theorem KV.val(r:KV kvs vs)(k:κ):RelO (dM kvs k) (valueAt vs k):=by
 unfold KV at r
 induction r with
 |nil=>exact True.intro
 |@cons p q ps qs h t ih=>
  obtain⟨h1,h2⟩:=h;by_cases e:p.1=k
  ·have e':q.1=k:=h1.symm.trans e;have b:valueAt (q::qs) k=some q.2:=by simp[valueAt,List.find?_cons,e']
   rw[dR e,b];exact h2
  ·have e':¬ q.1=k:=λz=>e (h1.trans z)
   have b:valueAt (q::qs) k=valueAt qs k:=by simp[valueAt,List.find?_cons,e']
   rw[c9 e,b];exact ih
theorem KV.any{kvs:List (κ×V)}{vs:List (κ×Value)}(r:KV kvs vs)(k:κ):(kvs.any λkv=>decide (kv.1=k))=vs.any λkv=>decide (kv.1=k):=by
 unfold KV at r
 induction r with
 |nil=>rfl
 |cons h t ih=>rw[List.any_cons,List.any_cons,ih,h.1]
theorem KV.repl{kvs:List (κ×V)}{vs:List (κ×Value)}(r:KV kvs vs)(k:κ)(ry:RelV y u) :
  KV (kvs.map λkv=>if kv.1=k then (kv.1,y) else kv) (vs.map λkv=>if kv.1=k then (kv.1,u) else kv):=by
 unfold KV at r ⊢
 induction r with
 |nil=>exact .nil
 |@cons p q ps qs h t ih=>
  rw[List.map_cons,List.map_cons];refine .cons ?_ ih;obtain⟨h1,h2⟩:=h;by_cases e:p.1=k
  ·rw[if_pos e,if_pos (h1.symm.trans e)];exact⟨h1,ry⟩
  ·rw[if_neg e,if_neg (λz=>e (h1.trans z))];exact⟨h1,h2⟩
theorem KV.put(r:KV kvs vs)(k:κ)(ry:RelV y u):KV (dQ kvs k y) (stored vs k u):=by
 unfold dQ stored;rw[r.any k];by_cases e:(vs.any λkv=>decide (kv.1=k))=true
 ·rw[if_pos e,if_pos e];exact r.repl k ry
 ·rw[if_neg e,if_neg e];exact Paired.snoc r ⟨rfl,ry⟩
theorem KV.drop(r:KV kvs vs)(k:κ):KV (wP kvs k) (without vs k):=by
 unfold KV at r ⊢;unfold wP without
 induction r with
 |nil=>exact .nil
 |@cons p q ps qs h t ih=>
  obtain⟨h1,h2⟩:=h;rw[List.filter_cons,List.filter_cons];by_cases e:p.1=k
  ·have a:¬ decide (p.1≠k)=true:=by simp[e]
   have b:¬ decide (q.1≠k)=true:=by simp[h1.symm.trans e]
   rw[if_neg a,if_neg b];exact ih
  ·have e':¬ q.1=k:=λz=>e (h1.trans z)
   have a:decide (p.1≠k)=true:=by simp[e]
   have b:decide (q.1≠k)=true:=by simp[e']
   rw[if_pos a,if_pos b];exact .cons ⟨h1,h2⟩ ih
theorem KV.keys{kvs:List (κ×V)}{vs:List (κ×Value)}(r:KV kvs vs):kvs.map (·.1)=vs.map (·.1):=by
 unfold KV at r
 induction r with
 |nil=>rfl
 |cons h t ih=>rw[List.map_cons,List.map_cons,ih,h.1]
theorem KV.length{kvs:List (κ×V)}{vs:List (κ×Value)}(r:KV kvs vs):kvs.length=vs.length:=Paired.length r
end
theorem nK(r:RelV (kV k) u):(aH P w).is k u=true:=by
 cases k with
 |inl i=>obtain⟨t,e⟩:=(show ∃t,u=Value.int i t from r);subst e;exact nA P w i t
 |inr x=>obtain⟨t,e⟩:=(show ∃t,u=Value.str x t from r);subst e;exact eD P w x t
theorem j6:∀{ks:List Key}{us:List Value},Vals (ks.map kV) us->ItemsAre (aH P w) ks us
 |[],_,r=>by rw[List.map_nil]at r;cases r;exact .nil
 |k::ks,_,r=>by
  rw[List.map_cons]at r;cases r with
  |cons h t=>exact .cons (nK h) (j6 t)
noncomputable abbrev KT(H:Hp):List (List Key×V)->List (List Key×Addr×Value)->Prop:=Paired λp q=>p.1=q.1/\H q.2.1=some (.tup (p.1.map kV))/\RelV p.2 q.2.2
theorem KT.val(r:KT H kvs xs)(k:List Key):RelO (dM kvs k) ((atKey xs k).map (·.2)):=by
 induction r with
 |nil=>exact True.intro
 |@cons p q ps qs h t ih=>
  obtain⟨h1,_,h2⟩:=h;by_cases e:p.1=k
  ·have e':q.1=k:=h1.symm.trans e;have b:atKey (q::qs) k=some q.2:=by simp[atKey,List.find?_cons,e']
   rw[dR e,b];exact h2
  ·have e':¬ q.1=k:=λz=>e (h1.trans z)
   have b:atKey (q::qs) k=atKey qs k:=by simp[atKey,List.find?_cons,e']
   rw[c9 e,b];exact ih
theorem KT.repl{kvs:List (List Key×V)}{xs:List (List Key×Addr×Value)}(r:KT H kvs xs)(k:List Key)(ry:RelV y u) :
  KT H (kvs.map λkv=>if kv.1=k then (kv.1,y) else kv) (xs.map (putAt k u)):=by
 induction r with
 |nil=>exact .nil
 |@cons p q ps qs h t ih=>
  rw[List.map_cons,List.map_cons];refine .cons ?_ ih;obtain⟨h1,h2,h3⟩:=h;unfold putAt;by_cases e:p.1=k
  ·rw[if_pos e,if_pos (h1.symm.trans e)];exact⟨h1,h2,ry⟩
  ·rw[if_neg e,if_neg (λz=>e (h1.trans z))];exact⟨h1,h2,h3⟩
theorem KT.put(r:KT H kvs xs)(k:List Key)(hb:H b=some (.tup (k.map kV)))(ry:RelV y u) :
  KT H (dQ kvs k y) (storedH xs k b u):=by
 have e:(kvs.any λkv=>decide (kv.1=k))=(atKey xs k).isSome:=by
  rw[mL,(r.val k).isSome_eq,Option.isSome_map]
 unfold dQ storedH;rw[e];by_cases q:(atKey xs k).isSome=true
 ·rw[if_pos q,if_pos q];exact r.repl k ry
 ·rw[if_neg q,if_neg q];exact Paired.snoc r ⟨rfl,hb,ry⟩
theorem KT.keeps(r:KT H kvs xs)(ht:∀b ys,H b=some (.tup ys)->H' b=some (.tup ys)):KT H' kvs xs:=
 Paired.mapP r λ_ _ z=>⟨z.1,ht _ _ z.2.1,z.2.2⟩
section
variable {w:World}{h:Heap}{a:Addr}
theorem wI(ok:HOk P w H h)(e:Rd H a u):ObjOk P w H h a u:=e.ok ok
theorem mv{kvs:List (Key×V)}(ok:HOk P w H h)(e:Rd H a (.dK kvs)):kvs.length<=sizeLine/\(a == sysModules)=false/\∃vs,KV kvs vs/\h.DictOf (aH P w) a vs:=
 show ObjOk P w H h a (.dK kvs) from wI ok e
theorem wL{kvs:List (Key×V)}(ok:HOk P w H h)(e:H a=some (.dK kvs)):kvs.length<=sizeLine/\(a == sysModules)=false/\∃vs,KV kvs vs/\h.DictOf (aH P w) a vs:=mv ok (.inl e)
theorem i3{ks:List Key}(ok:HOk P w H h)(e:H a=some (.tup (ks.map kV))):(tupleKind (aH P w)).is h ks a:=by
 obtain⟨_,its,r,o,h1,h2,n,h3⟩:=(show ObjOk P w H h a (.tup (ks.map kV)) from ok a _ e);exact⟨o,its.toArray,n,h1,h2,h3,by simpa using j6 r⟩
theorem pR{kvs:List (List Key×V)}(ok:HOk P w H h)(e:Rd H a (.dT kvs)):kvs.length<=sizeLine/\(a == sysModules)=false/\
  ∃xs,KT H kvs xs/\h.DictOfH (tupleKind (aH P w)) a xs:=by
 obtain⟨z,y,xs,r,o,es,ep,h1,h2,h3,h4,h5⟩:=(show ObjOk P w H h a (.dT kvs) from wI ok e);refine⟨z,y,xs,r,o,es,ep,h1,h2,h3,h4,λx hx=>?_,h5⟩
 have all:∀{l:List (List Key×V)}{m:List (List Key×Addr×Value)},KT H l m->∀x∈m,(tupleKind (aH P w)).is h x.1 x.2.1:=by
  intro l m q
  induction q with
  |nil=>intro x hx;exact nomatch hx
  |@cons p q ps qs hq t ih=>
   intro x hx;rcases List.mem_cons.mp hx with e|hx
   ·subst e;exact i3 ok (by rw[<-hq.1];exact hq.2.1)
   ·exact ih x hx
 exact all r x hx
theorem Bx{kvs:List (List Key×V)}(ok:HOk P w H h)(e:H a=some (.dT kvs)):kvs.length<=sizeLine/\(a == sysModules)=false/\
  ∃xs,KT H kvs xs/\h.DictOfH (tupleKind (aH P w)) a xs:=pR ok (.inl e)
end
noncomputable def DGet(H:Hp)(a:Addr)(y:V)(r:Option V):Prop:=
 (∃kvs k,Rd H a (.dK kvs)/\y=kV k/\r=dM kvs k)\/∃kvs k b,Rd H a (.dT kvs)/\y=.ref b/\H b=some (.tup (k.map kV))/\r=dM kvs k
noncomputable def DPut(H:Hp)(a:Addr)(y v:V)(H':Hp):Prop:=
 (∃kvs k,H a=some (.dK kvs)/\y=kV k/\kvs.length < sizeLine/\H'=upd H a (.dK (dQ kvs k v)))\/
 ∃kvs k b,H a=some (.dT kvs)/\y=.ref b/\H b=some (.tup (k.map kV))/\kvs.length < sizeLine/\H'=upd H a (.dT (dQ kvs k v))
theorem DGet.k{H:Hp}{a:Addr}{kvs:List (Key×V)}{k:Key}(e:H a=some (.dK kvs)):DGet H a (kV k) (dM kvs k):=.inl ⟨kvs,k,.inl e,rfl,rfl⟩
theorem DGet.t{H:Hp}{a b:Addr}{kvs:List (List Key×V)}{k:List Key}(e:H a=some (.dT kvs))(eb:H b=some (.tup (k.map kV))):DGet H a (.ref b) (dM kvs k):=.inr ⟨kvs,k,b,.inl e,rfl,eb,rfl⟩
theorem DPut.k{H:Hp}{a:Addr}{kvs:List (Key×V)}{k:Key}{v:V}(e:H a=some (.dK kvs))(hl:kvs.length < sizeLine):DPut H a (kV k) v (upd H a (.dK (dQ kvs k v))):=.inl ⟨kvs,k,e,rfl,hl,rfl⟩
theorem DPut.t{H:Hp}{a b:Addr}{kvs:List (List Key×V)}{k:List Key}{v:V}(e:H a=some (.dT kvs))(eb:H b=some (.tup (k.map kV)))(hl:kvs.length < sizeLine) :
  DPut H a (.ref b) v (upd H a (.dT (dQ kvs k v))):=.inr ⟨kvs,k,b,e,rfl,eb,hl,rfl⟩
section
variable {X:Cx}{s:Shared}{a:Addr}{y:V}{o:Option V}{A:Around}
theorem Inv.big(I:Inv X pins σ H s):sysModules < s.heap.objs.size:=by
 have h:mainGlobals < s.heap.objs.size:=(I.mod.glob.keeps I.bk).lt;exact Nat.lt_trans (by decide) h
theorem qG(hu:A.units+1 < cLine)(I:Inv X pins σ H s)(g:DGet H a y (some v))(ry:RelV y u)(h:∀w' s',Inv X pins σ H s'->RelV v w'->Q w' s') :
  wpAny (model X.prog X.w) A (getItem (.ref a) u) Q E s:=by
 rcases g with ⟨kvs,k,e,ey,l⟩|⟨kvs,k,b,e,ey,eb,l⟩
 ·subst ey;obtain⟨z,hd,vs,rel,dd⟩:=mv I.hok e;obtain⟨w',hw,rw'⟩:=RelO.some_of (v:=v) (o:=valueAt vs k) (by rw[l];exact rel.val k)
  exact wpAny_getItem_of (nK ry) dd.mapOf hw (h w' _ (I.tok _) rw')
 ·subst ey;cases (show u=Value.ref b from ry);obtain⟨z,hd,xs,rel,dd⟩:=pR I.hok e;obtain⟨w',hw,rw'⟩:=RelO.some_of (v:=v) (o:=(atKey xs k).map (·.2)) (by rw[l];exact rel.val k)
  obtain⟨p,hp,hp2⟩:=Option.map_eq_some_iff.mp hw;refine wpAny_getItem_heap (tupleKind_room_in1 hu) (i3 I.hok eb) dd hp ?_;rw[hp2];exact h w' _ (I.tok _) rw'
theorem Fo(hu:A.units+1 < cLine)(I:Inv X pins σ H s)(g:DGet H a y o)(ry:RelV y u)(h:∀s',Inv X pins σ H s'->Q (.bool o.isSome) s') :
  wpAny (model X.prog X.w) A (compareOp .In u (.ref a)) Q E s:=by
 rcases g with ⟨kvs,k,e,ey,l⟩|⟨kvs,k,b,e,ey,eb,l⟩
 ·subst ey;obtain⟨z,hd,vs,rel,dd⟩:=mv I.hok e;refine wpAny_in_of (nK ry) hd dd.mapOf ?_;rw[<-(rel.val k).isSome_eq,<-l];exact h _ (I.tok _)
 ·subst ey;cases (show u=Value.ref b from ry);obtain⟨z,hd,xs,rel,dd⟩:=pR I.hok e;refine wpAny_in_heap (tupleKind_room_in1 hu) (i3 I.hok eb) hd dd ?_;have q:=(rel.val k).isSome_eq;rw[Option.isSome_map]at q;rw[<-q,<-l];exact h _ (I.tok _)
theorem vO(hu:A.units+1 < cLine)(I:Inv X pins σ H s)(g:DGet H a y o)(ry:RelV y u)(h:∀s',Inv X pins σ H s'->Q (.bool (!o.isSome)) s') :
  wpAny (model X.prog X.w) A (compareOp .NotIn u (.ref a)) Q E s:=by
 rcases g with ⟨kvs,k,e,ey,l⟩|⟨kvs,k,b,e,ey,eb,l⟩
 ·subst ey;obtain⟨z,hd,vs,rel,dd⟩:=mv I.hok e;refine wpAny_notIn_of (nK ry) hd dd.mapOf ?_;rw[<-(rel.val k).isSome_eq,<-l];exact h _ (I.tok _)
 ·subst ey;cases (show u=Value.ref b from ry);obtain⟨z,hd,xs,rel,dd⟩:=pR I.hok e;refine wpAny_notIn_heap (tupleKind_room_in1 hu) (i3 I.hok eb) hd dd ?_;have q:=(rel.val k).isSome_eq;rw[Option.isSome_map]at q;rw[<-q,<-l];exact h _ (I.tok _)
theorem lx{h':Heap}(I:Inv X pins σ H s)(mu:Mut (H a))(hs:Heap.SameBut a s.heap h')(he:∃q,h'.get? a=some q)(new:ObjOk X.prog X.w (upd H a ob) h' a ob)(ht:0 < t':=by first|exact Nat.succ_pos _|assumption|exact Inv.tk (by assumption)|exact Env0.tk (by assumption)|exact Nat.lt_of_lt_of_le (Inv.tk (by assumption)) (Nat.le_add_right _ _)) :
  Inv X pins σ (upd H a ob) {s with heap:=h',toks:=t'}:=
 I.write (x:=a) (e:=a) mu (.inl rfl) (λb q hb z=>(hs.2 b hb).trans z) he new
theorem xr{h':Heap}{kvs:List (Key×V)}(z:kvs.length<=sizeLine)(hd:(a == sysModules)=false)(rel:KV kvs vs)(dd:h'.DictOf (aH P w) a vs) :
  ObjOk P w H' h' a (.dK kvs):=⟨z,hd,vs,rel,dd⟩
theorem qD(hu:A.units+1 < cLine)(I:Inv X pins σ H s)(g:DPut H a y v H')(ry:RelV y u)(rv:RelV v r)(h:∀s',Inv X pins σ H' s'->Q () s') :
  wpAny (model X.prog X.w) A (setItem (.ref a) u r) Q E s:=by
 rcases g with ⟨kvs,k,e,ey,l,eH⟩|⟨kvs,k,b,e,ey,eb,l,eH⟩
 ·subst ey eH;obtain⟨z,hd,vs,rel,dd⟩:=wL I.hok e;have hz:vs.length<=sizeLine:=by rw[<-rel.length];exact z
  have hl:(dQ kvs k v).length<=sizeLine:=by have:=gZ kvs k v;omega
  refine wpAny_setItem_pairs (hsz:=hz) (nK ry) dd λh' dd' hs=>h _ ?_
  have he:∃q,h'.get? a=some q:=let ⟨q,_,_,hq,_⟩:=dd';⟨q,hq⟩
  exact lx I (by rw[e];exact True.intro) hs he (xr hl hd (rel.put k rv) dd')
 ·subst ey eH;cases (show u=Value.ref b from ry);obtain⟨z,hd,xs,rel,dd⟩:=Bx I.hok e;have hz:xs.length<=sizeLine:=by rw[<-Paired.length rel];exact z
  have hl:(dQ kvs k v).length<=sizeLine:=by have:=gZ kvs k v;omega
  refine wpAny_setItem_heap (hsz:=hz) (tupleKind_room_in1 hu) (i3 I.hok eb) dd λh' dd' hs=>h _ ?_
  obtain⟨q,es,ep,hq,h2,h3,h4,_,h5⟩:=dd';refine lx I (by rw[e];exact True.intro) hs ⟨q,hq⟩ ⟨hl,hd,_,(rel.put k eb rv).keeps λc ys ec=>?_,q,es,ep,hq,h2,h3,h4,h5⟩
  rw[ad (ne_of ec e (λz=>nomatch z))]
  exact ec
end
section
variable {X:Cx}{s:Shared}{a:Addr}{kvs:List (Key×V)}{A:Around}
end
section
variable {X:Cx}{o:Expr}{pos:Pos}
end
section
variable {X:Cx}
end
structure M1 (X:Cx)(o:Expr)(m:Str)(apos:Pos)(e:Expr)(cpos:Pos):Prop where
 base:attributeBase o m X.env (eval o X.env)=eval o X.env
 few:((backTo cpos (starEach [e] X.env)).all (λx=>!x.1)&&(backToKw cpos (keywordEach [] X.env)).all (λx=>x.1.isSome)
  &&decide (([e]:List Expr).length+([]:List Keyword).length+(if ([]:List Keyword).isEmpty then 0 else 1) < 30))=true
 line:(apos.endLine == cpos.line)=true
 trees:backTo cpos (starEach [e] X.env)=[(false,eval e X.env)]
structure M2 (X:Cx)(o:Expr)(m:Str)(apos:Pos)(e f:Expr)(cpos:Pos):Prop where
 base:attributeBase o m X.env (eval o X.env)=eval o X.env
 few:((backTo cpos (starEach [e,f] X.env)).all (λx=>!x.1)&&(backToKw cpos (keywordEach [] X.env)).all (λx=>x.1.isSome)
  &&decide (([e,f]:List Expr).length+([]:List Keyword).length+(if ([]:List Keyword).isEmpty then 0 else 1) < 30))=true
 line:(apos.endLine == cpos.line)=true
 trees:backTo cpos (starEach [e,f] X.env)=[(false,eval e X.env),(false,eval f X.env)]
section
variable {X:Cx}{s:Shared}{a:Addr}{y d:V}{o:Option V}{A:Around}
end
section
variable {X:Cx}{o:Expr}
end
section
variable {X:Cx}{s:Shared}{a:Addr}{kvs:List (Key×V)}{A:Around}
end
section
variable {X:Cx}{s:Shared}{a:Addr}{y:V}{A:Around}
end
end L2
namespace HT
open PySem PyProof.Rows
section
open PySem.SeqAt
open PySem.AutoSeq1 (wpAny_loadPart')
open PySem.MeetsSeq PySem.MeetsSeq2 PySem.MeetsSeq3
end
section
variable {w:World}{A:Around}{s:Shared}
theorem cat_tup{vs ws:List Value}(ht:IsTup s.heap t vs.toArray)(hb:IsTup s.heap b ws.toArray)(hv:vs≠[])
  (h1:ws=[]->Q (.ref t) s) (h2:ws≠[]->Q (.ref s.heap.objs.size) {s with heap:=s.heap.push {cls:=.type "tuple",data:=.seq (vs++ws).toArray}})
  (hsz:vs.length+ws.length<=sizeLine):wpAny (model prog w) A (binaryOp .Add (.ref t) (.ref b)) Q E s:=by
 obtain⟨⟨cls,dd,data,sl⟩,ho,hc,n,hd⟩:=id ht;obtain⟨⟨cls2,dd2,data2,sl2⟩,ho2,hc2,n2,hd2⟩:=id hb;simp only at hc hd hc2 hd2;subst hc hd hc2 hd2;have e:vs.toArray++ws.toArray=(vs++ws).toArray:=by simp
 by_cases hw:ws=[]
 ·exact concat_meets ⟨_,ho,rfl⟩ ⟨_,ho2,rfl⟩ noFill_tuple_add seq_tuple_add PySem.F.slot_tuple_add PySem.F.entry_tuple_add (PySem.F.args_tuple_add_2 _ _)
   (tuple_addW1 t b vs.toArray ws.toArray n n2 dd dd2 sl sl2 (by simpa using hv) (by simp[hw])) ⟨ho,ho2,h1 hw⟩
 ·refine concat_meets ⟨_,ho,rfl⟩ ⟨_,ho2,rfl⟩ noFill_tuple_add seq_tuple_add PySem.F.slot_tuple_add PySem.F.entry_tuple_add (PySem.F.args_tuple_add_2 _ _)
   (tuple_addW2 t b vs.toArray ws.toArray n n2 dd dd2 sl sl2 (by simpa using hv) (by simpa using hw) (by rw[List.size_toArray,List.size_toArray];exact hsz)) ⟨ho,ho2,?_⟩
  rw[e];exact h2 hw
noncomputable def sIx(n d:Nat):Option Int->Nat
 |none=>d
 |some v=>if v < 0 then (v+(n:Int)).toNat else min v.toNat n
theorem yV(n d:Nat)(hd:d<=n)(o:Option Int):sIx n d o<=n:=by
 cases o with
 |none=>exact hd
 |some v=>
  show (if v < 0 then (v+(n:Int)).toNat else min v.toNat n)<=n
  by_cases hv:v < 0
  ·rw[if_pos hv];omega
  ·rw[if_neg hv];exact Nat.min_le_right _ _
theorem qr(v:Int)(n d:Nat):(if v < 0 then max (v+(n:Int)) 0 else min v (n:Int))=((sIx n d (some v):Nat):Int):=by
 show (if v < 0 then max (v+(n:Int)) 0 else min v (n:Int))=(((if v < 0 then (v+(n:Int)).toNat else min v.toNat n):Nat):Int)
 by_cases hv:v < 0
 ·simp only[if_pos hv];omega
 ·simp only[if_neg hv];omega
theorem oI(lo hi:Option Int)(n:Nat):Builtin.Slice.sliceAdjust lo hi 1 (n:Int)=(((sIx n 0 lo:Nat):Int),((sIx n n hi:Nat):Int)):=by
 have h1:¬ ((1:Int) < 0):=by omega
 unfold Builtin.Slice.sliceAdjust;simp only[h1,if_false];refine Prod.ext ?_ ?_
 ·cases lo with
  |none=>rfl
  |some v=>exact qr v n 0
 ·cases hi with
  |none=>rfl
  |some v=>exact qr v n n
theorem ot(i j:Nat):Builtin.Slice.slicePlaces (i:Int) (j:Int) 1=j - i:=by
 unfold Builtin.Slice.slicePlaces;have h1:(1:Int) > 0:=by omega
 simp only[h1,if_true,Int.ediv_one];split<;>omega
theorem iP(p:IsPart v o)(h:Q o s):wpAny (model prog w) A (Builtin.Slice.slicePartIndex v) Q E s:=by
 cases p with
 |none=>exact slicePart_none h
 |int i t=>exact slicePart_int h
theorem gP{sl:Addr}{vl vu:Value}{lo hi:Option Int}{n:Nat}{Q:Int×Int×Nat->Shared->Prop}(hs:s.heap.IsSliceOf sl vl vu .none)(pl:IsPart vl lo)(pu:IsPart vu hi)
  (h:Q (((sIx n 0 lo:Nat):Int),1,sIx n n hi - sIx n 0 lo) s):wpAny (model prog w) A (Builtin.Slice.sliceApplied (.ref sl) (pure (n:Int))) Q E s:=by
 obtain⟨os,hos,hcs,hds⟩:=id hs;unfold Builtin.Slice.sliceApplied Builtin.Slice.sliceFields;refine wpAny_bind (wpAny_bind (wpAny_field hos hds (x:=vl) rfl (wpAny_bind (wpAny_field hos hds (x:=vu) rfl (wpAny_bind (wpAny_field hos hds (x:=.none) rfl (wpAny_pure ?_)))))));refine wpAny_bind (slicePart_none ?_);show wpAny _ _ (if ((1:Int) == 0)=true then _ else _) _ _ s
 rw[if_neg (by decide)]
 refine wpAny_bind (iP pl (wpAny_bind (iP pu (wpAny_bind (wpAny_pure ?_)))));show wpAny _ _ (match Builtin.Slice.sliceAdjust lo hi 1 (n:Int) with|(lo,hi)=>pure (lo,(1:Int),Builtin.Slice.slicePlaces lo hi 1)) _ _ s
 rw[oI lo hi n];show wpAny _ _ (pure (((sIx n 0 lo:Nat):Int),(1:Int),Builtin.Slice.slicePlaces ((sIx n 0 lo:Nat):Int) ((sIx n n hi:Nat):Int) 1)) _ _ s;rw[ot];exact wpAny_pure h
theorem sC(xs:Array Value)(i k:Nat):((List.range k).filterMap λ(m:Nat)=>xs[((i:Int)+(m:Int) * 1).toNat]?).toArray=((xs.toList.drop i).take k).toArray:=by
 have e:(λ(m:Nat)=>xs[((i:Int)+(m:Int) * 1).toNat]?)=λm=>xs[i+m]?:=by
  funext m;have:((i:Int)+(m:Int) * 1).toNat=i+m:=by omega
  rw[this]
 rw[e];have:=pick_run xs i k;rw[List.filterMap_map]at this;have e2:((λx=>xs[x]?)∘λx=>i+x)=λm=>xs[i+m]?:=rfl
 rw[e2]at this;rw[this]
theorem getItem_tuple_cut{items:Array Value}{lo:Option Int}(ht:IsTup s.heap t items)(hs:s.heap.IsSliceOf sl vl vu .none)(pl:IsPart vl lo)(pu:IsPart vu hi)
  (hw:¬ (sIx items.size 0 lo=0/\sIx items.size items.size hi=items.size))
  (h:Q (.ref s.heap.objs.size) {s with heap:=s.heap.push {cls:=.type "tuple",data:=.seq ((items.toList.drop (sIx items.size 0 lo)).take (sIx items.size items.size hi - sIx items.size 0 lo)).toArray}})
  (hsz:items.size<=sizeLine):wpAny (model prog w) A (getItem (.ref t) (.ref sl)) Q E s:=by
 have htake:sizeOk (.seq ((items.toList.drop (sIx items.size 0 lo)).take (sIx items.size items.size hi - sIx items.size 0 lo)).toArray):=by
  show ((items.toList.drop (sIx items.size 0 lo)).take (sIx items.size items.size hi - sIx items.size 0 lo)).toArray.size<=sizeLine;rw[List.size_toArray,List.length_take,List.length_drop,Array.length_toList];omega
 have hj:sIx items.size items.size hi<=items.size:=yV _ _ (Nat.le_refl _) hi;obtain⟨os,hos,hcs,hds⟩:=id hs;have hTs:s.TypeIs (.ref sl) "slice":=⟨os,hos,hcs⟩;unfold getItem
 try with_reducible refine wpAny_holding ?_
 first|refine wpAny_bind (wpAny_pure ?_)|skip
 refine wpAny_bind (wpAny_sequenceKey ht.typeIs (by decide) ?_)
 refine wpAny_bind (wpAny_callSpecial?_slot (name:=Str.ofString "__getitem__") ht.typeIs PyProof.Rows.slot_tuple_getitem
  (wpAny_call_entry PyProof.Rows.slot_tuple_getitem ht.typeIs entry_tuple_getitem ?_ (args_tuple_getitem _ _)))
 show wpAny _ _ (Builtin.Tuple.tupleItemsOf (.ref t) >>=_) _ _ s;refine wpAny_bind (tupleItemsOf_ ht ?_);refine wpAny_bind (wpAny_typeOf hTs ?_);rw[if_pos (by decide)]
 refine wpAny_bind (gP hs pl pu ?_);have hno:¬ ((((sIx items.size 0 lo:Nat):Int) == 0&&(1:Int) == 1&&(sIx items.size items.size hi - sIx items.size 0 lo) == items.size)=true):=by
  intro q;rw[Bool.and_eq_true,Bool.and_eq_true]at q;have q1:((sIx items.size 0 lo:Nat):Int)=0:=eq_of_beq q.1.1;have q2:sIx items.size items.size hi - sIx items.size 0 lo=items.size:=eq_of_beq q.2;exact hw ⟨by omega,by omega⟩
 show wpAny _ _ (if (((sIx items.size 0 lo:Nat):Int) == 0&&(1:Int) == 1&&(sIx items.size items.size hi - sIx items.size 0 lo) == items.size)=true then _ else _) _ _ s
 rw[if_neg hno,sC]
 first
  |exact wpAny_bind (m:=Builtin.Tuple.tupleExact _) (wpAny_newObj_type (wpAny_pure ⟨_,rfl,wpAny_pure h⟩) htake)
  |exact wpAny_bind (m:=Builtin.Tuple.tupleExact _) (wpAny_newObj_type (wpAny_bind (wpAny_pure (wpAny_pure ⟨_,rfl,wpAny_pure h⟩))) htake)
  |exact wpAny_bind (wpAny_bind (m:=Builtin.Tuple.tupleExact _) (wpAny_newObj_type (wpAny_pure (wpAny_pure ⟨_,rfl,wpAny_pure h⟩)) htake))
  |exact wpAny_bind (wpAny_bind (m:=Builtin.Tuple.tupleExact _) (wpAny_newObj_type (wpAny_pure ⟨_,rfl,wpAny_pure h⟩) htake))
end
end HT
namespace L2
open PySem PySem.Spec PyProof.Rows
noncomputable abbrev TO:=St->Hp->(Option Int->Hp->Prop)->Prop
noncomputable def PO(X:Cx)(e:Option Expr)(t:TO):Prop:=
 ∀(pins:List (Addr×Obj)) (s:Shared)(σ:St)(H:Hp)(Q:Option Int->Hp->Prop),Inv X pins σ H s->t σ H Q->
  wpAny (model X.prog X.w) X.A (evalPart e X.env) (λu s'=>∃o H',Inv X pins σ H' s'/\IsPart u o/\Q o H') X.xe s
noncomputable def tNoPart:TO:=λ_ H Q=>Q none H
noncomputable def Cn(t:TE):TO:=λσ H Q=>t σ H λx H1=>∃i,x=.int i/\Q (some i) H1
theorem nW{ns:List Int}:∀{us:List Value},Vals (ns.map V.int) us->IntsAre us ns:=by
 induction ns with
 |nil=>intro us r;rw[List.map_nil]at r;cases r;exact .nil
 |cons n ns ih=>
  intro us r;rw[List.map_cons]at r;cases r with
  |cons r1 r2=>
   obtain⟨t,e⟩:=r1;subst e;exact .cons n t (ih r2)
section
variable {X:Cx}{lo:Option Expr}
theorem po_none:PO X none tNoPart:=by
 intro pins s σ H Q I h;rw[evalPart_none];exact wpAny_pure ⟨none,H,I,.none,h⟩
theorem vn(h:PE X e te):PO X (some e) (Cn te):=by
 intro pins s σ H Q I hw;rw[evalPart_some];refine thn (h pins s σ H _ I hw) λu s1 ⟨x,H1,I1,r1,q1⟩=>?_
 obtain⟨i,rfl,q⟩:=q1;obtain⟨t,rfl⟩:=r1;exact⟨some i,H1,I1,.int i t,q⟩
noncomputable def SlR(X:Cx)(r:V->Option Int->Option Int->Hp->VK->Prop):Prop:=
 ∀(pins:List (Addr×Obj)) (s:Shared)(σ:St)(H:Hp)(x:V)(v vl vu:Value)(lo hi:Option Int)(sl:Addr)(Q:VK),Inv X pins σ H s->RelV x v->s.heap.IsSliceOf sl vl vu .none->IsPart vl lo->IsPart vu hi->r x lo hi H Q->
  ∃T id,typeLookup (.type T) "__getitem__"=pure (some (.builtin id))/\s.TypeIs v T/\wpAny (model X.prog X.w) X.A (getItem v (.ref sl)) (EP X pins σ Q) X.xe s
theorem SlR.or(h:SlR X r)(h':SlR X r'):SlR X (λx lo hi H Q=>r x lo hi H Q\/r' x lo hi H Q):=by
 intro pins s σ H x v vl vu lo hi sl Q I rx hs pl pu q;rcases q with q|q
 ·exact h pins s σ H x v vl vu lo hi sl Q I rx hs pl pu q
 ·exact h' pins s σ H x v vl vu lo hi sl Q I rx hs pl pu q
noncomputable def tSl(r:V->Option Int->Option Int->Hp->VK->Prop)(te:TE)(tl th:TO):TE:=λσ H Q=>te σ H λx H1=>tl σ H1 λl H2=>th σ H2 λu H3=>r x l u H3 Q
theorem tL(hr:SlR X r)(he:PE X e te)(hl:PO X lo tl)(hu:PO X hi th):PE X (.Subscript e (.Slice lo hi none p2) pos) (tSl r te tl th):=by
 intro pins s σ H Q I h;refine Subscript_ (thn (he pins s σ H _ I h) λv s1 ⟨x,H1,I1,r1,q1⟩=>?_)
 refine wpAny_Slice (thn (hl pins s1 σ H1 _ I1 q1) λvl s2 ⟨l,H2,I2,pl,q2⟩=>thn (hu pins s2 σ H2 _ I2 q2) λvu s3 ⟨u,H3,I3,pu,q3⟩=>?_)
 rw[evalPart_none];refine wpAny_pure ?_;have I4:Inv X pins σ H3 {s3 with heap:=s3.heap.push {cls:=.type "slice",data:=.fields #[vl,vu,.none]}}:=I3.kept (t':=s3.toks) λb ob q=>Heap.get?_push_of_some _ q
 obtain⟨T,id,hT,ht,hg⟩:=hr pins {s3 with heap:=s3.heap.push {cls:=.type "slice",data:=.fields #[vl,vu,.none]}} σ H3 x v vl vu l u s3.heap.objs.size Q I4 r1 (Heap.IsSliceOf.new ..) pl pu q3
 show wpAny (model X.prog X.w) X.A (subscriptTail e (.Slice lo hi none p2) v (.ref s3.heap.objs.size)) (EP X pins σ Q) X.xe {s3 with heap:=s3.heap.push {cls:=.type "slice",data:=.fields #[vl,vu,.none]}}
 exact tail_any (ops:=[.ref s3.heap.objs.size,v]) ht hT hg (by with_unfolding_all rfl)
noncomputable def pi(xs:List V)(lo hi:Option Int):List V:=(xs.drop (HT.sIx xs.length 0 lo)).take (HT.sIx xs.length xs.length hi - HT.sIx xs.length 0 lo)
theorem hG(xs:List V)(lo hi:Option Int):(pi xs lo hi).length<=xs.length:=by
 unfold pi;rw[List.length_take,List.length_drop];omega
noncomputable def Ep(K:PySem.W.Frag):V->Option Int->Option Int->Hp->VK->Prop:=λx lo hi H Q=>∃a xs,x=.ref a/\SqT K H a xs/\
 ¬ (HT.sIx xs.length 0 lo=0/\HT.sIx xs.length xs.length hi=xs.length)/\∀p,H p=none->Q (.ref p) (upd H p (.tup (pi xs lo hi)))
theorem zY:SlR X (Ep X.K):=by
 intro pins s σ H x v vl vu lo hi sl Q I rx hs pl pu h;obtain⟨a,xs,rfl,hx,hw,q⟩:=h;cases rx;obtain⟨its,r,ht,hz⟩:=I.tuple hx;have hlen:its.toArray.size=xs.length:=by rw[List.size_toArray];exact r.length.symm
 refine⟨"tuple",_,PyProof.Rows.slot_tuple_getitem.lookup,ht.typeIs,?_⟩;refine HT.getItem_tuple_cut ht hs pl pu (by rw[hlen];exact hw) ?_ (by rw[hlen];exact hz)
 rw[hlen];refine⟨.ref s.heap.objs.size,_,I.laid (t':=s.toks) (o:=.tup (pi xs lo hi)) (λb ob q=>Heap.get?_push_of_some _ q) (Nat.le_refl _) ?_,rfl,q _ (I.hok.fresh (Nat.le_refl _))⟩
 exact⟨Nat.le_trans (hG xs lo hi) hz,_,(r.drop (HT.sIx xs.length 0 lo)).take (HT.sIx xs.length xs.length hi - HT.sIx xs.length 0 lo),IsTup.new _ _⟩
noncomputable def BK(K:PySem.W.Frag):R2:=λx y H Q=>∃a b xs ys,x=.ref a/\y=.ref b/\SqT K H a xs/\SqT K H b ys/\xs≠[]/\xs.length+ys.length<=sizeLine/\
 (ys=[]->Q (.ref a) H)/\(ys≠[]->∀p,H p=none->Q (.ref p) (upd H p (.tup (xs++ys))))
theorem Vals.nil_iff(r:Vals xs us):us=[]<->xs=[]:=by
 cases r with
 |nil=>simp
 |cons _ _=>simp
theorem v3:OpR X (binaryOp .Add) (BK X.K):=by
 intro pins s σ H x y v u Q I rx ry h;obtain⟨a,b,xs,ys,rfl,rfl,ha,hb,hx,hz,q1,q2⟩:=h;cases rx;cases ry;obtain⟨its,r1,p1,_⟩:=I.tuple ha;obtain⟨its2,r2,p2,_⟩:=I.tuple hb;refine HT.cat_tup p1 p2 (λz=>hx (r1.nil_iff.mp z)) (λz=>⟨.ref a,H,I,rfl,q1 (r2.nil_iff.mp z)⟩) (λz=>?_) (by rw[<-r1.length,<-r2.length];exact hz)
 refine⟨.ref s.heap.objs.size,_,I.laid (t':=s.toks) (o:=.tup (xs++ys)) (λb ob q=>Heap.get?_push_of_some _ q) (Nat.le_refl _) ?_,rfl,q2 (λw=>z (r2.nil_iff.mpr w)) _ (I.hok.fresh (Nat.le_refl _))⟩
 exact⟨by rw[List.length_append];exact hz,_,r1.append r2,IsTup.new _ _⟩
end
end L2
namespace L2
open PySem PySem.Spec PyProof.Rows
noncomputable def ixN(n:Nat)(i:Int):Option Nat:=if 0<=i then (if i < n then some i.toNat else none) else if -(n:Int)<=i then some (i+n).toNat else none
noncomputable def atI(xs:List α)(i:Int):Option α:=(ixN xs.length i).bind λj=>xs[j]?
theorem pJ(h:ixN n i=some j):seqIndex? i n=some j/\j < n/\-(n:Int)<=i/\i < n:=by
 unfold ixN at h;by_cases h0:0<=i
 ·rw[if_pos h0]at h;by_cases h1:i < n
  ·rw[if_pos h1]at h;have e:i.toNat=j:=Option.some.inj h;exact⟨by rw[seqIndex_of h0 h1,e],by omega,by omega,h1⟩
  ·rw[if_neg h1]at h;cases h
 ·rw[if_neg h0]at h;by_cases h1 : -(n:Int)<=i
  ·rw[if_pos h1]at h;have e:(i+n).toNat=j:=Option.some.inj h;exact⟨by rw[seqIndex_neg (by omega) h1,e],by omega,h1,by omega⟩
  ·rw[if_neg h1]at h;cases h
theorem lX{xs:List α}(h:atI xs i=some v):∃j,seqIndex? i xs.length=some j/\xs[j]?=some v/\j < xs.length/\-(xs.length:Int)<=i/\i < xs.length:=by
 unfold atI at h;cases e:ixN xs.length i with
 |none=>rw[e]at h;cases h
 |some j=>
  rw[e]at h;obtain⟨h1,h2,h3,h4⟩:=pJ e;exact⟨j,h1,h,h2,h3,h4⟩
theorem f9{α:Type}{xs:List α}{j:Nat}{v:α}(h:xs[j]?=some v):atI xs (j:Int)=some v:=by
 have hj:j < xs.length:=(List.getElem?_eq_some_iff.mp h).1;have e:ixN xs.length (j:Int)=some j:=by
  unfold ixN;rw[if_pos (by omega),if_pos (by omega)];simp
 unfold atI;rw[e];exact h
noncomputable def lJ(b:Expr):Prop:=∀o i,subscripted b false o i=operate [o,i] (getItem o i)
noncomputable def IxR(X:Cx)(r:R2):Prop:=
 ∀(value slice:Expr) (pins:List (Addr×Obj)) (s:Shared)(σ:St)(H:Hp)(x y:V)(v u:Value)(Q:VK),Inv X pins σ H s->RelV x v->RelV y u->r x y H Q->
  subscripted slice false v u=operate [v,u] (getItem v u)->wpAny (model X.prog X.w) X.A (subscriptTail value slice v u) (EP X pins σ Q) X.xe s
noncomputable def MtR(X:Cx)(id:String)(r:V->List V->Hp->VK->Prop):Prop:=
 ∀(pins:List (Addr×Obj)) (s:Shared)(σ:St)(H:Hp)(x:V)(xs:List V)(v:Value)(us:List Value)(Q:VK),Inv X pins σ H s->RelV x v->Vals xs us->r x xs H Q->
  wpAny (model X.prog X.w) X.A (call (.builtin id) (v::us)) (EP X pins σ Q) X.xe s
section
variable {X:Cx}{a:Expr}
theorem IxR.or(h:IxR X r)(h':IxR X r'):IxR X (λx y H Q=>r x y H Q\/r' x y H Q):=by
 intro value slice pins s σ H x y v u Q I rx ry q hs;rcases q with q|q
 ·exact h value slice pins s σ H x y v u Q I rx ry q hs
 ·exact h' value slice pins s σ H x y v u Q I rx ry q hs
theorem MtR.or{id:String}(h:MtR X id r)(h':MtR X id r'):MtR X id (λx xs H Q=>r x xs H Q\/r' x xs H Q):=by
 intro pins s σ H x xs v us Q I rx rs q;rcases q with q|q
 ·exact h pins s σ H x xs v us Q I rx rs q
 ·exact h' pins s σ H x xs v us Q I rx rs q
theorem AM(hr:IxR X r)(ha:PE X a ta)(hb:PE X b tb)(hs:lJ b):PE X (.Subscript a b pos) (tOp r ta tb):=by
 intro pins s σ H Q I h;exact Subscript_ (yN ha hb I h λv u s2 x y H2 I2 rx ry q=>hr a b pins s2 σ H2 x y v u Q I2 rx ry q (hs _ _))
noncomputable def Ct(K:PySem.W.Frag):R2:=λx y H Q=>∃p xs i v,x=.ref p/\y=.int i/\SqL K H p xs/\atI xs i=some v/\Q v H
noncomputable def Bg(K:PySem.W.Frag):R2:=λx y H Q=>∃p xs i v,x=.ref p/\y=.int i/\SqT K H p xs/\atI xs i=some v/\Q v H
noncomputable def rIxS:R2:=λx y H Q=>∃z i c,x=.str z/\y=.int i/\z.length<=sizeLine/\atI z.cps.toList i=some c/\Q (.str ⟨#[c]⟩) H
theorem ix_list:IxR X (Ct X.K):=by
 intro value slice pins s σ H x y v u Q I rx ry h hs;obtain⟨p,xs,i,z,rfl,rfl,hq,he,q⟩:=h;cases rx;obtain⟨t,rfl⟩:=ry;obtain⟨its,r,pl,hz⟩:=I.list hq;obtain⟨j,h1,h2,h3,h4,h5⟩:=lX he;obtain⟨w,ew,rw'⟩:=r.get h2;have hl:=r.length;have hn:=gw;have fin:EP X pins σ Q w s:=⟨z,H,I,rw',q⟩;by_cases h0:0<=i
 ·have hj:i.toNat=j:=by
   rw[seqIndex_of h0 h5]at h1;exact Option.some.inj h1
  exact item_listR pl.isList h0 (by omega) (by rw[hj];simpa using ew) fin hs
 ·have hj:(i+(its.toArray.size:Int)).toNat=j:=by
   rw[seqIndex_neg (by omega) h4]at h1
   rw[List.size_toArray,<-hl];exact Option.some.inj h1
  exact subscriptTail_builtinR (x:=w) pl.isList.typeIs slot_list_getitem.lookup
   (wpAny_getItem_list_neg (Q:=λr s'=>r=w/\EP X pins σ Q r s') pl.isList (by omega) (by rw[List.size_toArray]<;>omega) (by omega) (by rw[hj];simpa using ew) ⟨rfl,fin⟩) hs
theorem ix_tup:IxR X (Bg X.K):=by
 intro value slice pins s σ H x y v u Q I rx ry h hs;obtain⟨p,xs,i,z,rfl,rfl,hq,he,q⟩:=h;cases rx;obtain⟨t,rfl⟩:=ry;obtain⟨its,r,pl,hz⟩:=I.tuple hq;obtain⟨j,h1,h2,h3,h4,h5⟩:=lX he;obtain⟨w,ew,rw'⟩:=r.get h2;have hl:=r.length;have hn:=gw;have fin:EP X pins σ Q w s:=⟨z,H,I,rw',q⟩;exact subscriptTail_builtinR (x:=w) pl.typeIs slot_tuple_getitem.lookup
  (getItem_tuple (j:=j) (Q:=λr s'=>r=w/\EP X pins σ Q r s') pl (by omega) (by omega) (by rw[List.size_toArray,<-hl];exact h1) (by simpa using ew) ⟨rfl,fin⟩) hs
theorem xQ:IxR X rIxS:=by
 intro value slice pins s σ H x y v u Q I rx ry h hs;obtain⟨z,i,c,rfl,rfl,hz,he,q⟩:=h;obtain⟨t,rfl⟩:=rx;obtain⟨t',rfl⟩:=ry;obtain⟨j,h1,h2,h3,h4,h5⟩:=lX he;have hl:z.cps.toList.length=z.length:=by simp[Str.length]
 rw[hl]at h1 h4 h5;have hn:=gw;exact tail_any (typeIs_str s z t) slot_str_getitem.lookup (getItem_str (c:=c) (by
  have e1:decide (i < -(2 ^ 63:Int))=false:=decide_eq_false (by omega)
  have e2:decide (i>=2 ^ 63)=false:=decide_eq_false (by omega)
  rw[e1,e2,Bool.or_false]) (by rw[h1];simpa using h2) ⟨.str ⟨#[c]⟩,H,I.tok _,⟨_,rfl⟩,q⟩) hs
noncomputable def rIx(K:PySem.W.Frag):R2:=λx y H Q=>Ct K x y H Q\/Bg K x y H Q\/rIxS x y H Q
theorem Af:IxR X (rIx X.K):=ix_list.or (ix_tup.or xQ)
theorem n6(its:List Value)(n j:Nat)(u:Value):Obj.mapSeq (·.setIfInBounds j u) {cls:=.type "list",data:=.seq its.toArray n}={cls:=.type "list",data:=.seq (its.set j u).toArray n}:=by
 simp[Obj.mapSeq]
theorem Inv.lst{s:Shared}(I:Inv X pins σ H s)(h:H p=some (.lst xs)) :
  ∃(its:List Value) (n:Nat),Vals xs its/\s.heap.get? p=some {cls:=.type "list",data:=.seq its.toArray n}/\xs.length<=sizeLine:=by
 obtain⟨z,its,n,r,e⟩:=I.hok p _ h;exact⟨its,n,r,e,z⟩
theorem Inv.lstUpd{pins:List (Addr×Obj)}{σ:St}{H:Hp}{s:Shared}{p:Addr}{xs ys:List V}{its its':List Value}{n n':Nat}{f:Obj->Obj}(I:Inv X pins σ H s)(h:H p=some (.lst xs))
  (ho:s.heap.get? p=some {cls:=.type "list",data:=.seq its.toArray n}) (hf:f {cls:=.type "list",data:=.seq its.toArray n}={cls:=.type "list",data:=.seq its'.toArray n'}) (r:Vals ys its') (hz:ys.length<=sizeLine) (t:Nat) (ht:0 < t:=by first|exact Nat.succ_pos _|assumption|exact Inv.tk (by assumption)|exact Env0.tk (by assumption)|exact Nat.lt_of_lt_of_le (Inv.tk (by assumption)) (Nat.le_add_right _ _)) :
  Inv X pins σ (upd H p (.lst ys)) {s with heap:=s.heap.update p f,toks:=t}:=by
 have e:(s.heap.update p f).get? p=some {cls:=.type "list",data:=.seq its'.toArray n'}:=by
  rw[Heap.get?_update_self f ho (by rw[hf]<;>rfl),hf]
 refine I.write (x:=p) (e:=p) (by rw[h];trivial) (.inl rfl) (λb u hb q=>(Heap.get?_update_other _ _ (Ne.symm hb)).trans q) ⟨_,e⟩ ?_
 exact⟨hz,its',n',r,e⟩
noncomputable def rSetL:V->V->V->Hp->(Hp->Prop)->Prop:=λo i v H Q=>∃p xs k j,o=.ref p/\i=.int k/\H p=some (.lst xs)/\ixN xs.length k=some j/\Q (upd H p (.lst (xs.set j v)))
theorem uC:za X rSetL:=by
 intro pins s σ H o i v ov iv u Q I ro ri rv h;obtain⟨p,xs,k,j,rfl,rfl,hp,hj,q⟩:=h;cases ro;obtain⟨t,rfl⟩:=ri;obtain⟨its,n,r,ho,hz⟩:=I.lst hp;obtain⟨h1,h2,h3,h4⟩:=pJ hj;have hl:=r.length;have hn:=gw;have I':Inv X pins σ (upd H p (.lst (xs.set j v))) {s with heap:=s.heap.update p (Obj.mapSeq (·.setIfInBounds j u))}:=
  I.lstUpd hp ho (n6 its n j u) (r.set rv j) (by rw[List.length_set];exact hz) s.toks
 by_cases h0:0<=k
 ·have hk:k.toNat=j:=by
   rw[seqIndex_of h0 h4]at h1;exact Option.some.inj h1
  exact PySem.W.ki_setAt ho h0 (by omega) (by rw[List.size_toArray,<-hl];exact h4) (by rw[hk];exact⟨_,I',q⟩)
 ·have hk:(k+(its.toArray.size:Int)).toNat=j:=by
   rw[seqIndex_neg (by omega) h3]at h1
   rw[List.size_toArray,<-hl];exact Option.some.inj h1
  exact PySem.W.ki_setBack ho (by omega) (by rw[List.size_toArray,<-hl];exact h3) (by omega) (by rw[hk];exact⟨_,I',q⟩)
theorem lw(lo hi:Option Int)(n:Nat):(sliceBounds lo hi none n).1=((HT.sIx n 0 lo:Nat):Int)/\(sliceBounds lo hi none n).2.1=((HT.sIx n n hi:Nat):Int)/\(sliceBounds lo hi none n).2.2=1:=by
 refine⟨?_,?_,rfl⟩
 ·cases lo with
  |none=>simp[sliceBounds,HT.sIx]
  |some i=>
   simp only[sliceBounds,HT.sIx,Option.getD_none,show (1:Int) > 0 by decide,if_true]
   by_cases h:i < 0
   ·simp only[h,if_true]<;>omega
   ·simp only[h,if_false]<;>omega
 ·cases hi with
  |none=>simp[sliceBounds,HT.sIx]
  |some i=>
   simp only[sliceBounds,HT.sIx,Option.getD_none,show (1:Int) > 0 by decide,if_true]
   by_cases h:i < 0
   ·simp only[h,if_true]<;>omega
   ·simp only[h,if_false]<;>omega
theorem jN(its:List Value)(lo hi:Option Int):slicePick its.toArray lo hi none=((its.drop (HT.sIx its.length 0 lo)).take (HT.sIx its.length its.length hi - HT.sIx its.length 0 lo)).toArray:=by
 obtain⟨h1,h2,h3⟩:=lw lo hi its.toArray.size;unfold slicePick;rw[h1,h2,h3];simp only[sliceRange_one,pick_run,List.size_toArray]<;>rfl
theorem lI:CallR X (.builtin "len") (λxs H Q=>∃p ys,xs=[.ref p]/\(SqL X.K H p ys\/SqT X.K H p ys)/\Q (.int ys.length) H):=by
 intro pins s σ H xs us Q I r h;obtain⟨p,ys,rfl,hq,q⟩:=h;obtain⟨u,rfl,rx⟩:=eg r;cases rx;have hn:=gw;rcases hq with hq|hq
 ·obtain⟨its,r',pl,hz⟩:=I.list hq;have hlen:=r'.length;exact Calls.call_len_list pl.isList (by simp only[List.size_toArray]<;>omega) ⟨.int ys.length,H,I.tok _,⟨s.toks+1,by rw[List.size_toArray,hlen]⟩,q⟩
 ·obtain⟨its,r',pl,hz⟩:=I.tuple hq;have hlen:=r'.length;exact len_tuple pl (by simp only[List.size_toArray]<;>omega) ⟨.int ys.length,H,I.tok _,⟨s.toks+1,by rw[List.size_toArray,hlen]⟩,q⟩
theorem k9:CallR X (.builtin "len") (λxs H Q=>∃z,xs=[.str z]/\z.length<=sizeLine/\Q (.int z.length) H):=by
 intro pins s σ H xs us Q I r h;obtain⟨z,rfl,hz,q⟩:=h;obtain⟨u,rfl,t,rfl⟩:=eg r;have hn:=gw;exact len_str (by omega) ⟨.int z.length,H,I.tok _,⟨_,rfl⟩,q⟩
theorem CallR.or(h:CallR X f r)(h':CallR X f r'):CallR X f (λxs H Q=>r xs H Q\/r' xs H Q):=by
 intro pins s σ H xs us Q I rs q;rcases q with q|q
 ·exact h pins s σ H xs us Q I rs q
 ·exact h' pins s σ H xs us Q I rs q
theorem lY:CallR X (.type "list") (λxs H Q=>∃p ys,xs=[.ref p]/\(SqL X.K H p ys\/SqT X.K H p ys)/\∀l,H l=none->Q (.ref l) (upd H l (.lst ys))):=by
 intro pins s σ H xs us Q I r h;obtain⟨p,ys,rfl,hq,q⟩:=h;obtain⟨u,rfl,rx⟩:=eg r;cases rx;have fin:∀(its:List Value),Vals ys its->ys.length<=sizeLine->∀(h':Heap)(c':Nat),(∀b o',s.heap.get? b=some o'->h'.get? b=some o')->
   h'.get? s.heap.objs.size=some {cls:=.type "list",dict:=none,data:=.seq its.toArray c',slots:=#[]}->EP X pins σ Q (.ref s.heap.objs.size) {s with heap:=h'}:=λits r' hz h' c' kp e=>
  ⟨.ref s.heap.objs.size,_,I.laid (t':=s.toks) kp (Nat.le_refl _) (show ObjOk X.prog X.w _ h' _ (.lst ys) from⟨hz,its,c',r',e⟩),rfl,q _ (I.hok.fresh (Nat.le_refl _))⟩
 rcases hq with hq|hq
 ·obtain⟨its,r',pl,hz⟩:=I.list hq;have hlen:=r'.length;obtain⟨o,ho,hc,n,hd⟩:=pl.isList;exact call_list_seq p (.inl rfl) ho hc hd (λh' c' kp e=>fin its r' hz h' c' kp e) (by simp only[List.size_toArray]<;>omega)
 ·obtain⟨its,r',pl,hz⟩:=I.tuple hq;have hlen:=r'.length;obtain⟨o,ho,hc,n,hd⟩:=pl;exact call_list_seq p (.inr rfl) ho hc hd (λh' c' kp e=>fin its r' hz h' c' kp e) (by simp only[List.size_toArray]<;>omega)
noncomputable def tyV(K:PySem.W.Frag)(T:String)(x:V)(H:Hp):Prop:=match x with
 |.str _=>T = "str"
 |.int _=>T = "int"
 |.ref p=>(T = "list"/\∃xs,SqL K H p xs)\/(T = "tuple"/\∃o,K.lookup p=some o/\o.cls=.type "tuple"/\o.dict=none)\/
   (T = "dict"/\((∃kvs,H p=some (.dK kvs))\/∃kvs,H p=some (.dT kvs)))\/(T = "set"/\∃S n,H p=some (.set S n))
 |_=>False
theorem xl{s:Shared}(I:Inv X pins σ H s)(r:RelV x v)(ty:tyV X.K T x H) :
  s.TypeIs v T/\∀a,v=.ref a->∃ob,s.heap.get? a=some ob/\ob.dict=none:=by
 cases x with
 |str z=>
  obtain⟨t,rfl⟩:=r;cases (show T = "str" from ty);exact⟨typeIs_str s z t,λ_ e=>nomatch e⟩
 |int i=>
  obtain⟨t,rfl⟩:=r;cases (show T = "int" from ty);exact⟨typeIs_int s i t,λ_ e=>nomatch e⟩
 |ref p=>
  cases r;rcases ty with ⟨rfl,xs,hq⟩|⟨rfl,o,hk,hc,hd⟩|⟨rfl,hk⟩|⟨rfl,S,n,hk⟩
  ·obtain⟨its,_,pl,_⟩:=I.list hq;refine⟨pl.isList.typeIs,λa e=>?_⟩
   cases e;obtain⟨o,n,e,c,hd,_⟩:=pl;exact⟨o,e,hd⟩
  ·refine⟨⟨o,I.kIn p o hk,hc⟩,λa e=>?_⟩
   cases e;exact⟨o,I.kIn _ o hk,hd⟩
  ·have z:∃o,s.heap.get? p=some o/\o.ExactDict:=by
    rcases hk with ⟨kvs,hk⟩|⟨kvs,hk⟩
    ·obtain⟨_,_,_,_,o,_,_,e,ex,_⟩:=I.hok p _ hk;exact⟨o,e,ex⟩
    ·obtain⟨_,_,_,_,o,_,_,e,ex,_⟩:=I.hok p _ hk;exact⟨o,e,ex⟩
   obtain⟨o,e,ex⟩:=z;refine⟨⟨o,e,ex.1⟩,λa e2=>?_⟩
   cases e2;exact⟨o,e,ex.2.1⟩
  ·obtain⟨o,_,_,_,e,ex,_⟩:=I.hok p _ hk;refine⟨⟨o,e,ex.1⟩,λa e2=>?_⟩
   cases e2;exact⟨o,e,ex.2.1⟩
 |_=>exact False.elim ty
noncomputable def tBM(K:PySem.W.Frag)(T:String)(r:V->List V->Hp->VK->Prop)(to:TE)(t:TA):TE:=λσ H Q=>to σ H λx H1=>tyV K T x H1/\t σ H1 λxs H2=>r x xs H2 Q
variable {o:Expr}{id:String}
theorem B9(pa:PlainAttrs T)(slot:Slot T name id)(hty:typeOf (.builtin id)=pure (.type "method_descriptor"))(hm:MtR X id r)(ho:PE X o to)(ha:PA X (e::es) t)
  (hbase:attributeBase o name X.env (eval o X.env)=eval o X.env:=by rfl)
  (hfew:((backTo cpos (starEach (e::es) X.env)).all (λx=>!x.1)&&(backToKw cpos (keywordEach [] X.env)).all (λx=>x.1.isSome)
   &&decide ((e::es).length+([]:List Keyword).length+(if ([]:List Keyword).isEmpty then 0 else 1) < 30))=true:=by rfl)
  (hline:(apos.endLine == cpos.line)=true:=by rfl) (hs:starEach (e::es) X.env=(false,eval e X.env)::starEach es X.env:=by rfl) (hplain:(backTo cpos (starEach es X.env)).any (·.1)=false:=by rfl) :
  PE X (.Call (.Attribute o name apos) (e::es) [] cpos) (tBM X.K T r to t):=by
 intro pins s σ H Q I h;refine wpAny_Call_method_late hbase hfew hline rfl (thn (ho pins s σ H _ I h) λv s1 ⟨x,H1,I1,r1,ty,q1⟩=>?_)
 obtain⟨h1,h2⟩:=xl I1 r1 ty;refine⟨T,id,pa,slot,hty,h1,h2,?_⟩;have hA:=ha cpos pins s1 σ H1 _ I1 q1;rw[hs]at hA ⊢;refine Calls.callWith_builtin (by show (false||(backTo cpos (starEach es X.env)).any (·.1))=false;rw[hplain]<;>rfl) (Calls.evalArgs_plain ?_)
 exact thn hA λus s2 ⟨vs,H2,I2,r2,q2⟩=>hm pins s2 σ H2 x vs v us Q I2 r1 r2 q2
end
end L2
namespace L2
open PySem PySem.Spec PyProof.Rows
noncomputable def MtM(X:Cx)(id:String)(r:V->List V->Hp->VK->Prop):Prop:=
 ∀(pins:List (Addr×Obj)) (s:Shared)(σ:St)(H:Hp)(x:V)(xs:List V)(v:Value)(us:List Value)(Q:VK),Inv X pins σ H s->RelV x v->Vals xs us->r x xs H Q->
  wpAny (model X.prog X.w) X.A (call (.builtin id) (v::us)) (EP X pins σ Q) X.xe s
theorem Vals.one:∀{x:V}{us:List Value},Vals [x] us->∃u,us=[u]/\RelV x u
 |_,_,.cons r .nil=>⟨_,rfl,r⟩
theorem Vals.two:∀{x y:V}{us:List Value},Vals [x,y] us->∃u v,us=[u,v]/\RelV x u/\RelV y v
 |_,_,_,.cons r (.cons q .nil)=>⟨_,_,rfl,r,q⟩
theorem Vals.zero:∀{us:List Value},Vals [] us->us=[]
 |_,.nil=>rfl
theorem Vals.dropLast{xs:List V}{us:List Value}(h:Vals xs us):Vals xs.dropLast us.dropLast:=by
 induction h with
 |nil=>exact .nil
 |cons r t ih=>
  cases t with
  |nil=>exact .nil
  |cons q t'=>exact .cons r ih
theorem Vals.reverse{xs:List V}{us:List Value}(h:Vals xs us):Vals xs.reverse us.reverse:=by
 induction h with
 |nil=>exact .nil
 |cons r t ih=>rw[List.reverse_cons,List.reverse_cons];exact Vals.append ih (.cons r .nil)
theorem Vals.rep(h:Vals xs us):∀k:Nat,Vals (List.replicate k xs).flatten (List.replicate k us).flatten
 |0=>.nil
 |k+1=>by
  rw[List.replicate_succ,List.replicate_succ,List.flatten_cons,List.flatten_cons];exact Vals.append h (Vals.rep h k)
theorem kf(its:List Value):∀(k:Nat)(acc:List Value),
  List.foldl (λx1 x2=>x1++x2) acc.toArray (List.replicate k its.toArray)=(acc++(List.replicate k its).flatten).toArray
 |0,acc=>by simp
 |k+1,acc=>by
  have e:acc.toArray++its.toArray=(acc++its).toArray:=by simp
  have e2:(acc++its)++(List.replicate k its).flatten=acc++(List.replicate (k+1) its).flatten:=by
   rw[List.replicate_succ,List.flatten_cons,List.append_assoc]
  rw[<-e2,<-kf its k (acc++its),<-e,List.replicate_succ,List.foldl_cons]
section
variable {X:Cx}{s:Shared}{l:Addr}{xs ys:List V}
theorem Inv.lset{its its':List Value}{n:Nat}{f:Array Value->Array Value}{t':Nat}(I:Inv X pins σ H s)(hH:H l=some (.lst xs))
  (e:s.heap.get? l=some {cls:=.type "list",data:=.seq its.toArray n}) (hf:f its.toArray=its'.toArray) (hv:Vals ys its') (hz:ys.length<=sizeLine) (ht:0 < t':=by first|exact Nat.succ_pos _|assumption|exact Inv.tk (by assumption)|exact Env0.tk (by assumption)|exact Nat.lt_of_lt_of_le (Inv.tk (by assumption)) (Nat.le_add_right _ _)) :
  Inv X pins σ (upd H l (.lst ys)) {s with heap:=s.heap.update l (Obj.mapSeq f),toks:=t'}:=by
 have q:=PySem.IsL.update e f;rw[hf]at q;refine I.write (x:=l) (e:=l) (by rw[hH];exact trivial) (.inl rfl) (λb' u hb hu=>(Heap.get?_update_other s.heap (Obj.mapSeq f) (Ne.symm hb)).trans hu) ⟨_,q⟩ ?_
 exact⟨hz,its',_,hv,q⟩
theorem Inv.lnew(I:Inv X pins σ H s)(hv:Vals ys its)(hz:ys.length<=sizeLine)(ht:0 < t':=by first|exact Nat.succ_pos _|assumption|exact Inv.tk (by assumption)|exact Env0.tk (by assumption)|exact Nat.lt_of_lt_of_le (Inv.tk (by assumption)) (Nat.le_add_right _ _)) :
  Inv X pins σ (upd H s.heap.objs.size (.lst ys)) {s with heap:=s.heap.push {cls:=.type "list",data:=.seq its.toArray},toks:=t'}:=
 I.laid (λ_ _ q=>Heap.get?_push_of_some _ q) (Nat.le_refl _) ⟨hz,its,0,hv,Heap.get?_push_size _ rfl⟩
theorem Inv.fresh(I:Inv X pins σ H s):H s.heap.objs.size=none:=I.hok.fresh (Nat.le_refl _)
theorem Inv.lstM(I:Inv X pins σ H s)(hH:H l=some (.lst xs)):xs.length<=sizeLine/\∃(its:List Value) (n:Nat),Vals xs its/\xs.length=its.length/\s.heap.get? l=some {cls:=.type "list",data:=.seq its.toArray n}:=by
 obtain⟨z,its,n,r,e⟩:=I.hok l _ hH;exact⟨z,its,n,r,r.length,e⟩
theorem nH{n:Nat}(h:n<=sizeLine):Builtin.List.listTooLong n=false:=by
 unfold Builtin.List.listTooLong;exact decide_eq_false (by omega)
end
section
variable {X:Cx}
noncomputable def rAppend:V->List V->Hp->VK->Prop:=λx vs H Q=>∃l xs y,x=.ref l/\vs=[y]/\H l=some (.lst xs)/\xs.length < sizeLine/\Q .non (upd H l (.lst (xs++[y])))
theorem kA:MtM X "list.append" rAppend:=by
 intro pins s σ H x vs v us Q I rx rv h;obtain⟨l,xs,y,rfl,rfl,hH,hz,q⟩:=h;cases rx;obtain⟨u,rfl,ru⟩:=rv.one;obtain⟨z,its,n,r,hl,e⟩:=I.lstM hH;refine call_meets F.slot_list_append ⟨_,e,rfl⟩ F.entry_list_append (F.args_list_append_2 _ _) (PySem.list_append l its.toArray n u (by rw[List.size_toArray];omega)) ⟨e,?_⟩
 refine⟨.non,_,I.lset (its':=its++[u]) hH e (by simp) (r.append (.cons ru .nil)) ?_,rfl,q⟩
 rw[List.length_append,List.length_singleton];omega
theorem vc(xs:List α)(k:Nat):(List.replicate k xs).flatten.length=k * xs.length:=by
 induction k with
 |zero=>simp
 |succ k ih=>rw[List.replicate_succ,List.flatten_cons,List.length_append,ih,Nat.succ_mul,Nat.add_comm]
end
section
variable {w:World}{A:Around}{s:Shared}
set_option maxRecDepth 100000 in
end
section
variable {X:Cx}
end
end L2
namespace Att
open PySem PySem.W PySem.Calls PyProof.Rows
theorem ig:∀(ns:List Int)(vs:List Value),WellAll P h vs (ns.map WData.int)->IntsAre vs ns:=by
 intro ns
 induction ns with
 |nil=>
  intro vs w;rw[List.map_nil]at w;cases w;exact .nil
 |cons n ns ih=>
  intro vs w;rw[List.map_cons]at w;cases w with
  |cons a b=>
   cases a;exact .cons _ _ (ih _ b)
theorem script_of{l:OpenLaw}(hn:l.most=some n){h:Heap}
  (hpre:l.row.toRowW.claim.pre args=true) (hwl:WellAll P h vals args) :
  ∃a vs ns,vals=[Value.ref a]/\args=[WData.list (ns.map WData.int)]/\h.get? a=some {cls:=.type "list",data:=.seq vs.toArray}/\IntsAre vs ns/\ns.length<=n:=by
 have hsh:WShape.hasAll [] args [.list .int]=true:=(pre_splitW hpre).1;have hc:l.pre.holds [] {args:=args}=true:=(pre_splitW hpre).2;obtain⟨d,r,rfl,h1,h2⟩:=hasAllW_cons hsh;obtain rfl:=hasAllW_nil h2;obtain⟨xs,rfl,h3⟩:=hasW_list h1;obtain⟨ns,rfl⟩:=items_int h3;have hlen:ns.length<=n:=by
  unfold OpenLaw.pre at hc;have h4:(WTm.not (.lt (.lit (.int (n:Int))) (.len (.arg 0)))).holds [] {args:=[.list (ns.map .int)]}=true:=by
   have h4:=(holds_andW hc).1;rw[hn]at h4;exact h4
  have h5:=condW_of h4 (w_not (w_lt w_lit (w_len_list (w_arg rfl))));rw[List.length_map]at h5;refine Nat.le_of_not_lt λq=>?_
  have q':(n:Int) < ((ns.length:Nat):Int):=by omega
  first
   |(rw[decide_eq_true q']at h5;exact absurd h5 (by decide))
   |(simp at h5;omega)
 cases hwl with
 |cons w1 w2=>
  cases w2;cases w1 with
  |list ho hall=>exact⟨_,_,ns,rfl,rfl,ho,ig ns _ hall,hlen⟩
theorem post_true(l:OpenLaw)(args:List WData):l.row.toRowW.claim.post args (.bool true) args=true:=
 postW_of (r:=l.row.toRowW) (X:=(true == true))
  (show WShape.has [] (.bool true) .bool=true by first|rfl|decide|simp[WShape.has,WShape.arms,WShape.armsAll])
  (show (WTm.eq .res (.lit (.bool true))).value [] {args:=args,res:=some (.bool true),after:=args}=some (.bool (true == true)) from w_eq_bool (w_res rfl) w_lit) rfl
section
variable {w:World}{A:Around}{s:Shared}{K:Frag}
end
end Att
namespace L2
open PySem PySem.Spec PyProof.Rows
theorem gT:∀{vs:List Value}{ns:List Int},IntsAre vs ns->Vals (ns.map V.int) vs
 |_,_,.nil=>.nil
 |_,_,.cons n t h=>.cons ⟨t,rfl⟩ (gT h)
noncomputable def B3(H:Hp):Prop:=∀b,H b=none\/∃o xs,H b=some (.frz o (.lst xs))
theorem sk{K:PySem.W.Frag}{s₁:Shared}
  (KX:K.In s₁.heap)(hns:s₁.heap.Ns mainGlobals mg)(hb:s₁.heap.Ns builtinsNs mb) (hbb:∀x:Str,x≠"__name__"->mb x=bootBuiltins x) (hlim:s₁.heap.NoLimit) (hg:s₁.gens=#[]) (htk:0 < s₁.toks)
  (ha:s₁.heap.get? a=some {cls:=.type "list",data:=.seq vs.toArray}) (hi:IntsAre vs ns) (hl:ns.length<=sizeLine) (hr:Room k callerA)
  (F:∀base:Heap,K.In base->base.Ns mainGlobals mg->FnOk P w K mg base CX k fa fd [x] sp) (hbind:∀(s:Shared)(u:Value),BindsTo s fd ⟨[u],[]⟩ [(x,u)])
  (hsp:∀H:Hp,B3 H->SqL K H a (ns.map V.int)->sp [.ref a] H (λv _=>v=.bl true) λ_ _ _=>False)
  (hCX:∀H e s',CX [] H s₁ (λ_ _ _=>False) e s'->False) :
  codeAny (model P w) callerA (.call (.ref fa) ⟨[.ref a],[]⟩) (λr s'=>r=.ok (.ret (.bool true))/\OldK s₁.heap s'.heap/\s'.os=s₁.os/\AllBare s'.gens) s₁:=by
 have rv:=gT hi;have lenV:=hi.length;have core:∀H:Hp,B3 H->SqL K H a (ns.map V.int)->HOk P w H s₁.heap->(∀b,H b≠none->b=a)->(H a≠none->K.lookup a=none)->
   codeAny (model P w) callerA (.call (.ref fa) ⟨[.ref a],[]⟩) (λr s'=>r=.ok (.ret (.bool true))/\OldK s₁.heap s'.heap/\s'.os=s₁.os/\AllBare s'.gens) s₁:=by
  intro H hO hS hok hA hK;have base_of:∀{b:Addr}{o:Obj},s₁.heap.get? b=some o->H b=none->(lN s₁.heap H).get? b=some o:=λe n=>rS e n
  have noA:∀{b:Addr}{o:Obj}{es:Array DictEntry}{ep:Nat},s₁.heap.get? b=some o->o.data=.dict es ep->H b=none:=λ{b o es ep} e d=>by
   cases q:H b with
   |none=>rfl
   |some u=>
    have e':b=a:=hA b (by rw[q];simp)
    subst e';rw[ha]at e;cases e;have d':Data.seq vs.toArray _=Data.dict es ep:=d;cases d'
  have nsK:∀{b:Addr}{m:Str->Option Value},s₁.heap.Ns b m->(lN s₁.heap H).Ns b m:=λ{b m} ⟨o,es,ep,e,d,r⟩=>⟨o,es,ep,base_of e (noA e d),d,r⟩
  have hKb:K.In (lN s₁.heap H):=λb o e=>base_of (KX b o e) (by
   cases q:H b with
   |none=>rfl
   |some u=>
    have e':b=a:=hA b (by rw[q];simp)
    subst e';rw[hK (by rw[q];simp)]at e;cases e)
  have hM:Mod K mg (lN s₁.heap H):=⟨hKb,nsK hns,⟨mb,nsK hb,hbb⟩,let ⟨mc,h1,h2⟩:=hlim;⟨mc,nsK h1,h2⟩⟩
  have e0:Env0 P w K mg (lN s₁.heap H) callerA [] s₁ H:=⟨rfl,hM,λb o e=>uP e,Nat.le_of_eq (qB _ _),trivial,λb hb=>absurd (show b∈([]:List Addr) from hb) (by simp),hok,.of_eq hg,htk⟩
  refine codeAny_mono ((F _ hKb (nsK hns)).run callerA [] s₁ H ⟨[.ref a],[]⟩ [.ref a] [.ref a] _ _ hr e0 (hbind s₁ (.ref a)) (.cons rfl .nil) (hsp H hO hS)) λr s' h=>?_
  cases r with
  |error e=>exact (hCX H e s' h).elim
  |ok fl=>
   cases fl with
   |next=>exact False.elim h
   |brk=>exact False.elim h
   |cont=>exact False.elim h
   |ret u=>
    obtain⟨v,H',os,bare,un,hok',r',q⟩:=h;have q':v=.bl true:=q;subst q';obtain rfl:u=Value.bool true:=r';refine⟨rfl,OldK.of_keep λb o e=>?_,os.1,bare⟩
    cases q:H b with
    |none=>exact un.keep b o e q (by intro z;exact absurd (show b∈([]:List Addr) from z) (by simp)) (by simp)
    |some u=>
     rcases hO b with z|⟨ob,xs,z⟩
     ·rw[q]at z;cases z
     ·have z2:=un.frzs b ob _ z;obtain⟨e1,_⟩:=hok b _ z;obtain⟨e2,_⟩:=hok' b _ z2;rw[e]at e1;cases e1;exact e2
 cases hk:K.lookup a with
 |some o=>
  have e:=KX a o hk;rw[ha]at e;cases e;refine core (λ_=>none) (λ_=>.inl rfl) (.inr ⟨_,vs.toArray,_,hk,rfl,rfl,rfl,by rw[List.size_toArray,lenV];exact hl,by simpa using rv⟩) (λb u z=>by have z':(none:Option HO)=some u:=z;cases z') (λb z=>absurd rfl z) λz=>absurd rfl z
 |none=>
  refine core (λb=>if b=a then some (.frz {cls:=.type "list",data:=.seq vs.toArray} (.lst (ns.map V.int))) else none) (λb=>?_) (.inl (.inr ⟨{cls:=.type "list",data:=.seq vs.toArray},if_pos rfl⟩)) (λb u z=>?_) (λb z=>?_) λ_=>hk
  ·by_cases hb:b=a
   ·exact .inr ⟨_,_,if_pos hb⟩
   ·exact .inl (if_neg hb)
  ·by_cases hb:b=a
   ·have z':=(if_pos hb).symm.trans z;cases z';subst hb;exact⟨ha,by rw[List.length_map];exact hl,vs,_,rv,ha⟩
   ·have z':=(if_neg hb).symm.trans z;cases z'
  ·by_cases hb:b=a
   ·exact hb
   ·exact absurd (if_neg hb) z
end L2
namespace L2
open PySem PySem.Spec PyProof.Rows
end L2
namespace L2
open PySem PySem.Spec PyProof.Rows
noncomputable def ao(s:Stmt)(j:Nat):Stmt:=match s with
 |.ClassDef _ _ _ body _ _ _ _ _ _ _=>body.getD j (.Pass ⟨0,0,0,0⟩)
 |_=>.Pass ⟨0,0,0,0⟩
noncomputable def fN(s:Stmt):Arguments:=match s with
 |.FunctionDef _ a _ _ _ _ _ _ _ _=>a
 |_=>{posonlyargs:=[],args:=[],vararg:=none,kwonlyargs:=[],kw_defaults:=[],kwarg:=none,defaults:=[]}
noncomputable def eF(s:Stmt):List Stmt:=match s with
 |.FunctionDef _ _ b _ _ _ _ _ _ _=>b
 |_=>[]
noncomputable def bY(s:Stmt):Scope:=match s with
 |.FunctionDef _ _ _ _ _ _ sc _ _ _=>sc
 |_=>{kind:=.function,names:=[],isGenerator:=false,isCoroutine:=false}
section
variable {K:PySem.W.Frag}
end
section
variable {X:Cx}
end
section
variable {κ:Type} [DecidableEq κ]
end
end L2
namespace L2
open PySem PySem.Spec PyProof.Rows
noncomputable def DA(h:Heap)(e:Addr)(d:Option Addr):Prop:=∃o,h.get? e=some o/\o.dict=d/\mZ o
theorem jo(f:Array Value->Array Value)(o:Obj):(Obj.mapFields f o).dict=o.dict:=by
 obtain⟨c,d,x,sl⟩:=o;cases x<;>rfl
section
variable {A:Around}{s:Shared}{base:Heap}{env:Env}
theorem kZ{oe:Obj}{vs:Array Value}(hfr:A.frames=some (env::outer))(hl:s.heap.FunFrames base (env::outer))(hf:env.frame=some L)(he:s.heap.get? e=some oe)(hkb:base.StaysIn s.heap)(hen:base.get? e=none)
  (hd:oe.data=.fields vs) (hsz:1 < vs.size) (h0:vs[0]?=some a0) (hz:mZ oe) (k:∀h',Heap.NotedW base (env::outer) e oe.cls a0 (rawInt L) s.heap h'->DA h' e oe.dict->Q () {s with heap:=h'}) :
  wpAny M A (do let fr<-frameOf env;let pl<-entryPlaceOf L hadNext;let t<-EntryCells.newEntry head fr .none (rawInt L) .none pl;setField (.ref e) 1 t) Q E s:=by
 have out:e∉(env::outer).filterMap (·.frame):=λz=>by
  obtain⟨_,o,ho,nf⟩:=hl.mem z;cases he.symm.trans ho;exact nf vs hd
 refine wpAny_bind (wpAny_frameOf_fun hfr hl hf λg1 sl1=>wpAny_bind (wpAny_entryPlaceOf λpl hpl=>?_))
 unfold EntryCells.newEntry newFields;refine wpAny_bind (wpAny_newObj_type ?_ (hpl.sizeOk5 _ _ _ _ _));generalize hT:({cls:=.type "traceback",dict:=none,data:=.fields ([head,.ref L,.none,rawInt L,.none]++(if pl.isEmpty then List.replicate 6 Value.none else pl)).toArray}:Obj)=oT
 have e1:g1.get? e=some oe:=(sl1.2.1 e out).trans he;have b1:base.StaysIn g1:=λb o q=>(sl1.2.1 b λz=>by rw[(hl.mem z).1]at q;cases q).trans (hkb b o q)
 have e2:(g1.push oT).get? e=some oe:=Heap.get?_push_of_some oT e1;refine wpAny_setField e2 hd hsz (k _ ?_ ?_)
 ·have ne:g1.objs.size≠e:=Nat.ne_of_gt (Heap.lt_size e1);have d3:=Obj.data_mapFields hd (·.setIfInBounds 1 (Value.ref g1.objs.size));have e3:=Heap.get?_update_self (Obj.mapFields (·.setIfInBounds 1 (Value.ref g1.objs.size))) e2 (Obj.isFreed_of_fields d3);have t3:(g1.push oT).get? g1.objs.size=some oT:=Heap.get?_push_size g1 (by rw[<-hT];rfl)
  have t4:((g1.push oT).update e (Obj.mapFields (·.setIfInBounds 1 (Value.ref g1.objs.size)))).get? g1.objs.size=some oT:=(Heap.get?_update_other _ _ (Ne.symm ne)).trans t3;have stay:∀b o,b≠e->g1.get? b=some o->((g1.push oT).update e (Obj.mapFields (·.setIfInBounds 1 (Value.ref g1.objs.size)))).get? b=some o:=λb o n q=>
   (Heap.get?_update_other _ _ (Ne.symm n)).trans (Heap.get?_push_of_some oT q)
  have other:∀b o,s.heap.get? b=some o->(∀ws,o.data≠.fields ws)->b≠e:=λb o q nf z=>by
   subst z;cases he.symm.trans q;exact nf vs hd
  refine⟨λb o q=>stay b o (λz=>by rw[z,hen]at q;cases q) (b1 b o q),hl.of_keeps λb o q nf=>?_,⟨_,_,g1.objs.size,oT,_,e3,⟨Obj.cls_mapFields _ _,?_⟩,d3,by simp[hsz],b1.fresh,ne,t4,by rw[<-hT],?_⟩,λb o q nf=>?_⟩
  ·obtain⟨sl,z⟩:=sl1.2.2 b o q;exact⟨_,stay b _ (other b o q nf) z,rfl⟩
  ·rw[Array.getElem?_setIfInBounds_ne (by decide)];exact h0
  ·first|(simp;done)|(rcases hpl with rfl|⟨_,_,_,_,_,_,_,rfl⟩<;>simp)
  ·obtain⟨sl,z⟩:=sl1.2.2 b o q;exact⟨sl,stay b _ (other b o q nf) z⟩
 ·have d3:=Obj.data_mapFields hd (·.setIfInBounds 1 (Value.ref g1.objs.size));exact⟨_,Heap.get?_update_self (Obj.mapFields (·.setIfInBounds 1 (Value.ref g1.objs.size))) e2 (Obj.isFreed_of_fields d3),jo _ _,_,d3,by
   obtain⟨ws,e4,e5⟩:=hz;rw[hd]at e4;cases e4;rw[Array.getElem?_setIfInBounds_ne (by decide)];exact e5⟩
theorem dZ(hkb:base.StaysIn s.heap)(hl:s.heap.FunFrames base l)(ht:s.heap.TracedAtW base e cls a0 fl)(hd:DA s.heap e d)
  (k:∀h',base.StaysIn h'->h'.FunFrames base l->h'.TracedW base e cls a0->s.heap.UpToSlots h'->DA h' e d->Q () {s with heap:=h'}):wpAny M A (setFlight (.ref e) none) Q E s:=by
 obtain⟨oe,vs,T,oT,ts,he,hc,hv,h1,nT,ne,hT,dT,h3⟩:=ht;obtain⟨oe',he',hd⟩:=hd;cases he.symm.trans he';have sz:3 < ts.size:=(Array.getElem?_eq_some_iff.mp h3).1;unfold setFlight;refine wpAny_bind (wpAny_field he hv h1 ?_);rw[if_pos (by simp:(Value.ref T != Value.none)=true)]
 have oth:∀b,b≠T->(s.heap.update T (Obj.mapFields (·.setIfInBounds 3 ((none:Option Addr).elim Value.none λf=>rawInt f)))).get? b=s.heap.get? b:=λb n=>Heap.get?_update_other _ _ (Ne.symm n)
 have plain:∀b o,s.heap.get? b=some o->(∀ws,o.data≠.fields ws)->b≠T:=λb o q nf z=>by
  subst z;cases hT.symm.trans q;exact nf ts dT
 have ee:=(oth e (Ne.symm ne)).trans he;refine wpAny_setField hT dT sz (k _ (λb o q=>(oth b λz=>by rw[z,nT]at q;cases q).trans (hkb b o q)) (hl.of_keeps λb o q nf=>⟨o,(oth b (plain b o q nf)).trans q,rfl⟩) ⟨oe,vs,T,_,_,ee,hc,hv,h1,nT,ne,Heap.get?_update_self _ hT (Obj.isFreed_of_fields (Obj.data_mapFields dT _)),Obj.data_mapFields dT _,by simp[sz]⟩
  (λb o q nf=>⟨o.slots,(oth b (plain b o q nf)).trans q⟩) ⟨oe,ee,hd⟩)
theorem oj(hfr:A.frames=some (env::outer))(hf:env.frame=some L)(fl:Heap.FlyingW base (env::outer) e cls a0 s.heap)(hd:DA s.heap e d)
  (k:∀h',Heap.HeldW base (env::outer) e cls a0 L h'->s.heap.UpToSlots h'->DA h' e d->Q () {s with heap:=h'}):wpAny M A (noteFrame (.ref e) env) Q E s:=by
 obtain⟨hkb,hen,hl,oe,vs,T,oT,ts,he,⟨rfl,h0⟩,hv,h1,nT,ne,hT,dT,h3⟩:=fl;obtain⟨oe',he',rfl,hz⟩:=hd;cases he.symm.trans he';unfold noteFrame;simp only[hf];refine wpAny_bind (wpAny_field he hv h1 ?_);rw[if_pos (by simp:(Value.ref T != Value.none)=true)]
 refine wpAny_bind (wpAny_field hT dT h3 ?_);rw[if_neg (by simp[rawInt]:¬ ((Value.none == rawInt L)=true))]
 refine wpAny_bind (wpAny_setField hT dT (Array.getElem?_eq_some_iff.mp h3).1 ?_);have oth:∀b,b≠T->(s.heap.update T (Obj.mapFields (·.setIfInBounds 3 Value.none))).get? b=s.heap.get? b:=λb n=>Heap.get?_update_other _ _ (Ne.symm n)
 have plain:∀b o,s.heap.get? b=some o->(∀ws,o.data≠.fields ws)->b≠T:=λb o q nf z=>by
  subst z;cases hT.symm.trans q;exact nf ts dT
 exact kZ hfr (hl.of_keeps λb o q nf=>⟨o,(oth b (plain b o q nf)).trans q,rfl⟩) hf ((oth e (Ne.symm ne)).trans he) (λb o q=>(oth b λz=>by rw[z,nT]at q;cases q).trans (hkb b o q)) hen hv (Array.getElem?_eq_some_iff.mp h1).1 h0 hz
  λh' ⟨x1,x2,x3,x4⟩ dd=>k h' ⟨x1,hen,x2,x3⟩ (λb o q nf=>x4 b o ((oth b (plain b o q nf)).trans q) nf) dd
theorem pP(hh:Heap.HeldW base l e cls a0 L s.heap)(hd:DA s.heap e d)(k:∀h',Heap.FlyingW base l e cls a0 h'->s.heap.UpToSlots h'->DA h' e d->Q () {s with heap:=h'}):wpAny M A (setFlight (.ref e) none) Q E s:=
 dZ hh.1 hh.2.2.1 hh.2.2.2 hd λh' k1 k2 k3 k4 k5=>k h' ⟨k1,hh.2.1,k2,k3⟩ k4 k5
theorem qi(fl:Heap.FlyingW base l e cls a0 s.heap)(hd:DA s.heap e d)(k:∀h',Heap.FlyingW base l e cls a0 h'->s.heap.UpToSlots h'->DA h' e d->Q () {s with heap:=h'}):wpAny M A (setFlight (.ref e) none) Q E s:=
 dZ fl.1 fl.2.2.1 fl.2.2.2.at hd λh' k1 k2 k3 k4 k5=>k h' ⟨k1,fl.2.1,k2,k3⟩ k4 k5
theorem bG{h:Heap}(x:h.FunFrames base (env::outer)):h.FunFrames base outer:=x.2.2
theorem rN(hfr:A.frames=some (env::outer))(hf:env.frame=some L)(fl:Heap.FlyingW base (env::outer) e cls a0 s.heap)(hd:DA s.heap e d)
  (k:∀h',Heap.FlyingW base outer e cls a0 h'->s.heap.UpToSlots h'->DA h' e d->Q () {s with heap:=h'}):wpAny M A (leaving env (.ref e)) Q E s:=by
 unfold leaving;refine wpAny_bind (oj hfr hf fl hd λh1 x1 u1 d1=>pP x1 d1 λh2 x2 u2 d2=>k h2 ⟨x2.1,x2.2.1,bG x2.2.2.1,x2.2.2.2⟩ (u1.trans u2) d2)
theorem vq{oe:Obj}(hfr:A.frames=some (env::outer))(hf:env.frame=some L)(hkb:base.StaysIn s.heap)(hl:s.heap.FunFrames base (env::outer))(he:s.heap.get? e=some oe)(hen:base.get? e=none)(hv:oe.data=.fields vs)(h0:vs[0]?=some a0)(h1:vs[1]?=some .none)(h2:vs[2]?=some .none)
  (k:∀h',Heap.FlyingW base outer e oe.cls a0 h'->s.heap.UpToSlots h'->DA h' e oe.dict->Q () {s with heap:=h'}):wpAny M A (leaving env (.ref e)) Q E s:=by
 unfold leaving noteFrame;simp only[hf];refine wpAny_bind (wpAny_bind (wpAny_field he hv h1 ?_));rw[if_neg (by decide)]
 refine kZ hfr hl hf he hkb hen hv (Array.getElem?_eq_some_iff.mp h1).1 h0 ⟨vs,hv,h2⟩ λh1 x1 d1=>?_
 exact dZ x1.1 x1.2.1 x1.2.2.1 d1 λh2 k1 k2 k3 k4 k5=>k h2 ⟨k1,hen,bG k2,k3⟩ (Heap.UpToSlots.trans x1.2.2.2 k4) k5
theorem rZ(hfr:A.frames=some (env::outer))(hf:env.frame=some L)(hkb:base.StaysIn s.heap)(hen:base.get? e=none)(hl:s.heap.FunFrames base (env::outer))(ht:s.heap.TracedAtW base e cls a0 v)(hd:DA s.heap e d)
  (k:∀h',Heap.FlyingW base outer e cls a0 h'->s.heap.UpToSlots h'->DA h' e d->Q () {s with heap:=h'}):wpAny M A (leaving env (.ref e)) Q E s:=by
 by_cases hv:(v == rawInt L)=true
 ·unfold leaving;refine wpAny_bind (wpAny_noteFrame_againW hf (eq_of_beq hv▸ht) ?_);exact dZ hkb hl ht hd λh2 k1 k2 k3 k4 k5=>k h2 ⟨k1,hen,bG k2,k3⟩ k4 k5
 obtain⟨oe,vs,T,oT,ts,he,⟨rfl,h0⟩,hvs,h1,nT,ne,hT,dT,h3⟩:=ht;obtain⟨oe',he',rfl,hz⟩:=hd;cases he.symm.trans he';unfold leaving noteFrame;simp only[hf];refine wpAny_bind (wpAny_bind (wpAny_field he hvs h1 ?_));rw[if_pos (by simp:(Value.ref T != Value.none)=true)]
 refine wpAny_bind (wpAny_field hT dT h3 ?_);rw[if_neg hv];refine wpAny_bind (wpAny_setField hT dT (Array.getElem?_eq_some_iff.mp h3).1 ?_);have oth:∀b,b≠T->(s.heap.update T (Obj.mapFields (·.setIfInBounds 3 Value.none))).get? b=s.heap.get? b:=λb n=>Heap.get?_update_other _ _ (Ne.symm n)
 have plain:∀b o,s.heap.get? b=some o->(∀ws,o.data≠.fields ws)->b≠T:=λb o q nf z=>by
  subst z;cases hT.symm.trans q;exact nf ts dT
 refine kZ hfr (hl.of_keeps λb o q nf=>⟨o,(oth b (plain b o q nf)).trans q,rfl⟩) hf ((oth e (Ne.symm ne)).trans he) (λb o q=>(oth b λz=>by rw[z,nT]at q;cases q).trans (hkb b o q)) hen hvs (Array.getElem?_eq_some_iff.mp h1).1 h0 hz
  λh1 x1 d1=>dZ x1.1 x1.2.1 x1.2.2.1 d1 λh2 k1 k2 k3 k4 k5=>k h2 ⟨k1,hen,bG k2,k3⟩ (Heap.UpToSlots.trans (λb o q nf=>x1.2.2.2 b o ((oth b (plain b o q nf)).trans q) nf) k4) k5
theorem uw{oT:Obj}{T:Addr}(he:s.heap.get? e=some oe)(hv:oe.data=.fields vs)(h1:vs[1]?=some (.ref T))(hT:s.heap.get? T=some oT)(dT:oT.data=.fields ts)(sz:3 < ts.size)
  (k:∀h' oT' ts',h'.get? T=some oT'->oT'.data=.fields ts'->3 < ts'.size->(∀b,b≠T->h'.get? b=s.heap.get? b)->E (.ref e) {s with heap:=h'}):wpAny M A (PySem.passOn what (.ref e) env:Sem α) Q E s:=by
 unfold PySem.passOn setFlight;refine wpAny_bind (wpAny_field he hv h1 ?_);rw[if_neg (by simp:¬ ((Value.ref T == Value.none)=true))]
 refine wpAny_bind (wpAny_bind (wpAny_field he hv h1 ?_));rw[if_pos (by simp:(Value.ref T != Value.none)=true)]
 refine wpAny_setField hT dT sz (wpAny_throw (k _ _ _ (Heap.get?_update_self _ hT (Obj.isFreed_of_fields (Obj.data_mapFields dT _))) (Obj.data_mapFields dT _) (by simp[sz]) λb n=>Heap.get?_update_other _ _ (Ne.symm n)))
end
end L2
namespace L2
open PySem PySem.Spec PyProof.Rows
section
variable {h h':Heap}{o:HO}
theorem ObjOk.isAt(x:ObjOk P w H h a o):∃ob,h.get? a=some ob:=by
 cases o with
 |lst xs=>obtain⟨_,_,_,_,e⟩:=x;exact⟨_,e⟩
 |tup xs=>obtain⟨_,_,_,ob,e,_⟩:=x;exact⟨_,e⟩
 |dK kvs=>obtain⟨_,_,_,_,ob,_,_,e,_⟩:=x;exact⟨_,e⟩
 |dT kvs=>obtain⟨_,_,_,_,ob,_,_,e,_⟩:=x;exact⟨_,e⟩
 |set S n=>obtain⟨ob,_,_,_,e,_⟩:=x;exact⟨_,e⟩
 |ins C dx fs=>obtain⟨_,_,_,e,_⟩:=x;exact⟨_,e⟩
 |own y=>exact x
 |xd fs=>obtain⟨_,⟨ob,_,_,e,_⟩,_⟩:=x;exact⟨_,e⟩
 |rng lo hi=>obtain⟨_,_,_,e⟩:=x;exact⟨_,e⟩
 |frz ob u=>exact⟨_,x.1⟩
 |tbl ps=>exact⟨_,x⟩
 |met f y=>exact⟨_,x⟩
 |ext φ=>exact x.2.1
theorem HOk.keptT(x:HOk P w H h)(k:∀b u ob,H b=some u->h.get? b=some ob->h'.get? b=some ob):HOk P w H h':=λa o e=>
 (x a o e).stay (λb u hb q=>hb.elim (λz=>by subst z;exact k _ _ _ e q) (λz=>k _ _ _ z q)) (λ_ q=>q) λ_ _ q=>q
end
noncomputable def Fly(B:Heap)(l:List Env)(a:Addr)(cls:Value)(h:Heap):Prop:=∃a0,Heap.FlyingW B l a cls a0 h
noncomputable def Within(B:Heap)(l:List Env)(hs:Heap)(H':Hp)(h':Heap):Prop:=
 ∀b ob,h'.get? b=some ob->(H' b≠none\/((∃o',hs.get? b=some o')/\b∉frs l))->B.get? b=some ob
noncomputable def CX1(P:Program)(w:World):CXT:=λouter H s E e s'=>
 ∃(a:Addr) (cls:Value) (B:Heap) (H':Hp) (dx:Option Addr),e=.ref a/\(s'.os=s.os/\0 < s'.toks)/\AllBare s'.gens/\Un (frs outer) [] H H' s.heap s'.heap/\HOk P w H' s'.heap/\
  (Fly B outer a cls s'.heap/\DA s'.heap a dx)/\H' a=none/\Within B outer s.heap H' s'.heap/\E cls dx H'
theorem Inv.notrk{s:Shared}(I:Inv X pins σ H s)(hn:s.heap.get? e=none):H e=none:=by
 cases q:H e with
 |none=>rfl
 |some u=>
  obtain⟨ob,z⟩:=(I.hok e u q).isAt;rw[hn]at z;cases z
theorem Inv.oldNe{X:Cx}(I:Inv X pins σ H s)(q:X.s₀.heap.get? b=some o)(hb:b∉X.fs):b∉frs X.stack:=λhm=>by
 rcases List.mem_cons.mp (I.stkSub b hm) with z|z
 ·have:=Nat.lt_of_lt_of_le (Heap.lt_size q) I.ok.above;rw[z]at this;exact absurd this (Nat.lt_irrefl _)
 ·exact hb z
section
variable {K:PySem.W.Frag}{s:Shared}
theorem j7{s1:Shared}{h':Heap}{ts:List Addr}
  (I:Inv (cR (CX1 P w) P w K mg base N qual scope f cd A outer s H E) pins σ H1 s1) (hk:∀b o,s1.heap.get? b=some o->b∉ts->h'.get? b=some o) (hke:∀b∈ts,∀o,s1.heap.get? b=some o->∃vs,o.data=.fields vs) (hnt:∀b∈ts,H1 b=none) (hno:∀b∈ts,s.heap.get? b=none) (het:e∈ts)
  (lv:∀(B:Heap)(Q:Unit->Shared->Prop)(X:Value->Shared->Prop),B.StaysIn h'->h'.FunFrames B (envOfC qual scope s.heap.objs.size f cd::outer)->(∀b∈ts,B.get? b=none)->(∀h2 a0,Heap.FlyingW B outer e cls a0 h2->h'.UpToSlots h2->DA h2 e dx->Q () {s1 with heap:=h2})->
   wpAny (model P w) (cR (CX1 P w) P w K mg base N qual scope f cd A outer s H E).A (leaving (envOfC qual scope s.heap.objs.size f cd) (.ref e)) Q X {s1 with heap:=h'}) (he:E cls dx H1) :
  (cR (CX1 P w) P w K mg base N qual scope f cd A outer s H E).xe (.ref e) {s1 with heap:=h'}:=by
 have hl:s1.heap.FunFrames base (envOfC qual scope s.heap.objs.size f cd::outer):=I.stack;have hin:∀env∈(envOfC qual scope s.heap.objs.size f cd::outer),∀b,env.frame=some b->b∈ts++frs (envOfC qual scope s.heap.objs.size f cd::outer):=λenv he b hb=>List.mem_append_right _ (List.mem_filterMap.mpr ⟨env,he,hb⟩)
 have hB:∀b o,(PySem.W.hideAll s1.heap (ts++frs (envOfC qual scope s.heap.objs.size f cd::outer))).get? b=some o->s1.heap.get? b=some o/\b∉ts:=λb o q=>⟨PySem.W.of_hideAll _ q,λz=>by
  rw[PySem.W.hideAll_none _ (List.mem_append_left _ z)]at q;cases q⟩
 have hff:s1.heap.FunFrames (PySem.W.hideAll s1.heap (ts++frs (envOfC qual scope s.heap.objs.size f cd::outer))) (envOfC qual scope s.heap.objs.size f cd::outer):=PySem.W.funFrames_hide hl hin;show wpAny _ _ (leaving _ _) _ _ _;refine lv (PySem.W.hideAll s1.heap (ts++frs (envOfC qual scope s.heap.objs.size f cd::outer))) _ _ (λb o q=>hk b o (hB b o q).1 (hB b o q).2) (hff.of_keeps λb o q nf=>⟨o,hk b o q (λz=>by
  obtain⟨ws,dw⟩:=hke b z o q;exact nf ws dw),rfl⟩) (λb z=>PySem.W.hideAll_none _ (List.mem_append_left _ z)) λh2 a0 fl up dd=>?_
 have tB:∀b u ob,H1 b=some u->s1.heap.get? b=some ob->(PySem.W.hideAll s1.heap (ts++frs (envOfC qual scope s.heap.objs.size f cd::outer))).get? b=some ob:=λb u ob hb q=>
  PySem.W.hideAll_get _ q λhm=>by
   rcases List.mem_append.mp hm with z|hm
   ·rw[hnt b z]at hb;cases hb
   ·have z:=I.stkFree b hm;rw[hb]at z;cases z
 have one:∀b o,s.heap.get? b=some o->b∉ts:=λb o q z=>by rw[hno b z]at q;cases q
 have oB:∀b o ob,s.heap.get? b=some o->b∉frs outer->s1.heap.get? b=some ob->(PySem.W.hideAll s1.heap (ts++frs (envOfC qual scope s.heap.objs.size f cd::outer))).get? b=some ob:=λb o ob q hb q1=>
  PySem.W.hideAll_get _ q1 λhm=>(List.mem_append.mp hm).elim (one b o q) (I.oldNe q hb)
 have st:=fl.1;have slot:∀b o,s.heap.get? b=some o->H b=none->b∈frs outer->∃sl,h2.get? b=some {o with slots:=sl}:=λb o q n hb=>by
  obtain⟨sl,e1⟩:=I.base.slot b o q n hb (λz=>nomatch z)
  obtain⟨_,o2,e2,nf⟩:=I.ok.funs.mem hb;have e3:o2=o:=Option.some.inj (e2.symm.trans q);subst e3;obtain⟨sl2,e4⟩:=up b _ (hk _ _ e1 (one b _ q)) nf;exact⟨sl2,e4⟩
 refine⟨e,cls,_,H1,dx,rfl,I.os,I.bare,⟨λb o q n hb _=>?_,λb o q n hb _=>slot b o q n hb,λb o q n _=>I.base.free b o q n (λz=>nomatch z),λb o q _=>?_,I.base.tups,I.base.frzs,I.base.tbls⟩,?_,⟨⟨_,fl⟩,dd⟩,hnt e het,λb ob q hb=>?_,he⟩
 ·exact st b o (oB b o o q hb (I.base.keep b o q n hb (λz=>nomatch z)))
 ·by_cases hb:b∈frs outer
  ·obtain⟨sl,z⟩:=slot b o q (I.ok.frf b hb) hb;exact⟨_,z⟩
  ·obtain⟨o',e1⟩:=I.base.there b o q (λz=>nomatch z)
   exact⟨o',st b o' (oB b o o' q hb e1)⟩
 ·exact I.hok.keptT λb u ob hb q=>st b ob (tB b u ob hb q)
 ·rcases hb with hb|⟨⟨o',ho'⟩,hb⟩
  ·cases z:H1 b with
   |none=>exact absurd z hb
   |some u=>
    obtain⟨o1,e1⟩:=(I.hok b u z).isAt;have e2:=tB b u o1 z e1;have e3:o1=ob:=Option.some.inj ((st b o1 e2).symm.trans q);rw[<-e3];exact e2
  ·obtain⟨o1,e1⟩:=I.base.there b o' ho' (λz=>nomatch z)
   have e2:=oB b o' o1 ho' hb e1;have e3:o1=ob:=Option.some.inj ((st b o1 e2).symm.trans q);rw[<-e3];exact e2
theorem ko{s1:Shared}{oe:Obj}{h':Heap}
  (I:Inv (cR (CX1 P w) P w K mg base N qual scope f cd A outer s H E) pins σ H1 s1) (hk:∀b o,s1.heap.get? b=some o->b≠e->h'.get? b=some o) (hke:∀o,s1.heap.get? e=some o->∃vs,o.data=.fields vs) (hnt:H1 e=none) (hno:s.heap.get? e=none)
  (hoe:h'.get? e=some oe) (hv:oe.data=.fields vs) (hv0:vs[0]?=some a0) (hv1:vs[1]?=some .none) (hv2:vs[2]?=some .none) (he:E oe.cls oe.dict H1) :
  (cR (CX1 P w) P w K mg base N qual scope f cd A outer s H E).xe (.ref e) {s1 with heap:=h'}:=
 j7 (ts:=[e]) I (λb o q n=>hk b o q λz=>n (z▸List.mem_cons_self)) (λb hb o q=>hke o (List.mem_singleton.mp hb▸q)) (λb hb=>List.mem_singleton.mp hb▸hnt) (λb hb=>List.mem_singleton.mp hb▸hno) List.mem_cons_self
  (λB Q X st ff hn k=>vq (s:={s1 with heap:=h'}) I.ok.frames rfl st ff hoe (hn e List.mem_cons_self) hv hv0 hv1 hv2 λh2 fl up dd=>k h2 _ fl up dd) he
structure ExAt (h:Heap)(e T:Addr)(cls:Value)(dx:Option Addr):Prop where
 ex:∃oe vs oT ts a0,h.get? e=some oe/\oe.cls=cls/\oe.dict=dx/\oe.data=.fields vs/\vs[0]?=some a0/\vs[1]?=some (.ref T)/\vs[2]?=some .none/\T≠e/\h.get? T=some oT/\oT.data=.fields ts/\3 < ts.size
noncomputable def tP(X:Cx)(E:XK):Prop:=(X.stack=X.env::X.outer/\X.env.frame=some X.env.locals/\X.ex=[])/\∀(pins:List (Addr×Obj)) (σ:St)(H:Hp)(s:Shared)(e T:Addr)(cls:Value)(dx:Option Addr)(h':Heap),Inv X pins σ H s->(∀b,b≠T->h'.get? b=s.heap.get? b)->
 (∀o,s.heap.get? T=some o->∃vs,o.data=.fields vs)->ExAt h' e T cls dx->H e=none->H T=none->X.s₀.heap.get? e=none->X.s₀.heap.get? T=none->E cls dx H->X.xe (.ref e) {s with heap:=h'}
theorem Au:tP (cR (CX1 P w) P w K mg base N qual scope f cd A outer s H E) E:=⟨⟨rfl,rfl,rfl⟩,λpins σ H1 s1 e T cls dx h' I hk hT ⟨oe,vs,oT,ts,a0,e1,e2,e3,e4,e5,e6,e62,e7,e8,e9,e10⟩ h1 h2 h3 h4 he=>by
 have all:∀{p:Addr->Prop},p e->p T->∀b∈[e,T],p b:=λ{p} x y b hb=>by
  rcases List.mem_cons.mp hb with z|z
  ·rw[z];exact x
  ·rw[List.mem_singleton.mp z];exact y
 subst e2 e3;refine j7 (ts:=[e,T]) I (λb o q n=>(hk b λz=>n (by simp[z])).trans q) (all (p:=λb=>∀o,s1.heap.get? b=some o->∃vs,o.data=.fields vs) (λo q=>?_) hT) (all h1 h2) (all h3 h4) List.mem_cons_self (λB Q X st ff hn k=>?_) he
 ·rw[(hk e (Ne.symm e7)).trans q]at e1;cases e1;exact⟨vs,e4⟩
 ·exact rZ (s:={s1 with heap:=h'}) (v:=ts[3]) I.ok.frames rfl st (hn e List.mem_cons_self) ff ⟨oe,vs,T,oT,ts,e1,⟨rfl,e5⟩,e4,e6,hn T (by simp),e7,e8,e9,Array.getElem?_eq_getElem e10⟩ ⟨oe,e1,rfl,vs,e4,e62⟩ λh2 fl up dd=>k h2 _ fl up dd⟩
theorem qJ{s1:Shared}
  (I:Inv (cR (CX1 P w) P w K mg base N qual scope f cd A outer s H E) pins σ H1 s1) (hx:Heap.MadeExcOf s1.heap h' e cls args)(he:E cls none H1) :
  (cR (CX1 P w) P w K mg base N qual scope f cd A outer s H E).xe (.ref e) {s1 with heap:=h'}:=by
 obtain⟨t,e1,_,_⟩:=hx.there;refine ko I (λb o q _=>hx.keeps b o q) (λo q=>by rw[hx.new]at q;cases q) (I.notrk hx.new) ?_ e1 rfl rfl rfl rfl he
 cases q:s.heap.get? e with
 |none=>rfl
 |some o=>
  obtain⟨o1,z⟩:=I.base.there e o q (λz=>nomatch z)
  rw[hx.new]at z;cases z
theorem sh(hE:∀c d H',E' c d H'->E c d H')
  (I:Inv (cR (CX1 P w) P w K mg base N qual scope f cd A outer s H E) pins σ H1 s1) (hc:CX1 P w (envOfC qual scope s.heap.objs.size f cd::outer) H1 s1 E' e s') :
  (cR (CX1 P w) P w K mg base N qual scope f cd A outer s H E).xe e s':=by
 obtain⟨a,cls,B,H2,dx,rfl,os,bare,un,hok,⟨⟨a0,fl⟩,dd⟩,ha,inc,he⟩:=hc;have hfr:((cR (CX1 P w) P w K mg base N qual scope f cd A outer s H E).A).frames=some (envOfC qual scope s.heap.objs.size f cd::outer):=I.ok.frames;show wpAny _ _ (leaving _ _) _ _ _;refine rN hfr rfl fl dd λh2 fl2 up dd2=>?_
 have st:=fl2.1;have nil:∀b:Addr,b∉([]:List Addr):=λb z=>nomatch z
 have slot:∀b o,s.heap.get? b=some o->H b=none->b∈frs outer->∃sl,h2.get? b=some {o with slots:=sl}:=λb o q n hb=>by
  obtain⟨sl,e1⟩:=I.base.slot b o q n hb (nil b);obtain⟨sl1,e2⟩:=un.any e1 (I.base.free b o q n (nil b)) (nil b);obtain⟨_,o2,e3,nf⟩:=I.ok.funs.mem hb;have e4:o2=o:=Option.some.inj (e3.symm.trans q);subst e4;obtain⟨sl2,e5⟩:=up b _ e2 nf;exact⟨sl2,e5⟩
 have old:∀b o,s.heap.get? b=some o->b∉frs outer->∃ob,s'.heap.get? b=some ob/\B.get? b=some ob:=λb o q hb=>by
  obtain⟨o1,e1⟩:=I.base.there b o q (nil b);obtain⟨o2,e2⟩:=un.there b o1 e1 (nil b);exact⟨o2,e2,inc b o2 e2 (.inr ⟨⟨o1,e1⟩,I.oldNe q hb⟩)⟩
 refine⟨a,cls,B,H2,dx,rfl,⟨os.1.trans I.os.1,os.2⟩,bare,⟨λb o q n hb _=>?_,λb o q n hb _=>slot b o q n hb,λb o q n _=>?_,λb o q _=>?_,λb xs q=>un.tups b xs (I.base.tups b xs q),λb o u q=>un.frzs b o u (I.base.frzs b o u q),λb ps q=>?_⟩,?_,⟨⟨a0,fl2⟩,dd2⟩,ha,λb ob q hb=>?_,hE _ _ _ he⟩
 ·have e1:=I.base.keep b o q n hb (nil b);have e2:=un.keep b o e1 (I.base.free b o q n (nil b)) (I.oldNe q hb) (nil b);exact st b o (inc b o e2 (.inr ⟨⟨o,e1⟩,I.oldNe q hb⟩))
 ·obtain⟨o1,e1⟩:=I.base.there b o q (nil b);exact un.free b o1 e1 (I.base.free b o q n (nil b)) (nil b)
 ·by_cases hb:b∈frs outer
  ·obtain⟨sl,z⟩:=slot b o q (I.ok.frf b hb) hb;exact⟨_,z⟩
  ·obtain⟨ob,_,e2⟩:=old b o q hb;exact⟨ob,st b ob e2⟩
 ·obtain⟨m1,e1⟩:=I.base.tbls b ps q;obtain⟨m2,e2⟩:=un.tbls b _ e1;exact⟨m1++m2,by rw[e2,Array.append_assoc]⟩
 ·exact hok.keptT λb u ob hb q=>st b ob (inc b ob q (.inl (by rw[hb];exact λz=>nomatch z)))
 ·rcases hb with hb|⟨⟨o',ho'⟩,hb⟩
  ·cases z:H2 b with
   |none=>exact absurd z hb
   |some u=>
    obtain⟨o1,e1⟩:=(hok b u z).isAt;have e2:=inc b o1 e1 (.inl hb);have e3:o1=ob:=Option.some.inj ((st b o1 e2).symm.trans q);rw[<-e3];exact e2
  ·obtain⟨o1,e1,e2⟩:=old b o' ho' hb;have e3:o1=ob:=Option.some.inj ((st b o1 e2).symm.trans q);rw[<-e3];exact e2
theorem B4:ye (CX1 P w) (cR (CX1 P w) P w K mg base N qual scope f cd A outer s H E) E:=λ_ _ _ _ _ _ I h=>sh (λ_ _ _ z=>z) I h
theorem Fu:PassesOwn (model P w) (cR (CX1 P w) P w K mg base N qual scope f cd A outer s H E).A (cR (CX1 P w) P w K mg base N qual scope f cd A outer s H E).env (cR (CX1 P w) P w K mg base N qual scope f cd A outer s H E).xe:=
 PassesOwn.leaving
end
noncomputable def lS(X:Cx)(E:XK):Prop:=∀(pins:List (Addr×Obj)) (σ:St)(H:Hp)(s:Shared)(e:Addr)(cls:Value)(args:List Value)(h':Heap),Inv X pins σ H s->Heap.MadeExcOf s.heap h' e cls args->E cls none H->X.xe (.ref e) {s with heap:=h'}
noncomputable def qg(X:Cx)(E:XK):Prop:=∀(pins:List (Addr×Obj)) (σ:St)(H:Hp)(s:Shared)(e:Addr)(oe:Obj)(vs:Array Value)(a0:Value),Inv X pins σ H s->H e=none->X.s₀.heap.get? e=none->s.heap.get? e=some oe->oe.data=.fields vs->vs[0]?=some a0->vs[1]?=some .none->vs[2]?=some .none->E oe.cls oe.dict H->X.xe (.ref e) s
theorem su{K:PySem.W.Frag} :
  qg (cR (CX1 P w) P w K mg base N qual scope f cd A outer s H E) E:=λ_ _ _ s1 e oe vs a0 I ht h0 hoe hv v0 v1 v2 he=>ko (h':=s1.heap) I (λ_ _ q _=>q) (λo q=>by
 cases hoe.symm.trans q;exact⟨vs,hv⟩) ht h0 hoe hv v0 v1 v2 he
theorem vF{K:PySem.W.Frag} :
  lS (cR (CX1 P w) P w K mg base N qual scope f cd A outer s H E) E:=λ_ _ _ _ _ _ _ _ I hx he=>qJ I hx he
abbrev bmV:List Value:=[.type "ValueError",.type "Exception",.type "BaseException",.type "object"]
noncomputable def wg(K:PySem.W.Frag)(C:Addr):Prop:=PySem.W.excIn K C bmV "ValueError.__new__"=true
noncomputable def yD(E:XK)(C:Addr)(t:TA):TS:=λ_ σ H=>t σ H λvs H1=>vs.length<=sizeLine/\E (.ref C) none H1
theorem vj{K:PySem.W.Frag}{h:Heap}(X:K.In h)(z:PySem.W.excIn K C bmB nid=true) :
  ∃bm M nm qn bs b1 sn sb b2 co dd x0 x1 x2 x3 x5 mN,h.get? C=some (excClassObj nm qn C M bs bm b1 sn sb b2 co dd x0 x1 x2 x3 x5 nid)/\h.Ns M mN/\mN "__init__"=none/\OwnTail h bmB bm:=by
 unfold PySem.W.excIn at z;split at z
 next dd cd sl ho=>
  split at z
  next C' bm x0 x1 x2 x3 n x5 hm hs=>
   rw[Bool.and_eq_true,Bool.and_eq_true,Bool.and_eq_true,Bool.and_eq_true,Bool.and_eq_true,beq_iff_eq,beq_iff_eq,beq_iff_eq]at z;have z1:=z.1.1.1.1.1;have z2:=z.1.1.1.1.2;have z3:=z.1.1.1.2;have z4:=z.1.1.2;have z5:=z.1.2;have z6:=z.2;subst z1;subst z2;cases cd with
   |mk nm bs mro ns qn hd sn sub ab col del=>
    cases hm;cases del with
    |true=>cases z3
    |false=>
     have es:sl=#[x0,x1,x2,x3,some (.builtin n),x5]:=by
      cases sl with
      |mk l=>cases hs;rfl
     subst es;exact⟨bm,ns,nm,qn,bs,hd,sn,sub,ab,col,dd,x0,x1,x2,x3,x5,_,X _ _ ho,.of_isNs (PySem.W.isNs_of_in X z5),PySem.W.nsMap_none_of_in X z5 z6,PySem.W.tail_of_in X z4⟩
  next=>cases z
 next=>cases z
section
variable {X:Cx}
theorem rQ(hx:lS X E)(hc:X.calm=true)(hg:Gl X x)(hm:X.mg x=some (.ref C))(q:wg X.K C)(ha:PA X (e::es) t)(hdb:(x == ("__debug__" : Str))=false:=by decide)
  (he:starEach (e::es) X.env=(false,eval e X.env)::starEach es X.env:=by rfl) (hpl:(backTo cpos (starEach es X.env)).any (·.1)=false:=by rfl) :
  PS X (.Raise (some (.Call (.Name x np) (e::es) [] cpos)) none pos) (yD E C t):=by
 intro pins s σ H D I h;obtain⟨bm,M,nm,qn,bs,b1,sn,sb,b2,co,dd,x0,x1,x2,x3,x5,mN,hC,hN,hni,T⟩:=vj I.ok.mod.kin q;refine wpAny_Raise_call_subT (C:=C) (nm:=nm) (q:=qn) (N:=M) (bs:=bs) (bm:=bm) (hdct:=b1) (sn:=sn) (sub:=sb) (ab:=b2) (col:=co) (dd:=dd) (k0:=x0) (k1:=x1) (k2:=x2) (k3:=x3) (k5:=x5)
  PySem.F.excBase_ValueError (mN:=mN) (T.hasType PySem.F.excBase_ValueError.hasBase) (I.ok.hd hc) ?pl hni (bV I hg hm ⟨rfl,?_⟩ hdb)
 case pl=>
  rw[he];show (false||(backTo cpos (starEach es X.env)).any (·.1))=false
  rw[hpl];rfl
 have h2:=ha cpos pins s σ H _ I h;rw[he]at h2 ⊢;refine Calls.evalArgs_plain (thn h2 λus s2 ⟨vs,H2,I2,r,z,q2⟩=>?_)
 exact⟨rfl,by rw[<-r.length];exact z,I2.bk _ _ hC,hN.keeps I2.bk,T.keeps I2.bk,λh' a hm'=>hx pins σ H2 s2 a _ us h' I2 hm' q2⟩
end
end L2
namespace L2
open PySem PySem.Spec PyProof.Rows
noncomputable def aS(CX:CXT)(X:Cx)(E:St->XK):Prop:=∀(pins:List (Addr×Obj)) (σ:St)(H:Hp)(s:Shared)(e:Value)(s':Shared),Inv X pins σ H s->CX X.stack H s (E σ) e s'->X.xe e s'
section
variable {X:Cx}{p:Pos}{o:Expr}
end
section
variable {X:Cx}{σ:St}{s1 s':Shared}{B:Heap}
theorem Inv.behind(I:Inv X pins σ H1 s1)(os:s'.os=s1.os/\0 < s'.toks)(bare:AllBare s'.gens)(un:Un (frs X.stack) [] H1 H2 s1.heap s'.heap)(hok:HOk X.prog X.w H2 s'.heap)
  (inc:Within B X.stack s1.heap H2 s'.heap)(st:B.StaysIn h4)(up:s'.heap.UpToSlots h4):Inv X pins σ H2 {s' with heap:=h4}:=by
 have nil:∀b:Addr,b∉([]:List Addr):=λb z=>nomatch z
 have dataK:∀b o,s1.heap.get? b=some o->H1 b=none->(∀vs,o.data≠.fields vs)->∃sl,h4.get? b=some {o with slots:=sl}:=λb o q n nf=>by
  obtain⟨sl,e1⟩:=un.any q n (nil b);obtain⟨sl2,e2⟩:=up b _ e1 nf;exact⟨sl2,e2⟩
 have cellK:∀x c,X.env.cells.lookup x=some c->∀v,s1.heap.IsCell c v->h4.IsCell c v:=λx c e v ⟨o,ho,hd⟩=>by
  obtain⟨sl,z⟩:=dataK c o ho (I.freeC x c e) λvs q=>by rw[hd]at q;cases q
  exact⟨_,z,hd⟩
 refine⟨I.ok,⟨os.1.trans I.os.1,os.2⟩,bare,⟨λb o q n hb hx=>?_,λb o q n hb hx=>?_,λb o q n hx=>?_,λb o q hx=>?_,λb xs q=>un.tups b xs (I.base.tups b xs q),λb o u q=>un.frzs b o u (I.base.frzs b o u q),λb ps q=>?_⟩,?_,λx c e=>?_,?_,λx c e=>?_,λp hp=>?_,?_,I.len⟩
 ·have e1:=I.base.keep b o q n hb hx;have e2:=un.keep b o e1 (I.base.free b o q n hx) (I.oldNe q hb) (nil b);exact st b o (inc b o e2 (.inr ⟨⟨o,e1⟩,I.oldNe q hb⟩))
 ·obtain⟨sl,e1⟩:=I.base.slot b o q n hb hx;obtain⟨_,o2,e3,nf⟩:=I.ok.funs.mem hb;have e4:o2=o:=Option.some.inj (e3.symm.trans q);subst e4;obtain⟨sl2,e5⟩:=dataK b _ e1 (I.base.free b _ q n hx) nf;exact⟨sl2,e5⟩
 ·obtain⟨o1,e1⟩:=I.base.there b o q hx;exact un.free b o1 e1 (I.base.free b o q n hx) (nil b)
 ·obtain⟨o1,e1⟩:=I.base.there b o q hx;by_cases hb:b∈X.fs
  ·obtain⟨_,o2,e3,nf⟩:=I.ok.funs.mem hb;obtain⟨sl,e4⟩:=I.base.slot b o2 e3 (I.ok.frf b hb) hb hx;obtain⟨sl2,e5⟩:=dataK b _ e4 (I.base.free b _ e3 (I.ok.frf b hb) hx) nf;exact⟨_,e5⟩
  ·obtain⟨o2,e2⟩:=un.there b o1 e1 (nil b);exact⟨o2,st b o2 (inc b o2 e2 (.inr ⟨⟨o1,e1⟩,I.oldNe q hb⟩))⟩
 ·obtain⟨m1,e1⟩:=I.base.tbls b ps q;obtain⟨m2,e2⟩:=un.tbls b _ e1;exact⟨m1++m2,by rw[e2,Array.append_assoc]⟩
 ·obtain⟨m,⟨o,es,ep,ho,hd,r⟩,hl⟩:=I.loc;obtain⟨sl,z⟩:=dataK _ o ho I.free λvs q=>by rw[hd]at q;cases q
  refine⟨m,⟨_,es,ep,z,hd,r⟩,λi x v e1 e2 e3=>?_⟩
  obtain⟨u,r',l⟩:=hl i x v e1 e2 e3;refine⟨u,r',l.elim .inl λ⟨k,c,e,z⟩=>.inr ⟨k,c,e,cellK x c e _ z⟩⟩
 ·obtain⟨v,z⟩:=I.cell x c e;exact⟨v,cellK x c e v z⟩
 ·obtain⟨m,⟨o,_,_,ho,_⟩,_⟩:=I.loc;exact un.free _ o ho I.free (nil _)
 ·obtain⟨v,o,ho,_⟩:=I.cell x c e;exact un.free c o ho (I.freeC x c e) (nil _)
 ·obtain⟨e,n,ne,nf,d⟩:=I.pin p hp;have nb:p.1∉frs X.stack:=λhm=>(List.mem_cons.mp (I.stkSub _ hm)).elim ne nf
  have e2:=un.keep p.1 p.2 e n nb (nil _);exact⟨st _ _ (inc _ _ e2 (.inr ⟨⟨_,e⟩,nb⟩)),un.free p.1 p.2 e n (nil _),ne,nf,d⟩
 ·exact hok.keptT λb u ob hb q=>st b ob (inc b ob q (.inl (by rw[hb];exact λz=>nomatch z)))
theorem pV(fl:Fly B X.stack a cls s'.heap)(inc:Within B X.stack s1.heap H2 s'.heap):s1.heap.get? a=none:=by
 obtain⟨a0,f1,f2,f3,oe,vs,T,oT,ts,he,hc,hd,_⟩:=fl;cases q:s1.heap.get? a with
 |none=>rfl
 |some o=>
  have z:=inc a oe he (.inr ⟨⟨o,q⟩,λhm=>by
   obtain⟨_,o2,e2,nf⟩:=f3.mem hm;rw[he]at e2;cases e2;exact nf vs hd⟩)
  rw[f2]at z;cases z
end
noncomputable def tj(a:Addr)(cls:Value)(dx:Option Addr):HO:=.ext λh=>∃o vs,h.get? a=some o/\o.cls=cls/\o.data=.fields vs/\o.dict=dx
section
variable {X:Cx}{σ:St}{s:Shared}
theorem Inv.trackExc{o:Obj}(I:Inv X pins σ H s)(hn:H a=none)(ho:s.heap.get? a=some o)(hc:o.cls=cls)(hd:o.data=.fields vs)(hdx:o.dict=dx)(h0:X.s₀.heap.get? a=none)(hp:∀p∈X.pn++pins,p.1≠a) :
  Inv X pins σ (upd H a (.frz o (tj a cls dx))) s:=by
 have ne:∀b u,H b=some u->b≠a:=λb u q=>aE q hn
 have nL:X.env.locals≠a:=λz=>by
  obtain⟨m,⟨o',_,_,ho',hd',_⟩,_⟩:=I.loc;rw[z,ho]at ho';cases ho';rw[hd]at hd';cases hd'
 have nC:∀x c,X.env.cells.lookup x=some c->c≠a:=λx c e z=>by
  obtain⟨v,o',ho',hd'⟩:=I.cell x c e;rw[z,ho]at ho';cases ho';rw[hd]at hd';cases hd'
 refine⟨I.ok,I.os,I.bare,⟨I.base.keep,I.base.slot,λb o' q n hx=>?_,I.base.there,λb xs q=>?_,λb o' u q=>?_,λb ps q=>?_⟩,I.loc,I.cell,?_,λx c e=>?_,λp hp'=>?_,λb u q=>?_,I.len⟩
 ·rw[ad λz=>by rw[z,h0]at q;cases q]
  exact I.base.free b o' q n hx
 ·have z:=I.base.tups b xs q;rw[ad (ne _ _ z)];exact z
 ·have z:=I.base.frzs b o' u q;rw[ad (ne _ _ z)];exact z
 ·obtain⟨m,z⟩:=I.base.tbls b ps q;exact⟨m,by rw[ad (ne _ _ z)];exact z⟩
 ·rw[ad nL];exact I.free
 ·rw[ad (nC x c e)];exact I.freeC x c e
 ·obtain⟨e,n,r⟩:=I.pin p hp';exact⟨e,by rw[ad (hp p hp')];exact n,r⟩
 ·by_cases hb:b=a
  ·subst hb;rw[ae]at q;cases q;exact⟨ho,⟨o,vs,ho,hc,hd,hdx⟩,⟨o,ho⟩,λh1 h2 ⟨o1,vs1,e1,e2,e3⟩ k=>⟨o1,vs1,k _ e1,e2,e3⟩⟩
  ·rw[ad hb]at q;exact (I.hok b u q).stay (λ_ _ _ z=>z) (λc z=>by rw[ad (ne _ _ z)];exact z) λc xs z=>by rw[ad (ne _ _ z)];exact z
theorem Inv.goes{h':Heap}(hi:X.N[i]?=some n)(hN:X.N.Nodup)(I:Inv X pins σ H s)(hm:s.heap.Ns X.env.locals m)
  (hl:∀(j:Nat)(x:Str)(w:V),X.N[j]?=some x->σ[j]?=some (some w)->Vis X.env.scope x->∃u,RelV w u/\Cm X.env s.heap m x u)
  (hn:h'.Ns X.env.locals (λx=>if x=n then v else m x)) (hs:Heap.SameBut X.env.locals s.heap h') (ht:0 < t':=by first|exact Nat.succ_pos _|assumption|exact Inv.tk (by assumption)|exact Env0.tk (by assumption)|exact Nat.lt_of_lt_of_le (Inv.tk (by assumption)) (Nat.le_add_right _ _)):Inv X pins (σ.set i none) H {s with heap:=h',toks:=t'}:=by
 obtain⟨oL,_,_,hoL,_⟩:=id hm;have old:∀b o,X.s₀.heap.get? b=some o->h'.get? b=s.heap.get? b:=λb o e=>hs.2 b (Nat.ne_of_lt (Nat.lt_of_lt_of_le (Heap.lt_size e) I.ok.above))
 refine⟨I.ok,⟨I.os.1,ht⟩,I.bare,⟨λb o q n hb hx=>(old b o q).trans (I.base.keep b o q n hb hx),λb o q n hb hx=>?_,I.base.free,λb o q hx=>?_,I.base.tups,I.base.frzs,I.base.tbls⟩,⟨_,hn,λj y w e1 e2 e3=>?_⟩,λy c e=>?_,I.free,I.freeC,λp hp=>?_,λb u q=>?_,by rw[List.length_set];exact I.len⟩
 ·obtain⟨sl,z⟩:=I.base.slot b o q n hb hx;exact⟨sl,(old b o q).trans z⟩
 ·obtain⟨o',z⟩:=I.base.there b o q hx;exact⟨o',(old b o q).trans z⟩
 ·have hj:j≠i:=λz=>by
   subst z;rw[List.getElem?_set_self']at e2;cases q:σ[j]? with
   |none=>rw[q]at e2;cases e2
   |some r=>rw[q]at e2;cases e2
  rw[List.getElem?_set_ne (Ne.symm hj)]at e2;obtain⟨u,r,l⟩:=hl j y w e1 e2 e3;refine⟨u,r,?_⟩;rcases l with ⟨k,e⟩|⟨k,c,e,z⟩
  ·refine .inl ⟨k,?_⟩;have:y≠n:=λe=>hj (iJ hN e1 (e▸hi))
   show (if y=n then v else m y)=some u
   rw[if_neg this];exact e
  ·exact .inr ⟨k,c,e,z.sameBut hs (I.cne y c e)⟩
 ·obtain⟨w',z⟩:=I.cell y c e;exact⟨w',z.sameBut hs (I.cne y c e)⟩
 ·obtain⟨e,n,ne,nf,d⟩:=I.pin p hp;exact⟨(hs.2 p.1 ne).trans e,n,ne,nf,d⟩
 ·refine (I.hok b u q).stay (λc w' hc z=>(hs.2 c ?_).trans z) (λ_ z=>z) λ_ _ z=>z
  rintro rfl;rcases hc with rfl|hc
  ·rw[I.free]at q;cases q
  ·rw[I.free]at hc;cases hc
end
noncomputable abbrev Cx.marked(X:Cx)(v:Value):Cx:={X with A:=X.A.mark (some v),calm:=false,xe:=λ_ _=>False}
noncomputable abbrev Cx.markedS(X:Cx)(a:Addr)(o:Obj)(u:HO):Cx:={X with A:=X.A.mark (some (.ref a)),H₀:=upd X.H₀ a (.frz o u),calm:=false,xe:=λ_ _=>False}
noncomputable abbrev Cx.tryX(X:Cx)(pn:List (Addr×Obj))(W:Value->Shared->Prop):Cx:={X with pn:=X.pn++pn,xe:=W}
section
variable {X:Cx}
theorem Inv.marked(I:Inv X pins σ H s)(v:Value):Inv (X.marked v) pins σ H s:=
 ⟨⟨I.ok.mod,I.ok.kind,I.ok.glob,I.ok.blt,I.ok.above,I.ok.inj,I.ok.has,I.ok.cab,(λz=>nomatch z),I.ok.frames,I.ok.stk,I.ok.exf,I.ok.bs,I.ok.bsz,I.ok.noex,I.ok.exfs,I.ok.funs,I.ok.frf⟩,I.os,I.bare,I.base,I.loc,I.cell,I.free,I.freeC,I.pin,I.hok,I.len⟩
theorem Inv.unmark{v:Value}(ok:X.Ok)(I:Inv (X.marked v) pins σ H s):Inv X pins σ H s:=⟨ok,I.os,I.bare,I.base,I.loc,I.cell,I.free,I.freeC,I.pin,I.hok,I.len⟩
theorem Inv.markedS(I:Inv X pins σ H s)(h0:X.s₀.heap.get? a=none)(ha:H a=some (.frz o u)):Inv (X.markedS a o u) pins σ H s:=by
 have n0:∀b ob,X.s₀.heap.get? b=some ob->b≠a:=λb ob e z=>by rw[z,h0]at e;cases e
 have n1:∀b,upd X.H₀ a (.frz o u) b=none->X.H₀ b=none:=λb e=>by
  rwa [ad λz=>by rw[z,ae]at e;cases e]at e
 refine⟨⟨I.ok.mod,I.ok.kind,I.ok.glob,I.ok.blt,I.ok.above,I.ok.inj,I.ok.has,I.ok.cab,(λz=>nomatch z),I.ok.frames,I.ok.stk,I.ok.exf,λb ob e=>?_,I.ok.bsz,I.ok.noex,I.ok.exfs,I.ok.funs,λb hb=>?_⟩,I.os,I.bare,⟨λb ob e n=>I.base.keep b ob e (n1 b n),λb ob e n=>I.base.slot b ob e (n1 b n),λb ob e n=>I.base.free b ob e (n1 b n),I.base.there,λb xs e=>?_,λb ob v e=>?_,λb ps e=>?_⟩,I.loc,I.cell,I.free,I.freeC,I.pin,I.hok,I.len⟩
 ·have z:=I.ok.bs b ob e;exact⟨z.1,(ad (n0 b ob z.1)).trans z.2⟩
 ·obtain⟨_,ob,e,_⟩:=I.ok.funs.mem hb;exact (ad (n0 b ob e)).trans (I.ok.frf b hb)
 all_goals
  have e:upd X.H₀ a _ b=_:=e;by_cases hb:b=a
  ·subst hb;rw[ae]at e;cases e<;>exact ha
  ·rw[ad hb]at e
   first|exact I.base.tups b xs e|exact I.base.frzs b ob v e|exact I.base.tbls b ps e
theorem Inv.unmarkS(I0:Inv X pins0 σ0 H0 s0)(h0:X.s₀.heap.get? a=none)(ha:H0 a=none)(I:Inv (X.markedS a o u) pins σ H s):Inv X pins σ H s:=by
 have n1:∀b ob,X.s₀.heap.get? b=some ob->X.H₀ b=none->upd X.H₀ a (.frz o u) b=none:=λb ob e n=>by
  rw[ad λz=>by rw[z,h0]at e;cases e];exact n
 refine⟨I0.ok,I.os,I.bare,⟨λb ob e n=>I.base.keep b ob e (n1 b ob e n),λb ob e n=>I.base.slot b ob e (n1 b ob e n),λb ob e n=>I.base.free b ob e (n1 b ob e n),I.base.there,λb xs e=>I.base.tups b xs ?_,λb ob v e=>I.base.frzs b ob v ?_,λb ps e=>I.base.tbls b ps ?_⟩,I.loc,I.cell,I.free,I.freeC,I.pin,I.hok,I.len⟩
 all_goals
  show upd _ _ _ b=_;rw[ad]
  ·exact e
  ·intro z;subst z
   first
    |(have w:=I0.base.tups b xs e;rw[ha]at w;cases w;done)
    |(have w:=I0.base.frzs b ob v e;rw[ha]at w;cases w;done)
    |(obtain⟨_,w⟩:=I0.base.tbls b ps e;rw[ha]at w;cases w)
theorem Cx.Ok.tryX(ok:X.Ok)(pn:List (Addr×Obj))(W:Value->Shared->Prop):(X.tryX pn W).Ok:=
 ⟨ok.mod,ok.kind,ok.glob,ok.blt,ok.above,ok.inj,ok.has,ok.cab,ok.hd,ok.frames,ok.stk,ok.exf,ok.bs,ok.bsz,ok.noex,ok.exfs,ok.funs,ok.frf⟩
theorem Inv.tryX(I:Inv X pins σ H s)(W:Value->Shared->Prop):Inv (X.tryX pins W) [] σ H s:=
 ⟨I.ok.tryX _ _,I.os,I.bare,I.base,I.loc,I.cell,I.free,I.freeC,λp hp=>I.pin p (by rw[List.append_nil]at hp;exact hp),I.hok,I.len⟩
theorem Inv.untry(ok:X.Ok)(I:Inv (X.tryX pn W) pins σ H s):Inv X pn σ H s:=
 ⟨ok,I.os,I.bare,I.base,I.loc,I.cell,I.free,I.freeC,λp hp=>I.pin p (List.mem_append_left _ hp),I.hok,I.len⟩
end
noncomputable def XI(X:Cx)(pins:List (Addr×Obj))(σ:St)(H:Hp)(a:Addr)(cls:Value)(dx:Option Addr)(s:Shared):Prop:=
 ∃B a0,Inv X pins σ H s/\(Heap.FlyingW B X.stack a cls a0 s.heap/\DA s.heap a dx)/\H a=none/\X.s₀.heap.get? a=none/\(∀p∈X.pn++pins,p.1≠a)/\∀h4,B.StaysIn h4->s.heap.UpToSlots h4->Inv X pins σ H {s with heap:=h4}
noncomputable def PH(X:Cx)(hs:List ExceptHandler)(t:Ends->St->XK):Prop:=
 ∀(pins:List (Addr×Obj)) (s:Shared)(σ:St)(H:Hp)(D:Ends)(a:Addr)(cls:Value)(dx:Option Addr),XI X pins σ H a cls dx s->t D σ cls dx H->wpAny (model X.prog X.w) X.A (handleBy (.ref a) X.env hs) (SP X pins D) X.xe s
noncomputable def Ends.goes(D:Ends)(i:Nat):Ends:=⟨λσ H=>D.nx (σ.set i none) H,D.rt,λσ H=>D.bk (σ.set i none) H,λσ H=>D.ct (σ.set i none) H⟩
noncomputable def Fw(K:PySem.W.Frag)(C:Addr)(i:Nat)(ts:TS)(tr:Ends->St->XK):Ends->St->XK:=λD σ cls d H=>
 (PySem.W.exmOne K cls (.ref C)=some true/\∀a o,H a=none->ts (D.goes i) (σ.set i (some (.ref a))) (upd H a (.frz o (tj a cls d))))\/(PySem.W.exmOne K cls (.ref C)=some false/\tr D σ cls d H)
noncomputable def Fe(K:PySem.W.Frag)(C:Addr)(ts:TS)(tr:Ends->St->XK):Ends->St->XK:=λD σ cls d H=>
 (PySem.W.exmOne K cls (.ref C)=some true/\ts D σ H)\/(PySem.W.exmOne K cls (.ref C)=some false/\tr D σ cls d H)
section
variable {X:Cx}{c n:Str}{C:Addr}{b0:Stmt}{suite:List Stmt}{np hpos pos:Pos}{az:List ExceptHandler}{ts:TS}{tr:Ends->St->XK}{i:Nat}
theorem fR{M:Model}{B h:Heap}{l:List Env}{a:Addr}{cls a0:Value}(fl:Heap.FlyingW B l a cls a0 h):PySem.W.Looks M h (typeOf (.ref a)) cls:=by
 obtain⟨ob,hob,hc⟩:=fl.there;exact hc▸(PySem.W.Looks.ld hob).andThen .now
theorem BS(hg:Gl X c)(hm:X.mg c=some (.ref C))(hN:X.N.Nodup)(hi:X.N[i]?=some n)(hl:X.env.scope.names.lookup n=some .local)(hs:∀a o u,mZ o->PSs (X.markedS a o u) (b0::suite) ts)(hr:PH X az tr)(hdb:(c == ("__debug__" : Str))=false:=by decide) :
  PH X (.ExceptHandler (some (.Name c np)) (some n) (b0::suite) hpos::az) (Fw X.K C i ts tr):=by
 intro pins s σ H D a cls dx xi h;obtain⟨B,a0,I,⟨fl,dd⟩,ha,h0,hp,stab⟩:=id xi;rcases h with ⟨em,k⟩|⟨em,k⟩
 ·refine wpAny_handleBy_cons (codeAny_handlers_test (bV (I.marked (.ref a)) hg hm ?_ hdb)) (by intro q;cases q)
  refine (PySem.W.exm_one I.kIn (fR fl) em).here ?_;refine codeAny_handlers_suite_as (qi fl dd λh6 fl6 up6 dd6=>?_)
  have I6:=stab h6 fl6.1 up6;obtain⟨oe,vs,e1,e2,e3,_⟩:=fl6.first
  obtain⟨e4,e5⟩:oe.dict=dx/\mZ oe:=by
   obtain⟨o',z1,z2⟩:=dd6;cases e1.symm.trans z1;exact z2
  have I7:=I6.trackExc (cls:=cls) ha e1 e2 e3 e4 h0 hp;refine i5 (X:=X.markedS a oe _) (v:=.ref a) (I7.markedS h0 ae) hN hi (.inl hl) rfl (λs7 I8=>?_) (.inr hl)
  refine wpAny_mono (hs a oe _ e5 pins s7 _ _ (D.goes i) I8 (k a oe ha)) (λfl s8 q=>?_) (λ_ _ z=>False.elim z)
  have hcl:(X.env.scope.kind == .class||(X.env.scope.kind == .module&&X.env.locals != X.env.globals))=false:=by rw[I.ok.kind];rfl
  have fin:∀σ' H',Inv (X.markedS a oe (tj a cls dx)) pins σ' H' s8->∀(Q:Unit->Shared->Prop),(∀s9,Inv X pins (σ'.set i none) H' s9->Q () s9)->
    wpAny (model X.prog X.w) X.A (do bindName X.env n .none;unbindBehindTheSuite X.env n hpos) Q X.xe s8:=λσ' H' J Q kq=>by
   have J':=I.unmarkS h0 ha J;obtain⟨m,hm',hl'⟩:=J'.loc;exact wpAny_nameGoes_keeps hl hm' hcl λh' v hn hs'=>kq _ (Inv.goes hi hN J' hm' hl' hn hs')
  match fl,q with
  |.next,⟨σ',H',J,q⟩=>exact fin σ' H' J _ λs9 J9=>⟨_,_,J9,q⟩
  |.brk,⟨σ',H',J,q⟩=>exact fin σ' H' J _ λs9 J9=>⟨_,_,J9,q⟩
  |.cont,⟨σ',H',J,q⟩=>exact fin σ' H' J _ λs9 J9=>⟨_,_,J9,q⟩
  |.ret u,⟨v,σ',H',J,r,q⟩=>exact fin σ' H' J _ λs9 J9=>⟨v,_,_,J9,r,q⟩
 ·refine wpAny_handleBy_cons (codeAny_handlers_test (bV (I.marked (.ref a)) hg hm ?_ hdb)) (by intro q;cases q)
  refine (PySem.W.exm_one I.kIn (fR fl) em).here ?_;exact hr pins s σ H D a cls dx xi k
theorem C8(hg:Gl X c)(hm:X.mg c=some (.ref C))(hs:∀v,PSs (X.marked v) (b0::suite) ts)(hr:PH X az tr)(hdb:(c == ("__debug__" : Str))=false:=by decide) :
  PH X (.ExceptHandler (some (.Name c np)) none (b0::suite) hpos::az) (Fe X.K C ts tr):=by
 intro pins s σ H D a cls dx xi h;obtain⟨B,a0,I,⟨fl,dd⟩,ha,h0,hp,stab⟩:=id xi;rcases h with ⟨em,k⟩|⟨em,k⟩
 ·refine wpAny_handleBy_cons (codeAny_handlers_test (bV (I.marked (.ref a)) hg hm ?_ hdb)) (by intro q;cases q)
  refine (PySem.W.exm_one I.kIn (fR fl) em).here ?_;refine codeAny_handlers_suite (qi fl dd λh6 fl6 up6 dd6=>?_)
  have I6:=stab h6 fl6.1 up6;refine wpAny_mono (hs (.ref a) pins _ _ _ D (I6.marked (.ref a)) k) (λfl s8 q=>?_) (λ_ _ z=>False.elim z)
  match fl,q with
  |.next,⟨σ',H',J,q⟩=>exact⟨_,_,J.unmark I.ok,q⟩
  |.brk,⟨σ',H',J,q⟩=>exact⟨_,_,J.unmark I.ok,q⟩
  |.cont,⟨σ',H',J,q⟩=>exact⟨_,_,J.unmark I.ok,q⟩
  |.ret u,⟨v,σ',H',J,r,q⟩=>exact⟨v,_,_,J.unmark I.ok,r,q⟩
 ·refine wpAny_handleBy_cons (codeAny_handlers_test (bV (I.marked (.ref a)) hg hm ?_ hdb)) (by intro q;cases q)
  refine (PySem.W.exm_one I.kIn (fR fl) em).here ?_;exact hr pins s σ H D a cls dx xi k
end
end L2
namespace L2
open PySem PySem.Spec PySem.Calls PyProof.Rows
noncomputable def yJ(K:PySem.W.Frag)(C:Addr):Bool:=match K.lookup C with
 |some ⟨.type "type",_,.cls k,sl⟩=>(match k.mro with
  |.ref C2::above=>C2 == C&&!k.hasDel&&PySem.W.tailIn K bmV above&&(match sl.toList with
   |[_,_,_,_,some (.builtin mk),_]=>mk == "ValueError.__new__"
   |_=>false)
  |_=>false)
 |_=>false
section
variable {A:Around}{h:Heap}{os:OsState}{K:PySem.W.Frag}
end
end L2
namespace L2
open PySem PySem.Spec PySem.Calls PyProof.Rows
section
variable {pos:Pos}
theorem lR{args:List Expr}(h1:(backTo pos (starEach args env)).any (·.1)=false)(h2:args.length < 30):methodCallForm (args.length+([]:List Keyword).length) (backTo pos (starEach args env)) (backToKw pos (keywordEach [] env))=true:=by
 unfold methodCallForm;have a:(backTo pos (starEach args env)).all (!·.1)=true:=by
  rw[List.all_eq_true];intro x hx;have:=List.any_eq_false.mp h1 x hx;simpa using this
 rw[a];have:(backToKw pos (keywordEach [] env)).all (·.1.isSome)=true:=rfl;rw[this];have h3:(backToKw pos (keywordEach ([]:List Keyword) env)).isEmpty=true:=rfl;simp only[h3,if_true,List.length_nil,Bool.true_and,Nat.add_zero,decide_eq_true_eq];exact h2
theorem kX{apos:Pos}{args:List Expr}(hb:attributeBase o m env (eval o env)=eval o env)
  (hf:methodCallForm (args.length+([]:List Keyword).length) (backTo pos (starEach args env)) (backToKw pos (keywordEach [] env))=true) (hl:(apos.endLine == pos.line)=true) :
  eval (.Call (.Attribute o m apos) args [] pos) env=(do
   let ov<-eval o env
   standAt apos.atName
   let (f,first)<-holding [ov] (getMethod ov m (do return (<-importBound o env).getD true))
   callWith pos f first (backTo pos (starEach args env)) (backToKw pos (keywordEach [] env))):=by
 rw[arm_eval_Call,hb];unfold methodCall calleeOf methodCallPos;simp only[hf,hl];rfl
end
noncomputable def FF(e C:Addr):HO:=.ext λh=>∃t0,h.get? e=some {cls:=.ref C,data:=.fields #[.ref t0,.none,.none,.none,.bool false,.none]}
noncomputable def AO(e C dx:Addr):HO:=.ext λh=>∃t0,h.get? e=some {cls:=.ref C,dict:=some dx,data:=.fields #[.ref t0,.none,.none,.none,.bool false,.none]}
structure XIni (K:PySem.W.Frag)(C fI:Addr)(f:Str):Prop where
 cl:yJ K C=true
 ini:PySem.W.findIn K (.ref C) "__init__"=some (some (.ref fI))
 fn:PySem.W.typeIn K (.ref fI)=some (.type "function")
 sa:PySem.W.findIn K (.ref C) "__setattr__"=some (some (.builtin "object.__setattr__"))
 at_:PySem.W.findIn K (.ref C) f=some none
 hd:PySem.W.hasDictIn K C=true
 ob:PySem.W.mroIn K C (.type "object")=some true
 kp:PySem.W.keepIn K (.ref C)=true
section
variable {X:Cx}{D:Addr}{apos pos:Pos}
noncomputable def sY(cp:Bool)(K:PySem.W.Frag)(C:Addr)(f:Str):Sp:=λvs H Q _=>∃a v,vs=[.ref a,v]/\H a=some (FF a C)/\(cp=false->∀dx ob,H dx=none->dx≠a->Q .non (upd (upd H a (AO a C dx)) dx (.frz ob (.xd [(f,v)]))))/\
 (cp=true->∃p ws,v=.ref p/\SqL K H p ws/\∀q dx ob,H q=none->H dx=none->dx≠a->dx≠q->Q .non (upd (upd (upd H q (.lst ws)) a (AO a C dx)) dx (.frz ob (.xd [(f,.ref q)]))))
end
end L2
namespace L2
open PySem PySem.Spec PyProof.Rows
noncomputable def aJ(names:List (Str×NameKind))(cs:List (Str×Addr))(acc:List (Str×Addr)):List (Str×Addr):=match names with
 |[]=>acc
 |(n,k)::r=>if k=.free then (match cs.lookup n with|some c=>aJ r cs ((n,c)::acc)|none=>aJ r cs acc) else aJ r cs acc
theorem bN{cs:List (Str×Addr)}:∀{names:List (Str×NameKind)}{acc:List (Str×Addr)},(∀p∈acc,cs.lookup p.1=some p.2)->∀p∈aJ names cs acc,cs.lookup p.1=some p.2
 |[],_,h,p,hp=>h p hp
 |(n,k)::r,acc,h,p,hp=>by
  unfold aJ at hp;split at hp
  ·split at hp
   next c e=>
    refine bN (λq hq=>?_) p hp
    rcases List.mem_cons.mp hq with z|z
    ·subst z;exact e
    ·exact h q z
   next=>exact bN h p hp
  ·exact bN h p hp
theorem dm:∀{names:List (Str×NameKind)}{acc:List (Str×Addr)}{p:Str×Addr},p∈acc->p∈aJ names cs acc
 |[],_,_,h=>h
 |(n,k)::r,acc,p,h=>by
  unfold aJ;split
  ·split
   ·exact dm (List.mem_cons_of_mem _ h)
   ·exact dm h
  ·exact dm h
theorem dE{cs:List (Str×Addr)}(e:cs.lookup x=some c):∀{names:List (Str×NameKind)}{acc:List (Str×Addr)},(x,NameKind.free)∈names->(x,c)∈aJ names cs acc
 |(n,k)::r,acc,h=>by
  rcases List.mem_cons.mp h with z|z
  ·cases z;unfold aJ;rw[if_pos rfl,e];exact dm List.mem_cons_self
  ·unfold aJ;split
   ·split
    ·exact dE e z
    ·exact dE e z
   ·exact dE e z
theorem dY{l:List (Str×Addr)}(h:(x,c)∈l)(u:∀p∈l,p.1=x->p.2=c):l.lookup x=some c:=by
 induction l with
 |nil=>cases h
 |cons p r ih=>
  obtain⟨n,d⟩:=p;by_cases e:x=n
  ·subst e;rw[List.lookup_cons,beq_self_eq_true];exact congrArg some (u (x,d) List.mem_cons_self rfl)
  ·rw[List.lookup_cons];rw[beq_eq_false_iff_ne.mpr e];rcases List.mem_cons.mp h with z|z
   ·cases z;exact absurd rfl e
   ·exact ih z λq hq=>u q (List.mem_cons_of_mem _ hq)
theorem bx{l:List (Str×Addr)}(h:l.lookup x=some c):(x,c)∈l:=PySem.mem_of_lookup h
theorem mo{cs:List (Str×Addr)}(hm:(x,NameKind.free)∈names)(e:cs.lookup x=some c):(aJ names cs []).lookup x=some c:=by
 refine dY (dE e hm) λp hp hx=>?_
 have z:=bN (acc:=[]) (λp hp=>nomatch hp) p hp
 rw[hx,e]at z;exact (Option.some.inj z).symm
theorem rD{env:Env}(e:env.cells.lookup n=some c):cellOf env n=pure c:=by
 unfold cellOf;rw[e]
theorem jS{scope:Scope}{env:Env}(h:∀y∈scope.names,y.2=.free->∃c,env.cells.lookup y.1=some c):closureFor scope env=pure (aJ scope.names env.cells []):=by
 have go:∀(names:List (Str×NameKind)) (acc:List (Str×Addr)),(∀y∈names,y.2=.free->∃c,env.cells.lookup y.1=some c)->
   (forIn names acc λx r=>match x with
    |(n,k)=>if (k == NameKind.free)=true then do let c<-cellOf env n;pure (ForInStep.yield ((n,c)::r)) else pure (ForInStep.yield r):Sem (List (Str×Addr)))=pure (aJ names env.cells acc):=by
  intro names
  induction names with
  |nil=>intro acc _;rfl
  |cons y r ih=>
   intro acc hy;obtain⟨n,k⟩:=y;rw[List.forIn_cons];by_cases hk:k=NameKind.free
   ·subst hk;obtain⟨c,e⟩:=hy (n,.free) List.mem_cons_self rfl;simp only[beq_self_eq_true,if_true];rw[rD e];show (forIn r ((n,c)::acc) _:Sem _)=_;rw[ih _ λz hz=>hy z (List.mem_cons_of_mem _ hz)]
    conv=>rhs;unfold aJ
    simp only[if_true,e]
   ·have hb:(k == NameKind.free)=false:=by simpa using hk
    simp only[hb,Bool.false_eq_true,if_false];show (forIn r acc _:Sem _)=_;rw[ih _ λz hz=>hy z (List.mem_cons_of_mem _ hz)]
    conv=>rhs;unfold aJ
    simp only[hk,if_false]
 have e:=go scope.names [] h;show ((forIn scope.names [] λx r=>match x with
    |(n,k)=>if (k == NameKind.free)=true then do let c<-cellOf env n;pure (ForInStep.yield ((n,c)::r)) else pure (ForInStep.yield r):Sem (List (Str×Addr))) >>=λz=>pure z)=_
 rw[e];rfl
theorem aI:∀(names:List (Str×NameKind)) (n:Nat) (acc:List (Str×Addr)),cellsFrom n names acc=cellsFrom n names []++acc
 |[],_,_=>rfl
 |(x,k)::r,n,acc=>by
  unfold cellsFrom;split
  ·rw[aI r (n+1) ((x,n)::acc),aI r (n+1) [(x,n)],List.append_assoc];rfl
  ·exact aI r n acc
theorem aC:∀{names:List (Str×NameKind)}{n:Nat}{p:Str×Addr},p∈cellsFrom n names []->(p.1,NameKind.cell)∈names/\n<=p.2
 |[],_,_,h=>nomatch h
 |(x,k)::r,n,p,h=>by
  unfold cellsFrom at h;split at h
  ·rename_i hk;rw[aI]at h;rcases List.mem_append.mp h with z|z
   ·obtain⟨a,b⟩:=aC z;exact⟨List.mem_cons_of_mem _ a,by omega⟩
   ·obtain rfl:=List.mem_singleton.mp z;exact⟨by rw[show k=NameKind.cell from by simpa using hk];exact List.mem_cons_self,Nat.le_refl _⟩
  ·obtain⟨a,b⟩:=aC h;exact⟨List.mem_cons_of_mem _ a,b⟩
theorem cu:∀{names:List (Str×NameKind)}{n:Nat}{x:Str},(x,NameKind.cell)∈names->∃c,(x,c)∈cellsFrom n names []
 |(y,k)::r,n,x,h=>by
  rcases List.mem_cons.mp h with z|z
  ·cases z;unfold cellsFrom;rw[if_pos (by rfl),aI]
   exact⟨n,List.mem_append_right _ List.mem_cons_self⟩
  ·unfold cellsFrom;split
   ·obtain⟨c,e⟩:=cu z (n:=n+1);rw[aI];exact⟨c,List.mem_append_left _ e⟩
   ·exact cu z
theorem dn:∀{l:List (Str×Addr)}{x:Str}{c:Addr},(x,c)∈l->∃c',l.lookup x=some c'
 |(y,d)::r,x,c,h=>by
  rw[List.lookup_cons];cases e:x == y with
  |true=>exact⟨d,rfl⟩
  |false=>
   rcases List.mem_cons.mp h with z|z
   ·cases z;simp at e
   ·exact dn z
theorem gG
  (hQ:Q {scope:=scope,locals:=s.heap.objs.size,globals:=globals,cells:=cellsFrom (s.heap.objs.size+1) scope.names []++cl,qual:=qual,func:=none,code:=outer.code,frame:=outer.frame,builtins:=outer.builtins} {s with heap:=pushCells (s.heap.push {cls:=.type "dict",data:=.dict #[]}) scope.names}) :
  wpAny M A (newFunctionEnv scope globals cl [] qual none .none (some outer)) Q E s:=by
 simp only[newFunctionEnv,Option.isSome_some,if_true];refine wpAny_bind (wpAny_alloc ?_);refine wpAny_bind (wpAny_layCells _ (λname kind cells=>by cases hkc:kind == NameKind.cell<;>simp[hkc]) _ _ _ _ ?_)
 rw[show ({s with heap:=s.heap.push {cls:=.type "dict",data:=.dict #[]}}:Shared).heap.objs.size=s.heap.objs.size+1 from Heap.size_push ..,aI]
 refine wpAny_bind ?_;rw[List.forIn_nil];exact wpAny_pure (wpAny_pure hQ)
noncomputable def d9(N:List Str)(js:List (Option Nat))(sc osc:Scope)(oN:List Str):Bool:=
 N.length == js.length&&decide N.Nodup&&
 (N.zip js).all (λp=>match p.2 with
  |none=>sc.names.lookup p.1 == some .local||sc.names.lookup p.1 == some .cell
  |some j=>oN[j]? == some p.1&&sc.names.contains (p.1,NameKind.free)&&osc.names.lookup p.1 == some .cell)&&
 decide (sc.names.map (·.1)).Nodup&&sc.names.all (λy=>(y.2 != .free||osc.names.lookup y.1 == some .cell)&&(y.2 != .local||sc.names.lookup y.1 == some .local))&&(sc.kind == .function)&&(osc.kind == .function)
noncomputable def iX(js:List (Option Nat))(σ:St):St:=js.map λo=>o.bind λj=>(σ[j]?).bind id
noncomputable abbrev compCx(X:Cx)(scope:Scope)(C:Addr)(N:List Str)(s2:Shared)(H2:Hp)(fp:List Addr)(pins:List (Addr×Obj)):Cx:=
 {X with env:=compEnvC scope (cellsFrom (C+1) scope.names []++aJ scope.names X.env.cells []) C X.env,N:=N,s₀:=s2,H₀:=H2,outer:=X.stack,stack:=X.stack,ex:=fp,fn:=λx=>scope.names.lookup x == some .cell,pn:=X.pn++pins,xe:=λ_ _=>False}
theorem fX{env:Env}(hk:env.scope.kind=.function)(hc:env.kindOf x=some .cell):∀{names:List (Str×NameKind)},(x,NameKind.free)∈names->(∀y∈names,y.1=x->y.2=.free)->
  (names.map λ(n,k)=>if (k == .free&&env.scope.kind == .function&&env.kindOf n == some .cell) then (n,.cell) else (n,k)).lookup x=some NameKind.cell
 |(n,k)::r,hm,hu=>by
  show List.lookup x ((if (k == NameKind.free&&env.scope.kind == .function&&env.kindOf n == some .cell)=true then (n,NameKind.cell) else (n,k))::_)=_
  by_cases e:x=n
  ·subst e;have ek:k=.free:=hu (x,k) List.mem_cons_self rfl;subst ek;simp only[hk,hc,beq_self_eq_true,Bool.and_self,if_true];rw[List.lookup_cons,beq_self_eq_true]
  ·have hm':(x,NameKind.free)∈r:=by
    rcases List.mem_cons.mp hm with z|z
    ·cases z;exact absurd rfl e
    ·exact z
   have ih:=fX hk hc hm' λy hy=>hu y (List.mem_cons_of_mem _ hy)
   split
   ·rw[List.lookup_cons,beq_eq_false_iff_ne.mpr e];exact ih
   ·rw[List.lookup_cons,beq_eq_false_iff_ne.mpr e];exact ih
end L2
namespace L2
open PySem PySem.Spec PyProof.Rows
structure CompOk (N:List Str) (js:List (Option Nat)) (sc osc:Scope)(oN:List Str):Prop where
 len:N.length=js.length
 nd:N.Nodup
 own:∀(i:Nat)(x:Str),N[i]?=some x->js[i]?=some none->sc.names.lookup x=some .local\/sc.names.lookup x=some .cell
 fr:∀(i:Nat)(x:Str)(j:Nat),N[i]?=some x->js[i]?=some (some j)->oN[j]?=some x/\(x,NameKind.free)∈sc.names/\osc.names.lookup x=some .cell
 ndn:(sc.names.map (·.1)).Nodup
 nf:∀y∈sc.names,y.2=.free->osc.names.lookup y.1=some .cell
 nl:∀y∈sc.names,y.2=.local->sc.names.lookup y.1=some .local
 k1:sc.kind=.function
 k2:osc.kind=.function
theorem kl(h:d9 N js sc osc oN=true):CompOk N js sc osc oN:=by
 unfold d9 at h;simp only[Bool.and_eq_true,beq_iff_eq,decide_eq_true_eq,List.all_eq_true,Bool.or_eq_true,bne_iff_ne]at h;obtain⟨⟨⟨⟨⟨⟨h1,h2⟩,h3⟩,h4⟩,h5⟩,h6⟩,h7⟩:=h;have zip:∀(i:Nat)(x:Str)(o:Option Nat),N[i]?=some x->js[i]?=some o->(x,o)∈N.zip js:=λi x o e1 e2=>
  List.mem_of_getElem? (i:=i) (by rw[List.getElem?_zip_eq_some];exact⟨e1,e2⟩)
 refine⟨h1,h2,λi x e1 e2=>?_,λi x j e1 e2=>?_,h4,λy hy e=>?_,λy hy e=>?_,h6,h7⟩
 ·have z:=h3 _ (zip i x _ e1 e2);simpa using z
 ·have z:=h3 _ (zip i x _ e1 e2);simp only[Bool.and_eq_true,beq_iff_eq]at z;exact⟨z.1.1,List.contains_iff_mem.mp z.1.2,z.2⟩
 ·rcases (h5 y hy).1 with z|z
  ·exact absurd e z
  ·exact z
 ·rcases (h5 y hy).2 with z|z
  ·exact absurd e z
  ·exact z
theorem eA{env:Env}:∀{names:List (Str×NameKind)},
  (names.map λ(n,k)=>if (k == .free&&env.scope.kind == .function&&env.kindOf n == some .cell) then (n,.cell) else (n,k)).lookup x=some k->∃k',(x,k')∈names/\(k'=k\/k'=.free)
 |[],h=>by cases h
 |(n,k0)::r,h=>by
  have h:List.lookup x ((if (k0 == NameKind.free&&env.scope.kind == .function&&env.kindOf n == some .cell)=true then (n,NameKind.cell) else (n,k0))::_)=_:=h
  by_cases e:x=n
  ·subst e;split at h
   next hc=>
    refine⟨k0,List.mem_cons_self,.inr ?_⟩;have:=(Bool.and_eq_true_iff.mp (Bool.and_eq_true_iff.mp hc).1).1;simpa using this
   next=>
    rw[List.lookup_cons,beq_self_eq_true]at h;exact⟨k0,List.mem_cons_self,.inl (Option.some.inj h)⟩
  ·have h':List.lookup x (r.map λ(n,k)=>if (k == .free&&env.scope.kind == .function&&env.kindOf n == some .cell) then (n,.cell) else (n,k))=some k:=by
    split at h
    ·rw[List.lookup_cons,beq_eq_false_iff_ne.mpr e]at h;exact h
    ·rw[List.lookup_cons,beq_eq_false_iff_ne.mpr e]at h;exact h
   obtain⟨k',m,z⟩:=eA h';exact⟨k',List.mem_cons_of_mem _ m,z⟩
theorem qK(I:Nat->Shared->Prop)(V:Value->Shared->Prop)(hV:∀e s,V e s->notedBy (model prog w) A env (λx s'=>R (.error x) s') e s)
  (turn:∀n s,I n s->wpAny (model prog w) A (pyNext it) (λr s1=>match r with
   |none=>R (.ok .next) s1
   |some v=>wpAny (model prog w) A (letOwnedTupleGo target it v) (λ_ s2=>wpAny (model prog w) A (assign target env v) (λ_ s3=>
     wpAny (model prog w) A (forIn ifs true λc r=>if r=true then do let ok<-isTrue c env (eval c env);pure (ForInStep.yield ok) else pure (ForInStep.yield r)) (λok s4=>
      if ok=true then wpAny (model prog w) A (eval elt env) (λx s5=>wpAny (model prog w) A (call (.builtin "list.append") [acc,x]) (λ_ s6=>∃m,m < n/\I m s6) (λ_ _=>False) s5) V s4
      else ∃m,m < n/\I m s4) (λ_ _=>False) s3) (λ_ _=>False) s2) (λ_ _=>False) s1) (λ_ _=>False) s)
  (n:Nat)(h:I n s):codeAny (model prog w) A (.compLoop (.ListComp elt [⟨target,iter,ifs,0⟩] scope pos) 0 it acc env) R s:=by
 have no:∀{α:Type}{t:Sem α}{Q:α->Shared->Prop}{E:Value->Shared->Prop}{z:Shared},wpAny (model prog w) A t Q (λ_ _=>False) z->wpAny (model prog w) A t Q E z:=λh=>wpAny_noRaise h
 refine codeAny_loop rfl I (λn s hI=>?_) n h
 show wpAny _ A ((compTurn (.ListComp elt [⟨target,iter,ifs,0⟩] scope pos) 0 it acc env).onRaise (λx=>do noteFrame x env;theTreesLotGoes x)) _ _ s
 refine wpAny_noted ?_;rw[compTurn_list];refine wpAny_bind (wpAny_standAt (wpAny_bind (no (wpAny_mono (turn n s hI) (λr s1 h1=>?_) λ_ _ z=>z))))
 cases r with
 |none=>exact wpAny_pure h1
 |some v=>
  refine wpAny_bind (no (wpAny_mono h1 (λ_ s2 h2=>?_) λ_ _ z=>z))
  refine wpAny_bind (no (wpAny_mono h2 (λ_ s3 h3=>?_) λ_ _ z=>z))
  refine wpAny_bind (no (wpAny_mono h3 (λok s4 h4=>?_) λ_ _ z=>z))
  cases ok with
  |false=>exact wpAny_pure ⟨rfl,h4⟩
  |true=>
   refine wpAny_bind (wpAny_bind (wpAny_mono h4 (λx s5 h5=>?_) hV))
   exact wpAny_bind (no (wpAny_mono h5 (λ_ s6 h6=>wpAny_pure (wpAny_pure ⟨rfl,h6⟩)) λ_ _ z=>z))
noncomputable def PIf(X:Cx)(ifs:List Expr)(tt:TT):Prop:=∀(pins:List (Addr×Obj)) (s:Shared)(σ:St)(H:Hp)(Q:Bool->Hp->Prop),Inv X pins σ H s->tt σ H Q->
 wpAny (model X.prog X.w) X.A (forIn ifs true λc r=>if r=true then do let ok<-isTrue c X.env (eval c X.env);pure (ForInStep.yield ok) else pure (ForInStep.yield r)) (TP X pins σ Q) X.xe s
noncomputable def tYes:TT:=λ_ H Q=>Q true H
theorem u8:PIf X [] tYes:=λpins s σ H Q I h=>wpAny_tests_nil ⟨H,I,h⟩
theorem vV(h:PT X c t):PIf X [c] t:=λpins s σ H Q I q=>wpAny_tests_one (h pins s σ H Q I q)
noncomputable def pT(js:List (Option Nat))(wi:TI)(g:TG)(tt:TT)(te:TE):TE:=λσ H Q=>wi σ H λJ H1=>∀p,H1 p=none->∃W:Nat->Nat->St->Hp->Prop,(∃m,W 0 m (iX js σ) (upd H1 p (.lst [])))/\
 ∀(i:Nat) m σc H,W i m σc H->(J.stop i H/\Q (.ref p) H)\/(J.go i H/\∀x H',J.yld i H x H'->g x σc H' λσ2 H2=>tt σ2 H2 λb H3=>
  if b=true then te σ2 H3 λy H4=>∃ys,H4 p=some (.lst ys)/\ys.length < sizeLine/\∃m',m' < m/\W (i+1) m' σ2 (upd H4 p (.lst (ys++[y]))) else ∃m',m' < m/\W (i+1) m' σ2 H3)
section
variable {X:Cx}
noncomputable def tQ(X:Cx)(scope:Scope)(C:Addr)(N:List Str)(s2:Shared)(H2:Hp)(fp:List Addr)(pn:List (Addr×Obj))(Ex:XK)(e:Value)(s':Shared):Prop:=∃pins σ H s,Inv (compCx X scope C N s2 H2 fp pn) pins σ H s/\CX1 X.prog X.w X.stack H s Ex e s'
theorem nG{q:Bool}(hok:d9 N js scope X.env.scope X.N=true)(hcalm:Qt q X)(hi:PIB q X tg iter wi)
  (hg:∀C s2 H2 fp pn,PG (compCx X scope C N s2 H2 fp pn) tg g) (ht:∀C s2 H2 fp pn,PIf (compCx X scope C N s2 H2 fp pn) ifs tt) (he:∀C s2 H2 fp pn,PE ((compCx X scope C N s2 H2 fp pn).wish (tQ X scope C N s2 H2 fp pn Ex)) elt te) (hp:(∀c d H,¬ Ex c d H)\/tP X Ex)
  (hs:∀x,foldedSetIterable iter X.env x=pure x) (I:Inv X pins σ H s)(h:pT js wi g tt te σ H Q)
  (fin:∀(D C:Addr)(s5:Shared)(H4:Hp)(m5:Str->Option Value),s5.heap.Ns C m5->mH X pins H4 C->(∀h',Heap.SameBut C s5.heap h'->Inv X pins σ H4 {s5 with heap:=h'})->Q (.ref D) H4->compPost (model X.prog X.w) X.A X.xe use Qf (.ref D) C (.ok .next) s5) :
  wpAny (model X.prog X.w) X.A (comprehension (.ListComp elt [⟨tg,iter,ifs,0⟩] scope pos) scope X.env pos' (newList []) false (eval iter X.env) use) Qf X.xe s:=by
 have O:=kl hok;have hcells:∀y∈scope.names,y.2=.free->∃c,X.env.cells.lookup y.1=some c:=λy hy e=>I.ok.has y.1 (.inl (O.nf y hy e))
 refine wpAny_comprehension_free (use:=use) rfl hs (jS hcells) O.k1 O.nl (thn (hi pins s σ H _ I h) λxv s1 h1=>thn h1 λitv s2 h2=>?_)
 obtain⟨it,fp,tn,J,H2,rfl,I2,T,st2,f2,hQ⟩:=h2;refine wpAny_newObj_type (gG ?_);dsimp only;have sz1:(s2.heap.push {cls:=.type "list",dict:=none,data:=.seq ([]:List Value).toArray}).objs.size=s2.heap.objs.size+1:=Heap.size_push ..;have sz2:((s2.heap.push {cls:=.type "list",dict:=none,data:=.seq ([]:List Value).toArray}).push {cls:=.type "dict",data:=.dict #[]}).objs.size=s2.heap.objs.size+1+1:=by rw[Heap.size_push,sz1]
 have hns:(pushCells ((s2.heap.push {cls:=.type "list",dict:=none,data:=.seq ([]:List Value).toArray}).push {cls:=.type "dict",data:=.dict #[]}) scope.names).Ns (s2.heap.objs.size+1) (λ_=>none):=by
  rw[<-sz1];exact (Heap.Ns.new _ (.type "dict")).keeps (pushCells_keeps _ _)
 have keep:∀b o,s2.heap.get? b=some o->(pushCells ((s2.heap.push {cls:=.type "list",dict:=none,data:=.seq ([]:List Value).toArray}).push {cls:=.type "dict",data:=.dict #[]}) scope.names).get? b=some o:=λb o e=>
  pushCells_keeps _ _ b o (Heap.get?_push_of_some _ (Heap.get?_push_of_some _ e))
 have atD:(pushCells ((s2.heap.push {cls:=.type "list",dict:=none,data:=.seq ([]:List Value).toArray}).push {cls:=.type "dict",data:=.dict #[]}) scope.names).get? s2.heap.objs.size=some {cls:=.type "list",data:=.seq ([]:List Value).toArray}:=
  pushCells_keeps _ _ _ _ (Heap.get?_push_of_some _ (Heap.get?_push_size _ rfl))
 have cok:=cellsFrom_ok scope.names ((s2.heap.push {cls:=.type "list",dict:=none,data:=.seq ([]:List Value).toArray}).push {cls:=.type "dict",data:=.dict #[]}) (s2.heap.objs.size+1+1) [] ⟨λ_ _ hm=>(nomatch hm),List.Pairwise.nil⟩ (by rw[sz2];exact Nat.le_refl _)
 rw[sz2]at cok;rw[sz1];generalize pushCells ((s2.heap.push {cls:=.type "list",dict:=none,data:=.seq ([]:List Value).toArray}).push {cls:=.type "dict",data:=.dict #[]}) scope.names=h1' at hns keep atD cok ⊢;have frD:H2 s2.heap.objs.size=none:=I2.hok.fresh (Nat.le_refl _);have frC:H2 (s2.heap.objs.size+1)=none:=I2.hok.fresh (Nat.le_succ _);have hCD:s2.heap.objs.size+1≠s2.heap.objs.size:=Nat.succ_ne_self _;obtain⟨W,⟨m0,w0⟩,turn⟩:=hQ s2.heap.objs.size frD;have fpThere:∀b∈fp,b < s2.heap.objs.size:=λb hb=>by
  obtain⟨o,e,_⟩:=T.obj 0 _ st2 b hb;exact Heap.lt_size e
 have lk:∀x c,(cellsFrom (s2.heap.objs.size+1+1) scope.names []++aJ scope.names X.env.cells []).lookup x=some c->(x,c)∈cellsFrom (s2.heap.objs.size+1+1) scope.names []\/X.env.cells.lookup x=some c:=λx c e=>by
  rcases List.mem_append.mp (bx e) with z|z
  ·exact .inl z
  ·exact .inr (bN (acc:=[]) (λp hp=>nomatch hp) _ z)
 have old:∀x c,X.env.cells.lookup x=some c->c < s2.heap.objs.size:=λx c e=>by
  obtain⟨v,o,ho,hd⟩:=I2.cell x c e;exact Heap.lt_size ho
 have cne:∀b∈fp,∀x c,(cellsFrom (s2.heap.objs.size+1+1) scope.names []++aJ scope.names X.env.cells []).lookup x=some c->c≠b:=λb hb x c e=>by
  rcases lk x c e with z|z
  ·have a1:=(aC z).2;exact Nat.ne_of_gt (Nat.lt_of_lt_of_le (fpThere b hb) (Nat.le_trans (Nat.le_add_right _ 2) a1))
  ·exact (f2 b hb).2.2.2.2.1 x c z
 let Xc:Cx:=compCx X scope (s2.heap.objs.size+1) N s2 H2 fp pins
 have cOk:Xc.Ok:=by
  refine⟨I2.ok.mod,O.k1,I2.ok.glob,I2.ok.blt,Nat.le_succ _,λx y c e1 e2=>?_,λx hx=>?_,λx c e1 e2=>?_,I2.ok.hd,I2.ok.frames,.inl rfl,λb hb=>?_,I2.bs,Nat.le_trans I2.ok.bsz I2.sz,λb o e hb=>?_,λb hb hm=>?_,I2.stack,I2.stkFree⟩
  ·rcases lk x c e1 with z1|z1<;>rcases lk y c e2 with z2|z2
   ·exact name_of_addr cok.apart z1 z2
   ·have a1:=(aC z1).2;exact absurd (Nat.lt_of_lt_of_le (old _ _ z2) (Nat.le_trans (Nat.le_add_right _ 2) a1)) (Nat.lt_irrefl _)
   ·have a1:=(aC z2).2;exact absurd (Nat.lt_of_lt_of_le (old _ _ z1) (Nat.le_trans (Nat.le_add_right _ 2) a1)) (Nat.lt_irrefl _)
   ·exact I2.ok.inj x y c z1 z2
  ·have hx:(relabel scope X.env).names.lookup x=some .cell\/(relabel scope X.env).names.lookup x=some .free:=hx;have key:(x,NameKind.free)∈scope.names\/(x,NameKind.cell)∈scope.names:=by
    rcases hx with hx|hx
    ·obtain⟨k',m,z⟩:=eA hx;rcases z with z|z
     ·subst z;exact .inr m
     ·subst z;exact .inl m
    ·obtain⟨k',m,z⟩:=eA hx;rcases z with z|z<;>(subst z;exact .inl m)
   rcases key with key|key
   ·obtain⟨c,e⟩:=hcells _ key rfl;exact dn (List.mem_append_right _ (bx (mo key e)))
   ·obtain⟨c,e⟩:=cu key (n:=s2.heap.objs.size+1+1);exact dn (List.mem_append_left _ e)
  ·have e1:scope.names.lookup x=some .cell:=beq_iff_eq.mp e1;obtain⟨c1,h1⟩:=cu (PySem.mem_of_lookup e1) (n:=s2.heap.objs.size+1+1);obtain⟨c2,h2⟩:=dn h1;have e2:(cellsFrom (s2.heap.objs.size+1+1) scope.names []++aJ scope.names X.env.cells []).lookup x=some c:=e2;rw[List.lookup_append,h2]at e2;cases e2;have a1:=(aC (bx h2)).2;exact Nat.le_trans (Nat.le_add_right _ 2) a1
  ·exact⟨Nat.ne_of_lt (Nat.lt_succ_of_lt (fpThere b hb)),λx c e=>cne b hb x c e⟩
  ·rcases (f2 b hb).2.2.2.1 with z|z
   ·exact I2.ok.noex b o e z
   ·exact absurd (Nat.lt_of_lt_of_le (Heap.lt_size e) (Nat.le_trans I2.ok.bsz z)) (Nat.lt_irrefl _)
  ·rcases List.mem_cons.mp (I2.stkSub b hm) with z|z
   ·exact (f2 b hb).2.1 z
   ·exact (f2 b hb).2.2.1 z
 have I3:Inv Xc [] (iX js σ) (upd H2 s2.heap.objs.size (.lst [])) {s2 with heap:=h1'}:=by
  refine⟨cOk,⟨rfl,I2.tk⟩,I2.bare,Un.laid keep (Nat.le_refl _) frD,⟨_,hns,λi x v e1 e2 e3=>?_⟩,λx c e=>?_,?_,λx c e=>?_,λp hp=>?_,?_,?_⟩
  ·have e2:(js.map λo=>o.bind λj=>(σ[j]?).bind id)[i]?=some (some v):=e2
   rw[List.getElem?_map]at e2;cases q:js[i]? with
   |none=>rw[q]at e2;cases e2
   |some o=>
    rw[q]at e2;cases o with
    |none=>cases e2
    |some j=>
     obtain⟨a1,a2,a3⟩:=O.fr i x j e1 q;have hv:σ[j]?=some (some v):=by
      cases z:σ[j]? with
      |none=>rw[Option.map_some,Option.bind_some,z]at e2;cases e2
      |some y=>
       rw[Option.map_some,Option.bind_some,z]at e2;have e2:some (id y)=some (some v):=e2;rw[show y=some v from Option.some.inj e2]
     obtain⟨m,hn,hl⟩:=I2.loc;obtain⟨u,r,l⟩:=hl j x v a1 hv (.inr (.inl a3));refine⟨u,r,?_⟩;rcases l with ⟨k,_⟩|⟨k,c,e,o,ho,hd⟩
     ·rw[show X.env.kindOf x=some .cell from a3]at k;cases k
     ·have only:∀y∈scope.names,y.1=x->y.2=.free:=λy hy hyx=>?_
      ·refine .inr ⟨.inl (fX I2.ok.kind a3 a2 only),c,dY (List.mem_append_right _ (bx (mo a2 e))) (λp hp hx=>?_),o,keep _ _ ho,hd⟩
       rcases List.mem_append.mp hp with z|z
       ·have:=only _ (aC z).1 hx;cases this
       ·have z:=bN (acc:=[]) (λp hp=>nomatch hp) p z
        rw[hx,e]at z;exact (Option.some.inj z).symm
      obtain⟨i1,h1,e1'⟩:=List.mem_iff_getElem.mp hy;obtain⟨i2,h2,e2'⟩:=List.mem_iff_getElem.mp a2;have:i1=i2:=by
       refine (List.getElem_inj (h₀:=by rw[List.length_map];exact h1) (h₁:=by rw[List.length_map];exact h2) O.ndn).mp ?_
       rw[List.getElem_map,List.getElem_map,e1',e2'];exact hyx
      subst this;rw[e1']at e2';rw[e2']
  ·rcases lk x c e with z|z
   ·exact⟨none,(cok.empty x c z).1⟩
   ·obtain⟨v,o,ho,hd⟩:=I2.cell x c z;exact⟨v,o,keep _ _ ho,hd⟩
  ·show upd H2 _ _ (s2.heap.objs.size+1)=none;rw[ad hCD];exact frC
  ·rcases lk x c e with z|z
   ·have a1:=(aC z).2;show upd H2 _ _ c=none;rw[ad (Nat.ne_of_gt (Nat.lt_of_lt_of_le (Nat.lt_add_of_pos_right (by decide:0 < 2)) a1))]
    exact I2.hok.fresh (Nat.le_trans (Nat.le_add_right _ 2) a1)
   ·have a2:=old _ _ z;show upd H2 _ _ c=none;rw[ad (Nat.ne_of_lt a2)];exact I2.freeC x c z
  ·have hp:p∈X.pn++pins:=by rw[List.append_nil]at hp;exact hp
   obtain⟨e,n,ne,nf,d⟩:=I2.pin p hp;refine⟨keep _ _ e,by rw[ad (Nat.ne_of_lt (Heap.lt_size e))];exact n,Nat.ne_of_lt (Nat.lt_succ_of_lt (Heap.lt_size e)),λhm=>?_,d⟩
   rcases List.mem_cons.mp (I2.stkSub _ hm) with z|z
   ·exact ne z
   ·exact nf z
  ·exact I2.hok.laid keep (Nat.le_refl _) ⟨Nat.zero_le _,[],0,.nil,atD⟩
  ·show (js.map _).length=N.length;rw[List.length_map,O.len]
 have fpc:∀{H':Hp},(∀b∈fp,H' b=none)->∀b∈fp,mH Xc [] H' b:=λ{H'} hn b hb=>by
  refine⟨hn b hb,Nat.ne_of_lt (Nat.lt_succ_of_lt (fpThere b hb)),λhm=>?_,.inl hb,λx c e=>cne b hb x c e,λp hp=>(f2 b hb).2.2.2.2.2 p (by rw[List.append_nil]at hp;exact hp)⟩
  rcases List.mem_cons.mp (I2.stkSub b hm) with z|z
  ·exact (f2 b hb).2.1 z
  ·exact (f2 b hb).2.2.1 z
 have hcalm:Qt q Xc:=by
  cases q with
  |false=>exact hcalm
  |true=>exact hcalm.imp id λ⟨a,o,u,e,f,l⟩=>⟨a,o,u,e,I2.base.frzs a o u f,l⟩
 have st3:tn 0 h1':=T.keep 0 _ _ st2 λb hb o e=>keep b o e
 have fr3:∀b∈fp,(upd H2 s2.heap.objs.size (.lst [])) b=none:=λb hb=>by
  rw[ad (Nat.ne_of_lt (fpThere b hb))];exact (f2 b hb).1
 have bk:∀{p5:List (Addr×Obj)}{σ5:St}{H4:Hp}{s5:Shared},Inv Xc p5 σ5 H4 s5->∀h',Heap.SameBut (s2.heap.objs.size+1) s5.heap h'->Inv X pins σ H4 {s5 with heap:=h'}:=λ{p5 σ5 H4 s5} I5 h' hsame=>by
  have un5:Un (frs X.stack) fp H2 H4 s2.heap s5.heap:=I5.base;have neC:∀b o,s2.heap.get? b=some o->b≠s2.heap.objs.size+1:=λb o e=>Nat.ne_of_lt (Nat.lt_succ_of_lt (Heap.lt_size e))
  have fC:H4 (s2.heap.objs.size+1)=none:=I5.free;refine I2.call' (s':={s5 with heap:=h'}) (ch:=fp) I5.os ⟨λb o q n hb hx=>(hsame.2 b (neC b o q)).trans (un5.keep b o q n hb hx),λb o q n hb hx=>?_,un5.free,λb o q hx=>?_,un5.tups,un5.frzs,un5.tbls⟩ ?_ I5.bare (λb hb=>⟨(f2 b hb).2.2.2.1,(f2 b hb).2.1,(f2 b hb).2.2.2.2.1,(f2 b hb).2.2.2.2.2⟩)
  ·obtain⟨sl,z⟩:=un5.slot b o q n hb hx;exact⟨sl,(hsame.2 b (neC b o q)).trans z⟩
  ·obtain⟨o',z⟩:=un5.there b o q hx;exact⟨o',(hsame.2 b (neC b o q)).trans z⟩
  ·exact I5.hok.keptT λb u ob hb q=>(hsame.2 b λz=>by rw[z,fC]at hb;cases hb).trans q
 have hV:∀e s,tQ X scope (s2.heap.objs.size+1) N s2 H2 fp pins Ex e s->notedBy (model X.prog X.w) X.A (compEnvC scope (cellsFrom (s2.heap.objs.size+1+1) scope.names []++aJ scope.names X.env.cells []) (s2.heap.objs.size+1) X.env) (λx s'=>compPost (model X.prog X.w) X.A X.xe use Qf (.ref s2.heap.objs.size) (s2.heap.objs.size+1) (.error x) s') e s:=λe s5 ⟨pc,σc,Hc,sc,Ic,a,cls,B,H5,dx,ee,os,bare,un,hok5,⟨⟨a0,fl⟩,dd⟩,ha,inc,hE⟩=>by
  subst ee;rcases hp with hp|⟨⟨hst,hfr,hex⟩,hp⟩
  ·exact (hp _ _ _ hE).elim
  have fr0:X.A.frames=some (X.env::X.outer):=hst▸I2.ok.frames;have fl':Heap.FlyingW B (X.env::X.outer) a cls a0 s5.heap:=hst▸fl;have na:sc.heap.get? a=none:=pV (X:=Xc) (H2:=H5) ⟨a0,fl⟩ inc;show wpAny _ _ (noteFrame (.ref a) X.env) _ _ _;refine oj fr0 hfr fl' dd λh6 hd6 up6 dd6=>?_
  have I6:Inv Xc pc σc H5 {s5 with heap:=h6}:=Ic.behind (s':=s5) os bare un hok5 inc hd6.1 up6
  obtain⟨m6,hn6,_⟩:=id I6.loc;refine⟨m6,hn6,λh' hsame cenv _=>?_⟩
  obtain⟨oC,_,_,eC,dC,_⟩:=id hn6;have I7:=bk I6 h' hsame;obtain⟨st6,nB,ff6,oe,vs,T,oT,ts,he,⟨hc,h0⟩,hv,h1,nT,ne,hT,dT,h3⟩:=hd6;obtain⟨oe',he',hdx,ws,hw1,hw2⟩:=dd6;cases he.symm.trans he';cases hv.symm.trans hw1;have neA:a≠s2.heap.objs.size+1:=λz=>by
   have q:h6.get? (s2.heap.objs.size+1)=some oC:=eC;rw[<-z,he]at q;cases q;rw[hv]at dC;cases dC
  have neT:T≠s2.heap.objs.size+1:=λz=>by
   have q:h6.get? (s2.heap.objs.size+1)=some oC:=eC;rw[<-z,hT]at q;cases q;rw[dT]at dC;cases dC
  have ea:=(hsame.2 a neA).trans he;have eT:=(hsame.2 T neT).trans hT;have sz:3 < ts.size:=(Array.getElem?_eq_some_iff.mp h3).1;have old':∀b o,X.s₀.heap.get? b=some o->∃o',sc.heap.get? b=some o':=λb o q=>by
   have nf:b∉fp:=λhb=>by
    rcases (f2 b hb).2.2.2.1 with z|z
    ·rw[hex]at z;cases z
    ·exact absurd (Nat.lt_of_lt_of_le (Heap.lt_size q) z) (Nat.lt_irrefl _)
   obtain⟨o1,e1⟩:=I2.base.there b o q (by rw[hex];exact λz=>nomatch z)
   exact Ic.base.there b o1 e1 nf
  have n0:∀b,(∀o',sc.heap.get? b=some o'->False)->X.s₀.heap.get? b=none:=λb hb=>by
   cases q:X.s₀.heap.get? b with
   |none=>rfl
   |some o=>
    obtain⟨o',z⟩:=old' b o q;exact (hb o' z).elim
  have noT:∀o',sc.heap.get? T=some o'->False:=λo' q=>by
   obtain⟨o2,e2⟩:=un.there T o' q (λz=>nomatch z)
   have z:=inc T o2 e2 (.inr ⟨⟨o',q⟩,λhm=>by
    have hm:T∈frs (X.env::X.outer):=hst▸hm;obtain⟨_,o3,e3,nf⟩:=ff6.mem hm;rw[hT]at e3;cases e3;exact nf ts dT⟩)
   rw[nT]at z;cases z
  have hT5:H5 T=none:=by
   cases q:H5 T with
   |none=>rfl
   |some u=>
    obtain⟨ob,z⟩:=(hok5 T u q).isAt;have z2:=inc T ob z (.inl (by rw[q];exact λw=>nomatch w))
    rw[nT]at z2;cases z2
  refine uw (s:={s5 with heap:=h'}) ea hv h1 eT dT sz λh'' oT' ts' g1 g2 g3 g4=>?_
  exact hp pins σ H5 {s5 with heap:=h'} a T cls dx h'' I7 g4 (λo q=>by rw[eT]at q;cases q;exact⟨ts,dT⟩) ⟨oe,vs,oT',ts',a0,(g4 a (Ne.symm ne)).trans ea,hc,hdx,hv,h0,h1,hw2,ne,g1,g2,g3⟩ ha hT5 (n0 a λo' q=>by rw[na]at q;cases q) (n0 T noT) hE
 have loop:codeAny (model X.prog X.w) X.A (.compLoop (.ListComp elt [⟨tg,iter,ifs,0⟩] scope pos) 0 (.ref it) (.ref s2.heap.objs.size) (compEnvC scope (cellsFrom (s2.heap.objs.size+1+1) scope.names []++aJ scope.names X.env.cells []) (s2.heap.objs.size+1) X.env))
   (compPost (model X.prog X.w) X.A X.xe use Qf (.ref s2.heap.objs.size) (s2.heap.objs.size+1)) {s2 with heap:=h1'}:=by
  refine qK (V:=tQ X scope (s2.heap.objs.size+1) N s2 H2 fp pins Ex) (hV:=hV) (λn s'=>∃i σc H',Inv Xc [] σc H' s'/\tn i s'.heap/\(∀b∈fp,H' b=none)/\W i n σc H') ?_ m0 ⟨0,_,_,I3,st3,fr3,w0⟩
  rintro n s4 ⟨i,σc,H4,I4,st4,fr4,w4⟩;rcases turn i n σc H4 w4 with ⟨stop,q⟩|⟨go,step⟩
  ·refine thn (T.done Xc rfl rfl rfl hcalm i [] s4 σc H4 (λ_ _=>False) I4 (fpc fr4) st4 stop) λr s5 ⟨hr,I5⟩=>?_
   subst hr;obtain⟨m5,hn5,_⟩:=I5.loc;exact fin _ _ _ H4 m5 hn5 (I2.fpOk (Nat.le_succ _) I5.free) (λh' hsame=>bk I5 h' hsame) q
  ·refine thn (T.item Xc rfl rfl rfl hcalm i [] s4 σc H4 (λ_ _=>False) I4 (fpc fr4) st4 go) λr s5 ⟨u,hr,h5⟩=>?_
   subst hr;refine thn h5 λ_ s6 ⟨x,H6,I6,r6,y6,st6,fr6⟩=>?_
   have I6':=I6.pinned (fpc fr6) (T.obj _ _ st6);refine thn (hg _ _ _ _ _ _ s6 σc H6 x u _ I6' r6 (step x H6 y6)) λ_ s7 ⟨σ7,H7,I7,q7⟩=>?_
   refine thn (ht _ _ _ _ _ _ s7 σ7 H7 _ I7 q7) λok s8 ⟨H8,I8,q8⟩=>?_
   have back:∀{H9:Hp}{s9:Shared}{σ9:St},Inv Xc ([]++jp fp s6.heap) σ9 H9 s9->Inv Xc [] σ9 H9 s9/\tn (i+1) s9.heap/\∀b∈fp,H9 b=none:=λ{H9 s9 σ9} I9=>by
    refine⟨I9.unpinned,T.keep _ _ _ st6 λb hb o e=>(I9.pin (b,o) (List.mem_append_right _ (List.mem_append_right _ (dB hb e)))).1,λb hb=>?_⟩
    obtain⟨o,e,d⟩:=T.obj _ _ st6 b hb;exact (I9.pin (b,o) (List.mem_append_right _ (List.mem_append_right _ (dB hb e)))).2.1
   cases ok with
   |false=>
    rw[if_neg Bool.false_ne_true]at q8 ⊢;obtain⟨m',hm,w8⟩:=q8;obtain⟨b1,b2,b3⟩:=back I8;exact⟨m',hm,i+1,σ7,H8,b1,b2,b3,w8⟩
   |true=>
    rw[if_pos rfl]at q8 ⊢;refine thn (he _ _ _ _ _ _ s8 σ7 H8 _ (I8.wish _) q8) λy s9 ⟨z,H9,I9,r9,ys,e9,hl,m',hm,w9⟩=>?_
    have I9:=I9.unwish;refine thn (kA (X:=Xc) _ s9 σ7 H9 (.ref s2.heap.objs.size) [z] (.ref s2.heap.objs.size) [y] (λ_ H10=>H10=upd H9 s2.heap.objs.size (.lst (ys++[z]))) I9 rfl (.cons r9 .nil) ⟨_,ys,z,rfl,rfl,e9,hl,rfl⟩) λ_ s10 ⟨_,H10,I10,_,e10⟩=>?_
    subst e10;obtain⟨b1,b2,b3⟩:=back I10;exact⟨m',hm,i+1,σ7,_,b1,b2,b3,w9⟩
 exact codeAny_compStart_list loop (T.self _ 0 _ _ _ st3 loop)
theorem PE.wish0{V:Value->Shared->Prop}{C:Addr}{s2:Shared}{H2:Hp}{fp:List Addr}{pn:List (Addr×Obj)}(h:PE (compCx X scope C N s2 H2 fp pn) e t):PE ((compCx X scope C N s2 H2 fp pn).wish V) e t:=λpins s σ H Q I q=>
 wpAny_mono (h pins s σ H Q I.unwish q) (λ_ _ ⟨v,H',I',r⟩=>⟨v,H',I'.wish _,r⟩) λ_ _ z=>z.elim
theorem v9{q:Bool}(hok:d9 N js scope X.env.scope X.N=true)(hcalm:Qt q X)(hi:PIB q X tg iter wi)
  (hg:∀C s2 H2 fp pn,PG (compCx X scope C N s2 H2 fp pn) tg g) (ht:∀C s2 H2 fp pn,PIf (compCx X scope C N s2 H2 fp pn) ifs tt) (he:∀C s2 H2 fp pn,PE (compCx X scope C N s2 H2 fp pn) elt te)
  (hs:∀x,foldedSetIterable iter X.env x=pure x:=by intro _;rfl):PE X (.ListComp elt [⟨tg,iter,ifs,0⟩] scope pos) (pT js wi g tt te):=λpins s σ H Q I h=>by
 rw[eval_ListComp];exact nG (use:=none) (Ex:=λ_ _ _=>False) hok hcalm hi hg ht (λC s2 H2 fp pn=>(he C s2 H2 fp pn).wish0) (.inl λ_ _ _ z=>z) hs I h λD C s5 H4 m5 hn _ key q=>⟨m5,hn,λh' hs'=>⟨.ref D,H4,key h' hs',rfl,q⟩⟩
theorem jk{q:Bool}{spos:Pos}(hN:X.N.Nodup)(hy:X.N[i]?=some y)(hl:X.env.scope.names.lookup y=some .local)(hok:d9 N js scope X.env.scope X.N=true)(hcalm:Qt q X)(hi:PIB q X tg iter wi)
  (hg:∀C s2 H2 fp pn,PG (compCx X scope C N s2 H2 fp pn) tg g) (ht:∀C s2 H2 fp pn,PIf (compCx X scope C N s2 H2 fp pn) ifs tt) (he:∀C s2 H2 fp pn,PE (compCx X scope C N s2 H2 fp pn) elt te)
  (hs:∀x,foldedSetIterable iter X.env x=pure x) (hsw:swapsWith (.ListComp elt [⟨tg,iter,ifs,0⟩] scope pos) (some (.Name y py)) spos.line X.env=pure true) :
  PS X (.Assign [.Name y py] (.ListComp elt [⟨tg,iter,ifs,0⟩] scope pos) spos) (yC (pT js wi g tt te) (qh i)):=by
 intro pins s σ H D I h;rw[exec_Assign_Name_used _ _ _ _ hsw];refine wpAny_bind (wpAny_standAt (wpAny_bind ?_));show wpAny _ _ (do let _<-comprehension (.ListComp elt [⟨tg,iter,ifs,0⟩] scope pos) scope X.env _ (newList []) false (eval iter X.env) (some (assign (.Name y py) X.env))) _ _ s
 refine wpAny_bind (wpAny_mono (nG (use:=some (assign (.Name y py) X.env)) (Qf:=λ_ s'=>SP X pins D .next s') (Ex:=λ_ _ _=>False) hok hcalm hi hg ht (λC s2 H2 fp pn=>(he C s2 H2 fp pn).wish0) (.inl λ_ _ _ z=>z) hs I h λDa C s5 H4 m5 hn fp key q=>?_) (λ_ s' hq=>wpAny_pure (wpAny_pure hq)) λ_ _ z=>z)
 show wpAny _ _ (assign (.Name y py) X.env (.ref Da)) _ _ _;have J:Inv X pins σ H4 s5:=key s5.heap (Heap.SameBut.refl _ _);obtain⟨oC,es,ep,eC,rC⟩:=id hn;obtain⟨f0,f1,f2,f3,f4,f5⟩:=id fp;have JC:Inv X (pins++[(C,oC)]) σ H4 s5:=J.pins_of λp hp=>by
  rcases List.mem_append.mp hp with z|z
  ·exact J.pin p (List.mem_append_right _ z)
  ·have e:p=(C,oC):=by simpa using z
   subst e;exact⟨eC,f0,f1,f2,λv hv=>by
    have z:=rC.1;rw[show oC.data=.cell v from hv]at z;cases z⟩
 refine thn ((iu (pos:=py) hN hy (.inl hl) (.inr hl)) _ s5 σ H4 (.ref Da) (.ref Da) (λσ' H'=>H'=H4/\D.nx σ' H') JC rfl ⟨rfl,q⟩) λ_ s6 ⟨σ6,H6,I6,e6,q6⟩=>?_
 subst e6;have eC6:s6.heap.get? C=some oC:=(I6.pin (C,oC) (List.mem_append_right _ (List.mem_append_right _ (by simp)))).1
 refine⟨m5,hn.at' λo e=>?_,λh' hsame=>⟨σ6,H6,?_,q6⟩⟩
 ·rw[eC]at e;cases e;exact eC6
 ·exact (Inv.unpinned I6).turned (t':=s6.toks) (it:=C) (λb o hb e=>(hsame.2 b hb).trans e) f0 f1 f3 f4 f5
end
end L2
namespace L2
open PySem PySem.Spec PySem.Calls PyProof.Rows PySem.W PySem.Builtin PySem.Builtin.ObjectAttr PySem.Builtin.Getset_descriptor
section
variable {h:Heap}{os:OsState}{o:Obj}{K:PySem.W.Frag}
theorem vE(X:K.In h)(hx:h.get? a=some o)(hc:o.cls=.ref C)(hm:PySem.W.mroIn K C (.type "object")=some true)(hq:R (.ok (.ret (.ref C))) ⟨h,g,d,t,os⟩) :
  codeAny (model prog w) A (.call (.builtin "getset_descriptor.__get__") ⟨[.builtin "object.__class__",.ref a,tp],[]⟩) R ⟨h,g,d,t,os⟩:=by
 have L0:PySem.W.Looks (model prog w) h (typeOf (.ref a)) (.ref C):=hc▸(PySem.W.Looks.ld hx).andThen .now;have L1:=PySem.W.looks_mroIn (M:=model prog w) X hm;refine codeAny_call_builtin KF.slot_gs.plain KF.entry_gs (KF.slot_gs.check _ _ _ _ _ _ _ _ KF.type_class (KF.args_gs _ _ _) ?_);unfold Builtin.«getset_descriptor.__get__» descrGet;rw[dga_obj];refine wpAny_bind (wpAny_pure ?_);unfold descrGetter descrCheckInstance descrNameAndClass isInstance;simp only[KF.owner_class]
 repeat lk
 refine⟨Code.quiet_builtin _ (by decide +kernel),codeAny_builtin KF.entry_class ?_⟩
 unfold Builtin.«object.__class__» shownTypeOf
 repeat lk
 exact hq
theorem nr(X:K.In h)(ha:findIn K (.ref C) name=some (some b))(hg:specialIn K b "__get__"=some (some gg))(ht:takesIn K b=some true):Looks M h (find (.ref a) (.ref C) name) (.bind gg b):=by
 have L1:=looks_findIn (M:=M) X ha;have L2:Looks M h (getOf (some b)) (some gg):=looks_specialIn X hg;have L3:=looks_takesIn (M:=M) X ht;refine L1.andThen (L2.andThen ?_);exact (show Looks M h (dataDescriptor? (some b) (some gg)) (some (gg,b)) from L3.andThen .now).andThen (Looks.tag .now)
variable (hga:findIn K (.ref C) "__getattribute__"=some (some (.builtin "BaseException.__getattribute__"))) (hgn:findIn K (.ref C) "__getattr__"=some none) (hcl:findIn K (.ref C) "__class__"=some (some (.builtin "object.__class__")))
 (hn:specialIn K (.builtin "object.__class__") "__get__"=some (some (.builtin "getset_descriptor.__get__"))) (htk:takesIn K (.builtin "object.__class__")=some true) (hm:mroIn K C (.type "object")=some true) (hmB:mroIn K C (.type "BaseException")=some true)
include hcl hn htk hm in
theorem qV(X:K.In h)(hx:h.get? a=some o)(hc:o.cls=.ref C)(hq:Q (.done (.ret (.ref C))) ⟨h,g,d,t,os⟩) :
  wpAny (model prog w) A (Builtin.«object.__getattribute__» ⟨[.ref a,.str "__class__" tk],[]⟩) Q E ⟨h,g,d,t,os⟩:=by
 have L0:Looks (model prog w) h (typeOf (.ref a)) (.ref C):=hc▸(Looks.ld hx).andThen .now;have L1:=nr (M:=model prog w) (a:=a) X hcl hn htk;refine wpAny_bind (wpAny_pure (wpAny_bind (wpAny_pure (wpAny_bind (L0.at (wpAny_bind (L1.at ?_)))))));show wpAny _ _ (bindTo _ _ _ _) _ _ _;refine wpAny_bind (wpAny_holding (wpAny_call (vE X hx hc hm ?_)));exact wpAny_pure hq
include hmB in
theorem rg(X:K.In h)(hx:h.get? a=some o)(hc:o.cls=.ref C)(hq:Q () ⟨h,g,d,t,os⟩):wpAny M A (checkBuiltinCall "BaseException.__getattribute__" ⟨[.ref a,nameV],[]⟩) Q E ⟨h,g,d,t,os⟩:=by
 have hk:builtinKind "BaseException.__getattribute__"=some .slot:=by decide +kernel
 have hsplit:splitId "BaseException.__getattribute__"=some ("BaseException","__getattribute__"):=by decide +kernel
 have L0:Looks M h (typeOf (.ref a)) (.ref C):=hc▸(Looks.ld hx).andThen .now;have L1:=looks_mroIn (M:=M) X hmB;have ha:=F.args_bexc_ga (.ref a) nameV;simp only[checkBuiltinCall,hk,hsplit];refine wpAny_bind ?_
 ·unfold isInstance;refine wpAny_bind (L0.at (L1.at ?_))
  repeat (first|assumption|wp_step)
include hga hgn hcl hn htk hm hmB in
theorem um(X:K.In h)(hx:h.get? a=some o)(hc:o.cls=.ref C)(hq:Q (some (.ref C)) ⟨h,g,d,t+1,os⟩):wpAny (model prog w) A (getAttr? (.ref a) "__class__") Q E ⟨h,g,d,t,os⟩:=by
 have L0:Looks (model prog w) h (typeOf (.ref a)) (.ref C):=hc▸(Looks.ld hx).andThen .now;have L1:=looks_findIn (M:=model prog w) X hga;have L2:=looks_findIn (M:=model prog w) X hgn;have FB:Slot "ValueError" "__getattribute__" "BaseException.__getattribute__":=F.excAttr_ValueError.ga;have f3:=FB.bind (.ref a);unfold getAttr? getAttrBy? getAttrBy;refine wpAny_bind (wpAny_mkText (wpAny_bind (wpAny_attempt (wpAny_holding (wpAny_bind (L0.at (wpAny_bind (L1.at ?_))))))));show wpAny _ _ (getAttrByItsOwn _ _ _ _ _ _) _ _ _;refine wpAny_bind (L2.at (wpAny_bind (wpAny_attempt (wpAny_holding ?_))));unfold callGetattribute;show wpAny _ _ (boundAndCalled _ _ _) _ _ _;unfold boundAndCalled;rw[f3];refine wpAny_bind (wpAny_pure ?_);refine wpAny_call (codeAny_call_builtin FB.plain F.entry_bexc_ga (rg hmB X hx hc (qV hcl hn htk hm X hx hc ?_)));exact wpAny_pure (wpAny_pure hq)
end
structure ExcI (K:PySem.W.Frag)(C:Addr):Prop where
 hd:PySem.W.hasDictIn K C=true
 ga:findIn K (.ref C) "__getattribute__"=some (some (.builtin "BaseException.__getattribute__"))
 gn:findIn K (.ref C) "__getattr__"=some none
 cl:findIn K (.ref C) "__class__"=some (some (.builtin "object.__class__"))
 n:specialIn K (.builtin "object.__class__") "__get__"=some (some (.builtin "getset_descriptor.__get__"))
 tk:takesIn K (.builtin "object.__class__")=some true
 m:mroIn K C (.type "object")=some true
 mB:mroIn K C (.type "BaseException")=some true
theorem uh{K:PySem.W.Frag}(X:ExcI K C):KitX K (.ref a) (.ref C) (λh=>∃o,h.get? a=some o/\o.cls=.ref C) where
 ty:=λM h _ ⟨o,hx,hc⟩=>hc▸(Looks.ld hx).andThen .now
 it:=λ_ _ Y _=>by
  obtain⟨cdD,hcD,_⟩:=any_some X.hd;unfold clsIn at hcD;split at hcD
  ·rename_i c' d' cd' sl' ho;intro A' Q' E' s' k q;unfold isType loadHead;exact wpAny_bind (wpAny_loadPart (k _ _ (Y _ _ ho)) (wpAny_pure q))
  ·cases hcD
 ne:=λh tp dd its n sl Y htp=>by
  obtain⟨cdD,hcD,_⟩:=any_some X.hd;refine Bool.eq_false_iff.mpr λq=>?_
  have e:C=tp:=Value.ref.inj (beq_iff_eq.mp q);subst e;unfold clsIn at hcD;split at hcD
  ·rename_i c' d' cd' sl' ho;have z:=(Y _ _ ho).symm.trans htp;cases z
  ·cases hcD
 ca:=λ{prog w A E Q s} Y ⟨o,hx,hc⟩ k=>um X.ga X.gn X.cl X.n X.tk X.m X.mB Y hx hc k
end L2
namespace L2
open PySem PySem.Spec PySem.Calls PyProof.Rows PySem.W PySem.Builtin PySem.Builtin.ObjectAttr
section
variable {h:Heap}{os:OsState}{o:Obj}{K:PySem.W.Frag}
end
end L2
namespace L2
open PySem PySem.Spec PySem.Calls PyProof.Rows PySem.W
section
variable {s:Shared}
end
end L2
namespace L2
open PySem PySem.Spec PySem.Calls PyProof.Rows PySem.W
open AutoSeq1 (wpAny_loadPart')
open MeetsSeq MeetsSeq2 MeetsSeq3
section
variable {A:Around}{s:Shared}
end
end L2
namespace L2
open PySem PySem.Spec PyProof.Rows
section
variable {A:Around}{s:Shared}{St:Nat->Heap->Prop}{xs:Array (Int×Tok)}
end
end L2
namespace L2
open PySem PySem.Spec PySem.Calls PyProof.Rows PySem.W
open AutoSeq1 (wpAny_loadPart')
noncomputable def P2(h:Heap)(v:Value)(p:Int×Int):Prop:=∃a n t u dd sl,v=.ref a/\h.get? a=some {cls:=.type "tuple",dict:=dd,data:=.seq #[.int p.1 t,.int p.2 u] n,slots:=sl}
section
variable {prog:Program}{w:World}{A:Around}{s:Shared}{St:Nat->Heap->Prop}{I l:Addr}{fp wr:List Addr}{n:Nat}{P:Nat->Value->Prop}{R:Result->Shared->Prop}{kw:List (Str×Value)}{Q:Value->Shared->Prop}{E:Value->Shared->Prop}
end
end L2
namespace L2
open PySem PySem.Spec PyProof.Rows
inductive D where
 |non|bl (b:Bool)|int (i:Int)|str (x:Str)|tup (ds:List D)|rol (ds:List D)|ref (a:Addr)
 |obj (i:Nat) (C:Addr) (ns:List Nat) (ds:List D)|dik (ks:List Key) (ds:List D)|dit (ks:List (List Int)) (ds:List D)
noncomputable def oJ:Nat->Nat->List Nat
 |0,_=>[]
 |k+1,n=>if n=0 then [] else (n % 128)::oJ k (n / 128)
noncomputable def fnm(n:Nat):Str:=⟨(oJ n n).toArray⟩
noncomputable def v7:List Nat->Nat
 |[]=>0
 |d::r=>d+128 * v7 r
theorem jK:∀(k n:Nat),n<=k->v7 (oJ k n)=n
 |0,n,h=>by have:n=0:=Nat.le_zero.mp h;subst this;rfl
 |k+1,n,h=>by
  unfold oJ;by_cases z:n=0
  ·rw[if_pos z];exact z.symm
  ·rw[if_neg z];show n % 128+128 * v7 (oJ k (n / 128))=n;rw[jK k (n / 128) (by omega)]
   omega
theorem lF(h:fnm a=fnm b):a=b:=by
 have e:oJ a a=oJ b b:=by
  have:=congrArg (λx:Str=>x.cps.toList) h
  simpa [fnm] using this
 have:=congrArg v7 e
 rwa [jK a a (Nat.le_refl _),jK b b (Nat.le_refl _)]at this
noncomputable def tH(k:List Int):Int:=reduceHash (Builtin.Tuple.tupleHashOf (k.map hashInt))
noncomputable def dH(a:Addr)(xs:List (List Int×Addr×Value)):Heap->Prop:=λh=>∃o es ep,h.get? a=some o/\o.ExactDict/\o.data=.dict es ep/\es.toList=xs.map λx=>(⟨tH x.1,.ref x.2.1,x.2.2⟩:DictEntry)
structure TabOk (K:PySem.W.Frag)(H:Hp)(a:Addr) (ks:List (List Int)) (xs:List (List Int×Addr×Value)) (vs:List V):Prop where
 kx:xs.map (·.1)=ks
 nd:ks.Nodup
 sz:ks.length<=sizeLine
 no:(a == sysModules)=false
 vx:Vals vs (xs.map (·.2.2))
 at_:∀x∈xs,SqT K H x.2.1 (x.1.map V.int)
noncomputable def SqM(K:PySem.W.Frag)(a:Addr)(xs:List V):Prop:=∃(its:List Value) (n:Nat),K.lookup a=some {cls:=.type "list",data:=.seq its.toArray n}/\its.length<=sizeLine/\Vals xs its
noncomputable def SqF(K:PySem.W.Frag)(H:Hp)(a:Addr)(xs:List V):Prop:=(∃o,H a=some (.frz o (.lst xs)))\/SqM K a xs
theorem SqM.sq{K:PySem.W.Frag}(h:SqM K a xs):SqL K H a xs:=by
 obtain⟨its,n,e,z,r⟩:=h;exact .inr ⟨_,its.toArray,n,e,rfl,rfl,rfl,by simpa using z,by simpa using r⟩
theorem SqF.sq{K:PySem.W.Frag}(h:SqF K H a xs):SqL K H a xs:=by
 rcases h with h|h
 ·exact .inl (.inr h)
 ·exact h.sq
mutual
noncomputable def Den(K:PySem.W.Frag)(H:Hp):D->V->Prop
 |.non,v=>v=.non
 |.bl b,v=>v=.bl b
 |.int i,v=>v=.int i
 |.str x,v=>v=.str x
 |.tup ds,v=>∃p vs,v=.ref p/\SqT K H p vs/\DenL K H ds vs
 |.rol ds,v=>∃p vs,v=.ref p/\SqF K H p vs/\DenL K H ds vs
 |.ref a,v=>v=.ref a
 |.obj _ C ns ds,v=>∃p vs o dx,v=.ref p/\H p=some (.frz o (.ins C dx ((ns.map fnm).zip vs)))/\ns.length=vs.length/\DenL K H ds vs
 |.dik ks ds,v=>∃p vs o,v=.ref p/\H p=some (.frz o (.dK (ks.zip vs)))/\ks.length=vs.length/\DenL K H ds vs
 |.dit ks ds,v=>∃p vs o xs,v=.ref p/\H p=some (.frz o (.ext (dH p xs)))/\TabOk K H p ks xs vs/\DenL K H ds vs
noncomputable def DenL(K:PySem.W.Frag)(H:Hp):List D->List V->Prop
 |[],vs=>vs=[]
 |d::ds,vs=>∃v r,vs=v::r/\Den K H d v/\DenL K H ds r
end
structure TM (K:PySem.W.Frag)(H H':Hp):Prop where
 t:∀p xs,SqT K H p xs->SqT K H' p xs
 f:∀p xs,SqF K H p xs->SqF K H' p xs
 g:∀p o u,H p=some (.frz o u)->H' p=some (.frz o u)
theorem TM.refl{K:PySem.W.Frag}(H:Hp):TM K H H:=⟨λ_ _ h=>h,λ_ _ h=>h,λ_ _ _ h=>h⟩
theorem TM.trans{K:PySem.W.Frag}(a:TM K H H1)(b:TM K H1 H2):TM K H H2:=⟨λp xs h=>b.t p xs (a.t p xs h),λp xs h=>b.f p xs (a.f p xs h),λp o u h=>b.g p o u (a.g p o u h)⟩
theorem TM.un{K:PySem.W.Frag}(t:∀b xs,H b=some (.tup xs)->H' b=some (.tup xs))(f:∀b o u,H b=some (.frz o u)->H' b=some (.frz o u)):TM K H H':=⟨λq xs h=>by
 rcases h with (h|⟨ob,h⟩)|h
 ·exact .inl (.inl (t _ _ h))
 ·exact .inl (.inr ⟨ob,f _ _ _ h⟩)
 ·exact .inr h,λq xs h=>by
 rcases h with ⟨ob,h⟩|h
 ·exact .inl ⟨ob,f _ _ _ h⟩
 ·exact .inr h,f⟩
theorem TM.new{K:PySem.W.Frag}(hp:H p=none):TM K H (upd H p o):=
 .un (λb xs h=>by rw[ad (aE h hp)];exact h) λb ob u h=>by rw[ad (aE h hp)];exact h
theorem TM.put{K:PySem.W.Frag}(hp:H p=some u)(h1:∀xs,u≠.tup xs)(h2:∀ob v,u≠.frz ob v):TM K H (upd H p o):=
 .un (λb xs h=>by rw[ad (ne_of h hp λz=>h1 _ z.symm)];exact h) λb ob u h=>by rw[ad (ne_of h hp λz=>h2 _ _ z.symm)];exact h
section
variable {K:PySem.W.Frag}
mutual
theorem Den.mono(t:TM K H H'):∀{d:D}{v:V},Den K H d v->Den K H' d v
 |.non,_,h=>h
 |.bl _,_,h=>h
 |.int _,_,h=>h
 |.str _,_,h=>h
 |.ref _,_,h=>h
 |.tup ds,v,h=>by
  obtain⟨p,vs,e,s,l⟩:=h;exact⟨p,vs,e,t.t _ _ s,DenL.mono t l⟩
 |.rol ds,v,h=>by
  obtain⟨p,vs,e,s,l⟩:=h;exact⟨p,vs,e,t.f _ _ s,DenL.mono t l⟩
 |.obj i C ns ds,v,h=>by
  obtain⟨p,vs,o,dx,e,s,z,l⟩:=h;exact⟨p,vs,o,dx,e,t.g _ _ _ s,z,DenL.mono t l⟩
 |.dik ks ds,v,h=>by
  obtain⟨p,vs,o,e,s,z,l⟩:=h;exact⟨p,vs,o,e,t.g _ _ _ s,z,DenL.mono t l⟩
 |.dit ks ds,v,h=>by
  obtain⟨p,vs,o,xs,e,s,z,l⟩:=h;exact⟨p,vs,o,xs,e,t.g _ _ _ s,⟨z.kx,z.nd,z.sz,z.no,z.vx,λx hx=>t.t _ _ (z.at_ x hx)⟩,DenL.mono t l⟩
theorem DenL.mono(t:TM K H H'):∀{ds:List D}{vs:List V},DenL K H ds vs->DenL K H' ds vs
 |[],_,h=>h
 |d::ds,vs,h=>by
  obtain⟨v,r,e,a,b⟩:=h;exact⟨v,r,e,Den.mono t a,DenL.mono t b⟩
end
theorem DenL.length:∀{ds:List D}{vs:List V},DenL K H ds vs->ds.length=vs.length
 |[],_,h=>by cases h;rfl
 |d::ds,vs,h=>by
  obtain⟨v,r,rfl,_,b⟩:=h;rw[List.length_cons,List.length_cons,DenL.length b]
theorem DenL.get:∀{ds:List D}{vs:List V}{i:Nat}{d:D},DenL K H ds vs->ds[i]?=some d->∃v,vs[i]?=some v/\Den K H d v
 |[],_,_,_,_,e=>by simp at e
 |d::ds,vs,0,d',h,e=>by
  obtain⟨v,r,rfl,a,b⟩:=h;simp at e;subst e;exact⟨v,rfl,a⟩
 |d::ds,vs,i+1,d',h,e=>by
  obtain⟨v,r,rfl,a,b⟩:=h;obtain⟨u,e1,e2⟩:=DenL.get (i:=i) b (by simpa using e)
  exact⟨u,by simpa using e1,e2⟩
theorem DenL.get':∀{ds:List D}{vs:List V}{i:Nat}{v:V},DenL K H ds vs->vs[i]?=some v->∃d,ds[i]?=some d/\Den K H d v
 |[],_,_,_,h,e=>by cases h;simp at e
 |d::ds,vs,0,v',h,e=>by
  obtain⟨v,r,rfl,a,b⟩:=h;simp at e;subst e;exact⟨d,rfl,a⟩
 |d::ds,vs,i+1,v',h,e=>by
  obtain⟨v,r,rfl,a,b⟩:=h;obtain⟨u,e1,e2⟩:=DenL.get' (i:=i) b (by simpa using e)
  exact⟨u,by simpa using e1,e2⟩
theorem DenL.append:∀{ds es:List D}{vs ws:List V},DenL K H ds vs->DenL K H es ws->DenL K H (ds++es) (vs++ws)
 |[],_,_,_,h,g=>by cases h;exact g
 |d::ds,_,_,_,h,g=>by
  obtain⟨v,r,rfl,a,b⟩:=h;exact⟨v,r++_,rfl,a,DenL.append b g⟩
theorem DenL.nil:DenL K H [] []:=rfl
theorem DenL.cons(a:Den K H d v)(b:DenL K H ds vs):DenL K H (d::ds) (v::vs):=⟨v,vs,rfl,a,b⟩
theorem DenL.one(a:Den K H d v):DenL K H [d] [v]:=.cons a .nil
theorem DenL.take:∀{ds:List D}{vs:List V} (n:Nat),DenL K H ds vs->DenL K H (ds.take n) (vs.take n)
 |_,_,0,_=>rfl
 |[],_,n+1,h=>by cases h;rfl
 |d::ds,_,n+1,h=>by
  obtain⟨v,r,rfl,a,b⟩:=h;exact⟨v,r.take n,rfl,a,DenL.take n b⟩
theorem DenL.drop:∀{ds:List D}{vs:List V} (n:Nat),DenL K H ds vs->DenL K H (ds.drop n) (vs.drop n)
 |_,_,0,h=>h
 |[],_,n+1,h=>by cases h;rfl
 |d::ds,_,n+1,h=>by
  obtain⟨v,r,rfl,a,b⟩:=h;exact DenL.drop n b
theorem DenL.reverse:∀{ds:List D}{vs:List V},DenL K H ds vs->DenL K H ds.reverse vs.reverse
 |[],_,h=>by cases h;rfl
 |d::ds,_,h=>by
  obtain⟨v,r,rfl,a,b⟩:=h;rw[List.reverse_cons,List.reverse_cons];exact (DenL.reverse b).append (.one a)
theorem DenL.set(a:Den K H d v):∀{ds:List D}{vs:List V} (i:Nat),DenL K H ds vs->DenL K H (ds.set i d) (vs.set i v)
 |[],_,_,h=>by cases h;rfl
 |_::ds,_,0,h=>by
  obtain⟨_,r,rfl,_,b⟩:=h;exact⟨v,r,rfl,a,b⟩
 |e::ds,_,i+1,h=>by
  obtain⟨u,r,rfl,c,b⟩:=h;exact⟨u,_,rfl,c,DenL.set a i b⟩
theorem DenL.int_of:∀{ns:List Int}{vs:List V},DenL K H (ns.map D.int) vs->vs=ns.map V.int
 |[],_,h=>h
 |n::ns,vs,h=>by
  obtain⟨v,r,rfl,a,b⟩:=h;rw[DenL.int_of b];cases (show v=.int n from a);rfl
theorem DenL.of_int:∀{ns:List Int},DenL K H (ns.map D.int) (ns.map V.int)
 |[]=>rfl
 |n::ns=>⟨.int n,ns.map V.int,rfl,rfl,DenL.of_int⟩
end
structure XE where
 c:Nat
 pl:Option (Nat×D)
noncomputable def XD(K:PySem.W.Frag)(H:Hp)(i:XE)(dx:Option Addr):Prop:=match i.pl with
 |none=>dx=none
 |some (f,y)=>∃p o v,dx=some p/\H p=some (.frz o (.xd [(fnm f,v)]))/\Den K H y v
theorem XD.mono{K:PySem.W.Frag}(t:TM K H H')(h:XD K H i dx):XD K H' i dx:=by
 obtain⟨c,pl⟩:=i;cases pl with
 |none=>exact h
 |some q=>
  obtain⟨p,o,v,e,g,d⟩:=h;exact⟨p,o,v,e,t.g _ _ _ g,d.mono t⟩
inductive DO where
 |lst (ds:List D)
 |dk (ks:List Key) (ds:List D)
 |dt (ks:List (List Int)) (ds:List D)
 |ins (i:Nat) (C:Addr) (ns:List Nat) (ds:List D)
 |exc (i:XE) (cls:Value)
 |stl (φ:Heap->Prop)
noncomputable abbrev MH:=Addr->Option DO
noncomputable def put(M:MH)(a:Addr)(o:DO):MH:=λb=>if b=a then some o else M b
theorem ah:put M a o a=some o:=if_pos rfl
theorem bF(h:b≠a):put M a o b=M b:=if_neg h
theorem cV:put (put M a o) a u=put M a u:=by
 funext b;unfold put;split<;>rfl
noncomputable def OD(K:PySem.W.Frag)(H:Hp)(a:Addr):DO->Prop
 |.lst ds=>∃vs,H a=some (.lst vs)/\DenL K H ds vs
 |.dk ks ds=>∃vs,H a=some (.dK (ks.zip vs))/\ks.length=vs.length/\DenL K H ds vs
 |.dt ks ds=>∃vs xs,H a=some (.ext (dH a xs))/\TabOk K H a ks xs vs/\DenL K H ds vs
 |.ins _ C ns ds=>∃dx vs,H a=some (.ins C dx ((ns.map fnm).zip vs))/\ns.length=vs.length/\DenL K H ds vs
 |.exc i cls=>∃o dx,H a=some (.frz o (tj a cls dx))/\XD K H i dx
 |.stl φ=>H a=some (.ext φ)
noncomputable def RelM(K:PySem.W.Frag)(M:MH)(H:Hp):Prop:=∀a o,M a=some o->OD K H a o
noncomputable abbrev St3:=List (Option D)
noncomputable def DenS(K:PySem.W.Frag)(H:Hp)(σ3:St3)(σ:St):Prop:=σ3.length=σ.length/\∀(i:Nat)(d:D),σ3[i]?=some (some d)->∃v,σ[i]?=some (some v)/\Den K H d v
section
variable {K:PySem.W.Frag}
theorem OD.tracked(h:OD K H a o):∃u,H a=some u:=by
 cases o with
 |lst ds=>obtain⟨_,e,_⟩:=h;exact⟨_,e⟩
 |dk ks ds=>obtain⟨_,e,_⟩:=h;exact⟨_,e⟩
 |dt ks ds=>obtain⟨_,_,e,_⟩:=h;exact⟨_,e⟩
 |ins i C ns ds=>obtain⟨_,_,e,_⟩:=h;exact⟨_,e⟩
 |exc i cls=>obtain⟨_,_,e,_⟩:=h;exact⟨_,e⟩
 |stl φ=>exact⟨_,h⟩
theorem RelM.fresh(r:RelM K M H)(hp:H p=none):M p=none:=by
 cases e:M p with
 |none=>rfl
 |some o=>
  obtain⟨u,z⟩:=(r p o e).tracked;rw[hp]at z;cases z
theorem OD.stay(t:TM K H H')(e:H' a=H a)(h:OD K H a o):OD K H' a o:=by
 cases o with
 |lst ds=>obtain⟨vs,q,l⟩:=h;exact⟨vs,e.trans q,l.mono t⟩
 |dk ks ds=>obtain⟨vs,q,n,l⟩:=h;exact⟨vs,e.trans q,n,l.mono t⟩
 |dt ks ds=>obtain⟨vs,xs,q,z,l⟩:=h;exact⟨vs,xs,e.trans q,⟨z.kx,z.nd,z.sz,z.no,z.vx,λx hx=>t.t _ _ (z.at_ x hx)⟩,l.mono t⟩
 |ins i C ns ds=>obtain⟨dx,vs,q,n,l⟩:=h;exact⟨dx,vs,e.trans q,n,l.mono t⟩
 |exc i cls=>obtain⟨o,dx,q,x⟩:=h;exact⟨o,dx,e.trans q,x.mono t⟩
 |stl φ=>exact e.trans h
theorem RelM.grow(r:RelM K M H)(hp:H p=none):RelM K M (upd H p o):=λa u e=>by
 obtain⟨x,z⟩:=(r a u e).tracked;exact (r a u e).stay (.new hp) (ad (aE z hp))
theorem RelM.lay(r:RelM K M H)(hp:H p=none)(h:OD K (upd H p o) p u):RelM K (put M p u) (upd H p o):=λa x e=>by
 by_cases ha:a=p
 ·subst ha;rw[ah]at e;cases e;exact h
 ·rw[bF ha]at e;exact r.grow hp a x e
theorem RelM.write(r:RelM K M H)(hp:H p=some w)(h1:∀xs,w≠.tup xs)(h2:∀ob v,w≠.frz ob v)(h:OD K (upd H p o) p u):RelM K (put M p u) (upd H p o):=λa x e=>by
 by_cases ha:a=p
 ·subst ha;rw[ah]at e;cases e;exact h
 ·rw[bF ha]at e;exact (r a x e).stay (.put hp h1 h2) (ad ha)
noncomputable def Sub(M' M:MH):Prop:=∀a o,M' a=some o->M a=some o
theorem Sub.put(s:Sub M' M)(h:M' p=none):Sub M' (put M p u):=λa o e=>by
 rw[bF λz=>by rw[z,h]at e;cases e]
 exact s a o e
theorem RelM.sub(r:RelM K M H)(s:Sub M' M):RelM K M' H:=λa o e=>r a o (s a o e)
theorem DenS.mono(t:TM K H H')(h:DenS K H σ3 σ):DenS K H' σ3 σ:=⟨h.1,λi d e=>let ⟨v,e1,e2⟩:=h.2 i d e;⟨v,e1,e2.mono t⟩⟩
theorem DenS.set{σ3:St3}{σ:St}(h:DenS K H σ3 σ)(e:Den K H d v):DenS K H (σ3.set i (some d)) (σ.set i (some v)):=by
 refine⟨by rw[List.length_set,List.length_set];exact h.1,λj d' q=>?_⟩
 by_cases hj:i=j
 ·subst hj;rw[List.getElem?_set]at q ⊢;rw[if_pos rfl]at q ⊢;rw[<-h.1];split at q
  next hl=>
   cases q;exact⟨v,if_pos hl,e⟩
  next=>cases q
 ·rw[List.getElem?_set_ne hj]at q ⊢;exact h.2 j d' q
theorem DenS.drop{σ3:St3}{σ:St}(h:DenS K H σ3 σ):DenS K H (σ3.set i none) (σ.set i none):=by
 refine⟨by rw[List.length_set,List.length_set];exact h.1,λj d' q=>?_⟩
 by_cases hj:i=j
 ·subst hj;rw[List.getElem?_set,if_pos rfl]at q;split at q<;>cases q
 ·rw[List.getElem?_set_ne hj]at q ⊢;exact h.2 j d' q
theorem ph{N:List Str}{ds:List D}(h:DenL K H ds vs):DenS K H (ds.map some++List.replicate (N.length - ds.length) none) (eU N vs):=by
 have hl:=h.length;refine⟨by unfold eU;simp[hl],λi d e=>?_⟩
 by_cases hi:i < ds.length
 ·rw[List.getElem?_append_left (by simpa using hi),List.getElem?_map]at e
  have e':ds[i]?=some d:=by
   cases q:ds[i]? with
   |none=>rw[q]at e;cases e
   |some x=>rw[q]at e;cases e;rfl
  obtain⟨v,e1,e2⟩:=h.get e';refine⟨v,?_,e2⟩;unfold eU;rw[List.getElem?_append_left (by simpa [<-hl] using hi),List.getElem?_map,e1]
  rfl
 ·rw[List.getElem?_append_right (by simpa using hi),List.getElem?_replicate]at e
  split at e<;>cases e
end
noncomputable abbrev VK3:=D->MH->Prop
noncomputable abbrev TE3:=St3->MH->VK3->Prop
noncomputable abbrev TT3:=St3->MH->(Bool->MH->Prop)->Prop
structure Ends3 where
 nx:St3->MH->Prop
 rt:VK3
 bk:St3->MH->Prop:=λ_ _=>False
 ct:St3->MH->Prop:=λ_ _=>False
noncomputable abbrev TS3:=Ends3->St3->MH->Prop
structure ER (K:PySem.W.Frag)(H:Hp)(D3:Ends3)(D2:Ends):Prop where
 nx:∀σ' H' σ3' M',RelM K M' H'->DenS K H' σ3' σ'->TM K H H'->D3.nx σ3' M'->D2.nx σ' H'
 rt:∀v H' d M',Den K H' d v->RelM K M' H'->TM K H H'->D3.rt d M'->D2.rt v H'
 bk:∀σ' H' σ3' M',RelM K M' H'->DenS K H' σ3' σ'->TM K H H'->D3.bk σ3' M'->D2.bk σ' H'
 ct:∀σ' H' σ3' M',RelM K M' H'->DenS K H' σ3' σ'->TM K H H'->D3.ct σ3' M'->D2.ct σ' H'
theorem ER.mono{K:PySem.W.Frag}(r:ER K H D3 D2)(t:TM K H H1):ER K H1 D3 D2:=
 ⟨λa b c d h1 h2 h3 h4=>r.nx a b c d h1 h2 (t.trans h3) h4,λa b c d h1 h2 h3 h4=>r.rt a b c d h1 h2 (t.trans h3) h4,λa b c d h1 h2 h3 h4=>r.bk a b c d h1 h2 (t.trans h3) h4,λa b c d h1 h2 h3 h4=>r.ct a b c d h1 h2 (t.trans h3) h4⟩
end L2
namespace L2
open PySem PySem.Spec PyProof.Rows
section
variable {K:PySem.W.Frag}
theorem cG:Den K H (.int i) (.int i):=rfl
theorem aW{b:Bool}:Den K H (.bl b) (.bl b):=rfl
theorem eK:Den K H (.str x) (.str x):=rfl
theorem t8:Den K H .non .non:=rfl
theorem gd:Den K H (.ref a) (.ref a):=rfl
theorem pB(h:SqT K H p vs)(l:DenL K H ds vs):Den K H (.tup ds) (.ref p):=⟨p,vs,rfl,h,l⟩
end
noncomputable abbrev R3:=D->D->MH->VK3->Prop
noncomputable abbrev Back(K:PySem.W.Frag)(H:Hp)(Q:VK3)(Q2:VK):Prop:=∀v H' d M',Den K H' d v->RelM K M' H'->TM K H H'->Q d M'->Q2 v H'
noncomputable def Op3(X:Cx)(f:Value->Value->Sem Value)(r3:R3):Prop:=∃r2,OpR X f r2/\∀(H:Hp)(x y:D)(v u:V)(M:MH)(Q:VK3)(Q2:VK),Den X.K H x v->Den X.K H y u->RelM X.K M H->r3 x y M Q->Back X.K H Q Q2->r2 v u H Q2
noncomputable def Un3(X:Cx)(f:Value->Sem Value)(r3:D->MH->VK3->Prop):Prop:=∃r2,UnR X f r2/\∀(H:Hp)(x:D)(v:V)(M:MH)(Q:VK3)(Q2:VK),Den X.K H x v->RelM X.K M H->r3 x M Q->Back X.K H Q Q2->r2 v H Q2
noncomputable def wZ(X:Cx)(f:Value)(r3:List D->MH->VK3->Prop):Prop:=∃r2,CallR X f r2/\∀(H:Hp)(xs:List D)(vs:List V)(M:MH)(Q:VK3)(Q2:VK),DenL X.K H xs vs->RelM X.K M H->r3 xs M Q->Back X.K H Q Q2->r2 vs H Q2
noncomputable def rI3(C:Int->Int->Prop)(g:Int->Int->D):R3:=λx y M Q=>∃i j,x=.int i/\y=.int j/\C i j/\Q (g i j) M
section
variable {X:Cx}{a b c e:Expr}{ta tb tc te:TE3}{pos:Pos}
variable {tA tB':TT3}{az:List Expr}
theorem vR{K:PySem.W.Frag}(h:DenL K H ds vs)(e:atI ds i=some d):∃v,atI vs i=some v/\Den K H d v:=by
 unfold atI at e ⊢;rw[<-h.length];cases q:ixN ds.length i with
 |none=>rw[q]at e;cases e
 |some j=>
  rw[q]at e;obtain⟨v,e1,e2⟩:=h.get (show ds[j]?=some d from e);exact⟨v,e1,e2⟩
noncomputable def Is(M:MH)(x:D)(ds:List D):Prop:=x=.rol ds\/∃a,x=.ref a/\M a=some (.lst ds)
theorem RelM.list{K:PySem.W.Frag}(rm:RelM K M H)(h:Is M x ds)(dv:Den K H x v):∃p vs,v=.ref p/\SqL K H p vs/\DenL K H ds vs:=by
 rcases h with rfl|⟨a,rfl,h⟩
 ·obtain⟨p,vs,e,s,l⟩:=dv;exact⟨p,vs,e,s.sq,l⟩
 ·obtain⟨vs,e,l⟩:=rm a _ h;exact⟨a,vs,dv,.of e,l⟩
noncomputable def isIB:V->D->Prop:=λv d=>(∃i,v=.int i/\d=.int i)\/(∃b,v=.bl b/\d=.bl b)
theorem isIB.den{K:PySem.W.Frag}(h:isIB v d):Den K H d v:=by
 rcases h with ⟨i,rfl,rfl⟩|⟨b,rfl,rfl⟩<;>rfl
theorem jF(h:OpR X f (rI C g))(hg:∀i j,isIB (g i j) (g3 i j)):Op3 X f (rI3 C g3):=
 ⟨_,h,λH x y v u M Q Q2 dx dy rm ⟨i,j,e1,e2,hc,q⟩ k=>by
  subst e1;subst e2;cases (show v=.int i from dx);cases (show u=.int j from dy);exact⟨i,j,rfl,rfl,hc,k _ H _ M (hg i j).den rm (.refl _) q⟩⟩
noncomputable def lV(g:Int->Int->D):R3:=λx y M Q=>∃i j,x=.int i/\y=.int j/\Q (g i j) M
theorem dG(h:OpR X f (rI0 g))(hg:∀i j,isIB (g i j) (g3 i j)):Op3 X f (lV g3):=
 ⟨_,h,λH x y v u M Q Q2 dx dy rm ⟨i,j,e1,e2,q⟩ k=>by
  subst e1;subst e2;cases (show v=.int i from dx);cases (show u=.int j from dy);exact⟨i,j,rfl,rfl,k _ H _ M (hg i j).den rm (.refl _) q⟩⟩
noncomputable def big:Nat:=2 ^ 4096
theorem oQ(h:n < 10 ^ 250):n < big:=Nat.lt_of_lt_of_le h (by decide +kernel)
noncomputable def eB(i j:Int):Prop:=(i.natAbs < big/\j.natAbs < big)
theorem hU{k:Int}(h:k.natAbs < big):Builtin.Int.intBits k<=2 ^ 20:=by
 unfold Builtin.Int.intBits;by_cases h0:k.natAbs=0
 ·have:k=0:=by omega
  subst this;decide
 ·have h30:k.natAbs.log2 < 4096:=(Nat.log2_lt h0).mpr h;split<;>omega
theorem uW:OpR X (binaryOp .Mult) (rI eB λi j=>.int (i * j)):=opI λ_ _ _ _ _ _ _ hc q=>mul_int q (.of_bits (hU hc.1) (hU hc.2))
noncomputable def mC(_ j:Int):Prop:=0 < j/\j.toNat < big
theorem tz:OpR X (binaryOp .FloorDiv) (rI mC λi j=>.int (i / j)):=opI λi j _ _ _ _ _ hc q=>by
 have h1:(0:Int) < j:=hc.1;have h2:j.toNat < big:=hc.2;refine floordiv_int (by omega) (by rw[Int.fdiv_eq_ediv_of_nonneg i (by omega)];exact q) (.inl (PyProof.noPylong_of_log2 ?_))
 have h3:j.natAbs < 2 ^ 4096:=by
  have e:j.natAbs=j.toNat:=by omega
  rw[e];exact h2
 have h0:j.natAbs≠0:=by omega
 have:=(Nat.log2_lt h0).mpr h3;omega
theorem BR:Op3 X (binaryOp .Add) (lV λi j=>.int (i+j)):=dG xo λ_ _=>.inl ⟨_,rfl,rfl⟩
theorem Be:Op3 X (binaryOp .Sub) (lV λi j=>.int (i - j)):=dG xa λ_ _=>.inl ⟨_,rfl,rfl⟩
theorem BX:Op3 X (binaryOp .Mult) (rI3 eB λi j=>.int (i * j)):=jF uW λ_ _=>.inl ⟨_,rfl,rfl⟩
theorem zl:Op3 X (binaryOp .FloorDiv) (rI3 mC λi j=>.int (i / j)):=jF tz λ_ _=>.inl ⟨_,rfl,rfl⟩
theorem CC:Op3 X (binaryOp .Mod) (rI3 (λ_ j=>0 < j) λi j=>.int (i % j)):=jF xM λ_ _=>.inl ⟨_,rfl,rfl⟩
theorem Cc:Op3 X (binaryOp .Pow) (rI3 uq λi j=>.int (i ^ j.toNat)):=jF xk λ_ _=>.inl ⟨_,rfl,rfl⟩
theorem BO:Op3 X (binaryOp .RShift) (rI3 (λ_ j=>0<=j) λi j=>.int (i / 2 ^ j.toNat)):=jF yq λ_ _=>.inl ⟨_,rfl,rfl⟩
theorem Bu:Op3 X (binaryOp .BitAnd) (lV λi j=>.int (Builtin.bitAnd i j)):=dG zK λ_ _=>.inl ⟨_,rfl,rfl⟩
theorem FX:Op3 X (compareOp .Lt) (lV λi j=>.bl (decide (i < j))):=dG CK λ_ _=>.inr ⟨_,rfl,rfl⟩
theorem Ev:Op3 X (compareOp .LtE) (lV λi j=>.bl (decide (i<=j))):=dG Bm λ_ _=>.inr ⟨_,rfl,rfl⟩
theorem Fz:Op3 X (compareOp .Gt) (lV λi j=>.bl (decide (j < i))):=dG Cq λ_ _=>.inr ⟨_,rfl,rfl⟩
theorem E5:Op3 X (compareOp .GtE) (lV λi j=>.bl (decide (j<=i))):=dG Bt λ_ _=>.inr ⟨_,rfl,rfl⟩
noncomputable def rU3(g:Int->Int):D->MH->VK3->Prop:=λx M Q=>∃i,x=.int i/\Q (.int (g i)) M
theorem A4:Un3 X (unaryOp .USub) (rU3 λi=>-i):=⟨_,Ap,λH x v M Q Q2 dx rm ⟨i,e,q⟩ k=>by
 subst e;cases (show v=.int i from dx);exact⟨i,rfl,k _ H _ M cG rm (.refl _) q⟩⟩
noncomputable def D.isN:D->Bool
 |.non=>true
 |_=>false
theorem pL{K:PySem.W.Frag}{d:D}(h:Den K H d v):decide (v=.non)=d.isN:=by
 cases d with
 |non=>cases (show v=.non from h);rfl
 |bl b=>cases (show v=.bl b from h);rfl
 |int i=>cases (show v=.int i from h);rfl
 |str x=>cases (show v=.str x from h);rfl
 |tup ds=>obtain⟨p,vs,rfl,_⟩:=h;rfl
 |rol ds=>obtain⟨p,vs,rfl,_⟩:=h;rfl
 |ref a=>cases (show v=.ref a from h);rfl
 |obj i C ns ds=>obtain⟨p,vs,_,_,rfl,_⟩:=h;rfl
 |dik ks ds=>obtain⟨p,vs,_,rfl,_⟩:=h;rfl
 |dit ks ds=>obtain⟨p,vs,_,_,rfl,_⟩:=h;rfl
noncomputable def rIs3:R3:=λx y M Q=>y=.non/\Q (.bl x.isN) M
noncomputable def rIsN3:R3:=λx y M Q=>y=.non/\Q (.bl (!x.isN)) M
theorem EJ:Op3 X (compareOp .Is) rIs3:=⟨_,zF,λH x y v u M Q Q2 dx dy rm ⟨e,q⟩ k=>by
 subst e;refine⟨dy,?_⟩;rw[pL dx];exact k _ H _ M aW rm (.refl _) q⟩
theorem u5:Op3 X (compareOp .IsNot) rIsN3:=⟨_,vH,λH x y v u M Q Q2 dx dy rm ⟨e,q⟩ k=>by
 subst e;refine⟨dy,?_⟩;rw[pL dx];exact k _ H _ M aW rm (.refl _) q⟩
variable {id:String}
noncomputable def rLen3:List D->MH->VK3->Prop:=λxs M Q=>∃x ds,xs=[x]/\(Is M x ds\/x=.tup ds)/\Q (.int ds.length) M
theorem Bh:wZ X (.builtin "len") rLen3:=⟨_,lI,λH xs vs M Q Q2 dl rm ⟨x,ds,e,h,q⟩ k=>by
 subst e;obtain⟨v,r,rfl,dv,rfl⟩:=dl;rcases h with h|rfl
 ·obtain⟨a,ys,rfl,sq,l⟩:=rm.list h dv;exact⟨a,ys,rfl,.inl sq,by rw[<-l.length];exact k _ H _ M cG rm (.refl _) q⟩
 ·obtain⟨a,ys,rfl,sq,l⟩:=dv;exact⟨a,ys,rfl,.inr sq,by rw[<-l.length];exact k _ H _ M cG rm (.refl _) q⟩⟩
end
end L2
namespace L2
open PySem PySem.Spec PyProof.Rows
noncomputable abbrev BackS(K:PySem.W.Frag)(H:Hp)(Q:St3->MH->Prop)(Q2:St->Hp->Prop):Prop:=∀σ' H' σ3' M',RelM K M' H'->DenS K H' σ3' σ'->TM K H H'->Q σ3' M'->Q2 σ' H'
section
variable {X:Cx}{st:Stmt}{az:List Stmt}{t u:TS3}{e:Expr}{te:TE3}{pos:Pos}
structure ItOk (K:PySem.W.Frag)(H0:Hp)(J:It)(ds:List D)(S:MH->Prop):Prop where
 go:∀(i:Nat) H M,TM K H0 H->RelM K M H->S M->i < ds.length->J.go i H
 yld:∀(i:Nat) H M x H',TM K H0 H->RelM K M H->S M->i < ds.length->J.yld i H x H'->TM K H H'/\RelM K M H'/\∃d,ds[i]?=some d/\Den K H' d x
 stop:∀H M,TM K H0 H->RelM K M H->S M->J.stop ds.length H
noncomputable def rng(lo:Int)(n:Nat):List D:=(List.range n).map λ(i:Nat)=>D.int (lo+i)
theorem lK(lo:Int)(n:Nat):(rng lo n).length=n:=by unfold rng;rw[List.length_map,List.length_range]
theorem yG{lo:Int}(h:i < n):(rng lo n)[i]?=some (.int (lo+i)):=by
 unfold rng;rw[List.getElem?_map,List.getElem?_range h];rfl
theorem xc{K:PySem.W.Frag}{lo:Int}:ItOk K H0 (Itr lo n) (rng lo n) (λ_=>True):=by
 refine⟨λi H M _ _ _ hi=>?_,λi H M x H' _ rm _ hi y=>?_,λH M _ _ _=>?_⟩
 ·rw[lK]at hi;exact hi
 ·rw[lK]at hi;obtain⟨e,y⟩:=y;subst e;subst y;exact⟨.refl _,rm,_,yG hi,rfl⟩
 ·rw[lK];exact Nat.le_refl _
end
section
variable {K:PySem.W.Frag}
end
section
variable {X:Cx}
end
end L2
namespace L2
open PySem PySem.Spec PyProof.Rows
noncomputable abbrev XN:=XE->MH->Prop
noncomputable def del(M:MH)(a:Addr):MH:=λb=>if b=a then none else M b
theorem dF(h:M a=none):del (put M a o) a=M:=by
 funext b;unfold del put;by_cases e:b=a
 ·subst e;rw[if_pos rfl,h]
 ·rw[if_neg e,if_neg e]
theorem iy(h:del M a b=some o):b≠a/\M b=some o:=by
 unfold del at h;split at h
 ·cases h
 ·exact⟨by assumption,h⟩
noncomputable def ac(M M':MH):MH:=λa=>match M a with
 |some _=>M' a
 |none=>none
theorem kr(h:ac M M' a=some o):M' a=some o:=by
 unfold ac at h;split at h
 ·exact h
 ·cases h
noncomputable def kp(b:Bool)(M M':MH):MH:=if b=true then ac M M' else M'
theorem se(h:kp b M M' a=some o):M' a=some o:=by
 cases b with
 |true=>exact kr h
 |false=>exact h
inductive BI where
 |len  |list (fz:Bool)  |all  |any  |int  |strL
inductive BM where
 |index  |insert  |startswith  |split  |extend  |join  |splitM
inductive BT where
 |int|bool|str|tuple|list|dict
mutual
inductive IE where
 |var (i:Nat)
 |con (d:D)
 |bin (op:Operator) (a b:IE)
 |neg (a:IE)
 |cat (fz:Bool) (a b:IE)
 |cmp (op:CmpOp) (a b:IE)
 |chain (op op':CmpOp) (a b c:IE)
 |and (a b:IE)
 |or (a b:IE)
 |not (a:IE)
 |ifx (c:IT) (a b:IE)
 |tup (es:IA)
 |lst (fz:Bool) (es:IA)
 |frz (e:IE)
 |ix (a b:IE)
 |sl (fz:Bool) (a:IE) (lo hi:IO)
 |call (f:Nat) (es:IA)
 |bi (b:BI) (es:IA)
 |isB (e:IE) (t:BT)
 |isC (e:IE) (c:Nat)
 |rev (fz:Bool) (e:IE)
 |comp (fz:Bool) (N:List Str) (js:List (Option Nat)) (tg:ITg) (it:II) (cond:ITO) (elt:IE)
 |lrng (fz:Bool) (e:IE)
 |sm (e:IE)
 |fld (e:IE) (f:Nat)
 |make (fz:Bool) (i:Nat) (es:IA)
 |meth (e:IE) (m:Nat) (es:IA)
 |isK (e:IE) (j:Nat)
 |glo (k:Nat)
 |fst (ps:List (Str ⊕ Nat))
 |bm (b:BM) (o:IE) (es:IA)
 |rep (fz:Bool) (a b:IE)
 |dnew (tk:Bool)
inductive IT where
 |val (e:IE)|cmp (op:CmpOp) (a b:IE)|chain (op op':CmpOp) (a b c:IE)|chain3 (op op' op'':CmpOp) (a b c d:IE)|and (a b:IT)|or (a b:IT)|not (a:IT)
inductive IA where
 |nil|cons (e:IE) (r:IA)
inductive IO where
 |no|yes (e:IE)
inductive ITO where
 |no|yes (e:IT)
inductive II where
 |seq (e:IE)
 |seqL (e:IE)
 |rng1 (a:IE)
inductive ITg where
 |name (i:Nat)|tup (is:List Nat)
end
mutual
inductive IS where
 |set (i:Nat) (e:IE)
 |unp (is:List Nat) (e:IE)
 |expr (e:IE)
 |ret (e:IE)
 |ifs (c:IT) (a b:ISs)
 |for_ (tg:ITg) (it:II) (body:ISs)
 |raise (c:Nat) (es:IA)
 |try_ (body:ISs) (hs:IHs)
 |app (o e:IE)
 |del (i:Nat)
 |fset (o:IE) (f:Nat) (e:IE)
 |ixset (o i e:IE)
inductive ISs where
 |nil|cons (s:IS) (r:ISs)
inductive IHs where
 |nil|cons (c:Nat) (nm:Option Nat) (body:ISs) (r:IHs)
end
noncomputable def ag(M:MH):D->Option (List D)
 |.rol ds=>some ds
 |.ref a=>match M a with
  |some (.lst ds)=>some ds
  |_=>none
 |_=>none
noncomputable def aN(M:MH):D->Option (List D)
 |.tup ds=>some ds
 |x=>ag M x
noncomputable def res(M:MH)(x:D):D:=match ag M x with
 |some ds=>.rol ds
 |none=>x
noncomputable def cT(fz:Bool)(ds:List D)(M:MH)(Q:VK3):Prop:=ds.length<=sizeLine/\if fz=true then Q (.rol ds) M else ∀p,M p=none->Q (.ref p) (put M p (.lst ds))
noncomputable def plN:Nat->D->Bool
 |_,.ref _=>false
 |n,.tup ds=>match n with
  |0=>false
  |m+1=>ds.all (plN m)
 |n,.rol ds=>match n with
  |0=>false
  |m+1=>ds.all (plN m)
 |_,.obj _ _ _ _=>false
 |_,.dik _ _=>false
 |_,.dit _ _=>false
 |_,_=>true
noncomputable abbrev pl(x:D):Bool:=plN 8 x
noncomputable abbrev pls(ds:List D):Bool:=ds.all (plN 8)
mutual
noncomputable def eqD:D->D->Bool
 |.non,y=>match y with
  |.non=>true
  |_=>false
 |.bl a,y=>match y with
  |.bl b=>a == b
  |.int b=>decide ((if a=true then (1:Int) else 0)=b)
  |_=>false
 |.int a,y=>match y with
  |.int b=>decide (a=b)
  |.bl b=>decide (a=if b=true then (1:Int) else 0)
  |_=>false
 |.str a,y=>match y with
  |.str b=>decide (a=b)
  |_=>false
 |.tup a,y=>match y with
  |.tup b=>fF a b
  |_=>false
 |.rol a,y=>match y with
  |.rol b=>fF a b
  |_=>false
 |.ref _,_=>false
 |.obj _ _ _ _,_=>false
 |.dik _ _,_=>false
 |.dit _ _,_=>false
noncomputable def fF:List D->List D->Bool
 |[],y=>match y with
  |[]=>true
  |_=>false
 |a::r,y=>match y with
  |b::t=>eqD a b&&fF r t
  |_=>false
end
noncomputable def rII(C:Int->Int->Prop)(g:Int->Int->D)(x y:D)(M:MH)(Q:VK3):Prop:=match x,y with
 |.int i,.int j=>C i j/\Q (g i j) M
 |_,_=>False
noncomputable def rI2(g:Int->Int->D)(x y:D)(M:MH)(Q:VK3):Prop:=match x,y with
 |.int i,.int j=>Q (g i j) M
 |_,_=>False
noncomputable def uk(x y:D)(M:MH)(Q:VK3):Prop:=match x,y with
 |.int i,.int j=>Q (.int (i+j)) M
 |.str a,.str b=>a.length+b.length<=sizeLine/\Q (.str (a++b)) M
 |.tup a,.tup b=>a.length+b.length<=sizeLine/\Q (.tup (a++b)) M
 |_,_=>False
noncomputable def lG(z:Str)(n:Int):Str:=if n < 1 then Str.empty else if (n == 1||z.length == 0)=true then z else⟨(List.replicate n.toNat z.cps).foldl (·++·) #[]⟩
noncomputable def uG(x y:D)(M:MH)(Q:VK3):Prop:=match x,y with
 |.int i,.int j=>eB i j/\Q (.int (i * j)) M
 |.str z,.int n=>(0<=n/\n<=100000/\z.length<=10)/\Q (.str (lG z n)) M
 |_,_=>False
noncomputable def jQ:Operator->D->D->MH->VK3->Prop
 |.Add=>uk
 |.Sub=>rI2 λi j=>.int (i - j)
 |.Mult=>uG
 |.FloorDiv=>rII mC λi j=>.int (i / j)
 |.Mod=>rII (λ_ j=>0 < j) λi j=>.int (i % j)
 |.Pow=>rII uq λi j=>.int (i ^ j.toNat)
 |.RShift=>rII (λ_ j=>0<=j) λi j=>.int (i / 2 ^ j.toNat)
 |.BitAnd=>rI2 λi j=>.int (Builtin.bitAnd i j)
 |_=>λ_ _ _ _=>False
noncomputable def rNeg(x:D)(M:MH)(Q:VK3):Prop:=match x with
 |.int i=>Q (.int (-i)) M
 |_=>False
noncomputable def g5(fz:Bool)(x y:D)(M:MH)(Q:VK3):Prop:=match ag M x,ag M y with
 |some a,some b=>cT fz (a++b) M Q
 |_,_=>match x,y with
  |.tup a,.tup b=>a.length+b.length<=sizeLine/\Q (.tup (a++b)) M
  |_,_=>False
noncomputable def i9(fz:Bool)(x y:D)(M:MH)(Q:VK3):Prop:=match ag M x,y with
 |some a,.int k=>(-(2 ^ 63)<=k/\k < 2 ^ 63/\a.length * k.toNat<=sizeLine)/\cT fz (List.replicate k.toNat a).flatten M Q
 |_,_=>False
noncomputable def rs(M:MH)(x:D):D:=match ag M x with
 |some ds=>.rol (if pls ds=true then ds else ds.map (res M))
 |none=>x
noncomputable def lq(neg:Bool)(x y:D)(M:MH)(Q:VK3):Prop:=pl (rs M x)=true/\pl (rs M y)=true/\Q (.bl (neg ^^ eqD (rs M x) (rs M y))) M
noncomputable def re(neg:Bool)(x y:D)(M:MH)(Q:VK3):Prop:=match y with
 |.non=>Q (.bl (neg ^^ x.isN)) M
 |.bl b=>match x with
  |.bl a=>Q (.bl (neg ^^ (a == b))) M
  |.non=>Q (.bl neg) M
  |_=>False
 |_=>False
noncomputable def ya:D->Option Key
 |.int i=>some (.inl i)
 |.str s=>some (.inr s)
 |_=>none
noncomputable def gY:List D->Option (List Int)
 |[]=>some []
 |.int i::r=>match gY r with
  |some ns=>some (i::ns)
  |none=>none
 |_::_=>none
noncomputable def og:D->Option (List Int)
 |.tup es=>gY es
 |_=>none
noncomputable def getD[DecidableEq κ]:List κ->List D->κ->Option D
 |k::ks,d::ds,x=>if k=x then some d else getD ks ds x
 |_,_,_=>none
noncomputable def aK[DecidableEq κ]:List κ->κ->List κ
 |[],x=>[x]
 |k::ks,x=>if k=x then k::ks else k::aK ks x
noncomputable def bJ[DecidableEq κ]:List κ->List D->κ->D->List D
 |k::ks,d::ds,x,y=>if k=x then y::ds else d::bJ ks ds x y
 |_,_,_,y=>[y]
noncomputable def m9(M:MH):D->Option (List Key×List D)
 |.dik ks ds=>some (ks,ds)
 |.ref a=>match M a with
  |some (.dk ks ds)=>some (ks,ds)
  |_=>none
 |_=>none
noncomputable def jP(M:MH):D->Option (List (List Int)×List D)
 |.dit ks ds=>some (ks,ds)
 |.ref a=>match M a with
  |some (.dt ks ds)=>some (ks,ds)
  |_=>none
 |_=>none
noncomputable def lf(M:MH)(x y:D):Option (Option D):=match m9 M x with
 |some (ks,ds)=>match ya y with
  |some k=>some (getD ks ds k)
  |none=>none
 |none=>match jP M x with
  |some (ks,ds)=>match og y with
   |some k=>some (getD ks ds k)
   |none=>none
  |none=>none
noncomputable def jI(a b:Str):Bool:=!(Builtin.Str.occurrences b a 0 b.length 1).isEmpty
noncomputable def d5(z:Str)(i:Nat):Str:=⟨#[z.cps.getD i 0]⟩
noncomputable def dS(z:Str):List D:=z.cps.toList.map λc=>.str ⟨#[c]⟩
noncomputable def oW(neg:Bool)(x y:D)(M:MH)(Q:VK3):Prop:=match aN M y with
 |some ds=>pl (res M x)=true/\pls ds=true/\Q (.bl (neg ^^ ds.any λd=>eqD d (res M x))) M
 |none=>match lf M y x with
  |some o=>Q (.bl (neg ^^ o.isSome)) M
  |none=>match x,y with
   |.str a,.str b=>Q (.bl (neg ^^ jI a b)) M
   |_,_=>False
noncomputable def aU:CmpOp->D->D->MH->VK3->Prop
 |.Eq=>lq false
 |.NotEq=>lq true
 |.Lt=>rI2 λi j=>.bl (decide (i < j))
 |.LtE=>rI2 λi j=>.bl (decide (i<=j))
 |.Gt=>rI2 λi j=>.bl (decide (j < i))
 |.GtE=>rI2 λi j=>.bl (decide (j<=i))
 |.Is=>re false
 |.IsNot=>re true
 |.In=>oW false
 |.NotIn=>oW true
noncomputable def bL(x y:D)(M:MH)(Q:VK3):Prop:=match aN M x with
 |some ds=>match y with
  |.int i=>match atI ds i with
   |some d=>Q d M
   |none=>False
  |_=>False
 |none=>match lf M x y with
  |some (some d)=>Q d M
  |some none=>False
  |none=>match x,y with
   |.str z,.int i=>(0<=i/\i < z.length/\i < 2 ^ 63)/\Q (.str (d5 z i.toNat)) M
   |_,_=>False
noncomputable def bC(xs:List D)(lo hi:Option Int):List D:=(xs.drop (HT.sIx xs.length 0 lo)).take (HT.sIx xs.length xs.length hi - HT.sIx xs.length 0 lo)
noncomputable def whole(n:Nat)(lo hi:Option Int):Bool:=HT.sIx n 0 lo == 0&&HT.sIx n n hi == n
noncomputable def lQ(fz:Bool)(x:D)(lo hi:Option Int)(M:MH)(Q:VK3):Prop:=match x with
 |.tup ds=>whole ds.length lo hi=false/\Q (.tup (bC ds lo hi)) M
 |.str z=>z.length<=sizeLine/\Q (.str (Txt.slice z lo hi)) M
 |x=>match ag M x with
  |some ds=>cT fz (bC ds lo hi) M Q
  |none=>False
noncomputable def eo:List D->Option (List Bool)
 |[]=>some []
 |.bl i::r=>match eo r with
  |some ns=>some (i::ns)
  |none=>none
 |_::_=>none
noncomputable def lW(y:D):List D->Nat->Option Nat
 |[],_=>none
 |d::r,k=>if eqD d y=true then some k else lW y r (k+1)
noncomputable def isLstM(x:D)(M:MH):Bool:=match x with
 |.ref a=>match M a with
  |some (.lst _)=>true
  |_=>false
 |_=>false
noncomputable def eW(n:Nat)(i:Int):Nat:=if i < 0 then (i+n).toNat else min i.toNat n
noncomputable def qX(ds:List D)(i:Int)(y:D):List D:=ds.take (eW ds.length i)++y::ds.drop (eW ds.length i)
noncomputable def tyB:BM->D->MH->Bool
 |.index,x,M=>(ag M x).isSome
 |.insert,x,M=>isLstM x M
 |.startswith,x,_=>match x with
  |.str _=>true
  |_=>false
 |.split,x,_=>match x with
  |.str _=>true
  |_=>false
 |.splitM,x,_=>match x with
  |.str _=>true
  |_=>false
 |.extend,x,M=>isLstM x M
 |.join,x,_=>match x with
  |.str _=>true
  |_=>false
noncomputable def fS:List D->Option (List Str)
 |[]=>some []
 |.str z::r=>match fS r with
  |some zs=>some (z::zs)
  |none=>none
 |_::_=>none
noncomputable def vI(fz:Bool)(x:D)(ys:List D)(M:MH)(Q:VK3):Prop:=match x,ys with
 |.str z,[.str y]=>(y.length≠0/\z.length<=sizeLine/\(Txt.split z y).length<=sizeLine)/\if fz=true then Q (.rol ((Txt.split z y).map D.str)) M else ∀p,M p=none->Q (.ref p) (put M p (.lst ((Txt.split z y).map D.str)))
 |_,_=>False
noncomputable def rBm:BM->D->List D->MH->VK3->Prop
 |.index,x,ys,M,Q=>match ag M x,ys with
  |some ds,[y]=>(pl (res M y)=true/\pls ds=true)/\(match lW (res M y) ds 0 with
   |some k=>Q (.int k) M
   |none=>False)
  |_,_=>False
 |.insert,x,ys,M,Q=>match x,ys with
  |.ref a,[.int i,y]=>match M a with
   |some (.lst ds)=>(ds.length < sizeLine/\-(2 ^ 62)<=i/\i < 2 ^ 62)/\Q .non (put M a (.lst (qX ds i y)))
   |_=>False
  |_,_=>False
 |.startswith,x,ys,M,Q=>match x,ys with
  |.str z,[.str y]=>Q (.bl (Txt.startswith z y)) M
  |_,_=>False
 |.join,x,ys,M,Q=>match x,ys with
  |.str z,[y]=>match ag M y with
   |some ds=>match fS ds with
    |some ts=>JoinOk z ts=true/\Q (.str (Txt.join z ts)) M
    |none=>False
   |none=>False
  |_,_=>False
 |.split,x,ys,M,Q=>vI true x ys M Q
 |.splitM,x,ys,M,Q=>vI false x ys M Q
 |.extend,x,ys,M,Q=>match x,ys with
  |.ref a,[y]=>match M a,ag M y with
   |some (.lst ds),some es=>ds.length+es.length<=sizeLine/\Q .non (put M a (.lst (ds++es)))
   |_,_=>False
  |_,_=>False
noncomputable def BD(k:List Int):D:=.tup (k.map D.int)
noncomputable def rBi:BI->List D->MH->VK3->Prop
 |.len,xs,M,Q=>match xs with
  |[x]=>match aN M x with
   |some ds=>Q (.int ds.length) M
   |none=>match jP M x with
    |some (ks,_)=>Q (.int ks.length) M
    |none=>match x with
     |.str z=>z.length<=sizeLine/\Q (.int z.length) M
     |_=>False
  |_=>False
 |.int,xs,M,Q=>match xs with
  |[.str z]=>z.length<=sizeLine/\(match intText? z with
   |some n=>Q (.int n) M
   |none=>False)
  |[.bl b]=>Q (.int (if b then 1 else 0)) M
  |_=>False
 |.strL,xs,M,Q=>match xs with
  |[.int i]=>i.natAbs < 10 ^ 4300/\Q (.str (toString i)) M
  |_=>False
 |.list fz,xs,M,Q=>match xs with
  |[x]=>match aN M x with
   |some ds=>cT fz ds M Q
   |none=>match jP M x with
    |some (ks,_)=>cT fz (ks.map BD) M Q
    |none=>False
  |_=>False
 |.all,xs,M,Q=>match xs with
  |[x]=>match ag M x with
   |some ds=>match eo ds with
    |some bs=>Q (.bl (bs.all id)) M
    |none=>False
   |none=>False
  |_=>False
 |.any,xs,M,Q=>match xs with
  |[x]=>match ag M x with
   |some ds=>match eo ds with
    |some bs=>Q (.bl (bs.any id)) M
    |none=>False
   |none=>False
  |_=>False
noncomputable def iQ(t:BT)(x:D)(M:MH)(Q:VK3):Prop:=match x with
 |.non=>Q (.bl false) M
 |.bl _=>Q (.bl (match t with|.int=>true|.bool=>true|_=>false)) M
 |.int _=>Q (.bl (match t with|.int=>true|_=>false)) M
 |.str _=>Q (.bl (match t with|.str=>true|_=>false)) M
 |.tup _=>Q (.bl (match t with|.tuple=>true|_=>false)) M
 |.rol _=>Q (.bl (match t with|.list=>true|_=>false)) M
 |.ref a=>match M a with
  |some (.lst _)=>Q (.bl (match t with|.list=>true|_=>false)) M
  |some (.dk _ _)=>Q (.bl (match t with|.dict=>true|_=>false)) M
  |some (.dt _ _)=>Q (.bl (match t with|.dict=>true|_=>false)) M
  |_=>False
 |.dik _ _=>Q (.bl (match t with|.dict=>true|_=>false)) M
 |.dit _ _=>Q (.bl (match t with|.dict=>true|_=>false)) M
 |.obj _ _ _ _=>False
noncomputable def my(ne:Nat)(cls:Nat->Addr)(r:Nat->Bool)(x:D)(M:MH)(Q:VK3):Prop:=match x with
 |.ref a=>match M a with
  |some (.exc i v)=>i.c < ne/\v=.ref (cls i.c)/\Q (.bl (r i.c)) M
  |_=>False
 |_=>False
noncomputable def eY:List D->Option (List Int)
 |[]=>some []
 |.int i::r=>match eY r with
  |some ns=>some (i::ns)
  |none=>none
 |_::_=>none
noncomputable def rSm(x:D)(M:MH)(Q:VK3):Prop:=match ag M x with
 |some ds=>match eY ds with
  |some ns=>Q (.int ns.sum) M
  |none=>False
 |none=>False
noncomputable def wpF(σ:St3):List (Str ⊕ Nat)->Str->(Str->Prop)->Prop
 |[],acc,Q=>Q acc
 |.inl x::r,acc,Q=>(acc++x).length<=sizeLine/\wpF σ r (acc++x) Q
 |.inr i::r,acc,Q=>match σ[i]? with
  |some (some (.str z))=>(acc++z).length<=sizeLine/\wpF σ r (acc++z) Q
  |some (some (.int k))=>k.natAbs.log2 < 1920/\(acc++(toString k:Str)).length<=sizeLine/\wpF σ r (acc++(toString k:Str)) Q
  |_=>False
noncomputable def uz(d:D)(M:MH)(Q:VK3):Prop:=match d with
 |.dik _ _=>False
 |d=>Q d M
noncomputable def rLg(fz:Bool)(x:D)(M:MH)(Q:VK3):Prop:=match x with
 |.int j=>(-(2 ^ 62)<=j/\j<=2 ^ 20)/\cT fz (rng 0 j.toNat) M Q
 |_=>False
noncomputable def ua(fz:Bool)(x:D)(M:MH)(Q:VK3):Prop:=match ag M x with
 |some ds=>cT fz ds.reverse M Q
 |none=>False
structure WB where
 ne:Nat
 cls:Nat->Addr
 sub:Nat->Nat->Bool
 nk:Nat
 kls:Nat->Addr
 ksub:Nat->Nat->Bool
 fok:Nat->Nat->Bool
 mth:Nat->Nat->Option Nat
 ini:Nat->Option Nat
 xin:Nat->Option Nat
 glo:Nat->D
 fad:Nat->Addr
structure WC extends WB where
 call:Nat->List D->MH->VK3->XN->Prop
noncomputable def bX(f:Nat):List Nat->List D->Option D
 |n::ns,d::ds=>if n=f then some d else bX f ns ds
 |_,_=>none
noncomputable def cO(f:Nat):List Nat->List Nat
 |n::ns=>if n=f then n::ns else n::cO f ns
 |[]=>[f]
noncomputable def cS(f:Nat)(y:D):List Nat->List D->List D
 |n::ns,d::ds=>if n=f then y::ds else d::cS f y ns ds
 |_,_=>[y]
noncomputable def jX(f:Nat)(ns:List Nat)(ds:List D)(M:MH)(Q:VK3):Prop:=match bX f ns ds with
 |some d=>Q d M
 |none=>False
noncomputable def fK(B:WB)(f:Nat)(x:D)(M:MH)(Q:VK3):Prop:=match x with
 |.obj i C ns ds=>(C=B.kls i/\i < B.nk/\B.fok i f=true)/\jX f ns ds M Q
 |.ref a=>match M a with
  |some (.ins i C ns ds)=>(C=B.kls i/\i < B.nk/\B.fok i f=true)/\jX f ns ds M Q
  |_=>False
 |_=>False
noncomputable def jg(o:Option Nat)(R:Nat->Prop):Prop:=match o with
 |some f=>R f
 |none=>False
noncomputable def c8(B:WB)(m:Nat)(x:D)(M:MH)(R:Nat->Prop):Prop:=match x with
 |.obj i C ns ds=>(C=B.kls i/\i < B.nk/\bX m ns ds=none)/\jg (B.mth i m) R
 |.ref a=>match M a with
  |some (.ins i C ns ds)=>(C=B.kls i/\i < B.nk/\bX m ns ds=none)/\jg (B.mth i m) R
  |_=>False
 |_=>False
noncomputable def mi(B:WB)(j:Nat)(x:D)(M:MH)(Q:VK3):Prop:=match x with
 |.obj i C _ _=>(C=B.kls i/\i < B.nk/\j < B.nk)/\Q (.bl (B.ksub i j)) M
 |.ref a=>match M a with
  |some (.ins i C _ _)=>(C=B.kls i/\i < B.nk/\j < B.nk)/\Q (.bl (B.ksub i j)) M
  |_=>False
 |_=>False
noncomputable def fJ(Q:VK3):VK3:=λx M=>match x with
 |.ref a=>match M a with
  |some (.lst ds)=>Q (.rol ds) (del M a)
  |_=>False
 |_=>False
noncomputable def ic:List D->MH->(List D->MH->Prop)->Prop
 |[],M,R=>R [] M
 |d::ds,M,R=>match d with
  |.ref a=>match M a with
   |some (.lst es)=>ic ds (del M a) λr M'=>R (.rol es::r) M'
   |some (.dk ks es)=>ic ds (del M a) λr M'=>R (.dik ks es::r) M'
   |some (.dt ks es)=>ic ds (del M a) λr M'=>R (.dit ks es::r) M'
   |_=>ic ds M λr M'=>R (.ref a::r) M'
  |d=>ic ds M λr M'=>R (d::r) M'
noncomputable def bu(Q:VK3):VK3:=λx M=>match x with
 |.ref a=>match M a with
  |some (.lst ds)=>Q (.rol ds) (del M a)
  |some (.dk ks ds)=>Q (.dik ks ds) (del M a)
  |some (.dt ks ds)=>Q (.dit ks ds) (del M a)
  |some (.ins i C ns ds)=>ic ds (del M a) λr M'=>Q (.obj i C ns r) M'
  |_=>False
 |_=>False
noncomputable def wpG:ITg->D->St3->MH->(St3->MH->Prop)->Prop
 |.name i,d,σ,M,Q=>Q (σ.set i (some d)) M
 |.tup is,d,σ,M,Q=>match d with
  |.tup ds=>ds.length=is.length/\Q ((is.zip ds).foldl (λσ p=>σ.set p.1 (some p.2)) σ) M
  |_=>False
noncomputable def aw(js:List (Option Nat))(σ:St3):St3:=js.map λo=>o.bind λj=>(σ[j]?).bind id
noncomputable def dj(g:D->St3->MH->(St3->MH->Prop)->Prop)(tt:St3->MH->(Bool->MH->Prop)->Prop)(te:St3->MH->VK3->Prop)(S:MH->Prop)(p:Addr)(Q:VK3):List D->List D->St3->MH->Prop
 |[],_,_,M=>S M/\Q (.ref p) M
 |d::r,ys,σ,M=>S M/\ys.length < sizeLine/\g d σ M λσ2 M2=>tt σ2 M2 λb M3=>if b=true then te σ2 M3 λy M4=>M4 p=some (.lst ys)/\dj g tt te S p Q r (ys++[y]) σ2 (put M4 p (.lst (ys++[y]))) else dj g tt te S p Q r ys σ2 M3
noncomputable def dA(x k y:D)(M:MH)(R:MH->Prop):Prop:=match x with
 |.ref a=>match M a,k with
  |some (.lst ds),.int i=>(match ixN ds.length i with
   |some j=>R (put M a (.lst (ds.set j y)))
   |none=>False)
  |some (.dk ks ds),k=>(match ya k with
   |some q=>ks.length < sizeLine/\R (put M a (.dk (aK ks q) (bJ ks ds q y)))
   |none=>False)
  |some (.dt ks ds),k=>(match og k with
   |some q=>ks.length < sizeLine/\R (put M a (.dt (aK ks q) (bJ ks ds q y)))
   |none=>False)
  |_,_=>False
 |_=>False
noncomputable def cpF(f:Nat):Bool:=f == 217822450
section
variable (W:WC)
mutual
noncomputable def wpE:IE->St3->MH->VK3->XN->Prop
 |.var i,σ,M,Q,_=>match σ[i]? with
  |some (some d)=>Q d M
  |_=>False
 |.con d,_,M,Q,_=>Q d M
 |.bin op a b,σ,M,Q,E=>wpE a σ M (λx M1=>wpE b σ M1 (λy M2=>jQ op x y M2 Q) E) E
 |.neg a,σ,M,Q,E=>wpE a σ M (λx M1=>rNeg x M1 Q) E
 |.cat fz a b,σ,M,Q,E=>wpE a σ M (λx M1=>wpE b σ M1 (λy M2=>g5 fz x y M2 Q) E) E
 |.cmp op a b,σ,M,Q,E=>wpE a σ M (λx M1=>wpE b σ M1 (λy M2=>aU op x y M2 Q) E) E
 |.chain op op' a b c,σ,M,Q,E=>wpE a σ M (λx M1=>wpE b σ M1 (λy M2=>aU op x y M2 λr M3=>match r with
  |.bl k=>if k=true then wpE c σ M3 (λz M4=>aU op' y z M4 Q) E else Q (.bl false) M3
  |_=>False) E) E
 |.and a b,σ,M,Q,E=>wpE a σ M (λx M1=>match x with
  |.bl c=>if c=true then wpE b σ M1 Q E else Q (.bl false) M1
  |_=>False) E
 |.or a b,σ,M,Q,E=>wpE a σ M (λx M1=>match x with
  |.bl c=>if c=true then Q (.bl true) M1 else wpE b σ M1 Q E
  |_=>False) E
 |.not a,σ,M,Q,E=>wpE a σ M (λx M1=>match x with
  |.bl c=>Q (.bl (!c)) M1
  |_=>False) E
 |.ifx c a b,σ,M,Q,E=>wpT c σ M (λk M1=>if k=true then wpE a σ M1 Q E else wpE b σ M1 Q E) E
 |.tup es,σ,M,Q,E=>wpA es σ M (λxs M1=>xs.length<=sizeLine/\Q (.tup xs) M1) E
 |.lst fz es,σ,M,Q,E=>wpA es σ M (λxs M1=>cT fz xs M1 Q) E
 |.frz e,σ,M,Q,E=>wpE e σ M (bu Q) E
 |.ix a b,σ,M,Q,E=>wpE a σ M (λx M1=>wpE b σ M1 (λy M2=>bL x y M2 Q) E) E
 |.sl fz a lo hi,σ,M,Q,E=>wpE a σ M (λx M1=>wpO lo σ M1 (λl M2=>wpO hi σ M2 (λh M3=>lQ fz x l h M3 Q) E) E) E
 |.call f es,σ,M,Q,E=>wpA es σ M (λxs M1=>W.call f xs M1 Q E) E
 |.bi b es,σ,M,Q,E=>wpA es σ M (λxs M1=>rBi b xs M1 Q) E
 |.isB e t,σ,M,Q,E=>wpE e σ M (λx M1=>iQ t x M1 Q) E
 |.isC e c,σ,M,Q,E=>wpE e σ M (λx M1=>my W.ne W.cls (λi=>W.sub i c) x M1 Q) E
 |.rev fz e,σ,M,Q,E=>wpE e σ M (λx M1=>ua fz x M1 Q) E
 |.comp fz _ js tg it cond elt,σ,M,Q,E=>wpI it σ M (λds S M1=>∀p,M1 p=none->
   dj (wpG tg) (λσ M Q=>li cond σ M Q (λ_ _=>False)) (λσ M Q=>wpE elt σ M Q (λ_ _=>False)) S p (if fz=true then fJ Q else Q) ds [] (aw js σ) (put M1 p (.lst []))) E
 |.lrng fz e,σ,M,Q,E=>wpE e σ M (λx M1=>rLg fz x M1 Q) E
 |.sm e,σ,M,Q,E=>wpE e σ M (λx M1=>rSm x M1 Q) E
 |.fld e f,σ,M,Q,E=>wpE e σ M (λx M1=>fK W.toWB f x M1 Q) E
 |.make fz i es,σ,M,Q,E=>wpA es σ M (λxs M1=>i < W.nk/\jg (W.ini i) λf=>∀p,M1 p=none->
   W.call f (.ref p::xs) (put M1 p (.ins i (W.kls i) [] [])) (λv M2=>v=.non/\if fz=true then bu Q (.ref p) M2 else Q (.ref p) M2) (λi M'=>E i (del M' p))) E
 |.meth e m es,σ,M,Q,E=>wpE e σ M (λx M1=>c8 W.toWB m x M1 λf=>wpA es σ M1 (λxs M2=>W.call f (x::xs) M2 Q E) E) E
 |.isK e j,σ,M,Q,E=>wpE e σ M (λx M1=>mi W.toWB j x M1 Q) E
 |.glo k,_,M,Q,_=>uz (W.glo k) M Q
 |.fst ps,σ,M,Q,_=>wpF σ ps Str.empty λz=>Q (.str z) M
 |.bm b o es,σ,M,Q,E=>wpE o σ M (λx M1=>tyB b x M1=true/\wpA es σ M1 (λxs M2=>rBm b x xs M2 Q) E) E
 |.dnew tk,_,M,Q,_=>∀p,M p=none->Q (.ref p) (put M p (if tk=true then .dt [] [] else .dk [] []))
 |.rep fz a b,σ,M,Q,E=>wpE a σ M (λx M1=>wpE b σ M1 (λy M2=>i9 fz x y M2 Q) E) E
noncomputable def wpT:IT->St3->MH->(Bool->MH->Prop)->XN->Prop
 |.val e,σ,M,Q,E=>wpE e σ M (λx M1=>match x with
  |.bl k=>Q k M1
  |_=>False) E
 |.cmp op a b,σ,M,Q,E=>wpE a σ M (λx M1=>wpE b σ M1 (λy M2=>aU op x y M2 λr M3=>match r with
  |.bl k=>Q k M3
  |_=>False) E) E
 |.chain op op' a b c,σ,M,Q,E=>wpE a σ M (λx M1=>wpE b σ M1 (λy M2=>aU op x y M2 λr M3=>match r with
  |.bl k=>if k=true then wpE c σ M3 (λz M4=>aU op' y z M4 λr M5=>match r with
   |.bl k=>Q k M5
   |_=>False) E else Q false M3
  |_=>False) E) E
 |.chain3 op op' op'' a b c d,σ,M,Q,E=>wpE a σ M (λx M1=>wpE b σ M1 (λy M2=>aU op x y M2 λr M3=>match r with
  |.bl k=>if k=true then wpE c σ M3 (λz M4=>aU op' y z M4 λr M5=>match r with
   |.bl k=>if k=true then wpE d σ M5 (λu M6=>aU op'' z u M6 λr M7=>match r with
    |.bl k=>Q k M7
    |_=>False) E else Q false M5
   |_=>False) E else Q false M3
  |_=>False) E) E
 |.and a b,σ,M,Q,E=>wpT a σ M (λc M1=>if c=true then wpT b σ M1 Q E else Q false M1) E
 |.or a b,σ,M,Q,E=>wpT a σ M (λc M1=>if c=true then Q true M1 else wpT b σ M1 Q E) E
 |.not a,σ,M,Q,E=>wpT a σ M (λc M1=>Q (!c) M1) E
noncomputable def wpA:IA->St3->MH->(List D->MH->Prop)->XN->Prop
 |.nil,_,M,Q,_=>Q [] M
 |.cons e r,σ,M,Q,E=>wpE e σ M (λx M1=>wpA r σ M1 (λxs M2=>Q (x::xs) M2) E) E
noncomputable def wpO:IO->St3->MH->(Option Int->MH->Prop)->XN->Prop
 |.no,_,M,Q,_=>Q none M
 |.yes e,σ,M,Q,E=>wpE e σ M (λx M1=>match x with
  |.int i=>Q (some i) M1
  |_=>False) E
noncomputable def li:ITO->St3->MH->(Bool->MH->Prop)->XN->Prop
 |.no,_,M,Q,_=>Q true M
 |.yes e,σ,M,Q,E=>wpT e σ M Q E
noncomputable def wpI:II->St3->MH->(List D->(MH->Prop)->MH->Prop)->XN->Prop
 |.seq e,σ,M,R,E=>wpE e σ M (λx M1=>match x with
  |.tup ds=>R ds (λ_=>True) M1
  |.rol ds=>R ds (λ_=>True) M1
  |.ref a=>match M1 a with
   |some (.lst ds)=>R ds (λM=>M a=some (.lst ds)) M1
   |_=>False
  |.str z=>R (dS z) (λ_=>True) M1
  |_=>False) E
 |.seqL e,σ,M,R,E=>wpE e σ M (λx M1=>match x with
  |.rol ds=>R ds (λ_=>True) M1
  |.ref a=>match M1 a with
   |some (.lst ds)=>R ds (λM=>M a=some (.lst ds)) M1
   |_=>False
  |_=>False) E
 |.rng1 a,σ,M,R,E=>wpE a σ M (λx M1=>match x with
  |.int j=>-(2 ^ 62)<=j/\j < 2 ^ 62/\R (rng 0 j.toNat) (λ_=>True) M1
  |_=>False) E
end
noncomputable def iU(g:D->St3->MH->(St3->MH->Prop)->Prop)(tb:Ends3->St3->MH->Prop)(S:MH->Prop)(D:Ends3):List L2.D->St3->MH->Prop
 |[],σ,M=>S M/\D.nx σ M
 |d::r,σ,M=>S M/\g d σ M λσ2 M2=>tb {D with nx:=iU g tb S D r,ct:=iU g tb S D r,bk:=D.nx} σ2 M2
noncomputable def mK(D:Ends3)(i:Nat):Ends3:=⟨λσ M=>D.nx (σ.set i none) M,D.rt,λσ M=>D.bk (σ.set i none) M,λσ M=>D.ct (σ.set i none) M⟩
mutual
noncomputable def wpS:IS->Ends3->(St3->XN)->St3->MH->Prop
 |.set i e,D,E,σ,M=>wpE W e σ M (λx M1=>D.nx (σ.set i (some x)) M1) (E σ)
 |.unp is e,D,E,σ,M=>wpE W e σ M (λx M1=>match x with
  |.tup ds=>ds.length=is.length/\D.nx ((is.zip ds).foldl (λσ p=>σ.set p.1 (some p.2)) σ) M1
  |_=>False) (E σ)
 |.expr e,D,E,σ,M=>wpE W e σ M (λ_ M1=>D.nx σ M1) (E σ)
 |.ret e,D,E,σ,M=>wpE W e σ M D.rt (E σ)
 |.ifs c a b,D,E,σ,M=>wpT W c σ M (λk M1=>if k=true then au a D E σ M1 else au b D E σ M1) (E σ)
 |.for_ tg it body,D,E,σ,M=>wpI W it σ M (λds S M1=>iU (wpG tg) (λD σ M=>au body D E σ M) S D ds σ M1) (E σ)
 |.raise c es,_,E,σ,M=>wpA W es σ M (λxs M1=>xs.length<=sizeLine/\E σ ⟨c,none⟩ M1) (E σ)
 |.try_ body hs,D,E,σ,M=>au body D (λσ' i M'=>wpH hs i D σ' M') σ M
 |.app o e,D,E,σ,M=>wpE W o σ M (λx M1=>match x with
  |.ref a=>match M1 a with
   |some (.lst _)=>wpE W e σ M1 (λy M2=>match M2 a with
    |some (.lst ds)=>ds.length < sizeLine/\D.nx σ (put M2 a (.lst (ds++[y])))
    |_=>False) (E σ)
   |_=>False
  |_=>False) (E σ)
 |.del i,D,_,σ,M=>match σ[i]? with
  |some (some (.ref a))=>D.nx σ (L2.del M a)
  |_=>False
 |.fset o f e,D,E,σ,M=>wpE W e σ M (λy M1=>wpE W o σ M1 (λx M2=>match x with
  |.ref a=>match M2 a with
   |some (.ins i C ns ds)=>(C=W.kls i/\i < W.nk/\W.fok i f=true/\ns.length < 1000)/\D.nx σ (put M2 a (.ins i C (cO f ns) (cS f y ns ds)))
   |_=>False
  |_=>False) (E σ)) (E σ)
 |.ixset o i e,D,E,σ,M=>wpE W e σ M (λy M1=>wpE W o σ M1 (λx M2=>wpE W i σ M2 (λk M3=>dA x k y M3 λM4=>D.nx σ M4) (E σ)) (E σ)) (E σ)
noncomputable def au:ISs->Ends3->(St3->XN)->St3->MH->Prop
 |.nil,D,_,σ,M=>D.nx σ M
 |.cons s r,D,E,σ,M=>wpS s {D with nx:=λσ' M'=>au r D E σ' M'} E σ M
noncomputable def wpH:IHs->XE->Ends3->St3->MH->Prop
 |.nil,_,_,_,_=>False
 |.cons c nm body r,i,D,σ,M=>i.c < W.ne/\if W.sub i.c c=true then (match nm with
  |none=>au body D (λ_ _ _=>False) σ M
  |some j=>∀a,M a=none->au body (mK D j) (λ_ _ _=>False) (σ.set j (some (.ref a))) (put M a (.exc i (.ref (W.cls i.c))))) else wpH r i D σ M
end
end
end L2
namespace L2
open PySem PySem.Spec PyProof.Rows
noncomputable def LkE(K:PySem.W.Frag)(cls:Nat->Addr)(H:Hp)(E3:XN)(E:XK):Prop:=∀i M' H',TM K H H'->RelM K M' H'->E3 i M'->∀dx,XD K H' i dx->E (.ref (cls i.c)) dx H'
noncomputable def LkS(K:PySem.W.Frag)(cls:Nat->Addr)(H:Hp)(E3:St3->XN)(E2:St->XK):Prop:=∀σ3 σ i M' H',TM K H H'->DenS K H' σ3 σ->RelM K M' H'->E3 σ3 i M'->∀dx,XD K H' i dx->E2 σ (.ref (cls i.c)) dx H'
section
variable {K:PySem.W.Frag}
theorem LkE.mono(h:LkE K cls H E3 E)(t:TM K H H1):LkE K cls H1 E3 E:=λi M' H' t' r q=>h i M' H' (t.trans t') r q
theorem LkS.mono(h:LkS K cls H E3 E2)(t:TM K H H1):LkS K cls H1 E3 E2:=λσ3 σ i M' H' t' d r q=>h σ3 σ i M' H' (t.trans t') d r q
theorem LkS.at(h:LkS K cls H E3 E2)(ds:DenS K H σ3 σ):LkE K cls H (E3 σ3) (E2 σ):=λi M' H' t r q=>h σ3 σ i M' H' t (ds.mono t) r q
theorem LkE.no:LkE K cls H (λ_ _=>False) E:=λ_ _ _ _ _ h=>h.elim
theorem Back.mono(h:Back K H Q Q2)(t:TM K H H1):Back K H1 Q Q2:=λv H' d M' a b c e=>h v H' d M' a b (t.trans c) e
end
section
variable (K:PySem.W.Frag) (cls:Nat->Addr) (E2:St->XK)
noncomputable def low(t:St3->MH->VK3->XN->Prop):TE:=λσ H Q2=>∃σ3 M Q E3,RelM K M H/\DenS K H σ3 σ/\LkE K cls H E3 (E2 σ)/\t σ3 M Q E3/\Back K H Q Q2
noncomputable def cA(t:St3->MH->(Bool->MH->Prop)->XN->Prop):TT:=λσ H Q2=>∃σ3 M Q E3,RelM K M H/\DenS K H σ3 σ/\LkE K cls H E3 (E2 σ)/\t σ3 M Q E3/\∀b H' M',RelM K M' H'->TM K H H'->Q b M'->Q2 b H'
noncomputable def ez(t:St3->MH->(List D->MH->Prop)->XN->Prop):TA:=λσ H Q2=>∃σ3 M Q E3,RelM K M H/\DenS K H σ3 σ/\LkE K cls H E3 (E2 σ)/\t σ3 M Q E3/\∀vs H' ds M',DenL K H' ds vs->RelM K M' H'->TM K H H'->Q ds M'->Q2 vs H'
noncomputable def qA(t:St3->MH->(Option Int->MH->Prop)->XN->Prop):TO:=λσ H Q2=>∃σ3 M Q E3,RelM K M H/\DenS K H σ3 σ/\LkE K cls H E3 (E2 σ)/\t σ3 M Q E3/\∀o H' M',RelM K M' H'->TM K H H'->Q o M'->Q2 o H'
noncomputable def oP(t:St3->MH->(List D->(MH->Prop)->MH->Prop)->XN->Prop):TI:=λσ H R2=>∃σ3 M R E3,RelM K M H/\DenS K H σ3 σ/\LkE K cls H E3 (E2 σ)/\t σ3 M R E3/\∀J H' ds S M',ItOk K H' J ds S->RelM K M' H'->TM K H H'->R ds S M'->R2 J H'
noncomputable def bO(t:Ends3->(St3->XN)->St3->MH->Prop):TS:=λD2 σ H=>∃σ3 M D3 E3,RelM K M H/\DenS K H σ3 σ/\LkS K cls H E3 E2/\t D3 E3 σ3 M/\ER K H D3 D2
noncomputable def qI(t:D->St3->MH->(St3->MH->Prop)->Prop):TG:=λv σ H Q2=>∃d σ3 M Q,Den K H d v/\RelM K M H/\DenS K H σ3 σ/\t d σ3 M Q/\BackS K H Q Q2
end
section
variable {X:Cx}{st:Stmt}
theorem PE.imp(h:PE X e t)(f:∀σ H Q,t' σ H Q->t σ H Q):PE X e t':=λpins s σ H Q I q=>h pins s σ H Q I (f σ H Q q)
theorem PT.imp(h:PT X e t)(f:∀σ H Q,t' σ H Q->t σ H Q):PT X e t':=λpins s σ H Q I q=>h pins s σ H Q I (f σ H Q q)
theorem PW.imp(h:PW X e t)(f:∀σ H Q,t' σ H Q->t σ H Q):PW X e t':=λwhole pins s σ H Q I q=>h whole pins s σ H Q I (f σ H Q q)
theorem PA.imp(h:PA X es t)(f:∀σ H Q,t' σ H Q->t σ H Q):PA X es t':=λpos pins s σ H Q I q=>h pos pins s σ H Q I (f σ H Q q)
theorem PO.imp(h:PO X o t)(f:∀σ H Q,t' σ H Q->t σ H Q):PO X o t':=λpins s σ H Q I q=>h pins s σ H Q I (f σ H Q q)
theorem PI.imp(h:PI X tg e t)(f:∀σ H Q,t' σ H Q->t σ H Q):PI X tg e t':=λpins s σ H Q I q=>h pins s σ H Q I (f σ H Q q)
theorem PS.imp(h:PS X st t)(f:∀D σ H,t' D σ H->t D σ H):PS X st t':=λpins s σ H D I q=>h pins s σ H D I (f D σ H q)
theorem PSs.imp(h:PSs X sts t)(f:∀D σ H,t' D σ H->t D σ H):PSs X sts t':=λpins s σ H D I q=>h pins s σ H D I (f D σ H q)
theorem PG.imp(h:PG X e t)(f:∀v σ H Q,t' v σ H Q->t v σ H Q):PG X e t':=λpins s σ H v u Q I r q=>h pins s σ H v u Q I r (f v σ H Q q)
end
section
variable {X:Cx}{s:Shared}
theorem HOk.freeze(x:HOk P w H h)(e:H a=some (.lst xs)):∃o,HOk P w (upd H a (.frz o (.lst xs))) h:=by
 obtain⟨o,ho⟩:=(x a _ e).isAt;refine⟨o,λb u q=>?_⟩
 have own:∀c y,H c=some (.own y)->(upd H a (.frz o (.lst xs))) c=some (.own y):=λc y z=>by
  rw[ad (ne_of z e (λw=>nomatch w))];exact z
 have tup:∀c ys,H c=some (.tup ys)->(upd H a (.frz o (.lst xs))) c=some (.tup ys):=λc ys z=>by
  rw[ad (ne_of z e (λw=>nomatch w))];exact z
 by_cases hb:b=a
 ·subst hb;rw[ae]at q;cases q;exact⟨ho,(x b _ e).stay (λ_ _ _ q=>q) (λc z=>own c _ z) λc ys z=>tup c ys z⟩
 ·rw[ad hb]at q;exact (x b u q).stay (λ_ _ _ q=>q) (λc z=>own c _ z) λc ys z=>tup c ys z
theorem Inv.freeze(I:Inv X pins σ H s)(e:H a=some (.lst xs)):∃o,Inv X pins σ (upd H a (.frz o (.lst xs))) s:=by
 obtain⟨o,ok⟩:=I.hok.freeze e;have ne:∀b,H b=none->b≠a:=λb z=>λq=>by rw[q,e]at z;cases z
 refine⟨o,⟨I.ok,I.os,I.bare,⟨I.base.keep,I.base.slot,λb ob q n hx=>?_,I.base.there,λb ys q=>?_,λb ob u q=>?_,λb ps q=>?_⟩,I.loc,I.cell,?_,λx c z=>?_,λp hp=>?_,ok,I.len⟩⟩
 ·have z:=I.base.free b ob q n hx;rw[ad (ne b z)];exact z
 ·have z:=I.base.tups b ys q;rw[ad (ne_of z e (λw=>nomatch w))];exact z
 ·have z:=I.base.frzs b ob u q;rw[ad (ne_of z e (λw=>nomatch w))];exact z
 ·obtain⟨more,z⟩:=I.base.tbls b ps q;exact⟨more,by rw[ad (ne_of z e (λw=>nomatch w))];exact z⟩
 ·rw[ad (ne _ I.free)];exact I.free
 ·rw[ad (ne _ (I.freeC x c z))];exact I.freeC x c z
 ·obtain⟨p1,p2,p3⟩:=I.pin p hp;exact⟨p1,by rw[ad (ne _ p2)];exact p2,p3⟩
end
section
variable {K:PySem.W.Frag}{xs:List V}
theorem TM.freeze(e:H a=some (.lst xs)):TM K H (upd H a (.frz o (.lst xs))):=
 .put e (λ_=>λz=>nomatch z) λ_ _=>λz=>nomatch z
theorem RelM.freeze(r:RelM K M H)(e:H a=some (.lst xs)):RelM K (del M a) (upd H a (.frz o (.lst xs))):=λb u q=>by
 obtain⟨ne,q⟩:=iy q;exact (r b u q).stay (.freeze e) (ad ne)
theorem fq(h:DenL K H ds xs)(e:H a=some (.lst xs)):Den K (upd H a (.frz o (.lst xs))) (.rol ds) (.ref a):=⟨a,xs,rfl,.inl ⟨o,ae⟩,h.mono (.freeze e)⟩
end
theorem bt{X:Cx}
  (I:Inv X pins σ (upd H p (.lst vs)) s) (hp:H p=none) (dl:DenL X.K H ds vs)(rm:RelM X.K M H)(tm:TM X.K H0 H)(h:cT fz ds M Q)(back:Back X.K H0 Q Q2):EP X pins σ Q2 (.ref p) s:=by
 obtain⟨_,h⟩:=h;cases fz with
 |true=>
  rw[if_pos rfl]at h;obtain⟨o,I2⟩:=I.freeze ae;refine⟨.ref p,_,I2,rfl,back _ _ _ _ (fq (o:=o) (dl.mono (.new hp)) ae) ?_ (tm.trans ((TM.new hp).trans (.freeze ae))) h⟩;have r2:RelM X.K (put M p (.lst ds)) (upd H p (.lst vs)):=rm.lay hp ⟨vs,ae,dl.mono (.new hp)⟩;have r3:=r2.freeze (o:=o) (xs:=vs) ae;rw[dF (rm.fresh hp)]at r3;exact r3
 |false=>
  rw[if_neg Bool.false_ne_true]at h;exact⟨.ref p,_,I,rfl,back _ _ _ _ gd (rm.lay (u:=.lst ds) hp ⟨vs,ae,dl.mono (.new hp)⟩) (tm.trans (.new hp)) (h p (rm.fresh hp))⟩
noncomputable def RdL(K:PySem.W.Frag)(H:Hp)(p:Addr)(vs:List V):Prop:=Rd H p (.lst vs)\/SqM K p vs
theorem RdL.sq{K:PySem.W.Frag}(h:RdL K H p vs):SqL K H p vs:=by
 rcases h with h|h
 ·exact .inl h
 ·exact h.sq
theorem SqF.rd{K:PySem.W.Frag}(h:SqF K H p vs):RdL K H p vs:=by
 rcases h with h|h
 ·exact .inl (.inr h)
 ·exact .inr h
theorem aF{K:PySem.W.Frag}(rm:RelM K M H)(h:ag M x=some ds)(dv:Den K H x v):∃p vs,v=.ref p/\RdL K H p vs/\DenL K H ds vs:=by
 cases x with
 |rol es=>
  cases (show es=ds from Option.some.inj h);obtain⟨p,vs,e,s,l⟩:=dv;exact⟨p,vs,e,s.rd,l⟩
 |ref a=>
  have h:(match M a with|some (.lst ds)=>some ds|_=>none)=some ds:=h
  split at h
  next es q=>
   cases h;obtain⟨vs,e,l⟩:=rm a _ q;exact⟨a,vs,dv,.inl (.inl e),l⟩
  next=>cases h
 |_=>cases h
theorem gI{K:PySem.W.Frag}(rm:RelM K M H)(h:aN M x=some ds)(dv:Den K H x v):∃p vs,v=.ref p/\(SqL K H p vs\/SqT K H p vs)/\DenL K H ds vs:=by
 cases x with
 |tup es=>
  cases (show es=ds from Option.some.inj h);obtain⟨p,vs,e,s,l⟩:=dv;exact⟨p,vs,e,.inr s,l⟩
 |rol es=>obtain⟨p,vs,e,s,l⟩:=aF rm (show ag M (.rol es)=some ds from h) dv;exact⟨p,vs,e,.inl s.sq,l⟩
 |ref a=>obtain⟨p,vs,e,s,l⟩:=aF rm (show ag M (.ref a)=some ds from h) dv;exact⟨p,vs,e,.inl s.sq,l⟩
 |_=>cases h
theorem Inv.rdL{X:Cx}{s:Shared}{xs:List V}(I:Inv X pins σ H s)(h:RdL X.K H l xs):xs.length<=sizeLine/\∃(its:List Value) (n:Nat),Vals xs its/\xs.length=its.length/\s.heap.get? l=some {cls:=.type "list",data:=.seq its.toArray n}:=by
 rcases h with h|⟨its,n,e,z,r⟩
 ·obtain⟨z,its,n,r,e⟩:=h.ok I.hok;exact⟨z,its,n,r,r.length,e⟩
 ·exact⟨by rw[r.length];exact z,its,n,r,r.length,I.kIn _ _ e⟩
noncomputable def tT:HO->Bool
 |.lst _=>true
 |.dK _=>true
 |.dT _=>true
 |.ins _ _ _=>true
 |.ext _=>true
 |_=>false
theorem ln(h:tT u=true):(∀y,HO.own y≠u)/\(∀xs,HO.tup xs≠u)/\(∀o v,HO.frz o v≠u)/\∀ps,HO.tbl ps≠u:=by
 cases u<;>first
  |(cases h;done)
  |exact⟨λ_ z=>(by cases z),λ_ z=>(by cases z),λ_ _ z=>(by cases z),λ_ z=>(by cases z)⟩
section
variable {X:Cx}
theorem HOk.frzU(x:HOk P w H h)(e:H a=some u)(hu:tT u=true):∃o,HOk P w (upd H a (.frz o u)) h:=by
 obtain⟨n1,n2,_,_⟩:=ln hu;obtain⟨o,ho⟩:=(x a _ e).isAt;refine⟨o,λb v q=>?_⟩
 have own:∀c y,H c=some (.own y)->(upd H a (.frz o u)) c=some (.own y):=λc y z=>by
  rw[ad (ne_of z e (n1 y))];exact z
 have tup:∀c ys,H c=some (.tup ys)->(upd H a (.frz o u)) c=some (.tup ys):=λc ys z=>by
  rw[ad (ne_of z e (n2 ys))];exact z
 by_cases hb:b=a
 ·subst hb;rw[ae]at q;cases q;exact⟨ho,(x b _ e).stay (λ_ _ _ q=>q) (λc z=>own c _ z) λc ys z=>tup c ys z⟩
 ·rw[ad hb]at q;exact (x b v q).stay (λ_ _ _ q=>q) (λc z=>own c _ z) λc ys z=>tup c ys z
theorem Inv.frzU(I:Inv X pins σ H s)(e:H a=some u)(hu:tT u=true):∃o,Inv X pins σ (upd H a (.frz o u)) s:=by
 obtain⟨n1,n2,n3,n4⟩:=ln hu;obtain⟨o,ok⟩:=I.hok.frzU e hu;have ne:∀b,H b=none->b≠a:=λb z=>λq=>by rw[q,e]at z;cases z
 refine⟨o,⟨I.ok,I.os,I.bare,⟨I.base.keep,I.base.slot,λb ob q n hx=>?_,I.base.there,λb ys q=>?_,λb ob u q=>?_,λb ps q=>?_⟩,I.loc,I.cell,?_,λx c z=>?_,λp hp=>?_,ok,I.len⟩⟩
 ·have z:=I.base.free b ob q n hx;rw[ad (ne b z)];exact z
 ·have z:=I.base.tups b ys q;rw[ad (ne_of z e (n2 _))];exact z
 ·have z:=I.base.frzs b ob u q;rw[ad (ne_of z e (n3 _ _))];exact z
 ·obtain⟨more,z⟩:=I.base.tbls b ps q;exact⟨more,by rw[ad (ne_of z e (n4 _))];exact z⟩
 ·rw[ad (ne _ I.free)];exact I.free
 ·rw[ad (ne _ (I.freeC x c z))];exact I.freeC x c z
 ·obtain⟨p1,p2,p3⟩:=I.pin p hp;exact⟨p1,by rw[ad (ne _ p2)];exact p2,p3⟩
end
section
variable {K:PySem.W.Frag}
theorem TM.frzU(e:H a=some u)(hu:tT u=true):TM K H (upd H a (.frz o u)):=by
 obtain⟨_,n2,n3,_⟩:=ln hu;exact .put e (λxs z=>n2 xs z.symm) λob v z=>n3 ob v z.symm
theorem RelM.frzU(r:RelM K M H)(e:H a=some u)(hu:tT u=true):RelM K (del M a) (upd H a (.frz o u)):=λb v q=>by
 obtain⟨ne,q⟩:=iy q;exact (r b v q).stay (.frzU e hu) (ad ne)
end
noncomputable def fzD:DO->D
 |.lst ds=>.rol ds
 |.dk ks ds=>.dik ks ds
 |.dt ks ds=>.dit ks ds
 |.ins i C ns ds=>.obj i C ns ds
 |.exc _ _=>.non
 |.stl _=>.non
theorem eh{X:Cx}(I:Inv X pins σ H s)(rm:RelM X.K M H)(e:M a=some o)(ho:(∀i c,o≠.exc i c)/\∀φ,o≠.stl φ) :
  ∃H',Inv X pins σ H' s/\TM X.K H H'/\RelM X.K (del M a) H'/\Den X.K H' (fzD o) (.ref a):=by
 cases o with
 |lst ds=>
  obtain⟨vs,e1,dl⟩:=rm a _ e;obtain⟨ob,I2⟩:=I.frzU e1 rfl;exact⟨_,I2,.frzU e1 rfl,rm.frzU e1 rfl,a,vs,rfl,.inl ⟨ob,ae⟩,dl.mono (.frzU e1 rfl)⟩
 |dk ks ds=>
  obtain⟨vs,e1,hl,dl⟩:=rm a _ e;obtain⟨ob,I2⟩:=I.frzU e1 rfl;exact⟨_,I2,.frzU e1 rfl,rm.frzU e1 rfl,a,vs,ob,rfl,ae,hl,dl.mono (.frzU e1 rfl)⟩
 |dt ks ds=>
  obtain⟨vs,xs,e1,z,dl⟩:=rm a _ e;obtain⟨ob,I2⟩:=I.frzU e1 rfl;have t:TM X.K H (upd H a (.frz ob (.ext (dH a xs)))):=.frzU e1 rfl;exact⟨_,I2,t,rm.frzU e1 rfl,a,vs,ob,xs,rfl,ae,⟨z.kx,z.nd,z.sz,z.no,z.vx,λx hx=>t.t _ _ (z.at_ x hx)⟩,dl.mono t⟩
 |ins i C ns ds=>
  obtain⟨dx,vs,e1,hl,dl⟩:=rm a _ e;obtain⟨ob,I2⟩:=I.frzU e1 rfl;exact⟨_,I2,.frzU e1 rfl,rm.frzU e1 rfl,a,vs,ob,dx,rfl,ae,hl,dl.mono (.frzU e1 rfl)⟩
 |exc i c=>exact absurd rfl (ho.1 i c)
 |stl φ=>exact absurd rfl (ho.2 φ)
theorem fy{X:Cx}:∀{ds:List D}{vs:List V}{H:Hp}{M:MH}{R:List D->MH->Prop},Inv X pins σ H s->RelM X.K M H->DenL X.K H ds vs->ic ds M R->
  ∃H' M' r,Inv X pins σ H' s/\TM X.K H H'/\RelM X.K M' H'/\DenL X.K H' r vs/\R r M'
 |[],vs,H,M,R,I,rm,dl,h=>⟨H,M,[],I,.refl _,rm,dl,h⟩
 |d::ds,_,H,M,R,I,rm,dl,h=>by
  obtain⟨v,r,rfl,dv,dl⟩:=dl;have keep:∀(d:D),Den X.K H d v->ic ds M (λr M'=>R (d::r) M')->∃H' M' r',Inv X pins σ H' s/\TM X.K H H'/\RelM X.K M' H'/\DenL X.K H' r' (v::r)/\R r' M':=λd dv h=>by
   obtain⟨H',M',r',I',t,rm',dl',q⟩:=fy I rm dl h;exact⟨H',M',d::r',I',t,rm',.cons (dv.mono t) dl',q⟩
  have fz:∀(a:Addr)(o:DO),v=.ref a->M a=some o->((∀i c,o≠.exc i c)/\∀φ,o≠.stl φ)->ic ds (del M a) (λr M'=>R (fzD o::r) M')->∃H' M' r',Inv X pins σ H' s/\TM X.K H H'/\RelM X.K M' H'/\DenL X.K H' r' (v::r)/\R r' M':=λa o e eM ne h=>by
   subst e;obtain⟨H1,I1,t1,rm1,d1⟩:=eh I rm eM ne;obtain⟨H',M',r',I',t,rm',dl',q⟩:=fy I1 rm1 (dl.mono t1) h;exact⟨H',M',_::r',I',t1.trans t,rm',.cons (d1.mono t) dl',q⟩
  cases d with
  |ref a=>
   simp only[ic]at h;have e:v=.ref a:=dv;split at h
   ·rename_i es q;exact fz a (.lst es) e q ⟨(λ_ _ z=>nomatch z),(λ_ z=>nomatch z)⟩ h
   ·rename_i ks es q;exact fz a (.dk ks es) e q ⟨(λ_ _ z=>nomatch z),(λ_ z=>nomatch z)⟩ h
   ·rename_i ks es q;exact fz a (.dt ks es) e q ⟨(λ_ _ z=>nomatch z),(λ_ z=>nomatch z)⟩ h
   ·exact keep _ dv h
  |_=>exact keep _ dv (by simpa only[ic] using h)
theorem ly{X:Cx}(I:Inv X pins σ H s)(rm:RelM X.K M H)(dx:Den X.K H x v)(h:bu Q x M) :
  ∃H' M' d,Inv X pins σ H' s/\TM X.K H H'/\RelM X.K M' H'/\Den X.K H' d v/\Q d M':=by
 unfold bu at h;split at h
 ·rename_i a;cases (show v=.ref a from dx);split at h
  ·rename_i es q;obtain⟨H1,I1,t1,rm1,d1⟩:=eh (o:=.lst es) I rm q ⟨(λ_ _ z=>nomatch z),(λ_ z=>nomatch z)⟩
   exact⟨H1,_,_,I1,t1,rm1,d1,h⟩
  ·rename_i ks es q;obtain⟨H1,I1,t1,rm1,d1⟩:=eh (o:=.dk ks es) I rm q ⟨(λ_ _ z=>nomatch z),(λ_ z=>nomatch z)⟩
   exact⟨H1,_,_,I1,t1,rm1,d1,h⟩
  ·rename_i ks es q;obtain⟨H1,I1,t1,rm1,d1⟩:=eh (o:=.dt ks es) I rm q ⟨(λ_ _ z=>nomatch z),(λ_ z=>nomatch z)⟩
   exact⟨H1,_,_,I1,t1,rm1,d1,h⟩
  ·rename_i i C ns es q;obtain⟨H1,I1,t1,rm1,d1⟩:=eh (o:=.ins i C ns es) I rm q ⟨(λ_ _ z=>nomatch z),(λ_ z=>nomatch z)⟩
   obtain⟨a',vs,ob,dx',e',he,hl,dl⟩:=d1;cases e';obtain⟨H2,M2,r,I2,t2,rm2,dl2,q2⟩:=fy I1 rm1 dl h;refine⟨H2,M2,.obj i C ns r,I2,t1.trans t2,rm2,?_,q2⟩;exact⟨a,vs,ob,dx',rfl,t2.g _ _ _ he,hl,dl2⟩
  ·exact h.elim
 ·exact h.elim
end L2
namespace L2
open PySem PySem.Spec PySem.Calls PyProof.Rows
theorem SqL.new{K:PySem.W.Frag}(h:SqL K H p ws)(hn:H a=none):SqL K (upd H a o) p ws:=by
 rcases h with (h|⟨ob,h⟩)|h
 ·exact .inl (.inl (by rw[ad (aE h hn)];exact h))
 ·exact .inl (.inr ⟨ob,by rw[ad (aE h hn)];exact h⟩)
 ·exact .inr h
section
variable {X:Cx}{D:Addr}
end
end L2
namespace L2
open PySem PySem.Spec PyProof.Rows
section
variable {X:Cx}
theorem iR:∀{xs ys:List D},fF xs ys=true->xs.length=ys.length
 |[],[],_=>rfl
 |[],_::_,h=>by simp[fF]at h
 |_::_,[],h=>by simp[fF]at h
 |x::xs,y::ys,h=>by
  simp only[fF,Bool.and_eq_true]at h;rw[List.length_cons,List.length_cons,iR h.2]
theorem fD:∀{xs ys:List D},xs.length=ys.length->fF xs ys=(List.range xs.length).all λj=>eqD (xs.getD j .non) (ys.getD j .non)
 |[],[],_=>by simp[fF]
 |[],_::_,h=>by simp at h
 |_::_,[],h=>by simp at h
 |x::xs,y::ys,h=>by
  have ih:=fD (xs:=xs) (ys:=ys) (by simpa using h)
  simp only[fF,List.length_cons,List.range_succ_eq_map,List.all_cons,List.all_map,ih];rfl
theorem tR{xs ys:List D}:fF xs ys=((List.range (min xs.length ys.length)).all (λj=>eqD (xs.getD j .non) (ys.getD j .non))&&(xs.length == ys.length)):=by
 by_cases h:xs.length=ys.length
 ·rw[fD h,h,Nat.min_self,beq_self_eq_true,Bool.and_true]
 ·have e1:(xs.length == ys.length)=false:=beq_eq_false_iff_ne.mpr h;rw[e1,Bool.and_false];cases q:fF xs ys with
  |false=>rfl
  |true=>exact absurd (iR q) h
theorem lM{K:PySem.W.Frag}(I:Inv X pins σ H s)(hK:K=X.K):∀(n:Nat) {x y:D}{v:V},plN n x=true->plN n y=true->Den K H x v->Den K H y v->x=y:=by
 subst hK;have lists:∀(n:Nat),(∀{x y:D}{v:V},plN n x=true->plN n y=true->Den X.K H x v->Den X.K H y v->x=y)->∀{xs ys:List D}{vs:List V},xs.all (plN n)=true->ys.all (plN n)=true->DenL X.K H xs vs->DenL X.K H ys vs->xs=ys:=by
  intro n ih xs
  induction xs with
  |nil=>
   intro ys vs _ _ h1 h2;cases (show vs=[] from h1);cases ys with
   |nil=>rfl
   |cons y ys=>obtain⟨_,_,e,_⟩:=h2;cases e
  |cons x xs iht=>
   intro ys vs p1 p2 h1 h2;obtain⟨v,r,rfl,d1,l1⟩:=h1;cases ys with
   |nil=>cases (show v::r=[] from h2)
   |cons y ys=>
    obtain⟨v',r',e,d2,l2⟩:=h2;cases e;simp only[List.all_cons,Bool.and_eq_true]at p1 p2;rw[ih p1.1 p2.1 d1 d2,iht p1.2 p2.2 l1 l2]
 have clash:∀{p:Addr}{vs ws:List V},SqT X.K H p vs->SqF X.K H p ws->False:=λ{p vs ws} h1 h2=>by
  obtain⟨its,_,t1,_⟩:=I.tuple h1;obtain⟨z,its2,n2,_,_,e2⟩:=I.rdL h2.rd;obtain⟨o,e1,c1,_⟩:=(show s.heap.IsTuple p its.toArray from t1);rw[e2]at e1;cases e1;injection c1 with z;exact absurd z (by decide)
 intro n
 induction n with
 |zero=>
  intro x y v p1 p2 d1 d2;cases x with
  |non=>
   cases (show v=.non from d1);cases y with
   |non=>rfl
   |bl b=>cases (show V.non=.bl b from d2)
   |int b=>cases (show V.non=.int b from d2)
   |str b=>cases (show V.non=.str b from d2)
   |tup es=>cases p2
   |rol es=>cases p2
   |ref a=>cases p2
   |obj _ _ _ _=>cases p2
   |dik _ _=>cases p2
   |dit _ _=>cases p2
  |bl a=>
   cases (show v=.bl a from d1);cases y with
   |non=>cases (show V.bl a=.non from d2)
   |bl b=>cases (show V.bl a=.bl b from d2);rfl
   |int b=>cases (show V.bl a=.int b from d2)
   |str b=>cases (show V.bl a=.str b from d2)
   |tup es=>cases p2
   |rol es=>cases p2
   |ref a=>cases p2
   |obj _ _ _ _=>cases p2
   |dik _ _=>cases p2
   |dit _ _=>cases p2
  |int a=>
   cases (show v=.int a from d1);cases y with
   |non=>cases (show V.int a=.non from d2)
   |bl b=>cases (show V.int a=.bl b from d2)
   |int b=>cases (show V.int a=.int b from d2);rfl
   |str b=>cases (show V.int a=.str b from d2)
   |tup es=>cases p2
   |rol es=>cases p2
   |ref a=>cases p2
   |obj _ _ _ _=>cases p2
   |dik _ _=>cases p2
   |dit _ _=>cases p2
  |str a=>
   cases (show v=.str a from d1);cases y with
   |non=>cases (show V.str a=.non from d2)
   |bl b=>cases (show V.str a=.bl b from d2)
   |int b=>cases (show V.str a=.int b from d2)
   |str b=>cases (show V.str a=.str b from d2);rfl
   |tup es=>cases p2
   |rol es=>cases p2
   |ref a=>cases p2
   |obj _ _ _ _=>cases p2
   |dik _ _=>cases p2
   |dit _ _=>cases p2
  |tup es=>cases p1
  |rol es=>cases p1
  |ref a=>cases p1
  |obj _ _ _ _=>cases p1
  |dik _ _=>cases p1
  |dit _ _=>cases p1
 |succ n ih=>
  intro x y v p1 p2 d1 d2;cases x with
  |non=>
   cases (show v=.non from d1);cases y with
   |non=>rfl
   |bl b=>cases (show V.non=.bl b from d2)
   |int b=>cases (show V.non=.int b from d2)
   |str b=>cases (show V.non=.str b from d2)
   |tup es=>obtain⟨p,vs,e,_⟩:=d2;cases e
   |rol es=>obtain⟨p,vs,e,_⟩:=d2;cases e
   |ref a=>cases p2
   |obj _ _ _ _=>cases p2
   |dik _ _=>cases p2
   |dit _ _=>cases p2
  |bl a=>
   cases (show v=.bl a from d1);cases y with
   |non=>cases (show V.bl a=.non from d2)
   |bl b=>cases (show V.bl a=.bl b from d2);rfl
   |int b=>cases (show V.bl a=.int b from d2)
   |str b=>cases (show V.bl a=.str b from d2)
   |tup es=>obtain⟨p,vs,e,_⟩:=d2;cases e
   |rol es=>obtain⟨p,vs,e,_⟩:=d2;cases e
   |ref a=>cases p2
   |obj _ _ _ _=>cases p2
   |dik _ _=>cases p2
   |dit _ _=>cases p2
  |int a=>
   cases (show v=.int a from d1);cases y with
   |non=>cases (show V.int a=.non from d2)
   |bl b=>cases (show V.int a=.bl b from d2)
   |int b=>cases (show V.int a=.int b from d2);rfl
   |str b=>cases (show V.int a=.str b from d2)
   |tup es=>obtain⟨p,vs,e,_⟩:=d2;cases e
   |rol es=>obtain⟨p,vs,e,_⟩:=d2;cases e
   |ref a=>cases p2
   |obj _ _ _ _=>cases p2
   |dik _ _=>cases p2
   |dit _ _=>cases p2
  |str a=>
   cases (show v=.str a from d1);cases y with
   |non=>cases (show V.str a=.non from d2)
   |bl b=>cases (show V.str a=.bl b from d2)
   |int b=>cases (show V.str a=.int b from d2)
   |str b=>cases (show V.str a=.str b from d2);rfl
   |tup es=>obtain⟨p,vs,e,_⟩:=d2;cases e
   |rol es=>obtain⟨p,vs,e,_⟩:=d2;cases e
   |ref a=>cases p2
   |obj _ _ _ _=>cases p2
   |dik _ _=>cases p2
   |dit _ _=>cases p2
  |tup ds=>
   obtain⟨p,vs,rfl,q1,l1⟩:=d1;cases y with
   |tup es=>
    obtain⟨p',vs',e,q2,l2⟩:=d2;cases e;have e:vs=vs':=by
     obtain⟨its,r1,t1,_⟩:=I.tuple q1;obtain⟨its2,r2,t2,_⟩:=I.tuple q2;obtain⟨o1,e1,c1,n1,f1⟩:=(show s.heap.IsTuple p its.toArray from t1);obtain⟨o2,e2,c2,n2,f2⟩:=(show s.heap.IsTuple p its2.toArray from t2);rw[e1]at e2;cases e2;rw[f1]at f2;have:its=its2:=by injection f2 with z;simpa using z
     subst this;exact r1.inj r2
    subst e;rw[lists n ih (by simpa [plN] using p1) (by simpa [plN] using p2) l1 l2]
   |rol es=>obtain⟨p',vs',e,q2,l2⟩:=d2;cases e;exact (clash q1 q2).elim
   |non=>cases (show V.ref p=.non from d2)
   |bl b=>cases (show V.ref p=.bl b from d2)
   |int b=>cases (show V.ref p=.int b from d2)
   |str b=>cases (show V.ref p=.str b from d2)
   |ref a=>cases p2
   |obj _ _ _ _=>cases p2
   |dik _ _=>cases p2
   |dit _ _=>cases p2
  |rol ds=>
   obtain⟨p,vs,rfl,q1,l1⟩:=d1;cases y with
   |rol es=>
    obtain⟨p',vs',e,q2,l2⟩:=d2;cases e;have e:vs=vs':=by
     obtain⟨_,its,n1,r1,_,e1⟩:=I.rdL q1.rd;obtain⟨_,its2,n2,r2,_,e2⟩:=I.rdL q2.rd;rw[e1]at e2;have:its=its2:=by
      have z:=Option.some.inj e2;injection z with z1 z2 z3 z4
      injection z3 with z5 z6
      simpa using z5
     subst this;exact r1.inj r2
    subst e;rw[lists n ih (by simpa [plN] using p1) (by simpa [plN] using p2) l1 l2]
   |tup es=>obtain⟨p',vs',e,q2,l2⟩:=d2;cases e;exact (clash q2 q1).elim
   |non=>cases (show V.ref p=.non from d2)
   |bl b=>cases (show V.ref p=.bl b from d2)
   |int b=>cases (show V.ref p=.int b from d2)
   |str b=>cases (show V.ref p=.str b from d2)
   |ref a=>cases p2
   |obj _ _ _ _=>cases p2
   |dik _ _=>cases p2
   |dit _ _=>cases p2
  |ref a=>cases p1
  |obj _ _ _ _=>cases p1
  |dik _ _=>cases p1
  |dit _ _=>cases p1
theorem ma:∀(n:Nat) {x:D},plN n x=true->eqD x x=true:=by
 have lists:∀(n:Nat),(∀{x:D},plN n x=true->eqD x x=true)->∀{xs:List D},xs.all (plN n)=true->fF xs xs=true:=by
  intro n ih xs
  induction xs with
  |nil=>intro _;rfl
  |cons x xs iht=>
   intro h;simp only[List.all_cons,Bool.and_eq_true]at h;simp only[fF,Bool.and_eq_true];exact⟨ih h.1,iht h.2⟩
 intro n
 induction n with
 |zero=>
  intro x h;cases x with
  |tup es=>cases h
  |rol es=>cases h
  |ref a=>cases h
  |obj _ _ _ _=>cases h
  |dik _ _=>cases h
  |dit _ _=>cases h
  |_=>simp[eqD]
 |succ n ih=>
  intro x h;cases x with
  |tup es=>simp only[eqD];exact lists n ih (by simpa [plN] using h)
  |rol es=>simp only[eqD];exact lists n ih (by simpa [plN] using h)
  |ref a=>cases h
  |obj _ _ _ _=>cases h
  |dik _ _=>cases h
  |dit _ _=>cases h
  |_=>simp[eqD]
theorem mU{K:PySem.W.Frag}(I:Inv X pins σ H s)(hK:K=X.K)(n:Nat)(p1:plN n x=true)(p2:plN n y=true)(d1:Den K H x v)(d2:Den K H y v):eqD x y=true:=by
 rw[lM I hK n p1 p2 d1 d2];exact ma n p2
theorem Ab(a b:Bool):eqD (.bl a) (.bl b)=(a == b):=by simp[eqD]
theorem zR(a:Bool)(b:Int):eqD (.bl a) (.int b)=((if a then 1 else 0) == b):=by simp[eqD];rfl
theorem yc(a:Int)(b:Bool):eqD (.int a) (.bl b)=(a == (if b then 1 else 0)):=by simp[eqD];rfl
theorem yP(a b:Int):eqD (.int a) (.int b)=(a == b):=by simp[eqD];rfl
theorem xz(a b:Str):eqD (.str a) (.str b)=(a == b):=by simp[eqD];rfl
noncomputable abbrev Eq3(A:Around)(s:Shared)(v u:Value)(k:Bool):Prop:=SeqAt.RcAt A s v u k/\SeqAt.RcNeAt A s v u (!k)/\SeqAt.EqAt A s v u k
inductive Seen (s:Shared):D->Value->Prop where
 |non:Seen s .non .none
 |bl (b:Bool):Seen s (.bl b) (.bool b)
 |int (i:Int) (t:Tok):Seen s (.int i) (.int i t)
 |str (x:Str) (t:Tok):Seen s (.str x) (.str x t)
 |tup {ds:List D}{p:Addr}{its:List Value} (h:s.heap.IsTuple p its.toArray):Seen s (.tup ds) (.ref p)
 |rol {ds:List D}{p:Addr}{its:List Value} (h:s.heap.IsList p its.toArray):Seen s (.rol ds) (.ref p)
theorem iz{X:Cx}(I:Inv X pins σ H s)(p:plN n x=true)(d:Den X.K H x v)(r:RelV v v2):Seen s x v2:=by
 cases x with
 |non=>cases (show v=.non from d);cases r;exact .non
 |bl b=>cases (show v=.bl b from d);cases r;exact .bl b
 |int i=>cases (show v=.int i from d);obtain⟨t,rfl⟩:=r;exact .int i t
 |str i=>cases (show v=.str i from d);obtain⟨t,rfl⟩:=r;exact .str i t
 |tup ds=>
  obtain⟨q,vs,rfl,sq,_⟩:=d;cases r;obtain⟨its,_,t,_⟩:=I.tuple sq;exact .tup (its:=its) t
 |rol ds=>
  obtain⟨q,vs,rfl,sq,_⟩:=d;cases r;obtain⟨its,_,t,_⟩:=I.list sq.sq;exact .rol (its:=its) t.isList
 |ref a=>simp[plN]at p
 |obj _ _ _ _=>simp[plN]at p
 |dik _ _=>simp[plN]at p
 |dit _ _=>simp[plN]at p
theorem tD{A:Around}(hx:Seen s x v)(hy:Seen s y u)(hu:A.units < cLine)(seq:∀ds es,(x=.tup ds/\y=.tup es)\/(x=.rol ds/\y=.rol es)->Eq3 A s v u (eqD x y)):Eq3 A s v u (eqD x y):=by
 cases hx with
 |non=>
  cases hy with
  |non=>exact⟨.none_none,.none_none,.same _⟩
  |bl b=>rw[show eqD (.non) (.bl b)=false by simp[eqD]];exact⟨.none_bool b,.none_bool b,.none_bool b⟩
  |int b tb=>rw[show eqD (.non) (.int b)=false by simp[eqD]];exact⟨.none_int b tb,.none_int b tb,.none_int b tb⟩
  |str b tb=>rw[show eqD (.non) (.str b)=false by simp[eqD]];exact⟨.none_str b tb,.none_str b tb,.none_str b tb⟩
  |@tup es p2 its2 h2=>rw[show eqD (.non) (.tup es)=false by simp[eqD]];exact⟨.none_tuple h2 hu,.none_tuple h2 hu,.none_tuple h2 hu⟩
  |@rol es p2 its2 h2=>rw[show eqD (.non) (.rol es)=false by simp[eqD]];exact⟨.none_list h2 hu,.none_list h2 hu,.none_list h2 hu⟩
 |bl a=>
  cases hy with
  |non=>rw[show eqD (.bl a) (.non)=false by simp[eqD]];exact⟨.bool_none a,.bool_none a,.bool_none a⟩
  |bl b=>rw[Ab];exact⟨.bool_bool a b,.bool_bool a b,.bool_bool a b⟩
  |int b tb=>rw[zR];exact⟨.bool_int a b tb,.bool_int a b tb,.bool_int a b tb⟩
  |str b tb=>rw[show eqD (.bl a) (.str b)=false by simp[eqD]];exact⟨.bool_str a b tb,.bool_str a b tb,.bool_str a b tb⟩
  |@tup es p2 its2 h2=>rw[show eqD (.bl a) (.tup es)=false by simp[eqD]];exact⟨.bool_tuple a h2 hu,.bool_tuple a h2 hu,.bool_tuple a h2 hu⟩
  |@rol es p2 its2 h2=>rw[show eqD (.bl a) (.rol es)=false by simp[eqD]];exact⟨.bool_list a h2 hu,.bool_list a h2 hu,.bool_list a h2 hu⟩
 |int a ta=>
  cases hy with
  |non=>rw[show eqD (.int a) (.non)=false by simp[eqD]];exact⟨.int_none a ta,.int_none a ta,.int_none a ta⟩
  |bl b=>rw[yc];exact⟨.int_bool a ta b,.int_bool a ta b,.int_bool a ta b⟩
  |int b tb=>rw[yP];exact⟨.int_int a ta b tb,.int_int a ta b tb,.int_int a ta b tb⟩
  |str b tb=>rw[show eqD (.int a) (.str b)=false by simp[eqD]];exact⟨.int_str a ta b tb,.int_str a ta b tb,.int_str a ta b tb⟩
  |@tup es p2 its2 h2=>rw[show eqD (.int a) (.tup es)=false by simp[eqD]];exact⟨.int_tuple a ta h2 hu,.int_tuple a ta h2 hu,.int_tuple a ta h2 hu⟩
  |@rol es p2 its2 h2=>rw[show eqD (.int a) (.rol es)=false by simp[eqD]];exact⟨.int_list a ta h2 hu,.int_list a ta h2 hu,.int_list a ta h2 hu⟩
 |str a ta=>
  cases hy with
  |non=>rw[show eqD (.str a) (.non)=false by simp[eqD]];exact⟨.str_none a ta,.str_none a ta,.str_none a ta⟩
  |bl b=>rw[show eqD (.str a) (.bl b)=false by simp[eqD]];exact⟨.str_bool a ta b,.str_bool a ta b,.str_bool a ta b⟩
  |int b tb=>rw[show eqD (.str a) (.int b)=false by simp[eqD]];exact⟨.str_int a ta b tb,.str_int a ta b tb,.str_int a ta b tb⟩
  |str b tb=>rw[xz];exact⟨.str_str a ta b tb,.str_str a ta b tb,.str_str a ta b tb⟩
  |@tup es p2 its2 h2=>rw[show eqD (.str a) (.tup es)=false by simp[eqD]];exact⟨.str_tuple a ta h2 hu,.str_tuple a ta h2 hu,.str_tuple a ta h2 hu⟩
  |@rol es p2 its2 h2=>rw[show eqD (.str a) (.rol es)=false by simp[eqD]];exact⟨.str_list a ta h2 hu,.str_list a ta h2 hu,.str_list a ta h2 hu⟩
 |@tup ds p its h=>
  cases hy with
  |non=>rw[show eqD (.tup ds) (.non)=false by simp[eqD]];exact⟨.tuple_none h hu,.tuple_none h hu,.tuple_none h hu⟩
  |bl b=>rw[show eqD (.tup ds) (.bl b)=false by simp[eqD]];exact⟨.tuple_bool b h hu,.tuple_bool b h hu,.tuple_bool b h hu⟩
  |int b tb=>rw[show eqD (.tup ds) (.int b)=false by simp[eqD]];exact⟨.tuple_int b tb h hu,.tuple_int b tb h hu,.tuple_int b tb h hu⟩
  |str b tb=>rw[show eqD (.tup ds) (.str b)=false by simp[eqD]];exact⟨.tuple_str b tb h hu,.tuple_str b tb h hu,.tuple_str b tb h hu⟩
  |@tup es p2 its2 h2=>exact seq ds es (.inl ⟨rfl,rfl⟩)
  |@rol es p2 its2 h2=>rw[show eqD (.tup ds) (.rol es)=false by simp[eqD]];exact⟨.tuple_list h h2 hu,.tuple_list h h2 hu,.tuple_list h h2 hu⟩
 |@rol ds p its h=>
  cases hy with
  |non=>rw[show eqD (.rol ds) (.non)=false by simp[eqD]];exact⟨.list_none h hu,.list_none h hu,.list_none h hu⟩
  |bl b=>rw[show eqD (.rol ds) (.bl b)=false by simp[eqD]];exact⟨.list_bool b h hu,.list_bool b h hu,.list_bool b h hu⟩
  |int b tb=>rw[show eqD (.rol ds) (.int b)=false by simp[eqD]];exact⟨.list_int b tb h hu,.list_int b tb h hu,.list_int b tb h hu⟩
  |str b tb=>rw[show eqD (.rol ds) (.str b)=false by simp[eqD]];exact⟨.list_str b tb h hu,.list_str b tb h hu,.list_str b tb h hu⟩
  |@tup es p2 its2 h2=>rw[show eqD (.rol ds) (.tup es)=false by simp[eqD]];exact⟨.list_tuple h h2 hu,.list_tuple h h2 hu,.list_tuple h h2 hu⟩
  |@rol es p2 its2 h2=>exact seq ds es (.inr ⟨rfl,rfl⟩)
theorem zW{K:PySem.W.Frag}(I:Inv X pins σ H s)(hK:K=X.K):∀(n:Nat) {A:Around}{x y:D}{v u:V}{v2 u2:Value},plN n x=true->plN n y=true->Den K H x v->Den K H y u->RelV v v2->RelV u u2->A.units+n < cLine->
  SeqAt.RcAt A s v2 u2 (eqD x y)/\SeqAt.RcNeAt A s v2 u2 (!eqD x y)/\SeqAt.EqAt A s v2 u2 (eqD x y):=by
 subst hK;have items:∀(n:Nat),(∀{A:Around}{x y:D}{v u:V}{v2 u2:Value},plN n x=true->plN n y=true->Den X.K H x v->Den X.K H y u->RelV v v2->RelV u u2->A.units+n < cLine->
   SeqAt.RcAt A s v2 u2 (eqD x y)/\SeqAt.RcNeAt A s v2 u2 (!eqD x y)/\SeqAt.EqAt A s v2 u2 (eqD x y))->∀{A:Around}{xs ys:List D}{vs us:List V}{its its2:List Value},xs.all (plN n)=true->ys.all (plN n)=true->DenL X.K H xs vs->DenL X.K H ys us->Vals vs its->Vals us its2->A.units+(n+1) < cLine->
   ∀j (h1:j < its.toArray.size)(h2:j < its2.toArray.size),SeqAt.EqAt A.in1 s its.toArray[j] its2.toArray[j] (eqD (xs.getD j .non) (ys.getD j .non)):=by
  intro n ih A xs ys vs us its its2 p1 p2 l1 l2 r1 r2 hu j h1 h2;have h1:j < its.length:=by simpa using h1
  have h2:j < its2.length:=by simpa using h2
  have hx:j < xs.length:=by rw[l1.length,r1.length];exact h1
  have hy:j < ys.length:=by rw[l2.length,r2.length];exact h2
  obtain⟨v,e1,d1⟩:=l1.get (i:=j) (d:=xs[j]) (by simp[hx])
  obtain⟨u,e2,d2⟩:=l2.get (i:=j) (d:=ys[j]) (by simp[hy])
  obtain⟨v2,e3,rv⟩:=r1.get e1;obtain⟨u2,e4,ru⟩:=r2.get e2;have f1:its.toArray[j]=v2:=by
   have:=e3;rw[List.getElem?_eq_getElem h1]at this;simpa using this
  have f2:its2.toArray[j]=u2:=by
   have:=e4;rw[List.getElem?_eq_getElem h2]at this;simpa using this
  rw[f1,f2];have g1:xs.getD j .non=xs[j]:=by simp[List.getD,hx]
  have g2:ys.getD j .non=ys[j]:=by simp[List.getD,hy]
  rw[g1,g2];exact (ih (List.all_eq_true.mp p1 _ (List.getElem_mem hx)) (List.all_eq_true.mp p2 _ (List.getElem_mem hy)) d1 d2 rv ru (by show A.units+1+n < cLine;omega)).2.2
 intro n
 induction n with
 |zero=>
  intro A x y v u v2 u2 p1 p2 d1 d2 r1 r2 hu;refine tD (iz I p1 d1 r1) (iz I p2 d2 r2) (by omega) λds es z=>?_
  rcases z with ⟨rfl,rfl⟩|⟨rfl,rfl⟩<;>cases p1
 |succ n ih=>
  intro A x y v u v2 u2 p1 p2 d1 d2 r1 r2 hu;refine tD (iz I p1 d1 r1) (iz I p2 d2 r2) (by omega) λds es z=>?_
  rcases z with ⟨rfl,rfl⟩|⟨rfl,rfl⟩
  ·obtain⟨p,vs,rfl,q1,l1⟩:=id d1;obtain⟨p',us,rfl,q2,l2⟩:=id d2;cases r1;cases r2;obtain⟨its,v1,t1,_⟩:=I.tuple q1;obtain⟨its2,v2,t2,_⟩:=I.tuple q2;have he:=items n ih (A:=A) (by simpa [plN] using p1) (by simpa [plN] using p2) l1 l2 v1 v2 hu
   have ee:eqD (.tup ds) (.tup es)=((List.range (min its.toArray.size its2.toArray.size)).all (λj=>eqD (ds.getD j .non) (es.getD j .non))&&its.toArray.size == its2.toArray.size):=by
    simp only[eqD];rw[tR,l1.length,v1.length,l2.length,v2.length];rfl
   have rc:=SeqAt.RcAt.tuples (A:=A) t1 t2 (by omega) he
   rw[<-ee]at rc;have rn:=SeqAt.RcNeAt.tuples (A:=A) t1 t2 (by omega) he
   rw[<-ee]at rn;refine⟨rc,rn,?_⟩;by_cases hp:p=p'
   ·subst hp;rw[mU I rfl (n+1) p1 p2 d1 d2];exact .same _
   ·exact .of_refs hp rc
  ·obtain⟨p,vs,rfl,q1,l1⟩:=id d1;obtain⟨p',us,rfl,q2,l2⟩:=id d2;cases r1;cases r2;obtain⟨its,v1,t1,_⟩:=I.list q1.sq;obtain⟨its2,v2,t2,_⟩:=I.list q2.sq;have he:=items n ih (A:=A) (by simpa [plN] using p1) (by simpa [plN] using p2) l1 l2 v1 v2 hu
   have rcn:SeqAt.RcAt A s (.ref p) (.ref p') (eqD (.rol ds) (.rol es))/\SeqAt.RcNeAt A s (.ref p) (.ref p') (!eqD (.rol ds) (.rol es)):=by
    by_cases hl:its.toArray.size=its2.toArray.size
    ·have ee:eqD (.rol ds) (.rol es)=(List.range its.toArray.size).all λj=>eqD (ds.getD j .non) (es.getD j .non):=by
      have e1:ds.length=es.length:=by rw[l1.length,v1.length,l2.length,v2.length];simpa using hl
      simp only[eqD];rw[fD e1,l1.length,v1.length];rfl
     rw[ee];exact⟨.lists t1.isList t2.isList hl (by omega) he,.lists t1.isList t2.isList hl (by omega) he⟩
    ·have ee:eqD (.rol ds) (.rol es)=false:=by
      simp only[eqD];cases q:fF ds es with
      |false=>rfl
      |true=>
       have:=iR q;rw[l1.length,v1.length,l2.length,v2.length]at this;exact absurd (by simpa using this) hl
     rw[ee];exact⟨.lists_lengths t1.isList t2.isList (by simpa using hl) (by omega),.lists_lengths t1.isList t2.isList (by simpa using hl) (by omega)⟩
   refine⟨rcn.1,rcn.2,?_⟩;by_cases hp:p=p'
   ·subst hp;rw[mU I rfl (n+1) p1 p2 d1 d2];exact .same _
   ·exact .of_refs hp rcn.1
end
end L2
namespace L2
open PySem PySem.Spec PyProof.Rows
noncomputable def VO(X:Cx)(f:Value->Value->Sem Value)(r:D->D->MH->VK3->Prop):Prop:=
 ∀(pins:List (Addr×Obj)) (s:Shared)(σ:St)(H:Hp)(x y:D)(v u:V)(v2 u2:Value)(M:MH)(Q:VK3)(Q2:VK),Inv X pins σ H s->RelV v v2->RelV u u2->Den X.K H x v->Den X.K H y u->RelM X.K M H->r x y M Q->Back X.K H Q Q2->
  wpAny (model X.prog X.w) X.A (f v2 u2) (EP X pins σ Q2) X.xe s
noncomputable def VU(X:Cx)(f:Value->Sem Value)(r:D->MH->VK3->Prop):Prop:=
 ∀(pins:List (Addr×Obj)) (s:Shared)(σ:St)(H:Hp)(x:D)(v:V)(v2:Value)(M:MH)(Q:VK3)(Q2:VK),Inv X pins σ H s->RelV v v2->Den X.K H x v->RelM X.K M H->r x M Q->Back X.K H Q Q2->
  wpAny (model X.prog X.w) X.A (f v2) (EP X pins σ Q2) X.xe s
noncomputable def VC(X:Cx)(f:Value)(r:List D->MH->VK3->Prop):Prop:=
 ∀(pins:List (Addr×Obj)) (s:Shared)(σ:St)(H:Hp)(xs:List D)(vs:List V)(us:List Value)(M:MH)(Q:VK3)(Q2:VK),Inv X pins σ H s->Vals vs us->DenL X.K H xs vs->RelM X.K M H->r xs M Q->Back X.K H Q Q2->
  wpAny (model X.prog X.w) X.A (call f us) (EP X pins σ Q2) X.xe s
section
variable {X:Cx}
theorem VO.of3(h:Op3 X f r):VO X f r:=by
 obtain⟨r2,h2,hl⟩:=h;exact λpins s σ H x y v u v2 u2 M Q Q2 I rv ru dx dy rm q back=>h2 pins s σ H v u v2 u2 Q2 I rv ru (hl H x y v u M Q Q2 dx dy rm q back)
theorem VU.of3(h:Un3 X f r):VU X f r:=by
 obtain⟨r2,h2,hl⟩:=h;exact λpins s σ H x v v2 M Q Q2 I rv dx rm q back=>h2 pins s σ H v v2 Q2 I rv (hl H x v M Q Q2 dx rm q back)
theorem VC.of3(h:wZ X f r):VC X f r:=by
 obtain⟨r2,h2,hl⟩:=h;exact λpins s σ H xs vs us M Q Q2 I rv dx rm q back=>h2 pins s σ H vs us Q2 I rv (hl H xs vs M Q Q2 dx rm q back)
theorem VO.imp(h:VO X f r)(g:∀x y M Q,r' x y M Q->r x y M Q):VO X f r':=
 λpins s σ H x y v u v2 u2 M Q Q2 I rv ru dx dy rm q back=>h pins s σ H x y v u v2 u2 M Q Q2 I rv ru dx dy rm (g x y M Q q) back
theorem VU.imp(h:VU X f r)(g:∀x M Q,r' x M Q->r x M Q):VU X f r':=
 λpins s σ H x v v2 M Q Q2 I rv dx rm q back=>h pins s σ H x v v2 M Q Q2 I rv dx rm (g x M Q q) back
theorem VC.imp(h:VC X f r)(g:∀x M Q,r' x M Q->r x M Q):VC X f r':=
 λpins s σ H x v v2 M Q Q2 I rv dx rm q back=>h pins s σ H x v v2 M Q Q2 I rv dx rm (g x M Q q) back
theorem gO(h:rI2 g x y M Q):lV g x y M Q:=by
 unfold rI2 at h;split at h
 ·exact⟨_,_,rfl,rfl,h⟩
 ·exact h.elim
theorem lm(h:rII C g x y M Q):rI3 C g x y M Q:=by
 unfold rII at h;split at h
 ·exact⟨_,_,rfl,rfl,h⟩
 ·exact h.elim
theorem vz{s:Shared}{ws:List Value}(ht:IsTup s.heap t #[])(hb:IsTup s.heap b ws.toArray)(h:Q (.ref b) s):wpAny (model prog w) A (binaryOp .Add (.ref t) (.ref b)) Q E s:=by
 obtain⟨⟨cls,dd,data,sl⟩,ho,hc,n,hd⟩:=id ht;obtain⟨⟨cls2,dd2,data2,sl2⟩,ho2,hc2,n2,hd2⟩:=id hb;simp only at hc hd hc2 hd2;subst hc hd hc2 hd2;exact concat_meets ⟨_,ho,rfl⟩ ⟨_,ho2,rfl⟩ noFill_tuple_add seq_tuple_add PySem.F.slot_tuple_add PySem.F.entry_tuple_add (PySem.F.args_tuple_add_2 _ _) (tuple_addW0 t b #[] ws.toArray n n2 dd dd2 sl sl2 rfl) ⟨ho,ho2,h⟩
theorem pG{a b:List D}(I:Inv X pins σ H s)(rv:RelV v v2)(ru:RelV u u2)(dx:Den X.K H (.tup a) v)(dy:Den X.K H (.tup b) u)(rm:RelM X.K M H)
  (q:a.length+b.length<=sizeLine/\Q (.tup (a++b)) M) (back:Back X.K H Q Q2):wpAny (model X.prog X.w) X.A (binaryOp .Add v2 u2) (EP X pins σ Q2) X.xe s:=by
 obtain⟨p1,vs,rfl,sq1,dl1⟩:=dx;obtain⟨p2,us,rfl,sq2,dl2⟩:=dy;obtain⟨h2,q⟩:=q;by_cases h1:a=[]
 ·subst h1;cases (show vs=[] from dl1);cases rv;cases ru;obtain⟨its,r1,p1',_⟩:=I.tuple sq1;obtain⟨its2,r2,p2',_⟩:=I.tuple sq2;cases r1;exact vz p1' p2' ⟨.ref p2,H,I,rfl,back _ _ (.tup b) _ ⟨p2,us,rfl,sq2,dl2⟩ rm (.refl _) q⟩
 refine v3 pins s σ H _ _ v2 u2 Q2 I rv ru ⟨p1,p2,vs,us,rfl,rfl,sq1,sq2,λz=>?_,by rw[<-dl1.length,<-dl2.length];exact h2,λz=>?_,λ_ p hp=>?_⟩
 ·have:=dl1.length;rw[z]at this;cases a with
  |nil=>exact h1 rfl
  |cons _ _=>cases this
 ·have hb:b=[]:=List.length_eq_zero_iff.mp (by rw[dl2.length,z];rfl)
  subst hb;rw[List.append_nil]at q;exact back _ _ (.tup a) _ ⟨p1,vs,rfl,sq1,dl1⟩ rm (.refl _) q
 ·exact back _ _ (.tup (a++b)) _ ⟨p,_,rfl,.of ae,(dl1.append dl2).mono (.new hp)⟩ (rm.grow hp) (.new hp) q
theorem mP(a:Array α):∀(k:Nat)(b:Array α),((List.replicate k a).foldl (·++·) b).size=b.size+k * a.size
 |0,b=>by simp
 |k+1,b=>by
  rw[List.replicate_succ,List.foldl_cons,mP a k,Array.size_append,Nat.succ_mul];omega
theorem tY{z:Str}(n0:0<=n)(n1:n<=100000)(hz:z.length<=10)
  (h:∀t' tk,Q (.str (lG z n) t') {s with toks:=tk}):wpAny (model prog w) A (binaryOp .Mult (.str z t) (.int n u)) Q E s:=by
 have e1:decide (n < -(2 ^ 63:Int))=false:=decide_eq_false (by omega)
 have e2:decide (n>=2 ^ 63)=false:=decide_eq_false (by omega)
 refine PySem.P.mul_str (by rw[e1,e2];rfl) (λh1 h2=>?_) (λh1 h2=>?_) ?_
 ·have:(2 ^ 63 - 1) / n>=10:=by
   rw[ge_iff_le,Int.le_ediv_iff_mul_le (by omega)]
   omega
  omega
 ·have hl:z.length * n.toNat<=10 * 100000:=Nat.mul_le_mul hz (by omega)
  unfold Builtin.Str.tooLong;exact decide_eq_false (by rw[sizeLine_eq];omega)
 ·unfold lG at h;split
  ·rename_i hn;rw[if_pos hn]at h;exact⟨by decide,h _ _⟩
  ·rename_i hn;rw[if_neg hn]at h;split
   ·rename_i hb;rw[if_pos hb]at h;exact h _ _
   ·rename_i hb;rw[if_neg hb]at h;refine⟨?_,h _ _⟩;show ((List.replicate n.toNat z.cps).foldl (·++·) #[]).size<=sizeLine;rw[mP];have hl:n.toNat * z.cps.size<=100000 * 10:=Nat.mul_le_mul (by omega) hz
    rw[sizeLine_eq];simp;omega
theorem xU(op:Operator):VO X (binaryOp op) (jQ op):=by
 cases op with
 |Add=>
  intro pins s σ H x y v u v2 u2 M Q Q2 I rv ru dx dy rm q back;have q':uk x y M Q:=q;clear q;unfold uk at q';split at q'
  ·exact VO.of3 BR pins s σ H _ _ v u v2 u2 M Q Q2 I rv ru dx dy rm ⟨_,_,rfl,rfl,q'⟩ back
  ·rename_i a b;cases (show v=.str a from dx);cases (show u=.str b from dy);exact oh pins s σ H _ _ v2 u2 Q2 I rv ru ⟨a,b,rfl,rfl,q'.1,back _ _ _ _ eK rm (.refl _) q'.2⟩
  ·exact pG I rv ru dx dy rm q' back
  ·exact q'.elim
 |Sub=>exact (VO.of3 Be).imp λ_ _ _ _ h=>gO h
 |Mult=>
  intro pins s σ H x y v u v2 u2 M Q Q2 I rv ru dx dy rm q back;have q':uG x y M Q:=q;clear q;unfold uG at q';split at q'
  ·exact VO.of3 BX pins s σ H _ _ v u v2 u2 M Q Q2 I rv ru dx dy rm ⟨_,_,rfl,rfl,q'⟩ back
  ·rename_i z n;cases (show v=.str z from dx);cases (show u=.int n from dy);obtain⟨t,rfl⟩:=rv;obtain⟨t',rfl⟩:=ru;obtain⟨⟨n0,n1,hz⟩,q'⟩:=q';exact d8 I.tk <| tY n0 n1 hz λt2 tk _=>⟨.str (lG z n),H,I.tok _,⟨_,rfl⟩,back _ _ _ _ eK rm (.refl _) q'⟩
  ·exact q'.elim
 |FloorDiv=>exact (VO.of3 zl).imp λ_ _ _ _ h=>lm h
 |Mod=>exact (VO.of3 CC).imp λ_ _ _ _ h=>lm h
 |Pow=>exact (VO.of3 Cc).imp λ_ _ _ _ h=>lm h
 |RShift=>exact (VO.of3 BO).imp λ_ _ _ _ h=>lm h
 |BitAnd=>exact (VO.of3 Bu).imp λ_ _ _ _ h=>gO h
 |_=>exact λpins s σ H x y v u v2 u2 M Q Q2 I rv ru dx dy rm q back=>False.elim q
theorem si:VU X (unaryOp .USub) rNeg:=(VU.of3 A4).imp λx M Q h=>by
 unfold rNeg at h;split at h
 ·exact⟨_,rfl,h⟩
 ·exact h.elim
theorem xy(fz:Bool):VO X (binaryOp .Add) (g5 fz):=by
 intro pins s σ H x y v u v2 u2 M Q Q2 I rv ru dx dy rm q back;unfold g5 at q;split at q
 next a b ea eb=>
  obtain⟨l,xs,rfl,hH,dl⟩:=aF rm ea dx;obtain⟨b',zs,rfl,hB,dl2⟩:=aF rm eb dy;cases rv;cases ru;obtain⟨z,its,n,r,hl,e⟩:=I.rdL hH;obtain⟨z2,its2,n2,r2,hl2,e2⟩:=I.rdL hB;have hlen:xs.length+zs.length<=sizeLine:=by
   have:=q.1;rw[List.length_append,dl.length,dl2.length]at this;exact this
  refine PySem.P.add_list e e2 ?_ (by rw[List.size_toArray,List.size_toArray];omega)
  have ea:its.toArray++its2.toArray=(its++its2).toArray:=by simp
  rw[ea];exact bt (I.lnew (t':=s.toks) (r.append r2) (by rw[List.length_append];omega)) I.fresh (dl.append dl2) rm (.refl _) q back
 next=>
  split at q
  ·exact pG I rv ru dx dy rm q back
  ·exact q.elim
theorem wf{K:PySem.W.Frag}(rm:RelM K M H)(dx:Den K H x v)(hp:pl (res M x)=true) :
  (∃a ds,x=.ref a/\M a=some (.lst ds)/\res M x=.rol ds)\/(res M x=x):=by
 cases x with
 |ref a=>
  cases e:M a with
  |none=>
   have:res M (.ref a)=.ref a:=by simp[res,ag,e]
   rw[this]at hp;simp[plN]at hp
  |some o=>
   cases o with
   |lst ds=>exact .inl ⟨a,ds,rfl,e,by simp[res,ag,e]⟩
   |_=>
    have:res M (.ref a)=.ref a:=by simp[res,ag,e]
    rw[this]at hp;simp[plN]at hp
 |rol ds=>exact .inr rfl
 |_=>exact .inr rfl
theorem mF(I:Inv X pins σ H s)(rm:RelM X.K M H)(dx:Den X.K H x v)(hp:pl (res M x)=true) :
  ∃H',Inv X pins σ H' s/\TM X.K H H'/\Den X.K H' (res M x) v:=by
 rcases wf rm dx hp with ⟨a,ds,rfl,q,e⟩|e
 ·obtain⟨vs,e1,l⟩:=rm a _ q;obtain⟨o,I2⟩:=I.freeze e1;refine⟨_,I2,.freeze e1,?_⟩;rw[e];cases (show v=.ref a from dx);exact fq l e1
 ·rw[e];exact⟨H,I,.refl _,dx⟩
noncomputable def lD(K:PySem.W.Frag)(M:MH)(H:Hp):Prop:=∀a ds,M a=some (.lst ds)->∃vs,(H a=some (.lst vs)\/∃o,H a=some (.frz o (.lst vs)))/\DenL K H ds vs
theorem RelM.z{K:PySem.W.Frag}(rm:RelM K M H):lD K M H:=λa ds q=>by
 obtain⟨vs,e,l⟩:=rm a _ q;exact⟨vs,.inl e,l⟩
theorem Cv(I:Inv X pins σ H s)(rz:lD X.K M H)(q:M a=some (.lst ds)) :
  ∃H',Inv X pins σ H' s/\TM X.K H H'/\lD X.K M H'/\∃vs,SqF X.K H' a vs/\DenL X.K H' ds vs/\DenL X.K H ds vs:=by
 obtain⟨vs,e|⟨o,e⟩,l⟩:=rz a ds q
 ·obtain⟨o,I2⟩:=I.freeze e;have t:TM X.K H (upd H a (.frz o (.lst vs))):=.freeze e;refine⟨_,I2,t,λb es qb=>?_,vs,.inl ⟨o,ae⟩,l.mono t,l⟩
  obtain⟨us,e2,l2⟩:=rz b es qb;by_cases hb:b=a
  ·subst hb;rw[q]at qb;cases qb;exact⟨vs,.inr ⟨o,ae⟩,l.mono t⟩
  ·refine⟨us,?_,l2.mono t⟩;rw[ad hb];exact e2
 ·exact⟨H,I,.refl _,rz,vs,.inl ⟨o,e⟩,l,l⟩
theorem Bj(I:Inv X pins σ H s)(rz:lD X.K M H)(dx:Den X.K H x v) :
  ∃H',Inv X pins σ H' s/\TM X.K H H'/\lD X.K M H'/\Den X.K H' (res M x) v:=by
 cases x with
 |ref a=>
  cases e:M a with
  |none=>
   have:res M (.ref a)=.ref a:=by simp[res,ag,e]
   rw[this];exact⟨H,I,.refl _,rz,dx⟩
  |some o=>
   cases o with
   |lst ds=>
    obtain⟨H',I2,t,rz2,vs,sq,l,_⟩:=Cv I rz e;have:res M (.ref a)=.rol ds:=by simp[res,ag,e]
    rw[this];exact⟨H',I2,t,rz2,a,vs,dx,sq,l⟩
   |_=>
    have:res M (.ref a)=.ref a:=by simp[res,ag,e]
    rw[this];exact⟨H,I,.refl _,rz,dx⟩
 |rol ds=>exact⟨H,I,.refl _,rz,dx⟩
 |_=>exact⟨H,I,.refl _,rz,dx⟩
theorem ug:∀{ds:List D}{vs:List V}{H:Hp},Inv X pins σ H s->lD X.K M H->DenL X.K H ds vs->
  ∃H',Inv X pins σ H' s/\TM X.K H H'/\lD X.K M H'/\DenL X.K H' (ds.map (res M)) vs
 |[],vs,H,I,rz,dl=>⟨H,I,.refl _,rz,dl⟩
 |d::ds,vs,H,I,rz,dl=>by
  obtain⟨v,r,rfl,dv,dr⟩:=dl;obtain⟨H1,I1,t1,rz1,d1⟩:=Bj I rz dv;obtain⟨H2,I2,t2,rz2,d2⟩:=ug I1 rz1 (dr.mono t1);exact⟨H2,I2,t1.trans t2,rz2,v,r,rfl,d1.mono t2,d2⟩
theorem wo(I:Inv X pins σ H s)(rz:lD X.K M H)(dx:Den X.K H x v) :
  ∃H',Inv X pins σ H' s/\TM X.K H H'/\lD X.K M H'/\Den X.K H' (rs M x) v:=by
 cases x with
 |ref a=>
  cases e:M a with
  |none=>
   have:rs M (.ref a)=.ref a:=by simp[rs,ag,e]
   rw[this];exact⟨H,I,.refl _,rz,dx⟩
  |some o=>
   cases o with
   |lst ds=>
    have:rs M (.ref a)=.rol (if pls ds=true then ds else ds.map (res M)):=by simp[rs,ag,e]
    rw[this];obtain⟨H',I2,t,rz2,vs,sq,l,_⟩:=Cv I rz e;split
    ·exact⟨H',I2,t,rz2,a,vs,dx,sq,l⟩
    ·obtain⟨H3,I3,t3,rz3,l3⟩:=ug I2 rz2 l;exact⟨H3,I3,t.trans t3,rz3,a,vs,dx,t3.f _ _ sq,l3⟩
   |_=>
    have:rs M (.ref a)=.ref a:=by simp[rs,ag,e]
    rw[this];exact⟨H,I,.refl _,rz,dx⟩
 |rol ds=>
  have:rs M (.rol ds)=.rol (if pls ds=true then ds else ds.map (res M)):=by simp[rs,ag]
  rw[this];split
  ·exact⟨H,I,.refl _,rz,dx⟩
  ·obtain⟨p,vs,e,sq,l⟩:=dx;obtain⟨H3,I3,t3,rz3,l3⟩:=ug I rz l;exact⟨H3,I3,t3,rz3,p,vs,e,t3.f _ _ sq,l3⟩
 |_=>exact⟨H,I,.refl _,rz,dx⟩
theorem Cj(I:Inv X pins σ H s)(rm:RelM X.K M H)(dx:Den X.K H x v)(dy:Den X.K H y u) :
  ∃H',Inv X pins σ H' s/\Den X.K H' (rs M x) v/\Den X.K H' (rs M y) u:=by
 obtain⟨H1,I1,t1,rz1,d1⟩:=wo I rm.z dx;obtain⟨H2,I2,t2,rz2,d2⟩:=wo I1 rz1 (dy.mono t1);exact⟨H2,I2,d1.mono t2,d2⟩
theorem wG(hu:X.A.units+64 < cLine)(neg:Bool):VO X (compareOp (if neg=true then .NotEq else .Eq)) (lq neg):=by
 intro pins s σ H x y v u v2 u2 M Q Q2 I rv ru dx dy rm q back;obtain⟨h1,h2,q⟩:=q;obtain⟨H',I',d1,d2⟩:=Cj I rm dx dy;obtain⟨rc,rn,_⟩:=zW I' rfl 8 (A:=X.A) h1 h2 d1 d2 rv ru (by omega)
 have fin:=back _ _ _ _ (aW (K:=X.K) (H:=H)) rm (.refl _) q;cases neg with
 |true=>
  refine rn _ _ _ _ ⟨.bl _,H,I,rfl,?_⟩;rw[Bool.true_xor]at fin;exact fin
 |false=>
  refine rc _ _ _ _ ⟨.bl _,H,I,rfl,?_⟩;rw[Bool.false_xor]at fin;exact fin
end
end L2
namespace L2
open PySem PySem.Spec PyProof.Rows
section
variable {K:PySem.W.Frag}
theorem iZ[DecidableEq κ]:∀{ks:List κ}{ds:List D}{vs:List V}{k:κ},DenL K H ds vs->ks.length=vs.length->
  (∀d,getD ks ds k=some d->∃v,dM (ks.zip vs) k=some v/\Den K H d v)/\(getD ks ds k=none->dM (ks.zip vs) k=none)
 |[],_,vs,k,_,_=>⟨λd e=>by simp[getD]at e,λ_=>by simp[dM]⟩
 |q::ks,[],vs,k,dl,hl=>by cases (show vs=[] from dl);cases hl
 |q::ks,d0::ds,_,k,dl,hl=>by
  obtain⟨v,r,rfl,dv,dl⟩:=dl;have ih:=iZ (ks:=ks) (k:=k) dl (by simpa using hl)
  by_cases z:q=k
  ·refine⟨λd e=>?_,λe=>?_⟩
   ·simp only[getD,if_pos z]at e;cases e;exact⟨v,dR (p:=(q,v)) z,dv⟩
   ·simp only[getD,if_pos z]at e;cases e
  ·refine⟨λd e=>?_,λe=>?_⟩
   ·simp only[getD,if_neg z]at e;obtain⟨w,h1,h2⟩:=ih.1 d e;exact⟨w,(c9 (p:=(q,v)) z).trans h1,h2⟩
   ·simp only[getD,if_neg z]at e;exact (c9 (p:=(q,v)) z).trans (ih.2 e)
theorem m8(h:ya y=some k)(d:Den K H y u):u=kV k:=by
 cases y with
 |int i=>cases (show some (Sum.inl i)=some k from h);exact d
 |str x=>cases (show some (Sum.inr x)=some k from h);exact d
 |_=>cases h
theorem kG:∀{es:List D}{vs:List V}{k:List Int},gY es=some k->DenL K H es vs->vs=k.map V.int
 |[],vs,k,h,dl=>by cases (show some []=some k from h);exact dl
 |d::es,_,k,h,dl=>by
  obtain⟨v,r,rfl,dv,dl⟩:=dl;cases d with
  |int i=>
   simp only[gY]at h;split at h
   ·rename_i ns q;cases h;rw[kG q dl];cases (show v=.int i from dv);rfl
   ·cases h
  |_=>cases h
theorem mE{k:List Int}(h:og y=some k)(d:Den K H y u):∃b,u=.ref b/\SqT K H b (k.map V.int):=by
 cases y with
 |tup es=>
  obtain⟨b,vs,e,sq,dl⟩:=d;refine⟨b,e,?_⟩;rw[<-kG h dl];exact sq
 |_=>cases h
theorem uj{ks:List Key}(h:m9 M x=some (ks,ds))(rm:RelM K M H)(d:Den K H x v):∃p vs,v=.ref p/\Rd H p (.dK (ks.zip vs))/\ks.length=vs.length/\DenL K H ds vs:=by
 cases x with
 |dik ks' ds'=>
  cases h;obtain⟨p,vs,o,rfl,e,hl,dl⟩:=d;exact⟨p,vs,rfl,.inr ⟨o,e⟩,hl,dl⟩
 |ref a=>
  simp only[m9]at h;split at h
  ·rename_i q;cases h;obtain⟨vs,e,hl,dl⟩:=rm a _ q;exact⟨a,vs,d,.inl e,hl,dl⟩
  ·cases h
 |_=>cases h
theorem jw(h:jP M x=some (ks,ds))(rm:RelM K M H)(d:Den K H x v):∃p vs xs,v=.ref p/\Rd H p (.ext (dH p xs))/\TabOk K H p ks xs vs/\DenL K H ds vs:=by
 cases x with
 |dit ks' ds'=>
  cases h;obtain⟨p,vs,o,xs,rfl,e,z,dl⟩:=d;exact⟨p,vs,xs,rfl,.inr ⟨o,e⟩,z,dl⟩
 |ref a=>
  simp only[jP]at h;split at h
  ·rename_i q;cases h;obtain⟨vs,xs,e,z,dl⟩:=rm a _ q;exact⟨a,vs,xs,d,.inl e,z,dl⟩
  ·cases h
 |_=>cases h
theorem TabOk.len{ks:List (List Int)}{vs:List V}(z:TabOk K H a ks xs vs):ks.length=vs.length:=by
 rw[<-z.kx,List.length_map,z.vx.length,List.length_map]
theorem gK:∀{xs:List (List Int×Addr×Value)}{vs:List V} (k:List Int),Vals vs (xs.map (·.2.2))->RelO (dM ((xs.map (·.1)).zip vs) k) ((atKey xs k).map (·.2))
 |[],vs,k,r=>by cases r;exact True.intro
 |x::xs,vs,k,r=>by
  rw[List.map_cons]at r;cases r with
  |@cons v _ vs _ h t=>
   have ih:=gK k t;by_cases e:x.1=k
   ·have b:atKey (x::xs) k=some x.2:=by simp[atKey,List.find?_cons,e]
    rw[List.map_cons,List.zip_cons_cons,dR (p:=(x.1,v)) e,b];exact h
   ·have b:atKey (x::xs) k=atKey xs k:=by simp[atKey,List.find?_cons,e]
    rw[List.map_cons,List.zip_cons_cons,c9 (p:=(x.1,v)) e,b];exact ih
end
inductive DRd (X:Cx) (H:Hp) (a:Addr) (u:V):Option V->Prop where
 |k {kvs:List (Key×V)}{k:Key} (e:Rd H a (.dK kvs)) (hu:u=kV k):DRd X H a u (dM kvs k)
 |t {ks:List (List Int)}{xs:List (List Int×Addr×Value)}{vs:List V}{k:List Int}{b:Addr} (e:Rd H a (.ext (dH a xs))) (z:TabOk X.K H a ks xs vs) (hu:u=.ref b) (sq:SqT X.K H b (k.map V.int)):DRd X H a u (dM (ks.zip vs) k)
noncomputable def OptDen(K:PySem.W.Frag)(H:Hp):Option D->Option V->Prop
 |some d,some v=>Den K H d v
 |none,none=>True
 |_,_=>False
theorem mY{X:Cx}(h:lf M x y=some o)(rm:RelM X.K M H)(dx:Den X.K H x v)(dy:Den X.K H y u):∃a ov,v=.ref a/\DRd X H a u ov/\OptDen X.K H o ov:=by
 unfold lf at h;split at h
 ·rename_i ks ds e;split at h
  ·rename_i k ek;cases h;obtain⟨p,vs,rfl,rd,hl,dl⟩:=uj e rm dx;refine⟨p,_,rfl,.k rd (m8 ek dy),?_⟩;have g:=iZ (k:=k) dl hl;cases q:getD ks ds k with
   |none=>rw[g.2 q];exact True.intro
   |some d=>obtain⟨w,h1,h2⟩:=g.1 d q;rw[h1];exact h2
  ·cases h
 ·split at h
  ·rename_i ks ds e;split at h
   ·rename_i k ek;cases h;obtain⟨p,vs,xs,rfl,rd,z,dl⟩:=jw e rm dx;obtain⟨b,hb,sq⟩:=mE ek dy;refine⟨p,_,rfl,.t rd z hb sq,?_⟩;have g:=iZ (k:=k) dl z.len;cases q:getD ks ds k with
    |none=>rw[g.2 q];exact True.intro
    |some d=>obtain⟨w,h1,h2⟩:=g.1 d q;rw[h1];exact h2
   ·cases h
  ·cases h
section
variable {X:Cx}{s:Shared}{o:Option V}{A:Around}
theorem jq:∀{ks:List Int}{us:List Value},Vals (ks.map V.int) us->ItemsAre (intKind P w) ks us
 |[],_,r=>by rw[List.map_nil]at r;cases r;exact .nil
 |k::ks,_,r=>by
  rw[List.map_cons]at r;cases r with
  |cons h t=>
   obtain⟨tk,rfl⟩:=h;exact .cons (by show Value.isInt k (.int k tk)=true;simp[Value.isInt]) (jq t)
theorem iH{k:List Int}(I:Inv X pins σ H s)(sq:SqT X.K H b (k.map V.int)):(tupleKind (intKind X.prog X.w)).is s.heap k b:=by
 obtain⟨its,r,⟨o,e,c,n,d⟩,_⟩:=I.tuple sq;exact⟨o,its.toArray,n,e,c,d,by simpa using jq r⟩
theorem fP(I:Inv X pins σ H s)(e:Rd H a (.ext (dH a xs)))(z:TabOk X.K H a ks xs vs):s.heap.DictOfH (tupleKind (intKind X.prog X.w)) a xs:=by
 obtain⟨⟨ob,es,ep,h1,h2,h3,h4⟩,_⟩:=(show ObjOk X.prog X.w H s.heap a (.ext (dH a xs)) from e.ok I.hok);exact⟨ob,es,ep,h1,h2,h3,h4,λx hx=>iH I (z.at_ x hx),by rw[z.kx];exact z.nd⟩
theorem DRd.isDict(I:Inv X pins σ H s)(g:DRd X H a y o):s.TypeIs (.ref a) "dict":=by
 cases g with
 |k e _=>obtain⟨_,_,vs,_,dd⟩:=mv I.hok e;exact dd.typeIs
 |t e z _ _=>exact (fP I e z).typeIs
theorem qE(hu:A.units+1 < cLine)(I:Inv X pins σ H s)(g:DRd X H a y o)(ho:o=some v)(ry:RelV y u)(h:∀w' s',Inv X pins σ H s'->RelV v w'->Q w' s') :
  wpAny (model X.prog X.w) A (getItem (.ref a) u) Q E s:=by
 cases g with
 |k e hk=>exact qG hu I (.inl ⟨_,_,e,hk,ho.symm⟩) ry h
 |@t ks xs vs k b e z hb sq=>
  subst hb;cases (show u=Value.ref b from ry);have dd:=fP I e z;have rel:=gK (vs:=vs) k z.vx;rw[z.kx]at rel;obtain⟨w',hw,rw'⟩:=RelO.some_of (v:=v) (o:=(atKey xs k).map (·.2)) (by rw[<-ho];exact rel)
  obtain⟨p,hp,hp2⟩:=Option.map_eq_some_iff.mp hw;refine wpAny_getItem_heap (tupleKind_room_in1 hu) (iH I sq) dd hp ?_;rw[hp2];exact h w' _ (I.tok _) rw'
theorem FJ(neg:Bool)(hu:A.units+1 < cLine)(I:Inv X pins σ H s)(g:DRd X H a y o)(ry:RelV y u)(h:∀s',Inv X pins σ H s'->Q (.bool (neg ^^ o.isSome)) s') :
  wpAny (model X.prog X.w) A (compareOp (if neg=true then .NotIn else .In) u (.ref a)) Q E s:=by
 cases g with
 |k e hk=>
  cases neg with
  |true=>exact vO hu I (.inl ⟨_,_,e,hk,rfl⟩) ry λs' I'=>by have:=h s' I';rw[Bool.true_xor]at this;exact this
  |false=>exact Fo hu I (.inl ⟨_,_,e,hk,rfl⟩) ry λs' I'=>by have:=h s' I';rw[Bool.false_xor]at this;exact this
 |@t ks xs vs k b e z hb sq=>
  subst hb;cases (show u=Value.ref b from ry);have dd:=fP I e z;have rel:=gK (vs:=vs) k z.vx;rw[z.kx]at rel;have q:=rel.isSome_eq;rw[Option.isSome_map]at q;rw[q]at h;cases neg with
  |true=>
   refine wpAny_notIn_heap (tupleKind_room_in1 hu) (iH I sq) z.no dd ?_;have:=h _ (I.tok (s.toks+(tupleKind (intKind X.prog X.w)).draws k));rw[Bool.true_xor]at this;exact this
  |false=>
   refine wpAny_in_heap (tupleKind_room_in1 hu) (iH I sq) z.no dd ?_;have:=h _ (I.tok (s.toks+(tupleKind (intKind X.prog X.w)).draws k));rw[Bool.false_xor]at this;exact this
end
section
variable {K:PySem.W.Frag}
theorem qz[DecidableEq κ]{l:List (κ×V)}:dQ ((q,w)::l) k v=if q=k then (q,v)::l.map (λkv=>if kv.1=k then (kv.1,v) else kv) else (q,w)::dQ l k v:=by
 unfold dQ;by_cases e:q=k
 ·simp[e]
 ·by_cases g:(l.any λkv=>decide (kv.1=k))=true
  ·simp[e,g]
  ·simp[e,g]
theorem nE[DecidableEq κ]:∀{ks:List κ}{vs:List V},¬ k∈ks->(ks.zip vs).map (λkv=>if kv.1=k then (kv.1,v) else kv)=ks.zip vs
 |[],_,_=>by simp
 |q::ks,[],_=>by simp
 |q::ks,w::vs,h=>by
  have hq:¬ q=k:=λz=>h (by simp[z])
  have ih:=nE (k:=k) (v:=v) (ks:=ks) (vs:=vs) λm=>h (List.mem_cons_of_mem _ m)
  simp only[List.zip_cons_cons,List.map_cons,if_neg hq,ih]
theorem nn[DecidableEq κ]:∀{ks:List κ}{ds:List D}{vs:List V}{k:κ}{y:D}{v:V},ks.Nodup->DenL K H ds vs->ks.length=vs.length->Den K H y v->
  ∃vs',dQ (ks.zip vs) k v=(aK ks k).zip vs'/\(aK ks k).length=vs'.length/\DenL K H (bJ ks ds k y) vs'
 |[],ds,vs,k,y,v,_,dl,hl,dy=>by
  cases vs with
  |nil=>exact⟨[v],rfl,rfl,by unfold bJ;exact .one dy⟩
  |cons _ _=>cases hl
 |q::ks,[],vs,k,y,v,_,dl,hl,dy=>by cases (show vs=[] from dl);cases hl
 |q::ks,d::ds,_,k,y,v,nd,dl,hl,dy=>by
  obtain⟨w,r,rfl,dw,dl⟩:=dl;obtain⟨n1,n2⟩:=List.nodup_cons.mp nd;rw[List.zip_cons_cons,qz];by_cases e:q=k
  ·subst e;rw[if_pos rfl,nE n1];refine⟨v::r,?_,?_,?_⟩
   ·simp[aK]
   ·simpa [aK] using hl
   ·simp only[bJ,if_pos];exact .cons dy dl
  ·rw[if_neg e];obtain⟨vs',h1,h2,h3⟩:=nn (k:=k) (v:=v) n2 dl (by simpa using hl) dy
   refine⟨w::vs',?_,?_,?_⟩
   ·simp[aK,if_neg e,h1]
   ·simp[aK,if_neg e,h2]
   ·simp only[bJ,if_neg e];exact .cons dw h3
theorem nM{x:List Int×Addr×Value}{xs:List (List Int×Addr×Value)}:storedH (x::xs) k b r=if x.1=k then (x.1,x.2.1,r)::xs.map (putAt k r) else x::storedH xs k b r:=by
 unfold storedH;by_cases e:x.1=k
 ·have b':atKey (x::xs) k=some x.2:=by simp[atKey,List.find?_cons,e]
  rw[b',if_pos e];simp[putAt,e]
 ·have b':atKey (x::xs) k=atKey xs k:=by simp[atKey,List.find?_cons,e]
  rw[b',if_neg e];by_cases g:(atKey xs k).isSome=true
  ·rw[if_pos g,if_pos g];simp[putAt,e]
  ·rw[if_neg g,if_neg g];rfl
theorem jb:∀{xs:List (List Int×Addr×Value)},¬ k∈xs.map (·.1)->xs.map (putAt k r)=xs
 |[],_=>rfl
 |x::xs,h=>by
  have hq:¬ x.1=k:=λz=>h (by simp[z])
  rw[List.map_cons,jb λm=>h (List.mem_cons_of_mem _ m)]
  simp[putAt,hq]
theorem jt:∀{xs:List (List Int×Addr×Value)}{ds:List D}{vs:List V}{k:List Int}{b:Addr}{r:Value}{y:D}{v:V},(xs.map (·.1)).Nodup->Vals vs (xs.map (·.2.2))->RelV v r->DenL K H ds vs->Den K H y v->
  ∃vs',(storedH xs k b r).map (·.1)=aK (xs.map (·.1)) k/\Vals vs' ((storedH xs k b r).map (·.2.2))/\DenL K H (bJ (xs.map (·.1)) ds k y) vs'/\∀x∈storedH xs k b r,(x.1=k/\x.2.1=b)\/∃x'∈xs,x'.1=x.1/\x'.2.1=x.2.1
 |[],ds,vs,k,b,r,y,v,_,vr,rv,dl,dy=>by
  cases vr;cases ds with
  |cons _ _=>obtain⟨_,_,z,_⟩:=dl;cases z
  |nil=>exact⟨[v],rfl,.cons rv .nil,by unfold bJ;exact .one dy,λx hx=>.inl (by simp[storedH,atKey]at hx;simp[hx])⟩
 |x::xs,ds,vs,k,b,r,y,v,nd,vr,rv,dl,dy=>by
  rw[List.map_cons]at vr nd;cases vr with
  |@cons w _ vs _ h t=>
   cases ds with
   |nil=>cases (show w::vs=[] from dl)
   |cons d ds=>
    obtain⟨w',r',e',dw,dl⟩:=dl;cases e';obtain⟨n1,n2⟩:=List.nodup_cons.mp nd;rw[nM];by_cases e:x.1=k
    ·rw[if_pos e,jb (by rw[<-e];exact n1)]
     refine⟨v::vs,?_,.cons rv t,?_,λz hz=>?_⟩
     ·simp[aK,e]
     ·simp only[List.map_cons,bJ,if_pos e];exact .cons dy dl
     ·rcases List.mem_cons.mp hz with rfl|hz
      ·exact .inr ⟨x,List.mem_cons_self,rfl,rfl⟩
      ·exact .inr ⟨z,List.mem_cons_of_mem _ hz,rfl,rfl⟩
    ·rw[if_neg e];obtain⟨vs',h1,h2,h3,h4⟩:=jt (k:=k) (b:=b) n2 t rv dl dy;refine⟨w::vs',?_,.cons h h2,?_,λz hz=>?_⟩
     ·simp only[List.map_cons,aK,if_neg e,h1]
     ·simp only[List.map_cons,bJ,if_neg e];exact .cons dw h3
     ·rcases List.mem_cons.mp hz with rfl|hz
      ·exact .inr ⟨z,List.mem_cons_self,rfl,rfl⟩
      ·rcases h4 z hz with q|⟨x',hx',q⟩
       ·exact .inl q
       ·exact .inr ⟨x',List.mem_cons_of_mem _ hx',q⟩
theorem ke[DecidableEq κ]:∀{ks:List κ}{k:κ},(aK ks k).length<=ks.length+1
 |[],_=>by simp[aK]
 |q::ks,k=>by
  unfold aK;split
  ·simp
  ·have:=ke (ks:=ks) (k:=k);simp only[List.length_cons];omega
theorem putD1_mem[DecidableEq κ]:∀{ks:List κ}{k x:κ},x∈aK ks k<->x∈ks\/x=k
 |[],k,x=>by simp[aK]
 |q::ks,k,x=>by
  unfold aK;split
  ·rename_i e;subst e;simp;intro z;exact .inl z
  ·rw[List.mem_cons,putD1_mem,List.mem_cons,or_assoc]
theorem hJ[DecidableEq κ]:∀{ks:List κ}{k:κ},ks.Nodup->(aK ks k).Nodup
 |[],k,_=>by simp[aK]
 |q::ks,k,h=>by
  obtain⟨n1,n2⟩:=List.nodup_cons.mp h;unfold aK;split
  ·exact h
  ·rename_i e;refine List.nodup_cons.mpr ⟨λm=>?_,hJ n2⟩
   rcases putD1_mem.mp m with z|z
   ·exact n1 z
   ·exact e z
end
section
variable {X:Cx}{A:Around}{ks:List Key}
theorem nq:∀{ks:List κ}{vs:List V},ks.length=vs.length->(ks.zip vs).map (·.1)=ks
 |[],_,_=>by simp
 |q::ks,[],h=>by cases h
 |q::ks,v::vs,h=>by simp[nq (ks:=ks) (vs:=vs) (by simpa using h)]
theorem tq{vs:List V}(I:Inv X pins σ H s)(e:H a=some (.dK (ks.zip vs)))(hl:ks.length=vs.length):ks.Nodup:=by
 obtain⟨_,_,ws,rel,_,_,_,_,_,_,_,_,nd⟩:=wL I.hok e;rw[<-rel.keys,nq hl]at nd;exact nd
theorem xA{k:Key}{y:D}{v w:V}{R:MH->Prop}{R2:Hp->Prop}(hu:A.units+1 < cLine)(I:Inv X pins σ H s)(rm:RelM X.K M H)(q:M a=some (.dk ks ds))(hk:w=kV k)(rw':RelV w u)(dy:Den X.K H y v)(rv:RelV v r)(hz:ks.length < sizeLine)
  (h:R (put M a (.dk (aK ks k) (bJ ks ds k y)))) (back:∀H' M',RelM X.K M' H'->TM X.K H H'->R M'->R2 H'):wpAny (model X.prog X.w) A (setItem (.ref a) u r) (λ_ s'=>∃H',Inv X pins σ H' s'/\R2 H') E s:=by
 obtain⟨vs,e,hl,dl⟩:=rm a _ q;subst hk;obtain⟨vs',h1,h2,h3⟩:=nn (k:=k) (v:=v) (tq I e hl) dl hl dy;refine qD hu I (.inl ⟨_,k,e,rfl,?_,rfl⟩) rw' rv λs' I'=>⟨_,I',?_⟩
 ·rw[List.length_zip,hl,Nat.min_self,<-hl];exact hz
 ·have tw:TM X.K H (upd H a (.dK (dQ (ks.zip vs) k v))):=.put e (λ_ z=>by cases z) λ_ _ z=>by cases z
  exact back _ _ (rm.write (u:=.dk (aK ks k) (bJ ks ds k y)) e (λ_ z=>by cases z) (λ_ _ z=>by cases z) ⟨vs',by rw[ae,h1],h2,h3.mono tw⟩) tw h
theorem zu{kt:List (List Int)}{k:List Int}{y:D}{v:V}{b:Addr}{R:MH->Prop}{R2:Hp->Prop}(hu:A.units+1 < cLine)(I:Inv X pins σ H s)(rm:RelM X.K M H)(q:M a=some (.dt kt ds))(sq:SqT X.K H b (k.map V.int))(dy:Den X.K H y v)(rv:RelV v r)(hz:kt.length < sizeLine)
  (h:R (put M a (.dt (aK kt k) (bJ kt ds k y)))) (back:∀H' M',RelM X.K M' H'->TM X.K H H'->R M'->R2 H'):wpAny (model X.prog X.w) A (setItem (.ref a) (.ref b) r) (λ_ s'=>∃H',Inv X pins σ H' s'/\R2 H') E s:=by
 obtain⟨vs,xs,e,z,dl⟩:=rm a _ q;have dd:=fP I (.inl e) z;have nd:(xs.map (·.1)).Nodup:=by rw[z.kx];exact z.nd
 obtain⟨vs',h1,h2,h3,h4⟩:=jt (k:=k) (b:=b) nd z.vx rv dl dy;rw[z.kx]at h1 h3;have hsz:xs.length<=sizeLine:=by
  have:=congrArg List.length z.kx;rw[List.length_map]at this;omega
 refine wpAny_setItem_heap (hsz:=hsz) (tupleKind_room_in1 hu) (iH I sq) dd λh' dd' hs=>?_
 obtain⟨ob,es,ep,hq,hx,hd,he,_,_⟩:=dd';have tw:TM X.K H (upd H a (.ext (dH a (storedH xs k b r)))):=.put e (λ_ z=>by cases z) λ_ _ z=>by cases z
 have tb:dH a (storedH xs k b r) h':=⟨ob,es,ep,hq,hx,hd,he⟩;have I':Inv X pins σ (upd H a (.ext (dH a (storedH xs k b r)))) {s with heap:=h',toks:=s.toks+(tupleKind (intKind X.prog X.w)).draws k}:=
  lx I (by rw[e];exact True.intro) hs ⟨ob,hq⟩ ⟨tb,⟨ob,hq⟩,λg1 g2 ⟨o1,es1,ep1,a1,a2,a3,a4⟩ kk=>⟨o1,es1,ep1,kk _ a1,a2,a3,a4⟩⟩
 refine⟨_,I',back _ _ (rm.write (u:=.dt (aK kt k) (bJ kt ds k y)) e (λ_ z=>by cases z) (λ_ _ z=>by cases z) ⟨vs',_,ae,⟨h1,hJ z.nd,Nat.le_trans ke hz,z.no,h2,λx hx'=>?_⟩,h3.mono tw⟩) tw h⟩
 rcases h4 x hx' with ⟨q1,q2⟩|⟨x',m,q1,q2⟩
 ·rw[q1,q2];exact tw.t _ _ sq
 ·rw[<-q1,<-q2];exact tw.t _ _ (z.at_ x' m)
end
end L2
namespace L2
open PySem PySem.Spec PyProof.Rows PySem.W
section
variable {A:Around}{s:Shared}{ob:Obj}{es:Array DictEntry}{e:DictEntry}
theorem qY(hn:(d == sysModules)=false):MeetsIn prog w (Builtin.«dict.__len__» ⟨[.ref d],[]⟩) (λ_ R s=>∃ob es ep,s.heap.get? d=some ob/\ob.data=.dict es ep/\R (.ok (.ret (.int es.size s.toks))) {s with toks:=s.toks+1}):=
 .of_wp λA R s ⟨ob,es,ep,ho,hd,q⟩=>by
  show wpAny _ _ (dictSize d >>=_) _ _ s;unfold dictSize;refine wpAny_bind (wpAny_bind (wpAny_dictEntries ho hd (wpAny_pure ?_)));show wpAny _ _ (Builtin.Dict.pendingCount d >>=_) _ _ s;exact wpAny_bind (wpAny_pendingCount_other hn (wpAny_ret_mkInt q))
theorem EL(hn:(d == sysModules)=false)(ho:s.heap.get? d=some ob)(hx:ob.ExactDict)(hd:ob.data=.dict es ep)(hz:(es.size:Int) < 2 ^ 63)(q:Q (.int es.size (s.toks+1)) {s with toks:=s.toks+1+1}) :
  wpAny (model prog w) A (call (.builtin "len") [.ref d]) Q E s:=by
 have hT:s.TypeIs (.ref d) "dict":=⟨_,ho,hx.1⟩;refine Calls.call_function_entry kind_len plain_len entry_len (args_len1 _) ?_;unfold Builtin.«len»;refine wpAny_bind (m:=oneArg "len" _) (wpAny_pure ?_);refine wpAny_bind (m:=callSpecial? (.ref d) (Str.ofString "__len__")) (wpAny_callSpecial?_slot (name:=Str.ofString "__len__") hT F.slot_dict_len
  (call_meetsIn F.slot_dict_len hT F.entry_dict_len (F.args_dict_len_1 _) (qY hn) ⟨ob,es,ep,ho,hd,?_⟩))
 show wpAny _ _ _ _ _ {s with toks:=s.toks+1}
 refine wpAny_bind (wpAny_holding (wpAny_pure ?_));refine wpAny_bind (wpAny_letGo ?_);show wpAny _ _ (if ((es.size:Nat):Int) < 0 then _ else _) _ _ _
 rw[if_neg (by omega)]
 show wpAny _ _ (if ((es.size:Nat):Int)>=2 ^ 63 then _ else _) _ _ _
 rw[if_neg (by omega)]
 exact wpAny_bind (wpAny_mkInt (wpAny_pure ⟨_,rfl,q⟩))
theorem C6(hn:(d == sysModules)=false)(ho:s.heap.get? d=some ob)(hx:ob.ExactDict)(hd:ob.data=.dict es ep)
  (hQ:Q (.ref s.heap.objs.size) {s with heap:=s.heap.push {cls:=.type "dict_keyiterator",data:=.fields #[.ref d,.int 0 0,.int es.size 0,.int ep 0]}}):wpAny (model prog w) A (pyIter (.ref d)) Q E s:=by
 have hT:s.TypeIs (.ref d) "dict":=⟨_,ho,hx.1⟩;refine wpAny_pyIter_slot hT F.slot_dict_iter (wpAny_call_entry F.slot_dict_iter hT F.entry_dict_iter ?_ (F.args_dict_iter_1 _));unfold Builtin.«dict.__iter__»;refine wpAny_bind ?_;unfold Builtin.Dict.dictSlotNone;refine wpAny_bind (wpAny_notOrdered_dict hT ?_);show wpAny _ _ (pure (Value.ref d)) _ _ s;refine wpAny_pure ?_;show wpAny _ _ (Builtin.Dict.showsAll d >>=_) _ _ s;unfold Builtin.Dict.showsAll;rw[if_neg (by rw[hn];exact Bool.false_ne_true)]
 refine wpAny_bind (wpAny_pure (wpAny_bind (wpAny_dictEntries ho hd (wpAny_bind (wpAny_dictEpoch ho hd ?_)))));refine wpAny_bind (wpAny_newObj_type (wpAny_pure ⟨_,rfl,"dict_keyiterator",_,⟨_,Heap.get?_push_size _ rfl,rfl⟩,F.slot_dict_keyiterator_next.lookup,?_⟩));simpa [rawInt] using hQ
theorem sX(hit:s.heap.IsKeyIter it d i es.size ep)(hod:s.heap.get? d=some ob)(hdd:ob.data=.dict es ep)(he:es[i]?=some e)
  (hQ:∀h',h'.IsKeyIter it d (i+1) es.size ep->Heap.SameBut it s.heap h'->Q (some e.key) {s with heap:=h'}):wpAny (model prog w) A (pyNext (.ref it)) Q E s:=by
 obtain⟨o,ho,hc,hd⟩:=id hit;unfold pyNext;refine wpAny_bind (wpAny_attempt (wpAny_callSpecial?_slot (name:=Str.ofString "__next__") hit.typeIs F.slot_dict_keyiterator_next
  (wpAny_call_entry F.slot_dict_keyiterator_next hit.typeIs F.entry_dict_keyiterator_next ?_ (F.args_dict_keyiterator_next_1 _))))
 refine wpAny_bind (wpAny_pure (wpAny_bind (wpAny_bind ?_)))
 first|refine wpAny_bind (wpAny_typeNameOfWhole_keyiter hit.typeIs (wpAny_pure ?_))|refine wpAny_bind (wpAny_typeNameOf_keyiter hit.typeIs (wpAny_pure ?_))
 refine wpAny_bind (wpAny_fieldsOf ho hd ?_);simp only[show Builtin.Dict_items.ownsTuple "dict_keyiterator"=false by decide,Bool.false_eq_true,if_false]
 show wpAny _ _ (if (Value.ref d == Value.none)=true then _ else _) _ _ s
 rw[if_neg (show ¬ ((Value.ref d == Value.none)=true) from Bool.false_ne_true)];refine wpAny_bind (wpAny_pure (wpAny_bind (wpAny_dictEntries hod hdd ?_)));rw[if_neg (by simp)]
 refine wpAny_bind (wpAny_pure (wpAny_bind (wpAny_dictEpoch hod hdd ?_)));rw[if_neg (by simp)]
 refine wpAny_pure ?_;simp only[show ¬ ((i:Int) < 0) from by omega,if_false,Int.toNat_natCast,he]
 refine wpAny_bind ?_
 first|refine wpAny_bind (wpAny_typeNameOfWhole_keyiter hit.typeIs (wpAny_pure ?_))|refine wpAny_bind (wpAny_typeNameOf_keyiter hit.typeIs (wpAny_pure ?_))
 refine wpAny_bind (wpAny_isOneOf_keyiter hit.typeIs ?_);show wpAny _ _ (setField (.ref it) 1 (rawInt ((i:Int)+1)) >>=_) _ _ s;refine wpAny_bind (wpAny_setField ho hd (by simp) ?_)
 have hit':(s.heap.update it (Obj.mapFields (·.setIfInBounds 1 (rawInt ((i:Int)+1))))).IsKeyIter it d (i+1) es.size ep:=
  ⟨_,Heap.get?_update_self _ ho (Obj.isFreed_of_fields (Obj.data_mapFields hd _)),(Obj.cls_mapFields ..).trans hc,by rw[Obj.data_mapFields hd];simp[rawInt]⟩
 refine wpAny_bind (wpAny_holding ?_);refine wpAny_bind (wpAny_isOneOf_keyiter (s:={s with heap:=s.heap.update it (Obj.mapFields (·.setIfInBounds 1 (rawInt ((i:Int)+1))))}) hit'.typeIs ?_)
 show wpAny _ _ (pure e.key) _ _ _;exact wpAny_pure (wpAny_pure ⟨_,rfl,wpAny_pure (hQ _ hit' (Heap.SameBut.update ..))⟩)
theorem tW(hh:A.handled=none)(hit:s.heap.IsKeyIter it d i es.size ep)(hod:s.heap.get? d=some ob)(hdd:ob.data=.dict es ep)(he:es.size<=i)
  (hQ:∀h',Heap.ExtBut it s.heap h'->Q none {s with heap:=h'}):wpAny (model prog w) A (pyNext (.ref it)) Q E s:=by
 obtain⟨o,ho,hc,hd⟩:=id hit;unfold pyNext;refine wpAny_bind (wpAny_attempt (wpAny_callSpecial?_slot (name:=Str.ofString "__next__") hit.typeIs F.slot_dict_keyiterator_next
  (wpAny_call_entry F.slot_dict_keyiterator_next hit.typeIs F.entry_dict_keyiterator_next ?_ (F.args_dict_keyiterator_next_1 _))))
 refine wpAny_bind (wpAny_pure (wpAny_bind (wpAny_bind ?_)))
 first|refine wpAny_bind (wpAny_typeNameOfWhole_keyiter hit.typeIs (wpAny_pure ?_))|refine wpAny_bind (wpAny_typeNameOf_keyiter hit.typeIs (wpAny_pure ?_))
 refine wpAny_bind (wpAny_fieldsOf ho hd ?_);simp only[show Builtin.Dict_items.ownsTuple "dict_keyiterator"=false by decide,Bool.false_eq_true,if_false]
 show wpAny _ _ (if (Value.ref d == Value.none)=true then _ else _) _ _ s
 rw[if_neg (show ¬ ((Value.ref d == Value.none)=true) from Bool.false_ne_true)];refine wpAny_bind (wpAny_pure (wpAny_bind (wpAny_dictEntries hod hdd ?_)));rw[if_neg (by simp)]
 refine wpAny_bind (wpAny_pure (wpAny_bind (wpAny_dictEpoch hod hdd ?_)));rw[if_neg (by simp)]
 refine wpAny_pure ?_;simp only[show ¬ ((i:Int) < 0) from by omega,if_false,Int.toNat_natCast,Array.getElem?_eq_none he]
 refine wpAny_bind ?_
 first|refine wpAny_bind (wpAny_typeNameOfWhole_keyiter hit.typeIs (wpAny_pure ?_))|refine wpAny_bind (wpAny_typeNameOf_keyiter hit.typeIs (wpAny_pure ?_))
 show wpAny _ _ (setField (.ref it) 0 .none >>=_) _ _ s;refine wpAny_bind (wpAny_setField ho hd (by simp) ?_)
 show wpAny _ _ (newExc (.type "StopIteration") [] >>=_) _ _ _;refine wpAny_bind ?_;simp only[newExc,newTuple];refine wpAny_bind (wpAny_newObj_type ?_ (by size_fits))
 refine wpAny_bind (m:=firstArgMember _ _) (wpAny_of_eq (a:=Value.none) (by first|rfl|(simp only[firstArgMember];rfl)) ?_)
 refine wpAny_newObj_type ?_ (by size_fits)
 simp only[raiseNew];refine wpAny_bind (wpAny_handled ?_);rw[show A.in1.handled=none from hh];refine wpAny_bind (wpAny_pure (wpAny_throw ?_));refine wpAny_bind (wpAny_isInstance (T:="StopIteration") (b:=true) ⟨_,Heap.get?_push_size _ rfl,rfl⟩ isSubtype_stop ?_);exact wpAny_pure (hQ _ (((Heap.SameBut.update ..).extBut.push _).push _))
theorem qC(hh:A.handled=none)(I d:Addr)(hne:d≠I)(hd:ob.data=.dict es ep) :
  Walks prog w A I [I,d] [I] es.size (λi v=>∃e,es[i]?=some e/\v=e.key) (λi h=>h.IsKeyIter I d i es.size ep/\h.get? d=some ob) where
 sub:=λb hb=>by simp at hb;simp[hb]
 frame:=λ_ _ _ st hk=>⟨st.1.at λo e=>hk I (by simp) o e,hk d (by simp) _ st.2⟩
 item:=λi s Q E hi st hQ=>by
  have he:es[i]?=some es[i]:=by simp[hi]
  refine sX st.1 st.2 hd he λh' hit' hs'=>?_
  exact hQ _ h' s.toks ⟨_,he,rfl⟩ ⟨hit',hs'.extBut d ob hne st.2⟩ λb o hb e=>hs'.extBut b o (λh=>hb (by simp[h])) e
 done:=λs Q E st hQ=>tW hh st.1 st.2 hd (Nat.le_refl _) λh' he'=>hQ h' s.toks λb o hb e=>he' b o (λh=>hb (by simp[h])) e
 self:=λ_ _ _ _ st hQ=>wpAny_pyIter_keyiter st.1 hQ
theorem sr(lo:(d == sysModules)=false)(hx:ob.ExactDict)(hd:ob.data=.dict es ep):KdlSrc prog w "dict" d d es.size (λi v=>∃e,es[i]?=some e/\v=e.key) (λh=>h.get? d=some ob) where
 type:=λ_ hm=>⟨_,hm,hx.1⟩
 there:=λ_ hm=>⟨Heap.lt_size hm,Heap.lt_size hm⟩
 keep:=λ_ _ hm hk=>hk d (.inl rfl) _ hm
 notList:=by decide
 notTuple:=by decide
 hint:=λ_ _ _ _ hm hq=>kdl_hint_dict ⟨_,hm,hx.1⟩ hq
 iter:=λ_ _ hh hm=>⟨_,_,(λ_ _ hq=>C6 lo hm hx hd hq),qC hh _ d (Nat.ne_of_lt (Heap.lt_size hm)) hd,⟨⟨_,Heap.get?_push_size _ rfl,rfl,rfl⟩,Heap.get?_push_of_some _ hm⟩⟩
end
end L2
namespace L2
open PySem PySem.Spec PyProof.Rows
section
variable {X:Cx}
theorem wY(neg:Bool):VO X (compareOp (if neg=true then .IsNot else .Is)) (re neg):=by
 intro pins s σ H x y v u v2 u2 M Q Q2 I rv ru dx dy rm q back;unfold re at q;split at q
 ·cases (show u=.non from dy);cases neg with
  |true=>exact VO.of3 u5 pins s σ H x .non v .non v2 u2 M Q Q2 I rv ru dx dy rm ⟨rfl,by rw[Bool.true_xor]at q;exact q⟩ back
  |false=>exact VO.of3 EJ pins s σ H x .non v .non v2 u2 M Q Q2 I rv ru dx dy rm ⟨rfl,by rw[Bool.false_xor]at q;exact q⟩ back
 ·rename_i b;cases (show u=.bl b from dy);cases ru;have fin:∀k,Q (.bl k) M->EP X pins σ Q2 (.bool k) s:=λk q=>⟨.bl k,H,I,rfl,back _ _ _ _ aW rm (.refl _) q⟩
  split at q
  ·rename_i a;cases (show v=.bl a from dx);cases rv;have e:((Value.bool a == Value.bool b):Bool)=(a == b):=by cases a<;>cases b<;>rfl
   cases neg with
   |true=>exact wpAny_isNot_plain rfl (by rw[e];rw[Bool.true_xor]at q;exact fin _ q)
   |false=>exact wpAny_is_plain rfl (by rw[e];rw[Bool.false_xor]at q;exact fin _ q)
  ·cases (show v=.non from dx);cases rv;cases neg with
   |true=>exact wpAny_isNot_other rfl (λz=>nomatch z) (fin _ q)
   |false=>exact wpAny_is_other rfl (λz=>nomatch z) (fin _ q)
  ·exact q.elim
 ·exact q.elim
theorem t6:∀{ds:List D}{us:List β},Paired R ds us->(∀d u,d∈ds->R d u->e u=f d)->us.any e=ds.any f
 |_,_,.nil,_=>rfl
 |d::ds,u::us,.cons r t,h=>by
  rw[List.any_cons,List.any_cons,h d u List.mem_cons_self r,t6 t λd u hd=>h d u (List.mem_cons_of_mem _ hd)]
theorem gH{K:PySem.W.Frag}:∀{ds:List D}{vs:List V}{us:List Value},DenL K H ds vs->Vals vs us->Paired (λd u=>∃v,Den K H d v/\RelV v u) ds us
 |[],_,_,h,r=>by cases (show _=[] from h);cases r;exact .nil
 |d::ds,_,_,h,r=>by
  obtain⟨v,r',rfl,dv,dl⟩:=h;cases r with
  |cons r1 r2=>exact .cons ⟨v,dv,r1⟩ (gH dl r2)
theorem Paired.mem_right:∀{l:List α}{m:List β},Paired R l m->∀b∈m,∃a∈l,R a b
 |_,_,.nil,b,hb=>by cases hb
 |a::l,c::m,.cons r t,b,hb=>by
  rcases List.mem_cons.mp hb with rfl|hb
  ·exact⟨a,List.mem_cons_self,r⟩
  ·obtain⟨a',h1,h2⟩:=Paired.mem_right t b hb;exact⟨a',List.mem_cons_of_mem _ h1,h2⟩
theorem wq(hu:X.A.units+64 < cLine)(neg:Bool):VO X (compareOp (if neg=true then .NotIn else .In)) (oW neg):=by
 intro pins s σ H x y v u v2 u2 M Q Q2 I rv ru dx dy rm q back;unfold oW at q;split at q
 ·rename_i ds eds;obtain⟨p1,p2,q⟩:=q;obtain⟨p,vs,rfl,hq,dl⟩:=gI rm eds dy;cases ru;obtain⟨H',I',t',d1⟩:=mF I rm dx p1;have dl':=dl.mono t';have fin:EP X pins σ Q2 (.bool (neg ^^ ds.any λd=>eqD d (res M x))) s:=⟨.bl _,H,I,rfl,back _ _ _ _ aW rm (.refl _) q⟩
  classical
  have key:∀{its:List Value},Vals vs its->∃e:Value->Bool,its.any e=(ds.any λd=>eqD d (res M x))/\∀w∈its,SeqAt.EqAt X.A.in1 s w v2 (e w):=λ{its} r=>by
   have pd:=gH dl' r
   let e:Value->Bool:=λw=>if h:∃d∈ds,∃v,Den X.K H' d v/\RelV v w then eqD h.choose (res M x) else false
   have he:∀d w,d∈ds->(∃v,Den X.K H' d v/\RelV v w)->e w=eqD d (res M x):=λd w hd ⟨v',dv,rw'⟩=>by
    have h:∃d∈ds,∃v,Den X.K H' d v/\RelV v w:=⟨d,hd,v',dv,rw'⟩;obtain⟨hm,v'',dv2,rw2⟩:=h.choose_spec;have:v''=v':=rw2.inj rw';subst this;have e1:h.choose=d:=lM I' rfl 8 (List.all_eq_true.mp p2 _ hm) (List.all_eq_true.mp p2 _ hd) dv2 dv;show (if h:∃d∈ds,∃v,Den X.K H' d v/\RelV v w then eqD h.choose (res M x) else false)=_
    rw[dif_pos h,e1]
   refine⟨e,t6 pd he,λw hw=>?_⟩
   obtain⟨d,hd,v',dv,rw'⟩:=Paired.mem_right pd w hw;rw[he d w hd ⟨v',dv,rw'⟩];exact (zW I' rfl 8 (A:=X.A.in1) (List.all_eq_true.mp p2 _ hd) p1 dv d1 rw' rv (by show X.A.units+1+8 < cLine;omega)).2.2
  rcases hq with hq|hq
  ·obtain⟨its,r,pl',hz⟩:=I.list hq;obtain⟨e,e1,e2⟩:=key r;have ea:its.toArray.any e=ds.any λd=>eqD d (res M x):=by rw[<-e1];simp
   cases neg with
   |true=>exact SeqAt.notIn_listAt e pl'.isList (λw hw=>e2 w (by simpa using hw)) (by rw[ea];rw[Bool.true_xor]at fin;exact fin)
   |false=>exact SeqAt.in_listAt e pl'.isList (λw hw=>e2 w (by simpa using hw)) (by rw[ea];rw[Bool.false_xor]at fin;exact fin)
  ·obtain⟨its,r,pl',hz⟩:=I.tuple hq;obtain⟨e,e1,e2⟩:=key r;have ea:its.toArray.any e=ds.any λd=>eqD d (res M x):=by rw[<-e1];simp
   cases neg with
   |true=>exact SeqAt.notIn_tupleAt e pl' (λw hw=>e2 w (by simpa using hw)) (by rw[ea];rw[Bool.true_xor]at fin;exact fin)
   |false=>exact SeqAt.in_tupleAt e pl' (λw hw=>e2 w (by simpa using hw)) (by rw[ea];rw[Bool.false_xor]at fin;exact fin)
 ·split at q
  ·rename_i o e;obtain⟨a,ov,rfl,g,od⟩:=mY (X:=X) e rm dy dx;cases ru;refine FJ neg (by omega) I g rv λs' I'=>⟨.bl (neg ^^ ov.isSome),H,I',rfl,back _ _ (.bl _) _ aW rm (.refl _) ?_⟩
   have:o.isSome=ov.isSome:=by
    cases o<;>cases ov<;>first|rfl|exact od.elim
   rw[<-this];exact q
  ·split at q
   ·rename_i i j _ _;cases (show v=.str i from dx);cases (show u=.str j from dy);cases neg with
    |false=>exact rJ pins s σ H _ _ v2 u2 Q2 I rv ru ⟨i,j,rfl,rfl,back _ _ (.bl _) _ aW rm (.refl _) (by rw[Bool.false_xor]at q;exact q)⟩
    |true=>exact k8 pins s σ H _ _ v2 u2 Q2 I rv ru ⟨i,j,rfl,rfl,back _ _ (.bl _) _ aW rm (.refl _) (by rw[Bool.true_xor]at q;exact q)⟩
   ·exact q.elim
theorem dJ(hu:X.A.units+64 < cLine)(op:CmpOp):VO X (compareOp op) (aU op):=by
 cases op with
 |Eq=>exact wG hu false
 |NotEq=>exact wG hu true
 |Lt=>exact (VO.of3 FX).imp λ_ _ _ _ h=>gO h
 |LtE=>exact (VO.of3 Ev).imp λ_ _ _ _ h=>gO h
 |Gt=>exact (VO.of3 Fz).imp λ_ _ _ _ h=>gO h
 |GtE=>exact (VO.of3 E5).imp λ_ _ _ _ h=>gO h
 |Is=>exact wY false
 |IsNot=>exact wY true
 |In=>exact wq hu false
 |NotIn=>exact wq hu true
theorem c3{K:PySem.W.Frag}(h:DenL K H [d] vs):∃v,vs=[v]/\Den K H d v:=by
 obtain⟨v,r,rfl,dv,rfl⟩:=h;exact⟨v,rfl,dv⟩
noncomputable def rLen0(xs:List D)(M:MH)(Q:VK3):Prop:=match xs with
  |[x]=>match aN M x with
   |some ds=>Q (.int ds.length) M
   |none=>False
  |_=>False
theorem uY:VC X (.builtin "len") rLen0:=(VC.of3 Bh).imp λxs M Q h=>by
 simp only[rLen0]at h;split at h
 ·rename_i x;split at h
  ·rename_i ds e;refine⟨x,ds,rfl,?_,h⟩;cases x with
   |tup es=>exact .inr (by rw[show es=ds from Option.some.inj e])
   |rol es=>exact .inl (.inl (by rw[show es=ds from Option.some.inj e]))
   |ref a=>
    cases q:M a with
    |none=>simp[aN,ag,q]at e
    |some o=>
     cases o with
     |lst es=>exact .inl (.inr ⟨a,rfl,by rw[q];simp[aN,ag,q]at e;rw[e]⟩)
     |_=>simp[aN,ag,q]at e
   |_=>cases e
  ·exact h.elim
 ·exact h.elim
theorem qp{s:Shared}{ks:List (List Int)}{xs:List (List Int×Addr×Value)}(I:Inv X pins σ H s)(e:Rd H p (.ext (dH p xs)))(z:TabOk X.K H p ks xs vs) :
  ∃ob es ep,s.heap.get? p=some ob/\ob.ExactDict/\ob.data=.dict es ep/\es.toList=(xs.map λx=>(⟨tH x.1,.ref x.2.1,x.2.2⟩:DictEntry))/\es.size=ks.length:=by
 obtain⟨⟨ob,es,ep,h1,h2,h3,h4⟩,_⟩:=(show ObjOk X.prog X.w H s.heap p (.ext (dH p xs)) from e.ok I.hok);refine⟨ob,es,ep,h1,h2,h3,h4,?_⟩;have:=congrArg List.length h4;have l3:xs.length=ks.length:=by rw[<-z.kx];simp
 simp at this;omega
theorem xb:VC X (.builtin "len") (rBi .len):=by
 intro pins s σ H xs vs us M Q Q2 I rs dl rm q back;by_cases h:rLen0 xs M Q
 ·exact uY pins s σ H xs vs us M Q Q2 I rs dl rm h back
 ·simp only[rBi]at q;split at q
  ·rename_i x;split at q
   ·rename_i ds e;exact absurd (by simp only[rLen0,e];exact q) h
   ·split at q
    ·rename_i ks ds e;obtain⟨v,rfl,dv⟩:=c3 dl;obtain⟨p,ws,ts,rfl,rd,z,_⟩:=jw e rm dv;obtain⟨ob,es,ep,h1,h2,h3,h4,h5⟩:=qp I rd z;obtain⟨u,rfl,rx⟩:=eg rs;cases rx;refine EL z.no h1 h2 h3 (by have:=z.sz;have:=sizeLine_eq;omega) ⟨.int es.size,H,I.tok _,⟨_,rfl⟩,?_⟩
     rw[h5];exact back _ _ _ _ cG rm (.refl _) q
    ·split at q
     ·rename_i z _ _;obtain⟨v,rfl,dv⟩:=c3 dl;cases (show v=.str z from dv);exact k9 pins s σ H _ us Q2 I rs ⟨z,rfl,q.1,back _ _ _ _ cG rm (.refl _) q.2⟩
     ·exact q.elim
  ·exact q.elim
theorem km{K:PySem.W.Frag}:∀ks:List Int,DenL K H (ks.map D.int) (ks.map V.int)
 |[]=>rfl
 |k::r=>⟨_,_,rfl,rfl,km r⟩
theorem mO{K:PySem.W.Frag}:∀{ts:List (List Int×Addr×Value)},(∀x∈ts,SqT K H x.2.1 (x.1.map V.int))->DenL K H ((ts.map (·.1)).map BD) (ts.map λx=>V.ref x.2.1)
 |[],_=>rfl
 |x::r,h=>⟨_,_,rfl,pB (h x List.mem_cons_self) (km _),mO λy hy=>h y (List.mem_cons_of_mem _ hy)⟩
theorem kh:∀ts:List (List Int×Addr×Value),Vals (ts.map λx=>V.ref x.2.1) (ts.map λx=>Value.ref x.2.1)
 |[]=>.nil
 |x::r=>.cons rfl (kh r)
theorem v6(fz:Bool)(hc:X.calm=true):VC X (.type "list") (rBi (.list fz)):=by
 intro pins s σ H xs vs us M Q Q2 I r dl rm q back;simp only[rBi]at q;split at q
 ·rename_i x;split at q
  ·rename_i ds e;obtain⟨v,rfl,dv⟩:=c3 dl;obtain⟨p,vs,rfl,hq,dl2⟩:=gI rm e dv;refine thn (lY pins s σ H _ us (λw H'=>∃l,w=.ref l/\H l=none/\H'=upd H l (.lst vs)) I r ⟨p,vs,rfl,hq,λl hl=>⟨l,rfl,hl,rfl⟩⟩) λu s1 ⟨w,H1,I1,r1,l,e1,hl,e2⟩=>?_
   subst e1;subst e2;cases r1;exact bt I1 hl dl2 rm (.refl _) q back
  ·split at q
   ·rename_i ks ds e;obtain⟨v,rfl,dv⟩:=c3 dl;obtain⟨p,ws,ts,rfl,rd,z,_⟩:=jw e rm dv;obtain⟨ob,es,ep,h1,h2,h3,h4,h5⟩:=qp I rd z;obtain⟨u,rfl,rx⟩:=eg r;cases rx;have hz:es.size<=sizeLine:=by have:=z.sz;omega
    refine d8 I.tk <| PySem.W.kdl_call (sr z.no h2 h3) (I.ok.hd hc) h1 hz λh' tk acc' c' kp e hi _=>?_
    have hp:H s.heap.objs.size=none:=I.hok.fresh (Nat.le_refl _);have ea:acc'.toList=ts.map λx=>Value.ref x.2.1:=by
     refine List.ext_getElem? λj=>?_
     by_cases hj:j < acc'.size
     ·have e1:acc'[j]?=some acc'[j]:=by simp[hj]
      obtain⟨en,e2,e3⟩:=hi.2 j _ e1;have e4:es.toList[j]?=some en:=by simpa using e2
      rw[h4,List.getElem?_map]at e4;cases hx:ts[j]? with
      |none=>rw[hx]at e4;cases e4
      |some x=>
       rw[hx]at e4;cases e4;rw[Array.getElem?_toList,e1,e3,List.getElem?_map,hx];rfl
     ·have h6:=hi.1;have h7:ts.length=es.size:=by
       have:=congrArg List.length h4;simpa using this.symm
      rw[List.getElem?_eq_none (by simpa using hj),List.getElem?_eq_none (by rw[List.length_map];omega)]
    have hv:Vals (ts.map λx=>V.ref x.2.1) acc'.toList:=by rw[ea];exact kh ts
    have I1:=I.laid (a:=s.heap.objs.size) (o:=.lst (ts.map λx=>V.ref x.2.1)) (t':=tk) kp (Nat.le_refl _) ⟨by rw[hv.length,ea,List.length_map];have:=z.sz;rw[<-z.kx,List.length_map]at this;exact this,acc'.toList,c',hv,by simpa using e⟩
    exact bt I1 hp (by rw[<-z.kx];exact mO z.at_) rm (.refl _) q back
   ·exact q.elim
 ·exact q.elim
end
end L2
namespace L2
open PySem PySem.Spec PyProof.Rows PySem.W
end L2
namespace L2
open PySem PySem.Spec PyProof.Rows
theorem ex9{α β γ δ:Sort _}{P1 P2 P3 P4 P5:α->β->γ->δ->Prop}{R:Prop}(h:∃a b c d,P1 a b c d/\P2 a b c d/\P3 a b c d/\P4 a b c d/\P5 a b c d)(k:∀a b c d,P1 a b c d->P2 a b c d->P3 a b c d->P4 a b c d->P5 a b c d->R):R:=
 h.elim λa h=>h.elim λb h=>h.elim λc h=>h.elim λd h=>k a b c d h.1 h.2.1 h.2.2.1 h.2.2.2.1 h.2.2.2.2
noncomputable def EU(K:PySem.W.Frag)(r:D->D->MH->VK3->Prop):R2:=λv u H Q2=>∃x y M Q,Den K H x v/\Den K H y u/\RelM K M H/\r x y M Q/\Back K H Q Q2
noncomputable def Fl(K:PySem.W.Frag)(r:D->MH->VK3->Prop):V->Hp->VK->Prop:=λv H Q2=>∃x M Q,Den K H x v/\RelM K M H/\r x M Q/\Back K H Q Q2
noncomputable def Fc(K:PySem.W.Frag)(r:List D->MH->VK3->Prop):List V->Hp->VK->Prop:=λvs H Q2=>∃xs M Q,DenL K H xs vs/\RelM K M H/\r xs M Q/\Back K H Q Q2
section
variable {X:Cx}
theorem VO.op{f:Value->Value->Sem Value}{r:D->D->MH->VK3->Prop}(h:VO X f r):OpR X f (EU X.K r):=λpins s σ H v u v2 u2 Q2 I rv ru ⟨x,y,M,Q,dx,dy,rm,q,back⟩=>h pins s σ H x y v u v2 u2 M Q Q2 I rv ru dx dy rm q back
theorem VU.op{f:Value->Sem Value}{r:D->MH->VK3->Prop}(h:VU X f r):UnR X f (Fl X.K r):=λpins s σ H v v2 Q2 I rv ⟨x,M,Q,dx,rm,q,back⟩=>h pins s σ H x v v2 M Q Q2 I rv dx rm q back
theorem VC.op{f:Value}{r:List D->MH->VK3->Prop}(h:VC X f r):CallR X f (Fc X.K r):=λpins s σ H vs us Q2 I rv ⟨xs,M,Q,dx,rm,q,back⟩=>h pins s σ H xs vs us M Q Q2 I rv dx rm q back
end
section
variable {K:PySem.W.Frag}
theorem n9{ta tb:St3->MH->VK3->XN->Prop}{R3:D->D->MH->Prop}{R2:V->V->Hp->Prop}(rm:RelM K M H)(ds:DenS K H σ3 σ)(lk:LkE K cls H E3 (E2 σ))
  (h:ta σ3 M (λx M1=>tb σ3 M1 (λy M2=>R3 x y M2) E3) E3) (k:∀v u H' x y M',Den K H' x v->Den K H' y u->RelM K M' H'->TM K H H'->R3 x y M'->R2 v u H') :
  low K cls E2 ta σ H λv H1=>low K cls E2 tb σ H1 λu H2=>R2 v u H2:=
 ⟨σ3,M,_,E3,rm,ds,lk,h,λv H1 x M1 dv rm1 t1 h1=>⟨σ3,M1,_,E3,rm1,ds.mono t1,lk.mono t1,h1,λu H2 y M2 du rm2 t2 h2=>k v u H2 x y M2 (dv.mono t2) du rm2 (t1.trans t2) h2⟩⟩
theorem aV{ta:St3->MH->VK3->XN->Prop}{R3:VK3}{R2:VK}(rm:RelM K M H)(ds:DenS K H σ3 σ)(lk:LkE K cls H E3 (E2 σ))(h:ta σ3 M R3 E3)(k:∀v H' x M',Den K H' x v->RelM K M' H'->TM K H H'->R3 x M'->R2 v H') :
  low K cls E2 ta σ H R2:=⟨σ3,M,R3,E3,rm,ds,lk,h,k⟩
end
section
variable {X:Cx}{cls:Nat->Addr}{E2:St->XK}{a b c e:Expr}{ta tb tc te:St3->MH->VK3->XN->Prop}{pos:Pos}
theorem Cz{i:Nat}{x:Str}(hN:X.N[i]?=some x)(hv:Vis X.env.scope x)(hd:(x == ("__debug__" : Str))=false)(hcd:(x == ("__classdict__" : Str))=false) :
  PE X (.Name x pos) (low X.K cls E2 λσ M Q _=>match σ[i]? with|some (some d)=>Q d M|_=>False):=
 (r0 hN hv hd hcd).imp λσ H Q2 hl_=>ex9 hl_ λσ3 M Q E3 rm ds lk h back=>by
  try dsimp only at h
  split at h
  ·rename_i d e;obtain⟨v,e1,e2⟩:=ds.2 i d e;exact⟨v,e1,back _ _ _ _ e2 rm (.refl _) h⟩
  ·exact h.elim
theorem kH{v:V}{d:D}(h:PE X e (tC v))(hd:∀H,Den X.K H d v):PE X e (low X.K cls E2 λ_ M Q _=>Q d M):=
 h.imp λσ H Q2 hl_=>ex9 hl_ λσ3 M Q E3 rm ds lk h back=>back _ _ _ _ (hd H) rm (.refl _) h
theorem Ac{op:Operator}{r:D->D->MH->VK3->Prop}(ho:VO X (binaryOp op) r)(ha:PE X a (low X.K cls E2 ta))(hb:PE X b (low X.K cls E2 tb)) :
  PE X (.BinOp a op b pos) (low X.K cls E2 λσ M Q E=>ta σ M (λx M1=>tb σ M1 (λy M2=>r x y M2 Q) E) E):=
 (CU ho.op ha hb).imp λσ H Q2 hl_=>ex9 hl_ λσ3 M Q E3 rm ds lk h back=>n9 rm ds lk h λv u H' x y M' dx dy rm' t q=>⟨x,y,M',Q,dx,dy,rm',q,back.mono t⟩
theorem Ba{op:UnaryOp}{r:D->MH->VK3->Prop}(ho:VU X (unaryOp op) r)(ha:PE X a (low X.K cls E2 ta)) :
  PE X (.UnaryOp op a pos) (low X.K cls E2 λσ M Q E=>ta σ M (λx M1=>r x M1 Q) E):=
 (Cf ho.op ha).imp λσ H Q2 hl_=>ex9 hl_ λσ3 M Q E3 rm ds lk h back=>aV rm ds lk h λv H' x M' dx rm' t q=>⟨x,M',Q,dx,rm',q,back.mono t⟩
theorem Bz{op:CmpOp}{r:D->D->MH->VK3->Prop}(ho:VO X (compareOp op) r)(ha:PE X a (low X.K cls E2 ta))(hb:PE X b (low X.K cls E2 tb))(hm:behindInMarks op b=false) :
  PE X (.Compare a [op] [b] pos) (low X.K cls E2 λσ M Q E=>ta σ M (λx M1=>tb σ M1 (λy M2=>r x y M2 Q) E) E):=
 (u3 ho.op ha hb hm).imp λσ H Q2 hl_=>ex9 hl_ λσ3 M Q E3 rm ds lk h back=>n9 rm ds lk h λv u H' x y M' dx dy rm' t q=>⟨x,y,M',Q,dx,dy,rm',q,back.mono t⟩
noncomputable abbrev boolQ(Q:Bool->MH->Prop):VK3:=λr M=>match r with
 |.bl k=>Q k M
 |_=>False
theorem eN{K:PySem.W.Frag}{H:Hp}{Q:Bool->MH->Prop}{Q2:Bool->Hp->Prop}(k:∀b H' M',RelM K M' H'->TM K H H'->Q b M'->Q2 b H'):Back K H (boolQ Q) λx H1=>∃k,x=.bl k/\Q2 k H1:=λv H' d M' dv rm t q=>by
 unfold boolQ at q;split at q
 ·exact⟨_,dv,k _ _ _ rm t q⟩
 ·exact q.elim
theorem B7{op:CmpOp}{r:D->D->MH->VK3->Prop}(ho:VO X (compareOp op) r)(ha:PE X a (low X.K cls E2 ta))(hb:PE X b (low X.K cls E2 tb))(hm:behindInMarks op b=false) :
  PT X (.Compare a [op] [b] pos) (cA X.K cls E2 λσ M Q E=>ta σ M (λx M1=>tb σ M1 (λy M2=>r x y M2 (boolQ Q)) E) E):=
 (vW ho.op ha hb hm).imp λσ H Q2 hl_=>ex9 hl_ λσ3 M Q E3 rm ds lk h back=>n9 rm ds lk h λv u H' x y M' dx dy rm' t q=>⟨x,y,M',_,dx,dy,rm',q,(eN back).mono t⟩
theorem AV(ha:PE X a (low X.K cls E2 ta))(he:∀whole,isTrue a X.env whole=(do let v<-whole;standAt a.pos;holding [v] (truthy v))):PT X a (cA X.K cls E2 λσ M Q E=>ta σ M (boolQ Q) E):=
 (w5 ha he).imp λσ H Q2 hl_=>ex9 hl_ λσ3 M Q E3 rm ds lk h back=>aV rm ds lk h λv H' x M' dx rm' t q=>eN back v H' x M' dx rm' t q
variable {tA tB:St3->MH->(Bool->MH->Prop)->XN->Prop}{az:List Expr}
theorem iK{K:PySem.W.Frag}{σ:St}{H:Hp}{σ3:St3}{M:MH}{E3:XN}{R3:Bool->MH->Prop}{R2:Bool->Hp->Prop}(rm:RelM K M H)(ds:DenS K H σ3 σ)(lk:LkE K cls H E3 (E2 σ))(h:tA σ3 M R3 E3)(k:∀b H' M',RelM K M' H'->TM K H H'->R3 b M'->R2 b H') :
  cA K cls E2 tA σ H R2:=⟨σ3,M,R3,E3,rm,ds,lk,h,k⟩
theorem qo(ha:PT X a (cA X.K cls E2 tA)):PW X (.BoolOp .And [a] pos) (cA X.K cls E2 tA):=vS ha
theorem ul(ha:PT X a (cA X.K cls E2 tA)):PW X (.BoolOp .Or [a] pos) (cA X.K cls E2 tA):=yI ha
theorem qj(ha:PT X a (cA X.K cls E2 tA))(hb:PW X (.BoolOp .And (b::az) pos) (cA X.K cls E2 tB)) :
  PW X (.BoolOp .And (a::b::az) pos) (cA X.K cls E2 λσ M Q E=>tA σ M (λc M1=>if c=true then tB σ M1 Q E else Q false M1) E):=
 (yR ha hb).imp λσ H Q2 hl_=>ex9 hl_ λσ3 M Q E3 rm ds lk h back=>iK rm ds lk h λc H' M' rm' t q=>by
  cases c with
  |true=>rw[if_pos rfl]at q ⊢;exact iK rm' (ds.mono t) (lk.mono t) q λb H2 M2 r2 t2 q2=>back b H2 M2 r2 (t.trans t2) q2
  |false=>rw[if_neg Bool.false_ne_true]at q ⊢;exact back _ _ _ rm' t q
theorem ve(ha:PT X a (cA X.K cls E2 tA))(hb:PW X (.BoolOp .Or (b::az) pos) (cA X.K cls E2 tB)) :
  PW X (.BoolOp .Or (a::b::az) pos) (cA X.K cls E2 λσ M Q E=>tA σ M (λc M1=>if c=true then Q true M1 else tB σ M1 Q E) E):=
 (CT ha hb).imp λσ H Q2 hl_=>ex9 hl_ λσ3 M Q E3 rm ds lk h back=>iK rm ds lk h λc H' M' rm' t q=>by
  cases c with
  |true=>rw[if_pos rfl]at q ⊢;exact back _ _ _ rm' t q
  |false=>rw[if_neg Bool.false_ne_true]at q ⊢;exact iK rm' (ds.mono t) (lk.mono t) q λb H2 M2 r2 t2 q2=>back b H2 M2 r2 (t.trans t2) q2
theorem AS(ha:PT X a (cA X.K cls E2 tA)):PT X (.UnaryOp .Not a pos) (cA X.K cls E2 λσ M Q E=>tA σ M (λc M1=>Q (!c) M1) E):=
 (zS ha).imp λσ H Q2 hl_=>ex9 hl_ λσ3 M Q E3 rm ds lk h back=>iK rm ds lk h λc H' M' rm' t q=>back _ _ _ rm' t q
theorem wC(ha:PE X a (low X.K cls E2 ta))(hb:PE X (.BoolOp .And (b::az) pos) (low X.K cls E2 tb)) :
  PE X (.BoolOp .And (a::b::az) pos) (low X.K cls E2 λσ M Q E=>ta σ M (λx M1=>match x with|.bl c=>if c=true then tb σ M1 Q E else Q (.bl false) M1|_=>False) E):=
 (xK ha hb).imp λσ H Q2 hl_=>ex9 hl_ λσ3 M Q E3 rm ds lk h back=>aV rm ds lk h λv H' x M' dx rm' t q=>by
  split at q
  ·rename_i c;cases (show v=.bl c from dx);refine⟨c,rfl,?_⟩;cases c with
   |true=>rw[if_pos rfl]at q ⊢;exact aV rm' (ds.mono t) (lk.mono t) q λv2 H2 x2 M2 d2 r2 t2 q2=>back v2 H2 x2 M2 d2 r2 (t.trans t2) q2
   |false=>rw[if_neg Bool.false_ne_true]at q ⊢;exact back _ _ _ _ aW rm' t q
  ·exact q.elim
theorem Bv(ha:PE X a (low X.K cls E2 ta))(hb:PE X (.BoolOp .Or (b::az) pos) (low X.K cls E2 tb)) :
  PE X (.BoolOp .Or (a::b::az) pos) (low X.K cls E2 λσ M Q E=>ta σ M (λx M1=>match x with|.bl c=>if c=true then Q (.bl true) M1 else tb σ M1 Q E|_=>False) E):=
 (CO ha hb).imp λσ H Q2 hl_=>ex9 hl_ λσ3 M Q E3 rm ds lk h back=>aV rm ds lk h λv H' x M' dx rm' t q=>by
  split at q
  ·rename_i c;cases (show v=.bl c from dx);refine⟨c,rfl,?_⟩;cases c with
   |true=>rw[if_pos rfl]at q ⊢;exact back _ _ _ _ aW rm' t q
   |false=>rw[if_neg Bool.false_ne_true]at q ⊢;exact aV rm' (ds.mono t) (lk.mono t) q λv2 H2 x2 M2 d2 r2 t2 q2=>back v2 H2 x2 M2 d2 r2 (t.trans t2) q2
  ·exact q.elim
theorem Bi(ha:PE X a (low X.K cls E2 ta)):PE X (.UnaryOp .Not a pos) (low X.K cls E2 λσ M Q E=>ta σ M (λx M1=>match x with|.bl c=>Q (.bl (!c)) M1|_=>False) E):=
 (yf ha).imp λσ H Q2 hl_=>ex9 hl_ λσ3 M Q E3 rm ds lk h back=>aV rm ds lk h λv H' x M' dx rm' t q=>by
  split at q
  ·rename_i c;cases (show v=.bl c from dx);exact⟨c,rfl,back _ _ _ _ aW rm' t q⟩
  ·exact q.elim
theorem FR(hc:PT X c (cA X.K cls E2 tA))(ha:PE X a (low X.K cls E2 ta))(hb:PE X b (low X.K cls E2 tb)) :
  PE X (.IfExp c a b pos) (low X.K cls E2 λσ M Q E=>tA σ M (λk M1=>if k=true then ta σ M1 Q E else tb σ M1 Q E) E):=
 (rP hc ha hb).imp λσ H Q2 hl_=>ex9 hl_ λσ3 M Q E3 rm ds lk h back=>iK rm ds lk h λk H' M' rm' t q=>by
  cases k with
  |true=>rw[if_pos rfl]at q ⊢;exact aV rm' (ds.mono t) (lk.mono t) q λv2 H2 x2 M2 d2 r2 t2 q2=>back v2 H2 x2 M2 d2 r2 (t.trans t2) q2
  |false=>rw[if_neg Bool.false_ne_true]at q ⊢;exact aV rm' (ds.mono t) (lk.mono t) q λv2 H2 x2 M2 d2 r2 t2 q2=>back v2 H2 x2 M2 d2 r2 (t.trans t2) q2
theorem uM{op op':CmpOp}{r r':D->D->MH->VK3->Prop}(ho:VO X (compareOp op) r)(ho':VO X (compareOp op') r')(ha:PE X a (low X.K cls E2 ta))(hb:PE X b (low X.K cls E2 tb))(hc:PE X c (low X.K cls E2 tc))(hm:lastMarks [op,op'] [b,c]=false) :
  PE X (.Compare a [op,op'] [b,c] pos) (low X.K cls E2 λσ M Q E=>ta σ M (λx M1=>tb σ M1 (λy M2=>r x y M2 λz M3=>match z with
   |.bl k=>if k=true then tc σ M3 (λz M4=>r' y z M4 Q) E else Q (.bl false) M3
   |_=>False) E) E):=
 (tZ ho.op ho'.op ha hb hc hm).imp λσ H Q2 hl_=>ex9 hl_ λσ3 M Q E3 rm ds lk h back=>n9 rm ds lk h λv u H' x y M' dx dy rm' t q=>⟨x,y,M',_,dx,dy,rm',q,λw H1 z M1 dz rm1 t1 q1=>by
  split at q1
  ·rename_i k;refine⟨k,dz,?_⟩;cases k with
   |true=>rw[if_pos rfl]at q1 ⊢;exact aV rm1 ((ds.mono t).mono t1) ((lk.mono t).mono t1) q1 λv2 H2 x2 M2 d2 r2 t2 q2=>⟨y,x2,M2,Q,(dy.mono t1).mono t2,d2,r2,q2,(back.mono t).mono (t1.trans t2)⟩
   |false=>rw[if_neg Bool.false_ne_true]at q1 ⊢;exact back _ _ _ _ aW rm1 (t.trans t1) q1
  ·exact q1.elim⟩
theorem vi{op op':CmpOp}{r r':D->D->MH->VK3->Prop}(ho:VO X (compareOp op) r)(ho':VO X (compareOp op') r')(ha:PE X a (low X.K cls E2 ta))(hb:PE X b (low X.K cls E2 tb))(hc:PE X c (low X.K cls E2 tc))(hm:lastMarks [op,op'] [b,c]=false) :
  PT X (.Compare a [op,op'] [b,c] pos) (cA X.K cls E2 λσ M Q E=>ta σ M (λx M1=>tb σ M1 (λy M2=>r x y M2 λz M3=>match z with
   |.bl k=>if k=true then tc σ M3 (λz M4=>r' y z M4 (boolQ Q)) E else Q false M3
   |_=>False) E) E):=
 (tV ho.op ho'.op ha hb hc hm).imp λσ H Q2 hl_=>ex9 hl_ λσ3 M Q E3 rm ds lk h back=>n9 rm ds lk h λv u H' x y M' dx dy rm' t q=>⟨x,y,M',_,dx,dy,rm',q,λw H1 z M1 dz rm1 t1 q1=>by
  split at q1
  ·rename_i k;refine⟨k,dz,?_⟩;cases k with
   |true=>rw[if_pos rfl]at q1 ⊢;exact aV rm1 ((ds.mono t).mono t1) ((lk.mono t).mono t1) q1 λv2 H2 x2 M2 d2 r2 t2 q2=>⟨y,x2,M2,_,(dy.mono t1).mono t2,d2,r2,q2,((eN back).mono t).mono (t1.trans t2)⟩
   |false=>rw[if_neg Bool.false_ne_true]at q1 ⊢;exact⟨false,rfl,back _ _ _ rm1 (t.trans t1) q1⟩
  ·exact q1.elim⟩
noncomputable def u7(r r' r'':R2)(ta tb tc td:TE):TE:=λσ H Q=>ta σ H λx H1=>tb σ H1 λy H2=>r x y H2 λz H3=>∃k,z=.bl k/\
 (if k=true then tc σ H3 (λw H4=>r' y w H4 λz2 H5=>∃k2,z2=.bl k2/\(if k2=true then td σ H5 λu H6=>r'' w u H6 Q else Q (.bl false) H5)) else Q (.bl false) H3)
theorem rG{a b c d:Expr}{ta tb tc td:TE}{op op' op'':CmpOp}{r r' r'':R2}(ho:OpR X (compareOp op) r)(ho':OpR X (compareOp op') r')(ho'':OpR X (compareOp op'') r'')(ha:PE X a ta)(hb:PE X b tb)(hc:PE X c tc)(hd:PE X d td)
  (hm:lastMarks [op,op',op''] [b,c,d]=false):PT X (.Compare a [op,op',op''] [b,c,d] pos) (ud (u7 r r' r'' ta tb tc td)):=by
 intro pins s σ H Q I h;refine isTrue_chain (thn (ha pins s σ H _ I h) λv s1 ⟨x,H1,I1,r1,q1⟩=>test_link (thn (hb pins s1 σ H1 _ I1 q1) λu s2 ⟨y,H2,I2,r2,q2⟩=>
  thn (ho pins s2 σ H2 x y v u _ I2 r1 r2 q2) λd s3 ⟨z,H3,I3,r3,k,e,q3⟩=>?_)) hm
 subst e;cases r3;refine wpAny_truthy_bool ?_;cases k with
 |false=>
  obtain⟨k',e',q'⟩:=q3;cases e';exact ite_ff ⟨H3,I3,q'⟩
 |true=>
  refine ite_tt (test_link (thn (hc pins s3 σ H3 _ I3 q3) λw' s4 ⟨z',H4,I4,r4,q4⟩=>thn (ho' pins s4 σ H4 y z' u w' _ I4 r2 r4 q4) λd' s5 ⟨z2,H5,I5,r5,k2,e2,q5⟩=>?_))
  subst e2;cases r5;refine wpAny_truthy_bool ?_;cases k2 with
  |false=>
   obtain⟨k',e',q'⟩:=q5;cases e';exact ite_ff ⟨H5,I5,q'⟩
  |true=>
   refine ite_tt (test_last (thn (hd pins s5 σ H5 _ I5 q5) λw2 s6 ⟨z3,H6,I6,r6,q6⟩=>thn (ho'' pins s6 σ H6 z' z3 w' w2 _ I6 r4 r6 q6) λd2 s7 ⟨z4,H7,I7,r7,k3,e3,q7⟩=>?_))
   subst e3;cases r7;exact wpAny_truthy_bool ⟨H7,I7,q7⟩
theorem rR{d:Expr}{td:St3->MH->VK3->XN->Prop}{op op' op'':CmpOp}{r r' r'':D->D->MH->VK3->Prop}(ho:VO X (compareOp op) r)(ho':VO X (compareOp op') r')(ho'':VO X (compareOp op'') r'')(ha:PE X a (low X.K cls E2 ta))(hb:PE X b (low X.K cls E2 tb))(hc:PE X c (low X.K cls E2 tc))(hd:PE X d (low X.K cls E2 td))(hm:lastMarks [op,op',op''] [b,c,d]=false) :
  PT X (.Compare a [op,op',op''] [b,c,d] pos) (cA X.K cls E2 λσ M Q E=>ta σ M (λx M1=>tb σ M1 (λy M2=>r x y M2 λz M3=>match z with
   |.bl k=>if k=true then tc σ M3 (λz M4=>r' y z M4 λo M5=>match o with
    |.bl k=>if k=true then td σ M5 (λu M6=>r'' z u M6 (boolQ Q)) E else Q false M5
    |_=>False) E else Q false M3
   |_=>False) E) E):=
 (rG ho.op ho'.op ho''.op ha hb hc hd hm).imp λσ H Q2 hl_=>ex9 hl_ λσ3 M Q E3 rm ds lk h back=>n9 rm ds lk h λv u H' x y M' dx dy rm' t q=>⟨x,y,M',_,dx,dy,rm',q,λw H1 z M1 dz rm1 t1 q1=>by
  split at q1
  ·rename_i k;refine⟨k,dz,?_⟩;cases k with
   |true=>
    rw[if_pos rfl]at q1 ⊢;refine aV rm1 ((ds.mono t).mono t1) ((lk.mono t).mono t1) q1 λv2 H2 x2 M2 d2 r2 t2 q2=>⟨y,x2,M2,_,(dy.mono t1).mono t2,d2,r2,q2,λw3 H3 z3 M3 dz3 rm3 t3 q3=>?_⟩
    split at q3
    ·rename_i k;refine⟨k,dz3,?_⟩;cases k with
     |true=>
      rw[if_pos rfl]at q3 ⊢;exact aV rm3 ((((ds.mono t).mono t1).mono t2).mono t3) ((((lk.mono t).mono t1).mono t2).mono t3) q3 λv4 H4 x4 M4 d4 r4 t4 q4=>⟨x2,x4,M4,_,(d2.mono t3).mono t4,d4,r4,q4,(((eN back).mono t).mono (t1.trans t2)).mono (t3.trans t4)⟩
     |false=>rw[if_neg Bool.false_ne_true]at q3 ⊢;exact⟨false,rfl,back _ _ _ rm3 (((t.trans t1).trans t2).trans t3) q3⟩
    ·exact q3.elim
   |false=>rw[if_neg Bool.false_ne_true]at q1 ⊢;exact⟨false,rfl,back _ _ _ rm1 (t.trans t1) q1⟩
  ·exact q1.elim⟩
variable {es:List Expr}{tr:St3->MH->(List D->MH->Prop)->XN->Prop}
theorem eX{K:PySem.W.Frag}{σ:St}{H:Hp}{σ3:St3}{M:MH}{E3:XN}{R3:List D->MH->Prop}{R2:List V->Hp->Prop}(rm:RelM K M H)(ds:DenS K H σ3 σ)(lk:LkE K cls H E3 (E2 σ))(h:tr σ3 M R3 E3)(k:∀vs H' xs M',DenL K H' xs vs->RelM K M' H'->TM K H H'->R3 xs M'->R2 vs H') :
  ez K cls E2 tr σ H R2:=⟨σ3,M,R3,E3,rm,ds,lk,h,k⟩
theorem AK:PA X [] (ez X.K cls E2 λ_ M Q _=>Q [] M):=pa_nil.imp λσ H Q2 hl_=>ex9 hl_ λσ3 M Q E3 rm ds lk h back=>back _ _ _ _ .nil rm (.refl _) h
theorem yS(ha:PE X e (low X.K cls E2 te))(hr:PA X es (ez X.K cls E2 tr))(hs:starEach (e::es) X.env=(false,eval e X.env)::starEach es X.env) :
  PA X (e::es) (ez X.K cls E2 λσ M Q E=>te σ M (λx M1=>tr σ M1 (λxs M2=>Q (x::xs) M2) E) E):=
 (bz ha hr hs).imp λσ H Q2 hl_=>ex9 hl_ λσ3 M Q E3 rm ds lk h back=>aV rm ds lk h λv H1 x M1 dx rm1 t1 q1=>eX rm1 (ds.mono t1) (lk.mono t1) q1 λvs H2 xs M2 dl rm2 t2 q2=>back _ _ _ _ (.cons (dx.mono t2) dl) rm2 (t1.trans t2) q2
theorem A8{x1}(h:PA X es (ez X.K cls E2 tr)):PE X (.Tuple es x1 pos) (low X.K cls E2 λσ M Q E=>tr σ M (λxs M1=>xs.length<=sizeLine/\Q (.tup xs) M1) E):=
 (xI h).imp λσ H Q2 hl_=>ex9 hl_ λσ3 M Q E3 rm ds lk h back=>eX rm ds lk h λvs H' xs M' dl rm' t ⟨z,q⟩=>⟨by rw[<-dl.length];exact z,λp hp=>
  back _ _ _ _ (pB (.of ae) (dl.mono (.new hp))) (rm'.grow hp) (t.trans (.new hp)) q⟩
theorem wM{t2:TE}(h:PE X e t2){t:St3->MH->VK3->XN->Prop}{fz:Bool}
  (f:∀σ H σ3 M Q E3 (R2:VK),RelM X.K M H->DenS X.K H σ3 σ->LkE X.K cls H E3 (E2 σ)->t σ3 M Q E3->(∀H' vs ds M' p,H' p=none->DenL X.K H' ds vs->RelM X.K M' H'->TM X.K H H'->cT fz ds M' Q->R2 (.ref p) (upd H' p (.lst vs)))->t2 σ H R2):PE X e (low X.K cls E2 t):=by
 refine λpins s σ H Q2 I hl_=>ex9 hl_ λσ3 M Q E3 rm ds lk q back=>?_
 refine thn (h pins s σ H (λv H1=>∃p H' vs ds M',v=.ref p/\H1=upd H' p (.lst vs)/\H' p=none/\DenL X.K H' ds vs/\RelM X.K M' H'/\TM X.K H H'/\cT fz ds M' Q) I
  (f σ H σ3 M Q E3 _ rm ds lk q λH' vs ds M' p hp dl rm' t' n=>⟨p,H',vs,ds,M',rfl,rfl,hp,dl,rm',t',n⟩)) λu s1 ⟨v,H1,I1,r1,p,H',vs,ds',M',e1,e2,hp,dl,rm',t',n⟩=>?_
 subst e1;subst e2;cases r1;exact bt I1 hp dl rm' t' n back
theorem BG(h:PA X es (ez X.K cls E2 tr)):PE X (.List es pos) (low X.K cls E2 λσ M Q E=>tr σ M (λxs M1=>cT fz xs M1 Q) E):=
 wM (fz:=fz) (Am h) λσ H σ3 M Q E3 R2 rm ds lk q k=>eX rm ds lk q λvs H' xs M' dl rm' t n=>⟨by rw[<-dl.length];exact n.1,λp hp=>k H' vs xs M' p hp dl rm' t n⟩
theorem yF(hu:X.A.units+64 < cLine):IxR X (λv u H Q2=>∃x y M Q,Den X.K H x v/\Den X.K H y u/\RelM X.K M H/\bL x y M Q/\Back X.K H Q Q2):=by
 intro value slice pins s σ H v u v2 u2 Q2 I rv ru ⟨x,y,M,Q,dx,dy,rm,q,back⟩ hs;unfold bL at q;split at q
 ·rename_i es e;split at q
  ·rename_i i;cases (show u=.int i from dy);split at q
   ·rename_i d e2;obtain⟨p,vs,rfl,hq,dl⟩:=gI rm e dx;obtain⟨w,e4,e5⟩:=vR dl e2;refine Af value slice pins s σ H _ _ v2 u2 Q2 I rv ru ?_ hs;rcases hq with hq|hq
    ·exact .inl ⟨p,vs,i,w,rfl,rfl,hq,e4,back _ _ _ _ e5 rm (.refl _) q⟩
    ·exact .inr (.inl ⟨p,vs,i,w,rfl,rfl,hq,e4,back _ _ _ _ e5 rm (.refl _) q⟩)
   ·exact q.elim
  ·exact q.elim
 ·split at q
  ·rename_i d e;obtain⟨a,ov,rfl,g,od⟩:=mY (X:=X) e rm dx dy;cases rv;cases ov with
   |none=>exact od.elim
   |some w=>exact tail_any (g.isDict I) PySem.F.slot_dict_getitem.lookup (qE (by omega) I g rfl ru λw' s' I' rw'=>⟨w,H,I',rw',back _ _ _ _ od rm (.refl _) q⟩) hs
  ·exact q.elim
  ·split at q
   ·rename_i z i _ _;cases (show v=.str z from dx);cases (show u=.int i from dy);obtain⟨t,rfl⟩:=rv;obtain⟨t',rfl⟩:=ru;obtain⟨⟨h0,h1,h63⟩,q⟩:=q;have e:seqIndex? i z.length=some i.toNat:=PySem.StrLaws.seqIndex_nonneg h0 h1;have hz:i.toNat < z.cps.size:=by
     have:(i:Int) < (z.cps.size:Int):=h1;omega
    have hc:z.cps[i.toNat]?=some (z.cps.getD i.toNat 0):=by simp[hz]
    exact tail_any (typeIs_str s z t) slot_str_getitem.lookup (getItem_str (c:=z.cps.getD i.toNat 0) (by
     rw[decide_eq_false (by omega:¬ i < -(2 ^ 63:Int)),decide_eq_false (by omega:¬ i>=2 ^ 63)];rfl) (by rw[e];exact hc) ⟨.str (d5 z i.toNat),H,I.tok _,⟨_,rfl⟩,back _ _ _ _ eK rm (.refl _) q⟩) hs
   ·exact q.elim
theorem Es(hu:X.A.units+64 < cLine)(ha:PE X a (low X.K cls E2 ta))(hb:PE X b (low X.K cls E2 tb))(hs:lJ b):PE X (.Subscript a b pos) (low X.K cls E2 λσ M Q E=>ta σ M (λx M1=>tb σ M1 (λy M2=>bL x y M2 Q) E) E):=
 (AM (yF hu) ha hb hs).imp λσ H Q2 hl_=>ex9 hl_ λσ3 M Q E3 rm ds lk h back=>n9 rm ds lk h λv u H' x y M' dx dy rm' t q=>⟨x,y,M',Q,dx,dy,rm',q,back.mono t⟩
variable {lo hi:Option Expr}{tl th:St3->MH->(Option Int->MH->Prop)->XN->Prop}{p2:Pos}
theorem EZ:PO X none (qA X.K cls E2 λ_ M Q _=>Q none M):=po_none.imp λσ H Q2 hl_=>ex9 hl_ λσ3 M Q E3 rm ds lk h back=>back _ _ _ rm (.refl _) h
theorem Bc(h:PE X e (low X.K cls E2 te)):PO X (some e) (qA X.K cls E2 λσ M Q E=>te σ M (λx M1=>match x with|.int i=>Q (some i) M1|_=>False) E):=
 (vn h).imp λσ H Q2 hl_=>ex9 hl_ λσ3 M Q E3 rm ds lk h back=>aV rm ds lk h λv H1 x M1 dx rm1 t1 q1=>by
  split at q1
  ·exact⟨_,dx,back _ _ _ rm1 t1 q1⟩
  ·exact q1.elim
theorem wU{t:St3->MH->(Option Int->MH->Prop)->XN->Prop}{K:PySem.W.Frag}{σ:St}{H:Hp}{σ3:St3}{M:MH}{E3:XN}{R3:Option Int->MH->Prop}{R2:Option Int->Hp->Prop}(rm:RelM K M H)(ds:DenS K H σ3 σ)(lk:LkE K cls H E3 (E2 σ))(h:t σ3 M R3 E3)(k:∀o H' M',RelM K M' H'->TM K H H'->R3 o M'->R2 o H') :
  qA K cls E2 t σ H R2:=⟨σ3,M,R3,E3,rm,ds,lk,h,k⟩
theorem Cd(ha:PE X a (low X.K cls E2 ta))(hb:PE X b (low X.K cls E2 tb)) :
  PE X (.BinOp a .Add b pos) (low X.K cls E2 λσ M Q E=>ta σ M (λx M1=>tb σ M1 (λy M2=>g5 fz x y M2 Q) E) E):=Ac (xy fz) ha hb
theorem BH(h:PE X e (low X.K cls E2 te)):PE X e (low X.K cls E2 λσ M Q E=>te σ M (bu Q) E):=by
 refine λpins s σ H Q2 I hl_=>ex9 hl_ λσ3 M Q E3 rm ds lk q back=>?_
 refine thn (h pins s σ H (λv H1=>∃d M1,Den X.K H1 d v/\RelM X.K M1 H1/\TM X.K H H1/\bu Q d M1) I ⟨σ3,M,_,E3,rm,ds,lk,q,λv H' d M' a b c e=>⟨d,M',a,b,c,e⟩⟩) λu s1 ⟨v,H1,I1,r1,d,M1,dv,rm1,t1,q1⟩=>?_
 obtain⟨H2,M2,d2,I2,t2,rm2,dv2,q2⟩:=ly I1 rm1 dv q1;exact⟨v,H2,I2,r1,back _ _ _ _ dv2 rm2 (t1.trans t2) q2⟩
theorem yu(h:PE X e (low X.K cls E2 te)):PE X e (low X.K cls E2 λσ M Q E=>te σ M (fJ Q) E):=by
 refine λpins s σ H Q2 I hl_=>ex9 hl_ λσ3 M Q E3 rm ds lk q back=>?_
 refine thn (h pins s σ H (λv H1=>∃d M1,Den X.K H1 d v/\RelM X.K M1 H1/\TM X.K H H1/\fJ Q d M1) I ⟨σ3,M,_,E3,rm,ds,lk,q,λv H' d M' a b c e=>⟨d,M',a,b,c,e⟩⟩) λu s1 ⟨v,H1,I1,r1,d,M1,dv,rm1,t1,q1⟩=>?_
 have q1:bu Q d M1:=by
  unfold fJ at q1;split at q1
  ·split at q1
   ·rename_i a ds' e;simp only[bu,e];exact q1
   ·exact q1.elim
  ·exact q1.elim
 obtain⟨H2,M2,d2,I2,t2,rm2,dv2,q2⟩:=ly I1 rm1 dv q1;exact⟨v,H2,I2,r1,back _ _ _ _ dv2 rm2 (t1.trans t2) q2⟩
end
end L2
namespace L2
open PySem PySem.Spec PyProof.Rows
section
variable {X:Cx}
noncomputable def nS(X:Cx):Str ⊕ Nat->Expr->Prop
 |.inl x,e=>∃k p,e=.Constant (.str x) k p
 |.inr i,e=>∃x p p',e=.FormattedValue (.Name x p) (-1) none p'/\X.N[i]?=some x/\Vis X.env.scope x/\(x == ("__debug__" : Str))=false/\(x == ("__classdict__" : Str))=false
theorem dP{K:Str->Shared->Prop}{Q0:Str->Prop}{pins:List (Addr×Obj)}{σ:St}{H:Hp}{σ3:St3}(ds:DenS X.K H σ3 σ)(hK:∀out s,Inv X pins σ H s->out.length<=sizeLine->Q0 out->K out s) :
  ∀{ps:List (Str ⊕ Nat)}{es:List Expr}{acc:Str}{s:Shared},Paired (nS X) ps es->acc.length<=sizeLine->Inv X pins σ H s->wpF σ3 ps acc Q0->Joins (model X.prog X.w) X.A X.xe (evalEach es X.env) acc K s
 |[],_,acc,s,hp,ha,I,h=>by
  cases hp;exact hK acc s I ha h
 |.inl x::r,_,acc,s,hp,ha,I,h=>by
  cases hp with
  |cons h1 h2=>
   obtain⟨k,p,rfl⟩:=h1;obtain⟨hl,h⟩:=h;exact wpAny_Constant_str ⟨x,_,rfl,hl,dP ds hK h2 hl (I.tok _) h⟩
 |.inr i::r,_,acc,s,hp,ha,I,h=>by
  cases hp with
  |cons h1 h2=>
   rename_i es2;obtain⟨x,p,p',rfl,hN,hv,hd,hc⟩:=h1;have go:∀v,σ[i]?=some (some v)->(∀u s1,Inv X pins σ H s1->RelV v u->wpAny (model X.prog X.w) X.A (formatField u Str.empty) (λw s2=>∃y t,w=.str y t/\(acc++y).length<=sizeLine/\Joins (model X.prog X.w) X.A X.xe (evalEach es2 X.env) (acc++y) K s2) X.xe s1)->
     Joins (model X.prog X.w) X.A X.xe (evalEach (.FormattedValue (.Name x p) (-1) none p'::es2) X.env) acc K s:=λv ev k=>by
    refine wpAny_FormattedValue_plain (wpAny_mono (r0 (pos:=p) hN hv hd hc pins s σ H (λv' H'=>v'=v/\H'=H) I ⟨v,ev,rfl,rfl⟩) (λu s1 he=>?_) λ_ _ z=>z)
    obtain⟨v',H',I',ru,rfl,rfl⟩:=he;exact k u s1 I' ru
   unfold wpF at h;split at h
   ·rename_i z e;obtain⟨v,e1,e2⟩:=ds.2 i _ e;cases (show v=.str z from e2);obtain⟨hl,h⟩:=h;refine go _ e1 λu s1 I1 ru=>?_
    obtain⟨t,rfl⟩:=ru;have hz:z.length<=sizeLine:=by
     rw[strLen_append]at hl;omega
    exact wpAny_formatField_str ⟨z,_,rfl,hl,dP ds hK h2 hl I1 h⟩ ⟨z,_,rfl,hl,dP ds hK h2 hl (I1.tok _) h⟩ hz
   ·rename_i j e;obtain⟨v,e1,e2⟩:=ds.2 i _ e;cases (show v=.int j from e2);obtain⟨hj,hl,h⟩:=h;refine go _ e1 λu s1 I1 ru=>?_
    obtain⟨t,rfl⟩:=ru;exact wpAny_formatField_int hj ⟨_,_,rfl,hl,dP ds hK h2 hl (I1.tok _) h⟩
   ·exact h.elim
theorem A2{e1 e2:Expr}{es:List Expr}{ps:List (Str ⊕ Nat)}{pos:Pos}(hp:Paired (nS X) ps (e1::e2::es)):PE X (.JoinedStr (e1::e2::es) pos) (low X.K cls E2 λσ M Q _=>wpF σ ps Str.empty λz=>Q (.str z) M):=
 λpins s σ H Q2 I hl_=>ex9 hl_ λσ3 M Q E3 rm ds lk h back=>wpAny_JoinedStr (dP ds (λout s' I' hl h'=>⟨hl,.str out,H,I'.tok _,⟨_,rfl⟩,back _ _ _ _ (show Den X.K H (.str out) (.str out) from rfl) rm (.refl _) h'⟩) hp (by decide) I h)
end
end L2
namespace L2
open PySem PySem.Spec PyProof.Rows
theorem sB{K:PySem.W.Frag}(h:CX1 P w outer H s (λc d H'=>TM K H H'->E c d H') e s'):CX1 P w outer H s E e s':=by
 obtain⟨a,cls,B,H',dx,h1,h2,h3,un,hok,fl,ha,inc,he⟩:=h;exact⟨a,cls,B,H',dx,h1,h2,h3,un,hok,fl,ha,inc,he (.un un.tups un.frzs)⟩
section
variable {X:Cx}{cls:Nat->Addr}{E2:St->XK}{k:Nat}{f:Addr}{fd:FuncData}{ps:List Str}{x:Str}{p pos:Pos}{e:Expr}{es:List Expr}{tr:St3->MH->(List D->MH->Prop)->XN->Prop}{t3:List D->MH->VK3->XN->Prop}
noncomputable def spX(K:PySem.W.Frag)(cls:Nat->Addr)(t3:List D->MH->VK3->XN->Prop):Sp:=λvs H Q E=>∃ds M Q3 E3,DenL K H ds vs/\RelM K M H/\t3 ds M Q3 E3/\Back K H Q3 Q/\LkE K cls H E3 E
noncomputable def BdT(K:PySem.W.Frag)(cls:Nat->Addr)(fd:FuncData)(ps:List Str)(t3:List D->MH->VK3->XN->Prop)(sp:Sp):Prop:=∀vs H Q E,spX K cls t3 vs H Q E->∃dvs ds,Vals dvs ds/\Binds K fd ps ds/\sp (vs++dvs) H Q E
theorem iC(F:FnOk X.prog X.w X.K X.mg X.base (CX1 X.prog X.w) k f fd ps sp)(hr:Room k X.A)(hb:BdT X.K cls fd ps t3 sp)(hx:aS (CX1 X.prog X.w) X E2)
  (I:Inv X pins σ H s)(r:Vals vs us) (h:spX X.K cls t3 vs H Q (λc d H'=>TM X.K H H'->E2 σ c d H')):wpAny (model X.prog X.w) X.A (call (.ref f) us) (EP X pins σ Q) X.xe s:=by
 obtain⟨dvs,dsv,hv,bd,h'⟩:=hb _ _ _ _ h;have r2:Vals (vs++dvs) (us++dsv):=r.append hv;have hl:(us++dsv).length=ps.length:=by rw[<-r2.length];exact F.len _ _ _ _ h'
 refine wpAny_call (codeAny_mono (F.run X.A X.stack s H ⟨us,[]⟩ (us++dsv) (vs++dvs) Q _ hr I.env0 (bd s us I.kIn hl) r2 h') λz s' hq=>?_)
 match z,hq with
 |.error e,hq=>exact hx pins σ H s e s' I (sB hq)
 |.ok (.ret u),hq=>exact I.after hq
 |.ok .next,hq=>exact hq.elim
 |.ok .brk,hq=>exact hq.elim
 |.ok .cont,hq=>exact hq.elim
theorem l4{σ:St}{H:Hp}{xs:List D}{vs:List V}{M:MH}{Q:VK3}{Q2:VK}{E3:XN}(dl:DenL X.K H xs vs)(rm:RelM X.K M H)(lk:LkE X.K cls H E3 (E2 σ))(q:t3 xs M Q E3)(back:Back X.K H Q Q2) :
  spX X.K cls t3 vs H Q2 (λc d H'=>TM X.K H H'->E2 σ c d H'):=
 ⟨xs,M,Q,E3,dl,rm,q,back,λi M' H' t rm' q dx xd _=>lk i M' H' t rm' q dx xd⟩
theorem yn(F:FnOk X.prog X.w X.K X.mg X.base (CX1 X.prog X.w) k f fd ps sp)(hr:Room k X.A)(hg:Gl X x)(hm:X.mg x=some (.ref f))(hk:PySem.W.keepIn X.K (.ref f)=true)(hb:BdT X.K cls fd ps t3 sp)(hx:aS (CX1 X.prog X.w) X E2)
  (ha:PA X (e::es) (ez X.K cls E2 tr)) (hdb:(x == ("__debug__" : Str))=false) (he:starEach (e::es) X.env=(false,eval e X.env)::starEach es X.env) (hpl:(backTo pos (starEach es X.env)).any (·.1)=false) :
  PE X (.Call (.Name x p) (e::es) [] pos) (low X.K cls E2 λσ M Q E=>tr σ M (λxs M1=>t3 xs M1 Q E) E):=λpins s σ H Q2 I hl_=>ex9 hl_ λσ3 M Q E3 rm ds lk h back=>
 wpAny_Call_Name_kw (bV I hg hm (PySem.W.callWith_K (h₀:=X.base) I.ok.mod.kin hk (thn (ha pos pins s σ H _ I (eX (R2:=λvs H1=>spX X.K cls t3 vs H1 Q2 (λc d H'=>TM X.K H1 H'->E2 σ c d H')) rm ds lk h
  λvs H1 xs M1 dl rm1 t1 q1=>l4 dl rm1 (lk.mono t1) q1 (back.mono t1))) λus s1 ⟨vs,H1,I1,r,q⟩=>⟨I1.kIn,iC F hr hb hx I1 r q⟩) he hpl) hdb)
theorem uO(F:FnOk X.prog X.w X.K X.mg X.base (CX1 X.prog X.w) k f fd ps sp)(hr:Room k X.A)(hg:Gl X x)(hm:X.mg x=some (.ref f))(hk:PySem.W.keepIn X.K (.ref f)=true)(hb:BdT X.K cls fd ps t3 sp)(hx:aS (CX1 X.prog X.w) X E2)(hdb:(x == ("__debug__" : Str))=false) :
  PE X (.Call (.Name x p) [] [] pos) (low X.K cls E2 λσ M Q E=>t3 [] M Q E):=λpins s σ H Q2 I hl_=>ex9 hl_ λσ3 M Q E3 rm ds lk h back=>
 wpAny_Call_Name_kw (bV I hg hm (PySem.W.callWith_K0 I.kIn hk (iC (us:=[]) F hr hb hx I .nil (l4 (xs:=[]) .nil rm lk h back))) hdb)
theorem l7{id:String}(hc:VC X (.builtin id) r)(hg:Gl X x)(hm:X.mg x=none)(hv:bootBuiltins x=some (.builtin id))(ha:PA X (e::es) (ez X.K cls E2 tr))(hn:x≠"__name__")(hdb:(x == ("__debug__" : Str))=false)
  (he:starEach (e::es) X.env=(false,eval e X.env)::starEach es X.env) (hpl:(backTo pos (starEach es X.env)).any (·.1)=false):PE X (.Call (.Name x p) (e::es) [] pos) (low X.K cls E2 λσ M Q E=>tr σ M (λxs M1=>r xs M1 Q) E):=
 (dN hc.op hg hm hv ha hn hdb he hpl).imp λσ H Q2 hl_=>ex9 hl_ λσ3 M Q E3 rm ds lk h back=>eX rm ds lk h λvs H1 xs M1 dl rm1 t1 q1=>⟨xs,M1,Q,dl,rm1,q1,back.mono t1⟩
theorem lj(hc:VC X (.type T) r)(hg:Gl X x)(hm:X.mg x=none)(hv:bootBuiltins x=some (.type T))(ha:PA X (e::es) (ez X.K cls E2 tr))(hn:x≠"__name__")(hdb:(x == ("__debug__" : Str))=false)
  (he:starEach (e::es) X.env=(false,eval e X.env)::starEach es X.env) (hpl:(backTo pos (starEach es X.env)).any (·.1)=false):PE X (.Call (.Name x p) (e::es) [] pos) (low X.K cls E2 λσ M Q E=>tr σ M (λxs M1=>r xs M1 Q) E):=
 (qP hc.op hg hm hv ha hn hdb he hpl).imp λσ H Q2 hl_=>ex9 hl_ λσ3 M Q E3 rm ds lk h back=>eX rm ds lk h λvs H1 xs M1 dl rm1 t1 q1=>⟨xs,M1,Q,dl,rm1,q1,back.mono t1⟩
noncomputable def cb:BT->String
 |.int=>"int"|.bool=>"bool"|.str=>"str"|.tuple=>"tuple"|.list=>"list"|.dict=>"dict"
theorem yL{pins:List (Addr×Obj)}{σ:St}{H:Hp}{s:Shared}{A:Around}{Ex:Value->Shared->Prop}{t:BT}{x:D}{v:V}{v2:Value}{M:MH}{Q:VK3}{Q2:VK}(I:Inv X pins σ H s)(rv:RelV v v2)(dx:Den X.K H x v)(rm:RelM X.K M H)(q:iQ t x M Q)(back:Back X.K H Q Q2) :
  wpAny (model X.prog X.w) A (call (.builtin "isinstance") [v2,.type (cb t)]) (EP X pins σ Q2) Ex s:=by
 refine d8 I.tk ?_;have fin:∀b,Q (.bl b) M->∀tk,0 < tk->EP X pins σ Q2 (.bool b) {s with toks:=tk}:=λb q tk _=>⟨.bl b,H,I.tok _,rfl,back _ _ _ _ aW rm (.refl _) q⟩
 cases x with
 |non=>cases (show v=.non from dx);cases rv;cases t<;>exact PySem.W.kia_one PySem.W.kitx_none I.kIn True.intro rfl (λz=>nomatch z) (fin _ q)
 |bl b=>cases (show v=.bl b from dx);cases rv;cases t<;>exact PySem.W.kia_one PySem.W.kitx_bool I.kIn True.intro rfl (λz=>nomatch z) (fin _ q)
 |int i=>cases (show v=.int i from dx);obtain⟨tk,rfl⟩:=rv;cases t<;>exact PySem.W.kia_one PySem.W.kitx_int I.kIn True.intro rfl (λz=>nomatch z) (fin _ q)
 |str i=>cases (show v=.str i from dx);obtain⟨tk,rfl⟩:=rv;cases t<;>exact PySem.W.kia_one PySem.W.kitx_str I.kIn True.intro rfl (λz=>nomatch z) (fin _ q)
 |tup ds=>
  obtain⟨a,vs,rfl,sq,_⟩:=dx;cases rv;obtain⟨its,_,tt,_⟩:=I.tuple sq;obtain⟨o,h1,h2,_⟩:=(show s.heap.IsTuple a its.toArray from tt);cases t<;>exact PySem.W.kia_one PySem.W.kitx_tuple I.kIn ⟨o,h1,h2⟩ rfl (λz=>nomatch z) (fin _ q)
 |rol ds=>
  obtain⟨a,vs,rfl,sq,_⟩:=dx;cases rv;obtain⟨_,its,n,_,_,h1⟩:=I.rdL sq.rd;cases t<;>exact PySem.W.kia_one PySem.W.kitx_list I.kIn ⟨_,h1,rfl⟩ rfl (λz=>nomatch z) (fin _ q)
 |ref a=>
  cases (show v=.ref a from dx);cases rv;simp only[iQ]at q;split at q
  ·rename_i ds e;obtain⟨vs,e1,_⟩:=rm a _ e;obtain⟨_,its,n,_,_,h1⟩:=I.rdL (.inl (.inl e1));cases t<;>exact PySem.W.kia_one PySem.W.kitx_list I.kIn ⟨_,h1,rfl⟩ rfl (λz=>nomatch z) (fin _ q)
  ·rename_i ks ds e;obtain⟨vs,e1,_,_⟩:=rm a _ e;obtain⟨_,_,_,_,o,_,_,h1,h2,_⟩:=I.hok a _ e1;cases t<;>exact PySem.W.kia_one PySem.W.kitx_dict I.kIn ⟨o,h1,h2.1⟩ rfl (λz=>nomatch z) (fin _ q)
  ·rename_i ks ds e;obtain⟨vs,xs,e1,_⟩:=rm a _ e;obtain⟨⟨o,es,ep,h1,h2,_⟩,_⟩:=(show ObjOk X.prog X.w H s.heap a (.ext (dH a xs)) from I.hok a _ e1);cases t<;>exact PySem.W.kia_one PySem.W.kitx_dict I.kIn ⟨o,h1,h2.1⟩ rfl (λz=>nomatch z) (fin _ q)
  ·exact q.elim
 |dik ks ds=>
  obtain⟨a,vs,ob,rfl,e1,_⟩:=dx;cases rv;obtain⟨_,_,_,ws,_,p⟩:=(show ObjOk X.prog X.w H s.heap a (.frz ob (.dK (ks.zip vs))) from I.hok a _ e1);obtain⟨o,es,ep,h1,h2,_⟩:=p;cases t<;>exact PySem.W.kia_one PySem.W.kitx_dict I.kIn ⟨o,h1,h2.1⟩ rfl (λz=>nomatch z) (fin _ q)
 |dit ks ds=>
  obtain⟨a,vs,ob,xs,rfl,e1,_⟩:=dx;cases rv;obtain⟨_,⟨o,es,ep,h1,h2,_⟩,_⟩:=(show ObjOk X.prog X.w H s.heap a (.frz ob (.ext (dH a xs))) from I.hok a _ e1);cases t<;>exact PySem.W.kia_one PySem.W.kitx_dict I.kIn ⟨o,h1,h2.1⟩ rfl (λz=>nomatch z) (fin _ q)
 |obj i C ns ds=>exact (show False from q).elim
theorem A9(ha:PE X e (low X.K cls E2 te))(hg:Gl X "isinstance")(hm:X.mg "isinstance"=none)(hg2:Gl X (cb t))(hm2:X.mg (cb t)=none)(hs:starEach (e::[.Name (cb t) p2]) X.env=(false,eval e X.env)::starEach [.Name (cb t) p2] X.env) :
  PE X (.Call (.Name "isinstance" p) [e,.Name (cb t) p2] [] pos) (low X.K cls E2 λσ M Q E=>te σ M (λx M1=>iQ t x M1 Q) E):=by
 have hT:PE X (.Name (cb t) p2) (tC (.ty (cb t))):=by
  cases t<;>exact wl hg2 hm2 (by decide +kernel) rfl
 have hc:CallR X (.builtin "isinstance") (λvs H Q2=>∃x v M Q,vs=[v,.ty (cb t)]/\Den X.K H x v/\RelM X.K M H/\iQ t x M Q/\Back X.K H Q Q2):=by
  refine λpins s σ H vs us Q2 I r hl_=>ex9 hl_ λx v M Q e dx rm q back=>?_
  subst e;obtain⟨u,w,rfl,ru,rw⟩:=Vals.two r;cases (show w=Value.type (cb t) from rw);exact yL I ru dx rm q back
 refine (dN hc hg hm (by decide +kernel) (bz ha (bz hT pa_nil (by rfl)) hs) (by decide +kernel) (by decide +kernel) hs (by rfl)).imp λσ H Q2 hl_=>ex9 hl_ λσ3 M Q E3 rm ds lk h back=>?_
 exact aV rm ds lk h λv H1 x M1 dx rm1 t1 q1=>⟨x,v,M1,Q,rfl,dx,rm1,q1,back.mono t1⟩
end
section
variable {X:Cx}
theorem yK{K:PySem.W.Frag}(sq:SqT K H0 p vs)(dl:DenL K H0 ds vs):ItOk K H0 (Itt K p) ds (λ_=>True):=by
 refine⟨λi H M t rm s hi=>?_,λi H M x H' t rm s hi y=>?_,λH M t rm s=>?_⟩
 ·have hi':i < vs.length:=by rw[<-dl.length];exact hi
  exact⟨vs,vs[i],t.t _ _ sq,by simp[hi']⟩
 ·obtain⟨e,y⟩:=y;subst e;obtain⟨d,e1,e2⟩:=(dl.mono t).get' (y vs (t.t _ _ sq));exact⟨.refl _,rm,d,e1,e2⟩
 ·exact⟨vs,t.t _ _ sq,by rw[dl.length];exact Nat.le_refl _⟩
theorem r8{K:PySem.W.Frag}(sq:SqF K H0 p vs)(dl:DenL K H0 ds vs):ItOk K H0 (Itl K p) ds (λ_=>True):=by
 refine⟨λi H M t rm s hi=>?_,λi H M x H' t rm s hi y=>?_,λH M t rm s=>?_⟩
 ·have hi':i < vs.length:=by rw[<-dl.length];exact hi
  exact⟨vs,vs[i],(t.f _ _ sq).sq,by simp[hi']⟩
 ·obtain⟨e,y⟩:=y;subst e;obtain⟨d,e1,e2⟩:=(dl.mono t).get' (y vs (t.f _ _ sq).sq);exact⟨.refl _,rm,d,e1,e2⟩
 ·exact⟨vs,(t.f _ _ sq).sq,by rw[dl.length];exact Nat.le_refl _⟩
theorem sj{K:PySem.W.Frag}:ItOk K H0 (Itl K p) ds (λM=>M p=some (.lst ds)):=by
 refine⟨λi H M t rm s hi=>?_,λi H M x H' t rm s hi y=>?_,λH M t rm s=>?_⟩
 ·obtain⟨vs,e,dl⟩:=rm p _ s;have hi':i < vs.length:=by rw[<-dl.length];exact hi
  exact⟨vs,vs[i],.of e,by simp[hi']⟩
 ·obtain⟨vs,e,dl⟩:=rm p _ s;obtain⟨e',y⟩:=y;subst e';obtain⟨d,e1,e2⟩:=dl.get' (y vs (.of e));exact⟨.refl _,rm,d,e1,e2⟩
 ·obtain⟨vs,e,dl⟩:=rm p _ s;exact⟨vs,.of e,by rw[dl.length];exact Nat.le_refl _⟩
theorem gv{qb:Bool}(I:Inv X pins σ H s)(hq:SqL X.K H a xs)(q:R (Itl X.K a) H):wpAny (model X.prog X.w) X.A (pyIter (.ref a)) (xX qb X pins σ tg R) Ex s:=by
 obtain⟨its,rv,p,hz⟩:=I.list hq;refine wpAny_pyIter_list p.isList ?_;refine⟨s.heap.objs.size,[s.heap.objs.size],_,_,H,rfl,I.kept (t':=s.toks) λb o e=>Heap.get?_push_of_some _ e,qN a _,⟨_,Heap.get?_push_size _ rfl,rfl,rfl⟩,λb hb=>?_,q⟩
 have e:b=s.heap.objs.size:=by simpa using hb
 subst e;exact I.fpOk (Nat.le_refl _) (I.hok.fresh (Nat.le_refl _))
theorem rY(I:Inv X pins σ H s)(hq:SqT X.K H a xs)(q:R (Itt X.K a) H):wpAny (model X.prog X.w) X.A (pyIter (.ref a)) (PIE X pins σ tg R) Ex s:=by
 obtain⟨its,rv,p,hz⟩:=I.tuple hq;refine wpAny_pyIter_tuple (show s.heap.IsTuple a its.toArray from p) ?_;refine⟨s.heap.objs.size,[s.heap.objs.size],_,_,H,rfl,I.kept (t':=s.toks) λb o e=>Heap.get?_push_of_some _ e,oK a _,⟨_,Heap.get?_push_size _ rfl,rfl,rfl⟩,λb hb=>?_,q⟩
 have e:b=s.heap.objs.size:=by simpa using hb
 subst e;exact I.fpOk (Nat.le_refl _) (I.hok.fresh (Nat.le_refl _))
noncomputable def vh(z:Str):It:=⟨λi _=>i < z.cps.size,λi H x H'=>H'=H/\∃c,z.cps[i]?=some c/\x=.str ⟨#[c]⟩,λi _=>z.cps.size<=i⟩
theorem rV{K:PySem.W.Frag}(it:Addr)(z:Str)(t:Tok)(ty:String)(hty:ty = "str_ascii_iterator"\/ty = "str_iterator"):Turn P w K tg (vh z) [it] it (λi h=>h.IsStrIter it ty z t i) where
 mem:=by simp
 obj:=λi h st b hb=>by
  have e:b=it:=by simpa using hb
  subst e;obtain⟨o,e,c,d⟩:=st;exact⟨o,e,λv z=>by rw[d]at z;cases z⟩
 keep:=λi h h' st k=>let ⟨o,e,r⟩:=st;⟨o,k it (by simp) o e,r⟩
 item:=by
  intro X hP hw hK hc i pins s σ H E I hf st hg;subst hP hw hK;have hi:i < z.cps.size:=hg;obtain⟨f0,f1,f2,f3,f4,f5⟩:=hf it (by simp)
  have hx:z.cps[i]?=some z.cps[i]:=by simp[hi]
  have fin:∀h':Heap,h'.IsStrIter it ty z t (i+1)->Heap.SameBut it s.heap h'->∃u,some (Value.str ⟨#[z.cps[i]]⟩ s.toks)=some u/\wpAny (model X.prog X.w) X.A (letOwnedTupleGo tg (.ref it) u) (λ_ s2=>∃x H',Inv X pins σ H' s2/\RelV x u/\(vh z).yld i H x H'/\s2.heap.IsStrIter it ty z t (i+1)/\∀b∈[it],H' b=none) E {s with heap:=h',toks:=s.toks+1}:=λh' st' sb=>by
   have I1:Inv X pins σ H {s with heap:=h',toks:=s.toks+1}:=I.turned (t':=s.toks+1) (λb o hb e=>(sb.2 b hb).trans e) f0 f1 f3 f4 f5
   obtain⟨o,e,c,d⟩:=id st';exact⟨_,rfl,pz (s:={s with heap:=h',toks:=s.toks+1}) e c d (by rcases hty with rfl|rfl<;>decide) ⟨.str ⟨#[z.cps[i]]⟩,H,I1,⟨_,rfl⟩,⟨rfl,_,hx,rfl⟩,st',λb hb=>(hf b hb).1⟩⟩
  rcases hty with rfl|rfl
  ·exact wpAny_pyNext_ascii_item st hx fin
  ·exact wpAny_pyNext_wide_item st hx fin
 done:=by
  intro X hP hw hK hc i pins s σ H E I hf st hg;subst hP hw hK;obtain⟨f0,f1,f2,f3,f4,f5⟩:=hf it (by simp)
  have hx:z.cps[i]?=none:=by simpa using (show z.cps.size<=i from hg)
  rcases hty with rfl|rfl
  ·exact wpAny_pyNext_ascii_end (I.ok.hd hc) st hx λh' eb=>⟨rfl,I.turned (t':=s.toks) (λb o hb e=>eb b o hb e) f0 f1 f3 f4 f5⟩
  ·exact wpAny_pyNext_wide_end (I.ok.hd hc) st hx λh' eb=>⟨rfl,I.turned (t':=s.toks) (λb o hb e=>eb b o hb e) f0 f1 f3 f4 f5⟩
 self:=λ_ _ _ _ _ st h=>by
  rcases hty with rfl|rfl
  ·exact wpAny_pyIter_striter_ascii st h
  ·exact wpAny_pyIter_striter_wide st h
theorem yQ{K:PySem.W.Frag}:ItOk K H0 (vh z) (dS z) (λ_=>True):=by
 have hl:(dS z).length=z.cps.size:=by simp[dS]
 refine⟨λi H M t rm s hi=>by rw[hl]at hi;exact hi,λi H M x H' t rm s hi y=>?_,λH M t rm s=>by show z.cps.size<=_;rw[hl];exact Nat.le_refl _⟩
 obtain⟨rfl,c,hc,rfl⟩:=y;exact⟨.refl _,rm,.str ⟨#[c]⟩,by simp[dS,hc],rfl⟩
theorem rT{X:Cx}(I:Inv X pins σ H s)(q:R (vh z) H):wpAny (model X.prog X.w) X.A (pyIter (.str z t)) (PIE X pins σ tg R) X.xe s:=by
 have go:∀ty:String,(ty = "str_ascii_iterator"\/ty = "str_iterator")->PIE X pins σ tg R (.ref s.heap.objs.size) {s with heap:=s.heap.push {cls:=.type ty,data:=.fields #[.str z t,.int 0 0]}}:=λty hty=>
  ⟨s.heap.objs.size,[s.heap.objs.size],_,_,H,rfl,I.kept (t':=s.toks) (λb o e=>Heap.get?_push_of_some _ e),rV s.heap.objs.size z t ty hty,⟨_,Heap.get?_push_size _ rfl,rfl,rfl⟩,λb hb=>by
   have e':b=s.heap.objs.size:=by simpa using hb
   subst e';exact I.fpOk (Nat.le_refl _) (I.hok.fresh (Nat.le_refl _)),q⟩
 cases ha:z.cps.all (· < 128)
 ·exact wpAny_pyIter_wide ha (go _ (.inr rfl))
 ·exact wpAny_pyIter_ascii ha (go _ (.inl rfl))
theorem CJ(hl:PE X l (low X.K cls E2 te)):PI X tg l (oP X.K cls E2 λσ M R E=>te σ M (λx M1=>match x with
  |.tup ds=>R ds (λ_=>True) M1
  |.rol ds=>R ds (λ_=>True) M1
  |.ref a=>match M1 a with
   |some (.lst ds)=>R ds (λM=>M a=some (.lst ds)) M1
   |_=>False
  |.str z=>R (dS z) (λ_=>True) M1
  |_=>False) E):=by
 refine λpins s σ H R2 I hl_=>ex9 hl_ λσ3 M R E3 rm ds lk h k=>?_
 refine thn (hl pins s σ H _ I ⟨σ3,M,_,E3,rm,ds,lk,h,λv H' d M' a b c e=>(⟨d,M',a,b,c,e⟩:(λv H'=>∃d M',Den X.K H' d v/\RelM X.K M' H'/\TM X.K H H'/\(match d with
  |.tup ds=>R ds (λ_=>True) M'
  |.rol ds=>R ds (λ_=>True) M'
  |.ref a=>match M' a with
   |some (.lst ds)=>R ds (λM=>M a=some (.lst ds)) M'
   |_=>False
  |.str z=>R (dS z) (λ_=>True) M'
  |_=>False)) v H')⟩) λu s1 ⟨v,H1,I1,r1,d,M1,dv,rm1,t1,q1⟩=>?_
 split at q1
 ·obtain⟨p,vs,rfl,sq,dl⟩:=dv;cases r1;exact rY I1 sq (k _ _ _ _ _ (yK sq dl) rm1 t1 q1)
 ·obtain⟨p,vs,rfl,sq,dl⟩:=dv;cases r1;exact gv I1 sq.sq (k _ _ _ _ _ (r8 sq dl) rm1 t1 q1)
 ·rename_i a;cases (show v=.ref a from dv);cases r1;split at q1
  ·rename_i ds' e;obtain⟨vs,e1,dl⟩:=rm1 a _ e;exact gv I1 (.of e1) (k _ _ _ _ _ sj rm1 t1 q1)
  ·exact q1.elim
 ·rename_i z;cases (show v=.str z from dv);obtain⟨tt,rfl⟩:=r1;exact rT I1 (k _ _ _ _ _ yQ rm1 t1 q1)
 ·exact q1.elim
theorem Aj{qb:Bool}(hl:PE X l (low X.K cls E2 te)):PIB qb X tg l (oP X.K cls E2 λσ M R E=>te σ M (λx M1=>match x with
  |.rol ds=>R ds (λ_=>True) M1
  |.ref a=>match M1 a with
   |some (.lst ds)=>R ds (λM=>M a=some (.lst ds)) M1
   |_=>False
  |_=>False) E):=by
 refine λpins s σ H R2 I hl_=>ex9 hl_ λσ3 M R E3 rm ds lk h k=>?_
 refine thn (hl pins s σ H (λv H'=>∃vs a J,v=.ref a/\SqL X.K H' a vs/\J=Itl X.K a/\R2 J H') I ⟨σ3,M,_,E3,rm,ds,lk,h,λv H' d M' dv rm1 t1 q1=>?_⟩) λu s1 ⟨v,H1,I1,r1,vs,a,J,e,sq,eJ,q⟩=>?_
 ·split at q1
  ·obtain⟨p,vs,rfl,sq,dl⟩:=dv;exact⟨vs,p,_,rfl,sq.sq,rfl,k _ _ _ _ _ (r8 sq dl) rm1 t1 q1⟩
  ·rename_i a;cases (show v=.ref a from dv);split at q1
   ·rename_i ds' e;obtain⟨vs,e1,dl⟩:=rm1 a _ e;exact⟨vs,a,_,rfl,.of e1,rfl,k _ _ _ _ _ sj rm1 t1 q1⟩
   ·exact q1.elim
  ·exact q1.elim
 ·subst e eJ;cases r1;exact gv I1 sq q
theorem E0(hg:Gl X "range")(hm:X.mg "range"=none)(ha:PE X a (low X.K cls E2 ta))(hs:starEach [a] X.env=[(false,eval a X.env)]):PI X tg (.Call (.Name "range" p) [a] [] pos) (oP X.K cls E2 λσ M R E=>ta σ M (λx M1=>match x with
  |.int j=>-(2 ^ 62)<=j/\j < 2 ^ 62/\R (rng 0 j.toNat) (λ_=>True) M1
  |_=>False) E):=
 (rB hg hm (bz ha pa_nil hs) hs).imp λσ H R2 hl_=>ex9 hl_ λσ3 M R E3 rm ds lk h k=>aV rm ds lk h λv H1 x M1 dx rm1 t1 q1=>by
  split at q1
  ·rename_i j;cases (show v=.int j from dx);exact⟨j,rfl,q1.1,q1.2.1,k _ _ _ _ _ xc rm1 t1 q1.2.2⟩
  ·exact q1.elim
end
end L2
namespace L2
open PySem PySem.Spec PyProof.Rows
section
variable {X:Cx}
theorem yz(hX:∀i,i < ne->ExcI X.K (cls i)/\PySem.W.kitOne X.K (.ref (cls i)) cv=some (r i))
  (I:Inv X pins σ H s)(rv:RelV v v2)(dx:Den X.K H x v)(rm:RelM X.K M H)(q:my ne cls r x M Q)(back:Back X.K H Q Q2) :
  wpAny (model X.prog X.w) A (call (.builtin "isinstance") [v2,cv]) (EP X pins σ Q2) Ex s:=by
 unfold my at q;split at q
 ·rename_i a;cases (show v=.ref a from dx);cases rv;split at q
  ·rename_i i w e;obtain⟨hi,rfl,q⟩:=q;obtain⟨h1,h2⟩:=hX i.c hi;obtain⟨o0,dx0,e0,_⟩:=rm a _ e;have ho:=I.hok _ _ e0;obtain⟨_,⟨o,vs,g1,g2,_⟩,_,_⟩:=ho;exact d8 I.tk <| PySem.W.kia_one (uh h1) I.kIn ⟨o,g1,g2⟩ h2 (λz=>nomatch z) λtk _=>⟨.bl _,H,I.tok _,rfl,back _ _ _ _ aW rm (.refl _) q⟩
  ·exact q.elim
 ·exact q.elim
theorem B0(ha:PE X e (low X.K cls E2 te))(hg:Gl X "isinstance")(hm:X.mg "isinstance"=none)(hg2:Gl X x)(hm2:X.mg x=some (.ref (cls j)))(hdb:(x == ("__debug__" : Str))=false)
  (hX:∀i,i < ne->ExcI X.K (cls i)/\PySem.W.kitOne X.K (.ref (cls i)) (.ref (cls j))=some (r i)) (hs:starEach (e::[.Name x p2]) X.env=(false,eval e X.env)::starEach [.Name x p2] X.env) :
  PE X (.Call (.Name "isinstance" p) [e,.Name x p2] [] pos) (low X.K cls E2 λσ M Q E=>te σ M (λx M1=>my ne cls r x M1 Q) E):=by
 have hT:PE X (.Name x p2) (tC (.ref (cls j))):=lL hg2 hm2 rfl hdb;have hc:CallR X (.builtin "isinstance") (λvs H Q2=>∃x v M Q,vs=[v,.ref (cls j)]/\Den X.K H x v/\RelM X.K M H/\my ne cls r x M Q/\Back X.K H Q Q2):=by
  intro pins s σ H vs us Q2 I r ⟨x,v,M,Q,e,dx,rm,q,back⟩;subst e;obtain⟨u,w,rfl,ru,rw⟩:=Vals.two r;cases (show w=Value.ref (cls j) from rw);exact yz hX I ru dx rm q back
 refine (dN hc hg hm (by decide +kernel) (bz ha (bz hT pa_nil (by rfl)) hs) (by decide +kernel) (by decide +kernel) hs (by rfl)).imp λσ H Q2 hl_=>ex9 hl_ λσ3 M Q E3 rm ds lk h back=>?_
 exact aV rm ds lk h λv H1 x M1 dx rm1 t1 q1=>⟨x,v,M1,Q,rfl,dx,rm1,q1,back.mono t1⟩
end
end L2
namespace L2
open PySem PySem.Spec PyProof.Rows
section
variable {K:PySem.W.Frag}
theorem fA:∀{ns:List Nat}{ds:List D}{vs:List V}{f:Nat}{d:D},DenL K H ds vs->bX f ns ds=some d->∃v,((ns.map fnm).zip vs).lookup (fnm f)=some v/\Den K H d v
 |[],_,_,_,_,_,e=>by simp[bX]at e
 |n::ns,[],_,_,_,_,e=>by simp[bX]at e
 |n::ns,d0::ds,_,f,d,dl,e=>by
  obtain⟨v,r,rfl,dv,dl⟩:=dl;simp only[bX]at e;by_cases z:n=f
  ·rw[if_pos z]at e;cases e;subst z;exact⟨v,by simp[List.lookup],dv⟩
  ·rw[if_neg z]at e;obtain⟨u,h1,h2⟩:=fA dl e;refine⟨u,?_,h2⟩;have nb:(fnm f == fnm n)=false:=beq_eq_false_iff_ne.mpr λq=>z (lF q).symm
   simp[List.lookup,nb,h1]
theorem fE:∀{ns:List Nat}{ds:List D}{vs:List V}{f:Nat},DenL K H ds vs->ns.length=vs.length->bX f ns ds=none->((ns.map fnm).zip vs).lookup (fnm f)=none
 |[],_,_,_,_,_,_=>by simp
 |n::ns,[],vs,_,dl,hl,_=>by cases (show vs=[] from dl);cases hl
 |n::ns,d0::ds,_,f,dl,hl,e=>by
  obtain⟨v,r,rfl,dv,dl⟩:=dl;simp only[bX]at e;by_cases z:n=f
  ·rw[if_pos z]at e;cases e
  ·rw[if_neg z]at e;have h1:=fE dl (by simpa using hl) e
   have nb:(fnm f == fnm n)=false:=beq_eq_false_iff_ne.mpr λq=>z (lF q).symm
   simp[List.lookup,nb,h1]
theorem nz:∀{ns:List Nat}{ds:List D}{vs:List V}{f:Nat}{y:D}{u:V},DenL K H ds vs->ns.length=vs.length->Den K H y u->
  ∃ws,da (fnm f) u ((ns.map fnm).zip vs)=((cO f ns).map fnm).zip ws/\(cO f ns).length=ws.length/\DenL K H (cS f y ns ds) ws
 |[],ds,vs,f,y,u,dl,hl,dy=>by
  cases vs with
  |nil=>exact⟨[u],rfl,rfl,by unfold cS;exact .one dy⟩
  |cons _ _=>cases hl
 |n::ns,[],vs,f,y,u,dl,hl,dy=>by cases (show vs=[] from dl);cases hl
 |n::ns,d::ds,_,f,y,u,dl,hl,dy=>by
  obtain⟨v,r,rfl,dv,dl⟩:=dl;have hl':ns.length=r.length:=by simpa using hl
  by_cases z:n=f
  ·subst z;refine⟨u::r,?_,?_,?_⟩
   ·simp[da,cO]
   ·simp[cO,hl']
   ·simp only[cS,if_pos];exact .cons dy dl
  ·obtain⟨ws,h1,h2,h3⟩:=nz (f:=f) (u:=u) dl hl' dy;have nf:¬ fnm n=fnm f:=λq=>z (lF q)
   refine⟨v::ws,?_,?_,?_⟩
   ·simp only[List.map_cons,List.zip_cons_cons,da,if_neg nf,cO,if_neg z];rw[h1]
   ·simp[cO,if_neg z,h2]
   ·simp only[cS,if_neg z];exact .cons dv h3
end
theorem oG{fs:List (Str×V)}(hok:HOk P w H h)(e:Rd H a (.ins C dx fs)):∃mA,ObjM h a dx C mA/\(∀f,RelO (fs.lookup f) (mA f))/\H dx=some (.own a):=by
 obtain⟨d,z,ne,ob,mA,n,r,q⟩:=(show ObjOk P w H h a (.ins C dx fs) from e.ok hok);exact⟨mA,⟨ob,n,ne⟩,r,d⟩
section
variable {X:Cx}{fs:List (Str×V)}
theorem tJ(I:Inv X pins σ H s)(e:Rd H a (.ins C dx fs))(c:Cls X.K C)(n:NoAttr X.K C f)(l:fs.lookup f=some v)
  (h:∀u s',Inv X pins σ H s'->RelV v u->Q u s'):wpAny (model X.prog X.w) A (getAttr (.ref a) f b) Q E s:=by
 obtain⟨mA,O,r,_⟩:=oG I.hok e;obtain⟨u,hu,ru⟩:=RelO.some_of (v:=v) (o:=mA f) (by rw[<-l];exact r f)
 exact v8 I.kIn O (c.get f) c.hd n hu (rK ru) (h u _ (I.tok _) ru)
theorem mQ{m:Str}{g:Addr}{pl:Sem Bool}{Q:Value×List Value->Shared->Prop}(I:Inv X pins σ H s)(e:Rd H a (.ins C dx fs))(c:Cls X.K C)(k:Meth X.K C m g)(l:fs.lookup m=none)
  (h:Q (.ref g,[.ref a]) s):wpAny (model X.prog X.w) A (getMethod (.ref a) m pl) Q E s:=by
 obtain⟨mA,O,r,_⟩:=oG I.hok e;have hn:mA m=none:=RelO.none_of (by rw[<-l];exact r m)
 exact rX I.kIn O (c.get m) k.at_ k.fn hn h
end
structure ClsI (K:PySem.W.Frag)(C f:Addr):Prop where
 ga:PySem.W.specialIn K (.ref C) "__getattribute__"=some (some (.builtin "type.__getattribute__"))
 rd:PySem.W.readsIn K C (.type "type")=true
 at_:PySem.W.findCls K (.ref C) (.type "type") "__init__"=some (.val (.ref f))
structure TyI (K:PySem.W.Frag)(C:Addr):Prop where
 ha:PySem.W.findIn K (.ref C) "__class__"=some (some (.builtin "object.__class__"))
 hn:PySem.W.specialIn K (.builtin "object.__class__") "__get__"=some (some (.builtin "getset_descriptor.__get__"))
 htk:PySem.W.takesIn K (.builtin "object.__class__")=some true
 hm:PySem.W.mroIn K C (.type "object")=some true
structure KOk (K:PySem.W.Frag)(B:WB)(fad:Nat->Addr)(i:Nat):Prop where
 cl:Cls K (B.kls i)
 na:∀f,B.fok i f=true->NoAttr K (B.kls i) (fnm f)
 mt:∀m f,B.mth i m=some f->Meth K (B.kls i) (fnm m) (fad f)
 mkr:∀f,B.ini i=some f->Mk K (B.kls i) (fad f)
 ci:∀f,B.ini i=some f->ClsI K (B.kls i) (fad f)
 ty:TyI K (B.kls i)
 is:∀j,j < B.nk->PySem.W.kitOne K (.ref (B.kls i)) (.ref (B.kls j))=some (B.ksub i j)
section
variable {X:Cx}{B:WB}
theorem vL{K:PySem.W.Frag}(hk:∀i,i < B.nk->KOk K B fad i)(dx:Den K H x v)(rm:RelM K M H)(h:fK B f x M Q) :
  ∃a C dx fs u d,v=.ref a/\Rd H a (.ins C dx fs)/\Cls K C/\NoAttr K C (fnm f)/\fs.lookup (fnm f)=some u/\Den K H d u/\Q d M:=by
 unfold fK at h;split at h
 ·rename_i i C ns ds;obtain⟨p,vs,ob,dx',rfl,e,hl,dl⟩:=dx;obtain⟨⟨rfl,hi,hf⟩,h⟩:=h;unfold jX at h;split at h
  ·rename_i d q;obtain⟨u,h1,h2⟩:=fA dl q;exact⟨p,_,dx',_,u,d,rfl,.inr ⟨ob,e⟩,(hk i hi).cl,(hk i hi).na f hf,h1,h2,h⟩
  ·exact h.elim
 ·rename_i a;split at h
  ·rename_i i C ns ds q;obtain⟨dx',vs,e,hl,dl⟩:=rm a _ q;obtain⟨⟨rfl,hi,hf⟩,h⟩:=h;unfold jX at h;split at h
   ·rename_i d q;obtain⟨u,h1,h2⟩:=fA dl q;exact⟨a,_,dx',_,u,d,dx,.inl e,(hk i hi).cl,(hk i hi).na f hf,h1,h2,h⟩
   ·exact h.elim
  ·exact h.elim
 ·exact h.elim
theorem Cs(hk:∀i,i < B.nk->KOk X.K B fad i)(he:PE X e (low X.K cls E2 te))(hb:attributeBase e (fnm f) X.env (eval e X.env)=eval e X.env):PE X (.Attribute e (fnm f) pos) (low X.K cls E2 λσ M Q E=>te σ M (λx M1=>fK B f x M1 Q) E):=by
 refine λpins s σ H Q2 I hl_=>ex9 hl_ λσ3 M Q E3 rm ds lk h back=>?_
 refine vB hb (thn (he pins s σ H (λv H1=>∃x M1,Den X.K H1 x v/\RelM X.K M1 H1/\TM X.K H H1/\fK B f x M1 Q) I ⟨σ3,M,_,E3,rm,ds,lk,h,λv H' d M' a b c e=>⟨d,M',a,b,c,e⟩⟩) λu s1 ⟨v,H1,I1,r1,x,M1,dx,rm1,t1,q1⟩=>?_)
 obtain⟨a,C,dx',fs,u',d,rfl,rd,c,n,l,du,q⟩:=vL hk dx rm1 q1;obtain rfl:u=Value.ref a:=r1;exact tJ I1 rd c n l λu'' s2 I2 ru=>⟨u',H1,I2,ru,back _ _ _ _ du rm1 t1 q⟩
theorem Ax{K:PySem.W.Frag}(dx:Den K H x v)(rm:RelM K M H)(h:mi B j x M Q) :
  ∃a i dx fs,v=.ref a/\i < B.nk/\j < B.nk/\Rd H a (.ins (B.kls i) dx fs)/\Q (.bl (B.ksub i j)) M:=by
 unfold mi at h;split at h
 ·rename_i i C ns ds;obtain⟨p,vs,ob,dx',rfl,e,hl,dl⟩:=dx;obtain⟨⟨rfl,hi,hj⟩,h⟩:=h;exact⟨p,i,dx',_,rfl,hi,hj,.inr ⟨ob,e⟩,h⟩
 ·rename_i a;split at h
  ·rename_i i C ns ds q;obtain⟨dx',vs,e,hl,dl⟩:=rm a _ q;obtain⟨⟨rfl,hi,hj⟩,h⟩:=h;exact⟨a,i,dx',_,dx,hi,hj,.inl e,h⟩
  ·exact h.elim
 ·exact h.elim
theorem Ca(hk:∀i,i < B.nk->KOk X.K B fad i)(ha:PE X e (low X.K cls E2 te))(hg:Gl X "isinstance")(hm:X.mg "isinstance"=none)(hg2:Gl X x)(hm2:X.mg x=some (.ref (B.kls j)))(hdb:(x == ("__debug__" : Str))=false)
  (hs:starEach (e::[.Name x p2]) X.env=(false,eval e X.env)::starEach [.Name x p2] X.env) :
  PE X (.Call (.Name "isinstance" p) [e,.Name x p2] [] pos) (low X.K cls E2 λσ M Q E=>te σ M (λx M1=>mi B j x M1 Q) E):=by
 have hT:PE X (.Name x p2) (tC (.ref (B.kls j))):=lL hg2 hm2 rfl hdb;have hc:CallR X (.builtin "isinstance") (λvs H Q2=>∃x v M Q,vs=[v,.ref (B.kls j)]/\Den X.K H x v/\RelM X.K M H/\mi B j x M Q/\Back X.K H Q Q2):=by
  refine λpins s σ H vs us Q2 I r hl_=>ex9 hl_ λx v M Q e dx rm q back=>?_
  subst e;obtain⟨u,w,rfl,ru,rw⟩:=Vals.two r;cases (show w=Value.ref (B.kls j) from rw);obtain⟨a,i,dx',fs,rfl,hi,hj,rd,q⟩:=Ax dx rm q;cases (show u=Value.ref a from ru);obtain⟨mA,O,_⟩:=oG I.hok rd;obtain⟨od,J,_⟩:=O.look;have k:=hk i hi;exact d8 I.tk <| PySem.W.kia_one (PySem.W.kitx_own (k.cl.get _) k.cl.hd k.ty.ha k.ty.hn k.ty.htk k.ty.hm) I.kIn J (k.is j hj) (λz=>nomatch z) λtk _=>⟨.bl _,H,I.tok _,rfl,back _ _ _ _ aW rm (.refl _) q⟩
 refine (dN hc hg hm (by decide +kernel) (bz ha (bz hT pa_nil (by rfl)) hs) (by decide +kernel) (by decide +kernel) hs (by rfl)).imp λσ H Q2 hl_=>ex9 hl_ λσ3 M Q E3 rm ds lk h back=>?_
 exact aV rm ds lk h λv H1 x M1 dx rm1 t1 q1=>⟨x,v,M1,Q,rfl,dx,rm1,q1,back.mono t1⟩
end
end L2
namespace L2
open PySem PySem.Spec PyProof.Rows
noncomputable def rM(X:Cx)(cls:Nat->Addr)(k:Nat)(a:Addr)(t3:List D->MH->VK3->XN->Prop):Prop:=∃fd ps sp,PySem.W.keepIn X.K (.ref a)=true/\BdT X.K cls fd ps t3 sp/\FnOk X.prog X.w X.K X.mg X.base (CX1 X.prog X.w) k a fd ps sp
section
variable {X:Cx}{B:WB}{fad:Nat->Addr}{cls:Nat->Addr}{E2:St->XK}{o e:Expr}{es:List Expr}{to te:St3->MH->VK3->XN->Prop}{tr:St3->MH->(List D->MH->Prop)->XN->Prop}{pos apos p:Pos}{m k:Nat}
 {cl3:Nat->List D->MH->VK3->XN->Prop}
theorem pF{K:PySem.W.Frag}{H:Hp}{x:D}{v:V}{M:MH}{R:Nat->Prop}(hk:∀i,i < B.nk->KOk K B fad i)(dx:Den K H x v)(rm:RelM K M H)(h:c8 B m x M R) :
  ∃a C dx fs f,v=.ref a/\Rd H a (.ins C dx fs)/\Cls K C/\Meth K C (fnm m) (fad f)/\fs.lookup (fnm m)=none/\(∃i,i < B.nk/\B.mth i m=some f)/\R f:=by
 unfold c8 at h;split at h
 ·rename_i i C ns ds;obtain⟨p,vs,ob,dx',rfl,e,hl,dl⟩:=dx;obtain⟨⟨rfl,hi,hf⟩,h⟩:=h;unfold jg at h;split at h
  ·rename_i f q;exact⟨p,_,dx',_,f,rfl,.inr ⟨ob,e⟩,(hk i hi).cl,(hk i hi).mt m f q,fE dl hl hf,⟨i,hi,q⟩,h⟩
  ·exact h.elim
 ·rename_i a;split at h
  ·rename_i i C ns ds q;obtain⟨dx',vs,e,hl,dl⟩:=rm a _ q;obtain⟨⟨rfl,hi,hf⟩,h⟩:=h;unfold jg at h;split at h
   ·rename_i f q;exact⟨a,_,dx',_,f,dx,.inl e,(hk i hi).cl,(hk i hi).mt m f q,fE dl hl hf,⟨i,hi,q⟩,h⟩
   ·exact h.elim
  ·exact h.elim
 ·exact h.elim
theorem yh(hk:∀i,i < B.nk->KOk X.K B fad i)(hf:∀i m f,i < B.nk->B.mth i m=some f->rM X cls k (fad f) (cl3 f))(hr:Room k X.A)(hx:aS (CX1 X.prog X.w) X E2)
  (ho:PE X o (low X.K cls E2 to)) (ha:PA X (e::es) (ez X.K cls E2 tr)) (hb:attributeBase o (fnm m) X.env (eval o X.env)=eval o X.env) (hl:(apos.endLine == pos.line)=true) (hn:(e::es).length < 30)
  (he:starEach (e::es) X.env=(false,eval e X.env)::starEach es X.env) (hpl:(backTo pos (starEach es X.env)).any (·.1)=false) :
  PE X (.Call (.Attribute o (fnm m) apos) (e::es) [] pos) (low X.K cls E2 λσ M Q E=>to σ M (λx M1=>c8 B m x M1 λf=>tr σ M1 (λxs M2=>cl3 f (x::xs) M2 Q E) E) E):=by
 refine λpins s σ H Q2 I hl_=>ex9 hl_ λσ3 M Q E3 rm ds lk h back=>?_
 have hst:(backTo pos (starEach (e::es) X.env)).any (·.1)=false:=by
  rw[he];show ((false,_)::backTo pos (starEach es X.env)).any (·.1)=false;rw[List.any_cons,hpl];rfl
 refine PySem.W.methodCall_KW (thn (ho pins s σ H (λv H1=>∃x M1,Den X.K H1 x v/\RelM X.K M1 H1/\TM X.K H H1/\c8 B m x M1 λf=>tr σ3 M1 (λxs M2=>cl3 f (x::xs) M2 Q E3) E3) I ⟨σ3,M,_,E3,rm,ds,lk,h,λv H' d M' a b c e=>⟨d,M',a,b,c,e⟩⟩) λu s1 ⟨v,H1,I1,r1,x,M1,dx,rm1,t1,q1⟩=>?_) (kX hb (lR hst hn) hl)
 obtain⟨a,C,dx',fs,f,rfl,rd,c,mt,l,⟨i,hi,hfi⟩,q⟩:=pF hk dx rm1 q1;obtain rfl:u=Value.ref a:=r1;obtain⟨fd,ps,sp,kp,bd,F⟩:=hf i m f hi hfi;refine mQ I1 rd c mt l ?_;refine PySem.W.callWith_K (first:=[.ref a]) (h₀:=X.base) I.ok.mod.kin mt.kp (thn (ha pos pins s1 σ H1 _ I1 (eX (R2:=λvs H2=>spX X.K cls (cl3 f) (.ref a::vs) H2 Q2 (λc d H'=>TM X.K H2 H'->E2 σ c d H')) rm1 (ds.mono t1) (lk.mono t1) q
  λvs H2 xs M2 dl rm2 t2 q2=>l4 (.cons (dx.mono t2) dl) rm2 (lk.mono (t1.trans t2)) q2 (back.mono (t1.trans t2)))) λus s2 ⟨vs,H2,I2,r,q2⟩=>⟨I2.kIn,?_⟩) he hpl
 exact iC (us:=.ref a::us) (vs:=.ref a::vs) F hr bd hx I2 (.cons rfl r) q2
theorem u0(hk:∀i,i < B.nk->KOk X.K B fad i)(hf:∀i m f,i < B.nk->B.mth i m=some f->rM X cls k (fad f) (cl3 f))(hr:Room k X.A)(hx:aS (CX1 X.prog X.w) X E2)
  (ho:PE X o (low X.K cls E2 to)) (hb:attributeBase o (fnm m) X.env (eval o X.env)=eval o X.env) (hl:(apos.endLine == pos.line)=true) :
  PE X (.Call (.Attribute o (fnm m) apos) [] [] pos) (low X.K cls E2 λσ M Q E=>to σ M (λx M1=>c8 B m x M1 λf=>cl3 f [x] M1 Q E) E):=by
 refine λpins s σ H Q2 I hl_=>ex9 hl_ λσ3 M Q E3 rm ds lk h back=>?_
 refine PySem.W.methodCall_KW (thn (ho pins s σ H (λv H1=>∃x M1,Den X.K H1 x v/\RelM X.K M1 H1/\TM X.K H H1/\c8 B m x M1 λf=>cl3 f [x] M1 Q E3) I ⟨σ3,M,_,E3,rm,ds,lk,h,λv H' d M' a b c e=>⟨d,M',a,b,c,e⟩⟩) λu s1 ⟨v,H1,I1,r1,x,M1,dx,rm1,t1,q1⟩=>?_) (kX hb (lR (by rfl) (by decide)) hl)
 obtain⟨a,C,dx',fs,f,rfl,rd,c,mt,l,⟨i,hi,hfi⟩,q⟩:=pF hk dx rm1 q1;obtain rfl:u=Value.ref a:=r1;obtain⟨fd,ps,sp,kp,bd,F⟩:=hf i m f hi hfi;refine mQ I1 rd c mt l ?_;exact PySem.W.callWith_K0 (first:=[.ref a]) I1.kIn mt.kp (iC (us:=[.ref a]) (vs:=[.ref a]) F hr bd hx I1 (.cons rfl .nil) (l4 (.one dx) rm1 (lk.mono t1) q (back.mono t1)))
theorem kQ(M:Mk X.K C f)(F:FnOk X.prog X.w X.K X.mg X.base (CX1 X.prog X.w) k f fd ps sp)(hr:Room (k+1) X.A)(hb:BdT X.K cls fd ps t3 sp)
  (hx:aS (CX1 X.prog X.w) X E2) (I:Inv X pins σ H s)(r:Vals vs us)
  (h:∀x dx,H x=none->H dx=none->dx≠x->spX X.K cls t3 (.ref x::vs) (upd (upd H dx (.own x)) x (.ins C dx [])) (λv H2=>v=.non/\Q (.ref x) H2) (λc d H'=>TM X.K (upd (upd H dx (.own x)) x (.ins C dx [])) H'->E2 σ c d H')) :
  wpAny (model X.prog X.w) X.A (call (.ref C) us) (EP X pins σ Q) X.xe s:=by
 have hq:=h (s.heap.objs.size+1) s.heap.objs.size (I.hok.fresh (Nat.le_succ _)) (I.hok.fresh (Nat.le_refl _)) (Nat.ne_of_lt (Nat.lt_succ_self _));have I2:=Inv.made (C:=C) I;have r2:Vals (V.ref (s.heap.objs.size+1)::vs) (Value.ref (s.heap.objs.size+1)::us):=.cons rfl r;obtain⟨dvs,dsv,hv,bd,hq⟩:=hb _ _ _ _ hq;have r2:Vals ((V.ref (s.heap.objs.size+1)::vs)++dvs) ((Value.ref (s.heap.objs.size+1)::us)++dsv):=r2.append hv;have hl:(Value.ref (s.heap.objs.size+1)::us++dsv).length=ps.length:=by rw[<-r2.length];exact F.len _ _ _ _ hq
 have hb':=bd _ (Value.ref (s.heap.objs.size+1)::us) I2.kIn hl;refine wpAny_call (t9 (f:=f) I.kIn M.makes M.init (beq_iff_eq.mp M.fn) (codeAny_mono (F.run _ X.stack _ _ ⟨Value.ref (s.heap.objs.size+1)::us,[]⟩ (Value.ref (s.heap.objs.size+1)::us++dsv) _ _ _ (hr.make C us [])
  (I2.env0.make C us []) hb' r2 hq) λr s' hq'=>?_))
 match r,hq' with
 |.error e,hq'=>exact hx pins σ _ _ e s' I2 (sB hq')
 |.ok (.ret u),hq'=>
  obtain⟨v,H',I3,rv,ev,q3⟩:=I2.after hq';subst ev;exact⟨rv,⟨V.ref (s.heap.objs.size+1),H',I3,rfl,q3⟩⟩
 |.ok .next,hq'=>exact hq'.elim
 |.ok .brk,hq'=>exact hq'.elim
 |.ok .cont,hq'=>exact hq'.elim
theorem TM.made{K:PySem.W.Frag}(hx:H x=none)(hd:H dx=none)(ne:dx≠x):TM K H (upd (upd H dx (.own x)) x (.ins C dx [])):=
 (TM.new hd).trans (.new (by rw[ad (Ne.symm ne)];exact hx))
theorem p9{σ:St}{H:Hp}{xs:List D}{vs:List V}{M:MH}{Q:VK3}{Q2:VK}{E3:XN}{i:Nat}{fz:Bool}{t3:List D->MH->VK3->XN->Prop}(dl:DenL X.K H xs vs)(rm:RelM X.K M H)(lk:LkE X.K cls H E3 (E2 σ))
  (q:∀p,M p=none->t3 (.ref p::xs) (put M p (.ins i (B.kls i) [] [])) (λv M2=>v=.non/\if fz=true then bu Q (.ref p) M2 else Q (.ref p) M2) (λj M'=>E3 j (del M' p))) :
  ∀x dx,H x=none->H dx=none->dx≠x->spX X.K cls t3 (.ref x::vs) (upd (upd H dx (.own x)) x (.ins (B.kls i) dx [])) (λv H2=>v=.non/\∃M2,RelM X.K M2 H2/\TM X.K H H2/\if fz=true then bu Q (.ref x) M2 else Q (.ref x) M2)
   (λc d H'=>TM X.K (upd (upd H dx (.own x)) x (.ins (B.kls i) dx [])) H'->E2 σ c d H'):=λx dx hx hd ne=>by
 have t:=TM.made (K:=X.K) (C:=B.kls i) hx hd ne;have hx':(upd H dx (.own x)) x=none:=by rw[ad (Ne.symm ne)];exact hx
 have rm2:RelM X.K (put M x (.ins i (B.kls i) [] [])) (upd (upd H dx (.own x)) x (.ins (B.kls i) dx [])):=(rm.grow hd).lay hx' ⟨dx,[],ae,rfl,rfl⟩;refine⟨.ref x::xs,_,_,_,.cons rfl (dl.mono t),rm2,q x (rm.fresh hx),λv H' d M' dv rm' t' ⟨e,q'⟩=>?_,λj M' H' t' rm' q' dy xd _=>lk j (del M' x) H' (t.trans t') (rm'.sub λb o z=>(iy z).2) q' dy xd⟩
 subst e;exact⟨dv,M',rm',t.trans t',q'⟩
theorem me(back:Back X.K H Q Q2)
  (h:EP X pins σ (λv H2=>∃x,v=.ref x/\∃M2,RelM X.K M2 H2/\TM X.K H H2/\if fz=true then bu Q (.ref x) M2 else Q (.ref x) M2) u s'):EP X pins σ Q2 u s':=by
 obtain⟨v,H2,I2,r,x,rfl,M2,rm2,t2,q⟩:=h;cases fz with
 |true=>
  obtain⟨H3,M3,d,I3,t3,rm3,dv,q3⟩:=ly I2 rm2 gd (show bu Q (.ref x) M2 from q);exact⟨.ref x,H3,I3,r,back _ _ _ _ dv rm3 (t2.trans t3) q3⟩
 |false=>exact⟨.ref x,H2,I2,r,back _ _ _ _ gd rm2 t2 q⟩
theorem yB{i f:Nat}{fz:Bool}{x:Str}(hg:Gl X x)(hm:X.mg x=some (.ref (B.kls i)))(hdb:(x == ("__debug__" : Str))=false)(mk:Mk X.K (B.kls i) (fad f))(hf:rM X cls k (fad f) (cl3 f))(hr:Room (k+1) X.A)(hx:aS (CX1 X.prog X.w) X E2)
  (ha:PA X (e::es) (ez X.K cls E2 tr)) (he:starEach (e::es) X.env=(false,eval e X.env)::starEach es X.env) (hpl:(backTo pos (starEach es X.env)).any (·.1)=false) :
  PE X (.Call (.Name x p) (e::es) [] pos) (low X.K cls E2 λσ M Q E=>tr σ M (λxs M1=>∀p,M1 p=none->cl3 f (.ref p::xs) (put M1 p (.ins i (B.kls i) [] [])) (λv M2=>v=.non/\if fz=true then bu Q (.ref p) M2 else Q (.ref p) M2) (λi M'=>E i (del M' p))) E):=by
 refine λpins s σ H Q2 I hl_=>ex9 hl_ λσ3 M Q E3 rm ds lk h back=>?_
 obtain⟨fd,ps,sp,kp,bd,F⟩:=hf;refine wpAny_Call_Name_kw (bV I hg hm ?_ hdb);refine PySem.W.callWith_K (h₀:=X.base) I.ok.mod.kin mk.kp (thn (ha pos pins s σ H (λvs H1=>TM X.K H H1/\∃xs M1,DenL X.K H1 xs vs/\RelM X.K M1 H1/\∀p,M1 p=none->cl3 f (.ref p::xs) (put M1 p (.ins i (B.kls i) [] [])) (λv M2=>v=.non/\if fz=true then bu Q (.ref p) M2 else Q (.ref p) M2) (λi M'=>E3 i (del M' p))) I
  (eX rm ds lk h λvs H1 xs M1 dl rm1 t1 q1=>⟨t1,xs,M1,dl,rm1,q1⟩)) λus s1 ⟨vs,H1,I1,r,t1,xs,M1,dl,rm1,q1⟩=>⟨I1.kIn,?_⟩) he hpl
 refine thn (kQ (Q:=λv H2=>∃x,v=.ref x/\∃M2,RelM X.K M2 H2/\TM X.K H1 H2/\if fz=true then bu Q (.ref x) M2 else Q (.ref x) M2) mk F hr bd hx I1 r λx dx n1 n2 n3=>?_) λu s2 q2=>me (fz:=fz) (back.mono t1) q2
 obtain⟨a1,a2,a3,a4,b1,b2,b3,b4,b5⟩:=p9 (fz:=fz) (i:=i) (t3:=cl3 f) (Q2:=Q2) dl rm1 (lk.mono t1) q1 x dx n1 n2 n3;exact⟨a1,a2,a3,a4,b1,b2,b3,λv H' d M' dv rm' t' q'=>by
  obtain⟨e,w⟩:=b4 v H' d M' dv rm' t' q';exact⟨e,x,rfl,w⟩,b5⟩
theorem we{i f:Nat}{fz:Bool}{x:Str}(hg:Gl X x)(hm:X.mg x=some (.ref (B.kls i)))(hdb:(x == ("__debug__" : Str))=false)(mk:Mk X.K (B.kls i) (fad f))(hf:rM X cls k (fad f) (cl3 f))(hr:Room (k+1) X.A)(hx:aS (CX1 X.prog X.w) X E2) :
  PE X (.Call (.Name x p) [] [] pos) (low X.K cls E2 λσ M Q E=>∀p,M p=none->cl3 f [.ref p] (put M p (.ins i (B.kls i) [] [])) (λv M2=>v=.non/\if fz=true then bu Q (.ref p) M2 else Q (.ref p) M2) (λi M'=>E i (del M' p))):=by
 refine λpins s σ H Q2 I hl_=>ex9 hl_ λσ3 M Q E3 rm ds lk h back=>?_
 obtain⟨fd,ps,sp,kp,bd,F⟩:=hf;refine wpAny_Call_Name_kw (bV I hg hm ?_ hdb);refine PySem.W.callWith_K0 I.kIn mk.kp ?_;refine thn (kQ (us:=[]) (vs:=[]) (Q:=λv H2=>∃x,v=.ref x/\∃M2,RelM X.K M2 H2/\TM X.K H H2/\if fz=true then bu Q (.ref x) M2 else Q (.ref x) M2) mk F hr bd hx I .nil λx dx n1 n2 n3=>?_) λu s2 q2=>me (fz:=fz) back q2
 obtain⟨a1,a2,a3,a4,b1,b2,b3,b4,b5⟩:=p9 (fz:=fz) (i:=i) (t3:=cl3 f) (xs:=[]) (vs:=[]) (Q2:=Q2) .nil rm lk h x dx n1 n2 n3;exact⟨a1,a2,a3,a4,b1,b2,b3,λv H' d M' dv rm' t' q'=>by
  obtain⟨e,w⟩:=b4 v H' d M' dv rm' t' q';exact⟨e,x,rfl,w⟩,b5⟩
theorem At(hk:∀i,i < B.nk->KOk X.K B fad i)(ho:PE X o (low X.K cls E2 to))(hv:PE X value (low X.K cls E2 tv))(hs:swapsWith value (some (.Attribute o (fnm f) pos')) pos.line X.env=pure false) :
  PS X (.Assign [.Attribute o (fnm f) pos'] value pos) (bO X.K cls E2 λD E σ M=>tv σ M (λy M1=>to σ M1 (λx M2=>match x with
  |.ref a=>match M2 a with
   |some (.ins i C ns ds)=>(C=B.kls i/\i < B.nk/\B.fok i f=true/\ns.length < 1000)/\D.nx σ (put M2 a (.ins i C (cO f ns) (cS f y ns ds)))
   |_=>False
  |_=>False) (E σ)) (E σ)):=
 (z7 ho hv hs).imp λD2 σ H hl_=>ex9 hl_ λσ3 M D3 E3 rm ds lk h er=>aV rm ds (lk.at ds) h λv H1 y M1 dy rm1 t1 q1=>aV rm1 (ds.mono t1) ((lk.at ds).mono t1) q1 λw H2 x M2 dx rm2 t2 q2=>by
  split at q2
  ·rename_i a;split at q2
   ·rename_i i C ns es q;obtain⟨dx',vs,e,hl,dl⟩:=rm2 a _ q;obtain⟨⟨rfl,hi,hf,hz⟩,q2⟩:=q2;obtain⟨ws,h1,h2,h3⟩:=nz (f:=f) (u:=v) dl hl (dy.mono t2);refine⟨a,_,dx',_,dx,e,(hk i hi).cl,(hk i hi).na f hf,?_,?_⟩
    ·rw[List.length_zip,List.length_map,hl,Nat.min_self,<-hl];exact hz
    ·have tw:TM X.K H2 (upd H2 a (.ins (B.kls i) dx' (da (fnm f) v ((ns.map fnm).zip vs)))):=.put e (λ_ z=>by cases z) λ_ _ z=>by cases z
     refine er.nx _ _ σ3 _ (rm2.write (u:=.ins i (B.kls i) (cO f ns) (cS f y ns es)) e (λ_ z=>by cases z) (λ_ _ z=>by cases z) ⟨dx',ws,by rw[ae,h1],h2,h3.mono tw⟩) (((ds.mono t1).mono t2).mono tw) ((t1.trans t2).trans tw) q2
   ·exact q2.elim
  ·exact q2.elim
theorem Cy(hg:Gl X x)(hm:X.mg x=some u)(r:RelV v u)(hdb:(x == ("__debug__" : Str))=false)(hd:∀H,Den X.K H d v):PE X (.Name x pos) (low X.K cls E2 λ_ M Q _=>Q d M):=kH (lL hg hm r hdb) hd
end
end L2
namespace L2
open PySem PySem.Spec PyProof.Rows
noncomputable def VS(X:Cx)(r:D->Option Int->Option Int->MH->VK3->Prop):Prop:=
 ∀(pins:List (Addr×Obj)) (s:Shared)(σ:St)(H:Hp)(x:D)(v:V)(v2 vl vu:Value)(lo hi:Option Int)(sl:Addr)(M:MH)(Q:VK3)(Q2:VK),Inv X pins σ H s->RelV v v2->Den X.K H x v->RelM X.K M H->s.heap.IsSliceOf sl vl vu .none->IsPart vl lo->IsPart vu hi->r x lo hi M Q->Back X.K H Q Q2->
  ∃T id,typeLookup (.type T) "__getitem__"=pure (some (.builtin id))/\s.TypeIs v2 T/\wpAny (model X.prog X.w) X.A (getItem v2 (.ref sl)) (EP X pins σ Q2) X.xe s
section
variable {X:Cx}{lo:Option Expr}
theorem VS.op(h:VS X r):SlR X (λv lo hi H Q2=>∃x M Q,Den X.K H x v/\RelM X.K M H/\r x lo hi M Q/\Back X.K H Q Q2):=by
 intro pins s σ H v v2 vl vu lo hi sl Q2 I rv hs pl pu ⟨x,M,Q,dx,rm,q,back⟩;exact h pins s σ H x v v2 vl vu lo hi sl M Q Q2 I rv dx rm hs pl pu q back
theorem nN{K:PySem.W.Frag}{lo:Option Int}(dl:DenL K H ds vs):DenL K H (bC ds lo hi) (pi vs lo hi):=by
 unfold bC pi;rw[dl.length];exact (dl.drop _).take _
theorem CV(fz:Bool):VS X (lQ fz):=by
 intro pins s σ H x v v2 vl vu lo hi sl M Q Q2 I rv dx rm hs pl pu q back;unfold lQ at q;split at q
 ·rename_i ds;obtain⟨p,vs,rfl,sq,dl⟩:=dx;obtain⟨hw,q⟩:=q;refine zY pins s σ H _ v2 vl vu lo hi sl Q2 I rv hs pl pu ⟨p,vs,rfl,sq,λz=>?_,λp' hp=>?_⟩
  ·unfold whole at hw;rw[dl.length,z.1,z.2]at hw;simp at hw
  ·exact back _ _ (.tup (bC ds lo hi)) _ ⟨p',_,rfl,.of ae,(nN dl).mono (.new hp)⟩ (rm.grow hp) (.new hp) q
 ·rename_i z;cases (show v=.str z from dx);obtain⟨t,rfl⟩:=rv;obtain⟨hz,q⟩:=q;have fin:∀t' k,0 < k->EP X pins σ Q2 (.str (Txt.slice z lo hi) t') {s with toks:=k}:=λt' k _=>⟨.str _,H,I.tok _,⟨_,rfl⟩,back _ _ _ _ eK rm (.refl _) q⟩
  refine⟨"str",_,PySem.F.slot_str_getitem.lookup,typeIs_str _ _ _,?_⟩;cases pl with
  |none=>
   cases pu with
   |none=>exact d8 I.tk <| wpAny_getItem_str_slice (l:=none) (u:=none) (st:=none) hs rfl (post_val_or_str ⟨Nat.le_trans (Txt.slice_le z _ _) hz,fin⟩)
   |int j u=>exact d8 I.tk <| wpAny_getItem_str_slice (l:=none) (u:=some (j,u)) (st:=none) hs rfl (post_val_or_str ⟨Nat.le_trans (Txt.slice_le z _ _) hz,fin⟩)
  |int i u'=>
   cases pu with
   |none=>exact d8 I.tk <| wpAny_getItem_str_slice (l:=some (i,u')) (u:=none) (st:=none) hs rfl (post_val_or_str ⟨Nat.le_trans (Txt.slice_le z _ _) hz,fin⟩)
   |int j u=>exact d8 I.tk <| wpAny_getItem_str_slice (l:=some (i,u')) (u:=some (j,u)) (st:=none) hs rfl (post_val_or_str ⟨Nat.le_trans (Txt.slice_le z _ _) hz,fin⟩)
 ·split at q
  ·rename_i ds e;obtain⟨p,vs,rfl,hq,dl⟩:=aF rm e dx;cases rv;obtain⟨its,r,ht,hz⟩:=I.list hq.sq;have hlen:=r.length;refine⟨"list",_,slot_list_getitem.lookup,ht.isList.typeIs,?_⟩;refine wpAny_getItem_list_slice ht.isList hs pl pu .none (by simp) ?_ (by rw[List.size_toArray]<;>omega)
   rw[jN,<-hlen];have I2:=I.laid (t':=s.toks) (o:=.lst (pi vs lo hi)) (h':=s.heap.push {cls:=.type "list",data:=.seq ((its.drop (HT.sIx vs.length 0 lo)).take (HT.sIx vs.length vs.length hi - HT.sIx vs.length 0 lo)).toArray 0}) (λb ob q=>Heap.get?_push_of_some _ q) (Nat.le_refl _)
    ⟨Nat.le_trans (hG vs lo hi) hz,_,0,(r.drop (HT.sIx vs.length 0 lo)).take (HT.sIx vs.length vs.length hi - HT.sIx vs.length 0 lo),Heap.get?_push_size _ rfl⟩
   exact bt I2 (I.hok.fresh (Nat.le_refl _)) (nN dl) rm (.refl _) q back
  ·exact q.elim
theorem FI(ha:PE X a (low X.K cls E2 ta))(hl:PO X lo (qA X.K cls E2 tl))(hh:PO X hi (qA X.K cls E2 th)) :
  PE X (.Subscript a (.Slice lo hi none p2) pos) (low X.K cls E2 λσ M Q E=>ta σ M (λx M1=>tl σ M1 (λl M2=>th σ M2 (λh M3=>lQ fz x l h M3 Q) E) E) E):=
 (tL (CV fz).op ha hl hh).imp λσ H Q2 hl_=>ex9 hl_ λσ3 M Q E3 rm ds lk h back=>aV rm ds lk h λv H1 x M1 dx rm1 t1 q1=>wU rm1 (ds.mono t1) (lk.mono t1) q1 λl H2 M2 rm2 t2 q2=>wU rm2 ((ds.mono t1).mono t2) ((lk.mono t1).mono t2) q2 λh H3 M3 rm3 t3 q3=>
  ⟨x,M3,Q,(dx.mono t2).mono t3,rm3,q3,back.mono ((t1.trans t2).trans t3)⟩
theorem qa{K:PySem.W.Frag}(dl:DenL K H ds vs):∀n:Nat,DenL K H (List.replicate n ds).flatten (List.replicate n vs).flatten
 |0=>rfl
 |n+1=>by
  rw[List.replicate_succ,List.replicate_succ,List.flatten_cons,List.flatten_cons];exact dl.append (qa dl n)
theorem xP(fz:Bool):VO X (binaryOp .Mult) (i9 fz):=by
 intro pins s σ H x y v u v2 u2 M Q Q2 I rv ru dx dy rm q back;unfold i9 at q;split at q
 ·rename_i ds k e;obtain⟨⟨h1,h2,hz⟩,q⟩:=q;obtain⟨p,vs,rfl,hq,dl⟩:=aF rm e dx;cases (show u=.int k from dy);obtain⟨t,rfl⟩:=ru;cases rv;obtain⟨z,its,n,r,hl,e⟩:=I.rdL hq;have hlen:its.toArray.size * k.toNat<=sizeLine:=by rw[List.size_toArray,<-hl,<-dl.length];exact hz
  have hcap:¬ its.toArray.size * k.toNat > (2 ^ 63 - 1) / 8:=by
   have:(sizeLine:Nat)<=(2 ^ 63 - 1) / 8:=by decide
   omega
  have hfit:¬ (!Builtin.List.listFitsIndex k)=true:=by
   rw[fitsIndex_both h1 h2];exact Bool.false_ne_true
  have hlong:¬ Builtin.List.listTooLong (its.toArray.size * k.toNat)=true:=by
   rw[nH hlen];exact Bool.false_ne_true
  have hnew:List.foldl (λx1 x2=>x1++x2) #[] (List.replicate (if its.toArray.isEmpty=true then 0 else k.toNat) its.toArray)=(List.replicate k.toNat its).flatten.toArray:=by
   have f0:∀m:Nat,List.foldl (λx1 x2=>x1++x2) #[] (List.replicate m its.toArray)=(List.replicate m its).flatten.toArray:=λm=>by
    have:=kf its m [];rw[List.nil_append]at this;exact this
   rw[f0];cases its with
   |nil=>simp
   |cons a r'=>rw[if_neg (by simp)]
  refine wpAny_binaryOp_repeat_ref (T:="list") (U:="int") (by decide) ⟨_,e,rfl⟩ (λs'=>typeIs_int s' k t) noFill_list_mul PySem.F.fills_int_mul PySem.F.slot_int_rmul repeat_list PySem.F.slot_int_index.lookup
   (call_meets PySem.F.slot_int_rmul (typeIs_int s k t) PySem.F.entry_int_rmul (PySem.F.args_int_rmul_2 _ _) (int___rmul___int_list k t p its.toArray n)
    ⟨e,rfl,⟨_,e,rfl⟩,call_meets PySem.F.slot_list_mul ⟨_,e,rfl⟩ PySem.F.entry_list_mul (PySem.F.args_list_mul_2 _ _) (AutoListH.list___mul___list_int_3 p its.toArray n k t hfit hcap hlong) ⟨e,?_⟩⟩)
  rw[hnew];exact bt (I.lnew (t':=s.toks) (r.rep k.toNat) (by rw[vc,Nat.mul_comm,<-dl.length];exact hz)) I.fresh (qa dl _) rm (.refl _) q back
 ·exact q.elim
theorem Cg(ha:PE X a (low X.K cls E2 ta))(hb:PE X b (low X.K cls E2 tb)) :
  PE X (.BinOp a .Mult b pos) (low X.K cls E2 λσ M Q E=>ta σ M (λx M1=>tb σ M1 (λy M2=>i9 fz x y M2 Q) E) E):=Ac (xP fz) ha hb
theorem kj{K:PySem.W.Frag}:∀{ds:List D}{bs:List Bool}{vs:List V}{us:List Value},eo ds=some bs->DenL K H ds vs->Vals vs us->LSm.BoolsAre us bs
 |[],bs,vs,us,e,dl,r=>by
  cases (show vs=[] from dl);cases r;cases (show some []=some bs from e);exact .nil
 |d::ds,bs,_,us,e,dl,r=>by
  obtain⟨v,vs,rfl,dv,dl⟩:=dl;cases r with
  |cons ru rt=>
   cases d with
   |bl b=>
    simp only[eo]at e;split at e
    ·rename_i ns q;cases e;cases (show v=.bl b from dv);cases ru;exact .cons b (kj q dl rt)
    ·cases e
   |_=>cases e
theorem wH(al:Bool)(hc:X.calm=true):VC X (.builtin (if al=true then "all" else "any")) (rBi (if al=true then .all else .any)):=by
 intro pins s σ H xs vs us M Q Q2 I r dl rm q back;have hh:X.A.handled=none:=I.ok.hd hc;have key:∃x ds bs,xs=[x]/\ag M x=some ds/\eo ds=some bs/\Q (.bl (if al=true then bs.all id else bs.any id)) M:=by
  cases al with
  |true=>
   simp only[if_true,rBi]at q;split at q
   ·split at q
    ·split at q
     ·exact⟨_,_,_,rfl,by assumption,by assumption,q⟩
     ·exact q.elim
    ·exact q.elim
   ·exact q.elim
  |false=>
   simp only[Bool.false_eq_true,if_false,rBi]at q;split at q
   ·split at q
    ·split at q
     ·exact⟨_,_,_,rfl,by assumption,by assumption,q⟩
     ·exact q.elim
    ·exact q.elim
   ·exact q.elim
 obtain⟨x,ds,bs,rfl,e1,e2,q⟩:=key;obtain⟨v,rfl,dv⟩:=c3 dl;obtain⟨u,rfl,ru⟩:=eg r;obtain⟨p,ws,rfl,hq,dl2⟩:=aF rm e1 dv;cases ru;obtain⟨its,r2,pl',hz⟩:=I.list hq.sq;have hb:=kj e2 dl2 r2;have hl:=pl'.isList;have hlt:p < s.heap.objs.size:=by obtain⟨_,e,_⟩:=hl;exact Heap.lt_size e
 have fin:∀h' tk,(∀b o,s.heap.get? b=some o->h'.get? b=some o)->0 < tk->EP X pins σ Q2 (.bool (if al=true then bs.all id else bs.any id)) {s with heap:=h',toks:=tk}:=λh' tk hk _=>
  ⟨.bl _,H,I.kept (t':=tk) hk,rfl,back _ _ _ _ aW rm (.refl _) q⟩
 cases al with
 |true=>
  refine d8 I.tk <| call_all_walk (wpAny_pyIter_list hl ?_)
  refine⟨s.heap.objs.size,[s.heap.objs.size,p],[s.heap.objs.size],its.toArray.size,_,_,λi=>(bs[i]?).getD true,rfl,Walks.list (A:=X.A.in1) hh _ p (Nat.ne_of_lt hlt) its.toArray,
   ⟨⟨_,Heap.get?_push_size _ rfl,rfl,rfl⟩,hl.push _⟩,λi v s' Q' E' hP hQ=>?_,λh' tk hk=>?_⟩
  ·obtain⟨b,e,rfl⟩:=hb.get i v (by simpa using hP)
   simp only[e,Option.getD_some]at hQ;exact wpAny_truthy_bool hQ
  ·have e:((List.range its.toArray.size).all λi=>(bs[i]?).getD true)=bs.all id:=by
    rw[List.size_toArray,hb.length];exact LSm.range_all bs
   rw[e];exact fin h' tk (LSm.kept_iter hk)
 |false=>
  refine d8 I.tk <| call_any_walk (wpAny_pyIter_list hl ?_)
  refine⟨s.heap.objs.size,[s.heap.objs.size,p],[s.heap.objs.size],its.toArray.size,_,_,λi=>(bs[i]?).getD false,rfl,Walks.list (A:=X.A.in1) hh _ p (Nat.ne_of_lt hlt) its.toArray,
   ⟨⟨_,Heap.get?_push_size _ rfl,rfl,rfl⟩,hl.push _⟩,λi v s' Q' E' hP hQ=>?_,λh' tk hk=>?_⟩
  ·obtain⟨b,e,rfl⟩:=hb.get i v (by simpa using hP)
   simp only[e,Option.getD_some]at hQ;exact wpAny_truthy_bool hQ
  ·have e:((List.range its.toArray.size).any λi=>(bs[i]?).getD false)=bs.any id:=by
    rw[List.size_toArray,hb.length];exact LSm.range_any bs
   rw[e];exact fin h' tk (LSm.kept_iter hk)
end
end L2
namespace L2
open PySem PySem.Spec PyProof.Rows
noncomputable def TyV(X:Cx)(T:String)(x:V)(H:Hp):Prop:=∀(pins:List (Addr×Obj)) (σ:St)(s:Shared)(v:Value),Inv X pins σ H s->RelV x v->s.TypeIs v T/\∀a,v=.ref a->∃ob,s.heap.get? a=some ob/\ob.dict=none
section
variable {X:Cx}{o:Expr}{apos cpos pos:Pos}{id:String}
theorem xu(pa:PlainAttrs T)(slot:Slot T name id)(hty:typeOf (.builtin id)=pure (.type "method_descriptor"))(hm:MtR X id r)(ho:PE X o t2)(ha:PA X (e::es) ta)
  (hbase:attributeBase o name X.env (eval o X.env)=eval o X.env)
  (hfew:((backTo cpos (starEach (e::es) X.env)).all (λx=>!x.1)&&(backToKw cpos (keywordEach [] X.env)).all (λx=>x.1.isSome)
   &&decide ((e::es).length+([]:List Keyword).length+(if ([]:List Keyword).isEmpty then 0 else 1) < 30))=true)
  (hline:(apos.endLine == cpos.line)=true) (hs:starEach (e::es) X.env=(false,eval e X.env)::starEach es X.env) (hplain:(backTo cpos (starEach es X.env)).any (·.1)=false) :
  PE X (.Call (.Attribute o name apos) (e::es) [] cpos) (λσ H Q=>t2 σ H λx H1=>TyV X T x H1/\ta σ H1 λxs H2=>r x xs H2 Q):=by
 intro pins s σ H Q I h;refine wpAny_Call_method_late hbase hfew hline rfl (thn (ho pins s σ H _ I h) λv s1 ⟨x,H1,I1,r1,ty,q1⟩=>?_)
 obtain⟨h1,h2⟩:=ty pins σ s1 v I1 r1;refine⟨T,id,pa,slot,hty,h1,h2,?_⟩;have hA:=ha cpos pins s1 σ H1 _ I1 q1;rw[hs]at hA ⊢;refine Calls.callWith_builtin (by show (false||(backTo cpos (starEach es X.env)).any (·.1))=false;rw[hplain]<;>rfl) (Calls.evalArgs_plain ?_)
 exact thn hA λus s2 ⟨vs,H2,I2,r2,q2⟩=>hm pins s2 σ H2 x vs v us Q I2 r1 r2 q2
theorem uN(pa:PlainAttrs T)(slot:Slot T name id)(hty:typeOf (.builtin id)=pure (.type "method_descriptor"))(hm:MtR X id r)(ho:PE X o t2)
  (hbase:attributeBase o name X.env (eval o X.env)=eval o X.env) (hline:(apos.endLine == cpos.line)=true):PE X (.Call (.Attribute o name apos) [] [] cpos) (λσ H Q=>t2 σ H λx H1=>TyV X T x H1/\r x [] H1 Q):=by
 intro pins s σ H Q I h;refine wpAny_Call_method0_late hbase hline (thn (ho pins s σ H _ I h) λv s1 ⟨x,H1,I1,r1,ty,q1⟩=>?_)
 obtain⟨h1,h2⟩:=ty pins σ s1 v I1 r1;exact⟨T,id,pa,slot,hty,h1,h2,Calls.callWith_builtin rfl (PySem.evalArgs_none (hm pins s1 σ H1 x [] v [] Q I1 r1 .nil q1))⟩
noncomputable def VM(X:Cx)(id:String)(r:D->List D->MH->VK3->Prop):Prop:=
 ∀(pins:List (Addr×Obj)) (s:Shared)(σ:St)(H:Hp)(x:D)(xs:List D)(v:V)(vs:List V)(v2:Value)(us:List Value)(M:MH)(Q:VK3)(Q2:VK),Inv X pins σ H s->RelV v v2->Vals vs us->Den X.K H x v->DenL X.K H xs vs->RelM X.K M H->r x xs M Q->Back X.K H Q Q2->
  wpAny (model X.prog X.w) X.A (call (.builtin id) (v2::us)) (EP X pins σ Q2) X.xe s
theorem VM.op(h:VM X id r):MtR X id (λv vs H Q2=>∃x xs M Q,Den X.K H x v/\DenL X.K H xs vs/\RelM X.K M H/\r x xs M Q/\Back X.K H Q Q2):=by
 intro pins s σ H v vs v2 us Q2 I rv rs ⟨x,xs,M,Q,dx,dl,rm,q,back⟩;exact h pins s σ H x xs v vs v2 us M Q Q2 I rv rs dx dl rm q back
noncomputable def TyD(X:Cx)(T:String)(tb:D->MH->Bool):Prop:=∀(x:D)(v:V)(M:MH)(H:Hp),Den X.K H x v->RelM X.K M H->tb x M=true->TyV X T v H
theorem oU(pa:PlainAttrs T)(slot:Slot T name id)(hty:typeOf (.builtin id)=pure (.type "method_descriptor"))(hm:VM X id r)(ht:TyD X T tb)(ho:PE X o (low X.K cls E2 to))(ha:PA X (e::es) (ez X.K cls E2 tr))
  (hbase:attributeBase o name X.env (eval o X.env)=eval o X.env) (hn:(e::es).length < 30)
  (hline:(apos.endLine == cpos.line)=true) (hs:starEach (e::es) X.env=(false,eval e X.env)::starEach es X.env) (hplain:(backTo cpos (starEach es X.env)).any (·.1)=false) :
  PE X (.Call (.Attribute o name apos) (e::es) [] cpos) (low X.K cls E2 λσ M Q E=>to σ M (λx M1=>tb x M1=true/\tr σ M1 (λxs M2=>r x xs M2 Q) E) E):=by
 have hst:(backTo cpos (starEach (e::es) X.env)).any (·.1)=false:=by
  rw[hs];show ((false,_)::backTo cpos (starEach es X.env)).any (·.1)=false;rw[List.any_cons,hplain];rfl
 refine (xu pa slot hty hm.op ho ha hbase (lR hst hn) hline hs hplain).imp λσ H Q2 hl_=>ex9 hl_ λσ3 M Q E3 rm ds lk h back=>aV rm ds lk h λv H1 x M1 dx rm1 t1 q1=>?_
 exact⟨ht x v M1 H1 dx rm1 q1.1,eX rm1 (ds.mono t1) (lk.mono t1) q1.2 λvs H2 xs M2 dl rm2 t2 q2=>⟨x,xs,M2,Q,dx.mono t2,dl,rm2,q2,back.mono (t1.trans t2)⟩⟩
theorem i8(pa:PlainAttrs T)(slot:Slot T name id)(hty:typeOf (.builtin id)=pure (.type "method_descriptor"))(hm:VM X id r)(ht:TyD X T tb)(ho:PE X o (low X.K cls E2 to))
  (hbase:attributeBase o name X.env (eval o X.env)=eval o X.env) (hline:(apos.endLine == cpos.line)=true) :
  PE X (.Call (.Attribute o name apos) [] [] cpos) (low X.K cls E2 λσ M Q E=>to σ M (λx M1=>tb x M1=true/\r x [] M1 Q) E):=
 (uN pa slot hty hm.op ho hbase hline).imp λσ H Q2 hl_=>ex9 hl_ λσ3 M Q E3 rm ds lk h back=>aV rm ds lk h λv H1 x M1 dx rm1 t1 q1=>⟨ht x v M1 H1 dx rm1 q1.1,x,[],M1,Q,dx,.nil,rm1,q1.2,back.mono t1⟩
theorem lU(hb:∀x M,tb x M=true->(ag M x).isSome=true):TyD X "list" tb:=λx v M H dx rm h pins σ s v2 I rv=>by
 obtain⟨ds,e⟩:=Option.isSome_iff_exists.mp (hb x M h);obtain⟨p,vs,rfl,hq,dl⟩:=aF rm e dx;cases rv;obtain⟨its,_,pl,_⟩:=I.list hq.sq;refine⟨pl.isList.typeIs,λa e=>?_⟩
 cases e;obtain⟨o,n,e,c,hd,_⟩:=pl;exact⟨o,e,hd⟩
theorem pO:∀{ds:List D}{k j:Nat},lW y ds k=some j->k<=j/\(∃d,ds[j - k]?=some d/\eqD d y=true)/\∀m d,m < j - k->ds[m]?=some d->eqD d y=false
 |[],_,_,e=>by cases e
 |d::r,k,j,e=>by
  simp only[lW]at e;by_cases h:eqD d y=true
  ·rw[if_pos h]at e;cases e;exact⟨Nat.le_refl _,⟨d,by simp,h⟩,λm d' hm _=>absurd hm (by omega)⟩
  ·rw[if_neg h]at e;obtain⟨h1,⟨d1,h2,h3⟩,h4⟩:=pO e;refine⟨by omega,⟨d1,?_,h3⟩,λm d' hm he=>?_⟩
   ·have:j - k=(j - (k+1))+1:=by omega
    rw[this,List.getElem?_cons_succ];exact h2
   ·cases m with
    |zero=>simp at he;subst he;simpa using h
    |succ m=>exact h4 m d' (by omega) (by simpa using he)
theorem nh(hu:X.A.units+64 < cLine):VM X "list.index" (rBm .index):=by
 intro pins s σ H x xs v vs v2 us M Q Q2 I rv rs dx dl rm q back;simp only[rBm]at q;split at q
 ·rename_i ds y e;obtain⟨⟨p1,p2⟩,q⟩:=q;split at q
  ·rename_i j ej;obtain⟨_,⟨d1,h2,h3⟩,h4⟩:=pO ej;obtain⟨p,ws,rfl,hq,dl2⟩:=aF rm e dx;cases rv;obtain⟨yv,rfl,dy⟩:=c3 dl;obtain⟨u,rfl,ru⟩:=rs.one;obtain⟨z,its,n,r2,hl2,ho⟩:=I.rdL hq;obtain⟨H',I',t',d2⟩:=mF I rm dy p1;have dl':=dl2.mono t';have pd:=gH dl' r2
   classical
   let f:Value->Bool:=λw=>if h:∃d∈ds,∃v,Den X.K H' d v/\RelV v w then eqD h.choose (res M y) else false
   have hf:∀d w,d∈ds->(∃v,Den X.K H' d v/\RelV v w)->f w=eqD d (res M y):=λd w hd ⟨v',dv,rw'⟩=>by
    have h:∃d∈ds,∃v,Den X.K H' d v/\RelV v w:=⟨d,hd,v',dv,rw'⟩;obtain⟨hm,v'',dv2,rw2⟩:=h.choose_spec;have:v''=v':=rw2.inj rw';subst this;have e1:h.choose=d:=lM I' rfl 8 (List.all_eq_true.mp p2 _ hm) (List.all_eq_true.mp p2 _ hd) dv2 dv;show (if h:∃d∈ds,∃v,Den X.K H' d v/\RelV v w then eqD h.choose (res M y) else false)=_
    rw[dif_pos h,e1]
   have hat:∀(m:Nat)(hm:m < its.toArray.size),∃d,ds[m]?=some d/\f its.toArray[m]=eqD d (res M y):=λm hm=>by
    have hm':m < ds.length:=by rw[dl2.length,hl2];simpa using hm
    refine⟨ds[m],by simp[hm'],?_⟩
    obtain⟨v',e1,e2⟩:=dl'.get (i:=m) (d:=ds[m]) (by simp[hm'])
    obtain⟨w',e3,e4⟩:=r2.get e1;have:its.toArray[m]=w':=by
     have hm2:m < its.length:=by simpa using hm
     have:its[m]?=some its[m]:=by simp[hm2]
     rw[this]at e3;simpa using e3
    rw[this];exact hf _ _ (List.getElem_mem hm') ⟨v',e2,e4⟩
   have hj:j < its.toArray.size:=by
    have h5:j < ds.length:=(List.getElem?_eq_some_iff.mp (by simpa using h2)).1
    rw[List.size_toArray,<-hl2,<-dl2.length];exact h5
   refine call_meets PySem.F.slot_list_index ⟨_,ho,rfl⟩ PySem.F.entry_list_index (PySem.F.args_list_index_2 _ _)
    (SeqAt.list_indexAt p its.toArray n none #[] u f j hj (by
     have:=sizeLine_eq;have hz2:its.length<=sizeLine:=by omega
     have:j < its.length:=by simpa using hj
     have h63:(sizeLine:Int) < 2 ^ 63 - 1:=by decide
     omega) ?_ ?_) ⟨ho,λw hw=>?_,?_⟩
   ·obtain⟨d,e1,e2⟩:=hat j hj;rw[e2];simp at h2;rw[e1]at h2;cases h2;exact h3
   ·intro m hm hlt;obtain⟨d,e1,e2⟩:=hat m hm;rw[e2];exact h4 m d (by simpa using hlt) e1
   ·obtain⟨d,hd,v',dv,rw'⟩:=Paired.mem_right pd w (by simpa using hw)
    rw[hf d w hd ⟨v',dv,rw'⟩];exact (zW I' rfl 8 (A:=X.A.in1) (List.all_eq_true.mp p2 _ hd) p1 dv d2 rw' ru (by show X.A.units+1+8 < cLine;omega)).2.2
   ·exact⟨.int j,H,I.tok _,⟨_,rfl⟩,back _ _ _ _ cG rm (.refl _) q⟩
  ·exact q.elim
 ·exact q.elim
theorem OptDen.getD{K:PySem.W.Frag}{o:Option D}{ov:Option V}(h:OptDen K H o ov)(dv:Den K H d v):Den K H (o.getD d) (ov.getD v):=by
 cases o with
 |none=>cases ov with
  |none=>exact dv
  |some _=>exact h.elim
 |some d'=>cases ov with
  |none=>exact h.elim
  |some v'=>exact h
theorem gF{K:PySem.W.Frag}(h:DenL K H (d::ds) vs):∃v ws,vs=v::ws/\Den K H d v/\DenL K H ds ws:=by
 obtain⟨v,r,e,dv,dl⟩:=h;exact⟨v,r,e,dv,dl⟩
theorem xx(hu:X.A.units+64 < cLine):za X (λo i v H R2=>∃x k y M R,Den X.K H x o/\Den X.K H k i/\Den X.K H y v/\RelM X.K M H/\dA x k y M R/\∀H' M',RelM X.K M' H'->TM X.K H H'->R M'->R2 H'):=by
 intro pins s σ H o i v ov iv u R2 I ro ri rv ⟨x,k,y,M,R,dx,dk,dy,rm,q,back⟩;unfold dA at q;split at q
 ·rename_i a;cases (show o=.ref a from dx);split at q
  ·rename_i ds n e;split at q
   ·rename_i j ej;cases (show i=.int n from dk);obtain⟨vs,e1,dl⟩:=rm a _ e;have tw:TM X.K H (upd H a (.lst (vs.set j v))):=.put e1 (λ_ z=>by cases z) λ_ _ z=>by cases z
    refine uC pins s σ H _ _ v ov iv u R2 I ro ri rv ⟨a,vs,n,j,rfl,rfl,e1,by rw[<-dl.length];exact ej,?_⟩
    exact back _ _ (rm.write (u:=.lst (ds.set j y)) e1 (λ_ z=>by cases z) (λ_ _ z=>by cases z) ⟨_,ae,(dl.set dy j).mono tw⟩) tw q
   ·exact q.elim
  ·rename_i ks ds e;split at q
   ·rename_i k' ek;cases ro;exact xA (by omega) I rm e (m8 ek dk) ri dy rv q.1 q.2 back
   ·exact q.elim
  ·rename_i ks ds e;split at q
   ·rename_i k' ek;cases ro;obtain⟨b,rfl,sq⟩:=mE ek dk;cases ri;exact zu (by omega) I rm e sq dy rv q.1 q.2 back
   ·exact q.elim
  ·exact q.elim
 ·exact q.elim
theorem vM(hu:X.A.units+64 < cLine)(ho:PE X o (low X.K cls E2 to))(hi:PE X ixe (low X.K cls E2 ti))(hv:PE X value (low X.K cls E2 tv))
  (ha:∀v,assign (.Subscript o ixe pos') X.env v=(do
   let ov<-holding [v] (eval o X.env)
   let iv<-holding [v,ov] (eval ixe X.env)
   standAt pos'
   holding [v,ov,iv] (setItem ov iv v)
   release [v,ov,iv] [])) (hs:swapsWithSole [.Subscript o ixe pos'] value pos.line X.env=pure false) (hw:swappedStores [.Subscript o ixe pos'] value X.env=pure none) (h1:(assignEach [.Subscript o ixe pos'] X.env).map (·.2)=[assign (.Subscript o ixe pos') X.env]) :
  PS X (.Assign [.Subscript o ixe pos'] value pos) (bO X.K cls E2 λD E σ M=>tv σ M (λy M1=>to σ M1 (λx M2=>ti σ M2 (λk M3=>dA x k y M3 λM4=>D.nx σ M4) (E σ)) (E σ)) (E σ)):=
 (uD hv (yp ho hi (xx hu) ha) hs hw h1).imp λD2 σ H hl_=>ex9 hl_ λσ3 M D3 E3 rm ds lk h er=>aV rm ds (lk.at ds) h λv H1 y M1 dy rm1 t1 q1=>
  aV rm1 (ds.mono t1) ((lk.at ds).mono t1) q1 λw H2 x M2 dx rm2 t2 q2=>aV rm2 ((ds.mono t1).mono t2) (((lk.at ds).mono t1).mono t2) q2 λz H3 k M3 dk rm3 t3 q3=>
   ⟨x,k,y,M3,_,dx.mono t3,dk,(dy.mono t2).mono t3,rm3,q3,λH' M' rm' t' q'=>er.nx _ _ σ3 M' rm' ((((ds.mono t1).mono t2).mono t3).mono t') (((t1.trans t2).trans t3).trans t') q'⟩
end
end L2
namespace L2
open PySem PySem.Spec PyProof.Rows PySem.W
section
variable {A:Around}{s:Shared} [DecidableEq κ] {knd:HeapKind prog w κ}{xs:List (κ×Addr×Value)}{p:Addr×Value}
end
section
variable {X:Cx}
end
end L2
namespace L2
open PySem PySem.Spec PyProof.Rows
section
variable {X:Cx}
theorem VM.of{id:String}{r3:D->List D->MH->VK3->Prop}{r:V->List V->Hp->VK->Prop}(h:MtM X id r)
  (hr:∀(H:Hp)(x:D)(xs:List D)(v:V)(vs:List V)(M:MH)(Q:VK3)(Q2:VK),Den X.K H x v->DenL X.K H xs vs->RelM X.K M H->r3 x xs M Q->Back X.K H Q Q2->r v vs H Q2):VM X id r3:=
 λpins s σ H x xs v vs v2 us M Q Q2 I rv rs dx dl rm q back=>h pins s σ H v vs v2 us Q2 I rv rs (hr H x xs v vs M Q Q2 dx dl rm q back)
theorem gh:TyD X "list" isLstM:=lU λx M h=>by
 unfold isLstM at h;split at h
 ·split at h
  ·rename_i e;simp[ag,e]
  ·cases h
 ·cases h
theorem DenL.app{K:PySem.W.Frag}:∀{ds es:List D}{vs ws:List V},DenL K H ds vs->DenL K H es ws->DenL K H (ds++es) (vs++ws)
 |[],es,vs,ws,h,g=>by cases (show vs=[] from h);exact g
 |d::ds,es,vs,ws,h,g=>by
  obtain⟨v,us,rfl,dv,dw⟩:=gF h;exact .cons dv (DenL.app dw g)
theorem DenL.rev{K:PySem.W.Frag}{H:Hp}:∀{ds:List D}{vs:List V},DenL K H ds vs->DenL K H ds.reverse vs.reverse
 |[],vs,h=>by cases (show vs=[] from h);exact .nil
 |d::ds,vs,h=>by
  obtain⟨v,us,rfl,dv,dw⟩:=gF h;rw[List.reverse_cons,List.reverse_cons];exact DenL.app (DenL.rev dw) (.one dv)
noncomputable def sU(xs:List V)(i:Int)(y:V):List V:=xs.take (eW xs.length i)++y::xs.drop (eW xs.length i)
noncomputable def rInsert:V->List V->Hp->VK->Prop:=λx vs H Q=>∃l xs i y,x=.ref l/\vs=[.int i,y]/\H l=some (.lst xs)/\xs.length < sizeLine/\-(2 ^ 62)<=i/\i < 2 ^ 62/\Q .non (upd H l (.lst (sU xs i y)))
theorem qM:MtM X "list.insert" rInsert:=by
 intro pins s σ H x vs v us Q I rx rv h;obtain⟨l,xs,i,y,rfl,rfl,hH,hz,hi1,hi2,q⟩:=h;cases rx;obtain⟨u,w,rfl,ru,rw'⟩:=rv.two;obtain⟨t,rfl⟩:=ru;obtain⟨z,its,n,r,hl,e⟩:=I.lstM hH;refine call_meets F.slot_list_insert ⟨_,e,rfl⟩ F.entry_list_insert (F.args_list_insert_3 _ _ _) (PySem.AutoSeq1.list_insert_list_int_val_1 l its.toArray n i t w (by
  unfold Builtin.List.listFitsIndex;simp;omega) (by rw[List.size_toArray];omega)) ⟨e,?_⟩
 refine⟨.non,_,I.lset (its':=its.take (eW its.length i)++w::its.drop (eW its.length i)) hH e ?_ ?_ ?_,rfl,q⟩
 ·simp[eW];exact List.take_of_length_le (by rw[List.length_drop];exact Nat.le_refl _)
 ·unfold sU;rw[hl];exact (r.take _).append (.cons rw' (r.drop _))
 ·unfold sU;simp[eW];omega
theorem vt{K:PySem.W.Frag}{H:Hp}{ds:List D}{vs:List V}{i:Int}{y:D}{v:V}(h:DenL K H ds vs)(d:Den K H y v):DenL K H (qX ds i y) (sU vs i v):=by
 unfold qX sU;rw[h.length];exact (h.take _).app (.cons d (h.drop _))
theorem pH{K:PySem.W.Frag}{H:Hp}{M:MH}{a:Addr}{ds es:List D}{vs:List V}(rm:RelM K M H)(e:H a=some (.lst vs))(ws:List V)(h:DenL K H es ws):RelM K (put M a (.lst es)) (upd H a (.lst ws))/\TM K H (upd H a (.lst ws)):=by
 have tw:TM K H (upd H a (.lst ws)):=.put e (λ_ z=>by cases z) λ_ _ z=>by cases z
 exact⟨rm.write (u:=.lst es) e (λ_ z=>by cases z) (λ_ _ z=>by cases z) ⟨_,ae,h.mono tw⟩,tw⟩
theorem j8:VM X "list.insert" (rBm .insert):=VM.of qM λH x xs v vs M Q Q2 dx dl rm q back=>by
 simp only[rBm]at q;split at q
 ·rename_i a i y;split at q
  ·rename_i ds e;obtain⟨ws,e1,dw⟩:=rm a _ e;cases (show v=.ref a from dx);obtain⟨iv,us,rfl,di,du⟩:=gF dl;obtain⟨yv,rfl,dy⟩:=c3 du;cases (show iv=.int i from di);obtain⟨r1,t1⟩:=pH (ds:=ds) rm e1 _ (vt (i:=i) dw dy);exact⟨a,ws,i,yv,rfl,rfl,e1,by rw[<-dw.length];exact q.1.1,q.1.2.1,q.1.2.2,back _ _ .non _ rfl r1 t1 q.2⟩
  ·exact q.elim
 ·exact q.elim
noncomputable def sQ:V->List V->Hp->VK->Prop:=λx vs H Q=>∃l b xs zs,x=.ref l/\vs=[.ref b]/\H l=some (.lst xs)/\RdL X.K H b zs/\xs.length+zs.length<=sizeLine/\Q .non (upd H l (.lst (xs++zs)))
theorem nY:MtM X "list.extend" (sQ (X:=X)):=by
 intro pins s σ H x vs v us Q I rx rv h;obtain⟨l,b,xs,zs,rfl,rfl,hH,hB,hz,q⟩:=h;cases rx;obtain⟨u,rfl,ru⟩:=rv.one;cases ru;obtain⟨z,its,n,r,hl,e⟩:=I.lstM hH;obtain⟨z2,its2,n2,r2,hl2,e2⟩:=I.rdL hB;have hsz:its.toArray.size+its2.toArray.size<=sizeLine:=by rw[List.size_toArray,List.size_toArray];omega
 have hlong:¬ (!its.toArray.isEmpty&&Builtin.List.listTooLong (its.toArray.size+its2.toArray.size))=true:=by
  rw[nH hsz,Bool.and_false];exact Bool.false_ne_true
 refine call_meets F.slot_list_extend ⟨_,e,rfl⟩ F.entry_list_extend (F.args_list_extend_2 _ _)
  (AutoSeq1.list_extend_list_list_0 l its.toArray n b its2.toArray n2 hlong (by rw[List.size_toArray];omega) (by omega)) ⟨e,e2,?_⟩
 refine⟨.non,_,I.lset (its':=its++its2) hH e (by simp) (r.append r2) ?_,rfl,q⟩
 rw[List.length_append];omega
theorem kn:VM X "list.extend" (rBm .extend):=VM.of nY λH x xs v vs M Q Q2 dx dl rm q back=>by
 simp only[rBm]at q;split at q
 ·rename_i a y;split at q
  ·rename_i ds es e e';obtain⟨ws,e1,dw⟩:=rm a _ e;cases (show v=.ref a from dx);obtain⟨yv,rfl,dy⟩:=c3 dl;obtain⟨p,us,rfl,hq,du⟩:=aF rm e' dy;obtain⟨r1,t1⟩:=pH (ds:=ds) rm e1 _ (dw.append du);exact⟨a,p,ws,us,rfl,rfl,e1,hq,by rw[<-dw.length,<-du.length];exact q.1,back _ _ .non _ rfl r1 t1 q.2⟩
  ·exact q.elim
 ·exact q.elim
theorem DenL.at{K:PySem.W.Frag}{H:Hp}{ds:List D}{vs:List V}{k:Nat}{d:D}(h:DenL K H ds vs)(e:ds[k]?=some d):∃v,vs[k]?=some v/\Den K H d v:=h.get e
end
end L2
namespace L2
open PySem PySem.Spec PyProof.Rows SeqAt PySem.MeetsSeq AutoSeq1
end L2
namespace L2
open PySem PySem.Spec PyProof.Rows PySem.W
section
variable {X:Cx}
end
end L2
namespace L2
open PySem PySem.Spec PyProof.Rows PySem.Calls PySem.NumText PySem.W.KIN
theorem lZ{s:Shared}(hn:s.heap.NoDigits)(h:Q 4300 s):wpAny M A Builtin.intMaxStrDigits Q E s:=by
 obtain⟨mc,hns,hnone⟩:=hn;unfold Builtin.intMaxStrDigits;refine wpAny_bind (wpAny_nsGet hns ?_);rw[hnone];exact wpAny_pure h
theorem uE{s:Shared}{text:List Nat}(hd:s.heap.NoDigits)
  (hs:¬ (text.takeWhile (· != 0)).length<=640) (hr:(int_private% "readNumeral") 4300 10 (text.takeWhile (· != 0))=(int_private% "Numeral.value") n)
  (ha:((text.takeWhile (· != 0)).length == text.length)=true) (h:Q (.int n s.toks) {s with toks:=s.toks+1}) :
  wpAny M A ((int_private% "intFromText") v text 10) Q E s:=by
 obtain⟨hp,g,d,tk,os⟩:=s
 repeat (any_goals (first
  |assumption
  |(with_reducible refine wpAny_ite_false (decide_eq_false hs) ?_)
  |(with_reducible refine wpAny_ite_true (decide_eq_true ha) ?_)
  |(refine lZ hd ?_)
  |wp_step))
 all_goals (try rw[hr])
 all_goals (try dsimp only)
 repeat (any_goals (first
  |assumption
  |(with_reducible refine wpAny_ite_true (decide_eq_true ha) ?_)
  |wp_step))
theorem oF{x:PySem.Str}(hl:x.length<=sizeLine)(hn:PySem.intText? x=some n):Meets (Builtin.«int.__new__» ⟨[.type "int",.str x u],[]⟩) (λA R s=>s.heap.NoDigits/\R (.ok (.ret (.int n s.toks))) {s with toks:=s.toks+1}):=by
 refine .of_wp λprog w A R s h=>?_
 obtain⟨hd,h⟩:=h;obtain⟨hp,g,d,tk,os⟩:=s;have f1:=F.conv_sub_int;have f2:=F.madeHere_int;have f3:=str_int;have f4:=str_idx;have f5:=str_trunc;have f6:typeOf (.str x u)=pure (.type "str"):=rfl;have hr:(int_private% "readNumeral") (numLimitOf x) 10 (numSeenOf x)=(int_private% "Numeral.value") n/\((numSeenOf x).length == (numTextOf x).length)=true:=by
  rcases readAny x hl with ⟨m,h1,h2,h3⟩|⟨h1,_⟩
  ·rw[hn]at h1;injection h1 with h1
   subst h1;exact⟨h3,h2⟩
  ·rw[hn]at h1;cases h1
 have hw:∀{A':Around}{E':Value->Shared->Prop}{Q':Value->Shared->Prop},Q' (.int n tk) ⟨hp,g,d,tk+1,os⟩->wpAny (model prog w) A' ((int_private% "intFromText") (.str x u) (numTextOf x) 10) Q' E' ⟨hp,g,d,tk,os⟩:=λh'=>by
  by_cases hs:(numSeenOf x).length<=640
  ·have e:numLimitOf x=0:=if_pos hs;rw[e]at hr;exact wp_text hs hr.1 hr.2 h'
  ·have e:numLimitOf x=4300:=if_neg hs;rw[e]at hr;exact uE hd hs hr.1 hr.2 h'
 have hk:=Hid.mk hr;clear hr hl hn
 repeat (any_goals (first
  |assumption
  |((with_reducible show wpAny _ _ ((int_private% "intFromText") _ _ _) _ _ _);refine hw ?_)
  |wp_step))
 all_goals first|exact⟨_,rfl,h⟩|skip
theorem nR{s:Shared}{x:PySem.Str}(hn:PySem.intText? x=some n)(hl:x.length<=sizeLine)(hd:s.heap.NoDigits)(h:Q (.int n s.toks) {s with toks:=s.toks+1}):wpAny (model prog w) A (call (.type "int") [.str x t]) Q E s:=
 call_int_1 (oF hl hn) ⟨hd,typeIs_int _ _ _,h⟩
end L2
namespace L2
open PySem PySem.Spec PyProof.Rows
noncomputable def rb(K:PySem.W.Frag):Prop:=PySem.W.nsIn K cStatics "sys.int_max_str_digits"=some none
theorem mq{X:Cx}{s:Shared}(hd:rb X.K)(I:Inv X pins σ H s):s.heap.NoDigits:=
 let ⟨mc,hn,_⟩:=I.nolimit
 ⟨mc,hn,PySem.W.ns_none_of I.kIn hn hd⟩
section
variable {X:Cx}
theorem gk:TyD X "str" (tyB .startswith):=λx v M H dx rm h pins σ s v2 I rv=>by
 simp only[tyB]at h;split at h
 ·rename_i z;cases (show v=.str z from dx);obtain⟨t,rfl⟩:=rv;exact⟨typeIs_str s z t,λ_ e=>nomatch e⟩
 ·cases h
theorem pI:TyD X "str" (tyB .split):=gk
theorem fk:VM X "str.startswith" (rBm .startswith):=by
 intro pins s σ H x xs v vs v2 us M Q Q2 I rv rs dx dl rm q back;simp only[rBm]at q;split at q
 ·rename_i z y;cases (show v=.str z from dx);obtain⟨yv,rfl,dy⟩:=c3 dl;cases (show yv=.str y from dy);obtain⟨u,rfl,t2,rfl⟩:=rs.one;obtain⟨t,rfl⟩:=rv;exact SC.startswith ⟨.bl _,H,I,rfl,back _ _ _ _ aW rm (.refl _) q⟩
 ·exact q.elim
theorem ku:∀(l:List (Str×Tok)),Vals ((l.map (·.1)).map V.str) (strValues l)
 |[]=>.nil
 |(x,t)::r=>.cons ⟨t,rfl⟩ (ku r)
theorem kC{K:PySem.W.Frag}:∀(l:List Str),DenL K H (l.map D.str) (l.map V.str)
 |[]=>rfl
 |x::r=>⟨.str x,r.map V.str,rfl,rfl,kC r⟩
theorem gz{fz:Bool}{s:Shared}{l:List (Str×Tok)}(I:Inv X pins σ H s)(hl:l.length<=sizeLine)(rm:RelM X.K M H)(back:Back X.K H Q Q2)(q:if fz=true then Q (.rol ((l.map (·.1)).map D.str)) M else ∀p,M p=none->Q (.ref p) (put M p (.lst ((l.map (·.1)).map D.str))))(ht:0 < k:=by first|exact Nat.succ_pos _|assumption|exact Inv.tk (by assumption)|exact Nat.lt_of_lt_of_le (Inv.tk (by assumption)) (Nat.le_add_right _ _)) :
  EP X pins σ Q2 (.ref s.heap.objs.size) {s with toks:=k,heap:=s.heap.push {cls:=.type "list",data:=.seq (strValues l).toArray}}:=by
 have hp:H s.heap.objs.size=none:=I.hok.fresh (Nat.le_refl _);have I1:=I.laid (a:=s.heap.objs.size) (o:=.lst ((l.map (·.1)).map V.str)) (t':=k) (λb o e1=>Heap.get?_push_of_some _ e1) (Nat.le_refl _) ⟨by simpa using hl,strValues l,0,ku l,Heap.get?_push_size _ rfl⟩
 exact bt (fz:=fz) I1 hp (kC _) rm (.refl _) ⟨by simpa using hl,q⟩ back
theorem tO(fz:Bool):VM X "str.split" (vI fz):=by
 intro pins s σ H x xs v vs v2 us M Q Q2 I rv rs dx dl rm q back;unfold vI at q;split at q
 ·rename_i z y;obtain⟨⟨q1,q2,q3⟩,q⟩:=q;cases (show v=.str z from dx);obtain⟨yv,rfl,dy⟩:=c3 dl;cases (show yv=.str y from dy);obtain⟨u,rfl,t2,rfl⟩:=rs.one;obtain⟨t,rfl⟩:=rv;have hy:(y.length == 0)=false:=by simpa using q1
  cases h1:(decide (z.length < y.length)||decide (Builtin.Str.strKind z < Builtin.Str.strKind y))
  ·cases hf:(Builtin.Str.occurrences z y 0 z.length (z.length+1)).isEmpty
   ·have e:Txt.split z y=Builtin.Str.partsBetween z (Builtin.Str.occurrences z y 0 z.length (z.length+1)) y.length:=(if_neg (ne_true_of_eq_false h1)).trans (if_neg (ne_true_of_eq_false hf));rw[e]at q3 q;refine call_meets F.slot_str_split (typeIs_str _ _ _) F.entry_str_split (F.args_str_split_2 _ _) (meets_str_split_sep z y t t2 h1 hy hf q2 q3) ?_;show wants _ _ _ {s with toks:=_,heap:=s.heap.push {cls:=.type "list",data:=.seq (strsFrom s.toks (Builtin.Str.partsBetween z (Builtin.Str.occurrences z y 0 z.length (z.length+1)) y.length)).toArray}}
    rw[strsFrom_eq];have hn:=numbered_texts s.toks (Builtin.Str.partsBetween z (Builtin.Str.occurrences z y 0 z.length (z.length+1)) y.length);exact gz (fz:=fz) I (by rw[<-List.length_map (f:=(·.1)),hn];exact q3) rm back (by rw[hn];exact q)
   ·have e:Txt.split z y=[z]:=(if_neg (ne_true_of_eq_false h1)).trans (if_pos hf);rw[e]at q;exact call_meets F.slot_str_split (typeIs_str _ _ _) F.entry_str_split (F.args_str_split_2 _ _) (meets_str_split_not_found z y t t2 h1 hy hf) (gz (fz:=fz) (l:=[(z,t)]) (k:=s.toks) I (by show 1<=sizeLine;decide) rm back q)
  ·have e:Txt.split z y=[z]:=if_pos h1;rw[e]at q;exact call_meets F.slot_str_split (typeIs_str _ _ _) F.entry_str_split (F.args_str_split_2 _ _) (meets_str_split_cannot_occur z y t t2 h1) (gz (fz:=fz) (l:=[(z,t)]) (k:=s.toks) I (by show 1<=sizeLine;decide) rm back q)
 ·exact q.elim
theorem nt:VM X "str.split" (rBm .split):=tO true
theorem kc:VM X "str.split" (rBm .splitM):=tO false
theorem pA:TyD X "str" (tyB .splitM):=gk
theorem yw(hd:rb X.K):VC X (.type "int") (rBi .int):=by
 intro pins s σ H xs vs us M Q Q2 I r dl rm q back;simp only[rBi]at q;split at q
 ·rename_i z;obtain⟨v,rfl,dv⟩:=c3 dl;cases (show v=.str z from dv);obtain⟨u,rfl,t,rfl⟩:=eg r;obtain⟨q1,q⟩:=q;split at q
  ·rename_i n e;exact nR e q1 (mq hd I) ⟨.int n,H,I.tok _,⟨_,rfl⟩,back _ _ _ _ cG rm (.refl _) q⟩
  ·exact q.elim
 ·rename_i b;obtain⟨v,rfl,dv⟩:=c3 dl;cases (show v=.bl b from dv);obtain⟨u,rfl,ru⟩:=eg r;cases (show u=Value.bool b from ru);exact call_int_bool ⟨.int _,H,I.tok _,⟨_,rfl⟩,back _ _ _ _ cG rm (.refl _) q⟩
 ·exact q.elim
theorem wa(hc:X.calm=true)(hd:rb X.K):VC X (.type "str") (rBi .strL):=by
 intro pins s σ H xs vs us M Q Q2 I r dl rm q back;simp only[rBi]at q;split at q
 ·rename_i i;obtain⟨v,rfl,dv⟩:=c3 dl;cases (show v=.int i from dv);obtain⟨u,rfl,t,rfl⟩:=eg r;exact str_of_int_or (I.ok.hd hc) (mq hd I) (λ_=>⟨.str _,H,I.tok _,⟨_,rfl⟩,back _ _ _ _ eK rm (.refl _) q.2⟩) λh=>absurd q.1 (Nat.not_lt.mpr h)
 ·exact q.elim
end
end L2
namespace L2
open PySem PySem.Spec PyProof.Rows
theorem qe:TyD X "str" (tyB .join):=gk
theorem kR{K:PySem.W.Frag}{H:Hp}:∀{ds:List D}{ts:List Str}{vs:List V}{us:List Value},fS ds=some ts->DenL K H ds vs->Vals vs us->∃l:List (Str×Tok),us=strValues l/\l.map (·.1)=ts
 |[],ts,vs,us,e,dl,r=>by
  cases e;cases (show vs=[] from dl);cases r;exact⟨[],rfl,rfl⟩
 |d::ds,ts,vs,us,e,dl,r=>by
  obtain⟨v,ws,rfl,dv,dl⟩:=dl;cases d with
  |str z=>
   cases q:fS ds with
   |none=>simp[fS,q]at e
   |some zs=>
    simp[fS,q]at e;subst e;cases (show v=.str z from dv);cases r with
    |cons h1 h2=>
     obtain⟨t,rfl⟩:=h1;obtain⟨l,rfl,rfl⟩:=kR q dl h2;exact⟨(z,t)::l,rfl,rfl⟩
  |_=>simp[fS]at e
theorem qf:VM X "str.join" (rBm .join):=by
 intro pins s σ H x xs v vs v2 us M Q Q2 I rv rs dx dl rm q back;simp only[rBm]at q;split at q
 ·rename_i z y;split at q
  ·rename_i ds e;split at q
   ·rename_i ts et;cases (show v=.str z from dx);obtain⟨yv,rfl,dy⟩:=c3 dl;obtain⟨u,rfl,ru⟩:=rs.one;obtain⟨t,rfl⟩:=rv;obtain⟨p,ws,rfl,hq,dl2⟩:=aF rm e dy;cases ru;obtain⟨its,r',pl,hz⟩:=I.list hq.sq;obtain⟨l,rfl,hl⟩:=kR et dl2 r';exact d8 I.tk <| SC.join pl.isList hl q.1 λt' k _=>⟨.str _,H,I.kept (t':=k) (λ_ _ e=>e),⟨_,rfl⟩,back _ _ _ _ eK rm (.refl _) q.2⟩
   ·exact q.elim
  ·exact q.elim
 ·exact q.elim
end L2
namespace L2
open PySem PySem.Spec PyProof.Rows
section
variable {X:Cx}{s:Shared}{h':Heap}
end
end L2
namespace L2
open PySem PySem.Spec PyProof.Rows
section
variable {X:Cx}{s:Shared}{h':Heap}
end
end L2
namespace L2
open PySem PySem.Spec PyProof.Rows
section
variable {prog:Program}{w:World}{A:Around}{E:Value->Shared->Prop}{s:Shared}{n l1 l2 l3:Nat}
theorem neA{a b:Nat}(h:a≠b):@Ne Addr a b:=h
end
section
variable {X:Cx}{s:Shared}{h':Heap}
end
end L2
namespace L2
open PySem PySem.Spec PyProof.Rows
section
variable {A:Around}{s:Shared}
end
section
variable {prog:Program}{w:World}{A:Around}{E:Value->Shared->Prop}{s:Shared}{z TI TO i1 i2 l1 l2 S:Addr}{xs ys:Array Value}{i:Nat}
end
section
variable {prog:Program}{w:World}{A:Around}{s:Shared}{R:Result->Shared->Prop}{z TI TO i1 i2 l1 l2 S lo:Addr}{xs ys:Array Value}
end
section
variable {prog:Program}{w:World}{A:Around}{E:Value->Shared->Prop}{s:Shared}{R:Result->Shared->Prop}{z TI TO i1 i2 l1 l2 S lo:Addr}{xs ys:Array Value}
end
section
variable {X:Cx}{s:Shared}{h':Heap}
end
end L2
namespace L2
open PySem PySem.Spec PyProof.Rows
section
variable {X:Cx}
end
end L2
namespace L2
open PySem PySem.Spec PyProof.Rows
section
variable {A:Around}{s:Shared}{items:Array Value}
end
end L2
namespace L2
open PySem PySem.Spec PyProof.Rows
theorem mw:∀{ws:List V}{us:List Value},ws.length=us.length->(∀(i:Nat) w u,ws[i]?=some w->us[i]?=some u->RelV w u)->Vals ws us
 |[],[],_,_=>.nil
 |[],_::_,h,_=>by cases h
 |_::_,[],h,_=>by cases h
 |w::ws,u::us,h,g=>.cons (g 0 w u rfl rfl) (mw (by simpa using h) λi w u h1 h2=>g (i+1) w u (by simpa using h1) (by simpa using h2))
theorem zU{X:Cx}(fz:Bool)(hc:X.calm=true)(hgl:Gl X "list")(hml:X.mg "list"=none)(hg:Gl X "range")(hm:X.mg "range"=none)(ha:PE X a (low X.K cls E2 ta))(hs:starEach [a] X.env=[(false,eval a X.env)]) :
  PE X (.Call (.Name "list" p') [.Call (.Name "range" p) [a] [] pos] [] pos') (low X.K cls E2 λσ M Q E=>ta σ M (λx M1=>rLg fz x M1 Q) E):=by
 intro pins s σ H Q2 I hl_;refine ex9 hl_ λσ3 M Q E3 rm ds lk h back=>?_
 refine wpAny_Call_Name_kw (gD I hgl hml (u:=.type "list") (by decide +kernel) ?_)
 refine PyProof.Rows.callWith_type1 ?_;refine Calls.spliced_cons ?_;refine Call_ (gD I hg hm boot_range (PyProof.Rows.callWith_type1 (thn ((bz ha pa_nil hs) pos pins s σ H (λvs H1=>∃v x M1,vs=[v]/\Den X.K H1 x v/\RelM X.K M1 H1/\TM X.K H H1/\rLg fz x M1 Q) I ?_) λus s1 ⟨vs,H1,I1,r1,q1⟩=>?_) hs rfl))
 ·exact aV rm ds lk h λv H2 x M2 dx rm2 t2 q2=>⟨v,x,M2,rfl,dx,rm2,t2,q2⟩
 ·obtain⟨v,x,M1,rfl,dx,rm1,t1,q⟩:=q1;unfold rLg at q;split at q
  ·rename_i j;obtain⟨⟨j1,j2⟩,q⟩:=q;obtain⟨u1,rfl,ru⟩:=eg r1;cases (show v=V.int j from dx);obtain⟨tk0,rfl⟩:=ru;refine call_range_1 ?_;refine Calls.spliced_nil ?_;refine d8 (Nat.succ_pos _) <| call_list_range (n:=j.toNat) (I.ok.hd hc) (IsRange.new ..) (small_one (by omega) (by omega) (by omega) (by omega)) (by rw[rangeSize_one];split<;>omega) (by omega) λh2' tk acc cc hk hS hacc _=>?_
   generalize hpush:s1.heap.push _=hp at hk hS;have hk':∀b o,s1.heap.get? b=some o->h2'.get? b=some o:=λb o e=>hk b o (by rw[<-hpush];exact Heap.get?_push_of_some _ e)
   have sz:s1.heap.objs.size<=hp.objs.size:=by rw[<-hpush,Heap.size_push];exact Nat.le_succ _
   have hHS:H1 hp.objs.size=none:=I1.hok.fresh sz;have e4:=hacc.1;have rv:Vals (((List.range j.toNat).map λi:Nat=>(0+(i:Int))).map V.int) acc.toList:=mw (by simp[e4]) λi w u h1 h2=>by
    have h3:acc[i]?=some u:=by simpa using h2
    obtain⟨t,rfl⟩:=hacc.2 i u h3;have hi:i < j.toNat:=by
     have:=(Array.getElem?_eq_some_iff.mp h3).1;omega
    have h4:w=V.int (0+(i:Int)):=by
     simp[hi]at h1;simp[<-h1]
    rw[h4];exact⟨t,by simp⟩
   have I2:Inv X pins σ (upd H1 hp.objs.size (.lst (((List.range j.toNat).map λi:Nat=>(0+(i:Int))).map V.int))) {s1 with heap:=h2',toks:=tk}:=I1.laid hk' sz ⟨by rw[List.length_map,List.length_map,List.length_range,sizeLine_eq];omega,acc.toList,cc,rv,by simpa using hS⟩
   have dl:DenL X.K H1 (rng 0 j.toNat) (((List.range j.toNat).map λi:Nat=>(0+(i:Int))).map V.int):=by
    have e:rng 0 j.toNat=((List.range j.toNat).map λi:Nat=>(0+(i:Int))).map D.int:=by unfold rng;rw[List.map_map];rfl
    rw[e];exact DenL.of_int
   exact bt I2 hHS dl rm1 t1 q back
  ·exact q.elim
end L2
namespace L2
open PySem PySem.Spec PyProof.Rows
theorem nj:∀{ds:List D}{ns:List Int},eY ds=some ns->ds=ns.map D.int
 |[],ns,h=>by cases h;rfl
 |d::r,ns,h=>by
  cases d<;>simp only[eY]at h<;>try cases h
  split at h
  ·rename_i ms e;cases h;rw[nj e];rfl
  ·cases h
section
variable {X:Cx}
theorem zE(rm:RelM X.K M H)(dx:Den X.K H x v)(e:ag M x=some ds):∃a vs,v=.ref a/\RdL X.K H a vs/\DenL X.K H ds vs:=by
 cases x with
 |rol es=>
  cases e;obtain⟨a,vs,rfl,sq,dl⟩:=dx;exact⟨a,vs,rfl,sq.rd,dl⟩
 |ref a=>
  cases q:M a with
  |none=>simp[ag,q]at e
  |some o=>
   cases o with
   |lst es=>
    simp[ag,q]at e;subst e;cases (show v=.ref a from dx);obtain⟨vs,e1,dl⟩:=rm a _ q;exact⟨a,vs,rfl,.inl (.inl e1),dl⟩
   |_=>simp[ag,q]at e
 |_=>cases e
noncomputable def Fr(K:PySem.W.Frag)(ta t1:TE):TE:=λσ H Q=>ta σ H λx H1=>t1 σ H1 λy H2=>y=.int (-1)/\∃a xs,x=.ref a/\SqL K H2 a xs/\∀p,H2 p=none->Q (.ref p) (upd H2 p (.lst xs.reverse))
theorem xp(he:PE X a ta)(h1:PE X e1 t1):PE X (.Subscript a (.Slice none none (some e1) p2) pos) (Fr X.K ta t1):=by
 intro pins s σ H Q I h;refine Subscript_ (thn (he pins s σ H _ I h) λv s1 ⟨x,H1,I1,r1,q1⟩=>?_)
 refine wpAny_Slice ?_;rw[evalPart_none];refine wpAny_pure (wpAny_pure (thn (h1 pins s1 σ H1 _ I1 q1) λvk s3 ⟨y,H3,I3,ry,ey,la,xs,ex,hx,q⟩=>?_))
 subst ey;subst ex;obtain⟨t,rfl⟩:=ry;cases r1;have I4:Inv X pins σ H3 {s3 with heap:=s3.heap.push {cls:=.type "slice",data:=.fields #[.none,.none,.int (-1) t]}}:=I3.kept (t':=s3.toks) λb ob q=>Heap.get?_push_of_some _ q
 obtain⟨its,r,ht,hz⟩:=I4.list hx;have hlen:=r.length;show wpAny (model X.prog X.w) X.A (subscriptTail a (.Slice none none (some e1) p2) (.ref la) (.ref s3.heap.objs.size)) (EP X pins σ Q) X.xe {s3 with heap:=s3.heap.push {cls:=.type "slice",data:=.fields #[.none,.none,.int (-1) t]}}
 refine tail_any (ops:=[.ref la,.ref s3.heap.objs.size]) ht.isList.typeIs slot_list_getitem.lookup ?_ (by with_unfolding_all rfl)
 refine wpAny_getItem_list_slice ht.isList (Heap.IsSliceOf.new ..) .none .none (.int (-1) t) (by decide) ?_ (by rw[List.size_toArray]<;>omega)
 rw[PySem.W.krv_pick];refine⟨.ref _,_,I4.laid (t':=s3.toks) (o:=.lst xs.reverse) (λb ob q=>Heap.get?_push_of_some _ q) (Nat.le_refl _) ?_,rfl,q _ (I4.hok.fresh (Nat.le_refl _))⟩
 exact⟨by rw[List.length_reverse];exact hz,_,0,r.reverse,Heap.get?_push_size _ rfl⟩
theorem Dg(ha:PE X a (low X.K cls E2 ta))(h1:PE X e1 (low X.K cls E2 λσ M Q E=>Q (.int (-1)) M)) :
  PE X (.Subscript a (.Slice none none (some e1) p2) pos) (low X.K cls E2 λσ M Q E=>ta σ M (λx M1=>ua fz x M1 Q) E):=
 wM (fz:=fz) (xp ha h1) λσ H σ3 M Q E3 R2 rm ds lk q k=>aV rm ds lk q λv H1 x M1 dx rm1 t1 q1=>by
  refine⟨σ3,M1,λd M'=>d=.int (-1)/\M'=M1,E3,rm1,ds.mono t1,lk.mono t1,⟨rfl,rfl⟩,λw H2 d M2 dw rm2 t2 ⟨ed,eM⟩=>?_⟩
  subst ed;subst eM;refine⟨dw,?_⟩;unfold ua at q1;split at q1
  ·rename_i es e;obtain⟨p,vs,rfl,hq,dl⟩:=aF rm2 e (dx.mono t2);exact⟨p,vs,rfl,hq.sq,λp' hp=>k H2 _ _ M2 p' hp dl.reverse rm2 (t1.trans t2) q1⟩
  ·exact q1.elim
theorem Av{s:Shared}(I:Inv X pins σ H s):(s.heap.objs.size == sysModules)=false:=by
 have h:mainGlobals < s.heap.objs.size:=(I.mod.glob.keeps I.bk).lt;have h2:sysModules < mainGlobals:=by decide
 exact beq_eq_false_iff_ne.mpr (Nat.ne_of_gt (Nat.lt_trans h2 h))
theorem zP(tk:Bool):PE X (.Dict [] [] pos) (low X.K cls E2 λσ M Q E=>∀p,M p=none->Q (.ref p) (put M p (if tk=true then .dt [] [] else .dk [] []))):=by
 refine λpins s σ H Q2 I hl_=>ex9 hl_ λσ3 M Q E3 rm ds lk q back=>?_
 have hp:H s.heap.objs.size=none:=I.hok.fresh (Nat.le_refl _);have hb:=Av I;have q0:=q s.heap.objs.size (rm.fresh hp);cases tk with
 |false=>
  have ok0:ObjOk X.prog X.w (upd H s.heap.objs.size (.dK [])) (s.heap.push {cls:=.type "dict",data:=.dict #[]}) s.heap.objs.size (.dK []):=⟨Nat.zero_le _,hb,[],.nil,Heap.DictOf.new s.heap⟩;have I1:=I.laid (a:=s.heap.objs.size) (o:=.dK []) (h':=s.heap.push {cls:=.type "dict",data:=.dict #[]}) (t':=s.toks) (λ_ _ q=>Heap.get?_push_of_some _ q) (Nat.le_refl _) ok0
  have rm1:RelM X.K (put M s.heap.objs.size (.dk [] [])) (upd H s.heap.objs.size (.dK [])):=rm.lay hp ⟨[],ae,rfl,rfl⟩;exact wpAny_Dict_empty ⟨.ref s.heap.objs.size,_,I1,rfl,back _ _ (.ref s.heap.objs.size) _ rfl rm1 (.new hp) q0⟩
 |true=>
  obtain⟨ob,es,ep,hq,hx,hd,he,_,_⟩:=(Heap.DictOfH.new (knd:=tupleKind (intKind X.prog X.w)) s.heap);have tb:dH s.heap.objs.size [] (s.heap.push {cls:=.type "dict",data:=.dict #[]}):=⟨ob,es,ep,hq,hx,hd,he⟩;have ok0:ObjOk X.prog X.w (upd H s.heap.objs.size (.ext (dH s.heap.objs.size []))) (s.heap.push {cls:=.type "dict",data:=.dict #[]}) s.heap.objs.size (.ext (dH s.heap.objs.size [])):=
   ⟨tb,⟨ob,hq⟩,λg1 g2 ⟨o1,es1,ep1,a1,a2,a3,a4⟩ kk=>⟨o1,es1,ep1,kk _ a1,a2,a3,a4⟩⟩
  have I1:=I.laid (a:=s.heap.objs.size) (o:=.ext (dH s.heap.objs.size [])) (h':=s.heap.push {cls:=.type "dict",data:=.dict #[]}) (t':=s.toks) (λ_ _ q=>Heap.get?_push_of_some _ q) (Nat.le_refl _) ok0
  have rm1:RelM X.K (put M s.heap.objs.size (.dt [] [])) (upd H s.heap.objs.size (.ext (dH s.heap.objs.size []))):=rm.lay hp ⟨[],[],ae,⟨rfl,.nil,Nat.zero_le _,hb,.nil,λx hx=>nomatch hx⟩,rfl⟩
  exact wpAny_Dict_empty ⟨.ref s.heap.objs.size,_,I1,rfl,back _ _ (.ref s.heap.objs.size) _ rfl rm1 (.new hp) q0⟩
end
end L2
namespace L2
open PySem PySem.Spec PyProof.Rows
section
variable {X:Cx}
theorem tf{prog:Program}{w:World}{A:Around}{E:Value->Shared->Prop}{s:Shared}{xs:Array (Int×Tok)}{Q:Value->Shared->Prop}(hh:vd A s.heap)(hl:s.heap.IsList l (intItems xs))
  (h:∀h' tk t',(∀b o,s.heap.get? b=some o->h'.get? b=some o)->Q (.int (preSum (numAt xs) xs.size) t') {s with heap:=h',toks:=tk}):wpAny (model prog w) A (call (.builtin "sum") [.ref l]) Q E s:=by
 rcases hh with hh|⟨a,o,e,ho,lo⟩
 ·exact sum_intListG hh hl h
 refine call_sum_walkG (iter_intList hl λs₂ es st hfp hlI=>?_)
 have ha:=Heap.lt_size ho;have W:Walks prog w A.in1 s.heap.objs.size [s.heap.objs.size,l,a] [s.heap.objs.size] (intItems xs).size (λi v=>(intItems xs)[i]?=some v) (λi h=>(h.IsListIter s.heap.objs.size l i/\h.IsList l (intItems xs))/\h.get? a=some o):=
  ⟨λb hb=>by simp at hb;simp[hb],λ_ _ _ st hk=>⟨⟨st.1.1.at λo e=>hk _ (by simp) o e,st.1.2.at λo e=>hk l (by simp) o e⟩,hk a (by simp) o st.2⟩,λi s Q E hi st hQ=>
   wpAny_pyNext_list_item st.1.1 st.1.2 (x:=(intItems xs)[i]) (by simp[hi]) λh' hit' hs'=>hQ _ h' s.toks (by simp[hi]) ⟨⟨hit',st.1.2.extBut hs'.extBut hlI⟩,hs'.extBut a o (Nat.ne_of_lt ha) st.2⟩ λb o hb e=>hs'.extBut b o (λh=>hb (by simp[h])) e,
   λs Q E st hQ=>fi (.inr ⟨a,o,e,st.2,lo⟩) (λc q z=>by
    have q:A.handled=some (.ref c):=q;rw[e]at q;cases q;exact Nat.ne_of_lt ha z) st.1.1 st.1.2 (by simp) λh' he'=>hQ h' s.toks λb o hb e=>he' b o (λh=>hb (by simp[h])) e,
   λ_ _ _ _ st hQ=>wpAny_pyIter_listiter st.1.1 hQ⟩
 subst es;refine⟨_,_,_,_,_,_,numAt xs,rfl,W,⟨st,Heap.get?_push_of_some _ ho⟩,λb hb=>?_,(λ_ _=>intItems_at),λh' tk t' hk=>?_⟩
 ·rcases List.mem_cons.mp hb with z|hb
  ·exact hfp b (by simp[z])
  ·rcases List.mem_cons.mp hb with z|hb
   ·exact hfp b (by simp[z])
   ·rw[List.mem_singleton.mp hb];exact Nat.lt_of_lt_of_le ha (by rw[Heap.size_push];exact Nat.le_succ _)
 ·have:=h h' tk t' λb ob q=>hk b ob (λz=>by
   rw[List.mem_singleton.mp z]at q;exact Nat.lt_irrefl _ (Heap.lt_size q)) (Heap.get?_push_of_some _ q)
  simpa [intItems] using this
theorem AY(hc:HdA X)
  (I:Inv X pins σ H s)(rv:RelV v v2)(dx:Den X.K H x v)(rm:RelM X.K M H)(q:rSm x M Q)(back:Back X.K H Q Q2) :
  wpAny (model X.prog X.w) X.A (call (.builtin "sum") [v2]) (EP X pins σ Q2) Ex s:=by
 have hh:=(I.hdA hc).1;unfold rSm at q;split at q
 ·rename_i ds e1;obtain⟨a,vs,rfl,rd,dl⟩:=zE rm dx e1;cases rv;obtain⟨_,its,n,r,_,hg⟩:=I.rdL rd;have hl:s.heap.IsList a its.toArray:=⟨_,hg,rfl,n,rfl⟩;split at q
  ·rename_i ns e2;have z:=nj e2;subst z;have zv:=dl.int_of;subst zv;have hi:=nW r;obtain⟨xs,e⟩:=hi.allInts.items;have hns:ns=xs.toList.map (·.1):=by rw[<-hi.numsOf,<-nums_intItems,<-e]
   rw[e]at hl;refine d8 I.tk <| tf hh hl λh' tk t' k _=>⟨.int _,H,I.kept k,⟨_,rfl⟩,back _ _ _ _ cG rm (.refl _) ?_⟩
   have:preSum (numAt xs) xs.size=ns.sum:=by rw[preSum_eq,hns,List.take_of_length_le (by simp)]
   rw[this];exact q
  ·exact q.elim
 ·exact q.elim
theorem E6(hc:HdA X)(ha:PE X e (low X.K cls E2 te))(hg:Gl X "sum")(hm:X.mg "sum"=none)(hs:starEach (e::[]) X.env=(false,eval e X.env)::starEach [] X.env) :
  PE X (.Call (.Name "sum" p) [e] [] pos) (low X.K cls E2 λσ M Q E=>te σ M (λx M1=>rSm x M1 Q) E):=by
 have hcl:CallR X (.builtin "sum") (λvs H Q2=>∃x v M Q,vs=[v]/\Den X.K H x v/\RelM X.K M H/\rSm x M Q/\Back X.K H Q Q2):=by
  refine λpins s σ H vs us Q2 I r hl_=>ex9 hl_ λx v M Q e dx rm q back=>?_
  subst e;obtain⟨u,rfl,ru⟩:=eg r;exact AY hc I ru dx rm q back
 refine (dN hcl hg hm (by decide +kernel) (bz ha pa_nil hs) (by decide +kernel) (by decide +kernel) hs (by rfl)).imp λσ H Q2 hl_=>ex9 hl_ λσ3 M Q E3 rm ds lk h back=>?_
 exact aV rm ds lk h λv H1 x M1 dx rm1 t1 q1=>⟨x,v,M1,Q,rfl,dx,rm1,q1,back.mono t1⟩
end
end L2
namespace L2
open PySem PySem.Spec PyProof.Rows
section
variable {X:Cx}{cls:Nat->Addr}{E2:St->XK}{e:Expr}{pos p:Pos}
end
end L2
namespace L2
open PySem PySem.Spec PyProof.Rows
noncomputable def isN(i:Int):Expr->Bool
 |.Constant k _ _=>match k with
  |.int j=>decide (j=i)
  |_=>false
 |_=>false
section
variable {X:Cx}
noncomputable def FA(ps:List (Str×Int)):List Key:=ps.map λp=>.inr p.1
noncomputable def Eo(ps:List (Str×Int)):List D:=ps.map λp=>.int p.2
end
end L2
namespace L2
open PySem PySem.Spec PyProof.Rows
noncomputable def Bo(Pm:Params)(p:Str×Int)(e:DictEntry):Prop:=(∀w:World,w.params=Pm->e.hash=hashStr w p.1)/\(∃t,e.key=.str p.1 t)/\∃t,e.val=.int p.2 t
noncomputable def GDk(K:PySem.W.Frag)(Pm:Params)(a:Addr)(ps:List (Str×Int)):Prop:=∃(es:List DictEntry) (n:Nat),K.lookup a=some {cls:=.type "dict",data:=.dict es.toArray n}/\(a == sysModules)=false/\Paired (Bo Pm) ps es/\(ps.map (·.1)).Nodup
noncomputable def wm(K:PySem.W.Frag)(Pm:Params):D->V->Prop
 |.dik ks ds,v=>∃a ps,v=.ref a/\ks=FA ps/\ds=Eo ps/\GDk K Pm a ps
 |d,v=>∀H,Den K H d v
noncomputable def gkv(ps:List (Str×Int)):List (Key×V):=ps.map λp=>(.inr p.1,.int p.2)
theorem wT{P:Program}{w:World}:∀{ps:List (Str×Int)}{es:List DictEntry},Paired (Bo w.params) ps es->(∀e∈es,∃k,(aH P w).is k e.key=true/\e.hash=(aH P w).hash k)/\∃kvs,KV (gkv ps) kvs/\Pairs (aH P w) es kvs/\kvs.map (·.1)=ps.map λp=>Sum.inr p.1
 |[],_,h=>by
  cases h;exact⟨(λe h=>nomatch h),[],.nil,.nil,rfl⟩
 |p::ps,_,h=>by
  cases h with
  |cons h1 h2=>
   obtain⟨a1,⟨t,a2⟩,⟨u,a3⟩⟩:=h1;obtain⟨b1,kvs,b2,b3,b4⟩:=wT h2;refine⟨λe he=>?_,(.inr p.1,.int p.2 u)::kvs,.cons ⟨rfl,⟨u,rfl⟩⟩ b2,.cons (by rw[a2];exact eD P w p.1 t) a3 b3,by simp[b4]⟩
   rcases List.mem_cons.mp he with rfl|he
   ·exact⟨.inr p.1,by rw[a2];exact eD P w p.1 t,a1 w rfl⟩
   ·exact b1 e he
theorem GDk.dict{K:PySem.W.Frag}{P:Program}{w:World}{h:Heap}(g:GDk K w.params a ps)(hK:∀o,K.lookup a=some o->h.get? a=some o):∃kvs,KV (gkv ps) kvs/\h.DictOf (aH P w) a kvs:=by
 obtain⟨es,n,hk,_,hp,nd⟩:=g;obtain⟨b1,kvs,b2,b3,b4⟩:=wT (P:=P) hp;refine⟨kvs,b2,_,_,_,hK _ hk,⟨rfl,rfl,rfl⟩,rfl,λe he=>b1 e (by simpa using he),b3,?_⟩
 rw[b4,show (ps.map λp=>(.inr p.1:Key))=(ps.map (·.1)).map Sum.inr by rw[List.map_map];rfl]
 exact List.Pairwise.map _ (λa b h z=>h (Sum.inr.inj z)) nd
theorem zV{X:Cx}(hg:Gl X x)(hm:X.mg x=some u)(r:RelV v u)(hdb:(x == ("__debug__" : Str))=false)(hd:wm X.K X.w.params d v):PE X (.Name x pos) (low X.K cls E2 λ_ M Q _=>uz d M Q):=by
 cases d with
 |dik ks ds=>
  obtain⟨a,ps,rfl,_⟩:=hd;exact λpins s σ H Q2 I hl_=>ex9 hl_ λσ3 M Q E3 rm ds lk h back=>h.elim
 |_=>exact Cy hg hm r hdb hd
end L2
namespace L2
open PySem PySem.Spec PyProof.Rows
section
variable {X:Cx}{A:Around}
end
end L2
namespace L2
open PySem PySem.Spec PyProof.Rows
section
variable {A:Around}{s:Shared}{ob:Obj}{es:Array DictEntry}
end
section
variable {X:Cx}{apos cpos:Pos}
theorem TabOk.grow{K:PySem.W.Frag}(z:TabOk K H d ks xs vs)(t:TM K H H'):TabOk K H' d ks xs vs:=⟨z.kx,z.nd,z.sz,z.no,z.vx,λx hx=>t.t _ _ (z.at_ x hx)⟩
end
end L2
namespace L2
open PySem PySem.Spec PyProof.Rows PySem.W
section
variable {X:Cx}{apos cpos:Pos}
end
end L2
namespace L2
open PySem PySem.Spec PyProof.Rows
section
variable {X:Cx}
end
end L2
namespace L2
open PySem PySem.Spec PyProof.Rows
theorem ER.upd_nx{K:PySem.W.Frag}(er:ER K H D3 D2)(h:∀σ' H' σ3' M',RelM K M' H'->DenS K H' σ3' σ'->TM K H H'->n3 σ3' M'->n2 σ' H'):ER K H {D3 with nx:=n3} {D2 with nx:=n2}:=⟨h,er.rt,er.bk,er.ct⟩
section
variable {X:Cx}{cls:Nat->Addr}{E2:St->XK}{st:Stmt}{az:List Stmt}{t u:Ends3->(St3->XN)->St3->MH->Prop}{e:Expr}{te:St3->MH->VK3->XN->Prop}{pos:Pos}
theorem AQ:PSs X [] (bO X.K cls E2 λD _ σ M=>D.nx σ M):=pss_nil.imp λD2 σ H hl_=>ex9 hl_ λσ3 M D3 E3 rm ds lk h er=>er.nx σ H σ3 M rm ds (.refl _) h
theorem zX(h1:PS X st (bO X.K cls E2 t))(h2:PSs X az (bO X.K cls E2 u)):PSs X (st::az) (bO X.K cls E2 λD E σ M=>t {D with nx:=λσ' M'=>u D E σ' M'} E σ M):=
 (ur h1 h2).imp λD2 σ H hl_=>ex9 hl_ λσ3 M D3 E3 rm ds lk h er=>⟨σ3,M,_,E3,rm,ds,lk,h,er.upd_nx λσ' H' σ3' M' rm' ds' tm q=>⟨σ3',M',D3,E3,rm',ds',lk.mono tm,q,er.mono tm⟩⟩
theorem Br{i:Nat}(h2:PSs X az (bO X.K cls E2 u)):PSs X az (bO X.K cls E2 λD E σ M=>match σ[i]? with
  |some (some (.ref a))=>u D E σ (del M a)
  |_=>False):=h2.imp λD2 σ H hl_=>ex9 hl_ λσ3 M D3 E3 rm ds lk h er=>by
 dsimp only at h;split at h
 ·rename_i a e;exact⟨σ3,_,D3,E3,rm.sub λb o q=>(iy q).2,ds,lk,h,er⟩
 ·exact h.elim
theorem zM(he:PE X e (low X.K cls E2 te))(hs:swapsWith e none pos.line X.env=pure false):PS X (.Expr e pos) (bO X.K cls E2 λD E σ M=>te σ M (λ_ M1=>D.nx σ M1) (E σ)):=
 (pD he hs).imp λD2 σ H hl_=>ex9 hl_ λσ3 M D3 E3 rm ds lk h er=>aV rm ds (lk.at ds) h λv H1 x M1 dx rm1 t1 q1=>er.nx σ H1 σ3 M1 rm1 (ds.mono t1) t1 q1
theorem Ck(he:PE X e (low X.K cls E2 te)):PS X (.Return (some e) pos) (bO X.K cls E2 λD E σ M=>te σ M D.rt (E σ)):=
 (zx he).imp λD2 σ H hl_=>ex9 hl_ λσ3 M D3 E3 rm ds lk h er=>aV rm ds (lk.at ds) h λv H1 x M1 dx rm1 t1 q1=>er.rt v H1 x M1 dx rm1 t1 q1
theorem EC(hc:PT X c (cA X.K cls E2 tA))(ha:PSs X a (bO X.K cls E2 t))(hb:PSs X b (bO X.K cls E2 u)) :
  PS X (.If c a b pos) (bO X.K cls E2 λD E σ M=>tA σ M (λk M1=>if k=true then t D E σ M1 else u D E σ M1) (E σ)):=
 (A7 hc ha hb).imp λD2 σ H hl_=>ex9 hl_ λσ3 M D3 E3 rm ds lk h er=>iK rm ds (lk.at ds) h λk H1 M1 rm1 t1 q1=>by
  cases k with
  |true=>rw[if_pos rfl]at q1 ⊢;exact⟨σ3,M1,D3,E3,rm1,ds.mono t1,lk.mono t1,q1,er.mono t1⟩
  |false=>rw[if_neg Bool.false_ne_true]at q1 ⊢;exact⟨σ3,M1,D3,E3,rm1,ds.mono t1,lk.mono t1,q1,er.mono t1⟩
theorem wK(hN:X.N.Nodup)(hi:X.N[i]?=some x)(hx:Loc X.env.scope x)(he:PE X e (low X.K cls E2 te))(hs:swapsWith e (some (.Name x pos')) pos.line X.env=pure false)(hf:X.fn x=true\/X.env.scope.names.lookup x=some .local) :
  PS X (.Assign [.Name x pos'] e pos) (bO X.K cls E2 λD E σ M=>te σ M (λx M1=>D.nx (σ.set i (some x)) M1) (E σ)):=
 (w6 hN hi hx he hs hf).imp λD2 σ H hl_=>ex9 hl_ λσ3 M D3 E3 rm ds lk h er=>aV rm ds (lk.at ds) h λv H1 x M1 dx rm1 t1 q1=>er.nx _ _ _ _ rm1 ((ds.mono t1).set dx) t1 q1
theorem zI(hN:X.N.Nodup)(hi:X.N[i]?=some x)(hx:Loc X.env.scope x)(hf:X.fn x=true\/X.env.scope.names.lookup x=some .local):PG X (.Name x pos) (qI X.K (wpG (.name i))):=
 (iu hN hi hx hf).imp λv σ H Q2 ⟨d,σ3,M,Q,dv,rm,ds,h,back⟩=>back _ _ _ _ rm (ds.set dv) (.refl _) h
noncomputable def bQ(N:List Str)(sc:Scope)(fn:Bool):List Nat->List Expr->Bool
 |[],[]=>true
 |i::is,.Name x _::es=>(N[i]? == some x)&&(sc.names.lookup x == some .local||(fn&&sc.names.lookup x == some .cell))&&bQ N sc fn is es
 |_,_=>false
noncomputable def jx(is:List Nat)(xs:List α)(σ:List (Option α)):List (Option α):=(is.zip xs).foldl (λσ p=>σ.set p.1 (some p.2)) σ
theorem kY(hN:X.N.Nodup)(hfn:fn=true->∀x,X.fn x=true):∀{is:List Nat}{es:List Expr},bQ X.N X.env.scope fn is es=true->
  PGs X es (λvs σ H Q=>vs.length=is.length/\Q (jx is vs σ) H)/\(assignEach es X.env).length=is.length/\(assignEach es X.env).findIdx? (·.1)=none
 |[],[],_=>⟨λpins s σ H vs us Q I r ⟨e,h⟩=>uU pins s σ H vs us Q I r ⟨List.length_eq_zero_iff.mp e,by cases List.length_eq_zero_iff.mp e;exact h⟩,rfl,rfl⟩
 |[],_::_,h=>by simp[bQ]at h
 |i::is,es,h=>by
  unfold bQ at h;split at h
  ·rename_i heq;cases heq
  ·rename_i i' is' x px es' heq;cases heq;simp only[Bool.and_eq_true,beq_iff_eq,Bool.or_eq_true]at h;obtain⟨⟨h1,h2⟩,h3⟩:=h;obtain⟨ih,il,ix⟩:=kY hN hfn h3;have hg:PG X (.Name x px) (qh i):=by
    rcases h2 with h2|⟨h2,h4⟩
    ·exact iu hN h1 (.inl h2) (.inr h2)
    ·exact iu hN h1 (.inr h4) (.inl (hfn h2 x))
   refine⟨λpins s σ H vs us Q I r ⟨e,q⟩=>?_,by show (assignEach es' X.env).length+1=is.length+1;rw[il],?_⟩
   ·cases vs with
    |nil=>cases e
    |cons v vs=>exact sZ hg ih rfl pins s σ H (v::vs) us Q I r ⟨v,vs,rfl,by simpa using e,q⟩
   ·show List.findIdx? (·.1) ((false,assign (.Name x px) X.env)::assignEach es' X.env)=none;rw[List.findIdx?_cons];simp[ix]
  ·cases h
theorem iY{K:PySem.W.Frag}:∀{is:List Nat}{ds:List D}{vs:List V}{σ3:St3}{σ:St},DenL K H ds vs->DenS K H σ3 σ->DenS K H (jx is ds σ3) (jx is vs σ)
 |[],_,_,_,_,_,h=>by simpa [jx] using h
 |i::is,[],vs,_,_,dl,h=>by cases (show vs=[] from dl);simpa [jx] using h
 |i::is,d::ds,vs,_,_,dl,h=>by
  obtain⟨v,r,rfl,dv,dl⟩:=dl;exact iY (is:=is) dl (h.set (i:=i) dv)
theorem wx(hc:X.calm=true)(hN:X.N.Nodup)(hfn:fn=true->∀x,X.fn x=true)(ok:bQ X.N X.env.scope fn is es=true):PG X (.Tuple es k pos) (qI X.K (wpG (.tup is))):=by
 obtain⟨h1,h2,h3⟩:=kY hN hfn ok;refine (z9 hc h1 h2 h3).imp λv σ H Q2 ⟨d,σ3,M,Q,dv,rm,ds,h,back⟩=>?_
 simp only[wpG]at h;split at h
 ·rename_i es';obtain⟨p,vs,rfl,sq,dl⟩:=dv;obtain⟨z,q⟩:=h;exact⟨p,vs,rfl,sq,by rw[<-dl.length];exact z,by rw[<-dl.length];exact z,back _ _ _ _ rm (iY dl ds) (.refl _) q⟩
 ·exact h.elim
theorem A1{is:List Nat}(hc:X.calm=true)(hN:X.N.Nodup)(hfn:fn=true->∀x,X.fn x=true)(ok:bQ X.N X.env.scope fn is es=true)(he:PE X e (low X.K cls E2 te))
  (hs:swapsWithSole [.Tuple es k p2] e pos.line X.env=pure false) (hw:swappedStores [.Tuple es k p2] e X.env=pure none) :
  PS X (.Assign [.Tuple es k p2] e pos) (bO X.K cls E2 λD E σ M=>te σ M (λx M1=>match x with
  |.tup ds=>ds.length=is.length/\D.nx ((is.zip ds).foldl (λσ p=>σ.set p.1 (some p.2)) σ) M1
  |_=>False) (E σ)):=
 (uD he (wx (is:=is) hc hN hfn ok) hs hw (by rfl)).imp λD2 σ H hl_=>ex9 hl_ λσ3 M D3 E3 rm ds lk h er=>aV rm ds (lk.at ds) h λv H1 x M1 dx rm1 t1 q1=>
  ⟨x,σ3,M1,D3.nx,dx,rm1,ds.mono t1,by simp only[wpG];exact q1,λσ' H' σ3' M' r' d' t' q'=>er.nx σ' H' σ3' M' r' d' (t1.trans t') q'⟩
theorem CG(hp:PassesOwn (model X.prog X.w) X.A X.env X.xe)(hc:X.calm=true)(hi:PI X tg iter (oP X.K cls E2 wi))(hg:PG X tg (qI X.K g))(hb:PSs X body (bO X.K cls E2 t))
  (hs:∀x,foldedSetIterable iter X.env x=pure x):PS X (.For tg iter body [] pos) (bO X.K cls E2 λD E σ M=>wi σ M (λds S M1=>iU g (λD σ M=>t D E σ M) S D ds σ M1) (E σ)):=by
 refine (zH hp hc hi hg hb hs).imp λD2 σ H hl_=>ex9 hl_ λσ3 M D3 E3 rm ds0 lk h er=>⟨σ3,M,_,E3 σ3,rm,ds0,lk.at ds0,h,λJ H1 ds S M1 ok rm1 tm1 hP=>?_⟩
 refine⟨λi m σ' H'=>∃σ3' M',m=ds.length - i/\i<=ds.length/\RelM X.K M' H'/\DenS X.K H' σ3' σ'/\TM X.K H1 H'/\iU g (λD σ M=>t D E3 σ M) S D3 (ds.drop i) σ3' M',⟨ds.length,σ3,M1,by simp,Nat.zero_le _,rm1,ds0.mono tm1,.refl _,hP⟩,?_⟩
 rintro i m σ' H' ⟨σ3',M',rfl,hil,rm',ds',tm',p⟩;by_cases hlt:i < ds.length
 ·rw[List.drop_eq_getElem_cons hlt]at p;obtain⟨s',p⟩:=p;refine .inr ⟨ok.go i H' M' tm' rm' s' hlt,λσ4 H4=>∃σ34 M4,RelM X.K M4 H4/\DenS X.K H4 σ34 σ4/\TM X.K H1 H4/\iU g (λD σ M=>t D E3 σ M) S D3 (ds.drop (i+1)) σ34 M4,?_,?_⟩
  ·rintro σ4 H4 ⟨σ34,M4,e1,e2,e3,e4⟩;exact⟨ds.length - (i+1),by omega,σ34,M4,rfl,hlt,e1,e2,e3,e4⟩
  ·intro x H2 y;obtain⟨tm2,rm2,d,hd,dv⟩:=ok.yld i H' M' x H2 tm' rm' s' hlt y;rw[List.getElem?_eq_getElem hlt]at hd;cases hd;refine⟨_,σ3',M',_,dv,rm2,ds'.mono tm2,p,λσ5 H5 σ35 M5 rm5 ds5 tm5 q5=>?_⟩
   have tmA:TM X.K H1 H5:=(tm'.trans tm2).trans tm5;exact⟨σ35,M5,_,E3,rm5,ds5,lk.mono (tm1.trans tmA),q5,⟨λσ6 H6 σ36 M6 rm6 ds6 tm6 q6=>⟨σ36,M6,rm6,ds6,tmA.trans tm6,q6⟩,λv H6 d6 M6 dv6 rm6 tm6 q6=>er.rt v H6 d6 M6 dv6 rm6 (tm1.trans (tmA.trans tm6)) q6,
    λσ6 H6 σ36 M6 rm6 ds6 tm6 q6=>er.nx σ6 H6 σ36 M6 rm6 ds6 (tm1.trans (tmA.trans tm6)) q6,λσ6 H6 σ36 M6 rm6 ds6 tm6 q6=>⟨σ36,M6,rm6,ds6,tmA.trans tm6,q6⟩⟩⟩
 ·have e:i=ds.length:=by omega
  subst e;rw[List.drop_length]at p;exact .inl ⟨ok.stop H' M' tm' rm' p.1,er.nx σ' H' σ3' M' rm' ds' (tm1.trans tm') p.2⟩
theorem u6(hx:lS X E)(hE:E2=λ_=>E)(hc:X.calm=true)(hg:Gl X x)(hm:X.mg x=some (.ref (cls i)))(q:wg X.K (cls i))(ha:PA X (e::es) (ez X.K cls E2 tr))(hdb:(x == ("__debug__" : Str))=false)
  (he:starEach (e::es) X.env=(false,eval e X.env)::starEach es X.env) (hpl:(backTo cpos (starEach es X.env)).any (·.1)=false) :
  PS X (.Raise (some (.Call (.Name x np) (e::es) [] cpos)) none pos) (bO X.K cls E2 λ_ E σ M=>tr σ M (λxs M1=>xs.length<=sizeLine/\E σ ⟨i,none⟩ M1) (E σ)):=by
 subst hE;exact (rQ hx hc hg hm q ha hdb he hpl).imp λD2 σ H hl_=>ex9 hl_ λσ3 M D3 E3 rm ds lk h er=>eX rm ds (lk.at ds) h λvs H1 xs M1 dl rm1 t1 ⟨z,q⟩=>⟨by rw[<-dl.length];exact z,lk σ3 σ ⟨i,none⟩ M1 H1 t1 (ds.mono t1) rm1 q none rfl⟩
theorem AZ{apos cpos:Pos}(ho:PE X o (low X.K cls E2 to))(he:PE X e (low X.K cls E2 te))(hbase:attributeBase o "append" X.env (eval o X.env)=eval o X.env)
  (hline:(apos.endLine == cpos.line)=true) (hs:starEach [e] X.env=[(false,eval e X.env)]) :
  PS X (.Expr (.Call (.Attribute o "append" apos) [e] [] cpos) pos) (bO X.K cls E2 λD E σ M=>to σ M (λx M1=>match x with
  |.ref a=>match M1 a with
   |some (.lst _)=>te σ M1 (λy M2=>match M2 a with
    |some (.lst ds)=>ds.length < sizeLine/\D.nx σ (put M2 a (.lst (ds++[y])))
    |_=>False) (E σ)
   |_=>False
  |_=>False) (E σ)):=by
 have hm:MtR X "list.append" rAppend:=kA;have h1:=B9 (X:=X) PySem.F.plainAttrs_list PySem.F.slot_list_append PySem.F.type_list_append hm ho (bz he pa_nil hs) hbase (by rw[hs];rfl) hline hs (by rfl)
 refine (pD h1 (by rfl)).imp λD2 σ H hl_=>ex9 hl_ λσ3 M D3 E3 rm ds lk h er=>?_
 refine aV rm ds (lk.at ds) h λv H1 x M1 dx rm1 t1 q1=>?_
 split at q1
 ·rename_i a;cases (show v=.ref a from dx);split at q1
  ·rename_i ds0 e0;obtain⟨vs0,f0,_⟩:=rm1 a _ e0;refine⟨.inl ⟨rfl,vs0,.of f0⟩,aV rm1 (ds.mono t1) ((lk.mono t1).at (ds.mono t1)) q1 λu H2 y M2 dy rm2 t2 q2=>?_⟩
   split at q2
   ·rename_i ds1 e1;obtain⟨vs,f1,dl⟩:=rm2 a _ e1;refine⟨a,vs,u,rfl,rfl,f1,by rw[<-dl.length];exact q2.1,?_⟩
    have tw:TM X.K H2 (upd H2 a (.lst (vs++[u]))):=.put f1 (λ_=>λz=>nomatch z) λ_ _=>λz=>nomatch z
    exact er.nx _ _ _ _ (rm2.write (u:=.lst (ds1++[y])) f1 (λ_=>λz=>nomatch z) (λ_ _=>λz=>nomatch z) ⟨_,ae,(dl.append (.one dy)).mono tw⟩) (((ds.mono t1).mono t2).mono tw) ((t1.trans t2).trans tw) q2.2
   ·exact q2.elim
  ·exact q1.elim
 ·exact q1.elim
end
end L2
namespace L2
open PySem PySem.Spec PyProof.Rows
noncomputable abbrev no2:St->XK:=λ_ _ _ _=>False
theorem sP{K:PySem.W.Frag}(h:DenS K H σ3 σ):DenS K H (aw js σ3) (iX js σ):=by
 refine⟨by simp[aw,iX],λi d e=>?_⟩
 unfold aw at e;unfold iX;rw[List.getElem?_map]at e ⊢;cases q:js[i]? with
 |none=>rw[q]at e;cases e
 |some o=>
  rw[q]at e;cases o with
  |none=>cases e
  |some j=>
   rw[Option.map_some,Option.bind_some]at e;cases z:σ3[j]? with
   |none=>rw[z]at e;cases e
   |some y=>
    rw[z]at e;have e:some (id y)=some (some d):=e;have e:y=some d:=Option.some.inj e;subst e;obtain⟨v,e1,e2⟩:=h.2 j d z;refine⟨v,?_,e2⟩;rw[Option.map_some,Option.bind_some,e1];rfl
section
variable {X:Cx}
theorem iG{Ee:XN}{E2e:St->XK}(lke:∀σc,LkE X.K cls H Ee (E2e σc))(rm:RelM X.K M H)(ds0:DenS X.K H σ3 σ)(lk:LkE X.K cls H E3 (E2 σ))
  (h:wi σ3 M (λds S M1=>∀p,M1 p=none->dj g (λσ M Q=>tt σ M Q (λ_ _=>False)) (λσ M Q=>te σ M Q Ee) S p Q ds [] (aw js σ3) (put M1 p (.lst []))) E3) (back:Back X.K H Q Q2) :
  pT js (oP X.K cls E2 wi) (qI X.K g) (cA X.K cls no2 tt) (low X.K cls E2e te) σ H Q2:=by
 refine⟨σ3,M,_,E3,rm,ds0,lk,h,λJ H1 ds S M1 ok rm1 tm1 hP p hp=>?_⟩
 have hP:=hP p (rm1.fresh hp);refine⟨λi m σc H'=>∃σ3c ys M',m=ds.length - i/\i<=ds.length/\RelM X.K M' H'/\DenS X.K H' σ3c σc/\TM X.K H1 H'/\dj g (λσ M Q=>tt σ M Q (λ_ _=>False)) (λσ M Q=>te σ M Q Ee) S p Q (ds.drop i) ys σ3c M',
  ⟨ds.length,_,[],_,by simp,Nat.zero_le _,rm1.lay (u:=.lst []) hp ⟨[],ae,.nil⟩,(sP ds0).mono (tm1.trans (.new hp)),.new hp,hP⟩,?_⟩
 rintro i m σc H' ⟨σ3c,ys,M',rfl,hil,rm',ds',tm',q⟩;by_cases hlt:i < ds.length
 ·rw[List.drop_eq_getElem_cons hlt]at q;obtain⟨s',hl,q⟩:=q;refine .inr ⟨ok.go i H' M' tm' rm' s' hlt,λx H2 y=>?_⟩
  obtain⟨tm2,rm2,d,hd,dv⟩:=ok.yld i H' M' x H2 tm' rm' s' hlt y;rw[List.getElem?_eq_getElem hlt]at hd;cases hd;refine⟨_,σ3c,M',_,dv,rm2,ds'.mono tm2,q,λσ5 H5 σ35 M5 rm5 ds5 tm5 q5=>?_⟩
  refine⟨σ35,M5,_,_,rm5,ds5,LkE.no,q5,λb H6 M6 rm6 tm6 q6=>?_⟩
  have tmA:TM X.K H1 H6:=((tm'.trans tm2).trans tm5).trans tm6;cases b with
  |true=>
   rw[if_pos rfl]at q6;dsimp only;rw[if_pos rfl];refine⟨σ35,M6,_,_,rm6,ds5.mono tm6,(lke _).mono (tm1.trans tmA),q6,λv H7 y M7 dy rm7 tm7 ⟨e7,q7⟩=>?_⟩
   obtain⟨vs,f7,dl⟩:=rm7 p _ e7;have tw:TM X.K H7 (upd H7 p (.lst (vs++[v]))):=.put f7 (λ_=>λz=>nomatch z) λ_ _=>λz=>nomatch z
   exact⟨vs,f7,by rw[<-dl.length];exact hl,ds.length - (i+1),by omega,σ35,ys++[y],_,rfl,hlt,rm7.write (u:=.lst (ys++[y])) f7 (λ_=>λz=>nomatch z) (λ_ _=>λz=>nomatch z) ⟨_,ae,(dl.append (.one dy)).mono tw⟩,((ds5.mono tm6).mono tm7).mono tw,(tmA.trans tm7).trans tw,q7⟩
  |false=>
   rw[if_neg Bool.false_ne_true]at q6;dsimp only;rw[if_neg Bool.false_ne_true];exact⟨ds.length - (i+1),by omega,σ35,ys,M6,rfl,hlt,rm6,ds5.mono tm6,tmA,q6⟩
 ·have e:i=ds.length:=by omega
  subst e;rw[List.drop_length]at q;exact .inl ⟨ok.stop H' M' tm' rm' q.1,back _ _ _ _ gd rm' (tm1.trans tm') q.2⟩
variable {q:Bool} (hok:d9 N js scope X.env.scope X.N=true) (hcalm:Qt q X) (hi:PIB q X tg iter (oP X.K cls E2 wi))
  (hg:∀C s2 H2 fp pn,PG (compCx X scope C N s2 H2 fp pn) tg (qI X.K g)) (ht:∀C s2 H2 fp pn,PIf (compCx X scope C N s2 H2 fp pn) ifs (cA X.K cls no2 tt)) (he:∀C s2 H2 fp pn,PE (compCx X scope C N s2 H2 fp pn) elt (low X.K cls no2 te))
  (hs:∀x,foldedSetIterable iter X.env x=pure x)
include hok hcalm hi hg ht he hs
theorem qu:PE X (.ListComp elt [⟨tg,iter,ifs,0⟩] scope pos) (low X.K cls E2 λσ M Q E=>wi σ M (λds S M1=>∀p,M1 p=none->dj g (λσ M Q=>tt σ M Q (λ_ _=>False)) (λσ M Q=>te σ M Q (λ_ _=>False)) S p Q ds [] (aw js σ) (put M1 p (.lst []))) E):=
 (v9 hok hcalm hi hg ht he hs).imp λσ H Q2 hl_=>ex9 hl_ λσ3 M Q E3 rm ds lk h back=>iG (λ_=>LkE.no) rm ds lk h back
theorem xR(fz:Bool):PE X (.ListComp elt [⟨tg,iter,ifs,0⟩] scope pos) (low X.K cls E2 λσ M Q E=>wi σ M (λds S M1=>∀p,M1 p=none->dj g (λσ M Q=>tt σ M Q (λ_ _=>False)) (λσ M Q=>te σ M Q (λ_ _=>False)) S p (if fz=true then fJ Q else Q) ds [] (aw js σ) (put M1 p (.lst []))) E):=by
 cases fz with
 |false=>exact qu hok hcalm hi hg ht he hs
 |true=>exact yu (qu hok hcalm hi hg ht he hs)
theorem pe{spos:Pos}(hN:X.N.Nodup)(hy:X.N[i]?=some y)(hl:X.env.scope.names.lookup y=some .local)(hsw:swapsWith (.ListComp elt [⟨tg,iter,ifs,0⟩] scope pos) (some (.Name y py)) spos.line X.env=pure true)(fz:Bool) :
  PS X (.Assign [.Name y py] (.ListComp elt [⟨tg,iter,ifs,0⟩] scope pos) spos) (bO X.K cls E2 λD E σ M=>wi σ M (λds S M1=>∀p,M1 p=none->dj g (λσ M Q=>tt σ M Q (λ_ _=>False)) (λσ M Q=>te σ M Q (λ_ _=>False)) S p (if fz=true then fJ (λx M1=>D.nx (σ.set i (some x)) M1) else (λx M1=>D.nx (σ.set i (some x)) M1)) ds [] (aw js σ) (put M1 p (.lst []))) (E σ)):=by
 cases fz with
 |false=>exact (jk hN hy hl hok hcalm hi hg ht he hs hsw).imp λD2 σ H hl_=>ex9 hl_ λσ3 M D3 E3 rm ds lk h er=>iG (λ_=>LkE.no) rm ds (lk.at ds) h λv H1 x M1 dx rm1 t1 q1=>er.nx _ _ _ _ rm1 ((ds.mono t1).set dx) t1 q1
 |true=>
  refine λpins s σ H D2 I hl_=>ex9 hl_ λσ3 M D3 E3 rm ds lk h er=>?_
  refine thn (jk hN hy hl hok hcalm hi hg ht he hs hsw pins s σ H {D2 with nx:=λσ' H'=>∃x v M1,σ'=σ.set i (some v)/\Den X.K H' x v/\RelM X.K M1 H'/\TM X.K H H'/\fJ (λx M1=>D3.nx (σ3.set i (some x)) M1) x M1} I
   (iG (λ_=>LkE.no) rm ds (lk.at ds) h λv H1 x M1 dx rm1 t1 q1=>⟨x,v,M1,rfl,dx,rm1,t1,q1⟩)) λfl s1 q=>?_
  cases fl with
  |next=>
   obtain⟨σ',H',I1,x,v,M1,rfl,dx,rm1,t1,q1⟩:=q;unfold fJ at q1;split at q1
   ·rename_i a;cases (show v=.ref a from dx);split at q1
    ·rename_i es e;obtain⟨vs,e1,dl⟩:=rm1 a _ e;obtain⟨o,I2⟩:=I1.freeze e1;exact⟨_,_,I2,er.nx _ _ _ _ (rm1.freeze e1) ((ds.mono (t1.trans (.freeze e1))).set (fq dl e1)) (t1.trans (.freeze e1)) q1⟩
    ·exact q1.elim
   ·exact q1.elim
  |brk=>exact q
  |cont=>exact q
  |ret u=>exact q
end
noncomputable def ou(K:PySem.W.Frag)(cls:Nat->Addr)(t:XE->Ends3->St3->MH->Prop):Ends->St->XK:=λD2 σ c dx H=>∃i σ3 M D3,(c=.ref (cls i.c)/\XD K H i dx)/\RelM K M H/\DenS K H σ3 σ/\t i D3 σ3 M/\ER K H D3 D2
theorem ER.goes{K:PySem.W.Frag}{D2:Ends}(er:ER K H D3 D2)(i:Nat):ER K H (mK D3 i) (D2.goes i):=
 ⟨λσ' H' σ3' M' rm ds t q=>er.nx _ _ _ _ rm ds.drop t q,er.rt,λσ' H' σ3' M' rm ds t q=>er.bk _ _ _ _ rm ds.drop t q,λσ' H' σ3' M' rm ds t q=>er.ct _ _ _ _ rm ds.drop t q⟩
section
variable {X:Cx}{cls:Nat->Addr}{E2:St->XK}{c n:Str}{k j ne:Nat}{sub:Nat->Nat->Bool}{b0:Stmt}{suite:List Stmt}{np hpos pos:Pos}{az:List ExceptHandler}{tb:Ends3->(St3->XN)->St3->MH->Prop}{tr:XE->Ends3->St3->MH->Prop}
theorem zo:PH X [] (ou X.K cls λ_ _ _ _=>False):=λ_ _ _ _ _ _ _ _ _ ⟨_,_,_,_,_,_,_,h,_⟩=>h.elim
theorem B2(hg:Gl X c)(hm:X.mg c=some (.ref (cls k)))(hsub:∀i,i < ne->PySem.W.exmOne X.K (.ref (cls i)) (.ref (cls k))=some (sub i k))(hN:X.N.Nodup)(hj:X.N[j]?=some n)(hl:X.env.scope.names.lookup n=some .local)
  (hs:∀a o u,mZ o->PSs (X.markedS a o u) (b0::suite) (bO X.K cls no2 tb)) (hr:PH X az (ou X.K cls tr)) (hdb:(c == ("__debug__" : Str))=false) :
  PH X (.ExceptHandler (some (.Name c np)) (some n) (b0::suite) hpos::az) (ou X.K cls λi D σ M=>i.c < ne/\if sub i.c k=true then (∀a,M a=none->tb (mK D j) (λ_ _ _=>False) (σ.set j (some (.ref a))) (put M a (.exc i (.ref (cls i.c))))) else tr i D σ M):=by
 intro pins s σ H D a cv dx xi ⟨i,σ3,M,D3,⟨e,xd⟩,rm,ds,⟨hi,h⟩,er⟩;subst e;refine BS (i:=j) hg hm hN hj hl hs hr hdb pins s σ H D a _ dx xi ?_;have z:=hsub i.c hi;cases q:sub i.c k with
 |true=>
  rw[q]at z;rw[if_pos q]at h;refine .inl ⟨z,λa' o ha=>?_⟩
  have tn:TM X.K H (upd H a' (.frz o (tj a' (.ref (cls i.c)) dx))):=.new ha;exact⟨_,_,_,_,rm.lay (u:=.exc i (.ref (cls i.c))) ha ⟨o,dx,ae,xd.mono tn⟩,(ds.mono tn).set gd,(λ_ _ _ _ _ _ _ _ w=>w.elim),h a' (rm.fresh ha),(er.goes j).mono tn⟩
 |false=>
  rw[q]at z;rw[if_neg (by rw[q];exact Bool.false_ne_true)]at h
  exact .inr ⟨z,i,σ3,M,D3,⟨rfl,xd⟩,rm,ds,h,er⟩
theorem Db(hg:Gl X c)(hm:X.mg c=some (.ref (cls k)))(hsub:∀i,i < ne->PySem.W.exmOne X.K (.ref (cls i)) (.ref (cls k))=some (sub i k))
  (hs:∀v,PSs (X.marked v) (b0::suite) (bO X.K cls no2 tb)) (hr:PH X az (ou X.K cls tr)) (hdb:(c == ("__debug__" : Str))=false) :
  PH X (.ExceptHandler (some (.Name c np)) none (b0::suite) hpos::az) (ou X.K cls λi D σ M=>i.c < ne/\if sub i.c k=true then tb D (λ_ _ _=>False) σ M else tr i D σ M):=by
 intro pins s σ H D a cv dx xi ⟨i,σ3,M,D3,⟨e,xd⟩,rm,ds,⟨hi,h⟩,er⟩;subst e;refine C8 hg hm hs hr hdb pins s σ H D a _ dx xi ?_;have z:=hsub i.c hi;cases q:sub i.c k with
 |true=>
  rw[q]at z;rw[if_pos q]at h;exact .inl ⟨z,σ3,M,D3,_,rm,ds,(λ_ _ _ _ _ _ _ _ w=>w.elim),h,er⟩
 |false=>
  rw[q]at z;rw[if_neg (by rw[q];exact Bool.false_ne_true)]at h
  exact .inr ⟨z,i,σ3,M,D3,⟨rfl,xd⟩,rm,ds,h,er⟩
theorem vY(hst:X.stack=X.env::X.outer)(hfr:X.env.frame=some X.env.locals)(hex:X.ex=[])(hh:PH X (h0::hs) th) :
  PS X (.Try body (h0::hs) [] [] pos) (λD σ H=>∀pn W,aS (CX1 X.prog X.w) (X.tryX pn W) (λσ cls d H=>th D σ cls d H)->∃t,PSs (X.tryX pn W) body t/\t D σ H):=by
 intro pins s σ H D I h;have key:∀(W:Value->Shared->Prop),aS (CX1 X.prog X.w) (X.tryX pins W) (λσ cls d H=>th D σ cls d H)->wpAny (model X.prog X.w) X.A (execs body X.env) (SP (X.tryX pins W) [] D) W s:=λW hP=>by
  obtain⟨t,ht,q⟩:=h pins W hP;exact ht [] s σ H D (I.tryX _) q
 refine wpAny_Try_except (wpAny_mono (key _ ?hx) (λf s1 q=>?_) (λe s1 q=>q))
 case hx=>
  intro pins' σ1 H1 s1 e s' I' hc;have I1:=I'.untry I.ok;obtain⟨a,cls,B,H2,dx,rfl,os,bare,un,hok,⟨fl0,dd0⟩,ha,inc,he⟩:=hc;have hnew:=pV fl0 inc;obtain⟨a0,fl⟩:=fl0;have hfl:Heap.FlyingW B (X.env::X.outer) a cls a0 s'.heap:=hst▸fl;have hA:X.A.frames=some (X.env::X.outer):=hst▸I.ok.frames;refine oj hA hfr hfl dd0 λh4 held up4 dd4=>pP held dd4 λh5 fl5 up5 dd5=>?_
  refine hh pins _ σ1 H2 D a cls dx ⟨B,a0,I1.behind (s':=s') (h4:=h5) os bare un hok inc fl5.1 (up4.trans up5),⟨hst▸fl5,dd5⟩,ha,?_,λp hp z=>?_,λh6 st6 up6=>I1.behind (s':=s') (h4:=h6) os bare un hok inc st6 ((up4.trans up5).trans up6)⟩ he
  ·cases q:X.s₀.heap.get? a with
   |none=>rfl
   |some o=>
    obtain⟨o1,e1⟩:=I1.base.there a o q (by rw[hex];exact λz=>nomatch z)
    rw[hnew]at e1;cases e1
  ·have e1:=(I1.pin p hp).1;rw[z,hnew]at e1;cases e1
 ·match f,q with
  |.next,⟨σ',H',J,q⟩=>exact wpAny_execs_nil ⟨σ',H',J.untry I.ok,q⟩
  |.brk,⟨σ',H',J,q⟩=>exact⟨σ',H',J.untry I.ok,q⟩
  |.cont,⟨σ',H',J,q⟩=>exact⟨σ',H',J.untry I.ok,q⟩
  |.ret u,⟨v,σ',H',J,r,q⟩=>exact⟨v,σ',H',J.untry I.ok,r,q⟩
theorem Bf(hst:X.stack=X.env::X.outer)(hfr:X.env.frame=some X.env.locals)(hex:X.ex=[])(hh:PH X (h0::hs) (ou X.K cls th))
  (hb:∀pn W E2',aS (CX1 X.prog X.w) (X.tryX pn W) E2'->PSs (X.tryX pn W) body (bO X.K cls E2' tb)) :
  PS X (.Try body (h0::hs) [] [] pos) (bO X.K cls E2 λD _ σ M=>tb D (λσ' i M'=>th i D σ' M') σ M):=
 (vY hst hfr hex hh).imp λD2 σ H ⟨σ3,M,D3,E3,rm,ds,lk,h,er⟩ pn W hP=>⟨_,hb pn W _ hP,σ3,M,D3,_,rm,ds,λσ3' σ' i M' H' t ds' rm' q dx xd=>⟨i,σ3',M',D3,⟨rfl,xd⟩,rm',ds',q,er.mono t⟩,h,er⟩
end
end L2
namespace L2
open PySem PySem.Spec PyProof.Rows
section
variable {X:Cx}{s:Shared}{kvs:List (Key×V)}{o:Obj}
end
section
variable {X:Cx}{apos cpos:Pos}
end
end L2
namespace L2
open PySem PySem.Spec PyProof.Rows
section
variable {X:Cx}{s:Shared}
end
section
variable {X:Cx}{apos cpos:Pos}
end
end L2
namespace L2
open PySem PySem.Spec PyProof.Rows PySem.W
section
variable {X:Cx}
end
end L2
namespace L2
open PySem PySem.Spec PyProof.Rows
section
variable {X:Cx}{cls:Nat->Addr}{E2:St->XK}{tg o:Expr}
end
end L2
namespace L2
open PySem PySem.Spec PyProof.Rows
section
variable {X:Cx}{apos cpos:Pos}
end
end L2
namespace L2
open PySem PySem.Spec PyProof.Rows
structure Cfg where
 N:List Str
 sc:Scope
 fns:List (Option Str×Nat)
 exc:List Str
 kln:List Str
 gln:List Str
 xin:List (Nat×Nat)
 calm:Bool
 soft:Bool:=false
 own:Bool
 tr:Bool
 fn:Bool
 cel:List (Str×NameKind):=[]
noncomputable def glB(c:Cfg)(x:Str):Bool:=c.sc.names.lookup x == some .globalImplicit
noncomputable def va(sc:Scope)(x:Str):Bool:=match sc.names.lookup x with
 |some .local=>true
 |some .cell=>true
 |some .free=>true
 |_=>false
noncomputable def vo(c:Cfg)(x:Str):Bool:=c.sc.names.lookup x == some .local||(c.fn&&c.sc.names.lookup x == some .cell)||(c.cel.lookup x == some .cell&&c.sc.names.lookup x == some .cell)
noncomputable def eZ:Expr->Bool
 |.Starred ..=>false
 |_=>true
noncomputable def ls:Expr->Bool
 |.Set ..=>false
 |_=>true
noncomputable def kE:Expr->Bool
 |.ListComp ..=>false
 |.SetComp ..=>false
 |.DictComp ..=>false
 |_=>true
noncomputable def vA:Expr->Bool
 |.Tuple ..=>false
 |_=>true
noncomputable def le:Expr->Bool
 |.Slice ..=>false
 |_=>true
noncomputable def wB:Expr->Bool
 |.Call ..=>false
 |_=>true
noncomputable def qc:Expr->Bool
 |.Call (.Name _ _) [] [] _=>false
 |_=>true
noncomputable def pS:Expr->Bool
 |.UnaryOp ..=>false
 |.BoolOp ..=>false
 |.IfExp ..=>false
 |.Compare ..=>false
 |_=>true
noncomputable def jJ:BI->String
 |.len=>"len"|.list _=>"list"|.all=>"all"|.any=>"any"|.int=>"int"|.strL=>"str"
noncomputable def jd:BM->String
 |.index=>"index"|.insert=>"insert"|.startswith=>"startswith"|.split=>"split"|.splitM=>"split"|.extend=>"extend"|.join=>"join"
noncomputable def biNames:List Str:=["len","abs","max","min","str","list","tuple","isinstance","range","int","bool","dict","ValueError","enumerate","all","any","sum","zip","reversed","sorted"]
noncomputable def zZ(sc osc:Scope):Scope:={sc with names:=sc.names.map λ(n,k)=>if (k == .free&&osc.kind == .function&&osc.names.lookup n == some .cell) then (n,.cell) else (n,k)}
noncomputable def Cfg.comp(c:Cfg)(N:List Str)(sc:Scope):Cfg:={c with N:=N,sc:=zZ sc c.sc,soft:=false,own:=false,tr:=false,fn:=false,cel:=sc.names}
noncomputable def Cfg.trying(c:Cfg):Cfg:={c with own:=false}
noncomputable def Cfg.caught(c:Cfg)(b:Bool):Cfg:={c with calm:=false,soft:=b,own:=false,tr:=false}
noncomputable def sq:II->Bool
 |.seqL _=>true
 |_=>false
noncomputable def biS:BI->Bool
 |.int=>true
 |_=>false
noncomputable def okG(c:Cfg):ITg->Expr->Bool
 |.name i,e=>match e with
  |.Name x _=>(c.N[i]? == some x)&&vo c x
  |_=>false
 |.tup is,e=>match e with
  |.Tuple es _ _=>c.calm&&bQ c.N c.sc c.fn is es
  |_=>false
noncomputable def Aq:II->Expr->Bool
 |_,_=>true
noncomputable def okP(c:Cfg):List (Str ⊕ Nat)->List Expr->Bool
 |[],es=>es.isEmpty
 |.inl x::r,es=>match es with
  |.Constant (.str y) _ _::es=>decide (x=y)&&okP c r es
  |_=>false
 |.inr i::r,es=>match es with
  |.FormattedValue (.Name x _) k none _::es=>decide (k = -1)&&((c.N[i]? == some x)&&va c.sc x&&!(x == ("__debug__" : Str))&&!(x == ("__classdict__" : Str)))&&okP c r es
  |_=>false
mutual
noncomputable def okE:IE->Cfg->Expr->Bool
 |.var i,c,e=>match e with
  |.Name x _=>(c.N[i]? == some x)&&va c.sc x&&!(x == ("__debug__" : Str))&&!(x == ("__classdict__" : Str))
  |_=>false
 |.con d,_,e=>match e with
  |.Constant k _ _=>match k,d with
   |.int i,.int j=>decide (i=j)
   |.bool i,.bl j=>decide (i=j)
   |.none,.non=>true
   |.str i,.str j=>decide (i=j)
   |_,_=>false
  |_=>false
 |.bin op a b,c,e=>match e with
  |.BinOp x op' y _=>decide (op=op')&&okE a c x&&okE b c y
  |_=>false
 |.neg a,c,e=>match e with
  |.UnaryOp op x _=>decide (op=.USub)&&okE a c x
  |_=>false
 |.cat _ a b,c,e=>match e with
  |.BinOp x op' y _=>decide (op'=.Add)&&okE a c x&&okE b c y
  |_=>false
 |.cmp op a b,c,e=>match e with
  |.Compare x [op'] [y] _=>decide (op=op')&&ls y&&okE a c x&&okE b c y
  |_=>false
 |.chain op1 op2 a b d,c,e=>match e with
  |.Compare x [op1',op2'] [y,z] _=>decide (op1=op1')&&decide (op2=op2')&&ls z&&okE a c x&&okE b c y&&okE d c z
  |_=>false
 |.and a b,c,e=>match e with
  |.BoolOp op (x::y::r) p=>decide (op=.And)&&okE a c x&&(match r with|[]=>okE b c y|_::_=>okE b c (.BoolOp .And (y::r) p))
  |_=>false
 |.or a b,c,e=>match e with
  |.BoolOp op (x::y::r) p=>decide (op=.Or)&&okE a c x&&(match r with|[]=>okE b c y|_::_=>okE b c (.BoolOp .Or (y::r) p))
  |_=>false
 |.not a,c,e=>match e with
  |.UnaryOp op x _=>decide (op=.Not)&&okE a c x
  |_=>false
 |.ifx t a b,c,e=>match e with
  |.IfExp x y z _=>okT t c x&&okE a c y&&okE b c z
  |_=>false
 |.tup es,c,e=>match e with
  |.Tuple xs _ _=>okA es c xs
  |_=>false
 |.lst _ es,c,e=>match e with
  |.List xs _=>okA es c xs
  |_=>false
 |.frz a,c,e=>okE a c e
 |.ix a b,c,e=>match e with
  |.Subscript x y _=>le y&&okE a c x&&okE b c y
  |_=>false
 |.sl _ a lo hi,c,e=>match e with
  |.Subscript x (.Slice l h none _) _=>okE a c x&&okO lo c l&&okO hi c h
  |_=>false
 |.call f es,c,e=>match e with
  |.Call (.Name x _) args [] _=>c.calm&&(match c.fns[f]? with|some p=>decide (some x=p.1)&&decide (args.length=p.2)|none=>false)&&glB c x&&!(x == ("__debug__" : Str))&&okA es c args
  |_=>false
 |.bi b es,c,e=>match e with
  |.Call (.Name x _) args [] _=>(c.calm||biS b)&&decide (x=(jJ b:Str))&&glB c x&&!args.isEmpty&&okA es c args
  |_=>false
 |.isB a t,c,e=>match e with
  |.Call (.Name x _) [y,.Name z _] [] _=>decide (x=("isinstance" : Str))&&decide (z=(cb t:Str))&&glB c x&&glB c z&&eZ y&&okE a c y
  |_=>false
 |.isC a k,c,e=>match e with
  |.Call (.Name x _) [y,.Name z _] [] _=>decide (x=("isinstance" : Str))&&(c.exc[k]? == some z)&&glB c x&&glB c z&&!(z == ("__debug__" : Str))&&eZ y&&okE a c y
  |_=>false
 |.rev _ a,c,e=>match e with
  |.Subscript x (.Slice none none (some (.UnaryOp op (.Constant k _ _) _)) _) _=>decide (op=.USub)&&(match k with|.int i=>decide (i=1)|_=>false)&&okE a c x
  |_=>false
 |.comp _ N js tg it cond elt,c,e=>match e with
  |.ListComp el [⟨tgE,iter,ifs,as⟩] scope _=>(c.calm||c.soft&&sq it)&&decide (as=0)&&Aq it tgE&&ls iter&&d9 N js scope c.sc c.N&&okI it c iter&&okG (c.comp N scope) tg tgE&&vy cond (c.comp N scope) ifs&&okE elt (c.comp N scope) el
  |_=>false
 |.lrng _ a,c,e=>match e with
  |.Call (.Name x _) [.Call (.Name y _) [z] [] _] [] _=>c.calm&&decide (x=("list" : Str))&&decide (y=("range" : Str))&&glB c x&&glB c y&&eZ z&&okE a c z
  |_=>false
 |.sm a,c,e=>match e with
  |.Call (.Name x _) [y] [] _=>(c.calm||c.soft)&&decide (x=("sum" : Str))&&glB c x&&eZ y&&okE a c y
  |_=>false
 |.fld a f,c,e=>match e with
  |.Attribute x m _=>decide (m=fnm f)&&qc x&&okE a c x
  |_=>false
 |.make _ i es,c,e=>match e with
  |.Call (.Name x _) args [] _=>c.calm&&(c.kln[i]? == some x)&&glB c x&&!(x == ("__debug__" : Str))&&okA es c args
  |_=>false
 |.meth a m es,c,e=>match e with
  |.Call (.Attribute x n ap) args [] cp=>c.calm&&decide (n=fnm m)&&qc x&&(ap.endLine == cp.line)&&decide (args.length < 30)&&okE a c x&&okA es c args
  |_=>false
 |.isK a j,c,e=>match e with
  |.Call (.Name x _) [y,.Name z _] [] _=>decide (x=("isinstance" : Str))&&(c.kln[j]? == some z)&&glB c x&&glB c z&&!(z == ("__debug__" : Str))&&eZ y&&okE a c y
  |_=>false
 |.glo k,c,e=>match e with
  |.Name x _=>(c.gln[k]? == some x)&&glB c x&&!(x == ("__debug__" : Str))
  |_=>false
 |.fst ps,c,e=>match e with
  |.JoinedStr (e1::e2::es) _=>okP c ps (e1::e2::es)
  |_=>false
 |.bm b o es,c,e=>match e with
  |.Call (.Attribute x n ap) args [] cp=>decide (n=(jd b:Str))&&qc x&&(ap.endLine == cp.line)&&decide (args.length < 30)&&okE o c x&&okA es c args
  |_=>false
 |.dnew _,_,e=>match e with
  |.Dict [] [] _=>true
  |_=>false
 |.rep _ a b,c,e=>match e with
  |.BinOp x op' y _=>decide (op'=.Mult)&&okE a c x&&okE b c y
  |_=>false
noncomputable def okT:IT->Cfg->Expr->Bool
 |.val a,c,e=>pS e&&okE a c e
 |.cmp op a b,c,e=>match e with
  |.Compare x [op'] [y] _=>decide (op=op')&&ls y&&okE a c x&&okE b c y
  |_=>false
 |.chain op1 op2 a b d,c,e=>match e with
  |.Compare x [op1',op2'] [y,z] _=>decide (op1=op1')&&decide (op2=op2')&&ls z&&okE a c x&&okE b c y&&okE d c z
  |_=>false
 |.chain3 op1 op2 op3 a b d f,c,e=>match e with
  |.Compare x [op1',op2',op3'] [y,z,u] _=>decide (op1=op1')&&decide (op2=op2')&&decide (op3=op3')&&ls u&&okE a c x&&okE b c y&&okE d c z&&okE f c u
  |_=>false
 |.and a b,c,e=>match e with
  |.BoolOp op (x::y::r) p=>decide (op=.And)&&okT a c x&&(match r with|[]=>okT b c y|_::_=>okT b c (.BoolOp .And (y::r) p))
  |_=>false
 |.or a b,c,e=>match e with
  |.BoolOp op (x::y::r) p=>decide (op=.Or)&&okT a c x&&(match r with|[]=>okT b c y|_::_=>okT b c (.BoolOp .Or (y::r) p))
  |_=>false
 |.not a,c,e=>match e with
  |.UnaryOp op x _=>decide (op=.Not)&&okT a c x
  |_=>false
noncomputable def okA:IA->Cfg->List Expr->Bool
 |.nil,_,es=>es.isEmpty
 |.cons a r,c,es=>match es with
  |x::xs=>eZ x&&okE a c x&&okA r c xs
  |[]=>false
noncomputable def okO:IO->Cfg->Option Expr->Bool
 |.no,_,o=>o.isNone
 |.yes a,c,o=>match o with
  |some x=>okE a c x
  |none=>false
noncomputable def vy:ITO->Cfg->List Expr->Bool
 |.no,_,es=>es.isEmpty
 |.yes t,c,es=>match es with
  |[x]=>okT t c x
  |_=>false
noncomputable def okI:II->Cfg->Expr->Bool
 |.seq a,c,e=>okE a c e
 |.seqL a,c,e=>okE a c e
 |.rng1 a,c,e=>match e with
  |.Call (.Name x _) [y] [] _=>decide (x=("range" : Str))&&glB c x&&eZ y&&okE a c y
  |_=>false
end
noncomputable def swB(c:Cfg)(scope:Scope)(x:Str)(l1 l2:Nat):Bool:=c.sc.kind == .function&&c.sc.names.lookup x == some .local&&l1 == l2&&!(scope.names.any λ(n,k)=>n == x&&(k == .local||k == .cell))
mutual
noncomputable def okS:IS->Cfg->Stmt->Bool
 |.set i a,c,s=>match s with
  |.Assign [.Name x px] e _=>(c.N[i]? == some x)&&vo c x&&okE a c e&&(kE e||match e,a with
   |.ListComp _ _ scope pos,.comp ..=>swB c scope x px.line pos.line||c.sc.names.lookup x == some .cell
   |_,_=>false)
  |_=>false
 |.unp is a,c,s=>match s with
  |.Assign [.Tuple es _ _] e _=>c.calm&&bQ c.N c.sc c.fn is es&&vA e&&kE e&&okE a c e
  |_=>false
 |.expr a,c,s=>match s with
  |.Expr e _=>kE e&&okE a c e
  |_=>false
 |.ret a,c,s=>match s with
  |.Return (some e) _=>okE a c e
  |_=>false
 |.ifs t a b,c,s=>match s with
  |.If x y z _=>okT t c x&&jh a c y&&jh b c z
  |_=>false
 |.for_ tg it body,c,s=>match s with
  |.For tgE iter b [] _=>c.own&&Aq it tgE&&c.calm&&ls iter&&okG c tg tgE&&okI it c iter&&jh body c b
  |_=>false
 |.raise k es,c,s=>match s with
  |.Raise (some (.Call (.Name x _) args [] _)) none _=>(c.xin.lookup k).isNone&&c.own&&c.calm&&(c.exc[k]? == some x)&&glB c x&&!(x == ("__debug__" : Str))&&!args.isEmpty&&okA es c args
  |_=>false
 |.try_ body hs,c,s=>match s with
  |.Try b handlers [] [] _=>c.tr&&!handlers.isEmpty&&jh body c.trying b&&ss hs c handlers
  |_=>false
 |.app o a,c,s=>match s with
  |.Expr (.Call (.Attribute x m ap) [y] [] cp) _=>decide (m=("append" : Str))&&wB x&&(ap.endLine == cp.line)&&eZ y&&okE o c x&&okE a c y
  |_=>false
 |.del _,_,_=>false
 |.fset o f a,c,s=>match s with
  |.Assign [.Attribute x m _] v _=>decide (m=fnm f)&&kE v&&okE o c x&&okE a c v
  |_=>false
 |.ixset o i a,c,s=>match s with
  |.Assign [.Subscript x y _] v _=>le y&&kE v&&okE o c x&&okE i c y&&okE a c v
  |_=>false
noncomputable def jh:ISs->Cfg->List Stmt->Bool
 |.nil,_,sts=>sts.isEmpty
 |.cons s r,c,sts=>match s with
  |.del _=>jh r c sts
  |s=>match sts with
   |st::az=>okS s c st&&jh r c az
   |[]=>false
noncomputable def ss:IHs->Cfg->List ExceptHandler->Bool
 |.nil,_,hs=>hs.isEmpty
 |.cons k nm body r,c,hs=>match hs with
  |.ExceptHandler (some (.Name x _)) nmE bodyE _::az=>(c.exc[k]? == some x)&&glB c x&&!(x == ("__debug__" : Str))&&(match nm,nmE with
   |none,none=>true
   |some j,some n=>(c.N[j]? == some n)&&c.sc.names.lookup n == some .local
   |_,_=>false)&&!bodyE.isEmpty&&jh body (c.caught nm.isSome) bodyE&&ss r c az
  |_=>false
end
end L2
namespace L2
open PySem PySem.Spec PyProof.Rows
structure Good (c:Cfg)(W:WC)(X:Cx)(E2:St->XK):Prop where
 N:X.N=c.N
 nd:c.N.Nodup
 sc:X.env.scope=c.sc
 un:X.A.units+64 < cLine
 calm:c.calm=true->X.calm=true
 soft:c.soft=true->HdA X
 fnx:c.fn=true->∀x,X.fn x=true
 cel:∀x,c.cel.lookup x=some .cell->X.fn x=true
 own:c.own=true->PassesOwn (model X.prog X.w) X.A X.env X.xe/\∃E,(E2=λ_=>E)/\lS X E/\qg X E/\Room 2 X.A/\tP X E
 tr:c.tr=true->X.stack=X.env::X.outer/\X.env.frame=some X.env.locals/\X.ex=[]
 fns:c.calm=true->∃k,Room (k+1) X.A/\∀f,f < c.fns.length->rM X W.cls k (W.fad f) (W.call f)
 fnn:∀f x n,c.fns[f]?=some (some x,n)->X.mg x=some (.ref (W.fad f))
 kok:∀i,i < W.nk->KOk X.K W.toWB W.fad i
 kin:∀i,i < W.nk->∃f,W.ini i=some f
 kfi:∀i f,i < W.nk->W.ini i=some f->f < c.fns.length
 kfm:∀i m f,i < W.nk->W.mth i m=some f->f < c.fns.length
 knm:∀i x,c.kln[i]?=some x->X.mg x=some (.ref (W.kls i))/\i < W.nk
 glo:∀k x,c.gln[k]?=some x->∃u v,X.mg x=some u/\RelV v u/\wm X.K X.w.params (W.glo k) v
 exc:∀i x,c.exc[i]?=some x->X.mg x=some (.ref (W.cls i))/\(c.xin.lookup i=none->wg X.K (W.cls i))/\∀j,j < W.ne->PySem.W.exmOne X.K (.ref (W.cls j)) (.ref (W.cls i))=some (W.sub j i)
 exi:∀i,i < W.ne->ExcI X.K (W.cls i)/\PySem.W.kitOne X.K (.ref (W.cls i)) (.type "ValueError")=some true/\∀j x,c.exc[j]?=some x->PySem.W.kitOne X.K (.ref (W.cls i)) (.ref (W.cls j))=some (W.sub i j)
 xi:∀i f,c.xin.lookup i=some f->W.xin i=some f/\∃fI fd ps,XIni X.K (W.cls i) fI (fnm f)/\Binds X.K fd ps []/\FnOk X.prog X.w X.K X.mg X.base (CX1 X.prog X.w) 1 fI fd ps (sY (cpF f) X.K (W.cls i) (fnm f))
 xn:∀i f,i < W.ne->W.xin i=some f->NoAttr X.K (W.cls i) (fnm f)
 bi:∀x∈biNames,X.mg x=none
 dig:rb X.K
 pass:aS (CX1 X.prog X.w) X E2
section
variable {c:Cfg}{X:Cx}
theorem Good.gl(G:Good c W X E2)(h:glB c x=true):Gl X x:=by
 show X.env.scope.names.lookup x=_;rw[G.sc];exact beq_iff_eq.mp h
theorem Good.loc(G:Good c W X E2)(h:vo c x=true):Loc X.env.scope x/\(X.fn x=true\/X.env.scope.names.lookup x=some .local):=by
 unfold vo at h;rw[G.sc];simp only[Bool.or_eq_true,Bool.and_eq_true,beq_iff_eq]at h;rcases h with (h|⟨h1,h2⟩)|⟨h1,h2⟩
 ·exact⟨.inl h,.inr h⟩
 ·exact⟨.inr h2,.inl (G.fnx h1 x)⟩
 ·exact⟨.inr h2,.inl (G.cel x h1)⟩
theorem Good.vis(G:Good c W X E2)(h:va c.sc x=true):Vis X.env.scope x:=by
 rw[G.sc];unfold va at h;split at h
 ·exact .inl (by assumption)
 ·exact .inr (.inl (by assumption))
 ·exact .inr (.inr (by assumption))
 ·cases h
theorem Good.at{i:Nat}{x:Str}(G:Good c W X E2)(h:(c.N[i]? == some x)=true):X.N[i]?=some x:=by rw[G.N];exact beq_iff_eq.mp h
theorem Good.part(G:Good c W X E2):∀{ps:List (Str ⊕ Nat)}{es:List Expr},okP c ps es=true->Paired (nS X) ps es
 |[],es,h=>by
  unfold okP at h;rw[List.isEmpty_iff.mp h];exact .nil
 |.inl x::r,es,h=>by
  unfold okP at h;split at h
  ·simp only[Bool.and_eq_true,decide_eq_true_eq]at h;obtain⟨rfl,h⟩:=h;exact .cons ⟨_,_,rfl⟩ (G.part h)
  ·cases h
 |.inr i::r,es,h=>by
  unfold okP at h;split at h
  ·simp only[Bool.and_eq_true,decide_eq_true_eq,Bool.not_eq_true']at h;obtain⟨⟨rfl,⟨⟨h1,h2⟩,h3⟩,h4⟩,h⟩:=h;exact .cons ⟨_,_,_,rfl,G.at h1,G.vis h2,h3,h4⟩ (G.part h)
  ·cases h
theorem Good.ndX(G:Good c W X E2):X.N.Nodup:=by rw[G.N];exact G.nd
theorem Good.names(G:Good c W X E2)(h:bQ c.N c.sc c.fn is es=true):bQ X.N X.env.scope c.fn is es=true:=by rw[G.N,G.sc];exact h
theorem Good.trying(G:Good c W X E2)(h:aS (CX1 X.prog X.w) (X.tryX pn V') E2'):Good c.trying W (X.tryX pn V') E2':=
 ⟨G.N,G.nd,G.sc,G.un,G.calm,G.soft,G.fnx,G.cel,(λz=>nomatch z),G.tr,G.fns,G.fnn,G.kok,G.kin,G.kfi,G.kfm,G.knm,G.glo,G.exc,G.exi,G.xi,G.xn,G.bi,G.dig,h⟩
theorem oX:aS (CX1 P w) X no2:=λ_ _ _ _ _ _ _ h=>by
 obtain⟨_,_,_,_,_,_,_,_,_,_,_,_,_,he⟩:=h;exact he.elim
theorem Good.caught(G:Good c W X E2)(v:Value):Good (c.caught false) W (X.marked v) no2:=
 ⟨G.N,G.nd,G.sc,G.un,(λz=>nomatch z),(λz=>nomatch z),G.fnx,G.cel,(λz=>nomatch z),(λz=>nomatch z),(λz=>nomatch z),G.fnn,G.kok,G.kin,G.kfi,G.kfm,G.knm,G.glo,G.exc,G.exi,G.xi,G.xn,G.bi,G.dig,oX⟩
theorem Good.caughtS(G:Good c W X E2)(a:Addr)(o:Obj)(u:HO)(l:mZ o):Good (c.caught true) W (X.markedS a o u) no2:=
 ⟨G.N,G.nd,G.sc,G.un,(λz=>nomatch z),λ_=>.inr ⟨a,o,u,rfl,ae,l⟩,G.fnx,G.cel,(λz=>nomatch z),(λz=>nomatch z),(λz=>nomatch z),G.fnn,G.kok,G.kin,G.kfi,G.kfm,G.knm,G.glo,G.exc,G.exi,G.xi,G.xn,G.bi,G.dig,oX⟩
theorem Good.qt(G:Good c W X E2)(h:(c.calm||c.soft&&b)=true):Qt b X:=by
 rw[Bool.or_eq_true,Bool.and_eq_true]at h;cases b with
 |false=>exact h.elim G.calm λz=>nomatch z.2
 |true=>exact h.elim (λz=>.inl (G.calm z)) λz=>G.soft z.1
theorem Good.comp(G:Good c W X E2){N:List Str}{js:List (Option Nat)}{scope:Scope}(h:d9 N js scope c.sc c.N=true)(C:Addr)(s2:Shared)(H2:Hp)(fp:List Addr)(pn:List (Addr×Obj)):Good (c.comp N scope) W (compCx X scope C N s2 H2 fp pn) no2:=by
 have hc:=kl h;refine⟨rfl,hc.nd,?_,G.un,G.calm,(λz=>nomatch z),(λz=>nomatch z),(λx z=>beq_iff_eq.mpr z),(λz=>nomatch z),(λz=>nomatch z),G.fns,G.fnn,G.kok,G.kin,G.kfi,G.kfm,G.knm,G.glo,G.exc,G.exi,G.xi,G.xn,G.bi,G.dig,oX⟩
 show relabel scope X.env=zZ scope c.sc;unfold relabel zZ;rw[<-G.sc];rfl
end
theorem cI(h:eZ e=true):starEach (e::es) env=(false,eval e env)::starEach es env:=by
 cases e<;>first|rfl|cases h
theorem rO(h:ls e=true):∀x,foldedSetIterable e env x=pure x:=by
 intro x;cases e<;>first|rfl|cases h
theorem fZ(h:ls e=true):behindInMarks op e=false:=by
 cases e<;>first|rfl|cases h
theorem jC(h:kE e=true):swapsWith e t n env=pure false:=by
 cases e<;>first|rfl|cases h
theorem qT{e:Expr}(h:pS e=true):∀whole,isTrue e env whole=(do let v<-whole;standAt e.pos;holding [v] (truthy v)):=by
 intro whole;cases e<;>first|rfl|cases h
theorem wj(h:le e=true):lJ e:=by
 intro o i;cases e<;>first|rfl|cases h
theorem zp{e:Expr}{m:Str}{env:Env}{whole:Sem Value}(h:wB e=true):attributeBase e m env whole=whole:=by
 cases e<;>first|rfl|cases h
theorem gp{e:Expr}{m:Str}{env:Env}{whole:Sem Value}(h:qc e=true):attributeBase e m env whole=whole:=by
 cases e with
 |Call f as ks p=>
  cases f with
  |Name x px=>
   cases as with
   |nil=>
    cases ks with
    |nil=>cases h
    |cons _ _=>rfl
   |cons _ _=>rfl
  |_=>rfl
 |_=>rfl
theorem zt(h:le i=true):∀v,assign (.Subscript o i p) env v=(do
   let ov<-holding [v] (eval o env)
   let iv<-holding [v,ov] (eval i env)
   standAt p
   holding [v,ov,iv] (setItem ov iv v)
   release [v,ov,iv] []):=by
 intro v;cases i<;>first|rfl|cases h
theorem uK(h:vA e=true):swappedStores [.Tuple es k p] e env=pure none:=by
 cases e<;>first|rfl|cases h
theorem dh(pos:Pos):∀{r:IA}{c:Cfg}{es:List Expr}{env:Env},okA r c es=true->(backTo pos (starEach es env)).any (·.1)=false
 |.nil,c,es,env,h=>by
  simp only[okA]at h;cases es with
  |nil=>rfl
  |cons _ _=>cases h
 |.cons a r,c,es,env,h=>by
  cases es with
  |nil=>simp[okA]at h
  |cons x xs=>
   simp only[okA,Bool.and_eq_true]at h;rw[cI h.1.1];show (false||(backTo pos (starEach xs env)).any (·.1))=false
   rw[dh pos h.2];rfl
end L2
namespace L2
open PySem PySem.Spec PyProof.Rows
theorem wN(h:PE X a t):PE X (.BoolOp op [a] pos) t:=xW h
theorem z8(b:BI):((jJ b:String):Str)∈biNames:=by
 cases b with
 |list fz=>cases fz<;>decide +kernel
 |_=>decide +kernel
theorem zD(t:BT):((cb t:String):Str)∈biNames:=by cases t<;>decide +kernel
theorem vw{X:Cx}(hu:X.A.units+64 < cLine)(hc:biS b=false->X.calm=true)(hd:rb X.K)(hg:Gl X (jJ b:String))(hm:X.mg (jJ b:String)=none)(ha:PA X (e::es) (ez X.K cls E2 tr))
  (he:starEach (e::es) X.env=(false,eval e X.env)::starEach es X.env) (hpl:(backTo pos (starEach es X.env)).any (·.1)=false):PE X (.Call (.Name (jJ b:String) p) (e::es) [] pos) (low X.K cls E2 λσ M Q E=>tr σ M (λxs M1=>rBi b xs M1 Q) E):=by
 cases b with
 |len=>exact l7 xb hg hm (by decide +kernel) ha (by decide +kernel) (by decide +kernel) he hpl
 |list fz=>exact lj (v6 fz (hc rfl)) hg hm (by cases fz<;>decide +kernel) ha (by cases fz<;>decide +kernel) (by cases fz<;>decide +kernel) he hpl
 |all=>exact l7 (wH true (hc rfl)) hg hm (by decide +kernel) ha (by decide +kernel) (by decide +kernel) he hpl
 |any=>exact l7 (wH false (hc rfl)) hg hm (by decide +kernel) ha (by decide +kernel) (by decide +kernel) he hpl
 |int=>exact lj (yw hd) hg hm (by decide +kernel) ha (by decide +kernel) (by decide +kernel) he hpl
 |strL=>exact lj (wa (hc rfl) hd) hg hm (by decide +kernel) ha (by decide +kernel) (by decide +kernel) he hpl
theorem vb{X:Cx}{apos pos:Pos}(hu:X.A.units+64 < cLine)(ho:PE X o (low X.K cls E2 to))(ha:PA X (e::es) (ez X.K cls E2 tr))
  (hb:attributeBase o (jd b:String) X.env (eval o X.env)=eval o X.env) (hn:(e::es).length < 30) (hl:(apos.endLine == pos.line)=true) (he:starEach (e::es) X.env=(false,eval e X.env)::starEach es X.env) (hpl:(backTo pos (starEach es X.env)).any (·.1)=false) :
  PE X (.Call (.Attribute o (jd b:String) apos) (e::es) [] pos) (low X.K cls E2 λσ M Q E=>to σ M (λx M1=>tyB b x M1=true/\tr σ M1 (λxs M2=>rBm b x xs M2 Q) E) E):=by
 cases b with
 |index=>exact oU PySem.F.plainAttrs_list PySem.F.slot_list_index PySem.F.type_list_index (nh hu) (lU λ_ _ h=>h) ho ha hb hn hl he hpl
 |insert=>exact oU PySem.F.plainAttrs_list PySem.F.slot_list_insert PySem.F.type_list_insert j8 gh ho ha hb hn hl he hpl
 |startswith=>exact oU PySem.F.plainAttrs_str PySem.F.slot_str_startswith PySem.F.type_str_startswith fk gk ho ha hb hn hl he hpl
 |split=>exact oU PySem.F.plainAttrs_str PySem.F.slot_str_split PySem.F.type_str_split nt pI ho ha hb hn hl he hpl
 |extend=>exact oU PySem.F.plainAttrs_list PySem.F.slot_list_extend PySem.F.type_list_extend kn gh ho ha hb hn hl he hpl
 |splitM=>exact oU PySem.F.plainAttrs_str PySem.F.slot_str_split PySem.F.type_str_split kc pA ho ha hb hn hl he hpl
 |join=>exact oU PySem.F.plainAttrs_str PySem.F.slot_str_join PySem.F.type_str_join qf qe ho ha hb hn hl he hpl
theorem tI{X:Cx}{apos pos:Pos}(hu:X.A.units+64 < cLine)(ho:PE X o (low X.K cls E2 to))
  (hb:attributeBase o (jd b:String) X.env (eval o X.env)=eval o X.env) (hl:(apos.endLine == pos.line)=true) :
  PE X (.Call (.Attribute o (jd b:String) apos) [] [] pos) (low X.K cls E2 λσ M Q E=>to σ M (λx M1=>tyB b x M1=true/\rBm b x [] M1 Q) E):=by
 cases b with
 |index=>exact i8 PySem.F.plainAttrs_list PySem.F.slot_list_index PySem.F.type_list_index (nh hu) (lU λ_ _ h=>h) ho hb hl
 |insert=>exact i8 PySem.F.plainAttrs_list PySem.F.slot_list_insert PySem.F.type_list_insert j8 gh ho hb hl
 |startswith=>exact i8 PySem.F.plainAttrs_str PySem.F.slot_str_startswith PySem.F.type_str_startswith fk gk ho hb hl
 |split=>exact i8 PySem.F.plainAttrs_str PySem.F.slot_str_split PySem.F.type_str_split nt pI ho hb hl
 |extend=>exact i8 PySem.F.plainAttrs_list PySem.F.slot_list_extend PySem.F.type_list_extend kn gh ho hb hl
 |splitM=>exact i8 PySem.F.plainAttrs_str PySem.F.slot_str_split PySem.F.type_str_split kc pA ho hb hl
 |join=>exact i8 PySem.F.plainAttrs_str PySem.F.slot_str_join PySem.F.type_str_join qf qe ho hb hl
theorem dI(h:okA (.cons a r) c es=true):∃x xs,es=x::xs/\eZ x=true/\okE a c x=true/\okA r c xs=true:=by
 cases es with
 |nil=>simp[okA]at h
 |cons x xs=>
  simp only[okA,Bool.and_eq_true]at h;exact⟨x,xs,rfl,h.1.1,h.1.2,h.2⟩
noncomputable def EM:IT->Bool
 |.and _ _=>true
 |.or _ _=>true
 |_=>false
section
variable {W:WC}
theorem sG:∀(tg:ITg) {c:Cfg}{e:Expr}{X:Cx}{E2:St->XK},okG c tg e=true->Good c W X E2->PG X e (qI X.K (wpG tg))
 |.name i,c,e,X,E2,h,G=>by
  simp only[okG]at h;split at h
  ·simp only[Bool.and_eq_true]at h;obtain⟨l1,l2⟩:=G.loc h.2;exact zI G.ndX (G.at h.1) l1 l2
  ·cases h
 |.tup is,c,e,X,E2,h,G=>by
  simp only[okG]at h;split at h
  ·simp only[Bool.and_eq_true]at h;exact wx (G.calm h.1) G.ndX G.fnx (G.names h.2)
  ·cases h
mutual
theorem sE:∀(ie:IE) {c:Cfg}{e:Expr}{X:Cx}{E2:St->XK},okE ie c e=true->Good c W X E2->PE X e (low X.K W.cls E2 (wpE W ie))
 |.var i,c,e,X,E2,h,G=>by
  unfold okE at h;split at h
  ·simp only[Bool.and_eq_true,Bool.not_eq_true']at h;exact Cz (G.at h.1.1.1) (G.vis h.1.1.2) h.1.2 h.2
  ·cases h
 |.con d,c,e,X,E2,h,G=>by
  unfold okE at h;split at h
  ·split at h
   ·cases of_decide_eq_true h;exact kH sJ λ_=>rfl
   ·cases of_decide_eq_true h;exact kH C7 λ_=>rfl
   ·exact kH yU λ_=>rfl
   ·cases of_decide_eq_true h;exact kH xL λ_=>rfl
   ·cases h
  ·cases h
 |.bin op a b,c,e,X,E2,h,G=>by
  unfold okE at h;split at h
  ·simp only[Bool.and_eq_true,decide_eq_true_eq]at h;obtain⟨⟨rfl,h1⟩,h2⟩:=h;exact Ac (xU op) (sE a h1 G) (sE b h2 G)
  ·cases h
 |.neg a,c,e,X,E2,h,G=>by
  unfold okE at h;split at h
  ·simp only[Bool.and_eq_true,decide_eq_true_eq]at h;obtain⟨rfl,h1⟩:=h;exact Ba (ta:=wpE W a) (r:=rNeg) si (sE a h1 G)
  ·cases h
 |.cat fz a b,c,e,X,E2,h,G=>by
  unfold okE at h;split at h
  ·simp only[Bool.and_eq_true,decide_eq_true_eq]at h;obtain⟨⟨rfl,h1⟩,h2⟩:=h;exact Cd (sE a h1 G) (sE b h2 G)
  ·cases h
 |.cmp op a b,c,e,X,E2,h,G=>by
  unfold okE at h;split at h
  ·simp only[Bool.and_eq_true,decide_eq_true_eq]at h;obtain⟨⟨⟨rfl,h0⟩,h1⟩,h2⟩:=h;exact Bz (dJ G.un op) (sE a h1 G) (sE b h2 G) (fZ h0)
  ·cases h
 |.chain op1 op2 a b d,c,e,X,E2,h,G=>by
  unfold okE at h;split at h
  ·simp only[Bool.and_eq_true,decide_eq_true_eq]at h;obtain⟨⟨⟨⟨⟨rfl,rfl⟩,h0⟩,h1⟩,h2⟩,h3⟩:=h;exact uM (dJ G.un op1) (dJ G.un op2) (sE a h1 G) (sE b h2 G) (sE d h3 G) (fZ h0)
  ·cases h
 |.and a b,c,e,X,E2,h,G=>by
  unfold okE at h;split at h
  ·rename_i op x y r p;simp only[Bool.and_eq_true,decide_eq_true_eq]at h;obtain⟨⟨rfl,h1⟩,h2⟩:=h;cases r with
   |nil=>exact wC (sE a h1 G) (wN (sE b h2 G))
   |cons z r=>exact wC (sE a h1 G) (sE b h2 G)
  ·cases h
 |.or a b,c,e,X,E2,h,G=>by
  unfold okE at h;split at h
  ·rename_i op x y r p;simp only[Bool.and_eq_true,decide_eq_true_eq]at h;obtain⟨⟨rfl,h1⟩,h2⟩:=h;cases r with
   |nil=>exact Bv (sE a h1 G) (wN (sE b h2 G))
   |cons z r=>exact Bv (sE a h1 G) (sE b h2 G)
  ·cases h
 |.not a,c,e,X,E2,h,G=>by
  unfold okE at h;split at h
  ·simp only[Bool.and_eq_true,decide_eq_true_eq]at h;obtain⟨rfl,h1⟩:=h;exact Bi (sE a h1 G)
  ·cases h
 |.ifx t a b,c,e,X,E2,h,G=>by
  unfold okE at h;split at h
  ·simp only[Bool.and_eq_true]at h;exact FR (sT t h.1.1 G).1 (sE a h.1.2 G) (sE b h.2 G)
  ·cases h
 |.tup es,c,e,X,E2,h,G=>by
  unfold okE at h;split at h
  ·exact A8 (sA es h G)
  ·cases h
 |.lst fz es,c,e,X,E2,h,G=>by
  unfold okE at h;split at h
  ·exact BG (sA es h G)
  ·cases h
 |.frz a,c,e,X,E2,h,G=>by
  unfold okE at h;exact BH (sE a h G)
 |.ix a b,c,e,X,E2,h,G=>by
  unfold okE at h;split at h
  ·simp only[Bool.and_eq_true]at h;exact Es G.un (sE a h.1.2 G) (sE b h.2 G) (wj h.1.1)
  ·cases h
 |.sl fz a lo hi,c,e,X,E2,h,G=>by
  unfold okE at h;split at h
  ·simp only[Bool.and_eq_true]at h;exact FI (sE a h.1.1 G) (sO lo h.1.2 G) (sO hi h.2 G)
  ·cases h
 |.call f es,c,e,X,E2,h,G=>by
  unfold okE at h;split at h
  ·rename_i x px args pos;simp only[Bool.and_eq_true,Bool.not_eq_true']at h;obtain⟨⟨⟨⟨h0,h1⟩,h2⟩,h3⟩,h4⟩:=h;split at h1
   ·rename_i p hp;simp only[Bool.and_eq_true,decide_eq_true_eq]at h1;obtain⟨h1,_⟩:=h1;obtain⟨p1,p2⟩:=p;cases h1;obtain⟨k,hr,hF⟩:=G.fns h0;obtain⟨fd,ps,sp0,m2,m3,m5⟩:=hF f (List.getElem?_eq_some_iff.mp hp).1;have m1:=G.fnn f x p2 hp;have m4:=hr.mono (Nat.le_succ k);have hA:=sA es h4 G;cases args with
    |nil=>
     cases es with
     |nil=>exact uO m5 m4 (G.gl h2) m1 m2 m3 G.pass h3
     |cons _ _=>simp[okA]at h4
    |cons z zs=>
     cases es with
     |nil=>simp[okA]at h4
     |cons ea er=>
      obtain⟨_,_,e1,n1,_,n3⟩:=dI h4;cases e1;exact yn m5 m4 (G.gl h2) m1 m2 m3 G.pass hA h3 (cI n1) (dh _ n3)
   ·cases h1
  ·cases h
 |.bi b es,c,e,X,E2,h,G=>by
  unfold okE at h;split at h
  ·rename_i x px args pos;simp only[Bool.and_eq_true,decide_eq_true_eq]at h;obtain⟨⟨⟨⟨h0,rfl⟩,h2⟩,h3⟩,h4⟩:=h;have hA:=sA es h4 G;cases args with
   |nil=>cases h3
   |cons z zs=>
    cases es with
    |nil=>simp[okA]at h4
    |cons ea er=>
     obtain⟨_,_,e1,n1,_,n3⟩:=dI h4;cases e1;exact vw G.un (λz=>G.calm (by rw[z,Bool.or_false]at h0;exact h0)) G.dig (G.gl h2) (G.bi _ (z8 b)) hA (cI n1) (dh _ n3)
  ·cases h
 |.isB a t,c,e,X,E2,h,G=>by
  unfold okE at h;split at h
  ·simp only[Bool.and_eq_true,decide_eq_true_eq]at h;obtain⟨⟨⟨⟨⟨rfl,rfl⟩,h2⟩,h3⟩,h4⟩,h5⟩:=h;exact A9 (sE a h5 G) (G.gl h2) (G.bi _ (by decide +kernel)) (G.gl h3) (G.bi _ (zD t)) (cI h4)
  ·cases h
 |.isC a k,c,e,X,E2,h,G=>by
  unfold okE at h;split at h
  ·simp only[Bool.and_eq_true,decide_eq_true_eq,beq_iff_eq,Bool.not_eq_true']at h;obtain⟨⟨⟨⟨⟨⟨rfl,h1⟩,h2⟩,h3⟩,h4⟩,h5⟩,h6⟩:=h;exact B0 (sE a h6 G) (G.gl h2) (G.bi _ (by decide +kernel)) (G.gl h3) (G.exc _ _ h1).1 h4 (λi hi=>⟨(G.exi i hi).1,(G.exi i hi).2.2 _ _ h1⟩) (cI h5)
  ·cases h
 |.rev fz a,c,e,X,E2,h,G=>by
  unfold okE at h;split at h
  ·simp only[Bool.and_eq_true,decide_eq_true_eq]at h;obtain⟨⟨rfl,h1⟩,h2⟩:=h;split at h1
   ·cases of_decide_eq_true h1;exact Dg (sE a h2 G) (Ba (ta:=λσ M Q E=>Q (.int 1) M) (r:=rNeg) si (kH sJ λ_=>rfl))
   ·cases h1
  ·cases h
 |.comp fz N js tg it cond elt,c,e,X,E2,h,G=>by
  unfold okE at h;split at h
  ·simp only[Bool.and_eq_true,decide_eq_true_eq]at h;obtain⟨⟨⟨⟨⟨⟨⟨⟨h0,rfl⟩,ht⟩,h1⟩,h2⟩,h3⟩,h4⟩,h5⟩,h6⟩:=h;have hok:=h2;rw[<-G.sc,<-G.N]at hok;exact xR hok (G.qt h0) (sI it h3 G ht) (λC s2 H2 fp pn=>sG tg h4 (G.comp h2 C s2 H2 fp pn)) (λC s2 H2 fp pn=>sTO cond h5 (G.comp h2 C s2 H2 fp pn)) (λC s2 H2 fp pn=>sE elt h6 (G.comp h2 C s2 H2 fp pn)) (rO h1) fz
  ·cases h
 |.lrng fz a,c,e,X,E2,h,G=>by
  unfold okE at h;split at h
  ·simp only[Bool.and_eq_true,decide_eq_true_eq]at h;obtain⟨⟨⟨⟨⟨⟨h0,rfl⟩,rfl⟩,h1⟩,h2⟩,h3⟩,h4⟩:=h;exact zU fz (G.calm h0) (G.gl h1) (G.bi _ (by decide +kernel)) (G.gl h2) (G.bi _ (by decide +kernel)) (sE a h4 G) (cI h3)
  ·cases h
 |.sm a,c,e,X,E2,h,G=>by
  unfold okE at h;split at h
  ·simp only[Bool.and_eq_true,decide_eq_true_eq]at h;obtain⟨⟨⟨⟨h0,rfl⟩,h1⟩,h2⟩,h3⟩:=h;exact E6 (G.qt (b:=true) (by rw[Bool.and_true];exact h0)) (sE a h3 G) (G.gl h1) (G.bi _ (by decide +kernel)) (cI h2)
  ·cases h
 |.fld a f,c,e,X,E2,h,G=>by
  unfold okE at h;split at h
  ·simp only[Bool.and_eq_true,decide_eq_true_eq]at h;obtain⟨⟨rfl,h1⟩,h2⟩:=h;exact Cs G.kok (sE a h2 G) (gp h1)
  ·cases h
 |.make fz i es,c,e,X,E2,h,G=>by
  unfold okE at h;split at h
  ·rename_i x px args pos;simp only[Bool.and_eq_true,Bool.not_eq_true']at h;obtain⟨⟨⟨⟨h0,h1⟩,h2⟩,h3⟩,h4⟩:=h;obtain⟨m1,hi⟩:=G.knm i x (beq_iff_eq.mp h1);obtain⟨k,hr,hF⟩:=G.fns h0;have hA:=sA es h4 G;cases q:W.ini i with
   |none=>exact absurd q (by obtain⟨f,hf⟩:=G.kin i hi;rw[hf];exact λz=>nomatch z)
   |some f=>
    have F:=hF f (G.kfi i f hi q);cases args with
    |nil=>
     cases es with
     |nil=>exact (we (B:=W.toWB) (fz:=fz) (G.gl h2) m1 h3 ((G.kok i hi).mkr f q) F hr G.pass).imp λσ H Q2 hl_=>ex9 hl_ λσ3 M Q E3 rm ds lk hh back=>⟨σ3,M,Q,E3,rm,ds,lk,by simp only[wpE,wpA,q,jg]at hh;exact hh.2,back⟩
     |cons _ _=>simp[okA]at h4
    |cons z zs=>
     cases es with
     |nil=>simp[okA]at h4
     |cons ea er=>
      obtain⟨_,_,e1,n1,_,n3⟩:=dI h4;cases e1;have hA2:PA X (z::zs) (ez X.K W.cls E2 λσ M Q E=>wpA W (.cons ea er) σ M (λxs M1=>i < W.nk/\Q xs M1) E):=hA.imp λσ H Q2 hl_=>ex9 hl_ λσ3 M Q E3 rm ds lk hh back=>⟨σ3,M,_,E3,rm,ds,lk,hh,λvs H' xs M' a b c d=>back vs H' xs M' a b c d.2⟩
      exact (yB (B:=W.toWB) (fz:=fz) (G.gl h2) m1 h3 ((G.kok i hi).mkr f q) F hr G.pass hA2 (cI n1) (dh _ n3)).imp λσ H Q2 hl_=>ex9 hl_ λσ3 M Q E3 rm ds lk hh back=>⟨σ3,M,Q,E3,rm,ds,lk,by simp only[wpE,q,jg]at hh;exact hh,back⟩
  ·cases h
 |.meth a m es,c,e,X,E2,h,G=>by
  unfold okE at h;split at h
  ·rename_i x n ap args cp;simp only[Bool.and_eq_true,decide_eq_true_eq]at h;obtain⟨⟨⟨⟨⟨⟨h0,rfl⟩,h1⟩,h2⟩,h3⟩,h4⟩,h5⟩:=h;obtain⟨k,hr,hF⟩:=G.fns h0;have hA:=sA es h5 G;cases args with
   |nil=>
    cases es with
    |nil=>exact u0 (B:=W.toWB) G.kok (λi m f hi q=>hF f (G.kfm i m f hi q)) (hr.mono (Nat.le_succ k)) G.pass (sE a h4 G) (gp h1) h2
    |cons _ _=>simp[okA]at h5
   |cons z zs=>
    cases es with
    |nil=>simp[okA]at h5
    |cons ea er=>
     obtain⟨_,_,e1,n1,_,n3⟩:=dI h5;cases e1;exact yh (B:=W.toWB) G.kok (λi m f hi q=>hF f (G.kfm i m f hi q)) (hr.mono (Nat.le_succ k)) G.pass (sE a h4 G) hA (gp h1) h2 h3 (cI n1) (dh _ n3)
  ·cases h
 |.isK a j,c,e,X,E2,h,G=>by
  unfold okE at h;split at h
  ·simp only[Bool.and_eq_true,decide_eq_true_eq,beq_iff_eq,Bool.not_eq_true']at h;obtain⟨⟨⟨⟨⟨⟨rfl,h1⟩,h2⟩,h3⟩,h4⟩,h5⟩,h6⟩:=h;exact Ca (B:=W.toWB) G.kok (sE a h6 G) (G.gl h2) (G.bi _ (by decide +kernel)) (G.gl h3) (G.knm _ _ h1).1 h4 (cI h5)
  ·cases h
 |.glo k,c,e,X,E2,h,G=>by
  unfold okE at h;split at h
  ·rename_i x px;simp only[Bool.and_eq_true,Bool.not_eq_true']at h;obtain⟨u,v,m1,r,hd⟩:=G.glo k x (beq_iff_eq.mp h.1.1);exact zV (G.gl h.1.2) m1 r h.2 hd
  ·cases h
 |.fst ps,c,e,X,E2,h,G=>by
  unfold okE at h;split at h
  ·exact A2 (G.part h)
  ·cases h
 |.bm b o es,c,e,X,E2,h,G=>by
  unfold okE at h;split at h
  ·rename_i x n ap args cp;simp only[Bool.and_eq_true,decide_eq_true_eq]at h;obtain⟨⟨⟨⟨⟨rfl,h1⟩,h2⟩,h3⟩,h4⟩,h5⟩:=h;have hA:=sA es h5 G;cases args with
   |nil=>
    cases es with
    |nil=>exact tI G.un (sE o h4 G) (gp h1) h2
    |cons _ _=>simp[okA]at h5
   |cons z zs=>
    cases es with
    |nil=>simp[okA]at h5
    |cons ea er=>
     obtain⟨_,_,e1,n1,_,n3⟩:=dI h5;cases e1;exact vb G.un (sE o h4 G) hA (gp h1) h3 h2 (cI n1) (dh _ n3)
  ·cases h
 |.dnew tk,c,e,X,E2,h,G=>by
  unfold okE at h;split at h
  ·exact zP tk
  ·cases h
 |.rep fz a b,c,e,X,E2,h,G=>by
  unfold okE at h;split at h
  ·simp only[Bool.and_eq_true,decide_eq_true_eq]at h;obtain⟨⟨rfl,h1⟩,h2⟩:=h;exact Cg (sE a h1 G) (sE b h2 G)
  ·cases h
theorem sT:∀(it:IT) {c:Cfg}{e:Expr}{X:Cx}{E2:St->XK},okT it c e=true->Good c W X E2->PT X e (cA X.K W.cls E2 (wpT W it))/\(EM it=true->PW X e (cA X.K W.cls E2 (wpT W it)))
 |.val a,c,e,X,E2,h,G=>by
  unfold okT at h;simp only[Bool.and_eq_true]at h;exact⟨AV (sE a h.2 G) (qT h.1),λz=>nomatch z⟩
 |.cmp op a b,c,e,X,E2,h,G=>by
  unfold okT at h;split at h
  ·simp only[Bool.and_eq_true,decide_eq_true_eq]at h;obtain⟨⟨⟨rfl,h0⟩,h1⟩,h2⟩:=h;exact⟨B7 (dJ G.un op) (sE a h1 G) (sE b h2 G) (fZ h0),λz=>nomatch z⟩
  ·cases h
 |.chain op1 op2 a b d,c,e,X,E2,h,G=>by
  unfold okT at h;split at h
  ·simp only[Bool.and_eq_true,decide_eq_true_eq]at h;obtain⟨⟨⟨⟨⟨rfl,rfl⟩,h0⟩,h1⟩,h2⟩,h3⟩:=h;exact⟨vi (dJ G.un op1) (dJ G.un op2) (sE a h1 G) (sE b h2 G) (sE d h3 G) (fZ h0),λz=>nomatch z⟩
  ·cases h
 |.chain3 op1 op2 op3 a b d f,c,e,X,E2,h,G=>by
  unfold okT at h;split at h
  ·simp only[Bool.and_eq_true,decide_eq_true_eq]at h;obtain⟨⟨⟨⟨⟨⟨⟨rfl,rfl⟩,rfl⟩,h0⟩,h1⟩,h2⟩,h3⟩,h4⟩:=h;exact⟨rR (dJ G.un op1) (dJ G.un op2) (dJ G.un op3) (sE a h1 G) (sE b h2 G) (sE d h3 G) (sE f h4 G) (fZ h0),λz=>nomatch z⟩
  ·cases h
 |.and a b,c,e,X,E2,h,G=>by
  unfold okT at h;split at h
  ·rename_i op x y r p;simp only[Bool.and_eq_true,decide_eq_true_eq]at h;obtain⟨⟨rfl,h1⟩,h2⟩:=h;have hA:=(sT a h1 G).1;cases r with
   |nil=>exact⟨(qj hA (qo (sT b h2 G).1)).pt,λ_=>qj hA (qo (sT b h2 G).1)⟩
   |cons z r=>
    have hB:=(sT b h2 G).2;cases b with
    |and b1 b2=>exact⟨(qj hA (hB rfl)).pt,λ_=>qj hA (hB rfl)⟩
    |val b1=>simp[okT,pS]at h2
    |cmp=>simp[okT]at h2
    |chain=>simp[okT]at h2
    |chain3=>simp[okT]at h2
    |or=>simp[okT]at h2
    |not=>simp[okT]at h2
  ·cases h
 |.or a b,c,e,X,E2,h,G=>by
  unfold okT at h;split at h
  ·rename_i op x y r p;simp only[Bool.and_eq_true,decide_eq_true_eq]at h;obtain⟨⟨rfl,h1⟩,h2⟩:=h;have hA:=(sT a h1 G).1;cases r with
   |nil=>exact⟨(ve hA (ul (sT b h2 G).1)).pt,λ_=>ve hA (ul (sT b h2 G).1)⟩
   |cons z r=>
    have hB:=(sT b h2 G).2;cases b with
    |or b1 b2=>exact⟨(ve hA (hB rfl)).pt,λ_=>ve hA (hB rfl)⟩
    |val b1=>simp[okT,pS]at h2
    |cmp=>simp[okT]at h2
    |chain=>simp[okT]at h2
    |chain3=>simp[okT]at h2
    |and=>simp[okT]at h2
    |not=>simp[okT]at h2
  ·cases h
 |.not a,c,e,X,E2,h,G=>by
  unfold okT at h;split at h
  ·simp only[Bool.and_eq_true,decide_eq_true_eq]at h;obtain⟨rfl,h1⟩:=h;exact⟨AS (sT a h1 G).1,λz=>nomatch z⟩
  ·cases h
theorem sA:∀(ia:IA) {c:Cfg}{es:List Expr}{X:Cx}{E2:St->XK},okA ia c es=true->Good c W X E2->PA X es (ez X.K W.cls E2 (wpA W ia))
 |.nil,c,es,X,E2,h,G=>by
  simp only[okA]at h;cases es with
  |nil=>exact AK
  |cons _ _=>cases h
 |.cons a r,c,es,X,E2,h,G=>by
  obtain⟨x,xs,rfl,h1,h2,h3⟩:=dI h;exact yS (sE a h2 G) (sA r h3 G) (cI h1)
theorem sO:∀(io:IO) {c:Cfg}{o:Option Expr}{X:Cx}{E2:St->XK},okO io c o=true->Good c W X E2->PO X o (qA X.K W.cls E2 (wpO W io))
 |.no,c,o,X,E2,h,G=>by
  simp only[okO]at h;cases o with
  |none=>exact EZ
  |some _=>cases h
 |.yes a,c,o,X,E2,h,G=>by
  cases o with
  |none=>simp[okO]at h
  |some x=>
   simp only[okO]at h;exact Bc (sE a h G)
theorem sTO:∀(io:ITO) {c:Cfg}{es:List Expr}{X:Cx}{E2:St->XK},vy io c es=true->Good c W X E2->PIf X es (cA X.K W.cls E2 (li W io))
 |.no,c,es,X,E2,h,G=>by
  simp only[vy]at h;cases es with
  |nil=>exact λpins s σ H Q2 I ⟨σ3,M,Q,E3,rm,ds,lk,h,back⟩=>u8 pins s σ H Q2 I (back _ _ _ rm (.refl _) h)
  |cons _ _=>cases h
 |.yes t,c,es,X,E2,h,G=>by
  unfold vy at h;split at h
  ·exact vV (sT t h G).1
  ·cases h
theorem sI:∀(ii:II) {c:Cfg}{e:Expr}{X:Cx}{E2:St->XK}{tg:Expr},okI ii c e=true->Good c W X E2->Aq ii tg=true->PIB (sq ii) X tg e (oP X.K W.cls E2 (wpI W ii))
 |.seq a,c,e,X,E2,tg,h,G,_=>by
  unfold okI at h;exact CJ (sE a h G)
 |.seqL a,c,e,X,E2,tg,h,G,_=>by
  unfold okI at h;exact Aj (sE a h G)
 |.rng1 a,c,e,X,E2,tg,h,G,_=>by
  unfold okI at h;split at h
  ·simp only[Bool.and_eq_true,decide_eq_true_eq]at h;obtain⟨⟨⟨rfl,h1⟩,h2⟩,h3⟩:=h;exact E0 (G.gl h1) (G.bi _ (by decide +kernel)) (sE a h3 G) (cI h2)
  ·cases h
end
end
end L2
namespace L2
open PySem PySem.Spec PyProof.Rows
theorem sW{X:Cx}(G:Good c W X E2){pos px spos:Pos}(h:swB c scope x px.line pos.line=true) :
  swapsWith (.ListComp el gs scope pos) (some (.Name x px)) spos.line X.env=pure true:=by
 unfold swB at h;simp only[Bool.and_eq_true]at h;have h1:X.env.scope.kind=.function:=by rw[G.sc];exact beq_iff_eq.mp h.1.1.1
 have h2:X.env.kindOf x=some .local:=by show X.env.scope.names.lookup x=_;rw[G.sc];exact beq_iff_eq.mp h.1.1.2
 have hb:(X.env.blockKind == .function)=true:=by
  unfold Env.blockKind;rw[h1];rfl
 show (pure (X.env.blockKind == .function&&X.env.kindOf x == some .local&&px.line == pos.line&&!(scope.names.any λ(n,k)=>n == x&&(k == .local||k == .cell))):Sem Bool)=pure true
 rw[hb,h2,h.1.2,h.2];rfl
theorem zT{c:Cfg}{X:Cx}(G:Good c W X E2){spos:Pos}(h:(c.sc.names.lookup x == some .cell)=true) :
  swapsWith (.ListComp el gs scope pos) (some (.Name x px)) spos.line X.env=pure false:=by
 have h2:X.env.kindOf x=some .cell:=by show X.env.scope.names.lookup x=_;rw[G.sc];exact beq_iff_eq.mp h
 show (pure (X.env.blockKind == .function&&X.env.kindOf x == some .local&&px.line == pos.line&&!(scope.names.any λ(n,k)=>n == x&&(k == .local||k == .cell))):Sem Bool)=pure false
 rw[h2,show ((some NameKind.cell:Option NameKind) == some .local)=false from rfl,Bool.and_false];rfl
theorem vK{c:Cfg}(h:swB c scope x a b=true):c.sc.names.lookup x=some .local:=by
 unfold swB at h;simp only[Bool.and_eq_true,beq_iff_eq]at h;exact h.1.1.2
section
variable {W:WC}
theorem t7{fz:Bool}{N:List Str}{js:List (Option Nat)}{tg:ITg}{it:II}{cond:ITO}{elt:IE}{c:Cfg}{X:Cx}{E2:St->XK}{i:Nat}{x:Str}{px spos pos:Pos}{el:Expr}{gs:List Comprehension}{scope:Scope}
  (h:okE (.comp fz N js tg it cond elt) c (.ListComp el gs scope pos)=true) (hi:(c.N[i]? == some x)=true) (hsw:swB c scope x px.line pos.line=true) (G:Good c W X E2) :
  PS X (.Assign [.Name x px] (.ListComp el gs scope pos) spos) (bO X.K W.cls E2 (wpS W (.set i (.comp fz N js tg it cond elt)))):=by
 have sp:=sW (spos:=spos) (el:=el) (gs:=gs) G hsw;unfold okE at h;split at h
 ·rename_i el' tgE iter ifs as scope' pos' heq;cases heq;simp only[Bool.and_eq_true,decide_eq_true_eq]at h;obtain⟨⟨⟨⟨⟨⟨⟨⟨h0,rfl⟩,ht⟩,h1⟩,h2⟩,h3⟩,h4⟩,h5⟩,h6⟩:=h;have hok:=h2;rw[<-G.sc,<-G.N]at hok;exact pe hok (G.qt h0) (sI it h3 G ht) (λC s2 H2 fp pn=>sG tg h4 (G.comp h2 C s2 H2 fp pn)) (λC s2 H2 fp pn=>sTO cond h5 (G.comp h2 C s2 H2 fp pn)) (λC s2 H2 fp pn=>sE elt h6 (G.comp h2 C s2 H2 fp pn)) (rO h1) G.ndX (G.at hi) (by rw[G.sc];exact vK hsw) sp fz
 ·cases h
mutual
theorem sS:∀(is:IS) {c:Cfg}{s:Stmt}{X:Cx}{E2:St->XK},okS is c s=true->Good c W X E2->PS X s (bO X.K W.cls E2 (wpS W is))
 |.set i a,c,s,X,E2,h,G=>by
  unfold okS at h;split at h
  ·simp only[Bool.and_eq_true,Bool.or_eq_true]at h;obtain⟨⟨⟨h1,h2⟩,h3⟩,h4⟩:=h;obtain⟨l1,l2⟩:=G.loc h2;rcases h4 with h4|h4
   ·exact wK G.ndX (G.at h1) l1 (sE a h3 G) (jC h4) l2
   ·split at h4
    ·rcases Bool.or_eq_true_iff.mp h4 with h4|h4
     ·exact t7 h3 h1 h4 G
     ·exact wK G.ndX (G.at h1) l1 (sE _ h3 G) (zT G h4) l2
    ·cases h4
  ·cases h
 |.unp is a,c,s,X,E2,h,G=>by
  unfold okS at h;split at h
  ·simp only[Bool.and_eq_true]at h;obtain⟨⟨⟨⟨h1,h2⟩,h3⟩,h4⟩,h5⟩:=h;exact A1 (G.calm h1) G.ndX G.fnx (G.names h2) (sE a h5 G) (by unfold swapsWithSole;exact jC h4) (uK h3)
  ·cases h
 |.expr a,c,s,X,E2,h,G=>by
  unfold okS at h;split at h
  ·simp only[Bool.and_eq_true]at h;exact zM (sE a h.2 G) (jC h.1)
  ·cases h
 |.ret a,c,s,X,E2,h,G=>by
  unfold okS at h;split at h
  ·exact Ck (sE a h G)
  ·cases h
 |.ifs t a b,c,s,X,E2,h,G=>by
  unfold okS at h;split at h
  ·simp only[Bool.and_eq_true]at h;exact EC (sT t h.1.1 G).1 (sSs a h.1.2 G) (sSs b h.2 G)
  ·cases h
 |.for_ tg it body,c,s,X,E2,h,G=>by
  unfold okS at h;split at h
  ·simp only[Bool.and_eq_true]at h;obtain⟨⟨⟨⟨⟨⟨h1,ht⟩,h2⟩,h3⟩,h4⟩,h5⟩,h6⟩:=h;exact CG (G.own h1).1 (G.calm h2) (sI it h5 G ht).calm (sG tg h4 G) (sSs body h6 G) (rO h3)
  ·cases h
 |.raise k es,c,s,X,E2,h,G=>by
  unfold okS at h;split at h
  ·rename_i x px args cp pos;simp only[Bool.and_eq_true,Bool.not_eq_true']at h;obtain⟨⟨⟨⟨⟨⟨⟨h0,h1⟩,h2⟩,h3⟩,h4⟩,h5⟩,h6⟩,h7⟩:=h;obtain⟨_,E,hE,hR,hRD,hr2,_⟩:=G.own h1;obtain⟨m1,m2,_⟩:=G.exc k x (beq_iff_eq.mp h3);have hA:=sA (W:=W) es h7 G;cases args with
   |nil=>cases h6
   |cons z zs=>
    cases es with
    |nil=>simp[okA]at h7
    |cons ea er=>
     obtain⟨_,_,e1,n1,_,n3⟩:=dI h7;cases e1;exact u6 hR hE (G.calm h2) (G.gl h4) m1 (m2 (Option.isNone_iff_eq_none.mp h0)) hA h5 (cI n1) (dh _ n3)
  ·cases h
 |.try_ body hs,c,s,X,E2,h,G=>by
  unfold okS at h;split at h
  ·rename_i b handlers pos;simp only[Bool.and_eq_true]at h;obtain⟨⟨⟨h1,h2⟩,h3⟩,h4⟩:=h;obtain⟨t1,t2,t3⟩:=G.tr h1;have hH:=sHs hs h4 G;cases handlers with
   |nil=>cases h2
   |cons h0 hr=>exact Bf t1 t2 t3 hH λpn V' E2' hP=>sSs body h3 (G.trying hP)
  ·cases h
 |.app o a,c,s,X,E2,h,G=>by
  unfold okS at h;split at h
  ·simp only[Bool.and_eq_true,decide_eq_true_eq]at h;obtain⟨⟨⟨⟨⟨rfl,h1⟩,h2⟩,h3⟩,h4⟩,h5⟩:=h;exact AZ (sE o h4 G) (sE a h5 G) (zp h1) h2 (cI h3)
  ·cases h
 |.del i,c,s,X,E2,h,G=>by
  unfold okS at h;cases h
 |.fset o f a,c,s,X,E2,h,G=>by
  unfold okS at h;split at h
  ·simp only[Bool.and_eq_true,decide_eq_true_eq]at h;obtain⟨⟨⟨rfl,h1⟩,h2⟩,h3⟩:=h;exact At (B:=W.toWB) G.kok (sE o h2 G) (sE a h3 G) (jC h1)
  ·cases h
 |.ixset o i a,c,s,X,E2,h,G=>by
  unfold okS at h;split at h
  ·simp only[Bool.and_eq_true]at h;obtain⟨⟨⟨⟨h0,h1⟩,h2⟩,h3⟩,h4⟩:=h;exact vM G.un (sE o h2 G) (sE i h3 G) (sE a h4 G) (zt h0) (by unfold swapsWithSole;exact jC h1) (by rfl) (by rfl)
  ·cases h
theorem sSs:∀(is:ISs) {c:Cfg}{sts:List Stmt}{X:Cx}{E2:St->XK},jh is c sts=true->Good c W X E2->PSs X sts (bO X.K W.cls E2 (au W is))
 |.nil,c,sts,X,E2,h,G=>by
  simp only[jh]at h;cases sts with
  |nil=>exact AQ
  |cons _ _=>cases h
 |.cons s r,c,sts,X,E2,h,G=>by
  unfold jh at h;split at h
  ·exact Br (sSs r h G)
  ·split at h
   ·simp only[Bool.and_eq_true]at h;exact zX (t:=wpS W s) (u:=au W r) (sS s h.1 G) (sSs r h.2 G)
   ·cases h
theorem sHs:∀(ih:IHs) {c:Cfg}{hs:List ExceptHandler}{X:Cx}{E2:St->XK},ss ih c hs=true->Good c W X E2->PH X hs (ou X.K W.cls (wpH W ih))
 |.nil,c,hs,X,E2,h,G=>by
  simp only[ss]at h;cases hs with
  |nil=>exact zo
  |cons _ _=>cases h
 |.cons k nm body r,c,hs,X,E2,h,G=>by
  unfold ss at h;split at h
  ·rename_i x px nmE bodyE hp az;simp only[Bool.and_eq_true,Bool.not_eq_true']at h;obtain⟨⟨⟨⟨⟨⟨h1,h2⟩,h3⟩,h4⟩,h5⟩,h6⟩,h7⟩:=h;obtain⟨m1,m2,m3⟩:=G.exc k x (beq_iff_eq.mp h1);have hR:=sHs r h7 G;cases bodyE with
   |nil=>cases h5
   |cons b0 suite=>
    cases nm with
    |none=>
     cases nmE with
     |none=>exact Db (G.gl h2) m1 m3 (λv=>sSs body h6 (G.caught v)) hR h3
     |some n=>cases h4
    |some j=>
     cases nmE with
     |none=>cases h4
     |some n=>
      simp only[Bool.and_eq_true,beq_iff_eq]at h4;exact B2 (G.gl h2) m1 m3 G.ndX (by rw[G.N];exact h4.1) (by rw[G.sc];exact h4.2) (λa o u l=>sSs body h6 (G.caughtS a o u l)) hR h3
  ·cases h
end
end
end L2
namespace L2
open PySem PySem.W PySem.Spec PyProof.Rows
theorem holdsT{l:OpenLaw}{q:Program}{loose:List Str}{Xt:Shared->Bool}{XP:(Str->Option Value)->Heap->Prop}{α:Type}{Yf:Shared->α}{Ya:World->α}{YP:World->Heap->Prop}{d:DefRec}{N n:Nat}
  (left:LeftO l.row.prog q loose Xt Yf Ya N) (hY:∀w s,Yf s=Ya w->YP w s.heap/\0 < s.toks) (hYk:∀w h h',YP w h->(∀b o,h.get? b=some o->h'.get? b=some o)->YP w h')
  (hX:∀s,Xt s=true->XP (s.heap.nsMap mainGlobals) s.heap) (hXk:∀mg h h',XP mg h->(∀b o,h.get? b=some o->h'.get? b=some o)->XP mg h')
  (hdef:defOf q l.row.name=some (d,[])) (hp:l.row.prog.theDef l.row.name=some (d.params,d.body,d.scope)) (hk:kwWritten? d.params.kwonlyargs d.params.kw_defaults=some []) (hRf:∀s,Xt s=true->RecFacts l.row.records s.heap) (hwr:(!l.row.writes||l.row.records.isEmpty)=true)
  (k1:l.row.wellSaid=true) (ok:(chainsOk q&&opensWell l.row.prog&&(frees l.row.toRowW&&l.row.within.isEmpty))=true) (hb:l.row.prog.bare)(hw:l.row.toRowW.promised) (hn:l.most=some n) (hdf:d.params.defaults=[])
  (call:∀(w:World)(s₀ s:Shared)(mg mb:Str->Option Value)(fa:Addr)(a:Addr)(vs:List Value)(ns:List Int),0 < s.toks->Ground q loose [] XP w s₀ mg mb s.heap->YP w s.heap->mg d.name=some (.ref fa)->s.heap.get? a=some {cls:=.type "list",data:=.seq vs.toArray}->IntsAre vs ns->ns.length<=n->s.gens=#[]->
   codeAny (model l.prog w) callerA (.call (.ref fa) ⟨[.ref a],[]⟩) (λr s'=>r=.ok (.ret (.bool true))/\OldK s.heap s'.heap/\s'.os=s.os/\AllBare s'.gens) s):l.row.Holds:=by
 refine⟨k1,hw,?_⟩;have mk:∀r:RowW,r.makers=[]->r.claim.makers=[]:=λr hm=>by show r.makers.map _=[];rw[hm];rfl
 obtain⟨ok,k5⟩:=Bool.and_eq_true_iff.mp ok;obtain⟨hch,o1⟩:=Bool.and_eq_true_iff.mp ok;obtain⟨k5,k6⟩:=Bool.and_eq_true_iff.mp k5;obtain⟨hsame,hu,ha,hap,hm⟩:=frees_parts k5;refine⟨⟨hb,o1,mk _ hm⟩,hw.witness,λw=>⟨(left.behind hX hch w).1,λs' hs'=>?_⟩⟩
 obtain⟨s₀,hf,hg0,s,hT,hz,hgens,hg,G00,y⟩:=(left.behind (XP:=λmg h=>XP mg h/\RecFacts l.row.records h) (λs hs=>⟨hX s hs,hRf s hs⟩) hch w).2 s' hs'
 have G0:Ground q loose [] XP w s (s.heap.nsMap mainGlobals) (s.heap.nsMap builtinsNs) s.heap:=⟨G00.T,G00.B,G00.D,G00.TE,G00.TD,G00.W,G00.X.1,G00.cls,G00.has,G00.apart,G00.once,G00.K⟩;have RF:=G00.X.2;refine⟨s₀,hf,hg0,s,hT,λn hn=>?_,RF.1,RF.2.1,?_⟩
 ·obtain rfl:n=l.row.name:=by split at hn<;>simp_all
  exact pinned_of_view hg G0 hdef hp hk
 have hgens:s.gens=#[]:=Array.eq_empty_of_size_eq_zero (beq_iff_eq.mp hgens);have G:Ground q loose l.row.records XP w s _ _ s.heap:=RF.ground G0;refine ClaimW.callFrom_of_specG (c:=l.row.toRowW.claim) hz hgens λargs hpre hlay ord hord=>?_
 obtain⟨⟨vs,s₁⟩,hlaid⟩:=Option.isSome_iff_exists.mp (layAllW_isSome (P:=w.params) (ord:=ord) G.has args l.row.toRowW.args s (pre_splitW hpre).1);have keeps:=layAllW_keeps _ _ _ hlaid;have hal:=layAllW_rest _ _ _ hlaid;obtain⟨as,hrd,hin,hold⟩:=reads_layAllW hord _ _ _ hlaid hlay s₁.heap (λ_ _ e=>e)
 have L:Laid l.row.records w s s₁ args vs as:=⟨⟨ord,hord,hlaid⟩,hrd,hin,hold,keeps,hal.1.trans hgens,hal.2.2.1⟩;have G₁:=G.keeps hXk keeps;obtain⟨fa,o,pm,cd,doc,dV,kV,h1,h2,h3,h4,h5⟩:=G₁.fn hdef;have hi:=ident_freeW hu ha hap;have hwi:l.row.toRowW.claim.within=[]:=List.isEmpty_iff.mp k6;obtain⟨a,vs',ns,rfl,rfl,hobj,hints,hlen⟩:=Att.script_of hn hpre L.well;have tk:0 < s₁.toks:=Nat.lt_of_lt_of_le (hY w s y).2 (layAllW_grows _ _ _ hlaid).toks;have key:=call w s s₁ _ _ fa a vs' ns tk G₁ (hYk _ _ _ (hY w s y).1 keeps) (defOf_name hdef▸h1) hobj hints hlen L.gens;refine⟨_,s₁,hlaid,wpAny_bind (wpAny_nsGet G₁.T.g ?_)⟩;rw[h1];refine wpAny_bind (wpAny_call (codeAny_mono key λr s2 hq=>?_))
 obtain⟨rfl,q2,q3,q4⟩:=hq;have g:GoodWG l.row.toRowW.claim (classAt s.heap) (ExcName.means s.heap) [WData.list (ns.map WData.int)] s₁ (.ok (.ret (.bool true))) s2:=⟨.inl ⟨.bool true,.bool true,[],rfl,λ_=>rfl,.bool true,Att.post_true l _,λ_=>⟨List.Pairwise.nil,λ_ hm=>(nomatch hm)⟩⟩,q2,q3,q4⟩
 have z:=g.laid (c:=l.row.toRowW.claim) hsame hwi hi L;exact wpAny_pure ⟨_,rfl,z.1,z.2.1,z.2.2,λq=>⟨namesKept_of hT hg _ keeps g.2.1.old,noTable hwr q⟩⟩
end L2
namespace L2
open PySem PySem.Spec PyProof.Rows
theorem ft:∀{l:List (Nat×Nat)}{m f:Nat},l.lookup m=some f->(m,f)∈l
 |[],_,_,h=>by cases h
 |(a,b)::r,m,f,h=>by
  rw[List.lookup_cons]at h;by_cases e:m=a
  ·subst e;simp at h;subst h;exact List.mem_cons_self
  ·have:(m == a)=false:=by simpa using e
   rw[this]at h;exact List.mem_cons_of_mem _ (ft h)
theorem ixc{α:Type}{P:Nat->α->Prop}{a:α}{r:List α}(h0:P 0 a)(hr:∀i x,r[i]?=some x->P (i+1) x):∀i x,(a::r)[i]?=some x->P i x
 |0,x,h=>by cases h;exact h0
 |i+1,x,h=>hr i x h
theorem ixn{α:Type}{P:Nat->α->Prop}:∀i x,([]:List α)[i]?=some x->P i x:=λi x h=>by simp at h
theorem us0{P:List Value->Prop}(h:P []):∀us:List Value,us.length=0->P us:=λus e=>(List.eq_nil_of_length_eq_zero e)▸h
theorem usS{n:Nat}{P:List Value->Prop}(h:∀a,∀us:List Value,us.length=n->P (a::us)):∀us:List Value,us.length=n+1->P us:=λus e=>by
 cases us with
 |nil=>cases e
 |cons a r=>exact h a r (Nat.succ.inj e)
structure FB where
 np:Nat
 nl:Nat
 cl:Bool
 body:ISs
 df:List Int:=[]
noncomputable def FB.full(fb:FB)(ds:List D):List D:=ds++(fb.df.drop (ds.length+fb.df.length - fb.np)).map D.int
noncomputable def pq(nl:Nat)(ds:List D):St3:=ds.map some++List.replicate (nl - ds.length) none
noncomputable def aa(T:List FB)(B:WB):Nat->Nat->List D->MH->VK3->XN->Prop
 |0,_,_,_,_,_=>False
 |n+1,f,ds,M,Q,E=>match T[f]? with
  |none=>False
  |some fb=>(fb.full ds).length=fb.np/\au {toWB:=B,call:=aa T B n} fb.body {nx:=λ_ M'=>Q .non (kp fb.cl M M'),rt:=λv M'=>Q v (kp fb.cl M M')} (λ_ i M'=>E i (ac M M')) (pq fb.nl (fb.full ds)) M
structure FL where
 name:Str
 qual:Str
 glob:Bool
 cl:Bool
 st:Stmt
 N:List Str
 ps:List Str
 body:ISs
 gn:Str:=name
 df:List Int:=[]
noncomputable def oY(N ps:List Str)(sc:Scope):Bool:=(sc.kind == .function)&&!sc.isCoroutine&&!sc.isGenerator&&decide N.Nodup&&(N.take ps.length == ps)&&
 ps.all (λx=>sc.names.lookup x == some .local||sc.names.lookup x == some .cell)&&sc.names.all (λy=>y.2 != .free)
theorem qU(h:oY N ps sc=true):FnScope N ps sc:=by
 unfold oY at h;simp only[Bool.and_eq_true,Bool.not_eq_true',beq_iff_eq,decide_eq_true_eq,List.all_eq_true,Bool.or_eq_true,bne_iff_ne]at h;obtain⟨⟨⟨⟨⟨⟨h1,h2⟩,h3⟩,h4⟩,h5⟩,h6⟩,h7⟩:=h;exact⟨h1,h2,h3,h4,h5,h6,h7⟩
structure NM where
 exc:List Str
 kln:List Str
 gln:List Str
 xin:List (Nat×Nat)
noncomputable def FL.cfg(l:FL)(fns:List (Option Str×Nat))(n:NM):Cfg:={N:=l.N,sc:=bY l.st,fns:=fns,exc:=n.exc,kln:=n.kln,gln:=n.gln,xin:=n.xin,calm:=true,own:=true,tr:=true,fn:=true}
noncomputable def FL.fb(l:FL):FB:=⟨l.ps.length,l.N.length,l.cl,l.body,l.df⟩
noncomputable def FL.ok(l:FL)(fns:List (Option Str×Nat))(n:NM):Bool:=oY l.N l.ps (bY l.st)&&jh l.body (l.cfg fns n) (eF l.st)
noncomputable def fe(L:List FL):List (Option Str×Nat):=L.map λl=>(if l.glob=true then some l.gn else none,l.ps.length)
structure FunD (K:PySem.W.Frag)(x qual:Str)(st:Stmt)(f:Addr)(fd:FuncData):Prop where
 ex:∃(oc:Value) (od:Option Addr) (dV kV doc pm:Value) (an:Option Addr) (cdv ct:Value) (osl:Array (Option Value)),
  fd=PySem.W.fnOf x qual (fN st) (eF st) (bY st) dV kV doc pm an cdv ct/\K.lookup f=some ⟨oc,od,.func fd,osl⟩/\PySem.W.codeIn K cdv qual=true
 kp:PySem.W.keepIn K (.ref f)=true
structure Top (Pm:Params)(K:PySem.W.Frag)(mg:Str->Option Value)(L:List FL)(n:NM)(B:WB):Prop where
 ok:∀l∈L,l.ok (fe L) n=true
 fn:∀f l,L[f]?=some l->∃fd,FunD K l.name l.qual l.st (B.fad f) fd/\(l.glob=true->mg l.gn=some (.ref (B.fad f)))/\(l.df=[]->∀us:List Value,us.length=l.ps.length->bindArgs fd ⟨us,[]⟩=pure (l.ps.zip us))/\∃dv,Vals (l.df.map V.int) dv/\∀j,Binds K fd l.ps (dv.drop j)
 exi:∀i,i < B.ne->ExcI K (B.cls i)/\PySem.W.kitOne K (.ref (B.cls i)) (.type "ValueError")=some true/\∀j x,n.exc[j]?=some x->PySem.W.kitOne K (.ref (B.cls i)) (.ref (B.cls j))=some (B.sub i j)
 exc:∀i x,n.exc[i]?=some x->mg x=some (.ref (B.cls i))/\(n.xin.lookup i=none->wg K (B.cls i))/\∀j,j < B.ne->PySem.W.exmOne K (.ref (B.cls j)) (.ref (B.cls i))=some (B.sub j i)
 kok:∀i,i < B.nk->KOk K B B.fad i
 kin:∀i,i < B.nk->∃f,B.ini i=some f
 kfi:∀i f,i < B.nk->B.ini i=some f->f < L.length
 kfm:∀i m f,i < B.nk->B.mth i m=some f->f < L.length
 knm:∀i x,n.kln[i]?=some x->mg x=some (.ref (B.kls i))/\i < B.nk
 glo:∀k x,n.gln[k]?=some x->∃u v,mg x=some u/\RelV v u/\wm K Pm (B.glo k) v
 bi:∀x∈biNames,mg x=none
 dig:rb K
 xi:∀i f,n.xin.lookup i=some f->B.xin i=some f/\∃fI fd ps,XIni K (B.cls i) fI (fnm f)/\Binds K fd ps []/\∀(P:Program)(w:World)(base:Heap),FnOk P w K mg base (CX1 P w) 1 fI fd ps (sY (cpF f) K (B.cls i) (fnm f))
 xn:∀i f,i < B.ne->B.xin i=some f->NoAttr K (B.cls i) (fnm f)
section
variable {w:World}{K:PySem.W.Frag}{L:List FL}{B:WB}
noncomputable def spF(K:PySem.W.Frag)(cls:Nat->Addr)(l:FL)(t3:List D->MH->VK3->XN->Prop):Sp:=λvs H Q E=>vs.length=l.ps.length/\spX K cls t3 vs H Q E
theorem FB.full_at{fb:FB}{ds:List D}(h:ds.length=fb.np):fb.full ds=ds:=by
 unfold FB.full;rw[List.drop_of_length_le (by omega),List.map_nil,List.append_nil]
theorem kd:∀{vs:List V}{us:List Value} (j:Nat),Vals vs us->Vals (vs.drop j) (us.drop j)
 |_,_,0,h=>h
 |_,_,_+1,.nil=>.nil
 |_,_,j+1,.cons _ h=>kd j h
theorem Bs{l:FL}(hl:L[f]?=some l){dv:List Value}(hv:Vals (l.df.map V.int) dv)(hb:∀j,Binds K fd l.ps (dv.drop j)):BdT K B.cls fd l.ps (aa (L.map FL.fb) B n f) (spF K B.cls l (aa (L.map FL.fb) B n f)):=by
 rintro vs H Q E ⟨ds,M,Q3,E3,dl,rm,h,back,lk⟩;cases n with
 |zero=>exact h.elim
 |succ n=>
  have hT:(L.map FL.fb)[f]?=some l.fb:=by rw[List.getElem?_map,hl];rfl
  have h0:=h;simp only[aa,hT]at h0;have e:=h0.1;have hlen:=dl.length;refine⟨(l.df.map V.int).drop (ds.length+l.df.length - l.ps.length),dv.drop (ds.length+l.df.length - l.ps.length),kd _ hv,hb _,?_,?_⟩
  ·have e2:(l.fb.full ds).length=l.ps.length:=e;unfold FB.full at e2;rw[List.length_append,List.length_map]at e2;rw[List.length_append,List.length_drop,List.length_map,<-hlen];rw[List.length_drop]at e2;exact e2
  ·refine⟨l.fb.full ds,M,Q3,E3,?_,rm,?_,back,lk⟩
   ·unfold FB.full;rw[<-List.map_drop];exact dl.append DenL.of_int
   ·simp only[aa,hT];rw[FB.full_at e];exact h0
theorem sv(T:Top w.params K mg L nm B):∀(n f:Nat)(l:FL),L[f]?=some l->∀(fd:FuncData),FunD K l.name l.qual l.st (B.fad f) fd->FnOk P w K mg base (CX1 P w) (2 * n+2) (B.fad f) fd l.ps (spF K B.cls l (aa (L.map FL.fb) B n f)):=by
 intro n
 induction n with
 |zero=>
  intro f l hl fd F;exact⟨λvs H Q E h=>h.1,λA outer s H args us vs Q E hr e0 hb r ⟨_,_,_,_,_,_,_,h,_⟩=>h.elim⟩
 |succ n ih=>
  intro f l hl fd F;have hT:(L.map FL.fb)[f]?=some l.fb:=by rw[List.getElem?_map,hl];rfl
  have hm:l∈L:=List.mem_of_getElem? hl;have okl:=T.ok l hm;unfold FL.ok at okl;rw[Bool.and_eq_true]at okl;have S:=qU okl.1;obtain⟨oc,od,dV,kV,doc,pm,an,cdv,ct,osl,rfl,lk,hcd⟩:=F.ex;have un:∀ds M Q E,aa (L.map FL.fb) B (n+1) f ds M Q E->ds.length=l.ps.length->au {toWB:=B,call:=aa (L.map FL.fb) B n} l.body {nx:=λ_ M'=>Q .non (kp l.cl M M'),rt:=λv M'=>Q v (kp l.cl M M')} (λ_ i M'=>E i (ac M M')) (pq l.N.length ds) M:=λds M Q E h e=>by
   simp only[aa,hT]at h;rw[FB.full_at (fb:=l.fb) e]at h;exact h.2
  show FnOk P w K mg base (CX1 P w) (2 * n+3+1) _ _ _ _;refine BY lk hcd S (λvs H Q E h=>?_) λA outer s H vs Q E hr hsp=>?_
  ·exact h.1
  ·obtain⟨hle,ds,M,Q3,E3,dl,rm,h,back,lkE⟩:=hsp;have h:=un _ _ _ _ h (by rw[dl.length];exact hle)
   have len:(fe L).length=L.length:=by unfold fe;rw[List.length_map]
   have G:Good (l.cfg (fe L) nm) {toWB:=B,call:=aa (L.map FL.fb) B n} (cR (CX1 P w) P w K mg base l.N l.qual (bY l.st) (B.fad f) cdv A outer s H E) (λ_=>E):=by
    refine⟨rfl,S.nd,rfl,hr.units,λ_=>rfl,(λz=>nomatch z),λ_ _=>rfl,(λ_ z=>nomatch z),λ_=>⟨Fu,E,rfl,vF,su,hr.mono (by omega),Au⟩,λ_=>⟨rfl,rfl,rfl⟩,λ_=>⟨2 * n+2,hr,λg hg=>?_⟩,λg x k hg=>?_,T.kok,T.kin,λi g hi q=>?_,λi m g hi q=>?_,T.knm,T.glo,T.exc,T.exi,(λi f hi=>?_),T.xn,T.bi,T.dig,λpins σ H' s' e s'' I hc=>B4 pins σ H' s' e s'' I hc⟩
    ·have hg:g < (fe L).length:=hg;rw[len]at hg;obtain⟨fd2,F2,_,_,dv2,v2,b2⟩:=T.fn g L[g] (by simp[hg])
     exact⟨fd2,_,_,F2.kp,Bs (by simp[hg]) v2 b2,ih g L[g] (by simp[hg]) fd2 F2⟩
    ·have hg:(fe L)[g]?=some (some x,k):=hg;unfold fe at hg;rw[List.getElem?_map]at hg;cases q:L[g]? with
     |none=>rw[q]at hg;cases hg
     |some l2=>
      rw[q]at hg;obtain⟨fd2,F2,m2,_⟩:=T.fn g l2 q;have e:((if l2.glob=true then some l2.gn else none),l2.ps.length)=(some x,k):=Option.some.inj hg
      by_cases z:l2.glob=true
      ·rw[if_pos z]at e;cases e;exact m2 z
      ·rw[if_neg z]at e;cases e
    ·show g < (fe L).length;rw[len];exact T.kfi i g hi q
    ·show g < (fe L).length;rw[len];exact T.kfm i m g hi q
    ·obtain⟨a,fI,fd3,ps3,x3,b3,F3⟩:=T.xi i f hi;exact⟨a,fI,fd3,ps3,x3,b3,F3 P w base⟩
   exact⟨_,sSs l.body okl.2 G,pq l.N.length ds,M,_,_,rm,ph dl,λσ3 σ i M' H' t _ rm' q dx xd=>lkE i _ H' t (rm'.sub λ_ _ z=>kr z) q dx xd,h,
    ⟨λσ' H' σ3' M' rm' ds' tm q=>back _ _ _ _ t8 (rm'.sub λ_ _ z=>se z) tm q,λv H' d M' dv rm' tm q=>back _ _ _ _ dv (rm'.sub λ_ _ z=>se z) tm q,λ_ _ _ _ _ _ _ z=>z.elim,λ_ _ _ _ _ _ _ z=>z.elim⟩⟩
end
noncomputable abbrev scr(ns:List Int):D:=.rol (ns.map D.int)
theorem walkD{l:PySem.W.OpenLaw}{k f:Nat}{q:Program}{loose:List Str}{XP:(Str->Option Value)->Heap->Prop}{YP:World->Heap->Prop}{d:DefRec}{K:Params->PySem.W.Frag}{fl:FL}{x:Str}{L:List FL}{nm:NM}{BB:(Nat->Addr)->(Nat->Addr)->(Nat->Addr)->WB}
  (hr:Room (2 * k+2) callerA) (hY:∀(w:World)(h:Heap),YP w h->(K w.params).In h) (hf:L[f]?=some fl) (hps:fl.ps=[x]) (hname:fl.gn=d.name) (hgl:fl.glob=true)
  (T:∀(w:World)(mg:Str->Option Value)(h:Heap),(K w.params).In h->h.Ns mainGlobals mg->∃cls kls fad,Top w.params (K w.params) mg L nm (BB cls kls fad))
  (main:∀(cls kls fad:Nat->Addr)(ns:List Int),ns.length<=63->aa (L.map FL.fb) (BB cls kls fad) k f [scr ns] (λ_=>none) (λd _=>d=.bl true) (λ_ _=>False)) (hd0:fl.df=[]:=by rfl) :
  ∀(w:World)(s₀ s₁:Shared)(mg mb:Str->Option Value)(fa:Addr)(a:Addr)(vs:List Value)(ns:List Int),0 < s₁.toks->PySem.W.Ground q loose [] XP w s₀ mg mb s₁.heap->YP w s₁.heap->mg d.name=some (.ref fa)->s₁.heap.get? a=some {cls:=.type "list",data:=.seq vs.toArray}->PyProof.Rows.IntsAre vs ns->ns.length<=63->s₁.gens=#[]->
   codeAny (model l.prog w) callerA (.call (.ref fa) ⟨[.ref a],[]⟩) (λr s'=>r=.ok (.ret (.bool true))/\OldK s₁.heap s'.heap/\s'.os=s₁.os/\AllBare s'.gens) s₁:=by
 intro w s₀ s₁ mg mb fa a vs ns htk G Y hmg hobj hints hlen hg;have KX:=hY w _ Y;obtain⟨cls,kls,fad,T⟩:=T w mg _ KX G.T.g;obtain⟨fd,F,m1,b1,_⟩:=T.fn f fl hf;have m1:=m1 hgl;rw[hname,hmg]at m1;have m1:=Value.ref.inj (Option.some.inj m1);subst m1;refine sk (K:=K w.params) (CX:=CX1 l.prog w) (fd:=fd) (x:=x) (sp:=spF (K w.params) (BB cls kls fad).cls fl (aa (L.map FL.fb) (BB cls kls fad) k f)) KX G.T.g G.T.b G.T.builtins G.T.nolimit hg htk hobj hints (Nat.le_trans hlen (by decide)) hr (λbase kb gb=>by rw[<-hps];exact sv T k f fl hf fd F) (λs u=>?_) (λH hO hS=>?_) λH e s' h=>?_
 ·have hb:=b1 hd0 [u] (by rw[hps];rfl)
  rw[hps]at hb;exact .of_eq hb
 ·have sq:SqF (K w.params) H a (ns.map V.int):=by
   cases hk:(K w.params).lookup a with
   |some ob=>
    have e:=KX a ob hk;rw[hobj]at e;cases e;exact .inr ⟨vs,_,hk,by rw[hints.length];exact Nat.le_trans hlen (by decide),gT hints⟩
   |none=>
    rcases hS with (h|⟨ob,h⟩)|⟨ob,_,_,h,_⟩
    ·rcases hO a with z|⟨o2,xs,z⟩
     ·rw[h]at z;cases z
     ·rw[h]at z;cases z
    ·exact .inl ⟨ob,h⟩
    ·rw[hk]at h;cases h
  refine⟨by rw[hps];rfl,[scr ns],λ_=>none,λd _=>d=.bl true,λ_ _=>False,.one ⟨a,_,rfl,sq,.of_int⟩,λa o e=>(by cases e),main cls kls fad ns hlen,λv H' d M' dv _ _ q=>?_,λ_ _ _ _ _ h=>h.elim⟩
  subst q;exact dv
 ·obtain⟨_,_,_,_,_,_,_,_,_,_,_,_,_,he⟩:=h;exact he
end L2
namespace L2
open PySem
noncomputable def nD(K:PySem.W.Frag)(a:Addr):Option FuncData:=match K.lookup a with
 |some ⟨_,_,.func fd,_⟩=>some fd
 |_=>none
noncomputable def fdN(l:FL)(fd:FuncData):FuncData:=PySem.W.fnOf l.name l.qual (fN l.st) (eF l.st) (bY l.st) (if l.df.isEmpty=true then .none else fd.defaults) fd.kwdefaults fd.doc fd.pyModule fd.annotations fd.code fd.closureTuple
noncomputable def fnB(K:PySem.W.Frag)(B:WB)(l:FL)(i:Nat):Bool:=(match nD K (B.fad i) with
 |some fd=>PySem.W.codeIn K fd.code l.qual
 |none=>false)&&PySem.W.keepIn K (.ref (B.fad i))&&(!l.glob||PySem.W.nsIn K mainGlobals l.gn == some (some (.ref (B.fad i))))
theorem vX{K:PySem.W.Frag}(h:nD K a=some fd):∃oc od sl,K.lookup a=some ⟨oc,od,.func fd,sl⟩:=by
 unfold nD at h;split at h
 ·rename_i oc od fd' sl e;cases h;exact⟨oc,od,sl,e⟩
 ·cases h
noncomputable def C9(K:PySem.W.Frag)(C:Addr):Bool:=PySem.W.hasDictIn K C&&PySem.W.findIn K (.ref C) "__getattribute__" == some (some (.builtin "BaseException.__getattribute__"))&&PySem.W.findIn K (.ref C) "__getattr__" == some none&&PySem.W.findIn K (.ref C) "__class__" == some (some (.builtin "object.__class__"))&&PySem.W.mroIn K C (.type "object") == some true&&PySem.W.mroIn K C (.type "BaseException") == some true&&PySem.W.kitOne K (.ref C) (.type "ValueError") == some true
noncomputable def Dd(K:PySem.W.Frag):Bool:=PySem.W.specialIn K (.builtin "object.__class__") "__get__" == some (some (.builtin "getset_descriptor.__get__"))&&PySem.W.takesIn K (.builtin "object.__class__") == some true&&PySem.W.nsIn K cStatics "sys.int_max_str_digits" == some none&&biNames.all λx=>PySem.W.nsIn K mainGlobals x == some none
noncomputable def Bq(K:PySem.W.Frag)(B:WB)(n:NM):Bool:=(List.range B.ne).all (λi=>C9 K (B.cls i)&&(List.range n.exc.length).all λj=>PySem.W.kitOne K (.ref (B.cls i)) (.ref (B.cls j)) == some (B.sub i j)&&PySem.W.exmOne K (.ref (B.cls i)) (.ref (B.cls j)) == some (B.sub i j))&&
 n.exc.zipIdx.all λp=>PySem.W.nsIn K mainGlobals p.1 == some (some (.ref (B.cls p.2)))&&((n.xin.lookup p.2).isSome||PySem.W.excIn K (B.cls p.2) bmV "ValueError.__new__")
noncomputable def kB(K:PySem.W.Frag)(B:WB)(fT:List (List Nat))(mT:List (List (Nat×Nat)))(iT:List Nat)(i:Nat):Bool:=
 PySem.W.plainGet K (B.kls i) Str.empty&&PySem.W.hasDictIn K (B.kls i)&&PySem.W.plainOver K (B.kls i)&&PySem.W.findIn K (.ref (B.kls i)) "__setattr__" == some (some (.builtin "object.__setattr__"))&&
 (fT.getD i []).all (λf=>PySem.W.findIn K (.ref (B.kls i)) (fnm f) == some none)&&
 (mT.getD i []).all (λp=>PySem.W.findIn K (.ref (B.kls i)) (fnm p.1) == some (some (.ref (B.fad p.2)))&&PySem.W.isFn K (.ref (B.fad p.2))&&PySem.W.keepIn K (.ref (B.fad p.2)))&&
 (match iT[i]? with
  |some f=>PySem.W.makesIn K (B.kls i)&&PySem.W.findIn K (.ref (B.kls i)) "__init__" == some (some (.ref (B.fad f)))&&PySem.W.isFn K (.ref (B.fad f))&&PySem.W.keepIn K (.ref (B.kls i))&&PySem.W.specialIn K (.ref (B.kls i)) "__getattribute__" == some (some (.builtin "type.__getattribute__"))&&PySem.W.readsIn K (B.kls i) (.type "type")&&
   (match PySem.W.findCls K (.ref (B.kls i)) (.type "type") "__init__" with
    |some (.val (.ref g))=>g == B.fad f
    |_=>false)
  |none=>false)&&
 PySem.W.findIn K (.ref (B.kls i)) "__class__" == some (some (.builtin "object.__class__"))&&PySem.W.mroIn K (B.kls i) (.type "object") == some true&&
 (List.range B.nk).all λj=>PySem.W.kitOne K (.ref (B.kls i)) (.ref (B.kls j)) == some (B.ksub i j)
noncomputable def BF(L m:Nat)(mT:List (List (Nat×Nat)))(iT:List Nat):Bool:=iT.length == m&&iT.all (λf=>decide (f < L))&&mT.all λl=>l.all λp=>decide (p.2 < L)
theorem gS(h:(List.range n).all p=true)(hi:i < n):p i=true:=List.all_eq_true.mp h i (List.mem_range.mpr hi)
theorem nP{l:List α}(h:l.zipIdx.all p=true)(hx:l[i]?=some x):p (x,i)=true:=by
 refine List.all_eq_true.mp h (x,i) ?_;rw[List.mem_zipIdx_iff_getElem?];exact hx
theorem CS{K:PySem.W.Frag}{L:List FL}{B:WB}(h:L.all (λl=>l.df.isEmpty)=true):∀(f:Nat)(l:FL),L[f]?=some l->l.df≠[]->∀fd,nD K (B.fad f)=some fd->∃dv,Vals (l.df.map V.int) dv/\∀j,Binds K fd l.ps (dv.drop j):=λf l hl z=>absurd (List.isEmpty_iff.mp (List.all_eq_true.mp h l (List.mem_of_getElem? hl))) z
theorem Top.of{Pm:Params}{K:PySem.W.Frag}{h:Heap}{L:List FL}{n:NM}{B:WB}{fT:List (List Nat)}{mT:List (List (Nat×Nat))}(X:K.In h)(Gn:h.Ns mainGlobals mg)
  (h1:L.all (λl=>l.ok (fe L) n)=true)
  (h2:L.zipIdx.map (λp=>nD K (B.fad p.2))=L.zipIdx.map λp=>(nD K (B.fad p.2)).map (fdN p.1))
  (h3:L.zipIdx.all (λp=>fnB K B p.1 p.2)=true)
  (h4:∀(f:Nat)(l:FL),L[f]?=some l->∀us:List Value,us.length=l.ps.length->∀(kV doc pm:Value)(an:Option Addr)(cdv ct:Value),bindArgs (PySem.W.fnOf l.name l.qual (fN l.st) (eF l.st) (bY l.st) .none kV doc pm an cdv ct) ⟨us,[]⟩=pure (l.ps.zip us))
  (h5:Dd K=true) (h6:Bq K B n=true)
  (h7:(List.range B.nk).all (kB K B fT mT iT)=true) (h8:BF L.length B.nk mT iT=true)
  (hf:∀i f,B.fok i f=(fT.getD i []).contains f) (hm:∀i m,B.mth i m=(mT.getD i []).lookup m) (hi:∀i,B.ini i=iT[i]?)
  (h9:n.kln.zipIdx.all (λp=>PySem.W.nsIn K mainGlobals p.1 == some (some (.ref (B.kls p.2)))&&decide (p.2 < B.nk))=true)
  (glo:∀(k:Nat)(x:Str),n.gln[k]?=some x->∃u v,mg x=some u/\RelV v u/\wm K Pm (B.glo k) v)
  (xi:∀i f,n.xin.lookup i=some f->B.xin i=some f/\∃fI fd ps,XIni K (B.cls i) fI (fnm f)/\Binds K fd ps []/\∀(P:Program)(w:World)(base:Heap),FnOk P w K mg base (CX1 P w) 1 fI fd ps (sY (cpF f) K (B.cls i) (fnm f)))
  (xn:∀i f,i < B.ne->B.xin i=some f->NoAttr K (B.cls i) (fnm f))
  (hd:∀(f:Nat)(l:FL),L[f]?=some l->l.df≠[]->∀fd,nD K (B.fad f)=some fd->∃dv,Vals (l.df.map V.int) dv/\∀j,Binds K fd l.ps (dv.drop j)):Top Pm K mg L n B:=by
 unfold Dd at h5;simp only[Bool.and_eq_true,beq_iff_eq]at h5;obtain⟨⟨⟨o1,o2⟩,o3⟩,o4⟩:=h5;unfold Bq at h6;rw[Bool.and_eq_true]at h6;obtain⟨e1,e2⟩:=h6;unfold BF at h8;simp only[Bool.and_eq_true,beq_iff_eq]at h8;obtain⟨⟨t1,t2⟩,t3⟩:=h8;have ki:∀i,i < B.nk->kB K B fT mT iT i=true:=λi hi=>gS h7 hi
 refine⟨λl hl=>List.all_eq_true.mp h1 l hl,λf l hl=>?_,λi hi=>?_,λi x hx=>?_,λi hi'=>?_,λi hi'=>?_,λi f hi' hf'=>?_,λi m f hi' hf'=>?_,λi x hx=>?_,glo,λx hx=>?_,o3,xi,xn⟩
 ·have g:=nP h3 hl;unfold fnB at g;simp only[Bool.and_eq_true]at g;obtain⟨⟨g1,g2⟩,g3⟩:=g;have hz:L.zipIdx[f]?=some (l,f):=by
   rw[List.getElem?_zipIdx,hl];simp
  have e:=congrArg (λz:List (Option FuncData)=>z[f]?) h2
  simp only[List.getElem?_map,hz,Option.map_some,Option.some.injEq]at e;cases hfd:nD K (B.fad f) with
  |none=>rw[hfd]at g1;cases g1
  |some fd=>
   rw[hfd]at e g1;simp only[Option.map_some,Option.some.injEq]at e;obtain⟨oc,od,sl,lk⟩:=vX hfd;have hb:l.df=[]->∀us:List Value,us.length=l.ps.length->bindArgs fd ⟨us,[]⟩=pure (l.ps.zip us):=λz us hu=>by
    rw[e];unfold fdN;rw[z];exact h4 f l hl us hu _ _ _ _ _ _
   refine⟨fd,⟨⟨oc,od,_,fd.kwdefaults,fd.doc,fd.pyModule,fd.annotations,fd.code,fd.closureTuple,sl,e,lk,g1⟩,g2⟩,λz=>?_,hb,?_⟩
   ·rw[z]at g3;exact PySem.W.mg_of X Gn (beq_iff_eq.mp (by simpa using g3))
   ·by_cases z:l.df=[]
    ·exact⟨[],by rw[z];exact .nil,λj=>by rw[List.drop_nil];exact .all (hb z)⟩
    ·exact hd f l hl z fd hfd
 ·have g:=gS e1 hi;rw[Bool.and_eq_true]at g;obtain⟨g1,g2⟩:=g;unfold C9 at g1;simp only[Bool.and_eq_true,beq_iff_eq]at g1;obtain⟨⟨⟨⟨⟨⟨a1,a2⟩,a3⟩,a4⟩,a5⟩,a6⟩,a7⟩:=g1;refine⟨⟨a1,a2,a3,a4,o1,o2,a5,a6⟩,a7,λj x hx=>?_⟩
  have hj:j < n.exc.length:=(List.getElem?_eq_some_iff.mp hx).1;have g:=gS g2 hj;rw[Bool.and_eq_true,beq_iff_eq]at g;exact g.1
 ·have g:=nP e2 hx;rw[Bool.and_eq_true,beq_iff_eq]at g;refine⟨PySem.W.mg_of X Gn g.1,λz=>?_,λj hj=>?_⟩
  ·have g2:=g.2;rw[show n.xin.lookup (x,i).2=none from z]at g2;have g3:PySem.W.excIn K (B.cls i) bmV "ValueError.__new__"=true:=by simpa using g2
   exact g3
  ·have q:=gS e1 hj;rw[Bool.and_eq_true]at q;have hi:i < n.exc.length:=(List.getElem?_eq_some_iff.mp hx).1;have g:=gS q.2 hi;rw[Bool.and_eq_true,beq_iff_eq,beq_iff_eq]at g;exact g.2
 ·have g:=ki i hi';unfold kB at g;simp only[Bool.and_eq_true,beq_iff_eq]at g;obtain⟨⟨⟨⟨⟨⟨⟨⟨⟨a1,a2⟩,a3⟩,a4⟩,a5⟩,a6⟩,a7⟩,a8⟩,a9⟩,a10⟩:=g;have iI:∀f,B.ini i=some f->PySem.W.makesIn K (B.kls i)=true/\PySem.W.findIn K (.ref (B.kls i)) "__init__"=some (some (.ref (B.fad f)))/\PySem.W.isFn K (.ref (B.fad f))=true/\PySem.W.keepIn K (.ref (B.kls i))=true/\PySem.W.specialIn K (.ref (B.kls i)) "__getattribute__"=some (some (.builtin "type.__getattribute__"))/\PySem.W.readsIn K (B.kls i) (.type "type")=true/\PySem.W.findCls K (.ref (B.kls i)) (.type "type") "__init__"=some (.val (.ref (B.fad f))):=λf hf=>by
   rw[hi i]at hf;rw[hf]at a7;simp only[Bool.and_eq_true,beq_iff_eq]at a7;obtain⟨⟨⟨⟨⟨⟨b1,b2⟩,b3⟩,b4⟩,b5⟩,b6⟩,b7⟩:=a7;refine⟨b1,b2,b3,b4,b5,b6,?_⟩;split at b7
   ·rename_i g hg;rw[hg,beq_iff_eq.mp b7]
   ·cases b7
  refine⟨⟨a1,a2,a3,a4⟩,λf hf'=>?_,λm f hm'=>?_,λf hf'=>?_,λf hf'=>?_,⟨a8,o1,o2,a9⟩,λj hj=>?_⟩
  ·rw[hf i f]at hf';exact beq_iff_eq.mp (List.all_eq_true.mp a5 f (List.contains_iff_mem.mp hf'))
  ·rw[hm i m]at hm';have q:=List.all_eq_true.mp a6 (m,f) (ft hm');simp only[Bool.and_eq_true,beq_iff_eq]at q;exact⟨q.1.1,q.1.2,q.2⟩
  ·obtain⟨b1,b2,b3,b4,_⟩:=iI f hf';exact⟨b1,b2,b3,b4⟩
  ·obtain⟨_,_,_,_,b5,b6,b7⟩:=iI f hf';exact⟨b5,b6,b7⟩
  ·exact beq_iff_eq.mp (gS a10 hj)
 ·rw[hi i];have:i < iT.length:=by rw[t1];exact hi'
  exact⟨iT[i],List.getElem?_eq_getElem this⟩
 ·rw[hi i]at hf';exact of_decide_eq_true (List.all_eq_true.mp t2 f (List.mem_of_getElem? hf'))
 ·rw[hm i m]at hf';have q:=ft hf';by_cases z:i < mT.length
  ·rw[List.getD_eq_getElem?_getD,List.getElem?_eq_getElem z]at q;exact of_decide_eq_true (List.all_eq_true.mp (List.all_eq_true.mp t3 _ (List.getElem_mem z)) _ q)
  ·rw[List.getD_eq_getElem?_getD,List.getElem?_eq_none (by omega)]at q
   cases q
 ·have g:=nP h9 hx;rw[Bool.and_eq_true,beq_iff_eq]at g;exact⟨PySem.W.mg_of X Gn g.1,of_decide_eq_true g.2⟩
 ·exact PySem.W.mg_none_of X Gn (beq_iff_eq.mp (List.all_eq_true.mp o4 x hx))
theorem n1{P:List Value->Prop}(h:∀a,P [a]):∀us:List Value,us.length=1->P us:=usS λa=>us0 (h a)
theorem n2{P:List Value->Prop}(h:∀a b,P [a,b]):∀us:List Value,us.length=2->P us:=usS λa=>usS λb=>us0 (h a b)
theorem n3{P:List Value->Prop}(h:∀a b c,P [a,b,c]):∀us:List Value,us.length=3->P us:=usS λa=>usS λb=>usS λc=>us0 (h a b c)
theorem n4{P:List Value->Prop}(h:∀a b c d,P [a,b,c,d]):∀us:List Value,us.length=4->P us:=usS λa=>usS λb=>usS λc=>usS λd=>us0 (h a b c d)
theorem n5{P:List Value->Prop}(h:∀a b c d e,P [a,b,c,d,e]):∀us:List Value,us.length=5->P us:=usS λa=>usS λb=>usS λc=>usS λd=>usS λe=>us0 (h a b c d e)
end L2
namespace L2
noncomputable def oi:Option Int->D
 |none=>.non
 |some i=>.int i
noncomputable abbrev pr(a b:Option Int):D:=.tup [oi a,oi b]
theorem aD{i j:Int}(h1:0 < j)(h2:j < 10 ^ 250):mC i j=True:=by
 refine eq_true ⟨h1,oQ ?_⟩;omega
theorem kI{i j:Int}(h1 : -(10 ^ 240) < i)(h2:i < 10 ^ 240)(h3 : -(10 ^ 240) < j)(h4:j < 10 ^ 240):eB i j=True:=by
 refine eq_true ⟨oQ ?_,oQ ?_⟩<;>omega
theorem jT{i j:Int}(h1:0<=j)(h2:j<=1000000)(h3:i.natAbs < 2 ^ 64):uq i j=True:=eq_true ⟨h1,h2,h3⟩
theorem C4{α:Type}(a:α)(l:List α):atI (a::l) 0=some a:=by simp[atI,ixN]
theorem CF{α:Type}(a b:α)(l:List α):atI (a::b::l) 1=some b:=f9 (j:=1) rfl
theorem BW{α:Type}(a b c:α)(l:List α):atI (a::b::c::l) 2=some c:=f9 (j:=2) rfl
theorem Ft{α:Type}(a b c d:α)(l:List α):atI (a::b::c::d::l) 3=some d:=f9 (j:=3) rfl
end L2
namespace L2
open PySem
section
variable {W:WC}{σ:St3}
@[simp ↓] theorem Hn:wpE W (.var 0) (some v::σ) M Q E=Q v M:=rfl
@[simp ↓] theorem Hh:wpE W (.var 1) (y0::some v::σ) M Q E=Q v M:=rfl
@[simp ↓] theorem G9:wpE W (.var 2) (y0::y1::some v::σ) M Q E=Q v M:=rfl
@[simp ↓] theorem Hk:wpE W (.var 3) (y0::y1::y2::some v::σ) M Q E=Q v M:=rfl
@[simp ↓] theorem G4:wpE W (.var 4) (y0::y1::y2::y3::some v::σ) M Q E=Q v M:=rfl
@[simp ↓] theorem G5:wpE W (.var 5) (y0::y1::y2::y3::y4::some v::σ) M Q E=Q v M:=rfl
@[simp ↓] theorem G7:wpE W (.var 6) (y0::y1::y2::y3::y4::y5::some v::σ) M Q E=Q v M:=rfl
@[simp ↓] theorem Hm:wpE W (.var 7) (y0::y1::y2::y3::y4::y5::y6::some v::σ) M Q E=Q v M:=rfl
@[simp ↓] theorem Hg:wpE W (.var 8) (y0::y1::y2::y3::y4::y5::y6::y7::some v::σ) M Q E=Q v M:=rfl
@[simp ↓] theorem Hd:wpE W (.var 9) (y0::y1::y2::y3::y4::y5::y6::y7::y8::some v::σ) M Q E=Q v M:=rfl
@[simp ↓] theorem GA:wpE W (.con v) σ M Q E=Q v M:=rfl
@[simp ↓] theorem GP{op a b}:wpE W (.bin op a b) σ M Q E=wpE W a σ M (λx M1=>wpE W b σ M1 (λy M2=>jQ op x y M2 Q) E) E:=rfl
@[simp ↓] theorem F0{a}:wpE W (.neg a) σ M Q E=wpE W a σ M (λx M1=>rNeg x M1 Q) E:=rfl
@[simp ↓] theorem GT{fz a b}:wpE W (.cat fz a b) σ M Q E=wpE W a σ M (λx M1=>wpE W b σ M1 (λy M2=>g5 fz x y M2 Q) E) E:=rfl
@[simp ↓] theorem Gh{op a b}:wpE W (.cmp op a b) σ M Q E=wpE W a σ M (λx M1=>wpE W b σ M1 (λy M2=>aU op x y M2 Q) E) E:=rfl
@[simp ↓] theorem DE{op op' a b c}:wpE W (.chain op op' a b c) σ M Q E=wpE W a σ M (λx M1=>wpE W b σ M1 (λy M2=>aU op x y M2 λr M3=>match r with
  |.bl k=>if k=true then wpE W c σ M3 (λz M4=>aU op' y z M4 Q) E else Q (.bl false) M3
  |_=>False) E) E:=rfl
@[simp ↓] theorem Gq{a b}:wpE W (.and a b) σ M Q E=wpE W a σ M (λx M1=>match x with
  |.bl c=>if c=true then wpE W b σ M1 Q E else Q (.bl false) M1
  |_=>False) E:=rfl
@[simp ↓] theorem Gr{c a b}:wpE W (.ifx c a b) σ M Q E=wpT W c σ M (λk M1=>if k=true then wpE W a σ M1 Q E else wpE W b σ M1 Q E) E:=rfl
@[simp ↓] theorem GI{es}:wpE W (.tup es) σ M Q E=wpA W es σ M (λxs M1=>xs.length<=sizeLine/\Q (.tup xs) M1) E:=rfl
@[simp ↓] theorem F1{fz es}:wpE W (.lst fz es) σ M Q E=wpA W es σ M (λxs M1=>cT fz xs M1 Q) E:=rfl
@[simp ↓] theorem Gb{e}:wpE W (.frz e) σ M Q E=wpE W e σ M (bu Q) E:=rfl
@[simp ↓] theorem G8{a b}:wpE W (.ix a b) σ M Q E=wpE W a σ M (λx M1=>wpE W b σ M1 (λy M2=>bL x y M2 Q) E) E:=rfl
@[simp ↓] theorem Hb{fz a lo hi}:wpE W (.sl fz a lo hi) σ M Q E=wpE W a σ M (λx M1=>wpO W lo σ M1 (λl M2=>wpO W hi σ M2 (λh M3=>lQ fz x l h M3 Q) E) E) E:=rfl
@[simp ↓] theorem Ew{f es}:wpE W (.call f es) σ M Q E=wpA W es σ M (λxs M1=>W.call f xs M1 Q E) E:=rfl
@[simp ↓] theorem Hl{b es}:wpE W (.bi b es) σ M Q E=wpA W es σ M (λxs M1=>rBi b xs M1 Q) E:=rfl
@[simp ↓] theorem GV{e t}:wpE W (.isB e t) σ M Q E=wpE W e σ M (λx M1=>iQ t x M1 Q) E:=rfl
@[simp ↓] theorem G2{e c}:wpE W (.isC e c) σ M Q E=wpE W e σ M (λx M1=>my W.ne W.cls (λi=>W.sub i c) x M1 Q) E:=rfl
@[simp ↓] theorem GC{fz e}:wpE W (.rev fz e) σ M Q E=wpE W e σ M (λx M1=>ua fz x M1 Q) E:=rfl
@[simp ↓] theorem FS{fz e}:wpE W (.lrng fz e) σ M Q E=wpE W e σ M (λx M1=>rLg fz x M1 Q) E:=rfl
@[simp ↓] theorem Hf{e}:wpE W (.sm e) σ M Q E=wpE W e σ M (λx M1=>rSm x M1 Q) E:=rfl
@[simp ↓] theorem Go{e f}:wpE W (.fld e f) σ M Q E=wpE W e σ M (λx M1=>fK W.toWB f x M1 Q) E:=rfl
@[simp ↓] theorem DN{i es}:wpE W (.make true i es) σ M Q E=wpA W es σ M (λxs M1=>i < W.nk/\jg (W.ini i) λf=>∀p,M1 p=none->W.call f (.ref p::xs) (put M1 p (.ins i (W.kls i) [] [])) (λv M2=>v=.non/\bu Q (.ref p) M2) (λi M'=>E i (L2.del M' p))) E:=rfl
@[simp ↓] theorem E9{e m es}:wpE W (.meth e m es) σ M Q E=wpE W e σ M (λx M1=>c8 W.toWB m x M1 λf=>wpA W es σ M1 (λxs M2=>W.call f (x::xs) M2 Q E) E) E:=rfl
@[simp ↓] theorem GK{e j}:wpE W (.isK e j) σ M Q E=wpE W e σ M (λx M1=>mi W.toWB j x M1 Q) E:=rfl
@[simp ↓] theorem F4{k}:wpE W (.glo k) σ M Q E=uz (W.glo k) M Q:=rfl
@[simp ↓] theorem G3{b o es}:wpE W (.bm b o es) σ M Q E=wpE W o σ M (λx M1=>tyB b x M1=true/\wpA W es σ M1 (λxs M2=>rBm b x xs M2 Q) E) E:=rfl
@[simp ↓] theorem GH{fz a b}:wpE W (.rep fz a b) σ M Q E=wpE W a σ M (λx M1=>wpE W b σ M1 (λy M2=>i9 fz x y M2 Q) E) E:=rfl
@[simp] theorem AE:ac M M=M:=by
 funext a;unfold ac;split<;>simp_all
@[simp] theorem gj(h:M p=none):ac M (put M' p o)=ac M M':=by
 funext a;unfold ac put;split
 ·rename_i x e;split
  ·rename_i z;subst z;rw[h]at e;cases e
  ·rfl
 ·rfl
@[simp] theorem uf(h:M p=some u):ac M (put M' p o)=put (ac M M') p o:=by
 funext a;unfold ac put;by_cases z:a=p
 ·subst z;simp[h]
 ·simp[z]
@[simp] theorem DJ:ac (put M p o) (put M' p u)=put (ac M M') p u:=by
 funext a;unfold ac put;by_cases z:a=p
 ·subst z;simp
 ·simp[z]
@[simp ↓] theorem AN:jg (some f) R=R f:=rfl
@[simp ↓] theorem Ec{B:WB}{f i C ns ds}:fK B f (.obj i C ns ds) M Q=((C=B.kls i/\i < B.nk/\B.fok i f=true)/\jX f ns ds M Q):=rfl
@[simp ↓] theorem BZ{f n ns d ds}:jX f (n::ns) (d::ds) M Q=if n=f then Q d M else jX f ns ds M Q:=by
 unfold jX;rw[bX];by_cases h:n=f
 ·rw[if_pos h,if_pos h]
 ·rw[if_neg h,if_neg h]
@[simp ↓] theorem Dk{B:WB}{m i C ns ds}:c8 B m (.obj i C ns ds) M R=((C=B.kls i/\i < B.nk/\bX m ns ds=none)/\jg (B.mth i m) R):=rfl
@[simp] theorem AF:bX f [] ds=none:=by unfold bX;rfl
@[simp] theorem yO:bX f (n::ns) (d::ds)=if n=f then some d else bX f ns ds:=by rw[bX]
@[simp ↓] theorem uS{B:WB}{j i C ns ds}:mi B j (.obj i C ns ds) M Q=((C=B.kls i/\i < B.nk/\j < B.nk)/\Q (.bl (B.ksub i j)) M):=rfl
@[simp] theorem AG:cO f []=[f]:=rfl
@[simp] theorem yg:cO f (n::ns)=if n=f then n::ns else n::cO f ns:=rfl
@[simp] theorem AD:cS f y [] ds=[y]:=by unfold cS;rfl
@[simp] theorem xV:cS f y (n::ns) (d::ds)=if n=f then y::ds else d::cS f y ns ds:=by rw[cS]
@[simp ↓] theorem ir{ds}(h:M a=none):bu Q (.ref a) (put M a (.lst ds))=Q (.rol ds) M:=by
 simp only[bu,ah,dF h]
@[simp ↓] theorem DL{fz z lo hi}:lQ fz (.str z) lo hi M Q=(z.length<=sizeLine/\Q (.str (Txt.slice z lo hi)) M):=rfl
@[simp ↓] theorem DF{ds lo hi}:lQ true (.rol ds) lo hi M Q=((bC ds lo hi).length<=sizeLine/\Q (.rol (bC ds lo hi)) M):=rfl
@[simp ↓] theorem Fs{tk}:wpE W (.dnew tk) σ M Q E=∀p,M p=none->Q (.ref p) (put M p (if tk=true then .dt [] [] else .dk [] [])):=rfl
@[simp] theorem xZ{x}:tyB .insert x M=isLstM x M:=rfl
theorem rh{ds}(h:M a=some (.lst ds)):rBm .insert (.ref a) [.int i,y] M Q=((ds.length < sizeLine/\-(2 ^ 62)<=i/\i < 2 ^ 62)/\Q .non (put M a (.lst (qX ds i y)))):=by simp[rBm,h]
@[simp] theorem xS{x}:tyB .extend x M=isLstM x M:=rfl
theorem q9{ds}(h:M a=some (.lst ds))(hj:ixN ds.length i=some j):dA (.ref a) (.int i) y M R=R (put M a (.lst (ds.set j y))):=by simp[dA,h,hj]
@[simp ↓] theorem zO{ne:Nat}{cls:Nat->Addr}{r:Nat->Bool}{a:Addr}{c:Nat}{pl:Option (Nat×D)}:my ne cls r (.ref a) (put M a (.exc ⟨c,pl⟩ (.ref (cls c)))) Q=(c < ne/\Q (.bl (r c)) (put M a (.exc ⟨c,pl⟩ (.ref (cls c))))):=by
 simp[my,ah]
@[simp ↓] theorem GM{i De}:wpH W .nil i De σ M=False:=rfl
@[simp ↓] theorem Ei{c body r i De}:wpH W (.cons c none body r) i De σ M=(i.c < W.ne/\if W.sub i.c c=true then au W body De (λ_ _ _=>False) σ M else wpH W r i De σ M):=rfl
@[simp ↓] theorem D1{c j body r i De}:wpH W (.cons c (some j) body r) i De σ M=(i.c < W.ne/\if W.sub i.c c=true then (∀a,M a=none->au W body (mK De j) (λ_ _ _=>False) (σ.set j (some (.ref a))) (put M a (.exc i (.ref (W.cls i.c))))) else wpH W r i De σ M):=rfl
@[simp ↓] theorem DV{ds}:ua true (.rol ds) M Q=(ds.reverse.length<=sizeLine/\Q (.rol ds.reverse) M):=rfl
noncomputable def fc(W:WC)(tg:ITg)(cond:ITO)(elt:IE)(S:MH->Prop)(p:Addr)(Q:VK3):List D->List D->St3->MH->Prop:=dj (wpG tg) (λσ M Q=>li W cond σ M Q (λ_ _=>False)) (λσ M Q=>wpE W elt σ M Q (λ_ _=>False)) S p Q
noncomputable def kN(W:WC)(tg:ITg)(cond:ITO)(elt:IE)(S:MH->Prop)(Q:VK3)(ds:List D)(σ:St3)(M:MH):Prop:=∀p,M p=none->fc W tg cond elt S p (fJ Q) ds [] σ (put M p (.lst []))
@[simp ↓] theorem Dr{N js tg it cond elt}:wpE W (.comp true N js tg it cond elt) σ M Q E=wpI W it σ M (λds S M1=>kN W tg cond elt S Q ds (aw js σ) M1) E:=rfl
@[simp ↓] theorem Dm{N js tg it cond elt}:wpE W (.comp false N js tg it cond elt) σ M Q E=wpI W it σ M (λds S M1=>∀p,M1 p=none->fc W tg cond elt S p Q ds [] (aw js σ) (put M1 p (.lst []))) E:=rfl
@[simp ↓] theorem Fy{e}:wpT W (.val e) σ M QB E=wpE W e σ M (λx M1=>match x with
  |.bl k=>QB k M1
  |_=>False) E:=rfl
@[simp ↓] theorem Fj{op a b}:wpT W (.cmp op a b) σ M QB E=wpE W a σ M (λx M1=>wpE W b σ M1 (λy M2=>aU op x y M2 λr M3=>match r with
  |.bl k=>QB k M3
  |_=>False) E) E:=rfl
@[simp ↓] theorem FV{a b}:wpT W (.and a b) σ M QB E=wpT W a σ M (λc M1=>if c=true then wpT W b σ M1 QB E else QB false M1) E:=rfl
@[simp ↓] theorem FY{a b}:wpT W (.or a b) σ M QB E=wpT W a σ M (λc M1=>if c=true then QB true M1 else wpT W b σ M1 QB E) E:=rfl
@[simp ↓] theorem EN{a}:wpT W (.not a) σ M QB E=wpT W a σ M (λc M1=>QB (!c) M1) E:=rfl
@[simp ↓] theorem FW:wpA W .nil σ M QL E=QL [] M:=rfl
@[simp ↓] theorem Dt{e r}:wpA W (.cons e r) σ M QL E=wpE W e σ M (λx M1=>wpA W r σ M1 (λxs M2=>QL (x::xs) M2) E) E:=rfl
@[simp ↓] theorem Gu:wpO W .no σ M QO E=QO none M:=rfl
@[simp ↓] theorem EX{e}:wpO W (.yes e) σ M QO E=wpE W e σ M (λx M1=>match x with
  |.int i=>QO (some i) M1
  |_=>False) E:=rfl
@[simp ↓] theorem EQ{e}:li W (.yes e) σ M QB E=wpT W e σ M QB E:=rfl
noncomputable def sH(R:List D->(MH->Prop)->MH->Prop):VK3:=λx M1=>match x with
  |.tup ds=>R ds (λ_=>True) M1
  |.rol ds=>R ds (λ_=>True) M1
  |.ref a=>match M1 a with
   |some (.lst ds)=>R ds (λM=>M a=some (.lst ds)) M1
   |_=>False
  |.str z=>R (dS z) (λ_=>True) M1
  |_=>False
@[simp ↓] theorem B1{z}:sH R (.str z) M=R (dS z) (λ_=>True) M:=rfl
@[simp ↓] theorem Ci{ds}:sH R (.rol ds) M=R ds (λ_=>True) M:=rfl
noncomputable def wu(R:List D->(MH->Prop)->MH->Prop):VK3:=λx M1=>match x with
 |.rol ds=>R ds (λ_=>True) M1
 |.ref a=>match M1 a with
  |some (.lst ds)=>R ds (λM=>M a=some (.lst ds)) M1
  |_=>False
 |_=>False
@[simp ↓] theorem AH{ds}:wu R (.rol ds) M=R ds (λ_=>True) M:=rfl
@[simp ↓] theorem Dn{e}:wpI W (.seqL e) σ M R E=wpE W e σ M (wu R) E:=rfl
@[simp ↓] theorem EI{e}:wpI W (.seq e) σ M R E=wpE W e σ M (sH R) E:=rfl
@[simp ↓] theorem DX{a}:wpI W (.rng1 a) σ M R E=wpE W a σ M (λx M1=>match x with
  |.int j=>-(2 ^ 62)<=j/\j < 2 ^ 62/\R (rng 0 j.toNat) (λ_=>True) M1
  |_=>False) E:=rfl
end
section
variable {W:WC}{σ:St3}{De:Ends3}{x:Option D}
@[simp ↓] theorem En:au W .nil De ES σ M=De.nx σ M:=rfl
@[simp ↓] theorem DD{s r}:au W (.cons s r) De ES (x::σ) M=wpS W s {De with nx:=λσ' M'=>au W r De ES σ' M'} ES (x::σ) M:=rfl
@[simp ↓] theorem FK{e}:wpS W (.set 1 e) De ES (y0::x::σ) M=wpE W e (y0::x::σ) M (λv M1=>De.nx (y0::some v::σ) M1) (ES (y0::x::σ)):=rfl
@[simp ↓] theorem EK{e}:wpS W (.set 2 e) De ES (y0::y1::x::σ) M=wpE W e (y0::y1::x::σ) M (λv M1=>De.nx (y0::y1::some v::σ) M1) (ES (y0::y1::x::σ)):=rfl
@[simp ↓] theorem ET{e}:wpS W (.set 3 e) De ES (y0::y1::y2::x::σ) M=wpE W e (y0::y1::y2::x::σ) M (λv M1=>De.nx (y0::y1::y2::some v::σ) M1) (ES (y0::y1::y2::x::σ)):=rfl
@[simp ↓] theorem Ez{e}:wpS W (.set 4 e) De ES (y0::y1::y2::y3::x::σ) M=wpE W e (y0::y1::y2::y3::x::σ) M (λv M1=>De.nx (y0::y1::y2::y3::some v::σ) M1) (ES (y0::y1::y2::y3::x::σ)):=rfl
@[simp ↓] theorem FQ{e}:wpS W (.set 5 e) De ES (y0::y1::y2::y3::y4::x::σ) M=wpE W e (y0::y1::y2::y3::y4::x::σ) M (λv M1=>De.nx (y0::y1::y2::y3::y4::some v::σ) M1) (ES (y0::y1::y2::y3::y4::x::σ)):=rfl
@[simp ↓] theorem EG{e}:wpS W (.set 6 e) De ES (y0::y1::y2::y3::y4::y5::x::σ) M=wpE W e (y0::y1::y2::y3::y4::y5::x::σ) M (λv M1=>De.nx (y0::y1::y2::y3::y4::y5::some v::σ) M1) (ES (y0::y1::y2::y3::y4::y5::x::σ)):=rfl
@[simp ↓] theorem EH{e}:wpS W (.set 7 e) De ES (y0::y1::y2::y3::y4::y5::y6::x::σ) M=wpE W e (y0::y1::y2::y3::y4::y5::y6::x::σ) M (λv M1=>De.nx (y0::y1::y2::y3::y4::y5::y6::some v::σ) M1) (ES (y0::y1::y2::y3::y4::y5::y6::x::σ)):=rfl
@[simp ↓] theorem EE{e}:wpS W (.set 8 e) De ES (y0::y1::y2::y3::y4::y5::y6::y7::x::σ) M=wpE W e (y0::y1::y2::y3::y4::y5::y6::y7::x::σ) M (λv M1=>De.nx (y0::y1::y2::y3::y4::y5::y6::y7::some v::σ) M1) (ES (y0::y1::y2::y3::y4::y5::y6::y7::x::σ)):=rfl
@[simp ↓] theorem Fx{e}:wpS W (.set 9 e) De ES (y0::y1::y2::y3::y4::y5::y6::y7::y8::x::σ) M=wpE W e (y0::y1::y2::y3::y4::y5::y6::y7::y8::x::σ) M (λv M1=>De.nx (y0::y1::y2::y3::y4::y5::y6::y7::y8::some v::σ) M1) (ES (y0::y1::y2::y3::y4::y5::y6::y7::y8::x::σ)):=rfl
@[simp ↓] theorem Dv{j}:(mK De j).nx σ M=De.nx (σ.set j none) M:=rfl
noncomputable def ny(B:WB)(f:Nat)(y:D)(R:MH->Prop):VK3:=λx M2=>match x with
  |.ref a=>match M2 a with
   |some (.ins i C ns ds)=>(C=B.kls i/\i < B.nk/\B.fok i f=true/\ns.length < 1000)/\R (put M2 a (.ins i C (cO f ns) (cS f y ns ds)))
   |_=>False
  |_=>False
noncomputable def oo(is:List Nat)(σ:St3)(k:St3->MH->Prop):VK3:=λx M1=>match x with
  |.tup ds=>ds.length=is.length/\k ((is.zip ds).foldl (λσ p=>σ.set p.1 (some p.2)) σ) M1
  |_=>False
@[simp ↓] theorem Dx{i j a b k}:oo [i,j] σ k (.tup [a,b]) M=k ((σ.set i (some a)).set j (some b)) M:=by
 simp[oo]
@[simp ↓] theorem FD{is e}:wpS W (.unp is e) De ES σ M=wpE W e σ M (oo is σ De.nx) (ES σ):=rfl
@[simp ↓] theorem Dy{e}:wpS W (.expr e) De ES σ M=wpE W e σ M (λ_ M1=>De.nx σ M1) (ES σ):=rfl
@[simp ↓] theorem FN{e}:wpS W (.ret e) De ES σ M=wpE W e σ M De.rt (ES σ):=rfl
@[simp ↓] theorem D5{o f e}:wpS W (.fset o f e) De ES σ M=wpE W e σ M (λy M1=>wpE W o σ M1 (ny W.toWB f y (De.nx σ)) (ES σ)) (ES σ):=rfl
@[simp ↓] theorem B6{o i e}:wpS W (.ixset o i e) De ES σ M=wpE W e σ M (λy M1=>wpE W o σ M1 (λx M2=>wpE W i σ M2 (λk M3=>dA x k y M3 λM4=>De.nx σ M4) (ES σ)) (ES σ)) (ES σ):=rfl
@[simp ↓] theorem Et{c a b}:wpS W (.ifs c a b) De ES σ M=wpT W c σ M (λk M1=>if k=true then au W a De ES σ M1 else au W b De ES σ M1) (ES σ):=rfl
noncomputable def fm(W:WC)(tg:ITg)(body:ISs)(ES:St3->XN)(S:MH->Prop)(De:Ends3):List D->St3->MH->Prop:=iU (wpG tg) (λD σ M=>au W body D ES σ M) S De
@[simp ↓] theorem Fi{tg it body}:wpS W (.for_ tg it body) De ES σ M=wpI W it σ M (λds S M1=>fm W tg body ES S De ds σ M1) (ES σ):=rfl
theorem bT{tg body S}:fm W tg body ES S De [] σ M=(S M/\De.nx σ M):=rfl
theorem bj{tg body S d r}:fm W tg body ES S De (d::r) σ M=(S M/\wpG tg d σ M λσ2 M2=>au W body {De with nx:=fm W tg body ES S De r,ct:=fm W tg body ES S De r,bk:=De.nx} ES σ2 M2):=rfl
@[simp ↓] theorem C0{c es}:wpS W (.raise c es) De ES σ M=wpA W es σ M (λxs M1=>xs.length<=sizeLine/\ES σ ⟨c,none⟩ M1) (ES σ):=rfl
@[simp ↓] theorem EV{body hs}:wpS W (.try_ body hs) De ES σ M=au W body De (λσ' i M'=>wpH W hs i De σ' M') σ M:=rfl
noncomputable def ui(W:WC)(e:IE)(De:Ends3)(E:XN)(σ:St3):VK3:=λx M1=>match x with
  |.ref a=>match M1 a with
   |some (.lst _)=>wpE W e σ M1 (λy M2=>match M2 a with
    |some (.lst ds)=>ds.length < sizeLine/\De.nx σ (put M2 a (.lst (ds++[y])))
    |_=>False) E
   |_=>False
  |_=>False
@[simp ↓] theorem El{o e}:wpS W (.app o e) De ES σ M=wpE W o σ M (ui W e De (ES σ) σ) (ES σ):=rfl
noncomputable def dL(p:Addr)(De:Ends3)(σ:St3):VK3:=λy M2=>match M2 p with
    |some (.lst ds)=>ds.length < sizeLine/\De.nx σ (put M2 p (.lst (ds++[y])))
    |_=>False
@[simp ↓] theorem Dq{e E p ds}:ui W e De E σ (.ref p) (put M p (.lst ds))=wpE W e σ (put M p (.lst ds)) (dL p De σ) E:=by
 unfold ui;simp only[ah];rfl
@[simp ↓] theorem BE{p ds y}:dL p De σ y (put M p (.lst ds))=(ds.length < sizeLine/\De.nx σ (put M p (.lst (ds++[y])))):=by
 unfold dL;simp only[ah,cV]
@[simp ↓] theorem DB{i d k}:wpG (.name i) d σ M k=k (σ.set i (some d)) M:=rfl
@[simp ↓] theorem Ek{is d k}:wpG (.tup is) d σ M k=oo is σ k d M:=rfl
end
section
variable {i j:Int}{x:D}
@[simp ↓] theorem F8:jQ .Add (.int i) (.int j) M Q=Q (.int (i+j)) M:=rfl
@[simp ↓] theorem GZ:jQ .Sub (.int i) (.int j) M Q=Q (.int (i - j)) M:=rfl
@[simp ↓] theorem GX:jQ .Mult (.int i) (.int j) M Q=(eB i j/\Q (.int (i * j)) M):=rfl
@[simp ↓] theorem GG:jQ .FloorDiv (.int i) (.int j) M Q=(mC i j/\Q (.int (i / j)) M):=rfl
@[simp ↓] theorem Gp:jQ .Mod (.int i) (.int j) M Q=(0 < j/\Q (.int (i % j)) M):=rfl
@[simp ↓] theorem Ge:jQ .Pow (.int i) (.int j) M Q=(uq i j/\Q (.int (i ^ j.toNat)) M):=rfl
@[simp ↓] theorem EO{s t:Str}:jQ .Add (.str s) (.str t) M Q=(s.length+t.length<=sizeLine/\Q (.str (s++t)) M):=rfl
@[simp ↓] theorem GU:aU .In (.str s) (.str t) M Q=Q (.bl (jI s t)) M:=by simp[aU,oW,aN,ag,lf,m9,jP]
@[simp ↓] theorem Ho{s:Str}:bL (.str s) (.int j) M Q=((0<=j/\j < s.length/\j < 2 ^ 63)/\Q (.str (d5 s j.toNat)) M):=by simp[bL,aN,ag,lf,m9,jP]
@[simp ↓] theorem DC{s:Str}:rBi .len [.str s] M Q=(s.length<=sizeLine/\Q (.int s.length) M):=rfl
@[simp ↓] theorem DU:rBi .strL [.int i] M Q=(i.natAbs < 10 ^ 4300/\Q (.str (toString i)) M):=rfl
@[simp ↓] theorem Gz:tyB .startswith (.str s) M=true:=rfl
@[simp ↓] theorem F7:tyB .split (.str s) M=true:=rfl
@[simp ↓] theorem Gc:rBm .startswith (.str s) [.str t] M Q=Q (.bl (Txt.startswith s t)) M:=rfl
@[simp ↓] theorem Gg{s t:Str}:rBm .split (.str s) [.str t] M Q=((t.length≠0/\s.length<=sizeLine/\(Txt.split s t).length<=sizeLine)/\Q (.rol ((Txt.split s t).map D.str)) M):=rfl
theorem oR{s:Str}(h:intText? s=some k):rBi .int [.str s] M Q=(s.length<=sizeLine/\Q (.int k) M):=by simp[rBi,h]
@[simp ↓] theorem GE:rNeg (.int i) M Q=Q (.int (-i)) M:=rfl
@[simp ↓] theorem G6:aU .Lt (.int i) (.int j) M Q=Q (.bl (decide (i < j))) M:=rfl
@[simp ↓] theorem He:aU .LtE (.int i) (.int j) M Q=Q (.bl (decide (i<=j))) M:=rfl
@[simp ↓] theorem Hi:aU .Gt (.int i) (.int j) M Q=Q (.bl (decide (j < i))) M:=rfl
@[simp ↓] theorem GS:aU .Eq (.int i) (.int j) M Q=Q (.bl (decide (i=j))) M:=by simp[aU,lq,rs,ag,plN,eqD]
@[simp ↓] theorem Gm:aU .NotEq (.int i) (.int j) M Q=Q (.bl (!decide (i=j))) M:=by simp[aU,lq,rs,ag,plN,eqD]
@[simp ↓] theorem Gd:aU .NotEq (.str s) (.str t) M Q=Q (.bl (!decide (s=t))) M:=by simp[aU,lq,rs,ag,plN,eqD]
@[simp ↓] theorem F9:aU .Eq (.str s) (.str t) M Q=Q (.bl (decide (s=t))) M:=by simp[aU,lq,rs,ag,plN,eqD]
@[simp ↓] theorem Gw:aU .Is x .non M Q=Q (.bl x.isN) M:=by simp[aU,re]
@[simp ↓] theorem Ff:aU .IsNot x .non M Q=Q (.bl (!x.isN)) M:=by simp[aU,re]
@[simp] theorem Dz:(D.int i).isN=false:=rfl
@[simp] theorem Ef:D.non.isN=true:=rfl
@[simp ↓] theorem GQ{d l}:bL (.tup (d::l)) (.int 0) M Q=Q d M:=by simp[bL,aN,C4]
@[simp ↓] theorem GO{d e l}:bL (.tup (d::e::l)) (.int 1) M Q=Q e M:=by simp[bL,aN,CF]
@[simp ↓] theorem Gs{d e f l}:bL (.tup (d::e::f::l)) (.int 2) M Q=Q f M:=by simp[bL,aN,BW]
@[simp ↓] theorem BU{ds}:rBi (.list true) [.rol ds] M Q=(ds.length<=sizeLine/\Q (.rol ds) M):=rfl
@[simp ↓] theorem GY{d l}:bL (.rol (d::l)) (.int 0) M Q=Q d M:=by simp[bL,aN,ag,C4]
@[simp ↓] theorem F6{d e l}:bL (.rol (d::e::l)) (.int 1) M Q=Q e M:=by simp[bL,aN,ag,CF]
@[simp ↓] theorem GW{d e f l}:bL (.rol (d::e::f::l)) (.int 2) M Q=Q f M:=by simp[bL,aN,ag,BW]
@[simp ↓] theorem FZ{d e f g l}:bL (.rol (d::e::f::g::l)) (.int 3) M Q=Q g M:=by simp[bL,aN,ag,Ft]
@[simp ↓] theorem D8{ds}:rBi .len [.rol ds] M Q=Q (.int ds.length) M:=rfl
@[simp ↓] theorem G1{ds}:cT true ds M Q=(ds.length<=sizeLine/\Q (.rol ds) M):=by simp[cT]
@[simp ↓] theorem FP{ds es}:g5 true (.rol ds) (.rol es) M Q=((ds++es).length<=sizeLine/\Q (.rol (ds++es)) M):=by simp[g5,ag,cT]
@[simp ↓] theorem GR{ds}:cT false ds M Q=(ds.length<=sizeLine/\∀p,M p=none->Q (.ref p) (put M p (.lst ds))):=by simp[cT]
theorem af(h:n<=1000):(n<=sizeLine)=True:=eq_true (Nat.le_trans h (by decide))
@[simp ↓] theorem Fg{ds}:rSm (.rol ds) M Q=(match eY ds with
  |some ns=>Q (.int ns.sum) M
  |none=>False):=rfl
@[simp ↓] theorem Fp{j:Int}:rLg true (.int j) M Q=((-(2 ^ 62)<=j/\j<=2 ^ 20)/\cT true (rng 0 j.toNat) M Q):=rfl
@[simp ↓] theorem Eb{t}:iQ t (.int i) M Q=Q (.bl (match t with|.int=>true|_=>false)) M:=rfl
@[simp ↓] theorem DW{t}:iQ t .non M Q=Q (.bl false) M:=rfl
@[simp ↓] theorem DG{t ds}:iQ t (.tup ds) M Q=Q (.bl (match t with|.tuple=>true|_=>false)) M:=rfl
@[simp ↓] theorem DP{t ds}:iQ t (.rol ds) M Q=Q (.bl (match t with|.list=>true|_=>false)) M:=rfl
@[simp ↓] theorem DT{t}:iQ t (.str s) M Q=Q (.bl (match t with|.str=>true|_=>false)) M:=rfl
end
section
variable {W:WC}{tg:ITg}{cond:ITO}{elt:IE}{p:Addr}{Q:VK3}{σ:St3}{M:MH}{ys:List D}
@[simp ↓] theorem D9{ds}:fJ Q (.ref p) (put M p (.lst ds))=Q (.rol ds) (L2.del (put M p (.lst ds)) p):=by
 simp only[fJ,ah]
noncomputable def Fm(M:MH):Prop:=∃n,∀p,n<=p->M p=none
theorem Fm.nil:Fm (λ_=>none):=⟨0,λ_ _=>rfl⟩
theorem qy{M:MH}(h:Fm M){p:Prop}:(∀a:Addr,M a=none->p)=p:=propext ⟨λf=>let ⟨n,k⟩:=h;f n (k n (Nat.le_refl _)),λf _ _=>f⟩
theorem Fm.put{M:MH}(h:Fm M)(p:Addr)(o:DO):Fm (put M p o):=by
 obtain⟨n,h⟩:=h;refine⟨max n (p+1),λq hq=>?_⟩
 rw[bF (Nat.ne_of_gt (Nat.lt_of_succ_le (Nat.le_trans (Nat.le_max_right n (p+1)) hq)))];exact h q (Nat.le_trans (Nat.le_max_left _ _) hq)
theorem ai{M:MH}(hM:Fm M){P:Addr->Prop}{q:Prop}(h:∀p,M p=none->P p=q):(∀p,M p=none->P p)=q:=by
 rw[<-qy hM (p:=q)];exact forall_congr λp=>implies_congr_ctx rfl λhp=>h p hp
theorem bI(h:atI ds i=some x):bL (.rol ds) (.int i) M Q=Q x M:=by simp[bL,aN,ag,h]
theorem fv(h:put M p o q=none):q≠p/\M q=none:=by
 unfold put at h;split at h
 ·cases h
 ·exact⟨by assumption,h⟩
theorem l9(hp:M p=none)(hq:q≠p):L2.del (put (put M p o) q u) p=put M q u:=by
 funext a;unfold L2.del put;by_cases e:a=p
 ·subst e;simp[Ne.symm hq,hp]
 ·simp[e]
noncomputable def Ext(M M':MH):Prop:=Fm M'/\∀a o,M a=some o->M' a=some o
theorem Ext.put{M:MH}(hM:Fm M){p:Addr}(h:M p=none)(o:DO):Ext M (put M p o):=⟨hM.put _ _,λa u e=>by rw[bF (λz=>by rw[z,h]at e;cases e)];exact e⟩
section
variable {W:WC}{σ:St3}{M:MH}{Q:VK3}{tg:ITg}{cond:ITO}{elt:IE}{p:Addr}{S:MH->Prop}
theorem rF{ys:List D}(hp:M p=none)(hS:S (put M p (.lst ys))):fc W tg cond elt S p (fJ Q) [] ys σ (put M p (.lst ys))=Q (.rol ys) M:=by
 show (S (put M p (.lst ys))/\fJ Q (.ref p) (put M p (.lst ys)))=_;simp[fJ,ah,hS,dF hp]
theorem jA{d:D}{r ys:List D}:fc W tg cond elt S p Q (d::r) ys σ M=(S M/\ys.length < sizeLine/\wpG tg d σ M λσ2 M2=>li W cond σ2 M2 (λb M3=>if b=true then wpE W elt σ2 M3 (λy M4=>M4 p=some (.lst ys)/\fc W tg cond elt S p Q r (ys++[y]) σ2 (put M4 p (.lst (ys++[y])))) (λ_ _=>False) else fc W tg cond elt S p Q r ys σ2 M3) (λ_ _=>False)):=rfl
theorem eG(P:St3->Prop)(st:D->St3)(c:D->Bool)(f:D->D):∀(ds ys:List D)(σ:St3) {M:MH},P σ->Fm M->M p=none->ys.length+ds.length < sizeLine->(∀M',Ext M M'->S M')->
  (∀d∈ds,P (st d)/\∀σ,P σ->∀(M:MH)(k:St3->MH->Prop),wpG tg d σ M k=k (st d) M)->
  (∀d∈ds,∀M',Ext M M'->∀Q:Bool->MH->Prop,li W cond (st d) M' Q (λ_ _=>False)=Q (c d) M')->
  (∀d∈ds,c d=true->∀M',Ext M M'->∀Q,wpE W elt (st d) M' Q (λ_ _=>False)=Q (f d) M')->
  fc W tg cond elt S p Q ds ys σ (put M p (.lst ys))=Q (.ref p) (put M p (.lst (ys++(ds.filter c).map f)))
 |[],ys,σ,M,h0,hM,hp,hl,hS,hg,hc,he=>by
  show (S (put M p (.lst ys))/\Q (.ref p) (put M p (.lst ys)))=_;simp[hS _ (.put hM hp _)]
 |d::ds,ys,σ,M,h0,hM,hp,hl,hS,hg,hc,he=>by
  have hl':ys.length+(ds.length+1) < sizeLine:=hl;obtain⟨g1,g2⟩:=hg d List.mem_cons_self;rw[jA,g2 σ h0,hc d List.mem_cons_self _ (.put hM hp _),eq_true (hS _ (.put hM hp _)),true_and];cases q:c d with
  |true=>
   rw[if_pos rfl,he d List.mem_cons_self q _ (.put hM hp _),ah,cV];rw[eG P st c f ds (ys++[f d]) (st d) g1 hM hp (by rw[List.length_append,List.length_singleton];omega) hS (λe h=>hg e (List.mem_cons_of_mem _ h)) (λe h=>hc e (List.mem_cons_of_mem _ h)) (λe h=>he e (List.mem_cons_of_mem _ h))]
   simp only[List.filter_cons,q,if_true,List.map_cons,List.append_assoc,List.singleton_append,true_and];rw[eq_true (show ys.length < sizeLine by omega),true_and]
  |false=>
   rw[if_neg Bool.false_ne_true];rw[eG P st c f ds ys (st d) g1 hM hp (by omega) hS (λe h=>hg e (List.mem_cons_of_mem _ h)) (λe h=>hc e (List.mem_cons_of_mem _ h)) (λe h=>he e (List.mem_cons_of_mem _ h))]
   simp only[List.filter_cons,q,Bool.false_eq_true,if_false];rw[eq_true (show ys.length < sizeLine by omega),true_and]
theorem iN(P:St3->Prop)(st:D->St3)(c:D->Bool)(f:D->D):∀(ds ys:List D)(σ:St3) {M:MH},P σ->Fm M->M p=none->ys.length+ds.length < sizeLine->(∀M',Ext M M'->S M')->
  (∀d∈ds,P (st d)/\∀σ,P σ->∀(M:MH)(k:St3->MH->Prop),wpG tg d σ M k=k (st d) M)->
  (∀d∈ds,∀M',Ext M M'->∀Q:Bool->MH->Prop,li W cond (st d) M' Q (λ_ _=>False)=Q (c d) M')->
  (∀d∈ds,c d=true->∀M',Ext M M'->∀Q,wpE W elt (st d) M' Q (λ_ _=>False)=Q (f d) M')->
  fc W tg cond elt S p (fJ Q) ds ys σ (put M p (.lst ys))=Q (.rol (ys++(ds.filter c).map f)) M
 |[],ys,σ,M,h0,hM,hp,hl,hS,hg,hc,he=>by rw[rF hp (hS _ (.put hM hp _))];simp
 |d::ds,ys,σ,M,h0,hM,hp,hl,hS,hg,hc,he=>by
  have hl':ys.length+(ds.length+1) < sizeLine:=hl;obtain⟨g1,g2⟩:=hg d List.mem_cons_self;rw[jA,g2 σ h0,hc d List.mem_cons_self _ (.put hM hp _),eq_true (hS _ (.put hM hp _)),true_and];cases q:c d with
  |true=>
   rw[if_pos rfl,he d List.mem_cons_self q _ (.put hM hp _),ah,cV];rw[iN P st c f ds (ys++[f d]) (st d) g1 hM hp (by rw[List.length_append,List.length_singleton];omega) hS (λe h=>hg e (List.mem_cons_of_mem _ h)) (λe h=>hc e (List.mem_cons_of_mem _ h)) (λe h=>he e (List.mem_cons_of_mem _ h))]
   simp only[List.filter_cons,q,if_true,List.map_cons,List.append_assoc,List.singleton_append,true_and];rw[eq_true (show ys.length < sizeLine by omega),true_and]
  |false=>
   rw[if_neg Bool.false_ne_true];rw[iN P st c f ds ys (st d) g1 hM hp (by omega) hS (λe h=>hg e (List.mem_cons_of_mem _ h)) (λe h=>hc e (List.mem_cons_of_mem _ h)) (λe h=>he e (List.mem_cons_of_mem _ h))]
   simp only[List.filter_cons,q,Bool.false_eq_true,if_false];rw[eq_true (show ys.length < sizeLine by omega),true_and]
theorem qO{ds:List D}(P:St3->Prop)(st:D->St3)(c:D->Bool)(f:D->D)(h0:P σ)(hM:Fm M)(hl:ds.length < 10000)
  (hg:∀d∈ds,P (st d)/\∀σ,P σ->∀(M:MH)(k:St3->MH->Prop),wpG tg d σ M k=k (st d) M)
  (hc:∀d∈ds,∀M',Ext M M'->∀Q:Bool->MH->Prop,li W cond (st d) M' Q (λ_ _=>False)=Q (c d) M')
  (he:∀d∈ds,c d=true->∀M',Ext M M'->∀Q,wpE W elt (st d) M' Q (λ_ _=>False)=Q (f d) M') (hS:∀M',Ext M M'->S M':=by exact λ_ _=>trivial) :
  kN W tg cond elt S Q ds σ M=Q (.rol ((ds.filter c).map f)) M:=by
 have hl':([]:List D).length+ds.length < sizeLine:=by rw[List.length_nil,Nat.zero_add];exact Nat.lt_trans hl (by decide)
 exact ai hM λp hp=>by
  rw[iN P st c f ds [] σ h0 hM hp hl' hS hg hc he];simp
theorem gr{az:St3}{x:Option D}{ds:List D}(c:D->Bool)(f:D->D)(hM:Fm M)(hl:ds.length < 10000)
  (hc:∀d∈ds,∀M',Ext M M'->∀Q:Bool->MH->Prop,li W cond (some d::az) M' Q (λ_ _=>False)=Q (c d) M')
  (he:∀d∈ds,c d=true->∀M',Ext M M'->∀Q,wpE W elt (some d::az) M' Q (λ_ _=>False)=Q (f d) M') (hS:∀M',Ext M M'->S M':=by exact λ_ _=>trivial) :
  kN W (.name 0) cond elt S Q ds (x::az) M=Q (.rol ((ds.filter c).map f)) M:=
 qO (λσ=>∃y,σ=y::az) (λd=>some d::az) c f ⟨x,rfl⟩ hM hl (λd _=>⟨⟨_,rfl⟩,λσ ⟨y,e⟩ M k=>by subst e;rfl⟩) hc he hS
theorem eI{az:St3}{x:Option D}{ds:List D}(f:D->D)(hM:Fm M)(hl:ds.length < 10000)
  (he:∀d∈ds,∀M',Ext M M'->∀Q,wpE W elt (some d::az) M' Q (λ_ _=>False)=Q (f d) M') (hS:∀M',Ext M M'->S M':=by exact λ_ _=>trivial) :
  kN W (.name 0) .no elt S Q ds (x::az) M=Q (.rol (ds.map f)) M:=by
 rw[gr (λ_=>true) f hM hl (λ_ _ _ _ _=>rfl) (λd hd _=>he d hd) hS]
 rw[List.filter_eq_self.mpr (λ_ _=>rfl)]
end
theorem p7(P:St3->Prop)(h0:P σ)(step:∀d∈ds,∀σ,P σ->∀k:St3->MH->Prop,(∀σ',P σ'->k σ' M)->wpG tg d σ M λσ2 M2=>au W body {De with nx:=k,ct:=k,bk:=De.nx} ES σ2 M2)(done:∀σ,P σ->De.nx σ M) :
  fm W tg body ES (λ_=>True) De ds σ M:=by
 induction ds generalizing σ with
 |nil=>rw[bT];exact⟨trivial,done σ h0⟩
 |cons d ds ih=>
  rw[bj];exact⟨trivial,step d List.mem_cons_self σ h0 _ λσ' p=>ih p λe he=>step e (List.mem_cons_of_mem _ he)⟩
theorem rf(g:α->D)(f:α->Bool)(xs:List α)(h:∀x∈xs,g x=.bl (f x)):eo (xs.map g)=some (xs.map f):=by
 induction xs with
 |nil=>rfl
 |cons a r ih=>
  rw[List.map_cons,h a List.mem_cons_self];simp only[eo];rw[ih λx hx=>h x (List.mem_cons_of_mem _ hx)]
  rfl
theorem vC(f:α->Bool){xs:List α}(h:∀x∈xs,g x=.bl (f x)):rBi .all [.rol (xs.map g)] M Q=Q (.bl (xs.all f)) M:=by
 simp only[rBi,ag,rf g f xs h];simp[List.all_map,Function.comp_def]
end
end L2
namespace L2
open PySem
section
variable {W:WC}{σ:St3}{M:MH}{Q:VK3}{E:XN}{s:Str}{ds:List D}
@[simp ↓] theorem F5{ps}:wpE W (.fst ps) σ M Q E=wpF σ ps Str.empty (λz=>Q (.str z) M):=rfl
@[simp ↓] theorem Dw{i:Int}:uz (.int i) M Q=Q (.int i) M:=rfl
@[simp ↓] theorem DS:uz (.str s) M Q=Q (.str s) M:=rfl
@[simp ↓] theorem D6{b:Bool}:rBi .int [.bl b] M Q=Q (.int (if b then 1 else 0)) M:=rfl
@[simp ↓] theorem Fh:tyB .splitM (.str s) M=true:=rfl
@[simp ↓] theorem FH{t:Str}:rBm .splitM (.str s) [.str t] M Q=((t.length≠0/\s.length<=sizeLine/\(Txt.split s t).length<=sizeLine)/\∀p,M p=none->Q (.ref p) (put M p (.lst ((Txt.split s t).map D.str)))):=rfl
@[simp ↓] theorem Ga:tyB .join (.str s) M=true:=rfl
theorem gf:∀ts:List Str,fS (ts.map D.str)=some ts
 |[]=>rfl
 |t::r=>by simp[fS,gf r]
theorem Cp{ts:List Str}:rBm .join (.str s) [.rol (ts.map D.str)] M Q=(JoinOk s ts=true/\Q (.str (Txt.join s ts)) M):=by simp[rBm,ag,gf]
end
end L2
namespace L2
open PySem PySem.NumText PyProof.Rows StrLaws
theorem cW{a b:Str}(h:a.cps.toList=b.cps.toList):a=b:=by
 obtain⟨a⟩:=a;obtain⟨b⟩:=b;congr 1;exact Array.toList_inj.mp h
theorem ax(z:Str):z.cps.toList.length=z.length:=rfl
theorem iB(z:Str):Txt.startswith z "-"=true<->∃cs,z.cps.toList=45::cs:=by
 unfold Txt.startswith;rw[Bool.and_eq_true,subAt_eq];have e:(("-" : String):Str).cps.toList=[45]:=by decide +kernel
 have e2:(("-" : String):Str).length=1:=by decide +kernel
 rw[e,e2];cases h:z.cps.toList with
 |nil=>simp
 |cons c cs=>
  have:1<=z.length:=by rw[<-ax,h];simp
  simp[this]
theorem lP{z:Str}(h:z.cps.toList=c::cs):(Txt.slice z (some 1) none).cps.toList=cs:=by
 have hl:z.length=cs.length+1:=by rw[<-ax,h];simp
 rw[slice_from_eq (b:=z.length) (by decide) (by omega) rfl]
 simp[h,hl]
noncomputable def figCps:List Nat:=[48,49,50,51,52,53,54,55,56,57]
theorem pX(c:Nat):jI ⟨#[c]⟩ "0123456789"=true<->48<=c/\c<=57:=by
 unfold jI;rw[found_one];have e:(("0123456789" : String):Str).cps.toList=figCps:=by decide +kernel
 rw[e,decide_eq_true_eq];simp only[figCps,List.mem_cons,List.not_mem_nil,or_false];omega
noncomputable def bZ(z:Str):Str:=if Txt.startswith z "-"=true then Txt.slice z (some 1) none else z
noncomputable def fL(z:Str):Bool:=z.cps.toList.all λc=>jI ⟨#[c]⟩ "0123456789"
noncomputable def okN(z:Str):Bool:=decide (0 < (bZ z).length)&&decide ((bZ z).length<=1000)&&fL (bZ z)&&!(decide (d5 (bZ z) 0 = "0")&&!decide (z = "0"))
noncomputable def num(z:Str):Int:=(intText? z).getD 0
theorem vQ(z:Str):(bZ z).length<=z.length:=by
 unfold bZ;split
 ·exact Txt.slice_le _ _ _
 ·exact Nat.le_refl _
theorem jn{z:Str}(h:fL z=true):AllDigits z.cps.toList:=λc hc=>(pX c).mp (List.all_eq_true.mp h c hc)
theorem pf(h1:0 < (bZ z).length)(h2:(bZ z).length<=1000)(h:fL (bZ z)=true):intText? z=some (num z):=by
 have hd:=jn h;have:∃k,intText? z=some k:=by
  unfold bZ at h1 h2 hd;by_cases q:Txt.startswith z "-"=true
  ·rw[if_pos q]at h1 h2 hd;obtain⟨cs,hc⟩:=(iB z).mp q;have e:=lP hc;rw[e]at hd;rw[<-ax,e]at h1 h2;refine⟨_,intText_neg hc hd (by intro z;subst z;simp at h1) ?_⟩
   rw[<-ax,hc];simp;omega
  ·rw[if_neg q]at h1 h2 hd;refine⟨_,intText_digits hd (by intro z;rw[<-ax,z]at h1;simp at h1) (by omega)⟩
 obtain⟨k,e⟩:=this;unfold num;rw[e];rfl
theorem kF(z y:Str):(Txt.split z y).length<=z.length+2:=by
 unfold Txt.split;split
 ·simp
 ·split
  ·simp
  ·have:=occ_length_le z y 0 z.length (z.length+1);simp[Builtin.Str.partsBetween];omega
theorem iL{z p:Str}(h:p∈Txt.split z y):p.length<=z.length:=by
 unfold Txt.split at h;split at h
 ·rw[List.mem_singleton.mp h];exact Nat.le_refl _
 ·split at h
  ·rw[List.mem_singleton.mp h];exact Nat.le_refl _
  ·simp only[Builtin.Str.partsBetween,List.mem_map]at h;obtain⟨⟨i,j⟩,_,rfl⟩:=h;exact strSub_length_le ..
end L2
namespace L2
open PySem PySem.NumText PyProof.Rows StrLaws Builtin Builtin.Str
noncomputable def spl(w:List Nat):List Nat->Nat->List (List Nat)
 |[],_=>[[]]
 |c::r,0=>if w.isPrefixOf (c::r)=true then []::spl w r (w.length - 1) else (match spl w r 0 with
  |p::q=>(c::p)::q
  |[]=>[])
 |_::r,k+1=>spl w r k
noncomputable def scn(w:List Nat):List Nat->Nat->Nat->List Nat
 |[],_,_=>[]
 |c::r,i,0=>if w.isPrefixOf (c::r)=true then i::scn w r (i+1) (w.length - 1) else scn w r (i+1) 0
 |_::r,i,k+1=>scn w r (i+1) k
noncomputable def ofC(cs:List Nat):Str:=⟨cs.toArray⟩
theorem oZ(cs:List Nat):(ofC cs).cps.toList=cs:=by simp[ofC]
theorem iV(z:Str):ofC z.cps.toList=z:=cW (oZ _)
theorem vm{x y:Str}(hd:x.cps.toList.drop i=cs):subAt x y i=true<->y.cps.toList.isPrefixOf cs=true:=by
 rw[subAt_eq,hd,beq_iff_eq,List.isPrefixOf_iff_prefix,List.prefix_iff_eq_take,ax,eq_comm]
theorem iA{x y:Str}(hy:0 < y.length):∀(cs:List Nat)(i:Nat)(acc:Array Nat)(f:Nat),x.cps.toList.drop i=cs->i+cs.length=x.length->acc.size<=i->
  (forIn (List.range' i (cs.length+1)) (acc,f) (occBody x y x.length (x.length+1))).run.fst.toList=acc.toList++scn y.cps.toList cs i (f - i)
 |[],i,acc,f,hd,hl,ha=>by
  rw[List.length_nil,List.range'_succ,List.range'_zero,List.forIn_cons];rw[List.length_nil]at hl;unfold occBody;rw[if_neg (λh=>by have:=h.1.2;omega)]
  simp[scn]
 |c::r,i,acc,f,hd,hl,ha=>by
  rw[List.length_cons]at hl;have hd':x.cps.toList.drop (i+1)=r:=by rw[<-List.drop_drop,hd];rfl
  rw[List.length_cons,List.range'_succ,List.forIn_cons];have key:=vm (y:=y) hd;by_cases hf:f<=i
  ·have e0:f - i=0:=by omega
   rw[e0];by_cases hp:y.cps.toList.isPrefixOf (c::r)=true
   ·have hm:i+y.length<=x.length:=by
     have:=(List.isPrefixOf_iff_prefix.mp hp).length_le;rw[ax,List.length_cons]at this;omega
    have hc:((((acc,f).fst.size < x.length+1/\(acc,f).snd<=i)/\i+y.length<=x.length)/\subAt x y i=true):=⟨⟨⟨by show acc.size < _;omega,hf⟩,hm⟩,key.mpr hp⟩
    have ih:=iA hy r (i+1) (acc.push i) (i+y.length) hd' (by omega) (by rw[Array.size_push];omega)
    unfold occBody at ih ⊢;rw[if_pos hc];refine ih.trans ?_;rw[show i+y.length - (i+1)=y.length - 1 by omega]
    simp[scn,hp];rfl
   ·have hc:¬ ((((acc,f).fst.size < x.length+1/\(acc,f).snd<=i)/\i+y.length<=x.length)/\subAt x y i=true):=λh=>hp (key.mp h.2)
    have ih:=iA hy r (i+1) acc f hd' (by omega) (by omega)
    unfold occBody at ih ⊢;rw[if_neg hc];refine ih.trans ?_;rw[show f - (i+1)=0 by omega]
    simp[scn,hp]
  ·have hc:¬ ((((acc,f).fst.size < x.length+1/\(acc,f).snd<=i)/\i+y.length<=x.length)/\subAt x y i=true):=λh=>hf h.1.1.2
   have ih:=iA hy r (i+1) acc f hd' (by omega) (by omega)
   unfold occBody at ih ⊢;rw[if_neg hc];refine ih.trans ?_;rw[show f - i=f - (i+1)+1 by omega]
   rfl
theorem zk{x y:Str}(hy:0 < y.length):Builtin.Str.occurrences x y 0 x.length (x.length+1)=scn y.cps.toList x.cps.toList 0 0:=by
 rw[occ_eq];have:=iA (x:=x) hy x.cps.toList 0 #[] 0 rfl (by rw[ax];omega) (Nat.le_refl _)
 rw[ax]at this;simpa using this
noncomputable def hd1(p:List Nat):List (List Nat)->List (List Nat)
 |q::r=>(p++q)::r
 |[]=>[]
theorem eE{x:Str}{w:List Nat}(hw:0 < w.length):∀(cs:List Nat)(i k a:Nat),x.cps.toList.drop i=cs->i+cs.length=x.length->(k=0->a<=i)->(k≠0->a=i+k)->k<=cs.length->
  (partsFrom x w.length a (scn w cs i k)).map (λz:Str=>z.cps.toList)=if k=0 then hd1 ((x.cps.toList.drop a).take (i - a)) (spl w cs 0) else spl w cs k
 |[],i,k,a,hd,hl,h0,h1,hk=>by
  have:k=0:=by simpa using hk
  subst this;have h0:=h0 rfl;rw[List.length_nil]at hl;simp[scn,spl,partsFrom,hd1,strSub_toList];rw[show x.length=i by omega]
 |c::r,i,0,a,hd,hl,h0,h1,hk=>by
  have h0:=h0 rfl;rw[List.length_cons]at hl;have hd':x.cps.toList.drop (i+1)=r:=by rw[<-List.drop_drop,hd];rfl
  rw[if_pos rfl];by_cases hp:w.isPrefixOf (c::r)=true
  ·have hm:=(List.isPrefixOf_iff_prefix.mp hp).length_le;rw[List.length_cons]at hm;have ih:=eE hw r (i+1) (w.length - 1) (i+w.length) hd' (by omega) (λh=>by omega) (λh=>by omega) (by omega)
   simp only[scn,spl,hp,if_true,partsFrom,List.map_cons,hd1,strSub_toList,List.append_nil];congr 1;rw[ih];by_cases hk1:w.length - 1=0
   ·rw[if_pos hk1,hk1,show i+1 - (i+w.length)=0 by omega]
    cases h:spl w r 0 with
    |nil=>rfl
    |cons p q=>simp[hd1]
   ·rw[if_neg hk1]
  ·have ih:=eE hw r (i+1) 0 a hd' (by omega) (λ_=>by omega) (λh=>absurd rfl h) (Nat.zero_le _)
   simp only[scn,spl,hp];rw[if_neg (by simpa using hp)]
   refine ih.trans ?_;rw[if_pos rfl];have e:(x.cps.toList.drop a).take (i+1 - a)=(x.cps.toList.drop a).take (i - a)++[c]:=by
    have g:(x.cps.toList.drop a)[i - a]?=some c:=by
     rw[List.getElem?_drop,show a+(i - a)=i by omega]
     have:=congrArg (λl:List Nat=>l[0]?) hd
     simpa [List.getElem?_drop] using this
    rw[show i+1 - a=(i - a)+1 by omega,List.take_add_one,g]
    rfl
   rw[e];cases h:spl w r 0 with
   |nil=>simp[hd1]
   |cons p q=>simp[hd1]
 |c::r,i,k+1,a,hd,hl,h0,h1,hk=>by
  rw[List.length_cons]at hl hk;have hd':x.cps.toList.drop (i+1)=r:=by rw[<-List.drop_drop,hd];rfl
  have h1:=h1 (by omega)
  have ih:=eE hw r (i+1) k a hd' (by omega) (λh=>by omega) (λh=>by omega) (by omega)
  show (partsFrom x w.length a (scn w r (i+1) k)).map _=_;rw[if_neg (show ¬ k+1=0 by omega)]
  refine ih.trans ?_;show _=spl w r k;by_cases hk0:k=0
  ·subst hk0;rw[if_pos rfl,show i+1 - a=0 by omega]
   cases h:spl w r 0 with
   |nil=>rfl
   |cons p q=>simp[hd1]
  ·rw[if_neg hk0]
theorem jB{w:List Nat}:∀{cs:List Nat}{i:Nat},scn w cs i 0=[]->spl w cs 0=[cs]
 |[],_,_=>rfl
 |c::r,i,h=>by
  unfold scn at h;split at h
  ·cases h
  ·rename_i hp;have:=jB h;simp[spl,hp,this]
theorem eQ{x y:Str}(hy:0 < y.length)(hk:Builtin.Str.strKind y=1):Txt.split x y=(spl y.cps.toList x.cps.toList 0).map ofC:=by
 have inv:∀{l:List Str}{m:List (List Nat)},l.map (λz:Str=>z.cps.toList)=m->l=m.map ofC:=λ{l m} e=>by
  subst e;rw[List.map_map];exact (List.map_id' _).symm.trans (List.map_congr_left λz _=>(iV z).symm)
 unfold Txt.split;rw[zk hy];have kk:decide (Builtin.Str.strKind x < Builtin.Str.strKind y)=false:=by
  rw[hk];unfold Builtin.Str.strKind;refine decide_eq_false ?_;split
  ·decide
  ·split<;>decide
 rw[kk,Bool.or_false];by_cases h1:decide (x.length < y.length)=true
 ·rw[if_pos h1];have hs:scn y.cps.toList x.cps.toList 0 0=[]:=by
   have hl:=of_decide_eq_true h1;have:∀(cs:List Nat)(i:Nat),cs.length < y.cps.toList.length->scn y.cps.toList cs i 0=[]:=by
    intro cs
    induction cs with
    |nil=>intros;rfl
    |cons c r ih=>
     intro i h;unfold scn;rw[if_neg (λhp=>by have:=(List.isPrefixOf_iff_prefix.mp hp).length_le;omega)]
     exact ih _ (by rw[List.length_cons]at h;omega)
   exact this _ _ (by rw[ax,ax];exact hl)
  rw[jB hs];simp[iV]
 ·rw[if_neg h1];by_cases h2:(scn y.cps.toList x.cps.toList 0 0).isEmpty=true
  ·rw[if_pos h2,jB (List.isEmpty_iff.mp h2)];simp[iV]
  ·rw[if_neg h2,partsBetween_eq];refine inv ?_;have:=eE (x:=x) (w:=y.cps.toList) (by rw[ax];exact hy) x.cps.toList 0 0 0 rfl (by rw[ax];omega) (λ_=>Nat.le_refl _) (λh=>absurd rfl h) (Nat.zero_le _)
   rw[ax]at this;rw[this,if_pos rfl];simp;cases spl y.cps.toList x.cps.toList 0 with
   |nil=>rfl
   |cons p q=>simp[hd1]
end L2
namespace L2
open PySem PySem.NumText PyProof.Rows StrLaws Builtin Builtin.Str
noncomputable def tx(k:Int):Str:=Str.ofString k.repr
noncomputable def dg(m:Nat):List Nat:=(Nat.toDigits 10 m).map Char.toNat
theorem uF(m:Nat):(tx (m:Int)).cps.toList=dg m:=PySem.W.KIN.signs_num m
theorem uu(m:Nat):(tx (Int.negSucc m)).cps.toList=45::dg (m+1):=by
 unfold tx dg;rw[signs_ofString];show ("-"++Nat.repr (m+1)).toList.map Char.toNat=_;rw[String.toList_append,List.map_append,Nat.toList_repr];rfl
theorem gu(m:Nat):AllDigits (dg m):=λc hc=>by
 obtain⟨ch,hch,e⟩:=List.mem_map.mp hc;rw[<-e];exact digit_range (Nat.isDigit_of_mem_toDigits (by decide) (by decide) hch)
theorem pK(m:Nat):dg m≠[]:=λe=>by
 have h:=toDigits_len_ge 10 m;rw[List.map_eq_nil_iff.mp e]at h;exact absurd h (by decide)
theorem tM{m:Nat}(h:m < 10 ^ k)(hk:1<=k):(dg m).length<=k:=by
 unfold dg;rw[List.length_map];exact digits10_le hk h
theorem vg:∀d:Nat,d < 10->0 < d->49<=(Nat.digitChar d).toNat:=by decide
theorem pQ(m:Nat)(h0:0 < m):∃c r,dg m=c::r/\49<=c:=by
 induction m using Nat.strongRecOn with
 |_ m ih=>
  by_cases h:m < 10
  ·exact⟨_,[],by unfold dg;rw[Nat.toDigits_of_lt_base h];rfl,vg m h h0⟩
  ·have hm:m % 10 < 10:=Nat.mod_lt m (by decide)
   have t:Nat.toDigits 10 (m / 10)++Nat.toDigits 10 (m % 10)=Nat.toDigits 10 (10 * (m / 10)+m % 10):=Nat.toDigits_append_toDigits (by decide) (by omega) hm
   rw[Nat.div_add_mod]at t;obtain⟨c,r,e,hc⟩:=ih (m / 10) (by omega) (by omega)
   refine⟨c,r++dg (m % 10),?_,hc⟩;unfold dg at e ⊢;rw[<-t,List.map_append,e];rfl
theorem uQ:dg 0=[48]:=by decide
theorem sL(m:Nat):digitsVal (dg m)=m:=PySem.W.KIN.val_back m
noncomputable def Nsg(z:Str):Prop:=∀c∈z.cps.toList,c=45\/(48<=c/\c<=57)
theorem pW:∀k:Int,Nsg (tx k)
 |.ofNat m,c,hc=>.inr (gu m c (uF m▸hc))
 |.negSucc m,c,hc=>by
  rw[uu]at hc;rcases List.mem_cons.mp hc with rfl|hc
  ·exact .inl rfl
  ·exact .inr (gu _ c hc)
theorem vU:(("0" : String):Str)=ofC [48]:=by decide +kernel
theorem CD{z:Str}(h:z.cps.toList=c::r):d5 z 0 = "0"<->c=48:=by
 have e:z.cps.getD 0 0=c:=by
  have:=congrArg (λl:List Nat=>l[0]?) h
  rw[Array.getD_eq_getD_getElem?,<-Array.getElem?_toList];simpa using congrArg (·.getD 0) this
 unfold d5;rw[e,vU];constructor
 ·intro q;have:=congrArg (λz:Str=>z.cps.toList) q
  simpa [oZ] using this
 ·rintro rfl;rfl
theorem qm{z:Str}(h:AllDigits z.cps.toList):fL z=true:=List.all_eq_true.mpr λc hc=>(pX c).mpr (h c hc)
theorem Cl{k:Int}(h:k.natAbs < 10 ^ 1000):okN (tx k)=true/\num (tx k)=k:=by
 cases k with
 |ofNat m=>
  have hc:=uF m;have hl:(tx (m:Int)).length<=1000:=by rw[<-ax,hc];exact tM h (by decide)
  have hn:0 < (tx (m:Int)).length:=by rw[<-ax,hc];exact List.length_pos_iff.mpr (pK m)
  have hs:¬ Txt.startswith (tx (m:Int)) "-"=true:=λq=>by
   obtain⟨cs,e⟩:=(iB _).mp q;rw[hc]at e;have:=(gu m 45 (by rw[e];exact List.mem_cons_self)).1
   omega
  have hf:bZ (tx (m:Int))=tx (m:Int):=if_neg hs;have hd:AllDigits (tx (m:Int)).cps.toList:=hc▸gu m;refine⟨?_,?_⟩
  ·show okN (tx (m:Int))=true;unfold okN;rw[hf,qm hd,decide_eq_true hn,decide_eq_true hl];by_cases h0:m=0
   ·subst h0;rw[show tx ((0:Nat):Int) = "0" from cW (by rw[hc,uQ];decide +kernel)]
    simp
   ·obtain⟨c,r,e,h1⟩:=pQ m (by omega)
    have:¬ d5 (tx (m:Int)) 0 = "0":=λq=>by have:=(CD (hc.trans e)).mp q;omega
    simp[this]
  ·show num (tx (m:Int))=(m:Int);unfold num;rw[intText_digits hd (hc▸pK m) (by omega),hc,sL]
   rfl
 |negSucc m=>
  have hc:=uu m;have hm:m+1 < 10 ^ 1000:=h;have hl:(tx (Int.negSucc m)).length<=1001:=by rw[<-ax,hc,List.length_cons];exact Nat.succ_le_succ (tM hm (by decide))
  have hs:Txt.startswith (tx (Int.negSucc m)) "-"=true:=(iB _).mpr ⟨_,hc⟩;have hf:bZ (tx (Int.negSucc m))=Txt.slice (tx (Int.negSucc m)) (some 1) none:=if_pos hs;have hfc:(bZ (tx (Int.negSucc m))).cps.toList=dg (m+1):=by rw[hf];exact lP hc
  obtain⟨c,r,e,h1⟩:=pQ (m+1) (by omega)
  refine⟨?_,?_⟩
  ·unfold okN;rw[qm (hfc▸gu _),decide_eq_true (show 0 < (bZ (tx (Int.negSucc m))).length by rw[<-ax,hfc];exact List.length_pos_iff.mpr (pK _)),decide_eq_true (show (bZ (tx (Int.negSucc m))).length<=1000 by rw[<-ax,hfc];exact tM hm (by decide))]
   have:¬ d5 (bZ (tx (Int.negSucc m))) 0 = "0":=λq=>by have:=(CD (hfc.trans e)).mp q;omega
   simp[this]
  ·unfold num;rw[intText_neg hc (gu _) (pK _) (by omega),sL]
   rfl
theorem zm{z:Str}(h:¬ Nsg z):okN z=false:=by
 cases q:okN z with
 |false=>rfl
 |true=>
  refine absurd (λc hc=>?_) h
  unfold okN at q;simp only[Bool.and_eq_true]at q;have hd:=jn q.1.2;unfold bZ at hd;split at hd
  ·rename_i hs;obtain⟨cs,e⟩:=(iB z).mp hs;rw[lP e]at hd;rw[e]at hc;rcases List.mem_cons.mp hc with rfl|hc
   ·exact .inl rfl
   ·exact .inr (hd c hc)
  ·exact .inr (hd c hc)
noncomputable def jnl(w:List Nat):List (List Nat)->List Nat
 |[]=>[]
 |[p]=>p
 |p::r=>p++w++jnl w r
theorem md(y:Str):∀ts:List Str,(Str.join y ts).cps.toList=jnl y.cps.toList (ts.map λz:Str=>z.cps.toList)
 |[]=>rfl
 |[t]=>rfl
 |t::u::r=>by
  show (t++y++Str.join y (u::r)).cps.toList=_;simp only[Str.cps_append,Array.toList_append,md y (u::r)];rfl
theorem i6{w:List Nat}{a:Nat}:∀{p:List Nat},a∉p->spl (a::w) p 0=[p]
 |[],_=>rfl
 |c::r,h=>by
  have hc:¬ (a == c)=true:=λe=>h (by simp[eq_of_beq e])
  have:=i6 (w:=w) (p:=r) λz=>h (List.mem_cons_of_mem _ z)
  simp[spl,List.isPrefixOf,hc,this]
theorem mD{w:List Nat}:∀(v r:List Nat),spl w (v++r) v.length=spl w r 0
 |[],_=>rfl
 |_::v,r=>mD v r
theorem ql{w:List Nat}{a:Nat}(r:List Nat):∀{p:List Nat},a∉p->spl (a::w) (p++(a::w)++r) 0=p::spl (a::w) r 0
 |[],_=>by
  have:(a::w).isPrefixOf (a::w++r)=true:=List.isPrefixOf_iff_prefix.mpr ⟨r,rfl⟩;simp only[List.nil_append,List.cons_append]at this ⊢;simp only[spl,this,if_true];rw[show (a::w).length - 1=w.length from rfl,mD]
 |c::p,h=>by
  have hc:¬ (a == c)=true:=λe=>h (by simp[eq_of_beq e])
  have:=ql (w:=w) r (p:=p) λz=>h (List.mem_cons_of_mem _ z)
  simp only[List.cons_append,List.append_assoc]at this ⊢;simp[spl,List.isPrefixOf,hc,this]
theorem m7{w:List Nat}{a:Nat}:∀{ps:List (List Nat)},ps≠[]->(∀p∈ps,a∉p)->spl (a::w) (jnl (a::w) ps) 0=ps
 |[],h,_=>absurd rfl h
 |[p],_,h=>i6 (h p (by simp))
 |p::q::r,_,h=>by
  show spl (a::w) (p++(a::w)++jnl (a::w) (q::r)) 0=_;rw[ql _ (h p (by simp)),m7 (by simp) λz hz=>h z (List.mem_cons_of_mem _ hz)]
theorem yb(ts:List Str):(ts.map λz:Str=>z.cps.toList).map ofC=ts:=by
 rw[List.map_map];exact (List.map_congr_left λz _=>iV z).trans (List.map_id' _)
theorem cJ{y:Str}{a:Nat}{w:List Nat}(hy:y.cps.toList=a::w)(hk:strKind y=1){ts:List Str}(h0:ts≠[])(h:∀t∈ts,a∉t.cps.toList):Txt.split (Str.join y ts) y=ts:=by
 have hl:0 < y.length:=by rw[<-ax,hy];simp
 rw[eQ hl hk,md,hy,m7 (by simpa using h0) (λp hp=>by
  obtain⟨t,ht,rfl⟩:=List.mem_map.mp hp;exact h t ht),yb]
theorem i7(y:Str)(ts:List Str):Txt.join y ts=Str.join y ts:=glued_eq_join y ts
theorem fQ{y:Str}{ts:List Str}(h1:ts.length<=100)(hy:y.length<=10)(h:∀t∈ts,t.length<=1000):JoinOk y ts=true:=by
 unfold JoinOk;rw[joinFits h (by
  have a1:ts.length * 1000<=100 * 1000:=Nat.mul_le_mul_right _ h1;have a2:ts.length * y.length<=100 * 10:=Nat.mul_le_mul h1 hy;omega)]
 rfl
theorem dc{y:Str}{B:Nat}(ts:List Str)(h:∀t∈ts,t.length<=B):(Str.join y ts).length<=ts.length * (B+y.length):=by
 have h1:=StrLaws.join_length_le y ts;have h2:(ts.map (·.length)).sum<=ts.length * B:=by
  clear h1
  induction ts with
  |nil=>simp
  |cons t r ih=>
   have a:=h t List.mem_cons_self;have b:=ih λz hz=>h z (List.mem_cons_of_mem _ hz)
   simp only[List.map_cons,List.sum_cons,List.length_cons,Nat.add_mul,Nat.one_mul];omega
 rw[Nat.mul_add];omega
end L2
namespace HD
open PySem PySem.W PyProof.Rows L2
noncomputable def pw:Program:=PySem.Challenge.pw_driftmeet_k88_worlds_written
noncomputable def top(i:Nat):Stmt:=PySem.Challenge.pw_driftmeet_k88_worlds_written.main.body.getD i (.Pass ⟨0,0,0,0⟩)
noncomputable abbrev R(a:Nat):Value:=.ref a
noncomputable abbrev I(i:Nat):Value:=.int i 0
noncomputable abbrev e(P:Params)(s:String)(t:Nat)(v:Value):DictEntry:=⟨PyData.keyHash P s,.str s t,v⟩
noncomputable abbrev co(n:String)(a:Nat)(m:String)(b c d e g h i j:Nat)(k:Bool)(l o q r s:Nat):Data:=.fields #[.str n a,.str m b,.str "/claim/cut.py" c,I d,I e,I g,I h,I i,R j,.bool k,I l,R o,.none,.none,.none,.none,I q,I r,.str "/claim/cut.py" s]
noncomputable abbrev cp(n:String)(a:Nat)(m:String)(b c d e g h i j:Nat)(k:Bool)(l o x y z q r s:Nat):Data:=.fields #[.str n a,.str m b,.str "/claim/cut.py" c,I d,I e,I g,I h,I i,R j,.bool k,I l,R o,.none,R x,R y,R z,I q,I r,.str "/claim/cut.py" s]
noncomputable abbrev F:=Params->Obj
noncomputable abbrev fo(n q:String)(s:Stmt)(m:String)(t c:Nat):F:=λ_=>⟨.type "function",none,.func (fnOf n q (fN s) (eF s) (bY s) .none .none .none (.str m t) none (.ref c) .none),#[]⟩
noncomputable abbrev fp(n q:String)(s:Stmt):F:=λ_=>⟨.none,none,.func {fnOf n q (fN s) (eF s) (bY s) .none .none .none .none none .none .none with globals:=0,builtins:=0},#[]⟩
noncomputable abbrev vf(l:Array Value):F:=λ_=>⟨.none,none,.fields l,#[]⟩
noncomputable abbrev tu(l:Array Value):F:=λ_=>⟨.type "tuple",none,.seq l 0,#[]⟩
noncomputable abbrev cd(d:Data):F:=λ_=>⟨.type "code",none,d,#[]⟩
noncomputable abbrev bf(a:String)(b:Nat):F:=λ_=>⟨.type "builtin_function_or_method",none,.fields #[.builtin a,.ref b],#[]⟩
noncomputable abbrev n(o:F)(x y:Params->W.BT):Params->W.BT:=λP=>.node (o P) (x P) (y P)
noncomputable abbrev z:Params->W.BT:=λ_=>.nil
noncomputable abbrev l(o:F):Params->W.BT:=λP=>.node (o P) .nil .nil
noncomputable def o0:F:=tu #[]
noncomputable def o1:F:=vf #[]
noncomputable def o2:F:=cd (co "<module>" 182 "<module>" 183 184 1 0 0 0 0 11 false 181 12 185 1 186)
noncomputable def o3:F:=λ_=>⟨(.type "frame"),none,.plain,#[some (R 13),some (R 3),some (R 3),none,some (.str "__main__" 164),none,some (R 0)]⟩
noncomputable def o4:F:=λP=>⟨(.type "dict"),none,(.dict #[e P "__name__" 165 (.str "law_driftmeet_k88_worlds_written" 494),e P "__doc__" 166 .none,e P "__package__" 167 .none,e P "__loader__" 168 (.builtin "__main__.__loader__#opaque"),e P "__spec__" 169 .none,e P "__annotations__" 170 (R 6),e P "__builtins__" 171 (R 4),e P "__file__" 173 (.str "/claim/cut.py" 172),e P "__cached__" 174 .none,e P "DriftError" 206 (R 24),e P "NoHand" 222 (R 37),e P "NoClock" 238 (R 49),e P "NoWay" 254 (R 61),e P "NoText" 270 (R 73),e P "MOST_HANDS" 274 (.int 6 273),e P "refuse_clock" 282 (R 82),e P "refuse_lengths" 290 (R 89),e P "World" 396 (R 162),e P "FIGURES" 400 (.str "0123456789" 399),e P "MOST_FIGURES" 402 (.int 1000 401),e P "show_number" 409 (R 173),e P "show_list" 415 (R 178),e P "show_clock" 422 (R 185),e P "show_way" 432 (R 192),e P "show_world" 438 (R 197),e P "refuse_other" 445 (R 204),e P "are_figures" 451 (R 209),e P "read_number" 459 (R 216),e P "parts_of" 467 (R 223),e P "read_clock" 474 (R 230),e P "read_way" 482 (R 237),e P "read_world" 493 (R 244),e P "_law_cell_at" 503 (R 251),e P "_law_amount" 510 (R 258),e P "_law_world" 526 (R 265),e P "_law_parts" 532 (R 270),e P "_law_told" 538 (R 275),e P "_law_word" 544 (R 280),e P "_law_ill_formed" 556 (R 287),e P "_law_no_world" 567 (R 294),e P "law" 583 (R 301)] 41),#[]⟩
noncomputable def o5:F:=vf #[(I 2),(I 0),(R 20),(I 4),(I 0),(R 33),(I 6),(I 0),(R 45),(I 8),(I 0),(R 57),(I 10),(I 0),(R 69),(I 14),(I 0),(R 81),(I 19),(I 0),(R 88),(I 24),(I 0),(R 95),(I 74),(I 0),(R 172),(I 76),(I 0),(R 177),(I 78),(I 0),(R 184),(I 80),(I 0),(R 191),(I 83),(I 0),(R 196),(I 89),(I 0),(R 203),(I 92),(I 0),(R 208),(I 94),(I 0),(R 215),(I 102),(I 0),(R 222),(I 105),(I 0),(R 229),(I 107),(I 0),(R 236),(I 110),(I 0),(R 243),(I 125),(I 0),(R 250),(I 129),(I 0),(R 257),(I 137),(I 0),(R 264),(I 155),(I 0),(R 269),(I 163),(I 0),(R 274),(I 178),(I 0),(R 279),(I 188),(I 0),(R 286),(I 210),(I 0),(R 293),(I 230),(I 0),(R 300)]
noncomputable def o6:F:=tu #[(.type "ValueError")]
noncomputable def o7:F:=λ_=>⟨(.type "builtin_function_or_method"),none,(.fields #[(.builtin "type.__prepare__"),(.type "type")]),#[]⟩
noncomputable def o8:F:=λP=>⟨(.type "dict"),none,(.dict #[e P "__module__" 196 (.str "driftmeet.errors" 187),e P "__qualname__" 198 (.str "DriftError" 197),e P "__firstlineno__" 200 (.int 2 199),e P "__static_attributes__" 201 (R 22)] 4),#[]⟩
noncomputable def o9:F:=cd (co "DriftError" 191 "DriftError" 192 193 2 0 0 0 0 18 false 181 19 194 2 195)
noncomputable def o10:F:=λ_=>⟨(.type "frame"),none,.plain,#[some (R 20),some (R 3),some (R 17),none,some (.str "driftmeet.errors" 187),none,some (R 0)]⟩
noncomputable def o11:F:=λP=>⟨(.type "dict"),none,(.dict #[e P "__module__" 196 (.str "driftmeet.errors" 187),e P "__firstlineno__" 200 (.int 2 199),e P "__static_attributes__" 201 (R 22),e P "__weakref__" 203 (R 25),e P "__doc__" 204 .none] 3),#[]⟩
noncomputable def o12:F:=λ_=>⟨(.type "type"),none,(.cls ⟨"DriftError",[(.type "ValueError")],[(R 24),(.type "ValueError"),(.type "Exception"),(.type "BaseException"),(.type "object")],23,"DriftError",true,[],[(R 37),(R 49),(R 61),(R 73)],false,none,false⟩),#[some (R 15),none,some (.str "DriftError" 189),some (.str "DriftError" 197),some (.builtin "ValueError.__new__"),some (.bool true)]⟩
noncomputable def o13:F:=λ_=>⟨(.type "getset_descriptor"),none,(.fields #[(.str "__weakref__" 202),(R 24),(.builtin "ExceptionGroup.__weakref__"),.none]),#[]⟩
noncomputable def o14:F:=λ_=>⟨(.type "super"),none,(.fields #[(R 24),(R 24),(R 24)]),#[]⟩
noncomputable def o15:F:=bf "object.__init_subclass__" 24
noncomputable def o16:F:=tu #[(R 24)]
noncomputable def o17:F:=λP=>⟨(.type "dict"),none,(.dict #[e P "__module__" 214 (.str "driftmeet.errors" 187),e P "__qualname__" 216 (.str "NoHand" 215),e P "__firstlineno__" 218 (.int 4 217),e P "__static_attributes__" 219 (R 35)] 4),#[]⟩
noncomputable def o18:F:=cd (co "NoHand" 209 "NoHand" 210 211 4 0 0 0 0 31 false 181 32 212 4 213)
noncomputable def o19:F:=λ_=>⟨(.type "frame"),none,.plain,#[some (R 33),some (R 3),some (R 30),none,some (.str "driftmeet.errors" 187),none,some (R 0)]⟩
noncomputable def o20:F:=λP=>⟨(.type "dict"),none,(.dict #[e P "__module__" 214 (.str "driftmeet.errors" 187),e P "__firstlineno__" 218 (.int 4 217),e P "__static_attributes__" 219 (R 35),e P "__doc__" 220 .none] 2),#[]⟩
noncomputable def o21:F:=λ_=>⟨(.type "type"),none,(.cls ⟨"NoHand",[(R 24)],[(R 37),(R 24),(.type "ValueError"),(.type "Exception"),(.type "BaseException"),(.type "object")],36,"NoHand",true,[],[],false,none,false⟩),#[some (R 28),none,some (.str "NoHand" 207),some (.str "NoHand" 215),some (.builtin "ValueError.__new__"),some (.bool true)]⟩
noncomputable def o22:F:=λ_=>⟨(.type "super"),none,(.fields #[(R 37),(R 37),(R 37)]),#[]⟩
noncomputable def o23:F:=bf "object.__init_subclass__" 37
noncomputable def o24:F:=λP=>⟨(.type "dict"),none,(.dict #[e P "__module__" 230 (.str "driftmeet.errors" 187),e P "__qualname__" 232 (.str "NoClock" 231),e P "__firstlineno__" 234 (.int 6 233),e P "__static_attributes__" 235 (R 47)] 4),#[]⟩
noncomputable def o25:F:=cd (co "NoClock" 225 "NoClock" 226 227 6 0 0 0 0 43 false 181 44 228 6 229)
noncomputable def o26:F:=λ_=>⟨(.type "frame"),none,.plain,#[some (R 45),some (R 3),some (R 42),none,some (.str "driftmeet.errors" 187),none,some (R 0)]⟩
noncomputable def o27:F:=λP=>⟨(.type "dict"),none,(.dict #[e P "__module__" 230 (.str "driftmeet.errors" 187),e P "__firstlineno__" 234 (.int 6 233),e P "__static_attributes__" 235 (R 47),e P "__doc__" 236 .none] 2),#[]⟩
noncomputable def o28:F:=λ_=>⟨(.type "type"),none,(.cls ⟨"NoClock",[(R 24)],[(R 49),(R 24),(.type "ValueError"),(.type "Exception"),(.type "BaseException"),(.type "object")],48,"NoClock",true,[],[],false,none,false⟩),#[some (R 40),none,some (.str "NoClock" 223),some (.str "NoClock" 231),some (.builtin "ValueError.__new__"),some (.bool true)]⟩
noncomputable def o29:F:=λ_=>⟨(.type "super"),none,(.fields #[(R 49),(R 49),(R 49)]),#[]⟩
noncomputable def o30:F:=bf "object.__init_subclass__" 49
noncomputable def o31:F:=λP=>⟨(.type "dict"),none,(.dict #[e P "__module__" 246 (.str "driftmeet.errors" 187),e P "__qualname__" 248 (.str "NoWay" 247),e P "__firstlineno__" 250 (.int 8 249),e P "__static_attributes__" 251 (R 59)] 4),#[]⟩
noncomputable def o32:F:=cd (co "NoWay" 241 "NoWay" 242 243 8 0 0 0 0 55 false 181 56 244 8 245)
noncomputable def o33:F:=λ_=>⟨(.type "frame"),none,.plain,#[some (R 57),some (R 3),some (R 54),none,some (.str "driftmeet.errors" 187),none,some (R 0)]⟩
noncomputable def o34:F:=λP=>⟨(.type "dict"),none,(.dict #[e P "__module__" 246 (.str "driftmeet.errors" 187),e P "__firstlineno__" 250 (.int 8 249),e P "__static_attributes__" 251 (R 59),e P "__doc__" 252 .none] 2),#[]⟩
noncomputable def o35:F:=λ_=>⟨(.type "type"),none,(.cls ⟨"NoWay",[(R 24)],[(R 61),(R 24),(.type "ValueError"),(.type "Exception"),(.type "BaseException"),(.type "object")],60,"NoWay",true,[],[],false,none,false⟩),#[some (R 52),none,some (.str "NoWay" 239),some (.str "NoWay" 247),some (.builtin "ValueError.__new__"),some (.bool true)]⟩
noncomputable def o36:F:=λ_=>⟨(.type "super"),none,(.fields #[(R 61),(R 61),(R 61)]),#[]⟩
noncomputable def o37:F:=bf "object.__init_subclass__" 61
noncomputable def o38:F:=λP=>⟨(.type "dict"),none,(.dict #[e P "__module__" 262 (.str "driftmeet.errors" 187),e P "__qualname__" 264 (.str "NoText" 263),e P "__firstlineno__" 266 (.int 10 265),e P "__static_attributes__" 267 (R 71)] 4),#[]⟩
noncomputable def o39:F:=cd (co "NoText" 257 "NoText" 258 259 10 0 0 0 0 67 false 181 68 260 10 261)
noncomputable def o40:F:=λ_=>⟨(.type "frame"),none,.plain,#[some (R 69),some (R 3),some (R 66),none,some (.str "driftmeet.errors" 187),none,some (R 0)]⟩
noncomputable def o41:F:=λP=>⟨(.type "dict"),none,(.dict #[e P "__module__" 262 (.str "driftmeet.errors" 187),e P "__firstlineno__" 266 (.int 10 265),e P "__static_attributes__" 267 (R 71),e P "__doc__" 268 .none] 2),#[]⟩
noncomputable def o42:F:=λ_=>⟨(.type "type"),none,(.cls ⟨"NoText",[(R 24)],[(R 73),(R 24),(.type "ValueError"),(.type "Exception"),(.type "BaseException"),(.type "object")],72,"NoText",true,[],[],false,none,false⟩),#[some (R 64),none,some (.str "NoText" 255),some (.str "NoText" 263),some (.builtin "ValueError.__new__"),some (.bool true)]⟩
noncomputable def o43:F:=λ_=>⟨(.type "super"),none,(.fields #[(R 73),(R 73),(R 73)]),#[]⟩
noncomputable def o44:F:=bf "object.__init_subclass__" 73
noncomputable def o45:F:=tu #[(.str "short" 278),(.str "long" 279)]
noncomputable def o46:F:=fp "refuse_clock" "refuse_clock" (top 8)
noncomputable def o47:F:=cd (cp "refuse_clock" 275 "refuse_clock" 276 277 14 2 0 0 3 76 true 181 77 78 79 80 280 14 281)
noncomputable def o48:F:=fo "refuse_clock" "refuse_clock" (top 8) "driftmeet.worlds" 271 81
noncomputable def o49:F:=tu #[(.str "least" 286),(.str "most" 287)]
noncomputable def o50:F:=fp "refuse_lengths" "refuse_lengths" (top 9)
noncomputable def o51:F:=cd (cp "refuse_lengths" 283 "refuse_lengths" 284 285 19 2 0 0 3 83 true 181 84 85 86 87 288 19 289)
noncomputable def o52:F:=fo "refuse_lengths" "refuse_lengths" (top 9) "driftmeet.worlds" 271 88
noncomputable def o53:F:=λP=>⟨(.type "dict"),none,(.dict #[e P "__module__" 298 (.str "driftmeet.worlds" 271),e P "__qualname__" 300 (.str "World" 299),e P "__firstlineno__" 302 (.int 24 301),e P "__init__" 317 (R 103),e P "enter_way" 328 (R 110),e P "refuse_hand" 336 (R 117),e P "refuse_pair" 345 (R 124),e P "hands" 352 (R 131),e P "has_hand" 360 (R 138),e P "has_way" 369 (R 145),e P "clock" 377 (R 152),e P "way" 386 (R 159),e P "__static_attributes__" 389 (R 160)] 13),#[]⟩
noncomputable def o54:F:=vf #[(I 26),(I 4),(R 102),(I 36),(I 4),(R 109),(I 43),(I 4),(R 116),(I 47),(I 4),(R 123),(I 53),(I 4),(R 130),(I 56),(I 4),(R 137),(I 59),(I 4),(R 144),(I 62),(I 4),(R 151),(I 66),(I 4),(R 158)]
noncomputable def o55:F:=cd (co "World" 293 "World" 294 295 24 0 0 0 0 93 false 181 94 296 24 297)
noncomputable def o56:F:=λ_=>⟨(.type "frame"),none,.plain,#[some (R 95),some (R 3),some (R 92),none,some (.str "driftmeet.worlds" 271),none,some (R 0)]⟩
noncomputable def o57:F:=tu #[(.str "self" 306),(.str "clocks" 307),(.str "ways" 308),(.str "short" 309),(.str "long" 310),(.str "one" 311),(.str "other" 312),(.str "least" 313),(.str "most" 314)]
noncomputable def o58:F:=fp "__init__" "World.__init__" (ao (top 10) 0)
noncomputable def o59:F:=cd (cp "__init__" 303 "World.__init__" 304 305 26 3 0 0 3 97 true 181 98 99 100 101 315 26 316)
noncomputable def o60:F:=fo "__init__" "World.__init__" (ao (top 10) 0) "driftmeet.worlds" 271 102
noncomputable def o61:F:=tu #[(.str "self" 321),(.str "one" 322),(.str "other" 323),(.str "least" 324),(.str "most" 325)]
noncomputable def o62:F:=fp "enter_way" "World.enter_way" (ao (top 10) 1)
noncomputable def o63:F:=cd (cp "enter_way" 318 "World.enter_way" 319 320 36 5 0 0 3 104 true 181 105 106 107 108 326 36 327)
noncomputable def o64:F:=fo "enter_way" "World.enter_way" (ao (top 10) 1) "driftmeet.worlds" 271 109
noncomputable def o65:F:=tu #[(.str "self" 332),(.str "hand" 333)]
noncomputable def o66:F:=fp "refuse_hand" "World.refuse_hand" (ao (top 10) 2)
noncomputable def o67:F:=cd (cp "refuse_hand" 329 "World.refuse_hand" 330 331 43 2 0 0 3 111 true 181 112 113 114 115 334 43 335)
noncomputable def o68:F:=fo "refuse_hand" "World.refuse_hand" (ao (top 10) 2) "driftmeet.worlds" 271 116
noncomputable def o69:F:=tu #[(.str "self" 340),(.str "one" 341),(.str "other" 342)]
noncomputable def o70:F:=fp "refuse_pair" "World.refuse_pair" (ao (top 10) 3)
noncomputable def o71:F:=cd (cp "refuse_pair" 337 "World.refuse_pair" 338 339 47 3 0 0 3 118 true 181 119 120 121 122 343 47 344)
noncomputable def o72:F:=fo "refuse_pair" "World.refuse_pair" (ao (top 10) 3) "driftmeet.worlds" 271 123
noncomputable def o73:F:=tu #[(.str "self" 349)]
noncomputable def o74:F:=fp "hands" "World.hands" (ao (top 10) 4)
noncomputable def o75:F:=cd (cp "hands" 346 "World.hands" 347 348 53 1 0 0 3 125 true 181 126 127 128 129 350 53 351)
noncomputable def o76:F:=fo "hands" "World.hands" (ao (top 10) 4) "driftmeet.worlds" 271 130
noncomputable def o77:F:=tu #[(.str "self" 356),(.str "hand" 357)]
noncomputable def o78:F:=fp "has_hand" "World.has_hand" (ao (top 10) 5)
noncomputable def o79:F:=cd (cp "has_hand" 353 "World.has_hand" 354 355 56 2 0 0 3 132 true 181 133 134 135 136 358 56 359)
noncomputable def o80:F:=fo "has_hand" "World.has_hand" (ao (top 10) 5) "driftmeet.worlds" 271 137
noncomputable def o81:F:=tu #[(.str "self" 364),(.str "one" 365),(.str "other" 366)]
noncomputable def o82:F:=fp "has_way" "World.has_way" (ao (top 10) 6)
noncomputable def o83:F:=cd (cp "has_way" 361 "World.has_way" 362 363 59 3 0 0 3 139 true 181 140 141 142 143 367 59 368)
noncomputable def o84:F:=fo "has_way" "World.has_way" (ao (top 10) 6) "driftmeet.worlds" 271 144
noncomputable def o85:F:=tu #[(.str "self" 373),(.str "hand" 374)]
noncomputable def o86:F:=fp "clock" "World.clock" (ao (top 10) 7)
noncomputable def o87:F:=cd (cp "clock" 370 "World.clock" 371 372 62 2 0 0 3 146 true 181 147 148 149 150 375 62 376)
noncomputable def o88:F:=fo "clock" "World.clock" (ao (top 10) 7) "driftmeet.worlds" 271 151
noncomputable def o89:F:=tu #[(.str "self" 381),(.str "one" 382),(.str "other" 383)]
noncomputable def o90:F:=fp "way" "World.way" (ao (top 10) 8)
noncomputable def o91:F:=cd (cp "way" 378 "World.way" 379 380 66 3 0 0 3 153 true 181 154 155 156 157 384 66 385)
noncomputable def o92:F:=fo "way" "World.way" (ao (top 10) 8) "driftmeet.worlds" 271 158
noncomputable def o93:F:=tu #[(.str "kept_clocks" 387),(.str "kept_ways" 388)]
noncomputable def o94:F:=λP=>⟨(.type "dict"),none,(.dict #[e P "__module__" 298 (.str "driftmeet.worlds" 271),e P "__firstlineno__" 302 (.int 24 301),e P "__init__" 317 (R 103),e P "enter_way" 328 (R 110),e P "refuse_hand" 336 (R 117),e P "refuse_pair" 345 (R 124),e P "hands" 352 (R 131),e P "has_hand" 360 (R 138),e P "has_way" 369 (R 145),e P "clock" 377 (R 152),e P "way" 386 (R 159),e P "__static_attributes__" 389 (R 160),e P "__dict__" 391 (R 163),e P "__weakref__" 393 (R 164),e P "__doc__" 394 .none] 4),#[]⟩
noncomputable def o95:F:=λ_=>⟨(.type "type"),none,(.cls ⟨"World",[(.type "object")],[(R 162),(.type "object")],161,"World",true,[],[],false,none,false⟩),#[none,none,some (.str "World" 291),some (.str "World" 299),some (.builtin "object.__new__"),some (.bool true)]⟩
noncomputable def o96:F:=λ_=>⟨(.type "getset_descriptor"),none,(.fields #[(.str "__dict__" 390),(R 162),(.builtin "function.__dict__"),(.builtin "function.__dict__#set")]),#[]⟩
noncomputable def o97:F:=λ_=>⟨(.type "getset_descriptor"),none,(.fields #[(.str "__weakref__" 392),(R 162),(.builtin "ExceptionGroup.__weakref__"),.none]),#[]⟩
noncomputable def o98:F:=λ_=>⟨(.type "super"),none,(.fields #[(R 162),(R 162),(R 162)]),#[]⟩
noncomputable def o99:F:=bf "object.__init_subclass__" 162
noncomputable def zJ:F:=tu #[(.str "number" 406)]
noncomputable def C1:F:=fp "show_number" "show_number" (top 14)
noncomputable def AC:F:=cd (cp "show_number" 403 "show_number" 404 405 74 1 0 0 3 167 true 181 168 169 170 171 407 74 408)
noncomputable def Ag:F:=fo "show_number" "show_number" (top 14) "driftmeet.texts" 397 172
noncomputable def CI:F:=fp "show_list" "show_list" (top 15)
noncomputable def zA:F:=cd (.fields #[(.str "show_list" 410),(.str "show_list" 411),(.str "/claim/cut.py" 412),(I 76),(I 1),(I 0),(I 0),(I 3),(R 174),(.bool true),(I 181),(R 175),.none,.none,.none,(R 176),(I 413),(I 76),(.str "/claim/cut.py" 414)])
noncomputable def yr:F:=fo "show_list" "show_list" (top 15) "driftmeet.texts" 397 177
noncomputable def Az:F:=tu #[(.str "clock" 419)]
noncomputable def A3:F:=fp "show_clock" "show_clock" (top 16)
noncomputable def zg:F:=cd (cp "show_clock" 416 "show_clock" 417 418 78 1 0 0 3 179 true 181 180 181 182 183 420 78 421)
noncomputable def Ah:F:=fo "show_clock" "show_clock" (top 16) "driftmeet.texts" 397 184
noncomputable def zi:F:=tu #[(.str "one" 426),(.str "other" 427),(.str "way" 428),(.str "most" 429)]
noncomputable def Df:F:=fp "show_way" "show_way" (top 17)
noncomputable def Al:F:=cd (cp "show_way" 423 "show_way" 424 425 80 3 0 0 3 186 true 181 187 188 189 190 430 80 431)
noncomputable def zL:F:=fo "show_way" "show_way" (top 17) "driftmeet.texts" 397 191
noncomputable def A5:F:=fp "show_world" "show_world" (top 18)
noncomputable def yY:F:=cd (.fields #[(.str "show_world" 433),(.str "show_world" 434),(.str "/claim/cut.py" 435),(I 83),(I 1),(I 0),(I 0),(I 3),(R 193),(.bool true),(I 181),(R 194),.none,.none,.none,(R 195),(I 436),(I 83),(.str "/claim/cut.py" 437)])
noncomputable def zj:F:=fo "show_world" "show_world" (top 18) "driftmeet.texts" 397 196
noncomputable def xY:F:=tu #[(.str "text" 442)]
noncomputable def CA:F:=fp "refuse_other" "refuse_other" (top 19)
noncomputable def yk:F:=cd (cp "refuse_other" 439 "refuse_other" 440 441 89 1 0 0 3 198 true 181 199 200 201 202 443 89 444)
noncomputable def xg:F:=fo "refuse_other" "refuse_other" (top 19) "driftmeet.texts" 397 203
noncomputable def Cu:F:=fp "are_figures" "are_figures" (top 20)
noncomputable def As:F:=cd (.fields #[(.str "are_figures" 446),(.str "are_figures" 447),(.str "/claim/cut.py" 448),(I 92),(I 1),(I 0),(I 0),(I 3),(R 205),(.bool true),(I 181),(R 206),.none,.none,.none,(R 207),(I 449),(I 92),(.str "/claim/cut.py" 450)])
noncomputable def x9:F:=fo "are_figures" "are_figures" (top 20) "driftmeet.texts" 397 208
noncomputable def zQ:F:=tu #[(.str "text" 455),(.str "figures" 456)]
noncomputable def Ce:F:=fp "read_number" "read_number" (top 21)
noncomputable def yi:F:=cd (cp "read_number" 452 "read_number" 453 454 94 1 0 0 3 210 true 181 211 212 213 214 457 94 458)
noncomputable def xt:F:=fo "read_number" "read_number" (top 21) "driftmeet.texts" 397 215
noncomputable def z0:F:=tu #[(.str "text" 463),(.str "sign" 464)]
noncomputable def Cr:F:=fp "parts_of" "parts_of" (top 22)
noncomputable def yZ:F:=cd (cp "parts_of" 460 "parts_of" 461 462 102 2 0 0 3 217 true 181 218 219 220 221 465 102 466)
noncomputable def zh:F:=fo "parts_of" "parts_of" (top 22) "driftmeet.texts" 397 222
noncomputable def Ao:F:=tu #[(.str "words" 471)]
noncomputable def CY:F:=fp "read_clock" "read_clock" (top 23)
noncomputable def Aw:F:=cd (cp "read_clock" 468 "read_clock" 469 470 105 1 0 0 3 224 true 181 225 226 227 228 472 105 473)
noncomputable def xq:F:=fo "read_clock" "read_clock" (top 23) "driftmeet.texts" 397 229
noncomputable def yo:F:=tu #[(.str "words" 478),(.str "most" 479)]
noncomputable def AJ:F:=fp "read_way" "read_way" (top 24)
noncomputable def xm:F:=cd (cp "read_way" 475 "read_way" 476 477 107 1 0 0 3 231 true 181 232 233 234 235 480 107 481)
noncomputable def yH:F:=fo "read_way" "read_way" (top 24) "driftmeet.texts" 397 236
noncomputable def yj:F:=tu #[(.str "text" 486),(.str "clocks" 487),(.str "ways" 488),(.str "part" 489),(.str "words" 490)]
noncomputable def BP:F:=fp "read_world" "read_world" (top 25)
noncomputable def zw:F:=cd (cp "read_world" 483 "read_world" 484 485 110 1 0 0 3 238 true 181 239 240 241 242 491 110 492)
noncomputable def An:F:=fo "read_world" "read_world" (top 25) "driftmeet.texts" 397 243
noncomputable def zf:F:=tu #[(.str "_law_script" 499),(.str "_law_k" 500)]
noncomputable def AL:F:=fp "_law_cell_at" "_law_cell_at" (top 27)
noncomputable def xD:F:=cd (cp "_law_cell_at" 496 "_law_cell_at" 497 498 125 2 0 0 3 245 true 181 246 247 248 249 501 125 502)
noncomputable def xJ:F:=fo "_law_cell_at" "_law_cell_at" (top 27) "law_driftmeet_k88_worlds_written" 494 250
noncomputable def zB:F:=tu #[(.str "_law_number" 507)]
noncomputable def A0:F:=fp "_law_amount" "_law_amount" (top 28)
noncomputable def xG:F:=cd (cp "_law_amount" 504 "_law_amount" 505 506 129 1 0 0 3 252 true 181 253 254 255 256 508 129 509)
noncomputable def zb:F:=fo "_law_amount" "_law_amount" (top 28) "law_driftmeet_k88_worlds_written" 494 257
noncomputable def Ay:F:=tu #[(.str "_law_cell" 514),(.str "_law_hands" 515),(.str "_law_clocks" 516),(.str "_law_ways" 517),(.str "_law_number" 518),(.str "_law_one" 519),(.str "_law_short" 520),(.str "_law_other" 521),(.str "_law_least" 522),(.str "_law_most" 523)]
noncomputable def CZ:F:=fp "_law_world" "_law_world" (top 29)
noncomputable def AB:F:=cd (cp "_law_world" 511 "_law_world" 512 513 137 1 0 0 3 259 true 181 260 261 262 263 524 137 525)
noncomputable def zC:F:=fo "_law_world" "_law_world" (top 29) "law_driftmeet_k88_worlds_written" 494 264
noncomputable def Bl:F:=fp "_law_parts" "_law_parts" (top 30)
noncomputable def xh:F:=cd (.fields #[(.str "_law_parts" 527),(.str "_law_parts" 528),(.str "/claim/cut.py" 529),(I 155),(I 2),(I 0),(I 0),(I 3),(R 266),(.bool true),(I 181),(R 267),.none,.none,.none,(R 268),(I 530),(I 155),(.str "/claim/cut.py" 531)])
noncomputable def xO:F:=fo "_law_parts" "_law_parts" (top 30) "law_driftmeet_k88_worlds_written" 494 269
noncomputable def Cw:F:=fp "_law_told" "_law_told" (top 31)
noncomputable def yE:F:=cd (.fields #[(.str "_law_told" 533),(.str "_law_told" 534),(.str "/claim/cut.py" 535),(I 163),(I 1),(I 0),(I 0),(I 3),(R 271),(.bool true),(I 181),(R 272),.none,.none,.none,(R 273),(I 536),(I 163),(.str "/claim/cut.py" 537)])
noncomputable def xN:F:=fo "_law_told" "_law_told" (top 31) "law_driftmeet_k88_worlds_written" 494 274
noncomputable def AR:F:=fp "_law_word" "_law_word" (top 32)
noncomputable def zd:F:=cd (.fields #[(.str "_law_word" 539),(.str "_law_word" 540),(.str "/claim/cut.py" 541),(I 178),(I 1),(I 0),(I 0),(I 3),(R 276),(.bool true),(I 181),(R 277),.none,.none,.none,(R 278),(I 542),(I 178),(.str "/claim/cut.py" 543)])
noncomputable def yt:F:=fo "_law_word" "_law_word" (top 32) "law_driftmeet_k88_worlds_written" 494 279
noncomputable def AA:F:=tu #[(.str "_law_parts_here" 548),(.str "_law_cell" 549),(.str "_law_part" 550),(.str "_law_words" 551),(.str "_law_at" 552),(.str "_law_kind" 553)]
noncomputable def BL:F:=fp "_law_ill_formed" "_law_ill_formed" (top 33)
noncomputable def xB:F:=cd (cp "_law_ill_formed" 545 "_law_ill_formed" 546 547 188 2 0 0 3 281 true 181 282 283 284 285 554 188 555)
noncomputable def xC:F:=fo "_law_ill_formed" "_law_ill_formed" (top 33) "law_driftmeet_k88_worlds_written" 494 286
noncomputable def yX:F:=tu #[(.str "_law_clocks" 560),(.str "_law_ways" 561),(.str "_law_cell" 562),(.str "_law_hands" 563),(.str "_law_far" 564)]
noncomputable def AU:F:=fp "_law_no_world" "_law_no_world" (top 34)
noncomputable def xE:F:=cd (cp "_law_no_world" 557 "_law_no_world" 558 559 210 3 0 0 3 288 true 181 289 290 291 292 565 210 566)
noncomputable def zr:F:=fo "_law_no_world" "_law_no_world" (top 34) "law_driftmeet_k88_worlds_written" 494 293
noncomputable def zq:F:=tu #[(.str "_law_script" 571),(.str "_law_clocks" 572),(.str "_law_ways" 573),(.str "_law_made" 574),(.str "_law_shown" 575),(.str "_law_cut_at" 576),(.str "_law_some" 577),(.str "_law_found" 578),(.str "_law_cell" 579),(.str "_law_odd" 580)]
noncomputable def BC:F:=fp "law" "law" (top 35)
noncomputable def xT:F:=cd (cp "law" 568 "law" 569 570 230 1 0 0 3 295 true 181 296 297 298 299 581 230 582)
noncomputable def xF:F:=fo "law" "law" (top 35) "law_driftmeet_k88_worlds_written" 494 300
noncomputable def env:Env:={scope:=pw.main.scope,locals:=mainNs,globals:=mainNs,cells:=[],code:=(R 13),frame:=some 14}
noncomputable def bE:List Stmt:=behindTheImports pw
noncomputable def b(i:Nat):Stmt:=bE.getD i (.Pass ⟨0,0,0,0⟩)
noncomputable def cE:Code:=.body bE env
noncomputable def qF:List Frame:=[topFrame ⟨0,0,0,0⟩]
noncomputable def an:Option Value:=(some (R 6))
noncomputable def hA(P:Params):Heap:=⟨⟨[boot_o_0 P,boot_o_1 P,boot_o_2 P,boot_o_3 P,boot_o_4 P,boot_o_5 P,boot_o_6 P,boot_o_7 P,boot_o_8 P,boot_o_9 P,boot_o_10 P,o0 P,o1 P,o2 P,o3 P]⟩,{}⟩
noncomputable def sA(w:World)(os:OsState):Shared:=⟨hA w.params,⟨[]⟩,{},187,os⟩
noncomputable def t0:Params->W.BT:=(n boot_o_0 (n boot_o_1 (n boot_o_3 (l boot_o_7) (l o0)) (n boot_o_5 (l boot_o_9) (l o2))) (n boot_o_2 (n boot_o_4 (l boot_o_8) (l o1)) (n boot_o_6 (l boot_o_10) (l o3))))
noncomputable def s0(w:World)(os:OsState):SharedT:=⟨t0 w.params,15,{},⟨[]⟩,{},187,os⟩
noncomputable def t1:Params->W.BT:=(n boot_o_0 (n boot_o_1 (n o4 (n boot_o_7 (n o6 (n o0 (n o37 (n o73 (l o0) z) (l Al)) (n o55 (n o92 (l xC) z) (l zh))) (n o0 (n o0 (n o82 (l o0) z) (l Cu)) (n o0 (l o1) (l o1)))) (n o11 (n o23 (n o0 (n o0 (l CZ) z) (l o1)) (n o60 (n o0 (l o0) z) (l o0))) (n o0 (n o50 (n o87 (l zd) z) (l yi)) (n o1 (l A3) (l zf))))) (n o0 (n o1 (n o0 (n o0 (n o76 (l o0) z) (l A5)) (n o57 (n o96 (l o0) z) (l o0))) (n o30 (n o0 (n o1 (l xN) z) (l o1)) (n o66 (l o0) (l zw)))) (n o15 (n o0 (n o44 (n o0 (l o1) z) (l yk)) (n o0 (n C1 (l BC) z) (l AJ))) (n o0 (n o7 (n o89 (l AA) z) (l z0)) (n o71 (l o1) (l xJ)))))) (n boot_o_5 (n boot_o_9 (n o8 (n o18 (n o7 (n o74 (l xG) z) (l o0)) (n o0 (n o94 (l o1) z) (l o1))) (n o28 (n o47 (n o84 (l Cw) z) (l x9)) (n o65 (l zA) (l o0)))) (n o13 (n o7 (n o42 (n o79 (l zC) z) (l o0)) (n o1 (n zJ (l zq) z) (l yo))) (n o32 (n o52 (n o0 (l o0) z) (l o0)) (n o0 (l Ah) (l AL))))) (n o2 (n o10 (n o21 (n o39 (n o1 (l Ay) z) (l zj)) (n o58 (n o98 (l xE) z) (l Aw))) (n o7 (n o49 (n o0 (l o1) z) (l o0)) (n o68 (l Az) (l o0)))) (n o7 (n o25 (n o1 (n o81 (l xh) z) (l o0)) (n o63 (n Ag (l xF) z) (l yH))) (n o35 (n o0 (n o90 (l BL) z) (l Cr)) (n o0 (l o0) (l o1))))))) (n boot_o_2 (n boot_o_4 (n boot_o_8 (n o7 (n o1 (n o16 (n o0 (l A0) z) (l zL)) (n o56 (n o93 (l o0) z) (l o0))) (n o27 (n o46 (n o83 (l o1) z) (l As)) (n o1 (l CI) (l yj)))) (n o12 (n o16 (n o41 (n o78 (l AB) z) (l xY)) (n o0 (n o1 (l o1) z) (l o1))) (n o1 (n o51 (n o88 (l yt) z) (l xt)) (n o69 (l zg) (l o0))))) (n o5 (n o9 (n o20 (n o1 (n o0 (l o1) z) (l yY)) (n o0 (n o97 (l AU) z) (l CY))) (n o16 (n o1 (n o85 (l o0) z) (l zQ)) (n o67 (l o1) (l An)))) (n o16 (n o1 (n o0 (n o1 (l Bl) z) (l xg)) (n o62 (n AC (l xT) z) (l xm))) (n o34 (n o53 (n o0 (l o0) z) (l o0)) (n o72 (l zi) (l o0)))))) (n boot_o_6 (n boot_o_10 (n o0 (n o19 (n o38 (n o75 (l zb) z) (l o1)) (n o1 (n o95 (l yX) z) (l Ao))) (n o29 (n o48 (n o0 (l yE) z) (l o0)) (n o0 (l yr) (l BP)))) (n o14 (n o24 (n o43 (n o80 (l o0) z) (l CA)) (n o61 (n o0 (l o0) z) (l o0))) (n o33 (n o0 (n o1 (l o1) z) (l o1)) (n o70 (l o0) (l xD))))) (n o3 (n o0 (n o22 (n o40 (n o77 (l o0) z) (l o0)) (n o59 (n o99 (l zr) z) (l xq))) (n o31 (n o0 (n o86 (l AR) z) (l Ce)) (n o0 (l o0) (l o1)))) (n o17 (n o26 (n o45 (n o0 (l xO) z) (l o1)) (n o64 (l o0) (l o0))) (n o36 (n o54 (n o91 (l xB) z) (l yZ)) (n o1 (l Df) (l zB))))))))
noncomputable def s1(w:World)(os:OsState):SharedT:=⟨t1 w.params,302,{},⟨[]⟩,{},584,os⟩
noncomputable def t2:Params->W.BT:=(n boot_o_0 (n boot_o_1 (n o4 (n boot_o_7 (n o6 (n o0 (n o37 (n o73 (l o0) z) (l Al)) (n o55 (n o92 (l xC) z) (l zh))) (n o0 (n o0 (n o82 (l o0) z) (l Cu)) (n o0 (l o1) (l o1)))) (n o11 (n o23 (n o0 (n o0 (l CZ) z) (l o1)) (n o60 (n o0 (l o0) z) (l o0))) (n o0 (n o50 (n o87 (l zd) z) (l yi)) (n o1 (l A3) (l zf))))) (n o0 (n o1 (n o0 (n o0 (n o76 (l o0) z) (l A5)) (n o57 (n o96 (l o0) z) (l o0))) (n o30 (n o0 (n o1 (l xN) z) (l o1)) (n o66 (l o0) (l zw)))) (n o15 (n o0 (n o44 (n o0 (l o1) z) (l yk)) (n o0 (n C1 (l BC) z) (l AJ))) (n o0 (n o7 (n o89 (l AA) z) (l z0)) (n o71 (l o1) (l xJ)))))) (n boot_o_5 (n boot_o_9 (n o8 (n o18 (n o7 (n o74 (l xG) z) (l o0)) (n o0 (n o94 (l o1) z) (l o1))) (n o28 (n o47 (n o84 (l Cw) z) (l x9)) (n o65 (l zA) (l o0)))) (n o13 (n o7 (n o42 (n o79 (l zC) z) (l o0)) (n o1 (n zJ (l zq) z) (l yo))) (n o32 (n o52 (n o0 (l o0) z) (l o0)) (n o0 (l Ah) (l AL))))) (n o2 (n o10 (n o21 (n o39 (n o1 (l Ay) z) (l zj)) (n o58 (n o98 (l xE) z) (l Aw))) (n o7 (n o49 (n o0 (l o1) z) (l o0)) (n o68 (l Az) (l o0)))) (n o7 (n o25 (n o1 (n o81 (l xh) z) (l o0)) (n o63 (n Ag (l xF) z) (l yH))) (n o35 (n o0 (n o90 (l BL) z) (l Cr)) (n o0 (l o0) (l o1))))))) (n boot_o_2 (n boot_o_4 (n boot_o_8 (n o7 (n o1 (n o16 (n o0 (l A0) z) (l zL)) (n o56 (n o93 (l o0) z) (l o0))) (n o27 (n o46 (n o83 (l o1) z) (l As)) (n o1 (l CI) (l yj)))) (n o12 (n o16 (n o41 (n o78 (l AB) z) (l xY)) (n o0 (n o1 (l o1) z) (l o1))) (n o1 (n o51 (n o88 (l yt) z) (l xt)) (n o69 (l zg) (l o0))))) (n o5 (n o9 (n o20 (n o1 (n o0 (l o1) z) (l yY)) (n o0 (n o97 (l AU) z) (l CY))) (n o16 (n o1 (n o85 (l o0) z) (l zQ)) (n o67 (l o1) (l An)))) (n o16 (n o1 (n o0 (n o1 (l Bl) z) (l xg)) (n o62 (n AC (l xT) z) (l xm))) (n o34 (n o53 (n o0 (l o0) z) (l o0)) (n o72 (l zi) (l o0)))))) (n boot_o_6 (n boot_o_10 (n o0 (n o19 (n o38 (n o75 (l zb) z) (l o1)) (n o1 (n o95 (l yX) z) (l Ao))) (n o29 (n o48 (n o0 (l yE) z) (l o0)) (n o0 (l yr) (l BP)))) (n o14 (n o24 (n o43 (n o80 (l o0) z) (l CA)) (n o61 (n o0 (l o0) z) (l o0))) (n o33 (n o0 (n o1 (l o1) z) (l o1)) (n o70 (l o0) (l xD))))) (n o3 (n o0 (n o22 (n o40 (n o77 (l o0) z) (l o0)) (n o59 (n o99 (l zr) z) (l xq))) (n o31 (n o0 (n o86 (l AR) z) (l Ce)) (n o0 (l o0) (l o1)))) (n o17 (n o26 (n o45 (n o0 (l xO) z) (l o1)) (n o64 (l o0) (l o0))) (n o36 (n o54 (n o91 (l xB) z) (l yZ)) (n o1 (l Df) (l zB))))))))
noncomputable def s2(w:World)(os:OsState):SharedT:=⟨t2 w.params,302,{},⟨[]⟩,{},584,os⟩
theorem pre:∀w:World,(λos=>topGo treeTable pw w 11 an 12 ⟨boot_heap w.params,⟨[]⟩,boot_drawn,boot_toks,os⟩ (topStub pw))=λos=>some (sA w os,⟨denote treeTable cE,cE,⟨0,0,0,0⟩,qF⟩):=λw=>by kernel_rfl
theorem blk:∀w:World,(λos=>segRun treeTable pw w 11 an 1 1 (sA w os) (blockOf bE env cE ⟨0,0,0,0⟩ qF))=λos=>some (.next,(s0 w os).abs,cE,⟨0,0,0,0⟩):=λw=>by kernel_rfl
noncomputable def g0:List Stmt:=[b 0,b 1,b 2,b 3,b 4,b 5,b 6,b 7,b 8,b 9,b 10,b 11,b 12,b 13,b 14,b 15,b 16,b 17,b 18,b 19,b 20,b 21,b 22,b 23,b 24,b 25,b 26,b 27,b 28,b 29,b 30,b 31,b 32,b 33,b 34,b 35]
theorem p0:∀w:World,(λos=>segRunT treeTable pw w 11 an 1 2282 (s0 w os) (piecesOf g0 env cE ⟨0,0,0,0⟩ qF))=λos=>some (.next,s1 w os,cE,⟨230,0,247,15⟩):=λw=>by kernel_rfl
theorem fin:∀w:World,(λos=>topRun treeTable pw w 11 an 2 (s1 w os).abs (restOf [] env cE ⟨230,0,247,15⟩ qF))=λos=>some (s2 w os).abs:=λw=>by kernel_rfl
theorem CH:bE=g0++([]):=by kernel_rfl
theorem Fa(w:World)(os:OsState):topRun treeTable pw w 11 an (2282+(2)) (s0 w os).abs (restOf (g0++([])) env cE ⟨0,0,0,0⟩ qF)=some (s2 w os).abs:=piece_app (segRun_of (congrFun (p0 w) os)) (congrFun (fin w) os)
theorem run(w:World)(os:OsState):topRun treeTable pw w 11 an (12+(1+(2282+(2)))) ⟨boot_heap w.params,⟨[]⟩,boot_drawn,boot_toks,os⟩ (topStub pw)=some (s2 w os).abs:=go_top (congrFun (pre w) os) (piece_block (congrFun (blk w) os) (by rw[CH];exact Fa w os))
noncomputable def view:Program:={pw with main:={pw.main with body:=[top 35]}}
noncomputable def loose:List Str:=(["DriftError","NoHand","NoClock","NoWay","NoText","MOST_HANDS","refuse_clock","refuse_lengths","World","FIGURES","MOST_FIGURES","show_number","show_list","show_clock","show_way","show_world","refuse_other","are_figures","read_number","parts_of","read_clock","read_way","read_world","_law_cell_at","_law_amount","_law_world","_law_parts","_law_told","_law_word","_law_ill_formed","_law_no_world"]:List String).map Str.ofString
noncomputable def K(P:Params):Frag:=(nat_lit 2,boot_o_2 P)::(nat_lit 3,o4 P)::(nat_lit 15,o6 P)::(nat_lit 22,o0 P)::(nat_lit 23,o11 P)::(nat_lit 24,o12 P)::(nat_lit 25,o13 P)::(nat_lit 28,o16 P)::(nat_lit 35,o0 P)::(nat_lit 36,o20 P)::(nat_lit 37,o21 P)::(nat_lit 40,o16 P)::(nat_lit 47,o0 P)::(nat_lit 48,o27 P)::(nat_lit 49,o28 P)::(nat_lit 52,o16 P)::(nat_lit 59,o0 P)::(nat_lit 60,o34 P)::(nat_lit 61,o35 P)::(nat_lit 64,o16 P)::(nat_lit 71,o0 P)::(nat_lit 72,o41 P)::(nat_lit 73,o42 P)::(nat_lit 76,o0 P)::(nat_lit 78,o45 P)::(nat_lit 79,o0 P)::(nat_lit 81,o47 P)::(nat_lit 82,o48 P)::(nat_lit 83,o0 P)::(nat_lit 85,o49 P)::(nat_lit 86,o0 P)::(nat_lit 88,o51 P)::(nat_lit 89,o52 P)::(nat_lit 97,o0 P)::(nat_lit 99,o57 P)::(nat_lit 100,o0 P)::(nat_lit 102,o59 P)::(nat_lit 103,o60 P)::(nat_lit 104,o0 P)::(nat_lit 106,o61 P)::(nat_lit 107,o0 P)::(nat_lit 109,o63 P)::(nat_lit 110,o64 P)::(nat_lit 111,o0 P)::(nat_lit 113,o65 P)::(nat_lit 114,o0 P)::(nat_lit 116,o67 P)::(nat_lit 117,o68 P)::(nat_lit 118,o0 P)::(nat_lit 120,o69 P)::(nat_lit 121,o0 P)::(nat_lit 123,o71 P)::(nat_lit 124,o72 P)::(nat_lit 125,o0 P)::(nat_lit 127,o73 P)::(nat_lit 128,o0 P)::(nat_lit 130,o75 P)::(nat_lit 131,o76 P)::(nat_lit 132,o0 P)::(nat_lit 134,o77 P)::(nat_lit 135,o0 P)::(nat_lit 137,o79 P)::(nat_lit 138,o80 P)::(nat_lit 139,o0 P)::(nat_lit 141,o81 P)::(nat_lit 142,o0 P)::(nat_lit 144,o83 P)::(nat_lit 145,o84 P)::(nat_lit 146,o0 P)::(nat_lit 148,o85 P)::(nat_lit 149,o0 P)::(nat_lit 151,o87 P)::(nat_lit 152,o88 P)::(nat_lit 153,o0 P)::(nat_lit 155,o89 P)::(nat_lit 156,o0 P)::(nat_lit 158,o91 P)::(nat_lit 159,o92 P)::(nat_lit 160,o93 P)::(nat_lit 161,o94 P)::(nat_lit 162,o95 P)::(nat_lit 163,o96 P)::(nat_lit 164,o97 P)::(nat_lit 167,o0 P)::(nat_lit 169,zJ P)::(nat_lit 170,o0 P)::(nat_lit 172,AC P)::(nat_lit 173,Ag P)::(nat_lit 174,o0 P)::(nat_lit 177,zA P)::(nat_lit 178,yr P)::(nat_lit 179,o0 P)::(nat_lit 181,Az P)::(nat_lit 182,o0 P)::(nat_lit 184,zg P)::(nat_lit 185,Ah P)::(nat_lit 186,o0 P)::(nat_lit 188,zi P)::(nat_lit 189,o0 P)::(nat_lit 191,Al P)::(nat_lit 192,zL P)::(nat_lit 193,o0 P)::(nat_lit 196,yY P)::(nat_lit 197,zj P)::(nat_lit 198,o0 P)::(nat_lit 200,xY P)::(nat_lit 201,o0 P)::(nat_lit 203,yk P)::(nat_lit 204,xg P)::(nat_lit 205,o0 P)::(nat_lit 208,As P)::(nat_lit 209,x9 P)::(nat_lit 210,o0 P)::(nat_lit 212,zQ P)::(nat_lit 213,o0 P)::(nat_lit 215,yi P)::(nat_lit 216,xt P)::(nat_lit 217,o0 P)::(nat_lit 219,z0 P)::(nat_lit 220,o0 P)::(nat_lit 222,yZ P)::(nat_lit 223,zh P)::(nat_lit 224,o0 P)::(nat_lit 226,Ao P)::(nat_lit 227,o0 P)::(nat_lit 229,Aw P)::(nat_lit 230,xq P)::(nat_lit 231,o0 P)::(nat_lit 233,yo P)::(nat_lit 234,o0 P)::(nat_lit 236,xm P)::(nat_lit 237,yH P)::(nat_lit 238,o0 P)::(nat_lit 240,yj P)::(nat_lit 241,o0 P)::(nat_lit 243,zw P)::(nat_lit 244,An P)::(nat_lit 245,o0 P)::(nat_lit 247,zf P)::(nat_lit 248,o0 P)::(nat_lit 250,xD P)::(nat_lit 251,xJ P)::(nat_lit 252,o0 P)::(nat_lit 254,zB P)::(nat_lit 255,o0 P)::(nat_lit 257,xG P)::(nat_lit 258,zb P)::(nat_lit 259,o0 P)::(nat_lit 261,Ay P)::(nat_lit 262,o0 P)::(nat_lit 264,AB P)::(nat_lit 265,zC P)::(nat_lit 266,o0 P)::(nat_lit 269,xh P)::(nat_lit 270,xO P)::(nat_lit 271,o0 P)::(nat_lit 274,yE P)::(nat_lit 275,xN P)::(nat_lit 276,o0 P)::(nat_lit 279,zd P)::(nat_lit 280,yt P)::(nat_lit 281,o0 P)::(nat_lit 283,AA P)::(nat_lit 284,o0 P)::(nat_lit 286,xB P)::(nat_lit 287,xC P)::(nat_lit 288,o0 P)::(nat_lit 290,yX P)::(nat_lit 291,o0 P)::(nat_lit 293,xE P)::(nat_lit 294,zr P)::(nat_lit 295,o0 P)::(nat_lit 297,zq P)::(nat_lit 298,o0 P)::(nat_lit 300,xT P)::(nat_lit 301,xF P)::[]
noncomputable def as:List Addr:=[2,3,15,22,23,24,25,28,35,36,37,40,47,48,49,52,59,60,61,64,71,72,73,76,78,79,81,82,83,85,86,88,89,97,99,100,102,103,104,106,107,109,110,111,113,114,116,117,118,120,121,123,124,125,127,128,130,131,132,134,135,137,138,139,141,142,144,145,146,148,149,151,152,153,155,156,158,159,160,161,162,163,164,167,169,170,172,173,174,177,178,179,181,182,184,185,186,188,189,191,192,193,196,197,198,200,201,203,204,205,208,209,210,212,213,215,216,217,219,220,222,223,224,226,227,229,230,231,233,234,236,237,238,240,241,243,244,245,247,248,250,251,252,254,255,257,258,259,261,262,264,265,266,269,270,271,274,275,276,279,280,281,283,284,286,287,288,290,291,293,294,295,297,298,300,301]
theorem as_eq:∀P,as=(K P).map (·.1):=λP=>by kernel_rfl
noncomputable def h1(P:Params):Heap:=absHeap (t2 P) 302 {}
noncomputable def f1(w:World)(os:OsState):Shared:=⟨h1 w.params,⟨[]⟩,{},584,os⟩
noncomputable def Xt(s:Shared):Bool:=xlAt view [] s&&recOk (RowW.records PySem.Challenge.rw_driftmeet_k88_worlds_written.row.toRowW) s
theorem lk1:∀w:World,(λos=>(staticsOk (importedModules pw.main.body) (boot_heap w.params) (h1 w.params)&&namesBound pw (h1 w.params)&&gensDone (f1 w os)&&laidKept (boot_heap w.params) (h1 w.params)))=λ_=>true:=λw=>by kernel_rfl
theorem lk2:∀w:World,(λos=>openSeen view loose (importedModules pw.main.body) Xt true (f1 w os))=λ_=>openGood view loose:=λw=>by kernel_rfl
theorem lk3:∀w:World,(λos=>((Hook.obs (kHook K as as_eq)) (f1 w os),Nat.ble 1 (f1 w os).toks))=λ_=>((Hook.val (kHook K as as_eq)) w,true):=λw=>by kernel_rfl
theorem left:LeftO pw view loose Xt (λs=>(Hook.obs (kHook K as as_eq) s,Nat.ble 1 s.toks)) (λw=>(Hook.val (kHook K as as_eq) w,true)) 4688:=LeftO.of_pieces (boot_open (by kernel_rfl) (by decide) (λs=>by kernel_rfl)) (H₀:=boot_heap) (H₁:=h1) (gs₀:=⟨[]⟩) (m₀:=11) (ann:=an) (M:=12+(1+(2282+(2)))) (λw=>by kernel_rfl) (λw os=>run w os) (by decide) λw=>funext λos=>looks_pair (congrFun (lk1 w) os) (looks_pair (congrFun (lk2 w) os) (congrFun (lk3 w) os))
end HD
namespace G
open PySem L2
noncomputable def top(i:Nat):Stmt:=PySem.Challenge.pw_driftmeet_k88_worlds_written.main.body.getD i (.Pass ⟨0,0,0,0⟩)
noncomputable def bA:ISs:=.cons (.ifs (.cmp .Lt (.var 0) (.con (.int 1))) (.cons (.raise 2 (.cons (.con (.str "short is below 1")) (.nil))) (.nil)) (.nil)) (.cons (.ifs (.cmp .Lt (.var 1) (.var 0)) (.cons (.raise 2 (.cons (.con (.str "long is below short")) (.nil))) (.nil)) (.nil)) (.nil))
noncomputable def bb:ISs:=.cons (.ifs (.cmp .Lt (.var 0) (.con (.int 0))) (.cons (.raise 3 (.cons (.con (.str "least is below nought")) (.nil))) (.nil)) (.nil)) (.cons (.ifs (.and (.cmp .IsNot (.var 1) (.con .non)) (.cmp .Lt (.var 1) (.var 0))) (.cons (.raise 3 (.cons (.con (.str "most is below least")) (.nil))) (.nil)) (.nil)) (.nil))
noncomputable def bv:ISs:=.cons (.expr (.call 0 (.cons (.var 3) (.cons (.var 4) (.nil))))) (.nil)
noncomputable def bD:ISs:=.cons (.expr (.meth (.var 0) 8774101686596482917 (.cons (.var 5) (.cons (.var 6) (.cons (.var 7) (.cons (.var 8) (.nil))))))) (.nil)
noncomputable def aO:ISs:=.cons (.ifs (.or (.cmp .Lt (.bi .len (.cons (.var 1) (.nil))) (.con (.int 1))) (.cmp .Gt (.bi .len (.cons (.var 1) (.nil))) (.glo 0))) (.cons (.raise 1 (.cons (.con (.str "a world has one to six hands")) (.nil))) (.nil)) (.nil)) (.cons (.for_ (.tup [3,4]) (.seq (.var 1)) bv) (.cons (.fset (.var 0) 136762133858116729320171 (.bi (.list false) (.cons (.var 1) (.nil)))) (.cons (.fset (.var 0) 8355170983792620267 (.dnew true)) (.cons (.for_ (.tup [5,6,7,8]) (.seq (.var 2)) bD) (.nil)))))
noncomputable def aT:ISs:=.cons (.expr (.meth (.var 0) 135562951883986971505394 (.cons (.var 1) (.cons (.var 2) (.nil))))) (.cons (.ifs (.cmp .In (.tup (.cons (.var 1) (.cons (.var 2) (.nil)))) (.fld (.var 0) 8355170983792620267)) (.cons (.raise 3 (.cons (.con (.str "this way was told ahead")) (.nil))) (.nil)) (.nil)) (.cons (.expr (.call 1 (.cons (.var 3) (.cons (.var 4) (.nil))))) (.cons (.ixset (.fld (.var 0) 8355170983792620267) (.tup (.cons (.var 1) (.cons (.var 2) (.nil)))) (.tup (.cons (.var 3) (.cons (.var 4) (.nil))))) (.nil))))
noncomputable def aA:ISs:=.cons (.ifs (.not (.val (.meth (.var 0) 56782141471387880 (.cons (.var 1) (.nil))))) (.cons (.raise 1 (.cons (.con (.str "the world has no such hand")) (.nil))) (.nil)) (.nil)) (.nil)
noncomputable def aB:ISs:=.cons (.expr (.meth (.var 0) 119080781550527859766002 (.cons (.var 1) (.nil)))) (.cons (.expr (.meth (.var 0) 119080781550527859766002 (.cons (.var 2) (.nil)))) (.cons (.ifs (.cmp .Eq (.var 1) (.var 2)) (.cons (.raise 1 (.cons (.con (.str "a way leads to another hand")) (.nil))) (.nil)) (.nil)) (.nil)))
noncomputable def bh:ISs:=.cons (.ret (.bi .len (.cons (.fld (.var 0) 136762133858116729320171) (.nil)))) (.nil)
noncomputable def aL:ISs:=.cons (.ret (.chain .LtE .Lt (.con (.int 0)) (.var 1) (.meth (.var 0) 31081607400 (.nil)))) (.nil)
noncomputable def br:ISs:=.cons (.ret (.cmp .In (.tup (.cons (.var 1) (.cons (.var 2) (.nil)))) (.fld (.var 0) 8355170983792620267))) (.nil)
noncomputable def bS:ISs:=.cons (.expr (.meth (.var 0) 119080781550527859766002 (.cons (.var 1) (.nil)))) (.cons (.ret (.ix (.fld (.var 0) 136762133858116729320171) (.var 1))) (.nil))
noncomputable def b8:ISs:=.cons (.expr (.meth (.var 0) 135562951883986971505394 (.cons (.var 1) (.cons (.var 2) (.nil))))) (.cons (.ifs (.not (.val (.meth (.var 0) 535528667410664 (.cons (.var 1) (.cons (.var 2) (.nil)))))) (.cons (.raise 3 (.cons (.con (.str "no way leads from the one hand to the other")) (.nil))) (.nil)) (.nil)) (.cons (.ret (.ix (.fld (.var 0) 8355170983792620267) (.tup (.cons (.var 1) (.cons (.var 2) (.nil)))))) (.nil)))
noncomputable def bU:ISs:=.cons (.ret (.bi .strL (.cons (.var 0) (.nil)))) (.nil)
noncomputable def cU:ISs:=.cons (.ret (.bm .join (.con (.str " ")) (.cons (.comp true ["number"] [none] (.name 0) (.seq (.var 0)) (.no) (.call 11 (.cons (.var 0) (.nil)))) (.nil)))) (.nil)
noncomputable def cB:ISs:=.cons (.ret (.bin .Add (.con (.str "clock ")) (.call 12 (.cons (.lst true (.cons (.ix (.var 0) (.con (.int 0))) (.cons (.ix (.var 0) (.con (.int 1))) (.nil)))) (.nil))))) (.nil)
noncomputable def cK:ISs:=.cons (.set 3 (.ifx (.cmp .Is (.ix (.var 2) (.con (.int 1))) (.con .non)) (.con (.str "any")) (.call 11 (.cons (.ix (.var 2) (.con (.int 1))) (.nil))))) (.cons (.ret (.bin .Add (.bin .Add (.bin .Add (.con (.str "way ")) (.call 12 (.cons (.lst true (.cons (.var 0) (.cons (.var 1) (.cons (.ix (.var 2) (.con (.int 0))) (.nil))))) (.nil)))) (.con (.str " "))) (.var 3))) (.nil))
noncomputable def b9:ISs:=.cons (.expr (.bm .extend (.var 2) (.cons (.comp true ["other","one","world"] [none,some 3,some 0] (.name 0) (.seq (.var 1)) (.yes (.val (.meth (.var 2) 535528667410664 (.cons (.var 1) (.cons (.var 0) (.nil)))))) (.call 14 (.cons (.var 1) (.cons (.var 0) (.cons (.meth (.var 2) 1994999 (.cons (.var 1) (.cons (.var 0) (.nil)))) (.nil)))))) (.nil)))) (.nil)
noncomputable def cF:ISs:=.cons (.set 1 (.lrng true (.meth (.var 0) 31081607400 (.nil)))) (.cons (.set 2 (.comp false ["hand","world"] [none,some 0] (.name 0) (.seq (.var 1)) (.no) (.call 13 (.cons (.meth (.var 1) 28932044387 (.cons (.var 0) (.nil))) (.nil))))) (.cons (.for_ (.name 3) (.seq (.var 1)) b9) (.cons (.ret (.bm .join (.con (.str "; ")) (.cons (.var 2) (.nil)))) (.nil))))
noncomputable def aZ:ISs:=.cons (.ifs (.not (.val (.isB (.var 0) .str))) (.cons (.raise 4 (.cons (.con (.str "this is no text")) (.nil))) (.nil)) (.nil)) (.nil)
noncomputable def bR:ISs:=.cons (.ret (.and (.chain .Lt .LtE (.con (.int 0)) (.bi .len (.cons (.var 0) (.nil))) (.glo 2)) (.bi .all (.cons (.comp true ["sign"] [none] (.name 0) (.seq (.var 0)) (.no) (.cmp .In (.var 0) (.glo 1))) (.nil))))) (.nil)
noncomputable def bn:ISs:=.cons (.expr (.call 16 (.cons (.var 0) (.nil)))) (.cons (.set 1 (.ifx (.val (.bm .startswith (.var 0) (.cons (.con (.str "-")) (.nil)))) (.sl true (.var 0) (.yes (.con (.int 1))) (.no)) (.var 0))) (.cons (.ifs (.not (.val (.call 17 (.cons (.var 1) (.nil))))) (.cons (.raise 4 (.cons (.con (.str "a number is written by one to a thousand figures")) (.nil))) (.nil)) (.nil)) (.cons (.ifs (.and (.cmp .Eq (.ix (.var 1) (.con (.int 0))) (.con (.str "0"))) (.cmp .NotEq (.var 0) (.con (.str "0")))) (.cons (.raise 4 (.cons (.con (.str "a nought stands ahead, or a sign ahead of nought")) (.nil))) (.nil)) (.nil)) (.cons (.ret (.bi .int (.cons (.var 0) (.nil)))) (.nil)))))
noncomputable def bM:ISs:=.cons (.expr (.call 16 (.cons (.var 0) (.nil)))) (.cons (.ret (.ifx (.cmp .Eq (.var 0) (.con (.str ""))) (.lst true (.nil)) (.bm .split (.var 0) (.cons (.var 1) (.nil))))) (.nil))
noncomputable def cx:ISs:=.cons (.ret (.tup (.cons (.call 18 (.cons (.ix (.var 0) (.con (.int 1))) (.nil))) (.cons (.call 18 (.cons (.ix (.var 0) (.con (.int 2))) (.nil))) (.nil))))) (.nil)
noncomputable def bP:ISs:=.cons (.set 1 (.ifx (.cmp .Eq (.ix (.var 0) (.con (.int 4))) (.con (.str "any"))) (.con .non) (.call 18 (.cons (.ix (.var 0) (.con (.int 4))) (.nil))))) (.cons (.ret (.tup (.cons (.call 18 (.cons (.ix (.var 0) (.con (.int 1))) (.nil))) (.cons (.call 18 (.cons (.ix (.var 0) (.con (.int 2))) (.nil))) (.cons (.call 18 (.cons (.ix (.var 0) (.con (.int 3))) (.nil))) (.cons (.var 1) (.nil))))))) (.nil))
noncomputable def cf:ISs:=.cons (.set 4 (.bm .split (.var 3) (.cons (.con (.str " ")) (.nil)))) (.cons (.ifs (.and (.cmp .Eq (.ix (.var 4) (.con (.int 0))) (.con (.str "clock"))) (.and (.cmp .Eq (.bi .len (.cons (.var 4) (.nil))) (.con (.int 3))) (.cmp .Eq (.bi .len (.cons (.var 2) (.nil))) (.con (.int 0))))) (.cons (.app (.var 1) (.call 20 (.cons (.var 4) (.nil)))) (.nil)) (.cons (.ifs (.and (.cmp .Eq (.ix (.var 4) (.con (.int 0))) (.con (.str "way"))) (.cmp .Eq (.bi .len (.cons (.var 4) (.nil))) (.con (.int 5)))) (.cons (.app (.var 2) (.call 21 (.cons (.var 4) (.nil)))) (.nil)) (.cons (.raise 4 (.cons (.con (.str "this is neither a clock ahead of all ways nor a way")) (.nil))) (.nil))) (.nil))) (.nil))
noncomputable def bB:ISs:=.cons (.set 1 (.lst false (.nil))) (.cons (.set 2 (.lst false (.nil))) (.cons (.for_ (.name 3) (.seq (.call 19 (.cons (.var 0) (.cons (.con (.str "; ")) (.nil))))) cf) (.cons (.ifs (.cmp .Eq (.bi .len (.cons (.var 1) (.nil))) (.con (.int 0))) (.cons (.raise 4 (.cons (.con (.str "a world has a clock")) (.nil))) (.nil)) (.nil)) (.cons (.ret (.make true 0 (.cons (.frz (.var 1)) (.cons (.frz (.var 2)) (.nil))))) (.nil)))))
noncomputable def bo:ISs:=.cons (.ifs (.cmp .Lt (.var 1) (.bi .len (.cons (.var 0) (.nil)))) (.cons (.ret (.ix (.var 0) (.var 1))) (.nil)) (.nil)) (.cons (.ret (.con (.int 0))) (.nil))
noncomputable def aQ:ISs:=.cons (.ifs (.cmp .Eq (.bin .Mod (.var 0) (.con (.int 4))) (.con (.int 0))) (.cons (.ret (.bin .Mod (.bin .FloorDiv (.var 0) (.con (.int 4))) (.con (.int 5)))) (.nil)) (.nil)) (.cons (.ifs (.cmp .Eq (.bin .Mod (.var 0) (.con (.int 4))) (.con (.int 1))) (.cons (.ret (.bin .Mod (.bin .FloorDiv (.var 0) (.con (.int 4))) (.con (.int 1000)))) (.nil)) (.nil)) (.cons (.ifs (.cmp .Eq (.bin .Mod (.var 0) (.con (.int 4))) (.con (.int 2))) (.cons (.ret (.bin .Mult (.bin .FloorDiv (.var 0) (.con (.int 4))) (.bin .Add (.bin .Pow (.con (.int 10)) (.con (.int 21))) (.con (.int 7))))) (.nil)) (.nil)) (.cons (.ret (.con (.int 0))) (.nil))))
noncomputable def cQ:ISs:=.cons (.set 4 (.bin .Mod (.bin .Add (.bin .Add (.bin .Mult (.var 4) (.var 4)) (.bin .Mult (.con (.int 48271)) (.var 4))) (.var 7)) (.con (.int 2147483647)))) (.cons (.set 8 (.call 24 (.cons (.var 4) (.nil)))) (.cons (.set 9 (.bin .Add (.var 8) (.call 24 (.cons (.bin .FloorDiv (.var 4) (.con (.int 11))) (.nil))))) (.cons (.ifs (.cmp .Eq (.bin .Mod (.var 4) (.con (.int 5))) (.con (.int 0))) (.cons (.set 9 (.con .non)) (.nil)) (.nil)) (.cons (.ifs (.and (.cmp .NotEq (.var 5) (.var 7)) (.cmp .Eq (.bin .Mod (.bin .FloorDiv (.var 4) (.con (.int 7))) (.con (.int 2))) (.con (.int 0)))) (.cons (.app (.var 3) (.tup (.cons (.var 5) (.cons (.var 7) (.cons (.var 8) (.cons (.var 9) (.nil))))))) (.nil)) (.nil)) (.nil)))))
noncomputable def cN:ISs:=.cons (.set 4 (.bin .Mod (.bin .Add (.bin .Add (.bin .Mult (.var 4) (.var 4)) (.bin .Mult (.con (.int 48271)) (.var 4))) (.var 5)) (.con (.int 2147483647)))) (.cons (.set 6 (.bin .Add (.con (.int 1)) (.call 24 (.cons (.var 4) (.nil))))) (.cons (.app (.var 2) (.tup (.cons (.var 6) (.cons (.bin .Add (.var 6) (.call 24 (.cons (.bin .FloorDiv (.var 4) (.con (.int 11))) (.nil)))) (.nil))))) (.cons (.for_ (.name 7) (.rng1 (.var 1)) cQ) (.nil))))
noncomputable def cX:ISs:=.cons (.set 1 (.bin .Add (.con (.int 1)) (.bin .Mod (.var 0) (.con (.int 6))))) (.cons (.set 2 (.lst false (.nil))) (.cons (.set 3 (.lst false (.nil))) (.cons (.set 4 (.bin .Mod (.bin .Mult (.bin .Add (.bin .Mod (.bin .FloorDiv (.var 0) (.con (.int 6))) (.con (.int 2147483647))) (.con (.int 7))) (.con (.int 48271))) (.con (.int 2147483647)))) (.cons (.for_ (.name 5) (.rng1 (.var 1)) cN) (.cons (.ret (.tup (.cons (.frz (.var 2)) (.cons (.frz (.var 3)) (.nil))))) (.nil))))))
noncomputable def cH:ISs:=.cons (.set 7 (.con (.str "any"))) (.cons (.ifs (.cmp .IsNot (.var 6) (.con .non)) (.cons (.set 7 (.bi .strL (.cons (.var 6) (.nil)))) (.nil)) (.nil)) (.cons (.app (.var 2) (.fst [.inl "way ",.inr 3,.inl " ",.inr 4,.inl " ",.inr 5,.inl " ",.inr 7])) (.nil)))
noncomputable def cZ:ISs:=.cons (.set 2 (.comp false ["_law_short","_law_long"] [none,none] (.tup [0,1]) (.seq (.var 0)) (.no) (.fst [.inl "clock ",.inr 0,.inl " ",.inr 1]))) (.cons (.for_ (.tup [3,4,5,6]) (.seq (.var 1)) cH) (.cons (.ret (.frz (.var 2))) (.nil)))
noncomputable def bg:ISs:=.cons (.set 5 (.con .non)) (.cons (.set 6 (.con .non)) (.cons (.ifs (.cmp .NotEq (.var 3) (.var 4)) (.cons (.try_ (.cons (.unp [5,6] (.meth (.var 0) 1994999 (.cons (.var 3) (.cons (.var 4) (.nil))))) (.nil)) (.cons 3 (none) (.cons (.set 5 (.con .non)) (.nil)) (.nil))) (.nil)) (.nil)) (.cons (.ifs (.cmp .IsNot (.var 5) (.con .non)) (.cons (.app (.var 2) (.tup (.cons (.var 3) (.cons (.var 4) (.cons (.var 5) (.cons (.var 6) (.nil))))))) (.nil)) (.nil)) (.nil))))
noncomputable def c6:ISs:=.cons (.for_ (.name 4) (.rng1 (.meth (.var 0) 31081607400 (.nil))) bg) (.nil)
noncomputable def dq:ISs:=.cons (.set 1 (.comp true ["_law_hand","_law_made"] [none,some 0] (.name 0) (.rng1 (.meth (.var 0) 31081607400 (.nil))) (.no) (.meth (.var 1) 28932044387 (.cons (.var 0) (.nil))))) (.cons (.set 2 (.lst false (.nil))) (.cons (.for_ (.name 3) (.rng1 (.meth (.var 0) 31081607400 (.nil))) c6) (.cons (.ret (.tup (.cons (.var 1) (.cons (.frz (.var 2)) (.nil))))) (.nil))))
noncomputable def aP:ISs:=.cons (.set 1 (.con (.str "made"))) (.cons (.try_ (.cons (.expr (.call 22 (.cons (.var 0) (.nil)))) (.nil)) (.cons 0 (some 2) (.cons (.set 1 (.con (.str "other"))) (.cons (.set 3 (.lst true (.cons (.isC (.var 2) 4) (.cons (.isC (.var 2) 1) (.cons (.isC (.var 2) 2) (.cons (.isC (.var 2) 3) (.nil))))))) (.cons (.ifs (.cmp .Eq (.sm (.comp true ["_law_mark"] [none] (.name 0) (.seqL (.var 3)) (.no) (.bi .int (.cons (.var 0) (.nil))))) (.con (.int 1))) (.cons (.set 1 (.ix (.lst true (.cons (.con (.str "text")) (.cons (.con (.str "hand")) (.cons (.con (.str "clock")) (.cons (.con (.str "way")) (.nil)))))) (.bm .index (.var 3) (.cons (.con (.bl true)) (.nil))))) (.nil)) (.nil)) (.nil)))) (.nil))) (.cons (.ret (.var 1)) (.nil)))
noncomputable def aj:ISs:=.cons (.set 2 (.bin .Mod (.bin .FloorDiv (.var 1) (.con (.int 16))) (.bi .len (.cons (.var 0) (.nil))))) (.cons (.set 3 (.bm .splitM (.ix (.var 0) (.var 2)) (.cons (.con (.str " ")) (.nil)))) (.cons (.set 4 (.bin .Mod (.bin .FloorDiv (.var 1) (.con (.int 200))) (.bi .len (.cons (.var 3) (.nil))))) (.cons (.set 5 (.bin .Mod (.var 1) (.con (.int 8)))) (.cons (.ifs (.cmp .Eq (.var 5) (.con (.int 0))) (.cons (.expr (.bm .insert (.var 3) (.cons (.var 4) (.cons (.con (.str "")) (.nil))))) (.nil)) (.nil)) (.cons (.ifs (.cmp .Eq (.var 5) (.con (.int 1))) (.cons (.set 3 (.cat false (.sl true (.var 3) (.no) (.yes (.var 4))) (.sl true (.var 3) (.yes (.bin .Add (.var 4) (.con (.int 1)))) (.no)))) (.nil)) (.nil)) (.cons (.ifs (.cmp .Eq (.var 5) (.con (.int 2))) (.cons (.app (.var 3) (.ix (.lst true (.cons (.con (.str "1")) (.cons (.con (.str "any")) (.cons (.con (.str "x")) (.nil))))) (.bin .Mod (.bin .FloorDiv (.var 1) (.con (.int 16))) (.con (.int 3))))) (.nil)) (.nil)) (.cons (.ifs (.cmp .Eq (.var 5) (.con (.int 3))) (.cons (.ixset (.var 3) (.con (.int 0)) (.ix (.lst true (.cons (.con (.str "hand")) (.cons (.con (.str "Clock")) (.cons (.con (.str "ways")) (.cons (.con (.str "")) (.nil)))))) (.bin .Mod (.bin .FloorDiv (.var 1) (.con (.int 16))) (.con (.int 4))))) (.nil)) (.nil)) (.cons (.ifs (.cmp .Eq (.var 5) (.con (.int 4))) (.cons (.ixset (.var 3) (.con (.int 1)) (.ix (.lst true (.cons (.con (.str "01")) (.cons (.con (.str "any")) (.cons (.con (.str "-0")) (.cons (.con (.str "+1")) (.cons (.con (.str "1.0")) (.nil))))))) (.bin .Mod (.bin .FloorDiv (.var 1) (.con (.int 16))) (.con (.int 5))))) (.nil)) (.nil)) (.cons (.ifs (.cmp .Lt (.var 5) (.con (.int 5))) (.cons (.ret (.bm .join (.con (.str "; ")) (.cons (.cat true (.cat true (.sl true (.var 0) (.no) (.yes (.var 2))) (.lst true (.cons (.bm .join (.con (.str " ")) (.cons (.var 3) (.nil))) (.nil)))) (.sl true (.var 0) (.yes (.bin .Add (.var 2) (.con (.int 1)))) (.no))) (.nil)))) (.nil)) (.nil)) (.cons (.ifs (.cmp .Eq (.var 5) (.con (.int 5))) (.cons (.ret (.bm .join (.con (.str "; ")) (.cons (.cat true (.var 0) (.lst true (.cons (.con (.str "way 0 1 0 any")) (.cons (.con (.str "clock 1 1")) (.nil))))) (.nil)))) (.nil)) (.nil)) (.cons (.ifs (.cmp .Eq (.var 5) (.con (.int 6))) (.cons (.ret (.ix (.lst true (.cons (.bm .join (.con (.str ";")) (.cons (.cat true (.var 0) (.lst true (.cons (.con (.str "clock 1 1")) (.nil)))) (.nil))) (.cons (.bin .Add (.bm .join (.con (.str "; ")) (.cons (.var 0) (.nil))) (.con (.str "; "))) (.cons (.bin .Add (.con (.str " ")) (.ix (.var 0) (.con (.int 0)))) (.nil))))) (.bin .Mod (.bin .FloorDiv (.var 1) (.con (.int 16))) (.con (.int 3))))) (.nil)) (.nil)) (.cons (.ret (.ix (.lst true (.cons (.con (.str "")) (.cons (.con (.str "way 0 1 0 any")) (.cons (.con .non) (.cons (.con (.int 7)) (.cons (.con (.str " ")) (.cons (.con (.str "clock 1 1; way 0 1 0 Any")) (.cons (.con (.str "clock any 1")) (.nil))))))))) (.bin .Mod (.bin .FloorDiv (.var 1) (.con (.int 16))) (.con (.int 7))))) (.nil)))))))))))))
noncomputable def am:ISs:=.cons (.set 3 (.bi .len (.cons (.var 0) (.nil)))) (.cons (.set 4 (.bin .Mod (.bin .FloorDiv (.var 2) (.con (.int 8))) (.bin .Pow (.con (.int 10)) (.con (.int 30))))) (.cons (.ifs (.cmp .Eq (.bin .Mod (.var 2) (.con (.int 8))) (.con (.int 0))) (.cons (.ret (.tup (.cons (.cat true (.var 0) (.rep true (.lst true (.cons (.tup (.cons (.con (.int 1)) (.cons (.con (.int 1)) (.nil)))) (.nil))) (.bin .Sub (.con (.int 7)) (.var 3)))) (.cons (.var 1) (.cons (.con (.str "hand")) (.nil)))))) (.nil)) (.nil)) (.cons (.ifs (.cmp .Eq (.bin .Mod (.var 2) (.con (.int 8))) (.con (.int 1))) (.cons (.ret (.tup (.cons (.cat true (.lst true (.cons (.tup (.cons (.bin .Sub (.con (.int 0)) (.var 4)) (.cons (.var 4) (.nil)))) (.nil))) (.sl true (.var 0) (.yes (.con (.int 1))) (.no))) (.cons (.var 1) (.cons (.con (.str "clock")) (.nil)))))) (.nil)) (.nil)) (.cons (.ifs (.cmp .Eq (.bin .Mod (.var 2) (.con (.int 8))) (.con (.int 2))) (.cons (.ret (.tup (.cons (.cat true (.sl true (.var 0) (.no) (.yes (.neg (.con (.int 1))))) (.lst true (.cons (.tup (.cons (.bin .Add (.var 4) (.con (.int 2))) (.cons (.bin .Add (.var 4) (.con (.int 1))) (.nil)))) (.nil)))) (.cons (.var 1) (.cons (.con (.str "clock")) (.nil)))))) (.nil)) (.nil)) (.cons (.ifs (.cmp .Eq (.bin .Mod (.var 2) (.con (.int 8))) (.con (.int 3))) (.cons (.ret (.tup (.cons (.var 0) (.cons (.cat true (.var 1) (.lst true (.cons (.tup (.cons (.con (.int 0)) (.cons (.bin .Add (.var 3) (.var 4)) (.cons (.con (.int 0)) (.cons (.con .non) (.nil)))))) (.nil)))) (.cons (.con (.str "hand")) (.nil)))))) (.nil)) (.nil)) (.cons (.ifs (.cmp .Eq (.bin .Mod (.var 2) (.con (.int 8))) (.con (.int 4))) (.cons (.ret (.tup (.cons (.var 0) (.cons (.cat true (.lst true (.cons (.tup (.cons (.bin .Sub (.neg (.con (.int 1))) (.var 4)) (.cons (.con (.int 0)) (.cons (.con (.int 0)) (.cons (.con (.int 5)) (.nil)))))) (.nil))) (.var 1)) (.cons (.con (.str "hand")) (.nil)))))) (.nil)) (.nil)) (.cons (.ifs (.cmp .Eq (.bin .Mod (.var 2) (.con (.int 8))) (.con (.int 5))) (.cons (.ret (.tup (.cons (.var 0) (.cons (.cat true (.lst true (.cons (.tup (.cons (.con (.int 0)) (.cons (.con (.int 0)) (.cons (.neg (.con (.int 1))) (.cons (.con (.int 5)) (.nil)))))) (.nil))) (.var 1)) (.cons (.con (.str "hand")) (.nil)))))) (.nil)) (.nil)) (.cons (.ifs (.cmp .Eq (.var 3) (.con (.int 1))) (.cons (.ret (.tup (.cons (.var 0) (.cons (.lst true (.nil)) (.cons (.con (.str "made")) (.nil)))))) (.nil)) (.nil)) (.cons (.ifs (.cmp .Eq (.bin .Mod (.var 2) (.con (.int 8))) (.con (.int 6))) (.cons (.ret (.tup (.cons (.var 0) (.cons (.cat true (.var 1) (.lst true (.cons (.tup (.cons (.con (.int 0)) (.cons (.con (.int 1)) (.cons (.con (.int 1)) (.cons (.con (.int 1)) (.nil)))))) (.cons (.tup (.cons (.con (.int 0)) (.cons (.con (.int 1)) (.cons (.con (.int 2)) (.cons (.con .non) (.nil)))))) (.nil))))) (.cons (.con (.str "way")) (.nil)))))) (.nil)) (.nil)) (.cons (.ret (.tup (.cons (.var 0) (.cons (.cat true (.lst true (.cons (.tup (.cons (.con (.int 0)) (.cons (.con (.int 1)) (.cons (.bin .Add (.var 4) (.con (.int 1))) (.cons (.var 4) (.nil)))))) (.nil))) (.var 1)) (.cons (.con (.str "way")) (.nil)))))) (.nil)))))))))))
noncomputable def jD:ISs:=.cons (.set 7 (.call 22 (.cons (.bm .join (.con (.str "; ")) (.cons (.call 26 (.cons (.var 1) (.cons (.var 6) (.nil)))) (.nil))) (.nil)))) (.cons (.ifs (.or (.not (.val (.isK (.var 7) 0))) (.cmp .NotEq (.call 27 (.cons (.var 7) (.nil))) (.tup (.cons (.var 1) (.cons (.var 2) (.nil)))))) (.cons (.ret (.con (.bl false))) (.nil)) (.nil)) (.nil))
noncomputable def iW:ISs:=.cons (.ifs (.cmp .NotEq (.call 28 (.cons (.call 29 (.cons (.call 26 (.cons (.var 1) (.cons (.var 2) (.nil)))) (.cons (.var 8) (.nil)))) (.nil))) (.con (.str "text"))) (.cons (.ret (.con (.bl false))) (.nil)) (.nil)) (.cons (.set 9 (.call 30 (.cons (.var 1) (.cons (.var 2) (.cons (.bin .FloorDiv (.var 8) (.con (.int 3))) (.nil)))))) (.cons (.ifs (.cmp .NotEq (.call 28 (.cons (.bm .join (.con (.str "; ")) (.cons (.call 26 (.cons (.ix (.var 9) (.con (.int 0))) (.cons (.ix (.var 9) (.con (.int 1))) (.nil)))) (.nil))) (.nil))) (.ix (.var 9) (.con (.int 2)))) (.cons (.ret (.con (.bl false))) (.nil)) (.nil)) (.nil)))
noncomputable def p6:ISs:=.cons (.unp [1,2] (.call 25 (.cons (.call 23 (.cons (.var 0) (.cons (.con (.int 0)) (.nil)))) (.nil)))) (.cons (.set 3 (.make true 0 (.cons (.bi (.list true) (.cons (.var 1) (.nil))) (.cons (.bi (.list true) (.cons (.rev true (.var 2)) (.nil))) (.nil))))) (.cons (.set 4 (.call 15 (.cons (.var 3) (.nil)))) (.cons (.ifs (.or (.not (.val (.isB (.var 4) .str))) (.cmp .NotEq (.var 4) (.bm .join (.con (.str "; ")) (.cons (.call 26 (.cons (.var 1) (.cons (.var 2) (.nil)))) (.nil))))) (.cons (.ret (.con (.bl false))) (.nil)) (.nil)) (.cons (.set 5 (.bin .Mod (.call 23 (.cons (.var 0) (.cons (.con (.int 1)) (.nil)))) (.bin .Add (.con (.int 1)) (.bi .len (.cons (.var 2) (.nil)))))) (.cons (.for_ (.name 6) (.seq (.lst true (.cons (.var 2) (.cons (.rev true (.var 2)) (.cons (.cat true (.sl true (.var 2) (.yes (.var 5)) (.no)) (.sl true (.var 2) (.no) (.yes (.var 5)))) (.nil)))))) jD) (.cons (.for_ (.name 8) (.seq (.sl true (.var 0) (.yes (.con (.int 2))) (.yes (.con (.int 14))))) iW) (.cons (.ret (.con (.bl true))) (.nil))))))))
noncomputable def jH:FL:={name:="refuse_clock",qual:="refuse_clock",glob:=true,cl:=true,st:=top 8,N:=["short","long"],ps:=["short","long"],body:=bA}
noncomputable def gA:FL:={name:="refuse_lengths",qual:="refuse_lengths",glob:=true,cl:=true,st:=top 9,N:=["least","most"],ps:=["least","most"],body:=bb}
noncomputable def jy:FL:={name:="__init__",qual:="World.__init__",glob:=false,cl:=false,st:=ao (top 10) 0,N:=["self","clocks","ways","short","long","one","other","least","most"],ps:=["self","clocks","ways"],body:=aO}
noncomputable def gm:FL:={name:="enter_way",qual:="World.enter_way",glob:=false,cl:=true,st:=ao (top 10) 1,N:=["self","one","other","least","most"],ps:=["self","one","other","least","most"],body:=aT}
noncomputable def eS:FL:={name:="refuse_hand",qual:="World.refuse_hand",glob:=false,cl:=true,st:=ao (top 10) 2,N:=["self","hand"],ps:=["self","hand"],body:=aA}
noncomputable def eR:FL:={name:="refuse_pair",qual:="World.refuse_pair",glob:=false,cl:=true,st:=ao (top 10) 3,N:=["self","one","other"],ps:=["self","one","other"],body:=aB}
noncomputable def j4:FL:={name:="hands",qual:="World.hands",glob:=false,cl:=true,st:=ao (top 10) 4,N:=["self"],ps:=["self"],body:=bh}
noncomputable def gN:FL:={name:="has_hand",qual:="World.has_hand",glob:=false,cl:=true,st:=ao (top 10) 5,N:=["self","hand"],ps:=["self","hand"],body:=aL}
noncomputable def im:FL:={name:="has_way",qual:="World.has_way",glob:=false,cl:=true,st:=ao (top 10) 6,N:=["self","one","other"],ps:=["self","one","other"],body:=br}
noncomputable def jL:FL:={name:="clock",qual:="World.clock",glob:=false,cl:=true,st:=ao (top 10) 7,N:=["self","hand"],ps:=["self","hand"],body:=bS}
noncomputable def mf:FL:={name:="way",qual:="World.way",glob:=false,cl:=true,st:=ao (top 10) 8,N:=["self","one","other"],ps:=["self","one","other"],body:=b8}
noncomputable def jM:FL:={name:="show_number",qual:="show_number",glob:=true,cl:=true,st:=top 14,N:=["number"],ps:=["number"],body:=bU}
noncomputable def mG:FL:={name:="show_list",qual:="show_list",glob:=true,cl:=true,st:=top 15,N:=["numbers"],ps:=["numbers"],body:=cU}
noncomputable def lT:FL:={name:="show_clock",qual:="show_clock",glob:=true,cl:=true,st:=top 16,N:=["clock"],ps:=["clock"],body:=cB}
noncomputable def nZ:FL:={name:="show_way",qual:="show_way",glob:=true,cl:=true,st:=top 17,N:=["one","other","way","most"],ps:=["one","other","way"],body:=cK}
noncomputable def lB:FL:={name:="show_world",qual:="show_world",glob:=true,cl:=true,st:=top 18,N:=["world","hands","parts","one"],ps:=["world"],body:=cF}
noncomputable def jz:FL:={name:="refuse_other",qual:="refuse_other",glob:=true,cl:=true,st:=top 19,N:=["text"],ps:=["text"],body:=aZ}
noncomputable def j0:FL:={name:="are_figures",qual:="are_figures",glob:=true,cl:=true,st:=top 20,N:=["text"],ps:=["text"],body:=bR}
noncomputable def jW:FL:={name:="read_number",qual:="read_number",glob:=true,cl:=true,st:=top 21,N:=["text","figures"],ps:=["text"],body:=bn}
noncomputable def oV:FL:={name:="parts_of",qual:="parts_of",glob:=true,cl:=true,st:=top 22,N:=["text","sign"],ps:=["text","sign"],body:=bM}
noncomputable def lb:FL:={name:="read_clock",qual:="read_clock",glob:=true,cl:=true,st:=top 23,N:=["words"],ps:=["words"],body:=cx}
noncomputable def oz:FL:={name:="read_way",qual:="read_way",glob:=true,cl:=true,st:=top 24,N:=["words","most"],ps:=["words"],body:=bP}
noncomputable def lh:FL:={name:="read_world",qual:="read_world",glob:=true,cl:=true,st:=top 25,N:=["text","clocks","ways","part","words"],ps:=["text"],body:=bB}
noncomputable def jR:FL:={name:="_law_cell_at",qual:="_law_cell_at",glob:=true,cl:=true,st:=top 27,N:=["_law_script","_law_k"],ps:=["_law_script","_law_k"],body:=bo}
noncomputable def l5:FL:={name:="_law_amount",qual:="_law_amount",glob:=true,cl:=true,st:=top 28,N:=["_law_number"],ps:=["_law_number"],body:=aQ}
noncomputable def mW:FL:={name:="_law_world",qual:="_law_world",glob:=true,cl:=true,st:=top 29,N:=["_law_cell","_law_hands","_law_clocks","_law_ways","_law_number","_law_one","_law_short","_law_other","_law_least","_law_most"],ps:=["_law_cell"],body:=cX}
noncomputable def ng:FL:={name:="_law_parts",qual:="_law_parts",glob:=true,cl:=true,st:=top 30,N:=["_law_clocks","_law_ways","_law_parts_here","_law_one","_law_other","_law_least","_law_most","_law_word_here"],ps:=["_law_clocks","_law_ways"],body:=cZ}
noncomputable def pk:FL:={name:="_law_told",qual:="_law_told",glob:=true,cl:=true,st:=top 31,N:=["_law_made","_law_clocks","_law_ways","_law_one","_law_other","_law_least","_law_most"],ps:=["_law_made"],body:=dq}
noncomputable def oy:FL:={name:="_law_word",qual:="_law_word",glob:=true,cl:=true,st:=top 32,N:=["_law_text","_law_word_here","e","_law_marks"],ps:=["_law_text"],body:=aP}
noncomputable def gB:FL:={name:="_law_ill_formed",qual:="_law_ill_formed",glob:=true,cl:=true,st:=top 33,N:=["_law_parts_here","_law_cell","_law_part","_law_words","_law_at","_law_kind"],ps:=["_law_parts_here","_law_cell"],body:=aj}
noncomputable def jG:FL:={name:="_law_no_world",qual:="_law_no_world",glob:=true,cl:=true,st:=top 34,N:=["_law_clocks","_law_ways","_law_cell","_law_hands","_law_far"],ps:=["_law_clocks","_law_ways","_law_cell"],body:=am}
noncomputable def l_law:FL:={name:="law",qual:="law",glob:=true,cl:=true,st:=top 35,N:=["_law_script","_law_clocks","_law_ways","_law_made","_law_shown","_law_cut_at","_law_some","_law_found","_law_cell","_law_odd"],ps:=["_law_script"],body:=p6}
noncomputable def L:List FL:=[jH,gA,jy,gm,eS,eR,j4,gN,im,jL,mf,jM,mG,lT,nZ,lB,jz,j0,jW,oV,lb,oz,lh,jR,l5,mW,ng,pk,oy,gB,jG,l_law]
noncomputable def xinT:List (Nat×Nat):=[]
noncomputable def nm:NM:=⟨["DriftError","NoHand","NoClock","NoWay","NoText"],["World"],["MOST_HANDS","FIGURES","MOST_FIGURES"],xinT⟩
noncomputable def xin(i:Nat):Option Nat:=xinT.lookup i
noncomputable def subT:List (List Bool):=[[true,false,false,false,false],[true,true,false,false,false],[true,false,true,false,false],[true,false,false,true,false],[true,false,false,false,true]]
noncomputable def sub(i j:Nat):Bool:=(subT.getD i []).getD j false
noncomputable def ksubT:List (List Bool):=[[true]]
noncomputable def ksub(i j:Nat):Bool:=(ksubT.getD i []).getD j false
noncomputable def fokT:List (List Nat):=[[136762133858116729320171,8355170983792620267]]
noncomputable def fok(i f:Nat):Bool:=(fokT.getD i []).contains f
noncomputable def mthT:List (List (Nat×Nat)):=[[(28932044387,9),(8774101686596482917,3),(31081607400,6),(56782141471387880,7),(535528667410664,8),(119080781550527859766002,4),(135562951883986971505394,5),(1994999,10)]]
noncomputable def mth(i m:Nat):Option Nat:=(mthT.getD i []).lookup m
noncomputable def BV:List Nat:=[2]
noncomputable def ini(i:Nat):Option Nat:=BV[i]?
noncomputable def gloT:List D:=[.int 6,.str "0123456789",.int 1000]
noncomputable def glo(k:Nat):D:=gloT.getD k .non
noncomputable def B(cls kls fad:Nat->Addr):WB:={ne:=5,cls:=cls,sub:=sub,nk:=1,kls:=kls,ksub:=ksub,fok:=fok,mth:=mth,ini:=ini,xin:=xin,glo:=glo,fad:=fad}
section
variable {cls kls fad:Nat->Addr}
@[simp] theorem Hj:(B cls kls fad).ne=5:=rfl
@[simp] theorem Gj:(B cls kls fad).cls=cls:=rfl
@[simp] theorem GN:(B cls kls fad).sub=sub:=rfl
@[simp] theorem Ha:(B cls kls fad).nk=1:=rfl
@[simp] theorem Gy:(B cls kls fad).kls=kls:=rfl
@[simp] theorem E8:(B cls kls fad).ksub=ksub:=rfl
@[simp] theorem GF:(B cls kls fad).fok=fok:=rfl
@[simp] theorem GL:(B cls kls fad).mth=mth:=rfl
@[simp] theorem GB:(B cls kls fad).ini=ini:=rfl
@[simp] theorem Gx:(B cls kls fad).glo=glo:=rfl
end
@[simp] theorem DQ:sub 1 0=true:=rfl
@[simp] theorem DR:sub 1 1=true:=rfl
@[simp] theorem D4:sub 1 2=false:=rfl
@[simp] theorem Ds:sub 1 3=false:=rfl
@[simp] theorem D0:sub 1 4=false:=rfl
@[simp] theorem DI:sub 2 0=true:=rfl
@[simp] theorem Eh:sub 2 1=false:=rfl
@[simp] theorem Du:sub 2 2=true:=rfl
@[simp] theorem Ea:sub 2 3=false:=rfl
@[simp] theorem DY:sub 2 4=false:=rfl
@[simp] theorem D7:sub 3 0=true:=rfl
@[simp] theorem Ed:sub 3 1=false:=rfl
@[simp] theorem Eg:sub 3 2=false:=rfl
@[simp] theorem DH:sub 3 3=true:=rfl
@[simp] theorem Dl:sub 3 4=false:=rfl
@[simp] theorem DZ:sub 4 0=true:=rfl
@[simp] theorem Do:sub 4 1=false:=rfl
@[simp] theorem DM:sub 4 2=false:=rfl
@[simp] theorem Dp:sub 4 3=false:=rfl
@[simp] theorem DK:sub 4 4=true:=rfl
@[simp] theorem p4:fok 0 136762133858116729320171=true:=by decide
@[simp] theorem rL:fok 0 8355170983792620267=true:=by decide
@[simp] theorem Gi:ini 0=some 2:=rfl
@[simp] theorem GJ:glo 0=.int 6:=rfl
@[simp] theorem Gv:glo 1=.str "0123456789":=rfl
@[simp] theorem GD:glo 2=.int 1000:=rfl
noncomputable def T:List FB:=[⟨2,2,true,bA,[]⟩,⟨2,2,true,bb,[]⟩,⟨3,9,false,aO,[]⟩,⟨5,5,true,aT,[]⟩,⟨2,2,true,aA,[]⟩,⟨3,3,true,aB,[]⟩,⟨1,1,true,bh,[]⟩,⟨2,2,true,aL,[]⟩,⟨3,3,true,br,[]⟩,⟨2,2,true,bS,[]⟩,⟨3,3,true,b8,[]⟩,⟨1,1,true,bU,[]⟩,⟨1,1,true,cU,[]⟩,⟨1,1,true,cB,[]⟩,⟨3,4,true,cK,[]⟩,⟨1,4,true,cF,[]⟩,⟨1,1,true,aZ,[]⟩,⟨1,1,true,bR,[]⟩,⟨1,2,true,bn,[]⟩,⟨2,2,true,bM,[]⟩,⟨1,1,true,cx,[]⟩,⟨1,2,true,bP,[]⟩,⟨1,5,true,bB,[]⟩,⟨2,2,true,bo,[]⟩,⟨1,1,true,aQ,[]⟩,⟨1,10,true,cX,[]⟩,⟨2,8,true,cZ,[]⟩,⟨1,7,true,dq,[]⟩,⟨1,4,true,aP,[]⟩,⟨2,6,true,aj,[]⟩,⟨3,5,true,am,[]⟩,⟨1,10,true,p6,[]⟩]
theorem FT:L.map FL.fb=T:=rfl
section
variable {B:WB}{M:MH}{Q:VK3}{E:XN}{n:Nat}
theorem jc{x0 x1:D}:aa T B (n+1) 0 [x0,x1] M Q E=au {toWB:=B,call:=aa T B n} bA {nx:=λ_ M'=>Q .non (ac M M'),rt:=λv M'=>Q v (ac M M')} (λ_ i M'=>E i (ac M M')) [some x0,some x1] M:=propext ⟨λh=>h.2,λh=>⟨rfl,h⟩⟩
theorem gR{x0 x1:D}:aa T B (n+1) 1 [x0,x1] M Q E=au {toWB:=B,call:=aa T B n} bb {nx:=λ_ M'=>Q .non (ac M M'),rt:=λv M'=>Q v (ac M M')} (λ_ i M'=>E i (ac M M')) [some x0,some x1] M:=propext ⟨λh=>h.2,λh=>⟨rfl,h⟩⟩
theorem cM{x0 x1 x2:D}:aa T B (n+1) 2 [x0,x1,x2] M Q E=au {toWB:=B,call:=aa T B n} aO {nx:=λ_ M'=>Q .non M',rt:=λv M'=>Q v M'} (λ_ i M'=>E i (ac M M')) [some x0,some x1,some x2,none,none,none,none,none,none] M:=propext ⟨λh=>h.2,λh=>⟨rfl,h⟩⟩
theorem gt{x0 x1 x2 x3 x4:D}:aa T B (n+1) 3 [x0,x1,x2,x3,x4] M Q E=au {toWB:=B,call:=aa T B n} aT {nx:=λ_ M'=>Q .non (ac M M'),rt:=λv M'=>Q v (ac M M')} (λ_ i M'=>E i (ac M M')) [some x0,some x1,some x2,some x3,some x4] M:=propext ⟨λh=>h.2,λh=>⟨rfl,h⟩⟩
theorem cj{x0 x1:D}:aa T B (n+1) 4 [x0,x1] M Q E=au {toWB:=B,call:=aa T B n} aA {nx:=λ_ M'=>Q .non (ac M M'),rt:=λv M'=>Q v (ac M M')} (λ_ i M'=>E i (ac M M')) [some x0,some x1] M:=propext ⟨λh=>h.2,λh=>⟨rfl,h⟩⟩
theorem cg{x0 x1 x2:D}:aa T B (n+1) 5 [x0,x1,x2] M Q E=au {toWB:=B,call:=aa T B n} aB {nx:=λ_ M'=>Q .non (ac M M'),rt:=λv M'=>Q v (ac M M')} (λ_ i M'=>E i (ac M M')) [some x0,some x1,some x2] M:=propext ⟨λh=>h.2,λh=>⟨rfl,h⟩⟩
theorem fj{x0:D}:aa T B (n+1) 6 [x0] M Q E=au {toWB:=B,call:=aa T B n} bh {nx:=λ_ M'=>Q .non (ac M M'),rt:=λv M'=>Q v (ac M M')} (λ_ i M'=>E i (ac M M')) [some x0] M:=propext ⟨λh=>h.2,λh=>⟨rfl,h⟩⟩
theorem db{x0 x1:D}:aa T B (n+1) 7 [x0,x1] M Q E=au {toWB:=B,call:=aa T B n} aL {nx:=λ_ M'=>Q .non (ac M M'),rt:=λv M'=>Q v (ac M M')} (λ_ i M'=>E i (ac M M')) [some x0,some x1] M:=propext ⟨λh=>h.2,λh=>⟨rfl,h⟩⟩
theorem ij{x0 x1 x2:D}:aa T B (n+1) 8 [x0,x1,x2] M Q E=au {toWB:=B,call:=aa T B n} br {nx:=λ_ M'=>Q .non (ac M M'),rt:=λv M'=>Q v (ac M M')} (λ_ i M'=>E i (ac M M')) [some x0,some x1,some x2] M:=propext ⟨λh=>h.2,λh=>⟨rfl,h⟩⟩
theorem jO{x0 x1:D}:aa T B (n+1) 9 [x0,x1] M Q E=au {toWB:=B,call:=aa T B n} bS {nx:=λ_ M'=>Q .non (ac M M'),rt:=λv M'=>Q v (ac M M')} (λ_ i M'=>E i (ac M M')) [some x0,some x1] M:=propext ⟨λh=>h.2,λh=>⟨rfl,h⟩⟩
theorem g7{x0 x1 x2:D}:aa T B (n+1) 10 [x0,x1,x2] M Q E=au {toWB:=B,call:=aa T B n} b8 {nx:=λ_ M'=>Q .non (ac M M'),rt:=λv M'=>Q v (ac M M')} (λ_ i M'=>E i (ac M M')) [some x0,some x1,some x2] M:=propext ⟨λh=>h.2,λh=>⟨rfl,h⟩⟩
theorem jU{x0:D}:aa T B (n+1) 11 [x0] M Q E=au {toWB:=B,call:=aa T B n} bU {nx:=λ_ M'=>Q .non (ac M M'),rt:=λv M'=>Q v (ac M M')} (λ_ i M'=>E i (ac M M')) [some x0] M:=propext ⟨λh=>h.2,λh=>⟨rfl,h⟩⟩
theorem mV{x0:D}:aa T B (n+1) 12 [x0] M Q E=au {toWB:=B,call:=aa T B n} cU {nx:=λ_ M'=>Q .non (ac M M'),rt:=λv M'=>Q v (ac M M')} (λ_ i M'=>E i (ac M M')) [some x0] M:=propext ⟨λh=>h.2,λh=>⟨rfl,h⟩⟩
theorem lC{x0:D}:aa T B (n+1) 13 [x0] M Q E=au {toWB:=B,call:=aa T B n} cB {nx:=λ_ M'=>Q .non (ac M M'),rt:=λv M'=>Q v (ac M M')} (λ_ i M'=>E i (ac M M')) [some x0] M:=propext ⟨λh=>h.2,λh=>⟨rfl,h⟩⟩
theorem jj{x0 x1 x2:D}:aa T B (n+1) 14 [x0,x1,x2] M Q E=au {toWB:=B,call:=aa T B n} cK {nx:=λ_ M'=>Q .non (ac M M'),rt:=λv M'=>Q v (ac M M')} (λ_ i M'=>E i (ac M M')) [some x0,some x1,some x2,none] M:=propext ⟨λh=>h.2,λh=>⟨rfl,h⟩⟩
theorem lr{x0:D}:aa T B (n+1) 15 [x0] M Q E=au {toWB:=B,call:=aa T B n} cF {nx:=λ_ M'=>Q .non (ac M M'),rt:=λv M'=>Q v (ac M M')} (λ_ i M'=>E i (ac M M')) [some x0,none,none,none] M:=propext ⟨λh=>h.2,λh=>⟨rfl,h⟩⟩
theorem dO{x0:D}:aa T B (n+1) 16 [x0] M Q E=au {toWB:=B,call:=aa T B n} aZ {nx:=λ_ M'=>Q .non (ac M M'),rt:=λv M'=>Q v (ac M M')} (λ_ i M'=>E i (ac M M')) [some x0] M:=propext ⟨λh=>h.2,λh=>⟨rfl,h⟩⟩
theorem jV{x0:D}:aa T B (n+1) 17 [x0] M Q E=au {toWB:=B,call:=aa T B n} bR {nx:=λ_ M'=>Q .non (ac M M'),rt:=λv M'=>Q v (ac M M')} (λ_ i M'=>E i (ac M M')) [some x0] M:=propext ⟨λh=>h.2,λh=>⟨rfl,h⟩⟩
theorem eV{x0:D}:aa T B (n+1) 18 [x0] M Q E=au {toWB:=B,call:=aa T B n} bn {nx:=λ_ M'=>Q .non (ac M M'),rt:=λv M'=>Q v (ac M M')} (λ_ i M'=>E i (ac M M')) [some x0,none] M:=propext ⟨λh=>h.2,λh=>⟨rfl,h⟩⟩
theorem fM{x0 x1:D}:aa T B (n+1) 19 [x0,x1] M Q E=au {toWB:=B,call:=aa T B n} bM {nx:=λ_ M'=>Q .non (ac M M'),rt:=λv M'=>Q v (ac M M')} (λ_ i M'=>E i (ac M M')) [some x0,some x1] M:=propext ⟨λh=>h.2,λh=>⟨rfl,h⟩⟩
theorem l6{x0:D}:aa T B (n+1) 20 [x0] M Q E=au {toWB:=B,call:=aa T B n} cx {nx:=λ_ M'=>Q .non (ac M M'),rt:=λv M'=>Q v (ac M M')} (λ_ i M'=>E i (ac M M')) [some x0] M:=propext ⟨λh=>h.2,λh=>⟨rfl,h⟩⟩
theorem fx{x0:D}:aa T B (n+1) 21 [x0] M Q E=au {toWB:=B,call:=aa T B n} bP {nx:=λ_ M'=>Q .non (ac M M'),rt:=λv M'=>Q v (ac M M')} (λ_ i M'=>E i (ac M M')) [some x0,none] M:=propext ⟨λh=>h.2,λh=>⟨rfl,h⟩⟩
theorem ge{x0:D}:aa T B (n+1) 22 [x0] M Q E=au {toWB:=B,call:=aa T B n} bB {nx:=λ_ M'=>Q .non (ac M M'),rt:=λv M'=>Q v (ac M M')} (λ_ i M'=>E i (ac M M')) [some x0,none,none,none,none] M:=propext ⟨λh=>h.2,λh=>⟨rfl,h⟩⟩
theorem fg{x0 x1:D}:aa T B (n+1) 23 [x0,x1] M Q E=au {toWB:=B,call:=aa T B n} bo {nx:=λ_ M'=>Q .non (ac M M'),rt:=λv M'=>Q v (ac M M')} (λ_ i M'=>E i (ac M M')) [some x0,some x1] M:=propext ⟨λh=>h.2,λh=>⟨rfl,h⟩⟩
theorem cz{x0:D}:aa T B (n+1) 24 [x0] M Q E=au {toWB:=B,call:=aa T B n} aQ {nx:=λ_ M'=>Q .non (ac M M'),rt:=λv M'=>Q v (ac M M')} (λ_ i M'=>E i (ac M M')) [some x0] M:=propext ⟨λh=>h.2,λh=>⟨rfl,h⟩⟩
theorem mh{x0:D}:aa T B (n+1) 25 [x0] M Q E=au {toWB:=B,call:=aa T B n} cX {nx:=λ_ M'=>Q .non (ac M M'),rt:=λv M'=>Q v (ac M M')} (λ_ i M'=>E i (ac M M')) [some x0,none,none,none,none,none,none,none,none,none] M:=propext ⟨λh=>h.2,λh=>⟨rfl,h⟩⟩
theorem mx{x0 x1:D}:aa T B (n+1) 26 [x0,x1] M Q E=au {toWB:=B,call:=aa T B n} cZ {nx:=λ_ M'=>Q .non (ac M M'),rt:=λv M'=>Q v (ac M M')} (λ_ i M'=>E i (ac M M')) [some x0,some x1,none,none,none,none,none,none] M:=propext ⟨λh=>h.2,λh=>⟨rfl,h⟩⟩
theorem oE{x0:D}:aa T B (n+1) 27 [x0] M Q E=au {toWB:=B,call:=aa T B n} dq {nx:=λ_ M'=>Q .non (ac M M'),rt:=λv M'=>Q v (ac M M')} (λ_ i M'=>E i (ac M M')) [some x0,none,none,none,none,none,none] M:=propext ⟨λh=>h.2,λh=>⟨rfl,h⟩⟩
theorem bK{x0:D}:aa T B (n+1) 28 [x0] M Q E=au {toWB:=B,call:=aa T B n} aP {nx:=λ_ M'=>Q .non (ac M M'),rt:=λv M'=>Q v (ac M M')} (λ_ i M'=>E i (ac M M')) [some x0,none,none,none] M:=propext ⟨λh=>h.2,λh=>⟨rfl,h⟩⟩
theorem aq{x0 x1:D}:aa T B (n+1) 29 [x0,x1] M Q E=au {toWB:=B,call:=aa T B n} aj {nx:=λ_ M'=>Q .non (ac M M'),rt:=λv M'=>Q v (ac M M')} (λ_ i M'=>E i (ac M M')) [some x0,some x1,none,none,none,none] M:=propext ⟨λh=>h.2,λh=>⟨rfl,h⟩⟩
theorem av{x0 x1 x2:D}:aa T B (n+1) 30 [x0,x1,x2] M Q E=au {toWB:=B,call:=aa T B n} am {nx:=λ_ M'=>Q .non (ac M M'),rt:=λv M'=>Q v (ac M M')} (λ_ i M'=>E i (ac M M')) [some x0,some x1,some x2,none,none] M:=propext ⟨λh=>h.2,λh=>⟨rfl,h⟩⟩
theorem Dj{x0:D}:aa T B (n+1) 31 [x0] M Q E=au {toWB:=B,call:=aa T B n} p6 {nx:=λ_ M'=>Q .non (ac M M'),rt:=λv M'=>Q v (ac M M')} (λ_ i M'=>E i (ac M M')) [some x0,none,none,none,none,none,none,none,none,none] M:=propext ⟨λh=>h.2,λh=>⟨rfl,h⟩⟩
end
theorem top_mk{P:Params}{h:Heap}{mg:Str->Option Value}(X:(HD.K P).In h)(Gn:h.Ns mainGlobals mg)
  {qt0:Tok}
  (gl0:PySem.W.nsIn (HD.K P) mainGlobals "MOST_HANDS"=some (some (.int (6) qt0)))
  {qt1:Tok}
  (gl1:PySem.W.nsIn (HD.K P) mainGlobals "FIGURES"=some (some (.str "0123456789" qt1)))
  {qt2:Tok}
  (gl2:PySem.W.nsIn (HD.K P) mainGlobals "MOST_FIGURES"=some (some (.int (1000) qt2)))
  : ∃cls kls fad,Top P (HD.K P) mg L nm (B cls kls fad):=by
 refine⟨λi=>([24,37,49,61,73]:List Nat).getD i 0,λi=>([162]:List Nat).getD i 0,λi=>([82,89,103,110,117,124,131,138,145,152,159,173,178,185,192,197,204,209,216,223,230,237,244,251,258,265,270,275,280,287,294,301]:List Nat).getD i 0,Top.of (fT:=fokT) (mT:=mthT) (iT:=BV) X Gn (by kernel_rfl) (by kernel_rfl) (by kernel_rfl) (ixc (n2 (by intros;rfl)) (ixc (n2 (by intros;rfl)) (ixc (n3 (by intros;rfl)) (ixc (n5 (by intros;rfl)) (ixc (n2 (by intros;rfl)) (ixc (n3 (by intros;rfl)) (ixc (n1 (by intros;rfl)) (ixc (n2 (by intros;rfl)) (ixc (n3 (by intros;rfl)) (ixc (n2 (by intros;rfl)) (ixc (n3 (by intros;rfl)) (ixc (n1 (by intros;rfl)) (ixc (n1 (by intros;rfl)) (ixc (n1 (by intros;rfl)) (ixc (n3 (by intros;rfl)) (ixc (n1 (by intros;rfl)) (ixc (n1 (by intros;rfl)) (ixc (n1 (by intros;rfl)) (ixc (n1 (by intros;rfl)) (ixc (n2 (by intros;rfl)) (ixc (n1 (by intros;rfl)) (ixc (n1 (by intros;rfl)) (ixc (n1 (by intros;rfl)) (ixc (n2 (by intros;rfl)) (ixc (n1 (by intros;rfl)) (ixc (n1 (by intros;rfl)) (ixc (n2 (by intros;rfl)) (ixc (n1 (by intros;rfl)) (ixc (n1 (by intros;rfl)) (ixc (n2 (by intros;rfl)) (ixc (n3 (by intros;rfl)) (ixc (n1 (by intros;rfl)) (ixn))))))))))))))))))))))))))))))))) (by kernel_rfl) (by kernel_rfl) (by kernel_rfl) (by kernel_rfl) (λ_ _=>rfl) (λ_ _=>rfl) (λ_=>rfl) (by kernel_rfl) ?_ ?_ ?_ (CS (by kernel_rfl))⟩
 ·intro k x hi
  match k,hi with
  |0,hi=>cases hi;exact⟨_,.int (6),PySem.W.mg_of X Gn gl0,⟨_,rfl⟩,λH=>rfl⟩
  |1,hi=>cases hi;exact⟨_,.str "0123456789",PySem.W.mg_of X Gn gl1,⟨_,rfl⟩,λH=>rfl⟩
  |2,hi=>cases hi;exact⟨_,.int (1000),PySem.W.mg_of X Gn gl2,⟨_,rfl⟩,λH=>rfl⟩
  |n+3,hi=>simp[nm]at hi
 ·intro i f hx;cases (show ([]:List (Nat×Nat)).lookup i=some f from hx)
 ·intro i f hi hx;cases (show ([]:List (Nat×Nat)).lookup i=some f from hx)
end G
namespace G
open L2
section
variable {cls kls fad:Nat->PySem.Addr}{M:MH}{Q:VK3}{E:XN}{n:Nat}{p q d:PySem.Addr}{cl ds:List D}{ks:List (List Int)}
noncomputable abbrev fC:Nat:=136762133858116729320171
noncomputable abbrev fW:Nat:=8355170983792620267
structure Wd (kls:Nat->PySem.Addr)(M:MH)(p q d:PySem.Addr)(cl:List D) (ks:List (List Int)) (ds:List D):Prop where
 ip:M p=some (.ins 0 (kls 0) [fC,fW] [.ref q,.ref d])
 iq:M q=some (.lst cl)
 id:M d=some (.dt ks ds)
theorem BJ(h:Wd kls M p q d cl ks ds):fK (B cls kls fad) fC (.ref p) M Q=Q (.ref q) M:=by
 simp[fK,h.ip,jX,fC,fW]
theorem wn(h:Wd kls M p q d cl ks ds):fK (B cls kls fad) fW (.ref p) M Q=Q (.ref d) M:=by
 simp[fK,h.ip,jX,fC,fW]
theorem gM{m f:Nat}{R:Nat->Prop}(h:Wd kls M p q d cl ks ds)(hm:mth 0 m=some f)(h1:fC≠m)(h2:fW≠m):c8 (B cls kls fad) m (.ref p) M R=R f:=by
 simp[c8,h.ip,hm,h1,h2,jg]
theorem uX(h:Wd kls M p q d cl ks ds):aa T (B cls kls fad) (n+1) 6 [.ref p] M Q E=Q (.int cl.length) M:=by
 simp[fj,bh,BJ h];simp[rBi,ag,aN,h.iq]
theorem oO{i:Int}(h:Wd kls M p q d cl ks ds):aa T (B cls kls fad) (n+2) 7 [.ref p,.int i] M Q E=Q (.bl (decide (0<=i)&&decide (i < cl.length))) M:=by
 simp[db,aL];by_cases h0:0<=i
 ·simp[h0];rw[gM h (f:=6) (by decide) (by decide) (by decide),uX h]
  simp
 ·simp[h0]
noncomputable def okH(n:Nat)(i:Int):Bool:=decide (0<=i)&&decide (i < n)
theorem fh{i:Int}(h:Wd kls M p q d cl ks ds):aa T (B cls kls fad) (n+3) 4 [.ref p,.int i] M Q E=if okH cl.length i=true then Q .non M else E ⟨1,none⟩ M:=by
 simp[cj,aA];rw[gM h (f:=7) (by decide) (by decide) (by decide),oO h]
 unfold okH;cases (decide (0<=i)&&decide (i < (cl.length:Int)))<;>simp[af]
theorem jY{i j:Int}(h:Wd kls M p q d cl ks ds):aa T (B cls kls fad) (n+4) 5 [.ref p,.int i,.int j] M Q E=if okH cl.length i=true/\okH cl.length j=true/\i≠j then Q .non M else E ⟨1,none⟩ M:=by
 simp[cg,aB];rw[gM h (f:=4) (by decide) (by decide) (by decide),fh h]
 by_cases h1:okH cl.length i=true
 ·simp[h1];rw[gM h (f:=4) (by decide) (by decide) (by decide),fh h]
  by_cases h2:okH cl.length j=true
  ·simp[h2];by_cases h3:i=j<;>simp[h3,af]
  ·simp[h2]
 ·simp[h1]
noncomputable def fG(l:Int)(m:Option Int):Bool:=decide (l < 0)||(match m with|some m=>decide (m < l)|none=>false)
theorem qZ{l:Int}{m:Option Int}:aa T (B cls kls fad) (n+1) 1 [.int l,oi m] M Q E=if fG l m=true then E ⟨3,none⟩ M else Q .non M:=by
 simp[gR,bb];by_cases h1:l < 0
 ·simp[h1,fG,af]
 ·cases m with
  |none=>simp[h1,fG,oi]
  |some m=>
   simp[h1,fG,oi];by_cases h2:m < l<;>simp[h2,af]
noncomputable def gi(p:Int×Int):Bool:=decide (p.1 < 1)||decide (p.2 < p.1)
theorem pC{a b:Int}:aa T (B cls kls fad) (n+1) 0 [.int a,.int b] M Q E=if gi (a,b)=true then E ⟨2,none⟩ M else Q .non M:=by
 simp[jc,bA];by_cases h1:a < 1
 ·simp[h1,gi,af]
 ·by_cases h2:b < a<;>simp[h1,h2,gi,af]
theorem AT{i j:Int}(h:Wd kls M p q d cl ks ds)(hl:ks.length=ds.length):aU .In (.tup [.int i,.int j]) (.ref d) M Q=Q (.bl (decide ([i,j]∈ks))) M:=by
 have e:(getD ks ds [i,j]).isSome=decide ([i,j]∈ks):=by
  clear h
  induction ks generalizing ds with
  |nil=>cases ds<;>simp[getD]
  |cons k ks ih=>
   cases ds with
   |nil=>simp at hl
   |cons x ds=>
    simp only[getD];by_cases e:k=[i,j]
    ·simp[e]
    ·rw[if_neg e,ih (by simpa using hl)]
     simp[Ne.symm e]
 simp[aU,oW,aN,ag,h.id,lf,m9,jP,og,gY,e]
theorem nF{k:List Int}:∀{ks:List (List Int)},k∉ks->aK ks k=ks++[k]
 |[],_=>rfl
 |a::ks,h=>by
  have h1:a≠k:=λe=>h (by simp[e])
  have h2:k∉ks:=λe=>h (by simp[e])
  simp[aK,h1,nF h2]
noncomputable def way(l:Int)(m:Option Int):D:=.tup [.int l,oi m]
theorem vp{i j l:Int}{m:Option Int}(h:Wd kls M p q d cl ks ds)(hl:ks.length=ds.length)(hz:ks.length < 1000):aa T (B cls kls fad) (n+5) 3 [.ref p,.int i,.int j,.int l,oi m] M Q E =
  if okH cl.length i=true/\okH cl.length j=true/\i≠j then if [i,j]∈ks then E ⟨3,none⟩ M else if fG l m=true then E ⟨3,none⟩ M else Q .non (put M d (.dt (aK ks [i,j]) (bJ ks ds [i,j] (way l m)))) else E ⟨1,none⟩ M:=by
 have hs:ks.length < PySem.sizeLine:=Nat.lt_of_lt_of_le hz (by decide)
 simp[gt,aT];rw[gM h (f:=5) (by decide) (by decide) (by decide),jY h]
 by_cases h1:okH cl.length i=true/\okH cl.length j=true/\i≠j
 ·simp[h1,af];rw[show fK (B cls kls fad) 8355170983792620267 (.ref p) M _=_ from wn h];rw[AT h hl];by_cases h2:[i,j]∈ks
  ·simp[h2,af]
  ·simp[h2];rw[qZ];by_cases h3:fG l m=true
   ·simp[h3]
   ·simp[h3,af];rw[show fK (B cls kls fad) 8355170983792620267 (.ref p) M _=_ from wn h];simp[dA,h.id,og,gY,hs,uf h.id,way]
 ·have h1':¬ (okH cl.length i=true/\okH cl.length j=true/\¬ i=j):=h1;simp[h1']
noncomputable def cD(p:Int×Int):D:=.tup [.int p.1,.int p.2]
structure Wy where
 i:Int
 j:Int
 l:Int
 m:Option Int
noncomputable def wD(w:Wy):D:=.tup [.int w.i,.int w.j,.int w.l,oi w.m]
noncomputable def Wy.ok(n:Nat)(w:Wy):Prop:=okH n w.i=true/\okH n w.j=true/\w.i≠w.j
noncomputable instance {n:Nat}{w:Wy}:Decidable (w.ok n):=by unfold Wy.ok;exact inferInstance
noncomputable def c4(n:Nat):List (List Int)->List Wy->Nat
 |_,[]=>0
 |ks,w::r=>if w.ok n then if [w.i,w.j]∈ks then 3 else if fG w.l w.m=true then 3 else c4 n (ks++[[w.i,w.j]]) r else 1
theorem nJ{De:Ends3}{Ex:XN}{R:Prop}{x0 x1 x2 x5 x6 x7 x8:Option D}:∀(cks:List (Int×Int)) (x3 x4:Option D),(∀x y,De.nx [x0,x1,x2,x,y,x5,x6,x7,x8] M=R)->
  fm ⟨(B cls kls fad),aa T (B cls kls fad) (n+1)⟩ (.tup [3,4]) bv (λ_=>Ex) (λ_=>True) De (cks.map cD) [x0,x1,x2,x3,x4,x5,x6,x7,x8] M=if cks.any gi=true then Ex ⟨2,none⟩ M else R
 |[],x3,x4,hR=>by simp[bT,hR]
 |(c1,c2)::r,x3,x4,hR=>by
  have ih:=nJ (De:=De) (Ex:=Ex) (R:=R) (x0:=x0) (x1:=x1) (x2:=x2) (x5:=x5) (x6:=x6) (x7:=x7) (x8:=x8) r (some (.int c1)) (some (.int c2)) hR;rw[List.map_cons,bj];simp only[bv,cD]at ih ⊢;by_cases h:gi (c1,c2)=true
  ·rw[if_pos (by rw[List.any_cons,h];rfl)]
   simp[pC,h]
  ·have h':gi (c1,c2)=false:=by simpa using h
   rw[List.any_cons,h',Bool.false_or,<-ih];simp[pC,h']
noncomputable def out(R:Prop)(X:Nat->Prop):Nat->Prop
 |0=>R
 |i+1=>X (i+1)
noncomputable def pr(w:Wy):List Int:=[w.i,w.j]
noncomputable def wv(w:Wy):D:=way w.l w.m
theorem mr{k:List Int}{v:D}:∀{ks:List (List Int)}{ds:List D},ks.length=ds.length->k∉ks->bJ ks ds k v=ds++[v]
 |[],[],_,_=>rfl
 |x::ks,e::ds,hl,h=>by
  have h1:¬ x=k:=λz=>h (by simp[z])
  have ih:=mr (k:=k) (v:=v) (ks:=ks) (ds:=ds) (by simpa using hl) λz=>h (List.mem_cons_of_mem _ z)
  simp[bJ,h1,ih]
theorem kJ{Mb:MH}(hw:∀ks ds,Wd kls (put Mb d (.dt ks ds)) p q d cl ks ds){De:Ends3}{Ex:XN}{R:Prop}{X:Nat->Prop}(hX:∀i ks ds,Ex ⟨i,none⟩ (put Mb d (.dt ks ds))=X i){x1 x2 x3 x4:Option D}:∀(wy:List Wy) (ks:List (List Int)) (ds:List D)(x5 x6 x7 x8:Option D),ks.length=ds.length->ks.length+wy.length < 500->
  (∀x5 x6 x7 x8,De.nx [some (.ref p),x1,x2,x3,x4,x5,x6,x7,x8] (put Mb d (.dt (ks++wy.map pr) (ds++wy.map wv)))=R)->
  fm ⟨(B cls kls fad),aa T (B cls kls fad) (n+5)⟩ (.tup [5,6,7,8]) bD (λ_=>Ex) (λ_=>True) De (wy.map wD) [some (.ref p),x1,x2,x3,x4,x5,x6,x7,x8] (put Mb d (.dt ks ds))=out R X (c4 cl.length ks wy)
 |[],ks,ds,x5,x6,x7,x8,hl,hz,hR=>by
  have:=hR x5 x6 x7 x8;simp only[List.map_nil,List.append_nil]at this;simp[bT,this,c4,out]
 |w::r,ks,ds,x5,x6,x7,x8,hl,hz,hR=>by
  simp only[List.length_cons]at hz;have ih:[w.i,w.j]∉ks->_:=λhni=>kJ hw (De:=De) (Ex:=Ex) (R:=R) (X:=X) hX (x1:=x1) (x2:=x2) (x3:=x3) (x4:=x4) r (ks++[[w.i,w.j]]) (ds++[way w.l w.m]) (some (.int w.i)) (some (.int w.j)) (some (.int w.l)) (some (oi w.m)) (by simp[hl]) (by simp;omega) (λx5 x6 x7 x8=>by have:=hR x5 x6 x7 x8;simpa [pr,wv] using this)
  rw[List.map_cons,bj];simp only[bD,wD]at ih ⊢;simp[oo];rw[gM (hw ks ds) (f:=3) (by decide) (by decide) (by decide),vp (hw ks ds) hl (by omega)]
  unfold c4;by_cases h1:w.ok cl.length
  ·have h1':okH cl.length w.i=true/\okH cl.length w.j=true/\w.i≠w.j:=h1;rw[if_pos h1',if_pos h1];by_cases h2:[w.i,w.j]∈ks
   ·simp[h2,hX,out]
   ·simp only[if_neg h2];by_cases h3:fG w.l w.m=true
    ·simp[h3,hX,out]
    ·have ih:=ih h2;rw[if_neg h3,if_neg h3,cV,nF h2,mr hl h2];simpa using ih
  ·have h1':¬ (okH cl.length w.i=true/\okH cl.length w.j=true/\w.i≠w.j):=h1;rw[if_neg h1',if_neg h1];simp[hX,out]
noncomputable def wO(kls:Nat->PySem.Addr)(cks:List (Int×Int))(wy:List Wy):D:=.obj 0 (kls 0) [fC,fW] [.rol (cks.map cD),.dit (wy.map pr) (wy.map wv)]
noncomputable def ce(cks:List (Int×Int))(wy:List Wy):Nat:=if cks.length < 1\/6 < cks.length then 1 else if cks.any gi=true then 2 else c4 cks.length [] wy
noncomputable def aX:Nat->PySem.Str
 |0=>"made"
 |1=>"hand"
 |2=>"clock"
 |3=>"way"
 |_=>"other"
theorem mS{M:MH}{a b:PySem.Addr}{x y z:DO}(h:a≠b):put (put (put M a x) b y) a z=put (put M a z) b y:=by
 funext c;unfold put;by_cases h1:c=a
 ·subst h1;simp[h]
 ·simp[h1]
theorem rk{M:MH}{a b c:PySem.Addr}{x y w z:DO}(h:a≠b)(h':a≠c):put (put (put (put M a x) b y) c w) a z=put (put (put M a z) b y) c w:=by
 funext e;unfold put;by_cases h1:e=a
 ·subst h1;simp[h,h']
 ·simp[h1]
theorem pZ{R:MH->Prop}{f:Nat}{y:D}{i:Nat}{C:PySem.Addr}{ns:List Nat}{es:List D}(h:M p=some (.ins i C ns es)):ny (B cls kls fad) f y R (.ref p) M=((C=(B cls kls fad).kls i/\i < (B cls kls fad).nk/\(B cls kls fad).fok i f=true/\ns.length < 1000)/\R (put M p (.ins i C (cO f ns) (cS f y ns es)))):=by
 simp[ny,h]
theorem ub{cks:List (Int×Int)}{wy:List Wy}{R:Prop}(hM:Fm M)(h1:cks.length < 400)(h2:wy.length < 400)(hQ:Q (wO kls cks wy) M=R) :
  (∀p,M p=none->aa T (B cls kls fad) (n+6) 2 [.ref p,.rol (cks.map cD),.rol (wy.map wD)] (put M p (.ins 0 (kls 0) [] [])) (λv M2=>v=.non/\bu Q (.ref p) M2) (λi M'=>E i (del M' p)))=out R (λi=>E ⟨i,none⟩ M) (ce cks wy):=by
 refine ai hM λp hp=>?_
 have hz:cks.length<=PySem.sizeLine:=Nat.le_trans (show cks.length<=1000 by omega) (by decide)
 unfold ce;by_cases hA:cks.length < 1\/6 < cks.length
 ·rw[if_pos hA];have hA':((cks.length:Int) < 1)\/(6:Int) < cks.length:=by omega
  by_cases hB:(cks.length:Int) < 1
  ·have hB':cks=[]:=by cases cks with|nil=>rfl|cons _ _=>simp at hB;omega
   subst hB';simp[cM,aO,af,out,dF hp]
  ·have hC:(6:Int) < cks.length:=by omega
   simp[cM,aO,hB,hC,af,out,dF hp]
 ·rw[if_neg hA];have hB:¬ (cks.length:Int) < 1:=by omega
  have hC:¬ (6:Int) < cks.length:=by omega
  have hne:¬ cks=[]:=λz=>by simp[z]at hA
  simp[cM,aO,hB,hC];refine iff_of_eq ((nJ (R:=out R (λi=>E ⟨i,none⟩ M) (c4 cks.length [] wy)) cks none none λx y=>?_).trans ?_)
  ·simp[rBi,aN,ag,hz];refine iff_of_eq (ai (hM.put _ _) λq hq=>?_)
   obtain⟨hqp,hq⟩:=fv hq;rw[show ny (B cls kls fad) 136762133858116729320171 (.ref q) _ (.ref p) (put (put M p (.ins 0 (kls 0) [] [])) q (.lst (cks.map cD)))=_ from pZ (by rw[bF (Ne.symm hqp),ah])]
   simp;rw[mS (Ne.symm hqp)];refine iff_of_eq (ai ((hM.put _ _).put _ _) λd hd=>?_)
   obtain⟨hdq,hd⟩:=fv hd;obtain⟨hdp,hd⟩:=fv hd;rw[show ny (B cls kls fad) 8355170983792620267 (.ref d) _ (.ref p) (put (put (put M p (.ins 0 (kls 0) [136762133858116729320171] [.ref q])) q (.lst (cks.map cD))) d (.dt [] []))=_ from pZ (by rw[bF (Ne.symm hdp),bF (Ne.symm hqp),ah])]
   simp;rw[rk (Ne.symm hqp) (Ne.symm hdp)];have hw:∀ks ds,Wd kls (put (put (put M p (.ins 0 (kls 0) [fC,fW] [.ref q,.ref d])) q (.lst (cks.map cD))) d (.dt ks ds)) p q d (cks.map cD) ks ds:=λks ds=>
    ⟨by rw[bF (Ne.symm hdp),bF (Ne.symm hqp),ah],by rw[bF (Ne.symm hdq),ah],ah⟩
   have key:=kJ (cls:=cls) (fad:=fad) (n:=n) hw (De:={nx:=λσ' M'=>bu Q (.ref p) M',rt:=λv M2=>v=.non/\bu Q (.ref p) M2}) (Ex:=λi M'=>E i (del (ac (put M p (.ins 0 (kls 0) [] [])) M') p)) (R:=R) (X:=λi=>E ⟨i,none⟩ M) (λi ks ds=>by
    have e1:put M p (.ins 0 (kls 0) [] []) d=none:=by rw[bF hdp];exact hd
    have e2:put M p (.ins 0 (kls 0) [] []) q=none:=by rw[bF hqp];exact hq
    simp[gj e1,gj e2,dF hp]) (x1:=some (.rol (cks.map cD))) (x2:=some (.rol (wy.map wD))) (x3:=x) (x4:=y) wy [] [] none none none none rfl (by simp;omega) (λx5 x6 x7 x8=>by
     rw[List.nil_append,List.nil_append];show bu Q (.ref p) _=R;simp only[bu];rw[(hw (wy.map pr) (wy.map wv)).ip];simp only[ic];have e1:del (put (put (put M p (.ins 0 (kls 0) [fC,fW] [.ref q,.ref d])) q (.lst (cks.map cD))) d (.dt (wy.map pr) (wy.map wv))) p q=some (.lst (cks.map cD)):=by
      unfold del;rw[if_neg hqp];exact (hw (wy.map pr) (wy.map wv)).iq
     rw[e1];have e2:del (del (put (put (put M p (.ins 0 (kls 0) [fC,fW] [.ref q,.ref d])) q (.lst (cks.map cD))) d (.dt (wy.map pr) (wy.map wv))) p) q d=some (.dt (wy.map pr) (wy.map wv)):=by
      unfold del;rw[if_neg hdq,if_neg hdp];exact (hw (wy.map pr) (wy.map wv)).id
     simp only[e2];have e3:del (del (del (put (put (put M p (.ins 0 (kls 0) [fC,fW] [.ref q,.ref d])) q (.lst (cks.map cD))) d (.dt (wy.map pr) (wy.map wv))) p) q) d=M:=by
      funext a;unfold del put;by_cases a1:a=d
      ·subst a1;simp[hd]
      ·by_cases a2:a=q
       ·subst a2;simp[hq,a1]
       ·by_cases a3:a=p
        ·subst a3;simp[hp,a1,a2]
        ·simp[a1,a2,a3]
     rw[e3];exact hQ)
   rw[List.length_map]at key;exact iff_of_eq key
  ·by_cases hD:cks.any gi=true
   ·rw[if_pos hD,if_pos hD];simp[out,dF hp]
   ·rw[if_neg hD,if_neg hD]
end
end G
namespace G
open L2
section
variable {cls kls fad:Nat->PySem.Addr}{M:MH}{Q:VK3}{E:XN}{n:Nat}{z y:PySem.Str}{i:Int}
theorem szl{k:Nat}(h:k<=10000):k<=PySem.sizeLine:=Nat.le_trans h (by decide)
theorem sK{k:Int}(h:k.natAbs < 10 ^ 62):k.natAbs < 10 ^ 4300:=Nat.lt_of_lt_of_le h (Nat.pow_le_pow_right (by decide) (by decide))
theorem AW{k:Int}(h:k.natAbs < 10 ^ 62):k.natAbs < 10 ^ 1000:=Nat.lt_of_lt_of_le h (Nat.pow_le_pow_right (by decide) (by decide))
theorem tS(h:i.natAbs < 10 ^ 62):aa T (B cls kls fad) (n+1) 11 [.int i] M Q E=Q (.str (tx i)) M:=by
 simp[jU,bU,sK h,tx]
theorem gq:aa T (B cls kls fad) (n+1) 16 [.str z] M Q E=Q .non M:=by
 simp[dO,aZ]
noncomputable def iS:D->Bool
 |.non=>true|.int _=>true|.tup _=>true|.rol _=>true|_=>false
theorem mM{x:D}(h:iS x=true):aa T (B cls kls fad) (n+1) 16 [x] M Q E=E ⟨4,none⟩ M:=by
 cases x<;>first|(simp[iS]at h;done)|simp[dO,aZ,af]
noncomputable def ja(z:PySem.Str):Bool:=decide (0 < z.length)&&decide (z.length<=1000)&&fL z
noncomputable def inF:D->D
 |.str s=>.bl (jI s "0123456789")
 |_=>.non
theorem on(hM:Fm M)(hz:z.length<=10000):aa T (B cls kls fad) (n+1) 17 [.str z] M Q E=Q (.bl (ja z)) M:=by
 simp[jV,bR,szl hz];have e:aw [none] [some (D.str z)]=[none]:=rfl;by_cases h1:0 < z.length
 ·by_cases h2:z.length<=1000
  ·have h2':(z.length:Int)<=1000:=by omega
   rw[if_pos h1,if_pos h2',e,eI inF hM (by rw[dS,List.length_map,ax];omega) (λd hd M' _ Q=>by
    obtain⟨c,_,rfl⟩:=List.mem_map.mp hd;simp[inF])]
   rw[dS,List.map_map,vC (g:=inF∘λc=>D.str ⟨#[c]⟩) (λc=>jI ⟨#[c]⟩ "0123456789") λc _=>rfl]
   simp[ja,h1,h2,fL]
  ·have h2':¬ (z.length:Int)<=1000:=by omega
   rw[if_pos h1,if_neg h2'];simp[ja,h2]
 ·rw[if_neg h1];simp[ja,h1]
theorem vT{s:PySem.Str}(h:ja s=true):0 < s.length/\s.length<=1000/\fL s=true:=by
 simp only[ja,Bool.and_eq_true,decide_eq_true_eq]at h;exact⟨h.1.1,h.1.2,h.2⟩
theorem oS(z:PySem.Str):okN z=(ja (bZ z)&&!(decide (d5 (bZ z) 0 = "0")&&!decide (z = "0"))):=rfl
theorem C3:PySem.Txt.startswith "0" "-"=false:=by decide +kernel
theorem uI:bZ "0" = "0":=if_neg (by rw[C3];exact Bool.false_ne_true)
theorem oM:ja "0"=true:=by decide +kernel
theorem Ey:okN "0"=true:=by rw[oS,uI,oM];simp
theorem CN:PySem.intText? "0"=some (num "0"):=by
 obtain⟨h1,h2,h3⟩:=vT (s:=bZ "0") (by rw[uI];exact oM)
 exact pf h1 h2 h3
theorem BA:("0" : PySem.Str).length=1:=by decide +kernel
noncomputable def rdN(z:PySem.Str):Option D:=if okN z=true then some (.int (num z)) else none
noncomputable def rdQ(r:Option D)(M:MH)(Q:VK3)(E:XN):Prop:=match r with
 |some y=>Q y M
 |none=>E ⟨4,none⟩ M
@[simp ↓] theorem CM{y:D}:rdQ (some y) M Q E=Q y M:=rfl
@[simp ↓] theorem Ch:rdQ none M Q E=E ⟨4,none⟩ M:=rfl
theorem Ai(hM:Fm M)(hz:z.length<=10000):aa T (B cls kls fad) (n+2) 18 [.str z] M Q E=rdQ (rdN z) M Q E:=by
 have hf:=Nat.le_trans (vQ z) hz;unfold rdN;by_cases c2:z = "0"
 ·subst c2;simp[eV,bn,gq,szl hz,C3];rw[on hM hz,oM];simp[oR CN,Ey,BA,af]
 simp[eV,bn,gq,szl hz,c2];by_cases sw:PySem.Txt.startswith z "-"=true
 ·have ef:bZ z=PySem.Txt.slice z (some 1) none:=if_pos sw;rw[if_pos sw,<-ef,on hM hf,oS];cases h:ja (bZ z) with
  |false=>simp[af]
  |true=>
   obtain⟨l1,l2,l3⟩:=vT h;by_cases c1:d5 (bZ z) 0 = "0"<;>simp[oR (pf l1 l2 l3),szl hz,af,c1,c2,l1]
 ·have ef:bZ z=z:=if_neg sw;rw[if_neg sw,on hM hz,oS,ef];cases h:ja z with
  |false=>simp[af]
  |true=>
   have h':ja (bZ z)=true:=by rw[ef];exact h
   obtain⟨l1,l2,l3⟩:=vT h';obtain⟨k1,k2,k3⟩:=vT h;by_cases c1:d5 z 0 = "0"<;>simp[oR (pf l1 l2 l3),szl hz,af,k1,c1,c2]
theorem yA(hz:z.length<=9000):(PySem.Txt.split z y).length<=PySem.sizeLine:=szl (Nat.le_trans (kF z y) (by omega))
noncomputable def cC(y z:PySem.Str):List PySem.Str:=if z = "" then [] else PySem.Txt.split z y
theorem Cb:("; " : PySem.Str).length≠0:=by decide +kernel
theorem wb(hz:z.length<=9000)(hy:y.length≠0):aa T (B cls kls fad) (n+2) 19 [.str z,.str y] M Q E=Q (.rol ((cC y z).map D.str)) M:=by
 unfold cC;by_cases h:z = ""
 ·simp[fM,bM,gq,h,af]
 ·simp[fM,bM,gq,h,szl (show z.length<=10000 by omega),yA hz,hy]
theorem oq{x:D}(h:iS x=true):aa T (B cls kls fad) (n+2) 19 [x,.str y] M Q E=E ⟨4,none⟩ M:=by
 simp[fM,bM,mM h]
theorem ra{p:PySem.Str}(h:p∈cC y z):p.length<=z.length:=by
 unfold cC at h;split at h
 ·cases h
 ·exact iL h
theorem lE{w:List Nat}:∀(x:List Nat)(k:Nat),spl w x k≠[]
 |[],_,h=>nomatch h
 |c::r,0,h=>by
  unfold spl at h;split at h
  ·cases h
  ·cases q:spl w r 0 with
   |nil=>exact lE r 0 q
   |cons p t=>rw[q]at h;cases h
 |_::r,k+1,h=>lE r k h
theorem Bn:PySem.Txt.split z " "≠[]:=by
 rw[eQ (by decide +kernel) (by decide +kernel)]
 intro h;exact lE _ _ (List.map_eq_nil_iff.mp h)
noncomputable def rdI(z:PySem.Str):Option Int:=if okN z=true then some (num z) else none
theorem Bd:rdN z=(rdI z).map D.int:=by unfold rdN rdI;split<;>rfl
theorem bW(hM:Fm M)(hz:z.length<=10000):aa T (B cls kls fad) (n+2) 18 [.str z] M Q E=(match rdI z with|some k=>Q (.int k) M|none=>E ⟨4,none⟩ M):=by
 rw[Ai hM hz,Bd];cases rdI z<;>rfl
end
end G
namespace G
open L2
open PySem (Str)
section
variable {cls kls fad:Nat->PySem.Addr}{M:MH}{Q:VK3}{E:XN}{n:Nat}{z y:PySem.Str}{i:Int}{a b:PySem.Addr}
noncomputable def rdC:List Str->Option (Int×Int)
 |[_,x,y]=>match rdI x,rdI y with
  |some i,some j=>some (i,j)
  |_,_=>none
 |_=>none
noncomputable def rdM(z:Str):Option (Option Int):=if z = "any" then some none else match rdI z with
 |some k=>some (some k)
 |none=>none
noncomputable def rdY:List Str->Option Wy
 |[_,x,y,u,v]=>match rdM v,rdI x,rdI y,rdI u with
  |some m,some i,some j,some k=>some ⟨i,j,k,m⟩
  |_,_,_,_=>none
 |_=>none
theorem lH{ws:List Str}(hM:Fm M)(hl:ws.length=3)(h:∀t∈ws,t.length<=10000):aa T (B cls kls fad) (n+3) 20 [.rol (ws.map D.str)] M Q E=(match rdC ws with|some p=>Q (cD p) M|none=>E ⟨4,none⟩ M):=by
 obtain⟨u,v,w,rfl⟩:∃u v w,ws=[u,v,w]:=by
  rcases ws with _|⟨u,_|⟨v,_|⟨w,_|⟨x,r⟩⟩⟩⟩<;>simp at hl
  exact⟨u,v,w,rfl⟩
 have h1:=h v (by simp)
 have h2:=h w (by simp)
 cases e1:rdI v<;>cases e2:rdI w<;>simp[l6,cx,bW hM h1,bW hM h2,e1,e2,rdC,cD,af]
theorem ix4{a b c d e:D}:bL (.rol [a,b,c,d,e]) (.int 4) M Q=Q e M:=bI rfl
theorem nV{ws:List Str}(hM:Fm M)(hl:ws.length=5)(h:∀t∈ws,t.length<=10000):aa T (B cls kls fad) (n+3) 21 [.rol (ws.map D.str)] M Q E=(match rdY ws with|some p=>Q (wD p) M|none=>E ⟨4,none⟩ M):=by
 obtain⟨t,u,v,w,x,rfl⟩:∃t u v w x,ws=[t,u,v,w,x]:=by
  rcases ws with _|⟨t,_|⟨u,_|⟨v,_|⟨w,_|⟨x,_|⟨x',r⟩⟩⟩⟩⟩⟩<;>simp at hl
  exact⟨t,u,v,w,x,rfl⟩
 have h1:=h u (by simp)
 have h2:=h v (by simp)
 have h3:=h w (by simp)
 have h4:=h x (by simp)
 by_cases e0:x = "any"
 ·subst e0;cases e1:rdI u<;>cases e2:rdI v<;>cases e3:rdI w<;>simp[fx,bP,bW hM h1,bW hM h2,bW hM h3,e1,e2,e3,rdY,rdM,wD,oi,af,ix4]
 ·cases e4:rdI x with
  |none=>simp[fx,bP,bW hM h4,e0,e4,rdY,rdM,ix4]
  |some m=>cases e1:rdI u<;>cases e2:rdI v<;>cases e3:rdI w<;>simp[fx,bP,bW hM h1,bW hM h2,bW hM h3,bW hM h4,e0,e1,e2,e3,e4,rdY,rdM,wD,oi,af,ix4]
noncomputable def aM(ws:List Str)(cks:List (Int×Int))(wy:List Wy):Option (List (Int×Int)×List Wy):=match ws with
 |[]=>none
 |w::r=>if w = "clock"/\r.length=2/\wy=[] then (match rdC (w::r) with
   |some p=>some (cks++[p],wy)
   |none=>none)
  else if w = "way"/\r.length=4 then (match rdY (w::r) with
   |some p=>some (cks,wy++[p])
   |none=>none)
  else none
noncomputable def bc:List Str->List (Int×Int)->List Wy->Option (List (Int×Int)×List Wy)
 |[],cks,wy=>some (cks,wy)
 |t::ts,cks,wy=>match aM (PySem.Txt.split t " ") cks wy with
  |some (c,w)=>bc ts c w
  |none=>none
noncomputable def HC(M:MH)(a b:PySem.Addr)(cks:List (Int×Int))(wy:List Wy):MH:=put (put M a (.lst (cks.map cD))) b (.lst (wy.map wD))
theorem gb{cks:List (Int×Int)}{wy:List Wy}:HC M a b cks wy b=some (.lst (wy.map wD)):=ah
theorem ga(hab:a≠b){cks:List (Int×Int)}{wy:List Wy}:HC M a b cks wy a=some (.lst (cks.map cD)):=by unfold HC;rw[bF hab,ah]
theorem dX{W:WC}{e:IE}{De:Ends3}{E:XN}{σ:St3}{M:MH}{ds:List D}{p:PySem.Addr}(h:M p=some (.lst ds)):ui W e De E σ (.ref p) M=wpE W e σ M (dL p De σ) E:=by
 simp[ui,h];exact Iff.rfl
theorem sV{De:Ends3}{σ:St3}{cks:List (Int×Int)}{wy:List Wy}{w:Wy}(hz:wy.length < 10000):dL b De σ (wD w) (HC M a b cks wy)=De.nx σ (HC M a b cks (wy++[w])):=by
 have hs:wy.length < PySem.sizeLine:=Nat.lt_trans hz (by decide)
 simp[dL,gb,hs];unfold HC;rw[cV];simp
theorem ww(hab:a≠b){De:Ends3}{σ:St3}{cks:List (Int×Int)}{wy:List Wy}{p:Int×Int}(hz:cks.length < 10000):dL a De σ (cD p) (HC M a b cks wy)=De.nx σ (HC M a b (cks++[p]) wy):=by
 have hs:cks.length < PySem.sizeLine:=Nat.lt_trans hz (by decide)
 simp[dL,ga hab,hs];unfold HC;rw[mS hab];simp
theorem uB{cks:List (Int×Int)}{wy:List Wy}:rBi .len [.ref b] (HC M a b cks wy) Q=Q (.int wy.length) (HC M a b cks wy):=by simp[rBi,aN,ag,gb]
theorem be:(" " : Str).length≠0:=by decide +kernel
theorem ka(hM:Fm M)(hab:a≠b){De:Ends3}{Ex:XN}{R:List (Int×Int)->List Wy->Prop}{X:Prop}{x0:Option D}
  (hE:∀(cks:List (Int×Int)) (wy:List Wy),Ex ⟨4,none⟩ (HC M a b cks wy)=X)
  (hR:∀(cks:List (Int×Int)) (wy:List Wy) x y,cks.length+wy.length < 400->De.nx [x0,some (.ref a),some (.ref b),x,y] (HC M a b cks wy)=R cks wy) :
  ∀(ps:List Str) (cks:List (Int×Int)) (wy:List Wy)(x y:Option D),(∀t∈ps,t.length<=9000)->cks.length+wy.length+ps.length < 400->
  fm ⟨(B cls kls fad),aa T (B cls kls fad) (n+3)⟩ (.name 3) cf (λ_=>Ex) (λ_=>True) De (ps.map D.str) [x0,some (.ref a),some (.ref b),x,y] (HC M a b cks wy)=(match bc ps cks wy with|some (c,w)=>R c w|none=>X)
 |[],cks,wy,x,y,_,hz=>by
  rw[List.map_nil,bT,hR _ _ _ _ (by simpa using hz)]
  simp[bc]
 |t::ts,cks,wy,x,y,ht,hz=>by
  have ih:=λcks' wy' h=>ka hM hab (De:=De) hE hR ts cks' wy' (some (.str t)) (some (.rol ((PySem.Txt.split t " ").map D.str))) (λu hu=>ht u (List.mem_cons_of_mem _ hu)) h
  have tl:=ht t (by simp)
  have hs9:=kF t " ";have hp:∀p∈PySem.Txt.split t " ",p.length<=10000:=λp h=>Nat.le_trans (iL h) (by omega)
  have s0:=szl (show t.length<=10000 by omega)
  have s1:=szl (show (PySem.Txt.split t " ").length<=10000 by omega)
  have hM':Fm (HC M a b cks wy):=(hM.put _ _).put _ _;simp only[List.length_cons]at hz;rw[List.map_cons,bj];unfold bc;rcases hsp:PySem.Txt.split t " " with _|⟨w,ws⟩
  ·exact absurd hsp Bn
  ·rw[hsp]at ih hp s1 hs9;simp only[List.length_cons]at s1 hs9;simp only[cf]at ih ⊢;have i0:∀{M:MH}{Q:VK3},bL (.rol ((w::ws).map D.str)) (.int 0) M Q=Q (.str w) M:=λ{M Q}=>bI (by simp[atI,ixN])
   have c1:∀{Q:VK3}{E:XN},ws.length=2->aa T (B cls kls fad) (n+3) 20 [.rol ((w::ws).map D.str)] (HC M a b cks wy) Q E=(match rdC (w::ws) with|some p=>Q (cD p) (HC M a b cks wy)|none=>E ⟨4,none⟩ (HC M a b cks wy)):=λ{Q E} hl=>lH (n:=n) hM' (by simp[hl]) hp
   have c2:∀{Q:VK3}{E:XN},ws.length=4->aa T (B cls kls fad) (n+3) 21 [.rol ((w::ws).map D.str)] (HC M a b cks wy) Q E=(match rdY (w::ws) with|some p=>Q (wD p) (HC M a b cks wy)|none=>E ⟨4,none⟩ (HC M a b cks wy)):=λ{Q E} hl=>nV (n:=n) hM' (by simp[hl]) hp
   have nc:¬ (Str.ofString "clock")=Str.ofString "way":=by decide +kernel
   have nw:¬ (Str.ofString "way")=Str.ofString "clock":=by decide +kernel
   by_cases hc:w = "clock"/\ws.length=2/\wy=[]
   ·obtain⟨rfl,h2,rfl⟩:=hc;have h2':(ws.length:Int)+1=3:=by omega
    cases hr:rdC ("clock"::ws) with
    |none=>simp[hsp,s0,s1,be,uB,af,-List.map_cons,i0,h2,h2',dX (ga hab),c1 h2,hr,aM,hE]
    |some pp=>
     have ih:=ih (cks++[pp]) [] (by simp;omega)
     simp[hsp,s0,s1,be,uB,af,-List.map_cons,i0,h2,h2',dX (ga hab),c1 h2,hr,aM,ww hab (show cks.length < 10000 by omega)]
     exact iff_of_eq ih
   ·have e1:aM (w::ws) cks wy=if w = "way"/\ws.length=4 then (match rdY (w::ws) with
      |some p=>some (cks,wy++[p])
      |none=>none) else none:=if_neg hc
    rw[e1];by_cases h1:w = "clock"
    ·subst h1;by_cases h2:ws.length=2
     ·have h2':(ws.length:Int)+1=3:=by omega
      have h3:¬ wy=[]:=λe=>hc ⟨rfl,h2,e⟩
      have h3':¬ (wy.length:Int)=0:=λe=>h3 (List.length_eq_zero_iff.mp (by omega))
      simp[hsp,s0,s1,be,uB,af,-List.map_cons,i0,h2',h3,h3',nc,hE]
     ·have h2':¬ (ws.length:Int)+1=3:=by omega
      simp[hsp,s0,s1,be,af,-List.map_cons,i0,h2',nc,hE]
    ·by_cases h4:w = "way"
     ·subst h4;by_cases h5:ws.length=4
      ·have h5':(ws.length:Int)+1=5:=by omega
       cases hr:rdY ("way"::ws) with
       |none=>simp[hsp,s0,s1,be,af,-List.map_cons,i0,nw,h5,h5',dX gb,c2 h5,hr,hE]
       |some pp=>
        have ih:=ih cks (wy++[pp]) (by simp;omega)
        simp[hsp,s0,s1,be,af,-List.map_cons,i0,nw,h5,h5',dX gb,c2 h5,hr,sV (show wy.length < 10000 by omega)]
        exact iff_of_eq ih
      ·have h5':¬ (ws.length:Int)+1=5:=by omega
       simp[hsp,s0,s1,be,af,-List.map_cons,i0,nw,h5,h5',hE]
     ·simp[hsp,s0,s1,be,af,-List.map_cons,i0,h1,h4,hE]
noncomputable def gQ(z:Str):Option (List (Int×Int)×List Wy):=match bc (cC "; " z) [] [] with
 |some ([],_)=>none
 |o=>o
noncomputable def tE(kls:Nat->PySem.Addr)(z:Str)(M:MH)(Q:VK3)(E:XN):Prop:=match gQ z with
 |some (cks,wy)=>out (Q (wO kls cks wy) M) (λi=>E ⟨i,none⟩ M) (ce cks wy)
 |none=>E ⟨4,none⟩ M
end
end G
namespace G
open L2
open PySem (Str)
section
variable {cls kls fad:Nat->PySem.Addr}{M:MH}{Q:VK3}{E:XN}{n:Nat}{z y:PySem.Str}{i:Int}{a b:PySem.Addr}
theorem dD(hM:Fm M)(hz:z.length<=9000)(hp:(cC "; " z).length < 400):aa T (B cls kls fad) (n+7) 22 [.str z] M Q E=tE kls z M Q E:=by
 have hparts:∀t∈cC "; " z,t.length<=9000:=λt ht=>Nat.le_trans (ra ht) hz
 simp[ge,bB,af];refine iff_of_eq (ai hM λa ha=>?_)
 refine ai (hM.put _ _) λb hb=>?_
 obtain⟨hba,hb⟩:=fv hb;have cp:∀{Q:VK3}{E:XN},aa T (B cls kls fad) (n+6) 19 [.str z,.str "; "] (put (put M a (.lst [])) b (.lst [])) Q E=Q (.rol ((cC "; " z).map D.str)) (put (put M a (.lst [])) b (.lst [])):=λ{Q E}=>wb (n:=n+4) hz Cb
 simp[cp];have hC:∀(cks:List (Int×Int)) (wy:List Wy),ac M (HC M a b cks wy)=M:=λcks wy=>by
  unfold HC;rw[gj hb,gj ha];simp
 have h0:HC M a b [] []=put (put M a (.lst [])) b (.lst []):=rfl;rw[<-h0];refine iff_of_eq ((ka (n:=n+3) (X:=E ⟨4,none⟩ M) (R:=λcks wy=>if cks=[] then E ⟨4,none⟩ M else out (Q (wO kls cks wy) M) (λi=>E ⟨i,none⟩ M) (ce cks wy)) hM (Ne.symm hba) (λcks wy=>by simp only[hC]) (λcks wy x y hl=>?_) (cC "; " z) [] [] none none hparts (by simpa using hp)).trans ?_)
 ·have la:rBi .len [.ref a] (HC M a b cks wy)=λQ=>Q (.int cks.length) (HC M a b cks wy):=by
   funext Q;simp[rBi,aN,ag,ga (Ne.symm hba)]
  by_cases e:cks=[]
  ·subst e;simp[la,af,hC]
  ·have e':¬ (cks.length:Int)=0:=λq=>e (List.length_eq_zero_iff.mp (by omega))
   simp[la,e,e',af];have f1:∀Q:VK3,bu Q (.ref a) (HC M a b cks wy)=Q (.rol (cks.map cD)) (put M b (.lst (wy.map wD))):=λQ=>by
    simp only[bu,ga (Ne.symm hba)];unfold HC;rw[l9 ha hba]
   rw[f1,ir hb];have:=ub (cls:=cls) (kls:=kls) (fad:=fad) (n:=n) (M:=M) (Q:=λv M'=>Q v (ac M M')) (E:=λi M'=>E i (ac M M')) (cks:=cks) (wy:=wy) hM (by omega) (by omega) rfl
   rw[this];simp
 ·unfold tE gQ;cases bc (cC "; " z) [] [] with
  |none=>rfl
  |some o=>
   obtain⟨c,w⟩:=o;cases c with
   |nil=>simp
   |cons p r=>simp
end
end G
namespace G
open L2
open PySem (Str)
theorem wc:((" " : String):Str).cps.toList=[32]:=by decide +kernel
theorem d_e:(("" : String):Str).cps.toList=[]:=by decide +kernel
theorem Di:PySem.Builtin.Str.strKind " "=1:=by decide +kernel
theorem aR(a b:Str):(a++b).cps.toList=a.cps.toList++b.cps.toList:=by simp[PySem.Str.cps_append]
noncomputable def Sm(k:Int):Prop:=k.natAbs < 10 ^ 32
theorem Sm.big{k:Int}(h:Sm k):k.natAbs < 10 ^ 62:=Nat.lt_trans h (by decide)
theorem ay{k:Int}(h:Sm k):(tx k).length<=33:=by
 have:=PySem.int_text_length_le10 (by decide) h
 unfold tx;rw[PySem.ofString_length];exact this
theorem ne_of{z:Str}(h:z.cps.toList≠[]):z≠"":=λe=>h (by rw[e,d_e])
theorem de{y:Str}{t:Str}{r:List Str}:∃u,(PySem.Str.join y (t::r)).cps.toList=t.cps.toList++u:=by
 cases r with
 |nil=>exact⟨[],by simp[PySem.Str.join]⟩
 |cons s r=>exact⟨y.cps.toList++(PySem.Str.join y (s::r)).cps.toList,by
   show (t++y++PySem.Str.join y (s::r)).cps.toList=_;rw[aR,aR,List.append_assoc]⟩
theorem ji:(("; " : String):Str).cps.toList=[59,32]:=by decide +kernel
theorem ju:PySem.Builtin.Str.strKind "; "=1:=by decide +kernel
theorem gU{k:Int}(h:Sm k):rdI (tx k)=some k:=by
 obtain⟨h1,h2⟩:=Cl (AW h.big);unfold rdI;rw[if_pos h1,h2]
noncomputable def kW(c:Int×Int):List Str:=["clock",tx c.1,tx c.2]
noncomputable def mT:Option Int->Str
 |none=>"any"
 |some k=>tx k
noncomputable def yW(w:Wy):List Str:=["way",tx w.i,tx w.j,tx w.l,mT w.m]
noncomputable def kT(c:Int×Int):Str:=PySem.Str.join " " (kW c)
noncomputable def yT(w:Wy):Str:=PySem.Str.join " " (yW w)
noncomputable def SmC(c:Int×Int):Prop:=Sm c.1/\Sm c.2
structure SmW (w:Wy):Prop where
 i:Sm w.i
 j:Sm w.j
 l:Sm w.l
 m:∀k,w.m=some k->Sm k
theorem xw(k:Int):tx k≠"any":=λe=>by
 have h:(97:Nat)∈(tx k).cps.toList:=by rw[e];decide +kernel
 have:=pW k 97 h;omega
theorem xf{m:Option Int}(h:∀k,m=some k->Sm k):rdM (mT m)=some m:=by
 cases m with
 |none=>exact if_pos rfl
 |some k=>exact (if_neg (xw k)).trans (by rw[show mT (some k)=tx k from rfl,gU (h k rfl)])
theorem uV{c:Int×Int}(h:SmC c):rdC (kW c)=some c:=by
 show (match rdI (tx c.1),rdI (tx c.2) with|some i,some j=>some (i,j)|_,_=>none)=_
 rw[gU h.1,gU h.2]
theorem vP{w:Wy}(h:SmW w):rdY (yW w)=some w:=by
 show (match rdM (mT w.m),rdI (tx w.i),rdI (tx w.j),rdI (tx w.l) with|some m,some i,some j,some k=>some (⟨i,j,k,m⟩:Wy)|_,_,_,_=>none)=_
 rw[xf h.m,gU h.i,gU h.j,gU h.l]
noncomputable def Nbs(t:Str):Prop:=∀c∈t.cps.toList,33<=c/\c≠59
theorem gV(k:Int):Nbs (tx k):=λc hc=>by have:=pW k c hc;omega
theorem zG(m:Option Int):Nbs (mT m):=by
 cases m with
 |none=>exact λc hc=>by revert c hc;decide +kernel
 |some k=>exact gV k
theorem qH:Nbs "clock":=λc hc=>by revert c hc;decide +kernel
theorem u4:Nbs "way":=λc hc=>by revert c hc;decide +kernel
theorem fB(c:Int×Int):∀t∈kW c,Nbs t:=λt ht=>by
 simp[kW]at ht;rcases ht with rfl|rfl|rfl
 ·exact qH
 ·exact gV _
 ·exact gV _
theorem lu(w:Wy):∀t∈yW w,Nbs t:=λt ht=>by
 simp[yW]at ht;rcases ht with rfl|rfl|rfl|rfl|rfl
 ·exact u4
 ·exact gV _
 ·exact gV _
 ·exact gV _
 ·exact zG _
theorem eP{ts:List Str}(h0:ts≠[])(h:∀t∈ts,Nbs t):PySem.Txt.split (PySem.Str.join " " ts) " "=ts:=cJ wc Di h0 λt ht q=>by have:=h t ht _ q;omega
theorem pN{y:Str}{c:Nat}(hy:c∉y.cps.toList):∀{ts:List Str},(∀t∈ts,c∉t.cps.toList)->c∉(PySem.Str.join y ts).cps.toList
 |[],_=>by
  show c∉(("" : String):Str).cps.toList;rw[d_e];simp
 |[t],h=>h t (by simp)
 |t::u::r,h=>by
  show c∉(t++y++PySem.Str.join y (u::r)).cps.toList;rw[aR,aR];have:=pN hy (ts:=u::r) λz hz=>h z (List.mem_cons_of_mem _ hz)
  simp[hy,h t (by simp),this]
theorem je{ts:List Str}(h:∀t∈ts,Nbs t):59∉(PySem.Str.join " " ts).cps.toList:=pN (by rw[wc];simp) λt ht q=>(h t ht _ q).2 rfl
noncomputable def pts(cks:List (Int×Int))(wy:List Wy):List Str:=cks.map kT++wy.map yT
noncomputable def gW(cks:List (Int×Int))(wy:List Wy):Str:=PySem.Str.join "; " (pts cks wy)
theorem kL(cks:List (Int×Int))(wy:List Wy):∀t∈pts cks wy,59∉t.cps.toList:=λt ht=>by
 rcases List.mem_append.mp ht with q|q
 ·obtain⟨c,_,rfl⟩:=List.mem_map.mp q;exact je (fB c)
 ·obtain⟨c,_,rfl⟩:=List.mem_map.mp q;exact je (lu c)
theorem aY{w:Str}{r:List Str}{cks:List (Int×Int)}{wy:List Wy}:aM (w::r) cks wy=if w = "clock"/\r.length=2/\wy=[] then (match rdC (w::r) with
   |some p=>some (cks++[p],wy)
   |none=>none)
  else if w = "way"/\r.length=4 then (match rdY (w::r) with
   |some p=>some (cks,wy++[p])
   |none=>none)
  else none:=rfl
theorem kK{cks:List (Int×Int)}:∀{wy wy0:List Wy},(∀w∈wy,SmW w)->bc (wy.map yT) cks wy0=some (cks,wy0++wy)
 |[],wy0,_=>by simp[bc]
 |w::r,wy0,h=>by
  have ih:=kK (cks:=cks) (wy:=r) (wy0:=wy0++[w]) λx hx=>h x (List.mem_cons_of_mem _ hx)
  have e:aM (PySem.Txt.split (yT w) " ") cks wy0=some (cks,wy0++[w]):=by
   rw[show PySem.Txt.split (yT w) " "=yW w from eP (by simp[yW]) (lu w)]
   rw[show yW w=(("way" : String):Str)::[tx w.i,tx w.j,tx w.l,mT w.m] from rfl,aY,if_neg (λq=>absurd q.1 (by decide +kernel)),if_pos ⟨rfl,rfl⟩,show (("way" : String):Str)::[tx w.i,tx w.j,tx w.l,mT w.m]=yW w from rfl,vP (h w (by simp))]
  rw[List.map_cons];unfold bc;rw[e];simpa using ih
theorem jm{wy:List Wy}(hw:∀w∈wy,SmW w):∀{cks cks0:List (Int×Int)},(∀c∈cks,SmC c)->bc (pts cks wy) cks0 []=some (cks0++cks,wy)
 |[],cks0,_=>by
  have:=kK (cks:=cks0) (wy0:=[]) hw;simpa [pts] using this
 |c::r,cks0,h=>by
  have ih:=jm hw (cks:=r) (cks0:=cks0++[c]) λx hx=>h x (List.mem_cons_of_mem _ hx)
  have e:aM (PySem.Txt.split (kT c) " ") cks0 []=some (cks0++[c],[]):=by
   rw[show PySem.Txt.split (kT c) " "=kW c from eP (by simp[kW]) (fB c)]
   rw[show kW c=(("clock" : String):Str)::[tx c.1,tx c.2] from rfl,aY,if_pos ⟨rfl,rfl,rfl⟩,show (("clock" : String):Str)::[tx c.1,tx c.2]=kW c from rfl,uV (h c (by simp))]
  show bc (kT c::pts r wy) cks0 []=_;unfold bc;rw[e];simpa using ih
theorem bp(a b:PySem.Str):(a++b).length=a.length+b.length:=Array.size_append
theorem jZ:((" " : String):Str).length=1:=by decide +kernel
theorem i4:(("; " : String):Str).length=2:=by decide +kernel
theorem l_e:(("" : String):Str).length=0:=by decide +kernel
theorem uJ:(("any" : String):Str).length=3:=by decide +kernel
theorem wX:(("way" : String):Str).length=3:=by decide +kernel
theorem p8:(("clock" : String):Str).length=5:=by decide +kernel
theorem oH{m:Option Int}(h:∀k,m=some k->Sm k):(mT m).length<=33:=by
 cases m with
 |none=>rw[show mT none = "any" from rfl,uJ];omega
 |some k=>exact ay (h k rfl)
theorem jf{c:Int×Int}(h:SmC c):(kT c).length<=139:=by
 have:=ay h.1;have:=ay h.2;show ((("clock" : String):Str)++" "++(tx c.1++" "++tx c.2)).length<=139;simp only[bp,jZ,p8];omega
theorem nX{w:Wy}(h:SmW w):(yT w).length<=139:=by
 have:=ay h.i;have:=ay h.j;have:=ay h.l;have:=oH h.m;show ((("way" : String):Str)++" "++(tx w.i++" "++(tx w.j++" "++(tx w.l++" "++mT w.m)))).length<=139;simp only[bp,jZ,wX];omega
structure Wl (cks:List (Int×Int)) (wy:List Wy):Prop where
 l:cks.length+wy.length<=60
 c:∀c∈cks,SmC c
 w:∀w∈wy,SmW w
theorem cY{cks:List (Int×Int)}{wy:List Wy}(h:Wl cks wy):∀t∈pts cks wy,t.length<=139:=λt ht=>by
 rcases List.mem_append.mp ht with q|q
 ·obtain⟨c,hc,rfl⟩:=List.mem_map.mp q;exact jf (h.c c hc)
 ·obtain⟨c,hc,rfl⟩:=List.mem_map.mp q;exact nX (h.w c hc)
theorem tX{cks:List (Int×Int)}{wy:List Wy}(h:Wl cks wy):(gW cks wy).length<=8460:=by
 have h1:=dc (y:="; ") (B:=139) (pts cks wy) (cY h);rw[i4]at h1;have h2:(pts cks wy).length<=60:=by
  have:=h.l;simp[pts];omega
 have h3:(pts cks wy).length * (139+2)<=60 * (139+2):=Nat.mul_le_mul_right _ h2;unfold gW;omega
theorem sd(c:Int×Int):(kT c).cps.toList≠[]:=by
 show ((("clock" : String):Str)++" "++(tx c.1++" "++tx c.2)).cps.toList≠[];simp only[aR,wc];simp
theorem qk{cks:List (Int×Int)}{wy:List Wy}(h0:cks≠[]):cC "; " (gW cks wy)=pts cks wy:=by
 cases cks with
 |nil=>exact absurd rfl h0
 |cons c r=>
  unfold cC;rw[if_neg,show gW (c::r) wy=PySem.Str.join "; " (pts (c::r) wy) from rfl,cJ ji ju (by simp[pts]) (kL _ _)]
  obtain⟨u,e⟩:=de (y:="; ") (t:=kT c) (r:=pts r wy);refine ne_of ?_;show (PySem.Str.join "; " (kT c::pts r wy)).cps.toList≠[];rw[e];intro q;exact sd c (List.append_eq_nil_iff.mp q).1
theorem mX{cks:List (Int×Int)}{wy:List Wy}(h:Wl cks wy)(h0:cks≠[]):gQ (gW cks wy)=some (cks,wy):=by
 unfold gQ;rw[qk h0,jm h.w (cks0:=[]) h.c,List.nil_append];cases cks with
 |nil=>exact absurd rfl h0
 |cons c r=>rfl
end G
namespace G
open L2
section
variable {cls kls fad:Nat->PySem.Addr}{M:MH}{Q:VK3}{E:XN}{n:Nat}{p q d:PySem.Addr}{cks:List (Int×Int)}{wy:List Wy}
structure Wy.good (n:Nat)(w:Wy):Prop where
 i:okH n w.i=true
 j:okH n w.j=true
 ne:w.i≠w.j
 l:fG w.l w.m=false
theorem o_c:fK (B cls kls fad) 136762133858116729320171 (wO kls cks wy) M Q=Q (.rol (cks.map cD)) M:=by simp[wO,fC,fW]
theorem o_w:fK (B cls kls fad) 8355170983792620267 (wO kls cks wy) M Q=Q (.dit (wy.map pr) (wy.map wv)) M:=by simp[wO,fC,fW]
theorem o_m{m f:Nat}{R:Nat->Prop}(hm:mth 0 m=some f)(h1:fC≠m)(h2:fW≠m):c8 (B cls kls fad) m (wO kls cks wy) M R=R f:=by
 simp[wO,hm,h1,h2]
theorem o1{R:Nat->Prop}:c8 (B cls kls fad) 31081607400 (wO kls cks wy) M R=R 6:=o_m (by decide) (by decide) (by decide)
theorem fY:aa T (B cls kls fad) (n+1) 6 [wO kls cks wy] M Q E=Q (.int cks.length) M:=by
 simp[fj,bh,o_c]
theorem mm{i:Int}:aa T (B cls kls fad) (n+2) 7 [wO kls cks wy,.int i] M Q E=Q (.bl (okH cks.length i)) M:=by
 simp[db,aL,okH];by_cases h0:0<=i
 ·simp[h0,o1,fY]
 ·simp[h0]
theorem cP{i:Int}:aa T (B cls kls fad) (n+3) 4 [wO kls cks wy,.int i] M Q E=if okH cks.length i=true then Q .non M else E ⟨1,none⟩ M:=by
 simp[cj,aA];rw[o_m (f:=7) (by decide) (by decide) (by decide),mm]
 cases okH cks.length i<;>simp[af]
theorem dU{i j:Int}:aa T (B cls kls fad) (n+4) 5 [wO kls cks wy,.int i,.int j] M Q E=if okH cks.length i=true/\okH cks.length j=true/\i≠j then Q .non M else E ⟨1,none⟩ M:=by
 simp[cg,aB];rw[o_m (f:=4) (by decide) (by decide) (by decide),cP]
 by_cases h1:okH cks.length i=true
 ·simp[h1];rw[o_m (f:=4) (by decide) (by decide) (by decide),cP]
  by_cases h2:okH cks.length j=true
  ·simp[h2];by_cases h3:i=j<;>simp[h3,af]
  ·simp[h2]
 ·simp[h1]
theorem sy{k:List Int}:∀{wy:List Wy},(getD (wy.map pr) (wy.map wv) k).isSome=decide (k∈wy.map pr)
 |[]=>by simp[getD]
 |w::r=>by
  have ih:=sy (k:=k) (wy:=r);simp only[List.map_cons,getD];by_cases e:pr w=k
  ·simp[e]
  ·rw[if_neg e,ih];simp[Ne.symm e]
theorem uc{w:Wy}:∀{wy:List Wy},(wy.map pr).Nodup->w∈wy->getD (wy.map pr) (wy.map wv) (pr w)=some (wv w)
 |v::r,hn,h=>by
  rw[List.map_cons,List.nodup_cons]at hn;simp only[List.map_cons,getD];rcases List.mem_cons.mp h with rfl|h
  ·rw[if_pos rfl]
  ·rw[if_neg (λz=>hn.1 (by rw[z];exact List.mem_map_of_mem h)),uc hn.2 h]
theorem zy{i j:Int}:aU .In (.tup [.int i,.int j]) (.dit (wy.map pr) (wy.map wv)) M Q=Q (.bl (decide ([i,j]∈wy.map pr))) M:=by
 have e:=sy (k:=[i,j]) (wy:=wy);simp[aU,oW,aN,ag,lf,m9,jP,og,gY,e]
theorem zz{w:Wy}(hn:(wy.map pr).Nodup)(h:w∈wy):bL (.dit (wy.map pr) (wy.map wv)) (.tup [.int w.i,.int w.j]) M Q=Q (wv w) M:=by
 have e:=uc hn h;simp only[pr]at e;simp[bL,aN,ag,lf,m9,jP,og,gY,e,pr]
theorem fH{i j:Int}:aa T (B cls kls fad) (n+1) 8 [wO kls cks wy,.int i,.int j] M Q E=Q (.bl (decide ([i,j]∈wy.map pr))) M:=by
 simp only[ij,br];simp[af,↓o_w,↓zy]
theorem l8{i:Int}:aa T (B cls kls fad) (n+4) 9 [wO kls cks wy,.int i] M Q E=if okH cks.length i=true then Q (cD (cks.getD i.toNat (0,0))) M else E ⟨1,none⟩ M:=by
 simp only[jO,bS];simp;rw[o_m (f:=4) (by decide) (by decide) (by decide),cP]
 by_cases h:okH cks.length i=true
 ·have h':0<=i/\i < cks.length:=by simpa [okH] using h
  obtain⟨k,rfl⟩:∃k:Nat,i=k:=⟨i.toNat,by omega⟩
  have hk:k < cks.length:=by omega
  have hat:atI (cks.map cD) (k:Int)=some (cD (cks.getD k (0,0))):=f9 (by simp[hk])
  simp[h,↓o_c,bI hat]
 ·simp[h]
theorem sD{i j:Int}(h:okH cks.length i=true/\okH cks.length j=true/\i≠j)(hk:[i,j]∉wy.map pr):aa T (B cls kls fad) (n+5) 10 [wO kls cks wy,.int i,.int j] M Q E=E ⟨3,none⟩ M:=by
 have hw:∀{Q:VK3}{E:XN},aa T (B cls kls fad) (n+4) 8 [wO kls cks wy,.int i,.int j] M Q E=Q (.bl false) M:=λ{Q E}=>by rw[fH];simp only[hk,decide_false]
 simp only[g7,b8];simp;rw[o_m (f:=5) (by decide) (by decide) (by decide),dU,if_pos h]
 rw[o_m (f:=8) (by decide) (by decide) (by decide),hw]
 simp[af]
theorem mj{w:Wy}(h:w.good cks.length)(hn:(wy.map pr).Nodup)(hk:w∈wy):aa T (B cls kls fad) (n+5) 10 [wO kls cks wy,.int w.i,.int w.j] M Q E=Q (wv w) M:=by
 have hk':[w.i,w.j]∈wy.map pr:=List.mem_map_of_mem (f:=pr) hk;have hw:∀{Q:VK3}{E:XN},aa T (B cls kls fad) (n+4) 8 [wO kls cks wy,.int w.i,.int w.j] M Q E=Q (.bl true) M:=λ{Q E}=>by rw[fH];simp only[hk',decide_true]
 simp only[g7,b8];simp;rw[o_m (f:=5) (by decide) (by decide) (by decide),dU,if_pos ⟨h.i,h.j,h.ne⟩]
 rw[o_m (f:=8) (by decide) (by decide) (by decide),hw]
 simp[af,↓o_w,↓zz hn hk]
end
end G
namespace G
open L2
open PySem (Str)
section
variable {cls kls fad:Nat->PySem.Addr}{M:MH}{Q:VK3}{E:XN}{n:Nat}{cks:List (Int×Int)}{wy:List Wy}{c:Int×Int}{w:Wy}
theorem t5{ts:List Str}(h1:ts.length<=60)(h:∀t∈ts,t.length<=200){y:Str}(hy:y.length<=10):PySem.JoinOk y ts=true:=fQ (by omega) hy λt ht=>Nat.le_trans (h t ht) (by decide)
noncomputable def shD:D->D
 |.int k=>.str (tx k)
 |_=>.non
theorem gL{y:Str}{ts:List Str}(h:PySem.JoinOk y ts=true):rBm .join (.str y) [.rol (ts.map D.str)] M Q=Q (.str (PySem.Str.join y ts)) M:=by
 rw[Cp,h,i7];simp
theorem g6{ks:List Int}(hM:Fm M)(hl:ks.length<=5)(h:∀k∈ks,Sm k):aa T (B cls kls fad) (n+2) 12 [.rol (ks.map D.int)] M Q E=Q (.str (PySem.Str.join " " (ks.map tx))) M:=by
 simp[mV,cU];have e:∀{x:Option D},aw [none] [x]=[none]:=rfl;rw[e,eI shD hM (by simp;omega) (λd hd M' _ Q=>by
  obtain⟨k,hk,rfl⟩:=List.mem_map.mp hd;simp[shD,tS (h k hk).big])]
 have e2:(ks.map D.int).map shD=(ks.map tx).map D.str:=by rw[List.map_map,List.map_map];rfl
 rw[e2,gL (t5 (by simp;omega) (λt ht=>by
  obtain⟨k,hk,rfl⟩:=List.mem_map.mp ht;exact Nat.le_trans (ay (h k hk)) (by decide)) (by decide +kernel))]
 simp
theorem EW:(("clock " : String):Str)=(("clock" : String):Str)++" ":=by decide +kernel
theorem Fv:(("way " : String):Str)=(("way" : String):Str)++" ":=by decide +kernel
theorem yM:(("clock " : String):Str).length=6:=by decide +kernel
theorem vZ:(("way " : String):Str).length=4:=by decide +kernel
theorem wQ(c:Int×Int):(("clock " : String):Str)++PySem.Str.join " " [tx c.1,tx c.2]=kT c:=by
 rw[EW];rfl
theorem wA(w:Wy):(("way " : String):Str)++PySem.Str.join " " [tx w.i,tx w.j,tx w.l]++" "++mT w.m=yT w:=by
 rw[Fv];show (("way" : String):Str)++" "++(tx w.i++" "++(tx w.j++" "++tx w.l))++" "++mT w.m=(("way" : String):Str)++" "++(tx w.i++" "++(tx w.j++" "++(tx w.l++" "++mT w.m)));exact cW (by simp only[aR,List.append_assoc])
theorem lO(hM:Fm M)(h:SmC c):aa T (B cls kls fad) (n+3) 13 [cD c] M Q E=Q (.str (kT c)) M:=by
 have c1:∀{Q:VK3}{E:XN},aa T (B cls kls fad) (n+2) 12 [.rol [.int c.1,.int c.2]] M Q E=Q (.str (PySem.Str.join " " [tx c.1,tx c.2])) M:=λ{Q E}=>g6 (n:=n) (ks:=[c.1,c.2]) hM (by simp) (by simp;exact h)
 have hl:=jf h;rw[<-wQ]at hl ⊢;rw[bp,yM]at hl;simp[lC,cB,cD,c1,af,yM,szl (show 6+(PySem.Str.join " " [tx c.1,tx c.2]).length<=10000 by omega)]
theorem pj(hM:Fm M)(h:SmW w):aa T (B cls kls fad) (n+3) 14 [.int w.i,.int w.j,wv w] M Q E=Q (.str (yT w)) M:=by
 have c1:∀{Q:VK3}{E:XN},aa T (B cls kls fad) (n+2) 12 [.rol [.int w.i,.int w.j,.int w.l]] M Q E=Q (.str (PySem.Str.join " " [tx w.i,tx w.j,tx w.l])) M:=λ{Q E}=>g6 (n:=n) (ks:=[w.i,w.j,w.l]) hM (by simp) (by simp;exact⟨h.i,h.j,h.l⟩)
 have hl:=nX h;rw[<-wA]at hl ⊢;rw[bp,bp,bp,vZ,jZ]at hl;obtain⟨i,j,l,m⟩:=w;cases m with
 |none=>
  rw[show mT none = "any" from rfl]at hl ⊢;rw[uJ]at hl;simp at c1 hl;simp[jj,cK,wv,way,oi,c1,af,vZ,jZ,uJ,bp,szl (show 4+(PySem.Str.join " " [tx i,tx j,tx l]).length<=10000 by omega),szl (show 4+(PySem.Str.join " " [tx i,tx j,tx l]).length+1<=10000 by omega),szl (show 4+(PySem.Str.join " " [tx i,tx j,tx l]).length+1+3<=10000 by omega)]
 |some k=>
  rw[show mT (some k)=tx k from rfl]at hl ⊢;simp at c1 hl;have cs:∀{Q:VK3}{E:XN},aa T (B cls kls fad) (n+2) 11 [.int k] M Q E=Q (.str (tx k)) M:=λ{Q E}=>tS (n:=n+1) (h.m k rfl).big
  simp[jj,cK,wv,way,oi,c1,cs,af,vZ,jZ,bp,szl (show 4+(PySem.Str.join " " [tx i,tx j,tx l]).length<=10000 by omega),szl (show 4+(PySem.Str.join " " [tx i,tx j,tx l]).length+1<=10000 by omega),szl (show 4+(PySem.Str.join " " [tx i,tx j,tx l]).length+1+(tx k).length<=10000 by omega)]
end
end G
namespace G
open L2
open PySem (Str)
section
variable {cls kls fad:Nat->PySem.Addr}{M:MH}{Q:VK3}{E:XN}{n:Nat}{cks:List (Int×Int)}{wy:List Wy}{c:Int×Int}{w:Wy}{W:WC}
theorem Sm.log{k:Int}(h:Sm k):k.natAbs.log2 < 1920:=by
 by_cases h0:k.natAbs=0
 ·rw[h0];decide
 ·have:k.natAbs < 2 ^ 1920:=Nat.lt_of_lt_of_le h (by decide)
  exact (Nat.log2_lt h0).mpr this
theorem wF(k:Int):((toString k:String):Str)=tx k:=rfl
theorem vv{x y:Int}(hx:Sm x)(hy:Sm y){R:Str->Prop}:wpF [some (.int x),some (.int y)] [.inl (Str.ofString "clock "),.inr 0,.inl (Str.ofString " "),.inr 1] PySem.Str.empty R=R (kT (x,y)):=by
 have a1:=ay hx;have a2:=ay hy;have e0:(PySem.Str.empty).length=0:=by decide +kernel
 have ee:PySem.Str.empty++Str.ofString "clock "++tx x++Str.ofString " "++tx y=kT (x,y):=by
  rw[<-wQ];show _=Str.ofString "clock "++(tx x++" "++tx y);refine cW ?_;simp only[aR,List.append_assoc];have:PySem.Str.empty.cps.toList=[]:=by decide +kernel
  rw[this,List.nil_append]
 simp only[wpF,List.getElem?_cons_zero,List.getElem?_cons_succ,wF,hx.log,hy.log,true_and,bp,e0,yM,jZ];rw[eq_true (szl (show 0+6<=10000 by omega)),eq_true (szl (show 0+6+(tx x).length<=10000 by omega)),eq_true (szl (show 0+6+(tx x).length+1<=10000 by omega)),eq_true (szl (show 0+6+(tx x).length+1+(tx y).length<=10000 by omega)),true_and,true_and,true_and,true_and,ee]
noncomputable def clD:D->D
 |.tup [.int x,.int y]=>.str (kT (x,y))
 |_=>.non
noncomputable def stP:D->St3
 |.tup [a,b]=>[some a,some b]
 |_=>[]
theorem qx{p:PySem.Addr}{σ:St3}(hM:Fm M)(hp:M p=none)(hl:cks.length<=60)(h:∀c∈cks,SmC c):fc W (.tup [0,1]) .no (.fst [.inl (Str.ofString "clock "),.inr 0,.inl (Str.ofString " "),.inr 1]) (λ_=>True) p Q (cks.map cD) [] (aw [none,none] σ) (put M p (.lst []))=Q (.ref p) (put M p (.lst ((cks.map kT).map D.str))):=by
 rw[show aw [none,none] σ=[none,none] from rfl,eG (λσ=>∃a b,σ=[a,b]) stP (λ_=>true) clD _ _ _ ⟨_,_,rfl⟩ hM hp (by
   rw[List.length_map,List.length_nil];exact Nat.lt_of_le_of_lt (show 0+cks.length<=60 by omega) (by decide)) (λ_ _=>trivial) (λd hd=>by
   obtain⟨c,hc,rfl⟩:=List.mem_map.mp hd;refine⟨⟨_,_,rfl⟩,λσ ⟨a,b,e⟩ M k=>?_⟩
   subst e;simp[stP,cD]) (λ_ _ _ _ _=>rfl) (λd hd _ M' _ Q=>by
   obtain⟨c,hc,rfl⟩:=List.mem_map.mp hd;show wpF [some (.int c.1),some (.int c.2)] _ _ _=_;rw[vv (h c hc).1 (h c hc).2];rfl)]
 rw[List.filter_eq_self.mpr (λ_ _=>rfl),List.nil_append,List.map_map,List.map_map]
 rfl
theorem Bp(k:Int):PySem.Str.ofString k.repr=tx k:=rfl
theorem BN{w:Wy}(h:SmW w){x0 x1 x2 x6:Option D}{R:Str->Prop}:wpF [x0,x1,x2,some (.int w.i),some (.int w.j),some (.int w.l),x6,some (.str (mT w.m))] [.inl (Str.ofString "way "),.inr 3,.inl (Str.ofString " "),.inr 4,.inl (Str.ofString " "),.inr 5,.inl (Str.ofString " "),.inr 7] PySem.Str.empty R=R (yT w):=by
 have a1:=ay h.i;have a2:=ay h.j;have a3:=ay h.l;have a4:=oH h.m;have e0:(PySem.Str.empty).length=0:=by decide +kernel
 have ee:PySem.Str.empty++Str.ofString "way "++tx w.i++Str.ofString " "++tx w.j++Str.ofString " "++tx w.l++Str.ofString " "++mT w.m=yT w:=by
  rw[<-wA];show _=Str.ofString "way "++(tx w.i++" "++(tx w.j++" "++tx w.l))++" "++mT w.m;refine cW ?_;simp only[aR,List.append_assoc];have:PySem.Str.empty.cps.toList=[]:=by decide +kernel
  rw[this,List.nil_append]
 have z:∀{k:Nat},k<=500->(k<=PySem.sizeLine)=True:=λhk=>eq_true (szl (Nat.le_trans hk (by decide)))
 simp only[wpF,List.getElem?_cons_zero,List.getElem?_cons_succ,wF,h.i.log,h.j.log,h.l.log,true_and,bp,e0,vZ,jZ];rw[z (by omega),z (by omega),z (by omega),z (by omega),z (by omega),z (by omega),z (by omega),z (by omega),true_and,true_and,true_and,true_and,true_and,true_and,true_and,true_and,ee]
theorem jE{p:PySem.Addr}{De:Ends3}{ES:St3->XN}{R:Prop}{x0 x1:Option D}:∀(wy:List Wy)(ts:List Str)(x3 x4 x5 x6 x7:Option D),(∀w∈wy,SmW w)->ts.length+wy.length<=100->(∀x3 x4 x5 x6 x7,De.nx [x0,x1,some (.ref p),x3,x4,x5,x6,x7] (put M p (.lst ((ts++wy.map yT).map D.str)))=R)->
  fm W (.tup [3,4,5,6]) cH ES (λ_=>True) De (wy.map wD) [x0,x1,some (.ref p),x3,x4,x5,x6,x7] (put M p (.lst (ts.map D.str)))=R
 |[],ts,x3,x4,x5,x6,x7,_,_,hR=>by
  have:=hR x3 x4 x5 x6 x7;simp only[List.map_nil,List.append_nil]at this;rw[List.map_nil,bT,this];simp
 |w::r,ts,x3,x4,x5,x6,x7,h,hl,hR=>by
  have hw:=h w (by simp)
  simp only[List.length_cons]at hl;have ih:=jE (De:=De) (ES:=ES) (R:=R) (x0:=x0) (x1:=x1) (p:=p) r (ts++[yT w]) (some (.int w.i)) (some (.int w.j)) (some (.int w.l)) (some (oi w.m)) (some (.str (mT w.m))) (λu hu=>h u (List.mem_cons_of_mem _ hu)) (by simp;omega) (λy3 y4 y5 y6 y7=>by have:=hR y3 y4 y5 y6 y7;simpa using this)
  have hs:ts.length < PySem.sizeLine:=Nat.lt_of_le_of_lt (show ts.length<=100 by omega) (by decide)
  rw[List.map_cons,bj];have fw:∀{x6:Option D}{R:Str->Prop},_:=λ{x6} {R}=>BN hw (x0:=x0) (x1:=x1) (x2:=some (.ref p)) (x6:=x6) (R:=R)
  have eL:∀x:D,(ts.map D.str++[.str (yT w)]:List D)=(ts++[yT w]).map D.str:=λ_=>by simp
  simp only[cH,wD]at ih ⊢;cases hm:w.m with
  |none=>
   rw[hm]at ih;simp only[hm,show mT none=Str.ofString "any" from rfl]at fw ih;simp[oo,oi,fw,hs]at ih ⊢;exact ih
  |some k=>
   have hk:=hw.m k hm;rw[hm]at ih;simp only[hm,show mT (some k)=tx k from rfl]at fw ih;simp[oo,oi,fw,hs,sK hk.big,Bp]at ih ⊢;exact ih
theorem gc(hM:Fm M)(h:Wl cks wy):aa T (B cls kls fad) (n+1) 26 [.rol (cks.map cD),.rol (wy.map wD)] M Q E=Q (.rol ((pts cks wy).map D.str)) M:=by
 have hl:=h.l;simp[mx,cZ];refine iff_of_eq (ai hM λp hp=>?_)
 rw[qx hM hp (by omega) h.c]
 refine jE wy (cks.map kT) none none none none none h.w (by simp;omega) λx3 x4 x5 x6 x7=>?_
 simp[ir hp,pts]
end
end G
namespace G
open L2
open PySem (Str)
noncomputable abbrev Gf:=Nat->Nat->Option (Int×Option Int)
noncomputable def wyk(i j:Nat)(p:Int×Option Int):Wy:=⟨i,j,p.1,p.2⟩
noncomputable def wyR(g:Gf)(H i:Nat):List Wy:=(List.range H).filterMap λj=>(g i j).map (wyk i j)
noncomputable def wys(g:Gf)(H:Nat):List Wy:=(List.range H).flatMap (wyR g H)
theorem mem_wyR{g:Gf}{H i:Nat}{w:Wy}:w∈wyR g H i<->∃j p,j < H/\g i j=some p/\w=wyk i j p:=by
 unfold wyR;simp only[List.mem_filterMap,List.mem_range,Option.map_eq_some_iff];constructor
 ·rintro⟨j,hj,p,hp,rfl⟩;exact⟨j,p,hj,hp,rfl⟩
 ·rintro⟨j,p,hj,hp,rfl⟩;exact⟨j,hj,p,hp,rfl⟩
theorem mem_wys{g:Gf}{H:Nat}{w:Wy}:w∈wys g H<->∃i j p,i < H/\j < H/\g i j=some p/\w=wyk i j p:=by
 unfold wys;simp only[List.mem_flatMap,List.mem_range,mem_wyR];constructor
 ·rintro⟨i,hi,j,p,hj,hp,rfl⟩;exact⟨i,j,p,hi,hj,hp,rfl⟩
 ·rintro⟨i,j,p,hi,hj,hp,rfl⟩;exact⟨i,hi,j,p,hj,hp,rfl⟩
structure Gk (g:Gf)(H:Nat):Prop where
 no:∀i,g i i=none
 l:∀i j p,g i j=some p->fG p.1 p.2=false
 s:∀i j p,g i j=some p->Sm p.1/\∀k,p.2=some k->Sm k
theorem gE{i j:Nat}{p:Int×Option Int}:pr (wyk i j p)=[(i:Int),(j:Int)]:=rfl
theorem fU{g:Gf}{H:Nat}(G:Gk g H):∀w∈wys g H,w.good H:=λw hw=>by
 obtain⟨i,j,p,hi,hj,hp,rfl⟩:=mem_wys.mp hw;refine⟨by simp[wyk,okH];omega,by simp[wyk,okH];omega,λe=>?_,G.l i j p hp⟩
 have:i=j:=by simp only[wyk]at e;omega
 subst this;rw[G.no i]at hp;cases hp
theorem om{g:Gf}{H:Nat}(hH:H<=6)(G:Gk g H):∀w∈wys g H,SmW w:=λw hw=>by
 obtain⟨i,j,p,hi,hj,hp,rfl⟩:=mem_wys.mp hw;have small:∀k:Nat,k < 6->Sm (k:Int):=λk hk=>by
  unfold Sm;rw[Int.natAbs_natCast];exact Nat.lt_trans hk (by decide)
 exact⟨small i (by omega),small j (by omega),(G.s i j p hp).1,(G.s i j p hp).2⟩
structure Wz (g:Gf)(H:Nat)(wz:List Wy):Prop where
 m:∀w,w∈wz<->w∈wys g H
 nd:(wz.map pr).Nodup
theorem Wz.has{g:Gf}{H:Nat}{wz:List Wy}(Z:Wz g H wz){i j:Nat}(hi:i < H)(hj:j < H):decide ([(i:Int),(j:Int)]∈wz.map pr)=(g i j).isSome:=by
 cases hg:g i j with
 |some p=>
  rw[decide_eq_true]
  ·rfl
  ·exact List.mem_map.mpr ⟨wyk i j p,(Z.m _).mpr (mem_wys.mpr ⟨i,j,p,hi,hj,hg,rfl⟩),gE⟩
 |none=>
  rw[decide_eq_false]
  ·rfl
  ·intro h;obtain⟨w,hw,e⟩:=List.mem_map.mp h;obtain⟨i',j',p,_,_,hp,rfl⟩:=mem_wys.mp ((Z.m _).mp hw);rw[gE]at e;simp only[List.cons.injEq,and_true]at e;have e1:i'=i:=by omega
   have e2:j'=j:=by omega
   subst e1 e2;rw[hg]at hp;cases hp
end G
namespace G
open L2
open PySem (Str)
section
variable {cls kls fad:Nat->PySem.Addr}{M:MH}{Q:VK3}{E:XN}{n:Nat}{cks:List (Int×Int)}{wz:List Wy}{g:Gf}{H:Nat}{p:PySem.Addr}
theorem fV(H:Nat):rng 0 H=(List.range H).map λk=>.int (k:Int):=by
 unfold rng;simp
noncomputable def kAt(cks:List (Int×Int)):D->D
 |.int k=>.str (kT (cks.getD k.toNat (0,0)))
 |_=>.non
theorem sf{α β:Type}(f:α->β)(d:α):∀l:List α,(List.range l.length).map (λk=>f (l.getD k d))=l.map f:=λl=>by
 refine List.ext_getElem (by simp) λk h1 h2=>?_
 simp at h1;simp[h1]
theorem tK(hM:Fm M)(hp:M p=none)(hl:cks.length<=6)(hc:∀c∈cks,SmC c){x1 x2 x3:Option D}:fc {toWB:=B cls kls fad,call:=aa T (B cls kls fad) (n+5)} (.name 0) .no (.call 13 (.cons (.meth (.var 1) 28932044387 (.cons (.var 0) .nil)) .nil)) (λ_=>True) p Q (rng 0 cks.length) [] (aw [none,some 0] [some (wO kls cks wz),x1,x2,x3]) (put M p (.lst []))=Q (.ref p) (put M p (.lst ((cks.map kT).map D.str))):=by
 have m2:∀{M:MH}{R:Nat->Prop},c8 (B cls kls fad) 28932044387 (wO kls cks wz) M R=R 9:=λ{M R}=>o_m (by decide) (by decide) (by decide)
 rw[show aw [none,some 0] [some (wO kls cks wz),x1,x2,x3]=[none,some (wO kls cks wz)] from rfl,eG (λσ=>∃x,σ=[x,some (wO kls cks wz)]) (λd=>[some d,some (wO kls cks wz)]) (λ_=>true) (kAt cks) _ _ _ ⟨_,rfl⟩ hM hp (by
   rw[fV,List.length_map,List.length_range,List.length_nil];exact Nat.lt_of_le_of_lt (show 0+cks.length<=6 by omega) (by decide)) (λ_ _=>trivial) (λd hd=>by
   refine⟨⟨_,rfl⟩,λσ ⟨x,e⟩ M k=>?_⟩
   subst e;rfl) (λ_ _ _ _ _=>rfl) (λd hd _ M' hM' Q=>by
   rw[fV]at hd;obtain⟨k,hk,rfl⟩:=List.mem_map.mp hd;have hk:=List.mem_range.mp hk;have ok:okH cks.length (k:Int)=true:=by simp[okH];omega
   have hs:SmC (cks.getD k (0,0)):=by
    rw[List.getD_eq_getElem?_getD,List.getElem?_eq_getElem hk];exact hc _ (by simp)
   have cc:∀{Q:VK3}{E:XN},aa T (B cls kls fad) (n+5) 9 [wO kls cks wz,.int k] M' Q E=Q (cD (cks.getD k (0,0))) M':=λ{Q E}=>by
    rw[l8 (n:=n+1),if_pos ok];simp
   have cs:∀{Q:VK3}{E:XN},aa T (B cls kls fad) (n+5) 13 [cD (cks.getD k (0,0))] M' Q E=Q (.str (kT (cks.getD k (0,0)))) M':=λ{Q E}=>lO (n:=n+2) hM'.1 hs
   simp only[List.getD_eq_getElem?_getD]at cc cs;simp[m2,cc,cs,kAt])]
 rw[List.filter_eq_self.mpr (λ_ _=>rfl),List.nil_append,fV,List.map_map,List.map_map,<-sf (D.str∘kT) (0,0) cks]
 rfl
noncomputable def fAt(g:Gf)(i:Nat):D->D
 |.int k=>.str (match g i k.toNat with|some q=>yT (wyk i k.toNat q)|none=>"")
 |_=>.non
noncomputable def hAt(g:Gf)(i:Nat):D->Bool
 |.int k=>(g i k.toNat).isSome
 |_=>false
theorem sR(g:Gf)(i:Nat):∀l:List Nat,((l.map λk:Nat=>D.int (k:Int)).filter (hAt g i)).map (fAt g i)=((l.filterMap λj=>(g i j).map (wyk i j)).map yT).map D.str
 |[]=>rfl
 |j::r=>by
  have ih:=sR g i r;cases q:g i j with
  |none=>simp[hAt,q]at ih ⊢;exact ih
  |some v=>simp[hAt,fAt,q]at ih ⊢;exact ih
theorem Ar(hM:Fm M)(hl:cks.length=H)(h6:H<=6)(G:Gk g H)(Z:Wz g H wz){i:Nat}(hi:i < H){x1 x2:Option D}:kN {toWB:=B cls kls fad,call:=aa T (B cls kls fad) (n+5)} (.name 0) (.yes (.val (.meth (.var 2) 535528667410664 (.cons (.var 1) (.cons (.var 0) .nil))))) (.call 14 (.cons (.var 1) (.cons (.var 0) (.cons (.meth (.var 2) 1994999 (.cons (.var 1) (.cons (.var 0) .nil))) .nil)))) (λ_=>True) Q (rng 0 H) (aw [none,some 3,some 0] [some (wO kls cks wz),x1,x2,some (.int i)]) M=Q (.rol (((wyR g H i).map yT).map D.str)) M:=by
 have m3:∀{M:MH}{R:Nat->Prop},c8 (B cls kls fad) 535528667410664 (wO kls cks wz) M R=R 8:=λ{M R}=>o_m (by decide) (by decide) (by decide)
 have m4:∀{M:MH}{R:Nat->Prop},c8 (B cls kls fad) 1994999 (wO kls cks wz) M R=R 10:=λ{M R}=>o_m (by decide) (by decide) (by decide)
 rw[show aw [none,some 3,some 0] [some (wO kls cks wz),x1,x2,some (.int i)]=[none,some (.int i),some (wO kls cks wz)] from rfl,gr (hAt g i) (fAt g i) hM (by rw[fV];simp;omega) (λd hd M' hM' Q=>by
   rw[fV]at hd;obtain⟨k,hk,rfl⟩:=List.mem_map.mp hd;have hk:=List.mem_range.mp hk;have ch:∀{Q:VK3}{E:XN},aa T (B cls kls fad) (n+5) 8 [wO kls cks wz,.int i,.int k] M' Q E=Q (.bl (g i k).isSome) M':=λ{Q E}=>by rw[fH (n:=n+4),Z.has hi hk]
   simp[m3,ch,hAt]) (λd hd hcd M' hM' Q=>by
   rw[fV]at hd;obtain⟨k,hk,rfl⟩:=List.mem_map.mp hd;have hk:=List.mem_range.mp hk;simp only[hAt,Int.toNat_natCast]at hcd;obtain⟨q,hq⟩:=Option.isSome_iff_exists.mp hcd;have hw:wyk i k q∈wys g H:=mem_wys.mpr ⟨i,k,q,hi,hk,hq,rfl⟩;have cw:∀{Q:VK3}{E:XN},aa T (B cls kls fad) (n+5) 10 [wO kls cks wz,.int i,.int k] M' Q E=Q (wv (wyk i k q)) M':=λ{Q E}=>mj (n:=n) (w:=wyk i k q) (by rw[hl];exact fU G _ hw) Z.nd ((Z.m _).mpr hw)
   have cs:∀{Q:VK3}{E:XN},aa T (B cls kls fad) (n+5) 14 [.int i,.int k,wv (wyk i k q)] M' Q E=Q (.str (yT (wyk i k q))) M':=λ{Q E}=>pj (n:=n+2) (w:=wyk i k q) hM'.1 (om h6 G _ hw)
   simp[m4,cw,cs,fAt,hq])]
 rw[fV,sR];rfl
theorem fO(g:Gf)(H i:Nat):(wyR g H i).length<=H:=by
 unfold wyR;exact Nat.le_trans (List.length_filterMap_le ..) (by simp)
theorem j5(hM:Fm M)(hp:M p=none)(hl:cks.length=H)(h6:H<=6)(G:Gk g H)(Z:Wz g H wz){De:Ends3}{ES:St3->XN}{R:Prop}:∀(is:List Nat)(ts:List Str)(x3:Option D),(∀i∈is,i < H)->ts.length+is.length * 6<=100->(∀x3,De.nx [some (wO kls cks wz),some (.rol (rng 0 H)),some (.ref p),x3] (put M p (.lst ((ts++(is.flatMap (wyR g H)).map yT).map D.str)))=R)->
  fm {toWB:=B cls kls fad,call:=aa T (B cls kls fad) (n+5)} (.name 3) b9 ES (λ_=>True) De (is.map λk:Nat=>D.int (k:Int)) [some (wO kls cks wz),some (.rol (rng 0 H)),some (.ref p),x3] (put M p (.lst (ts.map D.str)))=R
 |[],ts,x3,_,_,hR=>by
  have:=hR x3;simp only[List.flatMap_nil,List.map_nil,List.append_nil]at this;rw[List.map_nil,bT,this];simp
 |i::r,ts,x3,hi,hz,hR=>by
  have hi0:=hi i (by simp)
  have rl:=fO g H i;simp only[List.length_cons]at hz;have ih:=j5 hM hp hl h6 G Z (De:=De) (ES:=ES) (R:=R) r (ts++(wyR g H i).map yT) (some (.int i)) (λj hj=>hi j (List.mem_cons_of_mem _ hj)) (by simp;omega) (λx=>by have:=hR x;simpa using this)
  have cr:∀{Q:VK3}{x1 x2:Option D},_:=λ{Q x1 x2}=>Ar (cls:=cls) (kls:=kls) (fad:=fad) (n:=n) (Q:=Q) (x1:=x1) (x2:=x2) (hM.put p (.lst (ts.map D.str))) hl h6 G Z hi0
  have hs:ts.length+(wyR g H i).length<=PySem.sizeLine:=szl (by omega)
  rw[List.map_cons,bj];simp only[b9]at ih ⊢;simp[isLstM,ah,cr];have ex:∀{es:List D}{Q:VK3},(ts.map D.str).length+es.length<=PySem.sizeLine->rBm .extend (.ref p) [.rol es] (put M p (.lst (ts.map D.str))) Q=Q .non (put M p (.lst (ts.map D.str++es))):=λ{es Q} h=>by
   simp only[List.length_map]at h;simp[rBm,ag,ah,cV,h]
  rw[ex (by simpa using hs)]
  simp only[List.map_append,List.map_map]at ih;exact iff_of_eq ih
theorem lc(hM:Fm M)(hl:cks.length=H)(h1:1<=H)(h6:H<=6)(hc:∀c∈cks,SmC c)(G:Gk g H)(Z:Wz g H wz):aa T (B cls kls fad) (n+6) 15 [wO kls cks wz] M Q E=Q (.str (gW cks (wys g H))) M:=by
 have m1:∀{M:MH}{R:Nat->Prop},c8 (B cls kls fad) 31081607400 (wO kls cks wz) M R=R 6:=λ{M R}=>o1
 have ch:∀{M:MH}{Q:VK3}{E:XN},aa T (B cls kls fad) (n+5) 6 [wO kls cks wz] M Q E=Q (.int cks.length) M:=λ{M Q E}=>fY (n:=n+4)
 simp[lr,cF,m1,ch];subst hl;have e1:(cks.length:Int)<=1048576:=by omega
 have e2:(rng 0 cks.length).length<=PySem.sizeLine:=by rw[fV,List.length_map,List.length_range];exact szl (by omega)
 rw[eq_true e1,eq_true e2,true_and,true_and];refine iff_of_eq (ai hM λp hp=>?_)
 rw[tK hM hp h6 hc];rw[fV];have lp:=j5 (cls:=cls) (kls:=kls) (fad:=fad) (n:=n) (cks:=cks) (wz:=wz) (g:=g) (H:=cks.length) hM hp rfl h6 G Z (De:={nx:=λσ' M'=>au {toWB:=B cls kls fad,call:=aa T (B cls kls fad) (n+5)} (.cons (.ret (.bm .join (.con (.str (Str.ofString "; "))) (.cons (.var 2) .nil))) .nil) {nx:=λx M'=>Q .non (ac M M'),rt:=λv M'=>Q v (ac M M')} (λx i M'=>E i (ac M M')) σ' M',rt:=λv M'=>Q v (ac M M')}) (ES:=λx i M'=>E i (ac M M')) (R:=Q (.str (gW cks (wys g cks.length))) M) (List.range cks.length) (cks.map kT) none (λi hi=>List.mem_range.mp hi) (by simp;omega) (λx3=>?_)
 ·rw[fV]at lp;exact lp
 ·have hW:Wl cks (wys g cks.length):=⟨by
   have:(wys g cks.length).length<=cks.length * 6:=by
    unfold wys;rw[List.length_flatMap];have:∀l:List Nat,(l.map λa=>(wyR g cks.length a).length).sum<=l.length * 6:=λl=>by
     induction l with
     |nil=>simp
     |cons a r ih=>
      have:=fO g cks.length a;simp;omega
    simpa using this (List.range cks.length)
   omega,hc,om h6 G⟩
  have jr:∀{Q:VK3},rBm .join (.str (Str.ofString "; ")) [.ref p] (put M p (.lst ((pts cks (wys g cks.length)).map D.str))) Q=Q (.str (gW cks (wys g cks.length))) (put M p (.lst ((pts cks (wys g cks.length)).map D.str))):=λ{Q}=>by
   have:=t5 (y:="; ") (ts:=pts cks (wys g cks.length)) (by have:=hW.l;simp[pts];omega) (λt ht=>Nat.le_trans (cY hW t ht) (by decide)) (by decide +kernel)
   simp[rBm,ag,ah,gf,this,i7,gW]
  show au _ _ _ _ _ (put M p (.lst ((pts cks (wys g cks.length)).map D.str)))=_;simp only[pts]at jr ⊢;simp[-List.map_append,jr,hp]
end
end G
namespace G
open L2
open PySem (Str)
section
variable {cls kls fad:Nat->PySem.Addr}{M:MH}{Q:VK3}{E:XN}{n:Nat}{cks:List (Int×Int)}{wz:List Wy}{g:Gf}{H:Nat}{p:PySem.Addr}
theorem Ae:4<=PySem.sizeLine:=by decide
theorem iw(hM:Fm M)(hp:M p=none)(hl:cks.length=H)(h6:H<=6)(G:Gk g H)(Z:Wz g H wz){i:Nat}(hi:i < H){De:Ends3}{ES:St3->XN}{R:Prop}{x1:Option D}:∀(js:List Nat)(acc:List Wy)(x4 x5 x6:Option D),(∀j∈js,j < H)->acc.length+js.length<=100->(∀x4 x5 x6,De.nx [some (wO kls cks wz),x1,some (.ref p),some (.int i),x4,x5,x6] (put M p (.lst ((acc++js.filterMap λj=>(g i j).map (wyk i j)).map wD)))=R)->
  fm {toWB:=B cls kls fad,call:=aa T (B cls kls fad) (n+6)} (.name 4) bg ES (λ_=>True) De (js.map λk:Nat=>D.int (k:Int)) [some (wO kls cks wz),x1,some (.ref p),some (.int i),x4,x5,x6] (put M p (.lst (acc.map wD)))=R
 |[],acc,x4,x5,x6,_,_,hR=>by
  have:=hR x4 x5 x6;simp only[List.filterMap_nil,List.append_nil]at this;rw[List.map_nil,bT,this];simp
 |j::r,acc,x4,x5,x6,hj,hz,hR=>by
  have hj0:=hj j (by simp)
  simp only[List.length_cons]at hz;have hs:acc.length < PySem.sizeLine:=Nat.lt_of_le_of_lt (show acc.length<=100 by omega) (by decide)
  have m4:∀{M:MH}{R:Nat->Prop},c8 (B cls kls fad) 1994999 (wO kls cks wz) M R=R 10:=λ{M R}=>o_m (by decide) (by decide) (by decide)
  rw[List.map_cons,bj];by_cases hij:i=j
  ·subst hij;have ih:=iw hM hp hl h6 G Z hi (De:=De) (ES:=ES) (R:=R) (x1:=x1) r acc (some (.int i)) (some .non) (some .non) (λk hk=>hj k (List.mem_cons_of_mem _ hk)) (by omega) (λx4 x5 x6=>by have:=hR x4 x5 x6;simpa [G.no i] using this)
   simp only[bg]at ih ⊢;simp at ih ⊢;exact ih
  ·have hij':¬ (i:Int)=(j:Int):=by omega
   cases hg:g i j with
   |none=>
    have ih:=iw hM hp hl h6 G Z hi (De:=De) (ES:=ES) (R:=R) (x1:=x1) r acc (some (.int j)) (some .non) (some .non) (λk hk=>hj k (List.mem_cons_of_mem _ hk)) (by omega) (λx4 x5 x6=>by have:=hR x4 x5 x6;simpa [hg] using this)
    have hno:[(i:Int),(j:Int)]∉wz.map pr:=of_decide_eq_false ((Z.has hi hj0).trans (by rw[hg];rfl))
    have cw:∀{M:MH}{Q:VK3}{E:XN},aa T (B cls kls fad) (n+6) 10 [wO kls cks wz,.int i,.int j] M Q E=E ⟨3,none⟩ M:=λ{M Q E}=>sD (n:=n+1) ⟨by simp[okH];omega,by simp[okH];omega,hij'⟩ hno
    simp only[bg]at ih ⊢;simp[hij,hij',m4,cw]at ih ⊢;exact ih
   |some q=>
    have hw:wyk i j q∈wys g H:=mem_wys.mpr ⟨i,j,q,hi,hj0,hg,rfl⟩;have cw:∀{M:MH}{Q:VK3}{E:XN},aa T (B cls kls fad) (n+6) 10 [wO kls cks wz,.int i,.int j] M Q E=Q (wv (wyk i j q)) M:=λ{M Q E}=>mj (n:=n+1) (w:=wyk i j q) (by rw[hl];exact fU G _ hw) Z.nd ((Z.m _).mpr hw)
    have ih:=iw hM hp hl h6 G Z hi (De:=De) (ES:=ES) (R:=R) (x1:=x1) r (acc++[wyk i j q]) (some (.int j)) (some (.int q.1)) (some (oi q.2)) (λk hk=>hj k (List.mem_cons_of_mem _ hk)) (by simp;omega) (λx4 x5 x6=>by have:=hR x4 x5 x6;simpa [hg] using this)
    simp only[bg]at ih ⊢;simp[hij,hij',m4,cw,wv,way,wyk,af,hs,Ae,wD]at ih ⊢;exact ih
theorem mJ(hM:Fm M)(hp:M p=none)(hl:cks.length=H)(h6:H<=6)(G:Gk g H)(Z:Wz g H wz){De:Ends3}{ES:St3->XN}{R:Prop}{x1:Option D}:∀(is:List Nat)(acc:List Wy)(x3 x4 x5 x6:Option D),(∀i∈is,i < H)->acc.length+is.length * 6<=80->(∀x3 x4 x5 x6,De.nx [some (wO kls cks wz),x1,some (.ref p),x3,x4,x5,x6] (put M p (.lst ((acc++is.flatMap (wyR g H)).map wD)))=R)->
  fm {toWB:=B cls kls fad,call:=aa T (B cls kls fad) (n+6)} (.name 3) c6 ES (λ_=>True) De (is.map λk:Nat=>D.int (k:Int)) [some (wO kls cks wz),x1,some (.ref p),x3,x4,x5,x6] (put M p (.lst (acc.map wD)))=R
 |[],acc,x3,x4,x5,x6,_,_,hR=>by
  have:=hR x3 x4 x5 x6;simp only[List.flatMap_nil,List.append_nil]at this;rw[List.map_nil,bT,this];simp
 |i::r,acc,x3,x4,x5,x6,hi,hz,hR=>by
  have hi0:=hi i (by simp)
  have rl:=fO g H i;simp only[List.length_cons]at hz;have m1:∀{M:MH}{R:Nat->Prop},c8 (B cls kls fad) 31081607400 (wO kls cks wz) M R=R 6:=λ{M R}=>o1
  have ch:∀{M:MH}{Q:VK3}{E:XN},aa T (B cls kls fad) (n+6) 6 [wO kls cks wz] M Q E=Q (.int cks.length) M:=λ{M Q E}=>fY (n:=n+5)
  have ih:=λx4 x5 x6=>mJ hM hp hl h6 G Z (De:=De) (ES:=ES) (R:=R) (x1:=x1) r (acc++wyR g H i) (some (.int i)) x4 x5 x6 (λj hj=>hi j (List.mem_cons_of_mem _ hj)) (by simp;omega) (λx3 x4 x5 x6=>by have:=hR x3 x4 x5 x6;simpa using this)
  rw[List.map_cons,bj];simp only[c6]at ih ⊢;simp[m1,ch];rw[eq_true (show (cks.length:Int) < 4611686018427387904 by omega),true_and,hl,fV]
  exact iff_of_eq (iw hM hp hl h6 G Z hi0 (List.range H) acc x4 x5 x6 (λj hj=>List.mem_range.mp hj) (by rw[List.length_range];omega) (λx4 x5 x6=>ih x4 x5 x6))
noncomputable def cAt(cks:List (Int×Int)):D->D
 |.int k=>cD (cks.getD k.toNat (0,0))
 |_=>.non
theorem yl(hM:Fm M)(hl:cks.length=H)(h6:H<=6)(G:Gk g H)(Z:Wz g H wz):aa T (B cls kls fad) (n+7) 27 [wO kls cks wz] M Q E=Q (.tup [.rol (cks.map cD),.rol ((wys g H).map wD)]) M:=by
 have m1:∀{M:MH}{R:Nat->Prop},c8 (B cls kls fad) 31081607400 (wO kls cks wz) M R=R 6:=λ{M R}=>o1
 have ch:∀{M:MH}{Q:VK3}{E:XN},aa T (B cls kls fad) (n+6) 6 [wO kls cks wz] M Q E=Q (.int cks.length) M:=λ{M Q E}=>fY (n:=n+5)
 have m2:∀{M:MH}{R:Nat->Prop},c8 (B cls kls fad) 28932044387 (wO kls cks wz) M R=R 9:=λ{M R}=>o_m (by decide) (by decide) (by decide)
 simp[oE,dq,m1,ch];rw[eq_true (show (cks.length:Int) < 4611686018427387904 by omega),true_and,show aw [none,some 0] [some (wO kls cks wz),none,none,none,none,none,none]=[none,some (wO kls cks wz)] from rfl,fV,eI (cAt cks) hM (by simp;omega) (λd hd M' hM' Q=>by
  obtain⟨k,hk,rfl⟩:=List.mem_map.mp hd;have hk:=List.mem_range.mp hk;have ok:okH cks.length (k:Int)=true:=by simp[okH];omega
  have cc:∀{Q:VK3}{E:XN},aa T (B cls kls fad) (n+6) 9 [wO kls cks wz,.int k] M' Q E=Q (cD (cks.getD k (0,0))) M':=λ{Q E}=>by
   rw[l8 (n:=n+2),if_pos ok];simp
  simp only[List.getD_eq_getElem?_getD]at cc;simp[m2,cc,cAt])]
 have ec:((List.range cks.length).map λk:Nat=>D.int (k:Int)).map (cAt cks)=cks.map cD:=by
  rw[List.map_map,<-sf cD (0,0) cks];rfl
 rw[ec];refine iff_of_eq (ai hM λp hp=>?_)
 rw[true_and,hl];refine mJ hM hp hl h6 G Z (List.range H) [] none none none none (λi hi=>List.mem_range.mp hi) (by simp;omega) λx3 x4 x5 x6=>?_
 rw[List.nil_append,show (List.range H).flatMap (wyR g H)=wys g H from rfl];simp[ir hp,af]
end
end G
namespace G
open L2
open PySem (Str)
section
variable {cls kls fad:Nat->PySem.Addr}{M:MH}{Q:VK3}{E:XN}{n:Nat}{x:Int}{a b:PySem.Addr}{H:Nat}
theorem sg(ns:List Int)(k:Nat):∃x:Int,∀{cls kls fad:Nat->PySem.Addr}{n:Nat}{M:MH}{Q:VK3}{E:XN},aa T (B cls kls fad) (n+1) 23 [scr ns,.int k] M Q E=Q (.int x) M:=by
 by_cases h:k < ns.length
 ·refine⟨ns[k],λ{cls kls fad n M Q E}=>?_⟩
  have h':(k:Int) < ns.length:=by omega
  have hat:atI (ns.map D.int) (k:Int)=some (.int ns[k]):=f9 (by simp[h])
  simp[fg,bo,scr,h,h',bI hat]
 ·refine⟨0,λ{cls kls fad n M Q E}=>?_⟩
  have h':¬ (k:Int) < ns.length:=by omega
  simp[fg,bo,scr,h,h']
noncomputable def amt(x:Int):Int:=if x % 4=0 then x / 4 % 5 else if x % 4=1 then x / 4 % 1000 else if x % 4=2 then x / 4 * (10 ^ 21+7) else 0
theorem gX(h0:0<=x)(h1:x < 2147483647):0<=amt x/\amt x < 10 ^ 31:=by
 unfold amt;split
 ·omega
 ·split
  ·omega
  ·split
   ·omega
   ·omega
theorem f8(h0:0<=x)(h1:x < 2147483647):aa T (B cls kls fad) (n+1) 24 [.int x] M Q E=Q (.int (amt x)) M:=by
 unfold amt;have m1' : -(10 ^ 240) < x / 4:=by omega
 have m2':x / 4 < 10 ^ 240:=by omega
 have m3:eB (x / 4) 1000000000000000000007=True:=kI m1' m2' (by decide) (by decide)
 by_cases m0:x % 4=0
 ·simp[cz,aQ,m0,aD]
 by_cases m1:x % 4=1
 ·simp[cz,aQ,m0,m1,aD]
 by_cases m2:x % 4=2
 ·simp[cz,aQ,m0,m1,m2,aD,jT,m3]
 ·simp[cz,aQ,m0,m1,m2,aD]
noncomputable def nxt(x:Int)(k:Nat):Int:=(x * x+48271 * x+k) % 2147483647
theorem sM(x:Int)(k:Nat):0<=nxt x k/\nxt x k < 2147483647:=by
 unfold nxt;omega
noncomputable def inn(x:Int):Nat->Int
 |0=>x
 |j+1=>nxt (inn x j) j
theorem iE(h:0<=x/\x < 2147483647):∀j,0<=inn x j/\inn x j < 2147483647
 |0=>h
 |j+1=>sM _ _
noncomputable def wyO(i j:Nat)(y:Int):Option (Int×Option Int):=if i≠j/\y / 7 % 2=0 then some (amt y,if y % 5=0 then none else some (amt y+amt (y / 11))) else none
theorem Fk{y:Int}(h:0<=y/\y < 2147483647):fG (amt y) (if y % 5=0 then none else some (amt y+amt (y / 11)))=false:=by
 obtain⟨a1,a2⟩:=gX h.1 h.2;obtain⟨a3,a4⟩:=gX (x:=y / 11) (by omega) (by omega)
 by_cases h5:y % 5=0
 ·simp[fG,h5];omega
 ·simp[fG,h5];omega
theorem EB{y:Int}(h:0<=y/\y < 2147483647):Sm (amt y)/\Sm (amt y+amt (y / 11)):=by
 obtain⟨a1,a2⟩:=gX h.1 h.2;obtain⟨a3,a4⟩:=gX (x:=y / 11) (by omega) (by omega)
 unfold Sm;constructor<;>omega
theorem mn{i:Nat}{x0:Int}(hx:0<=x0/\x0 < 2147483647)(hab:a≠b){cks:List (Int×Int)}{De:Ends3}{ES:St3->XN}{R:Prop}{y0 y1 y6:Option D}:∀(k j:Nat)(acc:List Wy)(y7 y8 y9:Option D),acc.length+k<=100->
  (∀y7 y8 y9,De.nx [y0,y1,some (.ref a),some (.ref b),some (.int (inn x0 (j+k))),some (.int i),y6,y7,y8,y9] (HC M a b cks (acc++(List.range' j k).filterMap λj=>(wyO i j (inn x0 (j+1))).map (wyk i j)))=R)->
  fm {toWB:=B cls kls fad,call:=aa T (B cls kls fad) (n+1)} (.name 7) cQ ES (λ_=>True) De ((List.range' j k).map λk:Nat=>D.int (k:Int)) [y0,y1,some (.ref a),some (.ref b),some (.int (inn x0 j)),some (.int i),y6,y7,y8,y9] (HC M a b cks acc)=R
 |0,j,acc,y7,y8,y9,_,hR=>by
  have:=hR y7 y8 y9;simp only[List.range'_zero,List.filterMap_nil,List.append_nil,Nat.add_zero]at this;rw[List.range'_zero,List.map_nil,bT,this];simp
 |k+1,j,acc,y7,y8,y9,hz,hR=>by
  have hy:=iE hx (j+1);have hj:=iE hx j;have m1:eB (inn x0 j) (inn x0 j)=True:=kI (by omega) (by omega) (by omega) (by omega)
  have m2:eB 48271 (inn x0 j)=True:=kI (by decide) (by decide) (by omega) (by omega)
  have en:(inn x0 j * inn x0 j+48271 * inn x0 j+(j:Int)) % 2147483647=inn x0 (j+1):=rfl;have c1:∀{M:MH}{Q:VK3}{E:XN},aa T (B cls kls fad) (n+1) 24 [.int (inn x0 (j+1))] M Q E=Q (.int (amt (inn x0 (j+1)))) M:=λ{M Q E}=>f8 hy.1 hy.2
  have c2:∀{M:MH}{Q:VK3}{E:XN},aa T (B cls kls fad) (n+1) 24 [.int (inn x0 (j+1) / 11)] M Q E=Q (.int (amt (inn x0 (j+1) / 11))) M:=λ{M Q E}=>f8 (by omega) (by omega)
  rw[List.range'_succ,List.map_cons,bj];have hz':acc.length < 10000:=by omega
  have ih:=λacc' y7 y8 y9 h1 h2=>mn hx hab (i:=i) (De:=De) (ES:=ES) (R:=R) (y0:=y0) (y1:=y1) (y6:=y6) (cks:=cks) k (j+1) acc' y7 y8 y9 h1 h2
  have hR':∀y7 y8 y9,De.nx [y0,y1,some (.ref a),some (.ref b),some (.int (inn x0 (j+1+k))),some (.int i),y6,y7,y8,y9] (HC M a b cks (acc++((wyO i j (inn x0 (j+1))).map (wyk i j)).toList++(List.range' (j+1) k).filterMap λj=>(wyO i j (inn x0 (j+1))).map (wyk i j)))=R:=λy7 y8 y9=>by
   have:=hR y7 y8 y9;rw[List.range'_succ,show j+(k+1)=j+1+k by omega]at this
   cases q:wyO i j (inn x0 (j+1)) with
   |none=>simpa [q] using this
   |some v=>simpa [q] using this
  clear hR;have ia:=ih (acc++((wyO i j (inn x0 (j+1))).map (wyk i j)).toList);have hlen:(acc++((wyO i j (inn x0 (j+1))).map (wyk i j)).toList).length+k<=100:=by
   rw[List.length_append];have:((wyO i j (inn x0 (j+1))).map (wyk i j)).toList.length<=1:=by cases (wyO i j (inn x0 (j+1))).map (wyk i j)<;>simp
   omega
  have ib:=λy7 y8 y9=>ia y7 y8 y9 hlen hR'
  clear ia ih hR';generalize inn x0 (j+1)=y at *
  simp only[cQ]at ib ⊢;by_cases hij:i=j
  ·subst hij;have e:wyO i i y=none:=by simp[wyO]
   rw[e]at ib;simp at ib;by_cases h5:y % 5=0
   ·simp[m1,m2,en,c1,c2,aD,h5,ib]
   ·simp[m1,m2,en,c1,c2,aD,h5,ib]
  ·have hij':¬ (i:Int)=(j:Int):=by omega
   by_cases h7:y / 7 % 2=0
   ·by_cases h5:y % 5=0
    ·have e:wyO i j y=some (amt y,none):=by simp[wyO,hij,h7,h5]
     rw[e]at ib;simp at ib;have ap:∀{De:Ends3}{σ:St3},dL b De σ (.tup [.int i,.int j,.int (amt y),.non]) (HC M a b cks acc)=De.nx σ (HC M a b cks (acc++[wyk i j (amt y,none)])):=λ{De σ}=>sV (w:=wyk i j (amt y,none)) hz'
     simp[m1,m2,en,c1,c2,aD,h5,h7,hij,hij',dX gb,ap,af,ib]
    ·have e:wyO i j y=some (amt y,some (amt y+amt (y / 11))):=by simp[wyO,hij,h7,h5]
     rw[e]at ib;simp at ib;have ap:∀{De:Ends3}{σ:St3},dL b De σ (.tup [.int i,.int j,.int (amt y),.int (amt y+amt (y / 11))]) (HC M a b cks acc)=De.nx σ (HC M a b cks (acc++[wyk i j (amt y,some (amt y+amt (y / 11)))])):=λ{De σ}=>sV (w:=wyk i j (amt y,some (amt y+amt (y / 11)))) hz'
     simp[m1,m2,en,c1,c2,aD,h5,h7,hij,hij',dX gb,ap,af,ib]
   ·have e:wyO i j y=none:=by simp[wyO,h7]
    rw[e]at ib;simp at ib;by_cases h5:y % 5=0
    ·simp[m1,m2,en,c1,c2,aD,h5,h7,hij,hij',ib]
    ·simp[m1,m2,en,c1,c2,aD,h5,h7,hij,hij',ib]
end
end G
namespace G
open L2
open PySem (Str)
section
variable {cls kls fad:Nat->PySem.Addr}{M:MH}{Q:VK3}{E:XN}{n:Nat}{x:Int}{a b:PySem.Addr}{H:Nat}
noncomputable def hZ(x:Int)(H:Nat):Nat->Int
 |0=>x
 |i+1=>inn (nxt (hZ x H i) i) H
noncomputable def nI(x:Int)(H i:Nat):Int:=nxt (hZ x H i) i
noncomputable def clk(x:Int)(H i:Nat):Int×Int:=(1+amt (nI x H i),1+amt (nI x H i)+amt (nI x H i / 11))
noncomputable def gx(x:Int)(H:Nat):Gf:=λi j=>wyO i j (inn (nI x H i) (j+1))
theorem nO(x:Int)(H i:Nat):0<=nI x H i/\nI x H i < 2147483647:=sM _ _
theorem uZ(h:0<=x/\x < 2147483647):∀i,0<=hZ x H i/\hZ x H i < 2147483647
 |0=>h
 |i+1=>iE (nO x H i) H
theorem FE(x:Int)(H:Nat):Gk (gx x H) H where
 no:=λi=>by simp[gx,wyO]
 l:=λi j p h=>by
  unfold gx wyO at h;split at h
  ·cases h;exact Fk (iE (nO x H i) (j+1))
  ·cases h
 s:=λi j p h=>by
  unfold gx wyO at h;split at h
  ·cases h;have:=EB (iE (nO x H i) (j+1));refine⟨this.1,λk hk=>?_⟩
   simp only at hk;split at hk
   ·cases hk
   ·cases hk;exact this.2
  ·cases h
theorem ze(x:Int)(H i:Nat):gi (clk x H i)=false/\SmC (clk x H i):=by
 have h:=nO x H i;obtain⟨a1,a2⟩:=gX h.1 h.2;obtain⟨a3,a4⟩:=gX (x:=nI x H i / 11) (by omega) (by omega)
 refine⟨?_,?_,?_⟩
 ·have b1:¬ (1+amt (nI x H i) < 1):=by omega
  have b2:¬ (1+amt (nI x H i)+amt (nI x H i / 11) < 1+amt (nI x H i)):=by omega
  show (decide (1+amt (nI x H i) < 1)||decide (1+amt (nI x H i)+amt (nI x H i / 11) < 1+amt (nI x H i)))=false
  rw[decide_eq_false b1,decide_eq_false b2];rfl
 ·show (1+amt (nI x H i)).natAbs < 10 ^ 32;omega
 ·show (1+amt (nI x H i)+amt (nI x H i / 11)).natAbs < 10 ^ 32;omega
theorem kS(hx:0<=x/\x < 2147483647)(hab:a≠b)(h6:H<=6){De:Ends3}{ES:St3->XN}{R:Prop}{y0:Option D}:∀(k i:Nat) (cks:List (Int×Int)) (acc:List Wy)(y5 y6 y7 y8 y9:Option D),cks.length+k<=50->acc.length+k * 6<=80->
  (∀y4 y5 y6 y7 y8 y9,De.nx [y0,some (.int H),some (.ref a),some (.ref b),y4,y5,y6,y7,y8,y9] (HC M a b (cks++(List.range' i k).map (clk x H)) (acc++(List.range' i k).flatMap (wyR (gx x H) H)))=R)->
  fm {toWB:=B cls kls fad,call:=aa T (B cls kls fad) (n+1)} (.name 5) cN ES (λ_=>True) De ((List.range' i k).map λk:Nat=>D.int (k:Int)) [y0,some (.int H),some (.ref a),some (.ref b),some (.int (hZ x H i)),y5,y6,y7,y8,y9] (HC M a b cks acc)=R
 |0,i,cks,acc,y5,y6,y7,y8,y9,_,_,hR=>by
  have:=hR (some (.int (hZ x H i))) y5 y6 y7 y8 y9;simp only[List.range'_zero,List.map_nil,List.flatMap_nil,List.append_nil]at this;rw[List.range'_zero,List.map_nil,bT,this];simp
 |k+1,i,cks,acc,y5,y6,y7,y8,y9,hz,hz2,hR=>by
  have hy:=nO x H i;have hj:=uZ (H:=H) hx i;have rl:=fO (gx x H) H i;have m1:eB (hZ x H i) (hZ x H i)=True:=kI (by omega) (by omega) (by omega) (by omega)
  have m2:eB 48271 (hZ x H i)=True:=kI (by decide) (by decide) (by omega) (by omega)
  have en:(hZ x H i * hZ x H i+48271 * hZ x H i+(i:Int)) % 2147483647=nI x H i:=rfl;have c1:∀{M:MH}{Q:VK3}{E:XN},aa T (B cls kls fad) (n+1) 24 [.int (nI x H i)] M Q E=Q (.int (amt (nI x H i))) M:=λ{M Q E}=>f8 hy.1 hy.2
  have c2:∀{M:MH}{Q:VK3}{E:XN},aa T (B cls kls fad) (n+1) 24 [.int (nI x H i / 11)] M Q E=Q (.int (amt (nI x H i / 11))) M:=λ{M Q E}=>f8 (by omega) (by omega)
  rw[List.range'_succ,List.map_cons,bj];have ih:=λy5 y6 y7 y8 y9=>kS hx hab h6 (De:=De) (ES:=ES) (R:=R) (y0:=y0) k (i+1) (cks++[clk x H i]) (acc++wyR (gx x H) H i) y5 y6 y7 y8 y9 (by simp;omega) (by simp;omega) (λy4 y5 y6 y7 y8 y9=>by
   have:=hR y4 y5 y6 y7 y8 y9;rw[List.range'_succ]at this;simpa using this)
  have ap:∀{De:Ends3}{σ:St3},dL a De σ (.tup [.int (1+amt (nI x H i)),.int (1+amt (nI x H i)+amt (nI x H i / 11))]) (HC M a b cks acc)=De.nx σ (HC M a b (cks++[clk x H i]) acc):=λ{De σ}=>ww hab (p:=clk x H i) (by omega)
  simp only[cN]at ih ⊢;simp[m1,m2,en,c1,c2,aD,dX (ga hab),ap,af];rw[eq_true (show (H:Int) < 4611686018427387904 by omega),true_and,fV,List.range_eq_range']
  refine iff_of_eq (mn (i:=i) (x0:=nI x H i) hy hab H 0 acc y7 y8 y9 (by omega) (λy7 y8 y9=>?_))
  have:=ih (some (.int i)) (some (.int (1+amt (nI x H i)))) y7 y8 y9;rw[Nat.zero_add,<-List.range_eq_range'];exact this
noncomputable def x0(c:Int):Int:=(c / 6 % 2147483647+7) * 48271 % 2147483647
noncomputable def hN(c:Int):Nat:=(1+c % 6).toNat
theorem bH(c:Int):1<=hN c/\hN c<=6/\(hN c:Int)=1+c % 6:=by unfold hN;omega
noncomputable def ar(c:Int):List (Int×Int):=(List.range (hN c)).map (clk (x0 c) (hN c))
noncomputable def lwy(c:Int):List Wy:=wys (gx (x0 c) (hN c)) (hN c)
theorem uT{c:Int}(hM:Fm M):aa T (B cls kls fad) (n+2) 25 [.int c] M Q E=Q (.tup [.rol ((ar c).map cD),.rol ((lwy c).map wD)]) M:=by
 obtain⟨h1,h6,he⟩:=bH c;have hx:0<=x0 c/\x0 c < 2147483647:=by unfold x0;omega
 have m1:eB (c / 6 % 2147483647+7) 48271=True:=kI (by omega) (by omega) (by decide) (by decide)
 have ex:(c / 6 % 2147483647+7) * 48271 % 2147483647=x0 c:=rfl;simp[mh,cX,af,aD,m1,ex,<-he];refine iff_of_eq (ai hM λa ha=>?_)
 refine ai (hM.put _ _) λb hb=>?_
 obtain⟨hba,hb⟩:=fv hb;rw[eq_true (show ((hN c:Nat):Int) < 4611686018427387904 by omega),true_and,fV,List.range_eq_range',show put (put M a (.lst [])) b (.lst [])=HC M a b [] [] from rfl]
 refine kS hx (Ne.symm hba) h6 (hN c) 0 [] [] none none none none none (by simp;omega) (by simp;omega) λy4 y5 y6 y7 y8 y9=>?_
 rw[List.nil_append,List.nil_append,<-List.range_eq_range'];show au _ _ _ _ _ (HC M a b (ar c) (lwy c))=_;have f1:∀Q:VK3,bu Q (.ref a) (HC M a b (ar c) (lwy c))=Q (.rol ((ar c).map cD)) (put M b (.lst ((lwy c).map wD))):=λQ=>by
  simp only[bu,ga (Ne.symm hba)];unfold HC;rw[l9 ha hba]
 simp[f1,ir hb,af]
end
end G
namespace G
open L2
open PySem (Str)
theorem pU{n:Nat}:∀(wy:List Wy) (ks:List (List Int)),(∀w∈wy,w.good n)->(ks++wy.map pr).Nodup->c4 n ks wy=0
 |[],_,_,_=>rfl
 |w::r,ks,h,nd=>by
  have hw:=h w (by simp)
  have hk:[w.i,w.j]∉ks:=λq=>by
   have:=List.nodup_append.mp nd;exact this.2.2 _ q _ (by simp[pr]) rfl
  unfold c4;rw[if_pos (show w.ok n from⟨hw.i,hw.j,hw.ne⟩),if_neg hk,if_neg (by rw[hw.l];exact Bool.false_ne_true)]
  refine pU r _ (λx hx=>h x (List.mem_cons_of_mem _ hx)) ?_
  have:ks++[[w.i,w.j]]++r.map pr=ks++(w::r).map pr:=by simp[pr]
  rw[this];exact nd
theorem xj(g:Gf)(H i:Nat):((wyR g H i).map pr).Nodup:=by
 unfold wyR;rw[List.map_filterMap];refine List.pairwise_filterMap.mpr (List.Pairwise.imp ?_ (List.nodup_range (n:=H)));intro j j' hj b hb b' hb' e;simp only[Option.map_map,Option.map_eq_some_iff,Function.comp]at hb hb';obtain⟨p,_,rfl⟩:=hb;obtain⟨p',_,rfl⟩:=hb';rw[gE,gE]at e;simp only[List.cons.injEq,and_true]at e;omega
theorem oA(g:Gf)(H:Nat):((wys g H).map pr).Nodup:=by
 unfold wys;rw[List.map_flatMap];refine List.pairwise_flatMap.mpr ⟨λi _=>xj g H i,List.Pairwise.imp ?_ (List.nodup_range (n:=H))⟩
 intro i j hij x hx y hy e;obtain⟨w,hw,rfl⟩:=List.mem_map.mp hx;obtain⟨v,hv,rfl⟩:=List.mem_map.mp hy;obtain⟨_,p,_,_,rfl⟩:=mem_wyR.mp hw;obtain⟨_,p',_,_,rfl⟩:=mem_wyR.mp hv;rw[gE,gE]at e;simp only[List.cons.injEq,and_true]at e;omega
theorem cy(g:Gf)(H:Nat):Wz g H (wys g H):=⟨λ_=>Iff.rfl,oA g H⟩
theorem qv{g:Gf}{H:Nat}{wz:List Wy}(h:wz.Perm (wys g H)):Wz g H wz:=⟨λ_=>h.mem_iff,(h.map pr).nodup_iff.mpr (oA g H)⟩
section
variable {c:Int}
noncomputable abbrev lg(c:Int):Gf:=gx (x0 c) (hN c)
theorem ak(c:Int):(ar c).length=hN c:=by simp[ar]
theorem iD(c:Int):∀p∈ar c,gi p=false/\SmC p:=λp hp=>by
 obtain⟨i,_,rfl⟩:=List.mem_map.mp hp;exact ze _ _ _
theorem rW(c:Int):Gk (lg c) (hN c):=FE _ _
theorem vG(g:Gf)(H:Nat):(wys g H).length<=H * H:=by
 unfold wys;rw[List.length_flatMap];have:∀l:List Nat,(l.map λa=>(wyR g H a).length).sum<=l.length * H:=λl=>by
  induction l with
  |nil=>simp
  |cons a r ih=>
   have:=fO g H a;rw[List.map_cons,List.sum_cons,List.length_cons,Nat.succ_mul];omega
 simpa using this (List.range H)
theorem ba(c:Int):(lwy c).length<=36:=by
 obtain⟨_,h6,_⟩:=bH c;exact Nat.le_trans (vG _ _) (Nat.mul_le_mul h6 h6)
theorem qd{wz:List Wy}(Z:Wz (lg c) (hN c) wz):ce (ar c) wz=0:=by
 obtain⟨h1,h6,_⟩:=bH c;unfold ce;rw[ak,if_neg (by omega),if_neg (λq=>?_)]
 ·exact pU wz [] (λw hw=>fU (rW c) w ((Z.m w).mp hw)) (by simpa using Z.nd)
 ·obtain⟨p,hp,hb⟩:=List.any_eq_true.mp q;rw[(iD c p hp).1]at hb;cases hb
theorem c5{wz:List Wy}(Z:Wz (lg c) (hN c) wz)(hl:wz.length=(lwy c).length):Wl (ar c) wz:=⟨by
 have:=ba c;obtain⟨h1,h6,_⟩:=bH c;rw[ak];omega,λp hp=>(iD c p hp).2,λw hw=>om (bH c).2.1 (rW c) w ((Z.m w).mp hw)⟩
theorem bq(c:Int):ar c≠[]:=λe=>by
 have:=ak c;rw[e]at this;have:=(bH c).1;simp at *
 omega
end
end G
namespace G
open L2
open PySem (Str)
theorem ml{t:Str}(hb:∀cks wy,aM (PySem.Txt.split t " ") cks wy=none):∀{ps:List Str},t∈ps->∀cks wy,bc ps cks wy=none
 |u::r,h,cks,wy=>by
  unfold bc;rcases List.mem_cons.mp h with rfl|h
  ·rw[hb]
  ·cases aM (PySem.Txt.split u " ") cks wy with
   |none=>rfl
   |some o=>exact ml hb h o.1 o.2
theorem mR{z t:Str}(ht:t∈cC "; " z)(hb:∀cks wy,aM (PySem.Txt.split t " ") cks wy=none):gQ z=none:=by
 unfold gQ;rw[ml hb ht]
theorem cL{w:Str}{r:List Str}(h1:w≠"clock")(h2:w≠"way")(cks:List (Int×Int))(wy:List Wy):aM (w::r) cks wy=none:=by
 rw[aY,if_neg (λq=>h1 q.1),if_neg (λq=>h2 q.1)]
theorem nU{r:List Str}(h:r.length≠2)(cks:List (Int×Int))(wy:List Wy):aM ("clock"::r) cks wy=none:=by
 rw[aY,if_neg (λq=>h q.2.1),if_neg (λq=>absurd q.1 (by decide +kernel))]
theorem tU{r:List Str}(h:r.length≠4)(cks:List (Int×Int))(wy:List Wy):aM ("way"::r) cks wy=none:=by
 rw[aY,if_neg (λq=>absurd q.1 (by decide +kernel)),if_neg (λq=>h q.2)]
theorem sF{w x:Str}{r:List Str}(h:rdI x=none)(cks:List (Int×Int))(wy:List Wy):aM (w::x::r) cks wy=none:=by
 rw[aY];split
 ·rename_i q;rcases r with _|⟨y,_|⟨u,s⟩⟩<;>simp at q
  show (match (match rdI x,rdI y with|some i,some j=>some (i,j)|_,_=>none) with|some p=>_|none=>none)=none
  rw[h]
 ·split
  ·rename_i q;rcases r with _|⟨y,_|⟨u,_|⟨v,_|⟨v',s⟩⟩⟩⟩<;>simp at q
   show (match (match rdM v,rdI x,rdI y,rdI u with|some m,some i,some j,some k=>some (⟨i,j,k,m⟩:Wy)|_,_,_,_=>none) with|some p=>_|none=>none)=none
   rw[h];cases rdM v<;>rfl
  ·rfl
theorem qw{r:List Str}{w:Wy}{wy:List Wy}(cks:List (Int×Int)):aM ("clock"::r) cks (wy++[w])=none:=by
 rw[aY,if_neg (λq=>by simp at q),if_neg (λq=>absurd q.1 (by decide +kernel))]
end G
namespace G
open L2
open PySem (Str)
section
variable {cls kls fad:Nat->PySem.Addr}{M:MH}{Q:VK3}{E:XN}{n:Nat}{z:Str}
noncomputable def mz:D->D
 |.bl b=>.int (if b then 1 else 0)
 |_=>.non
theorem ni{W:WC}{σ:St3}{b0 b1 b2 b3:Bool}(hM:Fm M):kN W (.name 0) .no (.bi .int (.cons (.var 0) .nil)) (λ_=>True) Q [.bl b0,.bl b1,.bl b2,.bl b3] (aw [none] σ) M=Q (.rol ([D.bl b0,.bl b1,.bl b2,.bl b3].map mz)) M:=by
 rw[show aw [none] σ=[none] from rfl,eI mz hM (by simp) (λd hd M' _ Q=>by
  simp at hd;rcases hd with rfl|rfl|rfl|rfl<;>simp[mz])]
theorem rE(hM:Fm M)(hz:z.length<=9000)(hp:(cC "; " z).length < 400)(hr:gQ z=none):aa T (B cls kls fad) (n+8) 28 [.str z] M Q E=Q (.str "text") M:=by
 have cr:∀{Q:VK3}{E:XN},aa T (B cls kls fad) (n+7) 22 [.str z] M Q E=E ⟨4,none⟩ M:=λ{Q E}=>by
  rw[dD (n:=n) hM hz hp];unfold tE;rw[hr]
 simp[bK,aP,cr];refine iff_of_eq (ai hM λa ha=>?_)
 simp +decide [ha,af];rw[ni (hM.put _ _)];simp +decide [mz,rSm,ag,eY,rBm,tyB,lW,eqD,pl,plN,res,ha]
theorem uL{x:D}(hM:Fm M)(h:iS x=true):aa T (B cls kls fad) (n+8) 28 [x] M Q E=Q (.str "text") M:=by
 have cr:∀{Q:VK3}{E:XN},aa T (B cls kls fad) (n+7) 22 [x] M Q E=E ⟨4,none⟩ M:=λ{Q E}=>by
  simp[ge,bB,af];refine iff_of_eq (ai hM λa ha=>?_)
  refine ai (hM.put _ _) λb hb=>?_
  obtain⟨hba,hb⟩:=fv hb;have cp:∀{M:MH}{Q:VK3}{E:XN},aa T (B cls kls fad) (n+6) 19 [x,.str "; "] M Q E=E ⟨4,none⟩ M:=λ{M Q E}=>oq (n:=n+4) h
  simp[cp,ha,hb]
 simp[bK,aP,cr];refine iff_of_eq (ai hM λa ha=>?_)
 simp +decide [ha,af];rw[ni (hM.put _ _)];simp +decide [mz,rSm,ag,eY,rBm,tyB,lW,eqD,pl,plN,res,ha]
theorem ut{cks:List (Int×Int)}{wy:List Wy}(hM:Fm M)(hz:z.length<=9000)(hp:(cC "; " z).length < 400)(hr:gQ z=some (cks,wy)):aa T (B cls kls fad) (n+8) 28 [.str z] M Q E=Q (.str (aX (ce cks wy))) M:=by
 have cr:∀{Q:VK3}{E:XN},aa T (B cls kls fad) (n+7) 22 [.str z] M Q E=out (Q (wO kls cks wy) M) (λi=>E ⟨i,none⟩ M) (ce cks wy):=λ{Q E}=>by
  rw[dD (n:=n) hM hz hp];unfold tE;rw[hr]
 have dW:∀(wy:List Wy) (ks:List (List Int)) (m:Nat),c4 m ks wy=0\/c4 m ks wy=1\/c4 m ks wy=3:=λwy=>by
  induction wy with
  |nil=>intro ks m;exact .inl rfl
  |cons w r ih=>
   intro ks m;unfold c4;split
   ·split
    ·exact .inr (.inr rfl)
    ·split
     ·exact .inr (.inr rfl)
     ·exact ih _ _
   ·exact .inr (.inl rfl)
 have h4:ce cks wy=0\/ce cks wy=1\/ce cks wy=2\/ce cks wy=3:=by
  unfold ce;split
  ·exact .inr (.inl rfl)
  ·split
   ·exact .inr (.inr (.inl rfl))
   ·rcases dW wy [] cks.length with e|e|e<;>simp[e]
 rcases h4 with e|e|e|e
 ·rw[e]at cr;simp[out]at cr;simp[bK,aP,cr,e,aX]
 ·rw[e]at cr;simp[out]at cr;simp[bK,aP,cr,e,aX];refine iff_of_eq (ai hM λa ha=>?_)
  simp +decide [ha,af];rw[ni (hM.put _ _)];simp +decide [mz,rSm,ag,eY,rBm,tyB,lW,eqD,pl,plN,res,ha]
 ·rw[e]at cr;simp[out]at cr;simp[bK,aP,cr,e,aX];refine iff_of_eq (ai hM λa ha=>?_)
  simp +decide [ha,af];rw[ni (hM.put _ _)];simp +decide [mz,rSm,ag,eY,rBm,tyB,lW,eqD,pl,plN,res,ha]
 ·rw[e]at cr;simp[out]at cr;simp[bK,aP,cr,e,aX];refine iff_of_eq (ai hM λa ha=>?_)
  simp +decide [ha,af];rw[ni (hM.put _ _)];simp +decide [mz,rSm,ag,eY,rBm,tyB,lW,eqD,pl,plN,res,ha]
end
end G
namespace G
open L2
open PySem (Str)
theorem nv{n:Nat}{r:List Wy}:∀(wy:List Wy) (ks:List (List Int)),(∀w∈wy,w.good n)->(ks++wy.map pr).Nodup->c4 n ks (wy++r)=c4 n (ks++wy.map pr) r
 |[],ks,_,_=>by simp
 |w::s,ks,h,nd=>by
  have hw:=h w (by simp)
  have hk:[w.i,w.j]∉ks:=λq=>by
   have:=List.nodup_append.mp nd;exact this.2.2 _ q _ (by simp[pr]) rfl
  have e:ks++[[w.i,w.j]]++s.map pr=ks++(w::s).map pr:=by simp[pr]
  rw[List.cons_append];show (if w.ok n then _ else 1)=_
  rw[if_pos (show w.ok n from⟨hw.i,hw.j,hw.ne⟩),if_neg hk,if_neg (by rw[hw.l];exact Bool.false_ne_true),nv s (ks++[[w.i,w.j]]) (λx hx=>h x (List.mem_cons_of_mem _ hx)) (by rw[e];exact nd),e]
theorem pY{cks:List (Int×Int)}{wy:List Wy}(h1:1<=cks.length)(h6:cks.length<=6)(hc:∀p∈cks,gi p=false):ce cks wy=c4 cks.length [] wy:=by
 unfold ce;rw[if_neg (by omega),if_neg (λq=>?_)]
 obtain⟨p,hp,hb⟩:=List.any_eq_true.mp q;rw[hc p hp]at hb;cases hb
theorem qL{cks:List (Int×Int)}{wy:List Wy}(h:6 < cks.length):ce cks wy=1:=if_pos (.inr h)
theorem jv{cks:List (Int×Int)}{wy:List Wy}{p:Int×Int}(h1:1<=cks.length)(h6:cks.length<=6)(hp:p∈cks)(hb:gi p=true):ce cks wy=2:=by
 unfold ce;rw[if_neg (by omega),if_pos (List.any_eq_true.mpr ⟨p,hp,hb⟩)]
theorem gJ{n:Nat}{w:Wy}{r:List Wy}{ks:List (List Int)}(h:¬ w.ok n):c4 n ks (w::r)=1:=if_neg h
theorem uH{n:Nat}{w:Wy}{r:List Wy}{ks:List (List Int)}(h:w.ok n)(hb:fG w.l w.m=true):c4 n ks (w::r)=3:=by
 show (if w.ok n then _ else 1)=3
 rw[if_pos h];split
 ·rfl
 ·first|rfl|rw[if_pos hb]
theorem uv{n:Nat}{w v:Wy}{r:List Wy}{ks:List (List Int)}(h:w.ok n)(hv:v.ok n)(e:pr v=pr w):c4 n ks (w::v::r)=3:=by
 show (if w.ok n then _ else 1)=3
 rw[if_pos h];split
 ·rfl
 ·split
  ·rfl
  ·show (if v.ok n then _ else 1)=3
   rw[if_pos hv,if_pos];have:[v.i,v.j]=[w.i,w.j]:=e;rw[this];simp
end G
namespace G
open L2
open PySem (Str)
section
variable {c k:Int}
noncomputable def NoW(c k:Int):Prop:=∃cks' wy',Wl cks' wy'/\cks'≠[]/\∀{cls kls fad:Nat->PySem.Addr}{M:MH}{Q:VK3}{E:XN}{n:Nat},Fm M->
 aa T (B cls kls fad) (n+1) 30 [.rol ((ar c).map cD),.rol ((lwy c).map wD),.int k] M Q E=Q (.tup [.rol (cks'.map cD),.rol (wy'.map wD),.str (aX (ce cks' wy'))]) M
theorem iM(k:Int):0<=k / 8 % 10 ^ 30/\k / 8 % 10 ^ 30 < 10 ^ 30:=by omega
theorem nw7(hk:k % 8=7)(h2:2<=hN c):NoW c k:=by
 obtain⟨f0,f1⟩:=iM k;obtain⟨h1,h6,he⟩:=bH c;have hl:=ba c;have L0:=c5 (cy (lg c) (hN c)) rfl;refine⟨ar c,⟨0,1,k / 8 % 10 ^ 30+1,some (k / 8 % 10 ^ 30)⟩::lwy c,⟨by rw[ak,List.length_cons];omega,L0.c,λw hw=>?_⟩,bq c,λ{cls kls fad M Q E n} hM=>?_⟩
 ·rcases List.mem_cons.mp hw with rfl|hw
  ·refine⟨show (0:Int).natAbs < 10 ^ 32 by decide,show (1:Int).natAbs < 10 ^ 32 by decide,?_,λj hj=>?_⟩
   ·show (k / 8 % 10 ^ 30+1).natAbs < 10 ^ 32;omega
   ·cases hj;show (k / 8 % 10 ^ 30).natAbs < 10 ^ 32;omega
  ·exact L0.w w hw
 ·have hn:¬ ((hN c:Int)=1):=by omega
  have ed:ce (ar c) (⟨0,1,k / 8 % 10 ^ 30+1,some (k / 8 % 10 ^ 30)⟩::lwy c)=3:=by
   rw[pY (by rw[ak];exact h1) (by rw[ak];exact h6) λp hp=>(iD c p hp).1,ak]
   refine uH ⟨by simp[okH];omega,by simp[okH];omega,by simp⟩ ?_
   simp[fG];omega
  rw[ed];have ll:((ar c).length:Int)=hN c:=by rw[ak]
  simp[av,am,hk,aD,jT,ll,hn,af,aX,wD,oi];exact λ_=>szl (by omega)
theorem wlP{p:Wy}(hp:SmW p):Wl (ar c) (p::lwy c):=by
 have L0:=c5 (cy (lg c) (hN c)) rfl;have hl:=ba c;obtain⟨h1,h6,he⟩:=bH c;refine⟨by rw[ak,List.length_cons];omega,L0.c,λw hw=>?_⟩
 rcases List.mem_cons.mp hw with rfl|hw
 ·exact hp
 ·exact L0.w w hw
theorem lA(wy:List Wy):ce (ar c) wy=c4 (hN c) [] wy:=by
 obtain⟨h1,h6,he⟩:=bH c;rw[pY (by rw[ak];exact h1) (by rw[ak];exact h6) λp hp=>(iD c p hp).1,ak]
theorem nw4(hk:k % 8=4):NoW c k:=by
 obtain⟨f0,f1⟩:=iM k;have hl:=ba c;refine⟨ar c,⟨-1 - k / 8 % 10 ^ 30,0,0,some 5⟩::lwy c,wlP ⟨?_,show (0:Int).natAbs < 10 ^ 32 by decide,show (0:Int).natAbs < 10 ^ 32 by decide,λj hj=>?_⟩,bq c,λ{cls kls fad M Q E n} hM=>?_⟩
 ·show (-1 - k / 8 % 10 ^ 30).natAbs < 10 ^ 32;omega
 ·cases hj;show (5:Int).natAbs < 10 ^ 32;decide
 ·rw[lA,gJ (λq=>by have:=q.1;simp[okH]at this;omega)]
  simp[av,am,hk,aD,jT,af,aX,wD,oi];exact λ_=>szl (by omega)
theorem nw5(hk:k % 8=5):NoW c k:=by
 have hl:=ba c;refine⟨ar c,⟨0,0,-1,some 5⟩::lwy c,wlP ⟨show (0:Int).natAbs < 10 ^ 32 by decide,show (0:Int).natAbs < 10 ^ 32 by decide,show (-1:Int).natAbs < 10 ^ 32 by decide,λj hj=>?_⟩,bq c,λ{cls kls fad M Q E n} hM=>?_⟩
 ·cases hj;show (5:Int).natAbs < 10 ^ 32;decide
 ·rw[lA,gJ (λq=>q.2.2 rfl)]
  simp[av,am,hk,aD,jT,af,aX,wD,oi];exact λ_=>szl (by omega)
theorem wlS{r:List Wy}(hr:∀w∈r,SmW w)(hl2:r.length<=2):Wl (ar c) (lwy c++r):=by
 have L0:=c5 (cy (lg c) (hN c)) rfl;have hl:=ba c;obtain⟨h1,h6,he⟩:=bH c;refine⟨by rw[ak,List.length_append];omega,L0.c,λw hw=>?_⟩
 rcases List.mem_append.mp hw with hw|hw
 ·exact L0.w w hw
 ·exact hr w hw
theorem qq(r:List Wy):ce (ar c) (lwy c++r)=c4 (hN c) ((lwy c).map pr) r:=by
 rw[lA,nv (lwy c) [] (λw hw=>fU (rW c) w hw) (by rw[List.nil_append];exact oA _ _),List.nil_append]
theorem nw3(hk:k % 8=3):NoW c k:=by
 obtain⟨f0,f1⟩:=iM k;obtain⟨h1,h6,he⟩:=bH c;have hl:=ba c;refine⟨ar c,lwy c++[⟨0,hN c+k / 8 % 10 ^ 30,0,none⟩],wlS (λw hw=>?_) (by simp),bq c,λ{cls kls fad M Q E n} hM=>?_⟩
 ·rw[List.mem_singleton.mp hw];refine⟨show (0:Int).natAbs < 10 ^ 32 by decide,?_,show (0:Int).natAbs < 10 ^ 32 by decide,λj hj=>nomatch hj⟩
  show ((hN c:Int)+k / 8 % 10 ^ 30).natAbs < 10 ^ 32;omega
 ·have ll:((ar c).length:Int)=hN c:=by rw[ak]
  rw[qq,gJ (λq=>by have:=q.2.1;simp[okH]at this;omega)]
  simp[av,am,hk,aD,jT,af,aX,wD,oi,ll];exact λ_=>szl (by omega)
theorem nw6(hk:k % 8=6)(h2:2<=hN c):NoW c k:=by
 obtain⟨h1,h6,he⟩:=bH c;have hl:=ba c;refine⟨ar c,lwy c++[⟨0,1,1,some 1⟩,⟨0,1,2,none⟩],wlS (λw hw=>?_) (by simp),bq c,λ{cls kls fad M Q E n} hM=>?_⟩
 ·simp at hw;rcases hw with rfl|rfl
  ·exact⟨show (0:Int).natAbs < 10 ^ 32 by decide,show (1:Int).natAbs < 10 ^ 32 by decide,show (1:Int).natAbs < 10 ^ 32 by decide,λj hj=>by cases hj;show (1:Int).natAbs < 10 ^ 32;decide⟩
  ·exact⟨show (0:Int).natAbs < 10 ^ 32 by decide,show (1:Int).natAbs < 10 ^ 32 by decide,show (2:Int).natAbs < 10 ^ 32 by decide,λj hj=>nomatch hj⟩
 ·have ll:((ar c).length:Int)=hN c:=by rw[ak]
  have hn:¬ ((hN c:Int)=1):=by omega
  have ok:∀{l:Int}{m:Option Int},Wy.ok (hN c) ⟨0,1,l,m⟩:=λ{l m}=>⟨by simp[okH];omega,by simp[okH];omega,by simp⟩
  rw[qq,uv (w:=⟨0,1,1,some 1⟩) (v:=⟨0,1,2,none⟩) ok ok rfl];simp[av,am,hk,aD,jT,af,aX,wD,oi,ll,hn];exact λ_=>szl (by omega)
end
end G
namespace G
open L2
open PySem (Str)
section
variable {c k:Int}
theorem Fb{x:D}{l:List D}:bC (x::l) (some 1) none=l:=by
 unfold bC HT.sIx;simp
theorem nwH(hk:k % 8=6\/k % 8=7)(h1:hN c=1):NoW c k:=by
 have L0:=c5 (cy (lg c) (hN c)) rfl;refine⟨ar c,[],⟨by rw[ak,h1];decide,L0.c,λw hw=>nomatch hw⟩,bq c,λ{cls kls fad M Q E n} hM=>?_⟩
 have ll:((ar c).length:Int)=1:=by rw[ak,h1];rfl
 rw[lA,h1];rcases hk with hk|hk<;>simp[av,am,hk,aD,jT,af,aX,ll,c4]
theorem nw1(hk:k % 8=1):NoW c k:=by
 obtain⟨f0,f1⟩:=iM k;obtain⟨h1,h6,he⟩:=bH c;have L0:=c5 (cy (lg c) (hN c)) rfl;have hl:=ba c;obtain⟨p,r,e⟩:∃p r,ar c=p::r:=by
  cases q:ar c with
  |nil=>exact absurd q (bq c)
  |cons p r=>exact⟨p,r,rfl⟩
 have el:r.length+1=hN c:=by rw[<-ak c,e];rfl
 refine⟨(0 - k / 8 % 10 ^ 30,k / 8 % 10 ^ 30)::r,lwy c,⟨by rw[List.length_cons];omega,λx hx=>?_,L0.w⟩,by simp,λ{cls kls fad M Q E n} hM=>?_⟩
 ·rcases List.mem_cons.mp hx with rfl|hx
  ·constructor
   ·show (0 - k / 8 % 10 ^ 30).natAbs < 10 ^ 32;omega
   ·show (k / 8 % 10 ^ 30).natAbs < 10 ^ 32;omega
  ·exact L0.c x (by rw[e];simp[hx])
 ·have bd:gi (0 - k / 8 % 10 ^ 30,k / 8 % 10 ^ 30)=true:=by
   have:(0 - k / 8 % 10 ^ 30) < 1:=by omega
   show (decide (0 - k / 8 % 10 ^ 30 < 1)||_)=true
   rw[decide_eq_true this];rfl
  rw[jv (by rw[List.length_cons];omega) (by rw[List.length_cons];omega) List.mem_cons_self bd,e]
  have s1:r.length<=PySem.sizeLine:=szl (by omega)
  have s2:r.length+1<=PySem.sizeLine:=szl (by omega)
  simp[av,am,hk,aD,jT,af,aX,Fb,cD,s1,s2]
theorem Fd{ds:List D}{x:D}:bC (ds++[x]) none (some (-1))=ds:=by
 unfold bC HT.sIx;simp;rw[show (-1+((ds.length:Int)+1)).toNat=ds.length by omega]
 simp
theorem nw2(hk:k % 8=2):NoW c k:=by
 obtain⟨f0,f1⟩:=iM k;obtain⟨h1,h6,he⟩:=bH c;have L0:=c5 (cy (lg c) (hN c)) rfl;have hl:=ba c;obtain⟨r,p,e⟩:∃r p,ar c=r++[p]:=⟨(ar c).dropLast,(ar c).getLast (bq c),(List.dropLast_concat_getLast (bq c)).symm⟩;have el:r.length+1=hN c:=by rw[<-ak c,e];simp
 refine⟨r++[(k / 8 % 10 ^ 30+2,k / 8 % 10 ^ 30+1)],lwy c,⟨by simp;omega,λx hx=>?_,L0.w⟩,by simp,λ{cls kls fad M Q E n} hM=>?_⟩
 ·rcases List.mem_append.mp hx with hx|hx
  ·exact L0.c x (by rw[e];simp[hx])
  ·rw[List.mem_singleton.mp hx];constructor
   ·show (k / 8 % 10 ^ 30+2).natAbs < 10 ^ 32;omega
   ·show (k / 8 % 10 ^ 30+1).natAbs < 10 ^ 32;omega
 ·have bd:gi (k / 8 % 10 ^ 30+2,k / 8 % 10 ^ 30+1)=true:=by
   have h2:k / 8 % 10 ^ 30+1 < k / 8 % 10 ^ 30+2:=by omega
   show (_||decide (k / 8 % 10 ^ 30+1 < k / 8 % 10 ^ 30+2))=true
   rw[decide_eq_true h2,Bool.or_true]
  rw[jv (by simp) (by simp;omega) (List.mem_append_right _ (List.mem_singleton.mpr rfl)) bd,e]
  have s1:r.length<=PySem.sizeLine:=szl (by omega)
  have s2:r.length+1<=PySem.sizeLine:=szl (by omega)
  simp[av,am,hk,aD,jT,af,aX,Fd,cD,s1,s2]
theorem so{x:D}:∀m:Nat,(List.replicate m [x]).flatten=List.replicate m x
 |0=>rfl
 |m+1=>by rw[List.replicate_succ,List.flatten_cons,so m];rfl
theorem nw0(hk:k % 8=0):NoW c k:=by
 obtain⟨h1,h6,he⟩:=bH c;have L0:=c5 (cy (lg c) (hN c)) rfl;have hl:=ba c;refine⟨ar c++List.replicate (7 - hN c) (1,1),lwy c,⟨by rw[List.length_append,ak,List.length_replicate];omega,λx hx=>?_,L0.w⟩,by simp[bq c],λ{cls kls fad M Q E n} hM=>?_⟩
 ·rcases List.mem_append.mp hx with hx|hx
  ·exact L0.c x hx
  ·rw[(List.mem_replicate.mp hx).2];exact⟨show (1:Int).natAbs < 10 ^ 32 by decide,show (1:Int).natAbs < 10 ^ 32 by decide⟩
 ·rw[qL (by rw[List.length_append,ak,List.length_replicate];omega)]
  have ll:((ar c).length:Int)=hN c:=by rw[ak]
  have e7:((7:Int) - hN c).toNat=7 - hN c:=by omega
  have s1:7 - hN c<=PySem.sizeLine:=szl (by omega)
  have s2:hN c+(7 - hN c)<=PySem.sizeLine:=szl (by omega)
  have b1 : -(2 ^ 63)<=(7:Int) - hN c:=by omega
  have b2:(7:Int) - hN c < 2 ^ 63:=by omega
  have rp:∀{M:MH}{Q:VK3},i9 true (.rol [.tup [.int 1,.int 1]]) (.int (7 - hN c)) M Q=Q (.rol (List.replicate (7 - hN c) (cD (1,1)))) M:=λ{M Q}=>by
   simp only[i9,ag,e7,cT,so,List.length_replicate,List.length_singleton,Nat.one_mul,b1,b2,s1,true_and,if_true];rfl
  simp[av,am,hk,aD,jT,af,aX,ll,rp,ak,s1,s2,List.map_replicate]
theorem ue(c k:Int):NoW c k:=by
 obtain⟨h1,h6,he⟩:=bH c;have:k % 8=0\/k % 8=1\/k % 8=2\/k % 8=3\/k % 8=4\/k % 8=5\/k % 8=6\/k % 8=7:=by omega
 rcases this with e|e|e|e|e|e|e|e
 ·exact nw0 e
 ·exact nw1 e
 ·exact nw2 e
 ·exact nw3 e
 ·exact nw4 e
 ·exact nw5 e
 ·by_cases h:hN c=1
  ·exact nwH (.inl e) h
  ·exact nw6 e (by omega)
 ·by_cases h:hN c=1
  ·exact nwH (.inr e) h
  ·exact nw7 e (by omega)
end
end G
namespace G
open L2
open PySem (Str)
theorem Aa:gQ ""=none:=by
 unfold gQ cC;rw[if_pos rfl];rfl
theorem qR{ts:List Str}{t:Str}(h59:∀u∈ts,59∉u.cps.toList)(ht:t∈ts)(hb:∀cks wy,aM (PySem.Txt.split t " ") cks wy=none):gQ (PySem.Str.join "; " ts)=none:=by
 by_cases h0:PySem.Str.join "; " ts = ""
 ·rw[h0];exact Aa
 ·refine mR (t:=t) ?_ hb;unfold cC;rw[if_neg h0,cJ ji ju (List.ne_nil_of_mem ht) h59];exact ht
theorem kP{ws:List Str}(h0:ws≠[])(h:∀t∈ws,Nbs t)(hb:∀cks wy,aM ws cks wy=none):∀cks wy,aM (PySem.Txt.split (PySem.Str.join " " ws) " ") cks wy=none:=by
 rw[eP h0 h];exact hb
end G
namespace G
open L2
open PySem (Str)
noncomputable def iO(x:D):Prop:=(∃z:Str,x=.str z/\z.length<=9000/\(cC "; " z).length < 400/\gQ z=none)\/iS x=true
noncomputable def Ill(ts:List Str)(k:Int):Prop:=∃x,iO x/\∀{cls kls fad:Nat->PySem.Addr}{M:MH}{Q:VK3}{E:XN}{n:Nat},Fm M->aa T (B cls kls fad) (n+1) 29 [.rol (ts.map D.str),.int k] M Q E=Q x M
theorem kg{ts:List Str}(h:∀t∈ts,59∉t.cps.toList):(cC "; " (PySem.Str.join "; " ts)).length<=ts.length:=by
 unfold cC;split
 ·simp
 ·rename_i h0;rw[cJ ji ju (λe=>h0 (by rw[e];rfl)) h]
  exact Nat.le_refl _
structure Bw (ws:List Str):Prop where
 ne:ws≠[]
 k:ws.length<=6
 w:∀t∈ws,Nbs t/\t.length<=33
 b:∀cks wy,aM ws cks wy=none
theorem Bw.len{ws:List Str}(h:Bw ws):(PySem.Str.join " " ws).length<=204:=by
 have h1:=dc (y:=" ") (B:=33) ws λt ht=>(h.w t ht).2
 rw[jZ]at h1;have:=h.k;omega
theorem iF{ts:List Str}{t:Str}(h59:∀u∈ts,59∉u.cps.toList)(hl:ts.length<=43)(h2:∀u∈ts,u.length<=204)(ht:t∈ts)(hb:∀cks wy,aM (PySem.Txt.split t " ") cks wy=none):iO (.str (PySem.Str.join "; " ts)):=by
 have h1:=dc (y:="; ") (B:=204) ts h2;rw[i4]at h1;refine .inl ⟨_,rfl,?_,?_,qR h59 ht hb⟩
 ·omega
 ·have:=kg h59;omega
section
variable {cks:List (Int×Int)}{wy:List Wy}
theorem uA{ws:List Str}{i:Nat}(W:Wl cks wy)(hl:(pts cks wy).length<=42)(h:Bw ws):iO (.str (PySem.Str.join "; " ((pts cks wy).take i++PySem.Str.join " " ws::(pts cks wy).drop (i+1)))):=by
 have hm:∀u∈(pts cks wy).take i++PySem.Str.join " " ws::(pts cks wy).drop (i+1),u∈pts cks wy\/u=PySem.Str.join " " ws:=λu hu=>by
  simp only[List.mem_append,List.mem_cons]at hu;rcases hu with hu|hu|hu
  ·exact .inl (List.mem_of_mem_take hu)
  ·exact .inr hu
  ·exact .inl (List.mem_of_mem_drop hu)
 refine iF (t:=PySem.Str.join " " ws) (λu hu=>?_) (by simp;omega) (λu hu=>?_) (by simp) (kP h.ne (λt ht=>(h.w t ht).1) h.b)
 ·rcases hm u hu with q|rfl
  ·exact kL _ _ u q
  ·exact je λt ht=>(h.w t ht).1
 ·rcases hm u hu with q|rfl
  ·exact Nat.le_trans (cY W u q) (by decide)
  ·exact h.len
end
structure Pw (t:Str)(ws:List Str):Prop where
 e:PySem.Txt.split t " "=ws
 w:∀t∈ws,Nbs t/\t.length<=33
 s:(∃c,ws=kW c)\/∃w,ws=yW w
theorem Bb{cks:List (Int×Int)}{wy:List Wy}(W:Wl cks wy):∀t∈pts cks wy,∃ws,Pw t ws:=λt ht=>by
 rcases List.mem_append.mp ht with q|q
 ·obtain⟨c,hc,rfl⟩:=List.mem_map.mp q;have hs:=W.c c hc;refine⟨kW c,eP (by simp[kW]) (fB c),λu hu=>⟨fB c u hu,?_⟩,.inl ⟨_,rfl⟩⟩
  simp[kW]at hu;rcases hu with rfl|rfl|rfl
  ·rw[p8];omega
  ·exact ay hs.1
  ·exact ay hs.2
 ·obtain⟨c,hc,rfl⟩:=List.mem_map.mp q;have hs:=W.w c hc;refine⟨yW c,eP (by simp[yW]) (lu c),λu hu=>⟨lu c u hu,?_⟩,.inr ⟨_,rfl⟩⟩
  simp[yW]at hu;rcases hu with rfl|rfl|rfl|rfl|rfl
  ·rw[wX];omega
  ·exact ay hs.i
  ·exact ay hs.j
  ·exact ay hs.l
  ·exact oH hs.m
theorem wJ(k:Int):tx k≠"clock"/\tx k≠"way":=by
 constructor<;>intro e
 ·have:=pW k 99 (by rw[e];decide +kernel)
  omega
 ·have:=pW k 119 (by rw[e];decide +kernel)
  omega
theorem wR:Nbs ""/\(("" : String):Str).length<=33:=⟨(λc hc=>by rw[d_e]at hc;cases hc),by rw[l_e];omega⟩
theorem rj:(("" : String):Str)≠"clock"/\(("" : String):Str)≠"way":=by decide +kernel
section
variable {t:Str}{ws:List Str}
theorem Pw.wrong(P:Pw t ws){r:List Str}(h:r.length+1≠ws.length):∃w,ws.head?=some w/\∀cks wy,aM (w::r) cks wy=none:=by
 rcases P.s with ⟨c,rfl⟩|⟨w,rfl⟩
 ·exact⟨_,rfl,nU (λq=>h (by simp[q,kW]))⟩
 ·exact⟨_,rfl,tU (λq=>h (by simp[q,yW]))⟩
theorem Pw.len(P:Pw t ws):ws.length=3\/ws.length=5:=by
 rcases P.s with ⟨c,rfl⟩|⟨w,rfl⟩
 ·exact .inl rfl
 ·exact .inr rfl
theorem Pw.cons(P:Pw t ws):∃w x r,ws=w::tx x::r/\r≠[]:=by
 rcases P.s with ⟨c,rfl⟩|⟨w,rfl⟩
 ·exact⟨_,_,_,rfl,by simp⟩
 ·exact⟨_,_,_,rfl,by simp⟩
theorem bw0(P:Pw t ws)(i:Nat):Bw (ws.take i++Str.ofString ""::ws.drop i):=by
 have hl:=P.len;refine⟨by simp,by simp;omega,λu hu=>?_,?_⟩
 ·rcases List.mem_append.mp hu with q|q
  ·exact P.w u (List.mem_of_mem_take q)
  ·rcases List.mem_cons.mp q with rfl|q
   ·exact wR
   ·exact P.w u (List.mem_of_mem_drop q)
 ·obtain⟨w,x,r,e,_⟩:=P.cons;cases i with
  |zero=>exact cL rj.1 rj.2
  |succ i=>
   obtain⟨v,hv,hb⟩:=P.wrong (r:=(tx x::r).take i++Str.ofString ""::(tx x::r).drop i) (by rw[e];simp;omega)
   rw[e]at hv ⊢;cases hv;simpa using hb
theorem bw1(P:Pw t ws)(i:Nat)(hi:i < ws.length):Bw (ws.take i++ws.drop (i+1)):=by
 have hl:=P.len;refine⟨λq=>?_,by simp;omega,λu hu=>?_,?_⟩
 ·have:=congrArg List.length q;rw[List.length_append,List.length_take,List.length_drop,List.length_nil]at this;omega
 ·rcases List.mem_append.mp hu with q|q
  ·exact P.w u (List.mem_of_mem_take q)
  ·exact P.w u (List.mem_of_mem_drop q)
 ·obtain⟨w,x,r,e,_⟩:=P.cons;cases i with
  |zero=>
   rw[e];exact cL (wJ x).1 (wJ x).2
  |succ i=>
   obtain⟨v,hv,hb⟩:=P.wrong (r:=(tx x::r).take i++(tx x::r).drop (i+1)) (by rw[e]at hi ⊢;simp at hi ⊢;omega)
   rw[e]at hv ⊢;cases hv;simpa using hb
theorem bw2(P:Pw t ws){x:Str}(hx:Nbs x/\x.length<=33):Bw (ws++[x]):=by
 have hl:=P.len;refine⟨by simp,by simp;omega,λu hu=>?_,?_⟩
 ·rcases List.mem_append.mp hu with q|q
  ·exact P.w u q
  ·rw[List.mem_singleton.mp q];exact hx
 ·obtain⟨w,y,r,e,_⟩:=P.cons;obtain⟨v,hv,hb⟩:=P.wrong (r:=tx y::r++[x]) (by rw[e];simp)
  rw[e]at hv ⊢;cases hv;simpa using hb
theorem bwS(P:Pw t ws)(i:Nat){x:Str}(hx:Nbs x/\x.length<=33)(h:(i=0/\x≠"clock"/\x≠"way")\/(i=1/\rdI x=none)):Bw (ws.set i x):=by
 have hl:=P.len;obtain⟨w,y,r,e,_⟩:=P.cons;refine⟨λq=>?_,by simp;omega,λu hu=>?_,?_⟩
 ·have:=congrArg List.length q;rw[List.length_set,List.length_nil]at this;omega
 ·rcases List.mem_or_eq_of_mem_set hu with q|rfl
  ·exact P.w u q
  ·exact hx
 ·rw[e];rcases h with ⟨rfl,h1,h2⟩|⟨rfl,h1⟩
  ·exact cL h1 h2
  ·exact sF h1
end
end G
namespace G
open L2
open PySem (Str)
section
variable {cls kls fad:Nat->PySem.Addr}{M:MH}{Q:VK3}{E:XN}{n:Nat}{z y:PySem.Str}{i c k:Int}{p:PySem.Addr}{ds:List D}
theorem d7:rBi .len [.ref p] (put M p (.lst ds)) Q=Q (.int ds.length) (put M p (.lst ds)):=by simp[rBi,aN,ag,ah]
theorem vN{k:Nat}:bC ds none (some (k:Int))=ds.take k:=by
 have h:¬ ((k:Int) < 0):=by omega
 unfold bC HT.sIx;simp[h]
theorem CQ{k:Nat}:bC ds (some (k:Int)) none=ds.drop k:=by
 have h:¬ ((k:Int) < 0):=by omega
 unfold bC HT.sIx;simp[h];rw[List.take_of_length_le (by simp)]
 by_cases hk:k<=ds.length
 ·rw[Nat.min_eq_left hk]
 ·rw[Nat.min_eq_right (by omega),List.drop_of_length_le (Nat.le_refl _),List.drop_of_length_le (by omega)]
theorem wE{k:Nat}:bC ds (some ((k:Int)+1)) none=ds.drop (k+1):=CQ (k:=k+1)
theorem c7{ts:List Str}{k:Nat}{x:Str}(h:ts[k]?=some x):atI (ts.map D.str) (k:Int)=some (.str x):=by
 have h0:¬ ((k:Int) < 0):=by omega
 have h1:k < ts.length:=(List.getElem?_eq_some_iff.mp h).1;have e:ixN ts.length (k:Int)=some k:=by unfold ixN;simp;omega
 simp[atI,e,h]
theorem eO{a:Int}{m:Nat}(h:0 < m):∃k:Nat,a % (m:Int)=k/\k < m:=by
 have h1:=Int.emod_nonneg a (show (m:Int)≠0 by omega)
 have h2:=Int.emod_lt_of_pos a (show 0 < (m:Int) by omega)
 exact⟨(a % m).toNat,by omega,by omega⟩
theorem fu{o:DO}(hp:M p=none):ac M (put M p o)=M:=by simp[hp]
theorem ym{y:Str}{ts:List Str}(h:PySem.JoinOk y ts=true):rBm .join (.str y) [.ref p] (put M p (.lst (ts.map D.str))) Q=Q (.str (PySem.Str.join y ts)) (put M p (.lst (ts.map D.str))):=by
 simp[rBm,ag,ah,gf,h,i7]
structure Ip (ts:List Str)(k:Int)(i:Nat)(t:Str)(ws:List Str)(j:Nat):Prop where
 l:ts.length<=42
 e:k / 16 % (ts.length:Int)=i
 il:i < ts.length
 h:ts[i]?=some t
 tl:∀t∈ts,t.length<=139
 p:Pw t ws
 f:k / 200 % (ws.length:Int)=j
 jl:j < ws.length
variable {ts:List Str}{i j:Nat}{t:Str}{ws:List Str}
theorem Ip.tail(I:Ip ts k i t ws j){us:List Str}{M0:MH}(hu:Bw us)(hp:ac M0 (put M p (.lst (us.map D.str)))=M0):((bC (ts.map D.str) none (some ↑i)).length<=PySem.sizeLine/\rBm .join (.str (Str.ofString " ")) [.ref p] (put M p (.lst (us.map D.str))) λx M1=>(bC (ts.map D.str) none (some ↑i)).length+1<=PySem.sizeLine/\
  (bC (ts.map D.str) (some (↑i+1)) none).length<=PySem.sizeLine/\(bC (ts.map D.str) none (some ↑i)).length+((bC (ts.map D.str) (some (↑i+1)) none).length+1)<=PySem.sizeLine/\
  rBm .join (.str (Str.ofString "; ")) [.rol (bC (ts.map D.str) none (some ↑i)++x::bC (ts.map D.str) (some (↑i+1)) none)] M1 λv M'=>Q v (ac M0 M'))=Q (.str (PySem.Str.join "; " (ts.take i++PySem.Str.join " " us::ts.drop (i+1)))) M0:=by
 have hl:=I.l;have hk:=hu.k;have h1:PySem.JoinOk (Str.ofString " ") us=true:=fQ (by omega) (by decide +kernel) λt ht=>Nat.le_trans (hu.w t ht).2 (by decide)
 have h2:PySem.JoinOk (Str.ofString "; ") (ts.take i++PySem.Str.join " " us::ts.drop (i+1))=true:=fQ (by simp;omega) (by decide +kernel) λt ht=>by
  simp only[List.mem_append,List.mem_cons]at ht;rcases ht with q|rfl|q
  ·exact Nat.le_trans (I.tl t (List.mem_of_mem_take q)) (by decide)
  ·exact Nat.le_trans hu.len (by decide)
  ·exact Nat.le_trans (I.tl t (List.mem_of_mem_drop q)) (by decide)
 have e:(ts.take i).map D.str++D.str (PySem.Str.join " " us)::(ts.drop (i+1)).map D.str=(ts.take i++PySem.Str.join " " us::ts.drop (i+1)).map D.str:=by simp
 rw[vN,wE,<-List.map_take,<-List.map_drop,ym h1];rw[e,gL h2];simp only[List.length_map,List.length_take,List.length_drop];have z:∀{x:Nat},x<=100->(x<=PySem.sizeLine)=True:=λhx=>eq_true (szl (Nat.le_trans hx (by decide)))
 rw[z (by omega),z (by omega),z (by omega),z (by omega)]
 simp[hp]
noncomputable def w3:List Str:=["hand","Clock","ways",""]
noncomputable def w4:List Str:=["01","any","-0","+1","1.0"]
noncomputable def w2:List Str:=["1","any","x"]
theorem Co:∀x∈w3,(Nbs x/\x.length<=33)/\x≠"clock"/\x≠"way":=by
 intro x hx;simp[w3]at hx;rcases hx with rfl|rfl|rfl|rfl<;>exact⟨⟨(λc hc=>by revert c hc;decide +kernel),by decide +kernel⟩,by decide +kernel⟩
theorem CB:∀x∈w4,(Nbs x/\x.length<=33)/\rdI x=none:=by
 intro x hx;simp[w4]at hx;rcases hx with rfl|rfl|rfl|rfl|rfl<;>exact⟨⟨(λc hc=>by revert c hc;decide +kernel),by decide +kernel⟩,by decide +kernel⟩
theorem CP:∀x∈w2,Nbs x/\x.length<=33:=by
 intro x hx;simp[w2]at hx;rcases hx with rfl|rfl|rfl<;>exact⟨(λc hc=>by revert c hc;decide +kernel),by decide +kernel⟩
theorem xH{l:List Str}(a:Int)(h0:0 < l.length):∃x∈l,atI (l.map D.str) (a % (l.length:Int))=some (.str x):=by
 obtain⟨m,e,hm⟩:=eO (a:=a) h0;exact⟨l[m],List.getElem_mem hm,by rw[e];exact c7 (List.getElem?_eq_getElem hm)⟩
theorem pM{R:MH->Prop}{y:D}{m:Nat}(h:m < ds.length):dA (.ref p) (.int (m:Int)) y (put M p (.lst ds)) R=R (put M p (.lst (ds.set m y))):=by
 rw[q9 ah (show ixN ds.length (m:Int)=some m by unfold ixN;simp;omega),cV]
theorem tN{lo hi:Option Int}(h:(bC ds lo hi).length<=100):lQ true (.ref p) lo hi (put M p (.lst ds)) Q=Q (.rol (bC ds lo hi)) (put M p (.lst ds)):=by
 have h':(bC ds lo hi).length<=PySem.sizeLine:=Nat.le_trans h (by decide)
 simp[lQ,ag,ah,cT,h']
noncomputable def IlB(ts:List Str)(k:Int)(i:Nat):Prop:=∃us,Bw us/\∀{cls kls fad:Nat->PySem.Addr}{M:MH}{Q:VK3}{E:XN}{n:Nat},Fm M->aa T (B cls kls fad) (n+1) 29 [.rol (ts.map D.str),.int k] M Q E=Q (.str (PySem.Str.join "; " (ts.take i++PySem.Str.join " " us::ts.drop (i+1)))) M
theorem Ip.szs(I:Ip ts k i t ws j):0 < ts.length/\0 < ws.length/\1 < ws.length/\ws.length<=5/\t.length<=PySem.sizeLine/\ws.length<=PySem.sizeLine:=by
 have h1:=I.il;have h2:=I.p.len;have h3:=I.tl t (List.mem_of_getElem? I.h);exact⟨by omega,by omega,by omega,by omega,szl (by omega),szl (by omega)⟩
theorem il0(I:Ip ts k i t ws j)(hk:k % 8=0):IlB ts k i:=by
 obtain⟨z1,z2,z3,z4,s0,s1⟩:=I.szs;have hj:=I.jl;have bw:=bw0 I.p j;refine⟨_,bw,λ{cls kls fad M Q E n} hM=>?_⟩
 simp[aq,aj,aD,hk,z1,I.e,bI (c7 I.h),be,I.p.e,s0,s1];refine iff_of_eq (ai hM λp hp=>?_)
 have st:=I.tail bw (fu hp) (Q:=Q);have hs:ws.length < PySem.sizeLine:=Nat.lt_of_le_of_lt z4 (by decide)
 have e:qX (ws.map D.str) (j:Int) (.str (Str.ofString ""))=(ws.take j++Str.ofString ""::ws.drop j).map D.str:=by
  have:eW ws.length (j:Int)=j:=by unfold eW;rw[if_neg (by omega)];omega
  simp[qX,this]
 have h62:(j:Int) < 4611686018427387904:=by omega
 have il:isLstM (.ref p) (put M p (.lst (ws.map D.str)))=true:=by simp[isLstM,ah]
 simp[d7,z2,I.f,hk,af,rh ah,e,hs,h62,il,cV]at st ⊢;exact st
theorem il1(I:Ip ts k i t ws j)(hk:k % 8=1):IlB ts k i:=by
 obtain⟨z1,z2,z3,z4,s0,s1⟩:=I.szs;have hj:=I.jl;have bw:=bw1 I.p j hj;refine⟨_,bw,λ{cls kls fad M Q E n} hM=>?_⟩
 simp[aq,aj,aD,hk,z1,I.e,bI (c7 I.h),be,I.p.e,s0,s1];refine iff_of_eq (ai hM λp hp=>?_)
 simp[d7,z2,I.f,hk,af];have e1:bC (ws.map D.str) (some ((j:Int)+1)) none=(ws.map D.str).drop (j+1):=wE;rw[tN (by rw[vN,List.length_take,List.length_map];omega),tN (by rw[e1,List.length_drop,List.length_map];omega),vN,e1,<-List.map_take,<-List.map_drop]
 simp only[g5,ag,cT];rw[if_neg Bool.false_ne_true,<-List.map_append,eq_true (show ((ws.take j++ws.drop (j+1)).map D.str).length<=PySem.sizeLine from szl (by simp;omega)),true_and]
 refine iff_of_eq (ai (hM.put _ _) λq hq=>?_)
 obtain⟨hqp,hq⟩:=fv hq;exact I.tail bw (M:=put M p (.lst (ws.map D.str))) (by simp[hp,hq])
theorem il2(I:Ip ts k i t ws j)(hk:k % 8=2):IlB ts k i:=by
 obtain⟨z1,z2,z3,z4,s0,s1⟩:=I.szs;obtain⟨x,hx,ex⟩:=xH (l:=w2) (k / 16) (by decide)
 have bw:=bw2 I.p (CP x hx);refine⟨_,bw,λ{cls kls fad M Q E n} hM=>?_⟩
 simp[aq,aj,aD,hk,z1,I.e,bI (c7 I.h),be,I.p.e,s0,s1];refine iff_of_eq (ai hM λp hp=>?_)
 have ex':atI [D.str (Str.ofString "1"),D.str (Str.ofString "any"),D.str (Str.ofString "x")] (k / 16 % 3)=some (.str x):=ex;have st:=I.tail bw (fu hp) (Q:=Q);have hs:ws.length < PySem.sizeLine:=Nat.lt_of_le_of_lt z4 (by decide)
 simp[d7,z2,I.f,hk,af,bI ex',dX ah,dL,ah,hs,aD]at st ⊢;exact st
theorem il3(I:Ip ts k i t ws j)(hk:k % 8=3):IlB ts k i:=by
 obtain⟨z1,z2,z3,z4,s0,s1⟩:=I.szs;obtain⟨x,hx,ex⟩:=xH (l:=w3) (k / 16) (by decide)
 have ok:=Co x hx;have bw:=bwS I.p 0 ok.1 (.inl ⟨rfl,ok.2⟩);refine⟨_,bw,λ{cls kls fad M Q E n} hM=>?_⟩
 simp[aq,aj,aD,hk,z1,I.e,bI (c7 I.h),be,I.p.e,s0,s1];refine iff_of_eq (ai hM λp hp=>?_)
 have ex':atI [D.str (Str.ofString "hand"),D.str (Str.ofString "Clock"),D.str (Str.ofString "ways"),D.str (Str.ofString "")] (k / 16 % 4)=some (.str x):=ex;have st:=I.tail bw (fu hp) (Q:=Q);simp[d7,z2,I.f,hk,af,bI ex']at st ⊢;refine .trans (iff_of_eq (pM (m:=0) (by simpa using z2))) st
theorem il4(I:Ip ts k i t ws j)(hk:k % 8=4):IlB ts k i:=by
 obtain⟨z1,z2,z3,z4,s0,s1⟩:=I.szs;obtain⟨x,hx,ex⟩:=xH (l:=w4) (k / 16) (by decide)
 have ok:=CB x hx;have bw:=bwS I.p 1 ok.1 (.inr ⟨rfl,ok.2⟩);refine⟨_,bw,λ{cls kls fad M Q E n} hM=>?_⟩
 simp[aq,aj,aD,hk,z1,I.e,bI (c7 I.h),be,I.p.e,s0,s1];refine iff_of_eq (ai hM λp hp=>?_)
 have ex':atI [D.str (Str.ofString "01"),D.str (Str.ofString "any"),D.str (Str.ofString "-0"),D.str (Str.ofString "+1"),D.str (Str.ofString "1.0")] (k / 16 % 5)=some (.str x):=ex;have st:=I.tail bw (fu hp) (Q:=Q);simp[d7,z2,I.f,hk,af,bI ex']at st ⊢;refine .trans (iff_of_eq (pM (m:=1) (by simpa using z3))) st
end
end G
namespace G
open L2
open PySem (Str)
theorem kz:∀(a b:List Str) (c:List (Int×Int)) (w:List Wy),bc (a++b) c w=(bc a c w).bind λo=>bc b o.1 o.2
 |[],b,c,w=>rfl
 |t::r,b,c,w=>by
  have h:∀r':List Str,bc (t::r') c w=(aM (PySem.Txt.split t " ") c w).bind λo=>bc r' o.1 o.2:=λr'=>by
   show (match aM (PySem.Txt.split t " ") c w with|some (c,w)=>bc r' c w|none=>none)=_
   cases aM (PySem.Txt.split t " ") c w<;>rfl
  rw[List.cons_append,h,h];cases aM (PySem.Txt.split t " ") c w with
  |none=>rfl
  |some o=>exact kz r b o.1 o.2
noncomputable def w0:Wy:=⟨0,1,0,none⟩
theorem FG:yT w0=Str.ofString "way 0 1 0 any":=by decide +kernel
theorem C5:kT (1,1)=Str.ofString "clock 1 1":=by decide +kernel
theorem wV:SmW w0:=⟨show (0:Int).natAbs < 10 ^ 32 by decide,show (1:Int).natAbs < 10 ^ 32 by decide,show (0:Int).natAbs < 10 ^ 32 by decide,λk hk=>nomatch hk⟩
theorem wW:SmC (1,1):=⟨show (1:Int).natAbs < 10 ^ 32 by decide,show (1:Int).natAbs < 10 ^ 32 by decide⟩
section
variable {cks:List (Int×Int)}{wy:List Wy}
theorem EY(W:Wl cks wy)(hl:(pts cks wy).length<=42)(h0:cks≠[]):iO (.str (PySem.Str.join "; " (pts cks wy++[Str.ofString "way 0 1 0 any",Str.ofString "clock 1 1"]))):=by
 rw[<-FG,<-C5];have e:pts cks wy++[yT w0,kT (1,1)]=pts cks (wy++[w0])++[kT (1,1)]:=by simp[pts]
 have h59:∀t∈pts cks (wy++[w0])++[kT (1,1)],59∉t.cps.toList:=λt ht=>by
  rcases List.mem_append.mp ht with q|q
  ·exact kL _ _ t q
  ·rw[List.mem_singleton.mp q];exact je (fB _)
 rw[e];have h1:=dc (y:="; ") (B:=139) (pts cks (wy++[w0])++[kT (1,1)]) λt ht=>by
  rw[<-e]at ht;rcases List.mem_append.mp ht with q|q
  ·exact cY W t q
  ·simp at q;rcases q with rfl|rfl
   ·exact nX wV
   ·exact jf wW
 have h2:=kg h59;have h3:(pts cks (wy++[w0])++[kT (1,1)]).length<=44:=by rw[<-e];simp;omega
 rw[i4]at h1;refine .inl ⟨_,rfl,by omega,by omega,?_⟩
 unfold gQ cC;rw[if_neg,cJ ji ju (by simp) h59,kz,jm (λw hw=>?_) W.c,Option.bind_some]
 ·have e2:bc [kT (1,1)] (List.nil++cks) (wy++[w0])=none:=by
   unfold bc;rw[show PySem.Txt.split (kT (1,1)) " "=kW (1,1) from eP (by simp[kW]) (fB _)]
   rw[show kW (1,1)=Str.ofString "clock"::[tx 1,tx 1] from rfl,qw]
  rw[e2]
 ·rcases List.mem_append.mp hw with q|q
  ·exact W.w w q
  ·rw[List.mem_singleton.mp q];exact wV
 ·cases cks with
  |nil=>exact absurd rfl h0
  |cons c r=>
   obtain⟨u,eu⟩:=de (y:="; ") (t:=kT c) (r:=pts r (wy++[w0])++[kT (1,1)]);refine ne_of ?_;show (PySem.Str.join "; " (kT c::(pts r (wy++[w0])++[kT (1,1)]))).cps.toList≠[];rw[eu];intro q;exact sd c (List.append_eq_nil_iff.mp q).1
end
theorem lz{a c:Nat}(hc:c≠a):∀{x:List Nat},c∈x->∃p∈spl [a] x 0,c∈p
 |d::r,h=>by
  unfold spl;by_cases e:[a].isPrefixOf (d::r)=true
  ·have ed:a=d:=by simpa using e
   rw[if_pos e];rcases List.mem_cons.mp h with q|q
   ·exact absurd (q.trans ed.symm) hc
   ·obtain⟨p,h1,h2⟩:=lz hc q;exact⟨p,List.mem_cons_of_mem _ h1,h2⟩
  ·rw[if_neg e];cases q:spl [a] r 0 with
   |nil=>exact absurd q (lE _ _)
   |cons p t=>
    rcases List.mem_cons.mp h with z|z
    ·exact⟨d::p,by simp,by simp[z]⟩
    ·obtain⟨p',h1,h2⟩:=lz hc z;rw[q]at h1;rcases List.mem_cons.mp h1 with w|w
     ·exact⟨d::p,by simp,by subst w;simp[h2]⟩
     ·exact⟨p',by simp[w],h2⟩
theorem pE{c:Nat}{u q:List Nat}{r:List (List Nat)}(hc:c≠32)(h:spl [59,32] (c::u) 0=q::r):∀{p:List Nat},59∉p->spl [59,32] (p++59::c::u) 0=(p++59::q)::r
 |[],_=>by
  have e:[59,32].isPrefixOf (59::c::u)=false:=by
   have:¬ 32=c:=λe=>hc e.symm
   simp[List.isPrefixOf,this]
  simp only[List.nil_append];rw[show spl [59,32] (59::c::u) 0=if [59,32].isPrefixOf (59::c::u)=true then []::spl [59,32] (c::u) 1 else (match spl [59,32] (c::u) 0 with|p::q=>(59::p)::q|[]=>[]) from rfl,if_neg (by rw[e];exact Bool.false_ne_true),h]
 |d::p,hp=>by
  have ih:=pE hc h (p:=p) λz=>hp (List.mem_cons_of_mem _ z)
  have hd:¬ 59=d:=λe=>hp (by simp[e])
  simp only[List.cons_append];unfold spl;rw[if_neg (by simp[List.isPrefixOf,hd]),ih]
theorem E1{z:Str}(h:59∈z.cps.toList):rdI z=none/\rdM z=none:=by
 have e:rdI z=none:=by
  unfold rdI;rw[if_neg];rw[zm λq=>by have:=q 59 h;omega]
  exact Bool.false_ne_true
 refine⟨e,?_⟩;unfold rdM;rw[if_neg,e];rintro rfl;revert h;decide +kernel
theorem zN{t:Str}(h:59∈t.cps.toList)(cks:List (Int×Int))(wy:List Wy):aM (PySem.Txt.split t " ") cks wy=none:=by
 obtain⟨p,h1,h2⟩:=lz (a:=32) (by decide) h
 have hm:ofC p∈PySem.Txt.split t " ":=by
  rw[eQ (by decide +kernel) Di,wc]
  exact List.mem_map.mpr ⟨p,h1,rfl⟩
 have h3:59∈(ofC p).cps.toList:=by rw[oZ];exact h2
 generalize ofC p=x at hm h3;generalize PySem.Txt.split t " "=ws at hm;obtain⟨r1,r2⟩:=E1 h3;cases ws with
 |nil=>rfl
 |cons w r=>
  rw[aY];split
  ·rename_i q;obtain⟨rfl,q,_⟩:=q;rcases r with _|⟨a,_|⟨b,_|⟨c,s⟩⟩⟩<;>simp at q
   simp at hm;rcases hm with rfl|rfl|rfl
   ·exact absurd h3 (by decide +kernel)
   ·show (match (match rdI x,rdI b with|some i,some j=>some (i,j)|_,_=>none) with|some p=>_|none=>none)=none
    rw[r1]
   ·show (match (match rdI a,rdI x with|some i,some j=>some (i,j)|_,_=>none) with|some p=>_|none=>none)=none
    rw[r1];cases rdI a<;>rfl
  ·split
   ·rename_i q;obtain⟨rfl,q⟩:=q;rcases r with _|⟨a,_|⟨b,_|⟨c,_|⟨d,_|⟨d',s⟩⟩⟩⟩⟩<;>simp at q
    simp at hm;have g:∀{m:Option (Option Int)}{i j k:Option Int},(m=none\/i=none\/j=none\/k=none)->(match (match m,i,j,k with|some m,some i,some j,some k=>some (⟨i,j,k,m⟩:Wy)|_,_,_,_=>none) with|some p=>some (cks,wy++[p])|none=>none)=none:=λ{m i j k} h=>by
     rcases h with rfl|rfl|rfl|rfl
     ·rfl
     ·cases m<;>rfl
     ·cases m<;>cases i<;>rfl
     ·cases m<;>cases i<;>cases j<;>rfl
    rcases hm with rfl|rfl|rfl|rfl|rfl
    ·exact absurd h3 (by decide +kernel)
    ·exact g (.inr (.inl r1))
    ·exact g (.inr (.inr (.inl r1)))
    ·exact g (.inr (.inr (.inr r1)))
    ·exact g (.inl r2)
   ·rfl
end G
namespace G
open L2
open PySem (Str)
theorem BQ(z:Str):Str.ofString ""++z=z:=cW (by rw[aR,d_e,List.nil_append])
theorem kO{y:Str}:∀{ts:List Str},ts≠[]->PySem.Str.join y (ts++[Str.ofString ""])=PySem.Str.join y ts++y
 |[t],_=>by
  show t++y++Str.ofString ""=t++y;exact cW (by rw[aR,d_e,List.append_nil])
 |t::u::r,_=>by
  have ih:=kO (y:=y) (ts:=u::r) (by simp)
  show t++y++PySem.Str.join y (u::r++[Str.ofString ""])=t++y++PySem.Str.join y (u::r)++y;rw[ih];exact cW (by simp only[aR,List.append_assoc])
theorem zc(cks:List (Int×Int))(wy:List Wy):aM (PySem.Txt.split (Str.ofString "") " ") cks wy=none:=by
 rw[show PySem.Txt.split (Str.ofString "") " "=[Str.ofString ""] by decide +kernel]
 exact cL rj.1 rj.2 _ _
section
variable {cks:List (Int×Int)}{wy:List Wy}
theorem A6(W:Wl cks wy)(hl:(pts cks wy).length<=42)(h0:pts cks wy≠[]):iO (.str (PySem.Str.join "; " (pts cks wy)++"; ")):=by
 rw[<-kO h0];refine iF (t:=Str.ofString "") (λu hu=>?_) (by simp;omega) (λu hu=>?_) (by simp) zc
 ·rcases List.mem_append.mp hu with q|q
  ·exact kL _ _ u q
  ·rw[List.mem_singleton.mp q,d_e];simp
 ·rcases List.mem_append.mp hu with q|q
  ·exact Nat.le_trans (cY W u q) (by decide)
  ·rw[List.mem_singleton.mp q];decide +kernel
theorem Dh{c:Int×Int}(h:SmC c):iO (.str (Str.ofString " "++kT c)):=by
 have e:Str.ofString " "++kT c=PySem.Str.join "; " [PySem.Str.join " " (Str.ofString ""::kW c)]:=by
  show Str.ofString " "++kT c=Str.ofString ""++" "++kT c;rw[BQ]
 have hn:∀t∈Str.ofString ""::kW c,Nbs t:=λt ht=>by
  rcases List.mem_cons.mp ht with rfl|q
  ·exact wR.1
  ·exact fB c t q
 rw[e];refine iF (t:=PySem.Str.join " " (Str.ofString ""::kW c)) (λu hu=>?_) (by simp) (λu hu=>?_) (by simp) (kP (by simp) hn (cL rj.1 rj.2))
 ·rw[List.mem_singleton.mp hu];exact je hn
 ·rw[List.mem_singleton.mp hu];show (Str.ofString ""++" "++kT c).length<=204;have:=jf h;rw[bp,bp,jZ,l_e];omega
theorem wS:∀t∈pts cks wy,∃d u,t.cps.toList=d::u/\d≠32:=λt ht=>by
 rcases List.mem_append.mp ht with q|q
 ·obtain⟨c,_,rfl⟩:=List.mem_map.mp q;obtain⟨u,e⟩:=de (y:=" ") (t:=Str.ofString "clock") (r:=[tx c.1,tx c.2]);exact⟨99,_,e,by decide⟩
 ·obtain⟨w,_,rfl⟩:=List.mem_map.mp q;obtain⟨u,e⟩:=de (y:=" ") (t:=Str.ofString "way") (r:=[tx w.i,tx w.j,tx w.l,mT w.m]);exact⟨119,_,e,by decide⟩
theorem d_s:((";" : String):Str).cps.toList=[59]:=by decide +kernel
theorem mI:∀{ts:List Str},ts≠[]->(∀t∈ts,59∉t.cps.toList/\∃d u,t.cps.toList=d::u/\d≠32)->spl [59,32] (PySem.Str.join ";" ts).cps.toList 0=[(PySem.Str.join ";" ts).cps.toList]
 |[t],_,h=>i6 (w:=[32]) (h t (by simp)).1
 |t::u::r,_,h=>by
  have ih:=mI (ts:=u::r) (by simp) λz hz=>h z (List.mem_cons_of_mem _ hz)
  obtain⟨_,d,v,e,hd⟩:=h u (by simp)
  obtain⟨x,ej⟩:=de (y:=";") (t:=u) (r:=r);rw[e,List.cons_append]at ej;have e2:(PySem.Str.join ";" (t::u::r)).cps.toList=t.cps.toList++59::(PySem.Str.join ";" (u::r)).cps.toList:=by
   show (t++";"++PySem.Str.join ";" (u::r)).cps.toList=_;rw[aR,aR,d_s,List.append_assoc];rfl
  rw[e2];rw[ej]at ih ⊢;exact pE hd ih (h t (by simp)).1
theorem Bk(W:Wl cks wy)(hl:(pts cks wy).length<=42)(h0:pts cks wy≠[]):iO (.str (PySem.Str.join ";" (pts cks wy++[Str.ofString "clock 1 1"]))):=by
 rw[<-C5];have hm:∀t∈pts cks wy++[kT (1,1)],(59∉t.cps.toList/\∃d u,t.cps.toList=d::u/\d≠32)/\t.length<=139:=λt ht=>by
  rcases List.mem_append.mp ht with q|q
  ·exact⟨⟨kL _ _ t q,wS t q⟩,cY W t q⟩
  ·have q':t∈pts [(1,1)] []:=by rw[List.mem_singleton.mp q];simp[pts]
   exact⟨⟨kL _ _ t q',wS t q'⟩,by rw[List.mem_singleton.mp q];exact jf wW⟩
 have h59:59∈(PySem.Str.join ";" (pts cks wy++[kT (1,1)])).cps.toList:=by
  obtain⟨t,r,e⟩:=List.exists_cons_of_ne_nil h0;rw[e];obtain⟨u,s,e1⟩:∃u s,r++[kT (1,1)]=u::s:=List.exists_cons_of_ne_nil (by simp)
  show 59∈(PySem.Str.join ";" (t::(r++[kT (1,1)]))).cps.toList;rw[e1];show 59∈(t++";"++PySem.Str.join ";" (u::s)).cps.toList;rw[aR,aR,d_s];simp
 have hz:PySem.Str.join ";" (pts cks wy++[kT (1,1)])≠"":=λe=>by rw[e,d_e]at h59;cases h59
 have hp:cC "; " (PySem.Str.join ";" (pts cks wy++[kT (1,1)]))=[PySem.Str.join ";" (pts cks wy++[kT (1,1)])]:=by
  unfold cC;rw[if_neg hz,eQ (by decide +kernel) ju,ji,mI (by simp) λt ht=>(hm t ht).1,List.map_cons,iV]
  rfl
 have h1:=dc (y:=";") (B:=139) (pts cks wy++[kT (1,1)]) λt ht=>(hm t ht).2
 have h2:(pts cks wy++[kT (1,1)]).length<=43:=by simp;omega
 rw[show ((";" : String):Str).length=1 by decide +kernel]at h1
 refine .inl ⟨_,rfl,by omega,by rw[hp];simp,mR (by rw[hp];exact List.mem_singleton.mpr rfl) (zN h59)⟩
end
noncomputable def k7:List D:=[.str "",.str "way 0 1 0 any",.non,.int 7,.str " ",.str "clock 1 1; way 0 1 0 Any",.str "clock any 1"]
theorem yy:∀x∈k7,iO x:=by
 intro x hx;simp[k7]at hx;rcases hx with rfl|rfl|rfl|rfl|rfl|rfl|rfl
 ·exact .inl ⟨_,rfl,by decide +kernel,by decide +kernel,by decide +kernel⟩
 ·exact .inl ⟨_,rfl,by decide +kernel,by decide +kernel,by decide +kernel⟩
 ·exact .inr rfl
 ·exact .inr rfl
 ·exact .inl ⟨_,rfl,by decide +kernel,by decide +kernel,by decide +kernel⟩
 ·exact .inl ⟨_,rfl,by decide +kernel,by decide +kernel,by decide +kernel⟩
 ·exact .inl ⟨_,rfl,by decide +kernel,by decide +kernel,by decide +kernel⟩
end G
namespace G
open L2
open PySem (Str)
section
variable {k:Int}{ts:List Str}{i j:Nat}{t:Str}{ws:List Str}
theorem sN{ds:List D}{m:Nat}(h:m < ds.length):atI ds (m:Int)=some ds[m]:=by
 have e:ixN ds.length (m:Int)=some m:=by unfold ixN;simp;omega
 simp[atI,e,h]
theorem Ip.jok(I:Ip ts k i t ws j){y:Str}{us:List Str}(hy:y.length<=10)(hu:us.length<=2)(h:∀u∈us,u.length<=139):PySem.JoinOk y (ts++us)=true:=fQ (by have:=I.l;simp;omega) hy λu hu=>by
 rcases List.mem_append.mp hu with q|q
 ·exact Nat.le_trans (I.tl u q) (by decide)
 ·exact Nat.le_trans (h u q) (by decide)
theorem il5(I:Ip ts k i t ws j)(hk:k % 8=5)(hb:iO (.str (PySem.Str.join "; " (ts++[Str.ofString "way 0 1 0 any",Str.ofString "clock 1 1"])))):Ill ts k:=⟨_,hb,λ{cls kls fad M Q E n} hM=>by
 obtain⟨z1,z2,z3,z4,s0,s1⟩:=I.szs;have hl:=I.l;simp[aq,aj,aD,hk,z1,I.e,bI (c7 I.h),be,I.p.e,s0,s1];refine iff_of_eq (ai hM λp hp=>?_)
 have hz:ts.length+2<=PySem.sizeLine:=szl (by omega)
 have e:ts.map D.str++[.str (Str.ofString "way 0 1 0 any"),.str (Str.ofString "clock 1 1")]=(ts++[Str.ofString "way 0 1 0 any",Str.ofString "clock 1 1"]).map D.str:=by simp
 simp[d7,z2,I.f,hk,af,hz];rw[e,gL (I.jok (by decide +kernel) (by simp) λu hu=>?_),fu hp]
 simp at hu;rcases hu with rfl|rfl<;>decide +kernel⟩
theorem il7(I:Ip ts k i t ws j)(hk:k % 8=7):Ill ts k:=by
 obtain⟨z1,z2,z3,z4,s0,s1⟩:=I.szs;have hl:=I.l;obtain⟨m,e,hm⟩:=eO (a:=k / 16) (m:=7) (by decide)
 refine⟨k7[m]'hm,yy _ (List.getElem_mem hm),λ{cls kls fad M Q E n} hM=>?_⟩
 have ex:atI k7 (k / 16 % 7)=some (k7[m]'hm):=by
  rw[show k / 16 % 7=(m:Int) from e];exact sN hm
 simp[aq,aj,aD,hk,z1,I.e,bI (c7 I.h),be,I.p.e,s0,s1];refine iff_of_eq (ai hM λp hp=>?_)
 simp[d7,z2,I.f,hk,af];exact iff_of_eq ((bI ex).trans (by rw[fu hp]))
theorem il6(I:Ip ts k i t ws j)(hk:k % 8=6){t0:Str}(h0:ts[0]?=some t0)(hb:∀x∈[D.str (PySem.Str.join ";" (ts++[Str.ofString "clock 1 1"])),.str (PySem.Str.join "; " ts++"; "),.str (" "++t0)],iO x):Ill ts k:=by
 obtain⟨z1,z2,z3,z4,s0,s1⟩:=I.szs;have hl:=I.l;obtain⟨m,e,hm⟩:=eO (a:=k / 16) (m:=3) (by decide)
 refine⟨([D.str (PySem.Str.join ";" (ts++[Str.ofString "clock 1 1"])),.str (PySem.Str.join "; " ts++"; "),.str (" "++t0)]:List D)[m]'hm,hb _ (List.getElem_mem hm),λ{cls kls fad M Q E n} hM=>?_⟩
 have ex:atI [D.str (PySem.Str.join ";" (ts++[Str.ofString "clock 1 1"])),.str (PySem.Str.join "; " ts++"; "),.str (" "++t0)] (k / 16 % 3)=some (([D.str (PySem.Str.join ";" (ts++[Str.ofString "clock 1 1"])),.str (PySem.Str.join "; " ts++"; "),.str (" "++t0)]:List D)[m]'hm):=by
  rw[show k / 16 % 3=(m:Int) from e];exact sN hm
 simp[aq,aj,aD,hk,z1,I.e,bI (c7 I.h),be,I.p.e,s0,s1];refine iff_of_eq (ai hM λp hp=>?_)
 have hz:ts.length+1<=PySem.sizeLine:=szl (by omega)
 have e1:ts.map D.str++[.str (Str.ofString "clock 1 1")]=(ts++[Str.ofString "clock 1 1"]).map D.str:=by simp
 have i0:atI (ts.map D.str) 0=some (.str t0):=c7 (k:=0) h0;have j2:=I.jok (y:="; ") (us:=[]) (by decide +kernel) (by simp) (λu hu=>nomatch hu)
 rw[List.append_nil]at j2;simp[d7,z2,I.f,hk,af,hz];rw[e1,gL (I.jok (by decide +kernel) (by simp) λu hu=>by rw[List.mem_singleton.mp hu];decide +kernel),gL j2]
 have h1:=dc (y:="; ") (B:=139) ts I.tl;rw[i4]at h1;have h2:(PySem.Str.join "; " ts).length+(Str.ofString "; ").length<=PySem.sizeLine:=szl (by rw[i4];omega)
 have h3:(Str.ofString " ").length+t0.length<=PySem.sizeLine:=szl (by have:=I.tl t0 (List.mem_of_getElem? h0);rw[jZ];omega)
 simp[bI i0,h2,h3];exact iff_of_eq ((bI ex).trans (by rw[fu hp]))
theorem IlB.ill{cks:List (Int×Int)}{wy:List Wy}(W:Wl cks wy)(hl:(pts cks wy).length<=42)(h:IlB (pts cks wy) k i):Ill (pts cks wy) k:=by
 obtain⟨us,hu,h⟩:=h;exact⟨_,uA W hl hu,h⟩
theorem ill{cks:List (Int×Int)}{wy:List Wy}(W:Wl cks wy)(hl:(pts cks wy).length<=42)(h0:cks≠[])(k:Int):Ill (pts cks wy) k:=by
 obtain⟨c,r,ec⟩:=List.exists_cons_of_ne_nil h0;have ep:pts cks wy=kT c::pts r wy:=by rw[ec];rfl
 have hp:0 < (pts cks wy).length:=by rw[ep];simp
 obtain⟨i,ei,il⟩:=eO (a:=k / 16) hp;obtain⟨ws,P⟩:=Bb W _ (List.getElem_mem il);obtain⟨j,ej,jl⟩:=eO (a:=k / 200) (m:=ws.length) (by have:=P.len;omega)
 have I:Ip (pts cks wy) k i _ ws j:=⟨hl,ei,il,List.getElem?_eq_getElem il,cY W,P,ej,jl⟩;have h8:k % 8=0\/k % 8=1\/k % 8=2\/k % 8=3\/k % 8=4\/k % 8=5\/k % 8=6\/k % 8=7:=by omega
 have hn:pts cks wy≠[]:=by rw[ep];simp
 rcases h8 with h|h|h|h|h|h|h|h
 ·exact (il0 I h).ill W hl
 ·exact (il1 I h).ill W hl
 ·exact (il2 I h).ill W hl
 ·exact (il3 I h).ill W hl
 ·exact (il4 I h).ill W hl
 ·exact il5 I h (EY W hl h0)
 ·refine il6 I h (t0:=kT c) (by rw[ep];rfl) λx hx=>?_
  simp only[List.mem_cons,List.not_mem_nil,or_false]at hx;rcases hx with rfl|rfl|rfl
  ·exact Bk W hl hn
  ·exact A6 W hl hn
  ·exact Dh (W.c c (by rw[ec];simp))
 ·exact il7 I h
end
section
variable {cls kls fad:Nat->PySem.Addr}{M:MH}{Q:VK3}{E:XN}{n:Nat}
theorem tF{x:D}(hM:Fm M)(h:iO x):aa T (B cls kls fad) (n+8) 28 [x] M Q E=Q (.str "text") M:=by
 rcases h with ⟨z,rfl,h1,h2,h3⟩|h
 ·exact rE hM h1 h2 h3
 ·exact uL hM h
end
end G
namespace G
open L2
open PySem (Str)
section
variable {cls kls fad:Nat->PySem.Addr}{M:MH}{Q:VK3}{E:XN}{n:Nat}{c:Int}{wz:List Wy}
theorem uy{cks:List (Int×Int)}{wy:List Wy}(h:Wl cks wy):rBm .join (.str "; ") [.rol ((pts cks wy).map D.str)] M Q=Q (.str (gW cks wy)) M:=gL (fQ (by have:=h.l;simp[pts];omega) (by decide +kernel) λt ht=>Nat.le_trans (cY h t ht) (by decide))
theorem wt{cks:List (Int×Int)}{wy:List Wy}(h:Wl cks wy)(h0:cks≠[]):(cC "; " (gW cks wy)).length < 400:=by
 rw[qk h0];have:=h.l;simp[pts];omega
theorem ik{cks:List (Int×Int)}{wy:List Wy}:mi (B cls kls fad) 0 (wO kls cks wy) M Q=Q (.bl true) M:=by
 unfold wO;rw[uS];simp[ksub,ksubT]
theorem vJ{cks:List (Int×Int)}{wy:List Wy}:aU .NotEq (.tup [.rol (cks.map cD),.rol (wy.map wD)]) (.tup [.rol (cks.map cD),.rol (wy.map wD)]) M Q=Q (.bl false) M:=by
 have p1:pl (.tup [.rol (cks.map cD),.rol (wy.map wD)])=true:=by
  have h1:(cks.map cD).all (plN 6)=true:=by
   simp only[List.all_map,List.all_eq_true];intro x _;rfl
  have h2:(wy.map wD).all (plN 6)=true:=by
   simp only[List.all_map,List.all_eq_true];intro x _;obtain⟨i,j,l,m⟩:=x;cases m<;>rfl
  show (([.rol (cks.map cD),.rol (wy.map wD)]:List D).all (plN 7))=true;rw[List.all_cons,List.all_cons];show ((cks.map cD).all (plN 6)&&((wy.map wD).all (plN 6)&&true))=true;rw[h1,h2];rfl
 show lq true _ _ M Q=_;unfold lq;rw[show rs M (.tup [.rol (cks.map cD),.rol (wy.map wD)])=.tup [.rol (cks.map cD),.rol (wy.map wD)] from rfl,p1,ma 8 p1];simp
theorem B8(hM:Fm M)(Z:Wz (lg c) (hN c) wz)(hl:wz.length=(lwy c).length){y0 y3 y4 y5 y7 y8 y9:Option D}{De:Ends3}{ES:St3->XN}{k:St3->MH->Prop}{bk:St3->MH->Prop}
  (hk:∀y7,k [y0,some (.rol ((ar c).map cD)),some (.rol ((lwy c).map wD)),y3,y4,y5,some (.rol (wz.map wD)),y7,y8,y9] M) :
  au {toWB:=B cls kls fad,call:=aa T (B cls kls fad) (n+7)} jD {De with nx:=k,ct:=k,bk:=bk} ES [y0,some (.rol ((ar c).map cD)),some (.rol ((lwy c).map wD)),y3,y4,y5,some (.rol (wz.map wD)),y7,y8,y9] M:=by
 have W:=c5 Z hl;have h0:=bq c;have cp:∀{Q:VK3}{E:XN},aa T (B cls kls fad) (n+7) 26 [.rol ((ar c).map cD),.rol (wz.map wD)] M Q E=Q (.rol ((pts (ar c) wz).map D.str)) M:=λ{Q E}=>gc (n:=n+6) hM W
 have cr:∀{Q:VK3}{E:XN},aa T (B cls kls fad) (n+7) 22 [.str (gW (ar c) wz)] M Q E=Q (wO kls (ar c) wz) M:=λ{Q E}=>by
  rw[dD (n:=n) hM (Nat.le_trans (tX W) (by decide)) (wt W h0)]
  unfold tE;rw[mX W h0];show out _ _ (ce (ar c) wz)=_;rw[qd Z];rfl
 have ct:∀{Q:VK3}{E:XN},aa T (B cls kls fad) (n+7) 27 [wO kls (ar c) wz] M Q E=Q (.tup [.rol ((ar c).map cD),.rol ((lwy c).map wD)]) M:=λ{Q E}=>yl (n:=n) hM (ak c) (bH c).2.1 (rW c) Z
 simp[jD,cp,uy W,cr,ct,ik,vJ,af];exact hk _
theorem CL(hM:Fm M){z:Int}{y0 y3 y4 y5 y6 y7 y9:Option D}{De:Ends3}{ES:St3->XN}{k:St3->MH->Prop}{bk:St3->MH->Prop}
  (hk:∀y9,k [y0,some (.rol ((ar c).map cD)),some (.rol ((lwy c).map wD)),y3,y4,y5,y6,y7,some (.int z),y9] M) :
  au {toWB:=B cls kls fad,call:=aa T (B cls kls fad) (n+8)} iW {De with nx:=k,ct:=k,bk:=bk} ES [y0,some (.rol ((ar c).map cD)),some (.rol ((lwy c).map wD)),y3,y4,y5,y6,y7,some (.int z),y9] M:=by
 have W:=c5 (cy (lg c) (hN c)) rfl;have h0:=bq c;have l1:=ba c;obtain⟨h1,h6,he⟩:=bH c;obtain⟨x,hb,hi⟩:=ill W (by have:=ak c;simp[pts];show (ar c).length+(lwy c).length<=42;omega) h0 z
 obtain⟨ck,wk,V,v0,hn⟩:=ue c (z / 3);have cp:∀{Q:VK3}{E:XN},aa T (B cls kls fad) (n+8) 26 [.rol ((ar c).map cD),.rol ((lwy c).map wD)] M Q E=Q (.rol ((pts (ar c) (lwy c)).map D.str)) M:=λ{Q E}=>gc (n:=n+7) hM W
 have cq:∀{Q:VK3}{E:XN},aa T (B cls kls fad) (n+8) 26 [.rol (ck.map cD),.rol (wk.map wD)] M Q E=Q (.rol ((pts ck wk).map D.str)) M:=λ{Q E}=>gc (n:=n+7) hM V
 have ci:∀{Q:VK3}{E:XN},aa T (B cls kls fad) (n+8) 29 [.rol ((pts (ar c) (lwy c)).map D.str),.int z] M Q E=Q x M:=λ{Q E}=>hi (n:=n+7) hM
 have cw:∀{Q:VK3}{E:XN},aa T (B cls kls fad) (n+8) 28 [x] M Q E=Q (.str "text") M:=λ{Q E}=>tF hM hb
 have cn:∀{Q:VK3}{E:XN},aa T (B cls kls fad) (n+8) 30 [.rol ((ar c).map cD),.rol ((lwy c).map wD),.int (z / 3)] M Q E=Q (.tup [.rol (ck.map cD),.rol (wk.map wD),.str (aX (ce ck wk))]) M:=λ{Q E}=>hn (n:=n+7) hM
 have cv:∀{Q:VK3}{E:XN},aa T (B cls kls fad) (n+8) 28 [.str (gW ck wk)] M Q E=Q (.str (aX (ce ck wk))) M:=λ{Q E}=>ut hM (Nat.le_trans (tX V) (by decide)) (wt V v0) (mX V v0)
 simp[iW,cp,cq,ci,cw,cn,cv,uy V,aD,af];exact hk _
end
theorem uo(ns:List Int)(lo hi:Option Int):∃cs:List Int,bC (ns.map D.int) lo hi=cs.map D.int/\cs.length<=HT.sIx ns.length ns.length hi - HT.sIx ns.length 0 lo:=by
 unfold bC;rw[List.length_map,<-List.map_drop,<-List.map_take];exact⟨_,rfl,by simp only[List.length_take];omega⟩
theorem main(cls kls fad:Nat->PySem.Addr)(ns:List Int)(hl:ns.length<=63):aa (L.map FL.fb) (B cls kls fad) 9 31 [scr ns] (λ_=>none) (λd _=>d=.bl true) (λ_ _=>False):=by
 rw[FT];have hM:Fm (λ_=>none):=Fm.nil
 obtain⟨ks,e2,l2⟩:=uo ns (some 2) (some 14);have l2:ks.length<=12:=by
  simp[HT.sIx]at l2;omega
 obtain⟨c,e0⟩:=sg ns 0;obtain⟨c',e1⟩:=sg ns 1;have c0:∀{Q:VK3}{E:XN},aa T (B cls kls fad) 8 23 [scr ns,.int 0] (λ_=>none) Q E=Q (.int c) (λ_=>none):=λ{Q E}=>e0 (n:=7)
 have c1:∀{Q:VK3}{E:XN},aa T (B cls kls fad) 8 23 [scr ns,.int 1] (λ_=>none) Q E=Q (.int c') (λ_=>none):=λ{Q E}=>e1 (n:=7)
 have cw:∀{Q:VK3}{E:XN},aa T (B cls kls fad) 8 25 [.int c] (λ_=>none) Q E=Q (.tup [.rol ((ar c).map cD),.rol ((lwy c).map wD)]) (λ_=>none):=λ{Q E}=>uT (n:=6) hM
 have l1:=ba c;obtain⟨h1,h6,he⟩:=bH c;have ll:=ak c;have Zr:Wz (lg c) (hN c) (lwy c).reverse:=qv (List.reverse_perm _);have Z0:=cy (lg c) (hN c);have W:=c5 Z0 rfl;have W0:Wl (ar c) (lwy c):=W;have cm:∀{Q:VK3}{E:XN},_:=λ{Q E}=>ub (cls:=cls) (kls:=kls) (fad:=fad) (n:=2) (Q:=Q) (E:=E) hM (cks:=ar c) (wy:=(lwy c).reverse) (by omega) (by simp;omega) rfl
 simp only[qd Zr,out,forall_const,Nat.reduceAdd]at cm;have cs:∀{Q:VK3}{E:XN},aa T (B cls kls fad) 8 15 [wO kls (ar c) (lwy c).reverse] (λ_=>none) Q E=Q (.str (gW (ar c) (lwy c))) (λ_=>none):=λ{Q E}=>lc (n:=2) hM (ak c) h1 h6 W.c (rW c) Zr
 have cp:∀{Q:VK3}{E:XN},aa T (B cls kls fad) 8 26 [.rol ((ar c).map cD),.rol ((lwy c).map wD)] (λ_=>none) Q E=Q (.rol ((pts (ar c) (lwy c)).map D.str)) (λ_=>none):=λ{Q E}=>gc (n:=7) hM W
 simp only[Dj,p6];simp[c0,cw,af];refine⟨szl (by omega),szl (by omega),?_⟩
 rw[<-List.map_reverse];refine (iff_of_eq (cm (E:=λ_ _=>False))).mpr ?_
 obtain⟨m,em,hm⟩:=eO (a:=c') (m:=1+(lwy c).length) (by omega)
 have em:c' % (1+((lwy c).length:Int))=m:=by rw[<-em];simp
 have hpos:(0:Int) < 1+((lwy c).length:Int):=by omega
 simp[cs,cp,uy W0,c1,em,hpos,vN,CQ,-List.map_reverse];refine⟨szl (by omega),Nat.le_add_right_of_le (szl (by omega)),szl (by omega),szl (by omega),?_⟩
 rw[<-List.map_drop,<-List.map_take,<-List.map_append];generalize wO kls (ar c) (lwy c).reverse=o3;refine p7 (λσ=>∃y6 y7,σ=[some (scr ns),some (.rol ((ar c).map cD)),some (.rol ((lwy c).map wD)),some o3,some (.str (gW (ar c) (lwy c))),some (.int m),y6,y7,none,none]) ⟨_,_,rfl⟩ (λd hd σ ⟨y6,y7,q⟩ kk hkk=>?_) (λσ ⟨y6,y7,q⟩=>?_)
 ·subst q;have:∃wz:List Wy,d=.rol (wz.map wD)/\wz.Perm (lwy c):=by
   simp only[List.mem_cons,List.not_mem_nil,or_false]at hd;rcases hd with rfl|rfl|rfl
   ·exact⟨_,rfl,.refl _⟩
   ·exact⟨_,rfl,List.reverse_perm _⟩
   ·exact⟨_,rfl,List.perm_append_comm.trans (by rw[List.take_append_drop])⟩
  obtain⟨wz,rfl,hp⟩:=this;exact B8 (n:=1) hM (qv hp) hp.length_eq λy7=>hkk _ ⟨_,_,rfl⟩
 ·subst q;simp[scr,e2];refine⟨szl (by omega),?_⟩
  refine p7 (λσ=>∃y6 y7 y8 y9,σ=[some (scr ns),some (.rol ((ar c).map cD)),some (.rol ((lwy c).map wD)),some o3,some (.str (gW (ar c) (lwy c))),some (.int m),y6,y7,y8,y9]) ⟨_,_,_,_,rfl⟩ (λd hd σ ⟨y6,y7,y8,y9,q⟩ kk hkk=>?_) (λσ ⟨y6,y7,y8,y9,q⟩=>?_)
  ·subst q;obtain⟨z,_,rfl⟩:=List.mem_map.mp hd;exact CL (n:=0) hM λy9=>hkk _ ⟨_,_,_,_,rfl⟩
  ·subst q;simp
end G
open PySem PySem.W PyProof.Rows
set_option maxRecDepth 100000 in
set_option maxHeartbeats 0 in
theorem PySem.Challenge.cw_driftmeet_k88_worlds_written_holds : PySem.Challenge.rw_driftmeet_k88_worlds_written.Holds := by
 w_on;o_law
 refine L2.holdsT (l:=PySem.Challenge.rw_driftmeet_k88_worlds_written) (q:=HD.view) (loose:=HD.loose) (Xt:=HD.Xt) (XP:=XL HD.view []) (YP:=Hook.says (kHook HD.K HD.as HD.as_eq)) (N:=4688) (n:=63) HD.left (λw s e=>⟨Hook.of (kHook HD.K HD.as HD.as_eq) w s (congrArg Prod.fst e),Nat.le_of_ble_eq_true (congrArg Prod.snd e)⟩) (Hook.keeps (kHook HD.K HD.as HD.as_eq)) (λs e=>xl_of s (Bool.and_eq_true_iff.mp e).1) XL.keeps (by rfl) (by rfl) (by rfl) (λs e=>recFacts_of (Bool.and_eq_true_iff.mp e).2) (by kernel_rfl) (by first|assumption|decide +kernel) (by decide +kernel) ⟨rfl,rfl,rfl,rfl,rfl,by decide +kernel⟩ ?hw rfl rfl ?hc
 (case hw=>w_witness2)
 k_fill
 refine L2.walkD (l:=PySem.Challenge.rw_driftmeet_k88_worlds_written) (k:=9) (f:=31) (fl:=G.l_law) (x:="_law_script") (L:=G.L) (nm:=G.nm) (BB:=G.B) ⟨rfl,by decide,by decide⟩ (λw h Y=>PySem.W.kIn_of Y) rfl rfl rfl rfl ?F (λcls kls fad ns hl=>G.main cls kls fad ns hl)
 case F=>
  intro w mg h KX Gn
  refine' G.top_mk KX Gn ?gl0 ?gl1 ?gl2
  (case gl0=>k_is)
  (case gl1=>k_is)
  (case gl2=>k_is)
  all_goals exact⟨0,0,0,0⟩
