import PyProof.Rows.All
import Wide.All
import OpenK.AllK
import Wide.FinOn
import Lean
import PyProof.EqAt
import PyProof.EqKinds
import PyProof.TupleCall
import PySem.Challenge.RW_driftmeet_k32_bounds_broken
set_option Elab.async false
set_option linter.all false
set_option maxRecDepth 100000
namespace L2
open PySem PySem.Spec PyProof.Rows
abbrev Ii:=PySem.W.Frag
def xL:=@wpAny_bind
def GS:=@Bool.and_eq_true
def GT:=@wpAny_pure
def GU:=@Nat.lt_of_lt_of_le
def GV:=@if_neg
def GX:=@Heap.get?_push_of_some
def GY:=@List.mem_cons_of_mem
def GZ:=@Nat.le_refl
def G1:=@decide_eq_true_eq
def G2:=@Heap.lt_size
def G3:=@if_pos
def G4:=@Heap.get?_push_size
def G5:=@List.mem_cons_self
def G6:=@List.map_cons
def G7:=@List.size_toArray
def G8:=@List.length_map
def G9:=@List.mem_cons
def Ha:=@Nat.le_trans
def Hb:=@beq_iff_eq
def Hd:=@List.getElem?_eq_getElem
def He:=@Ne.symm
def Hf:=@Bool.false_ne_true
def Hg:=@Option.some.inj
def Hh:=@List.all_eq_true
def Hi:=@List.getElem?_map
def Hj:=@List.mem_append_right
def Hk:=@List.length_cons
def Hl:=@Nat.ne_of_lt
def Hm:=@Heap.get?_update_other
def Hn:=@List.mem_map
def Ho:=@List.mem_append
def Hq:=@List.mem_singleton
def Hr:=@beq_eq_false_iff_ne
def Hs:=@Nat.le_add_right
def Ht:=@wpAny_newObj_type
def Hu:=@List.length_append
def Hv:=@List.getElem?_eq_some_iff
def Hw:=@decide_eq_false
def Hx:=@wpAny_truthy_bool
def Hy:=@Array.getElem?_eq_some_iff
def Hz:=@Heap.get?_update_self
def HA:=@tupleKind_room_in1
def HB:=@wpAny_field
def HC:=@wpAny_holding
def HE:=@List.mem_append_left
def HF:=@Int.emod_lt_of_pos
def HG:=@List.lookup_cons
def HH:=@Nat.succ_pos
def HI:=@Nat.lt_irrefl
def HJ:=@Int.emod_nonneg
def HK:=@List.nodup_cons
def HL:=@List.find?_cons
def HM:=@List.append_nil
def HN:=@Int.eq_ofNat_of_zero_le
def HP:=@wpAny_mono
def HQ:=@wpAny_setField
def HR:=@List.map_append
def HS:=@List.not_mem_nil
def HU:=@List.getElem_mem
def HV:=@Obj.data_mapFields
def HW:=@List.mem_of_getElem?
def HX:=@Bool.and_eq_true_iff
def HY:=@wpAny_call_entry
def HZ:=@Bool.false_eq_true
def Ia:=@Nat.le_succ
def Ib:=@List.getElem?_set_ne
def Id:=@Option.isSome_iff_exists
def Ie:=@wpAny_dictEntries
def Ig:=@of_decide_eq_true
def Ih:=@Int.toNat_natCast
end L2
namespace L2
open PySem
theorem gN{M:Model}(h:Runs M Γ p t fs s e s'):s.toks<=s'.toks:=by
 induction h with
 |done|raise|yield=>exact GZ _
 |fresh _ ih=>exact Nat.le_of_succ_le ih
 |call _ _ a b|segRet _ _ a b=>exact Ha a b
 |resumeFresh _ _ _ _ a b|resumeSuspended _ _ _ _ a b|segGen _ _ a b|segSuspGen _ _ _ _ a b=>exact Ha a b
 |_=>assumption
theorem pH{M:Model}(h:Wakes M Γ p g r s res s'):s.toks<=s'.toks:=by
 unfold Wakes at h;split at h
 ·exact h.elim
 ·split at h
  ·obtain⟨e,s1,h1,_,_,rfl⟩:=h;have:=gN h1;exact this
  ·rw[h.2];exact GZ _
  ·rw[h.2];exact GZ _
 ·obtain⟨e,s1,h1,_,_,rfl⟩:=h;have:=gN h1;exact this
 ·rw[h.2];exact GZ _
 ·rw[h.2];exact GZ _
theorem xg{M:Model}{t:Sem α}{Q:α->Pos->Shared->Prop}{E:Value->Pos->Shared->Prop}(n:Nat)(h:Sem.wp M Γ t (λa p s'=>n<=s'.toks->Q a p s') (λa p s'=>n<=s'.toks->E a p s') p s)(hn:n<=s.toks):Sem.wp M Γ t Q E p s:=by
 revert h hn
 induction t generalizing p s with
 |pure x=>exact λh g=>h g
 |raise v=>exact λh g=>h g
 |unsupported|finish|yield|fork|await|register=>exact λh _=>h
 |fresh k ih=>exact λh g=>ih _ h (Nat.le_succ_of_le g)
 |rule _ k ih|«at» _ k ih|alloc _ k ih|loadIfAlive _ k ih|point _ k ih|ask k ih|os _ _ k ih|handled _ k ih|newGen _ k ih|stack k ih|thread k ih=>exact λh g=>ih _ h g
 |load a _ k ih|genState a k ih=>exact λ⟨o,ho,h⟩ g=>⟨o,ho,ih _ h g⟩
 |update a _ f k ih|choose _ _ k ih=>exact λ⟨ha,h⟩ g=>⟨ha,ih _ h g⟩
 |call c h g l k ih=>exact λ⟨r,s1,q,z⟩ g=>⟨r,s1,q,ih _ z (Ha g (gN q))⟩
 |resume g r l k ih=>exact λ⟨res,s',hw,h⟩ g=>⟨res,s',hw,ih _ h (Ha g (pH hw))⟩
theorem eN{M:Model}{A:Around}{t:Sem α}{Q:α->Shared->Prop}{E:Value->Shared->Prop}(hn:0<s.toks)(h:wpAny M A t (λa s'=>0<s'.toks->Q a s') (λa s'=>0<s'.toks->E a s') s):wpAny M A t Q E s:=λΓ p hΓ=>xg 1 (h Γ p hΓ) hn
end L2
set_option maxHeartbeats 4000000
namespace L2
open PySem PySem.Spec PyProof.Rows
theorem kh:entryFor table "proto.unchain"=some Builtin.«proto.unchain»:=entryFor_of_tree (by kernel_rfl)
def nF(o:Obj):Prop:=∃vs,o.data=.fields vs/\vs[2]?=some .none
def yM(A:Around)(h:Heap):Prop:=A.handled=none\/∃a o,A.handled=some (.ref a)/\h.get? a=some o/\nF o
section
variable {prog:Program}{w:World}{A:Around}{E:Value->Shared->Prop}{s:Shared}
theorem uU{b:Addr}{T:String}{ws:Array Value}{Q:α->Shared->Prop}(hh:yM A s.heap)(hb:s.heap.get? b=some {cls:=.type T,data:=.fields ws})(hz:2<ws.size)(hws:ws.size<=100)(hne:A.handled≠some (.ref b))
  (h:∀h',Heap.SameBut b s.heap h'->(∃o',h'.get? b=some o'/\o'.cls=.type T)->E (.ref b) {s with heap:=h'}):wpAny (model prog w) A (raiseNew (.ref b)) Q E s:=by
 simp only[raiseNew];refine xL (wpAny_handled ?_);rcases hh with e|⟨a,o,e,ho,vs,hv,h2⟩
 ·rw[e];exact xL (GT (wpAny_throw (h _ ⟨rfl,λ_ _=>rfl⟩ ⟨_,hb,rfl⟩)))
 ·rw[e];have ab:a≠b:=λz=>hne (by rw[e,z])
  have hn:(Value.ref a != Value.ref b)=true:=by simpa using ab
  simp only[hn,if_true];refine xL (HC (wpAny_runValue (codeAny_builtin kh ?_)));show wpAny _ _ (field (.ref a) 2 >>=_) _ _ s;refine xL (HB ho hv (x:=.none) h2 ?_);show wpAny _ _ (ret .none) _ _ s;refine GT (xL ?_);have us:=HQ (M:=model prog w) (A:=A) (E:=E) (x:=.ref a) hb rfl hz (Q:=λ_ s'=>wpAny (model prog w) A (throw (.ref b)) Q E s') (wpAny_throw (h _ (Heap.SameBut.update ..) ⟨_,Hz _ hb rfl,rfl⟩))
  exact us
open PySem in
theorem km{it l:Addr}{i:Nat}{items}{Q:Option Value->Shared->Prop}(hh:yM A s.heap)(hl':∀a,A.handled=some (.ref a)->a≠it)
  (hit:s.heap.IsListIter it l i)(hl:s.heap.IsList l items) (hx:items[i]?=none)
  (hQ:∀h',Heap.ExtBut it s.heap h'->Q none {s with heap:=h'}):wpAny (model prog w) A (pyNext (.ref it)) Q E s:=by
 obtain⟨o,ho,hc,hd⟩:=id hit;obtain⟨ol,hol,_,nl,hdl⟩:=hl;unfold pyNext;refine xL (wpAny_attempt (wpAny_callSpecial?_slot (name:=Str.ofString "__next__") hit.typeIs slot_listiter_next
  (HY slot_listiter_next hit.typeIs entry_listiter_next ?_ (args_listiter_next _))))
 show wpAny _ _ (field (.ref it) 0 >>=_) _ _ s;refine xL (HB ho hd (x:=.ref l) rfl ?_);show wpAny _ _ (if (Value.ref l == Value.none)=true then _ else _) _ _ s
 rw[GV (show ¬ ((Value.ref l == Value.none)=true) from Hf)];show wpAny _ _ (field (.ref it) 1 >>=_) _ _ s;refine xL (HB ho hd (x:=.int i 0) rfl ?_);show wpAny _ _ (seqItems? (.ref l) >>=_) _ _ s;refine xL (wpAny_seqItems hol hdl ?_);simp only[Ih,hx];refine xL (wpAny_rule (xL (HQ ho hd (by simp) ?_)))
 show wpAny _ _ (newExc (.type "StopIteration") [] >>=_) _ _ _;refine xL ?_;simp only[newExc,newTuple];refine xL (Ht ?_ (by size_fits))
 refine xL (m:=firstArgMember _ _) (wpAny_of_eq (a:=Value.none) (by first|rfl|(simp only[firstArgMember];rfl)) ?_)
 refine Ht ?_ (by size_fits)
 have sb:Heap.SameBut it s.heap (s.heap.update it (Obj.mapFields λx=>x.setIfInBounds 0 .none)):=Heap.SameBut.update ..
 have ext:∀x y,Heap.ExtBut it s.heap (((s.heap.update it (Obj.mapFields λx=>x.setIfInBounds 0 .none)).push x).push y):=λx y=>(sb.extBut.push _).push _
 have big:∀b ob,s.heap.get? b=some ob->b<s.heap.objs.size:=λb ob e=>G2 e
 have hn:∀x:Obj,((s.heap.update it (Obj.mapFields λx=>x.setIfInBounds 0 .none)).push x).objs.size=s.heap.objs.size+1:=λx=>by rw[Heap.size_push,sb.1]
 refine uU (T:="StopIteration") ?_ (G4 _ rfl) (by simp[ownMembersOf]) (by simp[ownMembersOf]) ?_ λh' sb2 ⟨o',ho',hc'⟩=>?_
 ·rcases hh with e|⟨a,oa,e,ha,lo⟩
  ·exact .inl e
  ·exact .inr ⟨a,oa,e,ext _ _ a oa (hl' a e) ha,lo⟩
 ·intro q;rcases hh with e|⟨a,oa,e,ha,lo⟩
  ·rw[show A.in1.handled=none from e]at q;cases q
  ·rw[show A.in1.handled=some (.ref a) from e]at q;have:=big a oa ha;have q2:=Value.ref.inj (Hg q);have q3:a=s.heap.objs.size+1:=q2.trans (hn _);exact HI _ (GU (q3▸this:s.heap.objs.size+1<s.heap.objs.size) (Ia _))
 ·refine xL (wpAny_isInstance (T:="StopIteration") (b:=true) ⟨o',ho',hc'⟩ isSubtype_stop ?_);refine GT (hQ _ λb ob hb e=>?_)
  have:=big b ob e;refine (sb2.2 b λq=>?_).trans (ext _ _ b ob hb e)
  have q3:b=s.heap.objs.size+1:=q.trans (hn _);exact HI _ (GU (q3▸this:s.heap.objs.size+1<s.heap.objs.size) (Ia _))
end
noncomputable abbrev Key:=Sum Int Str
noncomputable def kR:Key->Value->Bool
 |.inl k,v=>Value.isInt k v
 |.inr x,v=>Value.isStrOf x v
noncomputable def El(w:World):Key->Int
 |.inl k=>hashInt k
 |.inr x=>hashStr w x
theorem aG:∀{k:Key}{v:Value},kR k v=true->(∃i t,k=Sum.inl i/\v=Value.int i t)\/(∃x t,k=Sum.inr x/\v=Value.str x t)
 |.inl i,v,h=>by
  obtain⟨t,e⟩:=Value.isInt_shape (k:=i) (v:=v) h;exact .inl ⟨i,t,rfl,e⟩
 |.inr x,v,h=>by
  obtain⟨t,e⟩:=Value.isStrOf_shape (x:=x) (v:=v) h;exact .inr ⟨x,t,rfl,e⟩
theorem qY(i:Int)(t:Tok):kR (.inl i) (.int i t)=true:=by simp[kR,Value.isInt]
theorem qT(x:Str)(t:Tok):kR (.inr x) (.str x t)=true:=by simp[kR,Value.isStrOf]
theorem yQ(a b:Int):decide ((Sum.inl a:Key)=Sum.inl b)=(a == b):=by
 by_cases e:a=b
 ·subst e;simp
 ·have h:¬ (Sum.inl a:Key)=Sum.inl b:=λq=>e (Sum.inl.inj q)
  rw[Hw h];exact (Hr.mpr e).symm
theorem AJ(a b:Str):decide ((Sum.inr a:Key)=Sum.inr b)=decide (a=b):=by
 by_cases e:a=b
 ·subst e;simp
 ·have h:¬ (Sum.inr a:Key)=Sum.inr b:=λq=>e (Sum.inr.inj q)
  rw[Hw h,Hw e]
theorem yC(a:Int)(b:Str):decide ((Sum.inl a:Key)=Sum.inr b)=false:=Hw (λq=>nomatch q)
theorem yx(a:Str)(b:Int):decide ((Sum.inr a:Key)=Sum.inl b)=false:=Hw (λq=>nomatch q)
noncomputable def av(prog:Program)(w:World):PySem.KeyKind prog w Key where
 is:=kR
 hash:=El w
 inj:=λv a b ha hb=>by
  rcases aG ha with ⟨i,t,rfl,rfl⟩|⟨x,t,rfl,rfl⟩
  ·rcases aG hb with ⟨j,u,rfl,e⟩|⟨y,u,rfl,e⟩
   ·injection e with e1 _;rw[e1]
   ·exact nomatch e
  ·rcases aG hb with ⟨j,u,rfl,e⟩|⟨y,u,rfl,e⟩
   ·exact nomatch e
   ·injection e with e1 _;rw[e1]
 byValue:=λk v h=>by
  rcases aG h with ⟨i,t,rfl,rfl⟩|⟨x,t,rfl,rfl⟩<;>rfl
 pyHash:=λhv h=>by
  rcases aG hv with ⟨i,t,rfl,rfl⟩|⟨x,t,rfl,rfl⟩
  ·exact wpAny_pyHash_int h
  ·exact wpAny_pyHash_str h
 eqBool:=λhu hv h=>by
  rcases aG hu with ⟨i,t,rfl,rfl⟩|⟨x,t,rfl,rfl⟩
  ·rcases aG hv with ⟨j,u,rfl,rfl⟩|⟨y,u,rfl,rfl⟩
   ·rw[yQ]at h;exact wpAny_eqBool_int h
   ·rw[yC]at h;exact SeqAt.EqAt.int_str i t y u _ _ _ _ h
  ·rcases aG hv with ⟨j,u,rfl,rfl⟩|⟨y,u,rfl,rfl⟩
   ·rw[yx]at h;exact SeqAt.EqAt.str_int x t j u _ _ _ _ h
   ·rw[AJ]at h;exact wpAny_eqBool_str h
 «strs»:=λk x t v h=>by
  rcases aG h with ⟨i,u,rfl,e⟩|⟨y,u,rfl,e⟩
  ·exact nomatch e
  ·injection e with e1 _
   subst e1;cases v<;>rfl
theorem mI(prog:Program)(w:World)(i:Int)(t:Tok):(av prog w).is (.inl i) (.int i t)=true:=qY i t
theorem eL(prog:Program)(w:World)(x:Str)(t:Tok):(av prog w).is (.inr x) (.str x t)=true:=qT x t
inductive V where
 |non|bl (b:Bool)|int (i:Int)|str (x:Str)|byt (b:Array UInt8)|flt (b:UInt64)|ref (a:Addr)|ty (n:String)
 deriving DecidableEq
def RelV:V->Value->Prop
 |.non,u=>u=Value.none
 |.bl b,u=>u=Value.bool b
 |.int i,u=>∃t,u=Value.int i t
 |.str x,u=>∃t,u=Value.str x t
 |.byt b,u=>∃t,u=Value.bytes b t
 |.flt b,u=>∃t,u=Value.float b t
 |.ref a,u=>u=Value.ref a
 |.ty n,u=>u=Value.type n
abbrev Vals:List V->List Value->Prop:=Paired RelV
theorem Vals.length{xs:List V}{us:List Value}(r:Vals xs us):xs.length=us.length:=Paired.length r
theorem Vals.get:∀{xs:List V}{us:List Value}{i:Nat}{x:V},Vals xs us->xs[i]?=some x->∃u,us[i]?=some u/\RelV x u
 |_,_,_,_,.nil,e=>by simp at e
 |_,_,0,_,.cons r _,e=>by simp at e;subst e;exact⟨_,rfl,r⟩
 |_,_,i+1,x,.cons _ t,e=>by
  obtain⟨u,h1,h2⟩:=Vals.get (i:=i) (x:=x) t (by simpa using e)
  exact⟨u,by simpa using h1,h2⟩
theorem Vals.set(r:RelV x u):∀{xs:List V}{us:List Value} (i:Nat),Vals xs us->Vals (xs.set i x) (us.set i u)
 |_,_,_,.nil=>.nil
 |_,_,0,.cons _ t=>.cons r t
 |_,_,i+1,.cons q t=>.cons q (Vals.set r i t)
theorem Vals.append:∀{xs ys:List V}{us ws:List Value},Vals xs us->Vals ys ws->Vals (xs++ys) (us++ws)
 |_,_,_,_,.nil,s=>s
 |_,_,_,_,.cons r t,s=>.cons r (Vals.append t s)
theorem Vals.take:∀{xs:List V}{us:List Value} (n:Nat),Vals xs us->Vals (xs.take n) (us.take n)
 |_,_,0,_=>.nil
 |_,_,_+1,.nil=>.nil
 |_,_,n+1,.cons r t=>.cons r (Vals.take n t)
theorem Vals.drop:∀{xs:List V}{us:List Value} (n:Nat),Vals xs us->Vals (xs.drop n) (us.drop n)
 |_,_,0,r=>r
 |_,_,_+1,.nil=>.nil
 |_,_,n+1,.cons _ t=>Vals.drop n t
def RelO:Option V->Option Value->Prop
 |some v,some u=>RelV v u
 |none,none=>True
 |_,_=>False
def KV:List (κ×V)->List (κ×Value)->Prop:=Paired λ(p:κ×V) (q:κ×Value)=>p.1=q.1/\RelV p.2 q.2
noncomputable def kV:Key->V
 |.inl i=>.int i
 |.inr x=>.str x
inductive HO where
 |lst (xs:List V)
 |tup (xs:List V)
 |dK (kvs:List (Key×V))|dT (kvs:List (List Key×V))
 |set (S:Int->Bool) (n:Nat)
 |ins (C dx:Addr) (fs:List (Str×V))
 |own (x:Addr)
 |xd (fs:List (Str×V))
 |met (f x:Addr)
 |rng (lo hi:Int)
 |frz (o:Obj) (u:HO)
 |tbl (ps:Array Value)
 |ext (φ:Heap->Prop)
noncomputable abbrev Hp:=Addr->Option HO
noncomputable def upd(H:Hp)(a:Addr)(o:HO):Hp:=λb=>if b=a then some o else H b
theorem ae:upd H a o a=some o:=by unfold upd;rw[G3 rfl]
theorem ac(h:b≠a):upd H a o b=H b:=by unfold upd;rw[GV h]
theorem dg{H:Hp}{a b:Addr}{o u:HO}(h:H a=some o)(h':H b=some u)(d:o≠u):a≠b:=by
 intro e;subst e;rw[h]at h';exact d (Hg h')
theorem au{H:Hp}{a b:Addr}{o:HO}(h:H a=some o)(h':H b=none):a≠b:=by
 intro e;subst e;rw[h]at h';cases h'
section
variable (P:Program) (w:World)
def ObjOk(H:Hp)(h:Heap)(a:Addr):HO->Prop
 |.lst xs=>xs.length<=sizeLine/\∃(its:List Value) (n:Nat),Vals xs its/\h.get? a=some {cls:=.type "list",data:=.seq its.toArray n}
 |.tup xs=>xs.length<=sizeLine/\∃its:List Value,Vals xs its/\IsTup h a its.toArray
 |.dK kvs=>kvs.length<=sizeLine/\(a == sysModules)=false/\∃vs,KV kvs vs/\h.DictOf (av P w) a vs
 |.dT kvs=>kvs.length<=sizeLine/\(a == sysModules)=false/\∃xs:List (List Key×Addr×Value),
   Paired (λ(p:List Key×V) (q:List Key×Addr×Value)=>p.1=q.1/\H q.2.1=some (.tup (p.1.map kV))/\RelV p.2 q.2.2) kvs xs/\
   ∃o es ep,h.get? a=some o/\o.ExactDict/\o.data=.dict es ep/\es.toList=xs.map (entryOfKey (tupleKind (av P w)))/\(xs.map (·.1)).Nodup
 |.set S n=>h.SetOf (intKind P w) a S n
 |.ins C dx fs=>H dx=some (.own a)/\fs.length<=1000/\dx≠a/\h.get? a=some (PySem.W.instObj C dx)/\
   ∃mA,h.Ns1 dx mA/\(∀f,RelO (fs.lookup f) (mA f))/\PySem.Within mA (fs.map (·.1))
 |.own _=>∃o,h.get? a=some o
 |.xd fs=>∃mA,h.Ns1 a mA/\∀f,RelO (fs.lookup f) (mA f)
 |.rng lo hi=>∃t u v,h.get? a=some {cls:=.type "range",data:=.fields #[.int lo t,.int hi u,.int 1 v]}
 |.frz o u=>h.get? a=some o/\ObjOk H h a u
 |.tbl ps=>h.get? a=some {cls:=.none,data:=.fields ps}
 |.met f x=>h.get? a=some (PySem.W.methodObj (.ref f) (.ref x))
 |.ext φ=>φ h/\(∃o,h.get? a=some o)/\∀h1 h2:Heap,φ h1->(∀o,h1.get? a=some o->h2.get? a=some o)->φ h2
def HOk(H:Hp)(h:Heap):Prop:=∀a o,H a=some o->ObjOk P w H h a o
end
section
variable {P:Program}{w:World}{H H':Hp}{h h':Heap}{a:Addr}{o:HO}
theorem ObjOk.lt(x:ObjOk P w H h a o):a<h.objs.size:=by
 cases o with
 |lst xs=>obtain⟨_,_,_,_,e⟩:=x;exact G2 e
 |tup xs=>obtain⟨_,_,_,p⟩:=x;exact p.lt
 |dK kvs=>obtain⟨_,_,_,_,o,_,_,e,_⟩:=x;exact G2 e
 |dT kvs=>obtain⟨_,_,_,_,o,_,_,e,_⟩:=x;exact G2 e
 |set S n=>obtain⟨o,_,_,_,e,_⟩:=x;exact G2 e
 |ins C dx fs=>obtain⟨_,_,_,e,_⟩:=x;exact G2 e
 |own y=>obtain⟨_,e⟩:=x;exact G2 e
 |xd fs=>obtain⟨_,⟨_,_,_,e,_⟩,_⟩:=x;exact G2 e
 |rng lo hi=>obtain⟨_,_,_,e⟩:=x;exact G2 e
 |frz ob u=>obtain⟨e,_⟩:=x;exact G2 e
 |tbl ps=>exact G2 (show h.get? a=some _ from x)
 |met f y=>exact G2 (show h.get? a=some _ from x)
 |ext φ=>obtain⟨_,⟨_,e⟩,_⟩:=x;exact G2 e
theorem Paired.mapP:∀{l₁:List α}{l₂:List β},Paired F l₁ l₂->(∀a b,F a b->G a b)->Paired G l₁ l₂
 |_,_,.nil,_=>.nil
 |_,_,.cons r t,f=>.cons (f _ _ r) (Paired.mapP t f)
theorem ObjOk.stay(x:ObjOk P w H h a o)(k:∀b u,(b=a\/H b=some (.own a))->h.get? b=some u->h'.get? b=some u)
  (ho:∀b,H b=some (.own a)->H' b=some (.own a)) (ht:∀b xs,H b=some (.tup xs)->H' b=some (.tup xs)):ObjOk P w H' h' a o:=by
 induction o with
 |lst xs=>obtain⟨z,its,n,r,e⟩:=x;exact⟨z,its,n,r,k _ _ (.inl rfl) e⟩
 |tup xs=>obtain⟨z,its,r,ob,e,c⟩:=x;exact⟨z,its,r,ob,k _ _ (.inl rfl) e,c⟩
 |dK kvs=>obtain⟨z,y,vs,r,ob,es,ep,e,c⟩:=x;exact⟨z,y,vs,r,ob,es,ep,k _ _ (.inl rfl) e,c⟩
 |dT kvs=>
  obtain⟨z,y,xs,r,ob,es,ep,e,c⟩:=x;exact⟨z,y,xs,Paired.mapP r λp q z=>⟨z.1,ht _ _ z.2.1,z.2.2⟩,ob,es,ep,k _ _ (.inl rfl) e,c⟩
 |set S n=>obtain⟨ob,es,ep,t,e,c⟩:=x;exact⟨ob,es,ep,t,k _ _ (.inl rfl) e,c⟩
 |ins C dx fs=>
  obtain⟨d,z,ne,e,mA,⟨od,es,ep,e2,c⟩,r⟩:=x;exact⟨ho _ d,z,ne,k _ _ (.inl rfl) e,mA,⟨od,es,ep,k _ _ (.inr d) e2,c⟩,r⟩
 |own y=>obtain⟨ob,e⟩:=x;exact⟨ob,k _ _ (.inl rfl) e⟩
 |xd fs=>obtain⟨mA,⟨od,es,ep,e,c⟩,r⟩:=x;exact⟨mA,⟨od,es,ep,k _ _ (.inl rfl) e,c⟩,r⟩
 |rng lo hi=>obtain⟨t,u,v,e⟩:=x;exact⟨t,u,v,k _ _ (.inl rfl) e⟩
 |frz ob u ih=>obtain⟨e,q⟩:=x;exact⟨k _ _ (.inl rfl) e,ih q⟩
 |tbl ps=>
  have e:h.get? a=some {cls:=.none,data:=.fields ps}:=x;show h'.get? a=some {cls:=.none,data:=.fields ps};exact k a _ (.inl rfl) e
 |met f y=>
  have e:h.get? a=some (PySem.W.methodObj (.ref f) (.ref y)):=x;show h'.get? a=some (PySem.W.methodObj (.ref f) (.ref y));exact k a _ (.inl rfl) e
 |ext φ=>obtain⟨p,⟨o,e⟩,st⟩:=x;exact⟨st _ _ p λo q=>k _ _ (.inl rfl) q,⟨o,k _ _ (.inl rfl) e⟩,st⟩
theorem HOk.lt(x:HOk P w H h)(e:H a=some o):a<h.objs.size:=(x a o e).lt
theorem HOk.fresh(x:HOk P w H h)(e:h.objs.size<=a):H a=none:=by
 cases q:H a with
 |none=>rfl
 |some u=>exact absurd (GU (x.lt q) e) (HI _)
theorem HOk.kept(x:HOk P w H h)(k:∀b u,h.get? b=some u->h'.get? b=some u):HOk P w H h':=λa o e=>
 (x a o e).stay (λb u _ q=>k b u q) (λ_ q=>q) λ_ _ q=>q
theorem HOk.laid(x:HOk P w H h)(k:∀b u,h.get? b=some u->h'.get? b=some u)(hp:h.objs.size<=a)(new:ObjOk P w (upd H a o) h' a o):HOk P w (upd H a o) h':=λb u e=>by
 have hn:=x.fresh hp;by_cases hb:b=a
 ·subst hb;rw[ae]at e;cases e;exact new
 ·rw[ac hb]at e;exact (x b u e).stay (λc v _ q=>k c v q) (λc q=>by rw[ac (au q hn)];exact q) λc xs q=>by rw[ac (au q hn)];exact q
end
def Rd(H:Hp)(a:Addr)(u:HO):Prop:=H a=some u\/∃o,H a=some (.frz o u)
theorem Rd.ok{P:Program}{w:World}{H:Hp}{h:Heap}{a:Addr}{u:HO}(r:Rd H a u)(x:HOk P w H h):ObjOk P w H h a u:=by
 rcases r with r|⟨o,r⟩
 ·exact x a u r
 ·obtain⟨_,q⟩:=x a _ r;exact q
def Mut:Option HO->Prop
 |some (.lst _)=>True
 |some (.dK _)=>True
 |some (.dT _)=>True
 |some (.set _ _)=>True
 |some (.ins _ _ _)=>True
 |some (.ext _)=>True
 |_=>False
section
variable {P:Program}{w:World}{h h':Heap}{x e:Addr}
theorem HOk.write(ok:HOk P w H h)(mu:Mut (H x))(he:e=x\/H e=some (.own x))(k:∀b u,b≠e->h.get? b=some u->h'.get? b=some u)(heo:∃u,h'.get? e=some u)
  (new:ObjOk P w (upd H x o') h' x o'):HOk P w (upd H x o') h':=λb u q=>by
 have nown:∀c y,H c=some (.own y)->c≠x:=λc y r z=>by subst z;rw[r]at mu;exact mu
 have xf:∀c xs,H c=some (.tup xs)->c≠x:=λc xs r z=>by subst z;rw[r]at mu;exact mu
 by_cases hb:b=x
 ·subst hb;rw[ae]at q;cases q;exact new
 ·rw[ac hb]at q;by_cases hbe:b=e
  ·have q':H b=some (.own x):=by
    rcases he with z|z
    ·exact absurd (hbe.trans z) hb
    ·rw[hbe];exact z
   rw[q]at q';cases q';obtain⟨v,hv⟩:=heo;exact⟨v,by rw[hbe];exact hv⟩
  ·refine (ok b u q).stay (λc v hc r=>k c v ?_ r) (λc r=>by rw[ac (nown c b r)];exact r) λc xs r=>by rw[ac (xf c xs r)];exact r
   rcases hc with rfl|hc
   ·exact hbe
   ·rintro rfl;rcases he with z|z
    ·exact nown c b hc z
    ·rw[hc]at z;cases z;exact hb rfl
end
structure Un (fs ex:List Addr)(H H':Hp)(h h':Heap):Prop where
 keep:∀b o,h.get? b=some o->H b=none->b∉fs->b∉ex->h'.get? b=some o
 slot:∀b o,h.get? b=some o->H b=none->b∈fs->b∉ex->∃sl,h'.get? b=some {o with slots:=sl}
 free:∀b o,h.get? b=some o->H b=none->b∉ex->H' b=none
 there:∀b o,h.get? b=some o->b∉ex->∃o',h'.get? b=some o'
 tups:∀b xs,H b=some (.tup xs)->H' b=some (.tup xs)
 frzs:∀b o u,H b=some (.frz o u)->H' b=some (.frz o u)
 tbls:∀b ps,H b=some (.tbl ps)->∃more,H' b=some (.tbl (ps++more))
section
variable {fs fs' ex ex':List Addr}{H H1 H2:Hp}{h h1 h2 h':Heap}{a x e:Addr}{o:HO}
theorem Un.any(u:Un fs ex H H1 h h1)(q:h.get? b=some ob)(n:H b=none)(hx:b∉ex):∃sl,h1.get? b=some {ob with slots:=sl}:=by
 by_cases hb:b∈fs
 ·exact u.slot b ob q n hb hx
 ·exact⟨ob.slots,u.keep b ob q n hb hx⟩
theorem Un.kept(k:∀b u,h.get? b=some u->h'.get? b=some u):Un fs ex H H h h':=
 ⟨λb ob q _ _ _=>k b ob q,λb ob q _ _ _=>⟨ob.slots,k b ob q⟩,λ_ _ _ n _=>n,λb ob q _=>⟨ob,k b ob q⟩,λ_ _ q=>q,λ_ _ _ q=>q,λ_ ps q=>⟨#[],by rw[q];simp⟩⟩
theorem Un.refl:Un fs ex H H h h:=Un.kept λ_ _ q=>q
theorem Un.laid(k:∀b u,h.get? b=some u->h'.get? b=some u)(hp:h.objs.size<=a)(hn:H a=none):Un fs ex H (upd H a o) h h' where
 keep:=λb u q _ _ _=>k b u q
 slot:=λb u q _ _ _=>⟨u.slots,k b u q⟩
 free:=λb u q n _=>by rw[ac (Hl (GU (G2 q) hp))];exact n
 there:=λb u q _=>⟨u,k b u q⟩
 tups:=λb xs q=>by rw[ac (au q hn)];exact q
 frzs:=λb u xs q=>by rw[ac (au q hn)];exact q
 tbls:=λb ps q=>⟨#[],by rw[ac (au q hn),q];simp⟩
theorem Un.write(mu:Mut (H x))(he:e=x\/H e=some (.own x))(k:∀b u,b≠e->h.get? b=some u->h'.get? b=some u)(heo:∃u,h'.get? e=some u):Un fs ex H (upd H x o) h h':=by
 have hx:∀b,H b=none->b≠x:=λb n z=>by subst z;rw[n]at mu;exact mu
 have hb:∀b,H b=none->b≠e:=λb n z=>by
  subst z;rcases he with r|r
  ·exact hx b n r
  ·rw[n]at r;cases r
 have hm:∀b u,H b=some u->¬ Mut (some u)->b≠x:=λb u q nm z=>by subst z;rw[q]at mu;exact nm mu
 refine⟨λb u q n _ _=>k b u (hb b n) q,λb u q n _ _=>⟨u.slots,k b u (hb b n) q⟩,λb u q n _=>by rw[ac (hx b n)];exact n,λb u q _=>?_,
  λb xs q=>by rw[ac (hm b _ q λz=>z)];exact q,λb u xs q=>by rw[ac (hm b _ q λz=>z)];exact q,λb ps q=>⟨#[],by rw[ac (hm b _ q λz=>z),q];simp⟩⟩
 by_cases hbe:b=e
 ·subst hbe;exact heo
 ·exact⟨u,k b u hbe q⟩
end
noncomputable def trk(h:Heap)(H:Hp):List Addr:=(List.range h.objs.size).filter λa=>(H a).isSome
noncomputable def mh(h:Heap)(H:Hp):Heap:=PySem.W.hideAll h (trk h H)
theorem r8(h:Heap)(H:Hp):(mh h H).objs.size=h.objs.size:=PySem.W.hideAll_size _ _
theorem uw{h:Heap}(e:h.get? b=some o)(n:H b=none):(mh h H).get? b=some o:=
 PySem.W.hideAll_get _ e λhm=>by
  have q:(H b).isSome=true:=(List.mem_filter.mp hm).2;rw[n]at q;simp at q
theorem vW{h:Heap}(e:(mh h H).get? b=some o):h.get? b=some o/\H b=none:=by
 have e':h.get? b=some o:=PySem.W.of_hideAll (trk h H) e;refine⟨e',?_⟩;cases q:H b with
 |none=>rfl
 |some x=>
  have hm:b∈trk h H:=List.mem_filter.mpr ⟨List.mem_range.mpr (G2 e'),by simp[q]⟩
  have z:(mh h H).get? b=none:=PySem.W.hideAll_none (trk h H) hm;rw[z]at e;cases e
noncomputable def vX(g h:Heap)(L:Addr):List (Addr×Obj):=(List.range h.objs.size).filterMap λa=>if a=L\/(g.get? a).isSome=true then none else (h.get? a).map λo=>(a,o)
noncomputable def az(g h:Heap)(L d:Addr):List (Addr×Obj):=(vX g h L).filter λp=>decide (p.1≠d)
structure Mod (K:Ii)(mg:Str->Option Value)(base:Heap):Prop where
 kin:K.In base
 glob:base.Ns mainGlobals mg
 blt:∃mb,base.Ns builtinsNs mb/\∀x:Str,x≠"__name__"->mb x=bootBuiltins x
 nolimit:base.NoLimit
structure Cx where
 prog:Program
 w:World
 K:Ii
 mg:Str->Option Value
 base:Heap
 A:Around
 N:List Str
 s₀:Shared
 H₀:Hp
 env:Env
 outer:List Env
 stack:List Env
 ex:List Addr
 fn:Str->Bool
 calm:Bool
 pn:List (Addr×Obj)
 xe:Value->Shared->Prop
noncomputable def frs(l:List Env):List Addr:=l.filterMap (·.frame)
noncomputable abbrev Cx.fs(X:Cx):List Addr:=frs X.outer
def Vis(sc:Scope)(x:Str):Prop:=sc.names.lookup x=some .local\/sc.names.lookup x=some .cell\/sc.names.lookup x=some .free
def Loc(sc:Scope)(x:Str):Prop:=sc.names.lookup x=some .local\/sc.names.lookup x=some .cell
def CI(env:Env)(h:Heap)(m:Str->Option Value)(x:Str)(u:Value):Prop:=
 (env.kindOf x=some .local/\m x=some u)\/((env.kindOf x=some .cell\/env.kindOf x=some .free)/\∃c,env.cells.lookup x=some c/\h.IsCell c (some u))
structure Cx.Ok (X:Cx):Prop where
 mod:Mod X.K X.mg X.base
 kind:X.env.scope.kind=.function
 glob:X.env.globals=mainGlobals
 blt:X.env.builtins=builtinsNs
 above:X.s₀.heap.objs.size<=X.env.locals
 inj:∀x y c,X.env.cells.lookup x=some c->X.env.cells.lookup y=some c->x=y
 has:∀x,(X.env.kindOf x=some .cell\/X.env.kindOf x=some .free)->∃c,X.env.cells.lookup x=some c
 cab:∀x c,X.fn x=true->X.env.cells.lookup x=some c->X.s₀.heap.objs.size<=c
 hd:X.calm=true->X.A.handled=none
 frames:X.A.frames=some X.stack
 stk:X.stack=X.outer\/(X.stack=X.env::X.outer/\X.env.frame=some X.env.locals)
 exf:∀b∈X.ex,b≠X.env.locals/\∀x c,X.env.cells.lookup x=some c->c≠b
 bs:∀b o,X.base.get? b=some o->X.s₀.heap.get? b=some o/\X.H₀ b=none
 bsz:X.base.objs.size<=X.s₀.heap.objs.size
 noex:∀b o,X.base.get? b=some o->b∉X.ex
 exfs:∀b∈X.ex,b∉X.fs
 funs:X.s₀.heap.FunFrames X.base X.outer
 frf:∀b∈X.fs,X.H₀ b=none
structure Inv (X:Cx) (pins:List (Addr×Obj)) (σ:List (Option V)) (H:Hp)(s:Shared):Prop where
 ok:X.Ok
 os:s.os=X.s₀.os/\0<s.toks
 bare:AllBare s.gens
 base:Un X.fs X.ex X.H₀ H X.s₀.heap s.heap
 loc:∃m,s.heap.Ns X.env.locals m/\∀(i:Nat)(x:Str)(v:V),X.N[i]?=some x->σ[i]?=some (some v)->Vis X.env.scope x->∃u,RelV v u/\CI X.env s.heap m x u
 cell:∀x c,X.env.cells.lookup x=some c->∃v,s.heap.IsCell c v
 free:H X.env.locals=none
 freeC:∀x c,X.env.cells.lookup x=some c->H c=none
 pin:∀p∈X.pn++pins,s.heap.get? p.1=some p.2/\H p.1=none/\p.1≠X.env.locals/\p.1∉X.fs/\∀v,p.2.data≠.cell v
 hok:HOk X.prog X.w H s.heap
 len:σ.length=X.N.length
section
variable {X:Cx}{σ:List (Option V)}{s:Shared}{h':Heap}
theorem Inv.tk(I:Inv X pins σ H s):0<s.toks:=I.os.2
theorem Cx.Ok.nofr(ok:X.Ok)(e:X.base.get? b=some o):b∉X.fs:=λhb=>by
 have:=(ok.funs.mem hb).1;rw[e]at this;cases this
theorem Inv.bs(I:Inv X pins σ H s):∀b o,X.base.get? b=some o->s.heap.get? b=some o/\H b=none:=λb o e=>
 ⟨I.base.keep b o (I.ok.bs b o e).1 (I.ok.bs b o e).2 (I.ok.nofr e) (I.ok.noex b o e),I.base.free b o (I.ok.bs b o e).1 (I.ok.bs b o e).2 (I.ok.noex b o e)⟩
theorem Inv.bk(I:Inv X pins σ H s):∀b o,X.base.get? b=some o->s.heap.get? b=some o:=λb o e=>(I.bs b o e).1
theorem Inv.mod(I:Inv X pins σ H s):Mod X.K X.mg X.base:=I.ok.mod
theorem Inv.kIn(I:Inv X pins σ H s):X.K.In s.heap:=I.ok.mod.kin.keeps I.bk
theorem Inv.lt(I:Inv X pins σ H s):X.env.locals<s.heap.objs.size:=let ⟨_,hn,_⟩:=I.loc;hn.lt
theorem Inv.sz(I:Inv X pins σ H s):X.s₀.heap.objs.size<=s.heap.objs.size:=Ha I.ok.above (Nat.le_of_lt I.lt)
theorem Inv.nofs(I:Inv X pins σ H s)(h:s.heap.objs.size<=a):a∉X.fs:=λhb=>by
 obtain⟨_,o,ho,_⟩:=I.ok.funs.mem hb;exact absurd (GU (G2 ho) (Ha I.sz h)) (HI _)
theorem Inv.cne(I:Inv X pins σ H s):∀x c,X.env.cells.lookup x=some c->c≠X.env.locals:=λx c e z=>by
 obtain⟨v,o,ho,hd⟩:=I.cell x c e;obtain⟨m,⟨o',es,ep,ho',hd',_⟩,_⟩:=I.loc;rw[z,ho']at ho;cases ho;rw[hd']at hd;cases hd
theorem Inv.funs(I:Inv X pins σ H s):s.heap.FunFrames X.base X.outer:=by
 have all:∀(l:List Env),(∀b∈frs l,b∈X.fs)->X.s₀.heap.FunFrames X.base l->s.heap.FunFrames X.base l:=by
  intro l
  induction l with
  |nil=>intro _ _;trivial
  |cons env r ih=>
   intro hs hl;obtain⟨hk,⟨L,o,hf,hn,ho,hd⟩,hr⟩:=hl;have hL:L∈X.fs:=hs L (by unfold frs;rw[List.filterMap_cons,hf];exact G5)
   obtain⟨sl,e⟩:=I.base.slot L o ho (I.ok.frf L hL) hL λz=>I.ok.exfs L z hL
   exact⟨hk,⟨L,_,hf,hn,e,hd⟩,ih (λb hb=>hs b (by unfold frs;rw[List.filterMap_cons,hf];exact GY _ hb)) hr⟩
 exact all X.outer (λ_ hb=>hb) I.ok.funs
theorem Inv.stack(I:Inv X pins σ H s):s.heap.FunFrames X.base X.stack:=by
 rcases I.ok.stk with e|⟨e,hf⟩
 ·rw[e];exact I.funs
 ·rw[e];obtain⟨m,hn,_⟩:=I.loc;refine .cons (by rw[I.ok.kind];decide) hf hn ?_ I.funs
  exact Heap.get?_none_of_le (Ha I.ok.bsz I.ok.above)
theorem Inv.stkSub(I:Inv X pins σ H s):∀b∈frs X.stack,b∈X.env.locals::X.fs:=λb hb=>by
 rcases I.ok.stk with e|⟨e,hf⟩
 ·rw[e]at hb;exact GY _ hb
 ·rw[e]at hb;unfold frs at hb;rw[List.filterMap_cons,hf]at hb;exact hb
theorem Inv.stkFree(I:Inv X pins σ H s):∀b∈frs X.stack,H b=none:=λb hb=>by
 rcases G9.mp (I.stkSub b hb) with e|hb
 ·rw[e];exact I.free
 ·obtain⟨_,o,ho,_⟩:=I.ok.funs.mem hb;exact I.base.free b o ho (I.ok.frf b hb) λz=>I.ok.exfs b z hb
theorem Inv.step{g':Array GenState}{t':Nat}{d':Drawn}{ch:List Addr}(I:Inv X pins σ H s)
  (hch:∀b∈ch,(b∈X.ex\/X.s₀.heap.objs.size<=b)/\b≠X.env.locals/\(∀x c,X.env.cells.lookup x=some c->c≠b)/\∀p∈X.pn++pins,p.1≠b)
  (keep:∀b o,b≠X.env.locals->b∉X.fs->b∉ch->s.heap.get? b=some o->H b=none->h'.get? b=some o)
  (slot:∀b o,b≠X.env.locals->b∈X.fs->b∉ch->s.heap.get? b=some o->H b=none->∃sl,h'.get? b=some {o with slots:=sl}) (free:∀b o,b∉ch->s.heap.get? b=some o->H b=none->H' b=none)
  (there:∀b o,b∉ch->s.heap.get? b=some o->∃o',h'.get? b=some o')
  (tups:∀b xs,H b=some (.tup xs)->H' b=some (.tup xs)) (frzs:∀b o u,H b=some (.frz o u)->H' b=some (.frz o u)) (tbls:∀b ps,H b=some (.tbl ps)->∃more,H' b=some (.tbl (ps++more)))
  (ns:∀m,s.heap.Ns X.env.locals m->h'.Ns X.env.locals m)(hok:HOk X.prog X.w H' h')(hg:AllBare g')(ht:0<t') :
  Inv X pins σ H' {s with heap:=h',gens:=g',drawn:=d',toks:=t'}:=by
 have neL:∀b o,X.s₀.heap.get? b=some o->b≠X.env.locals:=λb o e=>Hl (GU (G2 e) I.ok.above)
 have neC:∀b o,X.s₀.heap.get? b=some o->b∉X.ex->b∉ch:=λb o e hx hb=>by
  rcases (hch b hb).1 with z|z
  ·exact hx z
  ·exact absurd (GU (G2 e) z) (HI _)
 have cellK:∀x c,X.env.cells.lookup x=some c->∀v,s.heap.IsCell c v->h'.IsCell c v:=λx c e v ⟨o,ho,hd⟩=>by
  have nch:c∉ch:=λz=>(hch c z).2.2.1 x c e rfl
  by_cases hc:c∈X.fs
  ·obtain⟨sl,q⟩:=slot c o (I.cne x c e) hc nch ho (I.freeC x c e);exact⟨_,q,hd⟩
  ·exact⟨o,keep c o (I.cne x c e) hc nch ho (I.freeC x c e),hd⟩
 refine⟨I.ok,⟨I.os.1,ht⟩,hg,⟨λb o e n hb hx=>?_,λb o e n hb hx=>?_,λb o e n hx=>?_,λb o e hx=>?_,λb xs e=>tups b xs (I.base.tups b xs e),λb o xs e=>frzs b o xs (I.base.frzs b o xs e),λb ps e=>?_⟩,?_,λx c e=>?_,?_,λx c e=>?_,λp hp=>?_,hok,I.len⟩
 ·exact keep b o (neL b o e) hb (neC b o e hx) (I.base.keep b o e n hb hx) (I.base.free b o e n hx)
 ·obtain⟨sl,e1⟩:=I.base.slot b o e n hb hx;obtain⟨sl',e2⟩:=slot b _ (neL b o e) hb (neC b o e hx) e1 (I.base.free b o e n hx);exact⟨sl',e2⟩
 ·obtain⟨o',e1⟩:=I.base.there b o e hx;exact free b o' (neC b o e hx) e1 (I.base.free b o e n hx)
 ·obtain⟨o',e1⟩:=I.base.there b o e hx;exact there b o' (neC b o e hx) e1
 ·obtain⟨m1,e1⟩:=I.base.tbls b ps e;obtain⟨m2,e2⟩:=tbls b _ e1;exact⟨m1++m2,by rw[e2,Array.append_assoc]⟩
 ·obtain⟨m,hn,hl⟩:=I.loc;refine⟨m,ns m hn,λi x v e1 e2 e3=>?_⟩
  obtain⟨u,r,l⟩:=hl i x v e1 e2 e3;refine⟨u,r,?_⟩;rcases l with l|⟨k,c,e,z⟩
  ·exact .inl l
  ·exact .inr ⟨k,c,e,cellK x c e _ z⟩
 ·obtain⟨v,z⟩:=I.cell x c e;exact⟨v,cellK x c e v z⟩
 ·obtain⟨m,⟨o,_,_,ho,_⟩,_⟩:=I.loc;exact free _ o (λz=>(hch _ z).2.1 rfl) ho I.free
 ·obtain⟨v,o,ho,hd⟩:=I.cell x c e;exact free c o (λz=>(hch c z).2.2.1 x c e rfl) ho (I.freeC x c e)
 ·obtain⟨e,n,ne,nf,d⟩:=I.pin p hp;have nch:p.1∉ch:=λz=>(hch p.1 z).2.2.2 p hp rfl
  exact⟨keep p.1 p.2 ne nf nch e n,free p.1 p.2 nch e n,ne,nf,d⟩
theorem Inv.un{t':Nat}(I:Inv X pins σ H s)(u:Un X.fs [] H H' s.heap h')(hok:HOk X.prog X.w H' h')(ht:0<t':=by first|exact HH _|assumption|exact Inv.tk (by assumption)|exact Env0.tk (by assumption)|exact GU (Inv.tk (by assumption)) (Hs _ _)):Inv X pins σ H' {s with heap:=h',toks:=t'}:=by
 obtain⟨m,⟨o,es,ep,ho,r⟩,_⟩:=id I.loc;obtain⟨sl,hL⟩:=u.any ho I.free (by simp)
 exact I.step (g':=s.gens) (d':=s.drawn) (ch:=[]) (λ_ z=>nomatch z) (λb o _ hb _ e n=>u.keep b o e n hb (by simp)) (λb o _ hb _ e n=>u.slot b o e n hb (by simp)) (λb o _ e n=>u.free b o e n (by simp)) (λb o _ e=>u.there b o e (by simp)) u.tups u.frzs u.tbls (λm' hm=>by
  obtain⟨o',es',ep',ho',r'⟩:=hm;rw[ho]at ho';cases ho';exact⟨_,es',ep',hL,r'⟩) hok I.bare ht
theorem Inv.call{g':Array GenState}{t':Nat}{d':Drawn}{ch:List Addr}(I:Inv X pins σ H s)(u:Un (frs X.stack) ch H H' s.heap h')(hok:HOk X.prog X.w H' h')(hg:AllBare g')
  (hch:∀b∈ch,(b∈X.ex\/X.s₀.heap.objs.size<=b)/\b≠X.env.locals/\(∀x c,X.env.cells.lookup x=some c->c≠b)/\∀p∈X.pn++pins,p.1≠b) (ht:0<t':=by first|exact HH _|assumption|exact Inv.tk (by assumption)|exact Env0.tk (by assumption)|exact GU (Inv.tk (by assumption)) (Hs _ _)) :
  Inv X pins σ H' {s with heap:=h',gens:=g',drawn:=d',toks:=t'}:=by
 obtain⟨m,⟨o,es,ep,ho,r⟩,_⟩:=id I.loc;obtain⟨sl,hL⟩:=u.any ho I.free λz=>(hch _ z).2.1 rfl
 exact I.step (ch:=ch) hch (λb o hL hb hc e n=>u.keep b o e n (λz=>(G9.mp (I.stkSub b z)).elim hL hb) hc) (λb o _ _ hc e n=>u.any e n hc) (λb o hc e n=>u.free b o e n hc) (λb o hc e=>u.there b o e hc) u.tups u.frzs u.tbls (λm' hm=>by
  obtain⟨o',es',ep',ho',r'⟩:=hm;rw[ho]at ho';cases ho';exact⟨_,es',ep',hL,r'⟩) hok hg ht
theorem Inv.turned{t':Nat}{it:Addr}(I:Inv X pins σ H s)(k:∀b o,b≠it->s.heap.get? b=some o->h'.get? b=some o)(hn:H it=none)(hL:it≠X.env.locals)
  (h1:it∈X.ex\/X.s₀.heap.objs.size<=it) (h2:∀x c,X.env.cells.lookup x=some c->c≠it) (h3:∀p∈X.pn++pins,p.1≠it) (ht:0<t':=by first|exact HH _|assumption|exact Inv.tk (by assumption)|exact Env0.tk (by assumption)|exact GU (Inv.tk (by assumption)) (Hs _ _)):Inv X pins σ H {s with heap:=h',toks:=t'}:=by
 have nit:∀b u,H b=some u->b≠it:=λb u e z=>by rw[z,hn]at e;cases e
 refine I.step (g':=s.gens) (d':=s.drawn) (ch:=[it]) (λb hb=>?_) (λb o _ _ hc e _=>k b o (λz=>hc (by simp[z])) e) (λb o _ _ hc e _=>⟨o.slots,k b o (λz=>hc (by simp[z])) e⟩) (λ_ _ _ _ n=>n)
  (λb o hc e=>⟨o,k b o (λz=>hc (by simp[z])) e⟩) (λ_ _ e=>e) (λ_ _ _ e=>e) (λb ps e=>⟨#[],by rw[e];simp⟩) (λm hm=>?_) (λb u e=>?_) I.bare ht
 ·have e:b=it:=by simpa using hb
  subst e;exact⟨h1,hL,h2,h3⟩
 ·obtain⟨o,es,ep,ho,r⟩:=hm;exact⟨o,es,ep,k _ o (He hL) ho,r⟩
 ·refine (I.hok b u e).stay (λc v hc q=>k c v ?_ q) (λ_ q=>q) λ_ _ q=>q
  rcases hc with z|z
  ·rw[z];exact nit b u e
  ·exact nit c _ z
theorem Inv.tok(I:Inv X pins σ H s)(t:Nat)(ht:0<t:=by first|exact HH _|assumption|exact Inv.tk (by assumption)|exact Env0.tk (by assumption)|exact GU (Inv.tk (by assumption)) (Hs _ _)):Inv X pins σ H {s with toks:=t}:=I.un (h':=s.heap) (t':=t) Un.refl I.hok
theorem Inv.kept(I:Inv X pins σ H s)(k:∀b u,s.heap.get? b=some u->h'.get? b=some u)(ht:0<t':=by first|exact HH _|assumption|exact Inv.tk (by assumption)|exact Env0.tk (by assumption)|exact GU (Inv.tk (by assumption)) (Hs _ _)):Inv X pins σ H {s with heap:=h',toks:=t'}:=I.un (Un.kept k) (I.hok.kept k)
theorem Inv.laid(I:Inv X pins σ H s)(k:∀b u,s.heap.get? b=some u->h'.get? b=some u)(hp:s.heap.objs.size<=a)(new:ObjOk X.prog X.w (upd H a o) h' a o)(ht:0<t':=by first|exact HH _|assumption|exact Inv.tk (by assumption)|exact Env0.tk (by assumption)|exact GU (Inv.tk (by assumption)) (Hs _ _)) :
  Inv X pins σ (upd H a o) {s with heap:=h',toks:=t'}:=I.un (Un.laid k hp (I.hok.fresh hp)) (I.hok.laid k hp new)
theorem Inv.write(I:Inv X pins σ H s)(mu:Mut (H x))(he:e=x\/H e=some (.own x))(k:∀b u,b≠e->s.heap.get? b=some u->h'.get? b=some u)(heo:∃u,h'.get? e=some u)
  (new:ObjOk X.prog X.w (upd H x o) h' x o) (ht:0<t':=by first|exact HH _|assumption|exact Inv.tk (by assumption)|exact Env0.tk (by assumption)|exact GU (Inv.tk (by assumption)) (Hs _ _)):Inv X pins σ (upd H x o) {s with heap:=h',toks:=t'}:=I.un (Un.write mu he k heo) (I.hok.write mu he k heo new)
theorem Inv.pins_of(I:Inv X pins σ H s)(h:∀p∈pins',s.heap.get? p.1=some p.2/\H p.1=none/\p.1≠X.env.locals/\p.1∉X.fs/\∀v,p.2.data≠.cell v):Inv X pins' σ H s:=
 ⟨I.ok,I.os,I.bare,I.base,I.loc,I.cell,I.free,I.freeC,λp hp=>(Ho.mp hp).elim (λz=>I.pin p (HE _ z)) (h p),I.hok,I.len⟩
theorem jd{N:List Str}(hN:N.Nodup){i j:Nat}{x:Str}(a:N[i]?=some x)(b:N[j]?=some x):i=j:=by
 obtain⟨h1,e1⟩:=Hv.mp a;obtain⟨h2,e2⟩:=Hv.mp b;exact (List.getElem_inj hN).mp (e1.trans e2.symm)
theorem qU{M:Model}{A:Around}{E:Value->Shared->Prop}{i:Nat}{x:Str}{v:V}{u:Value}{Q:Unit->Shared->Prop}(I:Inv X pins σ H s)(hN:X.N.Nodup)(hi:X.N[i]?=some x)(hx:Loc X.env.scope x)(r:RelV v u)
  (h:∀s',Inv X pins (σ.set i (some v)) H s'->(∃a,Heap.SameBut a s.heap s'.heap/\(a=X.env.locals\/X.env.cells.lookup x=some a))->Q () s') (hf:X.fn x=true\/X.env.scope.names.lookup x=some .local:=by first|exact .inl rfl|exact .inr rfl|assumption):wpAny M A (storeName X.env x u) Q E s:=by
 obtain⟨m,hn,hl⟩:=id I.loc;have hcls:(X.env.scope.kind == .class||(X.env.scope.kind == .module&&X.env.locals != X.env.globals))=false:=by rw[I.ok.kind];rfl
 have hiσ:i<σ.length:=by rw[I.len];exact (Hv.mp hi).1
 have cne:=I.cne;have tracked:∀{a:Addr}{h':Heap},(∃o,s.heap.get? a=some o/\H a=none)->Heap.SameBut a s.heap h'->HOk X.prog X.w H h':=λ{a h'} ha hs b ob e=>by
  obtain⟨_,_,hfree⟩:=ha;refine (I.hok b ob e).stay (λc w' hc q=>(hs.2 c ?_).trans q) (λ_ q=>q) λ_ _ q=>q
  rintro rfl;rcases hc with rfl|hc
  ·rw[hfree]at e;cases e
  ·rw[hfree]at hc;cases hc
 rcases hx with hk|hk
 ·refine wpAny_storeName_local hk hn (λh' hn' hs=>?_) hcls
  obtain⟨oL,_,_,hoL,_⟩:=id hn;refine h _ ⟨I.ok,⟨I.os.1,HH _⟩,I.bare,⟨λb o e n hb hx=>?_,λb o e n hb hx=>?_,I.base.free,λb o e hx=>?_,I.base.tups,I.base.frzs,I.base.tbls⟩,⟨_,hn',λj y v' e1 e2 e3=>?_⟩,λy c e=>?_,I.free,I.freeC,λp hp=>?_,tracked ⟨oL,hoL,I.free⟩ hs,by simpa using I.len⟩ ⟨_,hs,.inl rfl⟩
  ·exact (hs.2 b (Hl (GU (G2 e) I.ok.above))).trans (I.base.keep b o e n hb hx)
  ·obtain⟨sl,e1⟩:=I.base.slot b o e n hb hx;exact⟨sl,(hs.2 b (Hl (GU (G2 e) I.ok.above))).trans e1⟩
  ·obtain⟨o',e1⟩:=I.base.there b o e hx;exact⟨o',(hs.2 b (Hl (GU (G2 e) I.ok.above))).trans e1⟩
  ·by_cases hj:j=i
   ·subst hj;rw[hi]at e1;cases e1;rw[List.getElem?_set_self hiσ]at e2;cases e2;exact⟨u,r,.inl ⟨hk,by simp⟩⟩
   ·rw[Ib (He hj)]at e2;obtain⟨u',r',q⟩:=hl j y v' e1 e2 e3;refine⟨u',r',?_⟩;rcases q with ⟨k,e⟩|⟨k,c,e,z⟩
    ·refine .inl ⟨k,?_⟩;have:y≠x:=λe=>hj (jd hN e1 (e▸hi))
     simp[this,e]
    ·exact .inr ⟨k,c,e,z.sameBut hs (cne y c e)⟩
  ·obtain⟨w',z⟩:=I.cell y c e;exact⟨w',z.sameBut hs (cne y c e)⟩
  ·obtain⟨e,n,ne,nf,d⟩:=I.pin p hp;exact⟨(hs.2 p.1 ne).trans e,n,ne,nf,d⟩
 ·have hfn:X.fn x=true:=by
   rcases hf with z|z
   ·exact z
   ·rw[z]at hk;cases hk
  obtain⟨c,hc⟩:=I.ok.has x (.inl hk);obtain⟨w',z⟩:=I.cell x c hc;refine wpAny_storeName_cell I.ok.kind hk hc z (λh' hc' hs=>?_)
  obtain⟨oc,hoc,hocd⟩:=id z;refine h {s with heap:=h'} ⟨I.ok,I.os,I.bare,⟨λb o e n hb hx=>?_,λb o e n hb hx=>?_,I.base.free,λb o e hx=>?_,I.base.tups,I.base.frzs,I.base.tbls⟩,⟨m,hn.sameBut hs (He (cne x c hc)),λj y v' e1 e2 e3=>?_⟩,λy c' e=>?_,I.free,I.freeC,λp hp=>?_,tracked ⟨oc,hoc,I.freeC x c hc⟩ hs,by simpa using I.len⟩ ⟨c,hs,.inr hc⟩
  ·exact (hs.2 b (Hl (GU (G2 e) (I.ok.cab x c hfn hc)))).trans (I.base.keep b o e n hb hx)
  ·obtain⟨sl,e1⟩:=I.base.slot b o e n hb hx;exact⟨sl,(hs.2 b (Hl (GU (G2 e) (I.ok.cab x c hfn hc)))).trans e1⟩
  ·obtain⟨o',e1⟩:=I.base.there b o e hx;exact⟨o',(hs.2 b (Hl (GU (G2 e) (I.ok.cab x c hfn hc)))).trans e1⟩
  ·by_cases hj:j=i
   ·subst hj;rw[hi]at e1;cases e1;rw[List.getElem?_set_self hiσ]at e2;cases e2;exact⟨u,r,.inr ⟨.inl hk,c,hc,hc'⟩⟩
   ·rw[Ib (He hj)]at e2;obtain⟨u',r',q⟩:=hl j y v' e1 e2 e3;refine⟨u',r',?_⟩;rcases q with q|⟨k,c',e,z'⟩
    ·exact .inl q
    ·refine .inr ⟨k,c',e,z'.sameBut hs ?_⟩;rintro rfl;exact hj (jd hN e1 (I.ok.inj _ _ _ e hc▸hi))
  ·by_cases hcc:c'=c
   ·subst hcc;exact⟨_,hc'⟩
   ·obtain⟨w2,z2⟩:=I.cell y c' e;exact⟨w2,z2.sameBut hs hcc⟩
  ·obtain⟨e,n,ne,nf,d⟩:=I.pin p hp;refine⟨(hs.2 p.1 ?_).trans e,n,ne,nf,d⟩;intro q;rw[q,hoc]at e;have q':oc=p.2:=Hg e;exact d w' (by rw[<-q'];exact hocd)
theorem iZ(I:Inv X pins σ H s)(hN:X.N.Nodup)(hi:X.N[i]?=some x)(hx:Loc X.env.scope x)(r:RelV v u)
  (h:∀s',Inv X pins (σ.set i (some v)) H s'->Q () s') (hf:X.fn x=true\/X.env.scope.names.lookup x=some .local:=by first|exact .inl rfl|exact .inr rfl|assumption):wpAny M A (storeName X.env x u) Q E s:=
 qU I hN hi hx r (λs' I' _=>h s' I') hf
theorem Inv.call'{s':Shared}(I:Inv X pins σ H s)(ho:s'.os=s.os/\0<s'.toks)(u:Un (frs X.stack) ch H H' s.heap s'.heap)(hok:HOk X.prog X.w H' s'.heap)(hg:AllBare s'.gens)
  (hch:∀b∈ch,(b∈X.ex\/X.s₀.heap.objs.size<=b)/\b≠X.env.locals/\(∀x c,X.env.cells.lookup x=some c->c≠b)/\∀p∈X.pn++pins,p.1≠b):Inv X pins σ H' s':=by
 obtain⟨h',g',d',t',o'⟩:=s';have e:o'=s.os:=ho.1;subst e;have ht:=ho.2;exact I.call (g':=g') (t':=t') (d':=d') u hok hg hch
end
noncomputable abbrev XK:=Value->Option Addr->Hp->Prop
noncomputable abbrev St:=List (Option V)
noncomputable abbrev VK:=V->Hp->Prop
noncomputable abbrev TE:=St->Hp->VK->Prop
noncomputable abbrev TT:=St->Hp->(Bool->Hp->Prop)->Prop
noncomputable abbrev TA:=St->Hp->(List V->Hp->Prop)->Prop
structure Ends where
 nx:St->Hp->Prop
 rt:VK
 bk:St->Hp->Prop:=λ_ _=>False
 ct:St->Hp->Prop:=λ_ _=>False
noncomputable abbrev TS:=Ends->St->Hp->Prop
def EP(X:Cx)(pins:List (Addr×Obj))(σ:St)(Q:VK)(u:Value)(s':Shared):Prop:=∃v H',Inv X pins σ H' s'/\RelV v u/\Q v H'
def TP(X:Cx)(pins:List (Addr×Obj))(σ:St)(Q:Bool->Hp->Prop)(b:Bool)(s':Shared):Prop:=∃H',Inv X pins σ H' s'/\Q b H'
def AP(X:Cx)(pins:List (Addr×Obj))(σ:St)(Q:List V->Hp->Prop)(us:List Value)(s':Shared):Prop:=∃vs H',Inv X pins σ H' s'/\Vals vs us/\Q vs H'
def SP(X:Cx)(pins:List (Addr×Obj))(D:Ends)(f:Flow)(s':Shared):Prop:=
 match f with
 |.next=>∃σ' H',Inv X pins σ' H' s'/\D.nx σ' H'
 |.brk=>∃σ' H',Inv X pins σ' H' s'/\D.bk σ' H'
 |.cont=>∃σ' H',Inv X pins σ' H' s'/\D.ct σ' H'
 |.ret u=>∃v σ' H',Inv X pins σ' H' s'/\RelV v u/\D.rt v H'
def PE(X:Cx)(e:Expr)(t:TE):Prop:=
 ∀(pins:List (Addr×Obj)) (s:Shared)(σ:St)(H:Hp)(Q:VK),Inv X pins σ H s->t σ H Q->wpAny (model X.prog X.w) X.A (eval e X.env) (EP X pins σ Q) X.xe s
def PT(X:Cx)(e:Expr)(t:TT):Prop:=
 ∀(pins:List (Addr×Obj)) (s:Shared)(σ:St)(H:Hp)(Q:Bool->Hp->Prop),Inv X pins σ H s->t σ H Q->wpAny (model X.prog X.w) X.A (isTrue e X.env (eval e X.env)) (TP X pins σ Q) X.xe s
def PW(X:Cx)(e:Expr)(t:TT):Prop:=
 ∀(whole:Sem Value) (pins:List (Addr×Obj)) (s:Shared)(σ:St)(H:Hp)(Q:Bool->Hp->Prop),Inv X pins σ H s->t σ H Q->wpAny (model X.prog X.w) X.A (isTrue e X.env whole) (TP X pins σ Q) X.xe s
theorem PW.pt(h:PW X e t):PT X e t:=h _
def PA(X:Cx)(es:List Expr)(t:TA):Prop:=
 ∀(pos:Pos) (pins:List (Addr×Obj)) (s:Shared)(σ:St)(H:Hp)(Q:List V->Hp->Prop),Inv X pins σ H s->t σ H Q->wpAny (model X.prog X.w) X.A (spliced (backTo pos (starEach es X.env))) (AP X pins σ Q) X.xe s
def PS(X:Cx)(st:Stmt)(t:TS):Prop:=
 ∀(pins:List (Addr×Obj)) (s:Shared)(σ:St)(H:Hp)(D:Ends),Inv X pins σ H s->t D σ H->wpAny (model X.prog X.w) X.A (exec st X.env) (SP X pins D) X.xe s
def PSs(X:Cx)(st:List Stmt)(t:TS):Prop:=
 ∀(pins:List (Addr×Obj)) (s:Shared)(σ:St)(H:Hp)(D:Ends),Inv X pins σ H s->t D σ H->wpAny (model X.prog X.w) X.A (execs st X.env) (SP X pins D) X.xe s
theorem thn{α:Type}{t:Sem α}{Q Q':α->Shared->Prop}{M:Model}{A:Around}{E:Value->Shared->Prop}{s:Shared}(h:wpAny M A t Q E s)(hQ:∀a s,Q a s->Q' a s):wpAny M A t Q' E s:=HP h hQ λ_ _ x=>x
section
variable {X:Cx}
theorem bin{a b:Expr}{ta tb:TE}(ha:PE X a ta)(hb:PE X b tb){pins:List (Addr×Obj)}{s:Shared}{σ:St}{H:Hp}{R:V->V->Hp->Prop}(I:Inv X pins σ H s)(h:ta σ H λx H1=>tb σ H1 λy H2=>R x y H2)
  {α:Type}{Q:α->Shared->Prop}{f:Value->Value->Sem α}
  (hf:∀v u s2 x y H2,Inv X pins σ H2 s2->RelV x v->RelV y u->R x y H2->wpAny (model X.prog X.w) X.A (f v u) Q X.xe s2) :
  wpAny (model X.prog X.w) X.A (eval a X.env) (λv s₁=>wpAny (model X.prog X.w) X.A (eval b X.env) (λu s₂=>wpAny (model X.prog X.w) X.A (f v u) Q X.xe s₂) X.xe s₁) X.xe s:=by
 refine thn (ha pins s σ H _ I h) λv s1 ⟨x,H1,I1,r1,q1⟩=>?_
 refine thn (hb pins s1 σ H1 _ I1 q1) λu s2 ⟨y,H2,I2,r2,q2⟩=>?_
 exact hf v u s2 x y H2 I2 r1 r2 q2
noncomputable def wm(i:Nat):TE:=λσ H Q=>∃v,σ[i]?=some (some v)/\Q v H
noncomputable def tC(v:V):TE:=λ_ H Q=>Q v H
theorem l5(hN:X.N[i]?=some x)(hv:Vis X.env.scope x)(hd:(x == ("__debug__" : Str))=false:=by decide)(hcd:(x == ("__classdict__" : Str))=false:=by decide):PE X (.Name x pos) (wm i):=by
 intro pins s σ H Q I h;obtain⟨v,e,h⟩:=h;obtain⟨m,hn,hl⟩:=I.loc;obtain⟨u,r,l⟩:=hl i x v hN e hv;have fin:EP X pins σ Q u s:=⟨v,H,I,r,h⟩;rcases l with ⟨hk,hm⟩|⟨hk,c,hc,hcell⟩
 ·exact wpAny_Name (wpAny_loadName_local I.ok.kind hk hn hm fin) hd
 ·rcases hk with hk|hk
  ·exact wpAny_Name (wpAny_loadName_cell I.ok.kind hk hc hcell fin) hd
  ·exact wpAny_Name (wpAny_loadName_free I.ok.kind hk hc hcell fin hcd) hd
theorem yE{i j pos}:PE X (.Constant (.int i) j pos) (tC (.int i)):=λ_ _ _ H _ I h=>wpAny_Constant_int ⟨.int i,H,I.tok _,⟨_,rfl⟩,h⟩
theorem CG{b j pos}:PE X (.Constant (.bool b) j pos) (tC (.bl b)):=λ_ _ _ H _ I h=>Constant_bool ⟨.bl b,H,I,rfl,h⟩
theorem zz{j pos}:PE X (.Constant .none j pos) (tC .non):=λ_ _ _ H _ I h=>Constant_none ⟨.non,H,I,rfl,h⟩
theorem tX{x j pos}:PE X (.Constant (.str x) j pos) (tC (.str x)):=λ_ _ _ H _ I h=>Calls.Constant_str ⟨.str x,H,I.tok _,⟨_,rfl⟩,h⟩
def Gl(X:Cx)(x:Str):Prop:=X.env.kindOf x=some .globalImplicit
theorem bQ(I:Inv X pins σ H s)(hg:Gl X x)(hm:X.mg x=some u)(h:Q u s)
  (hd:(x == ("__debug__" : Str))=false:=by decide):wpAny (model X.prog X.w) X.A (eval (.Name x pos) X.env) Q E s:=
 Calls.Name_function_global I.ok.kind hg (Calls.loadGlobal_global (by rw[I.ok.glob];exact I.mod.glob.keeps I.bk) hm h) hd
theorem gW(I:Inv X pins σ H s)(hg:Gl X x)(hm:X.mg x=none)(hv:bootBuiltins x=some u)(h:Q u s)
  (hn:x≠"__name__":=by decide) (hd:(x == ("__debug__" : Str))=false:=by decide):wpAny (model X.prog X.w) X.A (eval (.Name x pos) X.env) Q E s:=by
 obtain⟨mb,h1,h2⟩:=I.mod.blt;exact Calls.Name_function_global I.ok.kind hg (Calls.loadGlobal_builtin (by rw[I.ok.glob];exact I.mod.glob.keeps I.bk) hm (by rw[I.ok.blt];exact h1.keeps I.bk) ((h2 x hn).trans hv) h) hd
theorem iP(hg:Gl X x)(hm:X.mg x=some u)(r:RelV v u)(hd:(x == ("__debug__" : Str))=false:=by decide):PE X (.Name x pos) (tC v):=
 λ_ _ _ H _ I h=>bQ I hg hm ⟨v,H,I,r,h⟩ hd
theorem qN(hg:Gl X x)(hm:X.mg x=none)(hv:bootBuiltins x=some u)(r:RelV v u)(hn:x≠"__name__":=by decide)(hd:(x == ("__debug__" : Str))=false:=by decide):PE X (.Name x pos) (tC v):=
 λ_ _ _ H _ I h=>gW I hg hm hv ⟨v,H,I,r,h⟩ hn hd
variable {a b:Expr}{ta tb:TE}{pos:Pos}
noncomputable def tB(t:TE):TT:=λσ H Q=>t σ H λx H1=>∃c,x=.bl c/\Q c H1
theorem yP{e:Expr}(h:PE X e t)(he:∀whole,isTrue e X.env whole=(do let v<-whole;standAt e.pos;holding [v] (truthy v)):=by intro _;rfl):PT X e (tB t):=by
 intro pins s σ H Q I hw;refine isTrue_plain (thn (h pins s σ H _ I hw) λv s1 ⟨x,H1,I1,r1,q1⟩=>?_) (he _)
 obtain⟨d,rfl,q⟩:=q1;cases r1;exact Hx ⟨H1,I1,q⟩
variable {tA tB':TT}{az:List Expr}
noncomputable def EW(t u:TT):TT:=λσ H Q=>t σ H λc H1=>if c=true then u σ H1 Q else Q false H1
noncomputable def tOr(t u:TT):TT:=λσ H Q=>t σ H λc H1=>if c=true then Q true H1 else u σ H1 Q
noncomputable def EL(t:TT):TT:=λσ H Q=>t σ H λc H1=>Q (!c) H1
theorem wM(ha:PT X a tA):PW X (.BoolOp .And [a] pos) tA:=by
 intro wh pins s σ H Q I h;refine isTrue_and (thn (ha pins s σ H Q I h) λc s1 e=>?_)
 cases c with
 |true=>exact isTrue_and_nil e
 |false=>exact e
theorem yj(ha:PT X a tA):PW X (.BoolOp .Or [a] pos) tA:=by
 intro wh pins s σ H Q I h;refine isTrue_or (thn (ha pins s σ H Q I h) λc s1 e=>?_)
 cases c with
 |false=>exact isTrue_or_nil e
 |true=>exact e
theorem yd(ha:PT X a tA)(hb:PW X (.BoolOp .And (b::az) pos) tB'):PW X (.BoolOp .And (a::b::az) pos) (EW tA tB'):=by
 intro wh pins s σ H Q I h;refine isTrue_and (thn (ha pins s σ H _ I h) λc s1 ⟨H1,I1,q1⟩=>?_)
 cases c with
 |true=>exact hb wh pins s1 σ H1 Q I1 q1
 |false=>exact⟨H1,I1,q1⟩
theorem A8(ha:PT X a tA)(hb:PW X (.BoolOp .Or (b::az) pos) tB'):PW X (.BoolOp .Or (a::b::az) pos) (tOr tA tB'):=by
 intro wh pins s σ H Q I h;refine isTrue_or (thn (ha pins s σ H _ I h) λc s1 ⟨H1,I1,q1⟩=>?_)
 cases c with
 |true=>exact⟨H1,I1,q1⟩
 |false=>exact hb wh pins s1 σ H1 Q I1 q1
theorem yS(ha:PT X a tA):PT X (.UnaryOp .Not a pos) (EL tA):=by
 intro pins s σ H Q I h;exact isTrue_not (ha pins s σ H (λc H1=>Q (!c) H1) I h)
noncomputable def BX(ta tb:TE):TE:=λσ H Q=>ta σ H λx H1=>∃c,x=.bl c/\if c=true then tb σ H1 Q else Q (.bl false) H1
noncomputable def Em(ta tb:TE):TE:=λσ H Q=>ta σ H λx H1=>∃c,x=.bl c/\if c=true then Q (.bl true) H1 else tb σ H1 Q
noncomputable def A0(ta:TE):TE:=λσ H Q=>ta σ H λx H1=>∃c,x=.bl c/\Q (.bl (!c)) H1
theorem yY{op}(h:PE X a t):PE X (.BoolOp op [a] pos) t:=λpins s σ H Q I hw=>BoolOp_one (h pins s σ H Q I hw)
theorem zg(ha:PE X a ta)(hb:PE X (.BoolOp .And (b::az) pos) tb):PE X (.BoolOp .And (a::b::az) pos) (BX ta tb):=by
 intro pins s σ H Q I h;refine BoolOp_and (thn (ha pins s σ H _ I h) λv s1 ⟨x,H1,I1,r1,q1⟩=>?_)
 obtain⟨c,rfl,q1⟩:=q1;cases r1;refine Hx ?_;cases c with
 |true=>exact hb pins s1 σ H1 Q I1 q1
 |false=>exact⟨.bl false,H1,I1,rfl,q1⟩
theorem BW(ha:PE X a ta)(hb:PE X (.BoolOp .Or (b::az) pos) tb):PE X (.BoolOp .Or (a::b::az) pos) (Em ta tb):=by
 intro pins s σ H Q I h;refine BoolOp_or (thn (ha pins s σ H _ I h) λv s1 ⟨x,H1,I1,r1,q1⟩=>?_)
 obtain⟨c,rfl,q1⟩:=q1;cases r1;refine Hx ?_;cases c with
 |false=>exact hb pins s1 σ H1 Q I1 q1
 |true=>exact⟨.bl true,H1,I1,rfl,q1⟩
theorem yR(ha:PE X a ta):PE X (.UnaryOp .Not a pos) (A0 ta):=by
 intro pins s σ H Q I h;refine UnaryOp_ (thn (ha pins s σ H _ I h) λv s1 ⟨x,H1,I1,r1,q1⟩=>?_)
 obtain⟨c,rfl,q1⟩:=q1;cases r1;exact not_of (Hx ⟨.bl (!c),H1,I1,rfl,q1⟩)
end
def SqL(K:Ii)(H:Hp)(a:Addr)(xs:List V):Prop:=
 Rd H a (.lst xs)\/
  ∃(o:Obj) (its:Array Value) (n:Nat),K.lookup a=some o/\o.cls=.type "list"/\o.dict=none/\o.data=.seq its n/\its.size<=sizeLine/\Vals xs its.toList
def SqT(K:Ii)(H:Hp)(a:Addr)(xs:List V):Prop:=
 Rd H a (.tup xs)\/
  ∃(o:Obj) (its:Array Value) (n:Nat),K.lookup a=some o/\o.cls=.type "tuple"/\o.data=.seq its n/\its.size<=sizeLine/\Vals xs its.toList
noncomputable def DU:Value->Option V
 |.none=>some .non
 |.bool b=>some (.bl b)
 |.int i _=>some (.int i)
 |.str x _=>some (.str x)
 |.bytes b _=>some (.byt b)
 |.float b _=>some (.flt b)
 |.ref a=>some (.ref a)
 |.type n=>some (.ty n)
 |_=>none
theorem RelV.abs(r:RelV x u):DU u=some x:=by
 cases x with
 |non=>cases r;rfl
 |bl _=>cases r;rfl
 |int _=>obtain⟨t,rfl⟩:=r;rfl
 |str _=>obtain⟨t,rfl⟩:=r;rfl
 |byt _=>obtain⟨t,rfl⟩:=r;rfl
 |flt _=>obtain⟨t,rfl⟩:=r;rfl
 |ref _=>cases r;rfl
 |ty _=>cases r;rfl
theorem RelV.inj(r:RelV x u)(q:RelV y u):x=y:=Hg (r.abs.symm.trans q.abs)
theorem Vals.inj:∀{xs ys:List V}{us:List Value},Vals xs us->Vals ys us->xs=ys
 |_,_,_,.nil,.nil=>rfl
 |_,_,_,.cons r t,.cons r' t'=>by rw[r.inj r',Vals.inj t t']
section
variable {X:Cx}{s:Shared}{a:Addr}{xs ys:List V}
theorem SqL.of{K:Ii}(h:H a=some (.lst xs)):SqL K H a xs:=.inl (.inl h)
theorem SqT.of{K:Ii}(h:H a=some (.tup xs)):SqT K H a xs:=.inl (.inl h)
theorem Inv.list(I:Inv X pins σ H s)(h:SqL X.K H a xs):∃its:List Value,Vals xs its/\PlainL s.heap a its.toArray/\xs.length<=sizeLine:=by
 rcases h with h|⟨o,its,n,hk,hc,hd,hs,hz,r⟩
 ·obtain⟨z,its,n,r,e⟩:=h.ok I.hok;exact⟨its,r,⟨_,n,e,rfl,rfl,rfl⟩,z⟩
 ·refine⟨its.toList,r,⟨o,n,I.kIn a o hk,hc,hd,by simpa using hs⟩,?_⟩
  have e:=r.length;simp only[Array.length_toList]at e;omega
theorem Inv.tuple(I:Inv X pins σ H s)(h:SqT X.K H a xs):∃its:List Value,Vals xs its/\IsTup s.heap a its.toArray/\xs.length<=sizeLine:=by
 rcases h with h|⟨o,its,n,hk,hc,hs,hz,r⟩
 ·obtain⟨z,its,r,p⟩:=h.ok I.hok;exact⟨its,r,p,z⟩
 ·refine⟨its.toList,r,⟨o,I.kIn a o hk,hc,n,by simpa using hs⟩,?_⟩
  have e:=r.length;simp only[Array.length_toList]at e;omega
theorem Inv.list_inj(I:Inv X pins σ H s)(h:SqL X.K H a xs)(h':SqL X.K H a ys):xs=ys:=by
 obtain⟨its,r,⟨o,n,e,_,_,d⟩,_⟩:=I.list h;obtain⟨its',r',⟨o',n',e',_,_,d'⟩,_⟩:=I.list h';rw[e]at e';cases e';rw[d]at d';injection d' with d1 _
 have:its=its':=by simpa using congrArg Array.toList d1
 subst this;exact r.inj r'
theorem Inv.tuple_inj(I:Inv X pins σ H s)(h:SqT X.K H a xs)(h':SqT X.K H a ys):xs=ys:=by
 obtain⟨its,r,⟨o,e,_,n,d⟩,_⟩:=I.tuple h;obtain⟨its',r',⟨o',e',_,n',d'⟩,_⟩:=I.tuple h';rw[e]at e';cases e';rw[d]at d';injection d' with d1 _
 have:its=its':=by simpa using congrArg Array.toList d1
 subst this;exact r.inj r'
end
noncomputable abbrev Cx.wish(X:Cx)(E:Value->Shared->Prop):Cx:={X with xe:=E}
theorem Cx.Ok.wish{X:Cx}(ok:X.Ok)(E:Value->Shared->Prop):(X.wish E).Ok:=
 ⟨ok.mod,ok.kind,ok.glob,ok.blt,ok.above,ok.inj,ok.has,ok.cab,ok.hd,ok.frames,ok.stk,ok.exf,ok.bs,ok.bsz,ok.noex,ok.exfs,ok.funs,ok.frf⟩
theorem Cx.Ok.unwish{X:Cx}(ok:(X.wish E).Ok):X.Ok:=
 ⟨ok.mod,ok.kind,ok.glob,ok.blt,ok.above,ok.inj,ok.has,ok.cab,ok.hd,ok.frames,ok.stk,ok.exf,ok.bs,ok.bsz,ok.noex,ok.exfs,ok.funs,ok.frf⟩
section
variable {X:Cx}{s:Shared}
theorem Inv.wish(I:Inv X pins σ H s)(E:Value->Shared->Prop):Inv (X.wish E) pins σ H s:=⟨I.ok.wish E,I.os,I.bare,I.base,I.loc,I.cell,I.free,I.freeC,I.pin,I.hok,I.len⟩
theorem Inv.unwish(I:Inv (X.wish E) pins σ H s):Inv X pins σ H s:=⟨I.ok.unwish,I.os,I.bare,I.base,I.loc,I.cell,I.free,I.freeC,I.pin,I.hok,I.len⟩
end
section
variable {X:Cx}{st:Stmt}{az:List Stmt}{t u:TS}{e:Expr}{te:TE}{pos:Pos}
noncomputable def tNext:TS:=λD σ H=>D.nx σ H
noncomputable def Ed(t u:TS):TS:=λD σ H=>t {D with nx:=u D} σ H
theorem pss_nil:PSs X [] tNext:=λ_ _ σ H _ I h=>wpAny_execs_nil ⟨σ,H,I,h⟩
theorem mW(h1:PS X st t)(h2:PSs X az u):PSs X (st::az) (Ed t u):=by
 intro pins s σ H D I h;refine wpAny_execs_cons (thn (h1 pins s σ H {D with nx:=u D} I h) λf s1 q=>?_)
 cases f with
 |next=>
  obtain⟨σ',H',I',q⟩:=q;exact h2 pins s1 σ' H' D I' q
 |ret v=>exact q
 |brk=>exact q
 |cont=>exact q
theorem vG(h1:PS X st t):PSs X [st] t:=by
 intro pins s σ H D I h;refine wpAny_execs_cons (thn (h1 pins s σ H D I h) λf s1 q=>?_)
 cases f with
 |next=>exact wpAny_execs_nil q
 |ret v=>exact q
 |brk=>exact q
 |cont=>exact q
theorem Inv.quiet(I:Inv X pins σ H s):interactive X.env=false:=by simp[interactive,I.ok.kind]
noncomputable def AZ(te:TE):TS:=λD σ H=>te σ H λ_ H1=>D.nx σ H1
theorem lE(he:PE X e te)(hs:swapsWith e none pos.line X.env=pure false:=by rfl):PS X (.Expr e pos) (AZ te):=by
 intro pins s σ H D I h;exact wpAny_Expr_any (thn (he pins s σ H _ I h) λv s1 ⟨x,H1,I1,r1,q1⟩=>⟨σ,H1,I1,q1⟩) I.quiet hs
noncomputable def Eb(te:TE):TS:=λD σ H=>te σ H D.rt
theorem Ap(he:PE X e te):PS X (.Return (some e) pos) (Eb te):=by
 intro pins s σ H D I h;exact wpAny_Return_some (thn (he pins s σ H _ I h) λv s1 ⟨x,H1,I1,r1,q1⟩=>⟨x,σ,H1,I1,r1,q1⟩)
noncomputable def Er(c:TT)(t u:TS):TS:=λD σ H=>c σ H λb H1=>if b=true then t D σ H1 else u D σ H1
theorem BG(hc:PT X c tc)(ha:PSs X a t)(hb:PSs X b u):PS X (.If c a b pos) (Er tc t u):=by
 intro pins s σ H D I h;refine wpAny_If (thn (hc pins s σ H _ I h) λd s1 ⟨H1,I1,q1⟩=>?_)
 cases d with
 |true=>exact ha pins s1 σ H1 D I1 q1
 |false=>exact hb pins s1 σ H1 D I1 q1
end
noncomputable abbrev TG:=V->St->Hp->(St->Hp->Prop)->Prop
noncomputable abbrev TGs:=List V->St->Hp->(St->Hp->Prop)->Prop
def PG(X:Cx)(target:Expr)(t:TG):Prop:=
 ∀(pins:List (Addr×Obj)) (s:Shared)(σ:St)(H:Hp)(v:V)(u:Value)(Q:St->Hp->Prop),Inv X pins σ H s->RelV v u->t v σ H Q->
  wpAny (model X.prog X.w) X.A (assign target X.env u) (λ_ s'=>∃σ' H',Inv X pins σ' H' s'/\Q σ' H') X.xe s
def PGs(X:Cx)(ts:List Expr)(t:TGs):Prop:=
 ∀(pins:List (Addr×Obj)) (s:Shared)(σ:St)(H:Hp)(vs:List V)(us:List Value)(Q:St->Hp->Prop),Inv X pins σ H s->Vals vs us->t vs σ H Q->
  wpAny (model X.prog X.w) X.A (assignInOrder ((assignEach ts X.env).map (·.2)) us) (λ_ s'=>∃σ' H',Inv X pins σ' H' s'/\Q σ' H') X.xe s
noncomputable abbrev TSet:=V->V->V->Hp->(Hp->Prop)->Prop
def Aq(X:Cx)(t:TSet):Prop:=
 ∀(pins:List (Addr×Obj)) (s:Shared)(σ:St)(H:Hp)(o i v:V)(ov iv u:Value)(Q:Hp->Prop),Inv X pins σ H s->RelV o ov->RelV i iv->RelV v u->t o i v H Q->
  wpAny (model X.prog X.w) X.A (setItem ov iv u) (λ_ s'=>∃H',Inv X pins σ H' s'/\Q H') X.xe s
section
variable {X:Cx}{pos:Pos}
noncomputable def qE(i:Nat):TG:=λv σ H Q=>Q (σ.set i (some v)) H
theorem iW(hN:X.N.Nodup)(hi:X.N[i]?=some x)(hx:Loc X.env.scope x)(hf:X.fn x=true\/X.env.scope.names.lookup x=some .local:=by first|exact .inl rfl|exact .inr rfl|assumption):PG X (.Name x pos) (qE i):=by
 intro pins s σ H v u Q I r h;exact wpAny_assign_Name (iZ I hN hi hx r (λs' I'=>⟨_,H,I',h⟩) hf)
noncomputable def gNil:TGs:=λvs σ H Q=>vs=[]/\Q σ H
noncomputable def CH(t:TG)(u:TGs):TGs:=λvs σ H Q=>∃v r,vs=v::r/\t v σ H λσ' H'=>u r σ' H' Q
theorem xq:PGs X [] gNil:=by
 intro pins s σ H vs us Q I r h;obtain⟨e,h⟩:=h;subst e;cases r;exact assignInOrder_nil ⟨σ,H,I,h⟩
theorem tR(h1:PG X e t)(h2:PGs X es u)
  (hs:(assignEach (e::es) X.env).map (·.2)=assign e X.env::(assignEach es X.env).map (·.2):=by rfl):PGs X (e::es) (CH t u):=by
 intro pins s σ H vs us Q I r h;obtain⟨v,vr,e1,h⟩:=h;subst e1;cases r with
 |cons r rr=>
  rw[hs];refine assignInOrder_cons (thn (h1 pins s σ H _ _ _ I r h) λ_ s1 ⟨σ1,H1,I1,q1⟩=>?_)
  exact h2 pins s1 σ1 H1 _ _ Q I1 rr q1
noncomputable def EC(K:Ii)(n:Nat)(t:TGs):TG:=λv σ H Q=>∃a xs,v=.ref a/\SqT K H a xs/\xs.length=n/\t xs σ H Q
theorem yF(hc:X.calm=true)(h:PGs X es t)
  (hn:(assignEach es X.env).length=n:=by rfl) (hst:(assignEach es X.env).findIdx? (·.1)=none:=by rfl):PG X (.Tuple es k pos) (EC X.K n t):=by
 intro pins s σ H v u Q I r hw;obtain⟨a,xs,e1,hq,hl,hw⟩:=hw;subst e1;cases r;obtain⟨its,rv,ht,hz⟩:=I.tuple hq;refine assign_Tuple_tuple (I.ok.hd hc) ht (by simp[hn,<-hl,rv.length]) hst λh' hx=>?_
 have I1:Inv X pins σ H {s with heap:=h'}:=I.kept (t':=s.toks) λb o e=>hx b o (Hl (G2 e)) e
 exact h pins _ σ H xs _ Q I1 (by simpa using rv) hw
noncomputable def Fh(to ti:TE)(t:TSet):TG:=λv σ H Q=>to σ H λo H1=>ti σ H1 λi H2=>t o i v H2 λH3=>Q σ H3
theorem xZ(ho:PE X o to)(hi:PE X i ti)(hs:Aq X t)
  (ha:∀v,assign (.Subscript o i pos) X.env v=(do
   let ov<-holding [v] (eval o X.env)
   let iv<-holding [v,ov] (eval i X.env)
   standAt pos
   holding [v,ov,iv] (setItem ov iv v)
   release [v,ov,iv] []):=by intro _;rfl):PG X (.Subscript o i pos) (Fh to ti t):=by
 intro pins s σ H v u Q I r h;rw[ha];refine xL (HC (thn (ho pins s σ H _ I h) λov s1 ⟨x,H1,I1,r1,q1⟩=>?_))
 refine xL (HC (thn (hi pins s1 σ H1 _ I1 q1) λiv s2 ⟨y,H2,I2,r2,q2⟩=>?_))
 refine xL (wpAny_standAt (xL (HC (thn (hs pins s2 σ H2 x y v ov iv u _ I2 r1 r2 r q2) λ_ s3 ⟨H3,I3,q3⟩=>?_))))
 exact wpAny_release ⟨σ,H3,I3,q3⟩
noncomputable def yc(te:TE)(g:TG):TS:=λD σ H=>te σ H λx H1=>g x σ H1 D.nx
theorem tj(he:PE X e te)(hg:PG X tg g)(hs:swapsWithSole [tg] e pos.line X.env=pure false:=by rfl)(hw:swappedStores [tg] e X.env=pure none:=by rfl)
  (h1:(assignEach [tg] X.env).map (·.2)=[assign tg X.env]:=by rfl):PS X (.Assign [tg] e pos) (yc te g):=by
 intro pins s σ H D I h;refine wpAny_Assign_stores (thn (he pins s σ H _ I h) λv s1 ⟨x,H1,I1,r1,q1⟩=>?_) hs hw
 rw[h1];exact thn (hg pins s1 σ H1 x v _ I1 r1 q1) λ_ s2 q=>q
theorem zL(hN:X.N.Nodup)(hi:X.N[i]?=some x)(hx:Loc X.env.scope x)(he:PE X e te)(hs:swapsWith e (some (.Name x pos')) pos.line X.env=pure false:=by rfl)(hf:X.fn x=true\/X.env.scope.names.lookup x=some .local:=by first|exact .inl rfl|exact .inr rfl|assumption) :
  PS X (.Assign [.Name x pos'] e pos) (yc te (qE i)):=by
 intro pins s σ H D I h;refine wpAny_Assign_Name (thn (he pins s σ H _ I h) λv s1 ⟨y,H1,I1,r1,q1⟩=>?_) hs
 exact iZ I1 hN hi hx r1 (λs2 I2=>⟨_,H1,I2,q1⟩) hf
end
section
variable {X:Cx}{pos:Pos}
end
structure It where
 go:Nat->Hp->Prop
 yld:Nat->Hp->V->Hp->Prop
 stop:Nat->Hp->Prop
def fu(X:Cx)(pins:List (Addr×Obj))(H:Hp)(b:Addr):Prop:=
 H b=none/\b≠X.env.locals/\b∉X.fs/\(b∈X.ex\/X.s₀.heap.objs.size<=b)/\(∀x c,X.env.cells.lookup x=some c->c≠b)/\∀p∈X.pn++pins,p.1≠b
theorem Inv.fpOk{s:Shared}(I:Inv X pins σ H s)(hb:s.heap.objs.size<=b)(hn:H' b=none):fu X pins H' b:=by
 refine⟨hn,Nat.ne_of_gt (GU I.lt hb),I.nofs hb,.inr (Ha I.sz hb),λx c e z=>?_,λp hp z=>?_⟩
 ·obtain⟨v,q⟩:=I.cell x c e;exact absurd (GU q.lt (by rw[z];exact hb)) (HI _)
 ·exact absurd (GU (G2 (I.pin p hp).1) (by rw[z];exact hb)) (HI _)
def HdA(X:Cx):Prop:=X.calm=true\/∃a o u,X.A.handled=some (.ref a)/\X.H₀ a=some (.frz o u)/\nF o
def Qt(q:Bool)(X:Cx):Prop:=match q with
 |false=>X.calm=true
 |true=>HdA X
theorem Inv.hdA{X:Cx}(I:Inv X pins σ H s)(q:HdA X):yM X.A s.heap/\∀c,X.A.handled=some (.ref c)->H c≠none:=by
 rcases q with q|⟨a,o,u,e,f,l⟩
 ·have z:=I.ok.hd q;exact⟨.inl z,λc e=>by rw[z]at e;cases e⟩
 ·have z:=I.base.frzs a o u f;exact⟨.inr ⟨a,o,e,(I.hok a _ z).1,l⟩,λc w n=>by rw[e]at w;cases w;rw[z]at n;cases n⟩
theorem Qt.hd{X:Cx}(h:Qt q X):HdA X:=by
 cases q with
 |false=>exact .inl h
 |true=>exact h
structure TurnB (q:Bool)(P:Program)(w:World)(K:Ii)(tg:Expr)(J:It)(fp:List Addr)(it:Addr)(tn:Nat->Heap->Prop):Prop where
 mem:it∈fp
 obj:∀i h,tn i h->∀b∈fp,∃o,h.get? b=some o/\∀v,o.data≠.cell v
 keep:∀i h h',tn i h->(∀b∈fp,∀o,h.get? b=some o->h'.get? b=some o)->tn i h'
 item:∀(X:Cx),X.prog=P->X.w=w->X.K=K->Qt q X->∀(i:Nat) (pins:List (Addr×Obj)) (s:Shared)(σ:St)(H:Hp)(E:Value->Shared->Prop),Inv X pins σ H s->(∀b∈fp,fu X pins H b)->tn i s.heap->J.go i H->
  wpAny (model P w) X.A (pyNext (.ref it)) (λr s1=>∃u,r=some u/\
   wpAny (model P w) X.A (letOwnedTupleGo tg (.ref it) u) (λ_ s2=>∃x H',Inv X pins σ H' s2/\RelV x u/\J.yld i H x H'/\tn (i+1) s2.heap/\∀b∈fp,H' b=none) E s1) E s
 done:∀(X:Cx),X.prog=P->X.w=w->X.K=K->Qt q X->∀(i:Nat) (pins:List (Addr×Obj)) (s:Shared)(σ:St)(H:Hp)(E:Value->Shared->Prop),Inv X pins σ H s->(∀b∈fp,fu X pins H b)->tn i s.heap->J.stop i H->
  wpAny (model P w) X.A (pyNext (.ref it)) (λr s1=>r=none/\Inv X pins σ H s1) E s
 self:∀(A:Around)(i:Nat)(s:Shared)(Q:Value->Shared->Prop)(E:Value->Shared->Prop),tn i s.heap->Q (.ref it) s->wpAny (model P w) A (pyIter (.ref it)) Q E s
noncomputable abbrev Turn:=TurnB false
theorem TurnB.calm{K:Ii}(T:TurnB q P w K tg J fp it tn):Turn P w K tg J fp it tn:=by
 cases q with
 |false=>exact T
 |true=>exact⟨T.mem,T.obj,T.keep,λX a b c h=>T.item X a b c (.inl h),λX a b c h=>T.done X a b c (.inl h),T.self⟩
noncomputable abbrev TI:=St->Hp->(It->Hp->Prop)->Prop
def yz(q:Bool)(X:Cx)(pins:List (Addr×Obj))(σ:St)(tg:Expr)(R:It->Hp->Prop)(itv:Value)(s2:Shared):Prop:=
 ∃(it:Addr)(fp:List Addr)(tn:Nat->Heap->Prop)(J:It)(H':Hp),itv=.ref it/\Inv X pins σ H' s2/\TurnB q X.prog X.w X.K tg J fp it tn/\tn 0 s2.heap/\(∀b∈fp,fu X pins H' b)/\R J H'
noncomputable abbrev PIE:=yz false
def PIB(q:Bool)(X:Cx)(tg iter:Expr)(wi:TI):Prop:=
 ∀(pins:List (Addr×Obj)) (s:Shared)(σ:St)(H:Hp)(R:It->Hp->Prop),Inv X pins σ H s->wi σ H R->
  wpAny (model X.prog X.w) X.A (eval iter X.env) (λv s1=>wpAny (model X.prog X.w) X.A (pyIter v) (yz q X pins σ tg R) X.xe s1) X.xe s
noncomputable abbrev PI:=PIB false
theorem PIB.calm{X:Cx}(h:PIB q X tg iter wi):PI X tg iter wi:=λpins s σ H R I z=>HP (h pins s σ H R I z) (λ_ _ k=>HP k (λ_ _ ⟨it,fp,tn,J,H',e,I',T,r⟩=>⟨it,fp,tn,J,H',e,I',T.calm,r⟩) λ_ _ x=>x) λ_ _ x=>x
theorem qg {s : Shared} {o : Obj} (ho : s.heap.get? it = some o) (hc : o.cls = .type n) (hd : o.data = .fields vs)
    (hn : ["enumerate", "zip", "dict_itemiterator", "dict_reverseitemiterator", "odict_iterator", "itertools.zip_longest", "itertools.pairwise"].contains n = false) (hQ : Q () s) : wpAny M A (letOwnedTupleGo tg (.ref it) u) Q E s := by
  unfold letOwnedTupleGo;cases tg <;> first
    | exact GT hQ
    | (cases u <;> first
        | exact GT hQ
        | (refine xL (wpAny_load ho ?_)
           rw [hc, hd];show wpAny M A (if (["enumerate", "zip", "dict_itemiterator", "dict_reverseitemiterator", "odict_iterator", "itertools.zip_longest", "itertools.pairwise"].contains n && vs[0]? == some (rawInt _)) = true then _ else _) Q E s
           rw [GV (by intro h; rw [hn, Bool.false_and] at h; cases h)]
           exact GT hQ))
noncomputable def Itl(K:Ii)(a:Addr):It:=
 ⟨λi H=>∃xs x,SqL K H a xs/\xs[i]?=some x,λi H x H'=>H'=H/\∀xs,SqL K H a xs->xs[i]?=some x,λi H=>∃xs,SqL K H a xs/\xs.length<=i⟩
noncomputable def Itt(K:Ii)(a:Addr):It:=
 ⟨λi H=>∃xs x,SqT K H a xs/\xs[i]?=some x,λi H x H'=>H'=H/\∀xs,SqT K H a xs->xs[i]?=some x,λi H=>∃xs,SqT K H a xs/\xs.length<=i⟩
noncomputable def Itr(lo:Int)(n:Nat):It:=⟨λi _=>i<n,λi H x H'=>H'=H/\x=.int (lo+i),λi _=>n<=i⟩
theorem rL{K:Ii}{q:Bool}(a it:Addr):TurnB q P w K tg (Itl K a) [it] it (λi h=>h.IsListIter it a i) where
 mem:=by simp
 obj:=λi h st b hb=>by
  have e:b=it:=by simpa using hb
  subst e;obtain⟨o,e,c,d⟩:=st;exact⟨o,e,λv z=>by rw[d]at z;cases z⟩
 keep:=λi h h' st k=>st.at λo e=>k it (by simp) o e
 item:=by
  intro X hP hw hK hc i pins s σ H E I hf st hg;subst hP hw hK;obtain⟨xs,x,hq,hx⟩:=hg;obtain⟨its,rv,p,hz⟩:=I.list hq;obtain⟨u,hu,ru⟩:=rv.get hx;obtain⟨f0,f1,f2,f3,f4,f5⟩:=hf it (by simp)
  refine wpAny_pyNext_list_item st p.isList (x:=u) (by simpa using hu) λh' st' sb=>?_
  have I1:Inv X pins σ H {s with heap:=h'}:=I.turned (t':=s.toks) (λb o hb e=>(sb.2 b hb).trans e) f0 f1 f3 f4 f5
  obtain⟨o,e,c,d⟩:=id st';exact⟨u,rfl,qg (s:={s with heap:=h'}) e c d (by decide) ⟨x,H,I1,ru,⟨rfl,λys hy=>by rw[I.list_inj hy hq];exact hx⟩,st',λb hb=>(hf b hb).1⟩⟩
 done:=by
  intro X hP hw hK hc i pins s σ H E I hf st hg;subst hP hw hK;obtain⟨xs,hq,hx⟩:=hg;obtain⟨its,rv,p,hz⟩:=I.list hq;obtain⟨f0,f1,f2,f3,f4,f5⟩:=hf it (by simp)
  have hl:=rv.length;exact km (I.hdA hc.hd).1 (λc e z=>(I.hdA hc.hd).2 c e (z▸f0)) st p.isList (by simp;omega) λh' eb=>⟨rfl,I.turned (t':=s.toks) (λb o hb e=>eb b o hb e) f0 f1 f3 f4 f5⟩
 self:=λ_ _ _ _ _ st h=>wpAny_pyIter_listiter st h
theorem oY{K:Ii}(a it:Addr):Turn P w K tg (Itt K a) [it] it (λi h=>h.IsTupleIter it a i) where
 mem:=by simp
 obj:=λi h st b hb=>by
  have e:b=it:=by simpa using hb
  subst e;obtain⟨o,e,c,d⟩:=st;exact⟨o,e,λv z=>by rw[d]at z;cases z⟩
 keep:=λi h h' st k=>st.at λo e=>k it (by simp) o e
 item:=by
  intro X hP hw hK hc i pins s σ H E I hf st hg;subst hP hw hK;obtain⟨xs,x,hq,hx⟩:=hg;obtain⟨its,rv,p,hz⟩:=I.tuple hq;obtain⟨u,hu,ru⟩:=rv.get hx;obtain⟨f0,f1,f2,f3,f4,f5⟩:=hf it (by simp)
  refine wpAny_pyNext_tuple_item st (show s.heap.IsTuple a its.toArray from p) (x:=u) (by simpa using hu) λh' st' sb=>?_
  have I1:Inv X pins σ H {s with heap:=h'}:=I.turned (t':=s.toks) (λb o hb e=>(sb.2 b hb).trans e) f0 f1 f3 f4 f5
  obtain⟨o,e,c,d⟩:=id st';exact⟨u,rfl,qg (s:={s with heap:=h'}) e c d (by decide) ⟨x,H,I1,ru,⟨rfl,λys hy=>by rw[I.tuple_inj hy hq];exact hx⟩,st',λb hb=>(hf b hb).1⟩⟩
 done:=by
  intro X hP hw hK hc i pins s σ H E I hf st hg;subst hP hw hK;obtain⟨xs,hq,hx⟩:=hg;obtain⟨its,rv,p,hz⟩:=I.tuple hq;obtain⟨f0,f1,f2,f3,f4,f5⟩:=hf it (by simp)
  have hl:=rv.length;exact wpAny_pyNext_tuple_end (I.ok.hd hc) st (show s.heap.IsTuple a its.toArray from p) (by simp;omega) λh' eb=>⟨rfl,I.turned (t':=s.toks) (λb o hb e=>eb b o hb e) f0 f1 f3 f4 f5⟩
 self:=λ_ _ _ _ _ st h=>wpAny_pyIter_tupleiter st h
theorem ox{K:Ii}(it:Addr)(lo:Int)(n:Nat):Turn P w K tg (Itr lo n) [it] it (λi h=>IsRangeIter h it (lo+(i:Nat)*1) ((n:Int)-(i:Nat)) 1) where
 mem:=by simp
 obj:=λi h st b hb=>by
  have e:b=it:=by simpa using hb
  subst e;exact⟨_,st,λv z=>by
   have z':Data.fields _=Data.cell v:=z;cases z'⟩
 keep:=λi h h' st k=>k it (by simp) _ st
 item:=by
  intro X hP hw hK hc i pins s σ H E I hf st hg;subst hP hw hK;obtain⟨f0,f1,f2,f3,f4,f5⟩:=hf it (by simp)
  have W:=Walks.range (prog:=X.prog) (w:=X.w) (I.ok.hd hc) it lo 1 n;refine eN I.tk (W.item i s _ _ hg st λv h' tk hv st' kk h0=>?_)
  obtain⟨t,rfl⟩:=hv;have I1:Inv X pins σ H {s with heap:=h',toks:=tk}:=I.turned (λb o hb e=>kk b o (by simpa using hb) e) f0 f1 f3 f4 f5
  refine⟨_,rfl,qg (s:={s with heap:=h',toks:=tk}) (n:="range_iterator") st' rfl rfl (by decide) ⟨.int (lo+i),H,I1,⟨t,?_⟩,⟨rfl,rfl⟩,st',λb hb=>(hf b hb).1⟩⟩
  rw[Int.mul_one]
 done:=by
  intro X hP hw hK hc i pins s σ H E I hf st hg;subst hP hw hK;obtain⟨f0,f1,f2,f3,f4,f5⟩:=hf it (by simp)
  exact wpAny_pyNext_range_end (I.ok.hd hc) st (by have:n<=i:=hg;omega) λh' eb=>⟨rfl,I.turned (t':=s.toks) (λb o hb e=>eb b o hb e) f0 f1 f3 f4 f5⟩
 self:=λ_ _ _ _ _ st h=>wpAny_pyIter_rangeiter st h
section
variable {X:Cx}
theorem ul{s:Shared}{lo:Int}(I:Inv X pins σ H s)(h1 : -(2 ^ 62)<=lo)(h2:lo<2 ^ 62)(h3 : -(2 ^ 62)<=hi)(h4:hi<2 ^ 62)
  (q:R (Itr lo (hi-lo).toNat) H) (h0:0<tk:=by first|exact HH _|assumption|exact Inv.tk (by assumption)|exact Env0.tk (by assumption)|exact GU (Inv.tk (by assumption)) (Hs _ _)):wpAny (model X.prog X.w) X.A (pyIter (.ref s.heap.objs.size)) (PIE X pins σ tg R) E {s with heap:=s.heap.push {cls:=.type "range",data:=.fields #[.int lo t,.int hi u,.int 1 v]},toks:=tk}:=by
 refine wpAny_pyIter_range (IsRange.new ..) (small_one h1 h2 h3 h4) ?_;have I1:Inv X pins σ H {s with heap:=s.heap.push {cls:=.type "range",data:=.fields #[.int lo t,.int hi u,.int 1 v]},toks:=tk}:=I.kept λb o e=>GX _ e
 refine⟨(s.heap.push {cls:=.type "range",data:=.fields #[.int lo t,.int hi u,.int 1 v]}).objs.size,[(s.heap.push {cls:=.type "range",data:=.fields #[.int lo t,.int hi u,.int 1 v]}).objs.size],_,_,H,rfl,
  I1.kept (t':=tk) λb o e=>GX _ e,ox _ lo (hi-lo).toNat,?_,λb hb=>?_,q⟩
 ·have e1:lo+((0:Nat):Int)*1=lo:=by simp
  have e2:(((hi-lo).toNat:Nat):Int)-((0:Nat):Int)=Builtin.Range.rangeSize lo hi 1:=by rw[rangeSize_one];split<;>omega
  show IsRangeIter _ _ (lo+((0:Nat):Int)*1) ((((hi-lo).toNat:Nat):Int)-((0:Nat):Int)) 1;rw[e1,e2];exact G4 _ rfl
 ·have e:b=(s.heap.push {cls:=.type "range",data:=.fields #[.int lo t,.int hi u,.int 1 v]}).objs.size:=by simpa using hb
  subst e;exact I1.fpOk (GZ _) (I1.hok.fresh (GZ _))
noncomputable def Ci(ta:TA):TI:=λσ H R=>ta σ H λvs H1=>∃j:Int,vs=[.int j]/\-(2 ^ 62)<=j/\j<2 ^ 62/\R (Itr 0 j.toNat) H1
theorem rG(hg:Gl X "range")(hm:X.mg "range"=none)(ha:PA X [a] ta)(hs:starEach [a] X.env=[(false,eval a X.env)]:=by rfl):PI X tg (.Call (.Name "range" p) [a] [] pos) (Ci ta):=by
 intro pins s σ H R I h;refine Call_ (gW I hg hm boot_range (PyProof.Rows.callWith_type1 (thn (ha pos pins s σ H _ I h) λus s1 ⟨vs,H1,I1,r1,q1⟩=>?_) hs rfl))
 obtain⟨j,e,q1,q2,q⟩:=q1;subst e;cases r1 with
 |cons r rr=>
  cases rr;obtain⟨t,rfl⟩:=r;exact call_range_1 (ul I1 (by omega) (by omega) q1 q2 (by simpa using q))
noncomputable def Ev(wi:TI)(g:TG)(tb:TS):TS:=λD σ H=>wi σ H λJ H1=>∃W:Nat->Nat->St->Hp->Prop,(∃m,W 0 m σ H1)/\∀i m σ H,W i m σ H->
 (J.stop i H/\D.nx σ H)\/(J.go i H/\∃N:St->Hp->Prop,(∀σ' H',N σ' H'->∃m',m' < m/\W (i+1) m' σ' H')/\∀x H',J.yld i H x H'->g x σ H' λσ2 H2=>tb {D with nx:=N,ct:=N,bk:=D.nx} σ2 H2)
noncomputable def ji(fp:List Addr)(h:Heap):List (Addr×Obj):=fp.filterMap λb=>(h.get? b).map λo=>(b,o)
theorem dD{h:Heap}(hb:b∈fp)(e:h.get? b=some o):(b,o)∈ji fp h:=List.mem_filterMap.mpr ⟨b,hb,by rw[e];rfl⟩
theorem qW{h:Heap}{p:Addr×Obj}(hp:p∈ji fp h):p.1∈fp/\h.get? p.1=some p.2:=by
 obtain⟨b,hb,e⟩:=List.mem_filterMap.mp hp;cases q:h.get? b with
 |none=>rw[q]at e;cases e
 |some o=>
  rw[q]at e;have e':(b,o)=p:=Hg e;subst e';exact⟨hb,q⟩
theorem Inv.pinned{s:Shared}(I:Inv X pins σ H s)(hf:∀b∈fp,fu X pins H b)(ho:∀b∈fp,∃o,s.heap.get? b=some o/\∀v,o.data≠.cell v):Inv X (pins++ji fp s.heap) σ H s:=
 I.pins_of λp hp=>(Ho.mp hp).elim (λz=>I.pin p (Hj _ z)) λz=>by
  obtain⟨hb,e⟩:=qW z;obtain⟨f0,f1,f2,_⟩:=hf p.1 hb;obtain⟨o,e',d⟩:=ho p.1 hb;rw[e]at e';cases e';exact⟨e,f0,f1,f2,d⟩
theorem Inv.unpinned(I:Inv X (pins++pl) σ H s):Inv X pins σ H s:=I.pins_of λp hp=>I.pin p (Hj _ (HE _ hp))
theorem yV(hp:PassesOwn (model X.prog X.w) X.A X.env X.xe)(hc:X.calm=true)(hi:PI X tg iter wi)(hg:PG X tg g)(hb:PSs X body tb)
  (hs:∀x,foldedSetIterable iter X.env x=pure x:=by intro _;rfl):PS X (.For tg iter body [] pos) (Ev wi g tb):=by
 intro pins s σ H D I h;refine wpAny_For (thn (hi pins s σ H _ I h) λv s1 h1=>thn h1 λitv s2 h2=>?_) hs
 obtain⟨it,fp,tn,J,H2,e,I2,T,st2,f2,W,⟨m0,w0⟩,oX⟩:=h2;subst e;have stat:∀{H':Hp},(∀b∈fp,H' b=none)->∀b∈fp,fu X pins H' b:=λhn b hb=>⟨hn b hb,(f2 b hb).2⟩
 refine codeAny_forLoop_any (λn s'=>∃i σ' H',Inv X pins σ' H' s'/\tn i s'.heap/\(∀b∈fp,H' b=none)/\W i n σ' H') ?_ m0 ⟨0,σ,H2,I2,st2,λb hb=>(f2 b hb).1,w0⟩
 rintro n s3 ⟨i,σ3,H3,I3,st3,fr3,w3⟩;rcases oX i n σ3 H3 w3 with ⟨stop,qn⟩|⟨go,N,hN,step⟩
 ·refine wpAny_passesOwn hp (thn (T.done X rfl rfl rfl hc i pins s3 σ3 H3 X.xe I3 (stat fr3) st3 stop) λr s4 ⟨hr,I4⟩=>?_)
  subst hr;exact wpAny_execs_nil ⟨σ3,H3,I4,qn⟩
 ·refine wpAny_passesOwn hp (thn (T.item X rfl rfl rfl hc i pins s3 σ3 H3 X.xe I3 (stat fr3) st3 go) λr s4 ⟨u,hr,h4⟩=>?_)
  subst hr;refine wpAny_passesOwn hp (thn h4 λ_ s5 ⟨x,H5,I5,r5,y5,st5,fr5⟩=>?_)
  have I5':=I5.pinned (stat fr5) (T.obj _ _ st5);refine wpAny_passesOwn hp (thn (hg _ s5 σ3 H5 x u _ I5' r5 (step x H5 y5)) λ_ s6 ⟨σ6,H6,I6,q6⟩=>?_)
  refine wpAny_passesOwn hp (thn (hb _ s6 σ6 H6 _ I6 q6) λf s7 q7=>?_)
  have again:∀{σ7:St}{H7:Hp},Inv X (pins++ji fp s5.heap) σ7 H7 s7->N σ7 H7->∃m,m<n/\∃i σ' H',Inv X pins σ' H' s7/\tn i s7.heap/\(∀b∈fp,H' b=none)/\W i m σ' H':=λ{σ7 H7} I7 n7=>by
   obtain⟨m',hm,w7⟩:=hN σ7 H7 n7;refine⟨m',hm,i+1,σ7,H7,I7.unpinned,T.keep _ _ _ st5 λb hb o e=>(I7.pin (b,o) (Hj _ (Hj _ (dD hb e)))).1,λb hb=>?_,w7⟩
   obtain⟨o,e,d⟩:=T.obj _ _ st5 b hb;exact (I7.pin (b,o) (Hj _ (Hj _ (dD hb e)))).2.1
  cases f with
  |next=>obtain⟨σ7,H7,I7,n7⟩:=q7;exact again I7 n7
  |cont=>obtain⟨σ7,H7,I7,n7⟩:=q7;exact again I7 n7
  |brk=>obtain⟨σ7,H7,I7,q7⟩:=q7;exact⟨σ7,H7,I7.unpinned,q7⟩
  |ret v=>obtain⟨x7,σ7,H7,I7,r7,q7⟩:=q7;exact⟨x7,σ7,H7,I7.unpinned,r7,q7⟩
end
noncomputable abbrev R2:=V->V->Hp->VK->Prop
def OpR(X:Cx)(f:Value->Value->Sem Value)(r:R2):Prop:=
 ∀(pins:List (Addr×Obj)) (s:Shared)(σ:St)(H:Hp)(x y:V)(v u:Value)(Q:VK),Inv X pins σ H s->RelV x v->RelV y u->r x y H Q->
  wpAny (model X.prog X.w) X.A (f v u) (EP X pins σ Q) X.xe s
def UnR(X:Cx)(f:Value->Sem Value)(r:V->Hp->VK->Prop):Prop:=
 ∀(pins:List (Addr×Obj)) (s:Shared)(σ:St)(H:Hp)(x:V)(v:Value)(Q:VK),Inv X pins σ H s->RelV x v->r x H Q->
  wpAny (model X.prog X.w) X.A (f v) (EP X pins σ Q) X.xe s
def CallR(X:Cx)(f:Value)(r:List V->Hp->VK->Prop):Prop:=
 ∀(pins:List (Addr×Obj)) (s:Shared)(σ:St)(H:Hp)(xs:List V)(us:List Value)(Q:VK),Inv X pins σ H s->Vals xs us->r xs H Q->
  wpAny (model X.prog X.w) X.A (call f us) (EP X pins σ Q) X.xe s
noncomputable def tOp(r:R2)(ta tb:TE):TE:=λσ H Q=>ta σ H λx H1=>tb σ H1 λy H2=>r x y H2 Q
noncomputable def tUn(r:V->Hp->VK->Prop)(ta:TE):TE:=λσ H Q=>ta σ H λx H1=>r x H1 Q
def rI(C:Int->Int->Prop)(g:Int->Int->V):R2:=λx y H Q=>∃i j,x=.int i/\y=.int j/\C i j/\Q (g i j) H
def rI0(g:Int->Int->V):R2:=λx y H Q=>∃i j,x=.int i/\y=.int j/\Q (g i j) H
def rU(g:Int->V):V->Hp->VK->Prop:=λx H Q=>∃i,x=.int i/\Q (g i) H
section
variable {X:Cx}{a b c:Expr}{ta tb tc:TE}{pos:Pos}
theorem zh(ha:PE X a ta)(hb:PE X b tb){pins:List (Addr×Obj)}{s:Shared}{σ:St}{H:Hp}{R:V->V->Hp->Prop}(I:Inv X pins σ H s)
  (h:ta σ H λx H1=>tb σ H1 λy H2=>R x y H2) {Q:Value->Shared->Prop}{f:Value->Value->Sem Value}
  (hf:∀v u s2 x y H2,Inv X pins σ H2 s2->RelV x v->RelV y u->R x y H2->wpAny (model X.prog X.w) X.A (f v u) Q X.xe s2) :
  wpAny (model X.prog X.w) X.A (eval a X.env) (λv s₁=>wpAny (model X.prog X.w) X.A (eval b X.env) (λu s₂=>wpAny (model X.prog X.w) X.A (f v u) Q X.xe s₂) X.xe s₁) X.xe s:=by
 refine thn (ha pins s σ H _ I h) λv s1 ⟨x,H1,I1,r1,q1⟩=>?_
 refine thn (hb pins s1 σ H1 _ I1 q1) λu s2 ⟨y,H2,I2,r2,q2⟩=>?_
 exact hf v u s2 x y H2 I2 r1 r2 q2
theorem Ch{op:Operator}{r:R2}(ho:OpR X (binaryOp op) r)(ha:PE X a ta)(hb:PE X b tb):PE X (.BinOp a op b pos) (tOp r ta tb):=by
 intro pins s σ H Q I h;exact wpAny_BinOp (zh ha hb I h λv u s2 x y H2 I2 rx ry q=>ho pins s2 σ H2 x y v u Q I2 rx ry q)
theorem BL(ho:UnR X (unaryOp op) r)(ha:PE X a ta):PE X (.UnaryOp op a pos) (tUn r ta):=by
 intro pins s σ H Q I h;exact UnaryOp_ (thn (ha pins s σ H _ I h) λv s1 ⟨x,H1,I1,r1,q1⟩=>ho pins s1 σ H1 x v Q I1 r1 q1)
theorem opI{f:Value->Value->Sem Value}{C:Int->Int->Prop}{g:Int->Int->Int}
  (rule:∀(i j:Int)(t u:Tok)(s:Shared)(Q:Value->Shared->Prop)(E:Value->Shared->Prop),C i j->Q (.int (g i j) s.toks) {s with toks:=s.toks+1}->wpAny (model X.prog X.w) X.A (f (.int i t) (.int j u)) Q E s) :
  OpR X f (rI C λi j=>.int (g i j)):=by
 intro pins s σ H x y v u Q I rx ry h;obtain⟨i,j,rfl,rfl,hc,q⟩:=h;obtain⟨t,rfl⟩:=rx;obtain⟨t',rfl⟩:=ry;exact rule i j t t' s _ _ hc ⟨.int (g i j),H,I.tok _,⟨_,rfl⟩,q⟩
theorem Au{f:Value->Value->Sem Value}{g:Int->Int->Int}
  (rule:∀(i j:Int)(t u:Tok)(s:Shared)(Q:Value->Shared->Prop)(E:Value->Shared->Prop),Q (.int (g i j) s.toks) {s with toks:=s.toks+1}->wpAny (model X.prog X.w) X.A (f (.int i t) (.int j u)) Q E s) :
  OpR X f (rI0 λi j=>.int (g i j)):=by
 intro pins s σ H x y v u Q I rx ry h;obtain⟨i,j,rfl,rfl,q⟩:=h;obtain⟨t,rfl⟩:=rx;obtain⟨t',rfl⟩:=ry;exact rule i j t t' s _ _ ⟨.int (g i j),H,I.tok _,⟨_,rfl⟩,q⟩
theorem wc{f:Value->Value->Sem Value}{g:Int->Int->Bool}
  (rule:∀(i j:Int)(t u:Tok)(s:Shared)(Q:Value->Shared->Prop)(E:Value->Shared->Prop),Q (.bool (g i j)) s->wpAny (model X.prog X.w) X.A (f (.int i t) (.int j u)) Q E s) :
  OpR X f (rI0 λi j=>.bl (g i j)):=by
 intro pins s σ H x y v u Q I rx ry h;obtain⟨i,j,rfl,rfl,q⟩:=h;obtain⟨t,rfl⟩:=rx;obtain⟨t',rfl⟩:=ry;exact rule i j t t' s _ _ ⟨.bl (g i j),H,I,rfl,q⟩
def sZ(i j:Int):Prop:=0<=j/\j<=1000000/\i.natAbs<2 ^ 64
theorem oZ(k:Nat):(0:Int)<=2 ^ k:=by
 rw[two_pow_cast];exact Int.natCast_nonneg _
theorem yl:OpR X (binaryOp .Add) (rI0 λi j=>.int (i+j)):=Au λ_ _ _ _ _ _ _ q=>add_int q
theorem ya:OpR X (binaryOp .Sub) (rI0 λi j=>.int (i-j)):=Au λ_ _ _ _ _ _ _ q=>sub_int q
theorem zt:OpR X (binaryOp .Mod) (rI (λ_ j=>0<j) λi j=>.int (i % j)):=opI λi j _ _ _ _ _ hc q=>by
 have h1:(0:Int)<j:=hc;exact mod_int' (by omega) (by rw[Int.fmod_eq_emod_of_nonneg i (by omega)];exact q)
theorem zT:OpR X (binaryOp .Pow) (rI sZ λi j=>.int (i ^ j.toNat)):=opI λ_ _ _ _ _ _ _ hc q=>pow_int_small hc.1 hc.2.1 hc.2.2 q
theorem zi:OpR X (binaryOp .RShift) (rI (λ_ j=>0<=j) λi j=>.int (i / 2 ^ j.toNat)):=opI λi j _ _ _ _ _ hc q=>
 rshift_int hc (by rw[Int.fdiv_eq_ediv_of_nonneg i (oZ _)];exact q)
theorem Ae:OpR X (binaryOp .BitAnd) (rI0 λi j=>.int (Builtin.bitAnd i j)):=Au λ_ _ _ _ _ _ _ q=>and_int q
theorem unI{f:Value->Sem Value}{g:Int->Int}
  (rule:∀(i:Int)(t:Tok)(s:Shared)(Q:Value->Shared->Prop)(E:Value->Shared->Prop),Q (.int (g i) s.toks) {s with toks:=s.toks+1}->wpAny (model X.prog X.w) X.A (f (.int i t)) Q E s) :
  UnR X f (rU λi=>.int (g i)):=by
 intro pins s σ H x v Q I rx h;obtain⟨i,rfl,q⟩:=h;obtain⟨t,rfl⟩:=rx;exact rule i t s _ _ ⟨.int (g i),H,I.tok _,⟨_,rfl⟩,q⟩
theorem zo:UnR X (unaryOp .USub) (rU λi=>.int (-i)):=unI λ_ _ _ _ _ q=>neg_int q
end
section
variable {X:Cx}{a b c:Expr}{ta tb tc:TE}{pos:Pos}
theorem mf(I:Inv X pins σ H s)(q:Q (.bl k) H)(e:k=k'):EP X pins σ Q (.bool k') s:=by
 subst e;exact⟨.bl k,H,I,rfl,q⟩
theorem Bt:OpR X (compareOp .Lt) (rI0 λi j=>.bl (decide (i<j))):=wc λ_ _ _ _ _ _ _ q=>lt_int q
theorem CU:OpR X (compareOp .LtE) (rI0 λi j=>.bl (decide (i<=j))):=wc λ_ _ _ _ _ _ _ q=>le_int q
theorem AY:OpR X (compareOp .Gt) (rI0 λi j=>.bl (decide (j<i))):=wc λ_ _ _ _ _ _ _ q=>gt_int q
theorem AW:OpR X (compareOp .GtE) (rI0 λi j=>.bl (decide (j<=i))):=wc λ_ _ _ _ _ _ _ q=>ge_int q
theorem rJ:OpR X (compareOp .In) (λx y H Q=>∃i j,x=.str i/\y=.str j/\Q (.bl (!(Builtin.Str.occurrences j i 0 j.length 1).isEmpty)) H):=by
 intro pins s σ H x y v u Q I rx ry h;obtain⟨i,j,rfl,rfl,q⟩:=h;obtain⟨t,rfl⟩:=rx;obtain⟨t',rfl⟩:=ry;exact in_str (mf I q rfl)
theorem yH:OpR X (compareOp .Is) (λx y H Q=>y=.non/\Q (.bl (decide (x=.non))) H):=by
 intro pins s σ H x y v u Q I rx ry h;obtain⟨rfl,q⟩:=h;cases ry;refine is_none_gen (mf I q ?_);cases x<;>first
  |(cases rx;rfl)
  |(obtain⟨t,rfl⟩:=rx;rfl)
theorem wu:OpR X (compareOp .IsNot) (λx y H Q=>y=.non/\Q (.bl (!decide (x=.non))) H):=by
 intro pins s σ H x y v u Q I rx ry h;obtain⟨rfl,q⟩:=h;cases ry;refine isnot_none_gen (mf I q ?_);cases x<;>first
  |(cases rx;rfl)
  |(obtain⟨t,rfl⟩:=rx;rfl)
theorem lD:OpR X (compareOp .NotIn) (λx y H Q=>∃i j,x=.str i/\y=.str j/\Q (.bl (!(!(Builtin.Str.occurrences j i 0 j.length 1).isEmpty))) H):=by
 intro pins s σ H x y v u Q I rx ry h;obtain⟨i,j,rfl,rfl,q⟩:=h;obtain⟨t,rfl⟩:=rx;obtain⟨t',rfl⟩:=ry;exact notIn_str (mf I q rfl)
theorem wf{op:CmpOp}{r:R2}(ho:OpR X (compareOp op) r)(ha:PE X a ta)(hb:PE X b tb)(hm:behindInMarks op b=false):PE X (.Compare a [op] [b] pos) (tOp r ta tb):=by
 intro pins s σ H Q I h;exact wpAny_Compare1 (zh ha hb I h λv u s2 x y H2 I2 rx ry q=>ho pins s2 σ H2 x y v u Q I2 rx ry q) hm
noncomputable def tM(t:TE):TT:=λσ H Q=>t σ H λx H'=>∃k,x=.bl k/\Q k H'
theorem wq(ho:OpR X (compareOp op) r)(ha:PE X a ta)(hb:PE X b tb)(hm:behindInMarks op b=false):PT X (.Compare a [op] [b] pos) (tM (tOp r ta tb)):=by
 intro pins s σ H Q I h;refine wpAny_isTrue_Compare1 (thn (ha pins s σ H _ I h) λv s1 ⟨x,H1,I1,r1,q1⟩=>thn (hb pins s1 σ H1 _ I1 q1) λu s2 ⟨y,H2,I2,r2,q2⟩=>
  thn (ho pins s2 σ H2 x y v u _ I2 r1 r2 q2) λc s3 ⟨z,H3,I3,r3,k,e,q3⟩=>?_) hm
 subst e;cases r3;exact Hx ⟨H3,I3,q3⟩
noncomputable def sU(r r':R2)(ta tb tc:TE):TE:=λσ H Q=>ta σ H λx H1=>tb σ H1 λy H2=>r x y H2 λz H3=>∃k,z=.bl k/\
 (if k=true then tc σ H3 λw' H4=>r' y w' H4 Q else Q (.bl false) H3)
theorem uP(ho:OpR X (compareOp op) r)(ho':OpR X (compareOp op') r')(ha:PE X a ta)(hb:PE X b tb)(hc:PE X c tc)
  (hm:lastMarks [op,op'] [b,c]=false:=by with_unfolding_all rfl):PE X (.Compare a [op,op'] [b,c] pos) (sU r r' ta tb tc):=by
 intro pins s σ H Q I h;refine Compare_chain (thn (ha pins s σ H _ I h) λv s1 ⟨x,H1,I1,r1,q1⟩=>chain_link (thn (hb pins s1 σ H1 _ I1 q1) λu s2 ⟨y,H2,I2,r2,q2⟩=>
  thn (ho pins s2 σ H2 x y v u _ I2 r1 r2 q2) λd s3 ⟨z,H3,I3,r3,k,e,q3⟩=>?_)) hm
 subst e;cases r3;refine Hx ?_;cases k with
 |false=>exact ite_ff ⟨.bl false,H3,I3,rfl,q3⟩
 |true=>exact ite_tt (chain_last (thn (hc pins s3 σ H3 _ I3 q3) λw' s4 ⟨z',H4,I4,r4,q4⟩=>ho' pins s4 σ H4 y z' u w' Q I4 r2 r4 q4))
theorem uL(ho:OpR X (compareOp op) r)(ho':OpR X (compareOp op') r')(ha:PE X a ta)(hb:PE X b tb)(hc:PE X c tc)
  (hm:lastMarks [op,op'] [b,c]=false:=by with_unfolding_all rfl):PT X (.Compare a [op,op'] [b,c] pos) (tM (sU r r' ta tb tc)):=by
 intro pins s σ H Q I h;refine isTrue_chain (thn (ha pins s σ H _ I h) λv s1 ⟨x,H1,I1,r1,q1⟩=>test_link (thn (hb pins s1 σ H1 _ I1 q1) λu s2 ⟨y,H2,I2,r2,q2⟩=>
  thn (ho pins s2 σ H2 x y v u _ I2 r1 r2 q2) λd s3 ⟨z,H3,I3,r3,k,e,q3⟩=>?_)) hm
 subst e;cases r3;refine Hx ?_;cases k with
 |false=>
  obtain⟨k',e',q'⟩:=q3;cases e';exact ite_ff ⟨H3,I3,q'⟩
 |true=>
  refine ite_tt (test_last (thn (hc pins s3 σ H3 _ I3 q3) λw' s4 ⟨z',H4,I4,r4,q4⟩=>thn (ho' pins s4 σ H4 y z' u w' _ I4 r2 r4 q4) λd' s5 ⟨z2,H5,I5,r5,k2,e2,q5⟩=>?_))
  subst e2;cases r5;exact Hx ⟨H5,I5,q5⟩
theorem gR:(sizeLine:Nat)<2 ^ 63:=by rw[sizeLine_eq];decide
theorem pq:OpR X (binaryOp .Add) (λx y H Q=>∃i j,x=.str i/\y=.str j/\i.length+j.length<=sizeLine/\Q (.str (i++j)) H):=by
 intro pins s σ H x y v u Q I rx ry h;obtain⟨i,j,rfl,rfl,hz,q⟩:=h;obtain⟨t,rfl⟩:=rx;obtain⟨t',rfl⟩:=ry;exact eN I.tk <| add_str (λt' tk _=>⟨.str (i++j),H,I.tok _,⟨_,rfl⟩,q⟩) hz
theorem im(r:Vals [x] us):∃u,us=[u]/\RelV x u:=by
 cases r with
 |cons r1 r2=>cases r2;exact⟨_,rfl,r1⟩
theorem xE(r:Vals [x,y] us):∃u w',us=[u,w']/\RelV x u/\RelV y w':=by
 cases r with
 |cons r1 r2=>
  cases r2 with
  |cons r3 r4=>cases r4;exact⟨_,_,rfl,r1,r3⟩
theorem qZ(hc:X.calm=true):CallR X (.builtin "max") (λxs H Q=>∃i j,xs=[.int i,.int j]/\Q (.int (if j > i then j else i)) H):=by
 intro pins s σ H xs us Q I r h;obtain⟨i,j,rfl,q⟩:=h;obtain⟨u,w',rfl,⟨t,rfl⟩,⟨t',rfl⟩⟩:=xE r;refine eN I.tk <| max_two_ints (I.ok.hd hc) λh' tk k _=>⟨_,H,I.kept k,?_,q⟩
 by_cases hj:j > i
 ·rw[G3 hj,G3 hj];exact⟨_,rfl⟩
 ·rw[GV hj,GV hj];exact⟨_,rfl⟩
theorem si(hc:X.calm=true):CallR X (.builtin "min") (λxs H Q=>∃i j,xs=[.int i,.int j]/\Q (.int (if j<i then j else i)) H):=by
 intro pins s σ H xs us Q I r h;obtain⟨i,j,rfl,q⟩:=h;obtain⟨u,w',rfl,⟨t,rfl⟩,⟨t',rfl⟩⟩:=xE r;refine eN I.tk <| min_two_ints (I.ok.hd hc) λh' tk k _=>⟨_,H,I.kept k,?_,q⟩
 by_cases hj:j<i
 ·rw[G3 hj,G3 hj];exact⟨_,rfl⟩
 ·rw[GV hj,GV hj];exact⟨_,rfl⟩
end
structure ObjM (h:Heap)(x dx C:Addr)(mA:Str->Option Value):Prop where
 obj:h.get? x=some (PySem.W.instObj C dx)
 ns:h.Ns1 dx mA
 ne:dx≠x
theorem ra{h:Heap}(n:h.Ns1 dx mA):∃od,h.get? dx=some od/\∀name,PySem.W.lookIn name od=some (mA name):=by
 obtain⟨o,es,ep,ho,hd,hk,_,hm⟩:=n;refine⟨o,ho,λname=>?_⟩
 have e:=hm name;unfold nsFind findBy at e;rw[<-Array.find?_toList]at e;unfold PySem.W.lookIn;rw[hd];dsimp only;split
 ·rename_i y q;rw[q]at e;exact congrArg some e
 ·rename_i q;rw[q]at e;have a:es.toList.any (·.refKey)=false:=by
   rw[List.any_eq_false];intro y hy;obtain⟨z,t,hkey⟩:=hk y (Array.mem_toList_iff.mp hy);simp[DictEntry.refKey,hkey]
  have a':¬ es.toList.any (·.refKey)=true:=by rw[a];exact Hf
  rw[GV a'];exact congrArg some e
theorem ObjM.look(I:ObjM h x dx C mA):∃od,PySem.W.InstAt h x (PySem.W.instObj C dx) C (some od)/\∀name,PySem.W.lookIn name od=some (mA name):=
 let ⟨od,ho,hl⟩:=ra I.ns
 ⟨od,⟨I.obj,rfl,rfl,ho⟩,hl⟩
section
variable {w:World}{A:Around}{s:Shared}{K:Ii}{x:Addr}
theorem wQ(X:K.In s.heap)(I:ObjM s.heap x dx C mA)(hg:PySem.W.plainGet K C name=true)(hh:PySem.W.hasDictIn K C=true)
  (ha:PySem.W.findIn K (.ref C) name=some none) (hv:mA name=some v) (hv':PySem.W.handedIn v=true) (h:Q v {s with toks:=s.toks+1}) :
  wpAny (model prog w) A (getAttr (.ref x) name expr) Q E s:=by
 obtain⟨od,J,hl⟩:=I.look;exact PySem.W.get_value X J (PySem.W.plainGet_of hg).1 (PySem.W.findObj_own hh ha rfl (by rw[hl,hv])) hv' h
theorem tS(X:K.In s.heap)(I:ObjM s.heap x dx C mA)(hg:PySem.W.plainGet K C name=true)
  (hf:PySem.W.findIn K (.ref C) name=some (some (.ref f))) (ht:PySem.W.isFn K (.ref f)=true) (hv:mA name=none) (h:Q (.ref f,[.ref x]) s) :
  wpAny (model prog w) A (getMethod (.ref x) name pl) Q E s:=by
 obtain⟨od,J,hl⟩:=I.look;exact PySem.W.method_fn X J (PySem.W.plainGet_of hg).1 (PySem.W.plainGet_of hg).2 hf (Hb.mp ht) (by show (PySem.W.lookIn name od).map (·.isSome)=some false;rw[hl,hv];rfl) h
theorem xr{ns:List Str}(X:K.In s.heap)(I:ObjM s.heap x dx C mA)
  (hs:PySem.W.findIn K (.ref C) "__setattr__"=some (some (.builtin "object.__setattr__"))) (hp:PySem.W.plainOver K C=true) (ht:PySem.W.takerIn K C name=some none) (hh:PySem.W.hasDictIn K C=true)
  (hw:PySem.Within mA ns) (hsz:ns.length<=sizeLine)
  (h:∀h',ObjM h' x dx C (λy=>if y=name then some v else mA y)->Heap.SameBut dx s.heap h'->Q () {s with heap:=h',toks:=s.toks+2}) :
  wpAny (model prog w) A (setAttr (.ref x) name v) Q E s:=by
 obtain⟨od,J,hl⟩:=I.look;refine PySem.W.set_plain X J hs (PySem.W.osa_open (s:={s with toks:=s.toks+1}) (r:=none) X J hp ht λb=>?_)
 obtain⟨cd,hc,hd'⟩:=PySem.W.any_some hh;have hx:s.heap.get? x=some ⟨.ref C,some dx,.plain,#[]⟩:=I.obj;refine xL (GT (xL (xL (wpAny_loadPart hx (xL (PySem.W.Looks.here (s:={s with toks:=s.toks+1}) (PySem.W.looks_clsIn X hc) ?_))))))
 rw[hd'];refine GT (a:=some dx) (xL (GT (xL ?_)));refine wpAny_nsSet1 (s:={s with toks:=s.toks+1}) I.ns λh' hn2 hs2=>?_
 obtain⟨oD,esD,epD,hoD,hdD,hcD⟩:=hn2.count (PySem.Within.cons name v hw);refine xL (wpAny_lookBehind hoD (by rw[hdD];exact pastItsLine_dict (Ha hcD (by rw[Hk];omega))) ?_)
 exact GT (h _ ⟨(hs2.2 _ (He I.ne)).trans I.obj,hn2,I.ne⟩ hs2)
theorem uq(X:K.In s.heap)(hm:PySem.W.makesIn K C=true)
  (hi:PySem.W.findIn K (.ref C) "__init__"=some (some (.ref f))) (hf:PySem.W.typeIn K (.ref f)=some (.type "function"))
  (h:codeAny (model prog w) (A.under (.builtin "type.__call__" ⟨.ref C::vs,kw⟩)) (.call (.ref f) ⟨.ref (s.heap.objs.size+1)::vs,kw⟩) (PySem.W.InitBack (s.heap.objs.size+1) R)
   {s with heap:=(s.heap.push PySem.W.emptyDict).push (PySem.W.instObj C s.heap.objs.size)}) :
  codeAny (model prog w) A (.call (.ref C) ⟨vs,kw⟩) R s:=by
 obtain⟨hh,g,d,t,os⟩:=s;exact PySem.W.make_core (PySem.W.makes_of X hm) (PySem.W.looks_findIn X hi) (λself=>PySem.W.bind_fn X self hf) (.inl rfl) h
end
noncomputable def c4(f:Str)(v:V):List (Str×V)->List (Str×V)
 |[]=>[(f,v)]
 |(g,x)::r=>if g=f then (g,v)::r else (g,x)::c4 f v r
theorem iD(f g:Str)(v:V):∀fs:List (Str×V),(c4 f v fs).lookup g=if g=f then some v else fs.lookup g
 |[]=>by
  show List.lookup g [(f,v)]=_;by_cases h:g=f
  ·have hb:(g == f)=true:=Hb.mpr h;simp only[List.lookup,hb,G3 h]
  ·have hb:(g == f)=false:=Hr.mpr h;simp only[List.lookup,hb,GV h]
 |(k,x)::r=>by
  have ih:=iD f g v r;rw[show c4 f v ((k,x)::r)=(if k=f then (k,v)::r else (k,x)::c4 f v r) from rfl]
  by_cases hk:k=f
  ·rw[G3 hk];by_cases h:g=k
   ·have hb:(g == k)=true:=Hb.mpr h;simp only[List.lookup,hb,G3 (h.trans hk)]
   ·have hb:(g == k)=false:=Hr.mpr h;simp only[List.lookup,hb,GV (λe:g=f=>h (e.trans hk.symm))]
  ·rw[GV hk];by_cases h:g=k
   ·have hb:(g == k)=true:=Hb.mpr h;simp only[List.lookup,hb,GV (λe:g=f=>hk (h.symm.trans e))]
   ·have hb:(g == k)=false:=Hr.mpr h;simp only[List.lookup,hb];exact ih
theorem ig(f:Str)(v:V):∀fs:List (Str×V),f∈(c4 f v fs).map (·.1)/\∀g,g∈fs.map (·.1)->g∈(c4 f v fs).map (·.1)
 |[]=>⟨by simp[c4],λg h=>by simp at h⟩
 |(k,x)::r=>by
  obtain⟨i1,i2⟩:=ig f v r;rw[show c4 f v ((k,x)::r)=(if k=f then (k,v)::r else (k,x)::c4 f v r) from rfl]
  by_cases hk:k=f
  ·rw[G3 hk];subst hk;exact⟨by simp,λg h=>by simpa using h⟩
  ·rw[GV hk];refine⟨?_,λg h=>?_⟩
   ·rw[G6];exact GY _ i1
   ·rw[G6]at h ⊢;rcases G9.mp h with e|e
    ·exact G9.mpr (.inl e)
    ·exact GY _ (i2 g e)
theorem iE(f:Str)(v:V):∀fs:List (Str×V),(c4 f v fs).length<=fs.length+1
 |[]=>by simp[c4]
 |(k,x)::r=>by
  have ih:=iE f v r;rw[show c4 f v ((k,x)::r)=(if k=f then (k,v)::r else (k,x)::c4 f v r) from rfl]
  by_cases hk:k=f
  ·rw[G3 hk,Hk,Hk];omega
  ·rw[GV hk,Hk,Hk];omega
theorem RelO.some_of(r:RelO (some v) o):∃u,o=some u/\RelV v u:=by
 cases o with
 |none=>exact (show False from r).elim
 |some u=>exact⟨u,rfl,r⟩
theorem RelO.none_of(r:RelO none o):o=none:=by
 cases o with
 |none=>rfl
 |some u=>exact (show False from r).elim
theorem rK(r:RelV v u):PySem.W.handedIn u=true:=by
 cases v with
 |non=>cases (show u=Value.none from r);rfl
 |bl b=>cases (show u=Value.bool b from r);rfl
 |int i=>obtain⟨t,e⟩:=(show ∃t,u=Value.int i t from r);cases e;rfl
 |str x=>obtain⟨t,e⟩:=(show ∃t,u=Value.str x t from r);cases e;rfl
 |byt b=>obtain⟨t,e⟩:=(show ∃t,u=Value.bytes b t from r);cases e;rfl
 |flt b=>obtain⟨t,e⟩:=(show ∃t,u=Value.float b t from r);cases e;rfl
 |ref a=>cases (show u=Value.ref a from r);rfl
 |ty n=>cases (show u=Value.type n from r);rfl
section
variable {P:Program}{w:World}{h h':Heap}{a:Addr}{fs:List (Str×V)}
theorem wx(hok:HOk P w H h)(e:H a=some (.ins C dx fs)):∃mA,ObjM h a dx C mA/\(∀f,RelO (fs.lookup f) (mA f))/\PySem.Within mA (fs.map (·.1))/\fs.length<=1000/\H dx=some (.own a):=by
 obtain⟨d,z,ne,ob,mA,n,r,q⟩:=(show ObjOk P w H h a (.ins C dx fs) from hok a _ e);exact⟨mA,⟨ob,n,ne⟩,r,q,z,d⟩
end
structure Cls (K:Ii)(C:Addr):Prop where
 pg:PySem.W.plainGet K C Str.empty=true
 hd:PySem.W.hasDictIn K C=true
 po:PySem.W.plainOver K C=true
 sa:PySem.W.findIn K (.ref C) "__setattr__"=some (some (.builtin "object.__setattr__"))
theorem Cls.get{K:Ii}{C:Addr}(c:Cls K C)(f:Str):PySem.W.plainGet K C f=true:=c.pg
def NoAttr(K:Ii)(C:Addr)(f:Str):Prop:=PySem.W.findIn K (.ref C) f=some none
theorem NoAttr.taker{K:Ii}(n:NoAttr K C f):PySem.W.takerIn K C f=some none:=by
 unfold PySem.W.takerIn;rw[show PySem.W.findIn K (.ref C) f=some none from n];rfl
structure Meth (K:Ii)(C:Addr)(m:Str)(f:Addr):Prop where
 at_:PySem.W.findIn K (.ref C) m=some (some (.ref f))
 fn:PySem.W.isFn K (.ref f)=true
 kp:PySem.W.keepIn K (.ref f)=true
section
variable {X:Cx}{s:Shared}{a:Addr}{fs:List (Str×V)}{A:Around}
theorem o5(I:Inv X pins σ H s)(e:H a=some (.ins C dx fs))(c:Cls X.K C)(n:NoAttr X.K C f)(hl:fs.length<1000)(ry:RelV y u)
  (h:∀s',Inv X pins σ (upd H a (.ins C dx (c4 f y fs))) s'->Q () s'):wpAny (model X.prog X.w) A (setAttr (.ref a) f u) Q E s:=by
 obtain⟨mA,O,r,wi,_,ho⟩:=wx I.hok e;have hz:(fs.map (·.1)).length<=sizeLine:=by rw[G8,sizeLine_eq];omega
 refine xr I.kIn O c.sa c.po n.taker c.hd wi hz λh' O' sb=>h _ ?_
 have hd:∃o,h'.get? dx=some o:=let ⟨o,_,_,e',_⟩:=O'.ns;⟨o,e'⟩
 refine I.write (x:=a) (e:=dx) (by rw[e];exact True.intro) (.inr ho) (λb q hb z=>(sb.2 b hb).trans z) hd ?_
 refine⟨by rw[ac O.ne];exact ho,?_,O.ne,O'.obj,_,O'.ns,λg=>?_,λg hg=>?_⟩
 ·have:=iE f y fs;omega
 ·show RelO ((c4 f y fs).lookup g) (if g=f then some u else mA g)
  rw[iD];by_cases q:g=f
  ·rw[G3 q,G3 q];exact ry
  ·rw[GV q,GV q];exact r g
 ·by_cases q:g=f
  ·rw[q];exact (ig f y fs).1
  ·refine (ig f y fs).2 g (wi g λz=>hg ?_)
   show (if g=f then some u else mA g)=none
   rw[GV q];exact z
theorem Inv.made(I:Inv X pins σ H s):Inv X pins σ (upd (upd H s.heap.objs.size (.own (s.heap.objs.size+1))) (s.heap.objs.size+1) (.ins C s.heap.objs.size []))
  {s with heap:=(s.heap.push PySem.W.emptyDict).push (PySem.W.instObj C s.heap.objs.size)}:=by
 have e1:(s.heap.push PySem.W.emptyDict).get? s.heap.objs.size=some PySem.W.emptyDict:=G4 s.heap rfl;have e2:((s.heap.push PySem.W.emptyDict).push (PySem.W.instObj C s.heap.objs.size)).get? (s.heap.objs.size+1)=some (PySem.W.instObj C s.heap.objs.size):=by
  have:=G4 (s.heap.push PySem.W.emptyDict) (o:=PySem.W.instObj C s.heap.objs.size) rfl
  rwa [Heap.size_push]at this
 have e3:(s.heap.push PySem.W.emptyDict).Ns s.heap.objs.size (λ_=>none):=⟨PySem.W.emptyDict,#[],_,e1,rfl,(λe he=>absurd he (by simp)),λ_=>rfl⟩
 have I1:=I.laid (a:=s.heap.objs.size) (o:=.own (s.heap.objs.size+1)) (h':=s.heap.push PySem.W.emptyDict) (t':=s.toks) (λb u q=>GX _ q) (GZ _) ⟨_,e1⟩
 refine I1.laid (a:=s.heap.objs.size+1) (o:=.ins C s.heap.objs.size []) (t':=s.toks) (λb u q=>GX _ q) (Nat.le_of_eq (Heap.size_push _ _)) ?_
 have ne:s.heap.objs.size≠s.heap.objs.size+1:=Hl (Nat.lt_succ_self _);refine⟨by rw[ac ne,ae],Nat.zero_le _,ne,e2,λ_=>none,(Heap.Ns1.of_empty e3).at λo q=>GX _ q,λ_=>True.intro,λy hy=>absurd rfl hy⟩
theorem wI(hb:attributeBase e f env (eval e env)=eval e env)
  (h:wpAny (model prog w) A (eval e env) (λo s₁=>wpAny (model prog w) A (getAttr o f true) Q E s₁) E s):wpAny (model prog w) A (eval (.Attribute e f pos) env) Q E s:=
 Attribute_any_ h (by rw[arm_eval_Attribute,hb])
end
noncomputable def DS(K:Ii)(ta tv:TE)(f:Str):TS:=λD σ H=>tv σ H λy H1=>ta σ H1 λx H2=>∃a C dx fs,x=.ref a/\H2 a=some (.ins C dx fs)/\Cls K C/\NoAttr K C f/\fs.length<1000/\
 D.nx σ (upd H2 a (.ins C dx (c4 f y fs)))
section
variable {X:Cx}{o:Expr}{pos:Pos}
theorem yo(ha:PE X o ta)(hv:PE X value tv)(hs:swapsWith value (some (.Attribute o f pos')) pos.line X.env=pure false):PS X (.Assign [.Attribute o f pos'] value pos) (DS X.K ta tv f):=by
 intro pins s σ H D I h;refine plainObj_wpAny_Assign_Attribute (thn (hv pins s σ H _ I h) λu s1 ⟨y,H1,I1,ry,q⟩=>thn (ha pins s1 σ H1 _ I1 q) λov s2 ⟨x,H2,I2,rx,a,C,dx,fs,ex,ea,c,n,l,q2⟩=>?_) hs
 subst ex;obtain rfl:ov=Value.ref a:=rx;exact o5 I2 ea c n l ry λs3 I3=>⟨σ,_,I3,q2⟩
end
section
variable {X:Cx}{s:Shared}{A:Around}{c:Value}{b:Bool}
end
structure Room (k:Nat)(A:Around):Prop where
 hd:A.handled=none
 dp:A.depth+3*k+5<recursionLimit
 un:A.units+16*k+200<cLine
theorem Room.mono(r:Room k A)(h:j<=k):Room j A:=⟨r.hd,by have:=r.dp;omega,by have:=r.un;omega⟩
theorem Room.deeper{A:Around}(r:Room (k+1) A)(env:Env):Room k (A.deeper env):=
 ⟨r.hd,by have:=r.dp;show A.depth+1+3*k+5<_;omega,by have:=r.un;show A.units+3+16*k+200<_;omega⟩
theorem pM{A:Around}:(A.under (.builtin "type.__call__" ⟨.ref C::us,kw⟩)).depth=A.depth+1:=by
 first|rfl|simp[Around.under,Code.weight,Code.isCreation,Code.isGuard,Code.isCaller,Code.frames,Code.isFrame,guardIds]
theorem pK{A:Around}:(A.under (.builtin "type.__call__" ⟨.ref C::us,kw⟩)).units=A.units+1:=by
 first|rfl|simp[Around.under,Code.cUnits,Code.frames,Code.isFrame]
theorem Room.make{A:Around}(r:Room (k+1) A)(C:Addr)(us:List Value)(kw:List (Str×Value)):Room k (A.under (.builtin "type.__call__" ⟨.ref C::us,kw⟩)):=
 ⟨r.hd,by have:=r.dp;rw[pM];omega,by have:=r.un;rw[pK];omega⟩
theorem Room.depth{A:Around}(r:Room k A):A.depth<recursionLimit:=by have:=r.dp;omega
theorem Room.units{A:Around}(r:Room k A):A.units+64<cLine:=by have:=r.un;omega
noncomputable def tNil:TA:=λ_ H Q=>Q [] H
noncomputable def Bs(ta:TE)(tr:TA):TA:=λσ H Q=>ta σ H λx H1=>tr σ H1 λxs H2=>Q (x::xs) H2
section
variable {X:Cx}{pos:Pos}
theorem pa_nil:PA X [] tNil:=λ_ _ _ _ H Q I h=>Calls.spliced_nil ⟨[],H,I,.nil,h⟩
theorem aM(ha:PE X e te)(hr:PA X es t)(hs:starEach (e::es) X.env=(false,eval e X.env)::starEach es X.env:=by rfl):PA X (e::es) (Bs te t):=by
 intro pos pins s σ H Q I h;rw[hs];show wpAny _ _ (spliced ((false,eval e X.env)::backTo pos (starEach es X.env))) _ _ s;refine Calls.spliced_cons (thn (ha pins s σ H _ I h) λu s1 ⟨x,H1,I1,r1,q1⟩=>?_)
 exact thn (hr pos pins s1 σ H1 _ I1 q1) λus s2 ⟨xs,H2,I2,r2,q2⟩=>⟨x::xs,H2,I2,.cons r1 r2,q2⟩
noncomputable def Fa(t:TA):TE:=λσ H Q=>t σ H λxs H1=>xs.length<=sizeLine/\∀p,H1 p=none->Q (.ref p) (upd H1 p (.tup xs))
noncomputable def E1(t:TA):TE:=λσ H Q=>t σ H λxs H1=>xs.length<=sizeLine/\∀p,H1 p=none->Q (.ref p) (upd H1 p (.lst xs))
theorem zM{x1}(h:PA X es t):PE X (.Tuple es x1 pos) (Fa t):=by
 intro pins s σ H Q I hq;refine wpAny_Tuple_spliced (thn (h pos pins s σ H _ I hq) λus s1 ⟨xs,H1,I1,r,z,q⟩=>⟨by rw[<-r.length];exact z,?_⟩)
 have hf:H1 s1.heap.objs.size=none:=I1.hok.fresh (GZ _);refine⟨.ref s1.heap.objs.size,upd H1 s1.heap.objs.size (.tup xs),I1.laid (t':=s1.toks) (λb u e=>GX _ e) (GZ _) ?_,rfl,q _ hf⟩
 exact⟨z,us,r,⟨_,G4 _ rfl,rfl,_,rfl⟩⟩
theorem ym(h:PA X es t):PE X (.List es pos) (E1 t):=by
 intro pins s σ H Q I hq;refine wpAny_List_spliced (thn (h pos pins s σ H _ I hq) λus s1 ⟨xs,H1,I1,r,z,q⟩=>⟨by rw[<-r.length];exact z,?_⟩)
 have hf:H1 s1.heap.objs.size=none:=I1.hok.fresh (GZ _);refine⟨.ref s1.heap.objs.size,upd H1 s1.heap.objs.size (.lst xs),I1.laid (t':=s1.toks) (λb u e=>GX _ e) (GZ _) ?_,rfl,q _ hf⟩
 exact⟨z,us,0,r,G4 _ rfl⟩
end
noncomputable abbrev Sp:=List V->Hp->VK->XK->Prop
noncomputable abbrev CXT:=List Env->Hp->Shared->XK->Value->Shared->Prop
structure Env0 (P:Program)(w:World)(K:Ii)(mg:Str->Option Value)(base:Heap)(A:Around)(outer:List Env)(s:Shared)(H:Hp):Prop where
 frames:A.frames=some outer
 mod:Mod K mg base
 bs:∀b o,base.get? b=some o->s.heap.get? b=some o/\H b=none
 bsz:base.objs.size<=s.heap.objs.size
 funs:s.heap.FunFrames base outer
 frf:∀b∈frs outer,H b=none
 hok:HOk P w H s.heap
 bare:AllBare s.gens
 tk:0<s.toks
def CE(outer:List Env)(P:Program)(w:World)(H:Hp)(s:Shared)(Q:VK)(u:Value)(s':Shared):Prop:=
 ∃v H',(s'.os=s.os/\0<s'.toks)/\AllBare s'.gens/\Un (frs outer) [] H H' s.heap s'.heap/\HOk P w H' s'.heap/\RelV v u/\Q v H'
def CR(CX:CXT)(outer:List Env)(P:Program)(w:World)(H:Hp)(s:Shared)(Q:VK)(E:XK)(r:Result)(s':Shared):Prop:=
 match r with
 |.ok (.ret u)=>CE outer P w H s Q u s'
 |.ok _=>False
 |.error e=>CX outer H s E e s'
structure FnOk (P:Program)(w:World)(K:Ii)(mg:Str->Option Value)(base:Heap)(CX:CXT)(k:Nat)(f:Addr)(fd:FuncData)(ps:List Str)(sp:Sp):Prop where
 len:∀vs H Q E,sp vs H Q E->vs.length=ps.length
 run:∀(A:Around)(outer:List Env)(s:Shared)(H:Hp)(args:Args)(us:List Value)(vs:List V)(Q:VK)(E:XK),Room k A->Env0 P w K mg base A outer s H->BindsTo s fd args (ps.zip us)->Vals vs us->sp vs H Q E->
  codeAny (model P w) A (.call (.ref f) args) (CR CX outer P w H s Q E) s
theorem Env0.make{K:Ii}{A:Around}(e:Env0 P w K mg base A outer s H)(C:Addr)(us:List Value)(kw:List (Str×Value)) :
  Env0 P w K mg base (A.under (.builtin "type.__call__" ⟨.ref C::us,kw⟩)) outer s H:=⟨by first|exact e.frames|(simpa [Around.under,Code.envs,Code.isFrame,pushEnvs] using e.frames),e.mod,e.bs,e.bsz,e.funs,e.frf,e.hok,e.bare,e.tk⟩
section
variable {X:Cx}{s:Shared}
theorem Inv.env0(I:Inv X pins σ H s):Env0 X.prog X.w X.K X.mg X.base X.A X.stack s H:=
 ⟨I.ok.frames,I.ok.mod,I.bs,Ha I.ok.bsz I.sz,I.stack,I.stkFree,I.hok,I.bare,I.tk⟩
theorem Inv.after(I:Inv X pins σ H s)(h:CE X.stack X.prog X.w H s Q u s'):EP X pins σ Q u s':=by
 obtain⟨v,H',os,bare,un,hok,r,q⟩:=h;obtain⟨hh,g,d,t,os'⟩:=s';obtain⟨os,ht⟩:=os;obtain rfl:os'=s.os:=os;exact⟨v,H',I.call (h':=hh) (g':=g) (d':=d) (t':=t) (ch:=[]) un hok bare (λb z=>absurd z (by simp)),r,q⟩
end
def Binds(K:Ii)(fd:FuncData)(ps:List Str)(ds:List Value):Prop:=
 ∀(s:Shared)(us:List Value),K.In s.heap->(us++ds).length=ps.length->BindsTo s fd ⟨us,[]⟩ (ps.zip (us++ds))
theorem Binds.all{K:Ii}{ps:List Str}(h:∀us:List Value,us.length=ps.length->bindArgs fd ⟨us,[]⟩=pure (ps.zip us)):Binds K fd ps []:=λs us _ hl=>by
 rw[HM]at hl ⊢;exact .of_eq (h us hl)
def AG(CX:CXT)(X:Cx)(E:XK):Prop:=∀(pins:List (Addr×Obj)) (σ:St)(H:Hp)(s:Shared)(e:Value)(s':Shared),Inv X pins σ H s->CX X.stack H s E e s'->X.xe e s'
section
variable {X:Cx}{k:Nat}{ps:List Str}{x:Str}{p pos apos:Pos}{o:Expr}
structure Mk (K:Ii)(C f:Addr):Prop where
 makes:PySem.W.makesIn K C=true
 init:PySem.W.findIn K (.ref C) "__init__"=some (some (.ref f))
 fn:PySem.W.isFn K (.ref f)=true
 kp:PySem.W.keepIn K (.ref C)=true
end
section
variable {X:Cx}{k:Nat}{ps ks:List Str}{x:Str}{p pos apos:Pos}{o:Expr}
end
structure FnScope (N P:List Str)(sc:Scope):Prop where
 kind:sc.kind=.function
 co:sc.isCoroutine=false
 gen:sc.isGenerator=false
 nd:N.Nodup
 pre:N.take P.length=P
 par:∀x∈P,sc.names.lookup x=some .local\/sc.names.lookup x=some .cell
 nofree:∀y∈sc.names,y.2≠.free
theorem kG{kindOf:Str->Option NameKind}{x:Str}:∀{binds:List (Str×Value)}{m:Str->Option Value},(∀v,(x,v)∉binds)->bindL kindOf binds m x=m x
 |[],_,_=>rfl
 |(n,v)::r,m,h=>by
  unfold bindL;rw[kG λw hw=>h w (GY _ hw)]
  split
  ·have:x≠n:=by rintro rfl;exact h v G5
   simp[this]
  ·rfl
theorem kL{kindOf:Str->Option NameKind}{x:Str}:∀{binds:List (Str×Value)}{m:Str->Option Value},(∀v,(x,v)∉binds)->bindC kindOf binds m x=m x
 |[],_,_=>rfl
 |(n,v)::r,m,h=>by
  unfold bindC;rw[kL λw hw=>h w (GY _ hw)]
  split
  ·rfl
  ·have:x≠n:=by rintro rfl;exact h v G5
   simp[this]
theorem kS{kindOf:Str->Option NameKind}{x:Str}{v:Value}:∀{P:List Str}{vs:List Value}{i:Nat}{m:Str->Option Value},P.Nodup->P[i]?=some x->vs[i]?=some v->kindOf x=some .local->
  bindL kindOf (P.zip vs) m x=some v
 |[],_,_,_,_,h,_,_=>by simp at h
 |_::_,[],_,_,_,_,h,_=>by simp at h
 |p::P,w::vs,0,m,nd,h1,h2,hk=>by
  simp at h1 h2;subst h1;subst h2;show bindL kindOf ((p,w)::P.zip vs) m p=_;unfold bindL;rw[kG λv hv=>(HK.mp nd).1 (List.of_mem_zip hv).1,G3 hk]
  simp
 |p::P,w::vs,i+1,m,nd,h1,h2,hk=>by
  show bindL kindOf ((p,w)::P.zip vs) m x=_;unfold bindL;exact kS (i:=i) (HK.mp nd).2 (by simpa using h1) (by simpa using h2) hk
theorem kQ{kindOf:Str->Option NameKind}{x:Str}{v:Value}:∀{P:List Str}{vs:List Value}{i:Nat}{m:Str->Option Value},P.Nodup->P[i]?=some x->vs[i]?=some v->kindOf x≠some .local->
  bindC kindOf (P.zip vs) m x=some v
 |[],_,_,_,_,h,_,_=>by simp at h
 |_::_,[],_,_,_,_,h,_=>by simp at h
 |p::P,w::vs,0,m,nd,h1,h2,hk=>by
  simp at h1 h2;subst h1;subst h2;show bindC kindOf ((p,w)::P.zip vs) m p=_;unfold bindC;rw[kL λv hv=>(HK.mp nd).1 (List.of_mem_zip hv).1,GV hk]
  simp
 |p::P,w::vs,i+1,m,nd,h1,h2,hk=>by
  show bindC kindOf ((p,w)::P.zip vs) m x=_;unfold bindC;exact kQ (i:=i) (HK.mp nd).2 (by simpa using h1) (by simpa using h2) hk
noncomputable def ei(N:List Str)(vs:List V):St:=vs.map some++List.replicate (N.length-vs.length) none
noncomputable def bM(CX:CXT)(P:Program)(w:World)(K:Ii)(mg:Str->Option Value)(base:Heap)(N:List Str)(qual:Str)(scope:Scope)(f:Addr)(cd:Value)(A:Around)(outer:List Env)(s:Shared)(H:Hp)(E:XK):Cx where
 prog:=P
 w:=w
 K:=K
 mg:=mg
 base:=base
 A:=A.deeper (envOfC qual scope s.heap.objs.size f cd)
 N:=N
 s₀:=s
 H₀:=H
 env:=envOfC qual scope s.heap.objs.size f cd
 outer:=outer
 stack:=envOfC qual scope s.heap.objs.size f cd::outer
 ex:=[]
 calm:=true
 fn:=λ_=>true
 pn:=[]
 xe:=λe s'=>wpAny (model P w) (A.deeper (envOfC qual scope s.heap.objs.size f cd)) (leaving (envOfC qual scope s.heap.objs.size f cd) e) (λ_ s''=>CX outer H s E e s'') (λe' s''=>CX outer H s E e' s'') s'
theorem nS{sc:Scope}(h:sc.names.lookup x=some .cell):∃c,(cellsFrom n sc.names []).lookup x=some c:=by
 have q:=PySem.W.cellsFrom_some sc.names n [] (.inl h);exact Id.mp q
theorem sD{K:Ii}{ps:List Str}{scope:Scope}{A:Around}{s:Shared}{vs:List V}
  (S:FnScope N ps scope) (hd:A.handled=none) (e0:Env0 P w K mg base A outer s H) (hl:vs.length=ps.length) (r:Vals vs us)
  (x:InCallC s s.heap.objs.size (bindL (envOfC qual scope s.heap.objs.size f cd).kindOf (ps.zip us) λ_=>none) (cellsFrom (s.heap.objs.size+1) scope.names []) (bindC (envOfC qual scope s.heap.objs.size f cd).kindOf (ps.zip us) λ_=>none) s1) :
  0<s1.toks->Inv (bM CX P w K mg base N qual scope f cd A outer s H E) [] (ei N vs) H s1:=by
 intro htk;have hpl:ps.length<=N.length:=by have:=congrArg List.length S.pre;rw[List.length_take]at this;omega
 obtain⟨h1,tk,rfl,hk⟩:=x.done;have noA:∀b:Addr,b∉(bM CX P w K mg base N qual scope f cd A outer s H E).ex:=λb z=>absurd (show b∈([]:List Addr) from z) (by simp)
 refine⟨⟨e0.mod,S.kind,rfl,rfl,GZ _,λy z c h1 h2=>?_,λy hy=>?_,λy c _ h=>?_,λ_=>hd,Around.frames_deeper e0.frames,.inr ⟨rfl,rfl⟩,λb z=>absurd z (noA b),e0.bs,e0.bsz,λb _ _=>noA b,λb z=>absurd z (noA b),e0.funs,e0.frf⟩,
  ⟨rfl,htk⟩,e0.bare,Un.kept hk,⟨_,x.toInCall.ns,λi y v h1 h2 h3=>?_⟩,λy c h=>⟨_,x.cell y c h⟩,e0.hok.fresh (GZ _),λy c h=>?_,λp hp=>absurd (show p∈([]:List (Addr×Obj)) from hp) (by simp),e0.hok.kept hk,?_⟩
 ·exact name_of_addr x.apart (PySem.mem_of_lookup h1) (PySem.mem_of_lookup h2)
 ·have hy:scope.names.lookup y=some .cell\/scope.names.lookup y=some .free:=hy;rcases hy with hy|hy
  ·exact nS hy
  ·exact absurd rfl (S.nofree _ (PySem.mem_of_lookup hy))
 ·exact Nat.le_of_lt (x.above y c (PySem.mem_of_lookup h))
 ·have hi:i<vs.length:=by
   unfold ei at h2;by_cases hi:i<vs.length
   ·exact hi
   ·rw[List.getElem?_append_right (by simpa using hi)]at h2
    rw[List.getElem?_replicate]at h2;split at h2<;>cases h2
  have ha:vs[i]?=some v:=by
   unfold ei at h2;rw[List.getElem?_append_left (by simpa using hi),Hi]at h2
   cases e:vs[i]? with
   |none=>rw[e]at h2;cases h2
   |some a=>rw[e]at h2;cases h2;rfl
  obtain⟨u,hu,rv⟩:=r.get ha;have hp:ps[i]?=some y:=by
   rw[<-S.pre,List.getElem?_take_of_lt (by omega)];exact h1
  have ndP:ps.Nodup:=by rw[<-S.pre];exact S.nd.sublist (List.take_sublist _ _)
  refine⟨u,rv,?_⟩;rcases S.par y (HW hp) with k|k
  ·exact .inl ⟨k,kS ndP hp hu k⟩
  ·obtain⟨c,e⟩:=nS (n:=s.heap.objs.size+1) k;refine .inr ⟨.inl k,c,e,?_⟩;have q:=x.cell y c e;rw[kQ ndP hp hu (by show scope.names.lookup y≠_;rw[k];decide)]at q
   exact q
 ·exact e0.hok.fresh (Nat.le_of_lt (x.above y c (PySem.mem_of_lookup h)))
 ·unfold ei;show _=N.length;rw[Hu,G8,List.length_replicate];omega
theorem t6{CX:CXT}{P:Program}{w:World}{K:Ii}{mg:Str->Option Value}{base:Heap}{k:Nat}{f:Addr}{name qual:Str}{params:Arguments}{body:List Stmt}{scope:Scope}{dV kV doc pm cdv ct oc:Value}{an od:Option Addr}
  {osl:Array (Option Value)}{N ps:List Str}{sp:Sp} (lk:K.lookup f=some ⟨oc,od,.func (PySem.W.fnOf name qual params body scope dV kV doc pm an cdv ct),osl⟩) (hcd:PySem.W.codeIn K cdv qual=true) (S:FnScope N ps scope)
  (len:∀vs H Q E,sp vs H Q E->vs.length=ps.length)
  (hbody:∀(A:Around)(outer:List Env)(s:Shared)(H:Hp)(vs:List V)(Q:VK)(E:XK),Room k (A.deeper (envOfC qual scope s.heap.objs.size f cdv))->sp vs H Q E->
   ∃t,PSs (bM CX P w K mg base N qual scope f cdv A outer s H E) body t/\t {nx:=λ_ H'=>Q .non H',rt:=Q} (ei N vs) H) :
  FnOk P w K mg base CX (k+1) f (PySem.W.fnOf name qual params body scope dV kV doc pm an cdv ct) ps sp:=by
 refine⟨len,λA outer s H args us vs Q E hr e0 hb r hsp=>?_⟩
 have hl:=len _ _ _ _ hsp;have KX:K.In s.heap:=e0.mod.kin.keeps λb o e=>(e0.bs b o e).1
 have lim:s.heap.NoLimit:=e0.mod.nolimit.keeps λb o e=>(e0.bs b o e).1
 have hkind:∀y∈ps.zip us,scope.names.lookup y.1=some .local\/(scope.names.lookup y.1=some .cell/\((cellsFrom (s.heap.objs.size+1) scope.names []).lookup y.1).isSome=true):=λ⟨n,v⟩ hy=>by
  rcases S.par n (List.of_mem_zip hy).1 with q|q
  ·exact .inl q
  ·exact .inr ⟨q,PySem.W.cellsFrom_some _ _ _ (.inl q)⟩
 refine codeAny_call_function hr.depth (KX _ _ lk) rfl S.co S.gen rfl (PySem.W.codeRec_of KX hcd) (hb _ _ _ _ ?_);refine eN e0.tk (wpAny_newFunctionEnv_cells S.kind hkind λenv he s1 x htk=>?_)
 subst he;refine⟨lim.keeps x.toInCall.keep,codeAny_func ?_⟩;obtain⟨t,ht,hq⟩:=hbody A outer s H vs Q E (hr.deeper _) hsp;have I:Inv (bM CX P w K mg base N qual scope f cdv A outer s H E) [] (ei N vs) H s1:=sD S hr.hd e0 hl r x htk;refine HP (ht [] s1 (ei N vs) H _ I hq) (λfl s' hs=>?_) λe s' hs=>hs
 have fin:∀{σ':St}{H':Hp}{v:V}{u:Value},Inv (bM CX P w K mg base N qual scope f cdv A outer s H E) [] σ' H' s'->RelV v u->Q v H'->CE outer P w H s Q u s':=
  λ{σ' H' v u} J rv q=>⟨v,H',J.os,J.bare,J.base,J.hok,rv,q⟩
 cases fl with
 |ret u=>
  obtain⟨v,σ',H',J,rv,q⟩:=hs;exact fin J rv q
 |next=>
  obtain⟨σ',H',J,q⟩:=hs;exact fin (v:=V.non) (u:=Value.none) J rfl q
 |brk=>
  obtain⟨_,_,_,q⟩:=hs;exact False.elim q
 |cont=>
  obtain⟨_,_,_,q⟩:=hs;exact False.elim q
section
variable {X:Cx}{x:Str}{p pos:Pos}{id:String}
noncomputable def tCB(r:List V->Hp->VK->Prop)(t:TA):TE:=λσ H Q=>t σ H λvs H1=>r vs H1 Q
theorem d8(hc:CallR X (.builtin id) r)(hg:Gl X x)(hm:X.mg x=none)(hv:bootBuiltins x=some (.builtin id))(ha:PA X (e::es) t)(hn:x≠"__name__":=by decide)(hdb:(x == ("__debug__" : Str))=false:=by decide)
  (he:starEach (e::es) X.env=(false,eval e X.env)::starEach es X.env:=by rfl) (hpl:(backTo pos (starEach es X.env)).any (·.1)=false:=by rfl):PE X (.Call (.Name x p) (e::es) [] pos) (tCB r t):=by
 intro pins s σ H Q I h;refine wpAny_Call_Name_kw (gW I hg hm hv ?_ hn hdb);exact PyProof.Rows.callWith_builtin1 (thn (ha pos pins s σ H _ I h) λus s1 ⟨vs,H1,I1,r1,q1⟩=>hc pins s1 σ H1 vs us Q I1 r1 q1) he hpl
theorem kH(hc:CallR X (.type T) r)(hg:Gl X x)(hm:X.mg x=none)(hv:bootBuiltins x=some (.type T))(ha:PA X (e::es) t)(hn:x≠"__name__":=by decide)(hdb:(x == ("__debug__" : Str))=false:=by decide)
  (he:starEach (e::es) X.env=(false,eval e X.env)::starEach es X.env:=by rfl) (hpl:(backTo pos (starEach es X.env)).any (·.1)=false:=by rfl):PE X (.Call (.Name x p) (e::es) [] pos) (tCB r t):=by
 intro pins s σ H Q I h;refine wpAny_Call_Name_kw (gW I hg hm hv ?_ hn hdb);exact PyProof.Rows.callWith_type1 (thn (ha pos pins s σ H _ I h) λus s1 ⟨vs,H1,I1,r1,q1⟩=>hc pins s1 σ H1 vs us Q I1 r1 q1) he hpl
end
section
variable [DecidableEq κ]
noncomputable def cK(kvs:List (κ×V))(k:κ):Option V:=(kvs.find? λkv=>decide (kv.1=k)).map (·.2)
noncomputable def c5(kvs:List (κ×V))(k:κ)(v:V):List (κ×V):=
 if (kvs.any λkv=>decide (kv.1=k))=true then kvs.map (λkv=>if kv.1=k then (kv.1,v) else kv) else kvs++[(k,v)]
theorem eP{p:κ×V}(e:p.1=k):cK (p::r) k=some p.2:=by simp[cK,HL,e]
theorem dh{p:κ×V}(e:¬ p.1=k):cK (p::r) k=cK r k:=by simp[cK,HL,e]
theorem nU(k:κ):∀kvs:List (κ×V),(kvs.any λkv=>decide (kv.1=k))=(cK kvs k).isSome
 |[]=>rfl
 |p::r=>by
  rw[List.any_cons];by_cases e:p.1=k
  ·simp only[eP e,decide_eq_true e,Bool.true_or,Option.isSome_some]
  ·rw[dh e,Hw e,Bool.false_or];exact nU k r
theorem dW(kvs:List (κ×V))(k:κ)(v:V):(c5 kvs k v).length<=kvs.length+1:=by
 unfold c5;split
 ·rw[G8];omega
 ·rw[Hu,Hk,List.length_nil];omega
theorem RelO.isSome_eq{o:Option V}{u:Option Value}(r:RelO o u):o.isSome=u.isSome:=by
 cases o with
 |none=>cases u with
  |none=>rfl
  |some _=>exact (show False from r).elim
 |some _=>cases u with
  |none=>exact (show False from r).elim
  |some _=>rfl
theorem RelO.getD{o:Option V}{u:Option Value}(r:RelO o u)(rd:RelV d d'):RelV (o.getD d) (u.getD d'):=by
 cases o with
 |none=>cases u with
  |none=>exact rd
  |some _=>exact (show False from r).elim
 |some _=>cases u with
  |none=>exact (show False from r).elim
  |some _=>exact r
theorem KV.val(r:KV kvs vs)(k:κ):RelO (cK kvs k) (valueAt vs k):=by
 unfold KV at r
 induction r with
 |nil=>exact True.intro
 |@cons p q ps qs h t ih=>
  obtain⟨h1,h2⟩:=h;by_cases e:p.1=k
  ·have e':q.1=k:=h1.symm.trans e;have b:valueAt (q::qs) k=some q.2:=by simp[valueAt,HL,e']
   rw[eP e,b];exact h2
  ·have e':¬ q.1=k:=λz=>e (h1.trans z)
   have b:valueAt (q::qs) k=valueAt qs k:=by simp[valueAt,HL,e']
   rw[dh e,b];exact ih
theorem KV.any{kvs:List (κ×V)}{vs:List (κ×Value)}(r:KV kvs vs)(k:κ):(kvs.any λkv=>decide (kv.1=k))=vs.any λkv=>decide (kv.1=k):=by
 unfold KV at r
 induction r with
 |nil=>rfl
 |cons h t ih=>rw[List.any_cons,List.any_cons,ih,h.1]
theorem KV.repl{kvs:List (κ×V)}{vs:List (κ×Value)}(r:KV kvs vs)(k:κ)(ry:RelV y u) :
  KV (kvs.map λkv=>if kv.1=k then (kv.1,y) else kv) (vs.map λkv=>if kv.1=k then (kv.1,u) else kv):=by
 unfold KV at r ⊢
 induction r with
 |nil=>exact .nil
 |@cons p q ps qs h t ih=>
  rw[G6,G6];refine .cons ?_ ih;obtain⟨h1,h2⟩:=h;by_cases e:p.1=k
  ·rw[G3 e,G3 (h1.symm.trans e)];exact⟨h1,ry⟩
  ·rw[GV e,GV (λz=>e (h1.trans z))];exact⟨h1,h2⟩
theorem KV.put(r:KV kvs vs)(k:κ)(ry:RelV y u):KV (c5 kvs k y) (stored vs k u):=by
 unfold c5 stored;rw[r.any k];by_cases e:(vs.any λkv=>decide (kv.1=k))=true
 ·rw[G3 e,G3 e];exact r.repl k ry
 ·rw[GV e,GV e];exact Paired.snoc r ⟨rfl,ry⟩
theorem KV.keys{kvs:List (κ×V)}{vs:List (κ×Value)}(r:KV kvs vs):kvs.map (·.1)=vs.map (·.1):=by
 unfold KV at r
 induction r with
 |nil=>rfl
 |cons h t ih=>rw[G6,G6,ih,h.1]
theorem KV.length{kvs:List (κ×V)}{vs:List (κ×Value)}(r:KV kvs vs):kvs.length=vs.length:=Paired.length r
end
theorem iw(r:RelV (kV k) u):(av P w).is k u=true:=by
 cases k with
 |inl i=>obtain⟨t,e⟩:=(show ∃t,u=Value.int i t from r);subst e;exact mI P w i t
 |inr x=>obtain⟨t,e⟩:=(show ∃t,u=Value.str x t from r);subst e;exact eL P w x t
theorem kK:∀{ks:List Key}{us:List Value},Vals (ks.map kV) us->ItemsAre (av P w) ks us
 |[],_,r=>by rw[List.map_nil]at r;cases r;exact .nil
 |k::ks,_,r=>by
  rw[G6]at r;cases r with
  |cons h t=>exact .cons (iw h) (kK t)
abbrev KT(H:Hp):List (List Key×V)->List (List Key×Addr×Value)->Prop:=Paired λp q=>p.1=q.1/\H q.2.1=some (.tup (p.1.map kV))/\RelV p.2 q.2.2
theorem KT.val(r:KT H kvs xs)(k:List Key):RelO (cK kvs k) ((atKey xs k).map (·.2)):=by
 induction r with
 |nil=>exact True.intro
 |@cons p q ps qs h t ih=>
  obtain⟨h1,_,h2⟩:=h;by_cases e:p.1=k
  ·have e':q.1=k:=h1.symm.trans e;have b:atKey (q::qs) k=some q.2:=by simp[atKey,HL,e']
   rw[eP e,b];exact h2
  ·have e':¬ q.1=k:=λz=>e (h1.trans z)
   have b:atKey (q::qs) k=atKey qs k:=by simp[atKey,HL,e']
   rw[dh e,b];exact ih
theorem KT.repl{kvs:List (List Key×V)}{xs:List (List Key×Addr×Value)}(r:KT H kvs xs)(k:List Key)(ry:RelV y u) :
  KT H (kvs.map λkv=>if kv.1=k then (kv.1,y) else kv) (xs.map (putAt k u)):=by
 induction r with
 |nil=>exact .nil
 |@cons p q ps qs h t ih=>
  rw[G6,G6];refine .cons ?_ ih;obtain⟨h1,h2,h3⟩:=h;unfold putAt;by_cases e:p.1=k
  ·rw[G3 e,G3 (h1.symm.trans e)];exact⟨h1,h2,ry⟩
  ·rw[GV e,GV (λz=>e (h1.trans z))];exact⟨h1,h2,h3⟩
theorem KT.put(r:KT H kvs xs)(k:List Key)(hb:H b=some (.tup (k.map kV)))(ry:RelV y u) :
  KT H (c5 kvs k y) (storedH xs k b u):=by
 have e:(kvs.any λkv=>decide (kv.1=k))=(atKey xs k).isSome:=by
  rw[nU,(r.val k).isSome_eq,Option.isSome_map]
 unfold c5 storedH;rw[e];by_cases q:(atKey xs k).isSome=true
 ·rw[G3 q,G3 q];exact r.repl k ry
 ·rw[GV q,GV q];exact Paired.snoc r ⟨rfl,hb,ry⟩
theorem KT.keeps(r:KT H kvs xs)(ht:∀b ys,H b=some (.tup ys)->H' b=some (.tup ys)):KT H' kvs xs:=
 Paired.mapP r λ_ _ z=>⟨z.1,ht _ _ z.2.1,z.2.2⟩
section
variable {w:World}{h:Heap}{a:Addr}
theorem xV(ok:HOk P w H h)(e:Rd H a u):ObjOk P w H h a u:=e.ok ok
theorem ir{kvs:List (Key×V)}(ok:HOk P w H h)(e:Rd H a (.dK kvs)):kvs.length<=sizeLine/\(a == sysModules)=false/\∃vs,KV kvs vs/\h.DictOf (av P w) a vs:=
 show ObjOk P w H h a (.dK kvs) from xV ok e
theorem tq{kvs:List (Key×V)}(ok:HOk P w H h)(e:H a=some (.dK kvs)):kvs.length<=sizeLine/\(a == sysModules)=false/\∃vs,KV kvs vs/\h.DictOf (av P w) a vs:=ir ok (.inl e)
theorem fv{ks:List Key}(ok:HOk P w H h)(e:H a=some (.tup (ks.map kV))):(tupleKind (av P w)).is h ks a:=by
 obtain⟨_,its,r,o,h1,h2,n,h3⟩:=(show ObjOk P w H h a (.tup (ks.map kV)) from ok a _ e);exact⟨o,its.toArray,n,h1,h2,h3,by simpa using kK r⟩
theorem lj{kvs:List (List Key×V)}(ok:HOk P w H h)(e:Rd H a (.dT kvs)):kvs.length<=sizeLine/\(a == sysModules)=false/\
  ∃xs,KT H kvs xs/\h.DictOfH (tupleKind (av P w)) a xs:=by
 obtain⟨z,y,xs,r,o,es,ep,h1,h2,h3,h4,h5⟩:=(show ObjOk P w H h a (.dT kvs) from xV ok e);refine⟨z,y,xs,r,o,es,ep,h1,h2,h3,h4,λx hx=>?_,h5⟩
 have all:∀{l:List (List Key×V)}{m:List (List Key×Addr×Value)},KT H l m->∀x∈m,(tupleKind (av P w)).is h x.1 x.2.1:=by
  intro l m q
  induction q with
  |nil=>intro x hx;exact nomatch hx
  |@cons p q ps qs hq t ih=>
   intro x hx;rcases G9.mp hx with e|hx
   ·subst e;exact fv ok (by rw[<-hq.1];exact hq.2.1)
   ·exact ih x hx
 exact all r x hx
theorem B2{kvs:List (List Key×V)}(ok:HOk P w H h)(e:H a=some (.dT kvs)):kvs.length<=sizeLine/\(a == sysModules)=false/\
  ∃xs,KT H kvs xs/\h.DictOfH (tupleKind (av P w)) a xs:=lj ok (.inl e)
end
def DGet(H:Hp)(a:Addr)(y:V)(r:Option V):Prop:=
 (∃kvs k,Rd H a (.dK kvs)/\y=kV k/\r=cK kvs k)\/∃kvs k b,Rd H a (.dT kvs)/\y=.ref b/\H b=some (.tup (k.map kV))/\r=cK kvs k
def DPut(H:Hp)(a:Addr)(y v:V)(H':Hp):Prop:=
 (∃kvs k,H a=some (.dK kvs)/\y=kV k/\kvs.length<sizeLine/\H'=upd H a (.dK (c5 kvs k v)))\/
 ∃kvs k b,H a=some (.dT kvs)/\y=.ref b/\H b=some (.tup (k.map kV))/\kvs.length<sizeLine/\H'=upd H a (.dT (c5 kvs k v))
section
variable {X:Cx}{s:Shared}{a:Addr}{y:V}{o:Option V}{A:Around}
theorem qV(hu:A.units+1<cLine)(I:Inv X pins σ H s)(g:DGet H a y (some v))(ry:RelV y u)(h:∀w' s',Inv X pins σ H s'->RelV v w'->Q w' s') :
  wpAny (model X.prog X.w) A (getItem (.ref a) u) Q E s:=by
 rcases g with ⟨kvs,k,e,ey,l⟩|⟨kvs,k,b,e,ey,eb,l⟩
 ·subst ey;obtain⟨z,hd,vs,rel,dd⟩:=ir I.hok e;obtain⟨w',hw,rw'⟩:=RelO.some_of (v:=v) (o:=valueAt vs k) (by rw[l];exact rel.val k)
  exact wpAny_getItem_of (iw ry) dd.mapOf hw (h w' _ (I.tok _) rw')
 ·subst ey;cases (show u=Value.ref b from ry);obtain⟨z,hd,xs,rel,dd⟩:=lj I.hok e;obtain⟨w',hw,rw'⟩:=RelO.some_of (v:=v) (o:=(atKey xs k).map (·.2)) (by rw[l];exact rel.val k)
  obtain⟨p,hp,hp2⟩:=Option.map_eq_some_iff.mp hw;refine wpAny_getItem_heap (HA hu) (fv I.hok eb) dd hp ?_;rw[hp2];exact h w' _ (I.tok _) rw'
theorem Ff(hu:A.units+1<cLine)(I:Inv X pins σ H s)(g:DGet H a y o)(ry:RelV y u)(h:∀s',Inv X pins σ H s'->Q (.bool o.isSome) s') :
  wpAny (model X.prog X.w) A (compareOp .In u (.ref a)) Q E s:=by
 rcases g with ⟨kvs,k,e,ey,l⟩|⟨kvs,k,b,e,ey,eb,l⟩
 ·subst ey;obtain⟨z,hd,vs,rel,dd⟩:=ir I.hok e;refine wpAny_in_of (iw ry) hd dd.mapOf ?_;rw[<-(rel.val k).isSome_eq,<-l];exact h _ (I.tok _)
 ·subst ey;cases (show u=Value.ref b from ry);obtain⟨z,hd,xs,rel,dd⟩:=lj I.hok e;refine wpAny_in_heap (HA hu) (fv I.hok eb) hd dd ?_;have q:=(rel.val k).isSome_eq;rw[Option.isSome_map]at q;rw[<-q,<-l];exact h _ (I.tok _)
theorem wY(hu:A.units+1<cLine)(I:Inv X pins σ H s)(g:DGet H a y o)(ry:RelV y u)(h:∀s',Inv X pins σ H s'->Q (.bool (!o.isSome)) s') :
  wpAny (model X.prog X.w) A (compareOp .NotIn u (.ref a)) Q E s:=by
 rcases g with ⟨kvs,k,e,ey,l⟩|⟨kvs,k,b,e,ey,eb,l⟩
 ·subst ey;obtain⟨z,hd,vs,rel,dd⟩:=ir I.hok e;refine wpAny_notIn_of (iw ry) hd dd.mapOf ?_;rw[<-(rel.val k).isSome_eq,<-l];exact h _ (I.tok _)
 ·subst ey;cases (show u=Value.ref b from ry);obtain⟨z,hd,xs,rel,dd⟩:=lj I.hok e;refine wpAny_notIn_heap (HA hu) (fv I.hok eb) hd dd ?_;have q:=(rel.val k).isSome_eq;rw[Option.isSome_map]at q;rw[<-q,<-l];exact h _ (I.tok _)
theorem gC{h':Heap}(I:Inv X pins σ H s)(mu:Mut (H a))(hs:Heap.SameBut a s.heap h')(he:∃q,h'.get? a=some q)(new:ObjOk X.prog X.w (upd H a ob) h' a ob)(ht:0<t':=by first|exact HH _|assumption|exact Inv.tk (by assumption)|exact Env0.tk (by assumption)|exact GU (Inv.tk (by assumption)) (Hs _ _)) :
  Inv X pins σ (upd H a ob) {s with heap:=h',toks:=t'}:=
 I.write (x:=a) (e:=a) mu (.inl rfl) (λb q hb z=>(hs.2 b hb).trans z) he new
theorem uJ{h':Heap}{kvs:List (Key×V)}(z:kvs.length<=sizeLine)(hd:(a == sysModules)=false)(rel:KV kvs vs)(dd:h'.DictOf (av P w) a vs) :
  ObjOk P w H' h' a (.dK kvs):=⟨z,hd,vs,rel,dd⟩
theorem rO(hu:A.units+1<cLine)(I:Inv X pins σ H s)(g:DPut H a y v H')(ry:RelV y u)(rv:RelV v r)(h:∀s',Inv X pins σ H' s'->Q () s') :
  wpAny (model X.prog X.w) A (setItem (.ref a) u r) Q E s:=by
 rcases g with ⟨kvs,k,e,ey,l,eH⟩|⟨kvs,k,b,e,ey,eb,l,eH⟩
 ·subst ey eH;obtain⟨z,hd,vs,rel,dd⟩:=tq I.hok e;have hz:vs.length<=sizeLine:=by rw[<-rel.length];exact z
  have hl:(c5 kvs k v).length<=sizeLine:=by have:=dW kvs k v;omega
  refine wpAny_setItem_pairs (hsz:=hz) (iw ry) dd λh' dd' hs=>h _ ?_
  have he:∃q,h'.get? a=some q:=let ⟨q,_,_,hq,_⟩:=dd';⟨q,hq⟩
  exact gC I (by rw[e];exact True.intro) hs he (uJ hl hd (rel.put k rv) dd')
 ·subst ey eH;cases (show u=Value.ref b from ry);obtain⟨z,hd,xs,rel,dd⟩:=B2 I.hok e;have hz:xs.length<=sizeLine:=by rw[<-Paired.length rel];exact z
  have hl:(c5 kvs k v).length<=sizeLine:=by have:=dW kvs k v;omega
  refine wpAny_setItem_heap (hsz:=hz) (HA hu) (fv I.hok eb) dd λh' dd' hs=>h _ ?_
  obtain⟨q,es,ep,hq,h2,h3,h4,_,h5⟩:=dd';refine gC I (by rw[e];exact True.intro) hs ⟨q,hq⟩ ⟨hl,hd,_,(rel.put k eb rv).keeps λc ys ec=>?_,q,es,ep,hq,h2,h3,h4,h5⟩
  rw[ac (dg ec e (λz=>nomatch z))]
  exact ec
end
section
variable {X:Cx}{s:Shared}{a:Addr}{kvs:List (Key×V)}{A:Around}
end
section
variable {X:Cx}{o:Expr}{pos:Pos}
end
section
variable {X:Cx}
end
structure M1 (X:Cx)(o:Expr)(m:Str)(apos:Pos)(e:Expr)(cpos:Pos):Prop where
 base:attributeBase o m X.env (eval o X.env)=eval o X.env
 few:((backTo cpos (starEach [e] X.env)).all (λx=>!x.1)&&(backToKw cpos (keywordEach [] X.env)).all (λx=>x.1.isSome)
  &&decide (([e]:List Expr).length+([]:List Keyword).length+(if ([]:List Keyword).isEmpty then 0 else 1)<30))=true
 line:(apos.endLine == cpos.line)=true
 trees:backTo cpos (starEach [e] X.env)=[(false,eval e X.env)]
structure M2 (X:Cx)(o:Expr)(m:Str)(apos:Pos)(e f:Expr)(cpos:Pos):Prop where
 base:attributeBase o m X.env (eval o X.env)=eval o X.env
 few:((backTo cpos (starEach [e,f] X.env)).all (λx=>!x.1)&&(backToKw cpos (keywordEach [] X.env)).all (λx=>x.1.isSome)
  &&decide (([e,f]:List Expr).length+([]:List Keyword).length+(if ([]:List Keyword).isEmpty then 0 else 1)<30))=true
 line:(apos.endLine == cpos.line)=true
 trees:backTo cpos (starEach [e,f] X.env)=[(false,eval e X.env),(false,eval f X.env)]
section
variable {X:Cx}{s:Shared}{a:Addr}{y d:V}{o:Option V}{A:Around}
theorem zu(hu:A.units+1<cLine)(I:Inv X pins σ H s)(g:DGet H a y o)(ry:RelV y u)(h:∀w' s',Inv X pins σ H s'->RelV (o.getD .non) w'->Q w' s') :
  wpAny (model X.prog X.w) A (call (.builtin "dict.get") [.ref a,u]) Q E s:=by
 rcases g with ⟨kvs,k,e,ey,l⟩|⟨kvs,k,b,e,ey,eb,l⟩
 ·subst ey;obtain⟨z,hd,vs,rel,dd⟩:=ir I.hok e;refine call_meetsIn PySem.F.slot_dict_get dd.typeIs PySem.F.entry_dict_get (PySem.F.args_dict_get_2 _ _) (meets_dict_get (av X.prog X.w) a (iw ry) hd) ⟨_,dd.mapOf,h _ _ (I.tok _) ?_⟩;rw[l];exact (rel.val k).getD rfl
 ·subst ey;cases (show u=Value.ref b from ry);obtain⟨z,hd,xs,rel,dd⟩:=lj I.hok e;refine call_meetsIn PySem.F.slot_dict_get dd.typeIs PySem.F.entry_dict_get (PySem.F.args_dict_get_2 _ _) (meetsH_dict_get (tupleKind (av X.prog X.w)) a b hd) ⟨HA hu,k,xs,fv I.hok eb,dd,h _ _ (I.tok _) ?_⟩;rw[l];exact (rel.val k).getD rfl
theorem ye(hu:A.units+1<cLine)(I:Inv X pins σ H s)(g:DGet H a y o)(ry:RelV y u)(rd:RelV d r)(h:∀w' s',Inv X pins σ H s'->RelV (o.getD d) w'->Q w' s') :
  wpAny (model X.prog X.w) A (call (.builtin "dict.get") [.ref a,u,r]) Q E s:=by
 rcases g with ⟨kvs,k,e,ey,l⟩|⟨kvs,k,b,e,ey,eb,l⟩
 ·subst ey;obtain⟨z,hd,vs,rel,dd⟩:=ir I.hok e;refine call_meetsIn PySem.F.slot_dict_get dd.typeIs PySem.F.entry_dict_get (PySem.F.args_dict_get_3 _ _ _) (meets_dict_get_default (av X.prog X.w) a (iw ry) hd r) ⟨_,dd.mapOf,h _ _ (I.tok _) ?_⟩;rw[l];exact (rel.val k).getD rd
 ·subst ey;cases (show u=Value.ref b from ry);obtain⟨z,hd,xs,rel,dd⟩:=lj I.hok e;refine call_meetsIn PySem.F.slot_dict_get dd.typeIs PySem.F.entry_dict_get (PySem.F.args_dict_get_3 _ _ _) (meetsH_dict_get_default (tupleKind (av X.prog X.w)) a b hd r) ⟨HA hu,k,xs,fv I.hok eb,dd,h _ _ (I.tok _) ?_⟩;rw[l];exact (rel.val k).getD rd
end
section
variable {X:Cx}{o:Expr}
end
section
variable {X:Cx}{s:Shared}{a:Addr}{kvs:List (Key×V)}{A:Around}
end
section
variable {X:Cx}{s:Shared}{a:Addr}{y:V}{A:Around}
end
end L2
namespace HT
open PySem PyProof.Rows
section
open PySem.SeqAt
open PySem.AutoSeq1 (wpAny_loadPart')
open PySem.MeetsSeq PySem.MeetsSeq2 PySem.MeetsSeq3
end
section
variable {w:World}{A:Around}{s:Shared}
theorem cat_tup{vs ws:List Value}(ht:IsTup s.heap t vs.toArray)(hb:IsTup s.heap b ws.toArray)(hv:vs≠[])
  (h1:ws=[]->Q (.ref t) s) (h2:ws≠[]->Q (.ref s.heap.objs.size) {s with heap:=s.heap.push {cls:=.type "tuple",data:=.seq (vs++ws).toArray}})
  (hsz:vs.length+ws.length<=sizeLine):wpAny (model prog w) A (binaryOp .Add (.ref t) (.ref b)) Q E s:=by
 obtain⟨⟨cls,dd,data,sl⟩,ho,hc,n,hd⟩:=id ht;obtain⟨⟨cls2,dd2,data2,sl2⟩,ho2,hc2,n2,hd2⟩:=id hb;simp only at hc hd hc2 hd2;subst hc hd hc2 hd2;have e:vs.toArray++ws.toArray=(vs++ws).toArray:=by simp
 by_cases hw:ws=[]
 ·exact concat_meets ⟨_,ho,rfl⟩ ⟨_,ho2,rfl⟩ noFill_tuple_add seq_tuple_add PySem.F.slot_tuple_add PySem.F.entry_tuple_add (PySem.F.args_tuple_add_2 _ _)
   (tuple_addW1 t b vs.toArray ws.toArray n n2 dd dd2 sl sl2 (by simpa using hv) (by simp[hw])) ⟨ho,ho2,h1 hw⟩
 ·refine concat_meets ⟨_,ho,rfl⟩ ⟨_,ho2,rfl⟩ noFill_tuple_add seq_tuple_add PySem.F.slot_tuple_add PySem.F.entry_tuple_add (PySem.F.args_tuple_add_2 _ _)
   (tuple_addW2 t b vs.toArray ws.toArray n n2 dd dd2 sl sl2 (by simpa using hv) (by simpa using hw) (by rw[List.size_toArray,List.size_toArray];exact hsz)) ⟨ho,ho2,?_⟩
  rw[e];exact h2 hw
noncomputable def sIx(n d:Nat):Option Int->Nat
 |none=>d
 |some v=>if v<0 then (v+(n:Int)).toNat else min v.toNat n
theorem sIx_none(n d:Nat):sIx n d none=d:=rfl
theorem sIx_nat(n d k:Nat):sIx n d (some (k:Int))=min k n:=by
 show (if (k:Int)<0 then ((k:Int)+(n:Int)).toNat else min (k:Int).toNat n)=min k n
 rw[if_neg (by omega),Int.toNat_natCast]
theorem Ak(n d:Nat)(hd:d<=n)(o:Option Int):sIx n d o<=n:=by
 cases o with
 |none=>exact hd
 |some v=>
  show (if v<0 then (v+(n:Int)).toNat else min v.toNat n)<=n
  by_cases hv:v<0
  ·rw[if_pos hv];omega
  ·rw[if_neg hv];exact Nat.min_le_right _ _
theorem qm(v:Int)(n d:Nat):(if v<0 then max (v+(n:Int)) 0 else min v (n:Int))=((sIx n d (some v):Nat):Int):=by
 show (if v<0 then max (v+(n:Int)) 0 else min v (n:Int))=(((if v<0 then (v+(n:Int)).toNat else min v.toNat n):Nat):Int)
 by_cases hv:v<0
 ·simp only[if_pos hv];omega
 ·simp only[if_neg hv];omega
theorem oJ(lo hi:Option Int)(n:Nat):Builtin.Slice.sliceAdjust lo hi 1 (n:Int)=(((sIx n 0 lo:Nat):Int),((sIx n n hi:Nat):Int)):=by
 have h1:¬ ((1:Int)<0):=by omega
 unfold Builtin.Slice.sliceAdjust;simp only[h1,if_false];refine Prod.ext ?_ ?_
 ·cases lo with
  |none=>rfl
  |some v=>exact qm v n 0
 ·cases hi with
  |none=>rfl
  |some v=>exact qm v n n
theorem ph(i j:Nat):Builtin.Slice.slicePlaces (i:Int) (j:Int) 1=j-i:=by
 unfold Builtin.Slice.slicePlaces;have h1:(1:Int) > 0:=by omega
 simp only[h1,if_true,Int.ediv_one];split<;>omega
theorem jv(p:IsPart v o)(h:Q o s):wpAny (model prog w) A (Builtin.Slice.slicePartIndex v) Q E s:=by
 cases p with
 |none=>exact slicePart_none h
 |int i t=>exact slicePart_int h
theorem gM{sl:Addr}{vl vu:Value}{lo hi:Option Int}{n:Nat}{Q:Int×Int×Nat->Shared->Prop}(hs:s.heap.IsSliceOf sl vl vu .none)(pl:IsPart vl lo)(pu:IsPart vu hi)
  (h:Q (((sIx n 0 lo:Nat):Int),1,sIx n n hi-sIx n 0 lo) s):wpAny (model prog w) A (Builtin.Slice.sliceApplied (.ref sl) (pure (n:Int))) Q E s:=by
 obtain⟨os,hos,hcs,hds⟩:=id hs;unfold Builtin.Slice.sliceApplied Builtin.Slice.sliceFields;refine wpAny_bind (wpAny_bind (wpAny_field hos hds (x:=vl) rfl (wpAny_bind (wpAny_field hos hds (x:=vu) rfl (wpAny_bind (wpAny_field hos hds (x:=.none) rfl (wpAny_pure ?_)))))));refine wpAny_bind (slicePart_none ?_);show wpAny _ _ (if ((1:Int) == 0)=true then _ else _) _ _ s
 rw[if_neg (by decide)]
 refine wpAny_bind (jv pl (wpAny_bind (jv pu (wpAny_bind (wpAny_pure ?_)))));show wpAny _ _ (match Builtin.Slice.sliceAdjust lo hi 1 (n:Int) with|(lo,hi)=>pure (lo,(1:Int),Builtin.Slice.slicePlaces lo hi 1)) _ _ s
 rw[oJ lo hi n];show wpAny _ _ (pure (((sIx n 0 lo:Nat):Int),(1:Int),Builtin.Slice.slicePlaces ((sIx n 0 lo:Nat):Int) ((sIx n n hi:Nat):Int) 1)) _ _ s;rw[ph];exact wpAny_pure h
theorem uv(xs:Array Value)(i k:Nat):((List.range k).filterMap λ(m:Nat)=>xs[((i:Int)+(m:Int)*1).toNat]?).toArray=((xs.toList.drop i).take k).toArray:=by
 have e:(λ(m:Nat)=>xs[((i:Int)+(m:Int)*1).toNat]?)=λm=>xs[i+m]?:=by
  funext m;have:((i:Int)+(m:Int)*1).toNat=i+m:=by omega
  rw[this]
 rw[e];have:=pick_run xs i k;rw[List.filterMap_map]at this;have e2:((λx=>xs[x]?)∘λx=>i+x)=λm=>xs[i+m]?:=rfl
 rw[e2]at this;rw[this]
theorem getItem_tuple_cut{items:Array Value}{lo:Option Int}(ht:IsTup s.heap t items)(hs:s.heap.IsSliceOf sl vl vu .none)(pl:IsPart vl lo)(pu:IsPart vu hi)
  (hw:¬ (sIx items.size 0 lo=0/\sIx items.size items.size hi=items.size))
  (h:Q (.ref s.heap.objs.size) {s with heap:=s.heap.push {cls:=.type "tuple",data:=.seq ((items.toList.drop (sIx items.size 0 lo)).take (sIx items.size items.size hi-sIx items.size 0 lo)).toArray}})
  (hsz:items.size<=sizeLine):wpAny (model prog w) A (getItem (.ref t) (.ref sl)) Q E s:=by
 have htake:sizeOk (.seq ((items.toList.drop (sIx items.size 0 lo)).take (sIx items.size items.size hi-sIx items.size 0 lo)).toArray):=by
  show ((items.toList.drop (sIx items.size 0 lo)).take (sIx items.size items.size hi-sIx items.size 0 lo)).toArray.size<=sizeLine;rw[List.size_toArray,List.length_take,List.length_drop,Array.length_toList];omega
 have hj:sIx items.size items.size hi<=items.size:=Ak _ _ (Nat.le_refl _) hi;obtain⟨os,hos,hcs,hds⟩:=id hs;have hTs:s.TypeIs (.ref sl) "slice":=⟨os,hos,hcs⟩;unfold getItem
 try with_reducible refine wpAny_holding ?_
 first|refine wpAny_bind (wpAny_pure ?_)|skip
 refine wpAny_bind (wpAny_sequenceKey ht.typeIs (by decide) ?_)
 refine wpAny_bind (wpAny_callSpecial?_slot (name:=Str.ofString "__getitem__") ht.typeIs PyProof.Rows.slot_tuple_getitem
  (wpAny_call_entry PyProof.Rows.slot_tuple_getitem ht.typeIs entry_tuple_getitem ?_ (args_tuple_getitem _ _)))
 show wpAny _ _ (Builtin.Tuple.tupleItemsOf (.ref t) >>=_) _ _ s;refine wpAny_bind (tupleItemsOf_ ht ?_);refine wpAny_bind (wpAny_typeOf hTs ?_);rw[if_pos (by decide)]
 refine wpAny_bind (gM hs pl pu ?_);have hno:¬ ((((sIx items.size 0 lo:Nat):Int) == 0&&(1:Int) == 1&&(sIx items.size items.size hi-sIx items.size 0 lo) == items.size)=true):=by
  intro q;rw[Bool.and_eq_true,Bool.and_eq_true]at q;have q1:((sIx items.size 0 lo:Nat):Int)=0:=eq_of_beq q.1.1;have q2:sIx items.size items.size hi-sIx items.size 0 lo=items.size:=eq_of_beq q.2;exact hw ⟨by omega,by omega⟩
 show wpAny _ _ (if (((sIx items.size 0 lo:Nat):Int) == 0&&(1:Int) == 1&&(sIx items.size items.size hi-sIx items.size 0 lo) == items.size)=true then _ else _) _ _ s
 rw[if_neg hno,uv]
 first
  |exact wpAny_bind (m:=Builtin.Tuple.tupleExact _) (wpAny_newObj_type (wpAny_pure ⟨_,rfl,wpAny_pure h⟩) htake)
  |exact wpAny_bind (m:=Builtin.Tuple.tupleExact _) (wpAny_newObj_type (wpAny_bind (wpAny_pure (wpAny_pure ⟨_,rfl,wpAny_pure h⟩))) htake)
  |exact wpAny_bind (wpAny_bind (m:=Builtin.Tuple.tupleExact _) (wpAny_newObj_type (wpAny_pure (wpAny_pure ⟨_,rfl,wpAny_pure h⟩)) htake))
  |exact wpAny_bind (wpAny_bind (m:=Builtin.Tuple.tupleExact _) (wpAny_newObj_type (wpAny_pure ⟨_,rfl,wpAny_pure h⟩) htake))
end
end HT
namespace L2
open PySem PySem.Spec PyProof.Rows
noncomputable abbrev TO:=St->Hp->(Option Int->Hp->Prop)->Prop
def PO(X:Cx)(e:Option Expr)(t:TO):Prop:=
 ∀(pins:List (Addr×Obj)) (s:Shared)(σ:St)(H:Hp)(Q:Option Int->Hp->Prop),Inv X pins σ H s->t σ H Q->
  wpAny (model X.prog X.w) X.A (evalPart e X.env) (λu s'=>∃o H',Inv X pins σ H' s'/\IsPart u o/\Q o H') X.xe s
noncomputable def tNoPart:TO:=λ_ H Q=>Q none H
noncomputable def Bg(t:TE):TO:=λσ H Q=>t σ H λx H1=>∃i,x=.int i/\Q (some i) H1
section
variable {X:Cx}{lo:Option Expr}
theorem po_none:PO X none tNoPart:=by
 intro pins s σ H Q I h;rw[evalPart_none];exact GT ⟨none,H,I,.none,h⟩
theorem xB(h:PE X e te):PO X (some e) (Bg te):=by
 intro pins s σ H Q I hw;rw[evalPart_some];refine thn (h pins s σ H _ I hw) λu s1 ⟨x,H1,I1,r1,q1⟩=>?_
 obtain⟨i,rfl,q⟩:=q1;obtain⟨t,rfl⟩:=r1;exact⟨some i,H1,I1,.int i t,q⟩
def SlR(X:Cx)(r:V->Option Int->Option Int->Hp->VK->Prop):Prop:=
 ∀(pins:List (Addr×Obj)) (s:Shared)(σ:St)(H:Hp)(x:V)(v vl vu:Value)(lo hi:Option Int)(sl:Addr)(Q:VK),Inv X pins σ H s->RelV x v->s.heap.IsSliceOf sl vl vu .none->IsPart vl lo->IsPart vu hi->r x lo hi H Q->
  ∃T id,typeLookup (.type T) "__getitem__"=pure (some (.builtin id))/\s.TypeIs v T/\wpAny (model X.prog X.w) X.A (getItem v (.ref sl)) (EP X pins σ Q) X.xe s
noncomputable def tSl(r:V->Option Int->Option Int->Hp->VK->Prop)(te:TE)(tl th:TO):TE:=λσ H Q=>te σ H λx H1=>tl σ H1 λl H2=>th σ H2 λu H3=>r x l u H3 Q
theorem uO(hr:SlR X r)(he:PE X e te)(hl:PO X lo tl)(hu:PO X hi th):PE X (.Subscript e (.Slice lo hi none p2) pos) (tSl r te tl th):=by
 intro pins s σ H Q I h;refine Subscript_ (thn (he pins s σ H _ I h) λv s1 ⟨x,H1,I1,r1,q1⟩=>?_)
 refine wpAny_Slice (thn (hl pins s1 σ H1 _ I1 q1) λvl s2 ⟨l,H2,I2,pl,q2⟩=>thn (hu pins s2 σ H2 _ I2 q2) λvu s3 ⟨u,H3,I3,pu,q3⟩=>?_)
 rw[evalPart_none];refine GT ?_;have I4:Inv X pins σ H3 {s3 with heap:=s3.heap.push {cls:=.type "slice",data:=.fields #[vl,vu,.none]}}:=I3.kept (t':=s3.toks) λb ob q=>GX _ q
 obtain⟨T,id,hT,ht,hg⟩:=hr pins {s3 with heap:=s3.heap.push {cls:=.type "slice",data:=.fields #[vl,vu,.none]}} σ H3 x v vl vu l u s3.heap.objs.size Q I4 r1 (Heap.IsSliceOf.new ..) pl pu q3
 show wpAny (model X.prog X.w) X.A (subscriptTail e (.Slice lo hi none p2) v (.ref s3.heap.objs.size)) (EP X pins σ Q) X.xe {s3 with heap:=s3.heap.push {cls:=.type "slice",data:=.fields #[vl,vu,.none]}}
 exact tail_any (ops:=[.ref s3.heap.objs.size,v]) ht hT hg (by with_unfolding_all rfl)
noncomputable def oF(xs:List V)(lo hi:Option Int):List V:=(xs.drop (HT.sIx xs.length 0 lo)).take (HT.sIx xs.length xs.length hi-HT.sIx xs.length 0 lo)
theorem iy(xs:List V)(lo hi:Option Int):(oF xs lo hi).length<=xs.length:=by
 unfold oF;rw[List.length_take,List.length_drop];omega
def E0(K:Ii):V->Option Int->Option Int->Hp->VK->Prop:=λx lo hi H Q=>∃a xs,x=.ref a/\SqT K H a xs/\
 ¬ (HT.sIx xs.length 0 lo=0/\HT.sIx xs.length xs.length hi=xs.length)/\∀p,H p=none->Q (.ref p) (upd H p (.tup (oF xs lo hi)))
theorem AD:SlR X (E0 X.K):=by
 intro pins s σ H x v vl vu lo hi sl Q I rx hs pl pu h;obtain⟨a,xs,rfl,hx,hw,q⟩:=h;cases rx;obtain⟨its,r,ht,hz⟩:=I.tuple hx;have hlen:its.toArray.size=xs.length:=by rw[G7];exact r.length.symm
 refine⟨"tuple",_,PyProof.Rows.slot_tuple_getitem.lookup,ht.typeIs,?_⟩;refine HT.getItem_tuple_cut ht hs pl pu (by rw[hlen];exact hw) ?_ (by rw[hlen];exact hz)
 rw[hlen];refine⟨.ref s.heap.objs.size,_,I.laid (t':=s.toks) (o:=.tup (oF xs lo hi)) (λb ob q=>GX _ q) (GZ _) ?_,rfl,q _ (I.hok.fresh (GZ _))⟩
 exact⟨Ha (iy xs lo hi) hz,_,(r.drop (HT.sIx xs.length 0 lo)).take (HT.sIx xs.length xs.length hi-HT.sIx xs.length 0 lo),IsTup.new _ _⟩
def BF(K:Ii):R2:=λx y H Q=>∃a b xs ys,x=.ref a/\y=.ref b/\SqT K H a xs/\SqT K H b ys/\xs≠[]/\xs.length+ys.length<=sizeLine/\
 (ys=[]->Q (.ref a) H)/\(ys≠[]->∀p,H p=none->Q (.ref p) (upd H p (.tup (xs++ys))))
theorem Vals.nil_iff(r:Vals xs us):us=[]<->xs=[]:=by
 cases r with
 |nil=>simp
 |cons _ _=>simp
theorem wB:OpR X (binaryOp .Add) (BF X.K):=by
 intro pins s σ H x y v u Q I rx ry h;obtain⟨a,b,xs,ys,rfl,rfl,ha,hb,hx,hz,q1,q2⟩:=h;cases rx;cases ry;obtain⟨its,r1,p1,_⟩:=I.tuple ha;obtain⟨its2,r2,p2,_⟩:=I.tuple hb;refine HT.cat_tup p1 p2 (λz=>hx (r1.nil_iff.mp z)) (λz=>⟨.ref a,H,I,rfl,q1 (r2.nil_iff.mp z)⟩) (λz=>?_) (by rw[<-r1.length,<-r2.length];exact hz)
 refine⟨.ref s.heap.objs.size,_,I.laid (t':=s.toks) (o:=.tup (xs++ys)) (λb ob q=>GX _ q) (GZ _) ?_,rfl,q2 (λw=>z (r2.nil_iff.mpr w)) _ (I.hok.fresh (GZ _))⟩
 exact⟨by rw[Hu];exact hz,_,r1.append r2,IsTup.new _ _⟩
end
noncomputable def ixN(n:Nat)(i:Int):Option Nat:=if 0<=i then (if i<n then some i.toNat else none) else if -(n:Int)<=i then some (i+n).toNat else none
noncomputable def atI(xs:List α)(i:Int):Option α:=(ixN xs.length i).bind λj=>xs[j]?
theorem qD(h:ixN n i=some j):seqIndex? i n=some j/\j<n/\-(n:Int)<=i/\i<n:=by
 unfold ixN at h;by_cases h0:0<=i
 ·rw[G3 h0]at h;by_cases h1:i<n
  ·rw[G3 h1]at h;have e:i.toNat=j:=Hg h;exact⟨by rw[seqIndex_of h0 h1,e],by omega,by omega,h1⟩
  ·rw[GV h1]at h;cases h
 ·rw[GV h0]at h;by_cases h1 : -(n:Int)<=i
  ·rw[G3 h1]at h;have e:(i+n).toNat=j:=Hg h;exact⟨by rw[seqIndex_neg (by omega) h1,e],by omega,h1,by omega⟩
  ·rw[GV h1]at h;cases h
theorem lY{xs:List α}(h:atI xs i=some v):∃j,seqIndex? i xs.length=some j/\xs[j]?=some v/\j<xs.length/\-(xs.length:Int)<=i/\i<xs.length:=by
 unfold atI at h;cases e:ixN xs.length i with
 |none=>rw[e]at h;cases h
 |some j=>
  rw[e]at h;obtain⟨h1,h2,h3,h4⟩:=qD e;exact⟨j,h1,h,h2,h3,h4⟩
theorem cL{α:Type}{xs:List α}{j:Nat}{v:α}(h:xs[j]?=some v):atI xs (j:Int)=some v:=by
 have hj:j<xs.length:=(Hv.mp h).1;have e:ixN xs.length (j:Int)=some j:=by
  unfold ixN;rw[G3 (by omega),G3 (by omega)];simp
 unfold atI;rw[e];exact h
def mn(b:Expr):Prop:=∀o i,subscripted b false o i=operate [o,i] (getItem o i)
def IxR(X:Cx)(r:R2):Prop:=
 ∀(value slice:Expr) (pins:List (Addr×Obj)) (s:Shared)(σ:St)(H:Hp)(x y:V)(v u:Value)(Q:VK),Inv X pins σ H s->RelV x v->RelV y u->r x y H Q->
  subscripted slice false v u=operate [v,u] (getItem v u)->wpAny (model X.prog X.w) X.A (subscriptTail value slice v u) (EP X pins σ Q) X.xe s
def MtR(X:Cx)(id:String)(r:V->List V->Hp->VK->Prop):Prop:=
 ∀(pins:List (Addr×Obj)) (s:Shared)(σ:St)(H:Hp)(x:V)(xs:List V)(v:Value)(us:List Value)(Q:VK),Inv X pins σ H s->RelV x v->Vals xs us->r x xs H Q->
  wpAny (model X.prog X.w) X.A (call (.builtin id) (v::us)) (EP X pins σ Q) X.xe s
section
variable {X:Cx}{a:Expr}
theorem IxR.or(h:IxR X r)(h':IxR X r'):IxR X (λx y H Q=>r x y H Q\/r' x y H Q):=by
 intro value slice pins s σ H x y v u Q I rx ry q hs;rcases q with q|q
 ·exact h value slice pins s σ H x y v u Q I rx ry q hs
 ·exact h' value slice pins s σ H x y v u Q I rx ry q hs
theorem Ck(hr:IxR X r)(ha:PE X a ta)(hb:PE X b tb)(hs:mn b):PE X (.Subscript a b pos) (tOp r ta tb):=by
 intro pins s σ H Q I h;exact Subscript_ (zh ha hb I h λv u s2 x y H2 I2 rx ry q=>hr a b pins s2 σ H2 x y v u Q I2 rx ry q (hs _ _))
def Bx(K:Ii):R2:=λx y H Q=>∃p xs i v,x=.ref p/\y=.int i/\SqL K H p xs/\atI xs i=some v/\Q v H
def Ct(K:Ii):R2:=λx y H Q=>∃p xs i v,x=.ref p/\y=.int i/\SqT K H p xs/\atI xs i=some v/\Q v H
def rIxS:R2:=λx y H Q=>∃z i c,x=.str z/\y=.int i/\z.length<=sizeLine/\atI z.cps.toList i=some c/\Q (.str ⟨#[c]⟩) H
theorem ix_list:IxR X (Bx X.K):=by
 intro value slice pins s σ H x y v u Q I rx ry h hs;obtain⟨p,xs,i,z,rfl,rfl,hq,he,q⟩:=h;cases rx;obtain⟨t,rfl⟩:=ry;obtain⟨its,r,pl,hz⟩:=I.list hq;obtain⟨j,h1,h2,h3,h4,h5⟩:=lY he;obtain⟨w,ew,rw'⟩:=r.get h2;have hl:=r.length;have hn:=gR;have fin:EP X pins σ Q w s:=⟨z,H,I,rw',q⟩;by_cases h0:0<=i
 ·have hj:i.toNat=j:=by
   rw[seqIndex_of h0 h5]at h1;exact Hg h1
  exact item_listR pl.isList h0 (by omega) (by rw[hj];simpa using ew) fin hs
 ·have hj:(i+(its.toArray.size:Int)).toNat=j:=by
   rw[seqIndex_neg (by omega) h4]at h1
   rw[G7,<-hl];exact Hg h1
  exact subscriptTail_builtinR (x:=w) pl.isList.typeIs slot_list_getitem.lookup
   (wpAny_getItem_list_neg (Q:=λr s'=>r=w/\EP X pins σ Q r s') pl.isList (by omega) (by rw[G7]<;>omega) (by omega) (by rw[hj];simpa using ew) ⟨rfl,fin⟩) hs
theorem ix_tup:IxR X (Ct X.K):=by
 intro value slice pins s σ H x y v u Q I rx ry h hs;obtain⟨p,xs,i,z,rfl,rfl,hq,he,q⟩:=h;cases rx;obtain⟨t,rfl⟩:=ry;obtain⟨its,r,pl,hz⟩:=I.tuple hq;obtain⟨j,h1,h2,h3,h4,h5⟩:=lY he;obtain⟨w,ew,rw'⟩:=r.get h2;have hl:=r.length;have hn:=gR;have fin:EP X pins σ Q w s:=⟨z,H,I,rw',q⟩;exact subscriptTail_builtinR (x:=w) pl.typeIs slot_tuple_getitem.lookup
  (getItem_tuple (j:=j) (Q:=λr s'=>r=w/\EP X pins σ Q r s') pl (by omega) (by omega) (by rw[G7,<-hl];exact h1) (by simpa using ew) ⟨rfl,fin⟩) hs
theorem yr:IxR X rIxS:=by
 intro value slice pins s σ H x y v u Q I rx ry h hs;obtain⟨z,i,c,rfl,rfl,hz,he,q⟩:=h;obtain⟨t,rfl⟩:=rx;obtain⟨t',rfl⟩:=ry;obtain⟨j,h1,h2,h3,h4,h5⟩:=lY he;have hl:z.cps.toList.length=z.length:=by simp[Str.length]
 rw[hl]at h1 h4 h5;have hn:=gR;exact tail_any (typeIs_str s z t) slot_str_getitem.lookup (getItem_str (c:=c) (by
  have e1:decide (i < -(2 ^ 63:Int))=false:=Hw (by omega)
  have e2:decide (i>=2 ^ 63)=false:=Hw (by omega)
  rw[e1,e2,Bool.or_false]) (by rw[h1];simpa using h2) ⟨.str ⟨#[c]⟩,H,I.tok _,⟨_,rfl⟩,q⟩) hs
def rIx(K:Ii):R2:=λx y H Q=>Bx K x y H Q\/Ct K x y H Q\/rIxS x y H Q
theorem zf:IxR X (rIx X.K):=ix_list.or (ix_tup.or yr)
theorem pO(its:List Value)(n j:Nat)(u:Value):Obj.mapSeq (·.setIfInBounds j u) {cls:=.type "list",data:=.seq its.toArray n}={cls:=.type "list",data:=.seq (its.set j u).toArray n}:=by
 simp[Obj.mapSeq]
theorem Inv.lst{s:Shared}(I:Inv X pins σ H s)(h:H p=some (.lst xs)) :
  ∃(its:List Value) (n:Nat),Vals xs its/\s.heap.get? p=some {cls:=.type "list",data:=.seq its.toArray n}/\xs.length<=sizeLine:=by
 obtain⟨z,its,n,r,e⟩:=I.hok p _ h;exact⟨its,n,r,e,z⟩
theorem Inv.lstUpd{pins:List (Addr×Obj)}{σ:St}{H:Hp}{s:Shared}{p:Addr}{xs ys:List V}{its its':List Value}{n n':Nat}{f:Obj->Obj}(I:Inv X pins σ H s)(h:H p=some (.lst xs))
  (ho:s.heap.get? p=some {cls:=.type "list",data:=.seq its.toArray n}) (hf:f {cls:=.type "list",data:=.seq its.toArray n}={cls:=.type "list",data:=.seq its'.toArray n'}) (r:Vals ys its') (hz:ys.length<=sizeLine) (t:Nat) (ht:0<t:=by first|exact HH _|assumption|exact Inv.tk (by assumption)|exact Env0.tk (by assumption)|exact GU (Inv.tk (by assumption)) (Hs _ _)) :
  Inv X pins σ (upd H p (.lst ys)) {s with heap:=s.heap.update p f,toks:=t}:=by
 have e:(s.heap.update p f).get? p=some {cls:=.type "list",data:=.seq its'.toArray n'}:=by
  rw[Hz f ho (by rw[hf]<;>rfl),hf]
 refine I.write (x:=p) (e:=p) (by rw[h];trivial) (.inl rfl) (λb u hb q=>(Hm _ _ (He hb)).trans q) ⟨_,e⟩ ?_
 exact⟨hz,its',n',r,e⟩
def rSetL:V->V->V->Hp->(Hp->Prop)->Prop:=λo i v H Q=>∃p xs k j,o=.ref p/\i=.int k/\H p=some (.lst xs)/\ixN xs.length k=some j/\Q (upd H p (.lst (xs.set j v)))
theorem va:Aq X rSetL:=by
 intro pins s σ H o i v ov iv u Q I ro ri rv h;obtain⟨p,xs,k,j,rfl,rfl,hp,hj,q⟩:=h;cases ro;obtain⟨t,rfl⟩:=ri;obtain⟨its,n,r,ho,hz⟩:=I.lst hp;obtain⟨h1,h2,h3,h4⟩:=qD hj;have hl:=r.length;have hn:=gR;have I':Inv X pins σ (upd H p (.lst (xs.set j v))) {s with heap:=s.heap.update p (Obj.mapSeq (·.setIfInBounds j u))}:=
  I.lstUpd hp ho (pO its n j u) (r.set rv j) (by rw[List.length_set];exact hz) s.toks
 by_cases h0:0<=k
 ·have hk:k.toNat=j:=by
   rw[seqIndex_of h0 h4]at h1;exact Hg h1
  exact PySem.W.ki_setAt ho h0 (by omega) (by rw[G7,<-hl];exact h4) (by rw[hk];exact⟨_,I',q⟩)
 ·have hk:(k+(its.toArray.size:Int)).toNat=j:=by
   rw[seqIndex_neg (by omega) h3]at h1
   rw[G7,<-hl];exact Hg h1
  exact PySem.W.ki_setBack ho (by omega) (by rw[G7,<-hl];exact h3) (by omega) (by rw[hk];exact⟨_,I',q⟩)
theorem ly(lo hi:Option Int)(n:Nat):(sliceBounds lo hi none n).1=((HT.sIx n 0 lo:Nat):Int)/\(sliceBounds lo hi none n).2.1=((HT.sIx n n hi:Nat):Int)/\(sliceBounds lo hi none n).2.2=1:=by
 refine⟨?_,?_,rfl⟩
 ·cases lo with
  |none=>simp[sliceBounds,HT.sIx]
  |some i=>
   simp only[sliceBounds,HT.sIx,Option.getD_none,show (1:Int) > 0 by decide,if_true]
   by_cases h:i<0
   ·simp only[h,if_true]<;>omega
   ·simp only[h,if_false]<;>omega
 ·cases hi with
  |none=>simp[sliceBounds,HT.sIx]
  |some i=>
   simp only[sliceBounds,HT.sIx,Option.getD_none,show (1:Int) > 0 by decide,if_true]
   by_cases h:i<0
   ·simp only[h,if_true]<;>omega
   ·simp only[h,if_false]<;>omega
theorem j0(its:List Value)(lo hi:Option Int):slicePick its.toArray lo hi none=((its.drop (HT.sIx its.length 0 lo)).take (HT.sIx its.length its.length hi-HT.sIx its.length 0 lo)).toArray:=by
 obtain⟨h1,h2,h3⟩:=ly lo hi its.toArray.size;unfold slicePick;rw[h1,h2,h3];simp only[sliceRange_one,pick_run,G7]<;>rfl
theorem lW:CallR X (.builtin "len") (λxs H Q=>∃p ys,xs=[.ref p]/\(SqL X.K H p ys\/SqT X.K H p ys)/\Q (.int ys.length) H):=by
 intro pins s σ H xs us Q I r h;obtain⟨p,ys,rfl,hq,q⟩:=h;obtain⟨u,rfl,rx⟩:=im r;cases rx;have hn:=gR;rcases hq with hq|hq
 ·obtain⟨its,r',pl,hz⟩:=I.list hq;have hlen:=r'.length;exact Calls.call_len_list pl.isList (by simp only[G7]<;>omega) ⟨.int ys.length,H,I.tok _,⟨s.toks+1,by rw[G7,hlen]⟩,q⟩
 ·obtain⟨its,r',pl,hz⟩:=I.tuple hq;have hlen:=r'.length;exact len_tuple pl (by simp only[G7]<;>omega) ⟨.int ys.length,H,I.tok _,⟨s.toks+1,by rw[G7,hlen]⟩,q⟩
theorem me:CallR X (.builtin "len") (λxs H Q=>∃z,xs=[.str z]/\z.length<=sizeLine/\Q (.int z.length) H):=by
 intro pins s σ H xs us Q I r h;obtain⟨z,rfl,hz,q⟩:=h;obtain⟨u,rfl,t,rfl⟩:=im r;have hn:=gR;exact len_str (by omega) ⟨.int z.length,H,I.tok _,⟨_,rfl⟩,q⟩
theorem fY:CallR X (.type "list") (λxs H Q=>∃p ys,xs=[.ref p]/\(SqL X.K H p ys\/SqT X.K H p ys)/\∀l,H l=none->Q (.ref l) (upd H l (.lst ys))):=by
 intro pins s σ H xs us Q I r h;obtain⟨p,ys,rfl,hq,q⟩:=h;obtain⟨u,rfl,rx⟩:=im r;cases rx;have fin:∀(its:List Value),Vals ys its->ys.length<=sizeLine->∀(h':Heap)(c':Nat),(∀b o',s.heap.get? b=some o'->h'.get? b=some o')->
   h'.get? s.heap.objs.size=some {cls:=.type "list",dict:=none,data:=.seq its.toArray c',slots:=#[]}->EP X pins σ Q (.ref s.heap.objs.size) {s with heap:=h'}:=λits r' hz h' c' kp e=>
  ⟨.ref s.heap.objs.size,_,I.laid (t':=s.toks) kp (GZ _) (show ObjOk X.prog X.w _ h' _ (.lst ys) from⟨hz,its,c',r',e⟩),rfl,q _ (I.hok.fresh (GZ _))⟩
 rcases hq with hq|hq
 ·obtain⟨its,r',pl,hz⟩:=I.list hq;have hlen:=r'.length;obtain⟨o,ho,hc,n,hd⟩:=pl.isList;exact call_list_seq p (.inl rfl) ho hc hd (λh' c' kp e=>fin its r' hz h' c' kp e) (by simp only[G7]<;>omega)
 ·obtain⟨its,r',pl,hz⟩:=I.tuple hq;have hlen:=r'.length;obtain⟨o,ho,hc,n,hd⟩:=pl;exact call_list_seq p (.inr rfl) ho hc hd (λh' c' kp e=>fin its r' hz h' c' kp e) (by simp only[G7]<;>omega)
def tyV(K:Ii)(T:String)(x:V)(H:Hp):Prop:=match x with
 |.str _=>T = "str"
 |.int _=>T = "int"
 |.ref p=>(T = "list"/\∃xs,SqL K H p xs)\/(T = "tuple"/\∃o,K.lookup p=some o/\o.cls=.type "tuple"/\o.dict=none)\/
   (T = "dict"/\((∃kvs,H p=some (.dK kvs))\/∃kvs,H p=some (.dT kvs)))\/(T = "set"/\∃S n,H p=some (.set S n))
 |_=>False
theorem Ag{s:Shared}(I:Inv X pins σ H s)(r:RelV x v)(ty:tyV X.K T x H) :
  s.TypeIs v T/\∀a,v=.ref a->∃ob,s.heap.get? a=some ob/\ob.dict=none:=by
 cases x with
 |str z=>
  obtain⟨t,rfl⟩:=r;cases (show T = "str" from ty);exact⟨typeIs_str s z t,λ_ e=>nomatch e⟩
 |int i=>
  obtain⟨t,rfl⟩:=r;cases (show T = "int" from ty);exact⟨typeIs_int s i t,λ_ e=>nomatch e⟩
 |ref p=>
  cases r;rcases ty with ⟨rfl,xs,hq⟩|⟨rfl,o,hk,hc,hd⟩|⟨rfl,hk⟩|⟨rfl,S,n,hk⟩
  ·obtain⟨its,_,pl,_⟩:=I.list hq;refine⟨pl.isList.typeIs,λa e=>?_⟩
   cases e;obtain⟨o,n,e,c,hd,_⟩:=pl;exact⟨o,e,hd⟩
  ·refine⟨⟨o,I.kIn p o hk,hc⟩,λa e=>?_⟩
   cases e;exact⟨o,I.kIn _ o hk,hd⟩
  ·have z:∃o,s.heap.get? p=some o/\o.ExactDict:=by
    rcases hk with ⟨kvs,hk⟩|⟨kvs,hk⟩
    ·obtain⟨_,_,_,_,o,_,_,e,ex,_⟩:=I.hok p _ hk;exact⟨o,e,ex⟩
    ·obtain⟨_,_,_,_,o,_,_,e,ex,_⟩:=I.hok p _ hk;exact⟨o,e,ex⟩
   obtain⟨o,e,ex⟩:=z;refine⟨⟨o,e,ex.1⟩,λa e2=>?_⟩
   cases e2;exact⟨o,e,ex.2.1⟩
  ·obtain⟨o,_,_,_,e,ex,_⟩:=I.hok p _ hk;refine⟨⟨o,e,ex.1⟩,λa e2=>?_⟩
   cases e2;exact⟨o,e,ex.2.1⟩
 |_=>exact False.elim ty
noncomputable def tBM(K:Ii)(T:String)(r:V->List V->Hp->VK->Prop)(to:TE)(t:TA):TE:=λσ H Q=>to σ H λx H1=>tyV K T x H1/\t σ H1 λxs H2=>r x xs H2 Q
variable {o:Expr}{id:String}
theorem Cs(pa:PlainAttrs T)(slot:Slot T name id)(hty:typeOf (.builtin id)=pure (.type "method_descriptor"))(hm:MtR X id r)(ho:PE X o to)(ha:PA X (e::es) t)
  (hbase:attributeBase o name X.env (eval o X.env)=eval o X.env:=by rfl)
  (hfew:((backTo cpos (starEach (e::es) X.env)).all (λx=>!x.1)&&(backToKw cpos (keywordEach [] X.env)).all (λx=>x.1.isSome)
   &&decide ((e::es).length+([]:List Keyword).length+(if ([]:List Keyword).isEmpty then 0 else 1)<30))=true:=by rfl)
  (hline:(apos.endLine == cpos.line)=true:=by rfl) (hs:starEach (e::es) X.env=(false,eval e X.env)::starEach es X.env:=by rfl) (hplain:(backTo cpos (starEach es X.env)).any (·.1)=false:=by rfl) :
  PE X (.Call (.Attribute o name apos) (e::es) [] cpos) (tBM X.K T r to t):=by
 intro pins s σ H Q I h;refine wpAny_Call_method_late hbase hfew hline rfl (thn (ho pins s σ H _ I h) λv s1 ⟨x,H1,I1,r1,ty,q1⟩=>?_)
 obtain⟨h1,h2⟩:=Ag I1 r1 ty;refine⟨T,id,pa,slot,hty,h1,h2,?_⟩;have hA:=ha cpos pins s1 σ H1 _ I1 q1;rw[hs]at hA ⊢;refine Calls.callWith_builtin (by show (false||(backTo cpos (starEach es X.env)).any (·.1))=false;rw[hplain]<;>rfl) (Calls.evalArgs_plain ?_)
 exact thn hA λus s2 ⟨vs,H2,I2,r2,q2⟩=>hm pins s2 σ H2 x vs v us Q I2 r1 r2 q2
end
def MtM(X:Cx)(id:String)(r:V->List V->Hp->VK->Prop):Prop:=
 ∀(pins:List (Addr×Obj)) (s:Shared)(σ:St)(H:Hp)(x:V)(xs:List V)(v:Value)(us:List Value)(Q:VK),Inv X pins σ H s->RelV x v->Vals xs us->r x xs H Q->
  wpAny (model X.prog X.w) X.A (call (.builtin id) (v::us)) (EP X pins σ Q) X.xe s
theorem Vals.one:∀{x:V}{us:List Value},Vals [x] us->∃u,us=[u]/\RelV x u
 |_,_,.cons r .nil=>⟨_,rfl,r⟩
theorem Vals.two:∀{x y:V}{us:List Value},Vals [x,y] us->∃u v,us=[u,v]/\RelV x u/\RelV y v
 |_,_,_,.cons r (.cons q .nil)=>⟨_,_,rfl,r,q⟩
section
variable {X:Cx}{s:Shared}{l:Addr}{xs ys:List V}
theorem Inv.lset{its its':List Value}{n:Nat}{f:Array Value->Array Value}{t':Nat}(I:Inv X pins σ H s)(hH:H l=some (.lst xs))
  (e:s.heap.get? l=some {cls:=.type "list",data:=.seq its.toArray n}) (hf:f its.toArray=its'.toArray) (hv:Vals ys its') (hz:ys.length<=sizeLine) (ht:0<t':=by first|exact HH _|assumption|exact Inv.tk (by assumption)|exact Env0.tk (by assumption)|exact GU (Inv.tk (by assumption)) (Hs _ _)) :
  Inv X pins σ (upd H l (.lst ys)) {s with heap:=s.heap.update l (Obj.mapSeq f),toks:=t'}:=by
 have q:=PySem.IsL.update e f;rw[hf]at q;refine I.write (x:=l) (e:=l) (by rw[hH];exact trivial) (.inl rfl) (λb' u hb hu=>(Hm s.heap (Obj.mapSeq f) (He hb)).trans hu) ⟨_,q⟩ ?_
 exact⟨hz,its',_,hv,q⟩
theorem Inv.lnew(I:Inv X pins σ H s)(hv:Vals ys its)(hz:ys.length<=sizeLine)(ht:0<t':=by first|exact HH _|assumption|exact Inv.tk (by assumption)|exact Env0.tk (by assumption)|exact GU (Inv.tk (by assumption)) (Hs _ _)) :
  Inv X pins σ (upd H s.heap.objs.size (.lst ys)) {s with heap:=s.heap.push {cls:=.type "list",data:=.seq its.toArray},toks:=t'}:=
 I.laid (λ_ _ q=>GX _ q) (GZ _) ⟨hz,its,0,hv,G4 _ rfl⟩
theorem Inv.fresh(I:Inv X pins σ H s):H s.heap.objs.size=none:=I.hok.fresh (GZ _)
theorem Inv.lstM(I:Inv X pins σ H s)(hH:H l=some (.lst xs)):xs.length<=sizeLine/\∃(its:List Value) (n:Nat),Vals xs its/\xs.length=its.length/\s.heap.get? l=some {cls:=.type "list",data:=.seq its.toArray n}:=by
 obtain⟨z,its,n,r,e⟩:=I.hok l _ hH;exact⟨z,its,n,r,r.length,e⟩
theorem uC{n:Nat}(h:n<=sizeLine):Builtin.List.listTooLong n=false:=by
 unfold Builtin.List.listTooLong;exact Hw (by omega)
end
section
variable {X:Cx}
def rAppend:V->List V->Hp->VK->Prop:=λx vs H Q=>∃l xs y,x=.ref l/\vs=[y]/\H l=some (.lst xs)/\xs.length<sizeLine/\Q .non (upd H l (.lst (xs++[y])))
theorem k9:MtM X "list.append" rAppend:=by
 intro pins s σ H x vs v us Q I rx rv h;obtain⟨l,xs,y,rfl,rfl,hH,hz,q⟩:=h;cases rx;obtain⟨u,rfl,ru⟩:=rv.one;obtain⟨z,its,n,r,hl,e⟩:=I.lstM hH;refine call_meets F.slot_list_append ⟨_,e,rfl⟩ F.entry_list_append (F.args_list_append_2 _ _) (PySem.list_append l its.toArray n u (by rw[G7];omega)) ⟨e,?_⟩
 refine⟨.non,_,I.lset (its':=its++[u]) hH e (by simp) (r.append (.cons ru .nil)) ?_,rfl,q⟩
 rw[Hu,List.length_singleton];omega
end
section
variable {w:World}{A:Around}{s:Shared}
set_option maxRecDepth 100000 in
end
section
variable {X:Cx}
end
end L2
namespace Att
open PySem PySem.W PySem.Calls PyProof.Rows
theorem iO:∀(ns:List Int)(vs:List Value),WellAll P h vs (ns.map WData.int)->IntsAre vs ns:=by
 intro ns
 induction ns with
 |nil=>
  intro vs w;rw[List.map_nil]at w;cases w;exact .nil
 |cons n ns ih=>
  intro vs w;rw[List.map_cons]at w;cases w with
  |cons a b=>
   cases a;exact .cons _ _ (ih _ b)
theorem script_of{l:OpenLaw}(hn:l.most=some n){h:Heap}
  (hpre:l.row.toRowW.claim.pre args=true) (hwl:WellAll P h vals args) :
  ∃a vs ns,vals=[Value.ref a]/\args=[WData.list (ns.map WData.int)]/\h.get? a=some {cls:=.type "list",data:=.seq vs.toArray}/\IntsAre vs ns/\ns.length<=n:=by
 have hsh:WShape.hasAll [] args [.list .int]=true:=(pre_splitW hpre).1;have hc:l.pre.holds [] {args:=args}=true:=(pre_splitW hpre).2;obtain⟨d,r,rfl,h1,h2⟩:=hasAllW_cons hsh;obtain rfl:=hasAllW_nil h2;obtain⟨xs,rfl,h3⟩:=hasW_list h1;obtain⟨ns,rfl⟩:=items_int h3;have hlen:ns.length<=n:=by
  unfold OpenLaw.pre at hc;have h4:(WTm.not (.lt (.lit (.int (n:Int))) (.len (.arg 0)))).holds [] {args:=[.list (ns.map .int)]}=true:=by
   have h4:=(holds_andW hc).1;rw[hn]at h4;exact h4
  have h5:=condW_of h4 (w_not (w_lt w_lit (w_len_list (w_arg rfl))));rw[List.length_map]at h5;refine Nat.le_of_not_lt λq=>?_
  have q':(n:Int)<((ns.length:Nat):Int):=by omega
  first
   |(rw[decide_eq_true q']at h5;exact absurd h5 (by decide))
   |(simp at h5;omega)
 cases hwl with
 |cons w1 w2=>
  cases w2;cases w1 with
  |list ho hall=>exact⟨_,_,ns,rfl,rfl,ho,iO ns _ hall,hlen⟩
theorem post_true(l:OpenLaw)(args:List WData):l.row.toRowW.claim.post args (.bool true) args=true:=
 postW_of (r:=l.row.toRowW) (X:=(true == true))
  (show WShape.has [] (.bool true) .bool=true by first|rfl|decide|simp[WShape.has,WShape.arms,WShape.armsAll])
  (show (WTm.eq .res (.lit (.bool true))).value [] {args:=args,res:=some (.bool true),after:=args}=some (.bool (true == true)) from w_eq_bool (w_res rfl) w_lit) rfl
section
variable {w:World}{A:Around}{s:Shared}{K:Frag}
end
end Att
namespace L2
open PySem PySem.Spec PyProof.Rows
theorem gY:∀{vs:List Value}{ns:List Int},IntsAre vs ns->Vals (ns.map V.int) vs
 |_,_,.nil=>.nil
 |_,_,.cons n t h=>.cons ⟨t,rfl⟩ (gY h)
def AS(H:Hp):Prop:=∀b,H b=none\/∃o xs,H b=some (.frz o (.lst xs))
theorem ve{K:Ii}{s₁:Shared}
  (KX:K.In s₁.heap)(hns:s₁.heap.Ns mainGlobals mg)(hb:s₁.heap.Ns builtinsNs mb) (hbb:∀x:Str,x≠"__name__"->mb x=bootBuiltins x) (hlim:s₁.heap.NoLimit) (hg:s₁.gens=#[]) (htk:0<s₁.toks)
  (ha:s₁.heap.get? a=some {cls:=.type "list",data:=.seq vs.toArray}) (hi:IntsAre vs ns) (hl:ns.length<=sizeLine) (hr:Room k callerA)
  (F:∀base:Heap,K.In base->base.Ns mainGlobals mg->FnOk P w K mg base CX k fa fd [x] sp) (hbind:∀(s:Shared)(u:Value),BindsTo s fd ⟨[u],[]⟩ [(x,u)])
  (hsp:∀H:Hp,AS H->SqL K H a (ns.map V.int)->sp [.ref a] H (λv _=>v=.bl true) λ_ _ _=>False)
  (hCX:∀H e s',CX [] H s₁ (λ_ _ _=>False) e s'->False) :
  codeAny (model P w) callerA (.call (.ref fa) ⟨[.ref a],[]⟩) (λr s'=>r=.ok (.ret (.bool true))/\OldK s₁.heap s'.heap/\s'.os=s₁.os/\AllBare s'.gens) s₁:=by
 have rv:=gY hi;have lenV:=hi.length;have core:∀H:Hp,AS H->SqL K H a (ns.map V.int)->HOk P w H s₁.heap->(∀b,H b≠none->b=a)->(H a≠none->K.lookup a=none)->
   codeAny (model P w) callerA (.call (.ref fa) ⟨[.ref a],[]⟩) (λr s'=>r=.ok (.ret (.bool true))/\OldK s₁.heap s'.heap/\s'.os=s₁.os/\AllBare s'.gens) s₁:=by
  intro H hO hS hok hA hK;have base_of:∀{b:Addr}{o:Obj},s₁.heap.get? b=some o->H b=none->(mh s₁.heap H).get? b=some o:=λe n=>uw e n
  have noA:∀{b:Addr}{o:Obj}{es:Array DictEntry}{ep:Nat},s₁.heap.get? b=some o->o.data=.dict es ep->H b=none:=λ{b o es ep} e d=>by
   cases q:H b with
   |none=>rfl
   |some u=>
    have e':b=a:=hA b (by rw[q];simp)
    subst e';rw[ha]at e;cases e;have d':Data.seq vs.toArray _=Data.dict es ep:=d;cases d'
  have nsK:∀{b:Addr}{m:Str->Option Value},s₁.heap.Ns b m->(mh s₁.heap H).Ns b m:=λ{b m} ⟨o,es,ep,e,d,r⟩=>⟨o,es,ep,base_of e (noA e d),d,r⟩
  have hKb:K.In (mh s₁.heap H):=λb o e=>base_of (KX b o e) (by
   cases q:H b with
   |none=>rfl
   |some u=>
    have e':b=a:=hA b (by rw[q];simp)
    subst e';rw[hK (by rw[q];simp)]at e;cases e)
  have hM:Mod K mg (mh s₁.heap H):=⟨hKb,nsK hns,⟨mb,nsK hb,hbb⟩,let ⟨mc,h1,h2⟩:=hlim;⟨mc,nsK h1,h2⟩⟩
  have e0:Env0 P w K mg (mh s₁.heap H) callerA [] s₁ H:=⟨rfl,hM,λb o e=>vW e,Nat.le_of_eq (r8 _ _),trivial,λb hb=>absurd (show b∈([]:List Addr) from hb) (by simp),hok,.of_eq hg,htk⟩
  refine codeAny_mono ((F _ hKb (nsK hns)).run callerA [] s₁ H ⟨[.ref a],[]⟩ [.ref a] [.ref a] _ _ hr e0 (hbind s₁ (.ref a)) (.cons rfl .nil) (hsp H hO hS)) λr s' h=>?_
  cases r with
  |error e=>exact (hCX H e s' h).elim
  |ok fl=>
   cases fl with
   |next=>exact False.elim h
   |brk=>exact False.elim h
   |cont=>exact False.elim h
   |ret u=>
    obtain⟨v,H',os,bare,un,hok',r',q⟩:=h;have q':v=.bl true:=q;subst q';obtain rfl:u=Value.bool true:=r';refine⟨rfl,OldK.of_keep λb o e=>?_,os.1,bare⟩
    cases q:H b with
    |none=>exact un.keep b o e q (by intro z;exact absurd (show b∈([]:List Addr) from z) (by simp)) (by simp)
    |some u=>
     rcases hO b with z|⟨ob,xs,z⟩
     ·rw[q]at z;cases z
     ·have z2:=un.frzs b ob _ z;obtain⟨e1,_⟩:=hok b _ z;obtain⟨e2,_⟩:=hok' b _ z2;rw[e]at e1;cases e1;exact e2
 cases hk:K.lookup a with
 |some o=>
  have e:=KX a o hk;rw[ha]at e;cases e;refine core (λ_=>none) (λ_=>.inl rfl) (.inr ⟨_,vs.toArray,_,hk,rfl,rfl,rfl,by rw[G7,lenV];exact hl,by simpa using rv⟩) (λb u z=>by have z':(none:Option HO)=some u:=z;cases z') (λb z=>absurd rfl z) λz=>absurd rfl z
 |none=>
  refine core (λb=>if b=a then some (.frz {cls:=.type "list",data:=.seq vs.toArray} (.lst (ns.map V.int))) else none) (λb=>?_) (.inl (.inr ⟨{cls:=.type "list",data:=.seq vs.toArray},G3 rfl⟩)) (λb u z=>?_) (λb z=>?_) λ_=>hk
  ·by_cases hb:b=a
   ·exact .inr ⟨_,_,G3 hb⟩
   ·exact .inl (GV hb)
  ·by_cases hb:b=a
   ·have z':=(G3 hb).symm.trans z;cases z';subst hb;exact⟨ha,by rw[G8];exact hl,vs,_,rv,ha⟩
   ·have z':=(GV hb).symm.trans z;cases z'
  ·by_cases hb:b=a
   ·exact hb
   ·exact absurd (GV hb) z
noncomputable def am(s:Stmt)(j:Nat):Stmt:=match s with
 |.ClassDef _ _ _ body _ _ _ _ _ _ _=>body.getD j (.Pass ⟨0,0,0,0⟩)
 |_=>.Pass ⟨0,0,0,0⟩
noncomputable def bS(s:Stmt):Arguments:=match s with
 |.FunctionDef _ a _ _ _ _ _ _ _ _=>a
 |_=>{posonlyargs:=[],args:=[],vararg:=none,kwonlyargs:=[],kw_defaults:=[],kwarg:=none,defaults:=[]}
noncomputable def aZ(s:Stmt):List Stmt:=match s with
 |.FunctionDef _ _ b _ _ _ _ _ _ _=>b
 |_=>[]
noncomputable def ax(s:Stmt):Scope:=match s with
 |.FunctionDef _ _ _ _ _ _ sc _ _ _=>sc
 |_=>{kind:=.function,names:=[],isGenerator:=false,isCoroutine:=false}
structure Fun (K:Ii)(x qual:Str)(st:Stmt)(f:Addr)(fd:FuncData):Prop where
 ex:∃(oc:Value) (od:Option Addr) (kV doc pm:Value) (an:Option Addr) (cdv ct:Value) (osl:Array (Option Value)),
  fd=PySem.W.fnOf x qual (bS st) (aZ st) (ax st) .none kV doc pm an cdv ct/\K.lookup f=some ⟨oc,od,.func fd,osl⟩/\PySem.W.codeIn K cdv qual=true
 kp:PySem.W.keepIn K (.ref f)=true
section
variable {K:Ii}
theorem yI{x qual:Str}{st:Stmt}{f:Addr}{oc:Value}{od an:Option Addr}{osl:Array (Option Value)}{kV doc pm cdv ct:Value}(l:K.lookup f=some ⟨oc,od,.func (PySem.W.fnOf x qual (bS st) (aZ st) (ax st) .none kV doc pm an cdv ct),osl⟩)
  (c:PySem.W.codeIn K cdv qual=true) (k:PySem.W.keepIn K (.ref f)=true):Fun K x qual st f (PySem.W.fnOf x qual (bS st) (aZ st) (ax st) .none kV doc pm an cdv ct):=⟨⟨oc,od,kV,doc,pm,an,cdv,ct,osl,rfl,l,c⟩,k⟩
end
section
variable {X:Cx}
end
section
variable {κ:Type} [DecidableEq κ]
end
def DA(h:Heap)(e:Addr)(d:Option Addr):Prop:=∃o,h.get? e=some o/\o.dict=d/\nF o
theorem i6(f:Array Value->Array Value)(o:Obj):(Obj.mapFields f o).dict=o.dict:=by
 obtain⟨c,d,x,sl⟩:=o;cases x<;>rfl
section
variable {A:Around}{s:Shared}{base:Heap}{env:Env}
theorem mq{oe:Obj}{vs:Array Value}(hfr:A.frames=some (env::outer))(hl:s.heap.FunFrames base (env::outer))(hf:env.frame=some L)(he:s.heap.get? e=some oe)(hkb:base.StaysIn s.heap)(hen:base.get? e=none)
  (hd:oe.data=.fields vs) (hsz:1<vs.size) (h0:vs[0]?=some a0) (hz:nF oe) (k:∀h',Heap.NotedW base (env::outer) e oe.cls a0 (rawInt L) s.heap h'->DA h' e oe.dict->Q () {s with heap:=h'}) :
  wpAny M A (do let fr<-frameOf env;let pl<-entryPlaceOf L hadNext;let t<-EntryCells.newEntry head fr .none (rawInt L) .none pl;setField (.ref e) 1 t) Q E s:=by
 have out:e∉(env::outer).filterMap (·.frame):=λz=>by
  obtain⟨_,o,ho,nf⟩:=hl.mem z;cases he.symm.trans ho;exact nf vs hd
 refine xL (wpAny_frameOf_fun hfr hl hf λg1 sl1=>xL (wpAny_entryPlaceOf λpl hpl=>?_))
 unfold EntryCells.newEntry newFields;refine xL (Ht ?_ (hpl.sizeOk5 _ _ _ _ _));generalize hT:({cls:=.type "traceback",dict:=none,data:=.fields ([head,.ref L,.none,rawInt L,.none]++(if pl.isEmpty then List.replicate 6 Value.none else pl)).toArray}:Obj)=oT
 have e1:g1.get? e=some oe:=(sl1.2.1 e out).trans he;have b1:base.StaysIn g1:=λb o q=>(sl1.2.1 b λz=>by rw[(hl.mem z).1]at q;cases q).trans (hkb b o q)
 have e2:(g1.push oT).get? e=some oe:=GX oT e1;refine HQ e2 hd hsz (k _ ?_ ?_)
 ·have ne:g1.objs.size≠e:=Nat.ne_of_gt (G2 e1);have d3:=HV hd (·.setIfInBounds 1 (Value.ref g1.objs.size));have e3:=Hz (Obj.mapFields (·.setIfInBounds 1 (Value.ref g1.objs.size))) e2 (Obj.isFreed_of_fields d3);have t3:(g1.push oT).get? g1.objs.size=some oT:=G4 g1 (by rw[<-hT];rfl)
  have t4:((g1.push oT).update e (Obj.mapFields (·.setIfInBounds 1 (Value.ref g1.objs.size)))).get? g1.objs.size=some oT:=(Hm _ _ (He ne)).trans t3;have stay:∀b o,b≠e->g1.get? b=some o->((g1.push oT).update e (Obj.mapFields (·.setIfInBounds 1 (Value.ref g1.objs.size)))).get? b=some o:=λb o n q=>
   (Hm _ _ (He n)).trans (GX oT q)
  have other:∀b o,s.heap.get? b=some o->(∀ws,o.data≠.fields ws)->b≠e:=λb o q nf z=>by
   subst z;cases he.symm.trans q;exact nf vs hd
  refine⟨λb o q=>stay b o (λz=>by rw[z,hen]at q;cases q) (b1 b o q),hl.of_keeps λb o q nf=>?_,⟨_,_,g1.objs.size,oT,_,e3,⟨Obj.cls_mapFields _ _,?_⟩,d3,by simp[hsz],b1.fresh,ne,t4,by rw[<-hT],?_⟩,λb o q nf=>?_⟩
  ·obtain⟨sl,z⟩:=sl1.2.2 b o q;exact⟨_,stay b _ (other b o q nf) z,rfl⟩
  ·rw[Array.getElem?_setIfInBounds_ne (by decide)];exact h0
  ·first|(simp;done)|(rcases hpl with rfl|⟨_,_,_,_,_,_,_,rfl⟩<;>simp)
  ·obtain⟨sl,z⟩:=sl1.2.2 b o q;exact⟨sl,stay b _ (other b o q nf) z⟩
 ·have d3:=HV hd (·.setIfInBounds 1 (Value.ref g1.objs.size));exact⟨_,Hz (Obj.mapFields (·.setIfInBounds 1 (Value.ref g1.objs.size))) e2 (Obj.isFreed_of_fields d3),i6 _ _,_,d3,by
   obtain⟨ws,e4,e5⟩:=hz;rw[hd]at e4;cases e4;rw[Array.getElem?_setIfInBounds_ne (by decide)];exact e5⟩
theorem eA(hkb:base.StaysIn s.heap)(hl:s.heap.FunFrames base l)(ht:s.heap.TracedAtW base e cls a0 fl)(hd:DA s.heap e d)
  (k:∀h',base.StaysIn h'->h'.FunFrames base l->h'.TracedW base e cls a0->s.heap.UpToSlots h'->DA h' e d->Q () {s with heap:=h'}):wpAny M A (setFlight (.ref e) none) Q E s:=by
 obtain⟨oe,vs,T,oT,ts,he,hc,hv,h1,nT,ne,hT,dT,h3⟩:=ht;obtain⟨oe',he',hd⟩:=hd;cases he.symm.trans he';have sz:3<ts.size:=(Hy.mp h3).1;unfold setFlight;refine xL (HB he hv h1 ?_);rw[G3 (by simp:(Value.ref T != Value.none)=true)]
 have oth:∀b,b≠T->(s.heap.update T (Obj.mapFields (·.setIfInBounds 3 ((none:Option Addr).elim Value.none λf=>rawInt f)))).get? b=s.heap.get? b:=λb n=>Hm _ _ (He n)
 have plain:∀b o,s.heap.get? b=some o->(∀ws,o.data≠.fields ws)->b≠T:=λb o q nf z=>by
  subst z;cases hT.symm.trans q;exact nf ts dT
 have ee:=(oth e (He ne)).trans he;refine HQ hT dT sz (k _ (λb o q=>(oth b λz=>by rw[z,nT]at q;cases q).trans (hkb b o q)) (hl.of_keeps λb o q nf=>⟨o,(oth b (plain b o q nf)).trans q,rfl⟩) ⟨oe,vs,T,_,_,ee,hc,hv,h1,nT,ne,Hz _ hT (Obj.isFreed_of_fields (HV dT _)),HV dT _,by simp[sz]⟩
  (λb o q nf=>⟨o.slots,(oth b (plain b o q nf)).trans q⟩) ⟨oe,ee,hd⟩)
theorem oO(hfr:A.frames=some (env::outer))(hf:env.frame=some L)(fl:Heap.FlyingW base (env::outer) e cls a0 s.heap)(hd:DA s.heap e d)
  (k:∀h',Heap.HeldW base (env::outer) e cls a0 L h'->s.heap.UpToSlots h'->DA h' e d->Q () {s with heap:=h'}):wpAny M A (noteFrame (.ref e) env) Q E s:=by
 obtain⟨hkb,hen,hl,oe,vs,T,oT,ts,he,⟨rfl,h0⟩,hv,h1,nT,ne,hT,dT,h3⟩:=fl;obtain⟨oe',he',rfl,hz⟩:=hd;cases he.symm.trans he';unfold noteFrame;simp only[hf];refine xL (HB he hv h1 ?_);rw[G3 (by simp:(Value.ref T != Value.none)=true)]
 refine xL (HB hT dT h3 ?_);rw[GV (by simp[rawInt]:¬ ((Value.none == rawInt L)=true))]
 refine xL (HQ hT dT (Hy.mp h3).1 ?_);have oth:∀b,b≠T->(s.heap.update T (Obj.mapFields (·.setIfInBounds 3 Value.none))).get? b=s.heap.get? b:=λb n=>Hm _ _ (He n)
 have plain:∀b o,s.heap.get? b=some o->(∀ws,o.data≠.fields ws)->b≠T:=λb o q nf z=>by
  subst z;cases hT.symm.trans q;exact nf ts dT
 exact mq hfr (hl.of_keeps λb o q nf=>⟨o,(oth b (plain b o q nf)).trans q,rfl⟩) hf ((oth e (He ne)).trans he) (λb o q=>(oth b λz=>by rw[z,nT]at q;cases q).trans (hkb b o q)) hen hv (Hy.mp h1).1 h0 hz
  λh' ⟨x1,x2,x3,x4⟩ dd=>k h' ⟨x1,hen,x2,x3⟩ (λb o q nf=>x4 b o ((oth b (plain b o q nf)).trans q) nf) dd
theorem qu(hh:Heap.HeldW base l e cls a0 L s.heap)(hd:DA s.heap e d)(k:∀h',Heap.FlyingW base l e cls a0 h'->s.heap.UpToSlots h'->DA h' e d->Q () {s with heap:=h'}):wpAny M A (setFlight (.ref e) none) Q E s:=
 eA hh.1 hh.2.2.1 hh.2.2.2 hd λh' k1 k2 k3 k4 k5=>k h' ⟨k1,hh.2.1,k2,k3⟩ k4 k5
theorem pW(fl:Heap.FlyingW base l e cls a0 s.heap)(hd:DA s.heap e d)(k:∀h',Heap.FlyingW base l e cls a0 h'->s.heap.UpToSlots h'->DA h' e d->Q () {s with heap:=h'}):wpAny M A (setFlight (.ref e) none) Q E s:=
 eA fl.1 fl.2.2.1 fl.2.2.2.at hd λh' k1 k2 k3 k4 k5=>k h' ⟨k1,fl.2.1,k2,k3⟩ k4 k5
theorem br{h:Heap}(x:h.FunFrames base (env::outer)):h.FunFrames base outer:=x.2.2
theorem uz(hfr:A.frames=some (env::outer))(hf:env.frame=some L)(fl:Heap.FlyingW base (env::outer) e cls a0 s.heap)(hd:DA s.heap e d)
  (k:∀h',Heap.FlyingW base outer e cls a0 h'->s.heap.UpToSlots h'->DA h' e d->Q () {s with heap:=h'}):wpAny M A (leaving env (.ref e)) Q E s:=by
 unfold leaving;refine xL (oO hfr hf fl hd λh1 x1 u1 d1=>qu x1 d1 λh2 x2 u2 d2=>k h2 ⟨x2.1,x2.2.1,br x2.2.2.1,x2.2.2.2⟩ (u1.trans u2) d2)
theorem vF{oe:Obj}(hfr:A.frames=some (env::outer))(hf:env.frame=some L)(hkb:base.StaysIn s.heap)(hl:s.heap.FunFrames base (env::outer))(he:s.heap.get? e=some oe)(hen:base.get? e=none)(hv:oe.data=.fields vs)(h0:vs[0]?=some a0)(h1:vs[1]?=some .none)(h2:vs[2]?=some .none)
  (k:∀h',Heap.FlyingW base outer e oe.cls a0 h'->s.heap.UpToSlots h'->DA h' e oe.dict->Q () {s with heap:=h'}):wpAny M A (leaving env (.ref e)) Q E s:=by
 unfold leaving noteFrame;simp only[hf];refine xL (xL (HB he hv h1 ?_));rw[GV (by decide)]
 refine mq hfr hl hf he hkb hen hv (Hy.mp h1).1 h0 ⟨vs,hv,h2⟩ λh1 x1 d1=>?_
 exact eA x1.1 x1.2.1 x1.2.2.1 d1 λh2 k1 k2 k3 k4 k5=>k h2 ⟨k1,hen,br k2,k3⟩ (Heap.UpToSlots.trans x1.2.2.2 k4) k5
theorem t8(hfr:A.frames=some (env::outer))(hf:env.frame=some L)(hkb:base.StaysIn s.heap)(hen:base.get? e=none)(hl:s.heap.FunFrames base (env::outer))(ht:s.heap.TracedAtW base e cls a0 v)(hd:DA s.heap e d)
  (k:∀h',Heap.FlyingW base outer e cls a0 h'->s.heap.UpToSlots h'->DA h' e d->Q () {s with heap:=h'}):wpAny M A (leaving env (.ref e)) Q E s:=by
 by_cases hv:(v == rawInt L)=true
 ·unfold leaving;refine xL (wpAny_noteFrame_againW hf (eq_of_beq hv▸ht) ?_);exact eA hkb hl ht hd λh2 k1 k2 k3 k4 k5=>k h2 ⟨k1,hen,br k2,k3⟩ k4 k5
 obtain⟨oe,vs,T,oT,ts,he,⟨rfl,h0⟩,hvs,h1,nT,ne,hT,dT,h3⟩:=ht;obtain⟨oe',he',rfl,hz⟩:=hd;cases he.symm.trans he';unfold leaving noteFrame;simp only[hf];refine xL (xL (HB he hvs h1 ?_));rw[G3 (by simp:(Value.ref T != Value.none)=true)]
 refine xL (HB hT dT h3 ?_);rw[GV hv];refine xL (HQ hT dT (Hy.mp h3).1 ?_);have oth:∀b,b≠T->(s.heap.update T (Obj.mapFields (·.setIfInBounds 3 Value.none))).get? b=s.heap.get? b:=λb n=>Hm _ _ (He n)
 have plain:∀b o,s.heap.get? b=some o->(∀ws,o.data≠.fields ws)->b≠T:=λb o q nf z=>by
  subst z;cases hT.symm.trans q;exact nf ts dT
 refine mq hfr (hl.of_keeps λb o q nf=>⟨o,(oth b (plain b o q nf)).trans q,rfl⟩) hf ((oth e (He ne)).trans he) (λb o q=>(oth b λz=>by rw[z,nT]at q;cases q).trans (hkb b o q)) hen hvs (Hy.mp h1).1 h0 hz
  λh1 x1 d1=>eA x1.1 x1.2.1 x1.2.2.1 d1 λh2 k1 k2 k3 k4 k5=>k h2 ⟨k1,hen,br k2,k3⟩ (Heap.UpToSlots.trans (λb o q nf=>x1.2.2.2 b o ((oth b (plain b o q nf)).trans q) nf) k4) k5
theorem uR{oT:Obj}{T:Addr}(he:s.heap.get? e=some oe)(hv:oe.data=.fields vs)(h1:vs[1]?=some (.ref T))(hT:s.heap.get? T=some oT)(dT:oT.data=.fields ts)(sz:3<ts.size)
  (k:∀h' oT' ts',h'.get? T=some oT'->oT'.data=.fields ts'->3<ts'.size->(∀b,b≠T->h'.get? b=s.heap.get? b)->E (.ref e) {s with heap:=h'}):wpAny M A (PySem.passOn what (.ref e) env:Sem α) Q E s:=by
 unfold PySem.passOn setFlight;refine xL (HB he hv h1 ?_);rw[GV (by simp:¬ ((Value.ref T == Value.none)=true))]
 refine xL (xL (HB he hv h1 ?_));rw[G3 (by simp:(Value.ref T != Value.none)=true)]
 refine HQ hT dT sz (wpAny_throw (k _ _ _ (Hz _ hT (Obj.isFreed_of_fields (HV dT _))) (HV dT _) (by simp[sz]) λb n=>Hm _ _ (He n)))
end
section
variable {h h':Heap}{o:HO}
theorem ObjOk.isAt(x:ObjOk P w H h a o):∃ob,h.get? a=some ob:=by
 cases o with
 |lst xs=>obtain⟨_,_,_,_,e⟩:=x;exact⟨_,e⟩
 |tup xs=>obtain⟨_,_,_,ob,e,_⟩:=x;exact⟨_,e⟩
 |dK kvs=>obtain⟨_,_,_,_,ob,_,_,e,_⟩:=x;exact⟨_,e⟩
 |dT kvs=>obtain⟨_,_,_,_,ob,_,_,e,_⟩:=x;exact⟨_,e⟩
 |set S n=>obtain⟨ob,_,_,_,e,_⟩:=x;exact⟨_,e⟩
 |ins C dx fs=>obtain⟨_,_,_,e,_⟩:=x;exact⟨_,e⟩
 |own y=>exact x
 |xd fs=>obtain⟨_,⟨ob,_,_,e,_⟩,_⟩:=x;exact⟨_,e⟩
 |rng lo hi=>obtain⟨_,_,_,e⟩:=x;exact⟨_,e⟩
 |frz ob u=>exact⟨_,x.1⟩
 |tbl ps=>exact⟨_,x⟩
 |met f y=>exact⟨_,x⟩
 |ext φ=>exact x.2.1
theorem HOk.keptT(x:HOk P w H h)(k:∀b u ob,H b=some u->h.get? b=some ob->h'.get? b=some ob):HOk P w H h':=λa o e=>
 (x a o e).stay (λb u hb q=>hb.elim (λz=>by subst z;exact k _ _ _ e q) (λz=>k _ _ _ z q)) (λ_ q=>q) λ_ _ q=>q
end
def Fly(B:Heap)(l:List Env)(a:Addr)(cls:Value)(h:Heap):Prop:=∃a0,Heap.FlyingW B l a cls a0 h
def Within(B:Heap)(l:List Env)(hs:Heap)(H':Hp)(h':Heap):Prop:=
 ∀b ob,h'.get? b=some ob->(H' b≠none\/((∃o',hs.get? b=some o')/\b∉frs l))->B.get? b=some ob
noncomputable def CX1(P:Program)(w:World):CXT:=λouter H s E e s'=>
 ∃(a:Addr) (cls:Value) (B:Heap) (H':Hp) (dx:Option Addr),e=.ref a/\(s'.os=s.os/\0<s'.toks)/\AllBare s'.gens/\Un (frs outer) [] H H' s.heap s'.heap/\HOk P w H' s'.heap/\
  (Fly B outer a cls s'.heap/\DA s'.heap a dx)/\H' a=none/\Within B outer s.heap H' s'.heap/\E cls dx H'
theorem Inv.notrk{s:Shared}(I:Inv X pins σ H s)(hn:s.heap.get? e=none):H e=none:=by
 cases q:H e with
 |none=>rfl
 |some u=>
  obtain⟨ob,z⟩:=(I.hok e u q).isAt;rw[hn]at z;cases z
theorem Inv.oldNe{X:Cx}(I:Inv X pins σ H s)(q:X.s₀.heap.get? b=some o)(hb:b∉X.fs):b∉frs X.stack:=λhm=>by
 rcases G9.mp (I.stkSub b hm) with z|z
 ·have:=GU (G2 q) I.ok.above;rw[z]at this;exact absurd this (HI _)
 ·exact hb z
section
variable {K:Ii}{s:Shared}
theorem kW{s1:Shared}{h':Heap}{ts:List Addr}
  (I:Inv (bM (CX1 P w) P w K mg base N qual scope f cd A outer s H E) pins σ H1 s1) (hk:∀b o,s1.heap.get? b=some o->b∉ts->h'.get? b=some o) (hke:∀b∈ts,∀o,s1.heap.get? b=some o->∃vs,o.data=.fields vs) (hnt:∀b∈ts,H1 b=none) (hno:∀b∈ts,s.heap.get? b=none) (het:e∈ts)
  (lv:∀(B:Heap)(Q:Unit->Shared->Prop)(X:Value->Shared->Prop),B.StaysIn h'->h'.FunFrames B (envOfC qual scope s.heap.objs.size f cd::outer)->(∀b∈ts,B.get? b=none)->(∀h2 a0,Heap.FlyingW B outer e cls a0 h2->h'.UpToSlots h2->DA h2 e dx->Q () {s1 with heap:=h2})->
   wpAny (model P w) (bM (CX1 P w) P w K mg base N qual scope f cd A outer s H E).A (leaving (envOfC qual scope s.heap.objs.size f cd) (.ref e)) Q X {s1 with heap:=h'}) (he:E cls dx H1) :
  (bM (CX1 P w) P w K mg base N qual scope f cd A outer s H E).xe (.ref e) {s1 with heap:=h'}:=by
 have hl:s1.heap.FunFrames base (envOfC qual scope s.heap.objs.size f cd::outer):=I.stack;have hin:∀env∈(envOfC qual scope s.heap.objs.size f cd::outer),∀b,env.frame=some b->b∈ts++frs (envOfC qual scope s.heap.objs.size f cd::outer):=λenv he b hb=>Hj _ (List.mem_filterMap.mpr ⟨env,he,hb⟩)
 have hB:∀b o,(PySem.W.hideAll s1.heap (ts++frs (envOfC qual scope s.heap.objs.size f cd::outer))).get? b=some o->s1.heap.get? b=some o/\b∉ts:=λb o q=>⟨PySem.W.of_hideAll _ q,λz=>by
  rw[PySem.W.hideAll_none _ (HE _ z)]at q;cases q⟩
 have hff:s1.heap.FunFrames (PySem.W.hideAll s1.heap (ts++frs (envOfC qual scope s.heap.objs.size f cd::outer))) (envOfC qual scope s.heap.objs.size f cd::outer):=PySem.W.funFrames_hide hl hin;show wpAny _ _ (leaving _ _) _ _ _;refine lv (PySem.W.hideAll s1.heap (ts++frs (envOfC qual scope s.heap.objs.size f cd::outer))) _ _ (λb o q=>hk b o (hB b o q).1 (hB b o q).2) (hff.of_keeps λb o q nf=>⟨o,hk b o q (λz=>by
  obtain⟨ws,dw⟩:=hke b z o q;exact nf ws dw),rfl⟩) (λb z=>PySem.W.hideAll_none _ (HE _ z)) λh2 a0 fl up dd=>?_
 have tB:∀b u ob,H1 b=some u->s1.heap.get? b=some ob->(PySem.W.hideAll s1.heap (ts++frs (envOfC qual scope s.heap.objs.size f cd::outer))).get? b=some ob:=λb u ob hb q=>
  PySem.W.hideAll_get _ q λhm=>by
   rcases Ho.mp hm with z|hm
   ·rw[hnt b z]at hb;cases hb
   ·have z:=I.stkFree b hm;rw[hb]at z;cases z
 have one:∀b o,s.heap.get? b=some o->b∉ts:=λb o q z=>by rw[hno b z]at q;cases q
 have oB:∀b o ob,s.heap.get? b=some o->b∉frs outer->s1.heap.get? b=some ob->(PySem.W.hideAll s1.heap (ts++frs (envOfC qual scope s.heap.objs.size f cd::outer))).get? b=some ob:=λb o ob q hb q1=>
  PySem.W.hideAll_get _ q1 λhm=>(Ho.mp hm).elim (one b o q) (I.oldNe q hb)
 have st:=fl.1;have slot:∀b o,s.heap.get? b=some o->H b=none->b∈frs outer->∃sl,h2.get? b=some {o with slots:=sl}:=λb o q n hb=>by
  obtain⟨sl,e1⟩:=I.base.slot b o q n hb (λz=>nomatch z)
  obtain⟨_,o2,e2,nf⟩:=I.ok.funs.mem hb;have e3:o2=o:=Hg (e2.symm.trans q);subst e3;obtain⟨sl2,e4⟩:=up b _ (hk _ _ e1 (one b _ q)) nf;exact⟨sl2,e4⟩
 refine⟨e,cls,_,H1,dx,rfl,I.os,I.bare,⟨λb o q n hb _=>?_,λb o q n hb _=>slot b o q n hb,λb o q n _=>I.base.free b o q n (λz=>nomatch z),λb o q _=>?_,I.base.tups,I.base.frzs,I.base.tbls⟩,?_,⟨⟨_,fl⟩,dd⟩,hnt e het,λb ob q hb=>?_,he⟩
 ·exact st b o (oB b o o q hb (I.base.keep b o q n hb (λz=>nomatch z)))
 ·by_cases hb:b∈frs outer
  ·obtain⟨sl,z⟩:=slot b o q (I.ok.frf b hb) hb;exact⟨_,z⟩
  ·obtain⟨o',e1⟩:=I.base.there b o q (λz=>nomatch z)
   exact⟨o',st b o' (oB b o o' q hb e1)⟩
 ·exact I.hok.keptT λb u ob hb q=>st b ob (tB b u ob hb q)
 ·rcases hb with hb|⟨⟨o',ho'⟩,hb⟩
  ·cases z:H1 b with
   |none=>exact absurd z hb
   |some u=>
    obtain⟨o1,e1⟩:=(I.hok b u z).isAt;have e2:=tB b u o1 z e1;have e3:o1=ob:=Hg ((st b o1 e2).symm.trans q);rw[<-e3];exact e2
  ·obtain⟨o1,e1⟩:=I.base.there b o' ho' (λz=>nomatch z)
   have e2:=oB b o' o1 ho' hb e1;have e3:o1=ob:=Hg ((st b o1 e2).symm.trans q);rw[<-e3];exact e2
theorem kN{s1:Shared}{oe:Obj}{h':Heap}
  (I:Inv (bM (CX1 P w) P w K mg base N qual scope f cd A outer s H E) pins σ H1 s1) (hk:∀b o,s1.heap.get? b=some o->b≠e->h'.get? b=some o) (hke:∀o,s1.heap.get? e=some o->∃vs,o.data=.fields vs) (hnt:H1 e=none) (hno:s.heap.get? e=none)
  (hoe:h'.get? e=some oe) (hv:oe.data=.fields vs) (hv0:vs[0]?=some a0) (hv1:vs[1]?=some .none) (hv2:vs[2]?=some .none) (he:E oe.cls oe.dict H1) :
  (bM (CX1 P w) P w K mg base N qual scope f cd A outer s H E).xe (.ref e) {s1 with heap:=h'}:=
 kW (ts:=[e]) I (λb o q n=>hk b o q λz=>n (z▸G5)) (λb hb o q=>hke o (Hq.mp hb▸q)) (λb hb=>Hq.mp hb▸hnt) (λb hb=>Hq.mp hb▸hno) G5
  (λB Q X st ff hn k=>vF (s:={s1 with heap:=h'}) I.ok.frames rfl st ff hoe (hn e G5) hv hv0 hv1 hv2 λh2 fl up dd=>k h2 _ fl up dd) he
structure ExAt (h:Heap)(e T:Addr)(cls:Value)(dx:Option Addr):Prop where
 ex:∃oe vs oT ts a0,h.get? e=some oe/\oe.cls=cls/\oe.dict=dx/\oe.data=.fields vs/\vs[0]?=some a0/\vs[1]?=some (.ref T)/\vs[2]?=some .none/\T≠e/\h.get? T=some oT/\oT.data=.fields ts/\3<ts.size
def tN(X:Cx)(E:XK):Prop:=(X.stack=X.env::X.outer/\X.env.frame=some X.env.locals/\X.ex=[])/\∀(pins:List (Addr×Obj)) (σ:St)(H:Hp)(s:Shared)(e T:Addr)(cls:Value)(dx:Option Addr)(h':Heap),Inv X pins σ H s->(∀b,b≠T->h'.get? b=s.heap.get? b)->
 (∀o,s.heap.get? T=some o->∃vs,o.data=.fields vs)->ExAt h' e T cls dx->H e=none->H T=none->X.s₀.heap.get? e=none->X.s₀.heap.get? T=none->E cls dx H->X.xe (.ref e) {s with heap:=h'}
theorem AF:tN (bM (CX1 P w) P w K mg base N qual scope f cd A outer s H E) E:=⟨⟨rfl,rfl,rfl⟩,λpins σ H1 s1 e T cls dx h' I hk hT ⟨oe,vs,oT,ts,a0,e1,e2,e3,e4,e5,e6,e62,e7,e8,e9,e10⟩ h1 h2 h3 h4 he=>by
 have all:∀{p:Addr->Prop},p e->p T->∀b∈[e,T],p b:=λ{p} x y b hb=>by
  rcases G9.mp hb with z|z
  ·rw[z];exact x
  ·rw[Hq.mp z];exact y
 subst e2 e3;refine kW (ts:=[e,T]) I (λb o q n=>(hk b λz=>n (by simp[z])).trans q) (all (p:=λb=>∀o,s1.heap.get? b=some o->∃vs,o.data=.fields vs) (λo q=>?_) hT) (all h1 h2) (all h3 h4) G5 (λB Q X st ff hn k=>?_) he
 ·rw[(hk e (He e7)).trans q]at e1;cases e1;exact⟨vs,e4⟩
 ·exact t8 (s:={s1 with heap:=h'}) (v:=ts[3]) I.ok.frames rfl st (hn e G5) ff ⟨oe,vs,T,oT,ts,e1,⟨rfl,e5⟩,e4,e6,hn T (by simp),e7,e8,e9,Array.getElem?_eq_getElem e10⟩ ⟨oe,e1,rfl,vs,e4,e62⟩ λh2 fl up dd=>k h2 _ fl up dd⟩
theorem rN{s1:Shared}
  (I:Inv (bM (CX1 P w) P w K mg base N qual scope f cd A outer s H E) pins σ H1 s1) (hx:Heap.MadeExcOf s1.heap h' e cls args)(he:E cls none H1) :
  (bM (CX1 P w) P w K mg base N qual scope f cd A outer s H E).xe (.ref e) {s1 with heap:=h'}:=by
 obtain⟨t,e1,_,_⟩:=hx.there;refine kN I (λb o q _=>hx.keeps b o q) (λo q=>by rw[hx.new]at q;cases q) (I.notrk hx.new) ?_ e1 rfl rfl rfl rfl he
 cases q:s.heap.get? e with
 |none=>rfl
 |some o=>
  obtain⟨o1,z⟩:=I.base.there e o q (λz=>nomatch z)
  rw[hx.new]at z;cases z
theorem vk(hE:∀c d H',E' c d H'->E c d H')
  (I:Inv (bM (CX1 P w) P w K mg base N qual scope f cd A outer s H E) pins σ H1 s1) (hc:CX1 P w (envOfC qual scope s.heap.objs.size f cd::outer) H1 s1 E' e s') :
  (bM (CX1 P w) P w K mg base N qual scope f cd A outer s H E).xe e s':=by
 obtain⟨a,cls,B,H2,dx,rfl,os,bare,un,hok,⟨⟨a0,fl⟩,dd⟩,ha,inc,he⟩:=hc;have hfr:((bM (CX1 P w) P w K mg base N qual scope f cd A outer s H E).A).frames=some (envOfC qual scope s.heap.objs.size f cd::outer):=I.ok.frames;show wpAny _ _ (leaving _ _) _ _ _;refine uz hfr rfl fl dd λh2 fl2 up dd2=>?_
 have st:=fl2.1;have nil:∀b:Addr,b∉([]:List Addr):=λb z=>nomatch z
 have slot:∀b o,s.heap.get? b=some o->H b=none->b∈frs outer->∃sl,h2.get? b=some {o with slots:=sl}:=λb o q n hb=>by
  obtain⟨sl,e1⟩:=I.base.slot b o q n hb (nil b);obtain⟨sl1,e2⟩:=un.any e1 (I.base.free b o q n (nil b)) (nil b);obtain⟨_,o2,e3,nf⟩:=I.ok.funs.mem hb;have e4:o2=o:=Hg (e3.symm.trans q);subst e4;obtain⟨sl2,e5⟩:=up b _ e2 nf;exact⟨sl2,e5⟩
 have old:∀b o,s.heap.get? b=some o->b∉frs outer->∃ob,s'.heap.get? b=some ob/\B.get? b=some ob:=λb o q hb=>by
  obtain⟨o1,e1⟩:=I.base.there b o q (nil b);obtain⟨o2,e2⟩:=un.there b o1 e1 (nil b);exact⟨o2,e2,inc b o2 e2 (.inr ⟨⟨o1,e1⟩,I.oldNe q hb⟩)⟩
 refine⟨a,cls,B,H2,dx,rfl,⟨os.1.trans I.os.1,os.2⟩,bare,⟨λb o q n hb _=>?_,λb o q n hb _=>slot b o q n hb,λb o q n _=>?_,λb o q _=>?_,λb xs q=>un.tups b xs (I.base.tups b xs q),λb o u q=>un.frzs b o u (I.base.frzs b o u q),λb ps q=>?_⟩,?_,⟨⟨a0,fl2⟩,dd2⟩,ha,λb ob q hb=>?_,hE _ _ _ he⟩
 ·have e1:=I.base.keep b o q n hb (nil b);have e2:=un.keep b o e1 (I.base.free b o q n (nil b)) (I.oldNe q hb) (nil b);exact st b o (inc b o e2 (.inr ⟨⟨o,e1⟩,I.oldNe q hb⟩))
 ·obtain⟨o1,e1⟩:=I.base.there b o q (nil b);exact un.free b o1 e1 (I.base.free b o q n (nil b)) (nil b)
 ·by_cases hb:b∈frs outer
  ·obtain⟨sl,z⟩:=slot b o q (I.ok.frf b hb) hb;exact⟨_,z⟩
  ·obtain⟨ob,_,e2⟩:=old b o q hb;exact⟨ob,st b ob e2⟩
 ·obtain⟨m1,e1⟩:=I.base.tbls b ps q;obtain⟨m2,e2⟩:=un.tbls b _ e1;exact⟨m1++m2,by rw[e2,Array.append_assoc]⟩
 ·exact hok.keptT λb u ob hb q=>st b ob (inc b ob q (.inl (by rw[hb];exact λz=>nomatch z)))
 ·rcases hb with hb|⟨⟨o',ho'⟩,hb⟩
  ·cases z:H2 b with
   |none=>exact absurd z hb
   |some u=>
    obtain⟨o1,e1⟩:=(hok b u z).isAt;have e2:=inc b o1 e1 (.inl hb);have e3:o1=ob:=Hg ((st b o1 e2).symm.trans q);rw[<-e3];exact e2
  ·obtain⟨o1,e1,e2⟩:=old b o' ho' hb;have e3:o1=ob:=Hg ((st b o1 e2).symm.trans q);rw[<-e3];exact e2
theorem Be:AG (CX1 P w) (bM (CX1 P w) P w K mg base N qual scope f cd A outer s H E) E:=λ_ _ _ _ _ _ I h=>vk (λ_ _ _ z=>z) I h
theorem DW:PassesOwn (model P w) (bM (CX1 P w) P w K mg base N qual scope f cd A outer s H E).A (bM (CX1 P w) P w K mg base N qual scope f cd A outer s H E).env (bM (CX1 P w) P w K mg base N qual scope f cd A outer s H E).xe:=
 PassesOwn.leaving
end
def lR(X:Cx)(E:XK):Prop:=∀(pins:List (Addr×Obj)) (σ:St)(H:Hp)(s:Shared)(e:Addr)(cls:Value)(args:List Value)(h':Heap),Inv X pins σ H s->Heap.MadeExcOf s.heap h' e cls args->E cls none H->X.xe (.ref e) {s with heap:=h'}
def qy(X:Cx)(E:XK):Prop:=∀(pins:List (Addr×Obj)) (σ:St)(H:Hp)(s:Shared)(e:Addr)(oe:Obj)(vs:Array Value)(a0:Value),Inv X pins σ H s->H e=none->X.s₀.heap.get? e=none->s.heap.get? e=some oe->oe.data=.fields vs->vs[0]?=some a0->vs[1]?=some .none->vs[2]?=some .none->E oe.cls oe.dict H->X.xe (.ref e) s
theorem ub{K:Ii} :
  qy (bM (CX1 P w) P w K mg base N qual scope f cd A outer s H E) E:=λ_ _ _ s1 e oe vs a0 I ht h0 hoe hv v0 v1 v2 he=>kN (h':=s1.heap) I (λ_ _ q _=>q) (λo q=>by
 cases hoe.symm.trans q;exact⟨vs,hv⟩) ht h0 hoe hv v0 v1 v2 he
theorem vZ{K:Ii} :
  lR (bM (CX1 P w) P w K mg base N qual scope f cd A outer s H E) E:=λ_ _ _ _ _ _ _ _ I hx he=>rN I hx he
abbrev bmV:List Value:=[.type "ValueError",.type "Exception",.type "BaseException",.type "object"]
def wX(K:Ii)(C:Addr):Prop:=PySem.W.excIn K C bmV "ValueError.__new__"=true
noncomputable def yq(E:XK)(C:Addr)(t:TA):TS:=λ_ σ H=>t σ H λvs H1=>vs.length<=sizeLine/\E (.ref C) none H1
theorem xa{K:Ii}{h:Heap}(X:K.In h)(z:PySem.W.excIn K C bmB nid=true) :
  ∃bm M nm qn bs b1 sn sb b2 co dd x0 x1 x2 x3 x5 mN,h.get? C=some (excClassObj nm qn C M bs bm b1 sn sb b2 co dd x0 x1 x2 x3 x5 nid)/\h.Ns M mN/\mN "__init__"=none/\OwnTail h bmB bm:=by
 unfold PySem.W.excIn at z;split at z
 next dd cd sl ho=>
  split at z
  next C' bm x0 x1 x2 x3 n x5 hm hs=>
   rw[GS,GS,GS,GS,GS,Hb,Hb,Hb]at z;have z1:=z.1.1.1.1.1;have z2:=z.1.1.1.1.2;have z3:=z.1.1.1.2;have z4:=z.1.1.2;have z5:=z.1.2;have z6:=z.2;subst z1;subst z2;cases cd with
   |mk nm bs mro ns qn hd sn sub ab col del=>
    cases hm;cases del with
    |true=>cases z3
    |false=>
     have es:sl=#[x0,x1,x2,x3,some (.builtin n),x5]:=by
      cases sl with
      |mk l=>cases hs;rfl
     subst es;exact⟨bm,ns,nm,qn,bs,hd,sn,sub,ab,col,dd,x0,x1,x2,x3,x5,_,X _ _ ho,.of_isNs (PySem.W.isNs_of_in X z5),PySem.W.nsMap_none_of_in X z5 z6,PySem.W.tail_of_in X z4⟩
  next=>cases z
 next=>cases z
section
variable {X:Cx}
theorem tK(hx:lR X E)(hc:X.calm=true)(hg:Gl X x)(hm:X.mg x=some (.ref C))(q:wX X.K C)(ha:PA X (e::es) t)(hdb:(x == ("__debug__" : Str))=false:=by decide)
  (he:starEach (e::es) X.env=(false,eval e X.env)::starEach es X.env:=by rfl) (hpl:(backTo cpos (starEach es X.env)).any (·.1)=false:=by rfl) :
  PS X (.Raise (some (.Call (.Name x np) (e::es) [] cpos)) none pos) (yq E C t):=by
 intro pins s σ H D I h;obtain⟨bm,M,nm,qn,bs,b1,sn,sb,b2,co,dd,x0,x1,x2,x3,x5,mN,hC,hN,hni,T⟩:=xa I.ok.mod.kin q;refine wpAny_Raise_call_subT (C:=C) (nm:=nm) (q:=qn) (N:=M) (bs:=bs) (bm:=bm) (hdct:=b1) (sn:=sn) (sub:=sb) (ab:=b2) (col:=co) (dd:=dd) (k0:=x0) (k1:=x1) (k2:=x2) (k3:=x3) (k5:=x5)
  PySem.F.excBase_ValueError (mN:=mN) (T.hasType PySem.F.excBase_ValueError.hasBase) (I.ok.hd hc) ?pl hni (bQ I hg hm ⟨rfl,?_⟩ hdb)
 case pl=>
  rw[he];show (false||(backTo cpos (starEach es X.env)).any (·.1))=false
  rw[hpl];rfl
 have h2:=ha cpos pins s σ H _ I h;rw[he]at h2 ⊢;refine Calls.evalArgs_plain (thn h2 λus s2 ⟨vs,H2,I2,r,z,q2⟩=>?_)
 exact⟨rfl,by rw[<-r.length];exact z,I2.bk _ _ hC,hN.keeps I2.bk,T.keeps I2.bk,λh' a hm'=>hx pins σ H2 s2 a _ us h' I2 hm' q2⟩
end
def aQ(CX:CXT)(X:Cx)(E:St->XK):Prop:=∀(pins:List (Addr×Obj)) (σ:St)(H:Hp)(s:Shared)(e:Value)(s':Shared),Inv X pins σ H s->CX X.stack H s (E σ) e s'->X.xe e s'
section
variable {X:Cx}{p:Pos}{o:Expr}
end
section
variable {X:Cx}{σ:St}{s1 s':Shared}{B:Heap}
theorem Inv.behind(I:Inv X pins σ H1 s1)(os:s'.os=s1.os/\0<s'.toks)(bare:AllBare s'.gens)(un:Un (frs X.stack) [] H1 H2 s1.heap s'.heap)(hok:HOk X.prog X.w H2 s'.heap)
  (inc:Within B X.stack s1.heap H2 s'.heap)(st:B.StaysIn h4)(up:s'.heap.UpToSlots h4):Inv X pins σ H2 {s' with heap:=h4}:=by
 have nil:∀b:Addr,b∉([]:List Addr):=λb z=>nomatch z
 have dataK:∀b o,s1.heap.get? b=some o->H1 b=none->(∀vs,o.data≠.fields vs)->∃sl,h4.get? b=some {o with slots:=sl}:=λb o q n nf=>by
  obtain⟨sl,e1⟩:=un.any q n (nil b);obtain⟨sl2,e2⟩:=up b _ e1 nf;exact⟨sl2,e2⟩
 have cellK:∀x c,X.env.cells.lookup x=some c->∀v,s1.heap.IsCell c v->h4.IsCell c v:=λx c e v ⟨o,ho,hd⟩=>by
  obtain⟨sl,z⟩:=dataK c o ho (I.freeC x c e) λvs q=>by rw[hd]at q;cases q
  exact⟨_,z,hd⟩
 refine⟨I.ok,⟨os.1.trans I.os.1,os.2⟩,bare,⟨λb o q n hb hx=>?_,λb o q n hb hx=>?_,λb o q n hx=>?_,λb o q hx=>?_,λb xs q=>un.tups b xs (I.base.tups b xs q),λb o u q=>un.frzs b o u (I.base.frzs b o u q),λb ps q=>?_⟩,?_,λx c e=>?_,?_,λx c e=>?_,λp hp=>?_,?_,I.len⟩
 ·have e1:=I.base.keep b o q n hb hx;have e2:=un.keep b o e1 (I.base.free b o q n hx) (I.oldNe q hb) (nil b);exact st b o (inc b o e2 (.inr ⟨⟨o,e1⟩,I.oldNe q hb⟩))
 ·obtain⟨sl,e1⟩:=I.base.slot b o q n hb hx;obtain⟨_,o2,e3,nf⟩:=I.ok.funs.mem hb;have e4:o2=o:=Hg (e3.symm.trans q);subst e4;obtain⟨sl2,e5⟩:=dataK b _ e1 (I.base.free b _ q n hx) nf;exact⟨sl2,e5⟩
 ·obtain⟨o1,e1⟩:=I.base.there b o q hx;exact un.free b o1 e1 (I.base.free b o q n hx) (nil b)
 ·obtain⟨o1,e1⟩:=I.base.there b o q hx;by_cases hb:b∈X.fs
  ·obtain⟨_,o2,e3,nf⟩:=I.ok.funs.mem hb;obtain⟨sl,e4⟩:=I.base.slot b o2 e3 (I.ok.frf b hb) hb hx;obtain⟨sl2,e5⟩:=dataK b _ e4 (I.base.free b _ e3 (I.ok.frf b hb) hx) nf;exact⟨_,e5⟩
  ·obtain⟨o2,e2⟩:=un.there b o1 e1 (nil b);exact⟨o2,st b o2 (inc b o2 e2 (.inr ⟨⟨o1,e1⟩,I.oldNe q hb⟩))⟩
 ·obtain⟨m1,e1⟩:=I.base.tbls b ps q;obtain⟨m2,e2⟩:=un.tbls b _ e1;exact⟨m1++m2,by rw[e2,Array.append_assoc]⟩
 ·obtain⟨m,⟨o,es,ep,ho,hd,r⟩,hl⟩:=I.loc;obtain⟨sl,z⟩:=dataK _ o ho I.free λvs q=>by rw[hd]at q;cases q
  refine⟨m,⟨_,es,ep,z,hd,r⟩,λi x v e1 e2 e3=>?_⟩
  obtain⟨u,r',l⟩:=hl i x v e1 e2 e3;refine⟨u,r',l.elim .inl λ⟨k,c,e,z⟩=>.inr ⟨k,c,e,cellK x c e _ z⟩⟩
 ·obtain⟨v,z⟩:=I.cell x c e;exact⟨v,cellK x c e v z⟩
 ·obtain⟨m,⟨o,_,_,ho,_⟩,_⟩:=I.loc;exact un.free _ o ho I.free (nil _)
 ·obtain⟨v,o,ho,_⟩:=I.cell x c e;exact un.free c o ho (I.freeC x c e) (nil _)
 ·obtain⟨e,n,ne,nf,d⟩:=I.pin p hp;have nb:p.1∉frs X.stack:=λhm=>(G9.mp (I.stkSub _ hm)).elim ne nf
  have e2:=un.keep p.1 p.2 e n nb (nil _);exact⟨st _ _ (inc _ _ e2 (.inr ⟨⟨_,e⟩,nb⟩)),un.free p.1 p.2 e n (nil _),ne,nf,d⟩
 ·exact hok.keptT λb u ob hb q=>st b ob (inc b ob q (.inl (by rw[hb];exact λz=>nomatch z)))
theorem qe(fl:Fly B X.stack a cls s'.heap)(inc:Within B X.stack s1.heap H2 s'.heap):s1.heap.get? a=none:=by
 obtain⟨a0,f1,f2,f3,oe,vs,T,oT,ts,he,hc,hd,_⟩:=fl;cases q:s1.heap.get? a with
 |none=>rfl
 |some o=>
  have z:=inc a oe he (.inr ⟨⟨o,q⟩,λhm=>by
   obtain⟨_,o2,e2,nf⟩:=f3.mem hm;rw[he]at e2;cases e2;exact nf vs hd⟩)
  rw[f2]at z;cases z
end
noncomputable def uF(a:Addr)(cls:Value)(dx:Option Addr):HO:=.ext λh=>∃o vs,h.get? a=some o/\o.cls=cls/\o.data=.fields vs/\o.dict=dx
section
variable {X:Cx}{σ:St}{s:Shared}
theorem Inv.trackExc{o:Obj}(I:Inv X pins σ H s)(hn:H a=none)(ho:s.heap.get? a=some o)(hc:o.cls=cls)(hd:o.data=.fields vs)(hdx:o.dict=dx)(h0:X.s₀.heap.get? a=none)(hp:∀p∈X.pn++pins,p.1≠a) :
  Inv X pins σ (upd H a (.frz o (uF a cls dx))) s:=by
 have ne:∀b u,H b=some u->b≠a:=λb u q=>au q hn
 have nL:X.env.locals≠a:=λz=>by
  obtain⟨m,⟨o',_,_,ho',hd',_⟩,_⟩:=I.loc;rw[z,ho]at ho';cases ho';rw[hd]at hd';cases hd'
 have nC:∀x c,X.env.cells.lookup x=some c->c≠a:=λx c e z=>by
  obtain⟨v,o',ho',hd'⟩:=I.cell x c e;rw[z,ho]at ho';cases ho';rw[hd]at hd';cases hd'
 refine⟨I.ok,I.os,I.bare,⟨I.base.keep,I.base.slot,λb o' q n hx=>?_,I.base.there,λb xs q=>?_,λb o' u q=>?_,λb ps q=>?_⟩,I.loc,I.cell,?_,λx c e=>?_,λp hp'=>?_,λb u q=>?_,I.len⟩
 ·rw[ac λz=>by rw[z,h0]at q;cases q]
  exact I.base.free b o' q n hx
 ·have z:=I.base.tups b xs q;rw[ac (ne _ _ z)];exact z
 ·have z:=I.base.frzs b o' u q;rw[ac (ne _ _ z)];exact z
 ·obtain⟨m,z⟩:=I.base.tbls b ps q;exact⟨m,by rw[ac (ne _ _ z)];exact z⟩
 ·rw[ac nL];exact I.free
 ·rw[ac (nC x c e)];exact I.freeC x c e
 ·obtain⟨e,n,r⟩:=I.pin p hp';exact⟨e,by rw[ac (hp p hp')];exact n,r⟩
 ·by_cases hb:b=a
  ·subst hb;rw[ae]at q;cases q;exact⟨ho,⟨o,vs,ho,hc,hd,hdx⟩,⟨o,ho⟩,λh1 h2 ⟨o1,vs1,e1,e2,e3⟩ k=>⟨o1,vs1,k _ e1,e2,e3⟩⟩
  ·rw[ac hb]at q;exact (I.hok b u q).stay (λ_ _ _ z=>z) (λc z=>by rw[ac (ne _ _ z)];exact z) λc xs z=>by rw[ac (ne _ _ z)];exact z
theorem Inv.goes{h':Heap}(hi:X.N[i]?=some n)(hN:X.N.Nodup)(I:Inv X pins σ H s)(hm:s.heap.Ns X.env.locals m)
  (hl:∀(j:Nat)(x:Str)(w:V),X.N[j]?=some x->σ[j]?=some (some w)->Vis X.env.scope x->∃u,RelV w u/\CI X.env s.heap m x u)
  (hn:h'.Ns X.env.locals (λx=>if x=n then v else m x)) (hs:Heap.SameBut X.env.locals s.heap h') (ht:0<t':=by first|exact HH _|assumption|exact Inv.tk (by assumption)|exact Env0.tk (by assumption)|exact GU (Inv.tk (by assumption)) (Hs _ _)):Inv X pins (σ.set i none) H {s with heap:=h',toks:=t'}:=by
 obtain⟨oL,_,_,hoL,_⟩:=id hm;have old:∀b o,X.s₀.heap.get? b=some o->h'.get? b=s.heap.get? b:=λb o e=>hs.2 b (Hl (GU (G2 e) I.ok.above))
 refine⟨I.ok,⟨I.os.1,ht⟩,I.bare,⟨λb o q n hb hx=>(old b o q).trans (I.base.keep b o q n hb hx),λb o q n hb hx=>?_,I.base.free,λb o q hx=>?_,I.base.tups,I.base.frzs,I.base.tbls⟩,⟨_,hn,λj y w e1 e2 e3=>?_⟩,λy c e=>?_,I.free,I.freeC,λp hp=>?_,λb u q=>?_,by rw[List.length_set];exact I.len⟩
 ·obtain⟨sl,z⟩:=I.base.slot b o q n hb hx;exact⟨sl,(old b o q).trans z⟩
 ·obtain⟨o',z⟩:=I.base.there b o q hx;exact⟨o',(old b o q).trans z⟩
 ·have hj:j≠i:=λz=>by
   subst z;rw[List.getElem?_set_self']at e2;cases q:σ[j]? with
   |none=>rw[q]at e2;cases e2
   |some r=>rw[q]at e2;cases e2
  rw[Ib (He hj)]at e2;obtain⟨u,r,l⟩:=hl j y w e1 e2 e3;refine⟨u,r,?_⟩;rcases l with ⟨k,e⟩|⟨k,c,e,z⟩
  ·refine .inl ⟨k,?_⟩;have:y≠n:=λe=>hj (jd hN e1 (e▸hi))
   show (if y=n then v else m y)=some u
   rw[GV this];exact e
  ·exact .inr ⟨k,c,e,z.sameBut hs (I.cne y c e)⟩
 ·obtain⟨w',z⟩:=I.cell y c e;exact⟨w',z.sameBut hs (I.cne y c e)⟩
 ·obtain⟨e,n,ne,nf,d⟩:=I.pin p hp;exact⟨(hs.2 p.1 ne).trans e,n,ne,nf,d⟩
 ·refine (I.hok b u q).stay (λc w' hc z=>(hs.2 c ?_).trans z) (λ_ z=>z) λ_ _ z=>z
  rintro rfl;rcases hc with rfl|hc
  ·rw[I.free]at q;cases q
  ·rw[I.free]at hc;cases hc
end
noncomputable abbrev Cx.marked(X:Cx)(v:Value):Cx:={X with A:=X.A.mark (some v),calm:=false,xe:=λ_ _=>False}
noncomputable abbrev Cx.markedS(X:Cx)(a:Addr)(o:Obj)(u:HO):Cx:={X with A:=X.A.mark (some (.ref a)),H₀:=upd X.H₀ a (.frz o u),calm:=false,xe:=λ_ _=>False}
noncomputable abbrev Cx.tryX(X:Cx)(pn:List (Addr×Obj))(W:Value->Shared->Prop):Cx:={X with pn:=X.pn++pn,xe:=W}
section
variable {X:Cx}
theorem Inv.marked(I:Inv X pins σ H s)(v:Value):Inv (X.marked v) pins σ H s:=
 ⟨⟨I.ok.mod,I.ok.kind,I.ok.glob,I.ok.blt,I.ok.above,I.ok.inj,I.ok.has,I.ok.cab,(λz=>nomatch z),I.ok.frames,I.ok.stk,I.ok.exf,I.ok.bs,I.ok.bsz,I.ok.noex,I.ok.exfs,I.ok.funs,I.ok.frf⟩,I.os,I.bare,I.base,I.loc,I.cell,I.free,I.freeC,I.pin,I.hok,I.len⟩
theorem Inv.unmark{v:Value}(ok:X.Ok)(I:Inv (X.marked v) pins σ H s):Inv X pins σ H s:=⟨ok,I.os,I.bare,I.base,I.loc,I.cell,I.free,I.freeC,I.pin,I.hok,I.len⟩
theorem Inv.markedS(I:Inv X pins σ H s)(h0:X.s₀.heap.get? a=none)(ha:H a=some (.frz o u)):Inv (X.markedS a o u) pins σ H s:=by
 have n0:∀b ob,X.s₀.heap.get? b=some ob->b≠a:=λb ob e z=>by rw[z,h0]at e;cases e
 have n1:∀b,upd X.H₀ a (.frz o u) b=none->X.H₀ b=none:=λb e=>by
  rwa [ac λz=>by rw[z,ae]at e;cases e]at e
 refine⟨⟨I.ok.mod,I.ok.kind,I.ok.glob,I.ok.blt,I.ok.above,I.ok.inj,I.ok.has,I.ok.cab,(λz=>nomatch z),I.ok.frames,I.ok.stk,I.ok.exf,λb ob e=>?_,I.ok.bsz,I.ok.noex,I.ok.exfs,I.ok.funs,λb hb=>?_⟩,I.os,I.bare,⟨λb ob e n=>I.base.keep b ob e (n1 b n),λb ob e n=>I.base.slot b ob e (n1 b n),λb ob e n=>I.base.free b ob e (n1 b n),I.base.there,λb xs e=>?_,λb ob v e=>?_,λb ps e=>?_⟩,I.loc,I.cell,I.free,I.freeC,I.pin,I.hok,I.len⟩
 ·have z:=I.ok.bs b ob e;exact⟨z.1,(ac (n0 b ob z.1)).trans z.2⟩
 ·obtain⟨_,ob,e,_⟩:=I.ok.funs.mem hb;exact (ac (n0 b ob e)).trans (I.ok.frf b hb)
 all_goals
  have e:upd X.H₀ a _ b=_:=e;by_cases hb:b=a
  ·subst hb;rw[ae]at e;cases e<;>exact ha
  ·rw[ac hb]at e
   first|exact I.base.tups b xs e|exact I.base.frzs b ob v e|exact I.base.tbls b ps e
theorem Inv.unmarkS(I0:Inv X pins0 σ0 H0 s0)(h0:X.s₀.heap.get? a=none)(ha:H0 a=none)(I:Inv (X.markedS a o u) pins σ H s):Inv X pins σ H s:=by
 have n1:∀b ob,X.s₀.heap.get? b=some ob->X.H₀ b=none->upd X.H₀ a (.frz o u) b=none:=λb ob e n=>by
  rw[ac λz=>by rw[z,h0]at e;cases e];exact n
 refine⟨I0.ok,I.os,I.bare,⟨λb ob e n=>I.base.keep b ob e (n1 b ob e n),λb ob e n=>I.base.slot b ob e (n1 b ob e n),λb ob e n=>I.base.free b ob e (n1 b ob e n),I.base.there,λb xs e=>I.base.tups b xs ?_,λb ob v e=>I.base.frzs b ob v ?_,λb ps e=>I.base.tbls b ps ?_⟩,I.loc,I.cell,I.free,I.freeC,I.pin,I.hok,I.len⟩
 all_goals
  show upd _ _ _ b=_;rw[ac]
  ·exact e
  ·intro z;subst z
   first
    |(have w:=I0.base.tups b xs e;rw[ha]at w;cases w;done)
    |(have w:=I0.base.frzs b ob v e;rw[ha]at w;cases w;done)
    |(obtain⟨_,w⟩:=I0.base.tbls b ps e;rw[ha]at w;cases w)
theorem Cx.Ok.tryX(ok:X.Ok)(pn:List (Addr×Obj))(W:Value->Shared->Prop):(X.tryX pn W).Ok:=
 ⟨ok.mod,ok.kind,ok.glob,ok.blt,ok.above,ok.inj,ok.has,ok.cab,ok.hd,ok.frames,ok.stk,ok.exf,ok.bs,ok.bsz,ok.noex,ok.exfs,ok.funs,ok.frf⟩
theorem Inv.tryX(I:Inv X pins σ H s)(W:Value->Shared->Prop):Inv (X.tryX pins W) [] σ H s:=
 ⟨I.ok.tryX _ _,I.os,I.bare,I.base,I.loc,I.cell,I.free,I.freeC,λp hp=>I.pin p (by rw[HM]at hp;exact hp),I.hok,I.len⟩
theorem Inv.untry(ok:X.Ok)(I:Inv (X.tryX pn W) pins σ H s):Inv X pn σ H s:=
 ⟨ok,I.os,I.bare,I.base,I.loc,I.cell,I.free,I.freeC,λp hp=>I.pin p (HE _ hp),I.hok,I.len⟩
end
def XI(X:Cx)(pins:List (Addr×Obj))(σ:St)(H:Hp)(a:Addr)(cls:Value)(dx:Option Addr)(s:Shared):Prop:=
 ∃B a0,Inv X pins σ H s/\(Heap.FlyingW B X.stack a cls a0 s.heap/\DA s.heap a dx)/\H a=none/\X.s₀.heap.get? a=none/\(∀p∈X.pn++pins,p.1≠a)/\∀h4,B.StaysIn h4->s.heap.UpToSlots h4->Inv X pins σ H {s with heap:=h4}
def PH(X:Cx)(hs:List ExceptHandler)(t:Ends->St->XK):Prop:=
 ∀(pins:List (Addr×Obj)) (s:Shared)(σ:St)(H:Hp)(D:Ends)(a:Addr)(cls:Value)(dx:Option Addr),XI X pins σ H a cls dx s->t D σ cls dx H->wpAny (model X.prog X.w) X.A (handleBy (.ref a) X.env hs) (SP X pins D) X.xe s
noncomputable def Ends.goes(D:Ends)(i:Nat):Ends:=⟨λσ H=>D.nx (σ.set i none) H,D.rt,λσ H=>D.bk (σ.set i none) H,λσ H=>D.ct (σ.set i none) H⟩
def E4(K:Ii)(C:Addr)(i:Nat)(ts:TS)(tr:Ends->St->XK):Ends->St->XK:=λD σ cls d H=>
 (PySem.W.exmOne K cls (.ref C)=some true/\∀a o,H a=none->ts (D.goes i) (σ.set i (some (.ref a))) (upd H a (.frz o (uF a cls d))))\/(PySem.W.exmOne K cls (.ref C)=some false/\tr D σ cls d H)
def Fi(K:Ii)(C:Addr)(ts:TS)(tr:Ends->St->XK):Ends->St->XK:=λD σ cls d H=>
 (PySem.W.exmOne K cls (.ref C)=some true/\ts D σ H)\/(PySem.W.exmOne K cls (.ref C)=some false/\tr D σ cls d H)
section
variable {X:Cx}{c n:Str}{C:Addr}{b0:Stmt}{suite:List Stmt}{np hpos pos:Pos}{az:List ExceptHandler}{ts:TS}{tr:Ends->St->XK}{i:Nat}
theorem gy{M:Model}{B h:Heap}{l:List Env}{a:Addr}{cls a0:Value}(fl:Heap.FlyingW B l a cls a0 h):PySem.W.Looks M h (typeOf (.ref a)) cls:=by
 obtain⟨ob,hob,hc⟩:=fl.there;exact hc▸(PySem.W.Looks.ld hob).andThen .now
theorem Cc(hg:Gl X c)(hm:X.mg c=some (.ref C))(hN:X.N.Nodup)(hi:X.N[i]?=some n)(hl:X.env.scope.names.lookup n=some .local)(hs:∀a o u,nF o->PSs (X.markedS a o u) (b0::suite) ts)(hr:PH X az tr)(hdb:(c == ("__debug__" : Str))=false:=by decide) :
  PH X (.ExceptHandler (some (.Name c np)) (some n) (b0::suite) hpos::az) (E4 X.K C i ts tr):=by
 intro pins s σ H D a cls dx xi h;obtain⟨B,a0,I,⟨fl,dd⟩,ha,h0,hp,stab⟩:=id xi;rcases h with ⟨em,k⟩|⟨em,k⟩
 ·refine wpAny_handleBy_cons (codeAny_handlers_test (bQ (I.marked (.ref a)) hg hm ?_ hdb)) (by intro q;cases q)
  refine (PySem.W.exm_one I.kIn (gy fl) em).here ?_;refine codeAny_handlers_suite_as (pW fl dd λh6 fl6 up6 dd6=>?_)
  have I6:=stab h6 fl6.1 up6;obtain⟨oe,vs,e1,e2,e3,_⟩:=fl6.first
  obtain⟨e4,e5⟩:oe.dict=dx/\nF oe:=by
   obtain⟨o',z1,z2⟩:=dd6;cases e1.symm.trans z1;exact z2
  have I7:=I6.trackExc (cls:=cls) ha e1 e2 e3 e4 h0 hp;refine iZ (X:=X.markedS a oe _) (v:=.ref a) (I7.markedS h0 ae) hN hi (.inl hl) rfl (λs7 I8=>?_) (.inr hl)
  refine HP (hs a oe _ e5 pins s7 _ _ (D.goes i) I8 (k a oe ha)) (λfl s8 q=>?_) (λ_ _ z=>False.elim z)
  have hcl:(X.env.scope.kind == .class||(X.env.scope.kind == .module&&X.env.locals != X.env.globals))=false:=by rw[I.ok.kind];rfl
  have fin:∀σ' H',Inv (X.markedS a oe (uF a cls dx)) pins σ' H' s8->∀(Q:Unit->Shared->Prop),(∀s9,Inv X pins (σ'.set i none) H' s9->Q () s9)->
    wpAny (model X.prog X.w) X.A (do bindName X.env n .none;unbindBehindTheSuite X.env n hpos) Q X.xe s8:=λσ' H' J Q kq=>by
   have J':=I.unmarkS h0 ha J;obtain⟨m,hm',hl'⟩:=J'.loc;exact wpAny_nameGoes_keeps hl hm' hcl λh' v hn hs'=>kq _ (Inv.goes hi hN J' hm' hl' hn hs')
  match fl,q with
  |.next,⟨σ',H',J,q⟩=>exact fin σ' H' J _ λs9 J9=>⟨_,_,J9,q⟩
  |.brk,⟨σ',H',J,q⟩=>exact fin σ' H' J _ λs9 J9=>⟨_,_,J9,q⟩
  |.cont,⟨σ',H',J,q⟩=>exact fin σ' H' J _ λs9 J9=>⟨_,_,J9,q⟩
  |.ret u,⟨v,σ',H',J,r,q⟩=>exact fin σ' H' J _ λs9 J9=>⟨v,_,_,J9,r,q⟩
 ·refine wpAny_handleBy_cons (codeAny_handlers_test (bQ (I.marked (.ref a)) hg hm ?_ hdb)) (by intro q;cases q)
  refine (PySem.W.exm_one I.kIn (gy fl) em).here ?_;exact hr pins s σ H D a cls dx xi k
theorem Ca(hg:Gl X c)(hm:X.mg c=some (.ref C))(hs:∀v,PSs (X.marked v) (b0::suite) ts)(hr:PH X az tr)(hdb:(c == ("__debug__" : Str))=false:=by decide) :
  PH X (.ExceptHandler (some (.Name c np)) none (b0::suite) hpos::az) (Fi X.K C ts tr):=by
 intro pins s σ H D a cls dx xi h;obtain⟨B,a0,I,⟨fl,dd⟩,ha,h0,hp,stab⟩:=id xi;rcases h with ⟨em,k⟩|⟨em,k⟩
 ·refine wpAny_handleBy_cons (codeAny_handlers_test (bQ (I.marked (.ref a)) hg hm ?_ hdb)) (by intro q;cases q)
  refine (PySem.W.exm_one I.kIn (gy fl) em).here ?_;refine codeAny_handlers_suite (pW fl dd λh6 fl6 up6 dd6=>?_)
  have I6:=stab h6 fl6.1 up6;refine HP (hs (.ref a) pins _ _ _ D (I6.marked (.ref a)) k) (λfl s8 q=>?_) (λ_ _ z=>False.elim z)
  match fl,q with
  |.next,⟨σ',H',J,q⟩=>exact⟨_,_,J.unmark I.ok,q⟩
  |.brk,⟨σ',H',J,q⟩=>exact⟨_,_,J.unmark I.ok,q⟩
  |.cont,⟨σ',H',J,q⟩=>exact⟨_,_,J.unmark I.ok,q⟩
  |.ret u,⟨v,σ',H',J,r,q⟩=>exact⟨v,_,_,J.unmark I.ok,r,q⟩
 ·refine wpAny_handleBy_cons (codeAny_handlers_test (bQ (I.marked (.ref a)) hg hm ?_ hdb)) (by intro q;cases q)
  refine (PySem.W.exm_one I.kIn (gy fl) em).here ?_;exact hr pins s σ H D a cls dx xi k
end
end L2
namespace L2
open PySem PySem.Spec PySem.Calls PyProof.Rows
noncomputable def eK(K:Ii)(C:Addr):Bool:=match K.lookup C with
 |some ⟨.type "type",_,.cls k,sl⟩=>(match k.mro with
  |.ref C2::above=>C2 == C&&!k.hasDel&&PySem.W.tailIn K bmV above&&(match sl.toList with
   |[_,_,_,_,some (.builtin mk),_]=>mk == "ValueError.__new__"
   |_=>false)
  |_=>false)
 |_=>false
theorem nc{K:Ii}{h:Heap}(X:K.In h)(z:eK K C=true) :
  ∃bm M nm qn bs b1 sn sb b2 co dd x0 x1 x2 x3 x5,h.get? C=some (excClassObj nm qn C M bs bm b1 sn sb b2 co dd x0 x1 x2 x3 x5 "ValueError.__new__")/\OwnTail h bmV bm:=by
 unfold eK at z;split at z
 ·rename_i dd k sl ho;split at z
  ·rename_i C2 above hm;rw[GS,GS,GS,Hb]at z;obtain⟨⟨⟨rfl,z2⟩,z3⟩,z4⟩:=z;split at z4
   ·rename_i x0 x1 x2 x3 mk x5 hs;rw[Hb]at z4;subst z4;cases k with
    |mk nm bs mro ns qn hd sn sub ab col del=>
     cases hm;cases del with
     |true=>cases z2
     |false=>
      have es:sl=#[x0,x1,x2,x3,some (.builtin "ValueError.__new__"),x5]:=by
       cases sl with
       |mk l=>cases hs;rfl
      subst es;exact⟨above,ns,nm,qn,bs,hd,sn,sub,ab,col,dd,x0,x1,x2,x3,x5,X _ _ ho,PySem.W.tail_of_in X z3⟩
   ·cases z4
  ·cases z
 ·cases z
noncomputable abbrev exB:ExcBaseFacts "ValueError" "ValueError.__new__" "ValueError.__init__" bmV:=PySem.F.excBase_ValueError
section
variable {A:Around}{h:Heap}{os:OsState}{K:Ii}
theorem sN{oe:Obj}{us:List Value}(X:K.In h)(z:eK K C=true)(he:h.get? e=some oe)(hc:oe.cls=.ref C)(hd:oe.data=.fields vs)(h0:vs[0]?=some (.ref t0))(hl:us.length<=sizeLine)
  (k:Q .none ⟨(h.push {cls:=.type "tuple",data:=.seq us.toArray}).update e (Obj.mapFields (·.setIfInBounds 0 (.ref h.objs.size))),g,d,t,os⟩):wpAny (model prog w) A (call (.builtin "ValueError.__init__") (.ref e::us)) Q E ⟨h,g,d,t,os⟩:=by
 obtain⟨bm,M,nm,qn,bs,b1,sn,sb,b2,co,dd,x0,x1,x2,x3,x5,hC,T⟩:=nc X z;refine wpAny_call (codeAny_call_builtin exB.init.plain exB.initEntry (wpAny_check_init_subU exB T hC he hc ?_));unfold Builtin.«BaseException.__init__»;dsimp only;rw[GV (by simp)]
 unfold newTuple Builtin.BaseException.bexcPut;have e1:=GX (h:=h) {cls:=.type "tuple",data:=.seq us.toArray} he;refine xL (Ht ?_ (by show us.toArray.size<=sizeLine;rw[G7];exact hl))
 exact xL (xL (HB e1 hd h0 (xL (HQ e1 hd (Hy.mp h0).1 (wpAny_letGo (GT k))))))
theorem nG(T:OwnTail h bmV bm):refuseLoop self "__setattr__" bm=pure ():=by
 induction T with
 |base=>exact PySem.F.store_ValueError.passes self
 |own _ _ _ _ ih=>rw[refuseLoop_ref];exact ih
theorem sM{oe:Obj}{s:Shared}(X:K.In s.heap)(z:eK K C=true)(he:s.heap.get? e=some oe)(hc:oe.cls=.ref C)(hd:oe.data=.fields vs)(hdn:oe.dict=none)
  (hfn:PySem.W.findIn K (.ref C) name=some none) (hhd:PySem.W.hasDictIn K C=true) (hm:PySem.W.mroIn K C (.type "object")=some true)
  (k:∀h' t',h'.get? e=some {oe with dict:=some s.heap.objs.size}->h'.Ns1 s.heap.objs.size (λy=>if y=name then some v else none)->(∀b o,b≠e->s.heap.get? b=some o->h'.get? b=some o)->R (.ok (.ret .none)) {s with heap:=h',toks:=t'}) :
  codeAny (model prog w) A (.call (.builtin "object.__setattr__") ⟨[.ref e,.str name tk,v],[]⟩) R s:=by
 obtain⟨bm,M,nm,qn,bs,b1,sn,sb,b2,co,dd,x0,x1,x2,x3,x5,hC,T⟩:=nc X z;have SF:=PySem.F.store_ValueError;have LT:PySem.W.Looks (model prog w) s.heap (typeOf (.ref e)) (.ref C):=hc▸(PySem.W.Looks.ld he).andThen .now;have sub:PySem.W.Looks (model prog w) s.heap (isInstance (.ref e) (.type "object")) true:=LT.andThen (PySem.W.looks_mroIn X hm);obtain⟨cd,hcd,hdt⟩:=PySem.W.any_some hhd;have LM:PySem.W.Looks (model prog w) s.heap (mroOf (.ref C)) cd.mro:=(PySem.W.looks_clsIn X hcd).andThen .now;have em:cd.mro=.ref C::bm:=by
  unfold PySem.W.clsIn at hcd;split at hcd
  ·rename_i c' d' cd' sl' ho;cases hcd;have:=X _ _ ho;rw[hC]at this;cases this;rfl
  ·cases hcd
 refine codeAny_call_builtin SF.slot.plain SF.entry (@PySem.W.check_slot (model prog w) _ _ s "object.__setattr__" "object" "__setattr__" (.ref e) [.str name tk,v] [] _ SF.kind SF.split sub (SF.args (.ref e) (.str name tk) v) ?_);rw[PySem.W.osa_eq,refuse_eq];refine xL (xL (LT.here (xL (LM.here ?_))));rw[em,refuseLoop_ref,nG T];refine GT (xL (LT.here (xL ((PySem.W.looks_findIn X hfn).here (xL (GT ?_))))));dsimp only;obtain⟨oc,od,oda,osl⟩:=oe;dsimp only at hc hd hdn;subst hc hd hdn;refine xL (GT (xL (xL (wpAny_loadPart he (xL ((PySem.W.looks_clsIn X hcd).here ?_))))));rw[hdt];refine xL (wpAny_alloc' ?_);have ne:e≠s.heap.objs.size:=Hl (G2 he);have e1:(s.heap.push {cls:=.type "dict",data:=.dict #[]}).get? e=some ⟨.ref C,none,.fields vs,osl⟩:=GX _ he;refine xL (wpAny_update' e1 (GT ?_));generalize hH:(s.heap.push {cls:=.type "dict",data:=.dict #[]}).update e (λo=>{cls:=o.cls,dict:=some s.heap.objs.size,data:=o.data,slots:=o.slots})=H1
 have gd:H1.get? s.heap.objs.size=some {cls:=.type "dict",data:=.dict #[]}:=by
  rw[<-hH];exact (Heap.get?_update_ne _ _ _ _ ne.symm).trans (Heap.get?_push_at rfl rfl)
 have ge:H1.get? e=some ⟨.ref C,some s.heap.objs.size,.fields vs,osl⟩:=by
  rw[<-hH];exact Hz _ e1 rfl
 have gk:∀b o,b≠e->s.heap.get? b=some o->H1.get? b=some o:=λb o n q=>by
  rw[<-hH];exact (Heap.get?_update_ne _ _ _ _ n).trans (GX _ q)
 have nd:H1.Ns s.heap.objs.size (λ_=>none):=⟨_,#[],_,gd,rfl,λx hx=>absurd hx (by simp),λ_=>rfl⟩
 show wpAny _ _ (Builtin.ObjectAttr.storeInDict s.heap.objs.size (.str name tk) name v) _ _ _;unfold Builtin.ObjectAttr.storeInDict Builtin.ObjectAttr.newKeyGuard;refine xL (GT (xL (wpAny_nsSet1 (Heap.Ns1.of_empty nd) λh' n' hs=>?_)))
 obtain⟨oD,esD,epD,hoD,hdD,hcD⟩:=n'.count (PySem.Within.cons name v PySem.Within.nil);refine xL (wpAny_lookBehind hoD (by rw[hdD];exact pastItsLine_dict (Ha hcD (by rw[Hk,List.length_nil,sizeLine_eq];omega))) ?_)
 exact GT (k h' _ ((hs.2 e ne).trans ge) n' λb o n q=>(hs.2 b (Hl (G2 q))).trans (gk b o n q))
theorem xl{oe:Obj}{s:Shared}(X:K.In s.heap)(z:eK K C=true)(he:s.heap.get? e=some oe)(hc:oe.cls=.ref C)(hd:oe.data=.fields vs)(hdn:oe.dict=none)
  (hsa:PySem.W.findIn K (.ref C) "__setattr__"=some (some (.builtin "object.__setattr__"))) (hfn:PySem.W.findIn K (.ref C) name=some none) (hhd:PySem.W.hasDictIn K C=true) (hm:PySem.W.mroIn K C (.type "object")=some true)
  (k:∀h' t',h'.get? e=some {oe with dict:=some s.heap.objs.size}->h'.Ns1 s.heap.objs.size (λy=>if y=name then some v else none)->(∀b o,b≠e->s.heap.get? b=some o->h'.get? b=some o)->Q () {s with heap:=h',toks:=t'}) :
  wpAny (model prog w) A (setAttr (.ref e) name v) Q E s:=by
 have LT:PySem.W.Looks (model prog w) s.heap (typeOf (.ref e)) (.ref C):=hc▸(PySem.W.Looks.ld he).andThen .now;have f3:=PySem.F.store_ValueError.slot.bind (.ref e);unfold setAttr callSpecial? specialOf;refine xL (wpAny_mkText (xL (xL (xL (LT.at ((PySem.W.looks_findIn X hsa).at (HC (xL ?_))))))));rw[f3];refine GT (xL (wpAny_call (sM (s:={s with toks:=s.toks+1}) X z he hc hd hdn hfn hhd hm λh' t' q1 q2 q3=>?_)))
 exact GT (GT (k h' t' q1 q2 q3))
end
section
variable {pos:Pos}
theorem gB{args:List Expr}(h1:(backTo pos (starEach args env)).any (·.1)=false)(h2:args.length<30):methodCallForm (args.length+([]:List Keyword).length) (backTo pos (starEach args env)) (backToKw pos (keywordEach [] env))=true:=by
 unfold methodCallForm;have a:(backTo pos (starEach args env)).all (!·.1)=true:=by
  rw[Hh];intro x hx;have:=List.any_eq_false.mp h1 x hx;simpa using this
 rw[a];have:(backToKw pos (keywordEach [] env)).all (·.1.isSome)=true:=rfl;rw[this];have h3:(backToKw pos (keywordEach ([]:List Keyword) env)).isEmpty=true:=rfl;simp only[h3,if_true,List.length_nil,Bool.true_and,Nat.add_zero,G1];exact h2
theorem eS{apos:Pos}{args:List Expr}(hb:attributeBase o m env (eval o env)=eval o env)
  (hf:methodCallForm (args.length+([]:List Keyword).length) (backTo pos (starEach args env)) (backToKw pos (keywordEach [] env))=true) (hl:(apos.endLine == pos.line)=true) :
  eval (.Call (.Attribute o m apos) args [] pos) env=(do
   let ov<-eval o env
   standAt apos.atName
   let (f,first)<-holding [ov] (getMethod ov m (do return (<-importBound o env).getD true))
   callWith pos f first (backTo pos (starEach args env)) (backToKw pos (keywordEach [] env))):=by
 rw[arm_eval_Call,hb];unfold methodCall calleeOf methodCallPos;simp only[hf,hl];rfl
end
noncomputable def rV(e C:Addr):HO:=.ext λh=>∃t0,h.get? e=some {cls:=.ref C,data:=.fields #[.ref t0,.none,.none,.none,.bool false,.none]}
noncomputable def so(e C dx:Addr):HO:=.ext λh=>∃t0,h.get? e=some {cls:=.ref C,dict:=some dx,data:=.fields #[.ref t0,.none,.none,.none,.bool false,.none]}
theorem wK{h:Heap}(q:h.get? e=some {cls:=.ref C,data:=.fields #[.ref t0,.none,.none,.none,.bool false,.none]}):ObjOk P w H h e (rV e C):=
 ⟨⟨t0,q⟩,⟨_,q⟩,λ_ _ ⟨t1,z⟩ k=>⟨t1,k _ z⟩⟩
theorem wa{h:Heap}(q:h.get? e=some {cls:=.ref C,dict:=some dx,data:=.fields #[.ref t0,.none,.none,.none,.bool false,.none]}):ObjOk P w H h e (so e C dx):=
 ⟨⟨t0,q⟩,⟨_,q⟩,λ_ _ ⟨t1,z⟩ k=>⟨t1,k _ z⟩⟩
structure XIni (K:Ii)(C fI:Addr)(f:Str):Prop where
 cl:eK K C=true
 ini:PySem.W.findIn K (.ref C) "__init__"=some (some (.ref fI))
 fn:PySem.W.typeIn K (.ref fI)=some (.type "function")
 sa:PySem.W.findIn K (.ref C) "__setattr__"=some (some (.builtin "object.__setattr__"))
 at_:PySem.W.findIn K (.ref C) f=some none
 hd:PySem.W.hasDictIn K C=true
 ob:PySem.W.mroIn K C (.type "object")=some true
 kp:PySem.W.keepIn K (.ref C)=true
structure BIni (K:Ii)(D:Addr):Prop where
 ga:PySem.W.specialIn K (.ref D) "__getattribute__"=some (some (.builtin "type.__getattribute__"))
 rd:PySem.W.readsIn K D (.type "type")=true
 at_:PySem.W.findCls K (.ref D) (.type "type") "__init__"=some (.val (.builtin "ValueError.__init__"))
noncomputable def tXI(K:Ii)(t:TA):TE:=λσ H Q=>t σ H λvs H1=>∃a r C,vs=.ref a::r/\eK K C=true/\H1 a=some (rV a C)/\r.length<=sizeLine/\Q .non H1
noncomputable def sXF(C:Addr)(f:Str)(ta tv:TE):TS:=λD σ H=>tv σ H λy H1=>ta σ H1 λx H2=>∃a,x=.ref a/\H2 a=some (rV a C)/\∀dx o,H2 dx=none->dx≠a->D.nx σ (upd (upd H2 a (so a C dx)) dx (.frz o (.xd [(f,y)])))
section
variable {X:Cx}{D:Addr}{apos pos:Pos}
theorem xx(hg:Gl X x)(hm:X.mg x=some (.ref D))(hdb:(x == ("__debug__" : Str))=false)(b:BIni X.K D)(ha:PA X (e::es) t)(hl:(apos.endLine == pos.line)=true)(hn:(e::es).length<30)
  (he:starEach (e::es) X.env=(false,eval e X.env)::starEach es X.env) (hpl:(backTo pos (starEach es X.env)).any (·.1)=false) :
  PE X (.Call (.Attribute (.Name x px) "__init__" apos) (e::es) [] pos) (tXI X.K t):=by
 intro pins s σ H Q I h;have hst:(backTo pos (starEach (e::es) X.env)).any (·.1)=false:=by
  rw[he];show ((false,_)::backTo pos (starEach es X.env)).any (·.1)=false;rw[List.any_cons,hpl];rfl
 have hT:PE X (.Name x px) (tC (.ref D)):=iP hg hm rfl hdb;refine PySem.W.methodCall_KW (thn (hT pins s σ H (λv H1=>v=.ref D/\H1=H) I ⟨rfl,rfl⟩) λu s1 ⟨v,H1,I1,r1,e1,e2⟩=>?_) (eS (by rfl) (gB hst hn) hl)
 subst e1 e2;obtain rfl:u=Value.ref D:=r1;refine PySem.W.method_cls I1.kIn b.ga (PySem.W.cls_value I1.kIn b.rd b.at_ (by decide +kernel) ?_)
 have I2:=I1.tok (s1.toks+1);rw[he];refine PySem.W.callWith_of (P:=λh=>X.K.In h) (by show ((false||(backTo pos (starEach es X.env)).any (·.1))||false)=false;rw[hpl];rfl) (λ_ _=>⟨.machine,.inr (.inl rfl),.now⟩) (PySem.Calls.evalArgs_plain ?_)
 have h2:=ha pos pins _ σ H1 _ I2 h;rw[he]at h2;refine thn h2 λus s2 ⟨vs,H2,I3,r,a,rs,C,ev,z,ea,hz,q⟩=>⟨I3.kIn,?_⟩
 subst ev;cases r with
 |@cons v u vs us rv r=>
  obtain rfl:u=Value.ref a:=rv;have oa:=I3.hok a _ ea;obtain⟨⟨t0,go⟩,_,_⟩:=oa;obtain⟨h2,g2,d2,t2,os2⟩:=s2;refine sN (oe:=_) (t0:=t0) I3.kIn z go rfl rfl rfl (by rw[<-r.length];exact hz) ?_
  refine⟨.non,H2,?_,rfl,q⟩;have ge:((h2.push {cls:=.type "tuple",data:=.seq us.toArray}).update a (Obj.mapFields (·.setIfInBounds 0 (.ref h2.objs.size)))).get? a=some {cls:=.ref C,data:=.fields #[.ref h2.objs.size,.none,.none,.none,.bool false,.none]}:=
   Hz _ (GX _ go) rfl
  have w:=I3.write (x:=a) (e:=a) (o:=rV a C) (h':=(h2.push {cls:=.type "tuple",data:=.seq us.toArray}).update a (Obj.mapFields (·.setIfInBounds 0 (.ref h2.objs.size)))) (t':=t2) (by rw[ea];exact True.intro) (.inl rfl)
   (λb ob n q=>(Hm _ _ (He n)).trans (GX _ q)) ⟨_,ge⟩ (wK ge)
  have eq:upd H2 a (rV a C)=H2:=by
   funext b;by_cases hb:b=a
   ·rw[hb,ae,ea]
   ·rw[ac hb]
  rw[eq]at w;exact w
theorem vB(q:XIni X.K C fI f)(ha:PE X o ta)(hv:PE X value tv)(hs:swapsWith value (some (.Attribute o f pos')) pos.line X.env=pure false):PS X (.Assign [.Attribute o f pos'] value pos) (sXF C f ta tv):=by
 intro pins s σ H D I h;refine plainObj_wpAny_Assign_Attribute (thn (hv pins s σ H _ I h) λu s1 ⟨y,H1,I1,ry,h1⟩=>thn (ha pins s1 σ H1 _ I1 h1) λov s2 ⟨x,H2,I2,rx,a,ex,ea,h2⟩=>?_) hs
 subst ex;obtain rfl:ov=Value.ref a:=rx;obtain⟨⟨t0,go⟩,_,_⟩:=I2.hok a _ ea;refine eN I2.tk <| xl (vs:=#[.ref t0,.none,.none,.none,.bool false,.none]) I2.kIn q.cl go rfl rfl rfl q.sa q.at_ q.hd q.ob λh' t' g1 g2 g3 _=>?_
 obtain⟨od,es,ep,gd,gr⟩:=id g2;have hn:H2 s2.heap.objs.size=none:=I2.hok.fresh (GZ _);have ne:s2.heap.objs.size≠a:=Nat.ne_of_gt (G2 go);have hk1:HOk X.prog X.w (upd H2 a (so a C s2.heap.objs.size)) h':=I2.hok.write (x:=a) (e:=a) (by rw[ea];exact True.intro) (.inl rfl) (λb u n q=>g3 b u n q) ⟨_,g1⟩ (wa g1)
 have un:∀b u,H2 b=some u->(∀φ,u≠.ext φ)->upd (upd H2 a (so a C s2.heap.objs.size)) s2.heap.objs.size (.frz od (.xd [(f,y)])) b=some u:=λb u q nx=>by
  rw[ac (au q hn),ac (λz=>by rw[z,ea]at q;cases q;exact nx _ rfl)]
  exact q
 refine⟨σ,_,I2.un (t':=t') ⟨λb ob z n _ _=>g3 b ob (λw=>by rw[w,ea]at n;cases n) z,λb ob z n _ _=>⟨ob.slots,g3 b ob (λw=>by rw[w,ea]at n;cases n) z⟩,λb ob z n _=>?_,λb ob z _=>?_,λb xs z=>un b _ z (λ_ w=>nomatch w),λb ob u z=>un b _ z (λ_ w=>nomatch w),λb ps z=>⟨#[],by rw[Array.append_empty];exact un b _ z (λ_ w=>nomatch w)⟩⟩ (λb u z=>?_),h2 _ od hn ne⟩
 ·rw[ac (Hl (G2 z)),ac (λw=>by rw[w,ea]at n;cases n)]
  exact n
 ·by_cases w:b=a
  ·subst w;exact⟨_,g1⟩
  ·exact⟨_,g3 b ob w z⟩
 ·by_cases w:b=s2.heap.objs.size
  ·subst w;rw[ae]at z;cases z;refine⟨gd,_,g2,λn=>?_⟩
   show RelO (List.lookup n [(f,y)]) (if n=f then some u else none)
   by_cases wn:n=f
   ·rw[G3 wn,wn,HG,beq_self_eq_true];exact ry
   ·rw[GV wn,HG,Hr.mpr wn];exact True.intro
  ·rw[ac w]at z;refine (hk1 b u z).stay (λ_ _ _ q=>q) (λc q=>?_) λc xs q=>?_
   ·rw[ac λe=>?_]
    ·exact q
    ·rw[e,ac ne,hn]at q;cases q
   ·rw[ac λe=>?_]
    ·exact q
    ·rw[e,ac ne,hn]at q;cases q
noncomputable def nV(cp:Bool)(K:Ii)(C:Addr)(f:Str):Sp:=λvs H Q _=>∃a v,vs=[.ref a,v]/\H a=some (rV a C)/\(cp=false->∀dx ob,H dx=none->dx≠a->Q .non (upd (upd H a (so a C dx)) dx (.frz ob (.xd [(f,v)]))))/\
 (cp=true->∃p ws,v=.ref p/\SqL K H p ws/\∀q dx ob,H q=none->H dx=none->dx≠a->dx≠q->Q .non (upd (upd (upd H q (.lst ws)) a (so a C dx)) dx (.frz ob (.xd [(f,.ref q)]))))
end
theorem wo{P:Program}{w:World}{K:Ii}{mg:Str->Option Value}{base:Heap}{fI C D:Addr}{name qual:Str}{params:Arguments}{scope:Scope}{kV doc pm cdv ct oc:Value}{an od:Option Addr}{osl:Array (Option Value)}{b sl pr f tx:Str}{j:Nat}{px apos p1 p2 cp p3 p4 p5 p6 p7 p8 p9:Pos}
  (lk:K.lookup fI=some ⟨oc,od,.func (PySem.W.fnOf name qual params [.Expr (.Call (.Attribute (.Name b px) "__init__" apos) [.Name sl p1,.Constant (.str tx) j p2] [] cp) p3,.Assign [.Attribute (.Name sl p4) f p5] (.Call (.Name "list" p8) [.Name pr p6] [] p9) p7] scope .none kV doc pm an cdv ct),osl⟩)
  (hcd:PySem.W.codeIn K cdv qual=true) (S:FnScope [sl,pr] [sl,pr] scope) (hg:scope.names.lookup b=some .globalImplicit) (hgl:scope.names.lookup ("list" : Str)=some .globalImplicit) (hml:mg "list"=none) (hm:mg b=some (.ref D)) (hl:(apos.endLine == cp.line)=true) (hb:BIni K D) (q:XIni K C fI f)
  (db1:(b == ("__debug__" : Str))=false) (db2:(sl == ("__debug__" : Str))=false) (db3:(pr == ("__debug__" : Str))=false) (cd2:(sl == ("__classdict__" : Str))=false) (cd3:(pr == ("__classdict__" : Str))=false) :
  FnOk P w K mg base (CX1 P w) 1 fI (PySem.W.fnOf name qual params [.Expr (.Call (.Attribute (.Name b px) "__init__" apos) [.Name sl p1,.Constant (.str tx) j p2] [] cp) p3,.Assign [.Attribute (.Name sl p4) f p5] (.Call (.Name "list" p8) [.Name pr p6] [] p9) p7] scope .none kV doc pm an cdv ct) [sl,pr] (nV true K C f):=by
 refine t6 (k:=0) lk hcd S (λvs H Q E ⟨_,_,e,_⟩=>by subst e;rfl) λA outer s H vs Q E hr hsp=>?_
 obtain⟨a,v,ev,ea,_,h⟩:=hsp;obtain⟨p0,ws,ep,sq,h⟩:=h rfl;subst ev;have vs:∀x∈[sl,pr],Vis scope x:=λx hx=>(S.par x hx).elim .inl λz=>.inr (.inl z)
 have h0:PE (bM (CX1 P w) P w K mg base [sl,pr] qual scope fI cdv A outer s H E) (.Name sl p1) (wm 0):=l5 rfl (vs _ (by simp)) db2 cd2
 have h4:PE (bM (CX1 P w) P w K mg base [sl,pr] qual scope fI cdv A outer s H E) (.Name sl p4) (wm 0):=l5 rfl (vs _ (by simp)) db2 cd2
 have h1:PE (bM (CX1 P w) P w K mg base [sl,pr] qual scope fI cdv A outer s H E) (.Name pr p6) (wm 1):=l5 rfl (vs _ (by simp)) db3 cd3
 refine⟨_,mW (lE (xx (D:=D) hg hm db1 hb (aM h0 (aM tX pa_nil)) hl (by simp) rfl rfl)) (vG (vB q h4 (kH (T:="list") fY hgl hml (by decide +kernel) (aM h1 pa_nil)) rfl)),?_⟩
 refine⟨.ref a,rfl,?_⟩;refine⟨a,[.str tx],C,rfl,q.cl,ea,by rw[sizeLine_eq];simp,?_⟩
 refine⟨v,rfl,p0,ws,by rw[ep],.inl sq,λq hq=>⟨.ref a,rfl,a,rfl,?_,λdx ob n ne=>?_⟩⟩
 ·rw[ac (au ea hq)];exact ea
 ·have nq:dx≠q:=λz=>by rw[z,ae]at n;cases n
  rw[ac nq]at n;exact h q dx ob hq n ne nq
end L2
namespace L2
open PySem PySem.Spec PyProof.Rows
noncomputable def aI(names:List (Str×NameKind))(cs:List (Str×Addr))(acc:List (Str×Addr)):List (Str×Addr):=match names with
 |[]=>acc
 |(n,k)::r=>if k=.free then (match cs.lookup n with|some c=>aI r cs ((n,c)::acc)|none=>aI r cs acc) else aI r cs acc
theorem bL{cs:List (Str×Addr)}:∀{names:List (Str×NameKind)}{acc:List (Str×Addr)},(∀p∈acc,cs.lookup p.1=some p.2)->∀p∈aI names cs acc,cs.lookup p.1=some p.2
 |[],_,h,p,hp=>h p hp
 |(n,k)::r,acc,h,p,hp=>by
  unfold aI at hp;split at hp
  ·split at hp
   next c e=>
    refine bL (λq hq=>?_) p hp
    rcases G9.mp hq with z|z
    ·subst z;exact e
    ·exact h q z
   next=>exact bL h p hp
  ·exact bL h p hp
theorem dL:∀{names:List (Str×NameKind)}{acc:List (Str×Addr)}{p:Str×Addr},p∈acc->p∈aI names cs acc
 |[],_,_,h=>h
 |(n,k)::r,acc,p,h=>by
  unfold aI;split
  ·split
   ·exact dL (GY _ h)
   ·exact dL h
  ·exact dL h
theorem dJ{cs:List (Str×Addr)}(e:cs.lookup x=some c):∀{names:List (Str×NameKind)}{acc:List (Str×Addr)},(x,NameKind.free)∈names->(x,c)∈aI names cs acc
 |(n,k)::r,acc,h=>by
  rcases G9.mp h with z|z
  ·cases z;unfold aI;rw[G3 rfl,e];exact dL G5
  ·unfold aI;split
   ·split
    ·exact dJ e z
    ·exact dJ e z
   ·exact dJ e z
theorem eF{l:List (Str×Addr)}(h:(x,c)∈l)(u:∀p∈l,p.1=x->p.2=c):l.lookup x=some c:=by
 induction l with
 |nil=>cases h
 |cons p r ih=>
  obtain⟨n,d⟩:=p;by_cases e:x=n
  ·subst e;rw[HG,beq_self_eq_true];exact congrArg some (u (x,d) G5 rfl)
  ·rw[HG];rw[Hr.mpr e];rcases G9.mp h with z|z
   ·cases z;exact absurd rfl e
   ·exact ih z λq hq=>u q (GY _ hq)
theorem bA{l:List (Str×Addr)}(h:l.lookup x=some c):(x,c)∈l:=PySem.mem_of_lookup h
theorem mF{cs:List (Str×Addr)}(hm:(x,NameKind.free)∈names)(e:cs.lookup x=some c):(aI names cs []).lookup x=some c:=by
 refine eF (dJ e hm) λp hp hx=>?_
 have z:=bL (acc:=[]) (λp hp=>nomatch hp) p hp
 rw[hx,e]at z;exact (Hg z).symm
theorem rg{env:Env}(e:env.cells.lookup n=some c):cellOf env n=pure c:=by
 unfold cellOf;rw[e]
theorem jX{scope:Scope}{env:Env}(h:∀y∈scope.names,y.2=.free->∃c,env.cells.lookup y.1=some c):closureFor scope env=pure (aI scope.names env.cells []):=by
 have go:∀(names:List (Str×NameKind)) (acc:List (Str×Addr)),(∀y∈names,y.2=.free->∃c,env.cells.lookup y.1=some c)->
   (forIn names acc λx r=>match x with
    |(n,k)=>if (k == NameKind.free)=true then do let c<-cellOf env n;pure (ForInStep.yield ((n,c)::r)) else pure (ForInStep.yield r):Sem (List (Str×Addr)))=pure (aI names env.cells acc):=by
  intro names
  induction names with
  |nil=>intro acc _;rfl
  |cons y r ih=>
   intro acc hy;obtain⟨n,k⟩:=y;rw[List.forIn_cons];by_cases hk:k=NameKind.free
   ·subst hk;obtain⟨c,e⟩:=hy (n,.free) G5 rfl;simp only[beq_self_eq_true,if_true];rw[rg e];show (forIn r ((n,c)::acc) _:Sem _)=_;rw[ih _ λz hz=>hy z (GY _ hz)]
    conv=>rhs;unfold aI
    simp only[if_true,e]
   ·have hb:(k == NameKind.free)=false:=by simpa using hk
    simp only[hb,HZ,if_false];show (forIn r acc _:Sem _)=_;rw[ih _ λz hz=>hy z (GY _ hz)]
    conv=>rhs;unfold aI
    simp only[hk,if_false]
 have e:=go scope.names [] h;show ((forIn scope.names [] λx r=>match x with
    |(n,k)=>if (k == NameKind.free)=true then do let c<-cellOf env n;pure (ForInStep.yield ((n,c)::r)) else pure (ForInStep.yield r):Sem (List (Str×Addr))) >>=λz=>pure z)=_
 rw[e];rfl
theorem aJ:∀(names:List (Str×NameKind)) (n:Nat) (acc:List (Str×Addr)),cellsFrom n names acc=cellsFrom n names []++acc
 |[],_,_=>rfl
 |(x,k)::r,n,acc=>by
  unfold cellsFrom;split
  ·rw[aJ r (n+1) ((x,n)::acc),aJ r (n+1) [(x,n)],List.append_assoc];rfl
  ·exact aJ r n acc
theorem aE:∀{names:List (Str×NameKind)}{n:Nat}{p:Str×Addr},p∈cellsFrom n names []->(p.1,NameKind.cell)∈names/\n<=p.2
 |[],_,_,h=>nomatch h
 |(x,k)::r,n,p,h=>by
  unfold cellsFrom at h;split at h
  ·rename_i hk;rw[aJ]at h;rcases Ho.mp h with z|z
   ·obtain⟨a,b⟩:=aE z;exact⟨GY _ a,by omega⟩
   ·obtain rfl:=Hq.mp z;exact⟨by rw[show k=NameKind.cell from by simpa using hk];exact G5,GZ _⟩
  ·obtain⟨a,b⟩:=aE h;exact⟨GY _ a,b⟩
theorem cg:∀{names:List (Str×NameKind)}{n:Nat}{x:Str},(x,NameKind.cell)∈names->∃c,(x,c)∈cellsFrom n names []
 |(y,k)::r,n,x,h=>by
  rcases G9.mp h with z|z
  ·cases z;unfold cellsFrom;rw[G3 (by rfl),aJ]
   exact⟨n,Hj _ G5⟩
  ·unfold cellsFrom;split
   ·obtain⟨c,e⟩:=cg z (n:=n+1);rw[aJ];exact⟨c,HE _ e⟩
   ·exact cg z
theorem dB:∀{l:List (Str×Addr)}{x:Str}{c:Addr},(x,c)∈l->∃c',l.lookup x=some c'
 |(y,d)::r,x,c,h=>by
  rw[HG];cases e:x == y with
  |true=>exact⟨d,rfl⟩
  |false=>
   rcases G9.mp h with z|z
   ·cases z;simp at e
   ·exact dB z
theorem gJ
  (hQ:Q {scope:=scope,locals:=s.heap.objs.size,globals:=globals,cells:=cellsFrom (s.heap.objs.size+1) scope.names []++cl,qual:=qual,func:=none,code:=outer.code,frame:=outer.frame,builtins:=outer.builtins} {s with heap:=pushCells (s.heap.push {cls:=.type "dict",data:=.dict #[]}) scope.names}) :
  wpAny M A (newFunctionEnv scope globals cl [] qual none .none (some outer)) Q E s:=by
 simp only[newFunctionEnv,Option.isSome_some,if_true];refine xL (wpAny_alloc ?_);refine xL (wpAny_layCells _ (λname kind cells=>by cases hkc:kind == NameKind.cell<;>simp[hkc]) _ _ _ _ ?_)
 rw[show ({s with heap:=s.heap.push {cls:=.type "dict",data:=.dict #[]}}:Shared).heap.objs.size=s.heap.objs.size+1 from Heap.size_push ..,aJ]
 refine xL ?_;rw[List.forIn_nil];exact GT (GT hQ)
noncomputable def eu(N:List Str)(js:List (Option Nat))(sc osc:Scope)(oN:List Str):Bool:=
 N.length == js.length&&decide N.Nodup&&
 (N.zip js).all (λp=>match p.2 with
  |none=>sc.names.lookup p.1 == some .local||sc.names.lookup p.1 == some .cell
  |some j=>oN[j]? == some p.1&&sc.names.contains (p.1,NameKind.free)&&osc.names.lookup p.1 == some .cell)&&
 decide (sc.names.map (·.1)).Nodup&&sc.names.all (λy=>(y.2 != .free||osc.names.lookup y.1 == some .cell)&&(y.2 != .local||sc.names.lookup y.1 == some .local))&&(sc.kind == .function)&&(osc.kind == .function)
noncomputable def jP(js:List (Option Nat))(σ:St):St:=js.map λo=>o.bind λj=>(σ[j]?).bind id
noncomputable abbrev compCx(X:Cx)(scope:Scope)(C:Addr)(N:List Str)(s2:Shared)(H2:Hp)(fp:List Addr)(pins:List (Addr×Obj)):Cx:=
 {X with env:=compEnvC scope (cellsFrom (C+1) scope.names []++aI scope.names X.env.cells []) C X.env,N:=N,s₀:=s2,H₀:=H2,outer:=X.stack,stack:=X.stack,ex:=fp,fn:=λx=>scope.names.lookup x == some .cell,pn:=X.pn++pins,xe:=λ_ _=>False}
theorem gF{env:Env}(hk:env.scope.kind=.function)(hc:env.kindOf x=some .cell):∀{names:List (Str×NameKind)},(x,NameKind.free)∈names->(∀y∈names,y.1=x->y.2=.free)->
  (names.map λ(n,k)=>if (k == .free&&env.scope.kind == .function&&env.kindOf n == some .cell) then (n,.cell) else (n,k)).lookup x=some NameKind.cell
 |(n,k)::r,hm,hu=>by
  show List.lookup x ((if (k == NameKind.free&&env.scope.kind == .function&&env.kindOf n == some .cell)=true then (n,NameKind.cell) else (n,k))::_)=_
  by_cases e:x=n
  ·subst e;have ek:k=.free:=hu (x,k) G5 rfl;subst ek;simp only[hk,hc,beq_self_eq_true,Bool.and_self,if_true];rw[HG,beq_self_eq_true]
  ·have hm':(x,NameKind.free)∈r:=by
    rcases G9.mp hm with z|z
    ·cases z;exact absurd rfl e
    ·exact z
   have ih:=gF hk hc hm' λy hy=>hu y (GY _ hy)
   split
   ·rw[HG,Hr.mpr e];exact ih
   ·rw[HG,Hr.mpr e];exact ih
structure CompOk (N:List Str) (js:List (Option Nat)) (sc osc:Scope)(oN:List Str):Prop where
 len:N.length=js.length
 nd:N.Nodup
 own:∀(i:Nat)(x:Str),N[i]?=some x->js[i]?=some none->sc.names.lookup x=some .local\/sc.names.lookup x=some .cell
 fr:∀(i:Nat)(x:Str)(j:Nat),N[i]?=some x->js[i]?=some (some j)->oN[j]?=some x/\(x,NameKind.free)∈sc.names/\osc.names.lookup x=some .cell
 ndn:(sc.names.map (·.1)).Nodup
 nf:∀y∈sc.names,y.2=.free->osc.names.lookup y.1=some .cell
 nl:∀y∈sc.names,y.2=.local->sc.names.lookup y.1=some .local
 k1:sc.kind=.function
 k2:osc.kind=.function
theorem lm(h:eu N js sc osc oN=true):CompOk N js sc osc oN:=by
 unfold eu at h;simp only[GS,Hb,G1,Hh,Bool.or_eq_true,bne_iff_ne]at h;obtain⟨⟨⟨⟨⟨⟨h1,h2⟩,h3⟩,h4⟩,h5⟩,h6⟩,h7⟩:=h;have zip:∀(i:Nat)(x:Str)(o:Option Nat),N[i]?=some x->js[i]?=some o->(x,o)∈N.zip js:=λi x o e1 e2=>
  HW (i:=i) (by rw[List.getElem?_zip_eq_some];exact⟨e1,e2⟩)
 refine⟨h1,h2,λi x e1 e2=>?_,λi x j e1 e2=>?_,h4,λy hy e=>?_,λy hy e=>?_,h6,h7⟩
 ·have z:=h3 _ (zip i x _ e1 e2);simpa using z
 ·have z:=h3 _ (zip i x _ e1 e2);simp only[GS,Hb]at z;exact⟨z.1.1,List.contains_iff_mem.mp z.1.2,z.2⟩
 ·rcases (h5 y hy).1 with z|z
  ·exact absurd e z
  ·exact z
 ·rcases (h5 y hy).2 with z|z
  ·exact absurd e z
  ·exact z
theorem eO{env:Env}:∀{names:List (Str×NameKind)},
  (names.map λ(n,k)=>if (k == .free&&env.scope.kind == .function&&env.kindOf n == some .cell) then (n,.cell) else (n,k)).lookup x=some k->∃k',(x,k')∈names/\(k'=k\/k'=.free)
 |[],h=>by cases h
 |(n,k0)::r,h=>by
  have h:List.lookup x ((if (k0 == NameKind.free&&env.scope.kind == .function&&env.kindOf n == some .cell)=true then (n,NameKind.cell) else (n,k0))::_)=_:=h
  by_cases e:x=n
  ·subst e;split at h
   next hc=>
    refine⟨k0,G5,.inr ?_⟩;have:=(HX.mp (HX.mp hc).1).1;simpa using this
   next=>
    rw[HG,beq_self_eq_true]at h;exact⟨k0,G5,.inl (Hg h)⟩
  ·have h':List.lookup x (r.map λ(n,k)=>if (k == .free&&env.scope.kind == .function&&env.kindOf n == some .cell) then (n,.cell) else (n,k))=some k:=by
    split at h
    ·rw[HG,Hr.mpr e]at h;exact h
    ·rw[HG,Hr.mpr e]at h;exact h
   obtain⟨k',m,z⟩:=eO h';exact⟨k',GY _ m,z⟩
theorem rZ(I:Nat->Shared->Prop)(V:Value->Shared->Prop)(hV:∀e s,V e s->notedBy (model prog w) A env (λx s'=>R (.error x) s') e s)
  (oX:∀n s,I n s->wpAny (model prog w) A (pyNext it) (λr s1=>match r with
   |none=>R (.ok .next) s1
   |some v=>wpAny (model prog w) A (letOwnedTupleGo target it v) (λ_ s2=>wpAny (model prog w) A (assign target env v) (λ_ s3=>
     wpAny (model prog w) A (forIn ifs true λc r=>if r=true then do let ok<-isTrue c env (eval c env);pure (ForInStep.yield ok) else pure (ForInStep.yield r)) (λok s4=>
      if ok=true then wpAny (model prog w) A (eval elt env) (λx s5=>wpAny (model prog w) A (call (.builtin "list.append") [acc,x]) (λ_ s6=>∃m,m<n/\I m s6) (λ_ _=>False) s5) V s4
      else ∃m,m<n/\I m s4) (λ_ _=>False) s3) (λ_ _=>False) s2) (λ_ _=>False) s1) (λ_ _=>False) s)
  (n:Nat)(h:I n s):codeAny (model prog w) A (.compLoop (.ListComp elt [⟨target,iter,ifs,0⟩] scope pos) 0 it acc env) R s:=by
 have no:∀{α:Type}{t:Sem α}{Q:α->Shared->Prop}{E:Value->Shared->Prop}{z:Shared},wpAny (model prog w) A t Q (λ_ _=>False) z->wpAny (model prog w) A t Q E z:=λh=>wpAny_noRaise h
 refine codeAny_loop rfl I (λn s hI=>?_) n h
 show wpAny _ A ((compTurn (.ListComp elt [⟨target,iter,ifs,0⟩] scope pos) 0 it acc env).onRaise (λx=>do noteFrame x env;theTreesLotGoes x)) _ _ s
 refine wpAny_noted ?_;rw[compTurn_list];refine xL (wpAny_standAt (xL (no (HP (oX n s hI) (λr s1 h1=>?_) λ_ _ z=>z))))
 cases r with
 |none=>exact GT h1
 |some v=>
  refine xL (no (HP h1 (λ_ s2 h2=>?_) λ_ _ z=>z))
  refine xL (no (HP h2 (λ_ s3 h3=>?_) λ_ _ z=>z))
  refine xL (no (HP h3 (λok s4 h4=>?_) λ_ _ z=>z))
  cases ok with
  |false=>exact GT ⟨rfl,h4⟩
  |true=>
   refine xL (xL (HP h4 (λx s5 h5=>?_) hV))
   exact xL (no (HP h5 (λ_ s6 h6=>GT (GT ⟨rfl,h6⟩)) λ_ _ z=>z))
def PIf(X:Cx)(ifs:List Expr)(tt:TT):Prop:=∀(pins:List (Addr×Obj)) (s:Shared)(σ:St)(H:Hp)(Q:Bool->Hp->Prop),Inv X pins σ H s->tt σ H Q->
 wpAny (model X.prog X.w) X.A (forIn ifs true λc r=>if r=true then do let ok<-isTrue c X.env (eval c X.env);pure (ForInStep.yield ok) else pure (ForInStep.yield r)) (TP X pins σ Q) X.xe s
noncomputable def tYes:TT:=λ_ H Q=>Q true H
theorem v8:PIf X [] tYes:=λpins s σ H Q I h=>wpAny_tests_nil ⟨H,I,h⟩
theorem wH(h:PT X c t):PIf X [c] t:=λpins s σ H Q I q=>wpAny_tests_one (h pins s σ H Q I q)
noncomputable def pY(js:List (Option Nat))(wi:TI)(g:TG)(tt:TT)(te:TE):TE:=λσ H Q=>wi σ H λJ H1=>∀p,H1 p=none->∃W:Nat->Nat->St->Hp->Prop,(∃m,W 0 m (jP js σ) (upd H1 p (.lst [])))/\
 ∀(i:Nat) m σc H,W i m σc H->(J.stop i H/\Q (.ref p) H)\/(J.go i H/\∀x H',J.yld i H x H'->g x σc H' λσ2 H2=>tt σ2 H2 λb H3=>
  if b=true then te σ2 H3 λy H4=>∃ys,H4 p=some (.lst ys)/\ys.length<sizeLine/\∃m',m' < m/\W (i+1) m' σ2 (upd H4 p (.lst (ys++[y]))) else ∃m',m' < m/\W (i+1) m' σ2 H3)
section
variable {X:Cx}
def uQ(X:Cx)(scope:Scope)(C:Addr)(N:List Str)(s2:Shared)(H2:Hp)(fp:List Addr)(pn:List (Addr×Obj))(Ex:XK)(e:Value)(s':Shared):Prop:=∃pins σ H s,Inv (compCx X scope C N s2 H2 fp pn) pins σ H s/\CX1 X.prog X.w X.stack H s Ex e s'
theorem mJ{q:Bool}(hok:eu N js scope X.env.scope X.N=true)(hcalm:Qt q X)(hi:PIB q X tg iter wi)
  (hg:∀C s2 H2 fp pn,PG (compCx X scope C N s2 H2 fp pn) tg g) (ht:∀C s2 H2 fp pn,PIf (compCx X scope C N s2 H2 fp pn) ifs tt) (he:∀C s2 H2 fp pn,PE ((compCx X scope C N s2 H2 fp pn).wish (uQ X scope C N s2 H2 fp pn Ex)) elt te) (hp:(∀c d H,¬ Ex c d H)\/tN X Ex)
  (hs:∀x,foldedSetIterable iter X.env x=pure x) (I:Inv X pins σ H s)(h:pY js wi g tt te σ H Q)
  (fin:∀(D C:Addr)(s5:Shared)(H4:Hp)(m5:Str->Option Value),s5.heap.Ns C m5->fu X pins H4 C->(∀h',Heap.SameBut C s5.heap h'->Inv X pins σ H4 {s5 with heap:=h'})->Q (.ref D) H4->compPost (model X.prog X.w) X.A X.xe use Qf (.ref D) C (.ok .next) s5) :
  wpAny (model X.prog X.w) X.A (comprehension (.ListComp elt [⟨tg,iter,ifs,0⟩] scope pos) scope X.env pos' (newList []) false (eval iter X.env) use) Qf X.xe s:=by
 have O:=lm hok;have hcells:∀y∈scope.names,y.2=.free->∃c,X.env.cells.lookup y.1=some c:=λy hy e=>I.ok.has y.1 (.inl (O.nf y hy e))
 refine wpAny_comprehension_free (use:=use) rfl hs (jX hcells) O.k1 O.nl (thn (hi pins s σ H _ I h) λxv s1 h1=>thn h1 λitv s2 h2=>?_)
 obtain⟨it,fp,tn,J,H2,rfl,I2,T,st2,f2,hQ⟩:=h2;refine Ht (gJ ?_);dsimp only;have sz1:(s2.heap.push {cls:=.type "list",dict:=none,data:=.seq ([]:List Value).toArray}).objs.size=s2.heap.objs.size+1:=Heap.size_push ..;have sz2:((s2.heap.push {cls:=.type "list",dict:=none,data:=.seq ([]:List Value).toArray}).push {cls:=.type "dict",data:=.dict #[]}).objs.size=s2.heap.objs.size+1+1:=by rw[Heap.size_push,sz1]
 have hns:(pushCells ((s2.heap.push {cls:=.type "list",dict:=none,data:=.seq ([]:List Value).toArray}).push {cls:=.type "dict",data:=.dict #[]}) scope.names).Ns (s2.heap.objs.size+1) (λ_=>none):=by
  rw[<-sz1];exact (Heap.Ns.new _ (.type "dict")).keeps (pushCells_keeps _ _)
 have keep:∀b o,s2.heap.get? b=some o->(pushCells ((s2.heap.push {cls:=.type "list",dict:=none,data:=.seq ([]:List Value).toArray}).push {cls:=.type "dict",data:=.dict #[]}) scope.names).get? b=some o:=λb o e=>
  pushCells_keeps _ _ b o (GX _ (GX _ e))
 have atD:(pushCells ((s2.heap.push {cls:=.type "list",dict:=none,data:=.seq ([]:List Value).toArray}).push {cls:=.type "dict",data:=.dict #[]}) scope.names).get? s2.heap.objs.size=some {cls:=.type "list",data:=.seq ([]:List Value).toArray}:=
  pushCells_keeps _ _ _ _ (GX _ (G4 _ rfl))
 have cok:=cellsFrom_ok scope.names ((s2.heap.push {cls:=.type "list",dict:=none,data:=.seq ([]:List Value).toArray}).push {cls:=.type "dict",data:=.dict #[]}) (s2.heap.objs.size+1+1) [] ⟨λ_ _ hm=>(nomatch hm),List.Pairwise.nil⟩ (by rw[sz2];exact GZ _)
 rw[sz2]at cok;rw[sz1];generalize pushCells ((s2.heap.push {cls:=.type "list",dict:=none,data:=.seq ([]:List Value).toArray}).push {cls:=.type "dict",data:=.dict #[]}) scope.names=h1' at hns keep atD cok ⊢;have frD:H2 s2.heap.objs.size=none:=I2.hok.fresh (GZ _);have frC:H2 (s2.heap.objs.size+1)=none:=I2.hok.fresh (Ia _);have hCD:s2.heap.objs.size+1≠s2.heap.objs.size:=Nat.succ_ne_self _;obtain⟨W,⟨m0,w0⟩,oX⟩:=hQ s2.heap.objs.size frD;have fpThere:∀b∈fp,b<s2.heap.objs.size:=λb hb=>by
  obtain⟨o,e,_⟩:=T.obj 0 _ st2 b hb;exact G2 e
 have lk:∀x c,(cellsFrom (s2.heap.objs.size+1+1) scope.names []++aI scope.names X.env.cells []).lookup x=some c->(x,c)∈cellsFrom (s2.heap.objs.size+1+1) scope.names []\/X.env.cells.lookup x=some c:=λx c e=>by
  rcases Ho.mp (bA e) with z|z
  ·exact .inl z
  ·exact .inr (bL (acc:=[]) (λp hp=>nomatch hp) _ z)
 have old:∀x c,X.env.cells.lookup x=some c->c<s2.heap.objs.size:=λx c e=>by
  obtain⟨v,o,ho,hd⟩:=I2.cell x c e;exact G2 ho
 have cne:∀b∈fp,∀x c,(cellsFrom (s2.heap.objs.size+1+1) scope.names []++aI scope.names X.env.cells []).lookup x=some c->c≠b:=λb hb x c e=>by
  rcases lk x c e with z|z
  ·have a1:=(aE z).2;exact Nat.ne_of_gt (GU (fpThere b hb) (Ha (Hs _ 2) a1))
  ·exact (f2 b hb).2.2.2.2.1 x c z
 let Xc:Cx:=compCx X scope (s2.heap.objs.size+1) N s2 H2 fp pins
 have cOk:Xc.Ok:=by
  refine⟨I2.ok.mod,O.k1,I2.ok.glob,I2.ok.blt,Ia _,λx y c e1 e2=>?_,λx hx=>?_,λx c e1 e2=>?_,I2.ok.hd,I2.ok.frames,.inl rfl,λb hb=>?_,I2.bs,Ha I2.ok.bsz I2.sz,λb o e hb=>?_,λb hb hm=>?_,I2.stack,I2.stkFree⟩
  ·rcases lk x c e1 with z1|z1<;>rcases lk y c e2 with z2|z2
   ·exact name_of_addr cok.apart z1 z2
   ·have a1:=(aE z1).2;exact absurd (GU (old _ _ z2) (Ha (Hs _ 2) a1)) (HI _)
   ·have a1:=(aE z2).2;exact absurd (GU (old _ _ z1) (Ha (Hs _ 2) a1)) (HI _)
   ·exact I2.ok.inj x y c z1 z2
  ·have hx:(relabel scope X.env).names.lookup x=some .cell\/(relabel scope X.env).names.lookup x=some .free:=hx;have key:(x,NameKind.free)∈scope.names\/(x,NameKind.cell)∈scope.names:=by
    rcases hx with hx|hx
    ·obtain⟨k',m,z⟩:=eO hx;rcases z with z|z
     ·subst z;exact .inr m
     ·subst z;exact .inl m
    ·obtain⟨k',m,z⟩:=eO hx;rcases z with z|z<;>(subst z;exact .inl m)
   rcases key with key|key
   ·obtain⟨c,e⟩:=hcells _ key rfl;exact dB (Hj _ (bA (mF key e)))
   ·obtain⟨c,e⟩:=cg key (n:=s2.heap.objs.size+1+1);exact dB (HE _ e)
  ·have e1:scope.names.lookup x=some .cell:=Hb.mp e1;obtain⟨c1,h1⟩:=cg (PySem.mem_of_lookup e1) (n:=s2.heap.objs.size+1+1);obtain⟨c2,h2⟩:=dB h1;have e2:(cellsFrom (s2.heap.objs.size+1+1) scope.names []++aI scope.names X.env.cells []).lookup x=some c:=e2;rw[List.lookup_append,h2]at e2;cases e2;have a1:=(aE (bA h2)).2;exact Ha (Hs _ 2) a1
  ·exact⟨Hl (Nat.lt_succ_of_lt (fpThere b hb)),λx c e=>cne b hb x c e⟩
  ·rcases (f2 b hb).2.2.2.1 with z|z
   ·exact I2.ok.noex b o e z
   ·exact absurd (GU (G2 e) (Ha I2.ok.bsz z)) (HI _)
  ·rcases G9.mp (I2.stkSub b hm) with z|z
   ·exact (f2 b hb).2.1 z
   ·exact (f2 b hb).2.2.1 z
 have I3:Inv Xc [] (jP js σ) (upd H2 s2.heap.objs.size (.lst [])) {s2 with heap:=h1'}:=by
  refine⟨cOk,⟨rfl,I2.tk⟩,I2.bare,Un.laid keep (GZ _) frD,⟨_,hns,λi x v e1 e2 e3=>?_⟩,λx c e=>?_,?_,λx c e=>?_,λp hp=>?_,?_,?_⟩
  ·have e2:(js.map λo=>o.bind λj=>(σ[j]?).bind id)[i]?=some (some v):=e2
   rw[Hi]at e2;cases q:js[i]? with
   |none=>rw[q]at e2;cases e2
   |some o=>
    rw[q]at e2;cases o with
    |none=>cases e2
    |some j=>
     obtain⟨a1,a2,a3⟩:=O.fr i x j e1 q;have hv:σ[j]?=some (some v):=by
      cases z:σ[j]? with
      |none=>rw[Option.map_some,Option.bind_some,z]at e2;cases e2
      |some y=>
       rw[Option.map_some,Option.bind_some,z]at e2;have e2:some (id y)=some (some v):=e2;rw[show y=some v from Hg e2]
     obtain⟨m,hn,hl⟩:=I2.loc;obtain⟨u,r,l⟩:=hl j x v a1 hv (.inr (.inl a3));refine⟨u,r,?_⟩;rcases l with ⟨k,_⟩|⟨k,c,e,o,ho,hd⟩
     ·rw[show X.env.kindOf x=some .cell from a3]at k;cases k
     ·have only:∀y∈scope.names,y.1=x->y.2=.free:=λy hy hyx=>?_
      ·refine .inr ⟨.inl (gF I2.ok.kind a3 a2 only),c,eF (Hj _ (bA (mF a2 e))) (λp hp hx=>?_),o,keep _ _ ho,hd⟩
       rcases Ho.mp hp with z|z
       ·have:=only _ (aE z).1 hx;cases this
       ·have z:=bL (acc:=[]) (λp hp=>nomatch hp) p z
        rw[hx,e]at z;exact (Hg z).symm
      obtain⟨i1,h1,e1'⟩:=List.mem_iff_getElem.mp hy;obtain⟨i2,h2,e2'⟩:=List.mem_iff_getElem.mp a2;have:i1=i2:=by
       refine (List.getElem_inj (h₀:=by rw[G8];exact h1) (h₁:=by rw[G8];exact h2) O.ndn).mp ?_
       rw[List.getElem_map,List.getElem_map,e1',e2'];exact hyx
      subst this;rw[e1']at e2';rw[e2']
  ·rcases lk x c e with z|z
   ·exact⟨none,(cok.empty x c z).1⟩
   ·obtain⟨v,o,ho,hd⟩:=I2.cell x c z;exact⟨v,o,keep _ _ ho,hd⟩
  ·show upd H2 _ _ (s2.heap.objs.size+1)=none;rw[ac hCD];exact frC
  ·rcases lk x c e with z|z
   ·have a1:=(aE z).2;show upd H2 _ _ c=none;rw[ac (Nat.ne_of_gt (GU (Nat.lt_add_of_pos_right (by decide:0<2)) a1))]
    exact I2.hok.fresh (Ha (Hs _ 2) a1)
   ·have a2:=old _ _ z;show upd H2 _ _ c=none;rw[ac (Hl a2)];exact I2.freeC x c z
  ·have hp:p∈X.pn++pins:=by rw[HM]at hp;exact hp
   obtain⟨e,n,ne,nf,d⟩:=I2.pin p hp;refine⟨keep _ _ e,by rw[ac (Hl (G2 e))];exact n,Hl (Nat.lt_succ_of_lt (G2 e)),λhm=>?_,d⟩
   rcases G9.mp (I2.stkSub _ hm) with z|z
   ·exact ne z
   ·exact nf z
  ·exact I2.hok.laid keep (GZ _) ⟨Nat.zero_le _,[],0,.nil,atD⟩
  ·show (js.map _).length=N.length;rw[G8,O.len]
 have fpc:∀{H':Hp},(∀b∈fp,H' b=none)->∀b∈fp,fu Xc [] H' b:=λ{H'} hn b hb=>by
  refine⟨hn b hb,Hl (Nat.lt_succ_of_lt (fpThere b hb)),λhm=>?_,.inl hb,λx c e=>cne b hb x c e,λp hp=>(f2 b hb).2.2.2.2.2 p (by rw[HM]at hp;exact hp)⟩
  rcases G9.mp (I2.stkSub b hm) with z|z
  ·exact (f2 b hb).2.1 z
  ·exact (f2 b hb).2.2.1 z
 have hcalm:Qt q Xc:=by
  cases q with
  |false=>exact hcalm
  |true=>exact hcalm.imp id λ⟨a,o,u,e,f,l⟩=>⟨a,o,u,e,I2.base.frzs a o u f,l⟩
 have st3:tn 0 h1':=T.keep 0 _ _ st2 λb hb o e=>keep b o e
 have fr3:∀b∈fp,(upd H2 s2.heap.objs.size (.lst [])) b=none:=λb hb=>by
  rw[ac (Hl (fpThere b hb))];exact (f2 b hb).1
 have bk:∀{p5:List (Addr×Obj)}{σ5:St}{H4:Hp}{s5:Shared},Inv Xc p5 σ5 H4 s5->∀h',Heap.SameBut (s2.heap.objs.size+1) s5.heap h'->Inv X pins σ H4 {s5 with heap:=h'}:=λ{p5 σ5 H4 s5} I5 h' hsame=>by
  have un5:Un (frs X.stack) fp H2 H4 s2.heap s5.heap:=I5.base;have neC:∀b o,s2.heap.get? b=some o->b≠s2.heap.objs.size+1:=λb o e=>Hl (Nat.lt_succ_of_lt (G2 e))
  have fC:H4 (s2.heap.objs.size+1)=none:=I5.free;refine I2.call' (s':={s5 with heap:=h'}) (ch:=fp) I5.os ⟨λb o q n hb hx=>(hsame.2 b (neC b o q)).trans (un5.keep b o q n hb hx),λb o q n hb hx=>?_,un5.free,λb o q hx=>?_,un5.tups,un5.frzs,un5.tbls⟩ ?_ I5.bare (λb hb=>⟨(f2 b hb).2.2.2.1,(f2 b hb).2.1,(f2 b hb).2.2.2.2.1,(f2 b hb).2.2.2.2.2⟩)
  ·obtain⟨sl,z⟩:=un5.slot b o q n hb hx;exact⟨sl,(hsame.2 b (neC b o q)).trans z⟩
  ·obtain⟨o',z⟩:=un5.there b o q hx;exact⟨o',(hsame.2 b (neC b o q)).trans z⟩
  ·exact I5.hok.keptT λb u ob hb q=>(hsame.2 b λz=>by rw[z,fC]at hb;cases hb).trans q
 have hV:∀e s,uQ X scope (s2.heap.objs.size+1) N s2 H2 fp pins Ex e s->notedBy (model X.prog X.w) X.A (compEnvC scope (cellsFrom (s2.heap.objs.size+1+1) scope.names []++aI scope.names X.env.cells []) (s2.heap.objs.size+1) X.env) (λx s'=>compPost (model X.prog X.w) X.A X.xe use Qf (.ref s2.heap.objs.size) (s2.heap.objs.size+1) (.error x) s') e s:=λe s5 ⟨pc,σc,Hc,sc,Ic,a,cls,B,H5,dx,ee,os,bare,un,hok5,⟨⟨a0,fl⟩,dd⟩,ha,inc,hE⟩=>by
  subst ee;rcases hp with hp|⟨⟨hst,hfr,hex⟩,hp⟩
  ·exact (hp _ _ _ hE).elim
  have fr0:X.A.frames=some (X.env::X.outer):=hst▸I2.ok.frames;have fl':Heap.FlyingW B (X.env::X.outer) a cls a0 s5.heap:=hst▸fl;have na:sc.heap.get? a=none:=qe (X:=Xc) (H2:=H5) ⟨a0,fl⟩ inc;show wpAny _ _ (noteFrame (.ref a) X.env) _ _ _;refine oO fr0 hfr fl' dd λh6 hd6 up6 dd6=>?_
  have I6:Inv Xc pc σc H5 {s5 with heap:=h6}:=Ic.behind (s':=s5) os bare un hok5 inc hd6.1 up6
  obtain⟨m6,hn6,_⟩:=id I6.loc;refine⟨m6,hn6,λh' hsame cenv _=>?_⟩
  obtain⟨oC,_,_,eC,dC,_⟩:=id hn6;have I7:=bk I6 h' hsame;obtain⟨st6,nB,ff6,oe,vs,T,oT,ts,he,⟨hc,h0⟩,hv,h1,nT,ne,hT,dT,h3⟩:=hd6;obtain⟨oe',he',hdx,ws,hw1,hw2⟩:=dd6;cases he.symm.trans he';cases hv.symm.trans hw1;have neA:a≠s2.heap.objs.size+1:=λz=>by
   have q:h6.get? (s2.heap.objs.size+1)=some oC:=eC;rw[<-z,he]at q;cases q;rw[hv]at dC;cases dC
  have neT:T≠s2.heap.objs.size+1:=λz=>by
   have q:h6.get? (s2.heap.objs.size+1)=some oC:=eC;rw[<-z,hT]at q;cases q;rw[dT]at dC;cases dC
  have ea:=(hsame.2 a neA).trans he;have eT:=(hsame.2 T neT).trans hT;have sz:3<ts.size:=(Hy.mp h3).1;have old':∀b o,X.s₀.heap.get? b=some o->∃o',sc.heap.get? b=some o':=λb o q=>by
   have nf:b∉fp:=λhb=>by
    rcases (f2 b hb).2.2.2.1 with z|z
    ·rw[hex]at z;cases z
    ·exact absurd (GU (G2 q) z) (HI _)
   obtain⟨o1,e1⟩:=I2.base.there b o q (by rw[hex];exact λz=>nomatch z)
   exact Ic.base.there b o1 e1 nf
  have n0:∀b,(∀o',sc.heap.get? b=some o'->False)->X.s₀.heap.get? b=none:=λb hb=>by
   cases q:X.s₀.heap.get? b with
   |none=>rfl
   |some o=>
    obtain⟨o',z⟩:=old' b o q;exact (hb o' z).elim
  have noT:∀o',sc.heap.get? T=some o'->False:=λo' q=>by
   obtain⟨o2,e2⟩:=un.there T o' q (λz=>nomatch z)
   have z:=inc T o2 e2 (.inr ⟨⟨o',q⟩,λhm=>by
    have hm:T∈frs (X.env::X.outer):=hst▸hm;obtain⟨_,o3,e3,nf⟩:=ff6.mem hm;rw[hT]at e3;cases e3;exact nf ts dT⟩)
   rw[nT]at z;cases z
  have hT5:H5 T=none:=by
   cases q:H5 T with
   |none=>rfl
   |some u=>
    obtain⟨ob,z⟩:=(hok5 T u q).isAt;have z2:=inc T ob z (.inl (by rw[q];exact λw=>nomatch w))
    rw[nT]at z2;cases z2
  refine uR (s:={s5 with heap:=h'}) ea hv h1 eT dT sz λh'' oT' ts' g1 g2 g3 g4=>?_
  exact hp pins σ H5 {s5 with heap:=h'} a T cls dx h'' I7 g4 (λo q=>by rw[eT]at q;cases q;exact⟨ts,dT⟩) ⟨oe,vs,oT',ts',a0,(g4 a (He ne)).trans ea,hc,hdx,hv,h0,h1,hw2,ne,g1,g2,g3⟩ ha hT5 (n0 a λo' q=>by rw[na]at q;cases q) (n0 T noT) hE
 have loop:codeAny (model X.prog X.w) X.A (.compLoop (.ListComp elt [⟨tg,iter,ifs,0⟩] scope pos) 0 (.ref it) (.ref s2.heap.objs.size) (compEnvC scope (cellsFrom (s2.heap.objs.size+1+1) scope.names []++aI scope.names X.env.cells []) (s2.heap.objs.size+1) X.env))
   (compPost (model X.prog X.w) X.A X.xe use Qf (.ref s2.heap.objs.size) (s2.heap.objs.size+1)) {s2 with heap:=h1'}:=by
  refine rZ (V:=uQ X scope (s2.heap.objs.size+1) N s2 H2 fp pins Ex) (hV:=hV) (λn s'=>∃i σc H',Inv Xc [] σc H' s'/\tn i s'.heap/\(∀b∈fp,H' b=none)/\W i n σc H') ?_ m0 ⟨0,_,_,I3,st3,fr3,w0⟩
  rintro n s4 ⟨i,σc,H4,I4,st4,fr4,w4⟩;rcases oX i n σc H4 w4 with ⟨stop,q⟩|⟨go,step⟩
  ·refine thn (T.done Xc rfl rfl rfl hcalm i [] s4 σc H4 (λ_ _=>False) I4 (fpc fr4) st4 stop) λr s5 ⟨hr,I5⟩=>?_
   subst hr;obtain⟨m5,hn5,_⟩:=I5.loc;exact fin _ _ _ H4 m5 hn5 (I2.fpOk (Ia _) I5.free) (λh' hsame=>bk I5 h' hsame) q
  ·refine thn (T.item Xc rfl rfl rfl hcalm i [] s4 σc H4 (λ_ _=>False) I4 (fpc fr4) st4 go) λr s5 ⟨u,hr,h5⟩=>?_
   subst hr;refine thn h5 λ_ s6 ⟨x,H6,I6,r6,y6,st6,fr6⟩=>?_
   have I6':=I6.pinned (fpc fr6) (T.obj _ _ st6);refine thn (hg _ _ _ _ _ _ s6 σc H6 x u _ I6' r6 (step x H6 y6)) λ_ s7 ⟨σ7,H7,I7,q7⟩=>?_
   refine thn (ht _ _ _ _ _ _ s7 σ7 H7 _ I7 q7) λok s8 ⟨H8,I8,q8⟩=>?_
   have back:∀{H9:Hp}{s9:Shared}{σ9:St},Inv Xc ([]++ji fp s6.heap) σ9 H9 s9->Inv Xc [] σ9 H9 s9/\tn (i+1) s9.heap/\∀b∈fp,H9 b=none:=λ{H9 s9 σ9} I9=>by
    refine⟨I9.unpinned,T.keep _ _ _ st6 λb hb o e=>(I9.pin (b,o) (Hj _ (Hj _ (dD hb e)))).1,λb hb=>?_⟩
    obtain⟨o,e,d⟩:=T.obj _ _ st6 b hb;exact (I9.pin (b,o) (Hj _ (Hj _ (dD hb e)))).2.1
   cases ok with
   |false=>
    rw[GV Hf]at q8 ⊢;obtain⟨m',hm,w8⟩:=q8;obtain⟨b1,b2,b3⟩:=back I8;exact⟨m',hm,i+1,σ7,H8,b1,b2,b3,w8⟩
   |true=>
    rw[G3 rfl]at q8 ⊢;refine thn (he _ _ _ _ _ _ s8 σ7 H8 _ (I8.wish _) q8) λy s9 ⟨z,H9,I9,r9,ys,e9,hl,m',hm,w9⟩=>?_
    have I9:=I9.unwish;refine thn (k9 (X:=Xc) _ s9 σ7 H9 (.ref s2.heap.objs.size) [z] (.ref s2.heap.objs.size) [y] (λ_ H10=>H10=upd H9 s2.heap.objs.size (.lst (ys++[z]))) I9 rfl (.cons r9 .nil) ⟨_,ys,z,rfl,rfl,e9,hl,rfl⟩) λ_ s10 ⟨_,H10,I10,_,e10⟩=>?_
    subst e10;obtain⟨b1,b2,b3⟩:=back I10;exact⟨m',hm,i+1,σ7,_,b1,b2,b3,w9⟩
 exact codeAny_compStart_list loop (T.self _ 0 _ _ _ st3 loop)
theorem PE.wish0{V:Value->Shared->Prop}{C:Addr}{s2:Shared}{H2:Hp}{fp:List Addr}{pn:List (Addr×Obj)}(h:PE (compCx X scope C N s2 H2 fp pn) e t):PE ((compCx X scope C N s2 H2 fp pn).wish V) e t:=λpins s σ H Q I q=>
 HP (h pins s σ H Q I.unwish q) (λ_ _ ⟨v,H',I',r⟩=>⟨v,H',I'.wish _,r⟩) λ_ _ z=>z.elim
theorem vA{q:Bool}(hok:eu N js scope X.env.scope X.N=true)(hcalm:Qt q X)(hi:PIB q X tg iter wi)
  (hg:∀C s2 H2 fp pn,PG (compCx X scope C N s2 H2 fp pn) tg g) (ht:∀C s2 H2 fp pn,PIf (compCx X scope C N s2 H2 fp pn) ifs tt) (he:∀C s2 H2 fp pn,PE (compCx X scope C N s2 H2 fp pn) elt te)
  (hs:∀x,foldedSetIterable iter X.env x=pure x:=by intro _;rfl):PE X (.ListComp elt [⟨tg,iter,ifs,0⟩] scope pos) (pY js wi g tt te):=λpins s σ H Q I h=>by
 rw[eval_ListComp];exact mJ (use:=none) (Ex:=λ_ _ _=>False) hok hcalm hi hg ht (λC s2 H2 fp pn=>(he C s2 H2 fp pn).wish0) (.inl λ_ _ _ z=>z) hs I h λD C s5 H4 m5 hn _ key q=>⟨m5,hn,λh' hs'=>⟨.ref D,H4,key h' hs',rfl,q⟩⟩
theorem jf{q:Bool}{spos:Pos}(hN:X.N.Nodup)(hy:X.N[i]?=some y)(hl:X.env.scope.names.lookup y=some .local)(hok:eu N js scope X.env.scope X.N=true)(hcalm:Qt q X)(hi:PIB q X tg iter wi)
  (hg:∀C s2 H2 fp pn,PG (compCx X scope C N s2 H2 fp pn) tg g) (ht:∀C s2 H2 fp pn,PIf (compCx X scope C N s2 H2 fp pn) ifs tt) (he:∀C s2 H2 fp pn,PE (compCx X scope C N s2 H2 fp pn) elt te)
  (hs:∀x,foldedSetIterable iter X.env x=pure x) (hsw:swapsWith (.ListComp elt [⟨tg,iter,ifs,0⟩] scope pos) (some (.Name y py)) spos.line X.env=pure true) :
  PS X (.Assign [.Name y py] (.ListComp elt [⟨tg,iter,ifs,0⟩] scope pos) spos) (yc (pY js wi g tt te) (qE i)):=by
 intro pins s σ H D I h;rw[exec_Assign_Name_used _ _ _ _ hsw];refine xL (wpAny_standAt (xL ?_));show wpAny _ _ (do let _<-comprehension (.ListComp elt [⟨tg,iter,ifs,0⟩] scope pos) scope X.env _ (newList []) false (eval iter X.env) (some (assign (.Name y py) X.env))) _ _ s
 refine xL (HP (mJ (use:=some (assign (.Name y py) X.env)) (Qf:=λ_ s'=>SP X pins D .next s') (Ex:=λ_ _ _=>False) hok hcalm hi hg ht (λC s2 H2 fp pn=>(he C s2 H2 fp pn).wish0) (.inl λ_ _ _ z=>z) hs I h λDa C s5 H4 m5 hn fp key q=>?_) (λ_ s' hq=>GT (GT hq)) λ_ _ z=>z)
 show wpAny _ _ (assign (.Name y py) X.env (.ref Da)) _ _ _;have J:Inv X pins σ H4 s5:=key s5.heap (Heap.SameBut.refl _ _);obtain⟨oC,es,ep,eC,rC⟩:=id hn;obtain⟨f0,f1,f2,f3,f4,f5⟩:=id fp;have JC:Inv X (pins++[(C,oC)]) σ H4 s5:=J.pins_of λp hp=>by
  rcases Ho.mp hp with z|z
  ·exact J.pin p (Hj _ z)
  ·have e:p=(C,oC):=by simpa using z
   subst e;exact⟨eC,f0,f1,f2,λv hv=>by
    have z:=rC.1;rw[show oC.data=.cell v from hv]at z;cases z⟩
 refine thn ((iW (pos:=py) hN hy (.inl hl) (.inr hl)) _ s5 σ H4 (.ref Da) (.ref Da) (λσ' H'=>H'=H4/\D.nx σ' H') JC rfl ⟨rfl,q⟩) λ_ s6 ⟨σ6,H6,I6,e6,q6⟩=>?_
 subst e6;have eC6:s6.heap.get? C=some oC:=(I6.pin (C,oC) (Hj _ (Hj _ (by simp)))).1
 refine⟨m5,hn.at' λo e=>?_,λh' hsame=>⟨σ6,H6,?_,q6⟩⟩
 ·rw[eC]at e;cases e;exact eC6
 ·exact (Inv.unpinned I6).turned (t':=s6.toks) (it:=C) (λb o hb e=>(hsame.2 b hb).trans e) f0 f1 f3 f4 f5
end
end L2
namespace L2
open PySem PySem.Spec PySem.Calls PyProof.Rows PySem.W PySem.Builtin PySem.Builtin.ObjectAttr PySem.Builtin.Getset_descriptor
section
variable {h:Heap}{os:OsState}{o:Obj}{K:Ii}
theorem vy(X:K.In h)(hx:h.get? a=some o)(hc:o.cls=.ref C)(hm:PySem.W.mroIn K C (.type "object")=some true)(hq:R (.ok (.ret (.ref C))) ⟨h,g,d,t,os⟩) :
  codeAny (model prog w) A (.call (.builtin "getset_descriptor.__get__") ⟨[.builtin "object.__class__",.ref a,tp],[]⟩) R ⟨h,g,d,t,os⟩:=by
 have L0:PySem.W.Looks (model prog w) h (typeOf (.ref a)) (.ref C):=hc▸(PySem.W.Looks.ld hx).andThen .now;have L1:=PySem.W.looks_mroIn (M:=model prog w) X hm;refine codeAny_call_builtin KF.slot_gs.plain KF.entry_gs (KF.slot_gs.check _ _ _ _ _ _ _ _ KF.type_class (KF.args_gs _ _ _) ?_);unfold Builtin.«getset_descriptor.__get__» descrGet;rw[dga_obj];refine xL (GT ?_);unfold descrGetter descrCheckInstance descrNameAndClass isInstance;simp only[KF.owner_class]
 repeat lk
 refine⟨Code.quiet_builtin _ (by decide +kernel),codeAny_builtin KF.entry_class ?_⟩
 unfold Builtin.«object.__class__» shownTypeOf
 repeat lk
 exact hq
theorem mS(X:K.In h)(ha:findIn K (.ref C) name=some (some b))(hg:specialIn K b "__get__"=some (some gg))(ht:takesIn K b=some true):Looks M h (find (.ref a) (.ref C) name) (.bind gg b):=by
 have L1:=looks_findIn (M:=M) X ha;have L2:Looks M h (getOf (some b)) (some gg):=looks_specialIn X hg;have L3:=looks_takesIn (M:=M) X ht;refine L1.andThen (L2.andThen ?_);exact (show Looks M h (dataDescriptor? (some b) (some gg)) (some (gg,b)) from L3.andThen .now).andThen (Looks.tag .now)
variable (hga:findIn K (.ref C) "__getattribute__"=some (some (.builtin "BaseException.__getattribute__"))) (hgn:findIn K (.ref C) "__getattr__"=some none) (hcl:findIn K (.ref C) "__class__"=some (some (.builtin "object.__class__")))
 (hn:specialIn K (.builtin "object.__class__") "__get__"=some (some (.builtin "getset_descriptor.__get__"))) (htk:takesIn K (.builtin "object.__class__")=some true) (hm:mroIn K C (.type "object")=some true) (hmB:mroIn K C (.type "BaseException")=some true)
include hcl hn htk hm in
theorem sh(X:K.In h)(hx:h.get? a=some o)(hc:o.cls=.ref C)(hq:Q (.done (.ret (.ref C))) ⟨h,g,d,t,os⟩) :
  wpAny (model prog w) A (Builtin.«object.__getattribute__» ⟨[.ref a,.str "__class__" tk],[]⟩) Q E ⟨h,g,d,t,os⟩:=by
 have L0:Looks (model prog w) h (typeOf (.ref a)) (.ref C):=hc▸(Looks.ld hx).andThen .now;have L1:=mS (M:=model prog w) (a:=a) X hcl hn htk;refine xL (GT (xL (GT (xL (L0.at (xL (L1.at ?_)))))));show wpAny _ _ (bindTo _ _ _ _) _ _ _;refine xL (HC (wpAny_call (vy X hx hc hm ?_)));exact GT hq
include hmB in
theorem sv(X:K.In h)(hx:h.get? a=some o)(hc:o.cls=.ref C)(hq:Q () ⟨h,g,d,t,os⟩):wpAny M A (checkBuiltinCall "BaseException.__getattribute__" ⟨[.ref a,nameV],[]⟩) Q E ⟨h,g,d,t,os⟩:=by
 have hk:builtinKind "BaseException.__getattribute__"=some .slot:=by decide +kernel
 have hsplit:splitId "BaseException.__getattribute__"=some ("BaseException","__getattribute__"):=by decide +kernel
 have L0:Looks M h (typeOf (.ref a)) (.ref C):=hc▸(Looks.ld hx).andThen .now;have L1:=looks_mroIn (M:=M) X hmB;have ha:=F.args_bexc_ga (.ref a) nameV;simp only[checkBuiltinCall,hk,hsplit];refine xL ?_
 ·unfold isInstance;refine xL (L0.at (L1.at ?_))
  repeat (first|assumption|wp_step)
include hga hgn hcl hn htk hm hmB in
theorem ut(X:K.In h)(hx:h.get? a=some o)(hc:o.cls=.ref C)(hq:Q (some (.ref C)) ⟨h,g,d,t+1,os⟩):wpAny (model prog w) A (getAttr? (.ref a) "__class__") Q E ⟨h,g,d,t,os⟩:=by
 have L0:Looks (model prog w) h (typeOf (.ref a)) (.ref C):=hc▸(Looks.ld hx).andThen .now;have L1:=looks_findIn (M:=model prog w) X hga;have L2:=looks_findIn (M:=model prog w) X hgn;have FB:Slot "ValueError" "__getattribute__" "BaseException.__getattribute__":=F.excAttr_ValueError.ga;have f3:=FB.bind (.ref a);unfold getAttr? getAttrBy? getAttrBy;refine xL (wpAny_mkText (xL (wpAny_attempt (HC (xL (L0.at (xL (L1.at ?_))))))));show wpAny _ _ (getAttrByItsOwn _ _ _ _ _ _) _ _ _;refine xL (L2.at (xL (wpAny_attempt (HC ?_))));unfold callGetattribute;show wpAny _ _ (boundAndCalled _ _ _) _ _ _;unfold boundAndCalled;rw[f3];refine xL (GT ?_);refine wpAny_call (codeAny_call_builtin FB.plain F.entry_bexc_ga (sv hmB X hx hc (sh hcl hn htk hm X hx hc ?_)));exact GT (GT hq)
end
structure ExcI (K:Ii)(C:Addr):Prop where
 hd:PySem.W.hasDictIn K C=true
 ga:findIn K (.ref C) "__getattribute__"=some (some (.builtin "BaseException.__getattribute__"))
 gn:findIn K (.ref C) "__getattr__"=some none
 cl:findIn K (.ref C) "__class__"=some (some (.builtin "object.__class__"))
 n:specialIn K (.builtin "object.__class__") "__get__"=some (some (.builtin "getset_descriptor.__get__"))
 tk:takesIn K (.builtin "object.__class__")=some true
 m:mroIn K C (.type "object")=some true
 mB:mroIn K C (.type "BaseException")=some true
theorem u8{K:Ii}(X:ExcI K C):KitX K (.ref a) (.ref C) (λh=>∃o,h.get? a=some o/\o.cls=.ref C) where
 ty:=λM h _ ⟨o,hx,hc⟩=>hc▸(Looks.ld hx).andThen .now
 it:=λ_ _ Y _=>by
  obtain⟨cdD,hcD,_⟩:=any_some X.hd;unfold clsIn at hcD;split at hcD
  ·rename_i c' d' cd' sl' ho;intro A' Q' E' s' k q;unfold isType loadHead;exact xL (wpAny_loadPart (k _ _ (Y _ _ ho)) (GT q))
  ·cases hcD
 ne:=λh tp dd its n sl Y htp=>by
  obtain⟨cdD,hcD,_⟩:=any_some X.hd;refine Bool.eq_false_iff.mpr λq=>?_
  have e:C=tp:=Value.ref.inj (Hb.mp q);subst e;unfold clsIn at hcD;split at hcD
  ·rename_i c' d' cd' sl' ho;have z:=(Y _ _ ho).symm.trans htp;cases z
  ·cases hcD
 ca:=λ{prog w A E Q s} Y ⟨o,hx,hc⟩ k=>ut X.ga X.gn X.cl X.n X.tk X.m X.mB Y hx hc k
end L2
namespace L2
open PySem PySem.Spec PySem.Calls PyProof.Rows PySem.W PySem.Builtin PySem.Builtin.ObjectAttr
section
variable {h:Heap}{os:OsState}{o:Obj}{K:Ii}
end
end L2
namespace L2
open PySem PySem.Spec PySem.Calls PyProof.Rows PySem.W
section
variable {s:Shared}
end
end L2
namespace L2
open PySem PySem.Spec PySem.Calls PyProof.Rows PySem.W
open AutoSeq1 (wpAny_loadPart')
open MeetsSeq MeetsSeq2 MeetsSeq3
section
variable {A:Around}{s:Shared}
end
end L2
namespace L2
open PySem PySem.Spec PyProof.Rows
section
variable {A:Around}{s:Shared}{St:Nat->Heap->Prop}{xs:Array (Int×Tok)}
end
end L2
namespace L2
open PySem PySem.Spec PySem.Calls PyProof.Rows PySem.W
open AutoSeq1 (wpAny_loadPart')
noncomputable def lt2(p q:Int×Int):Bool:=if p.1=q.1 then decide (p.2<q.2) else decide (p.1<q.1)
def P2(h:Heap)(v:Value)(p:Int×Int):Prop:=∃a n t u dd sl,v=.ref a/\h.get? a=some {cls:=.type "tuple",dict:=dd,data:=.seq #[.int p.1 t,.int p.2 u] n,slots:=sl}
theorem zX(l b:Addr)(n m:Nat)(p q:Int×Int)(t1 t2 t3 t4:Tok)(dd dd2:Option Addr)(sl sl2:Array (Option Value)) :
  Meets (Builtin.«tuple.__lt__» ⟨[.ref l,.ref b],[]⟩)
   (λA R s=>s.heap.get? l=some {cls:=.type "tuple",dict:=dd,data:=.seq #[.int p.1 t1,.int p.2 t2] n,slots:=sl}/\s.heap.get? b=some {cls:=.type "tuple",dict:=dd2,data:=.seq #[.int q.1 t3,.int q.2 t4] m,slots:=sl2}/\
    R (.ok (.ret (.bool (lt2 p q)))) s):=by
 intro prog w A R s h;obtain⟨hp,g,d,tk,os⟩:=s;obtain⟨hl,hb,h⟩:=h;have f2:=AutoSeq1.sub_tuple_tuple
 wp_walk using wpAny_loadPart' hl,wpAny_loadPart' hb
 show wpAny _ _ (eqBool (.int p.1 t1) (.int q.1 t3)) _ _ _;refine wpAny_eqBool_int ?_;by_cases e:p.1=q.1
 ·rw[Hb.mpr e];unfold lt2 at h;rw[G3 e]at h
  wp_walk
  show wpAny _ _ (eqBool (.int p.2 t2) (.int q.2 t4)) _ _ _;refine wpAny_eqBool_int ?_;by_cases e2:p.2=q.2
  ·rw[Hb.mpr e2]
   wp_walk
   rw[e2]at h;simp only[Int.lt_irrefl,decide_false]at h;exact h
  ·rw[Hr.mpr e2];simp only[Bool.not_false,if_true];refine xL (wpAny_rule ?_);refine xL (show wpAny _ _ (compareOp .Lt (.int p.2 t2) (.int q.2 t4)) _ _ _ from wpAny_lt_int ?_)
   wp_walk
   exact h
 ·rw[Hr.mpr e];unfold lt2 at h;rw[GV e]at h;simp only[Bool.not_false,if_true];refine xL (wpAny_rule ?_);refine xL (show wpAny _ _ (compareOp .Lt (.int p.1 t1) (.int q.1 t3)) _ _ _ from wpAny_lt_int ?_)
  wp_walk
  exact h
theorem BC{prog:Program}{w:World}{A:Around}{E:Value->Shared->Prop}{s:Shared}{u v:Value}{p q:Int×Int}{Q:Value->Shared->Prop}(hu:A.units<cLine)(h1:P2 s.heap u p)(h2:P2 s.heap v q)(h:Q (.bool (lt2 p q)) s):wpAny (model prog w) A (richCompare .Lt u v) Q E s:=by
 obtain⟨a,n,t1,t2,dd,sl,rfl,g1⟩:=h1;obtain⟨b,m,t3,t4,dd2,sl2,rfl,g2⟩:=h2;exact richCompare_meets_room (op:=.Lt) ⟨_,g1,rfl⟩ ⟨_,g2,rfl⟩ PySem.F.slot_tuple_lt PySem.F.entry_tuple_lt (PySem.F.args_tuple_lt_2 _ _) (zX a b n m p q t1 t2 t3 t4 dd dd2 sl sl2)
  ⟨g1,g2,show Value.bool (lt2 p q)≠Value.notImplemented/\Q (.bool (lt2 p q)) s from⟨(λx=>nomatch x),h⟩⟩ hu
section
variable {prog:Program}{w:World}{A:Around}{s:Shared}{St:Nat->Heap->Prop}{I l:Addr}{fp wr:List Addr}{n:Nat}{P:Nat->Value->Prop}{R:Result->Shared->Prop}{kw:List (Str×Value)}{Q:Value->Shared->Prop}{E:Value->Shared->Prop}
theorem xu{G:Heap->Prop}(W:Walks prog w A.in1 I fp wr n P St)(bt:Nat->Nat->Bool)(hcmp:∀i j vi vj (s:Shared)(Q:Value->Shared->Prop)(E:Value->Shared->Prop),G s.heap->P i vi->P j vj->Q (.bool (bt i j)) s->wpAny (model prog w) A.in1 (richCompare .Lt vi vj) Q E s)(S:Addr)(hSf:S∉fp)(hG:∀h h',G h->(∀b o,b∉wr->b≠S->h.get? b=some o->h'.get? b=some o)->G h') :
  ∀(k j:Nat)(s:Shared)(vb:Value)(c:Nat),n-(j+1)=k->j+1<=n->St (j+1) s.heap->G s.heap->P (argBest bt j) vb->s.heap.get? S=some {cls:=.type "list",dict:=none,data:=.seq #[vb,vb] c,slots:=#[]}->
  (∀v h' tk,P (argBest bt (n-1)) v->(∀b o,b∉wr->b≠S->s.heap.get? b=some o->h'.get? b=some o)->R (.ok (.ret v)) {s with heap:=h',toks:=tk})->
  codeAny (model prog w) A (.builtin "min.loop" ⟨[.ref I,.none,.ref S],kw⟩) R s:=by
 have hSw:S∉wr:=λh=>hSf (W.sub _ h)
 have hname:(toString "min"++toString ".loop" : String) = "min.loop":=by decide
 intro k
 induction k with
 |zero=>
  intro j s vb c hk hj hst hg hPb hS hR;have hin:j+1=n:=by omega
  refine codeAny_builtin F.entry_min_loop ?_;rw[Around.under_plainId F.plain_min_loop _];show wpAny _ A.in1 (seqItems? (.ref S) >>=_) _ _ s;refine xL (wpAny_seqItems hS rfl ?_);show wpAny _ A.in1 (tryCatch (pyNext (.ref I)) _ >>=_) _ _ s;refine xL (wpAny_tryCatch (W.done s _ _ (hin▸hst) λh' tk hk'=>?_))
  have hS':=hk' S _ hSw hS;show wpAny _ A.in1 (updateSeq S (λ_=>#[]) >>=_) _ _ _
  refine xL (wpAny_updateSeq hS' rfl (xL (wpAny_letGo (GT ?_))));exact hR vb _ tk (by rw[<-hin];exact hPb) λb o hbw hbS e=>(Hm _ _ (He hbS)).trans (hk' b o hbw e)
 |succ k ih=>
  intro j s vb c hk hj hst hg hPb hS hR;have hlt:j+1<n:=by omega
  refine codeAny_builtin F.entry_min_loop ?_;rw[Around.under_plainId F.plain_min_loop _];show wpAny _ A.in1 (seqItems? (.ref S) >>=_) _ _ s;refine xL (wpAny_seqItems hS rfl ?_);show wpAny _ A.in1 (tryCatch (pyNext (.ref I)) _ >>=_) _ _ s;refine xL (wpAny_tryCatch (W.item (j+1) s _ _ hlt hst λv h' tk hP hst' hk'=>?_))
  have hS':=hk' S _ hSw hS;show wpAny _ A.in1 (tryCatch (holding [v,v] (richCompare .Lt v vb >>=_)) _ >>=_) _ _ _;refine xL (wpAny_tryCatch (HC (xL (hcmp (j+1) (argBest bt j) v vb _ _ _ (hG _ _ hg λb o h1 _ h2=>hk' b o h1 h2) hP hPb ?_))))
  refine xL (HC (Hx (xL (wpAny_letGo (GT ?_)))));cases hb:bt (j+1) (argBest bt j) with
  |true=>
   simp only[if_true];refine xL (wpAny_updateSeq hS' rfl (xL (wpAny_letGo ?_)));rw[hname];refine GT ⟨plainId_quiet F.plain_min_loop _,ih (j+1) _ v _ (by omega) hlt (W.frame _ _ _ hst' λb hbf o e=>?_) (hG _ _ hg λb o h1 h2 h3=>(Hm _ _ (He h2)).trans (hk' b o h1 h3)) (by simp only[argBest,hb,if_true];exact hP) (Hz _ hS' rfl) λv' h'' tk'' hP' hk''=>?_⟩
   ·exact (Hm _ _ (λh:S=b=>hSf (by rw[h];exact hbf))).trans e
   ·exact hR v' h'' tk'' hP' λb o hbw hbS e=>hk'' b o hbw hbS ((Hm _ _ (He hbS)).trans (hk' b o hbw e))
  |false=>
   simp only[HZ,if_false];refine xL (wpAny_letGo ?_);rw[hname];refine GT ⟨plainId_quiet F.plain_min_loop _,ih (j+1) _ vb c (by omega) hlt hst' (hG _ _ hg λb o h1 _ h3=>hk' b o h1 h3) (by simp only[argBest,hb,HZ,if_false];exact hPb) hS' λv' h'' tk'' hP' hk''=>?_⟩
   exact hR v' h'' tk'' hP' λb o hbw hbS e=>hk'' b o hbw hbS (hk' b o hbw e)
theorem wE{items:Array Value}(hl:s.heap.IsList l items)(h:∀s2:Shared,s2={s with heap:=s.heap.push {cls:=.type "list_iterator",data:=.fields #[.ref l,.int 0 0]}}->(s2.heap.IsListIter s.heap.objs.size l 0/\s2.heap.IsList l items)->(∀b∈[s.heap.objs.size,l],b<s2.heap.objs.size)->l≠s.heap.objs.size->Q (.ref s.heap.objs.size) s2):wpAny (model prog w) A (pyIter (.ref l)) Q E s:=by
 have hlt:l<s.heap.objs.size:=by obtain⟨_,e,_⟩:=hl;exact G2 e
 refine wpAny_pyIter_list hl (h _ rfl ⟨⟨_,G4 _ rfl,rfl,rfl⟩,hl.push _⟩ (λb hb=>?_) (Hl hlt))
 have e:(s.heap.push {cls:=.type "list_iterator",data:=.fields #[.ref l,.int 0 0]}).objs.size=s.heap.objs.size+1:=by simp[Heap.push]
 show b<(s.heap.push _).objs.size;rw[e];rcases G9.mp hb with rfl|hb
 ·omega
 ·rw[Hq.mp hb];exact Nat.lt_succ_of_lt hlt
theorem At{items:Array Value}{ps:Nat->Int×Int}(hh:A.handled=none)(hu:A.units+1<cLine)(hl:s.heap.IsList l items)(hn:0<items.size)(hP:∀i v,items[i]?=some v->P2 s.heap v (ps i))
  (h:∀v h' tk,items[argBest (λi j=>lt2 (ps i) (ps j)) (items.size-1)]?=some v->(∀b o,s.heap.get? b=some o->h'.get? b=some o)->Q v {s with heap:=h',toks:=tk}) :
  wpAny (model prog w) A (call (.builtin "min") [.ref l]) Q E s:=by
 have hname:(toString "min"++toString ".loop" : String) = "min.loop":=by decide
 refine kmk_tree F.kind_min F.plain_min F.entry_min (by unfold argsOk;kernel_rfl) ?_
 show wpAny _ A.in1 (Builtin.Builtins.bindParams "min" ["key","default"] 0 ⟨[],[]⟩ >>=_) _ _ s;refine xL (wpAny_of_eq (show Builtin.Builtins.bindParams "min" ["key","default"] 0 ⟨[],[]⟩=pure [none,none] from rfl) ?_);refine xL (GT ?_);refine xL (wE hl λs2 e st hfp hlI=>?_)
 refine xL (Ht ?_);have hSf:s2.heap.objs.size∉[s.heap.objs.size,l]:=λhm=>HI _ (hfp _ hm)
 have W:=Walks.list (prog:=prog) (w:=w) (A:=A.in1) hh s.heap.objs.size l hlI items;have hSw:s2.heap.objs.size∉[s.heap.objs.size]:=λh=>hSf (W.sub _ h)
 have hold:∀b o,s.heap.get? b=some o->b∉[s.heap.objs.size]/\b≠s2.heap.objs.size:=λb o eb=>by
  have h1:=G2 eb;refine⟨λhm=>?_,?_⟩
  ·rw[Hq.mp hm]at h1;exact HI _ h1
  ·subst e;exact Hl (G2 (GX _ eb))
 rw[hname];refine GT ⟨plainId_quiet F.plain_min_loop _,?_⟩;refine codeAny_builtin F.entry_min_loop ?_;rw[Around.under_plainId F.plain_min_loop _];have hst:(λi h=>h.IsListIter s.heap.objs.size l i/\h.IsList l items) 0 (s2.heap.push {cls:=.type "list",data:=.seq #[]}):=W.frame 0 s2.heap _ st λb _ o e=>GX _ e
 have hS:(s2.heap.push {cls:=.type "list",data:=.seq #[]}).get? s2.heap.objs.size=some {cls:=.type "list",dict:=none,data:=.seq #[] 0,slots:=#[]}:=G4 _ rfl;show wpAny _ A.in1 (seqItems? (.ref _) >>=_) _ _ _;refine xL (wpAny_seqItems hS rfl ?_);show wpAny _ A.in1 (tryCatch (pyNext (.ref _)) _ >>=_) _ _ _;have kp:∀{h':Heap},(∀b o,b∉[s.heap.objs.size]->(s2.heap.push {cls:=.type "list",data:=.seq #[]}).get? b=some o->h'.get? b=some o)->∀b o,s.heap.get? b=some o->h'.get? b=some o:=λ{h'} hk=>by
  subst e;exact old_kept λb o hb e=>hk b o hb (GX _ e)
 refine xL (wpAny_tryCatch (W.item 0 _ _ _ hn hst λv h' tk hP0 hst' hk'=>?_))
 have hS':=hk' _ _ hSw hS;show wpAny _ A.in1 (updateSeq _ (λ_=>#[v,v]) >>=_) _ _ _
 refine xL (wpAny_updateSeq hS' rfl ?_);rw[hname];refine GT ⟨plainId_quiet F.plain_min_loop _,xu (G:=λhx=>∀b o,s.heap.get? b=some o->hx.get? b=some o) W (λi j=>lt2 (ps i) (ps j)) (λi j vi vj sx Q' E' hg hi hj hq=>?_) _ hSf (λha hb g k b o eb=>k b o (hold b o eb).1 (hold b o eb).2 (g b o eb)) _ 0 _ v _ rfl hn (W.frame _ _ _ hst' λb hbf o e=>?_) (λb o eb=>?_) hP0 (Hz _ hS' rfl) λv' h'' tk'' hP' hk''=>?_⟩
 ·have up:∀{v i},items[i]?=some v->P2 sx.heap v (ps i):=λ{v i} hv=>by
   obtain⟨a,n,t,u,dd,sl,e1,e2⟩:=hP i v hv;exact⟨a,n,t,u,dd,sl,e1,hg _ _ e2⟩
  exact BC (by show A.units+1<cLine;exact hu) (up hi) (up hj) hq
 ·exact (Hm _ _ (λh:_=b=>hSf (by rw[h];exact hbf))).trans e
 ·exact (Hm _ _ (He (hold b o eb).2)).trans (kp hk' b o eb)
 ·have:=h v' h'' tk'' hP' (λb o eb=>hk'' b o (hold b o eb).1 (hold b o eb).2 ((Hm _ _ (He (hold b o eb).2)).trans (kp hk' b o eb)))
  subst e;exact this
end
end L2
namespace L2
open PySem PySem.Spec PyProof.Rows
inductive D where
 |non|bl (b:Bool)|int (i:Int)|str (x:Str)|tup (ds:List D)|rol (ds:List D)|ref (a:Addr)
 |obj (i:Nat) (C:Addr) (ns:List Nat) (ds:List D)|dik (ks:List Key) (ds:List D)|dit (ks:List (List Int)) (ds:List D)
noncomputable def oy:Nat->Nat->List Nat
 |0,_=>[]
 |k+1,n=>if n=0 then [] else (n % 128)::oy k (n / 128)
noncomputable def fnm(n:Nat):Str:=⟨(oy n n).toArray⟩
noncomputable def vO:List Nat->Nat
 |[]=>0
 |d::r=>d+128*vO r
theorem jQ:∀(k n:Nat),n<=k->vO (oy k n)=n
 |0,n,h=>by have:n=0:=Nat.le_zero.mp h;subst this;rfl
 |k+1,n,h=>by
  unfold oy;by_cases z:n=0
  ·rw[G3 z];exact z.symm
  ·rw[GV z];show n % 128+128*vO (oy k (n / 128))=n;rw[jQ k (n / 128) (by omega)]
   omega
theorem mz(h:fnm a=fnm b):a=b:=by
 have e:oy a a=oy b b:=by
  have:=congrArg (λx:Str=>x.cps.toList) h
  simpa [fnm] using this
 have:=congrArg vO e
 rwa [jQ a a (GZ _),jQ b b (GZ _)]at this
noncomputable def tH(k:List Int):Int:=reduceHash (Builtin.Tuple.tupleHashOf (k.map hashInt))
def aV(a:Addr)(xs:List (List Int×Addr×Value)):Heap->Prop:=λh=>∃o es ep,h.get? a=some o/\o.ExactDict/\o.data=.dict es ep/\es.toList=xs.map λx=>(⟨tH x.1,.ref x.2.1,x.2.2⟩:DictEntry)
structure TabOk (K:Ii)(H:Hp)(a:Addr) (ks:List (List Int)) (xs:List (List Int×Addr×Value)) (vs:List V):Prop where
 kx:xs.map (·.1)=ks
 nd:ks.Nodup
 sz:ks.length<=sizeLine
 no:(a == sysModules)=false
 vx:Vals vs (xs.map (·.2.2))
 at_:∀x∈xs,SqT K H x.2.1 (x.1.map V.int)
def SqM(K:Ii)(a:Addr)(xs:List V):Prop:=∃(its:List Value) (n:Nat),K.lookup a=some {cls:=.type "list",data:=.seq its.toArray n}/\its.length<=sizeLine/\Vals xs its
def SqF(K:Ii)(H:Hp)(a:Addr)(xs:List V):Prop:=(∃o,H a=some (.frz o (.lst xs)))\/SqM K a xs
theorem SqM.sq{K:Ii}(h:SqM K a xs):SqL K H a xs:=by
 obtain⟨its,n,e,z,r⟩:=h;exact .inr ⟨_,its.toArray,n,e,rfl,rfl,rfl,by simpa using z,by simpa using r⟩
theorem SqF.sq{K:Ii}(h:SqF K H a xs):SqL K H a xs:=by
 rcases h with h|h
 ·exact .inl (.inr h)
 ·exact h.sq
mutual
def Den(K:Ii)(H:Hp):D->V->Prop
 |.non,v=>v=.non
 |.bl b,v=>v=.bl b
 |.int i,v=>v=.int i
 |.str x,v=>v=.str x
 |.tup ds,v=>∃p vs,v=.ref p/\SqT K H p vs/\DenL K H ds vs
 |.rol ds,v=>∃p vs,v=.ref p/\SqF K H p vs/\DenL K H ds vs
 |.ref a,v=>v=.ref a
 |.obj _ C ns ds,v=>∃p vs o dx,v=.ref p/\H p=some (.frz o (.ins C dx ((ns.map fnm).zip vs)))/\ns.length=vs.length/\DenL K H ds vs
 |.dik ks ds,v=>∃p vs o,v=.ref p/\H p=some (.frz o (.dK (ks.zip vs)))/\ks.length=vs.length/\DenL K H ds vs
 |.dit ks ds,v=>∃p vs o xs,v=.ref p/\H p=some (.frz o (.ext (aV p xs)))/\TabOk K H p ks xs vs/\DenL K H ds vs
def DenL(K:Ii)(H:Hp):List D->List V->Prop
 |[],vs=>vs=[]
 |d::ds,vs=>∃v r,vs=v::r/\Den K H d v/\DenL K H ds r
end
structure TM (K:Ii)(H H':Hp):Prop where
 t:∀p xs,SqT K H p xs->SqT K H' p xs
 f:∀p xs,SqF K H p xs->SqF K H' p xs
 g:∀p o u,H p=some (.frz o u)->H' p=some (.frz o u)
theorem TM.refl{K:Ii}(H:Hp):TM K H H:=⟨λ_ _ h=>h,λ_ _ h=>h,λ_ _ _ h=>h⟩
theorem TM.trans{K:Ii}(a:TM K H H1)(b:TM K H1 H2):TM K H H2:=⟨λp xs h=>b.t p xs (a.t p xs h),λp xs h=>b.f p xs (a.f p xs h),λp o u h=>b.g p o u (a.g p o u h)⟩
theorem TM.un{K:Ii}(t:∀b xs,H b=some (.tup xs)->H' b=some (.tup xs))(f:∀b o u,H b=some (.frz o u)->H' b=some (.frz o u)):TM K H H':=⟨λq xs h=>by
 rcases h with (h|⟨ob,h⟩)|h
 ·exact .inl (.inl (t _ _ h))
 ·exact .inl (.inr ⟨ob,f _ _ _ h⟩)
 ·exact .inr h,λq xs h=>by
 rcases h with ⟨ob,h⟩|h
 ·exact .inl ⟨ob,f _ _ _ h⟩
 ·exact .inr h,f⟩
theorem TM.new{K:Ii}(hp:H p=none):TM K H (upd H p o):=
 .un (λb xs h=>by rw[ac (au h hp)];exact h) λb ob u h=>by rw[ac (au h hp)];exact h
theorem TM.put{K:Ii}(hp:H p=some u)(h1:∀xs,u≠.tup xs)(h2:∀ob v,u≠.frz ob v):TM K H (upd H p o):=
 .un (λb xs h=>by rw[ac (dg h hp λz=>h1 _ z.symm)];exact h) λb ob u h=>by rw[ac (dg h hp λz=>h2 _ _ z.symm)];exact h
section
variable {K:Ii}
mutual
theorem Den.mono(t:TM K H H'):∀{d:D}{v:V},Den K H d v->Den K H' d v
 |.non,_,h=>h
 |.bl _,_,h=>h
 |.int _,_,h=>h
 |.str _,_,h=>h
 |.ref _,_,h=>h
 |.tup ds,v,h=>by
  obtain⟨p,vs,e,s,l⟩:=h;exact⟨p,vs,e,t.t _ _ s,DenL.mono t l⟩
 |.rol ds,v,h=>by
  obtain⟨p,vs,e,s,l⟩:=h;exact⟨p,vs,e,t.f _ _ s,DenL.mono t l⟩
 |.obj i C ns ds,v,h=>by
  obtain⟨p,vs,o,dx,e,s,z,l⟩:=h;exact⟨p,vs,o,dx,e,t.g _ _ _ s,z,DenL.mono t l⟩
 |.dik ks ds,v,h=>by
  obtain⟨p,vs,o,e,s,z,l⟩:=h;exact⟨p,vs,o,e,t.g _ _ _ s,z,DenL.mono t l⟩
 |.dit ks ds,v,h=>by
  obtain⟨p,vs,o,xs,e,s,z,l⟩:=h;exact⟨p,vs,o,xs,e,t.g _ _ _ s,⟨z.kx,z.nd,z.sz,z.no,z.vx,λx hx=>t.t _ _ (z.at_ x hx)⟩,DenL.mono t l⟩
theorem DenL.mono(t:TM K H H'):∀{ds:List D}{vs:List V},DenL K H ds vs->DenL K H' ds vs
 |[],_,h=>h
 |d::ds,vs,h=>by
  obtain⟨v,r,e,a,b⟩:=h;exact⟨v,r,e,Den.mono t a,DenL.mono t b⟩
end
theorem DenL.length:∀{ds:List D}{vs:List V},DenL K H ds vs->ds.length=vs.length
 |[],_,h=>by cases h;rfl
 |d::ds,vs,h=>by
  obtain⟨v,r,rfl,_,b⟩:=h;rw[Hk,Hk,DenL.length b]
theorem DenL.get:∀{ds:List D}{vs:List V}{i:Nat}{d:D},DenL K H ds vs->ds[i]?=some d->∃v,vs[i]?=some v/\Den K H d v
 |[],_,_,_,_,e=>by simp at e
 |d::ds,vs,0,d',h,e=>by
  obtain⟨v,r,rfl,a,b⟩:=h;simp at e;subst e;exact⟨v,rfl,a⟩
 |d::ds,vs,i+1,d',h,e=>by
  obtain⟨v,r,rfl,a,b⟩:=h;obtain⟨u,e1,e2⟩:=DenL.get (i:=i) b (by simpa using e)
  exact⟨u,by simpa using e1,e2⟩
theorem DenL.get':∀{ds:List D}{vs:List V}{i:Nat}{v:V},DenL K H ds vs->vs[i]?=some v->∃d,ds[i]?=some d/\Den K H d v
 |[],_,_,_,h,e=>by cases h;simp at e
 |d::ds,vs,0,v',h,e=>by
  obtain⟨v,r,rfl,a,b⟩:=h;simp at e;subst e;exact⟨d,rfl,a⟩
 |d::ds,vs,i+1,v',h,e=>by
  obtain⟨v,r,rfl,a,b⟩:=h;obtain⟨u,e1,e2⟩:=DenL.get' (i:=i) b (by simpa using e)
  exact⟨u,by simpa using e1,e2⟩
theorem DenL.append:∀{ds es:List D}{vs ws:List V},DenL K H ds vs->DenL K H es ws->DenL K H (ds++es) (vs++ws)
 |[],_,_,_,h,g=>by cases h;exact g
 |d::ds,_,_,_,h,g=>by
  obtain⟨v,r,rfl,a,b⟩:=h;exact⟨v,r++_,rfl,a,DenL.append b g⟩
theorem DenL.nil:DenL K H [] []:=rfl
theorem DenL.cons(a:Den K H d v)(b:DenL K H ds vs):DenL K H (d::ds) (v::vs):=⟨v,vs,rfl,a,b⟩
theorem DenL.one(a:Den K H d v):DenL K H [d] [v]:=.cons a .nil
theorem DenL.take:∀{ds:List D}{vs:List V} (n:Nat),DenL K H ds vs->DenL K H (ds.take n) (vs.take n)
 |_,_,0,_=>rfl
 |[],_,n+1,h=>by cases h;rfl
 |d::ds,_,n+1,h=>by
  obtain⟨v,r,rfl,a,b⟩:=h;exact⟨v,r.take n,rfl,a,DenL.take n b⟩
theorem DenL.drop:∀{ds:List D}{vs:List V} (n:Nat),DenL K H ds vs->DenL K H (ds.drop n) (vs.drop n)
 |_,_,0,h=>h
 |[],_,n+1,h=>by cases h;rfl
 |d::ds,_,n+1,h=>by
  obtain⟨v,r,rfl,a,b⟩:=h;exact DenL.drop n b
theorem DenL.set(a:Den K H d v):∀{ds:List D}{vs:List V} (i:Nat),DenL K H ds vs->DenL K H (ds.set i d) (vs.set i v)
 |[],_,_,h=>by cases h;rfl
 |_::ds,_,0,h=>by
  obtain⟨_,r,rfl,_,b⟩:=h;exact⟨v,r,rfl,a,b⟩
 |e::ds,_,i+1,h=>by
  obtain⟨u,r,rfl,c,b⟩:=h;exact⟨u,_,rfl,c,DenL.set a i b⟩
theorem DenL.int_of:∀{ns:List Int}{vs:List V},DenL K H (ns.map D.int) vs->vs=ns.map V.int
 |[],_,h=>h
 |n::ns,vs,h=>by
  obtain⟨v,r,rfl,a,b⟩:=h;rw[DenL.int_of b];cases (show v=.int n from a);rfl
theorem DenL.of_int:∀{ns:List Int},DenL K H (ns.map D.int) (ns.map V.int)
 |[]=>rfl
 |n::ns=>⟨.int n,ns.map V.int,rfl,rfl,DenL.of_int⟩
end
structure XE where
 c:Nat
 pl:Option (Nat×D)
def XD(K:Ii)(H:Hp)(i:XE)(dx:Option Addr):Prop:=match i.pl with
 |none=>dx=none
 |some (f,y)=>∃p o v,dx=some p/\H p=some (.frz o (.xd [(fnm f,v)]))/\Den K H y v
theorem XD.mono{K:Ii}(t:TM K H H')(h:XD K H i dx):XD K H' i dx:=by
 obtain⟨c,pl⟩:=i;cases pl with
 |none=>exact h
 |some q=>
  obtain⟨p,o,v,e,g,d⟩:=h;exact⟨p,o,v,e,t.g _ _ _ g,d.mono t⟩
inductive DO where
 |lst (ds:List D)
 |dk (ks:List Key) (ds:List D)
 |dt (ks:List (List Int)) (ds:List D)
 |ins (i:Nat) (C:Addr) (ns:List Nat) (ds:List D)
 |exc (i:XE) (cls:Value)
 |stl (φ:Heap->Prop)
noncomputable abbrev MH:=Addr->Option DO
noncomputable def put(M:MH)(a:Addr)(o:DO):MH:=λb=>if b=a then some o else M b
theorem ag:put M a o a=some o:=G3 rfl
theorem ah(h:b≠a):put M a o b=M b:=GV h
theorem bv:put (put M a o) a u=put M a u:=by
 funext b;unfold put;split<;>rfl
def OD(K:Ii)(H:Hp)(a:Addr):DO->Prop
 |.lst ds=>∃vs,H a=some (.lst vs)/\DenL K H ds vs
 |.dk ks ds=>∃vs,H a=some (.dK (ks.zip vs))/\ks.length=vs.length/\DenL K H ds vs
 |.dt ks ds=>∃vs xs,H a=some (.ext (aV a xs))/\TabOk K H a ks xs vs/\DenL K H ds vs
 |.ins _ C ns ds=>∃dx vs,H a=some (.ins C dx ((ns.map fnm).zip vs))/\ns.length=vs.length/\DenL K H ds vs
 |.exc i cls=>∃o dx,H a=some (.frz o (uF a cls dx))/\XD K H i dx
 |.stl φ=>H a=some (.ext φ)
def RelM(K:Ii)(M:MH)(H:Hp):Prop:=∀a o,M a=some o->OD K H a o
noncomputable abbrev St3:=List (Option D)
def DenS(K:Ii)(H:Hp)(σ3:St3)(σ:St):Prop:=σ3.length=σ.length/\∀(i:Nat)(d:D),σ3[i]?=some (some d)->∃v,σ[i]?=some (some v)/\Den K H d v
section
variable {K:Ii}
theorem OD.tracked(h:OD K H a o):∃u,H a=some u:=by
 cases o with
 |lst ds=>obtain⟨_,e,_⟩:=h;exact⟨_,e⟩
 |dk ks ds=>obtain⟨_,e,_⟩:=h;exact⟨_,e⟩
 |dt ks ds=>obtain⟨_,_,e,_⟩:=h;exact⟨_,e⟩
 |ins i C ns ds=>obtain⟨_,_,e,_⟩:=h;exact⟨_,e⟩
 |exc i cls=>obtain⟨_,_,e,_⟩:=h;exact⟨_,e⟩
 |stl φ=>exact⟨_,h⟩
theorem RelM.fresh(r:RelM K M H)(hp:H p=none):M p=none:=by
 cases e:M p with
 |none=>rfl
 |some o=>
  obtain⟨u,z⟩:=(r p o e).tracked;rw[hp]at z;cases z
theorem OD.stay(t:TM K H H')(e:H' a=H a)(h:OD K H a o):OD K H' a o:=by
 cases o with
 |lst ds=>obtain⟨vs,q,l⟩:=h;exact⟨vs,e.trans q,l.mono t⟩
 |dk ks ds=>obtain⟨vs,q,n,l⟩:=h;exact⟨vs,e.trans q,n,l.mono t⟩
 |dt ks ds=>obtain⟨vs,xs,q,z,l⟩:=h;exact⟨vs,xs,e.trans q,⟨z.kx,z.nd,z.sz,z.no,z.vx,λx hx=>t.t _ _ (z.at_ x hx)⟩,l.mono t⟩
 |ins i C ns ds=>obtain⟨dx,vs,q,n,l⟩:=h;exact⟨dx,vs,e.trans q,n,l.mono t⟩
 |exc i cls=>obtain⟨o,dx,q,x⟩:=h;exact⟨o,dx,e.trans q,x.mono t⟩
 |stl φ=>exact e.trans h
theorem RelM.grow(r:RelM K M H)(hp:H p=none):RelM K M (upd H p o):=λa u e=>by
 obtain⟨x,z⟩:=(r a u e).tracked;exact (r a u e).stay (.new hp) (ac (au z hp))
theorem RelM.lay(r:RelM K M H)(hp:H p=none)(h:OD K (upd H p o) p u):RelM K (put M p u) (upd H p o):=λa x e=>by
 by_cases ha:a=p
 ·subst ha;rw[ag]at e;cases e;exact h
 ·rw[ah ha]at e;exact r.grow hp a x e
theorem RelM.write(r:RelM K M H)(hp:H p=some w)(h1:∀xs,w≠.tup xs)(h2:∀ob v,w≠.frz ob v)(h:OD K (upd H p o) p u):RelM K (put M p u) (upd H p o):=λa x e=>by
 by_cases ha:a=p
 ·subst ha;rw[ag]at e;cases e;exact h
 ·rw[ah ha]at e;exact (r a x e).stay (.put hp h1 h2) (ac ha)
def Sub(M' M:MH):Prop:=∀a o,M' a=some o->M a=some o
theorem RelM.sub(r:RelM K M H)(s:Sub M' M):RelM K M' H:=λa o e=>r a o (s a o e)
theorem DenS.mono(t:TM K H H')(h:DenS K H σ3 σ):DenS K H' σ3 σ:=⟨h.1,λi d e=>let ⟨v,e1,e2⟩:=h.2 i d e;⟨v,e1,e2.mono t⟩⟩
theorem DenS.set{σ3:St3}{σ:St}(h:DenS K H σ3 σ)(e:Den K H d v):DenS K H (σ3.set i (some d)) (σ.set i (some v)):=by
 refine⟨by rw[List.length_set,List.length_set];exact h.1,λj d' q=>?_⟩
 by_cases hj:i=j
 ·subst hj;rw[List.getElem?_set]at q ⊢;rw[G3 rfl]at q ⊢;rw[<-h.1];split at q
  next hl=>
   cases q;exact⟨v,G3 hl,e⟩
  next=>cases q
 ·rw[Ib hj]at q ⊢;exact h.2 j d' q
theorem DenS.drop{σ3:St3}{σ:St}(h:DenS K H σ3 σ):DenS K H (σ3.set i none) (σ.set i none):=by
 refine⟨by rw[List.length_set,List.length_set];exact h.1,λj d' q=>?_⟩
 by_cases hj:i=j
 ·subst hj;rw[List.getElem?_set,G3 rfl]at q;split at q<;>cases q
 ·rw[Ib hj]at q ⊢;exact h.2 j d' q
theorem oM{N:List Str}{ds:List D}(h:DenL K H ds vs):DenS K H (ds.map some++List.replicate (N.length-ds.length) none) (ei N vs):=by
 have hl:=h.length;refine⟨by unfold ei;simp[hl],λi d e=>?_⟩
 by_cases hi:i<ds.length
 ·rw[List.getElem?_append_left (by simpa using hi),Hi]at e
  have e':ds[i]?=some d:=by
   cases q:ds[i]? with
   |none=>rw[q]at e;cases e
   |some x=>rw[q]at e;cases e;rfl
  obtain⟨v,e1,e2⟩:=h.get e';refine⟨v,?_,e2⟩;unfold ei;rw[List.getElem?_append_left (by simpa [<-hl] using hi),Hi,e1]
  rfl
 ·rw[List.getElem?_append_right (by simpa using hi),List.getElem?_replicate]at e
  split at e<;>cases e
end
noncomputable abbrev VK3:=D->MH->Prop
noncomputable abbrev TE3:=St3->MH->VK3->Prop
noncomputable abbrev TT3:=St3->MH->(Bool->MH->Prop)->Prop
structure Ends3 where
 nx:St3->MH->Prop
 rt:VK3
 bk:St3->MH->Prop:=λ_ _=>False
 ct:St3->MH->Prop:=λ_ _=>False
noncomputable abbrev TS3:=Ends3->St3->MH->Prop
structure ER (K:Ii)(H:Hp)(D3:Ends3)(D2:Ends):Prop where
 nx:∀σ' H' σ3' M',RelM K M' H'->DenS K H' σ3' σ'->TM K H H'->D3.nx σ3' M'->D2.nx σ' H'
 rt:∀v H' d M',Den K H' d v->RelM K M' H'->TM K H H'->D3.rt d M'->D2.rt v H'
 bk:∀σ' H' σ3' M',RelM K M' H'->DenS K H' σ3' σ'->TM K H H'->D3.bk σ3' M'->D2.bk σ' H'
 ct:∀σ' H' σ3' M',RelM K M' H'->DenS K H' σ3' σ'->TM K H H'->D3.ct σ3' M'->D2.ct σ' H'
theorem ER.mono{K:Ii}(r:ER K H D3 D2)(t:TM K H H1):ER K H1 D3 D2:=
 ⟨λa b c d h1 h2 h3 h4=>r.nx a b c d h1 h2 (t.trans h3) h4,λa b c d h1 h2 h3 h4=>r.rt a b c d h1 h2 (t.trans h3) h4,λa b c d h1 h2 h3 h4=>r.bk a b c d h1 h2 (t.trans h3) h4,λa b c d h1 h2 h3 h4=>r.ct a b c d h1 h2 (t.trans h3) h4⟩
section
variable {K:Ii}
theorem dG:Den K H (.int i) (.int i):=rfl
theorem bb{b:Bool}:Den K H (.bl b) (.bl b):=rfl
theorem iU:Den K H (.str x) (.str x):=rfl
theorem sK:Den K H .non .non:=rfl
theorem gh:Den K H (.ref a) (.ref a):=rfl
theorem lz(h:SqT K H p vs)(l:DenL K H ds vs):Den K H (.tup ds) (.ref p):=⟨p,vs,rfl,h,l⟩
end
noncomputable abbrev R3:=D->D->MH->VK3->Prop
abbrev Back(K:Ii)(H:Hp)(Q:VK3)(Q2:VK):Prop:=∀v H' d M',Den K H' d v->RelM K M' H'->TM K H H'->Q d M'->Q2 v H'
def Op3(X:Cx)(f:Value->Value->Sem Value)(r3:R3):Prop:=∃r2,OpR X f r2/\∀(H:Hp)(x y:D)(v u:V)(M:MH)(Q:VK3)(Q2:VK),Den X.K H x v->Den X.K H y u->RelM X.K M H->r3 x y M Q->Back X.K H Q Q2->r2 v u H Q2
def Un3(X:Cx)(f:Value->Sem Value)(r3:D->MH->VK3->Prop):Prop:=∃r2,UnR X f r2/\∀(H:Hp)(x:D)(v:V)(M:MH)(Q:VK3)(Q2:VK),Den X.K H x v->RelM X.K M H->r3 x M Q->Back X.K H Q Q2->r2 v H Q2
def qB(X:Cx)(f:Value)(r3:List D->MH->VK3->Prop):Prop:=∃r2,CallR X f r2/\∀(H:Hp)(xs:List D)(vs:List V)(M:MH)(Q:VK3)(Q2:VK),DenL X.K H xs vs->RelM X.K M H->r3 xs M Q->Back X.K H Q Q2->r2 vs H Q2
noncomputable def c3(d:D):TE3:=λ_ M Q=>Q d M
def rI3(C:Int->Int->Prop)(g:Int->Int->D):R3:=λx y M Q=>∃i j,x=.int i/\y=.int j/\C i j/\Q (g i j) M
section
variable {X:Cx}{a b c e:Expr}{ta tb tc te:TE3}{pos:Pos}
noncomputable def q3(t:TE3):TT3:=λσ M Q=>t σ M λx M1=>∃k,x=.bl k/\Q k M1
variable {tA tB':TT3}{az:List Expr}
theorem vR{K:Ii}(h:DenL K H ds vs)(e:atI ds i=some d):∃v,atI vs i=some v/\Den K H d v:=by
 unfold atI at e ⊢;rw[<-h.length];cases q:ixN ds.length i with
 |none=>rw[q]at e;cases e
 |some j=>
  rw[q]at e;obtain⟨v,e1,e2⟩:=h.get (show ds[j]?=some d from e);exact⟨v,e1,e2⟩
def Is(M:MH)(x:D)(ds:List D):Prop:=x=.rol ds\/∃a,x=.ref a/\M a=some (.lst ds)
theorem RelM.list{K:Ii}(rm:RelM K M H)(h:Is M x ds)(dv:Den K H x v):∃p vs,v=.ref p/\SqL K H p vs/\DenL K H ds vs:=by
 rcases h with rfl|⟨a,rfl,h⟩
 ·obtain⟨p,vs,e,s,l⟩:=dv;exact⟨p,vs,e,s.sq,l⟩
 ·obtain⟨vs,e,l⟩:=rm a _ h;exact⟨a,vs,dv,.of e,l⟩
def isIB:V->D->Prop:=λv d=>(∃i,v=.int i/\d=.int i)\/(∃b,v=.bl b/\d=.bl b)
theorem isIB.den{K:Ii}(h:isIB v d):Den K H d v:=by
 rcases h with ⟨i,rfl,rfl⟩|⟨b,rfl,rfl⟩<;>rfl
theorem ja(h:OpR X f (rI C g))(hg:∀i j,isIB (g i j) (g3 i j)):Op3 X f (rI3 C g3):=
 ⟨_,h,λH x y v u M Q Q2 dx dy rm ⟨i,j,e1,e2,hc,q⟩ k=>by
  subst e1;subst e2;cases (show v=.int i from dx);cases (show u=.int j from dy);exact⟨i,j,rfl,rfl,hc,k _ H _ M (hg i j).den rm (.refl _) q⟩⟩
def lV(g:Int->Int->D):R3:=λx y M Q=>∃i j,x=.int i/\y=.int j/\Q (g i j) M
theorem dj(h:OpR X f (rI0 g))(hg:∀i j,isIB (g i j) (g3 i j)):Op3 X f (lV g3):=
 ⟨_,h,λH x y v u M Q Q2 dx dy rm ⟨i,j,e1,e2,q⟩ k=>by
  subst e1;subst e2;cases (show v=.int i from dx);cases (show u=.int j from dy);exact⟨i,j,rfl,rfl,k _ H _ M (hg i j).den rm (.refl _) q⟩⟩
noncomputable def big:Nat:=2 ^ 4096
theorem oW(h:n<10 ^ 250):n<big:=GU h (by decide +kernel)
def bK(i j:Int):Prop:=(i.natAbs<big/\j.natAbs<big)
theorem iC{k:Int}(h:k.natAbs<big):Builtin.Int.intBits k<=2 ^ 20:=by
 unfold Builtin.Int.intBits;by_cases h0:k.natAbs=0
 ·have:k=0:=by omega
  subst this;decide
 ·have h30:k.natAbs.log2<4096:=(Nat.log2_lt h0).mpr h;split<;>omega
theorem v9:OpR X (binaryOp .Mult) (rI bK λi j=>.int (i*j)):=opI λ_ _ _ _ _ _ _ hc q=>mul_int q (.of_bits (iC hc.1) (iC hc.2))
def kO(_ j:Int):Prop:=0<j/\j.toNat<big
theorem tD:OpR X (binaryOp .FloorDiv) (rI kO λi j=>.int (i / j)):=opI λi j _ _ _ _ _ hc q=>by
 have h1:(0:Int)<j:=hc.1;have h2:j.toNat<big:=hc.2;refine floordiv_int (by omega) (by rw[Int.fdiv_eq_ediv_of_nonneg i (by omega)];exact q) (.inl (PyProof.noPylong_of_log2 ?_))
 have h3:j.natAbs<2 ^ 4096:=by
  have e:j.natAbs=j.toNat:=by omega
  rw[e];exact h2
 have h0:j.natAbs≠0:=by omega
 have:=(Nat.log2_lt h0).mpr h3;omega
theorem A4:Op3 X (binaryOp .Add) (lV λi j=>.int (i+j)):=dj yl λ_ _=>.inl ⟨_,rfl,rfl⟩
theorem Cj:Op3 X (binaryOp .Sub) (lV λi j=>.int (i-j)):=dj ya λ_ _=>.inl ⟨_,rfl,rfl⟩
theorem Cn:Op3 X (binaryOp .Mult) (rI3 bK λi j=>.int (i*j)):=ja v9 λ_ _=>.inl ⟨_,rfl,rfl⟩
theorem zl:Op3 X (binaryOp .FloorDiv) (rI3 kO λi j=>.int (i / j)):=ja tD λ_ _=>.inl ⟨_,rfl,rfl⟩
theorem AV:Op3 X (binaryOp .Mod) (rI3 (λ_ j=>0<j) λi j=>.int (i % j)):=ja zt λ_ _=>.inl ⟨_,rfl,rfl⟩
theorem B5:Op3 X (binaryOp .Pow) (rI3 sZ λi j=>.int (i ^ j.toNat)):=ja zT λ_ _=>.inl ⟨_,rfl,rfl⟩
theorem Cp:Op3 X (binaryOp .RShift) (rI3 (λ_ j=>0<=j) λi j=>.int (i / 2 ^ j.toNat)):=ja zi λ_ _=>.inl ⟨_,rfl,rfl⟩
theorem B9:Op3 X (binaryOp .BitAnd) (lV λi j=>.int (Builtin.bitAnd i j)):=dj Ae λ_ _=>.inl ⟨_,rfl,rfl⟩
theorem D8:Op3 X (compareOp .Lt) (lV λi j=>.bl (decide (i<j))):=dj Bt λ_ _=>.inr ⟨_,rfl,rfl⟩
theorem Fg:Op3 X (compareOp .LtE) (lV λi j=>.bl (decide (i<=j))):=dj CU λ_ _=>.inr ⟨_,rfl,rfl⟩
theorem EI:Op3 X (compareOp .Gt) (lV λi j=>.bl (decide (j<i))):=dj AY λ_ _=>.inr ⟨_,rfl,rfl⟩
theorem E9:Op3 X (compareOp .GtE) (lV λi j=>.bl (decide (j<=i))):=dj AW λ_ _=>.inr ⟨_,rfl,rfl⟩
def rU3(g:Int->Int):D->MH->VK3->Prop:=λx M Q=>∃i,x=.int i/\Q (.int (g i)) M
theorem Bk:Un3 X (unaryOp .USub) (rU3 λi=>-i):=⟨_,zo,λH x v M Q Q2 dx rm ⟨i,e,q⟩ k=>by
 subst e;cases (show v=.int i from dx);exact⟨i,rfl,k _ H _ M dG rm (.refl _) q⟩⟩
noncomputable def D.isN:D->Bool
 |.non=>true
 |_=>false
theorem qQ{K:Ii}{d:D}(h:Den K H d v):decide (v=.non)=d.isN:=by
 cases d with
 |non=>cases (show v=.non from h);rfl
 |bl b=>cases (show v=.bl b from h);rfl
 |int i=>cases (show v=.int i from h);rfl
 |str x=>cases (show v=.str x from h);rfl
 |tup ds=>obtain⟨p,vs,rfl,_⟩:=h;rfl
 |rol ds=>obtain⟨p,vs,rfl,_⟩:=h;rfl
 |ref a=>cases (show v=.ref a from h);rfl
 |obj i C ns ds=>obtain⟨p,vs,_,_,rfl,_⟩:=h;rfl
 |dik ks ds=>obtain⟨p,vs,_,rfl,_⟩:=h;rfl
 |dit ks ds=>obtain⟨p,vs,_,_,rfl,_⟩:=h;rfl
def rIs3:R3:=λx y M Q=>y=.non/\Q (.bl x.isN) M
def rIsN3:R3:=λx y M Q=>y=.non/\Q (.bl (!x.isN)) M
theorem Fe:Op3 X (compareOp .Is) rIs3:=⟨_,yH,λH x y v u M Q Q2 dx dy rm ⟨e,q⟩ k=>by
 subst e;refine⟨dy,?_⟩;rw[qQ dx];exact k _ H _ M bb rm (.refl _) q⟩
theorem vP:Op3 X (compareOp .IsNot) rIsN3:=⟨_,wu,λH x y v u M Q Q2 dx dy rm ⟨e,q⟩ k=>by
 subst e;refine⟨dy,?_⟩;rw[qQ dx];exact k _ H _ M bb rm (.refl _) q⟩
variable {id:String}
def rLen3:List D->MH->VK3->Prop:=λxs M Q=>∃x ds,xs=[x]/\(Is M x ds\/x=.tup ds)/\Q (.int ds.length) M
theorem Cu:qB X (.builtin "len") rLen3:=⟨_,lW,λH xs vs M Q Q2 dl rm ⟨x,ds,e,h,q⟩ k=>by
 subst e;obtain⟨v,r,rfl,dv,rfl⟩:=dl;rcases h with h|rfl
 ·obtain⟨a,ys,rfl,sq,l⟩:=rm.list h dv;exact⟨a,ys,rfl,.inl sq,by rw[<-l.length];exact k _ H _ M dG rm (.refl _) q⟩
 ·obtain⟨a,ys,rfl,sq,l⟩:=dv;exact⟨a,ys,rfl,.inr sq,by rw[<-l.length];exact k _ H _ M dG rm (.refl _) q⟩⟩
def rMax3:List D->MH->VK3->Prop:=λxs M Q=>∃i j,xs=[.int i,.int j]/\Q (.int (if j > i then j else i)) M
theorem CZ(hc:X.calm=true):qB X (.builtin "max") rMax3:=⟨_,qZ hc,λH xs vs M Q Q2 dl rm ⟨i,j,e,q⟩ k=>by
 subst e;obtain⟨v,r,rfl,dv,w,r',rfl,dw,rfl⟩:=dl;cases (show v=.int i from dv);cases (show w=.int j from dw);exact⟨i,j,rfl,k _ H _ M dG rm (.refl _) q⟩⟩
def rMin3:List D->MH->VK3->Prop:=λxs M Q=>∃i j,xs=[.int i,.int j]/\Q (.int (if j<i then j else i)) M
theorem Bc(hc:X.calm=true):qB X (.builtin "min") rMin3:=⟨_,si hc,λH xs vs M Q Q2 dl rm ⟨i,j,e,q⟩ k=>by
 subst e;obtain⟨v,r,rfl,dv,w,r',rfl,dw,rfl⟩:=dl;cases (show v=.int i from dv);cases (show w=.int j from dw);exact⟨i,j,rfl,k _ H _ M dG rm (.refl _) q⟩⟩
end
abbrev BackS(K:Ii)(H:Hp)(Q:St3->MH->Prop)(Q2:St->Hp->Prop):Prop:=∀σ' H' σ3' M',RelM K M' H'->DenS K H' σ3' σ'->TM K H H'->Q σ3' M'->Q2 σ' H'
section
variable {X:Cx}{st:Stmt}{az:List Stmt}{t u:TS3}{e:Expr}{te:TE3}{pos:Pos}
structure ItOk (K:Ii)(H0:Hp)(J:It)(ds:List D)(S:MH->Prop):Prop where
 go:∀(i:Nat) H M,TM K H0 H->RelM K M H->S M->i<ds.length->J.go i H
 yld:∀(i:Nat) H M x H',TM K H0 H->RelM K M H->S M->i<ds.length->J.yld i H x H'->TM K H H'/\RelM K M H'/\∃d,ds[i]?=some d/\Den K H' d x
 stop:∀H M,TM K H0 H->RelM K M H->S M->J.stop ds.length H
noncomputable def rng(lo:Int)(n:Nat):List D:=(List.range n).map λ(i:Nat)=>D.int (lo+i)
theorem lH(lo:Int)(n:Nat):(rng lo n).length=n:=by unfold rng;rw[G8,List.length_range]
theorem AH{lo:Int}(h:i<n):(rng lo n)[i]?=some (.int (lo+i)):=by
 unfold rng;rw[Hi,List.getElem?_range h];rfl
theorem AC{K:Ii}{lo:Int}:ItOk K H0 (Itr lo n) (rng lo n) (λ_=>True):=by
 refine⟨λi H M _ _ _ hi=>?_,λi H M x H' _ rm _ hi y=>?_,λH M _ _ _=>?_⟩
 ·rw[lH]at hi;exact hi
 ·rw[lH]at hi;obtain⟨e,y⟩:=y;subst e;subst y;exact⟨.refl _,rm,_,AH hi,rfl⟩
 ·rw[lH];exact GZ _
end
section
variable {K:Ii}
end
section
variable {X:Cx}
end
noncomputable abbrev XN:=XE->MH->Prop
noncomputable def del(M:MH)(a:Addr):MH:=λb=>if b=a then none else M b
theorem gt(h:M a=none):del (put M a o) a=M:=by
 funext b;unfold del put;by_cases e:b=a
 ·subst e;rw[G3 rfl,h]
 ·rw[GV e,GV e]
theorem iQ(h:del M a b=some o):b≠a/\M b=some o:=by
 unfold del at h;split at h
 ·cases h
 ·exact⟨by assumption,h⟩
noncomputable def aK(M M':MH):MH:=λa=>match M a with
 |some _=>M' a
 |none=>none
theorem li(h:aK M M' a=some o):M' a=some o:=by
 unfold aK at h;split at h
 ·exact h
 ·cases h
noncomputable def kp(b:Bool)(M M':MH):MH:=if b=true then aK M M' else M'
theorem uD(h:kp b M M' a=some o):M' a=some o:=by
 cases b with
 |true=>exact li h
 |false=>exact h
inductive BI where
 |len  |max  |min  |list (fz:Bool)  |all  |any
inductive BM where
 |get  |extend  |remove  |setdef
inductive BT where
 |int|bool|str|tuple|list|dict
mutual
inductive IE where
 |var (i:Nat)
 |con (d:D)
 |bin (op:Operator) (a b:IE)
 |neg (a:IE)
 |cat (fz:Bool) (a b:IE)
 |cmp (op:CmpOp) (a b:IE)
 |chain (op op':CmpOp) (a b c:IE)
 |and (a b:IE)
 |or (a b:IE)
 |not (a:IE)
 |tup (es:IA)
 |lst (fz:Bool) (es:IA)
 |frz (e:IE)
 |ix (a b:IE)
 |sl (fz:Bool) (a:IE) (lo hi:IO)
 |call (f:Nat) (es:IA)
 |bi (b:BI) (es:IA)
 |isB (e:IE) (t:BT)
 |isC (e:IE) (c:Nat)
 |isV (e:IE)
 |dctT (k v:IE)
 |comp (fz:Bool) (N:List Str) (js:List (Option Nat)) (tg:ITg) (it:II) (cond:ITO) (elt:IE)
 |mmp (e:IE)
 |fld (e:IE) (f:Nat)
 |make (fz:Bool) (i:Nat) (es:IA)
 |meth (e:IE) (m:Nat) (es:IA)
 |ini (i:Nat) (es:IA)
 |glo (k:Nat)
 |bm (b:BM) (o:IE) (es:IA)
 |dnew (tk:Bool)
inductive IT where
 |val (e:IE)|cmp (op:CmpOp) (a b:IE)|chain (op op':CmpOp) (a b c:IE)|chain3 (op op' op'':CmpOp) (a b c d:IE)|and (a b:IT)|or (a b:IT)|not (a:IT)
inductive IA where
 |nil|cons (e:IE) (r:IA)
inductive IO where
 |no|yes (e:IE)
inductive ITO where
 |no|yes (e:IT)
inductive II where
 |seq (e:IE)
 |rng1 (a:IE)
 |enum (a:IE)
 |zip (a b:IE)
 |items (a:IE)
 |dk (a:IE)
inductive ITg where
 |name (i:Nat)|tup (is:List Nat)
end
mutual
inductive IS where
 |set (i:Nat) (e:IE)
 |unp (is:List Nat) (e:IE)
 |expr (e:IE)
 |ret (e:IE)
 |ifs (c:IT) (a b:ISs)
 |for_ (tg:ITg) (it:II) (body:ISs)
 |raise (c:Nat) (es:IA)
 |tryE (body:ISs) (hs:IHs) (el:ISs)
 |app (o e:IE)
 |del (i:Nat)
 |fset (o:IE) (f:Nat) (e:IE)
 |ixset (o i e:IE)
 |dead
inductive ISs where
 |nil|cons (s:IS) (r:ISs)
inductive IHs where
 |nil|cons (c:Nat) (nm:Option Nat) (body:ISs) (r:IHs)
end
noncomputable def ai(M:MH):D->Option (List D)
 |.rol ds=>some ds
 |.ref a=>match M a with
  |some (.lst ds)=>some ds
  |_=>none
 |_=>none
noncomputable def aD(M:MH):D->Option (List D)
 |.tup ds=>some ds
 |x=>ai M x
noncomputable def res(M:MH)(x:D):D:=match ai M x with
 |some ds=>.rol ds
 |none=>x
def eI(fz:Bool)(ds:List D)(M:MH)(Q:VK3):Prop:=ds.length<=sizeLine/\if fz=true then Q (.rol ds) M else ∀p,M p=none->Q (.ref p) (put M p (.lst ds))
noncomputable def plN:Nat->D->Bool
 |_,.ref _=>false
 |n,.tup ds=>match n with
  |0=>false
  |m+1=>ds.all (plN m)
 |n,.rol ds=>match n with
  |0=>false
  |m+1=>ds.all (plN m)
 |_,.obj _ _ _ _=>false
 |_,.dik _ _=>false
 |_,.dit _ _=>false
 |_,_=>true
noncomputable abbrev pl(x:D):Bool:=plN 8 x
noncomputable abbrev pls(ds:List D):Bool:=ds.all (plN 8)
mutual
noncomputable def eqD:D->D->Bool
 |.non,y=>match y with
  |.non=>true
  |_=>false
 |.bl a,y=>match y with
  |.bl b=>a == b
  |.int b=>decide ((if a=true then (1:Int) else 0)=b)
  |_=>false
 |.int a,y=>match y with
  |.int b=>decide (a=b)
  |.bl b=>decide (a=if b=true then (1:Int) else 0)
  |_=>false
 |.str a,y=>match y with
  |.str b=>decide (a=b)
  |_=>false
 |.tup a,y=>match y with
  |.tup b=>dZ a b
  |_=>false
 |.rol a,y=>match y with
  |.rol b=>dZ a b
  |_=>false
 |.ref _,_=>false
 |.obj _ _ _ _,_=>false
 |.dik _ _,_=>false
 |.dit _ _,_=>false
noncomputable def dZ:List D->List D->Bool
 |[],y=>match y with
  |[]=>true
  |_=>false
 |a::r,y=>match y with
  |b::t=>eqD a b&&dZ r t
  |_=>false
end
def rII(C:Int->Int->Prop)(g:Int->Int->D)(x y:D)(M:MH)(Q:VK3):Prop:=match x,y with
 |.int i,.int j=>C i j/\Q (g i j) M
 |_,_=>False
def rI2(g:Int->Int->D)(x y:D)(M:MH)(Q:VK3):Prop:=match x,y with
 |.int i,.int j=>Q (g i j) M
 |_,_=>False
def tO(x y:D)(M:MH)(Q:VK3):Prop:=match x,y with
 |.int i,.int j=>Q (.int (i+j)) M
 |.str a,.str b=>a.length+b.length<=sizeLine/\Q (.str (a++b)) M
 |.tup a,.tup b=>a.length+b.length<=sizeLine/\Q (.tup (a++b)) M
 |_,_=>False
noncomputable def lC(z:Str)(n:Int):Str:=if n<1 then Str.empty else if (n == 1||z.length == 0)=true then z else⟨(List.replicate n.toNat z.cps).foldl (·++·) #[]⟩
def ud(x y:D)(M:MH)(Q:VK3):Prop:=match x,y with
 |.int i,.int j=>bK i j/\Q (.int (i*j)) M
 |.str z,.int n=>(0<=n/\n<=100000/\z.length<=10)/\Q (.str (lC z n)) M
 |_,_=>False
def jZ:Operator->D->D->MH->VK3->Prop
 |.Add=>tO
 |.Sub=>rI2 λi j=>.int (i-j)
 |.Mult=>ud
 |.FloorDiv=>rII kO λi j=>.int (i / j)
 |.Mod=>rII (λ_ j=>0<j) λi j=>.int (i % j)
 |.Pow=>rII sZ λi j=>.int (i ^ j.toNat)
 |.RShift=>rII (λ_ j=>0<=j) λi j=>.int (i / 2 ^ j.toNat)
 |.BitAnd=>rI2 λi j=>.int (Builtin.bitAnd i j)
 |_=>λ_ _ _ _=>False
def rNeg(x:D)(M:MH)(Q:VK3):Prop:=match x with
 |.int i=>Q (.int (-i)) M
 |_=>False
def jV(fz:Bool)(x y:D)(M:MH)(Q:VK3):Prop:=match ai M x,ai M y with
 |some a,some b=>eI fz (a++b) M Q
 |_,_=>match x,y with
  |.tup a,.tup b=>a.length+b.length<=sizeLine/\Q (.tup (a++b)) M
  |_,_=>False
noncomputable def rs(M:MH)(x:D):D:=match ai M x with
 |some ds=>.rol (if pls ds=true then ds else ds.map (res M))
 |none=>x
def j3(neg:Bool)(x y:D)(M:MH)(Q:VK3):Prop:=pl (rs M x)=true/\pl (rs M y)=true/\Q (.bl (neg ^^ eqD (rs M x) (rs M y))) M
def rQ(neg:Bool)(x y:D)(M:MH)(Q:VK3):Prop:=match y with
 |.non=>Q (.bl (neg ^^ x.isN)) M
 |.bl b=>match x with
  |.bl a=>Q (.bl (neg ^^ (a == b))) M
  |.non=>Q (.bl neg) M
  |_=>False
 |_=>False
noncomputable def lO:D->Option Key
 |.int i=>some (.inl i)
 |.str s=>some (.inr s)
 |_=>none
noncomputable def dP:List D->Option (List Int)
 |[]=>some []
 |.int i::r=>match dP r with
  |some ns=>some (i::ns)
  |none=>none
 |_::_=>none
noncomputable def iK:D->Option (List Int)
 |.tup es=>dP es
 |_=>none
noncomputable def getD[DecidableEq κ]:List κ->List D->κ->Option D
 |k::ks,d::ds,x=>if k=x then some d else getD ks ds x
 |_,_,_=>none
noncomputable def aj[DecidableEq κ]:List κ->κ->List κ
 |[],x=>[x]
 |k::ks,x=>if k=x then k::ks else k::aj ks x
noncomputable def ak[DecidableEq κ]:List κ->List D->κ->D->List D
 |k::ks,d::ds,x,y=>if k=x then y::ds else d::ak ks ds x y
 |_,_,_,y=>[y]
noncomputable def gA(M:MH):D->Option (List Key×List D)
 |.dik ks ds=>some (ks,ds)
 |.ref a=>match M a with
  |some (.dk ks ds)=>some (ks,ds)
  |_=>none
 |_=>none
noncomputable def gO(M:MH):D->Option (List (List Int)×List D)
 |.dit ks ds=>some (ks,ds)
 |.ref a=>match M a with
  |some (.dt ks ds)=>some (ks,ds)
  |_=>none
 |_=>none
noncomputable def gQ(M:MH)(x y:D):Option (Option D):=match gA M x with
 |some (ks,ds)=>match lO y with
  |some k=>some (getD ks ds k)
  |none=>none
 |none=>match gO M x with
  |some (ks,ds)=>match iK y with
   |some k=>some (getD ks ds k)
   |none=>none
  |none=>none
noncomputable def CD(a b:Str):Bool:=!(Builtin.Str.occurrences b a 0 b.length 1).isEmpty
noncomputable def xG(z:Str)(i:Nat):Str:=⟨#[z.cps.getD i 0]⟩
noncomputable def iB(z:Str):List D:=z.cps.toList.map λc=>.str ⟨#[c]⟩
def oP(neg:Bool)(x y:D)(M:MH)(Q:VK3):Prop:=match aD M y with
 |some ds=>pl (res M x)=true/\pls ds=true/\Q (.bl (neg ^^ ds.any λd=>eqD d (res M x))) M
 |none=>match gQ M y x with
  |some o=>Q (.bl (neg ^^ o.isSome)) M
  |none=>match x,y with
   |.str a,.str b=>Q (.bl (neg ^^ CD a b)) M
   |_,_=>False
def aH:CmpOp->D->D->MH->VK3->Prop
 |.Eq=>j3 false
 |.NotEq=>j3 true
 |.Lt=>rI2 λi j=>.bl (decide (i<j))
 |.LtE=>rI2 λi j=>.bl (decide (i<=j))
 |.Gt=>rI2 λi j=>.bl (decide (j<i))
 |.GtE=>rI2 λi j=>.bl (decide (j<=i))
 |.Is=>rQ false
 |.IsNot=>rQ true
 |.In=>oP false
 |.NotIn=>oP true
def ao(x y:D)(M:MH)(Q:VK3):Prop:=match aD M x with
 |some ds=>match y with
  |.int i=>match atI ds i with
   |some d=>Q d M
   |none=>False
  |_=>False
 |none=>match gQ M x y with
  |some (some d)=>Q d M
  |some none=>False
  |none=>match x,y with
   |.str z,.int i=>(0<=i/\i<z.length/\i<2 ^ 63)/\Q (.str (xG z i.toNat)) M
   |_,_=>False
noncomputable def dR(xs:List D)(lo hi:Option Int):List D:=(xs.drop (HT.sIx xs.length 0 lo)).take (HT.sIx xs.length xs.length hi-HT.sIx xs.length 0 lo)
noncomputable def whole(n:Nat)(lo hi:Option Int):Bool:=HT.sIx n 0 lo == 0&&HT.sIx n n hi == n
def mE(fz:Bool)(x:D)(lo hi:Option Int)(M:MH)(Q:VK3):Prop:=match x with
 |.tup ds=>whole ds.length lo hi=false/\Q (.tup (dR ds lo hi)) M
 |.str z=>z.length<=sizeLine/\Q (.str (Txt.slice z lo hi)) M
 |x=>match ai M x with
  |some ds=>eI fz (dR ds lo hi) M Q
  |none=>False
noncomputable def d5:List D->Option (List Bool)
 |[]=>some []
 |.bl i::r=>match d5 r with
  |some ns=>some (i::ns)
  |none=>none
 |_::_=>none
noncomputable def pF(y:D):List D->Nat->Option Nat
 |[],_=>none
 |d::r,k=>if eqD d y=true then some k else pF y r (k+1)
noncomputable def isLstM(x:D)(M:MH):Bool:=match x with
 |.ref a=>match M a with
  |some (.lst _)=>true
  |_=>false
 |_=>false
noncomputable def tyB:BM->D->MH->Bool
 |.get,x,M=>(gA M x).isSome||(gO M x).isSome
 |.extend,x,M=>isLstM x M
 |.remove,x,M=>isLstM x M
 |.setdef,x,M=>(gA M x).isSome||(gO M x).isSome
def rBm:BM->D->List D->MH->VK3->Prop
 |.get,x,ys,M,Q=>match ys with
  |[y]=>match gQ M x y with
   |some o=>Q (o.getD .non) M
   |none=>False
  |[y,z]=>match gQ M x y with
   |some o=>Q (o.getD z) M
   |none=>False
  |_=>False
 |.setdef,x,ys,M,Q=>match x,ys with
  |.ref a,[y,z]=>match M a,lO y with
   |some (.dk ks ds),some k=>ks.length<sizeLine/\(match getD ks ds k with
    |some d=>Q d M
    |none=>Q z (put M a (.dk (aj ks k) (ak ks ds k z))))
   |_,_=>False
  |_,_=>False
 |.remove,x,ys,M,Q=>match x,ys with
  |.ref a,[y]=>match M a with
   |some (.lst ds)=>(pl (res M y)=true/\pls ds=true)/\(match pF (res M y) ds 0 with
    |some k=>Q .non (put M a (.lst (ds.eraseIdx k)))
    |none=>False)
   |_=>False
  |_,_=>False
 |.extend,x,ys,M,Q=>match x,ys with
  |.ref a,[y]=>match M a,ai M y with
   |some (.lst ds),some es=>ds.length+es.length<=sizeLine/\Q .non (put M a (.lst (ds++es)))
   |_,_=>False
  |_,_=>False
noncomputable def jH(k:List Int):D:=.tup (k.map D.int)
def rBi:BI->List D->MH->VK3->Prop
 |.len,xs,M,Q=>match xs with
  |[x]=>match aD M x with
   |some ds=>Q (.int ds.length) M
   |none=>match gO M x with
    |some (ks,_)=>Q (.int ks.length) M
    |none=>match x with
     |.str z=>z.length<=sizeLine/\Q (.int z.length) M
     |_=>False
  |_=>False
 |.max,xs,M,Q=>match xs with
  |[.int i,.int j]=>Q (.int (if j > i then j else i)) M
  |_=>False
 |.min,xs,M,Q=>match xs with
  |[.int i,.int j]=>Q (.int (if j<i then j else i)) M
  |_=>False
 |.list fz,xs,M,Q=>match xs with
  |[x]=>match aD M x with
   |some ds=>eI fz ds M Q
   |none=>match gO M x with
    |some (ks,_)=>eI fz (ks.map jH) M Q
    |none=>False
  |_=>False
 |.all,xs,M,Q=>match xs with
  |[x]=>match ai M x with
   |some ds=>match d5 ds with
    |some bs=>Q (.bl (bs.all id)) M
    |none=>False
   |none=>False
  |_=>False
 |.any,xs,M,Q=>match xs with
  |[x]=>match ai M x with
   |some ds=>match d5 ds with
    |some bs=>Q (.bl (bs.any id)) M
    |none=>False
   |none=>False
  |_=>False
def j9(t:BT)(x:D)(M:MH)(Q:VK3):Prop:=match x with
 |.non=>Q (.bl false) M
 |.bl _=>Q (.bl (match t with|.int=>true|.bool=>true|_=>false)) M
 |.int _=>Q (.bl (match t with|.int=>true|_=>false)) M
 |.str _=>Q (.bl (match t with|.str=>true|_=>false)) M
 |.tup _=>Q (.bl (match t with|.tuple=>true|_=>false)) M
 |.rol _=>Q (.bl (match t with|.list=>true|_=>false)) M
 |.ref a=>match M a with
  |some (.lst _)=>Q (.bl (match t with|.list=>true|_=>false)) M
  |some (.dk _ _)=>Q (.bl (match t with|.dict=>true|_=>false)) M
  |some (.dt _ _)=>Q (.bl (match t with|.dict=>true|_=>false)) M
  |_=>False
 |.dik _ _=>Q (.bl (match t with|.dict=>true|_=>false)) M
 |.dit _ _=>Q (.bl (match t with|.dict=>true|_=>false)) M
 |.obj _ _ _ _=>False
def iG(ne:Nat)(cls:Nat->Addr)(r:Nat->Bool)(x:D)(M:MH)(Q:VK3):Prop:=match x with
 |.ref a=>match M a with
  |some (.exc i v)=>i.c<ne/\v=.ref (cls i.c)/\Q (.bl (r i.c)) M
  |_=>False
 |_=>False
noncomputable def prD(p:Int×Int):D:=.tup [.int p.1,.int p.2]
noncomputable def sH:List D->Option (List (Int×Int))
 |[]=>some []
 |.tup [.int a,.int b]::r=>match sH r with
  |some ps=>some ((a,b)::ps)
  |none=>none
 |_::_=>none
noncomputable def kE(ps:List (Int×Int)):Int×Int:=ps.getD (argBest (λi j=>lt2 (ps.getD i (0,0)) (ps.getD j (0,0))) (ps.length-1)) (0,0)
def rMp(x:D)(M:MH)(Q:VK3):Prop:=match ai M x with
 |some ds=>match sH ds with
  |some (p::ps)=>Q (prD (kE (p::ps))) M
  |_=>False
 |none=>False
def uc(d:D)(M:MH)(Q:VK3):Prop:=match d with
 |.dik _ _=>False
 |d=>Q d M
def iu(p:Addr)(x y:D)(M:MH)(Q:VK3):Prop:=match iK x with
 |some k=>M p=some (.dt [] [])/\Q (.ref p) (put M p (.dt [k] [y]))
 |none=>False
structure WB where
 ne:Nat
 cls:Nat->Addr
 sub:Nat->Nat->Bool
 nk:Nat
 kls:Nat->Addr
 ksub:Nat->Nat->Bool
 fok:Nat->Nat->Bool
 mth:Nat->Nat->Option Nat
 ini:Nat->Option Nat
 xin:Nat->Option Nat
 glo:Nat->D
 fad:Nat->Addr
structure WC extends WB where
 call:Nat->List D->MH->VK3->XN->Prop
noncomputable def bU(f:Nat):List Nat->List D->Option D
 |n::ns,d::ds=>if n=f then some d else bU f ns ds
 |_,_=>none
noncomputable def b9(f:Nat):List Nat->List Nat
 |n::ns=>if n=f then n::ns else n::b9 f ns
 |[]=>[f]
noncomputable def b8(f:Nat)(y:D):List Nat->List D->List D
 |n::ns,d::ds=>if n=f then y::ds else d::b8 f y ns ds
 |_,_=>[y]
def j5(f:Nat)(ns:List Nat)(ds:List D)(M:MH)(Q:VK3):Prop:=match bU f ns ds with
 |some d=>Q d M
 |none=>False
def dX(B:WB)(f:Nat)(x:D)(M:MH)(Q:VK3):Prop:=match x with
 |.obj i C ns ds=>(C=B.kls i/\i<B.nk/\B.fok i f=true)/\j5 f ns ds M Q
 |.ref a=>match M a with
  |some (.ins i C ns ds)=>(C=B.kls i/\i<B.nk/\B.fok i f=true)/\j5 f ns ds M Q
  |_=>False
 |_=>False
def fX(o:Option Nat)(R:Nat->Prop):Prop:=match o with
 |some f=>R f
 |none=>False
def cZ(B:WB)(m:Nat)(x:D)(M:MH)(R:Nat->Prop):Prop:=match x with
 |.obj i C ns ds=>(C=B.kls i/\i<B.nk/\bU m ns ds=none)/\fX (B.mth i m) R
 |.ref a=>match M a with
  |some (.ins i C ns ds)=>(C=B.kls i/\i<B.nk/\bU m ns ds=none)/\fX (B.mth i m) R
  |_=>False
 |_=>False
def fM(Q:VK3):VK3:=λx M=>match x with
 |.ref a=>match M a with
  |some (.lst ds)=>Q (.rol ds) (del M a)
  |_=>False
 |_=>False
def dQ:List D->MH->(List D->MH->Prop)->Prop
 |[],M,R=>R [] M
 |d::ds,M,R=>match d with
  |.ref a=>match M a with
   |some (.lst es)=>dQ ds (del M a) λr M'=>R (.rol es::r) M'
   |some (.dk ks es)=>dQ ds (del M a) λr M'=>R (.dik ks es::r) M'
   |some (.dt ks es)=>dQ ds (del M a) λr M'=>R (.dit ks es::r) M'
   |_=>dQ ds M λr M'=>R (.ref a::r) M'
  |d=>dQ ds M λr M'=>R (d::r) M'
def aY(Q:VK3):VK3:=λx M=>match x with
 |.ref a=>match M a with
  |some (.lst ds)=>Q (.rol ds) (del M a)
  |some (.dk ks ds)=>Q (.dik ks ds) (del M a)
  |some (.dt ks ds)=>Q (.dit ks ds) (del M a)
  |some (.ins i C ns ds)=>dQ ds (del M a) λr M'=>Q (.obj i C ns r) M'
  |_=>False
 |_=>False
def wpG:ITg->D->St3->MH->(St3->MH->Prop)->Prop
 |.name i,d,σ,M,Q=>Q (σ.set i (some d)) M
 |.tup is,d,σ,M,Q=>match d with
  |.tup ds=>ds.length=is.length/\Q ((is.zip ds).foldl (λσ p=>σ.set p.1 (some p.2)) σ) M
  |_=>False
noncomputable def aA(js:List (Option Nat))(σ:St3):St3:=js.map λo=>o.bind λj=>(σ[j]?).bind id
def dH(g:D->St3->MH->(St3->MH->Prop)->Prop)(tt:St3->MH->(Bool->MH->Prop)->Prop)(te:St3->MH->VK3->Prop)(S:MH->Prop)(p:Addr)(Q:VK3):List D->List D->St3->MH->Prop
 |[],_,_,M=>S M/\Q (.ref p) M
 |d::r,ys,σ,M=>S M/\ys.length<sizeLine/\g d σ M λσ2 M2=>tt σ2 M2 λb M3=>if b=true then te σ2 M3 λy M4=>M4 p=some (.lst ys)/\dH g tt te S p Q r (ys++[y]) σ2 (put M4 p (.lst (ys++[y]))) else dH g tt te S p Q r ys σ2 M3
def aS(x k y:D)(M:MH)(R:MH->Prop):Prop:=match x with
 |.ref a=>match M a,k with
  |some (.lst ds),.int i=>(match ixN ds.length i with
   |some j=>R (put M a (.lst (ds.set j y)))
   |none=>False)
  |some (.dk ks ds),k=>(match lO k with
   |some q=>ks.length<sizeLine/\R (put M a (.dk (aj ks q) (ak ks ds q y)))
   |none=>False)
  |some (.dt ks ds),k=>(match iK k with
   |some q=>ks.length<sizeLine/\R (put M a (.dt (aj ks q) (ak ks ds q y)))
   |none=>False)
  |_,_=>False
 |_=>False
noncomputable def bh:Nat->List D->List D
 |_,[]=>[]
 |k,d::r=>.tup [.int k,d]::bh (k+1) r
noncomputable def cy(ks:List (List Int))(ds:List D):List D:=(ks.zip ds).map λp=>.tup [.tup (p.1.map D.int),p.2]
noncomputable def cJ(xs ys:List D):List D:=(xs.zip ys).map λp=>.tup [p.1,p.2]
noncomputable def cpF(f:Nat):Bool:=f == 217822450
section
variable (W:WC)
mutual
def wpE:IE->St3->MH->VK3->XN->Prop
 |.var i,σ,M,Q,_=>match σ[i]? with
  |some (some d)=>Q d M
  |_=>False
 |.con d,_,M,Q,_=>Q d M
 |.bin op a b,σ,M,Q,E=>wpE a σ M (λx M1=>wpE b σ M1 (λy M2=>jZ op x y M2 Q) E) E
 |.neg a,σ,M,Q,E=>wpE a σ M (λx M1=>rNeg x M1 Q) E
 |.cat fz a b,σ,M,Q,E=>wpE a σ M (λx M1=>wpE b σ M1 (λy M2=>jV fz x y M2 Q) E) E
 |.cmp op a b,σ,M,Q,E=>wpE a σ M (λx M1=>wpE b σ M1 (λy M2=>aH op x y M2 Q) E) E
 |.chain op op' a b c,σ,M,Q,E=>wpE a σ M (λx M1=>wpE b σ M1 (λy M2=>aH op x y M2 λr M3=>match r with
  |.bl k=>if k=true then wpE c σ M3 (λz M4=>aH op' y z M4 Q) E else Q (.bl false) M3
  |_=>False) E) E
 |.and a b,σ,M,Q,E=>wpE a σ M (λx M1=>match x with
  |.bl c=>if c=true then wpE b σ M1 Q E else Q (.bl false) M1
  |_=>False) E
 |.or a b,σ,M,Q,E=>wpE a σ M (λx M1=>match x with
  |.bl c=>if c=true then Q (.bl true) M1 else wpE b σ M1 Q E
  |_=>False) E
 |.not a,σ,M,Q,E=>wpE a σ M (λx M1=>match x with
  |.bl c=>Q (.bl (!c)) M1
  |_=>False) E
 |.tup es,σ,M,Q,E=>wpA es σ M (λxs M1=>xs.length<=sizeLine/\Q (.tup xs) M1) E
 |.lst fz es,σ,M,Q,E=>wpA es σ M (λxs M1=>eI fz xs M1 Q) E
 |.frz e,σ,M,Q,E=>wpE e σ M (aY Q) E
 |.ix a b,σ,M,Q,E=>wpE a σ M (λx M1=>wpE b σ M1 (λy M2=>ao x y M2 Q) E) E
 |.sl fz a lo hi,σ,M,Q,E=>wpE a σ M (λx M1=>wpO lo σ M1 (λl M2=>wpO hi σ M2 (λh M3=>mE fz x l h M3 Q) E) E) E
 |.call f es,σ,M,Q,E=>wpA es σ M (λxs M1=>W.call f xs M1 Q E) E
 |.bi b es,σ,M,Q,E=>wpA es σ M (λxs M1=>rBi b xs M1 Q) E
 |.isB e t,σ,M,Q,E=>wpE e σ M (λx M1=>j9 t x M1 Q) E
 |.isC e c,σ,M,Q,E=>wpE e σ M (λx M1=>iG W.ne W.cls (λi=>W.sub i c) x M1 Q) E
 |.isV e,σ,M,Q,E=>wpE e σ M (λx M1=>iG W.ne W.cls (λ_=>true) x M1 Q) E
 |.dctT k v,σ,M,Q,E=>∀p,M p=none->wpE k σ (put M p (.dt [] [])) (λx M1=>wpE v σ M1 (λy M2=>iu p x y M2 Q) E) E
 |.comp fz _ js tg it cond elt,σ,M,Q,E=>wpI it σ M (λds S M1=>∀p,M1 p=none->
   dH (wpG tg) (λσ M Q=>md cond σ M Q (λ_ _=>False)) (λσ M Q=>wpE elt σ M Q (λ_ _=>False)) S p (if fz=true then fM Q else Q) ds [] (aA js σ) (put M1 p (.lst []))) E
 |.mmp e,σ,M,Q,E=>wpE e σ M (λx M1=>rMp x M1 Q) E
 |.fld e f,σ,M,Q,E=>wpE e σ M (λx M1=>dX W.toWB f x M1 Q) E
 |.make fz i es,σ,M,Q,E=>wpA es σ M (λxs M1=>i<W.nk/\fX (W.ini i) λf=>∀p,M1 p=none->
   W.call f (.ref p::xs) (put M1 p (.ins i (W.kls i) [] [])) (λv M2=>v=.non/\if fz=true then aY Q (.ref p) M2 else Q (.ref p) M2) (λi M'=>E i (del M' p))) E
 |.meth e m es,σ,M,Q,E=>wpE e σ M (λx M1=>cZ W.toWB m x M1 λf=>wpA es σ M1 (λxs M2=>W.call f (x::xs) M2 Q E) E) E
 |.ini i es,σ,M,Q,E=>wpA es σ M (λxs M1=>i<W.nk/\fX (W.ini i) λf=>W.call f xs M1 Q E) E
 |.glo k,_,M,Q,_=>uc (W.glo k) M Q
 |.bm b o es,σ,M,Q,E=>wpE o σ M (λx M1=>tyB b x M1=true/\wpA es σ M1 (λxs M2=>rBm b x xs M2 Q) E) E
 |.dnew tk,_,M,Q,_=>∀p,M p=none->Q (.ref p) (put M p (if tk=true then .dt [] [] else .dk [] []))
def wpT:IT->St3->MH->(Bool->MH->Prop)->XN->Prop
 |.val e,σ,M,Q,E=>wpE e σ M (λx M1=>match x with
  |.bl k=>Q k M1
  |_=>False) E
 |.cmp op a b,σ,M,Q,E=>wpE a σ M (λx M1=>wpE b σ M1 (λy M2=>aH op x y M2 λr M3=>match r with
  |.bl k=>Q k M3
  |_=>False) E) E
 |.chain op op' a b c,σ,M,Q,E=>wpE a σ M (λx M1=>wpE b σ M1 (λy M2=>aH op x y M2 λr M3=>match r with
  |.bl k=>if k=true then wpE c σ M3 (λz M4=>aH op' y z M4 λr M5=>match r with
   |.bl k=>Q k M5
   |_=>False) E else Q false M3
  |_=>False) E) E
 |.chain3 op op' op'' a b c d,σ,M,Q,E=>wpE a σ M (λx M1=>wpE b σ M1 (λy M2=>aH op x y M2 λr M3=>match r with
  |.bl k=>if k=true then wpE c σ M3 (λz M4=>aH op' y z M4 λr M5=>match r with
   |.bl k=>if k=true then wpE d σ M5 (λu M6=>aH op'' z u M6 λr M7=>match r with
    |.bl k=>Q k M7
    |_=>False) E else Q false M5
   |_=>False) E else Q false M3
  |_=>False) E) E
 |.and a b,σ,M,Q,E=>wpT a σ M (λc M1=>if c=true then wpT b σ M1 Q E else Q false M1) E
 |.or a b,σ,M,Q,E=>wpT a σ M (λc M1=>if c=true then Q true M1 else wpT b σ M1 Q E) E
 |.not a,σ,M,Q,E=>wpT a σ M (λc M1=>Q (!c) M1) E
def wpA:IA->St3->MH->(List D->MH->Prop)->XN->Prop
 |.nil,_,M,Q,_=>Q [] M
 |.cons e r,σ,M,Q,E=>wpE e σ M (λx M1=>wpA r σ M1 (λxs M2=>Q (x::xs) M2) E) E
def wpO:IO->St3->MH->(Option Int->MH->Prop)->XN->Prop
 |.no,_,M,Q,_=>Q none M
 |.yes e,σ,M,Q,E=>wpE e σ M (λx M1=>match x with
  |.int i=>Q (some i) M1
  |_=>False) E
def md:ITO->St3->MH->(Bool->MH->Prop)->XN->Prop
 |.no,_,M,Q,_=>Q true M
 |.yes e,σ,M,Q,E=>wpT e σ M Q E
def wpI:II->St3->MH->(List D->(MH->Prop)->MH->Prop)->XN->Prop
 |.seq e,σ,M,R,E=>wpE e σ M (λx M1=>match x with
  |.tup ds=>R ds (λ_=>True) M1
  |.rol ds=>R ds (λ_=>True) M1
  |.ref a=>match M1 a with
   |some (.lst ds)=>R ds (λM=>M a=some (.lst ds)) M1
   |_=>False
  |.str z=>R (iB z) (λ_=>True) M1
  |_=>False) E
 |.enum a,σ,M,R,E=>wpE a σ M (λx M1=>match x with
  |.rol ds=>R (bh 0 ds) (λ_=>True) M1
  |.ref a=>match M1 a with
   |some (.lst ds)=>R (bh 0 ds) (λM=>M a=some (.lst ds)) M1
   |_=>False
  |_=>False) E
 |.zip a b,σ,M,R,E=>wpE a σ M (λx M1=>wpE b σ M1 (λy M2=>match x,y with
  |.rol xs,.rol ys=>R (cJ xs ys) (λ_=>True) M2
  |.rol xs,.ref b=>match M2 b with
   |some (.lst ys)=>R (cJ xs ys) (λM=>M b=some (.lst ys)) M2
   |_=>False
  |_,_=>False) E) E
 |.items a,σ,M,R,E=>wpE a σ M (λx M1=>match x with
  |.dit ks ds=>R (cy ks ds) (λ_=>True) M1
  |_=>False) E
 |.dk a,σ,M,R,E=>wpE a σ M (λx M1=>match x with
  |.dit ks ds=>R (ks.map jH) (λ_=>True) M1
  |_=>False) E
 |.rng1 a,σ,M,R,E=>wpE a σ M (λx M1=>match x with
  |.int j=>-(2 ^ 62)<=j/\j<2 ^ 62/\R (rng 0 j.toNat) (λ_=>True) M1
  |_=>False) E
end
def jN(g:D->St3->MH->(St3->MH->Prop)->Prop)(tb:Ends3->St3->MH->Prop)(S:MH->Prop)(D:Ends3):List L2.D->St3->MH->Prop
 |[],σ,M=>S M/\D.nx σ M
 |d::r,σ,M=>S M/\g d σ M λσ2 M2=>tb {D with nx:=jN g tb S D r,ct:=jN g tb S D r,bk:=D.nx} σ2 M2
noncomputable def ot(D:Ends3)(i:Nat):Ends3:=⟨λσ M=>D.nx (σ.set i none) M,D.rt,λσ M=>D.bk (σ.set i none) M,λσ M=>D.ct (σ.set i none) M⟩
mutual
def wpS:IS->Ends3->(St3->XN)->St3->MH->Prop
 |.set i e,D,E,σ,M=>wpE W e σ M (λx M1=>D.nx (σ.set i (some x)) M1) (E σ)
 |.unp is e,D,E,σ,M=>wpE W e σ M (λx M1=>match x with
  |.tup ds=>ds.length=is.length/\D.nx ((is.zip ds).foldl (λσ p=>σ.set p.1 (some p.2)) σ) M1
  |_=>False) (E σ)
 |.expr e,D,E,σ,M=>wpE W e σ M (λ_ M1=>D.nx σ M1) (E σ)
 |.ret e,D,E,σ,M=>wpE W e σ M D.rt (E σ)
 |.ifs c a b,D,E,σ,M=>wpT W c σ M (λk M1=>if k=true then aX a D E σ M1 else aX b D E σ M1) (E σ)
 |.for_ tg it body,D,E,σ,M=>wpI W it σ M (λds S M1=>jN (wpG tg) (λD σ M=>aX body D E σ M) S D ds σ M1) (E σ)
 |.raise c es,_,E,σ,M=>wpA W es σ M (λxs M1=>xs.length<=sizeLine/\E σ ⟨c,none⟩ M1) (E σ)
 |.tryE body hs el,D,E,σ,M=>aX body {D with nx:=λσ' M'=>aX el D E σ' M'} (λσ' i M'=>wpH hs i D σ' M') σ M
 |.app o e,D,E,σ,M=>wpE W o σ M (λx M1=>match x with
  |.ref a=>match M1 a with
   |some (.lst _)=>wpE W e σ M1 (λy M2=>match M2 a with
    |some (.lst ds)=>ds.length<sizeLine/\D.nx σ (put M2 a (.lst (ds++[y])))
    |_=>False) (E σ)
   |_=>False
  |_=>False) (E σ)
 |.del i,D,_,σ,M=>match σ[i]? with
  |some (some (.ref a))=>D.nx σ (L2.del M a)
  |_=>False
 |.fset o f e,D,E,σ,M=>wpE W e σ M (λy M1=>wpE W o σ M1 (λx M2=>match x with
  |.ref a=>match M2 a with
   |some (.ins i C ns ds)=>(C=W.kls i/\i<W.nk/\W.fok i f=true/\ns.length<1000)/\D.nx σ (put M2 a (.ins i C (b9 f ns) (b8 f y ns ds)))
   |_=>False
  |_=>False) (E σ)) (E σ)
 |.ixset o i e,D,E,σ,M=>wpE W e σ M (λy M1=>wpE W o σ M1 (λx M2=>wpE W i σ M2 (λk M3=>aS x k y M3 λM4=>D.nx σ M4) (E σ)) (E σ)) (E σ)
 |.dead,_,_,_,_=>False
def aX:ISs->Ends3->(St3->XN)->St3->MH->Prop
 |.nil,D,_,σ,M=>D.nx σ M
 |.cons s r,D,E,σ,M=>wpS s {D with nx:=λσ' M'=>aX r D E σ' M'} E σ M
def wpH:IHs->XE->Ends3->St3->MH->Prop
 |.nil,_,_,_,_=>False
 |.cons c nm body r,i,D,σ,M=>i.c<W.ne/\if W.sub i.c c=true then (match nm with
  |none=>aX body D (λ_ _ _=>False) σ M
  |some j=>∀a,M a=none->aX body (ot D j) (λ_ _ _=>False) (σ.set j (some (.ref a))) (put M a (.exc i (.ref (W.cls i.c))))) else wpH r i D σ M
end
end
def LkE(K:Ii)(cls:Nat->Addr)(H:Hp)(E3:XN)(E:XK):Prop:=∀i M' H',TM K H H'->RelM K M' H'->E3 i M'->∀dx,XD K H' i dx->E (.ref (cls i.c)) dx H'
def LkS(K:Ii)(cls:Nat->Addr)(H:Hp)(E3:St3->XN)(E2:St->XK):Prop:=∀σ3 σ i M' H',TM K H H'->DenS K H' σ3 σ->RelM K M' H'->E3 σ3 i M'->∀dx,XD K H' i dx->E2 σ (.ref (cls i.c)) dx H'
section
variable {K:Ii}
theorem LkE.mono(h:LkE K cls H E3 E)(t:TM K H H1):LkE K cls H1 E3 E:=λi M' H' t' r q=>h i M' H' (t.trans t') r q
theorem LkS.mono(h:LkS K cls H E3 E2)(t:TM K H H1):LkS K cls H1 E3 E2:=λσ3 σ i M' H' t' d r q=>h σ3 σ i M' H' (t.trans t') d r q
theorem LkS.at(h:LkS K cls H E3 E2)(ds:DenS K H σ3 σ):LkE K cls H (E3 σ3) (E2 σ):=λi M' H' t r q=>h σ3 σ i M' H' t (ds.mono t) r q
theorem LkE.no:LkE K cls H (λ_ _=>False) E:=λ_ _ _ _ _ h=>h.elim
theorem Back.mono(h:Back K H Q Q2)(t:TM K H H1):Back K H1 Q Q2:=λv H' d M' a b c e=>h v H' d M' a b (t.trans c) e
end
section
variable (K:Ii) (cls:Nat->Addr) (E2:St->XK)
noncomputable def low(t:St3->MH->VK3->XN->Prop):TE:=λσ H Q2=>∃σ3 M Q E3,RelM K M H/\DenS K H σ3 σ/\LkE K cls H E3 (E2 σ)/\t σ3 M Q E3/\Back K H Q Q2
noncomputable def cH(t:St3->MH->(Bool->MH->Prop)->XN->Prop):TT:=λσ H Q2=>∃σ3 M Q E3,RelM K M H/\DenS K H σ3 σ/\LkE K cls H E3 (E2 σ)/\t σ3 M Q E3/\∀b H' M',RelM K M' H'->TM K H H'->Q b M'->Q2 b H'
noncomputable def dI(t:St3->MH->(List D->MH->Prop)->XN->Prop):TA:=λσ H Q2=>∃σ3 M Q E3,RelM K M H/\DenS K H σ3 σ/\LkE K cls H E3 (E2 σ)/\t σ3 M Q E3/\∀vs H' ds M',DenL K H' ds vs->RelM K M' H'->TM K H H'->Q ds M'->Q2 vs H'
noncomputable def sF(t:St3->MH->(Option Int->MH->Prop)->XN->Prop):TO:=λσ H Q2=>∃σ3 M Q E3,RelM K M H/\DenS K H σ3 σ/\LkE K cls H E3 (E2 σ)/\t σ3 M Q E3/\∀o H' M',RelM K M' H'->TM K H H'->Q o M'->Q2 o H'
noncomputable def ka(t:St3->MH->(List D->(MH->Prop)->MH->Prop)->XN->Prop):TI:=λσ H R2=>∃σ3 M R E3,RelM K M H/\DenS K H σ3 σ/\LkE K cls H E3 (E2 σ)/\t σ3 M R E3/\∀J H' ds S M',ItOk K H' J ds S->RelM K M' H'->TM K H H'->R ds S M'->R2 J H'
noncomputable def bx(t:Ends3->(St3->XN)->St3->MH->Prop):TS:=λD2 σ H=>∃σ3 M D3 E3,RelM K M H/\DenS K H σ3 σ/\LkS K cls H E3 E2/\t D3 E3 σ3 M/\ER K H D3 D2
noncomputable def r0(t:D->St3->MH->(St3->MH->Prop)->Prop):TG:=λv σ H Q2=>∃d σ3 M Q,Den K H d v/\RelM K M H/\DenS K H σ3 σ/\t d σ3 M Q/\BackS K H Q Q2
end
section
variable {X:Cx}{st:Stmt}
theorem PE.imp(h:PE X e t)(f:∀σ H Q,t' σ H Q->t σ H Q):PE X e t':=λpins s σ H Q I q=>h pins s σ H Q I (f σ H Q q)
theorem PT.imp(h:PT X e t)(f:∀σ H Q,t' σ H Q->t σ H Q):PT X e t':=λpins s σ H Q I q=>h pins s σ H Q I (f σ H Q q)
theorem PW.imp(h:PW X e t)(f:∀σ H Q,t' σ H Q->t σ H Q):PW X e t':=λwhole pins s σ H Q I q=>h whole pins s σ H Q I (f σ H Q q)
theorem PA.imp(h:PA X es t)(f:∀σ H Q,t' σ H Q->t σ H Q):PA X es t':=λpos pins s σ H Q I q=>h pos pins s σ H Q I (f σ H Q q)
theorem PO.imp(h:PO X o t)(f:∀σ H Q,t' σ H Q->t σ H Q):PO X o t':=λpins s σ H Q I q=>h pins s σ H Q I (f σ H Q q)
theorem PI.imp(h:PI X tg e t)(f:∀σ H Q,t' σ H Q->t σ H Q):PI X tg e t':=λpins s σ H Q I q=>h pins s σ H Q I (f σ H Q q)
theorem PS.imp(h:PS X st t)(f:∀D σ H,t' D σ H->t D σ H):PS X st t':=λpins s σ H D I q=>h pins s σ H D I (f D σ H q)
theorem PSs.imp(h:PSs X sts t)(f:∀D σ H,t' D σ H->t D σ H):PSs X sts t':=λpins s σ H D I q=>h pins s σ H D I (f D σ H q)
theorem PG.imp(h:PG X e t)(f:∀v σ H Q,t' v σ H Q->t v σ H Q):PG X e t':=λpins s σ H v u Q I r q=>h pins s σ H v u Q I r (f v σ H Q q)
end
section
variable {X:Cx}{s:Shared}
theorem HOk.freeze(x:HOk P w H h)(e:H a=some (.lst xs)):∃o,HOk P w (upd H a (.frz o (.lst xs))) h:=by
 obtain⟨o,ho⟩:=(x a _ e).isAt;refine⟨o,λb u q=>?_⟩
 have own:∀c y,H c=some (.own y)->(upd H a (.frz o (.lst xs))) c=some (.own y):=λc y z=>by
  rw[ac (dg z e (λw=>nomatch w))];exact z
 have tup:∀c ys,H c=some (.tup ys)->(upd H a (.frz o (.lst xs))) c=some (.tup ys):=λc ys z=>by
  rw[ac (dg z e (λw=>nomatch w))];exact z
 by_cases hb:b=a
 ·subst hb;rw[ae]at q;cases q;exact⟨ho,(x b _ e).stay (λ_ _ _ q=>q) (λc z=>own c _ z) λc ys z=>tup c ys z⟩
 ·rw[ac hb]at q;exact (x b u q).stay (λ_ _ _ q=>q) (λc z=>own c _ z) λc ys z=>tup c ys z
theorem Inv.freeze(I:Inv X pins σ H s)(e:H a=some (.lst xs)):∃o,Inv X pins σ (upd H a (.frz o (.lst xs))) s:=by
 obtain⟨o,ok⟩:=I.hok.freeze e;have ne:∀b,H b=none->b≠a:=λb z=>λq=>by rw[q,e]at z;cases z
 refine⟨o,⟨I.ok,I.os,I.bare,⟨I.base.keep,I.base.slot,λb ob q n hx=>?_,I.base.there,λb ys q=>?_,λb ob u q=>?_,λb ps q=>?_⟩,I.loc,I.cell,?_,λx c z=>?_,λp hp=>?_,ok,I.len⟩⟩
 ·have z:=I.base.free b ob q n hx;rw[ac (ne b z)];exact z
 ·have z:=I.base.tups b ys q;rw[ac (dg z e (λw=>nomatch w))];exact z
 ·have z:=I.base.frzs b ob u q;rw[ac (dg z e (λw=>nomatch w))];exact z
 ·obtain⟨more,z⟩:=I.base.tbls b ps q;exact⟨more,by rw[ac (dg z e (λw=>nomatch w))];exact z⟩
 ·rw[ac (ne _ I.free)];exact I.free
 ·rw[ac (ne _ (I.freeC x c z))];exact I.freeC x c z
 ·obtain⟨p1,p2,p3⟩:=I.pin p hp;exact⟨p1,by rw[ac (ne _ p2)];exact p2,p3⟩
end
section
variable {K:Ii}{xs:List V}
theorem TM.freeze(e:H a=some (.lst xs)):TM K H (upd H a (.frz o (.lst xs))):=
 .put e (λ_=>λz=>nomatch z) λ_ _=>λz=>nomatch z
theorem RelM.freeze(r:RelM K M H)(e:H a=some (.lst xs)):RelM K (del M a) (upd H a (.frz o (.lst xs))):=λb u q=>by
 obtain⟨ne,q⟩:=iQ q;exact (r b u q).stay (.freeze e) (ac ne)
theorem fq(h:DenL K H ds xs)(e:H a=some (.lst xs)):Den K (upd H a (.frz o (.lst xs))) (.rol ds) (.ref a):=⟨a,xs,rfl,.inl ⟨o,ae⟩,h.mono (.freeze e)⟩
end
theorem de{X:Cx}
  (I:Inv X pins σ (upd H p (.lst vs)) s) (hp:H p=none) (dl:DenL X.K H ds vs)(rm:RelM X.K M H)(tm:TM X.K H0 H)(h:eI fz ds M Q)(back:Back X.K H0 Q Q2):EP X pins σ Q2 (.ref p) s:=by
 obtain⟨_,h⟩:=h;cases fz with
 |true=>
  rw[G3 rfl]at h;obtain⟨o,I2⟩:=I.freeze ae;refine⟨.ref p,_,I2,rfl,back _ _ _ _ (fq (o:=o) (dl.mono (.new hp)) ae) ?_ (tm.trans ((TM.new hp).trans (.freeze ae))) h⟩;have r2:RelM X.K (put M p (.lst ds)) (upd H p (.lst vs)):=rm.lay hp ⟨vs,ae,dl.mono (.new hp)⟩;have r3:=r2.freeze (o:=o) (xs:=vs) ae;rw[gt (rm.fresh hp)]at r3;exact r3
 |false=>
  rw[GV Hf]at h;exact⟨.ref p,_,I,rfl,back _ _ _ _ gh (rm.lay (u:=.lst ds) hp ⟨vs,ae,dl.mono (.new hp)⟩) (tm.trans (.new hp)) (h p (rm.fresh hp))⟩
def RdL(K:Ii)(H:Hp)(p:Addr)(vs:List V):Prop:=Rd H p (.lst vs)\/SqM K p vs
theorem RdL.sq{K:Ii}(h:RdL K H p vs):SqL K H p vs:=by
 rcases h with h|h
 ·exact .inl h
 ·exact h.sq
theorem SqF.rd{K:Ii}(h:SqF K H p vs):RdL K H p vs:=by
 rcases h with h|h
 ·exact .inl (.inr h)
 ·exact .inr h
theorem bg{K:Ii}(rm:RelM K M H)(h:ai M x=some ds)(dv:Den K H x v):∃p vs,v=.ref p/\RdL K H p vs/\DenL K H ds vs:=by
 cases x with
 |rol es=>
  cases (show es=ds from Hg h);obtain⟨p,vs,e,s,l⟩:=dv;exact⟨p,vs,e,s.rd,l⟩
 |ref a=>
  have h:(match M a with|some (.lst ds)=>some ds|_=>none)=some ds:=h
  split at h
  next es q=>
   cases h;obtain⟨vs,e,l⟩:=rm a _ q;exact⟨a,vs,dv,.inl (.inl e),l⟩
  next=>cases h
 |_=>cases h
theorem g9{K:Ii}(rm:RelM K M H)(h:aD M x=some ds)(dv:Den K H x v):∃p vs,v=.ref p/\(SqL K H p vs\/SqT K H p vs)/\DenL K H ds vs:=by
 cases x with
 |tup es=>
  cases (show es=ds from Hg h);obtain⟨p,vs,e,s,l⟩:=dv;exact⟨p,vs,e,.inr s,l⟩
 |rol es=>obtain⟨p,vs,e,s,l⟩:=bg rm (show ai M (.rol es)=some ds from h) dv;exact⟨p,vs,e,.inl s.sq,l⟩
 |ref a=>obtain⟨p,vs,e,s,l⟩:=bg rm (show ai M (.ref a)=some ds from h) dv;exact⟨p,vs,e,.inl s.sq,l⟩
 |_=>cases h
theorem Inv.rdL{X:Cx}{s:Shared}{xs:List V}(I:Inv X pins σ H s)(h:RdL X.K H l xs):xs.length<=sizeLine/\∃(its:List Value) (n:Nat),Vals xs its/\xs.length=its.length/\s.heap.get? l=some {cls:=.type "list",data:=.seq its.toArray n}:=by
 rcases h with h|⟨its,n,e,z,r⟩
 ·obtain⟨z,its,n,r,e⟩:=h.ok I.hok;exact⟨z,its,n,r,r.length,e⟩
 ·exact⟨by rw[r.length];exact z,its,n,r,r.length,I.kIn _ _ e⟩
noncomputable def sQ:HO->Bool
 |.lst _=>true
 |.dK _=>true
 |.dT _=>true
 |.ins _ _ _=>true
 |.ext _=>true
 |_=>false
theorem lG(h:sQ u=true):(∀y,HO.own y≠u)/\(∀xs,HO.tup xs≠u)/\(∀o v,HO.frz o v≠u)/\∀ps,HO.tbl ps≠u:=by
 cases u<;>first
  |(cases h;done)
  |exact⟨λ_ z=>(by cases z),λ_ z=>(by cases z),λ_ _ z=>(by cases z),λ_ z=>(by cases z)⟩
section
variable {X:Cx}
theorem HOk.frzU(x:HOk P w H h)(e:H a=some u)(hu:sQ u=true):∃o,HOk P w (upd H a (.frz o u)) h:=by
 obtain⟨n1,n2,_,_⟩:=lG hu;obtain⟨o,ho⟩:=(x a _ e).isAt;refine⟨o,λb v q=>?_⟩
 have own:∀c y,H c=some (.own y)->(upd H a (.frz o u)) c=some (.own y):=λc y z=>by
  rw[ac (dg z e (n1 y))];exact z
 have tup:∀c ys,H c=some (.tup ys)->(upd H a (.frz o u)) c=some (.tup ys):=λc ys z=>by
  rw[ac (dg z e (n2 ys))];exact z
 by_cases hb:b=a
 ·subst hb;rw[ae]at q;cases q;exact⟨ho,(x b _ e).stay (λ_ _ _ q=>q) (λc z=>own c _ z) λc ys z=>tup c ys z⟩
 ·rw[ac hb]at q;exact (x b v q).stay (λ_ _ _ q=>q) (λc z=>own c _ z) λc ys z=>tup c ys z
theorem Inv.frzU(I:Inv X pins σ H s)(e:H a=some u)(hu:sQ u=true):∃o,Inv X pins σ (upd H a (.frz o u)) s:=by
 obtain⟨n1,n2,n3,n4⟩:=lG hu;obtain⟨o,ok⟩:=I.hok.frzU e hu;have ne:∀b,H b=none->b≠a:=λb z=>λq=>by rw[q,e]at z;cases z
 refine⟨o,⟨I.ok,I.os,I.bare,⟨I.base.keep,I.base.slot,λb ob q n hx=>?_,I.base.there,λb ys q=>?_,λb ob u q=>?_,λb ps q=>?_⟩,I.loc,I.cell,?_,λx c z=>?_,λp hp=>?_,ok,I.len⟩⟩
 ·have z:=I.base.free b ob q n hx;rw[ac (ne b z)];exact z
 ·have z:=I.base.tups b ys q;rw[ac (dg z e (n2 _))];exact z
 ·have z:=I.base.frzs b ob u q;rw[ac (dg z e (n3 _ _))];exact z
 ·obtain⟨more,z⟩:=I.base.tbls b ps q;exact⟨more,by rw[ac (dg z e (n4 _))];exact z⟩
 ·rw[ac (ne _ I.free)];exact I.free
 ·rw[ac (ne _ (I.freeC x c z))];exact I.freeC x c z
 ·obtain⟨p1,p2,p3⟩:=I.pin p hp;exact⟨p1,by rw[ac (ne _ p2)];exact p2,p3⟩
end
section
variable {K:Ii}
theorem TM.frzU(e:H a=some u)(hu:sQ u=true):TM K H (upd H a (.frz o u)):=by
 obtain⟨_,n2,n3,_⟩:=lG hu;exact .put e (λxs z=>n2 xs z.symm) λob v z=>n3 ob v z.symm
theorem RelM.frzU(r:RelM K M H)(e:H a=some u)(hu:sQ u=true):RelM K (del M a) (upd H a (.frz o u)):=λb v q=>by
 obtain⟨ne,q⟩:=iQ q;exact (r b v q).stay (.frzU e hu) (ac ne)
end
noncomputable def fzD:DO->D
 |.lst ds=>.rol ds
 |.dk ks ds=>.dik ks ds
 |.dt ks ds=>.dit ks ds
 |.ins i C ns ds=>.obj i C ns ds
 |.exc _ _=>.non
 |.stl _=>.non
theorem eQ{X:Cx}(I:Inv X pins σ H s)(rm:RelM X.K M H)(e:M a=some o)(ho:(∀i c,o≠.exc i c)/\∀φ,o≠.stl φ) :
  ∃H',Inv X pins σ H' s/\TM X.K H H'/\RelM X.K (del M a) H'/\Den X.K H' (fzD o) (.ref a):=by
 cases o with
 |lst ds=>
  obtain⟨vs,e1,dl⟩:=rm a _ e;obtain⟨ob,I2⟩:=I.frzU e1 rfl;exact⟨_,I2,.frzU e1 rfl,rm.frzU e1 rfl,a,vs,rfl,.inl ⟨ob,ae⟩,dl.mono (.frzU e1 rfl)⟩
 |dk ks ds=>
  obtain⟨vs,e1,hl,dl⟩:=rm a _ e;obtain⟨ob,I2⟩:=I.frzU e1 rfl;exact⟨_,I2,.frzU e1 rfl,rm.frzU e1 rfl,a,vs,ob,rfl,ae,hl,dl.mono (.frzU e1 rfl)⟩
 |dt ks ds=>
  obtain⟨vs,xs,e1,z,dl⟩:=rm a _ e;obtain⟨ob,I2⟩:=I.frzU e1 rfl;have t:TM X.K H (upd H a (.frz ob (.ext (aV a xs)))):=.frzU e1 rfl;exact⟨_,I2,t,rm.frzU e1 rfl,a,vs,ob,xs,rfl,ae,⟨z.kx,z.nd,z.sz,z.no,z.vx,λx hx=>t.t _ _ (z.at_ x hx)⟩,dl.mono t⟩
 |ins i C ns ds=>
  obtain⟨dx,vs,e1,hl,dl⟩:=rm a _ e;obtain⟨ob,I2⟩:=I.frzU e1 rfl;exact⟨_,I2,.frzU e1 rfl,rm.frzU e1 rfl,a,vs,ob,dx,rfl,ae,hl,dl.mono (.frzU e1 rfl)⟩
 |exc i c=>exact absurd rfl (ho.1 i c)
 |stl φ=>exact absurd rfl (ho.2 φ)
theorem fH{X:Cx}:∀{ds:List D}{vs:List V}{H:Hp}{M:MH}{R:List D->MH->Prop},Inv X pins σ H s->RelM X.K M H->DenL X.K H ds vs->dQ ds M R->
  ∃H' M' r,Inv X pins σ H' s/\TM X.K H H'/\RelM X.K M' H'/\DenL X.K H' r vs/\R r M'
 |[],vs,H,M,R,I,rm,dl,h=>⟨H,M,[],I,.refl _,rm,dl,h⟩
 |d::ds,_,H,M,R,I,rm,dl,h=>by
  obtain⟨v,r,rfl,dv,dl⟩:=dl;have keep:∀(d:D),Den X.K H d v->dQ ds M (λr M'=>R (d::r) M')->∃H' M' r',Inv X pins σ H' s/\TM X.K H H'/\RelM X.K M' H'/\DenL X.K H' r' (v::r)/\R r' M':=λd dv h=>by
   obtain⟨H',M',r',I',t,rm',dl',q⟩:=fH I rm dl h;exact⟨H',M',d::r',I',t,rm',.cons (dv.mono t) dl',q⟩
  have fz:∀(a:Addr)(o:DO),v=.ref a->M a=some o->((∀i c,o≠.exc i c)/\∀φ,o≠.stl φ)->dQ ds (del M a) (λr M'=>R (fzD o::r) M')->∃H' M' r',Inv X pins σ H' s/\TM X.K H H'/\RelM X.K M' H'/\DenL X.K H' r' (v::r)/\R r' M':=λa o e eM ne h=>by
   subst e;obtain⟨H1,I1,t1,rm1,d1⟩:=eQ I rm eM ne;obtain⟨H',M',r',I',t,rm',dl',q⟩:=fH I1 rm1 (dl.mono t1) h;exact⟨H',M',_::r',I',t1.trans t,rm',.cons (d1.mono t) dl',q⟩
  cases d with
  |ref a=>
   simp only[dQ]at h;have e:v=.ref a:=dv;split at h
   ·rename_i es q;exact fz a (.lst es) e q ⟨(λ_ _ z=>nomatch z),(λ_ z=>nomatch z)⟩ h
   ·rename_i ks es q;exact fz a (.dk ks es) e q ⟨(λ_ _ z=>nomatch z),(λ_ z=>nomatch z)⟩ h
   ·rename_i ks es q;exact fz a (.dt ks es) e q ⟨(λ_ _ z=>nomatch z),(λ_ z=>nomatch z)⟩ h
   ·exact keep _ dv h
  |_=>exact keep _ dv (by simpa only[dQ] using h)
theorem lU{X:Cx}(I:Inv X pins σ H s)(rm:RelM X.K M H)(dx:Den X.K H x v)(h:aY Q x M) :
  ∃H' M' d,Inv X pins σ H' s/\TM X.K H H'/\RelM X.K M' H'/\Den X.K H' d v/\Q d M':=by
 unfold aY at h;split at h
 ·rename_i a;cases (show v=.ref a from dx);split at h
  ·rename_i es q;obtain⟨H1,I1,t1,rm1,d1⟩:=eQ (o:=.lst es) I rm q ⟨(λ_ _ z=>nomatch z),(λ_ z=>nomatch z)⟩
   exact⟨H1,_,_,I1,t1,rm1,d1,h⟩
  ·rename_i ks es q;obtain⟨H1,I1,t1,rm1,d1⟩:=eQ (o:=.dk ks es) I rm q ⟨(λ_ _ z=>nomatch z),(λ_ z=>nomatch z)⟩
   exact⟨H1,_,_,I1,t1,rm1,d1,h⟩
  ·rename_i ks es q;obtain⟨H1,I1,t1,rm1,d1⟩:=eQ (o:=.dt ks es) I rm q ⟨(λ_ _ z=>nomatch z),(λ_ z=>nomatch z)⟩
   exact⟨H1,_,_,I1,t1,rm1,d1,h⟩
  ·rename_i i C ns es q;obtain⟨H1,I1,t1,rm1,d1⟩:=eQ (o:=.ins i C ns es) I rm q ⟨(λ_ _ z=>nomatch z),(λ_ z=>nomatch z)⟩
   obtain⟨a',vs,ob,dx',e',he,hl,dl⟩:=d1;cases e';obtain⟨H2,M2,r,I2,t2,rm2,dl2,q2⟩:=fH I1 rm1 dl h;refine⟨H2,M2,.obj i C ns r,I2,t1.trans t2,rm2,?_,q2⟩;exact⟨a,vs,ob,dx',rfl,t2.g _ _ _ he,hl,dl2⟩
  ·exact h.elim
 ·exact h.elim
end L2
namespace L2
open PySem PySem.Spec PySem.Calls PyProof.Rows
section
variable {X:Cx}{D:Addr}
end
end L2
namespace L2
open PySem PySem.Spec PyProof.Rows
section
variable {X:Cx}
theorem jM:∀{xs ys:List D},dZ xs ys=true->xs.length=ys.length
 |[],[],_=>rfl
 |[],_::_,h=>by simp[dZ]at h
 |_::_,[],h=>by simp[dZ]at h
 |x::xs,y::ys,h=>by
  simp only[dZ,GS]at h;rw[Hk,Hk,jM h.2]
theorem fx:∀{xs ys:List D},xs.length=ys.length->dZ xs ys=(List.range xs.length).all λj=>eqD (xs.getD j .non) (ys.getD j .non)
 |[],[],_=>by simp[dZ]
 |[],_::_,h=>by simp at h
 |_::_,[],h=>by simp at h
 |x::xs,y::ys,h=>by
  have ih:=fx (xs:=xs) (ys:=ys) (by simpa using h)
  simp only[dZ,Hk,List.range_succ_eq_map,List.all_cons,List.all_map,ih];rfl
theorem uM{xs ys:List D}:dZ xs ys=((List.range (min xs.length ys.length)).all (λj=>eqD (xs.getD j .non) (ys.getD j .non))&&(xs.length == ys.length)):=by
 by_cases h:xs.length=ys.length
 ·rw[fx h,h,Nat.min_self,beq_self_eq_true,Bool.and_true]
 ·have e1:(xs.length == ys.length)=false:=Hr.mpr h;rw[e1,Bool.and_false];cases q:dZ xs ys with
  |false=>rfl
  |true=>exact absurd (jM q) h
theorem lZ{K:Ii}(I:Inv X pins σ H s)(hK:K=X.K):∀(n:Nat) {x y:D}{v:V},plN n x=true->plN n y=true->Den K H x v->Den K H y v->x=y:=by
 subst hK;have lists:∀(n:Nat),(∀{x y:D}{v:V},plN n x=true->plN n y=true->Den X.K H x v->Den X.K H y v->x=y)->∀{xs ys:List D}{vs:List V},xs.all (plN n)=true->ys.all (plN n)=true->DenL X.K H xs vs->DenL X.K H ys vs->xs=ys:=by
  intro n ih xs
  induction xs with
  |nil=>
   intro ys vs _ _ h1 h2;cases (show vs=[] from h1);cases ys with
   |nil=>rfl
   |cons y ys=>obtain⟨_,_,e,_⟩:=h2;cases e
  |cons x xs iht=>
   intro ys vs p1 p2 h1 h2;obtain⟨v,r,rfl,d1,l1⟩:=h1;cases ys with
   |nil=>cases (show v::r=[] from h2)
   |cons y ys=>
    obtain⟨v',r',e,d2,l2⟩:=h2;cases e;simp only[List.all_cons,GS]at p1 p2;rw[ih p1.1 p2.1 d1 d2,iht p1.2 p2.2 l1 l2]
 have clash:∀{p:Addr}{vs ws:List V},SqT X.K H p vs->SqF X.K H p ws->False:=λ{p vs ws} h1 h2=>by
  obtain⟨its,_,t1,_⟩:=I.tuple h1;obtain⟨z,its2,n2,_,_,e2⟩:=I.rdL h2.rd;obtain⟨o,e1,c1,_⟩:=(show s.heap.IsTuple p its.toArray from t1);rw[e2]at e1;cases e1;injection c1 with z;exact absurd z (by decide)
 intro n
 induction n with
 |zero=>
  intro x y v p1 p2 d1 d2;cases x with
  |non=>
   cases (show v=.non from d1);cases y with
   |non=>rfl
   |bl b=>cases (show V.non=.bl b from d2)
   |int b=>cases (show V.non=.int b from d2)
   |str b=>cases (show V.non=.str b from d2)
   |tup es=>cases p2
   |rol es=>cases p2
   |ref a=>cases p2
   |obj _ _ _ _=>cases p2
   |dik _ _=>cases p2
   |dit _ _=>cases p2
  |bl a=>
   cases (show v=.bl a from d1);cases y with
   |non=>cases (show V.bl a=.non from d2)
   |bl b=>cases (show V.bl a=.bl b from d2);rfl
   |int b=>cases (show V.bl a=.int b from d2)
   |str b=>cases (show V.bl a=.str b from d2)
   |tup es=>cases p2
   |rol es=>cases p2
   |ref a=>cases p2
   |obj _ _ _ _=>cases p2
   |dik _ _=>cases p2
   |dit _ _=>cases p2
  |int a=>
   cases (show v=.int a from d1);cases y with
   |non=>cases (show V.int a=.non from d2)
   |bl b=>cases (show V.int a=.bl b from d2)
   |int b=>cases (show V.int a=.int b from d2);rfl
   |str b=>cases (show V.int a=.str b from d2)
   |tup es=>cases p2
   |rol es=>cases p2
   |ref a=>cases p2
   |obj _ _ _ _=>cases p2
   |dik _ _=>cases p2
   |dit _ _=>cases p2
  |str a=>
   cases (show v=.str a from d1);cases y with
   |non=>cases (show V.str a=.non from d2)
   |bl b=>cases (show V.str a=.bl b from d2)
   |int b=>cases (show V.str a=.int b from d2)
   |str b=>cases (show V.str a=.str b from d2);rfl
   |tup es=>cases p2
   |rol es=>cases p2
   |ref a=>cases p2
   |obj _ _ _ _=>cases p2
   |dik _ _=>cases p2
   |dit _ _=>cases p2
  |tup es=>cases p1
  |rol es=>cases p1
  |ref a=>cases p1
  |obj _ _ _ _=>cases p1
  |dik _ _=>cases p1
  |dit _ _=>cases p1
 |succ n ih=>
  intro x y v p1 p2 d1 d2;cases x with
  |non=>
   cases (show v=.non from d1);cases y with
   |non=>rfl
   |bl b=>cases (show V.non=.bl b from d2)
   |int b=>cases (show V.non=.int b from d2)
   |str b=>cases (show V.non=.str b from d2)
   |tup es=>obtain⟨p,vs,e,_⟩:=d2;cases e
   |rol es=>obtain⟨p,vs,e,_⟩:=d2;cases e
   |ref a=>cases p2
   |obj _ _ _ _=>cases p2
   |dik _ _=>cases p2
   |dit _ _=>cases p2
  |bl a=>
   cases (show v=.bl a from d1);cases y with
   |non=>cases (show V.bl a=.non from d2)
   |bl b=>cases (show V.bl a=.bl b from d2);rfl
   |int b=>cases (show V.bl a=.int b from d2)
   |str b=>cases (show V.bl a=.str b from d2)
   |tup es=>obtain⟨p,vs,e,_⟩:=d2;cases e
   |rol es=>obtain⟨p,vs,e,_⟩:=d2;cases e
   |ref a=>cases p2
   |obj _ _ _ _=>cases p2
   |dik _ _=>cases p2
   |dit _ _=>cases p2
  |int a=>
   cases (show v=.int a from d1);cases y with
   |non=>cases (show V.int a=.non from d2)
   |bl b=>cases (show V.int a=.bl b from d2)
   |int b=>cases (show V.int a=.int b from d2);rfl
   |str b=>cases (show V.int a=.str b from d2)
   |tup es=>obtain⟨p,vs,e,_⟩:=d2;cases e
   |rol es=>obtain⟨p,vs,e,_⟩:=d2;cases e
   |ref a=>cases p2
   |obj _ _ _ _=>cases p2
   |dik _ _=>cases p2
   |dit _ _=>cases p2
  |str a=>
   cases (show v=.str a from d1);cases y with
   |non=>cases (show V.str a=.non from d2)
   |bl b=>cases (show V.str a=.bl b from d2)
   |int b=>cases (show V.str a=.int b from d2)
   |str b=>cases (show V.str a=.str b from d2);rfl
   |tup es=>obtain⟨p,vs,e,_⟩:=d2;cases e
   |rol es=>obtain⟨p,vs,e,_⟩:=d2;cases e
   |ref a=>cases p2
   |obj _ _ _ _=>cases p2
   |dik _ _=>cases p2
   |dit _ _=>cases p2
  |tup ds=>
   obtain⟨p,vs,rfl,q1,l1⟩:=d1;cases y with
   |tup es=>
    obtain⟨p',vs',e,q2,l2⟩:=d2;cases e;have e:vs=vs':=by
     obtain⟨its,r1,t1,_⟩:=I.tuple q1;obtain⟨its2,r2,t2,_⟩:=I.tuple q2;obtain⟨o1,e1,c1,n1,f1⟩:=(show s.heap.IsTuple p its.toArray from t1);obtain⟨o2,e2,c2,n2,f2⟩:=(show s.heap.IsTuple p its2.toArray from t2);rw[e1]at e2;cases e2;rw[f1]at f2;have:its=its2:=by injection f2 with z;simpa using z
     subst this;exact r1.inj r2
    subst e;rw[lists n ih (by simpa [plN] using p1) (by simpa [plN] using p2) l1 l2]
   |rol es=>obtain⟨p',vs',e,q2,l2⟩:=d2;cases e;exact (clash q1 q2).elim
   |non=>cases (show V.ref p=.non from d2)
   |bl b=>cases (show V.ref p=.bl b from d2)
   |int b=>cases (show V.ref p=.int b from d2)
   |str b=>cases (show V.ref p=.str b from d2)
   |ref a=>cases p2
   |obj _ _ _ _=>cases p2
   |dik _ _=>cases p2
   |dit _ _=>cases p2
  |rol ds=>
   obtain⟨p,vs,rfl,q1,l1⟩:=d1;cases y with
   |rol es=>
    obtain⟨p',vs',e,q2,l2⟩:=d2;cases e;have e:vs=vs':=by
     obtain⟨_,its,n1,r1,_,e1⟩:=I.rdL q1.rd;obtain⟨_,its2,n2,r2,_,e2⟩:=I.rdL q2.rd;rw[e1]at e2;have:its=its2:=by
      have z:=Hg e2;injection z with z1 z2 z3 z4
      injection z3 with z5 z6
      simpa using z5
     subst this;exact r1.inj r2
    subst e;rw[lists n ih (by simpa [plN] using p1) (by simpa [plN] using p2) l1 l2]
   |tup es=>obtain⟨p',vs',e,q2,l2⟩:=d2;cases e;exact (clash q2 q1).elim
   |non=>cases (show V.ref p=.non from d2)
   |bl b=>cases (show V.ref p=.bl b from d2)
   |int b=>cases (show V.ref p=.int b from d2)
   |str b=>cases (show V.ref p=.str b from d2)
   |ref a=>cases p2
   |obj _ _ _ _=>cases p2
   |dik _ _=>cases p2
   |dit _ _=>cases p2
  |ref a=>cases p1
  |obj _ _ _ _=>cases p1
  |dik _ _=>cases p1
  |dit _ _=>cases p1
theorem jK:∀(n:Nat) {x:D},plN n x=true->eqD x x=true:=by
 have lists:∀(n:Nat),(∀{x:D},plN n x=true->eqD x x=true)->∀{xs:List D},xs.all (plN n)=true->dZ xs xs=true:=by
  intro n ih xs
  induction xs with
  |nil=>intro _;rfl
  |cons x xs iht=>
   intro h;simp only[List.all_cons,GS]at h;simp only[dZ,GS];exact⟨ih h.1,iht h.2⟩
 intro n
 induction n with
 |zero=>
  intro x h;cases x with
  |tup es=>cases h
  |rol es=>cases h
  |ref a=>cases h
  |obj _ _ _ _=>cases h
  |dik _ _=>cases h
  |dit _ _=>cases h
  |_=>simp[eqD]
 |succ n ih=>
  intro x h;cases x with
  |tup es=>simp only[eqD];exact lists n ih (by simpa [plN] using h)
  |rol es=>simp only[eqD];exact lists n ih (by simpa [plN] using h)
  |ref a=>cases h
  |obj _ _ _ _=>cases h
  |dik _ _=>cases h
  |dit _ _=>cases h
  |_=>simp[eqD]
theorem mU{K:Ii}(I:Inv X pins σ H s)(hK:K=X.K)(n:Nat)(p1:plN n x=true)(p2:plN n y=true)(d1:Den K H x v)(d2:Den K H y v):eqD x y=true:=by
 rw[lZ I hK n p1 p2 d1 d2];exact jK n p2
theorem zb(a b:Bool):eqD (.bl a) (.bl b)=(a == b):=by simp[eqD]
theorem zU(a:Bool)(b:Int):eqD (.bl a) (.int b)=((if a then 1 else 0) == b):=by simp[eqD];rfl
theorem zV(a:Int)(b:Bool):eqD (.int a) (.bl b)=(a == (if b then 1 else 0)):=by simp[eqD];rfl
theorem Az(a b:Int):eqD (.int a) (.int b)=(a == b):=by simp[eqD];rfl
theorem As(a b:Str):eqD (.str a) (.str b)=(a == b):=by simp[eqD];rfl
abbrev Eq3(A:Around)(s:Shared)(v u:Value)(k:Bool):Prop:=SeqAt.RcAt A s v u k/\SeqAt.RcNeAt A s v u (!k)/\SeqAt.EqAt A s v u k
inductive Seen (s:Shared):D->Value->Prop where
 |non:Seen s .non .none
 |bl (b:Bool):Seen s (.bl b) (.bool b)
 |int (i:Int) (t:Tok):Seen s (.int i) (.int i t)
 |str (x:Str) (t:Tok):Seen s (.str x) (.str x t)
 |tup {ds:List D}{p:Addr}{its:List Value} (h:s.heap.IsTuple p its.toArray):Seen s (.tup ds) (.ref p)
 |rol {ds:List D}{p:Addr}{its:List Value} (h:s.heap.IsList p its.toArray):Seen s (.rol ds) (.ref p)
theorem iS{X:Cx}(I:Inv X pins σ H s)(p:plN n x=true)(d:Den X.K H x v)(r:RelV v v2):Seen s x v2:=by
 cases x with
 |non=>cases (show v=.non from d);cases r;exact .non
 |bl b=>cases (show v=.bl b from d);cases r;exact .bl b
 |int i=>cases (show v=.int i from d);obtain⟨t,rfl⟩:=r;exact .int i t
 |str i=>cases (show v=.str i from d);obtain⟨t,rfl⟩:=r;exact .str i t
 |tup ds=>
  obtain⟨q,vs,rfl,sq,_⟩:=d;cases r;obtain⟨its,_,t,_⟩:=I.tuple sq;exact .tup (its:=its) t
 |rol ds=>
  obtain⟨q,vs,rfl,sq,_⟩:=d;cases r;obtain⟨its,_,t,_⟩:=I.list sq.sq;exact .rol (its:=its) t.isList
 |ref a=>simp[plN]at p
 |obj _ _ _ _=>simp[plN]at p
 |dik _ _=>simp[plN]at p
 |dit _ _=>simp[plN]at p
theorem tV{A:Around}(hx:Seen s x v)(hy:Seen s y u)(hu:A.units<cLine)(seq:∀ds es,(x=.tup ds/\y=.tup es)\/(x=.rol ds/\y=.rol es)->Eq3 A s v u (eqD x y)):Eq3 A s v u (eqD x y):=by
 cases hx with
 |non=>
  cases hy with
  |non=>exact⟨.none_none,.none_none,.same _⟩
  |bl b=>rw[show eqD (.non) (.bl b)=false by simp[eqD]];exact⟨.none_bool b,.none_bool b,.none_bool b⟩
  |int b tb=>rw[show eqD (.non) (.int b)=false by simp[eqD]];exact⟨.none_int b tb,.none_int b tb,.none_int b tb⟩
  |str b tb=>rw[show eqD (.non) (.str b)=false by simp[eqD]];exact⟨.none_str b tb,.none_str b tb,.none_str b tb⟩
  |@tup es p2 its2 h2=>rw[show eqD (.non) (.tup es)=false by simp[eqD]];exact⟨.none_tuple h2 hu,.none_tuple h2 hu,.none_tuple h2 hu⟩
  |@rol es p2 its2 h2=>rw[show eqD (.non) (.rol es)=false by simp[eqD]];exact⟨.none_list h2 hu,.none_list h2 hu,.none_list h2 hu⟩
 |bl a=>
  cases hy with
  |non=>rw[show eqD (.bl a) (.non)=false by simp[eqD]];exact⟨.bool_none a,.bool_none a,.bool_none a⟩
  |bl b=>rw[zb];exact⟨.bool_bool a b,.bool_bool a b,.bool_bool a b⟩
  |int b tb=>rw[zU];exact⟨.bool_int a b tb,.bool_int a b tb,.bool_int a b tb⟩
  |str b tb=>rw[show eqD (.bl a) (.str b)=false by simp[eqD]];exact⟨.bool_str a b tb,.bool_str a b tb,.bool_str a b tb⟩
  |@tup es p2 its2 h2=>rw[show eqD (.bl a) (.tup es)=false by simp[eqD]];exact⟨.bool_tuple a h2 hu,.bool_tuple a h2 hu,.bool_tuple a h2 hu⟩
  |@rol es p2 its2 h2=>rw[show eqD (.bl a) (.rol es)=false by simp[eqD]];exact⟨.bool_list a h2 hu,.bool_list a h2 hu,.bool_list a h2 hu⟩
 |int a ta=>
  cases hy with
  |non=>rw[show eqD (.int a) (.non)=false by simp[eqD]];exact⟨.int_none a ta,.int_none a ta,.int_none a ta⟩
  |bl b=>rw[zV];exact⟨.int_bool a ta b,.int_bool a ta b,.int_bool a ta b⟩
  |int b tb=>rw[Az];exact⟨.int_int a ta b tb,.int_int a ta b tb,.int_int a ta b tb⟩
  |str b tb=>rw[show eqD (.int a) (.str b)=false by simp[eqD]];exact⟨.int_str a ta b tb,.int_str a ta b tb,.int_str a ta b tb⟩
  |@tup es p2 its2 h2=>rw[show eqD (.int a) (.tup es)=false by simp[eqD]];exact⟨.int_tuple a ta h2 hu,.int_tuple a ta h2 hu,.int_tuple a ta h2 hu⟩
  |@rol es p2 its2 h2=>rw[show eqD (.int a) (.rol es)=false by simp[eqD]];exact⟨.int_list a ta h2 hu,.int_list a ta h2 hu,.int_list a ta h2 hu⟩
 |str a ta=>
  cases hy with
  |non=>rw[show eqD (.str a) (.non)=false by simp[eqD]];exact⟨.str_none a ta,.str_none a ta,.str_none a ta⟩
  |bl b=>rw[show eqD (.str a) (.bl b)=false by simp[eqD]];exact⟨.str_bool a ta b,.str_bool a ta b,.str_bool a ta b⟩
  |int b tb=>rw[show eqD (.str a) (.int b)=false by simp[eqD]];exact⟨.str_int a ta b tb,.str_int a ta b tb,.str_int a ta b tb⟩
  |str b tb=>rw[As];exact⟨.str_str a ta b tb,.str_str a ta b tb,.str_str a ta b tb⟩
  |@tup es p2 its2 h2=>rw[show eqD (.str a) (.tup es)=false by simp[eqD]];exact⟨.str_tuple a ta h2 hu,.str_tuple a ta h2 hu,.str_tuple a ta h2 hu⟩
  |@rol es p2 its2 h2=>rw[show eqD (.str a) (.rol es)=false by simp[eqD]];exact⟨.str_list a ta h2 hu,.str_list a ta h2 hu,.str_list a ta h2 hu⟩
 |@tup ds p its h=>
  cases hy with
  |non=>rw[show eqD (.tup ds) (.non)=false by simp[eqD]];exact⟨.tuple_none h hu,.tuple_none h hu,.tuple_none h hu⟩
  |bl b=>rw[show eqD (.tup ds) (.bl b)=false by simp[eqD]];exact⟨.tuple_bool b h hu,.tuple_bool b h hu,.tuple_bool b h hu⟩
  |int b tb=>rw[show eqD (.tup ds) (.int b)=false by simp[eqD]];exact⟨.tuple_int b tb h hu,.tuple_int b tb h hu,.tuple_int b tb h hu⟩
  |str b tb=>rw[show eqD (.tup ds) (.str b)=false by simp[eqD]];exact⟨.tuple_str b tb h hu,.tuple_str b tb h hu,.tuple_str b tb h hu⟩
  |@tup es p2 its2 h2=>exact seq ds es (.inl ⟨rfl,rfl⟩)
  |@rol es p2 its2 h2=>rw[show eqD (.tup ds) (.rol es)=false by simp[eqD]];exact⟨.tuple_list h h2 hu,.tuple_list h h2 hu,.tuple_list h h2 hu⟩
 |@rol ds p its h=>
  cases hy with
  |non=>rw[show eqD (.rol ds) (.non)=false by simp[eqD]];exact⟨.list_none h hu,.list_none h hu,.list_none h hu⟩
  |bl b=>rw[show eqD (.rol ds) (.bl b)=false by simp[eqD]];exact⟨.list_bool b h hu,.list_bool b h hu,.list_bool b h hu⟩
  |int b tb=>rw[show eqD (.rol ds) (.int b)=false by simp[eqD]];exact⟨.list_int b tb h hu,.list_int b tb h hu,.list_int b tb h hu⟩
  |str b tb=>rw[show eqD (.rol ds) (.str b)=false by simp[eqD]];exact⟨.list_str b tb h hu,.list_str b tb h hu,.list_str b tb h hu⟩
  |@tup es p2 its2 h2=>rw[show eqD (.rol ds) (.tup es)=false by simp[eqD]];exact⟨.list_tuple h h2 hu,.list_tuple h h2 hu,.list_tuple h h2 hu⟩
  |@rol es p2 its2 h2=>exact seq ds es (.inr ⟨rfl,rfl⟩)
theorem Ar{K:Ii}(I:Inv X pins σ H s)(hK:K=X.K):∀(n:Nat) {A:Around}{x y:D}{v u:V}{v2 u2:Value},plN n x=true->plN n y=true->Den K H x v->Den K H y u->RelV v v2->RelV u u2->A.units+n<cLine->
  SeqAt.RcAt A s v2 u2 (eqD x y)/\SeqAt.RcNeAt A s v2 u2 (!eqD x y)/\SeqAt.EqAt A s v2 u2 (eqD x y):=by
 subst hK;have items:∀(n:Nat),(∀{A:Around}{x y:D}{v u:V}{v2 u2:Value},plN n x=true->plN n y=true->Den X.K H x v->Den X.K H y u->RelV v v2->RelV u u2->A.units+n<cLine->
   SeqAt.RcAt A s v2 u2 (eqD x y)/\SeqAt.RcNeAt A s v2 u2 (!eqD x y)/\SeqAt.EqAt A s v2 u2 (eqD x y))->∀{A:Around}{xs ys:List D}{vs us:List V}{its its2:List Value},xs.all (plN n)=true->ys.all (plN n)=true->DenL X.K H xs vs->DenL X.K H ys us->Vals vs its->Vals us its2->A.units+(n+1)<cLine->
   ∀j (h1:j<its.toArray.size)(h2:j<its2.toArray.size),SeqAt.EqAt A.in1 s its.toArray[j] its2.toArray[j] (eqD (xs.getD j .non) (ys.getD j .non)):=by
  intro n ih A xs ys vs us its its2 p1 p2 l1 l2 r1 r2 hu j h1 h2;have h1:j<its.length:=by simpa using h1
  have h2:j<its2.length:=by simpa using h2
  have hx:j<xs.length:=by rw[l1.length,r1.length];exact h1
  have hy:j<ys.length:=by rw[l2.length,r2.length];exact h2
  obtain⟨v,e1,d1⟩:=l1.get (i:=j) (d:=xs[j]) (by simp[hx])
  obtain⟨u,e2,d2⟩:=l2.get (i:=j) (d:=ys[j]) (by simp[hy])
  obtain⟨v2,e3,rv⟩:=r1.get e1;obtain⟨u2,e4,ru⟩:=r2.get e2;have f1:its.toArray[j]=v2:=by
   have:=e3;rw[Hd h1]at this;simpa using this
  have f2:its2.toArray[j]=u2:=by
   have:=e4;rw[Hd h2]at this;simpa using this
  rw[f1,f2];have g1:xs.getD j .non=xs[j]:=by simp[List.getD,hx]
  have g2:ys.getD j .non=ys[j]:=by simp[List.getD,hy]
  rw[g1,g2];exact (ih (Hh.mp p1 _ (HU hx)) (Hh.mp p2 _ (HU hy)) d1 d2 rv ru (by show A.units+1+n<cLine;omega)).2.2
 intro n
 induction n with
 |zero=>
  intro A x y v u v2 u2 p1 p2 d1 d2 r1 r2 hu;refine tV (iS I p1 d1 r1) (iS I p2 d2 r2) (by omega) λds es z=>?_
  rcases z with ⟨rfl,rfl⟩|⟨rfl,rfl⟩<;>cases p1
 |succ n ih=>
  intro A x y v u v2 u2 p1 p2 d1 d2 r1 r2 hu;refine tV (iS I p1 d1 r1) (iS I p2 d2 r2) (by omega) λds es z=>?_
  rcases z with ⟨rfl,rfl⟩|⟨rfl,rfl⟩
  ·obtain⟨p,vs,rfl,q1,l1⟩:=id d1;obtain⟨p',us,rfl,q2,l2⟩:=id d2;cases r1;cases r2;obtain⟨its,v1,t1,_⟩:=I.tuple q1;obtain⟨its2,v2,t2,_⟩:=I.tuple q2;have he:=items n ih (A:=A) (by simpa [plN] using p1) (by simpa [plN] using p2) l1 l2 v1 v2 hu
   have ee:eqD (.tup ds) (.tup es)=((List.range (min its.toArray.size its2.toArray.size)).all (λj=>eqD (ds.getD j .non) (es.getD j .non))&&its.toArray.size == its2.toArray.size):=by
    simp only[eqD];rw[uM,l1.length,v1.length,l2.length,v2.length];rfl
   have rc:=SeqAt.RcAt.tuples (A:=A) t1 t2 (by omega) he
   rw[<-ee]at rc;have rn:=SeqAt.RcNeAt.tuples (A:=A) t1 t2 (by omega) he
   rw[<-ee]at rn;refine⟨rc,rn,?_⟩;by_cases hp:p=p'
   ·subst hp;rw[mU I rfl (n+1) p1 p2 d1 d2];exact .same _
   ·exact .of_refs hp rc
  ·obtain⟨p,vs,rfl,q1,l1⟩:=id d1;obtain⟨p',us,rfl,q2,l2⟩:=id d2;cases r1;cases r2;obtain⟨its,v1,t1,_⟩:=I.list q1.sq;obtain⟨its2,v2,t2,_⟩:=I.list q2.sq;have he:=items n ih (A:=A) (by simpa [plN] using p1) (by simpa [plN] using p2) l1 l2 v1 v2 hu
   have rcn:SeqAt.RcAt A s (.ref p) (.ref p') (eqD (.rol ds) (.rol es))/\SeqAt.RcNeAt A s (.ref p) (.ref p') (!eqD (.rol ds) (.rol es)):=by
    by_cases hl:its.toArray.size=its2.toArray.size
    ·have ee:eqD (.rol ds) (.rol es)=(List.range its.toArray.size).all λj=>eqD (ds.getD j .non) (es.getD j .non):=by
      have e1:ds.length=es.length:=by rw[l1.length,v1.length,l2.length,v2.length];simpa using hl
      simp only[eqD];rw[fx e1,l1.length,v1.length];rfl
     rw[ee];exact⟨.lists t1.isList t2.isList hl (by omega) he,.lists t1.isList t2.isList hl (by omega) he⟩
    ·have ee:eqD (.rol ds) (.rol es)=false:=by
      simp only[eqD];cases q:dZ ds es with
      |false=>rfl
      |true=>
       have:=jM q;rw[l1.length,v1.length,l2.length,v2.length]at this;exact absurd (by simpa using this) hl
     rw[ee];exact⟨.lists_lengths t1.isList t2.isList (by simpa using hl) (by omega),.lists_lengths t1.isList t2.isList (by simpa using hl) (by omega)⟩
   refine⟨rcn.1,rcn.2,?_⟩;by_cases hp:p=p'
   ·subst hp;rw[mU I rfl (n+1) p1 p2 d1 d2];exact .same _
   ·exact .of_refs hp rcn.1
end
def VO(X:Cx)(f:Value->Value->Sem Value)(r:D->D->MH->VK3->Prop):Prop:=
 ∀(pins:List (Addr×Obj)) (s:Shared)(σ:St)(H:Hp)(x y:D)(v u:V)(v2 u2:Value)(M:MH)(Q:VK3)(Q2:VK),Inv X pins σ H s->RelV v v2->RelV u u2->Den X.K H x v->Den X.K H y u->RelM X.K M H->r x y M Q->Back X.K H Q Q2->
  wpAny (model X.prog X.w) X.A (f v2 u2) (EP X pins σ Q2) X.xe s
def VU(X:Cx)(f:Value->Sem Value)(r:D->MH->VK3->Prop):Prop:=
 ∀(pins:List (Addr×Obj)) (s:Shared)(σ:St)(H:Hp)(x:D)(v:V)(v2:Value)(M:MH)(Q:VK3)(Q2:VK),Inv X pins σ H s->RelV v v2->Den X.K H x v->RelM X.K M H->r x M Q->Back X.K H Q Q2->
  wpAny (model X.prog X.w) X.A (f v2) (EP X pins σ Q2) X.xe s
def VC(X:Cx)(f:Value)(r:List D->MH->VK3->Prop):Prop:=
 ∀(pins:List (Addr×Obj)) (s:Shared)(σ:St)(H:Hp)(xs:List D)(vs:List V)(us:List Value)(M:MH)(Q:VK3)(Q2:VK),Inv X pins σ H s->Vals vs us->DenL X.K H xs vs->RelM X.K M H->r xs M Q->Back X.K H Q Q2->
  wpAny (model X.prog X.w) X.A (call f us) (EP X pins σ Q2) X.xe s
section
variable {X:Cx}
theorem VO.of3(h:Op3 X f r):VO X f r:=by
 obtain⟨r2,h2,hl⟩:=h;exact λpins s σ H x y v u v2 u2 M Q Q2 I rv ru dx dy rm q back=>h2 pins s σ H v u v2 u2 Q2 I rv ru (hl H x y v u M Q Q2 dx dy rm q back)
theorem VU.of3(h:Un3 X f r):VU X f r:=by
 obtain⟨r2,h2,hl⟩:=h;exact λpins s σ H x v v2 M Q Q2 I rv dx rm q back=>h2 pins s σ H v v2 Q2 I rv (hl H x v M Q Q2 dx rm q back)
theorem VC.of3(h:qB X f r):VC X f r:=by
 obtain⟨r2,h2,hl⟩:=h;exact λpins s σ H xs vs us M Q Q2 I rv dx rm q back=>h2 pins s σ H vs us Q2 I rv (hl H xs vs M Q Q2 dx rm q back)
theorem VO.imp(h:VO X f r)(g:∀x y M Q,r' x y M Q->r x y M Q):VO X f r':=
 λpins s σ H x y v u v2 u2 M Q Q2 I rv ru dx dy rm q back=>h pins s σ H x y v u v2 u2 M Q Q2 I rv ru dx dy rm (g x y M Q q) back
theorem VU.imp(h:VU X f r)(g:∀x M Q,r' x M Q->r x M Q):VU X f r':=
 λpins s σ H x v v2 M Q Q2 I rv dx rm q back=>h pins s σ H x v v2 M Q Q2 I rv dx rm (g x M Q q) back
theorem VC.imp(h:VC X f r)(g:∀x M Q,r' x M Q->r x M Q):VC X f r':=
 λpins s σ H x v v2 M Q Q2 I rv dx rm q back=>h pins s σ H x v v2 M Q Q2 I rv dx rm (g x M Q q) back
theorem gX(h:rI2 g x y M Q):lV g x y M Q:=by
 unfold rI2 at h;split at h
 ·exact⟨_,_,rfl,rfl,h⟩
 ·exact h.elim
theorem mw(h:rII C g x y M Q):rI3 C g x y M Q:=by
 unfold rII at h;split at h
 ·exact⟨_,_,rfl,rfl,h⟩
 ·exact h.elim
theorem wF{s:Shared}{ws:List Value}(ht:IsTup s.heap t #[])(hb:IsTup s.heap b ws.toArray)(h:Q (.ref b) s):wpAny (model prog w) A (binaryOp .Add (.ref t) (.ref b)) Q E s:=by
 obtain⟨⟨cls,dd,data,sl⟩,ho,hc,n,hd⟩:=id ht;obtain⟨⟨cls2,dd2,data2,sl2⟩,ho2,hc2,n2,hd2⟩:=id hb;simp only at hc hd hc2 hd2;subst hc hd hc2 hd2;exact concat_meets ⟨_,ho,rfl⟩ ⟨_,ho2,rfl⟩ noFill_tuple_add seq_tuple_add PySem.F.slot_tuple_add PySem.F.entry_tuple_add (PySem.F.args_tuple_add_2 _ _) (tuple_addW0 t b #[] ws.toArray n n2 dd dd2 sl sl2 rfl) ⟨ho,ho2,h⟩
theorem qj{a b:List D}(I:Inv X pins σ H s)(rv:RelV v v2)(ru:RelV u u2)(dx:Den X.K H (.tup a) v)(dy:Den X.K H (.tup b) u)(rm:RelM X.K M H)
  (q:a.length+b.length<=sizeLine/\Q (.tup (a++b)) M) (back:Back X.K H Q Q2):wpAny (model X.prog X.w) X.A (binaryOp .Add v2 u2) (EP X pins σ Q2) X.xe s:=by
 obtain⟨p1,vs,rfl,sq1,dl1⟩:=dx;obtain⟨p2,us,rfl,sq2,dl2⟩:=dy;obtain⟨h2,q⟩:=q;by_cases h1:a=[]
 ·subst h1;cases (show vs=[] from dl1);cases rv;cases ru;obtain⟨its,r1,p1',_⟩:=I.tuple sq1;obtain⟨its2,r2,p2',_⟩:=I.tuple sq2;cases r1;exact wF p1' p2' ⟨.ref p2,H,I,rfl,back _ _ (.tup b) _ ⟨p2,us,rfl,sq2,dl2⟩ rm (.refl _) q⟩
 refine wB pins s σ H _ _ v2 u2 Q2 I rv ru ⟨p1,p2,vs,us,rfl,rfl,sq1,sq2,λz=>?_,by rw[<-dl1.length,<-dl2.length];exact h2,λz=>?_,λ_ p hp=>?_⟩
 ·have:=dl1.length;rw[z]at this;cases a with
  |nil=>exact h1 rfl
  |cons _ _=>cases this
 ·have hb:b=[]:=List.length_eq_zero_iff.mp (by rw[dl2.length,z];rfl)
  subst hb;rw[HM]at q;exact back _ _ (.tup a) _ ⟨p1,vs,rfl,sq1,dl1⟩ rm (.refl _) q
 ·exact back _ _ (.tup (a++b)) _ ⟨p,_,rfl,.of ae,(dl1.append dl2).mono (.new hp)⟩ (rm.grow hp) (.new hp) q
theorem nh(a:Array α):∀(k:Nat)(b:Array α),((List.replicate k a).foldl (·++·) b).size=b.size+k*a.size
 |0,b=>by simp
 |k+1,b=>by
  rw[List.replicate_succ,List.foldl_cons,nh a k,Array.size_append,Nat.succ_mul];omega
theorem uh{z:Str}(n0:0<=n)(n1:n<=100000)(hz:z.length<=10)
  (h:∀t' tk,Q (.str (lC z n) t') {s with toks:=tk}):wpAny (model prog w) A (binaryOp .Mult (.str z t) (.int n u)) Q E s:=by
 have e1:decide (n < -(2 ^ 63:Int))=false:=Hw (by omega)
 have e2:decide (n>=2 ^ 63)=false:=Hw (by omega)
 refine PySem.P.mul_str (by rw[e1,e2];rfl) (λh1 h2=>?_) (λh1 h2=>?_) ?_
 ·have:(2 ^ 63-1) / n>=10:=by
   rw[ge_iff_le,Int.le_ediv_iff_mul_le (by omega)]
   omega
  omega
 ·have hl:z.length*n.toNat<=10*100000:=Nat.mul_le_mul hz (by omega)
  unfold Builtin.Str.tooLong;exact Hw (by rw[sizeLine_eq];omega)
 ·unfold lC at h;split
  ·rename_i hn;rw[G3 hn]at h;exact⟨by decide,h _ _⟩
  ·rename_i hn;rw[GV hn]at h;split
   ·rename_i hb;rw[G3 hb]at h;exact h _ _
   ·rename_i hb;rw[GV hb]at h;refine⟨?_,h _ _⟩;show ((List.replicate n.toNat z.cps).foldl (·++·) #[]).size<=sizeLine;rw[nh];have hl:n.toNat*z.cps.size<=100000*10:=Nat.mul_le_mul (by omega) hz
    rw[sizeLine_eq];simp;omega
theorem zA(op:Operator):VO X (binaryOp op) (jZ op):=by
 cases op with
 |Add=>
  intro pins s σ H x y v u v2 u2 M Q Q2 I rv ru dx dy rm q back;have q':tO x y M Q:=q;clear q;unfold tO at q';split at q'
  ·exact VO.of3 A4 pins s σ H _ _ v u v2 u2 M Q Q2 I rv ru dx dy rm ⟨_,_,rfl,rfl,q'⟩ back
  ·rename_i a b;cases (show v=.str a from dx);cases (show u=.str b from dy);exact pq pins s σ H _ _ v2 u2 Q2 I rv ru ⟨a,b,rfl,rfl,q'.1,back _ _ _ _ iU rm (.refl _) q'.2⟩
  ·exact qj I rv ru dx dy rm q' back
  ·exact q'.elim
 |Sub=>exact (VO.of3 Cj).imp λ_ _ _ _ h=>gX h
 |Mult=>
  intro pins s σ H x y v u v2 u2 M Q Q2 I rv ru dx dy rm q back;have q':ud x y M Q:=q;clear q;unfold ud at q';split at q'
  ·exact VO.of3 Cn pins s σ H _ _ v u v2 u2 M Q Q2 I rv ru dx dy rm ⟨_,_,rfl,rfl,q'⟩ back
  ·rename_i z n;cases (show v=.str z from dx);cases (show u=.int n from dy);obtain⟨t,rfl⟩:=rv;obtain⟨t',rfl⟩:=ru;obtain⟨⟨n0,n1,hz⟩,q'⟩:=q';exact eN I.tk <| uh n0 n1 hz λt2 tk _=>⟨.str (lC z n),H,I.tok _,⟨_,rfl⟩,back _ _ _ _ iU rm (.refl _) q'⟩
  ·exact q'.elim
 |FloorDiv=>exact (VO.of3 zl).imp λ_ _ _ _ h=>mw h
 |Mod=>exact (VO.of3 AV).imp λ_ _ _ _ h=>mw h
 |Pow=>exact (VO.of3 B5).imp λ_ _ _ _ h=>mw h
 |RShift=>exact (VO.of3 Cp).imp λ_ _ _ _ h=>mw h
 |BitAnd=>exact (VO.of3 B9).imp λ_ _ _ _ h=>gX h
 |_=>exact λpins s σ H x y v u v2 u2 M Q Q2 I rv ru dx dy rm q back=>False.elim q
theorem Am:VU X (unaryOp .USub) rNeg:=(VU.of3 Bk).imp λx M Q h=>by
 unfold rNeg at h;split at h
 ·exact⟨_,rfl,h⟩
 ·exact h.elim
theorem yu(fz:Bool):VO X (binaryOp .Add) (jV fz):=by
 intro pins s σ H x y v u v2 u2 M Q Q2 I rv ru dx dy rm q back;unfold jV at q;split at q
 next a b ea eb=>
  obtain⟨l,xs,rfl,hH,dl⟩:=bg rm ea dx;obtain⟨b',zs,rfl,hB,dl2⟩:=bg rm eb dy;cases rv;cases ru;obtain⟨z,its,n,r,hl,e⟩:=I.rdL hH;obtain⟨z2,its2,n2,r2,hl2,e2⟩:=I.rdL hB;have hlen:xs.length+zs.length<=sizeLine:=by
   have:=q.1;rw[Hu,dl.length,dl2.length]at this;exact this
  refine PySem.P.add_list e e2 ?_ (by rw[G7,G7];omega)
  have ea:its.toArray++its2.toArray=(its++its2).toArray:=by simp
  rw[ea];exact de (I.lnew (t':=s.toks) (r.append r2) (by rw[Hu];omega)) I.fresh (dl.append dl2) rm (.refl _) q back
 next=>
  split at q
  ·exact qj I rv ru dx dy rm q back
  ·exact q.elim
theorem xy{K:Ii}(rm:RelM K M H)(dx:Den K H x v)(hp:pl (res M x)=true) :
  (∃a ds,x=.ref a/\M a=some (.lst ds)/\res M x=.rol ds)\/(res M x=x):=by
 cases x with
 |ref a=>
  cases e:M a with
  |none=>
   have:res M (.ref a)=.ref a:=by simp[res,ai,e]
   rw[this]at hp;simp[plN]at hp
  |some o=>
   cases o with
   |lst ds=>exact .inl ⟨a,ds,rfl,e,by simp[res,ai,e]⟩
   |_=>
    have:res M (.ref a)=.ref a:=by simp[res,ai,e]
    rw[this]at hp;simp[plN]at hp
 |rol ds=>exact .inr rfl
 |_=>exact .inr rfl
theorem m8(I:Inv X pins σ H s)(rm:RelM X.K M H)(dx:Den X.K H x v)(hp:pl (res M x)=true) :
  ∃H',Inv X pins σ H' s/\TM X.K H H'/\Den X.K H' (res M x) v:=by
 rcases xy rm dx hp with ⟨a,ds,rfl,q,e⟩|e
 ·obtain⟨vs,e1,l⟩:=rm a _ q;obtain⟨o,I2⟩:=I.freeze e1;refine⟨_,I2,.freeze e1,?_⟩;rw[e];cases (show v=.ref a from dx);exact fq l e1
 ·rw[e];exact⟨H,I,.refl _,dx⟩
def lS(K:Ii)(M:MH)(H:Hp):Prop:=∀a ds,M a=some (.lst ds)->∃vs,(H a=some (.lst vs)\/∃o,H a=some (.frz o (.lst vs)))/\DenL K H ds vs
theorem RelM.z{K:Ii}(rm:RelM K M H):lS K M H:=λa ds q=>by
 obtain⟨vs,e,l⟩:=rm a _ q;exact⟨vs,.inl e,l⟩
theorem CM(I:Inv X pins σ H s)(rz:lS X.K M H)(q:M a=some (.lst ds)) :
  ∃H',Inv X pins σ H' s/\TM X.K H H'/\lS X.K M H'/\∃vs,SqF X.K H' a vs/\DenL X.K H' ds vs/\DenL X.K H ds vs:=by
 obtain⟨vs,e|⟨o,e⟩,l⟩:=rz a ds q
 ·obtain⟨o,I2⟩:=I.freeze e;have t:TM X.K H (upd H a (.frz o (.lst vs))):=.freeze e;refine⟨_,I2,t,λb es qb=>?_,vs,.inl ⟨o,ae⟩,l.mono t,l⟩
  obtain⟨us,e2,l2⟩:=rz b es qb;by_cases hb:b=a
  ·subst hb;rw[q]at qb;cases qb;exact⟨vs,.inr ⟨o,ae⟩,l.mono t⟩
  ·refine⟨us,?_,l2.mono t⟩;rw[ac hb];exact e2
 ·exact⟨H,I,.refl _,rz,vs,.inl ⟨o,e⟩,l,l⟩
theorem AT(I:Inv X pins σ H s)(rz:lS X.K M H)(dx:Den X.K H x v) :
  ∃H',Inv X pins σ H' s/\TM X.K H H'/\lS X.K M H'/\Den X.K H' (res M x) v:=by
 cases x with
 |ref a=>
  cases e:M a with
  |none=>
   have:res M (.ref a)=.ref a:=by simp[res,ai,e]
   rw[this];exact⟨H,I,.refl _,rz,dx⟩
  |some o=>
   cases o with
   |lst ds=>
    obtain⟨H',I2,t,rz2,vs,sq,l,_⟩:=CM I rz e;have:res M (.ref a)=.rol ds:=by simp[res,ai,e]
    rw[this];exact⟨H',I2,t,rz2,a,vs,dx,sq,l⟩
   |_=>
    have:res M (.ref a)=.ref a:=by simp[res,ai,e]
    rw[this];exact⟨H,I,.refl _,rz,dx⟩
 |rol ds=>exact⟨H,I,.refl _,rz,dx⟩
 |_=>exact⟨H,I,.refl _,rz,dx⟩
theorem ux:∀{ds:List D}{vs:List V}{H:Hp},Inv X pins σ H s->lS X.K M H->DenL X.K H ds vs->
  ∃H',Inv X pins σ H' s/\TM X.K H H'/\lS X.K M H'/\DenL X.K H' (ds.map (res M)) vs
 |[],vs,H,I,rz,dl=>⟨H,I,.refl _,rz,dl⟩
 |d::ds,vs,H,I,rz,dl=>by
  obtain⟨v,r,rfl,dv,dr⟩:=dl;obtain⟨H1,I1,t1,rz1,d1⟩:=AT I rz dv;obtain⟨H2,I2,t2,rz2,d2⟩:=ux I1 rz1 (dr.mono t1);exact⟨H2,I2,t1.trans t2,rz2,v,r,rfl,d1.mono t2,d2⟩
theorem xD(I:Inv X pins σ H s)(rz:lS X.K M H)(dx:Den X.K H x v) :
  ∃H',Inv X pins σ H' s/\TM X.K H H'/\lS X.K M H'/\Den X.K H' (rs M x) v:=by
 cases x with
 |ref a=>
  cases e:M a with
  |none=>
   have:rs M (.ref a)=.ref a:=by simp[rs,ai,e]
   rw[this];exact⟨H,I,.refl _,rz,dx⟩
  |some o=>
   cases o with
   |lst ds=>
    have:rs M (.ref a)=.rol (if pls ds=true then ds else ds.map (res M)):=by simp[rs,ai,e]
    rw[this];obtain⟨H',I2,t,rz2,vs,sq,l,_⟩:=CM I rz e;split
    ·exact⟨H',I2,t,rz2,a,vs,dx,sq,l⟩
    ·obtain⟨H3,I3,t3,rz3,l3⟩:=ux I2 rz2 l;exact⟨H3,I3,t.trans t3,rz3,a,vs,dx,t3.f _ _ sq,l3⟩
   |_=>
    have:rs M (.ref a)=.ref a:=by simp[rs,ai,e]
    rw[this];exact⟨H,I,.refl _,rz,dx⟩
 |rol ds=>
  have:rs M (.rol ds)=.rol (if pls ds=true then ds else ds.map (res M)):=by simp[rs,ai]
  rw[this];split
  ·exact⟨H,I,.refl _,rz,dx⟩
  ·obtain⟨p,vs,e,sq,l⟩:=dx;obtain⟨H3,I3,t3,rz3,l3⟩:=ux I rz l;exact⟨H3,I3,t3,rz3,p,vs,e,t3.f _ _ sq,l3⟩
 |_=>exact⟨H,I,.refl _,rz,dx⟩
theorem B1(I:Inv X pins σ H s)(rm:RelM X.K M H)(dx:Den X.K H x v)(dy:Den X.K H y u) :
  ∃H',Inv X pins σ H' s/\Den X.K H' (rs M x) v/\Den X.K H' (rs M y) u:=by
 obtain⟨H1,I1,t1,rz1,d1⟩:=xD I rm.z dx;obtain⟨H2,I2,t2,rz2,d2⟩:=xD I1 rz1 (dy.mono t1);exact⟨H2,I2,d1.mono t2,d2⟩
theorem xJ(hu:X.A.units+64<cLine)(neg:Bool):VO X (compareOp (if neg=true then .NotEq else .Eq)) (j3 neg):=by
 intro pins s σ H x y v u v2 u2 M Q Q2 I rv ru dx dy rm q back;obtain⟨h1,h2,q⟩:=q;obtain⟨H',I',d1,d2⟩:=B1 I rm dx dy;obtain⟨rc,rn,_⟩:=Ar I' rfl 8 (A:=X.A) h1 h2 d1 d2 rv ru (by omega)
 have fin:=back _ _ _ _ (bb (K:=X.K) (H:=H)) rm (.refl _) q;cases neg with
 |true=>
  refine rn _ _ _ _ ⟨.bl _,H,I,rfl,?_⟩;rw[Bool.true_xor]at fin;exact fin
 |false=>
  refine rc _ _ _ _ ⟨.bl _,H,I,rfl,?_⟩;rw[Bool.false_xor]at fin;exact fin
end
section
variable {K:Ii}
theorem fS[DecidableEq κ]:∀{ks:List κ}{ds:List D}{vs:List V}{k:κ},DenL K H ds vs->ks.length=vs.length->
  (∀d,getD ks ds k=some d->∃v,cK (ks.zip vs) k=some v/\Den K H d v)/\(getD ks ds k=none->cK (ks.zip vs) k=none)
 |[],_,vs,k,_,_=>⟨λd e=>by simp[getD]at e,λ_=>by simp[cK]⟩
 |q::ks,[],vs,k,dl,hl=>by cases (show vs=[] from dl);cases hl
 |q::ks,d0::ds,_,k,dl,hl=>by
  obtain⟨v,r,rfl,dv,dl⟩:=dl;have ih:=fS (ks:=ks) (k:=k) dl (by simpa using hl)
  by_cases z:q=k
  ·refine⟨λd e=>?_,λe=>?_⟩
   ·simp only[getD,G3 z]at e;cases e;exact⟨v,eP (p:=(q,v)) z,dv⟩
   ·simp only[getD,G3 z]at e;cases e
  ·refine⟨λd e=>?_,λe=>?_⟩
   ·simp only[getD,GV z]at e;obtain⟨w,h1,h2⟩:=ih.1 d e;exact⟨w,(dh (p:=(q,v)) z).trans h1,h2⟩
   ·simp only[getD,GV z]at e;exact (dh (p:=(q,v)) z).trans (ih.2 e)
theorem i9(h:lO y=some k)(d:Den K H y u):u=kV k:=by
 cases y with
 |int i=>cases (show some (Sum.inl i)=some k from h);exact d
 |str x=>cases (show some (Sum.inr x)=some k from h);exact d
 |_=>cases h
theorem kD:∀{es:List D}{vs:List V}{k:List Int},dP es=some k->DenL K H es vs->vs=k.map V.int
 |[],vs,k,h,dl=>by cases (show some []=some k from h);exact dl
 |d::es,_,k,h,dl=>by
  obtain⟨v,r,rfl,dv,dl⟩:=dl;cases d with
  |int i=>
   simp only[dP]at h;split at h
   ·rename_i ns q;cases h;rw[kD q dl];cases (show v=.int i from dv);rfl
   ·cases h
  |_=>cases h
theorem jj{k:List Int}(h:iK y=some k)(d:Den K H y u):∃b,u=.ref b/\SqT K H b (k.map V.int):=by
 cases y with
 |tup es=>
  obtain⟨b,vs,e,sq,dl⟩:=d;refine⟨b,e,?_⟩;rw[<-kD h dl];exact sq
 |_=>cases h
theorem nM{ks:List Key}(h:gA M x=some (ks,ds))(rm:RelM K M H)(d:Den K H x v):∃p vs,v=.ref p/\Rd H p (.dK (ks.zip vs))/\ks.length=vs.length/\DenL K H ds vs:=by
 cases x with
 |dik ks' ds'=>
  cases h;obtain⟨p,vs,o,rfl,e,hl,dl⟩:=d;exact⟨p,vs,rfl,.inr ⟨o,e⟩,hl,dl⟩
 |ref a=>
  simp only[gA]at h;split at h
  ·rename_i q;cases h;obtain⟨vs,e,hl,dl⟩:=rm a _ q;exact⟨a,vs,d,.inl e,hl,dl⟩
  ·cases h
 |_=>cases h
theorem gu(h:gO M x=some (ks,ds))(rm:RelM K M H)(d:Den K H x v):∃p vs xs,v=.ref p/\Rd H p (.ext (aV p xs))/\TabOk K H p ks xs vs/\DenL K H ds vs:=by
 cases x with
 |dit ks' ds'=>
  cases h;obtain⟨p,vs,o,xs,rfl,e,z,dl⟩:=d;exact⟨p,vs,xs,rfl,.inr ⟨o,e⟩,z,dl⟩
 |ref a=>
  simp only[gO]at h;split at h
  ·rename_i q;cases h;obtain⟨vs,xs,e,z,dl⟩:=rm a _ q;exact⟨a,vs,xs,d,.inl e,z,dl⟩
  ·cases h
 |_=>cases h
theorem TabOk.len{ks:List (List Int)}{vs:List V}(z:TabOk K H a ks xs vs):ks.length=vs.length:=by
 rw[<-z.kx,G8,z.vx.length,G8]
theorem di:∀{xs:List (List Int×Addr×Value)}{vs:List V} (k:List Int),Vals vs (xs.map (·.2.2))->RelO (cK ((xs.map (·.1)).zip vs) k) ((atKey xs k).map (·.2))
 |[],vs,k,r=>by cases r;exact True.intro
 |x::xs,vs,k,r=>by
  rw[G6]at r;cases r with
  |@cons v _ vs _ h t=>
   have ih:=di k t;by_cases e:x.1=k
   ·have b:atKey (x::xs) k=some x.2:=by simp[atKey,HL,e]
    rw[G6,List.zip_cons_cons,eP (p:=(x.1,v)) e,b];exact h
   ·have b:atKey (x::xs) k=atKey xs k:=by simp[atKey,HL,e]
    rw[G6,List.zip_cons_cons,dh (p:=(x.1,v)) e,b];exact ih
end
inductive DRd (X:Cx) (H:Hp) (a:Addr) (u:V):Option V->Prop where
 |k {kvs:List (Key×V)}{k:Key} (e:Rd H a (.dK kvs)) (hu:u=kV k):DRd X H a u (cK kvs k)
 |t {ks:List (List Int)}{xs:List (List Int×Addr×Value)}{vs:List V}{k:List Int}{b:Addr} (e:Rd H a (.ext (aV a xs))) (z:TabOk X.K H a ks xs vs) (hu:u=.ref b) (sq:SqT X.K H b (k.map V.int)):DRd X H a u (cK (ks.zip vs) k)
def OptDen(K:Ii)(H:Hp):Option D->Option V->Prop
 |some d,some v=>Den K H d v
 |none,none=>True
 |_,_=>False
theorem gw{X:Cx}(h:gQ M x y=some o)(rm:RelM X.K M H)(dx:Den X.K H x v)(dy:Den X.K H y u):∃a ov,v=.ref a/\DRd X H a u ov/\OptDen X.K H o ov:=by
 unfold gQ at h;split at h
 ·rename_i ks ds e;split at h
  ·rename_i k ek;cases h;obtain⟨p,vs,rfl,rd,hl,dl⟩:=nM e rm dx;refine⟨p,_,rfl,.k rd (i9 ek dy),?_⟩;have g:=fS (k:=k) dl hl;cases q:getD ks ds k with
   |none=>rw[g.2 q];exact True.intro
   |some d=>obtain⟨w,h1,h2⟩:=g.1 d q;rw[h1];exact h2
  ·cases h
 ·split at h
  ·rename_i ks ds e;split at h
   ·rename_i k ek;cases h;obtain⟨p,vs,xs,rfl,rd,z,dl⟩:=gu e rm dx;obtain⟨b,hb,sq⟩:=jj ek dy;refine⟨p,_,rfl,.t rd z hb sq,?_⟩;have g:=fS (k:=k) dl z.len;cases q:getD ks ds k with
    |none=>rw[g.2 q];exact True.intro
    |some d=>obtain⟨w,h1,h2⟩:=g.1 d q;rw[h1];exact h2
   ·cases h
  ·cases h
section
variable {X:Cx}{s:Shared}{o:Option V}{A:Around}
theorem jA:∀{ks:List Int}{us:List Value},Vals (ks.map V.int) us->ItemsAre (intKind P w) ks us
 |[],_,r=>by rw[List.map_nil]at r;cases r;exact .nil
 |k::ks,_,r=>by
  rw[G6]at r;cases r with
  |cons h t=>
   obtain⟨tk,rfl⟩:=h;exact .cons (by show Value.isInt k (.int k tk)=true;simp[Value.isInt]) (jA t)
theorem dS{k:List Int}(I:Inv X pins σ H s)(sq:SqT X.K H b (k.map V.int)):(tupleKind (intKind X.prog X.w)).is s.heap k b:=by
 obtain⟨its,r,⟨o,e,c,n,d⟩,_⟩:=I.tuple sq;exact⟨o,its.toArray,n,e,c,d,by simpa using jA r⟩
theorem bV(I:Inv X pins σ H s)(e:Rd H a (.ext (aV a xs)))(z:TabOk X.K H a ks xs vs):s.heap.DictOfH (tupleKind (intKind X.prog X.w)) a xs:=by
 obtain⟨⟨ob,es,ep,h1,h2,h3,h4⟩,_⟩:=(show ObjOk X.prog X.w H s.heap a (.ext (aV a xs)) from e.ok I.hok);exact⟨ob,es,ep,h1,h2,h3,h4,λx hx=>dS I (z.at_ x hx),by rw[z.kx];exact z.nd⟩
theorem DRd.isDict(I:Inv X pins σ H s)(g:DRd X H a y o):s.TypeIs (.ref a) "dict":=by
 cases g with
 |k e _=>obtain⟨_,_,vs,_,dd⟩:=ir I.hok e;exact dd.typeIs
 |t e z _ _=>exact (bV I e z).typeIs
theorem qS(hu:A.units+1<cLine)(I:Inv X pins σ H s)(g:DRd X H a y o)(ho:o=some v)(ry:RelV y u)(h:∀w' s',Inv X pins σ H s'->RelV v w'->Q w' s') :
  wpAny (model X.prog X.w) A (getItem (.ref a) u) Q E s:=by
 cases g with
 |k e hk=>exact qV hu I (.inl ⟨_,_,e,hk,ho.symm⟩) ry h
 |@t ks xs vs k b e z hb sq=>
  subst hb;cases (show u=Value.ref b from ry);have dd:=bV I e z;have rel:=di (vs:=vs) k z.vx;rw[z.kx]at rel;obtain⟨w',hw,rw'⟩:=RelO.some_of (v:=v) (o:=(atKey xs k).map (·.2)) (by rw[<-ho];exact rel)
  obtain⟨p,hp,hp2⟩:=Option.map_eq_some_iff.mp hw;refine wpAny_getItem_heap (HA hu) (dS I sq) dd hp ?_;rw[hp2];exact h w' _ (I.tok _) rw'
theorem EU(neg:Bool)(hu:A.units+1<cLine)(I:Inv X pins σ H s)(g:DRd X H a y o)(ry:RelV y u)(h:∀s',Inv X pins σ H s'->Q (.bool (neg ^^ o.isSome)) s') :
  wpAny (model X.prog X.w) A (compareOp (if neg=true then .NotIn else .In) u (.ref a)) Q E s:=by
 cases g with
 |k e hk=>
  cases neg with
  |true=>exact wY hu I (.inl ⟨_,_,e,hk,rfl⟩) ry λs' I'=>by have:=h s' I';rw[Bool.true_xor]at this;exact this
  |false=>exact Ff hu I (.inl ⟨_,_,e,hk,rfl⟩) ry λs' I'=>by have:=h s' I';rw[Bool.false_xor]at this;exact this
 |@t ks xs vs k b e z hb sq=>
  subst hb;cases (show u=Value.ref b from ry);have dd:=bV I e z;have rel:=di (vs:=vs) k z.vx;rw[z.kx]at rel;have q:=rel.isSome_eq;rw[Option.isSome_map]at q;rw[q]at h;cases neg with
  |true=>
   refine wpAny_notIn_heap (HA hu) (dS I sq) z.no dd ?_;have:=h _ (I.tok (s.toks+(tupleKind (intKind X.prog X.w)).draws k));rw[Bool.true_xor]at this;exact this
  |false=>
   refine wpAny_in_heap (HA hu) (dS I sq) z.no dd ?_;have:=h _ (I.tok (s.toks+(tupleKind (intKind X.prog X.w)).draws k));rw[Bool.false_xor]at this;exact this
theorem zm(hu:A.units+1<cLine)(I:Inv X pins σ H s)(g:DRd X H a y o)(ry:RelV y u)(h:∀w' s',Inv X pins σ H s'->RelV (o.getD .non) w'->Q w' s') :
  wpAny (model X.prog X.w) A (call (.builtin "dict.get") [.ref a,u]) Q E s:=by
 cases g with
 |k e hk=>exact zu hu I (.inl ⟨_,_,e,hk,rfl⟩) ry h
 |@t ks xs vs k b e z hb sq=>
  subst hb;cases (show u=Value.ref b from ry);have dd:=bV I e z;have rel:=di (vs:=vs) k z.vx;rw[z.kx]at rel;exact call_meetsIn PySem.F.slot_dict_get dd.typeIs PySem.F.entry_dict_get (PySem.F.args_dict_get_2 _ _) (meetsH_dict_get (tupleKind (intKind X.prog X.w)) a b z.no) ⟨HA hu,k,xs,dS I sq,dd,h _ _ (I.tok _) (rel.getD rfl)⟩
theorem zc(hu:A.units+1<cLine)(I:Inv X pins σ H s)(g:DRd X H a y o)(ry:RelV y u)(rd:RelV d r)(h:∀w' s',Inv X pins σ H s'->RelV (o.getD d) w'->Q w' s') :
  wpAny (model X.prog X.w) A (call (.builtin "dict.get") [.ref a,u,r]) Q E s:=by
 cases g with
 |k e hk=>exact ye hu I (.inl ⟨_,_,e,hk,rfl⟩) ry rd h
 |@t ks xs vs k b e z hb sq=>
  subst hb;cases (show u=Value.ref b from ry);have dd:=bV I e z;have rel:=di (vs:=vs) k z.vx;rw[z.kx]at rel;exact call_meetsIn PySem.F.slot_dict_get dd.typeIs PySem.F.entry_dict_get (PySem.F.args_dict_get_3 _ _ _) (meetsH_dict_get_default (tupleKind (intKind X.prog X.w)) a b z.no r) ⟨HA hu,k,xs,dS I sq,dd,h _ _ (I.tok _) (rel.getD rd)⟩
end
section
variable {K:Ii}
theorem rF[DecidableEq κ]{l:List (κ×V)}:c5 ((q,w)::l) k v=if q=k then (q,v)::l.map (λkv=>if kv.1=k then (kv.1,v) else kv) else (q,w)::c5 l k v:=by
 unfold c5;by_cases e:q=k
 ·simp[e]
 ·by_cases g:(l.any λkv=>decide (kv.1=k))=true
  ·simp[e,g]
  ·simp[e,g]
theorem mK[DecidableEq κ]:∀{ks:List κ}{vs:List V},¬ k∈ks->(ks.zip vs).map (λkv=>if kv.1=k then (kv.1,v) else kv)=ks.zip vs
 |[],_,_=>by simp
 |q::ks,[],_=>by simp
 |q::ks,w::vs,h=>by
  have hq:¬ q=k:=λz=>h (by simp[z])
  have ih:=mK (k:=k) (v:=v) (ks:=ks) (vs:=vs) λm=>h (GY _ m)
  simp only[List.zip_cons_cons,G6,GV hq,ih]
theorem iY[DecidableEq κ]:∀{ks:List κ}{ds:List D}{vs:List V}{k:κ}{y:D}{v:V},ks.Nodup->DenL K H ds vs->ks.length=vs.length->Den K H y v->
  ∃vs',c5 (ks.zip vs) k v=(aj ks k).zip vs'/\(aj ks k).length=vs'.length/\DenL K H (ak ks ds k y) vs'
 |[],ds,vs,k,y,v,_,dl,hl,dy=>by
  cases vs with
  |nil=>exact⟨[v],rfl,rfl,by unfold ak;exact .one dy⟩
  |cons _ _=>cases hl
 |q::ks,[],vs,k,y,v,_,dl,hl,dy=>by cases (show vs=[] from dl);cases hl
 |q::ks,d::ds,_,k,y,v,nd,dl,hl,dy=>by
  obtain⟨w,r,rfl,dw,dl⟩:=dl;obtain⟨n1,n2⟩:=HK.mp nd;rw[List.zip_cons_cons,rF];by_cases e:q=k
  ·subst e;rw[G3 rfl,mK n1];refine⟨v::r,?_,?_,?_⟩
   ·simp[aj]
   ·simpa [aj] using hl
   ·simp only[ak,G3];exact .cons dy dl
  ·rw[GV e];obtain⟨vs',h1,h2,h3⟩:=iY (k:=k) (v:=v) n2 dl (by simpa using hl) dy
   refine⟨w::vs',?_,?_,?_⟩
   ·simp[aj,GV e,h1]
   ·simp[aj,GV e,h2]
   ·simp only[ak,GV e];exact .cons dw h3
theorem mL{x:List Int×Addr×Value}{xs:List (List Int×Addr×Value)}:storedH (x::xs) k b r=if x.1=k then (x.1,x.2.1,r)::xs.map (putAt k r) else x::storedH xs k b r:=by
 unfold storedH;by_cases e:x.1=k
 ·have b':atKey (x::xs) k=some x.2:=by simp[atKey,HL,e]
  rw[b',G3 e];simp[putAt,e]
 ·have b':atKey (x::xs) k=atKey xs k:=by simp[atKey,HL,e]
  rw[b',GV e];by_cases g:(atKey xs k).isSome=true
  ·rw[G3 g,G3 g];simp[putAt,e]
  ·rw[GV g,GV g];rfl
theorem jz:∀{xs:List (List Int×Addr×Value)},¬ k∈xs.map (·.1)->xs.map (putAt k r)=xs
 |[],_=>rfl
 |x::xs,h=>by
  have hq:¬ x.1=k:=λz=>h (by simp[z])
  rw[G6,jz λm=>h (GY _ m)]
  simp[putAt,hq]
theorem fQ:∀{xs:List (List Int×Addr×Value)}{ds:List D}{vs:List V}{k:List Int}{b:Addr}{r:Value}{y:D}{v:V},(xs.map (·.1)).Nodup->Vals vs (xs.map (·.2.2))->RelV v r->DenL K H ds vs->Den K H y v->
  ∃vs',(storedH xs k b r).map (·.1)=aj (xs.map (·.1)) k/\Vals vs' ((storedH xs k b r).map (·.2.2))/\DenL K H (ak (xs.map (·.1)) ds k y) vs'/\∀x∈storedH xs k b r,(x.1=k/\x.2.1=b)\/∃x'∈xs,x'.1=x.1/\x'.2.1=x.2.1
 |[],ds,vs,k,b,r,y,v,_,vr,rv,dl,dy=>by
  cases vr;cases ds with
  |cons _ _=>obtain⟨_,_,z,_⟩:=dl;cases z
  |nil=>exact⟨[v],rfl,.cons rv .nil,by unfold ak;exact .one dy,λx hx=>.inl (by simp[storedH,atKey]at hx;simp[hx])⟩
 |x::xs,ds,vs,k,b,r,y,v,nd,vr,rv,dl,dy=>by
  rw[G6]at vr nd;cases vr with
  |@cons w _ vs _ h t=>
   cases ds with
   |nil=>cases (show w::vs=[] from dl)
   |cons d ds=>
    obtain⟨w',r',e',dw,dl⟩:=dl;cases e';obtain⟨n1,n2⟩:=HK.mp nd;rw[mL];by_cases e:x.1=k
    ·rw[G3 e,jz (by rw[<-e];exact n1)]
     refine⟨v::vs,?_,.cons rv t,?_,λz hz=>?_⟩
     ·simp[aj,e]
     ·simp only[G6,ak,G3 e];exact .cons dy dl
     ·rcases G9.mp hz with rfl|hz
      ·exact .inr ⟨x,G5,rfl,rfl⟩
      ·exact .inr ⟨z,GY _ hz,rfl,rfl⟩
    ·rw[GV e];obtain⟨vs',h1,h2,h3,h4⟩:=fQ (k:=k) (b:=b) n2 t rv dl dy;refine⟨w::vs',?_,.cons h h2,?_,λz hz=>?_⟩
     ·simp only[G6,aj,GV e,h1]
     ·simp only[G6,ak,GV e];exact .cons dw h3
     ·rcases G9.mp hz with rfl|hz
      ·exact .inr ⟨z,G5,rfl,rfl⟩
      ·rcases h4 z hz with q|⟨x',hx',q⟩
       ·exact .inl q
       ·exact .inr ⟨x',GY _ hx',q⟩
theorem bn[DecidableEq κ]:∀{ks:List κ}{k:κ},(aj ks k).length<=ks.length+1
 |[],_=>by simp[aj]
 |q::ks,k=>by
  unfold aj;split
  ·simp
  ·have:=bn (ks:=ks) (k:=k);simp only[Hk];omega
theorem putD1_mem[DecidableEq κ]:∀{ks:List κ}{k x:κ},x∈aj ks k<->x∈ks\/x=k
 |[],k,x=>by simp[aj]
 |q::ks,k,x=>by
  unfold aj;split
  ·rename_i e;subst e;simp;intro z;exact .inl z
  ·rw[G9,putD1_mem,G9,or_assoc]
theorem eD[DecidableEq κ]:∀{ks:List κ}{k:κ},ks.Nodup->(aj ks k).Nodup
 |[],k,_=>by simp[aj]
 |q::ks,k,h=>by
  obtain⟨n1,n2⟩:=HK.mp h;unfold aj;split
  ·exact h
  ·rename_i e;refine HK.mpr ⟨λm=>?_,eD n2⟩
   rcases putD1_mem.mp m with z|z
   ·exact n1 z
   ·exact e z
end
section
variable {X:Cx}{A:Around}{ks:List Key}
theorem oo:∀{ks:List κ}{vs:List V},ks.length=vs.length->(ks.zip vs).map (·.1)=ks
 |[],_,_=>by simp
 |q::ks,[],h=>by cases h
 |q::ks,v::vs,h=>by simp[oo (ks:=ks) (vs:=vs) (by simpa using h)]
theorem nv{vs:List V}(I:Inv X pins σ H s)(e:H a=some (.dK (ks.zip vs)))(hl:ks.length=vs.length):ks.Nodup:=by
 obtain⟨_,_,ws,rel,_,_,_,_,_,_,_,_,nd⟩:=tq I.hok e;rw[<-rel.keys,oo hl]at nd;exact nd
theorem zx{k:Key}{y:D}{v w:V}{R:MH->Prop}{R2:Hp->Prop}(hu:A.units+1<cLine)(I:Inv X pins σ H s)(rm:RelM X.K M H)(q:M a=some (.dk ks ds))(hk:w=kV k)(rw':RelV w u)(dy:Den X.K H y v)(rv:RelV v r)(hz:ks.length<sizeLine)
  (h:R (put M a (.dk (aj ks k) (ak ks ds k y)))) (back:∀H' M',RelM X.K M' H'->TM X.K H H'->R M'->R2 H'):wpAny (model X.prog X.w) A (setItem (.ref a) u r) (λ_ s'=>∃H',Inv X pins σ H' s'/\R2 H') E s:=by
 obtain⟨vs,e,hl,dl⟩:=rm a _ q;subst hk;obtain⟨vs',h1,h2,h3⟩:=iY (k:=k) (v:=v) (nv I e hl) dl hl dy;refine rO hu I (.inl ⟨_,k,e,rfl,?_,rfl⟩) rw' rv λs' I'=>⟨_,I',?_⟩
 ·rw[List.length_zip,hl,Nat.min_self,<-hl];exact hz
 ·have tw:TM X.K H (upd H a (.dK (c5 (ks.zip vs) k v))):=.put e (λ_ z=>by cases z) λ_ _ z=>by cases z
  exact back _ _ (rm.write (u:=.dk (aj ks k) (ak ks ds k y)) e (λ_ z=>by cases z) (λ_ _ z=>by cases z) ⟨vs',by rw[ae,h1],h2,h3.mono tw⟩) tw h
theorem yt{kt:List (List Int)}{k:List Int}{y:D}{v:V}{b:Addr}{R:MH->Prop}{R2:Hp->Prop}(hu:A.units+1<cLine)(I:Inv X pins σ H s)(rm:RelM X.K M H)(q:M a=some (.dt kt ds))(sq:SqT X.K H b (k.map V.int))(dy:Den X.K H y v)(rv:RelV v r)(hz:kt.length<sizeLine)
  (h:R (put M a (.dt (aj kt k) (ak kt ds k y)))) (back:∀H' M',RelM X.K M' H'->TM X.K H H'->R M'->R2 H'):wpAny (model X.prog X.w) A (setItem (.ref a) (.ref b) r) (λ_ s'=>∃H',Inv X pins σ H' s'/\R2 H') E s:=by
 obtain⟨vs,xs,e,z,dl⟩:=rm a _ q;have dd:=bV I (.inl e) z;have nd:(xs.map (·.1)).Nodup:=by rw[z.kx];exact z.nd
 obtain⟨vs',h1,h2,h3,h4⟩:=fQ (k:=k) (b:=b) nd z.vx rv dl dy;rw[z.kx]at h1 h3;have hsz:xs.length<=sizeLine:=by
  have:=congrArg List.length z.kx;rw[G8]at this;omega
 refine wpAny_setItem_heap (hsz:=hsz) (HA hu) (dS I sq) dd λh' dd' hs=>?_
 obtain⟨ob,es,ep,hq,hx,hd,he,_,_⟩:=dd';have tw:TM X.K H (upd H a (.ext (aV a (storedH xs k b r)))):=.put e (λ_ z=>by cases z) λ_ _ z=>by cases z
 have tb:aV a (storedH xs k b r) h':=⟨ob,es,ep,hq,hx,hd,he⟩;have I':Inv X pins σ (upd H a (.ext (aV a (storedH xs k b r)))) {s with heap:=h',toks:=s.toks+(tupleKind (intKind X.prog X.w)).draws k}:=
  gC I (by rw[e];exact True.intro) hs ⟨ob,hq⟩ ⟨tb,⟨ob,hq⟩,λg1 g2 ⟨o1,es1,ep1,a1,a2,a3,a4⟩ kk=>⟨o1,es1,ep1,kk _ a1,a2,a3,a4⟩⟩
 refine⟨_,I',back _ _ (rm.write (u:=.dt (aj kt k) (ak kt ds k y)) e (λ_ z=>by cases z) (λ_ _ z=>by cases z) ⟨vs',_,ae,⟨h1,eD z.nd,Ha bn hz,z.no,h2,λx hx'=>?_⟩,h3.mono tw⟩) tw h⟩
 rcases h4 x hx' with ⟨q1,q2⟩|⟨x',m,q1,q2⟩
 ·rw[q1,q2];exact tw.t _ _ sq
 ·rw[<-q1,<-q2];exact tw.t _ _ (z.at_ x' m)
end
end L2
namespace L2
open PySem PySem.Spec PyProof.Rows PySem.W
section
variable {A:Around}{s:Shared}{ob:Obj}{es:Array DictEntry}{e:DictEntry}
theorem rD(hn:(d == sysModules)=false):MeetsIn prog w (Builtin.«dict.__len__» ⟨[.ref d],[]⟩) (λ_ R s=>∃ob es ep,s.heap.get? d=some ob/\ob.data=.dict es ep/\R (.ok (.ret (.int es.size s.toks))) {s with toks:=s.toks+1}):=
 .of_wp λA R s ⟨ob,es,ep,ho,hd,q⟩=>by
  show wpAny _ _ (dictSize d >>=_) _ _ s;unfold dictSize;refine xL (xL (Ie ho hd (GT ?_)));show wpAny _ _ (Builtin.Dict.pendingCount d >>=_) _ _ s;exact xL (wpAny_pendingCount_other hn (wpAny_ret_mkInt q))
theorem E8(hn:(d == sysModules)=false)(ho:s.heap.get? d=some ob)(hx:ob.ExactDict)(hd:ob.data=.dict es ep)(hz:(es.size:Int)<2 ^ 63)(q:Q (.int es.size (s.toks+1)) {s with toks:=s.toks+1+1}) :
  wpAny (model prog w) A (call (.builtin "len") [.ref d]) Q E s:=by
 have hT:s.TypeIs (.ref d) "dict":=⟨_,ho,hx.1⟩;refine Calls.call_function_entry kind_len plain_len entry_len (args_len1 _) ?_;unfold Builtin.«len»;refine xL (m:=oneArg "len" _) (GT ?_);refine xL (m:=callSpecial? (.ref d) (Str.ofString "__len__")) (wpAny_callSpecial?_slot (name:=Str.ofString "__len__") hT F.slot_dict_len
  (call_meetsIn F.slot_dict_len hT F.entry_dict_len (F.args_dict_len_1 _) (rD hn) ⟨ob,es,ep,ho,hd,?_⟩))
 show wpAny _ _ _ _ _ {s with toks:=s.toks+1}
 refine xL (HC (GT ?_));refine xL (wpAny_letGo ?_);show wpAny _ _ (if ((es.size:Nat):Int)<0 then _ else _) _ _ _
 rw[GV (by omega)]
 show wpAny _ _ (if ((es.size:Nat):Int)>=2 ^ 63 then _ else _) _ _ _
 rw[GV (by omega)]
 exact xL (wpAny_mkInt (GT ⟨_,rfl,q⟩))
theorem xP(hn:(d == sysModules)=false)(ho:s.heap.get? d=some ob)(hx:ob.ExactDict)(hd:ob.data=.dict es ep)
  (hQ:Q (.ref s.heap.objs.size) {s with heap:=s.heap.push {cls:=.type "dict_keyiterator",data:=.fields #[.ref d,.int 0 0,.int es.size 0,.int ep 0]}}):wpAny (model prog w) A (pyIter (.ref d)) Q E s:=by
 have hT:s.TypeIs (.ref d) "dict":=⟨_,ho,hx.1⟩;refine wpAny_pyIter_slot hT F.slot_dict_iter (HY F.slot_dict_iter hT F.entry_dict_iter ?_ (F.args_dict_iter_1 _));unfold Builtin.«dict.__iter__»;refine xL ?_;unfold Builtin.Dict.dictSlotNone;refine xL (wpAny_notOrdered_dict hT ?_);show wpAny _ _ (pure (Value.ref d)) _ _ s;refine GT ?_;show wpAny _ _ (Builtin.Dict.showsAll d >>=_) _ _ s;unfold Builtin.Dict.showsAll;rw[GV (by rw[hn];exact Hf)]
 refine xL (GT (xL (Ie ho hd (xL (wpAny_dictEpoch ho hd ?_)))));refine xL (Ht (GT ⟨_,rfl,"dict_keyiterator",_,⟨_,G4 _ rfl,rfl⟩,F.slot_dict_keyiterator_next.lookup,?_⟩));simpa [rawInt] using hQ
theorem nP(hit:s.heap.IsKeyIter it d i es.size ep)(hod:s.heap.get? d=some ob)(hdd:ob.data=.dict es ep)(he:es[i]?=some e)
  (hQ:∀h',h'.IsKeyIter it d (i+1) es.size ep->Heap.SameBut it s.heap h'->Q (some e.key) {s with heap:=h'}):wpAny (model prog w) A (pyNext (.ref it)) Q E s:=by
 obtain⟨o,ho,hc,hd⟩:=id hit;unfold pyNext;refine xL (wpAny_attempt (wpAny_callSpecial?_slot (name:=Str.ofString "__next__") hit.typeIs F.slot_dict_keyiterator_next
  (HY F.slot_dict_keyiterator_next hit.typeIs F.entry_dict_keyiterator_next ?_ (F.args_dict_keyiterator_next_1 _))))
 refine xL (GT (xL (xL ?_)))
 first|refine xL (wpAny_typeNameOfWhole_keyiter hit.typeIs (GT ?_))|refine xL (wpAny_typeNameOf_keyiter hit.typeIs (GT ?_))
 refine xL (wpAny_fieldsOf ho hd ?_);simp only[show Builtin.Dict_items.ownsTuple "dict_keyiterator"=false by decide,HZ,if_false]
 show wpAny _ _ (if (Value.ref d == Value.none)=true then _ else _) _ _ s
 rw[GV (show ¬ ((Value.ref d == Value.none)=true) from Hf)];refine xL (GT (xL (Ie hod hdd ?_)));rw[GV (by simp)]
 refine xL (GT (xL (wpAny_dictEpoch hod hdd ?_)));rw[GV (by simp)]
 refine GT ?_;simp only[show ¬ ((i:Int)<0) from by omega,if_false,Ih,he]
 refine xL ?_
 first|refine xL (wpAny_typeNameOfWhole_keyiter hit.typeIs (GT ?_))|refine xL (wpAny_typeNameOf_keyiter hit.typeIs (GT ?_))
 refine xL (wpAny_isOneOf_keyiter hit.typeIs ?_);show wpAny _ _ (setField (.ref it) 1 (rawInt ((i:Int)+1)) >>=_) _ _ s;refine xL (HQ ho hd (by simp) ?_)
 have hit':(s.heap.update it (Obj.mapFields (·.setIfInBounds 1 (rawInt ((i:Int)+1))))).IsKeyIter it d (i+1) es.size ep:=
  ⟨_,Hz _ ho (Obj.isFreed_of_fields (HV hd _)),(Obj.cls_mapFields ..).trans hc,by rw[HV hd];simp[rawInt]⟩
 refine xL (HC ?_);refine xL (wpAny_isOneOf_keyiter (s:={s with heap:=s.heap.update it (Obj.mapFields (·.setIfInBounds 1 (rawInt ((i:Int)+1))))}) hit'.typeIs ?_)
 show wpAny _ _ (pure e.key) _ _ _;exact GT (GT ⟨_,rfl,GT (hQ _ hit' (Heap.SameBut.update ..))⟩)
theorem nY(hh:A.handled=none)(hit:s.heap.IsKeyIter it d i es.size ep)(hod:s.heap.get? d=some ob)(hdd:ob.data=.dict es ep)(he:es.size<=i)
  (hQ:∀h',Heap.ExtBut it s.heap h'->Q none {s with heap:=h'}):wpAny (model prog w) A (pyNext (.ref it)) Q E s:=by
 obtain⟨o,ho,hc,hd⟩:=id hit;unfold pyNext;refine xL (wpAny_attempt (wpAny_callSpecial?_slot (name:=Str.ofString "__next__") hit.typeIs F.slot_dict_keyiterator_next
  (HY F.slot_dict_keyiterator_next hit.typeIs F.entry_dict_keyiterator_next ?_ (F.args_dict_keyiterator_next_1 _))))
 refine xL (GT (xL (xL ?_)))
 first|refine xL (wpAny_typeNameOfWhole_keyiter hit.typeIs (GT ?_))|refine xL (wpAny_typeNameOf_keyiter hit.typeIs (GT ?_))
 refine xL (wpAny_fieldsOf ho hd ?_);simp only[show Builtin.Dict_items.ownsTuple "dict_keyiterator"=false by decide,HZ,if_false]
 show wpAny _ _ (if (Value.ref d == Value.none)=true then _ else _) _ _ s
 rw[GV (show ¬ ((Value.ref d == Value.none)=true) from Hf)];refine xL (GT (xL (Ie hod hdd ?_)));rw[GV (by simp)]
 refine xL (GT (xL (wpAny_dictEpoch hod hdd ?_)));rw[GV (by simp)]
 refine GT ?_;simp only[show ¬ ((i:Int)<0) from by omega,if_false,Ih,Array.getElem?_eq_none he]
 refine xL ?_
 first|refine xL (wpAny_typeNameOfWhole_keyiter hit.typeIs (GT ?_))|refine xL (wpAny_typeNameOf_keyiter hit.typeIs (GT ?_))
 show wpAny _ _ (setField (.ref it) 0 .none >>=_) _ _ s;refine xL (HQ ho hd (by simp) ?_)
 show wpAny _ _ (newExc (.type "StopIteration") [] >>=_) _ _ _;refine xL ?_;simp only[newExc,newTuple];refine xL (Ht ?_ (by size_fits))
 refine xL (m:=firstArgMember _ _) (wpAny_of_eq (a:=Value.none) (by first|rfl|(simp only[firstArgMember];rfl)) ?_)
 refine Ht ?_ (by size_fits)
 simp only[raiseNew];refine xL (wpAny_handled ?_);rw[show A.in1.handled=none from hh];refine xL (GT (wpAny_throw ?_));refine xL (wpAny_isInstance (T:="StopIteration") (b:=true) ⟨_,G4 _ rfl,rfl⟩ isSubtype_stop ?_);exact GT (hQ _ (((Heap.SameBut.update ..).extBut.push _).push _))
theorem rR(hh:A.handled=none)(I d:Addr)(hne:d≠I)(hd:ob.data=.dict es ep) :
  Walks prog w A I [I,d] [I] es.size (λi v=>∃e,es[i]?=some e/\v=e.key) (λi h=>h.IsKeyIter I d i es.size ep/\h.get? d=some ob) where
 sub:=λb hb=>by simp at hb;simp[hb]
 frame:=λ_ _ _ st hk=>⟨st.1.at λo e=>hk I (by simp) o e,hk d (by simp) _ st.2⟩
 item:=λi s Q E hi st hQ=>by
  have he:es[i]?=some es[i]:=by simp[hi]
  refine nP st.1 st.2 hd he λh' hit' hs'=>?_
  exact hQ _ h' s.toks ⟨_,he,rfl⟩ ⟨hit',hs'.extBut d ob hne st.2⟩ λb o hb e=>hs'.extBut b o (λh=>hb (by simp[h])) e
 done:=λs Q E st hQ=>nY hh st.1 st.2 hd (GZ _) λh' he'=>hQ h' s.toks λb o hb e=>he' b o (λh=>hb (by simp[h])) e
 self:=λ_ _ _ _ st hQ=>wpAny_pyIter_keyiter st.1 hQ
theorem sP(lo:(d == sysModules)=false)(hx:ob.ExactDict)(hd:ob.data=.dict es ep):KdlSrc prog w "dict" d d es.size (λi v=>∃e,es[i]?=some e/\v=e.key) (λh=>h.get? d=some ob) where
 type:=λ_ hm=>⟨_,hm,hx.1⟩
 there:=λ_ hm=>⟨G2 hm,G2 hm⟩
 keep:=λ_ _ hm hk=>hk d (.inl rfl) _ hm
 notList:=by decide
 notTuple:=by decide
 hint:=λ_ _ _ _ hm hq=>kdl_hint_dict ⟨_,hm,hx.1⟩ hq
 iter:=λ_ _ hh hm=>⟨_,_,(λ_ _ hq=>xP lo hm hx hd hq),rR hh _ d (Hl (G2 hm)) hd,⟨⟨_,G4 _ rfl,rfl,rfl⟩,GX _ hm⟩⟩
end
end L2
namespace L2
open PySem PySem.Spec PyProof.Rows
section
variable {X:Cx}
theorem xO(neg:Bool):VO X (compareOp (if neg=true then .IsNot else .Is)) (rQ neg):=by
 intro pins s σ H x y v u v2 u2 M Q Q2 I rv ru dx dy rm q back;unfold rQ at q;split at q
 ·cases (show u=.non from dy);cases neg with
  |true=>exact VO.of3 vP pins s σ H x .non v .non v2 u2 M Q Q2 I rv ru dx dy rm ⟨rfl,by rw[Bool.true_xor]at q;exact q⟩ back
  |false=>exact VO.of3 Fe pins s σ H x .non v .non v2 u2 M Q Q2 I rv ru dx dy rm ⟨rfl,by rw[Bool.false_xor]at q;exact q⟩ back
 ·rename_i b;cases (show u=.bl b from dy);cases ru;have fin:∀k,Q (.bl k) M->EP X pins σ Q2 (.bool k) s:=λk q=>⟨.bl k,H,I,rfl,back _ _ _ _ bb rm (.refl _) q⟩
  split at q
  ·rename_i a;cases (show v=.bl a from dx);cases rv;have e:((Value.bool a == Value.bool b):Bool)=(a == b):=by cases a<;>cases b<;>rfl
   cases neg with
   |true=>exact wpAny_isNot_plain rfl (by rw[e];rw[Bool.true_xor]at q;exact fin _ q)
   |false=>exact wpAny_is_plain rfl (by rw[e];rw[Bool.false_xor]at q;exact fin _ q)
  ·cases (show v=.non from dx);cases rv;cases neg with
   |true=>exact wpAny_isNot_other rfl (λz=>nomatch z) (fin _ q)
   |false=>exact wpAny_is_other rfl (λz=>nomatch z) (fin _ q)
  ·exact q.elim
 ·exact q.elim
theorem uV:∀{ds:List D}{us:List β},Paired R ds us->(∀d u,d∈ds->R d u->e u=f d)->us.any e=ds.any f
 |_,_,.nil,_=>rfl
 |d::ds,u::us,.cons r t,h=>by
  rw[List.any_cons,List.any_cons,h d u G5 r,uV t λd u hd=>h d u (GY _ hd)]
theorem hJ{K:Ii}:∀{ds:List D}{vs:List V}{us:List Value},DenL K H ds vs->Vals vs us->Paired (λd u=>∃v,Den K H d v/\RelV v u) ds us
 |[],_,_,h,r=>by cases (show _=[] from h);cases r;exact .nil
 |d::ds,_,_,h,r=>by
  obtain⟨v,r',rfl,dv,dl⟩:=h;cases r with
  |cons r1 r2=>exact .cons ⟨v,dv,r1⟩ (hJ dl r2)
theorem Paired.mem_right:∀{l:List α}{m:List β},Paired R l m->∀b∈m,∃a∈l,R a b
 |_,_,.nil,b,hb=>by cases hb
 |a::l,c::m,.cons r t,b,hb=>by
  rcases G9.mp hb with rfl|hb
  ·exact⟨a,G5,r⟩
  ·obtain⟨a',h1,h2⟩:=Paired.mem_right t b hb;exact⟨a',GY _ h1,h2⟩
theorem xX(hu:X.A.units+64<cLine)(neg:Bool):VO X (compareOp (if neg=true then .NotIn else .In)) (oP neg):=by
 intro pins s σ H x y v u v2 u2 M Q Q2 I rv ru dx dy rm q back;unfold oP at q;split at q
 ·rename_i ds eds;obtain⟨p1,p2,q⟩:=q;obtain⟨p,vs,rfl,hq,dl⟩:=g9 rm eds dy;cases ru;obtain⟨H',I',t',d1⟩:=m8 I rm dx p1;have dl':=dl.mono t';have fin:EP X pins σ Q2 (.bool (neg ^^ ds.any λd=>eqD d (res M x))) s:=⟨.bl _,H,I,rfl,back _ _ _ _ bb rm (.refl _) q⟩
  classical
  have key:∀{its:List Value},Vals vs its->∃e:Value->Bool,its.any e=(ds.any λd=>eqD d (res M x))/\∀w∈its,SeqAt.EqAt X.A.in1 s w v2 (e w):=λ{its} r=>by
   have pd:=hJ dl' r
   let e:Value->Bool:=λw=>if h:∃d∈ds,∃v,Den X.K H' d v/\RelV v w then eqD h.choose (res M x) else false
   have he:∀d w,d∈ds->(∃v,Den X.K H' d v/\RelV v w)->e w=eqD d (res M x):=λd w hd ⟨v',dv,rw'⟩=>by
    have h:∃d∈ds,∃v,Den X.K H' d v/\RelV v w:=⟨d,hd,v',dv,rw'⟩;obtain⟨hm,v'',dv2,rw2⟩:=h.choose_spec;have:v''=v':=rw2.inj rw';subst this;have e1:h.choose=d:=lZ I' rfl 8 (Hh.mp p2 _ hm) (Hh.mp p2 _ hd) dv2 dv;show (if h:∃d∈ds,∃v,Den X.K H' d v/\RelV v w then eqD h.choose (res M x) else false)=_
    rw[dif_pos h,e1]
   refine⟨e,uV pd he,λw hw=>?_⟩
   obtain⟨d,hd,v',dv,rw'⟩:=Paired.mem_right pd w hw;rw[he d w hd ⟨v',dv,rw'⟩];exact (Ar I' rfl 8 (A:=X.A.in1) (Hh.mp p2 _ hd) p1 dv d1 rw' rv (by show X.A.units+1+8<cLine;omega)).2.2
  rcases hq with hq|hq
  ·obtain⟨its,r,pl',hz⟩:=I.list hq;obtain⟨e,e1,e2⟩:=key r;have ea:its.toArray.any e=ds.any λd=>eqD d (res M x):=by rw[<-e1];simp
   cases neg with
   |true=>exact SeqAt.notIn_listAt e pl'.isList (λw hw=>e2 w (by simpa using hw)) (by rw[ea];rw[Bool.true_xor]at fin;exact fin)
   |false=>exact SeqAt.in_listAt e pl'.isList (λw hw=>e2 w (by simpa using hw)) (by rw[ea];rw[Bool.false_xor]at fin;exact fin)
  ·obtain⟨its,r,pl',hz⟩:=I.tuple hq;obtain⟨e,e1,e2⟩:=key r;have ea:its.toArray.any e=ds.any λd=>eqD d (res M x):=by rw[<-e1];simp
   cases neg with
   |true=>exact SeqAt.notIn_tupleAt e pl' (λw hw=>e2 w (by simpa using hw)) (by rw[ea];rw[Bool.true_xor]at fin;exact fin)
   |false=>exact SeqAt.in_tupleAt e pl' (λw hw=>e2 w (by simpa using hw)) (by rw[ea];rw[Bool.false_xor]at fin;exact fin)
 ·split at q
  ·rename_i o e;obtain⟨a,ov,rfl,g,od⟩:=gw (X:=X) e rm dy dx;cases ru;refine EU neg (by omega) I g rv λs' I'=>⟨.bl (neg ^^ ov.isSome),H,I',rfl,back _ _ (.bl _) _ bb rm (.refl _) ?_⟩
   have:o.isSome=ov.isSome:=by
    cases o<;>cases ov<;>first|rfl|exact od.elim
   rw[<-this];exact q
  ·split at q
   ·rename_i i j _ _;cases (show v=.str i from dx);cases (show u=.str j from dy);cases neg with
    |false=>exact rJ pins s σ H _ _ v2 u2 Q2 I rv ru ⟨i,j,rfl,rfl,back _ _ (.bl _) _ bb rm (.refl _) (by rw[Bool.false_xor]at q;exact q)⟩
    |true=>exact lD pins s σ H _ _ v2 u2 Q2 I rv ru ⟨i,j,rfl,rfl,back _ _ (.bl _) _ bb rm (.refl _) (by rw[Bool.true_xor]at q;exact q)⟩
   ·exact q.elim
theorem dE(hu:X.A.units+64<cLine)(op:CmpOp):VO X (compareOp op) (aH op):=by
 cases op with
 |Eq=>exact xJ hu false
 |NotEq=>exact xJ hu true
 |Lt=>exact (VO.of3 D8).imp λ_ _ _ _ h=>gX h
 |LtE=>exact (VO.of3 Fg).imp λ_ _ _ _ h=>gX h
 |Gt=>exact (VO.of3 EI).imp λ_ _ _ _ h=>gX h
 |GtE=>exact (VO.of3 E9).imp λ_ _ _ _ h=>gX h
 |Is=>exact xO false
 |IsNot=>exact xO true
 |In=>exact xX hu false
 |NotIn=>exact xX hu true
theorem fj{K:Ii}(h:DenL K H [d] vs):∃v,vs=[v]/\Den K H d v:=by
 obtain⟨v,r,rfl,dv,rfl⟩:=h;exact⟨v,rfl,dv⟩
def rLen0(xs:List D)(M:MH)(Q:VK3):Prop:=match xs with
  |[x]=>match aD M x with
   |some ds=>Q (.int ds.length) M
   |none=>False
  |_=>False
theorem vH:VC X (.builtin "len") rLen0:=(VC.of3 Cu).imp λxs M Q h=>by
 simp only[rLen0]at h;split at h
 ·rename_i x;split at h
  ·rename_i ds e;refine⟨x,ds,rfl,?_,h⟩;cases x with
   |tup es=>exact .inr (by rw[show es=ds from Hg e])
   |rol es=>exact .inl (.inl (by rw[show es=ds from Hg e]))
   |ref a=>
    cases q:M a with
    |none=>simp[aD,ai,q]at e
    |some o=>
     cases o with
     |lst es=>exact .inl (.inr ⟨a,rfl,by rw[q];simp[aD,ai,q]at e;rw[e]⟩)
     |_=>simp[aD,ai,q]at e
   |_=>cases e
  ·exact h.elim
 ·exact h.elim
theorem qr{s:Shared}{ks:List (List Int)}{xs:List (List Int×Addr×Value)}(I:Inv X pins σ H s)(e:Rd H p (.ext (aV p xs)))(z:TabOk X.K H p ks xs vs) :
  ∃ob es ep,s.heap.get? p=some ob/\ob.ExactDict/\ob.data=.dict es ep/\es.toList=(xs.map λx=>(⟨tH x.1,.ref x.2.1,x.2.2⟩:DictEntry))/\es.size=ks.length:=by
 obtain⟨⟨ob,es,ep,h1,h2,h3,h4⟩,_⟩:=(show ObjOk X.prog X.w H s.heap p (.ext (aV p xs)) from e.ok I.hok);refine⟨ob,es,ep,h1,h2,h3,h4,?_⟩;have:=congrArg List.length h4;have l3:xs.length=ks.length:=by rw[<-z.kx];simp
 simp at this;omega
theorem AI:VC X (.builtin "len") (rBi .len):=by
 intro pins s σ H xs vs us M Q Q2 I rs dl rm q back;by_cases h:rLen0 xs M Q
 ·exact vH pins s σ H xs vs us M Q Q2 I rs dl rm h back
 ·simp only[rBi]at q;split at q
  ·rename_i x;split at q
   ·rename_i ds e;exact absurd (by simp only[rLen0,e];exact q) h
   ·split at q
    ·rename_i ks ds e;obtain⟨v,rfl,dv⟩:=fj dl;obtain⟨p,ws,ts,rfl,rd,z,_⟩:=gu e rm dv;obtain⟨ob,es,ep,h1,h2,h3,h4,h5⟩:=qr I rd z;obtain⟨u,rfl,rx⟩:=im rs;cases rx;refine E8 z.no h1 h2 h3 (by have:=z.sz;have:=sizeLine_eq;omega) ⟨.int es.size,H,I.tok _,⟨_,rfl⟩,?_⟩
     rw[h5];exact back _ _ _ _ dG rm (.refl _) q
    ·split at q
     ·rename_i z _ _;obtain⟨v,rfl,dv⟩:=fj dl;cases (show v=.str z from dv);exact me pins s σ H _ us Q2 I rs ⟨z,rfl,q.1,back _ _ _ _ dG rm (.refl _) q.2⟩
     ·exact q.elim
  ·exact q.elim
theorem zS(hc:X.calm=true):VC X (.builtin "max") (rBi .max):=(VC.of3 (CZ hc)).imp λxs M Q h=>by
 simp only[rBi]at h;split at h
 ·exact⟨_,_,rfl,h⟩
 ·exact h.elim
theorem AK(hc:X.calm=true):VC X (.builtin "min") (rBi .min):=(VC.of3 (Bc hc)).imp λxs M Q h=>by
 simp only[rBi]at h;split at h
 ·exact⟨_,_,rfl,h⟩
 ·exact h.elim
theorem kA{K:Ii}:∀ks:List Int,DenL K H (ks.map D.int) (ks.map V.int)
 |[]=>rfl
 |k::r=>⟨_,_,rfl,rfl,kA r⟩
theorem mY{K:Ii}:∀{ts:List (List Int×Addr×Value)},(∀x∈ts,SqT K H x.2.1 (x.1.map V.int))->DenL K H ((ts.map (·.1)).map jH) (ts.map λx=>V.ref x.2.1)
 |[],_=>rfl
 |x::r,h=>⟨_,_,rfl,lz (h x G5) (kA _),mY λy hy=>h y (GY _ hy)⟩
theorem kJ:∀ts:List (List Int×Addr×Value),Vals (ts.map λx=>V.ref x.2.1) (ts.map λx=>Value.ref x.2.1)
 |[]=>.nil
 |x::r=>.cons rfl (kJ r)
theorem wW(fz:Bool)(hc:X.calm=true):VC X (.type "list") (rBi (.list fz)):=by
 intro pins s σ H xs vs us M Q Q2 I r dl rm q back;simp only[rBi]at q;split at q
 ·rename_i x;split at q
  ·rename_i ds e;obtain⟨v,rfl,dv⟩:=fj dl;obtain⟨p,vs,rfl,hq,dl2⟩:=g9 rm e dv;refine thn (fY pins s σ H _ us (λw H'=>∃l,w=.ref l/\H l=none/\H'=upd H l (.lst vs)) I r ⟨p,vs,rfl,hq,λl hl=>⟨l,rfl,hl,rfl⟩⟩) λu s1 ⟨w,H1,I1,r1,l,e1,hl,e2⟩=>?_
   subst e1;subst e2;cases r1;exact de I1 hl dl2 rm (.refl _) q back
  ·split at q
   ·rename_i ks ds e;obtain⟨v,rfl,dv⟩:=fj dl;obtain⟨p,ws,ts,rfl,rd,z,_⟩:=gu e rm dv;obtain⟨ob,es,ep,h1,h2,h3,h4,h5⟩:=qr I rd z;obtain⟨u,rfl,rx⟩:=im r;cases rx;have hz:es.size<=sizeLine:=by have:=z.sz;omega
    refine eN I.tk <| PySem.W.kdl_call (sP z.no h2 h3) (I.ok.hd hc) h1 hz λh' tk acc' c' kp e hi _=>?_
    have hp:H s.heap.objs.size=none:=I.hok.fresh (GZ _);have ea:acc'.toList=ts.map λx=>Value.ref x.2.1:=by
     refine List.ext_getElem? λj=>?_
     by_cases hj:j<acc'.size
     ·have e1:acc'[j]?=some acc'[j]:=by simp[hj]
      obtain⟨en,e2,e3⟩:=hi.2 j _ e1;have e4:es.toList[j]?=some en:=by simpa using e2
      rw[h4,Hi]at e4;cases hx:ts[j]? with
      |none=>rw[hx]at e4;cases e4
      |some x=>
       rw[hx]at e4;cases e4;rw[Array.getElem?_toList,e1,e3,Hi,hx];rfl
     ·have h6:=hi.1;have h7:ts.length=es.size:=by
       have:=congrArg List.length h4;simpa using this.symm
      rw[List.getElem?_eq_none (by simpa using hj),List.getElem?_eq_none (by rw[G8];omega)]
    have hv:Vals (ts.map λx=>V.ref x.2.1) acc'.toList:=by rw[ea];exact kJ ts
    have I1:=I.laid (a:=s.heap.objs.size) (o:=.lst (ts.map λx=>V.ref x.2.1)) (t':=tk) kp (GZ _) ⟨by rw[hv.length,ea,G8];have:=z.sz;rw[<-z.kx,G8]at this;exact this,acc'.toList,c',hv,by simpa using e⟩
    exact de I1 hp (by rw[<-z.kx];exact mY z.at_) rm (.refl _) q back
   ·exact q.elim
 ·exact q.elim
end
end L2
namespace L2
open PySem PySem.Spec PyProof.Rows PySem.W
end L2
namespace L2
open PySem PySem.Spec PyProof.Rows
theorem ex9{α β γ δ:Sort _}{P1 P2 P3 P4 P5:α->β->γ->δ->Prop}{R:Prop}(h:∃a b c d,P1 a b c d/\P2 a b c d/\P3 a b c d/\P4 a b c d/\P5 a b c d)(k:∀a b c d,P1 a b c d->P2 a b c d->P3 a b c d->P4 a b c d->P5 a b c d->R):R:=
 h.elim λa h=>h.elim λb h=>h.elim λc h=>h.elim λd h=>k a b c d h.1 h.2.1 h.2.2.1 h.2.2.2.1 h.2.2.2.2
def D9(K:Ii)(r:D->D->MH->VK3->Prop):R2:=λv u H Q2=>∃x y M Q,Den K H x v/\Den K H y u/\RelM K M H/\r x y M Q/\Back K H Q Q2
def Ec(K:Ii)(r:D->MH->VK3->Prop):V->Hp->VK->Prop:=λv H Q2=>∃x M Q,Den K H x v/\RelM K M H/\r x M Q/\Back K H Q Q2
def EV(K:Ii)(r:List D->MH->VK3->Prop):List V->Hp->VK->Prop:=λvs H Q2=>∃xs M Q,DenL K H xs vs/\RelM K M H/\r xs M Q/\Back K H Q Q2
section
variable {X:Cx}
theorem VO.op{f:Value->Value->Sem Value}{r:D->D->MH->VK3->Prop}(h:VO X f r):OpR X f (D9 X.K r):=λpins s σ H v u v2 u2 Q2 I rv ru ⟨x,y,M,Q,dx,dy,rm,q,back⟩=>h pins s σ H x y v u v2 u2 M Q Q2 I rv ru dx dy rm q back
theorem VU.op{f:Value->Sem Value}{r:D->MH->VK3->Prop}(h:VU X f r):UnR X f (Ec X.K r):=λpins s σ H v v2 Q2 I rv ⟨x,M,Q,dx,rm,q,back⟩=>h pins s σ H x v v2 M Q Q2 I rv dx rm q back
theorem VC.op{f:Value}{r:List D->MH->VK3->Prop}(h:VC X f r):CallR X f (EV X.K r):=λpins s σ H vs us Q2 I rv ⟨xs,M,Q,dx,rm,q,back⟩=>h pins s σ H xs vs us M Q Q2 I rv dx rm q back
end
section
variable {K:Ii}
theorem mV{ta tb:St3->MH->VK3->XN->Prop}{R3:D->D->MH->Prop}{R2:V->V->Hp->Prop}(rm:RelM K M H)(ds:DenS K H σ3 σ)(lk:LkE K cls H E3 (E2 σ))
  (h:ta σ3 M (λx M1=>tb σ3 M1 (λy M2=>R3 x y M2) E3) E3) (k:∀v u H' x y M',Den K H' x v->Den K H' y u->RelM K M' H'->TM K H H'->R3 x y M'->R2 v u H') :
  low K cls E2 ta σ H λv H1=>low K cls E2 tb σ H1 λu H2=>R2 v u H2:=
 ⟨σ3,M,_,E3,rm,ds,lk,h,λv H1 x M1 dv rm1 t1 h1=>⟨σ3,M1,_,E3,rm1,ds.mono t1,lk.mono t1,h1,λu H2 y M2 du rm2 t2 h2=>k v u H2 x y M2 (dv.mono t2) du rm2 (t1.trans t2) h2⟩⟩
theorem aW{ta:St3->MH->VK3->XN->Prop}{R3:VK3}{R2:VK}(rm:RelM K M H)(ds:DenS K H σ3 σ)(lk:LkE K cls H E3 (E2 σ))(h:ta σ3 M R3 E3)(k:∀v H' x M',Den K H' x v->RelM K M' H'->TM K H H'->R3 x M'->R2 v H') :
  low K cls E2 ta σ H R2:=⟨σ3,M,R3,E3,rm,ds,lk,h,k⟩
end
section
variable {X:Cx}{cls:Nat->Addr}{E2:St->XK}{a b c e:Expr}{ta tb tc te:St3->MH->VK3->XN->Prop}{pos:Pos}
theorem CS{i:Nat}{x:Str}(hN:X.N[i]?=some x)(hv:Vis X.env.scope x)(hd:(x == ("__debug__" : Str))=false)(hcd:(x == ("__classdict__" : Str))=false) :
  PE X (.Name x pos) (low X.K cls E2 λσ M Q _=>match σ[i]? with|some (some d)=>Q d M|_=>False):=
 (l5 hN hv hd hcd).imp λσ H Q2 hl_=>ex9 hl_ λσ3 M Q E3 rm ds lk h back=>by
  try dsimp only at h
  split at h
  ·rename_i d e;obtain⟨v,e1,e2⟩:=ds.2 i d e;exact⟨v,e1,back _ _ _ _ e2 rm (.refl _) h⟩
  ·exact h.elim
theorem mG{v:V}{d:D}(h:PE X e (tC v))(hd:∀H,Den X.K H d v):PE X e (low X.K cls E2 λ_ M Q _=>Q d M):=
 h.imp λσ H Q2 hl_=>ex9 hl_ λσ3 M Q E3 rm ds lk h back=>back _ _ _ _ (hd H) rm (.refl _) h
theorem CF{op:Operator}{r:D->D->MH->VK3->Prop}(ho:VO X (binaryOp op) r)(ha:PE X a (low X.K cls E2 ta))(hb:PE X b (low X.K cls E2 tb)) :
  PE X (.BinOp a op b pos) (low X.K cls E2 λσ M Q E=>ta σ M (λx M1=>tb σ M1 (λy M2=>r x y M2 Q) E) E):=
 (Ch ho.op ha hb).imp λσ H Q2 hl_=>ex9 hl_ λσ3 M Q E3 rm ds lk h back=>mV rm ds lk h λv u H' x y M' dx dy rm' t q=>⟨x,y,M',Q,dx,dy,rm',q,back.mono t⟩
theorem ED{op:UnaryOp}{r:D->MH->VK3->Prop}(ho:VU X (unaryOp op) r)(ha:PE X a (low X.K cls E2 ta)) :
  PE X (.UnaryOp op a pos) (low X.K cls E2 λσ M Q E=>ta σ M (λx M1=>r x M1 Q) E):=
 (BL ho.op ha).imp λσ H Q2 hl_=>ex9 hl_ λσ3 M Q E3 rm ds lk h back=>aW rm ds lk h λv H' x M' dx rm' t q=>⟨x,M',Q,dx,rm',q,back.mono t⟩
theorem Bw{op:CmpOp}{r:D->D->MH->VK3->Prop}(ho:VO X (compareOp op) r)(ha:PE X a (low X.K cls E2 ta))(hb:PE X b (low X.K cls E2 tb))(hm:behindInMarks op b=false) :
  PE X (.Compare a [op] [b] pos) (low X.K cls E2 λσ M Q E=>ta σ M (λx M1=>tb σ M1 (λy M2=>r x y M2 Q) E) E):=
 (wf ho.op ha hb hm).imp λσ H Q2 hl_=>ex9 hl_ λσ3 M Q E3 rm ds lk h back=>mV rm ds lk h λv u H' x y M' dx dy rm' t q=>⟨x,y,M',Q,dx,dy,rm',q,back.mono t⟩
abbrev boolQ(Q:Bool->MH->Prop):VK3:=λr M=>match r with
 |.bl k=>Q k M
 |_=>False
theorem eR{K:Ii}{H:Hp}{Q:Bool->MH->Prop}{Q2:Bool->Hp->Prop}(k:∀b H' M',RelM K M' H'->TM K H H'->Q b M'->Q2 b H'):Back K H (boolQ Q) λx H1=>∃k,x=.bl k/\Q2 k H1:=λv H' d M' dv rm t q=>by
 unfold boolQ at q;split at q
 ·exact⟨_,dv,k _ _ _ rm t q⟩
 ·exact q.elim
theorem Bl{op:CmpOp}{r:D->D->MH->VK3->Prop}(ho:VO X (compareOp op) r)(ha:PE X a (low X.K cls E2 ta))(hb:PE X b (low X.K cls E2 tb))(hm:behindInMarks op b=false) :
  PT X (.Compare a [op] [b] pos) (cH X.K cls E2 λσ M Q E=>ta σ M (λx M1=>tb σ M1 (λy M2=>r x y M2 (boolQ Q)) E) E):=
 (wq ho.op ha hb hm).imp λσ H Q2 hl_=>ex9 hl_ λσ3 M Q E3 rm ds lk h back=>mV rm ds lk h λv u H' x y M' dx dy rm' t q=>⟨x,y,M',_,dx,dy,rm',q,(eR back).mono t⟩
theorem Bf(ha:PE X a (low X.K cls E2 ta))(he:∀whole,isTrue a X.env whole=(do let v<-whole;standAt a.pos;holding [v] (truthy v))):PT X a (cH X.K cls E2 λσ M Q E=>ta σ M (boolQ Q) E):=
 (yP ha he).imp λσ H Q2 hl_=>ex9 hl_ λσ3 M Q E3 rm ds lk h back=>aW rm ds lk h λv H' x M' dx rm' t q=>eR back v H' x M' dx rm' t q
variable {tA tB:St3->MH->(Bool->MH->Prop)->XN->Prop}{az:List Expr}
theorem kF{K:Ii}{σ:St}{H:Hp}{σ3:St3}{M:MH}{E3:XN}{R3:Bool->MH->Prop}{R2:Bool->Hp->Prop}(rm:RelM K M H)(ds:DenS K H σ3 σ)(lk:LkE K cls H E3 (E2 σ))(h:tA σ3 M R3 E3)(k:∀b H' M',RelM K M' H'->TM K H H'->R3 b M'->R2 b H') :
  cH K cls E2 tA σ H R2:=⟨σ3,M,R3,E3,rm,ds,lk,h,k⟩
theorem qv(ha:PT X a (cH X.K cls E2 tA)):PW X (.BoolOp .And [a] pos) (cH X.K cls E2 tA):=wM ha
theorem uW(ha:PT X a (cH X.K cls E2 tA)):PW X (.BoolOp .Or [a] pos) (cH X.K cls E2 tA):=yj ha
theorem pX(ha:PT X a (cH X.K cls E2 tA))(hb:PW X (.BoolOp .And (b::az) pos) (cH X.K cls E2 tB)) :
  PW X (.BoolOp .And (a::b::az) pos) (cH X.K cls E2 λσ M Q E=>tA σ M (λc M1=>if c=true then tB σ M1 Q E else Q false M1) E):=
 (yd ha hb).imp λσ H Q2 hl_=>ex9 hl_ λσ3 M Q E3 rm ds lk h back=>kF rm ds lk h λc H' M' rm' t q=>by
  cases c with
  |true=>rw[G3 rfl]at q ⊢;exact kF rm' (ds.mono t) (lk.mono t) q λb H2 M2 r2 t2 q2=>back b H2 M2 r2 (t.trans t2) q2
  |false=>rw[GV Hf]at q ⊢;exact back _ _ _ rm' t q
theorem w6(ha:PT X a (cH X.K cls E2 tA))(hb:PW X (.BoolOp .Or (b::az) pos) (cH X.K cls E2 tB)) :
  PW X (.BoolOp .Or (a::b::az) pos) (cH X.K cls E2 λσ M Q E=>tA σ M (λc M1=>if c=true then Q true M1 else tB σ M1 Q E) E):=
 (A8 ha hb).imp λσ H Q2 hl_=>ex9 hl_ λσ3 M Q E3 rm ds lk h back=>kF rm ds lk h λc H' M' rm' t q=>by
  cases c with
  |true=>rw[G3 rfl]at q ⊢;exact back _ _ _ rm' t q
  |false=>rw[GV Hf]at q ⊢;exact kF rm' (ds.mono t) (lk.mono t) q λb H2 M2 r2 t2 q2=>back b H2 M2 r2 (t.trans t2) q2
theorem Br(ha:PT X a (cH X.K cls E2 tA)):PT X (.UnaryOp .Not a pos) (cH X.K cls E2 λσ M Q E=>tA σ M (λc M1=>Q (!c) M1) E):=
 (yS ha).imp λσ H Q2 hl_=>ex9 hl_ λσ3 M Q E3 rm ds lk h back=>kF rm ds lk h λc H' M' rm' t q=>back _ _ _ rm' t q
theorem xT(ha:PE X a (low X.K cls E2 ta))(hb:PE X (.BoolOp .And (b::az) pos) (low X.K cls E2 tb)) :
  PE X (.BoolOp .And (a::b::az) pos) (low X.K cls E2 λσ M Q E=>ta σ M (λx M1=>match x with|.bl c=>if c=true then tb σ M1 Q E else Q (.bl false) M1|_=>False) E):=
 (zg ha hb).imp λσ H Q2 hl_=>ex9 hl_ λσ3 M Q E3 rm ds lk h back=>aW rm ds lk h λv H' x M' dx rm' t q=>by
  split at q
  ·rename_i c;cases (show v=.bl c from dx);refine⟨c,rfl,?_⟩;cases c with
   |true=>rw[G3 rfl]at q ⊢;exact aW rm' (ds.mono t) (lk.mono t) q λv2 H2 x2 M2 d2 r2 t2 q2=>back v2 H2 x2 M2 d2 r2 (t.trans t2) q2
   |false=>rw[GV Hf]at q ⊢;exact back _ _ _ _ bb rm' t q
  ·exact q.elim
theorem Bv(ha:PE X a (low X.K cls E2 ta))(hb:PE X (.BoolOp .Or (b::az) pos) (low X.K cls E2 tb)) :
  PE X (.BoolOp .Or (a::b::az) pos) (low X.K cls E2 λσ M Q E=>ta σ M (λx M1=>match x with|.bl c=>if c=true then Q (.bl true) M1 else tb σ M1 Q E|_=>False) E):=
 (BW ha hb).imp λσ H Q2 hl_=>ex9 hl_ λσ3 M Q E3 rm ds lk h back=>aW rm ds lk h λv H' x M' dx rm' t q=>by
  split at q
  ·rename_i c;cases (show v=.bl c from dx);refine⟨c,rfl,?_⟩;cases c with
   |true=>rw[G3 rfl]at q ⊢;exact back _ _ _ _ bb rm' t q
   |false=>rw[GV Hf]at q ⊢;exact aW rm' (ds.mono t) (lk.mono t) q λv2 H2 x2 M2 d2 r2 t2 q2=>back v2 H2 x2 M2 d2 r2 (t.trans t2) q2
  ·exact q.elim
theorem BV(ha:PE X a (low X.K cls E2 ta)):PE X (.UnaryOp .Not a pos) (low X.K cls E2 λσ M Q E=>ta σ M (λx M1=>match x with|.bl c=>Q (.bl (!c)) M1|_=>False) E):=
 (yR ha).imp λσ H Q2 hl_=>ex9 hl_ λσ3 M Q E3 rm ds lk h back=>aW rm ds lk h λv H' x M' dx rm' t q=>by
  split at q
  ·rename_i c;cases (show v=.bl c from dx);exact⟨c,rfl,back _ _ _ _ bb rm' t q⟩
  ·exact q.elim
theorem xp{op op':CmpOp}{r r':D->D->MH->VK3->Prop}(ho:VO X (compareOp op) r)(ho':VO X (compareOp op') r')(ha:PE X a (low X.K cls E2 ta))(hb:PE X b (low X.K cls E2 tb))(hc:PE X c (low X.K cls E2 tc))(hm:lastMarks [op,op'] [b,c]=false) :
  PE X (.Compare a [op,op'] [b,c] pos) (low X.K cls E2 λσ M Q E=>ta σ M (λx M1=>tb σ M1 (λy M2=>r x y M2 λz M3=>match z with
   |.bl k=>if k=true then tc σ M3 (λz M4=>r' y z M4 Q) E else Q (.bl false) M3
   |_=>False) E) E):=
 (uP ho.op ho'.op ha hb hc hm).imp λσ H Q2 hl_=>ex9 hl_ λσ3 M Q E3 rm ds lk h back=>mV rm ds lk h λv u H' x y M' dx dy rm' t q=>⟨x,y,M',_,dx,dy,rm',q,λw H1 z M1 dz rm1 t1 q1=>by
  split at q1
  ·rename_i k;refine⟨k,dz,?_⟩;cases k with
   |true=>rw[G3 rfl]at q1 ⊢;exact aW rm1 ((ds.mono t).mono t1) ((lk.mono t).mono t1) q1 λv2 H2 x2 M2 d2 r2 t2 q2=>⟨y,x2,M2,Q,(dy.mono t1).mono t2,d2,r2,q2,(back.mono t).mono (t1.trans t2)⟩
   |false=>rw[GV Hf]at q1 ⊢;exact back _ _ _ _ bb rm1 (t.trans t1) q1
  ·exact q1.elim⟩
theorem vL{op op':CmpOp}{r r':D->D->MH->VK3->Prop}(ho:VO X (compareOp op) r)(ho':VO X (compareOp op') r')(ha:PE X a (low X.K cls E2 ta))(hb:PE X b (low X.K cls E2 tb))(hc:PE X c (low X.K cls E2 tc))(hm:lastMarks [op,op'] [b,c]=false) :
  PT X (.Compare a [op,op'] [b,c] pos) (cH X.K cls E2 λσ M Q E=>ta σ M (λx M1=>tb σ M1 (λy M2=>r x y M2 λz M3=>match z with
   |.bl k=>if k=true then tc σ M3 (λz M4=>r' y z M4 (boolQ Q)) E else Q false M3
   |_=>False) E) E):=
 (uL ho.op ho'.op ha hb hc hm).imp λσ H Q2 hl_=>ex9 hl_ λσ3 M Q E3 rm ds lk h back=>mV rm ds lk h λv u H' x y M' dx dy rm' t q=>⟨x,y,M',_,dx,dy,rm',q,λw H1 z M1 dz rm1 t1 q1=>by
  split at q1
  ·rename_i k;refine⟨k,dz,?_⟩;cases k with
   |true=>rw[G3 rfl]at q1 ⊢;exact aW rm1 ((ds.mono t).mono t1) ((lk.mono t).mono t1) q1 λv2 H2 x2 M2 d2 r2 t2 q2=>⟨y,x2,M2,_,(dy.mono t1).mono t2,d2,r2,q2,((eR back).mono t).mono (t1.trans t2)⟩
   |false=>rw[GV Hf]at q1 ⊢;exact⟨false,rfl,back _ _ _ rm1 (t.trans t1) q1⟩
  ·exact q1.elim⟩
noncomputable def vQ(r r' r'':R2)(ta tb tc td:TE):TE:=λσ H Q=>ta σ H λx H1=>tb σ H1 λy H2=>r x y H2 λz H3=>∃k,z=.bl k/\
 (if k=true then tc σ H3 (λw H4=>r' y w H4 λz2 H5=>∃k2,z2=.bl k2/\(if k2=true then td σ H5 λu H6=>r'' w u H6 Q else Q (.bl false) H5)) else Q (.bl false) H3)
theorem su{a b c d:Expr}{ta tb tc td:TE}{op op' op'':CmpOp}{r r' r'':R2}(ho:OpR X (compareOp op) r)(ho':OpR X (compareOp op') r')(ho'':OpR X (compareOp op'') r'')(ha:PE X a ta)(hb:PE X b tb)(hc:PE X c tc)(hd:PE X d td)
  (hm:lastMarks [op,op',op''] [b,c,d]=false):PT X (.Compare a [op,op',op''] [b,c,d] pos) (tM (vQ r r' r'' ta tb tc td)):=by
 intro pins s σ H Q I h;refine isTrue_chain (thn (ha pins s σ H _ I h) λv s1 ⟨x,H1,I1,r1,q1⟩=>test_link (thn (hb pins s1 σ H1 _ I1 q1) λu s2 ⟨y,H2,I2,r2,q2⟩=>
  thn (ho pins s2 σ H2 x y v u _ I2 r1 r2 q2) λd s3 ⟨z,H3,I3,r3,k,e,q3⟩=>?_)) hm
 subst e;cases r3;refine Hx ?_;cases k with
 |false=>
  obtain⟨k',e',q'⟩:=q3;cases e';exact ite_ff ⟨H3,I3,q'⟩
 |true=>
  refine ite_tt (test_link (thn (hc pins s3 σ H3 _ I3 q3) λw' s4 ⟨z',H4,I4,r4,q4⟩=>thn (ho' pins s4 σ H4 y z' u w' _ I4 r2 r4 q4) λd' s5 ⟨z2,H5,I5,r5,k2,e2,q5⟩=>?_))
  subst e2;cases r5;refine Hx ?_;cases k2 with
  |false=>
   obtain⟨k',e',q'⟩:=q5;cases e';exact ite_ff ⟨H5,I5,q'⟩
  |true=>
   refine ite_tt (test_last (thn (hd pins s5 σ H5 _ I5 q5) λw2 s6 ⟨z3,H6,I6,r6,q6⟩=>thn (ho'' pins s6 σ H6 z' z3 w' w2 _ I6 r4 r6 q6) λd2 s7 ⟨z4,H7,I7,r7,k3,e3,q7⟩=>?_))
   subst e3;cases r7;exact Hx ⟨H7,I7,q7⟩
theorem ui{d:Expr}{td:St3->MH->VK3->XN->Prop}{op op' op'':CmpOp}{r r' r'':D->D->MH->VK3->Prop}(ho:VO X (compareOp op) r)(ho':VO X (compareOp op') r')(ho'':VO X (compareOp op'') r'')(ha:PE X a (low X.K cls E2 ta))(hb:PE X b (low X.K cls E2 tb))(hc:PE X c (low X.K cls E2 tc))(hd:PE X d (low X.K cls E2 td))(hm:lastMarks [op,op',op''] [b,c,d]=false) :
  PT X (.Compare a [op,op',op''] [b,c,d] pos) (cH X.K cls E2 λσ M Q E=>ta σ M (λx M1=>tb σ M1 (λy M2=>r x y M2 λz M3=>match z with
   |.bl k=>if k=true then tc σ M3 (λz M4=>r' y z M4 λo M5=>match o with
    |.bl k=>if k=true then td σ M5 (λu M6=>r'' z u M6 (boolQ Q)) E else Q false M5
    |_=>False) E else Q false M3
   |_=>False) E) E):=
 (su ho.op ho'.op ho''.op ha hb hc hd hm).imp λσ H Q2 hl_=>ex9 hl_ λσ3 M Q E3 rm ds lk h back=>mV rm ds lk h λv u H' x y M' dx dy rm' t q=>⟨x,y,M',_,dx,dy,rm',q,λw H1 z M1 dz rm1 t1 q1=>by
  split at q1
  ·rename_i k;refine⟨k,dz,?_⟩;cases k with
   |true=>
    rw[G3 rfl]at q1 ⊢;refine aW rm1 ((ds.mono t).mono t1) ((lk.mono t).mono t1) q1 λv2 H2 x2 M2 d2 r2 t2 q2=>⟨y,x2,M2,_,(dy.mono t1).mono t2,d2,r2,q2,λw3 H3 z3 M3 dz3 rm3 t3 q3=>?_⟩
    split at q3
    ·rename_i k;refine⟨k,dz3,?_⟩;cases k with
     |true=>
      rw[G3 rfl]at q3 ⊢;exact aW rm3 ((((ds.mono t).mono t1).mono t2).mono t3) ((((lk.mono t).mono t1).mono t2).mono t3) q3 λv4 H4 x4 M4 d4 r4 t4 q4=>⟨x2,x4,M4,_,(d2.mono t3).mono t4,d4,r4,q4,(((eR back).mono t).mono (t1.trans t2)).mono (t3.trans t4)⟩
     |false=>rw[GV Hf]at q3 ⊢;exact⟨false,rfl,back _ _ _ rm3 (((t.trans t1).trans t2).trans t3) q3⟩
    ·exact q3.elim
   |false=>rw[GV Hf]at q1 ⊢;exact⟨false,rfl,back _ _ _ rm1 (t.trans t1) q1⟩
  ·exact q1.elim⟩
variable {es:List Expr}{tr:St3->MH->(List D->MH->Prop)->XN->Prop}
theorem eG{K:Ii}{σ:St}{H:Hp}{σ3:St3}{M:MH}{E3:XN}{R3:List D->MH->Prop}{R2:List V->Hp->Prop}(rm:RelM K M H)(ds:DenS K H σ3 σ)(lk:LkE K cls H E3 (E2 σ))(h:tr σ3 M R3 E3)(k:∀vs H' xs M',DenL K H' xs vs->RelM K M' H'->TM K H H'->R3 xs M'->R2 vs H') :
  dI K cls E2 tr σ H R2:=⟨σ3,M,R3,E3,rm,ds,lk,h,k⟩
theorem Ba:PA X [] (dI X.K cls E2 λ_ M Q _=>Q [] M):=pa_nil.imp λσ H Q2 hl_=>ex9 hl_ λσ3 M Q E3 rm ds lk h back=>back _ _ _ _ .nil rm (.refl _) h
theorem AA(ha:PE X e (low X.K cls E2 te))(hr:PA X es (dI X.K cls E2 tr))(hs:starEach (e::es) X.env=(false,eval e X.env)::starEach es X.env) :
  PA X (e::es) (dI X.K cls E2 λσ M Q E=>te σ M (λx M1=>tr σ M1 (λxs M2=>Q (x::xs) M2) E) E):=
 (aM ha hr hs).imp λσ H Q2 hl_=>ex9 hl_ λσ3 M Q E3 rm ds lk h back=>aW rm ds lk h λv H1 x M1 dx rm1 t1 q1=>eG rm1 (ds.mono t1) (lk.mono t1) q1 λvs H2 xs M2 dl rm2 t2 q2=>back _ _ _ _ (.cons (dx.mono t2) dl) rm2 (t1.trans t2) q2
theorem B6{x1}(h:PA X es (dI X.K cls E2 tr)):PE X (.Tuple es x1 pos) (low X.K cls E2 λσ M Q E=>tr σ M (λxs M1=>xs.length<=sizeLine/\Q (.tup xs) M1) E):=
 (zM h).imp λσ H Q2 hl_=>ex9 hl_ λσ3 M Q E3 rm ds lk h back=>eG rm ds lk h λvs H' xs M' dl rm' t ⟨z,q⟩=>⟨by rw[<-dl.length];exact z,λp hp=>
  back _ _ _ _ (lz (.of ae) (dl.mono (.new hp))) (rm'.grow hp) (t.trans (.new hp)) q⟩
theorem Cm{t2:TE}(h:PE X e t2){t:St3->MH->VK3->XN->Prop}{fz:Bool}
  (f:∀σ H σ3 M Q E3 (R2:VK),RelM X.K M H->DenS X.K H σ3 σ->LkE X.K cls H E3 (E2 σ)->t σ3 M Q E3->(∀H' vs ds M' p,H' p=none->DenL X.K H' ds vs->RelM X.K M' H'->TM X.K H H'->eI fz ds M' Q->R2 (.ref p) (upd H' p (.lst vs)))->t2 σ H R2):PE X e (low X.K cls E2 t):=by
 refine λpins s σ H Q2 I hl_=>ex9 hl_ λσ3 M Q E3 rm ds lk q back=>?_
 refine thn (h pins s σ H (λv H1=>∃p H' vs ds M',v=.ref p/\H1=upd H' p (.lst vs)/\H' p=none/\DenL X.K H' ds vs/\RelM X.K M' H'/\TM X.K H H'/\eI fz ds M' Q) I
  (f σ H σ3 M Q E3 _ rm ds lk q λH' vs ds M' p hp dl rm' t' n=>⟨p,H',vs,ds,M',rfl,rfl,hp,dl,rm',t',n⟩)) λu s1 ⟨v,H1,I1,r1,p,H',vs,ds',M',e1,e2,hp,dl,rm',t',n⟩=>?_
 subst e1;subst e2;cases r1;exact de I1 hp dl rm' t' n back
theorem CQ(h:PA X es (dI X.K cls E2 tr)):PE X (.List es pos) (low X.K cls E2 λσ M Q E=>tr σ M (λxs M1=>eI fz xs M1 Q) E):=
 Cm (fz:=fz) (ym h) λσ H σ3 M Q E3 R2 rm ds lk q k=>eG rm ds lk q λvs H' xs M' dl rm' t n=>⟨by rw[<-dl.length];exact n.1,λp hp=>k H' vs xs M' p hp dl rm' t n⟩
theorem yi(hu:X.A.units+64<cLine):IxR X (λv u H Q2=>∃x y M Q,Den X.K H x v/\Den X.K H y u/\RelM X.K M H/\ao x y M Q/\Back X.K H Q Q2):=by
 intro value slice pins s σ H v u v2 u2 Q2 I rv ru ⟨x,y,M,Q,dx,dy,rm,q,back⟩ hs;unfold ao at q;split at q
 ·rename_i es e;split at q
  ·rename_i i;cases (show u=.int i from dy);split at q
   ·rename_i d e2;obtain⟨p,vs,rfl,hq,dl⟩:=g9 rm e dx;obtain⟨w,e4,e5⟩:=vR dl e2;refine zf value slice pins s σ H _ _ v2 u2 Q2 I rv ru ?_ hs;rcases hq with hq|hq
    ·exact .inl ⟨p,vs,i,w,rfl,rfl,hq,e4,back _ _ _ _ e5 rm (.refl _) q⟩
    ·exact .inr (.inl ⟨p,vs,i,w,rfl,rfl,hq,e4,back _ _ _ _ e5 rm (.refl _) q⟩)
   ·exact q.elim
  ·exact q.elim
 ·split at q
  ·rename_i d e;obtain⟨a,ov,rfl,g,od⟩:=gw (X:=X) e rm dx dy;cases rv;cases ov with
   |none=>exact od.elim
   |some w=>exact tail_any (g.isDict I) PySem.F.slot_dict_getitem.lookup (qS (by omega) I g rfl ru λw' s' I' rw'=>⟨w,H,I',rw',back _ _ _ _ od rm (.refl _) q⟩) hs
  ·exact q.elim
  ·split at q
   ·rename_i z i _ _;cases (show v=.str z from dx);cases (show u=.int i from dy);obtain⟨t,rfl⟩:=rv;obtain⟨t',rfl⟩:=ru;obtain⟨⟨h0,h1,h63⟩,q⟩:=q;have e:seqIndex? i z.length=some i.toNat:=PySem.StrLaws.seqIndex_nonneg h0 h1;have hz:i.toNat<z.cps.size:=by
     have:(i:Int)<(z.cps.size:Int):=h1;omega
    have hc:z.cps[i.toNat]?=some (z.cps.getD i.toNat 0):=by simp[hz]
    exact tail_any (typeIs_str s z t) slot_str_getitem.lookup (getItem_str (c:=z.cps.getD i.toNat 0) (by
     rw[Hw (by omega:¬ i < -(2 ^ 63:Int)),Hw (by omega:¬ i>=2 ^ 63)];rfl) (by rw[e];exact hc) ⟨.str (xG z i.toNat),H,I.tok _,⟨_,rfl⟩,back _ _ _ _ iU rm (.refl _) q⟩) hs
   ·exact q.elim
theorem E7(hu:X.A.units+64<cLine)(ha:PE X a (low X.K cls E2 ta))(hb:PE X b (low X.K cls E2 tb))(hs:mn b):PE X (.Subscript a b pos) (low X.K cls E2 λσ M Q E=>ta σ M (λx M1=>tb σ M1 (λy M2=>ao x y M2 Q) E) E):=
 (Ck (yi hu) ha hb hs).imp λσ H Q2 hl_=>ex9 hl_ λσ3 M Q E3 rm ds lk h back=>mV rm ds lk h λv u H' x y M' dx dy rm' t q=>⟨x,y,M',Q,dx,dy,rm',q,back.mono t⟩
variable {lo hi:Option Expr}{tl th:St3->MH->(Option Int->MH->Prop)->XN->Prop}{p2:Pos}
theorem Eh:PO X none (sF X.K cls E2 λ_ M Q _=>Q none M):=po_none.imp λσ H Q2 hl_=>ex9 hl_ λσ3 M Q E3 rm ds lk h back=>back _ _ _ rm (.refl _) h
theorem BA(h:PE X e (low X.K cls E2 te)):PO X (some e) (sF X.K cls E2 λσ M Q E=>te σ M (λx M1=>match x with|.int i=>Q (some i) M1|_=>False) E):=
 (xB h).imp λσ H Q2 hl_=>ex9 hl_ λσ3 M Q E3 rm ds lk h back=>aW rm ds lk h λv H1 x M1 dx rm1 t1 q1=>by
  split at q1
  ·exact⟨_,dx,back _ _ _ rm1 t1 q1⟩
  ·exact q1.elim
theorem xN{t:St3->MH->(Option Int->MH->Prop)->XN->Prop}{K:Ii}{σ:St}{H:Hp}{σ3:St3}{M:MH}{E3:XN}{R3:Option Int->MH->Prop}{R2:Option Int->Hp->Prop}(rm:RelM K M H)(ds:DenS K H σ3 σ)(lk:LkE K cls H E3 (E2 σ))(h:t σ3 M R3 E3)(k:∀o H' M',RelM K M' H'->TM K H H'->R3 o M'->R2 o H') :
  sF K cls E2 t σ H R2:=⟨σ3,M,R3,E3,rm,ds,lk,h,k⟩
theorem CB(ha:PE X a (low X.K cls E2 ta))(hb:PE X b (low X.K cls E2 tb)) :
  PE X (.BinOp a .Add b pos) (low X.K cls E2 λσ M Q E=>ta σ M (λx M1=>tb σ M1 (λy M2=>jV fz x y M2 Q) E) E):=CF (yu fz) ha hb
theorem AR(h:PE X e (low X.K cls E2 te)):PE X e (low X.K cls E2 λσ M Q E=>te σ M (aY Q) E):=by
 refine λpins s σ H Q2 I hl_=>ex9 hl_ λσ3 M Q E3 rm ds lk q back=>?_
 refine thn (h pins s σ H (λv H1=>∃d M1,Den X.K H1 d v/\RelM X.K M1 H1/\TM X.K H H1/\aY Q d M1) I ⟨σ3,M,_,E3,rm,ds,lk,q,λv H' d M' a b c e=>⟨d,M',a,b,c,e⟩⟩) λu s1 ⟨v,H1,I1,r1,d,M1,dv,rm1,t1,q1⟩=>?_
 obtain⟨H2,M2,d2,I2,t2,rm2,dv2,q2⟩:=lU I1 rm1 dv q1;exact⟨v,H2,I2,r1,back _ _ _ _ dv2 rm2 (t1.trans t2) q2⟩
theorem zj(h:PE X e (low X.K cls E2 te)):PE X e (low X.K cls E2 λσ M Q E=>te σ M (fM Q) E):=by
 refine λpins s σ H Q2 I hl_=>ex9 hl_ λσ3 M Q E3 rm ds lk q back=>?_
 refine thn (h pins s σ H (λv H1=>∃d M1,Den X.K H1 d v/\RelM X.K M1 H1/\TM X.K H H1/\fM Q d M1) I ⟨σ3,M,_,E3,rm,ds,lk,q,λv H' d M' a b c e=>⟨d,M',a,b,c,e⟩⟩) λu s1 ⟨v,H1,I1,r1,d,M1,dv,rm1,t1,q1⟩=>?_
 have q1:aY Q d M1:=by
  unfold fM at q1;split at q1
  ·split at q1
   ·rename_i a ds' e;simp only[aY,e];exact q1
   ·exact q1.elim
  ·exact q1.elim
 obtain⟨H2,M2,d2,I2,t2,rm2,dv2,q2⟩:=lU I1 rm1 dv q1;exact⟨v,H2,I2,r1,back _ _ _ _ dv2 rm2 (t1.trans t2) q2⟩
end
section
variable {X:Cx}
end
theorem sY{K:Ii}(h:CX1 P w outer H s (λc d H'=>TM K H H'->E c d H') e s'):CX1 P w outer H s E e s':=by
 obtain⟨a,cls,B,H',dx,h1,h2,h3,un,hok,fl,ha,inc,he⟩:=h;exact⟨a,cls,B,H',dx,h1,h2,h3,un,hok,fl,ha,inc,he (.un un.tups un.frzs)⟩
section
variable {X:Cx}{cls:Nat->Addr}{E2:St->XK}{k:Nat}{f:Addr}{fd:FuncData}{ps:List Str}{x:Str}{p pos:Pos}{e:Expr}{es:List Expr}{tr:St3->MH->(List D->MH->Prop)->XN->Prop}{t3:List D->MH->VK3->XN->Prop}
noncomputable def spX(K:Ii)(cls:Nat->Addr)(t3:List D->MH->VK3->XN->Prop):Sp:=λvs H Q E=>∃ds M Q3 E3,DenL K H ds vs/\RelM K M H/\t3 ds M Q3 E3/\Back K H Q3 Q/\LkE K cls H E3 E
def BdT(K:Ii)(cls:Nat->Addr)(fd:FuncData)(ps:List Str)(t3:List D->MH->VK3->XN->Prop)(sp:Sp):Prop:=∀vs H Q E,spX K cls t3 vs H Q E->∃dvs ds,Vals dvs ds/\Binds K fd ps ds/\sp (vs++dvs) H Q E
theorem gG(F:FnOk X.prog X.w X.K X.mg X.base (CX1 X.prog X.w) k f fd ps sp)(hr:Room k X.A)(hb:BdT X.K cls fd ps t3 sp)(hx:aQ (CX1 X.prog X.w) X E2)
  (I:Inv X pins σ H s)(r:Vals vs us) (h:spX X.K cls t3 vs H Q (λc d H'=>TM X.K H H'->E2 σ c d H')):wpAny (model X.prog X.w) X.A (call (.ref f) us) (EP X pins σ Q) X.xe s:=by
 obtain⟨dvs,dsv,hv,bd,h'⟩:=hb _ _ _ _ h;have r2:Vals (vs++dvs) (us++dsv):=r.append hv;have hl:(us++dsv).length=ps.length:=by rw[<-r2.length];exact F.len _ _ _ _ h'
 refine wpAny_call (codeAny_mono (F.run X.A X.stack s H ⟨us,[]⟩ (us++dsv) (vs++dvs) Q _ hr I.env0 (bd s us I.kIn hl) r2 h') λz s' hq=>?_)
 match z,hq with
 |.error e,hq=>exact hx pins σ H s e s' I (sY hq)
 |.ok (.ret u),hq=>exact I.after hq
 |.ok .next,hq=>exact hq.elim
 |.ok .brk,hq=>exact hq.elim
 |.ok .cont,hq=>exact hq.elim
theorem i5{σ:St}{H:Hp}{xs:List D}{vs:List V}{M:MH}{Q:VK3}{Q2:VK}{E3:XN}(dl:DenL X.K H xs vs)(rm:RelM X.K M H)(lk:LkE X.K cls H E3 (E2 σ))(q:t3 xs M Q E3)(back:Back X.K H Q Q2) :
  spX X.K cls t3 vs H Q2 (λc d H'=>TM X.K H H'->E2 σ c d H'):=
 ⟨xs,M,Q,E3,dl,rm,q,back,λi M' H' t rm' q dx xd _=>lk i M' H' t rm' q dx xd⟩
theorem zk(F:FnOk X.prog X.w X.K X.mg X.base (CX1 X.prog X.w) k f fd ps sp)(hr:Room k X.A)(hg:Gl X x)(hm:X.mg x=some (.ref f))(hk:PySem.W.keepIn X.K (.ref f)=true)(hb:BdT X.K cls fd ps t3 sp)(hx:aQ (CX1 X.prog X.w) X E2)
  (ha:PA X (e::es) (dI X.K cls E2 tr)) (hdb:(x == ("__debug__" : Str))=false) (he:starEach (e::es) X.env=(false,eval e X.env)::starEach es X.env) (hpl:(backTo pos (starEach es X.env)).any (·.1)=false) :
  PE X (.Call (.Name x p) (e::es) [] pos) (low X.K cls E2 λσ M Q E=>tr σ M (λxs M1=>t3 xs M1 Q E) E):=λpins s σ H Q2 I hl_=>ex9 hl_ λσ3 M Q E3 rm ds lk h back=>
 wpAny_Call_Name_kw (bQ I hg hm (PySem.W.callWith_K (h₀:=X.base) I.ok.mod.kin hk (thn (ha pos pins s σ H _ I (eG (R2:=λvs H1=>spX X.K cls t3 vs H1 Q2 (λc d H'=>TM X.K H1 H'->E2 σ c d H')) rm ds lk h
  λvs H1 xs M1 dl rm1 t1 q1=>i5 dl rm1 (lk.mono t1) q1 (back.mono t1))) λus s1 ⟨vs,H1,I1,r,q⟩=>⟨I1.kIn,gG F hr hb hx I1 r q⟩) he hpl) hdb)
theorem wt(F:FnOk X.prog X.w X.K X.mg X.base (CX1 X.prog X.w) k f fd ps sp)(hr:Room k X.A)(hg:Gl X x)(hm:X.mg x=some (.ref f))(hk:PySem.W.keepIn X.K (.ref f)=true)(hb:BdT X.K cls fd ps t3 sp)(hx:aQ (CX1 X.prog X.w) X E2)(hdb:(x == ("__debug__" : Str))=false) :
  PE X (.Call (.Name x p) [] [] pos) (low X.K cls E2 λσ M Q E=>t3 [] M Q E):=λpins s σ H Q2 I hl_=>ex9 hl_ λσ3 M Q E3 rm ds lk h back=>
 wpAny_Call_Name_kw (bQ I hg hm (PySem.W.callWith_K0 I.kIn hk (gG (us:=[]) F hr hb hx I .nil (i5 (xs:=[]) .nil rm lk h back))) hdb)
theorem gz{id:String}(hc:VC X (.builtin id) r)(hg:Gl X x)(hm:X.mg x=none)(hv:bootBuiltins x=some (.builtin id))(ha:PA X (e::es) (dI X.K cls E2 tr))(hn:x≠"__name__")(hdb:(x == ("__debug__" : Str))=false)
  (he:starEach (e::es) X.env=(false,eval e X.env)::starEach es X.env) (hpl:(backTo pos (starEach es X.env)).any (·.1)=false):PE X (.Call (.Name x p) (e::es) [] pos) (low X.K cls E2 λσ M Q E=>tr σ M (λxs M1=>r xs M1 Q) E):=
 (d8 hc.op hg hm hv ha hn hdb he hpl).imp λσ H Q2 hl_=>ex9 hl_ λσ3 M Q E3 rm ds lk h back=>eG rm ds lk h λvs H1 xs M1 dl rm1 t1 q1=>⟨xs,M1,Q,dl,rm1,q1,back.mono t1⟩
theorem vJ(hc:VC X (.type T) r)(hg:Gl X x)(hm:X.mg x=none)(hv:bootBuiltins x=some (.type T))(ha:PA X (e::es) (dI X.K cls E2 tr))(hn:x≠"__name__")(hdb:(x == ("__debug__" : Str))=false)
  (he:starEach (e::es) X.env=(false,eval e X.env)::starEach es X.env) (hpl:(backTo pos (starEach es X.env)).any (·.1)=false):PE X (.Call (.Name x p) (e::es) [] pos) (low X.K cls E2 λσ M Q E=>tr σ M (λxs M1=>r xs M1 Q) E):=
 (kH hc.op hg hm hv ha hn hdb he hpl).imp λσ H Q2 hl_=>ex9 hl_ λσ3 M Q E3 rm ds lk h back=>eG rm ds lk h λvs H1 xs M1 dl rm1 t1 q1=>⟨xs,M1,Q,dl,rm1,q1,back.mono t1⟩
noncomputable def bX:BT->String
 |.int=>"int"|.bool=>"bool"|.str=>"str"|.tuple=>"tuple"|.list=>"list"|.dict=>"dict"
theorem yf{pins:List (Addr×Obj)}{σ:St}{H:Hp}{s:Shared}{A:Around}{Ex:Value->Shared->Prop}{t:BT}{x:D}{v:V}{v2:Value}{M:MH}{Q:VK3}{Q2:VK}(I:Inv X pins σ H s)(rv:RelV v v2)(dx:Den X.K H x v)(rm:RelM X.K M H)(q:j9 t x M Q)(back:Back X.K H Q Q2) :
  wpAny (model X.prog X.w) A (call (.builtin "isinstance") [v2,.type (bX t)]) (EP X pins σ Q2) Ex s:=by
 refine eN I.tk ?_;have fin:∀b,Q (.bl b) M->∀tk,0<tk->EP X pins σ Q2 (.bool b) {s with toks:=tk}:=λb q tk _=>⟨.bl b,H,I.tok _,rfl,back _ _ _ _ bb rm (.refl _) q⟩
 cases x with
 |non=>cases (show v=.non from dx);cases rv;cases t<;>exact PySem.W.kia_one PySem.W.kitx_none I.kIn True.intro rfl (λz=>nomatch z) (fin _ q)
 |bl b=>cases (show v=.bl b from dx);cases rv;cases t<;>exact PySem.W.kia_one PySem.W.kitx_bool I.kIn True.intro rfl (λz=>nomatch z) (fin _ q)
 |int i=>cases (show v=.int i from dx);obtain⟨tk,rfl⟩:=rv;cases t<;>exact PySem.W.kia_one PySem.W.kitx_int I.kIn True.intro rfl (λz=>nomatch z) (fin _ q)
 |str i=>cases (show v=.str i from dx);obtain⟨tk,rfl⟩:=rv;cases t<;>exact PySem.W.kia_one PySem.W.kitx_str I.kIn True.intro rfl (λz=>nomatch z) (fin _ q)
 |tup ds=>
  obtain⟨a,vs,rfl,sq,_⟩:=dx;cases rv;obtain⟨its,_,tt,_⟩:=I.tuple sq;obtain⟨o,h1,h2,_⟩:=(show s.heap.IsTuple a its.toArray from tt);cases t<;>exact PySem.W.kia_one PySem.W.kitx_tuple I.kIn ⟨o,h1,h2⟩ rfl (λz=>nomatch z) (fin _ q)
 |rol ds=>
  obtain⟨a,vs,rfl,sq,_⟩:=dx;cases rv;obtain⟨_,its,n,_,_,h1⟩:=I.rdL sq.rd;cases t<;>exact PySem.W.kia_one PySem.W.kitx_list I.kIn ⟨_,h1,rfl⟩ rfl (λz=>nomatch z) (fin _ q)
 |ref a=>
  cases (show v=.ref a from dx);cases rv;simp only[j9]at q;split at q
  ·rename_i ds e;obtain⟨vs,e1,_⟩:=rm a _ e;obtain⟨_,its,n,_,_,h1⟩:=I.rdL (.inl (.inl e1));cases t<;>exact PySem.W.kia_one PySem.W.kitx_list I.kIn ⟨_,h1,rfl⟩ rfl (λz=>nomatch z) (fin _ q)
  ·rename_i ks ds e;obtain⟨vs,e1,_,_⟩:=rm a _ e;obtain⟨_,_,_,_,o,_,_,h1,h2,_⟩:=I.hok a _ e1;cases t<;>exact PySem.W.kia_one PySem.W.kitx_dict I.kIn ⟨o,h1,h2.1⟩ rfl (λz=>nomatch z) (fin _ q)
  ·rename_i ks ds e;obtain⟨vs,xs,e1,_⟩:=rm a _ e;obtain⟨⟨o,es,ep,h1,h2,_⟩,_⟩:=(show ObjOk X.prog X.w H s.heap a (.ext (aV a xs)) from I.hok a _ e1);cases t<;>exact PySem.W.kia_one PySem.W.kitx_dict I.kIn ⟨o,h1,h2.1⟩ rfl (λz=>nomatch z) (fin _ q)
  ·exact q.elim
 |dik ks ds=>
  obtain⟨a,vs,ob,rfl,e1,_⟩:=dx;cases rv;obtain⟨_,_,_,ws,_,p⟩:=(show ObjOk X.prog X.w H s.heap a (.frz ob (.dK (ks.zip vs))) from I.hok a _ e1);obtain⟨o,es,ep,h1,h2,_⟩:=p;cases t<;>exact PySem.W.kia_one PySem.W.kitx_dict I.kIn ⟨o,h1,h2.1⟩ rfl (λz=>nomatch z) (fin _ q)
 |dit ks ds=>
  obtain⟨a,vs,ob,xs,rfl,e1,_⟩:=dx;cases rv;obtain⟨_,⟨o,es,ep,h1,h2,_⟩,_⟩:=(show ObjOk X.prog X.w H s.heap a (.frz ob (.ext (aV a xs))) from I.hok a _ e1);cases t<;>exact PySem.W.kia_one PySem.W.kitx_dict I.kIn ⟨o,h1,h2.1⟩ rfl (λz=>nomatch z) (fin _ q)
 |obj i C ns ds=>exact (show False from q).elim
theorem CY(ha:PE X e (low X.K cls E2 te))(hg:Gl X "isinstance")(hm:X.mg "isinstance"=none)(hg2:Gl X (bX t))(hm2:X.mg (bX t)=none)(hs:starEach (e::[.Name (bX t) p2]) X.env=(false,eval e X.env)::starEach [.Name (bX t) p2] X.env) :
  PE X (.Call (.Name "isinstance" p) [e,.Name (bX t) p2] [] pos) (low X.K cls E2 λσ M Q E=>te σ M (λx M1=>j9 t x M1 Q) E):=by
 have hT:PE X (.Name (bX t) p2) (tC (.ty (bX t))):=by
  cases t<;>exact qN hg2 hm2 (by decide +kernel) rfl
 have hc:CallR X (.builtin "isinstance") (λvs H Q2=>∃x v M Q,vs=[v,.ty (bX t)]/\Den X.K H x v/\RelM X.K M H/\j9 t x M Q/\Back X.K H Q Q2):=by
  refine λpins s σ H vs us Q2 I r hl_=>ex9 hl_ λx v M Q e dx rm q back=>?_
  subst e;obtain⟨u,w,rfl,ru,rw⟩:=Vals.two r;cases (show w=Value.type (bX t) from rw);exact yf I ru dx rm q back
 refine (d8 hc hg hm (by decide +kernel) (aM ha (aM hT pa_nil (by rfl)) hs) (by decide +kernel) (by decide +kernel) hs (by rfl)).imp λσ H Q2 hl_=>ex9 hl_ λσ3 M Q E3 rm ds lk h back=>?_
 exact aW rm ds lk h λv H1 x M1 dx rm1 t1 q1=>⟨x,v,M1,Q,rfl,dx,rm1,q1,back.mono t1⟩
end
section
variable {X:Cx}
theorem yA{K:Ii}(sq:SqT K H0 p vs)(dl:DenL K H0 ds vs):ItOk K H0 (Itt K p) ds (λ_=>True):=by
 refine⟨λi H M t rm s hi=>?_,λi H M x H' t rm s hi y=>?_,λH M t rm s=>?_⟩
 ·have hi':i<vs.length:=by rw[<-dl.length];exact hi
  exact⟨vs,vs[i],t.t _ _ sq,by simp[hi']⟩
 ·obtain⟨e,y⟩:=y;subst e;obtain⟨d,e1,e2⟩:=(dl.mono t).get' (y vs (t.t _ _ sq));exact⟨.refl _,rm,d,e1,e2⟩
 ·exact⟨vs,t.t _ _ sq,by rw[dl.length];exact GZ _⟩
theorem AB{K:Ii}(sq:SqF K H0 p vs)(dl:DenL K H0 ds vs):ItOk K H0 (Itl K p) ds (λ_=>True):=by
 refine⟨λi H M t rm s hi=>?_,λi H M x H' t rm s hi y=>?_,λH M t rm s=>?_⟩
 ·have hi':i<vs.length:=by rw[<-dl.length];exact hi
  exact⟨vs,vs[i],(t.f _ _ sq).sq,by simp[hi']⟩
 ·obtain⟨e,y⟩:=y;subst e;obtain⟨d,e1,e2⟩:=(dl.mono t).get' (y vs (t.f _ _ sq).sq);exact⟨.refl _,rm,d,e1,e2⟩
 ·exact⟨vs,(t.f _ _ sq).sq,by rw[dl.length];exact GZ _⟩
theorem yJ{K:Ii}:ItOk K H0 (Itl K p) ds (λM=>M p=some (.lst ds)):=by
 refine⟨λi H M t rm s hi=>?_,λi H M x H' t rm s hi y=>?_,λH M t rm s=>?_⟩
 ·obtain⟨vs,e,dl⟩:=rm p _ s;have hi':i<vs.length:=by rw[<-dl.length];exact hi
  exact⟨vs,vs[i],.of e,by simp[hi']⟩
 ·obtain⟨vs,e,dl⟩:=rm p _ s;obtain⟨e',y⟩:=y;subst e';obtain⟨d,e1,e2⟩:=dl.get' (y vs (.of e));exact⟨.refl _,rm,d,e1,e2⟩
 ·obtain⟨vs,e,dl⟩:=rm p _ s;exact⟨vs,.of e,by rw[dl.length];exact GZ _⟩
theorem k8{qb:Bool}(I:Inv X pins σ H s)(hq:SqL X.K H a xs)(q:R (Itl X.K a) H):wpAny (model X.prog X.w) X.A (pyIter (.ref a)) (yz qb X pins σ tg R) Ex s:=by
 obtain⟨its,rv,p,hz⟩:=I.list hq;refine wpAny_pyIter_list p.isList ?_;refine⟨s.heap.objs.size,[s.heap.objs.size],_,_,H,rfl,I.kept (t':=s.toks) λb o e=>GX _ e,rL a _,⟨_,G4 _ rfl,rfl,rfl⟩,λb hb=>?_,q⟩
 have e:b=s.heap.objs.size:=by simpa using hb
 subst e;exact I.fpOk (GZ _) (I.hok.fresh (GZ _))
theorem vn(I:Inv X pins σ H s)(hq:SqT X.K H a xs)(q:R (Itt X.K a) H):wpAny (model X.prog X.w) X.A (pyIter (.ref a)) (PIE X pins σ tg R) Ex s:=by
 obtain⟨its,rv,p,hz⟩:=I.tuple hq;refine wpAny_pyIter_tuple (show s.heap.IsTuple a its.toArray from p) ?_;refine⟨s.heap.objs.size,[s.heap.objs.size],_,_,H,rfl,I.kept (t':=s.toks) λb o e=>GX _ e,oY a _,⟨_,G4 _ rfl,rfl,rfl⟩,λb hb=>?_,q⟩
 have e:b=s.heap.objs.size:=by simpa using hb
 subst e;exact I.fpOk (GZ _) (I.hok.fresh (GZ _))
noncomputable def vV(z:Str):It:=⟨λi _=>i<z.cps.size,λi H x H'=>H'=H/\∃c,z.cps[i]?=some c/\x=.str ⟨#[c]⟩,λi _=>z.cps.size<=i⟩
theorem vm{K:Ii}(it:Addr)(z:Str)(t:Tok)(ty:String)(hty:ty = "str_ascii_iterator"\/ty = "str_iterator"):Turn P w K tg (vV z) [it] it (λi h=>h.IsStrIter it ty z t i) where
 mem:=by simp
 obj:=λi h st b hb=>by
  have e:b=it:=by simpa using hb
  subst e;obtain⟨o,e,c,d⟩:=st;exact⟨o,e,λv z=>by rw[d]at z;cases z⟩
 keep:=λi h h' st k=>let ⟨o,e,r⟩:=st;⟨o,k it (by simp) o e,r⟩
 item:=by
  intro X hP hw hK hc i pins s σ H E I hf st hg;subst hP hw hK;have hi:i<z.cps.size:=hg;obtain⟨f0,f1,f2,f3,f4,f5⟩:=hf it (by simp)
  have hx:z.cps[i]?=some z.cps[i]:=by simp[hi]
  have fin:∀h':Heap,h'.IsStrIter it ty z t (i+1)->Heap.SameBut it s.heap h'->∃u,some (Value.str ⟨#[z.cps[i]]⟩ s.toks)=some u/\wpAny (model X.prog X.w) X.A (letOwnedTupleGo tg (.ref it) u) (λ_ s2=>∃x H',Inv X pins σ H' s2/\RelV x u/\(vV z).yld i H x H'/\s2.heap.IsStrIter it ty z t (i+1)/\∀b∈[it],H' b=none) E {s with heap:=h',toks:=s.toks+1}:=λh' st' sb=>by
   have I1:Inv X pins σ H {s with heap:=h',toks:=s.toks+1}:=I.turned (t':=s.toks+1) (λb o hb e=>(sb.2 b hb).trans e) f0 f1 f3 f4 f5
   obtain⟨o,e,c,d⟩:=id st';exact⟨_,rfl,qg (s:={s with heap:=h',toks:=s.toks+1}) e c d (by rcases hty with rfl|rfl<;>decide) ⟨.str ⟨#[z.cps[i]]⟩,H,I1,⟨_,rfl⟩,⟨rfl,_,hx,rfl⟩,st',λb hb=>(hf b hb).1⟩⟩
  rcases hty with rfl|rfl
  ·exact wpAny_pyNext_ascii_item st hx fin
  ·exact wpAny_pyNext_wide_item st hx fin
 done:=by
  intro X hP hw hK hc i pins s σ H E I hf st hg;subst hP hw hK;obtain⟨f0,f1,f2,f3,f4,f5⟩:=hf it (by simp)
  have hx:z.cps[i]?=none:=by simpa using (show z.cps.size<=i from hg)
  rcases hty with rfl|rfl
  ·exact wpAny_pyNext_ascii_end (I.ok.hd hc) st hx λh' eb=>⟨rfl,I.turned (t':=s.toks) (λb o hb e=>eb b o hb e) f0 f1 f3 f4 f5⟩
  ·exact wpAny_pyNext_wide_end (I.ok.hd hc) st hx λh' eb=>⟨rfl,I.turned (t':=s.toks) (λb o hb e=>eb b o hb e) f0 f1 f3 f4 f5⟩
 self:=λ_ _ _ _ _ st h=>by
  rcases hty with rfl|rfl
  ·exact wpAny_pyIter_striter_ascii st h
  ·exact wpAny_pyIter_striter_wide st h
theorem zK{K:Ii}:ItOk K H0 (vV z) (iB z) (λ_=>True):=by
 have hl:(iB z).length=z.cps.size:=by simp[iB]
 refine⟨λi H M t rm s hi=>by rw[hl]at hi;exact hi,λi H M x H' t rm s hi y=>?_,λH M t rm s=>by show z.cps.size<=_;rw[hl];exact GZ _⟩
 obtain⟨rfl,c,hc,rfl⟩:=y;exact⟨.refl _,rm,.str ⟨#[c]⟩,by simp[iB,hc],rfl⟩
theorem uZ{X:Cx}(I:Inv X pins σ H s)(q:R (vV z) H):wpAny (model X.prog X.w) X.A (pyIter (.str z t)) (PIE X pins σ tg R) X.xe s:=by
 have go:∀ty:String,(ty = "str_ascii_iterator"\/ty = "str_iterator")->PIE X pins σ tg R (.ref s.heap.objs.size) {s with heap:=s.heap.push {cls:=.type ty,data:=.fields #[.str z t,.int 0 0]}}:=λty hty=>
  ⟨s.heap.objs.size,[s.heap.objs.size],_,_,H,rfl,I.kept (t':=s.toks) (λb o e=>GX _ e),vm s.heap.objs.size z t ty hty,⟨_,G4 _ rfl,rfl,rfl⟩,λb hb=>by
   have e':b=s.heap.objs.size:=by simpa using hb
   subst e';exact I.fpOk (GZ _) (I.hok.fresh (GZ _)),q⟩
 cases ha:z.cps.all (· < 128)
 ·exact wpAny_pyIter_wide ha (go _ (.inr rfl))
 ·exact wpAny_pyIter_ascii ha (go _ (.inl rfl))
theorem A7(hl:PE X l (low X.K cls E2 te)):PI X tg l (ka X.K cls E2 λσ M R E=>te σ M (λx M1=>match x with
  |.tup ds=>R ds (λ_=>True) M1
  |.rol ds=>R ds (λ_=>True) M1
  |.ref a=>match M1 a with
   |some (.lst ds)=>R ds (λM=>M a=some (.lst ds)) M1
   |_=>False
  |.str z=>R (iB z) (λ_=>True) M1
  |_=>False) E):=by
 refine λpins s σ H R2 I hl_=>ex9 hl_ λσ3 M R E3 rm ds lk h k=>?_
 refine thn (hl pins s σ H _ I ⟨σ3,M,_,E3,rm,ds,lk,h,λv H' d M' a b c e=>(⟨d,M',a,b,c,e⟩:(λv H'=>∃d M',Den X.K H' d v/\RelM X.K M' H'/\TM X.K H H'/\(match d with
  |.tup ds=>R ds (λ_=>True) M'
  |.rol ds=>R ds (λ_=>True) M'
  |.ref a=>match M' a with
   |some (.lst ds)=>R ds (λM=>M a=some (.lst ds)) M'
   |_=>False
  |.str z=>R (iB z) (λ_=>True) M'
  |_=>False)) v H')⟩) λu s1 ⟨v,H1,I1,r1,d,M1,dv,rm1,t1,q1⟩=>?_
 split at q1
 ·obtain⟨p,vs,rfl,sq,dl⟩:=dv;cases r1;exact vn I1 sq (k _ _ _ _ _ (yA sq dl) rm1 t1 q1)
 ·obtain⟨p,vs,rfl,sq,dl⟩:=dv;cases r1;exact k8 I1 sq.sq (k _ _ _ _ _ (AB sq dl) rm1 t1 q1)
 ·rename_i a;cases (show v=.ref a from dv);cases r1;split at q1
  ·rename_i ds' e;obtain⟨vs,e1,dl⟩:=rm1 a _ e;exact k8 I1 (.of e1) (k _ _ _ _ _ yJ rm1 t1 q1)
  ·exact q1.elim
 ·rename_i z;cases (show v=.str z from dv);obtain⟨tt,rfl⟩:=r1;exact uZ I1 (k _ _ _ _ _ zK rm1 t1 q1)
 ·exact q1.elim
theorem EB(hg:Gl X "range")(hm:X.mg "range"=none)(ha:PE X a (low X.K cls E2 ta))(hs:starEach [a] X.env=[(false,eval a X.env)]):PI X tg (.Call (.Name "range" p) [a] [] pos) (ka X.K cls E2 λσ M R E=>ta σ M (λx M1=>match x with
  |.int j=>-(2 ^ 62)<=j/\j<2 ^ 62/\R (rng 0 j.toNat) (λ_=>True) M1
  |_=>False) E):=
 (rG hg hm (aM ha pa_nil hs) hs).imp λσ H R2 hl_=>ex9 hl_ λσ3 M R E3 rm ds lk h k=>aW rm ds lk h λv H1 x M1 dx rm1 t1 q1=>by
  split at q1
  ·rename_i j;cases (show v=.int j from dx);exact⟨j,rfl,q1.1,q1.2.1,k _ _ _ _ _ AC rm1 t1 q1.2.2⟩
  ·exact q1.elim
end
section
variable {X:Cx}
theorem tW(hX:∀i,i<ne->ExcI X.K (cls i)/\PySem.W.kitOne X.K (.ref (cls i)) cv=some (r i))
  (I:Inv X pins σ H s)(rv:RelV v v2)(dx:Den X.K H x v)(rm:RelM X.K M H)(q:iG ne cls r x M Q)(back:Back X.K H Q Q2) :
  wpAny (model X.prog X.w) A (call (.builtin "isinstance") [v2,cv]) (EP X pins σ Q2) Ex s:=by
 unfold iG at q;split at q
 ·rename_i a;cases (show v=.ref a from dx);cases rv;split at q
  ·rename_i i w e;obtain⟨hi,rfl,q⟩:=q;obtain⟨h1,h2⟩:=hX i.c hi;obtain⟨o0,dx0,e0,_⟩:=rm a _ e;have ho:=I.hok _ _ e0;obtain⟨_,⟨o,vs,g1,g2,_⟩,_,_⟩:=ho;exact eN I.tk <| PySem.W.kia_one (u8 h1) I.kIn ⟨o,g1,g2⟩ h2 (λz=>nomatch z) λtk _=>⟨.bl _,H,I.tok _,rfl,back _ _ _ _ bb rm (.refl _) q⟩
  ·exact q.elim
 ·exact q.elim
theorem Cz(ha:PE X e (low X.K cls E2 te))(hg:Gl X "isinstance")(hm:X.mg "isinstance"=none)(hg2:Gl X x)(hm2:X.mg x=some (.ref (cls j)))(hdb:(x == ("__debug__" : Str))=false)
  (hX:∀i,i<ne->ExcI X.K (cls i)/\PySem.W.kitOne X.K (.ref (cls i)) (.ref (cls j))=some (r i)) (hs:starEach (e::[.Name x p2]) X.env=(false,eval e X.env)::starEach [.Name x p2] X.env) :
  PE X (.Call (.Name "isinstance" p) [e,.Name x p2] [] pos) (low X.K cls E2 λσ M Q E=>te σ M (λx M1=>iG ne cls r x M1 Q) E):=by
 have hT:PE X (.Name x p2) (tC (.ref (cls j))):=iP hg2 hm2 rfl hdb;have hc:CallR X (.builtin "isinstance") (λvs H Q2=>∃x v M Q,vs=[v,.ref (cls j)]/\Den X.K H x v/\RelM X.K M H/\iG ne cls r x M Q/\Back X.K H Q Q2):=by
  intro pins s σ H vs us Q2 I r ⟨x,v,M,Q,e,dx,rm,q,back⟩;subst e;obtain⟨u,w,rfl,ru,rw⟩:=Vals.two r;cases (show w=Value.ref (cls j) from rw);exact tW hX I ru dx rm q back
 refine (d8 hc hg hm (by decide +kernel) (aM ha (aM hT pa_nil (by rfl)) hs) (by decide +kernel) (by decide +kernel) hs (by rfl)).imp λσ H Q2 hl_=>ex9 hl_ λσ3 M Q E3 rm ds lk h back=>?_
 exact aW rm ds lk h λv H1 x M1 dx rm1 t1 q1=>⟨x,v,M1,Q,rfl,dx,rm1,q1,back.mono t1⟩
theorem By(ha:PE X e (low X.K cls E2 te))(hg:Gl X "isinstance")(hm:X.mg "isinstance"=none)(hg2:Gl X "ValueError")(hm2:X.mg "ValueError"=none)
  (hX:∀i,i<ne->ExcI X.K (cls i)/\PySem.W.kitOne X.K (.ref (cls i)) (.type "ValueError")=some (r i)) (hs:starEach (e::[.Name "ValueError" p2]) X.env=(false,eval e X.env)::starEach [.Name "ValueError" p2] X.env) :
  PE X (.Call (.Name "isinstance" p) [e,.Name "ValueError" p2] [] pos) (low X.K cls E2 λσ M Q E=>te σ M (λx M1=>iG ne cls r x M1 Q) E):=by
 have hT:PE X (.Name "ValueError" p2) (tC (.ty "ValueError")):=qN hg2 hm2 (by decide +kernel) rfl
 have hc:CallR X (.builtin "isinstance") (λvs H Q2=>∃x v M Q,vs=[v,.ty "ValueError"]/\Den X.K H x v/\RelM X.K M H/\iG ne cls r x M Q/\Back X.K H Q Q2):=by
  intro pins s σ H vs us Q2 I r ⟨x,v,M,Q,e,dx,rm,q,back⟩;subst e;obtain⟨u,w,rfl,ru,rw⟩:=Vals.two r;cases (show w=Value.type "ValueError" from rw);exact tW hX I ru dx rm q back
 refine (d8 hc hg hm (by decide +kernel) (aM ha (aM hT pa_nil (by rfl)) hs) (by decide +kernel) (by decide +kernel) hs (by rfl)).imp λσ H Q2 hl_=>ex9 hl_ λσ3 M Q E3 rm ds lk h back=>?_
 exact aW rm ds lk h λv H1 x M1 dx rm1 t1 q1=>⟨x,v,M1,Q,rfl,dx,rm1,q1,back.mono t1⟩
end
section
variable {K:Ii}
theorem fJ:∀{ns:List Nat}{ds:List D}{vs:List V}{f:Nat}{d:D},DenL K H ds vs->bU f ns ds=some d->∃v,((ns.map fnm).zip vs).lookup (fnm f)=some v/\Den K H d v
 |[],_,_,_,_,_,e=>by simp[bU]at e
 |n::ns,[],_,_,_,_,e=>by simp[bU]at e
 |n::ns,d0::ds,_,f,d,dl,e=>by
  obtain⟨v,r,rfl,dv,dl⟩:=dl;simp only[bU]at e;by_cases z:n=f
  ·rw[G3 z]at e;cases e;subst z;exact⟨v,by simp[List.lookup],dv⟩
  ·rw[GV z]at e;obtain⟨u,h1,h2⟩:=fJ dl e;refine⟨u,?_,h2⟩;have nb:(fnm f == fnm n)=false:=Hr.mpr λq=>z (mz q).symm
   simp[List.lookup,nb,h1]
theorem fF:∀{ns:List Nat}{ds:List D}{vs:List V}{f:Nat},DenL K H ds vs->ns.length=vs.length->bU f ns ds=none->((ns.map fnm).zip vs).lookup (fnm f)=none
 |[],_,_,_,_,_,_=>by simp
 |n::ns,[],vs,_,dl,hl,_=>by cases (show vs=[] from dl);cases hl
 |n::ns,d0::ds,_,f,dl,hl,e=>by
  obtain⟨v,r,rfl,dv,dl⟩:=dl;simp only[bU]at e;by_cases z:n=f
  ·rw[G3 z]at e;cases e
  ·rw[GV z]at e;have h1:=fF dl (by simpa using hl) e
   have nb:(fnm f == fnm n)=false:=Hr.mpr λq=>z (mz q).symm
   simp[List.lookup,nb,h1]
theorem nX:∀{ns:List Nat}{ds:List D}{vs:List V}{f:Nat}{y:D}{u:V},DenL K H ds vs->ns.length=vs.length->Den K H y u->
  ∃ws,c4 (fnm f) u ((ns.map fnm).zip vs)=((b9 f ns).map fnm).zip ws/\(b9 f ns).length=ws.length/\DenL K H (b8 f y ns ds) ws
 |[],ds,vs,f,y,u,dl,hl,dy=>by
  cases vs with
  |nil=>exact⟨[u],rfl,rfl,by unfold b8;exact .one dy⟩
  |cons _ _=>cases hl
 |n::ns,[],vs,f,y,u,dl,hl,dy=>by cases (show vs=[] from dl);cases hl
 |n::ns,d::ds,_,f,y,u,dl,hl,dy=>by
  obtain⟨v,r,rfl,dv,dl⟩:=dl;have hl':ns.length=r.length:=by simpa using hl
  by_cases z:n=f
  ·subst z;refine⟨u::r,?_,?_,?_⟩
   ·simp[c4,b9]
   ·simp[b9,hl']
   ·simp only[b8,G3];exact .cons dy dl
  ·obtain⟨ws,h1,h2,h3⟩:=nX (f:=f) (u:=u) dl hl' dy;have nf:¬ fnm n=fnm f:=λq=>z (mz q)
   refine⟨v::ws,?_,?_,?_⟩
   ·simp only[G6,List.zip_cons_cons,c4,GV nf,b9,GV z];rw[h1]
   ·simp[b9,GV z,h2]
   ·simp only[b8,GV z];exact .cons dv h3
end
theorem uI{fs:List (Str×V)}(hok:HOk P w H h)(e:Rd H a (.ins C dx fs)):∃mA,ObjM h a dx C mA/\(∀f,RelO (fs.lookup f) (mA f))/\H dx=some (.own a):=by
 obtain⟨d,z,ne,ob,mA,n,r,q⟩:=(show ObjOk P w H h a (.ins C dx fs) from e.ok hok);exact⟨mA,⟨ob,n,ne⟩,r,d⟩
section
variable {X:Cx}{fs:List (Str×V)}
theorem uY(I:Inv X pins σ H s)(e:Rd H a (.ins C dx fs))(c:Cls X.K C)(n:NoAttr X.K C f)(l:fs.lookup f=some v)
  (h:∀u s',Inv X pins σ H s'->RelV v u->Q u s'):wpAny (model X.prog X.w) A (getAttr (.ref a) f b) Q E s:=by
 obtain⟨mA,O,r,_⟩:=uI I.hok e;obtain⟨u,hu,ru⟩:=RelO.some_of (v:=v) (o:=mA f) (by rw[<-l];exact r f)
 exact wQ I.kIn O (c.get f) c.hd n hu (rK ru) (h u _ (I.tok _) ru)
theorem mH{m:Str}{g:Addr}{pl:Sem Bool}{Q:Value×List Value->Shared->Prop}(I:Inv X pins σ H s)(e:Rd H a (.ins C dx fs))(c:Cls X.K C)(k:Meth X.K C m g)(l:fs.lookup m=none)
  (h:Q (.ref g,[.ref a]) s):wpAny (model X.prog X.w) A (getMethod (.ref a) m pl) Q E s:=by
 obtain⟨mA,O,r,_⟩:=uI I.hok e;have hn:mA m=none:=RelO.none_of (by rw[<-l];exact r m)
 exact tS I.kIn O (c.get m) k.at_ k.fn hn h
end
structure ClsI (K:Ii)(C f:Addr):Prop where
 ga:PySem.W.specialIn K (.ref C) "__getattribute__"=some (some (.builtin "type.__getattribute__"))
 rd:PySem.W.readsIn K C (.type "type")=true
 at_:PySem.W.findCls K (.ref C) (.type "type") "__init__"=some (.val (.ref f))
structure TyI (K:Ii)(C:Addr):Prop where
 ha:PySem.W.findIn K (.ref C) "__class__"=some (some (.builtin "object.__class__"))
 hn:PySem.W.specialIn K (.builtin "object.__class__") "__get__"=some (some (.builtin "getset_descriptor.__get__"))
 htk:PySem.W.takesIn K (.builtin "object.__class__")=some true
 hm:PySem.W.mroIn K C (.type "object")=some true
structure KOk (K:Ii)(B:WB)(fad:Nat->Addr)(i:Nat):Prop where
 cl:Cls K (B.kls i)
 na:∀f,B.fok i f=true->NoAttr K (B.kls i) (fnm f)
 mt:∀m f,B.mth i m=some f->Meth K (B.kls i) (fnm m) (fad f)
 mkr:∀f,B.ini i=some f->Mk K (B.kls i) (fad f)
 ci:∀f,B.ini i=some f->ClsI K (B.kls i) (fad f)
 ty:TyI K (B.kls i)
 is:∀j,j<B.nk->PySem.W.kitOne K (.ref (B.kls i)) (.ref (B.kls j))=some (B.ksub i j)
section
variable {X:Cx}{B:WB}
theorem wg{K:Ii}(hk:∀i,i<B.nk->KOk K B fad i)(dx:Den K H x v)(rm:RelM K M H)(h:dX B f x M Q) :
  ∃a C dx fs u d,v=.ref a/\Rd H a (.ins C dx fs)/\Cls K C/\NoAttr K C (fnm f)/\fs.lookup (fnm f)=some u/\Den K H d u/\Q d M:=by
 unfold dX at h;split at h
 ·rename_i i C ns ds;obtain⟨p,vs,ob,dx',rfl,e,hl,dl⟩:=dx;obtain⟨⟨rfl,hi,hf⟩,h⟩:=h;unfold j5 at h;split at h
  ·rename_i d q;obtain⟨u,h1,h2⟩:=fJ dl q;exact⟨p,_,dx',_,u,d,rfl,.inr ⟨ob,e⟩,(hk i hi).cl,(hk i hi).na f hf,h1,h2,h⟩
  ·exact h.elim
 ·rename_i a;split at h
  ·rename_i i C ns ds q;obtain⟨dx',vs,e,hl,dl⟩:=rm a _ q;obtain⟨⟨rfl,hi,hf⟩,h⟩:=h;unfold j5 at h;split at h
   ·rename_i d q;obtain⟨u,h1,h2⟩:=fJ dl q;exact⟨a,_,dx',_,u,d,dx,.inl e,(hk i hi).cl,(hk i hi).na f hf,h1,h2,h⟩
   ·exact h.elim
  ·exact h.elim
 ·exact h.elim
theorem CL(hk:∀i,i<B.nk->KOk X.K B fad i)(he:PE X e (low X.K cls E2 te))(hb:attributeBase e (fnm f) X.env (eval e X.env)=eval e X.env):PE X (.Attribute e (fnm f) pos) (low X.K cls E2 λσ M Q E=>te σ M (λx M1=>dX B f x M1 Q) E):=by
 refine λpins s σ H Q2 I hl_=>ex9 hl_ λσ3 M Q E3 rm ds lk h back=>?_
 refine wI hb (thn (he pins s σ H (λv H1=>∃x M1,Den X.K H1 x v/\RelM X.K M1 H1/\TM X.K H H1/\dX B f x M1 Q) I ⟨σ3,M,_,E3,rm,ds,lk,h,λv H' d M' a b c e=>⟨d,M',a,b,c,e⟩⟩) λu s1 ⟨v,H1,I1,r1,x,M1,dx,rm1,t1,q1⟩=>?_)
 obtain⟨a,C,dx',fs,u',d,rfl,rd,c,n,l,du,q⟩:=wg hk dx rm1 q1;obtain rfl:u=Value.ref a:=r1;exact uY I1 rd c n l λu'' s2 I2 ru=>⟨u',H1,I2,ru,back _ _ _ _ du rm1 t1 q⟩
end
def rY(X:Cx)(cls:Nat->Addr)(k:Nat)(a:Addr)(t3:List D->MH->VK3->XN->Prop):Prop:=∃fd ps sp,PySem.W.keepIn X.K (.ref a)=true/\BdT X.K cls fd ps t3 sp/\FnOk X.prog X.w X.K X.mg X.base (CX1 X.prog X.w) k a fd ps sp
section
variable {X:Cx}{B:WB}{fad:Nat->Addr}{cls:Nat->Addr}{E2:St->XK}{o e:Expr}{es:List Expr}{to te:St3->MH->VK3->XN->Prop}{tr:St3->MH->(List D->MH->Prop)->XN->Prop}{pos apos p:Pos}{m k:Nat}
 {cl3:Nat->List D->MH->VK3->XN->Prop}
theorem qc{K:Ii}{H:Hp}{x:D}{v:V}{M:MH}{R:Nat->Prop}(hk:∀i,i<B.nk->KOk K B fad i)(dx:Den K H x v)(rm:RelM K M H)(h:cZ B m x M R) :
  ∃a C dx fs f,v=.ref a/\Rd H a (.ins C dx fs)/\Cls K C/\Meth K C (fnm m) (fad f)/\fs.lookup (fnm m)=none/\(∃i,i<B.nk/\B.mth i m=some f)/\R f:=by
 unfold cZ at h;split at h
 ·rename_i i C ns ds;obtain⟨p,vs,ob,dx',rfl,e,hl,dl⟩:=dx;obtain⟨⟨rfl,hi,hf⟩,h⟩:=h;unfold fX at h;split at h
  ·rename_i f q;exact⟨p,_,dx',_,f,rfl,.inr ⟨ob,e⟩,(hk i hi).cl,(hk i hi).mt m f q,fF dl hl hf,⟨i,hi,q⟩,h⟩
  ·exact h.elim
 ·rename_i a;split at h
  ·rename_i i C ns ds q;obtain⟨dx',vs,e,hl,dl⟩:=rm a _ q;obtain⟨⟨rfl,hi,hf⟩,h⟩:=h;unfold fX at h;split at h
   ·rename_i f q;exact⟨a,_,dx',_,f,dx,.inl e,(hk i hi).cl,(hk i hi).mt m f q,fF dl hl hf,⟨i,hi,q⟩,h⟩
   ·exact h.elim
  ·exact h.elim
 ·exact h.elim
theorem yU(hk:∀i,i<B.nk->KOk X.K B fad i)(hf:∀i m f,i<B.nk->B.mth i m=some f->rY X cls k (fad f) (cl3 f))(hr:Room k X.A)(hx:aQ (CX1 X.prog X.w) X E2)
  (ho:PE X o (low X.K cls E2 to)) (ha:PA X (e::es) (dI X.K cls E2 tr)) (hb:attributeBase o (fnm m) X.env (eval o X.env)=eval o X.env) (hl:(apos.endLine == pos.line)=true) (hn:(e::es).length<30)
  (he:starEach (e::es) X.env=(false,eval e X.env)::starEach es X.env) (hpl:(backTo pos (starEach es X.env)).any (·.1)=false) :
  PE X (.Call (.Attribute o (fnm m) apos) (e::es) [] pos) (low X.K cls E2 λσ M Q E=>to σ M (λx M1=>cZ B m x M1 λf=>tr σ M1 (λxs M2=>cl3 f (x::xs) M2 Q E) E) E):=by
 refine λpins s σ H Q2 I hl_=>ex9 hl_ λσ3 M Q E3 rm ds lk h back=>?_
 have hst:(backTo pos (starEach (e::es) X.env)).any (·.1)=false:=by
  rw[he];show ((false,_)::backTo pos (starEach es X.env)).any (·.1)=false;rw[List.any_cons,hpl];rfl
 refine PySem.W.methodCall_KW (thn (ho pins s σ H (λv H1=>∃x M1,Den X.K H1 x v/\RelM X.K M1 H1/\TM X.K H H1/\cZ B m x M1 λf=>tr σ3 M1 (λxs M2=>cl3 f (x::xs) M2 Q E3) E3) I ⟨σ3,M,_,E3,rm,ds,lk,h,λv H' d M' a b c e=>⟨d,M',a,b,c,e⟩⟩) λu s1 ⟨v,H1,I1,r1,x,M1,dx,rm1,t1,q1⟩=>?_) (eS hb (gB hst hn) hl)
 obtain⟨a,C,dx',fs,f,rfl,rd,c,mt,l,⟨i,hi,hfi⟩,q⟩:=qc hk dx rm1 q1;obtain rfl:u=Value.ref a:=r1;obtain⟨fd,ps,sp,kp,bd,F⟩:=hf i m f hi hfi;refine mH I1 rd c mt l ?_;refine PySem.W.callWith_K (first:=[.ref a]) (h₀:=X.base) I.ok.mod.kin mt.kp (thn (ha pos pins s1 σ H1 _ I1 (eG (R2:=λvs H2=>spX X.K cls (cl3 f) (.ref a::vs) H2 Q2 (λc d H'=>TM X.K H2 H'->E2 σ c d H')) rm1 (ds.mono t1) (lk.mono t1) q
  λvs H2 xs M2 dl rm2 t2 q2=>i5 (.cons (dx.mono t2) dl) rm2 (lk.mono (t1.trans t2)) q2 (back.mono (t1.trans t2)))) λus s2 ⟨vs,H2,I2,r,q2⟩=>⟨I2.kIn,?_⟩) he hpl
 exact gG (us:=.ref a::us) (vs:=.ref a::vs) F hr bd hx I2 (.cons rfl r) q2
theorem xj(hk:∀i,i<B.nk->KOk X.K B fad i)(hf:∀i m f,i<B.nk->B.mth i m=some f->rY X cls k (fad f) (cl3 f))(hr:Room k X.A)(hx:aQ (CX1 X.prog X.w) X E2)
  (ho:PE X o (low X.K cls E2 to)) (hb:attributeBase o (fnm m) X.env (eval o X.env)=eval o X.env) (hl:(apos.endLine == pos.line)=true) :
  PE X (.Call (.Attribute o (fnm m) apos) [] [] pos) (low X.K cls E2 λσ M Q E=>to σ M (λx M1=>cZ B m x M1 λf=>cl3 f [x] M1 Q E) E):=by
 refine λpins s σ H Q2 I hl_=>ex9 hl_ λσ3 M Q E3 rm ds lk h back=>?_
 refine PySem.W.methodCall_KW (thn (ho pins s σ H (λv H1=>∃x M1,Den X.K H1 x v/\RelM X.K M1 H1/\TM X.K H H1/\cZ B m x M1 λf=>cl3 f [x] M1 Q E3) I ⟨σ3,M,_,E3,rm,ds,lk,h,λv H' d M' a b c e=>⟨d,M',a,b,c,e⟩⟩) λu s1 ⟨v,H1,I1,r1,x,M1,dx,rm1,t1,q1⟩=>?_) (eS hb (gB (by rfl) (by decide)) hl)
 obtain⟨a,C,dx',fs,f,rfl,rd,c,mt,l,⟨i,hi,hfi⟩,q⟩:=qc hk dx rm1 q1;obtain rfl:u=Value.ref a:=r1;obtain⟨fd,ps,sp,kp,bd,F⟩:=hf i m f hi hfi;refine mH I1 rd c mt l ?_;exact PySem.W.callWith_K0 (first:=[.ref a]) I1.kIn mt.kp (gG (us:=[.ref a]) (vs:=[.ref a]) F hr bd hx I1 (.cons rfl .nil) (i5 (.one dx) rm1 (lk.mono t1) q (back.mono t1)))
theorem C1{i f:Nat}{x:Str}{px:Pos}(hg:Gl X x)(hm:X.mg x=some (.ref (B.kls i)))(hdb:(x == ("__debug__" : Str))=false)(ci:ClsI X.K (B.kls i) (fad f))(hf:rY X cls k (fad f) (cl3 f))(hr:Room k X.A)(hx:aQ (CX1 X.prog X.w) X E2)
  (ha:PA X (e::es) (dI X.K cls E2 tr)) (hl:(apos.endLine == pos.line)=true) (hn:(e::es).length<30)
  (he:starEach (e::es) X.env=(false,eval e X.env)::starEach es X.env) (hpl:(backTo pos (starEach es X.env)).any (·.1)=false) :
  PE X (.Call (.Attribute (.Name x px) "__init__" apos) (e::es) [] pos) (low X.K cls E2 λσ M Q E=>tr σ M (λxs M1=>cl3 f xs M1 Q E) E):=by
 refine λpins s σ H Q2 I hl_=>ex9 hl_ λσ3 M Q E3 rm ds lk h back=>?_
 have hst:(backTo pos (starEach (e::es) X.env)).any (·.1)=false:=by
  rw[he];show ((false,_)::backTo pos (starEach es X.env)).any (·.1)=false;rw[List.any_cons,hpl];rfl
 obtain⟨fd,ps,sp,kp,bd,F⟩:=hf;have hT:PE X (.Name x px) (tC (.ref (B.kls i))):=iP hg hm rfl hdb;refine PySem.W.methodCall_KW (thn (hT pins s σ H (λv H1=>v=.ref (B.kls i)/\H1=H) I ⟨rfl,rfl⟩) λu s1 ⟨v,H1,I1,r1,e1,e2⟩=>?_) (eS (by rfl) (gB hst hn) hl)
 subst e1 e2;obtain rfl:u=Value.ref (B.kls i):=r1;refine PySem.W.method_cls I1.kIn ci.ga (PySem.W.cls_value I1.kIn ci.rd ci.at_ rfl ?_);have I2:=I1.tok (s1.toks+1);refine PySem.W.callWith_K (first:=[]) (h₀:=X.base) I.ok.mod.kin kp (thn (ha pos pins _ σ H1 _ I2 (eG (R2:=λvs H2=>spX X.K cls (cl3 f) vs H2 Q2 (λc d H'=>TM X.K H2 H'->E2 σ c d H')) rm ds lk h
  λvs H2 xs M2 dl rm2 t2 q2=>i5 dl rm2 (lk.mono t2) q2 (back.mono t2))) λus s2 ⟨vs,H2,I3,r,q2⟩=>⟨I3.kIn,?_⟩) he hpl
 exact gG F hr bd hx I3 r q2
theorem kP(M:Mk X.K C f)(F:FnOk X.prog X.w X.K X.mg X.base (CX1 X.prog X.w) k f fd ps sp)(hr:Room (k+1) X.A)(hb:BdT X.K cls fd ps t3 sp)
  (hx:aQ (CX1 X.prog X.w) X E2) (I:Inv X pins σ H s)(r:Vals vs us)
  (h:∀x dx,H x=none->H dx=none->dx≠x->spX X.K cls t3 (.ref x::vs) (upd (upd H dx (.own x)) x (.ins C dx [])) (λv H2=>v=.non/\Q (.ref x) H2) (λc d H'=>TM X.K (upd (upd H dx (.own x)) x (.ins C dx [])) H'->E2 σ c d H')) :
  wpAny (model X.prog X.w) X.A (call (.ref C) us) (EP X pins σ Q) X.xe s:=by
 have hq:=h (s.heap.objs.size+1) s.heap.objs.size (I.hok.fresh (Ia _)) (I.hok.fresh (GZ _)) (Hl (Nat.lt_succ_self _));have I2:=Inv.made (C:=C) I;have r2:Vals (V.ref (s.heap.objs.size+1)::vs) (Value.ref (s.heap.objs.size+1)::us):=.cons rfl r;obtain⟨dvs,dsv,hv,bd,hq⟩:=hb _ _ _ _ hq;have r2:Vals ((V.ref (s.heap.objs.size+1)::vs)++dvs) ((Value.ref (s.heap.objs.size+1)::us)++dsv):=r2.append hv;have hl:(Value.ref (s.heap.objs.size+1)::us++dsv).length=ps.length:=by rw[<-r2.length];exact F.len _ _ _ _ hq
 have hb':=bd _ (Value.ref (s.heap.objs.size+1)::us) I2.kIn hl;refine wpAny_call (uq (f:=f) I.kIn M.makes M.init (Hb.mp M.fn) (codeAny_mono (F.run _ X.stack _ _ ⟨Value.ref (s.heap.objs.size+1)::us,[]⟩ (Value.ref (s.heap.objs.size+1)::us++dsv) _ _ _ (hr.make C us [])
  (I2.env0.make C us []) hb' r2 hq) λr s' hq'=>?_))
 match r,hq' with
 |.error e,hq'=>exact hx pins σ _ _ e s' I2 (sY hq')
 |.ok (.ret u),hq'=>
  obtain⟨v,H',I3,rv,ev,q3⟩:=I2.after hq';subst ev;exact⟨rv,⟨V.ref (s.heap.objs.size+1),H',I3,rfl,q3⟩⟩
 |.ok .next,hq'=>exact hq'.elim
 |.ok .brk,hq'=>exact hq'.elim
 |.ok .cont,hq'=>exact hq'.elim
theorem TM.made{K:Ii}(hx:H x=none)(hd:H dx=none)(ne:dx≠x):TM K H (upd (upd H dx (.own x)) x (.ins C dx [])):=
 (TM.new hd).trans (.new (by rw[ac (He ne)];exact hx))
theorem qJ{σ:St}{H:Hp}{xs:List D}{vs:List V}{M:MH}{Q:VK3}{Q2:VK}{E3:XN}{i:Nat}{fz:Bool}{t3:List D->MH->VK3->XN->Prop}(dl:DenL X.K H xs vs)(rm:RelM X.K M H)(lk:LkE X.K cls H E3 (E2 σ))
  (q:∀p,M p=none->t3 (.ref p::xs) (put M p (.ins i (B.kls i) [] [])) (λv M2=>v=.non/\if fz=true then aY Q (.ref p) M2 else Q (.ref p) M2) (λj M'=>E3 j (del M' p))) :
  ∀x dx,H x=none->H dx=none->dx≠x->spX X.K cls t3 (.ref x::vs) (upd (upd H dx (.own x)) x (.ins (B.kls i) dx [])) (λv H2=>v=.non/\∃M2,RelM X.K M2 H2/\TM X.K H H2/\if fz=true then aY Q (.ref x) M2 else Q (.ref x) M2)
   (λc d H'=>TM X.K (upd (upd H dx (.own x)) x (.ins (B.kls i) dx [])) H'->E2 σ c d H'):=λx dx hx hd ne=>by
 have t:=TM.made (K:=X.K) (C:=B.kls i) hx hd ne;have hx':(upd H dx (.own x)) x=none:=by rw[ac (He ne)];exact hx
 have rm2:RelM X.K (put M x (.ins i (B.kls i) [] [])) (upd (upd H dx (.own x)) x (.ins (B.kls i) dx [])):=(rm.grow hd).lay hx' ⟨dx,[],ae,rfl,rfl⟩;refine⟨.ref x::xs,_,_,_,.cons rfl (dl.mono t),rm2,q x (rm.fresh hx),λv H' d M' dv rm' t' ⟨e,q'⟩=>?_,λj M' H' t' rm' q' dy xd _=>lk j (del M' x) H' (t.trans t') (rm'.sub λb o z=>(iQ z).2) q' dy xd⟩
 subst e;exact⟨dv,M',rm',t.trans t',q'⟩
theorem n6(back:Back X.K H Q Q2)
  (h:EP X pins σ (λv H2=>∃x,v=.ref x/\∃M2,RelM X.K M2 H2/\TM X.K H H2/\if fz=true then aY Q (.ref x) M2 else Q (.ref x) M2) u s'):EP X pins σ Q2 u s':=by
 obtain⟨v,H2,I2,r,x,rfl,M2,rm2,t2,q⟩:=h;cases fz with
 |true=>
  obtain⟨H3,M3,d,I3,t3,rm3,dv,q3⟩:=lU I2 rm2 gh (show aY Q (.ref x) M2 from q);exact⟨.ref x,H3,I3,r,back _ _ _ _ dv rm3 (t2.trans t3) q3⟩
 |false=>exact⟨.ref x,H2,I2,r,back _ _ _ _ gh rm2 t2 q⟩
theorem ze{i f:Nat}{fz:Bool}{x:Str}(hg:Gl X x)(hm:X.mg x=some (.ref (B.kls i)))(hdb:(x == ("__debug__" : Str))=false)(mk:Mk X.K (B.kls i) (fad f))(hf:rY X cls k (fad f) (cl3 f))(hr:Room (k+1) X.A)(hx:aQ (CX1 X.prog X.w) X E2)
  (ha:PA X (e::es) (dI X.K cls E2 tr)) (he:starEach (e::es) X.env=(false,eval e X.env)::starEach es X.env) (hpl:(backTo pos (starEach es X.env)).any (·.1)=false) :
  PE X (.Call (.Name x p) (e::es) [] pos) (low X.K cls E2 λσ M Q E=>tr σ M (λxs M1=>∀p,M1 p=none->cl3 f (.ref p::xs) (put M1 p (.ins i (B.kls i) [] [])) (λv M2=>v=.non/\if fz=true then aY Q (.ref p) M2 else Q (.ref p) M2) (λi M'=>E i (del M' p))) E):=by
 refine λpins s σ H Q2 I hl_=>ex9 hl_ λσ3 M Q E3 rm ds lk h back=>?_
 obtain⟨fd,ps,sp,kp,bd,F⟩:=hf;refine wpAny_Call_Name_kw (bQ I hg hm ?_ hdb);refine PySem.W.callWith_K (h₀:=X.base) I.ok.mod.kin mk.kp (thn (ha pos pins s σ H (λvs H1=>TM X.K H H1/\∃xs M1,DenL X.K H1 xs vs/\RelM X.K M1 H1/\∀p,M1 p=none->cl3 f (.ref p::xs) (put M1 p (.ins i (B.kls i) [] [])) (λv M2=>v=.non/\if fz=true then aY Q (.ref p) M2 else Q (.ref p) M2) (λi M'=>E3 i (del M' p))) I
  (eG rm ds lk h λvs H1 xs M1 dl rm1 t1 q1=>⟨t1,xs,M1,dl,rm1,q1⟩)) λus s1 ⟨vs,H1,I1,r,t1,xs,M1,dl,rm1,q1⟩=>⟨I1.kIn,?_⟩) he hpl
 refine thn (kP (Q:=λv H2=>∃x,v=.ref x/\∃M2,RelM X.K M2 H2/\TM X.K H1 H2/\if fz=true then aY Q (.ref x) M2 else Q (.ref x) M2) mk F hr bd hx I1 r λx dx n1 n2 n3=>?_) λu s2 q2=>n6 (fz:=fz) (back.mono t1) q2
 obtain⟨a1,a2,a3,a4,b1,b2,b3,b4,b5⟩:=qJ (fz:=fz) (i:=i) (t3:=cl3 f) (Q2:=Q2) dl rm1 (lk.mono t1) q1 x dx n1 n2 n3;exact⟨a1,a2,a3,a4,b1,b2,b3,λv H' d M' dv rm' t' q'=>by
  obtain⟨e,w⟩:=b4 v H' d M' dv rm' t' q';exact⟨e,x,rfl,w⟩,b5⟩
theorem xc{i f:Nat}{fz:Bool}{x:Str}(hg:Gl X x)(hm:X.mg x=some (.ref (B.kls i)))(hdb:(x == ("__debug__" : Str))=false)(mk:Mk X.K (B.kls i) (fad f))(hf:rY X cls k (fad f) (cl3 f))(hr:Room (k+1) X.A)(hx:aQ (CX1 X.prog X.w) X E2) :
  PE X (.Call (.Name x p) [] [] pos) (low X.K cls E2 λσ M Q E=>∀p,M p=none->cl3 f [.ref p] (put M p (.ins i (B.kls i) [] [])) (λv M2=>v=.non/\if fz=true then aY Q (.ref p) M2 else Q (.ref p) M2) (λi M'=>E i (del M' p))):=by
 refine λpins s σ H Q2 I hl_=>ex9 hl_ λσ3 M Q E3 rm ds lk h back=>?_
 obtain⟨fd,ps,sp,kp,bd,F⟩:=hf;refine wpAny_Call_Name_kw (bQ I hg hm ?_ hdb);refine PySem.W.callWith_K0 I.kIn mk.kp ?_;refine thn (kP (us:=[]) (vs:=[]) (Q:=λv H2=>∃x,v=.ref x/\∃M2,RelM X.K M2 H2/\TM X.K H H2/\if fz=true then aY Q (.ref x) M2 else Q (.ref x) M2) mk F hr bd hx I .nil λx dx n1 n2 n3=>?_) λu s2 q2=>n6 (fz:=fz) back q2
 obtain⟨a1,a2,a3,a4,b1,b2,b3,b4,b5⟩:=qJ (fz:=fz) (i:=i) (t3:=cl3 f) (xs:=[]) (vs:=[]) (Q2:=Q2) .nil rm lk h x dx n1 n2 n3;exact⟨a1,a2,a3,a4,b1,b2,b3,λv H' d M' dv rm' t' q'=>by
  obtain⟨e,w⟩:=b4 v H' d M' dv rm' t' q';exact⟨e,x,rfl,w⟩,b5⟩
theorem Aj(hk:∀i,i<B.nk->KOk X.K B fad i)(ho:PE X o (low X.K cls E2 to))(hv:PE X value (low X.K cls E2 tv))(hs:swapsWith value (some (.Attribute o (fnm f) pos')) pos.line X.env=pure false) :
  PS X (.Assign [.Attribute o (fnm f) pos'] value pos) (bx X.K cls E2 λD E σ M=>tv σ M (λy M1=>to σ M1 (λx M2=>match x with
  |.ref a=>match M2 a with
   |some (.ins i C ns ds)=>(C=B.kls i/\i<B.nk/\B.fok i f=true/\ns.length<1000)/\D.nx σ (put M2 a (.ins i C (b9 f ns) (b8 f y ns ds)))
   |_=>False
  |_=>False) (E σ)) (E σ)):=
 (yo ho hv hs).imp λD2 σ H hl_=>ex9 hl_ λσ3 M D3 E3 rm ds lk h er=>aW rm ds (lk.at ds) h λv H1 y M1 dy rm1 t1 q1=>aW rm1 (ds.mono t1) ((lk.at ds).mono t1) q1 λw H2 x M2 dx rm2 t2 q2=>by
  split at q2
  ·rename_i a;split at q2
   ·rename_i i C ns es q;obtain⟨dx',vs,e,hl,dl⟩:=rm2 a _ q;obtain⟨⟨rfl,hi,hf,hz⟩,q2⟩:=q2;obtain⟨ws,h1,h2,h3⟩:=nX (f:=f) (u:=v) dl hl (dy.mono t2);refine⟨a,_,dx',_,dx,e,(hk i hi).cl,(hk i hi).na f hf,?_,?_⟩
    ·rw[List.length_zip,G8,hl,Nat.min_self,<-hl];exact hz
    ·have tw:TM X.K H2 (upd H2 a (.ins (B.kls i) dx' (c4 (fnm f) v ((ns.map fnm).zip vs)))):=.put e (λ_ z=>by cases z) λ_ _ z=>by cases z
     refine er.nx _ _ σ3 _ (rm2.write (u:=.ins i (B.kls i) (b9 f ns) (b8 f y ns es)) e (λ_ z=>by cases z) (λ_ _ z=>by cases z) ⟨dx',ws,by rw[ae,h1],h2,h3.mono tw⟩) (((ds.mono t1).mono t2).mono tw) ((t1.trans t2).trans tw) q2
   ·exact q2.elim
  ·exact q2.elim
theorem Co(hg:Gl X x)(hm:X.mg x=some u)(r:RelV v u)(hdb:(x == ("__debug__" : Str))=false)(hd:∀H,Den X.K H d v):PE X (.Name x pos) (low X.K cls E2 λ_ M Q _=>Q d M):=mG (iP hg hm r hdb) hd
end
def VS(X:Cx)(r:D->Option Int->Option Int->MH->VK3->Prop):Prop:=
 ∀(pins:List (Addr×Obj)) (s:Shared)(σ:St)(H:Hp)(x:D)(v:V)(v2 vl vu:Value)(lo hi:Option Int)(sl:Addr)(M:MH)(Q:VK3)(Q2:VK),Inv X pins σ H s->RelV v v2->Den X.K H x v->RelM X.K M H->s.heap.IsSliceOf sl vl vu .none->IsPart vl lo->IsPart vu hi->r x lo hi M Q->Back X.K H Q Q2->
  ∃T id,typeLookup (.type T) "__getitem__"=pure (some (.builtin id))/\s.TypeIs v2 T/\wpAny (model X.prog X.w) X.A (getItem v2 (.ref sl)) (EP X pins σ Q2) X.xe s
section
variable {X:Cx}{lo:Option Expr}
theorem VS.op(h:VS X r):SlR X (λv lo hi H Q2=>∃x M Q,Den X.K H x v/\RelM X.K M H/\r x lo hi M Q/\Back X.K H Q Q2):=by
 intro pins s σ H v v2 vl vu lo hi sl Q2 I rv hs pl pu ⟨x,M,Q,dx,rm,q,back⟩;exact h pins s σ H x v v2 vl vu lo hi sl M Q Q2 I rv dx rm hs pl pu q back
theorem ny{K:Ii}{lo:Option Int}(dl:DenL K H ds vs):DenL K H (dR ds lo hi) (oF vs lo hi):=by
 unfold dR oF;rw[dl.length];exact (dl.drop _).take _
theorem Cq(fz:Bool):VS X (mE fz):=by
 intro pins s σ H x v v2 vl vu lo hi sl M Q Q2 I rv dx rm hs pl pu q back;unfold mE at q;split at q
 ·rename_i ds;obtain⟨p,vs,rfl,sq,dl⟩:=dx;obtain⟨hw,q⟩:=q;refine AD pins s σ H _ v2 vl vu lo hi sl Q2 I rv hs pl pu ⟨p,vs,rfl,sq,λz=>?_,λp' hp=>?_⟩
  ·unfold whole at hw;rw[dl.length,z.1,z.2]at hw;simp at hw
  ·exact back _ _ (.tup (dR ds lo hi)) _ ⟨p',_,rfl,.of ae,(ny dl).mono (.new hp)⟩ (rm.grow hp) (.new hp) q
 ·rename_i z;cases (show v=.str z from dx);obtain⟨t,rfl⟩:=rv;obtain⟨hz,q⟩:=q;have fin:∀t' k,0<k->EP X pins σ Q2 (.str (Txt.slice z lo hi) t') {s with toks:=k}:=λt' k _=>⟨.str _,H,I.tok _,⟨_,rfl⟩,back _ _ _ _ iU rm (.refl _) q⟩
  refine⟨"str",_,PySem.F.slot_str_getitem.lookup,typeIs_str _ _ _,?_⟩;cases pl with
  |none=>
   cases pu with
   |none=>exact eN I.tk <| wpAny_getItem_str_slice (l:=none) (u:=none) (st:=none) hs rfl (post_val_or_str ⟨Ha (Txt.slice_le z _ _) hz,fin⟩)
   |int j u=>exact eN I.tk <| wpAny_getItem_str_slice (l:=none) (u:=some (j,u)) (st:=none) hs rfl (post_val_or_str ⟨Ha (Txt.slice_le z _ _) hz,fin⟩)
  |int i u'=>
   cases pu with
   |none=>exact eN I.tk <| wpAny_getItem_str_slice (l:=some (i,u')) (u:=none) (st:=none) hs rfl (post_val_or_str ⟨Ha (Txt.slice_le z _ _) hz,fin⟩)
   |int j u=>exact eN I.tk <| wpAny_getItem_str_slice (l:=some (i,u')) (u:=some (j,u)) (st:=none) hs rfl (post_val_or_str ⟨Ha (Txt.slice_le z _ _) hz,fin⟩)
 ·split at q
  ·rename_i ds e;obtain⟨p,vs,rfl,hq,dl⟩:=bg rm e dx;cases rv;obtain⟨its,r,ht,hz⟩:=I.list hq.sq;have hlen:=r.length;refine⟨"list",_,slot_list_getitem.lookup,ht.isList.typeIs,?_⟩;refine wpAny_getItem_list_slice ht.isList hs pl pu .none (by simp) ?_ (by rw[G7]<;>omega)
   rw[j0,<-hlen];have I2:=I.laid (t':=s.toks) (o:=.lst (oF vs lo hi)) (h':=s.heap.push {cls:=.type "list",data:=.seq ((its.drop (HT.sIx vs.length 0 lo)).take (HT.sIx vs.length vs.length hi-HT.sIx vs.length 0 lo)).toArray 0}) (λb ob q=>GX _ q) (GZ _)
    ⟨Ha (iy vs lo hi) hz,_,0,(r.drop (HT.sIx vs.length 0 lo)).take (HT.sIx vs.length vs.length hi-HT.sIx vs.length 0 lo),G4 _ rfl⟩
   exact de I2 (I.hok.fresh (GZ _)) (ny dl) rm (.refl _) q back
  ·exact q.elim
theorem EJ(ha:PE X a (low X.K cls E2 ta))(hl:PO X lo (sF X.K cls E2 tl))(hh:PO X hi (sF X.K cls E2 th)) :
  PE X (.Subscript a (.Slice lo hi none p2) pos) (low X.K cls E2 λσ M Q E=>ta σ M (λx M1=>tl σ M1 (λl M2=>th σ M2 (λh M3=>mE fz x l h M3 Q) E) E) E):=
 (uO (Cq fz).op ha hl hh).imp λσ H Q2 hl_=>ex9 hl_ λσ3 M Q E3 rm ds lk h back=>aW rm ds lk h λv H1 x M1 dx rm1 t1 q1=>xN rm1 (ds.mono t1) (lk.mono t1) q1 λl H2 M2 rm2 t2 q2=>xN rm2 ((ds.mono t1).mono t2) ((lk.mono t1).mono t2) q2 λh H3 M3 rm3 t3 q3=>
  ⟨x,M3,Q,(dx.mono t2).mono t3,rm3,q3,back.mono ((t1.trans t2).trans t3)⟩
theorem kU{K:Ii}:∀{ds:List D}{bs:List Bool}{vs:List V}{us:List Value},d5 ds=some bs->DenL K H ds vs->Vals vs us->LSm.BoolsAre us bs
 |[],bs,vs,us,e,dl,r=>by
  cases (show vs=[] from dl);cases r;cases (show some []=some bs from e);exact .nil
 |d::ds,bs,_,us,e,dl,r=>by
  obtain⟨v,vs,rfl,dv,dl⟩:=dl;cases r with
  |cons ru rt=>
   cases d with
   |bl b=>
    simp only[d5]at e;split at e
    ·rename_i ns q;cases e;cases (show v=.bl b from dv);cases ru;exact .cons b (kU q dl rt)
    ·cases e
   |_=>cases e
theorem xS(al:Bool)(hc:X.calm=true):VC X (.builtin (if al=true then "all" else "any")) (rBi (if al=true then .all else .any)):=by
 intro pins s σ H xs vs us M Q Q2 I r dl rm q back;have hh:X.A.handled=none:=I.ok.hd hc;have key:∃x ds bs,xs=[x]/\ai M x=some ds/\d5 ds=some bs/\Q (.bl (if al=true then bs.all id else bs.any id)) M:=by
  cases al with
  |true=>
   simp only[if_true,rBi]at q;split at q
   ·split at q
    ·split at q
     ·exact⟨_,_,_,rfl,by assumption,by assumption,q⟩
     ·exact q.elim
    ·exact q.elim
   ·exact q.elim
  |false=>
   simp only[HZ,if_false,rBi]at q;split at q
   ·split at q
    ·split at q
     ·exact⟨_,_,_,rfl,by assumption,by assumption,q⟩
     ·exact q.elim
    ·exact q.elim
   ·exact q.elim
 obtain⟨x,ds,bs,rfl,e1,e2,q⟩:=key;obtain⟨v,rfl,dv⟩:=fj dl;obtain⟨u,rfl,ru⟩:=im r;obtain⟨p,ws,rfl,hq,dl2⟩:=bg rm e1 dv;cases ru;obtain⟨its,r2,pl',hz⟩:=I.list hq.sq;have hb:=kU e2 dl2 r2;have hl:=pl'.isList;have hlt:p<s.heap.objs.size:=by obtain⟨_,e,_⟩:=hl;exact G2 e
 have fin:∀h' tk,(∀b o,s.heap.get? b=some o->h'.get? b=some o)->0<tk->EP X pins σ Q2 (.bool (if al=true then bs.all id else bs.any id)) {s with heap:=h',toks:=tk}:=λh' tk hk _=>
  ⟨.bl _,H,I.kept (t':=tk) hk,rfl,back _ _ _ _ bb rm (.refl _) q⟩
 cases al with
 |true=>
  refine eN I.tk <| call_all_walk (wpAny_pyIter_list hl ?_)
  refine⟨s.heap.objs.size,[s.heap.objs.size,p],[s.heap.objs.size],its.toArray.size,_,_,λi=>(bs[i]?).getD true,rfl,Walks.list (A:=X.A.in1) hh _ p (Hl hlt) its.toArray,
   ⟨⟨_,G4 _ rfl,rfl,rfl⟩,hl.push _⟩,λi v s' Q' E' hP hQ=>?_,λh' tk hk=>?_⟩
  ·obtain⟨b,e,rfl⟩:=hb.get i v (by simpa using hP)
   simp only[e,Option.getD_some]at hQ;exact Hx hQ
  ·have e:((List.range its.toArray.size).all λi=>(bs[i]?).getD true)=bs.all id:=by
    rw[G7,hb.length];exact LSm.range_all bs
   rw[e];exact fin h' tk (LSm.kept_iter hk)
 |false=>
  refine eN I.tk <| call_any_walk (wpAny_pyIter_list hl ?_)
  refine⟨s.heap.objs.size,[s.heap.objs.size,p],[s.heap.objs.size],its.toArray.size,_,_,λi=>(bs[i]?).getD false,rfl,Walks.list (A:=X.A.in1) hh _ p (Hl hlt) its.toArray,
   ⟨⟨_,G4 _ rfl,rfl,rfl⟩,hl.push _⟩,λi v s' Q' E' hP hQ=>?_,λh' tk hk=>?_⟩
  ·obtain⟨b,e,rfl⟩:=hb.get i v (by simpa using hP)
   simp only[e,Option.getD_some]at hQ;exact Hx hQ
  ·have e:((List.range its.toArray.size).any λi=>(bs[i]?).getD false)=bs.any id:=by
    rw[G7,hb.length];exact LSm.range_any bs
   rw[e];exact fin h' tk (LSm.kept_iter hk)
end
def TyV(X:Cx)(T:String)(x:V)(H:Hp):Prop:=∀(pins:List (Addr×Obj)) (σ:St)(s:Shared)(v:Value),Inv X pins σ H s->RelV x v->s.TypeIs v T/\∀a,v=.ref a->∃ob,s.heap.get? a=some ob/\ob.dict=none
section
variable {X:Cx}{o:Expr}{apos cpos pos:Pos}{id:String}
theorem zC(pa:PlainAttrs T)(slot:Slot T name id)(hty:typeOf (.builtin id)=pure (.type "method_descriptor"))(hm:MtR X id r)(ho:PE X o t2)(ha:PA X (e::es) ta)
  (hbase:attributeBase o name X.env (eval o X.env)=eval o X.env)
  (hfew:((backTo cpos (starEach (e::es) X.env)).all (λx=>!x.1)&&(backToKw cpos (keywordEach [] X.env)).all (λx=>x.1.isSome)
   &&decide ((e::es).length+([]:List Keyword).length+(if ([]:List Keyword).isEmpty then 0 else 1)<30))=true)
  (hline:(apos.endLine == cpos.line)=true) (hs:starEach (e::es) X.env=(false,eval e X.env)::starEach es X.env) (hplain:(backTo cpos (starEach es X.env)).any (·.1)=false) :
  PE X (.Call (.Attribute o name apos) (e::es) [] cpos) (λσ H Q=>t2 σ H λx H1=>TyV X T x H1/\ta σ H1 λxs H2=>r x xs H2 Q):=by
 intro pins s σ H Q I h;refine wpAny_Call_method_late hbase hfew hline rfl (thn (ho pins s σ H _ I h) λv s1 ⟨x,H1,I1,r1,ty,q1⟩=>?_)
 obtain⟨h1,h2⟩:=ty pins σ s1 v I1 r1;refine⟨T,id,pa,slot,hty,h1,h2,?_⟩;have hA:=ha cpos pins s1 σ H1 _ I1 q1;rw[hs]at hA ⊢;refine Calls.callWith_builtin (by show (false||(backTo cpos (starEach es X.env)).any (·.1))=false;rw[hplain]<;>rfl) (Calls.evalArgs_plain ?_)
 exact thn hA λus s2 ⟨vs,H2,I2,r2,q2⟩=>hm pins s2 σ H2 x vs v us Q I2 r1 r2 q2
theorem vY(pa:PlainAttrs T)(slot:Slot T name id)(hty:typeOf (.builtin id)=pure (.type "method_descriptor"))(hm:MtR X id r)(ho:PE X o t2)
  (hbase:attributeBase o name X.env (eval o X.env)=eval o X.env) (hline:(apos.endLine == cpos.line)=true):PE X (.Call (.Attribute o name apos) [] [] cpos) (λσ H Q=>t2 σ H λx H1=>TyV X T x H1/\r x [] H1 Q):=by
 intro pins s σ H Q I h;refine wpAny_Call_method0_late hbase hline (thn (ho pins s σ H _ I h) λv s1 ⟨x,H1,I1,r1,ty,q1⟩=>?_)
 obtain⟨h1,h2⟩:=ty pins σ s1 v I1 r1;exact⟨T,id,pa,slot,hty,h1,h2,Calls.callWith_builtin rfl (PySem.evalArgs_none (hm pins s1 σ H1 x [] v [] Q I1 r1 .nil q1))⟩
def VM(X:Cx)(id:String)(r:D->List D->MH->VK3->Prop):Prop:=
 ∀(pins:List (Addr×Obj)) (s:Shared)(σ:St)(H:Hp)(x:D)(xs:List D)(v:V)(vs:List V)(v2:Value)(us:List Value)(M:MH)(Q:VK3)(Q2:VK),Inv X pins σ H s->RelV v v2->Vals vs us->Den X.K H x v->DenL X.K H xs vs->RelM X.K M H->r x xs M Q->Back X.K H Q Q2->
  wpAny (model X.prog X.w) X.A (call (.builtin id) (v2::us)) (EP X pins σ Q2) X.xe s
theorem VM.op(h:VM X id r):MtR X id (λv vs H Q2=>∃x xs M Q,Den X.K H x v/\DenL X.K H xs vs/\RelM X.K M H/\r x xs M Q/\Back X.K H Q Q2):=by
 intro pins s σ H v vs v2 us Q2 I rv rs ⟨x,xs,M,Q,dx,dl,rm,q,back⟩;exact h pins s σ H x xs v vs v2 us M Q Q2 I rv rs dx dl rm q back
def TyD(X:Cx)(T:String)(tb:D->MH->Bool):Prop:=∀(x:D)(v:V)(M:MH)(H:Hp),Den X.K H x v->RelM X.K M H->tb x M=true->TyV X T v H
theorem wC(pa:PlainAttrs T)(slot:Slot T name id)(hty:typeOf (.builtin id)=pure (.type "method_descriptor"))(hm:VM X id r)(ht:TyD X T tb)(ho:PE X o (low X.K cls E2 to))(ha:PA X (e::es) (dI X.K cls E2 tr))
  (hbase:attributeBase o name X.env (eval o X.env)=eval o X.env) (hn:(e::es).length<30)
  (hline:(apos.endLine == cpos.line)=true) (hs:starEach (e::es) X.env=(false,eval e X.env)::starEach es X.env) (hplain:(backTo cpos (starEach es X.env)).any (·.1)=false) :
  PE X (.Call (.Attribute o name apos) (e::es) [] cpos) (low X.K cls E2 λσ M Q E=>to σ M (λx M1=>tb x M1=true/\tr σ M1 (λxs M2=>r x xs M2 Q) E) E):=by
 have hst:(backTo cpos (starEach (e::es) X.env)).any (·.1)=false:=by
  rw[hs];show ((false,_)::backTo cpos (starEach es X.env)).any (·.1)=false;rw[List.any_cons,hplain];rfl
 refine (zC pa slot hty hm.op ho ha hbase (gB hst hn) hline hs hplain).imp λσ H Q2 hl_=>ex9 hl_ λσ3 M Q E3 rm ds lk h back=>aW rm ds lk h λv H1 x M1 dx rm1 t1 q1=>?_
 exact⟨ht x v M1 H1 dx rm1 q1.1,eG rm1 (ds.mono t1) (lk.mono t1) q1.2 λvs H2 xs M2 dl rm2 t2 q2=>⟨x,xs,M2,Q,dx.mono t2,dl,rm2,q2,back.mono (t1.trans t2)⟩⟩
theorem pV(pa:PlainAttrs T)(slot:Slot T name id)(hty:typeOf (.builtin id)=pure (.type "method_descriptor"))(hm:VM X id r)(ht:TyD X T tb)(ho:PE X o (low X.K cls E2 to))
  (hbase:attributeBase o name X.env (eval o X.env)=eval o X.env) (hline:(apos.endLine == cpos.line)=true) :
  PE X (.Call (.Attribute o name apos) [] [] cpos) (low X.K cls E2 λσ M Q E=>to σ M (λx M1=>tb x M1=true/\r x [] M1 Q) E):=
 (vY pa slot hty hm.op ho hbase hline).imp λσ H Q2 hl_=>ex9 hl_ λσ3 M Q E3 rm ds lk h back=>aW rm ds lk h λv H1 x M1 dx rm1 t1 q1=>⟨ht x v M1 H1 dx rm1 q1.1,x,[],M1,Q,dx,.nil,rm1,q1.2,back.mono t1⟩
theorem vU(hb:∀x M,tb x M=true->(ai M x).isSome=true):TyD X "list" tb:=λx v M H dx rm h pins σ s v2 I rv=>by
 obtain⟨ds,e⟩:=Id.mp (hb x M h);obtain⟨p,vs,rfl,hq,dl⟩:=bg rm e dx;cases rv;obtain⟨its,_,pl,_⟩:=I.list hq.sq;refine⟨pl.isList.typeIs,λa e=>?_⟩
 cases e;obtain⟨o,n,e,c,hd,_⟩:=pl;exact⟨o,e,hd⟩
theorem pT:∀{ds:List D}{k j:Nat},pF y ds k=some j->k<=j/\(∃d,ds[j-k]?=some d/\eqD d y=true)/\∀m d,m<j-k->ds[m]?=some d->eqD d y=false
 |[],_,_,e=>by cases e
 |d::r,k,j,e=>by
  simp only[pF]at e;by_cases h:eqD d y=true
  ·rw[G3 h]at e;cases e;exact⟨GZ _,⟨d,by simp,h⟩,λm d' hm _=>absurd hm (by omega)⟩
  ·rw[GV h]at e;obtain⟨h1,⟨d1,h2,h3⟩,h4⟩:=pT e;refine⟨by omega,⟨d1,?_,h3⟩,λm d' hm he=>?_⟩
   ·have:j-k=(j-(k+1))+1:=by omega
    rw[this,List.getElem?_cons_succ];exact h2
   ·cases m with
    |zero=>simp at he;subst he;simpa using h
    |succ m=>exact h4 m d' (by omega) (by simpa using he)
theorem lK:TyD X "dict" (tyB .get):=λx v M H dx rm h pins σ s v2 I rv=>by
 simp only[tyB,Bool.or_eq_true]at h;rcases h with h|h
 ·obtain⟨⟨ks,ds⟩,e⟩:=Id.mp h;obtain⟨p,vs,rfl,rd,_⟩:=nM e rm dx;cases rv;obtain⟨_,_,ws,_,dd⟩:=ir I.hok rd;refine⟨dd.typeIs,λb q=>?_⟩
  cases q;obtain⟨ob,_,_,h1,h2,_⟩:=dd;exact⟨ob,h1,h2.2.1⟩
 ·obtain⟨⟨ks,ds⟩,e⟩:=Id.mp h;obtain⟨p,vs,xs,rfl,rd,z,_⟩:=gu e rm dx;cases rv;have dd:=bV I rd z;refine⟨dd.typeIs,λb q=>?_⟩
  cases q;obtain⟨ob,_,_,h1,h2,_⟩:=dd;exact⟨ob,h1,h2.2.1⟩
theorem OptDen.getD{K:Ii}{o:Option D}{ov:Option V}(h:OptDen K H o ov)(dv:Den K H d v):Den K H (o.getD d) (ov.getD v):=by
 cases o with
 |none=>cases ov with
  |none=>exact dv
  |some _=>exact h.elim
 |some d'=>cases ov with
  |none=>exact h.elim
  |some v'=>exact h
theorem gU{K:Ii}(h:DenL K H (d::ds) vs):∃v ws,vs=v::ws/\Den K H d v/\DenL K H ds ws:=by
 obtain⟨v,r,e,dv,dl⟩:=h;exact⟨v,r,e,dv,dl⟩
theorem tG(hu:X.A.units+64<cLine):VM X "dict.get" (rBm .get):=by
 intro pins s σ H x xs v vs v2 us M Q Q2 I rv rs dx dl rm q back;simp only[rBm]at q;split at q
 ·rename_i y;split at q
  ·rename_i o e;obtain⟨yv,rfl,dy⟩:=fj dl;obtain⟨u,rfl,ru⟩:=rs.one;obtain⟨a,ov,rfl,g,od⟩:=gw e rm dx dy;cases rv;exact zm (by omega) I g ru λw' s' I' rw'=>⟨_,H,I',rw',back _ _ _ _ (od.getD (show Den X.K H .non .non from rfl)) rm (.refl _) q⟩
  ·exact q.elim
 ·rename_i y z;split at q
  ·rename_i o e;obtain⟨yv,wv,rfl,dy,dw⟩:=gU dl;obtain⟨zv,rfl,dz⟩:=fj dw;obtain⟨u,w,rfl,ru,rw'⟩:=rs.two;obtain⟨a,ov,rfl,g,od⟩:=gw e rm dx dy;cases rv;exact zc (by omega) I g ru rw' λw' s' I' rw'=>⟨_,H,I',rw',back _ _ _ _ (od.getD dz) rm (.refl _) q⟩
  ·exact q.elim
 ·exact q.elim
theorem zY(hu:X.A.units+64<cLine):Aq X (λo i v H R2=>∃x k y M R,Den X.K H x o/\Den X.K H k i/\Den X.K H y v/\RelM X.K M H/\aS x k y M R/\∀H' M',RelM X.K M' H'->TM X.K H H'->R M'->R2 H'):=by
 intro pins s σ H o i v ov iv u R2 I ro ri rv ⟨x,k,y,M,R,dx,dk,dy,rm,q,back⟩;unfold aS at q;split at q
 ·rename_i a;cases (show o=.ref a from dx);split at q
  ·rename_i ds n e;split at q
   ·rename_i j ej;cases (show i=.int n from dk);obtain⟨vs,e1,dl⟩:=rm a _ e;have tw:TM X.K H (upd H a (.lst (vs.set j v))):=.put e1 (λ_ z=>by cases z) λ_ _ z=>by cases z
    refine va pins s σ H _ _ v ov iv u R2 I ro ri rv ⟨a,vs,n,j,rfl,rfl,e1,by rw[<-dl.length];exact ej,?_⟩
    exact back _ _ (rm.write (u:=.lst (ds.set j y)) e1 (λ_ z=>by cases z) (λ_ _ z=>by cases z) ⟨_,ae,(dl.set dy j).mono tw⟩) tw q
   ·exact q.elim
  ·rename_i ks ds e;split at q
   ·rename_i k' ek;cases ro;exact zx (by omega) I rm e (i9 ek dk) ri dy rv q.1 q.2 back
   ·exact q.elim
  ·rename_i ks ds e;split at q
   ·rename_i k' ek;cases ro;obtain⟨b,rfl,sq⟩:=jj ek dk;cases ri;exact yt (by omega) I rm e sq dy rv q.1 q.2 back
   ·exact q.elim
  ·exact q.elim
 ·exact q.elim
theorem vC(hu:X.A.units+64<cLine)(ho:PE X o (low X.K cls E2 to))(hi:PE X ixe (low X.K cls E2 ti))(hv:PE X value (low X.K cls E2 tv))
  (ha:∀v,assign (.Subscript o ixe pos') X.env v=(do
   let ov<-holding [v] (eval o X.env)
   let iv<-holding [v,ov] (eval ixe X.env)
   standAt pos'
   holding [v,ov,iv] (setItem ov iv v)
   release [v,ov,iv] [])) (hs:swapsWithSole [.Subscript o ixe pos'] value pos.line X.env=pure false) (hw:swappedStores [.Subscript o ixe pos'] value X.env=pure none) (h1:(assignEach [.Subscript o ixe pos'] X.env).map (·.2)=[assign (.Subscript o ixe pos') X.env]) :
  PS X (.Assign [.Subscript o ixe pos'] value pos) (bx X.K cls E2 λD E σ M=>tv σ M (λy M1=>to σ M1 (λx M2=>ti σ M2 (λk M3=>aS x k y M3 λM4=>D.nx σ M4) (E σ)) (E σ)) (E σ)):=
 (tj hv (xZ ho hi (zY hu) ha) hs hw h1).imp λD2 σ H hl_=>ex9 hl_ λσ3 M D3 E3 rm ds lk h er=>aW rm ds (lk.at ds) h λv H1 y M1 dy rm1 t1 q1=>
  aW rm1 (ds.mono t1) ((lk.at ds).mono t1) q1 λw H2 x M2 dx rm2 t2 q2=>aW rm2 ((ds.mono t1).mono t2) (((lk.at ds).mono t1).mono t2) q2 λz H3 k M3 dk rm3 t3 q3=>
   ⟨x,k,y,M3,_,dx.mono t3,dk,(dy.mono t2).mono t3,rm3,q3,λH' M' rm' t' q'=>er.nx _ _ σ3 M' rm' ((((ds.mono t1).mono t2).mono t3).mono t') (((t1.trans t2).trans t3).trans t') q'⟩
end
end L2
namespace L2
open PySem PySem.Spec PyProof.Rows PySem.W
section
variable {A:Around}{s:Shared} [DecidableEq κ] {knd:HeapKind prog w κ}{xs:List (κ×Addr×Value)}{p:Addr×Value}
end
section
variable {X:Cx}
end
end L2
namespace L2
open PySem PySem.Spec PyProof.Rows
section
variable {X:Cx}
theorem VM.of{id:String}{r3:D->List D->MH->VK3->Prop}{r:V->List V->Hp->VK->Prop}(h:MtM X id r)
  (hr:∀(H:Hp)(x:D)(xs:List D)(v:V)(vs:List V)(M:MH)(Q:VK3)(Q2:VK),Den X.K H x v->DenL X.K H xs vs->RelM X.K M H->r3 x xs M Q->Back X.K H Q Q2->r v vs H Q2):VM X id r3:=
 λpins s σ H x xs v vs v2 us M Q Q2 I rv rs dx dl rm q back=>h pins s σ H v vs v2 us Q2 I rv rs (hr H x xs v vs M Q Q2 dx dl rm q back)
theorem fV:TyD X "list" isLstM:=vU λx M h=>by
 unfold isLstM at h;split at h
 ·split at h
  ·rename_i e;simp[ai,e]
  ·cases h
 ·cases h
theorem DenL.app{K:Ii}:∀{ds es:List D}{vs ws:List V},DenL K H ds vs->DenL K H es ws->DenL K H (ds++es) (vs++ws)
 |[],es,vs,ws,h,g=>by cases (show vs=[] from h);exact g
 |d::ds,es,vs,ws,h,g=>by
  obtain⟨v,us,rfl,dv,dw⟩:=gU h;exact .cons dv (DenL.app dw g)
theorem pZ{K:Ii}{H:Hp}{M:MH}{a:Addr}{ds es:List D}{vs:List V}(rm:RelM K M H)(e:H a=some (.lst vs))(ws:List V)(h:DenL K H es ws):RelM K (put M a (.lst es)) (upd H a (.lst ws))/\TM K H (upd H a (.lst ws)):=by
 have tw:TM K H (upd H a (.lst ws)):=.put e (λ_ z=>by cases z) λ_ _ z=>by cases z
 exact⟨rm.write (u:=.lst es) e (λ_ z=>by cases z) (λ_ _ z=>by cases z) ⟨_,ae,h.mono tw⟩,tw⟩
def u9:V->List V->Hp->VK->Prop:=λx vs H Q=>∃l b xs zs,x=.ref l/\vs=[.ref b]/\H l=some (.lst xs)/\RdL X.K H b zs/\xs.length+zs.length<=sizeLine/\Q .non (upd H l (.lst (xs++zs)))
theorem pC:MtM X "list.extend" (u9 (X:=X)):=by
 intro pins s σ H x vs v us Q I rx rv h;obtain⟨l,b,xs,zs,rfl,rfl,hH,hB,hz,q⟩:=h;cases rx;obtain⟨u,rfl,ru⟩:=rv.one;cases ru;obtain⟨z,its,n,r,hl,e⟩:=I.lstM hH;obtain⟨z2,its2,n2,r2,hl2,e2⟩:=I.rdL hB;have hsz:its.toArray.size+its2.toArray.size<=sizeLine:=by rw[G7,G7];omega
 have hlong:¬ (!its.toArray.isEmpty&&Builtin.List.listTooLong (its.toArray.size+its2.toArray.size))=true:=by
  rw[uC hsz,Bool.and_false];exact Hf
 refine call_meets F.slot_list_extend ⟨_,e,rfl⟩ F.entry_list_extend (F.args_list_extend_2 _ _)
  (AutoSeq1.list_extend_list_list_0 l its.toArray n b its2.toArray n2 hlong (by rw[G7];omega) (by omega)) ⟨e,e2,?_⟩
 refine⟨.non,_,I.lset (its':=its++its2) hH e (by simp) (r.append r2) ?_,rfl,q⟩
 rw[Hu];omega
theorem kI:VM X "list.extend" (rBm .extend):=VM.of pC λH x xs v vs M Q Q2 dx dl rm q back=>by
 simp only[rBm]at q;split at q
 ·rename_i a y;split at q
  ·rename_i ds es e e';obtain⟨ws,e1,dw⟩:=rm a _ e;cases (show v=.ref a from dx);obtain⟨yv,rfl,dy⟩:=fj dl;obtain⟨p,us,rfl,hq,du⟩:=bg rm e' dy;obtain⟨r1,t1⟩:=pZ (ds:=ds) rm e1 _ (dw.append du);exact⟨a,p,ws,us,rfl,rfl,e1,hq,by rw[<-dw.length,<-du.length];exact q.1,back _ _ .non _ rfl r1 t1 q.2⟩
  ·exact q.elim
 ·exact q.elim
theorem DenL.erase{K:Ii}{H:Hp}{ds:List D}{vs:List V}(k:Nat)(h:DenL K H ds vs):DenL K H (ds.eraseIdx k) (vs.eraseIdx k):=by
 rw[List.eraseIdx_eq_take_drop_succ,List.eraseIdx_eq_take_drop_succ];exact (h.take _).app (h.drop _)
end
end L2
namespace L2
open PySem PySem.Spec PyProof.Rows SeqAt PySem.MeetsSeq AutoSeq1
theorem qH(p:Addr)(its:Array Value)(c:Nat)(x:Value)(f:Value->Bool)(j:Nat)(hj:j<its.size)(hz:its.size<=sizeLine)(hit:f its[j]=true):∀(k i:Nat),j-i=k->i<=j->(∀m (hm:m<its.size),i<=m->m<j->f its[m]=false)->
  Meets (Builtin.«list.remove.loop» ⟨[.ref p,x,rawInt i],[]⟩) (λA R s=>s.heap.get? p=some {cls:=.type "list",dict:=none,data:=.seq its c,slots:=#[]}/\(∀y,y∈its->EqAt A.in1 s y x (f y))/\R (.ok (.ret .none)) {s with heap:=s.heap.update p (Obj.mapSeq λxs=>xs.eraseIdxIfInBounds j)})
 |0,i,e,hle,_=>by
  intro prog w A R s q;obtain⟨h1,h2,h3,h4,h5⟩:=s;obtain⟨hg,he,q⟩:=q;obtain rfl:i=j:=by omega
  wp_walk using wpAny_loadPart' hg
  rw[show its[((i:Nat):Int).toNat]?=some its[i] by simp[hj]]
  refine xL (he _ (Array.getElem_mem hj) prog w _ _ ?_);rw[hit];have z2:(its.eraseIdxIfInBounds i).size<=sizeLine+1:=Ha (size_erased its _) (Nat.le_succ_of_le hz)
  wp_walk using (wpAny_updateSeq hg rfl (hz:=hz) (_hz':=z2)),wpAny_loadPart' hg
  simpa using q
 |k+1,i,e,hle,hno=>by
  intro prog w A R s q;obtain⟨h1,h2,h3,h4,h5⟩:=s;obtain⟨hg,he,q⟩:=q;have lt:i<its.size:=by omega
  wp_walk using wpAny_loadPart' hg
  rw[show its[((i:Nat):Int).toNat]?=some its[i] by simp[lt]]
  refine xL (he _ (Array.getElem_mem lt) prog w _ _ ?_);rw[hno i lt (GZ _) (by omega)]
  wp_walk
  rw[show ((i:Int)+1)=((i+1:Nat):Int) by push_cast;rfl]
  exact⟨plainId_quiet plain_remove_loop _,codeAny_builtin entry_remove_loop (by
   rw[Around.under_plainId plain_remove_loop _];exact qH p its c x f j hj hz hit k (i+1) (by omega) (by omega) (λm hm a b=>hno m hm (by omega) b) prog w A R _ ⟨hg,he,q⟩)⟩
theorem A5(p:Addr)(its:Array Value)(c:Nat)(x:Value)(f:Value->Bool)(j:Nat)(hj:j<its.size)(hz:its.size<=sizeLine)(hit:f its[j]=true)(hno:∀m (hm:m<its.size),m<j->f its[m]=false) :
  Meets (Builtin.«list.remove» ⟨[.ref p,x],[]⟩) (λA R s=>s.heap.get? p=some {cls:=.type "list",dict:=none,data:=.seq its c,slots:=#[]}/\(∀y,y∈its->EqAt A.in1 s y x (f y))/\R (.ok (.ret .none)) {s with heap:=s.heap.update p (Obj.mapSeq λxs=>xs.eraseIdxIfInBounds j)}):=by
 intro prog w A R s q;obtain⟨h1,h2,h3,h4,h5⟩:=s;obtain⟨hg,he,q⟩:=q
 wp_walk using wpAny_loadPart' hg
 exact⟨plainId_quiet plain_remove_loop _,codeAny_builtin entry_remove_loop (by
  rw[Around.under_plainId plain_remove_loop _];exact qH p its c x f j hj hz hit j 0 (by omega) (Nat.zero_le _) (λm hm _ b=>hno m hm b) prog w A R _ ⟨hg,he,q⟩)⟩
theorem jy:∀{vs:List V}{us:List Value},Vals vs us->∀j,Vals (vs.eraseIdx j) (us.eraseIdx j)
 |_,_,.nil,_=>.nil
 |_,_,.cons _ r,0=>r
 |_,_,.cons h r,j+1=>.cons h (jy r j)
theorem kz{X:Cx}(hu:X.A.units+64<cLine):VM X "list.remove" (rBm .remove):=by
 intro pins s σ H x xs v vs v2 us M Q Q2 I rv rs dx dl rm q back;simp only[rBm]at q;split at q
 ·rename_i p y;split at q
  ·rename_i ds e;obtain⟨⟨p1,p2⟩,q⟩:=q;split at q
   ·rename_i j ej;obtain⟨_,⟨d1,h2,h3⟩,h4⟩:=pT ej;obtain⟨ws,hH,dl2⟩:=rm p _ e;cases (show v=.ref p from dx);cases rv;obtain⟨yv,rfl,dy⟩:=fj dl;obtain⟨u,rfl,ru⟩:=rs.one;obtain⟨z,its,n,r2,hl2,ho⟩:=I.lstM hH;obtain⟨H',I',t',d2⟩:=m8 I rm dy p1;have dl':=dl2.mono t';have pd:=hJ dl' r2
    classical
    let f:Value->Bool:=λw=>if h:∃d∈ds,∃v,Den X.K H' d v/\RelV v w then eqD h.choose (res M y) else false
    have hf:∀d w,d∈ds->(∃v,Den X.K H' d v/\RelV v w)->f w=eqD d (res M y):=λd w hd ⟨v',dv,rw'⟩=>by
     have h:∃d∈ds,∃v,Den X.K H' d v/\RelV v w:=⟨d,hd,v',dv,rw'⟩;obtain⟨hm,v'',dv2,rw2⟩:=h.choose_spec;have:v''=v':=rw2.inj rw';subst this;have e1:h.choose=d:=lZ I' rfl 8 (Hh.mp p2 _ hm) (Hh.mp p2 _ hd) dv2 dv;show (if h:∃d∈ds,∃v,Den X.K H' d v/\RelV v w then eqD h.choose (res M y) else false)=_
     rw[dif_pos h,e1]
    have hat:∀(m:Nat)(hm:m<its.toArray.size),∃d,ds[m]?=some d/\f its.toArray[m]=eqD d (res M y):=λm hm=>by
     have hm':m<ds.length:=by rw[dl2.length,hl2];simpa using hm
     refine⟨ds[m],by simp[hm'],?_⟩
     obtain⟨v',e1,e2⟩:=dl'.get (i:=m) (d:=ds[m]) (by simp[hm'])
     obtain⟨w',e3,e4⟩:=r2.get e1;have:its.toArray[m]=w':=by
      have hm2:m<its.length:=by simpa using hm
      have:its[m]?=some its[m]:=by simp[hm2]
      rw[this]at e3;simpa using e3
     rw[this];exact hf _ _ (HU hm') ⟨v',e2,e4⟩
    have hj:j<its.toArray.size:=by
     have h5:j<ds.length:=(Hv.mp (by simpa using h2)).1
     rw[G7,<-hl2,<-dl2.length];exact h5
    have hzz:its.toArray.size<=sizeLine:=by rw[G7,<-hl2];exact z
    obtain⟨r1,t1⟩:=pZ (ds:=ds) rm hH _ (dl2.erase j);refine call_meets PySem.F.slot_list_remove ⟨_,ho,rfl⟩ PySem.F.entry_list_remove (PySem.F.args_list_remove_2 _ _) (A5 p its.toArray n u f j hj hzz ?_ ?_) ⟨ho,λw hw=>?_,?_⟩
    ·obtain⟨d,e1,e2⟩:=hat j hj;rw[e2];simp at h2;rw[e1]at h2;cases h2;exact h3
    ·intro m hm hlt;obtain⟨d,e1,e2⟩:=hat m hm;rw[e2];exact h4 m d (by simpa using hlt) e1
    ·obtain⟨d,hd,v',dv,rw'⟩:=Paired.mem_right pd w (by simpa using hw)
     rw[hf d w hd ⟨v',dv,rw'⟩];exact (Ar I' rfl 8 (A:=X.A.in1) (Hh.mp p2 _ hd) p1 dv d2 rw' ru (by show X.A.units+1+8<cLine;omega)).2.2
    ·refine⟨.non,_,I.lset (its':=its.eraseIdx j) hH ho ?_ (jy r2 j) ?_,rfl,back _ _ .non _ rfl r1 t1 q⟩
     ·show its.toArray.eraseIdxIfInBounds j=_;unfold Array.eraseIdxIfInBounds;rw[dif_pos hj];simp
     ·exact Ha (by rw[List.length_eraseIdx];split<;>omega) z
   ·exact q.elim
  ·exact q.elim
 ·exact q.elim
end L2
namespace L2
open PySem PySem.Spec PyProof.Rows PySem.W
section
variable {X:Cx}
theorem yp{A:Around}{s:Shared}{kvs:List (Key×V)}{k:Key}{d:V}{u r:Value}{Q:Value->Shared->Prop}(I:Inv X pins σ H s)(e:H a=some (.dK kvs))(ry:RelV (kV k) u)(rd:RelV d r)(l:kvs.length<sizeLine)
  (h1:∀v,cK kvs k=some v->∀w' s',Inv X pins σ H s'->RelV v w'->Q w' s') (h2:cK kvs k=none->∀s',Inv X pins σ (upd H a (.dK (c5 kvs k d))) s'->Q r s') :
  wpAny (model X.prog X.w) A (call (.builtin "dict.setdefault") [.ref a,u,r]) Q E s:=by
 obtain⟨z,hd,vs,rel,dd⟩:=tq I.hok e;have hz:vs.length<=sizeLine:=by rw[<-rel.length];exact z
 refine call_meetsIn PySem.F.slot_dict_setdefault dd.typeIs PySem.F.entry_dict_setdefault (PySem.F.args_dict_setdefault_3 _ _ _) (kt_meets_setdefault (av X.prog X.w) a (iw ry) hd r) ⟨vs,dd,hz,λv hv=>?_,λhv h' dd' hs=>?_⟩
 ·have q:=rel.val k;rw[hv]at q;cases g:cK kvs k with
  |none=>rw[g]at q;exact q.elim
  |some v'=>rw[g]at q;exact h1 v' g v _ (I.tok _) q
 ·have q:=rel.val k;rw[hv]at q;have hl:(c5 kvs k d).length<=sizeLine:=by have:=dW kvs k d;omega
  have he:∃q,h'.get? a=some q:=let ⟨q,_,_,hq,_⟩:=dd';⟨q,hq⟩
  cases g:cK kvs k with
  |some v'=>rw[g]at q;exact q.elim
  |none=>exact h2 g _ (gC I (by rw[e];exact True.intro) hs he (uJ hl hd (rel.put k rd) dd'))
theorem oq:TyD X "dict" (tyB .setdef):=lK
theorem ll:VM X "dict.setdefault" (rBm .setdef):=by
 intro pins s σ H x xs v vs v2 us M Q Q2 I rv rs dx dl rm q back;simp only[rBm]at q;split at q
 ·rename_i a y z;split at q
  ·rename_i ks ds k e ek;obtain⟨hz,q⟩:=q;obtain⟨yv,wv,rfl,dy,dw⟩:=gU dl;obtain⟨zv,rfl,dz⟩:=fj dw;obtain⟨u,w,rfl,ru,rw'⟩:=rs.two;cases (show v=.ref a from dx);cases rv;obtain⟨vs,eH,hl,dl0⟩:=rm a _ e;have hk:=i9 ek dy;subst hk;have g:=fS (k:=k) dl0 hl;obtain⟨vs',h1,h2,h3⟩:=iY (k:=k) (v:=zv) (nv I eH hl) dl0 hl dz;refine yp I eH ru rw' (by rw[List.length_zip,hl,Nat.min_self,<-hl];exact hz) (λv' hv w' s' I' r'=>?_) (λhv s' I'=>?_)
   ·cases q0:getD ks ds k with
    |none=>rw[g.2 q0]at hv;cases hv
    |some d0=>
     obtain⟨w0,h1,h2⟩:=g.1 d0 q0;rw[q0]at q;rw[h1]at hv;cases hv;exact⟨_,H,I',r',back _ _ _ _ h2 rm (.refl _) q⟩
   ·cases q0:getD ks ds k with
    |some d0=>obtain⟨w0,h1,h2⟩:=g.1 d0 q0;rw[h1]at hv;cases hv
    |none=>
     rw[q0]at q;have tw:TM X.K H (upd H a (.dK (c5 (ks.zip vs) k zv))):=.put eH (λ_ z=>by cases z) λ_ _ z=>by cases z
     exact⟨_,_,I',rw',back _ _ _ _ (dz.mono tw) (rm.write (u:=.dk (aj ks k) (ak ks ds k z)) eH (λ_ z=>by cases z) (λ_ _ z=>by cases z) ⟨vs',by rw[ae,h1],h2,h3.mono tw⟩) tw q⟩
  ·exact q.elim
 ·exact q.elim
end
end L2
namespace L2
open PySem PySem.Spec PyProof.Rows PySem.Calls PySem.NumText PySem.W.KIN
end L2
namespace L2
open PySem PySem.Spec PyProof.Rows
def yb(K:Ii):Prop:=PySem.W.nsIn K cStatics "sys.int_max_str_digits"=some none
section
variable {X:Cx}
end
section
variable {X:Cx}{s:Shared}{h':Heap}
theorem Inv.turned2(I:Inv X pins σ H s)(k:∀b o,b≠it->b≠it'->s.heap.get? b=some o->h'.get? b=some o)(f:fu X pins H it)(f':fu X pins H it')(ht:0<t':=by first|exact HH _|assumption|exact Inv.tk (by assumption)):Inv X pins σ H {s with heap:=h',toks:=t'}:=by
 obtain⟨hn,hL,_,h1,h2,h3⟩:=f;obtain⟨hn',hL',_,h1',h2',h3'⟩:=f';have nit:∀b u,H b=some u->b≠it:=λb u e z=>by rw[z,hn]at e;cases e
 have nit':∀b u,H b=some u->b≠it':=λb u e z=>by rw[z,hn']at e;cases e
 have kc:∀b o,b∉[it,it']->s.heap.get? b=some o->h'.get? b=some o:=λb o hc e=>k b o (λz=>hc (by simp[z])) (λz=>hc (by simp[z])) e
 refine I.step (g':=s.gens) (d':=s.drawn) (ch:=[it,it']) (λb hb=>?_) (λb o _ _ hc e _=>kc b o hc e) (λb o _ _ hc e _=>⟨o.slots,kc b o hc e⟩) (λ_ _ _ _ n=>n)
  (λb o hc e=>⟨o,kc b o hc e⟩) (λ_ _ e=>e) (λ_ _ _ e=>e) (λb ps e=>⟨#[],by rw[e];simp⟩) (λm hm=>?_) (λb u e=>?_) I.bare ht
 ·rcases G9.mp hb with rfl|hb
  ·exact⟨h1,hL,h2,h3⟩
  ·have e:b=it':=by simpa using hb
   subst e;exact⟨h1',hL',h2',h3'⟩
 ·obtain⟨o,es,ep,ho,r⟩:=hm;exact⟨o,es,ep,k _ o (He hL) (He hL') ho,r⟩
 ·refine (I.hok b u e).stay (λc v hc q=>k c v ?_ ?_ q) (λ_ q=>q) λ_ _ q=>q
  ·rcases hc with z|z
   ·rw[z];exact nit b u e
   ·exact nit c _ z
  ·rcases hc with z|z
   ·rw[z];exact nit' b u e
   ·exact nit' c _ z
noncomputable def Ite(K:Ii)(a:Addr):It:=
 ⟨λi H=>∃xs x,SqL K H a xs/\xs[i]?=some x,λi H v H'=>∃p,v=.ref p/\H p=none/\∃x,(∀xs,SqL K H a xs->xs[i]?=some x)/\H'=upd H p (.tup [.int i,x]),λi H=>∃xs,SqL K H a xs/\xs.length<=i⟩
theorem rB{K:Ii}(a e it:Addr)(hne:e≠it):Turn P w K (.Tuple elts x1 pos) (Ite K a) [e,it] e (λi h=>(∃old,IsEnum h e it i old)/\h.IsListIter it a i) where
 mem:=by simp
 obj:=λi h st b hb=>by
  obtain⟨⟨old,h1⟩,h2⟩:=st;rcases G9.mp hb with rfl|hb
  ·exact⟨_,h1,λv z=>by
    have z':Data.fields _=Data.cell v:=z;cases z'⟩
  ·have e':b=it:=by simpa using hb
   subst e';obtain⟨o,e1,c,d⟩:=h2;exact⟨o,e1,λv z=>by rw[d]at z;cases z⟩
 keep:=λi h h' st k=>⟨let ⟨old,h1⟩:=st.1;⟨old,k e (by simp) _ h1⟩,st.2.at λo e1=>k it (by simp) o e1⟩
 item:=by
  intro X hP hw hK hc i pins s σ H E I hf st hg;subst hP hw hK;obtain⟨xs,x,hq,hx⟩:=hg;obtain⟨its,rv,p,hz⟩:=I.list hq;obtain⟨u,hu,ru⟩:=rv.get hx;obtain⟨⟨old,he⟩,hit⟩:=st;have fe:=hf e (by simp)
  have fi:=hf it (by simp)
  have hel:e<s.heap.objs.size:=G2 he;obtain⟨oi,hoi,_⟩:=id hit;have hil:it<s.heap.objs.size:=G2 hoi;refine wpAny_pyNext_enum_item he hit p.isList (x:=u) (by simpa using hu) hne λh' heo hit' ht hsz k=>?_
  have hp:H s.heap.objs.size=none:=I.hok.fresh (GZ _);have I1:Inv X pins σ (upd H s.heap.objs.size (.tup [.int i,x])) {s with heap:=s.heap.push {cls:=.type "tuple",data:=.seq #[.int i s.toks,u]},toks:=s.toks+1}:=
   I.laid (λb o e1=>GX _ e1) (GZ _) ⟨by show 2<=sizeLine;decide,[.int i s.toks,u],.cons ⟨_,rfl⟩ (.cons ru .nil),⟨_,G4 _ rfl,rfl,_,rfl⟩⟩
  have fe':fu X pins (upd H s.heap.objs.size (.tup [.int i,x])) e:=⟨by rw[ac (Hl hel)];exact fe.1,fe.2⟩
  have fi':fu X pins (upd H s.heap.objs.size (.tup [.int i,x])) it:=⟨by rw[ac (Hl hil)];exact fi.1,fi.2⟩
  have I2:Inv X pins σ (upd H s.heap.objs.size (.tup [.int i,x])) {s with heap:=h',toks:=s.toks+1}:=I1.turned2 (t':=s.toks+1) (λb o h1 h2 e1=>by
   by_cases hb:b=s.heap.objs.size
   ·subst hb;have e2:(s.heap.push {cls:=.type "tuple",data:=.seq #[.int i s.toks,u]}).get? s.heap.objs.size=some {cls:=.type "tuple",data:=.seq #[.int i s.toks,u]}:=G4 _ rfl;rw[e2]at e1;cases e1;exact ht
   ·exact k b o h1 h2 ((Heap.get?_push_ne _ _ _ hb).symm.trans e1)) fe' fi'
  refine⟨.ref s.heap.objs.size,rfl,wpAny_letOwnedTupleGo_enum (s:={s with heap:=h',toks:=s.toks+1}) heo λh2 he2 hs2=>?_⟩
  obtain⟨f0,f1,f2,f3,f4,f5⟩:=fe';have I3:Inv X pins σ (upd H s.heap.objs.size (.tup [.int i,x])) {s with heap:=h2,toks:=s.toks+1}:=I2.turned (t':=s.toks+1) (λb o hb e1=>(hs2.2 b hb).trans e1) f0 f1 f3 f4 f5
  refine⟨.ref s.heap.objs.size,_,I3,rfl,⟨_,rfl,hp,x,λys hy=>by rw[I.list_inj hy hq];exact hx,rfl⟩,⟨⟨_,he2⟩,?_⟩,λb hb=>?_⟩
  ·exact hit'.at λo e1=>(hs2.2 it (He hne)).trans e1
  ·rcases G9.mp hb with rfl|hb
   ·exact f0
   ·have e':b=it:=by simpa using hb
    subst e';exact fi'.1
 done:=by
  intro X hP hw hK hc i pins s σ H E I hf st hg;subst hP hw hK;obtain⟨xs,hq,hx⟩:=hg;obtain⟨its,rv,p,hz⟩:=I.list hq;obtain⟨⟨old,he⟩,hit⟩:=st;obtain⟨f0,f1,f2,f3,f4,f5⟩:=hf it (by simp)
  have hl:=rv.length;exact wpAny_pyNext_enum_end (I.ok.hd hc) he hit p.isList (by simp;omega) λh' eb=>⟨rfl,I.turned (t':=s.toks) (λb o hb e=>eb b o hb e) f0 f1 f3 f4 f5⟩
 self:=λ_ _ _ _ _ st h=>let ⟨⟨_,he⟩,_⟩:=st;wpAny_pyIter_enum he h
theorem gL:∀{ds:List D}{k i:Nat}{d:D},ds[i]?=some d->(bh k ds)[i]?=some (.tup [.int (k+i:Nat),d])
 |[],_,_,_,h=>by simp at h
 |x::r,k,0,d,h=>by
  have e:x=d:=by simpa using h
  subst e;rfl
 |x::r,k,i+1,d,h=>by
  have:=gL (ds:=r) (k:=k+1) (i:=i) (d:=d) (by simpa using h)
  rw[show k+1+i=k+(i+1) by omega]at this
  exact this
theorem db:∀{ds:List D}{k:Nat},(bh k ds).length=ds.length
 |[],_=>rfl
 |x::r,k=>by
  show (bh (k+1) r).length+1=r.length+1;rw[db]
theorem wR{K:Ii}(sq:SqF K H0 p vs)(dl:DenL K H0 ds vs):ItOk K H0 (Ite K p) (bh 0 ds) (λ_=>True):=by
 have hlen:=dl.length;refine⟨λi H M t rm s hi=>?_,λi H M x H' t rm s hi y=>?_,λH M t rm s=>?_⟩
 ·rw[db]at hi;have hi':i<vs.length:=by omega
  exact⟨vs,vs[i],(t.f _ _ sq).sq,by simp[hi']⟩
 ·obtain⟨q,rfl,hq,v,hv,rfl⟩:=y;obtain⟨d,e1,e2⟩:=(dl.mono t).get' (hv vs (t.f _ _ sq).sq);refine⟨.new hq,rm.grow hq,.tup [.int i,d],?_,⟨q,[.int i,v],rfl,.inl (.inl ae),⟨_,_,rfl,rfl,_,_,rfl,e2.mono (.new hq),rfl⟩⟩⟩;have:=gL (k:=0) e1;simpa using this
 ·rw[db];exact⟨vs,(t.f _ _ sq).sq,by omega⟩
theorem vd{K:Ii}:ItOk K H0 (Ite K p) (bh 0 ds) (λM=>M p=some (.lst ds)):=by
 refine⟨λi H M t rm s hi=>?_,λi H M x H' t rm s hi y=>?_,λH M t rm s=>?_⟩
 ·obtain⟨vs,e,dl⟩:=rm p _ s;rw[db]at hi;have hi':i<vs.length:=by rw[<-dl.length];exact hi
  exact⟨vs,vs[i],.of e,by simp[hi']⟩
 ·obtain⟨vs,e,dl⟩:=rm p _ s;obtain⟨q,rfl,hq,v,hv,rfl⟩:=y;obtain⟨d,e1,e2⟩:=dl.get' (hv vs (.of e));refine⟨.new hq,rm.grow hq,.tup [.int i,d],?_,⟨q,[.int i,v],rfl,.inl (.inl ae),⟨_,_,rfl,rfl,_,_,rfl,e2.mono (.new hq),rfl⟩⟩⟩;have:=gL (k:=0) e1;simpa using this
 ·obtain⟨vs,e,dl⟩:=rm p _ s;rw[db];exact⟨vs,.of e,by rw[dl.length];exact GZ _⟩
noncomputable def BU(K:Ii)(ta:TA):TI:=λσ H R=>ta σ H λvs H1=>∃a,vs=[.ref a]/\(∃xs,SqL K H1 a xs)/\R (Ite K a) H1
theorem xm(hg:Gl X "enumerate")(hm:X.mg "enumerate"=none)(ha:PA X [a] ta)(hs:starEach [a] X.env=[(false,eval a X.env)]):PI X (.Tuple elts x1 pt) (.Call (.Name "enumerate" p) [a] [] pos) (BU X.K ta):=by
 intro pins s σ H R I h;refine Call_ (gW I hg hm (u:=.type "enumerate") (by decide +kernel) (PyProof.Rows.callWith_type1 (thn (ha pos pins s σ H _ I h) λus s1 ⟨vs,H1,I1,r1,q1⟩=>?_) hs rfl))
 obtain⟨b,e,⟨xs,hq⟩,q⟩:=q1;subst e;obtain⟨u,rfl,ru⟩:=im r1;cases ru;obtain⟨its,rv,pl,hz⟩:=I1.list hq;refine call_enumerate_list pl.isList λh' he hit hsz k=>?_
 refine wpAny_pyIter_enum (s:={s1 with heap:=h'}) he ?_
 refine⟨s1.heap.objs.size+1,[s1.heap.objs.size+1,s1.heap.objs.size],_,_,H1,rfl,I1.kept (t':=s1.toks) k,rB b (s1.heap.objs.size+1) s1.heap.objs.size (Nat.succ_ne_self _),⟨⟨_,he⟩,hit⟩,λc hc=>?_,q⟩
 have hle:s1.heap.objs.size<=c:=by
  rcases G9.mp hc with rfl|hc
  ·exact Ia _
  ·have e':c=s1.heap.objs.size:=by simpa using hc
   exact Nat.le_of_eq e'.symm
 exact I1.fpOk hle (I1.hok.fresh hle)
theorem Ad(hg:Gl X "enumerate")(hm:X.mg "enumerate"=none)(ha:PE X a (low X.K cls E2 ta))(hs:starEach [a] X.env=[(false,eval a X.env)]) :
  PI X (.Tuple elts x1 pt) (.Call (.Name "enumerate" p) [a] [] pos) (ka X.K cls E2 λσ M R E=>ta σ M (λx M1=>match x with
  |.rol ds=>R (bh 0 ds) (λ_=>True) M1
  |.ref a=>match M1 a with
   |some (.lst ds)=>R (bh 0 ds) (λM=>M a=some (.lst ds)) M1
   |_=>False
  |_=>False) E):=
 (xm hg hm (aM ha pa_nil hs) hs).imp λσ H R2 hl_=>ex9 hl_ λσ3 M R E3 rm ds lk h k=>aW rm ds lk h λv H1 x M1 dx rm1 t1 q1=>by
  cases x with
  |rol es=>
   obtain⟨q,vs,rfl,sq,dl⟩:=dx;exact⟨q,rfl,⟨vs,sq.sq⟩,k _ _ _ _ _ (wR sq dl) rm1 t1 q1⟩
  |ref a=>
   cases (show v=.ref a from dx);have q1:(match M1 a with
    |some (.lst ds)=>R (bh 0 ds) (λM=>M a=some (.lst ds)) M1
    |_=>False):=q1
   split at q1
   ·rename_i ds e;obtain⟨vs,eH,dl⟩:=rm1 a _ e;exact⟨a,rfl,⟨vs,.of eH⟩,k _ _ _ _ _ vd rm1 t1 q1⟩
   ·exact q1.elim
  |_=>exact q1.elim
end
section
variable {X:Cx}{s:Shared}{h':Heap}
theorem Inv.turnedL{t':Nat}{ch:List Addr}(I:Inv X pins σ H s)(k:∀b o,b∉ch->s.heap.get? b=some o->h'.get? b=some o)(f:∀b∈ch,fu X pins H b)(ht:0<t':=by first|exact HH _|assumption|exact Inv.tk (by assumption)):Inv X pins σ H {s with heap:=h',toks:=t'}:=by
 have nit:∀b u,H b=some u->b∉ch:=λb u e z=>by rw[(f b z).1]at e;cases e
 refine I.step (g':=s.gens) (d':=s.drawn) (ch:=ch) (λb hb=>?_) (λb o _ _ hc e _=>k b o hc e) (λb o _ _ hc e _=>⟨o.slots,k b o hc e⟩) (λ_ _ _ _ n=>n)
  (λb o hc e=>⟨o,k b o hc e⟩) (λ_ _ e=>e) (λ_ _ _ e=>e) (λb ps e=>⟨#[],by rw[e];simp⟩) (λm hm=>?_) (λb u e=>?_) I.bare ht
 ·obtain⟨hn,hL,_,h1,h2,h3⟩:=f b hb;exact⟨h1,hL,h2,h3⟩
 ·obtain⟨o,es,ep,ho,r⟩:=hm;exact⟨o,es,ep,k _ o (λz=>(f _ z).2.1 rfl) ho,r⟩
 ·refine (I.hok b u e).stay (λc v hc q=>k c v ?_ q) (λ_ q=>q) λ_ _ q=>q
  rcases hc with z|z
  ·rw[z];exact nit b u e
  ·exact nit c _ z
noncomputable def Itz(K:Ii)(a b:Addr):It:=
 ⟨λi H=>∃xs ys x y,SqL K H a xs/\SqL K H b ys/\xs[i]?=some x/\ys[i]?=some y,λi H v H'=>∃p,v=.ref p/\H p=none/\∃x y,(∀xs,SqL K H a xs->xs[i]?=some x)/\(∀ys,SqL K H b ys->ys[i]?=some y)/\H'=upd H p (.tup [x,y]),λi H=>∃xs ys,SqL K H a xs/\SqL K H b ys/\(xs.length<=i\/ys.length<=i)⟩
theorem sW{P:Program}{w:World}{K:Ii}{elts:List Expr}{x1:Nat}{pos:Pos}(a b z TI TO i1 i2:Addr)(D:ZipApart z TI TO i1 i2 a b):Turn P w K (.Tuple elts x1 pos) (Itz K a b) [z,TI,TO,i1,i2] z (λi h=>IsZip h z TI TO .none/\IsPair h TI (.ref i1) (.ref i2)/\(∃c d,IsPair h TO c d)/\h.IsListIter i1 a i/\h.IsListIter i2 b i) where
 mem:=by simp
 obj:=λi h st c hc=>by
  obtain⟨h1,h2,⟨_,_,h3⟩,h4,h5⟩:=st;simp only[G9,HS,or_false]at hc;rcases hc with rfl|rfl|rfl|rfl|rfl
  ·exact⟨_,h1,λv q=>by have q':Data.fields _=Data.cell v:=q;cases q'⟩
  ·exact⟨_,h2,λv q=>by have q':Data.seq _ _=Data.cell v:=q;cases q'⟩
  ·exact⟨_,h3,λv q=>by have q':Data.seq _ _=Data.cell v:=q;cases q'⟩
  ·obtain⟨o,e1,c,d⟩:=h4;exact⟨o,e1,λv q=>by rw[d]at q;cases q⟩
  ·obtain⟨o,e1,c,d⟩:=h5;exact⟨o,e1,λv q=>by rw[d]at q;cases q⟩
 keep:=λi h h' st k=>by
  obtain⟨h1,h2,⟨c,d,h3⟩,h4,h5⟩:=st;exact⟨k z (by simp) _ h1,k TI (by simp) _ h2,⟨c,d,k TO (by simp) _ h3⟩,h4.at λo e1=>k i1 (by simp) o e1,h5.at λo e1=>k i2 (by simp) o e1⟩
 item:=by
  intro X hP hw hK hc i pins s σ H E I hf st hg;subst hP hw hK;obtain⟨xs,ys,x,y,hq,hq2,hx,hy⟩:=hg;obtain⟨its,rv,p,hz⟩:=I.list hq;obtain⟨its2,rv2,p2,hz2⟩:=I.list hq2;obtain⟨u,hu,ru⟩:=rv.get hx;obtain⟨u2,hu2,ru2⟩:=rv2.get hy;obtain⟨h1,h2,⟨c,d,h3⟩,h4,h5⟩:=st;have lt:∀{c o},s.heap.get? c=some o->c<s.heap.objs.size:=λe=>G2 e
  refine wpAny_pyNext_zip_item D h1 h2 h3 h4 h5 p.isList p2.isList (x:=u) (y:=u2) (by simpa using hu) (by simpa using hu2) λh' a1 a2 a3 a4 a5 a6 k=>?_
  have hp:H s.heap.objs.size=none:=I.hok.fresh (GZ _);have I1:Inv X pins σ (upd H s.heap.objs.size (.tup [x,y])) {s with heap:=s.heap.push {cls:=.type "tuple",data:=.seq #[u,u2]},toks:=s.toks}:=
   I.laid (λb o e1=>GX _ e1) (GZ _) ⟨by show 2<=sizeLine;decide,[u,u2],.cons ru (.cons ru2 .nil),⟨_,G4 _ rfl,rfl,_,rfl⟩⟩
  have hlt:∀b∈[z,TI,TO,i1,i2],b<s.heap.objs.size:=λb hb=>by
   simp only[G9,HS,or_false]at hb;rcases hb with rfl|rfl|rfl|rfl|rfl
   ·exact lt h1
   ·exact lt h2
   ·exact lt h3
   ·obtain⟨_,e,_⟩:=h4;exact lt e
   ·obtain⟨_,e,_⟩:=h5;exact lt e
  have hf':∀b∈[z,TI,TO,i1,i2],fu X pins (upd H s.heap.objs.size (.tup [x,y])) b:=λb hb=>⟨by rw[ac (Hl (hlt b hb))];exact (hf b hb).1,(hf b hb).2⟩
  have I2:=I1.turnedL (t':=s.toks) (h':=h') (ch:=[z,TI,TO,i1,i2]) (λb o hb e1=>by
   simp only[G9,HS,or_false,not_or]at hb;obtain⟨n1,n2,n3,n4,n5⟩:=hb;by_cases hb:b=s.heap.objs.size
   ·subst hb;have e2:(s.heap.push {cls:=.type "tuple",data:=.seq #[u,u2]}).get? s.heap.objs.size=some {cls:=.type "tuple",data:=.seq #[u,u2]}:=G4 _ rfl;rw[e2]at e1;cases e1;exact a5
   ·exact k b o n1 n3 n4 n5 ((Heap.get?_push_ne _ _ _ hb).symm.trans e1)) hf'
  refine⟨.ref s.heap.objs.size,rfl,wpAny_letOwnedTupleGo_zip (s:={s with heap:=h',toks:=s.toks}) a1 λh2' he2 hs2=>?_⟩
  have I3:=I2.turnedL (t':=s.toks) (h':=h2') (ch:=[z,TI,TO,i1,i2]) (λb o hb e1=>(hs2.2 b (λq=>hb (by simp[q]))).trans e1) hf'
  refine⟨.ref s.heap.objs.size,_,I3,rfl,⟨_,rfl,hp,x,y,λys' hy'=>by rw[I.list_inj hy' hq];exact hx,λys' hy'=>by rw[I.list_inj hy' hq2];exact hy,rfl⟩,⟨he2,?_,⟨u,u2,?_⟩,?_,?_⟩,λb hb=>(hf' b hb).1⟩
  ·exact (hs2.2 TI D.TIz).trans (k _ _ D.TIz D.TITO D.TIi1 D.TIi2 h2)
  ·exact (hs2.2 TO D.TOz).trans a2
  ·exact a3.at λo e1=>(hs2.2 i1 D.i1z).trans e1
  ·exact a4.at λo e1=>(hs2.2 i2 D.i2z).trans e1
 done:=by
  intro X hP hw hK hc i pins s σ H E I hf st hg;subst hP hw hK;obtain⟨xs,ys,hq,hq2,hx⟩:=hg;obtain⟨its,rv,p,hz⟩:=I.list hq;obtain⟨its2,rv2,p2,hz2⟩:=I.list hq2;obtain⟨h1,h2,⟨c,d,h3⟩,h4,h5⟩:=st;have hl:=rv.length;have hl2:=rv2.length;refine wpAny_pyNext_zip_end (I.ok.hd hc) D h1 h2 h3 h4 h5 p.isList p2.isList ?_ λh' eb=>⟨rfl,I.turnedL (t':=s.toks) (ch:=[z,TI,TO,i1,i2]) (λb o hb e=>?_) hf⟩
  ·rcases hx with hx|hx
   ·exact .inl (by simp;omega)
   ·exact .inr (by simp;omega)
  ·simp only[G9,HS,or_false,not_or]at hb;exact eb b o hb.1 hb.2.2.1 hb.2.2.2.1 hb.2.2.2.2 e
 self:=λ_ _ _ _ _ st h=>wpAny_pyIter_zip st.1 h
theorem zD{K:Ii}(sq:SqF K H0 p vs)(dl:DenL K H0 ds vs)(sq2:SqF K H0 q ws)(dl2:DenL K H0 es ws):ItOk K H0 (Itz K p q) (cJ ds es) (λ_=>True):=by
 have hlen:=dl.length;have hlen2:=dl2.length;refine⟨λi H M t rm s hi=>?_,λi H M x H' t rm s hi y=>?_,λH M t rm s=>?_⟩
 ·simp only[cJ,G8,List.length_zip]at hi;have hi':i<vs.length:=by omega
  have hi2:i<ws.length:=by omega
  exact⟨vs,ws,vs[i],ws[i],(t.f _ _ sq).sq,(t.f _ _ sq2).sq,by simp[hi'],by simp[hi2]⟩
 ·obtain⟨q,rfl,hq,v,w,hv,hw,rfl⟩:=y;obtain⟨d,e1,e2⟩:=(dl.mono t).get' (hv vs (t.f _ _ sq).sq);obtain⟨d',e1',e2'⟩:=(dl2.mono t).get' (hw ws (t.f _ _ sq2).sq);refine⟨.new hq,rm.grow hq,.tup [d,d'],?_,⟨q,[v,w],rfl,.inl (.inl ae),⟨_,_,rfl,e2.mono (.new hq),_,_,rfl,e2'.mono (.new hq),rfl⟩⟩⟩;have ez:(ds.zip es)[i]?=some (d,d'):=List.getElem?_zip_eq_some.mpr ⟨e1,e1'⟩;simp[cJ,ez]
 ·refine⟨vs,ws,(t.f _ _ sq).sq,(t.f _ _ sq2).sq,?_⟩;simp only[cJ,G8,List.length_zip];omega
theorem wl{K:Ii}(sq:SqF K H0 p vs)(dl:DenL K H0 ds vs):ItOk K H0 (Itz K p q) (cJ ds es) (λM=>M q=some (.lst es)):=by
 have hlen:=dl.length;refine⟨λi H M t rm s hi=>?_,λi H M x H' t rm s hi y=>?_,λH M t rm s=>?_⟩
 ·obtain⟨ws,e,dl2⟩:=rm q _ s;have hlen2:=dl2.length;simp only[cJ,G8,List.length_zip]at hi;have hi':i<vs.length:=by omega
  have hi2:i<ws.length:=by omega
  exact⟨vs,ws,vs[i],ws[i],(t.f _ _ sq).sq,.of e,by simp[hi'],by simp[hi2]⟩
 ·obtain⟨ws,e,dl2⟩:=rm q _ s;obtain⟨q',rfl,hq,v,w,hv,hw,rfl⟩:=y;obtain⟨d,e1,e2⟩:=(dl.mono t).get' (hv vs (t.f _ _ sq).sq);obtain⟨d',e1',e2'⟩:=dl2.get' (hw ws (.of e));refine⟨.new hq,rm.grow hq,.tup [d,d'],?_,⟨q',[v,w],rfl,.inl (.inl ae),⟨_,_,rfl,e2.mono (.new hq),_,_,rfl,e2'.mono (.new hq),rfl⟩⟩⟩;have ez:(ds.zip es)[i]?=some (d,d'):=List.getElem?_zip_eq_some.mpr ⟨e1,e1'⟩;simp[cJ,ez]
 ·obtain⟨ws,e,dl2⟩:=rm q _ s;have hlen2:=dl2.length;refine⟨vs,ws,(t.f _ _ sq).sq,.of e,?_⟩;simp only[cJ,G8,List.length_zip];omega
noncomputable def En(K:Ii)(ta:TA):TI:=λσ H R=>ta σ H λvs H1=>∃a b,vs=[.ref a,.ref b]/\(∃xs,SqL K H1 a xs)/\(∃ys,SqL K H1 b ys)/\R (Itz K a b) H1
theorem yT(hg:Gl X "zip")(hm:X.mg "zip"=none)(ha:PA X [a,b] ta)(hs:starEach [a,b] X.env=[(false,eval a X.env),(false,eval b X.env)])(hs2:starEach [b] X.env=[(false,eval b X.env)]):PI X (.Tuple elts x1 pt) (.Call (.Name "zip" p) [a,b] [] pos) (En X.K ta):=by
 intro pins s σ H R I h;refine Call_ (gW I hg hm (u:=.type "zip") (by decide +kernel) (PyProof.Rows.callWith_type1 (thn (ha pos pins s σ H _ I h) λus s1 ⟨vs,H1,I1,r1,q1⟩=>?_) (by rw[hs,hs2]) (by rw[hs2];rfl)))
 obtain⟨c,d,e,⟨xs,hq⟩,⟨ys,hq2⟩,q⟩:=q1;subst e;obtain⟨u,w,rfl,ru,rw'⟩:=r1.two;cases ru;cases rw';obtain⟨its,rv,pl,hz⟩:=I1.list hq;obtain⟨its2,rv2,pl2,hz2⟩:=I1.list hq2;have a1:c<s1.heap.objs.size:=by obtain⟨_,_,e,_⟩:=pl;exact G2 e
 have a2:d<s1.heap.objs.size:=by obtain⟨_,_,e,_⟩:=pl2;exact G2 e
 refine call_zip_2 pl.isList pl2.isList λh' h1 h2 h3 h4 h5 _ k=>?_
 refine wpAny_pyIter_zip (s:={s1 with heap:=h'}) h1 ?_
 refine⟨s1.heap.objs.size+4,[s1.heap.objs.size+4,s1.heap.objs.size+2,s1.heap.objs.size+3,s1.heap.objs.size,s1.heap.objs.size+1],_,_,H1,rfl,I1.kept (t':=s1.toks) k,sW c d _ _ _ _ _ (zipApart_new a1 a2),⟨h1,h2,⟨_,_,h3⟩,h4,h5⟩,λb hb=>?_,q⟩
 have hle:s1.heap.objs.size<=b:=by
  simp only[G9,HS,or_false]at hb;rcases hb with rfl|rfl|rfl|rfl|rfl<;>first|exact GZ _|exact Hs _ _
 exact I1.fpOk hle (I1.hok.fresh hle)
theorem CN(hg:Gl X "zip")(hm:X.mg "zip"=none)(ha:PE X a (low X.K cls E2 ta))(hb:PE X b (low X.K cls E2 tb))(hs:starEach [a,b] X.env=[(false,eval a X.env),(false,eval b X.env)])(hs2:starEach [b] X.env=[(false,eval b X.env)]) :
  PI X (.Tuple elts x1 pt) (.Call (.Name "zip" p) [a,b] [] pos) (ka X.K cls E2 λσ M R E=>ta σ M (λx M1=>tb σ M1 (λy M2=>match x,y with
  |.rol xs,.rol ys=>R (cJ xs ys) (λ_=>True) M2
  |.rol xs,.ref b=>match M2 b with
   |some (.lst ys)=>R (cJ xs ys) (λM=>M b=some (.lst ys)) M2
   |_=>False
  |_,_=>False) E) E):=
 (yT hg hm (aM ha (aM hb pa_nil hs2) (by rw[hs,hs2])) hs hs2).imp λσ H R2 hl_=>ex9 hl_ λσ3 M R E3 rm ds lk h k=>mV rm ds lk h λv w H2 x y M2 dx dy rm2 t2 q2=>by
  cases x with
  |rol es=>
   cases y with
   |rol fs=>
    obtain⟨q,vs,rfl,sq,dl⟩:=dx;obtain⟨q',ws,rfl,sq2,dl2⟩:=dy;exact⟨q,q',rfl,⟨vs,sq.sq⟩,⟨ws,sq2.sq⟩,k _ _ _ _ _ (zD sq dl sq2 dl2) rm2 t2 q2⟩
   |ref b=>
    obtain⟨q,vs,rfl,sq,dl⟩:=dx;cases (show w=.ref b from dy);have q2:(match M2 b with
     |some (.lst ys)=>R (cJ es ys) (λM=>M b=some (.lst ys)) M2
     |_=>False):=q2
    split at q2
    ·rename_i ys e;obtain⟨ws,eH,dl2⟩:=rm2 b _ e;exact⟨q,b,rfl,⟨vs,sq.sq⟩,⟨ws,.of eH⟩,k _ _ _ _ _ (wl sq dl) rm2 t2 q2⟩
    ·exact q2.elim
   |_=>exact q2.elim
  |_=>exact q2.elim
end
section
variable {prog:Program}{w:World}{A:Around}{E:Value->Shared->Prop}{s:Shared}{n l1 l2 l3:Nat}
theorem neA{a b:Nat}(h:a≠b):@Ne Addr a b:=h
end
section
variable {X:Cx}{s:Shared}{h':Heap}
end
section
variable {A:Around}{s:Shared}
end
section
variable {prog:Program}{w:World}{A:Around}{E:Value->Shared->Prop}{s:Shared}{z TI TO i1 i2 l1 l2 S:Addr}{xs ys:Array Value}{i:Nat}
end
section
variable {prog:Program}{w:World}{A:Around}{s:Shared}{R:Result->Shared->Prop}{z TI TO i1 i2 l1 l2 S lo:Addr}{xs ys:Array Value}
end
section
variable {prog:Program}{w:World}{A:Around}{E:Value->Shared->Prop}{s:Shared}{R:Result->Shared->Prop}{z TI TO i1 i2 l1 l2 S lo:Addr}{xs ys:Array Value}
end
section
variable {X:Cx}{s:Shared}{h':Heap}
end
section
variable {X:Cx}
end
section
variable {A:Around}{s:Shared}{items:Array Value}
end
section
variable {X:Cx}
theorem yk(rm:RelM X.K M H)(dx:Den X.K H x v)(e:ai M x=some ds):∃a vs,v=.ref a/\RdL X.K H a vs/\DenL X.K H ds vs:=by
 cases x with
 |rol es=>
  cases e;obtain⟨a,vs,rfl,sq,dl⟩:=dx;exact⟨a,vs,rfl,sq.rd,dl⟩
 |ref a=>
  cases q:M a with
  |none=>simp[ai,q]at e
  |some o=>
   cases o with
   |lst es=>
    simp[ai,q]at e;subst e;cases (show v=.ref a from dx);obtain⟨vs,e1,dl⟩:=rm a _ q;exact⟨a,vs,rfl,.inl (.inl e1),dl⟩
   |_=>simp[ai,q]at e
 |_=>cases e
theorem tf{s:Shared}(I:Inv X pins σ H s):(s.heap.objs.size == sysModules)=false:=by
 have h:mainGlobals<s.heap.objs.size:=(I.mod.glob.keeps I.bk).lt;have h2:sysModules<mainGlobals:=by decide
 exact Hr.mpr (Nat.ne_of_gt (Nat.lt_trans h2 h))
theorem zN(tk:Bool):PE X (.Dict [] [] pos) (low X.K cls E2 λσ M Q E=>∀p,M p=none->Q (.ref p) (put M p (if tk=true then .dt [] [] else .dk [] []))):=by
 refine λpins s σ H Q2 I hl_=>ex9 hl_ λσ3 M Q E3 rm ds lk q back=>?_
 have hp:H s.heap.objs.size=none:=I.hok.fresh (GZ _);have hb:=tf I;have q0:=q s.heap.objs.size (rm.fresh hp);cases tk with
 |false=>
  have ok0:ObjOk X.prog X.w (upd H s.heap.objs.size (.dK [])) (s.heap.push {cls:=.type "dict",data:=.dict #[]}) s.heap.objs.size (.dK []):=⟨Nat.zero_le _,hb,[],.nil,Heap.DictOf.new s.heap⟩;have I1:=I.laid (a:=s.heap.objs.size) (o:=.dK []) (h':=s.heap.push {cls:=.type "dict",data:=.dict #[]}) (t':=s.toks) (λ_ _ q=>GX _ q) (GZ _) ok0
  have rm1:RelM X.K (put M s.heap.objs.size (.dk [] [])) (upd H s.heap.objs.size (.dK [])):=rm.lay hp ⟨[],ae,rfl,rfl⟩;exact wpAny_Dict_empty ⟨.ref s.heap.objs.size,_,I1,rfl,back _ _ (.ref s.heap.objs.size) _ rfl rm1 (.new hp) q0⟩
 |true=>
  obtain⟨ob,es,ep,hq,hx,hd,he,_,_⟩:=(Heap.DictOfH.new (knd:=tupleKind (intKind X.prog X.w)) s.heap);have tb:aV s.heap.objs.size [] (s.heap.push {cls:=.type "dict",data:=.dict #[]}):=⟨ob,es,ep,hq,hx,hd,he⟩;have ok0:ObjOk X.prog X.w (upd H s.heap.objs.size (.ext (aV s.heap.objs.size []))) (s.heap.push {cls:=.type "dict",data:=.dict #[]}) s.heap.objs.size (.ext (aV s.heap.objs.size [])):=
   ⟨tb,⟨ob,hq⟩,λg1 g2 ⟨o1,es1,ep1,a1,a2,a3,a4⟩ kk=>⟨o1,es1,ep1,kk _ a1,a2,a3,a4⟩⟩
  have I1:=I.laid (a:=s.heap.objs.size) (o:=.ext (aV s.heap.objs.size [])) (h':=s.heap.push {cls:=.type "dict",data:=.dict #[]}) (t':=s.toks) (λ_ _ q=>GX _ q) (GZ _) ok0
  have rm1:RelM X.K (put M s.heap.objs.size (.dt [] [])) (upd H s.heap.objs.size (.ext (aV s.heap.objs.size []))):=rm.lay hp ⟨[],[],ae,⟨rfl,.nil,Nat.zero_le _,hb,.nil,λx hx=>nomatch hx⟩,rfl⟩
  exact wpAny_Dict_empty ⟨.ref s.heap.objs.size,_,I1,rfl,back _ _ (.ref s.heap.objs.size) _ rfl rm1 (.new hp) q0⟩
end
section
variable {X:Cx}
end
theorem qf:∀{ds:List D}{ps:List (Int×Int)},sH ds=some ps->ds=ps.map prD
 |[],ps,h=>by cases h;rfl
 |d::r,ps,h=>by
  unfold sH at h;split at h
  ·rename_i e;cases e
  ·rename_i a b r' e;cases e;split at h
   ·rename_i qs e2;cases h;rw[qf e2];rfl
   ·cases h
  ·cases h
theorem jR(bt:Nat->Nat->Bool):∀k,argBest bt k<=k
 |0=>GZ _
 |k+1=>by
  unfold argBest;split
  ·exact GZ _
  ·exact Nat.le_succ_of_le (jR bt k)
theorem re{ps:List (Int×Int)}(h:ps≠[]):kE ps∈ps:=by
 have hl:0<ps.length:=List.length_pos_iff.mpr h;unfold kE;have:=jR (λi j=>lt2 (ps.getD i (0,0)) (ps.getD j (0,0))) (ps.length-1)
 rw[List.getD_eq_getElem?_getD,Hd (by omega)]
 exact HU _
section
variable {X:Cx}{cls:Nat->Addr}{E2:St->XK}{e:Expr}{pos p:Pos}
theorem BY{pins:List (Addr×Obj)}{σ:St}{H:Hp}{s:Shared}{Ex:Value->Shared->Prop}{x:D}{v:V}{v2:Value}{M:MH}{Q:VK3}{Q2:VK}(hc:X.calm=true)(hu:X.A.units+64<cLine)
  (I:Inv X pins σ H s)(rv:RelV v v2)(dx:Den X.K H x v)(rm:RelM X.K M H)(q:rMp x M Q)(back:Back X.K H Q Q2) :
  wpAny (model X.prog X.w) X.A (call (.builtin "min") [v2]) (EP X pins σ Q2) Ex s:=by
 have hh:=I.ok.hd hc;unfold rMp at q;split at q
 ·rename_i ds e1;obtain⟨a,vs,rfl,rd,dl⟩:=yk rm dx e1;cases rv;obtain⟨_,its,n,r,hlen,hg⟩:=I.rdL rd;have hl:s.heap.IsList a its.toArray:=⟨_,hg,rfl,n,rfl⟩;split at q
  ·rename_i p0 ps e2;have el:=qf e2;have lv:vs.length=its.length:=r.length;have ld:ds.length=vs.length:=dl.length;have lp:ds.length=(p0::ps).length:=by rw[el,G8]
   have at_:∀(i:Nat)(u:Value),its.toArray[i]?=some u->∃w,Den X.K H (prD ((p0::ps).getD i (0,0))) w/\RelV w u:=λi u hv=>by
    have hv:its[i]?=some u:=by simpa using hv
    have hi:i<its.length:=(Hv.mp hv).1;have hi2:i<(p0::ps).length:=by omega
    have ed:ds[i]?=some (prD ((p0::ps).getD i (0,0))):=by
     rw[el,Hi,Hd hi2,List.getD_eq_getElem?_getD,Hd hi2];rfl
    obtain⟨w,w1,w2⟩:=dl.get ed;obtain⟨u',u1,u2⟩:=r.get w1;rw[hv]at u1;cases u1;exact⟨w,w2,u2⟩
   refine eN I.tk <| At (ps:=λi=>(p0::ps).getD i (0,0)) hh (by omega) hl (by rw[G7];simp at lp;omega) (λi u hv=>?_) λu h' tk hv k _=>?_
   ·obtain⟨w,w2,u2⟩:=at_ i u hv;obtain⟨b,zs,rfl,sq,dz⟩:=w2;cases u2;have ez:=DenL.int_of (ns:=[((p0::ps).getD i (0,0)).1,((p0::ps).getD i (0,0)).2]) dz;subst ez;obtain⟨it2,r2,⟨⟨c1,dd,da,sl⟩,g2,cc,m,d2⟩,_⟩:=I.tuple sq;simp only at cc d2;subst cc d2;cases r2 with
    |cons h1 r2=>
     cases r2 with
     |cons h2 r2=>
      cases r2;obtain⟨t1,rfl⟩:=h1;obtain⟨t2,rfl⟩:=h2;exact⟨b,m,t1,t2,dd,sl,rfl,g2⟩
   ·have es:its.toArray.size=(p0::ps).length:=by rw[G7];omega
    rw[es]at hv;obtain⟨w,w2,u2⟩:=at_ _ u hv;exact⟨w,H,I.kept k,u2,back _ _ _ _ w2 rm (.refl _) q⟩
  ·exact q.elim
 ·exact q.elim
theorem C0{te:St3->MH->VK3->XN->Prop}(hc:X.calm=true)(hu:X.A.units+64<cLine)(ha:PE X e (low X.K cls E2 te))(hg:Gl X "min")(hm:X.mg "min"=none)(hs:starEach (e::[]) X.env=(false,eval e X.env)::starEach [] X.env) :
  PE X (.Call (.Name "min" p) [e] [] pos) (low X.K cls E2 λσ M Q E=>te σ M (λx M1=>rMp x M1 Q) E):=by
 have hcl:CallR X (.builtin "min") (λvs H Q2=>∃x v M Q,vs=[v]/\Den X.K H x v/\RelM X.K M H/\rMp x M Q/\Back X.K H Q Q2):=by
  refine λpins s σ H vs us Q2 I r hl_=>ex9 hl_ λx v M Q e dx rm q back=>?_
  subst e;obtain⟨u,rfl,ru⟩:=im r;exact BY hc hu I ru dx rm q back
 refine (d8 hcl hg hm (by decide +kernel) (aM ha pa_nil hs) (by decide +kernel) (by decide +kernel) hs (by rfl)).imp λσ H Q2 hl_=>ex9 hl_ λσ3 M Q E3 rm ds lk h back=>?_
 exact aW rm ds lk h λv H1 x M1 dx rm1 t1 q1=>⟨x,v,M1,Q,rfl,dx,rm1,q1,back.mono t1⟩
end
noncomputable def isN(i:Int):Expr->Bool
 |.Constant k _ _=>match k with
  |.int j=>decide (j=i)
  |_=>false
 |_=>false
section
variable {X:Cx}
noncomputable def EX(ps:List (Str×Int)):List Key:=ps.map λp=>.inr p.1
noncomputable def Ef(ps:List (Str×Int)):List D:=ps.map λp=>.int p.2
end
def CJ(Pm:Params)(p:Str×Int)(e:DictEntry):Prop:=(∀w:World,w.params=Pm->e.hash=hashStr w p.1)/\(∃t,e.key=.str p.1 t)/\∃t,e.val=.int p.2 t
def GDk(K:Ii)(Pm:Params)(a:Addr)(ps:List (Str×Int)):Prop:=∃(es:List DictEntry) (n:Nat),K.lookup a=some {cls:=.type "dict",data:=.dict es.toArray n}/\(a == sysModules)=false/\Paired (CJ Pm) ps es/\(ps.map (·.1)).Nodup
def vT(K:Ii)(Pm:Params):D->V->Prop
 |.dik ks ds,v=>∃a ps,v=.ref a/\ks=EX ps/\ds=Ef ps/\GDk K Pm a ps
 |d,v=>∀H,Den K H d v
theorem zJ{X:Cx}(hg:Gl X x)(hm:X.mg x=some u)(r:RelV v u)(hdb:(x == ("__debug__" : Str))=false)(hd:vT X.K X.w.params d v):PE X (.Name x pos) (low X.K cls E2 λ_ M Q _=>uc d M Q):=by
 cases d with
 |dik ks ds=>
  obtain⟨a,ps,rfl,_⟩:=hd;exact λpins s σ H Q2 I hl_=>ex9 hl_ λσ3 M Q E3 rm ds lk h back=>h.elim
 |_=>exact Co hg hm r hdb hd
section
variable {X:Cx}{A:Around}
theorem AE{kt:List (List Int)}{k:List Int}{y:D}{v:V}{b:Addr}{R:MH->Prop}{R2:Hp->Prop}(hu:A.units+1<cLine)(I:Inv X pins σ H s)(rm:RelM X.K M H)(q:M a=some (.dt kt ds))(sq:SqT X.K H b (k.map V.int))(dy:Den X.K H y v)(rv:RelV v r)(hz:kt.length<sizeLine)
  (h:R (put M a (.dt (aj kt k) (ak kt ds k y)))) (back:∀H' M',RelM X.K M' H'->TM X.K H H'->R M'->R2 H'):wpAny (model X.prog X.w) A (dictSet a (.ref b) r) (λ_ s'=>∃H',Inv X pins σ H' s'/\R2 H') E s:=by
 obtain⟨vs,xs,e,z,dl⟩:=rm a _ q;have dd:=bV I (.inl e) z;have nd:(xs.map (·.1)).Nodup:=by rw[z.kx];exact z.nd
 obtain⟨vs',h1,h2,h3,h4⟩:=fQ (k:=k) (b:=b) nd z.vx rv dl dy;rw[z.kx]at h1 h3;have hsz:xs.length<=sizeLine:=by
  have:=congrArg List.length z.kx;rw[G8]at this;omega
 refine wpAny_dictSet_heap (hsz:=hsz) (show A.units<cLine by omega) (dS I sq) dd λh' dd' hs=>?_
 obtain⟨ob,es,ep,hq,hx,hd,he,_,_⟩:=dd';have tw:TM X.K H (upd H a (.ext (aV a (storedH xs k b r)))):=.put e (λ_ z=>by cases z) λ_ _ z=>by cases z
 have tb:aV a (storedH xs k b r) h':=⟨ob,es,ep,hq,hx,hd,he⟩;have I':Inv X pins σ (upd H a (.ext (aV a (storedH xs k b r)))) {s with heap:=h',toks:=s.toks+(tupleKind (intKind X.prog X.w)).draws k}:=
  gC I (by rw[e];exact True.intro) hs ⟨ob,hq⟩ ⟨tb,⟨ob,hq⟩,λg1 g2 ⟨o1,es1,ep1,a1,a2,a3,a4⟩ kk=>⟨o1,es1,ep1,kk _ a1,a2,a3,a4⟩⟩
 refine⟨_,I',back _ _ (rm.write (u:=.dt (aj kt k) (ak kt ds k y)) e (λ_ z=>by cases z) (λ_ _ z=>by cases z) ⟨vs',_,ae,⟨h1,eD z.nd,Ha bn hz,z.no,h2,λx hx'=>?_⟩,h3.mono tw⟩) tw h⟩
 rcases h4 x hx' with ⟨q1,q2⟩|⟨x',m,q1,q2⟩
 ·rw[q1,q2];exact tw.t _ _ sq
 ·rw[<-q1,<-q2];exact tw.t _ _ (z.at_ x' m)
theorem Ac(hu:X.A.units+64<cLine)(hk:PE X k (low X.K cls E2 tk))(hv:PE X v (low X.K cls E2 tv)) :
  PE X (.Dict [some k] [v] pos) (low X.K cls E2 λσ M Q E=>∀p,M p=none->tk σ (put M p (.dt [] [])) (λx M1=>tv σ M1 (λy M2=>iu p x y M2 Q) E) E):=by
 refine λpins s σ H Q2 I hl_=>ex9 hl_ λσ3 M Q E3 rm ds lk q back=>?_
 have hp:H s.heap.objs.size=none:=I.hok.fresh (GZ _);have hb:=tf I;obtain⟨ob,es,ep,hq,hx,hd,he,_,_⟩:=(Heap.DictOfH.new (knd:=tupleKind (intKind X.prog X.w)) s.heap);have tb:aV s.heap.objs.size [] (s.heap.push {cls:=.type "dict",data:=.dict #[]}):=⟨ob,es,ep,hq,hx,hd,he⟩;have ok0:ObjOk X.prog X.w (upd H s.heap.objs.size (.ext (aV s.heap.objs.size []))) (s.heap.push {cls:=.type "dict",data:=.dict #[]}) s.heap.objs.size (.ext (aV s.heap.objs.size [])):=
  ⟨tb,⟨ob,hq⟩,λg1 g2 ⟨o1,es1,ep1,a1,a2,a3,a4⟩ kk=>⟨o1,es1,ep1,kk _ a1,a2,a3,a4⟩⟩
 have I1:=I.laid (a:=s.heap.objs.size) (o:=.ext (aV s.heap.objs.size [])) (h':=s.heap.push {cls:=.type "dict",data:=.dict #[]}) (t':=s.toks) (λ_ _ q=>GX _ q) (GZ _) ok0
 have rm1:RelM X.K (put M s.heap.objs.size (.dt [] [])) (upd H s.heap.objs.size (.ext (aV s.heap.objs.size []))):=rm.lay hp ⟨[],[],ae,⟨rfl,.nil,Nat.zero_le _,hb,.nil,λx hx=>nomatch hx⟩,rfl⟩
 have tm1:TM X.K H (upd H s.heap.objs.size (.ext (aV s.heap.objs.size []))):=.new hp;have q0:=q s.heap.objs.size (rm.fresh hp);have hn:=pairTrees_length [some k] [v] X.env pos rfl rfl;rw[arm_eval_Dict,zip_pairTrees [some k] [v] X.env pos rfl rfl,dictDisplay_pairs (pairTrees [some k] [v] X.env pos) (by intro z;rw[z]at hn;cases hn) (by rw[hn];show 1<17;decide)]
 refine xL (wpAny_standAt (xL ?_));unfold subDict;refine xL (wpAny_alloc (xL (HC ?_)));rw[G3 (by rw[hn];show 1<=15;decide)]
 refine xL (pairTrees_cons_walk ?_);refine thn (hk pins _ σ _ (λu H2=>∃x M2,Den X.K H2 x u/\RelM X.K M2 H2/\TM X.K H H2/\tv σ3 M2 (λy M3=>iu s.heap.objs.size x y M3 Q) E3) I1
  ⟨σ3,_,_,E3,rm1,ds.mono tm1,lk.mono tm1,q0,λu H2 x M2 dx rm2 t2 q2=>⟨x,M2,dx,rm2,tm1.trans t2,q2⟩⟩) λkv s2 ⟨u,H2,I2,ru,x,M2,dx,rm2,t2,q2⟩=>?_
 refine thn (hv pins _ σ _ (λv H3=>∃y M3,Den X.K H3 x u/\Den X.K H3 y v/\RelM X.K M3 H3/\TM X.K H H3/\iu s.heap.objs.size x y M3 Q) I2
  ⟨σ3,_,_,E3,rm2,ds.mono t2,lk.mono t2,q2,λv H3 y M3 dy rm3 t3 q3=>⟨y,M3,dx.mono t3,dy,rm3,t2.trans t3,q3⟩⟩) λvv s3 ⟨v,H3,I3,rv,y,M3,dx3,dy,rm3,t3,q3⟩=>?_
 refine pairTrees_nil_walk ?_;refine HC ?_;unfold iu at q3;split at q3
 ·rename_i kk ek;obtain⟨e,q4⟩:=q3;obtain⟨b,rfl,sq⟩:=jj ek dx3;cases ru;refine xL ?_;rw[List.forIn_cons];refine xL (xL (HP (AE (R:=λM'=>Q (.ref s.heap.objs.size) M') (R2:=λH'=>Q2 (.ref s.heap.objs.size) H') (show X.A.units+1<cLine by omega) I3 rm3 e sq dy rv (by show 0<sizeLine;decide) q4
   (λH' M' rm' tm' qq=>back _ _ (.ref s.heap.objs.size) _ rfl rm' (t3.trans tm') qq)) (λ_ s4 ⟨H4,I4,q5⟩=>GT ?_) λ_ _ z=>z))
  dsimp only;rw[List.forIn_nil];exact GT (GT (GT (GT ⟨.ref s.heap.objs.size,H4,I4,rfl,q5⟩)))
 ·exact q3.elim
end
section
variable {A:Around}{s:Shared}{ob:Obj}{es:Array DictEntry}
theorem pe(hn:(d == sysModules)=false):MeetsIn prog w (Builtin.«dict.items» ⟨[.ref d],[]⟩) (λ_ R s=>s.TypeIs (.ref d) "dict"/\R (.ok (.ret (.ref s.heap.objs.size))) {s with heap:=s.heap.push {cls:=.type "dict_items",data:=.fields #[.ref d]}}):=
 .of_wp λA R s ⟨ty,q⟩=>by
  unfold Builtin.«dict.items»;refine xL ?_;unfold Builtin.Dict.noArgs;refine xL (wpAny_notOrdered_dict ty (show wpAny _ _ (pure d) _ _ s from GT (show wpAny _ _ (Builtin.Dict.showsAll d >>=_) _ _ s from ?_)));unfold Builtin.Dict.showsAll;rw[hn];exact xL (GT (xL (Ht (GT ⟨_,rfl,q⟩))))
theorem pI(vw:s.heap.IsItemsView p d)(ho:s.heap.get? d=some ob)(hd:ob.data=.dict es ep)
  (q:Q (.ref s.heap.objs.size) {s with heap:=s.heap.push {cls:=.type "dict_itemiterator",data:=.fields #[.none,.bool false,.ref d,.int 0 0,.int es.size 0,.int ep 0,.none,.none]}}):wpAny (model prog w) A (pyIter (.ref p)) Q E s:=by
 obtain⟨ov,e1,e2,e3⟩:=id vw;refine wpAny_pyIter_slot vw.typeIs F.slot_dict_items_iter (HY F.slot_dict_items_iter vw.typeIs F.entry_dict_items_iter ?_ (F.args_dict_items_iter_1 _));unfold Builtin.«dict_items.__iter__» Builtin.Dict_items.dictOf Builtin.Dict_items.newIterator;refine xL (GT (xL (xL (HB e1 e3 (x:=.ref d) rfl (GT (xL (xL (Ie ho hd (xL (wpAny_dictEpoch ho hd ?_))))))))));simp only[show Builtin.Dict_items.ownsTuple "dict_itemiterator"=true by decide,if_true]
 refine Ht (GT ⟨_,rfl,"dict_itemiterator",_,⟨_,G4 _ rfl,rfl⟩,F.slot_dict_itemiterator_next.lookup,?_⟩) (by simp only[sizeOk,Builtin.Dict_items.ownedTupleFields,G7,Hu,Hk,List.length_nil,sizeLine_eq];omega)
 simpa [rawInt,Builtin.Dict_items.ownedTupleFields] using q
theorem oR{e:DictEntry}(hit:IsItemIter s.heap it d i es.size ep a1 a2)(ho:s.heap.get? d=some ob)(hd:ob.data=.dict es ep)(he:es[i]?=some e)
  (hQ:∀h',IsItemIterOut h' it d (i+1) es.size ep e.key e.val s.heap.objs.size->h'.get? s.heap.objs.size=some {cls:=.type "tuple",data:=.seq #[e.key,e.val]}->
   (∀b o,b≠it->s.heap.get? b=some o->h'.get? b=some o)->Q (some (.ref s.heap.objs.size)) {s with heap:=h'}):wpAny (model prog w) A (pyNext (.ref it)) Q E s:=by
 obtain⟨hp,g,dr,tk,os⟩:=s;have ty:Shared.TypeIs ⟨hp,g,dr,tk,os⟩ (.ref it) "dict_itemiterator":=⟨_,hit,rfl⟩;have hlt:i<es.size:=(Hy.mp he).1;unfold pyNext;refine xL (wpAny_attempt (wpAny_callSpecial?_slot (name:=Str.ofString "__next__") ty F.slot_dict_itemiterator_next (HY F.slot_dict_itemiterator_next ty F.entry_dict_itemiterator_next ?_ (F.args_dict_itemiterator_next_1 _))));refine xL (GT (xL (xL ?_)))
 first|refine xL (wpAny_typeNameOfWhole_itemiter ty (GT (xL (wpAny_fieldsOf hit rfl ?_))))|refine xL (wpAny_typeNameOf_itemiter ty (GT (xL (wpAny_fieldsOf hit rfl ?_))))
 simp only[show Builtin.Dict_items.ownsTuple "dict_itemiterator"=true by decide,if_true]
 have nn:¬ ((Value.ref d == Value.none)=true):=Hf;refine (show wpAny _ _ (if (Value.ref d == Value.none)=true then _ else _) _ _ _ from ?_)
 rw[GV nn];refine xL (GT (xL (Ie ho hd ?_)));rw[GV (by simp)]
 refine xL (GT (xL (wpAny_dictEpoch ho hd ?_)));rw[GV (by simp)]
 refine GT ?_;simp only[show ¬ ((i:Int)<0) from by omega,if_false,Ih,he]
 refine xL ?_
 first|refine xL (wpAny_typeNameOfWhole_itemiter ty (GT (xL (wpAny_isOneOf_itemiter ty ?_))))|refine xL (wpAny_typeNameOf_itemiter ty (GT (xL (wpAny_isOneOf_itemiter ty ?_))))
 refine (show wpAny _ _ (setField (.ref it) 3 (rawInt ((i:Int)+1)) >>=_) _ _ ⟨hp,g,dr,tk,os⟩ from ?_);refine xL (wpAny_setField_rec hit (by simp) λk1 f1 u1=>?_)
 replace u1:Heap.SameBut it hp k1:=u1
 replace f1:IsItemIter k1 it d (i+1) es.size ep a1 a2:=by
  unfold IsItemIter;rw[show ((i+1:Nat):Int)=(i:Int)+1 by omega]
  simpa [rawInt] using f1
 have ty1:Shared.TypeIs ⟨k1,g,dr,tk,os⟩ (.ref it) "dict_itemiterator":=⟨_,f1,rfl⟩;refine xL (HC (xL (wpAny_isOneOf_itemiter ty1 (xL (wpAny_isOneOf_itemiter ty1 ?_)))));show wpAny _ _ (Builtin.Dict_items.pairFromOwner (.ref it) 6 e.key e.val) _ _ ⟨k1,g,dr,tk,os⟩;unfold Builtin.Dict_items.pairFromOwner;refine xL (wpAny_newTuple ?_);have f2:IsItemIter (k1.push {cls:=.type "tuple",data:=.seq #[e.key,e.val]}) it d (i+1) es.size ep a1 a2:=GX _ f1;generalize hk2:k1.push {cls:=.type "tuple",data:=.seq #[e.key,e.val]}=k2 at f2;have z1:k1.objs.size=hp.objs.size:=u1.1;have lt:it<hp.objs.size:=G2 hit;have t2:k2.get? hp.objs.size=some {cls:=.type "tuple",data:=.seq #[e.key,e.val]}:=by rw[<-hk2,<-z1];exact G4 _ rfl
 have r2:∀b o,b≠it->hp.get? b=some o->k2.get? b=some o:=λb o hb q=>by rw[<-hk2];exact GX _ (u1.extBut b o hb q)
 show wpAny _ _ (Builtin.Dict_items.ownedTupleIsFree (.ref it) >>=_) _ _ ⟨k2,g,dr,tk,os⟩;rw[z1];clear hk2 f1 u1 ty1 z1 k1;unfold Builtin.Dict_items.ownedTupleIsFree;refine xL (xL (HB f2 rfl (x:=.none) rfl (GT ?_)));simp only[if_true];refine xL (HB f2 rfl (x:=a1) rfl (xL (HB f2 rfl (x:=a2) rfl (xL (wpAny_setField_rec f2 (by simp) λk3 f3 u3=>?_)))))
 replace u3:Heap.SameBut it k2 k3:=u3
 replace f3:IsItemIter k3 it d (i+1) es.size ep e.key a2:=f3
 refine xL (wpAny_setField_rec f3 (by simp) λk4 f4 u4=>?_)
 replace u4:Heap.SameBut it k3 k4:=u4
 replace f4:IsItemIter k4 it d (i+1) es.size ep e.key e.val:=f4
 refine xL (wpAny_setField_rec f4 (by simp) λk5 f5 u5=>?_)
 replace u5:Heap.SameBut it k4 k5:=u5
 replace f5:IsItemIterOut k5 it d (i+1) es.size ep e.key e.val hp.objs.size:=f5
 refine xL (wpAny_setField_rec f5 (by simp) λk6 f6 u6=>?_)
 replace u6:Heap.SameBut it k5 k6:=u6
 replace f6:IsItemIterOut k6 it d (i+1) es.size ep e.key e.val hp.objs.size:=f6
 have up:∀b o,b≠it->k2.get? b=some o->k6.get? b=some o:=λb o hb q=>u6.extBut b o hb (u5.extBut b o hb (u4.extBut b o hb (u3.extBut b o hb q)))
 exact xL (wpAny_letGo (GT (GT ⟨_,rfl,GT (hQ k6 f6 (up _ _ (Nat.ne_of_gt lt) t2) λb o hb q=>up b o hb (r2 b o hb q))⟩)))
theorem oE(cm:A.handled=none)(hit:IsItemIter s.heap it d i es.size ep a1 a2)(ho:s.heap.get? d=some ob)(hd:ob.data=.dict es ep)(he:es.size<=i)
  (hQ:∀h',Heap.ExtBut it s.heap h'->Q none {s with heap:=h'}):wpAny (model prog w) A (pyNext (.ref it)) Q E s:=by
 have ty:s.TypeIs (.ref it) "dict_itemiterator":=⟨_,hit,rfl⟩;unfold pyNext;refine xL (wpAny_attempt (wpAny_callSpecial?_slot (name:=Str.ofString "__next__") ty F.slot_dict_itemiterator_next (HY F.slot_dict_itemiterator_next ty F.entry_dict_itemiterator_next ?_ (F.args_dict_itemiterator_next_1 _))));refine xL (GT (xL (xL ?_)))
 first|refine xL (wpAny_typeNameOfWhole_itemiter ty (GT (xL (wpAny_fieldsOf hit rfl ?_))))|refine xL (wpAny_typeNameOf_itemiter ty (GT (xL (wpAny_fieldsOf hit rfl ?_))))
 simp only[show Builtin.Dict_items.ownsTuple "dict_itemiterator"=true by decide,if_true]
 have nn:¬ ((Value.ref d == Value.none)=true):=Hf;refine (show wpAny _ _ (if (Value.ref d == Value.none)=true then _ else _) _ _ s from ?_)
 rw[GV nn];refine xL (GT (xL (Ie ho hd ?_)));rw[GV (by simp)]
 refine xL (GT (xL (wpAny_dictEpoch ho hd ?_)));rw[GV (by simp)]
 refine GT ?_;simp only[show ¬ ((i:Int)<0) from by omega,if_false,Ih,Array.getElem?_eq_none he]
 refine xL ?_
 first|refine xL (wpAny_typeNameOfWhole_itemiter ty (GT ?_))|refine xL (wpAny_typeNameOf_itemiter ty (GT ?_))
 refine (show wpAny _ _ (setField (.ref it) 2 .none >>=_) _ _ s from xL (HQ hit rfl (by simp) ?_))
 refine (show wpAny _ _ (newExc (.type "StopIteration") [] >>=_) _ _ _ from xL ?_);simp only[newExc,newTuple,raiseNew];refine xL (Ht (xL (m:=firstArgMember _ _) (wpAny_of_eq (a:=Value.none) (by first|rfl|(simp only[firstArgMember];rfl)) (Ht (xL (wpAny_handled ?_)) (by size_fits)))) (by size_fits))
 rw[show A.in1.handled=none from cm];refine xL (GT (wpAny_throw ?_));have fin:=λ(h':Heap) (z:Heap.ExtBut it s.heap h')=>hQ h' z
 refine xL (wpAny_isInstance (T:="StopIteration") (b:=true) ⟨_,G4 _ rfl,rfl⟩ isSubtype_stop (GT (fin _ (((Heap.SameBut.update ..).extBut.push _).push _))))
end
def DOb(o:Obj)(ps:List (V×V)):Prop:=∃es ep,o.ExactDict/\o.data=.dict es ep/\es.size=ps.length/\∀(i:Nat) p e,ps[i]?=some p->es[i]?=some e->RelV p.1 e.key/\RelV p.2 e.val
noncomputable def Itd(d:Addr)(o:Obj)(ps:List (V×V)):It:=
 ⟨λi H=>(∃u,H d=some (.frz o u))/\i<ps.length,λi H v H'=>∃p,v=.ref p/\H p=none/\∃kv,ps[i]?=some kv/\H'=upd H p (.tup [kv.1,kv.2]),λi H=>(∃u,H d=some (.frz o u))/\ps.length<=i⟩
theorem Inv.frzGet{s:Shared}(I:Inv X pins σ H s)(e:H d=some (.frz o u)):s.heap.get? d=some o:=(I.hok _ _ e).1
theorem o8{K:Ii}(d it:Addr){o:Obj}{ps:List (V×V)}{es:Array DictEntry}(hd:o.data=.dict es ep)(hz:es.size=ps.length)
  (hr:∀(i:Nat) p e,ps[i]?=some p->es[i]?=some e->RelV p.1 e.key/\RelV p.2 e.val) (hne:d≠it):Turn P w K (.Tuple elts x1 pos) (Itd d o ps) [it] it (λi h=>∃a1 a2,IsItemIter h it d i es.size ep a1 a2) where
 mem:=by simp
 obj:=λi h st b hb=>by
  obtain⟨a1,a2,h1⟩:=st;have e':b=it:=by simpa using hb
  subst e';exact⟨_,h1,λv z=>by
   have z':Data.fields _=Data.cell v:=z;cases z'⟩
 keep:=λi h h' st k=>let ⟨a1,a2,h1⟩:=st;⟨a1,a2,k it (by simp) _ h1⟩
 item:=by
  intro X hP hw hK hc i pins s σ H E I hf st hg;subst hP hw hK;obtain⟨⟨u,hu⟩,hi⟩:=hg;obtain⟨a1,a2,hit⟩:=st;have fi:=hf it (by simp)
  have hil:it<s.heap.objs.size:=G2 hit;have he:es[i]?=some es[i]:=by simp[show i<es.size by omega]
  have hp':ps[i]?=some ps[i]:=by simp[hi]
  obtain⟨rk,rv⟩:=hr i _ _ hp' he;refine oR hit (I.frzGet hu) hd he λh' hio ht k=>?_
  have hp:H s.heap.objs.size=none:=I.hok.fresh (GZ _);have I1:Inv X pins σ (upd H s.heap.objs.size (.tup [ps[i].1,ps[i].2])) {s with heap:=s.heap.push {cls:=.type "tuple",data:=.seq #[es[i].key,es[i].val]},toks:=s.toks}:=
   I.laid (λb o e1=>GX _ e1) (GZ _) ⟨by show 2<=sizeLine;decide,[es[i].key,es[i].val],.cons rk (.cons rv .nil),⟨_,G4 _ rfl,rfl,_,rfl⟩⟩
  have fi':fu X pins (upd H s.heap.objs.size (.tup [ps[i].1,ps[i].2])) it:=⟨by rw[ac (Hl hil)];exact fi.1,fi.2⟩
  obtain⟨f0,f1,f2,f3,f4,f5⟩:=fi';have I2:Inv X pins σ (upd H s.heap.objs.size (.tup [ps[i].1,ps[i].2])) {s with heap:=h',toks:=s.toks}:=I1.turned (t':=s.toks) (λb o hb e1=>by
   by_cases hb':b=s.heap.objs.size
   ·subst hb';have e2:(s.heap.push {cls:=.type "tuple",data:=.seq #[es[i].key,es[i].val]}).get? s.heap.objs.size=some {cls:=.type "tuple",data:=.seq #[es[i].key,es[i].val]}:=G4 _ rfl;rw[e2]at e1;cases e1;exact ht
   ·exact k b o hb ((Heap.get?_push_ne _ _ _ hb').symm.trans e1)) f0 f1 f3 f4 f5
  refine⟨.ref s.heap.objs.size,rfl,wpAny_letOwnedTupleGo_items (s:={s with heap:=h'}) hio λh2 he2 hs2=>?_⟩
  have I3:Inv X pins σ (upd H s.heap.objs.size (.tup [ps[i].1,ps[i].2])) {s with heap:=h2,toks:=s.toks}:=I2.turned (t':=s.toks) (λb o hb e1=>(hs2.2 b hb).trans e1) f0 f1 f3 f4 f5
  refine⟨.ref s.heap.objs.size,_,I3,rfl,⟨_,rfl,hp,_,hp',rfl⟩,⟨_,_,he2⟩,λb hb=>?_⟩
  have e':b=it:=by simpa using hb
  subst e';exact f0
 done:=by
  intro X hP hw hK hc i pins s σ H E I hf st hg;subst hP hw hK;obtain⟨⟨u,hu⟩,hi⟩:=hg;obtain⟨a1,a2,hit⟩:=st;obtain⟨f0,f1,f2,f3,f4,f5⟩:=hf it (by simp)
  exact oE (I.ok.hd hc) hit (I.frzGet hu) hd (by omega) λh' eb=>⟨rfl,I.turned (t':=s.toks) (λb o hb e=>eb b o hb e) f0 f1 f3 f4 f5⟩
 self:=λ_ _ _ _ _ st h=>let ⟨_,_,hit⟩:=st;PySem.W.kcp_self hit h
theorem jD{K:Ii}:∀ks:List Int,DenL K H (ks.map D.int) (ks.map V.int)
 |[]=>rfl
 |k::r=>⟨_,_,rfl,rfl,jD r⟩
section
variable {X:Cx}{apos cpos:Pos}
noncomputable def prs(xs:List (List Int×Addr×Value))(vs:List V):List (V×V):=(xs.map λx=>V.ref x.2.1).zip vs
theorem mm{ob:Obj}(I:Inv X pins σ H s)(e:H d=some (.frz ob (.ext (aV d xs))))(z:TabOk X.K H d ks xs vs):DOb ob (prs xs vs)/\ob.ExactDict:=by
 obtain⟨h1,⟨o',es,ep,g1,g2,g3,g4⟩,_⟩:=(show ObjOk X.prog X.w H s.heap d (.frz ob (.ext (aV d xs))) from I.hok _ _ e);rw[h1]at g1;cases g1;have hl:=z.vx.length;rw[G8]at hl;have hsz:es.size=xs.length:=by
  have:=congrArg List.length g4;simpa using this
 refine⟨⟨es,ep,g2,g3,by simp[prs,hl,hsz],λi p e' hp he=>?_⟩,g2⟩
 unfold prs at hp;obtain⟨a1,a2⟩:=List.getElem?_zip_eq_some.mp hp;rw[Hi]at a1;cases hx:xs[i]? with
 |none=>rw[hx]at a1;cases a1
 |some x=>
  rw[hx]at a1;have he2:es.toList[i]?=some e':=by simpa using he
  rw[g4,Hi,hx]at he2;cases he2;obtain⟨u,hu,ru⟩:=z.vx.get a2;rw[Hi,hx]at hu;cases hu;have a1:V.ref x.2.1=p.1:=by simpa using a1
  rw[<-a1];exact⟨rfl,ru⟩
def Ab(K:Ii)(v:V)(vs:List V)(H:Hp)(Q:VK):Prop:=∃d ob xs ks ws,v=.ref d/\vs=[]/\H d=some (.frz ob (.ext (aV d xs)))/\TabOk K H d ks xs ws/\∀p,H p=none->Q (.ref p) (upd H p (.ext λh=>h.IsItemsView p d))
theorem tQ:MtR X "dict.items" (Ab X.K):=by
 intro pins s σ H v vs v2 us Q I rv rs ⟨d,ob,xs,ks,ws,e1,e2,hH,z,q⟩;subst e1 e2;cases rv;cases rs;have ho:=I.frzGet hH;have hc:=(mm I hH z).2.1;have hf:H s.heap.objs.size=none:=I.hok.fresh (GZ _);refine call_meetsIn PySem.F.slot_dict_items ⟨_,ho,hc⟩ PySem.F.entry_dict_items (PySem.F.args_dict_items_1 _) (pe z.no) ⟨⟨_,ho,hc⟩,?_⟩;have I1:Inv X pins σ (upd H s.heap.objs.size (.ext λh=>h.IsItemsView s.heap.objs.size d)) {s with heap:=s.heap.push {cls:=.type "dict_items",data:=.fields #[.ref d]},toks:=s.toks}:=
  I.laid (o:=.ext λh=>h.IsItemsView s.heap.objs.size d) (λb o e1=>GX _ e1) (GZ _) ⟨⟨_,G4 _ rfl,rfl,rfl⟩,⟨_,G4 _ rfl⟩,λh1 h2 ⟨ov,g1,g2,g3⟩ k=>⟨ov,k _ g1,g2,g3⟩⟩
 exact⟨.ref s.heap.objs.size,_,I1,rfl,q _ hf⟩
noncomputable def yn(K:Ii)(t2:TE):TI:=λσ H R=>t2 σ H λv H1=>∃d ob xs ks ws,v=.ref d/\H1 d=some (.frz ob (.ext (aV d xs)))/\TabOk K H1 d ks xs ws/\∀p,H1 p=none->R (Itd d ob (prs xs ws)) (upd H1 p (.ext λh=>h.IsItemsView p d))
theorem TabOk.grow{K:Ii}(z:TabOk K H d ks xs vs)(t:TM K H H'):TabOk K H' d ks xs vs:=⟨z.kx,z.nd,z.sz,z.no,z.vx,λx hx=>t.t _ _ (z.at_ x hx)⟩
theorem tT(ho:PE X o t2)(hbase:attributeBase o "items" X.env (eval o X.env)=eval o X.env)(hline:(apos.endLine == cpos.line)=true):PI X (.Tuple elts x1 pt) (.Call (.Attribute o "items" apos) [] [] cpos) (yn X.K t2):=by
 intro pins s σ H R I h;refine wpAny_Call_method0_late hbase hline (thn (ho pins s σ H _ I h) λv s0 ⟨x,H1,I1,r1,d,ob,xs,ks,ws,e1,e3,z,q⟩=>?_)
 subst e1;cases r1;obtain⟨_,xd⟩:=mm I1 e3 z;refine⟨"dict","dict.items",PySem.F.plainAttrs_dict,PySem.F.slot_dict_items,PySem.F.type_dict_items,⟨_,I1.frzGet e3,xd.1⟩,λa ha=>?_,Calls.callWith_builtin rfl (PySem.evalArgs_none ?_)⟩
 ·cases ha;exact⟨_,I1.frzGet e3,xd.2.1⟩
 refine thn (tQ pins s0 σ H1 (.ref d) [] (.ref d) [] (λv H2=>∃p,v=.ref p/\H1 p=none/\H2=upd H1 p (.ext λh=>h.IsItemsView p d)) I1 rfl .nil ⟨d,ob,xs,ks,ws,rfl,rfl,e3,z,λp hp=>⟨p,rfl,hp,rfl⟩⟩) λv2 s1 ⟨v,H2,I2,rv,p,e1,hp,e2⟩=>?_
 have q:=q p hp;have e3:H2 d=some (.frz ob (.ext (aV d xs))):=by rw[e2,ac (au e3 hp)];exact e3
 have z:TabOk X.K H2 d ks xs ws:=z.grow (by rw[e2];exact .new hp)
 have e4:H2 p=some (.ext λh=>h.IsItemsView p d):=by rw[e2,ae]
 rw[<-e2]at q
 ·subst e1;cases rv;obtain⟨⟨es,ep,hx,hd,hz,hr⟩,_⟩:=mm I2 e3 z;have hv:=(I2.hok _ _ e4).1;have ho:=I2.frzGet e3;refine pI hv ho hd ?_;have hf:H2 s1.heap.objs.size=none:=I2.hok.fresh (GZ _);have hdl:d<s1.heap.objs.size:=G2 ho;exact⟨s1.heap.objs.size,[s1.heap.objs.size],_,_,H2,rfl,I2.kept (t':=s1.toks) (λb o e=>GX _ e),o8 d s1.heap.objs.size hd hz hr (Hl hdl),⟨_,_,G4 _ rfl⟩,λb hb=>by
   have e':b=s1.heap.objs.size:=by simpa using hb
   subst e';exact I2.fpOk (GZ _) hf,q⟩
theorem uH{K:Ii}(e:H0 d=some (.frz ob (.ext (aV d xs))))(z:TabOk K H0 d ks xs vs)(dl:DenL K H0 ds vs):ItOk K H0 (Itd d ob (prs xs vs)) (cy ks ds) (λ_=>True):=by
 have l1:=dl.length;have l2:=z.vx.length;have l3:xs.length=ks.length:=by rw[<-z.kx];simp
 rw[G8]at l2;have lp:(prs xs vs).length=(cy ks ds).length:=by simp[prs,cy];omega
 refine⟨λi H M t rm s hi=>⟨⟨_,t.g _ _ _ e⟩,by omega⟩,λi H M x H' t rm s hi y=>?_,λH M t rm s=>⟨⟨_,t.g _ _ _ e⟩,by omega⟩⟩
 obtain⟨q,rfl,hq,kv,hkv,rfl⟩:=y;obtain⟨a1,a2⟩:=List.getElem?_zip_eq_some.mp hkv;rw[Hi]at a1;cases hx:xs[i]? with
 |none=>rw[hx]at a1;cases a1
 |some x=>
  rw[hx]at a1;have a1:V.ref x.2.1=kv.1:=by simpa using a1
  obtain⟨dd,e1,e2⟩:=(dl.mono t).get' a2;have hk:ks[i]?=some x.1:=by rw[<-z.kx,Hi,hx];rfl
  have sq:=t.t _ _ (z.at_ x (HW hx));refine⟨.new hq,rm.grow hq,.tup [.tup (x.1.map D.int),dd],?_,⟨q,[kv.1,kv.2],rfl,.inl (.inl ae),⟨_,_,rfl,?_,_,_,rfl,e2.mono (.new hq),rfl⟩⟩⟩
  ·have ez:(ks.zip ds)[i]?=some (x.1,dd):=List.getElem?_zip_eq_some.mpr ⟨hk,e1⟩;unfold cy;rw[Hi,ez];rfl
  ·rw[<-a1];exact⟨x.2.1,x.1.map V.int,rfl,(TM.new (K:=K) hq).t _ _ sq,jD _⟩
theorem vM(ho:PE X o (low X.K cls E2 to))(hbase:attributeBase o "items" X.env (eval o X.env)=eval o X.env)(hline:(apos.endLine == cpos.line)=true) :
  PI X (.Tuple elts x1 pt) (.Call (.Attribute o "items" apos) [] [] cpos) (ka X.K cls E2 λσ M R E=>to σ M (λx M1=>match x with
  |.dit ks ds=>R (cy ks ds) (λ_=>True) M1
  |_=>False) E):=
 (tT ho hbase hline).imp λσ H R2 hl_=>ex9 hl_ λσ3 M R E3 rm ds lk h k=>aW rm ds lk h λv H1 x M1 dx rm1 t1 q1=>by
  cases x with
  |dit ks es=>
   obtain⟨d,vs,ob,xs,rfl,e,z,dl⟩:=dx;refine⟨d,ob,xs,ks,vs,rfl,e,z,λp hp=>?_⟩
   have t2:TM X.K H1 (upd H1 p (.ext λh=>h.IsItemsView p d)):=.new hp
   exact k _ _ _ _ _ (uH (t2.g _ _ _ e) (z.grow t2) (dl.mono t2)) (rm1.grow hp) (t1.trans t2) q1
  |_=>exact q1.elim
end
end L2
namespace L2
open PySem PySem.Spec PyProof.Rows PySem.W
noncomputable def Itk(d:Addr)(o:Obj)(vs:List V):It:=
 ⟨λi H=>(∃u,H d=some (.frz o u))/\i<vs.length,λi H v H'=>H'=H/\vs[i]?=some v,λi H=>(∃u,H d=some (.frz o u))/\vs.length<=i⟩
theorem rf{K:Ii}(d it:Addr){o:Obj}{vs:List V}{es:Array DictEntry}(hd:o.data=.dict es ep)(hz:es.size=vs.length)
  (hr:∀(i:Nat) v e,vs[i]?=some v->es[i]?=some e->RelV v e.key) (hne:d≠it):Turn P w K tg (Itk d o vs) [it] it (λi h=>h.IsKeyIter it d i es.size ep) where
 mem:=by simp
 obj:=λi h st b hb=>by
  obtain⟨o1,h1,h2,h3⟩:=st;have e':b=it:=by simpa using hb
  subst e';exact⟨_,h1,λv z=>by rw[h3]at z;cases z⟩
 keep:=λi h h' st k=>st.at λo e=>k it (by simp) o e
 item:=by
  intro X hP hw hK hc i pins s σ H E I hf st hg;subst hP hw hK;obtain⟨⟨u,hu⟩,hi⟩:=hg;have he:es[i]?=some es[i]:=by simp[show i<es.size by omega]
  have hp':vs[i]?=some vs[i]:=by simp[hi]
  have rk:=hr i _ _ hp' he;obtain⟨f0,f1,f2,f3,f4,f5⟩:=hf it (by simp)
  refine nP st (I.frzGet hu) hd he λh' hit' hs'=>?_
  have I2:Inv X pins σ H {s with heap:=h',toks:=s.toks}:=I.turned (t':=s.toks) (λb o hb e1=>hs'.extBut b o hb e1) f0 f1 f3 f4 f5
  refine⟨_,rfl,letGo_keyiter (s':={s with heap:=h'}) hit' ?_⟩
  refine⟨vs[i],H,I2,rk,⟨rfl,hp'⟩,hit',λb hb=>?_⟩
  have e':b=it:=by simpa using hb
  subst e';exact f0
 done:=by
  intro X hP hw hK hc i pins s σ H E I hf st hg;subst hP hw hK;obtain⟨⟨u,hu⟩,hi⟩:=hg;obtain⟨f0,f1,f2,f3,f4,f5⟩:=hf it (by simp)
  exact nY (I.ok.hd hc) st (I.frzGet hu) hd (by omega) λh' eb=>⟨rfl,I.turned (t':=s.toks) (λb o hb e=>eb b o hb e) f0 f1 f3 f4 f5⟩
 self:=λ_ _ _ _ _ st h=>wpAny_pyIter_keyiter st h
section
variable {X:Cx}{apos cpos:Pos}
theorem wV{K:Ii}{xs:List (List Int×Addr×Value)}{ks:List (List Int)}(e:H0 d=some (.frz ob (.ext (aV d xs))))(z:TabOk K H0 d ks xs vs):ItOk K H0 (Itk d ob (xs.map λx=>V.ref x.2.1)) (ks.map jH) (λ_=>True):=by
 have l3:xs.length=ks.length:=by rw[<-z.kx];simp
 refine⟨λi H M t rm s hi=>⟨⟨_,t.g _ _ _ e⟩,by simp at hi ⊢;omega⟩,λi H M x H' t rm s hi y=>?_,λH M t rm s=>⟨⟨_,t.g _ _ _ e⟩,by simp;omega⟩⟩
 obtain⟨rfl,hv⟩:=y;rw[Hi]at hv;cases hx:xs[i]? with
 |none=>rw[hx]at hv;cases hv
 |some x'=>
  rw[hx]at hv;cases hv;have hk:ks[i]?=some x'.1:=by rw[<-z.kx,Hi,hx];rfl
  have sq:=t.t _ _ (z.at_ x' (HW hx));exact⟨.refl _,rm,jH x'.1,by rw[Hi,hk];rfl,lz sq (jD _)⟩
end
end L2
namespace L2
open PySem PySem.Spec PyProof.Rows
section
variable {X:Cx}
end
theorem ER.upd_nx{K:Ii}(er:ER K H D3 D2)(h:∀σ' H' σ3' M',RelM K M' H'->DenS K H' σ3' σ'->TM K H H'->n3 σ3' M'->n2 σ' H'):ER K H {D3 with nx:=n3} {D2 with nx:=n2}:=⟨h,er.rt,er.bk,er.ct⟩
section
variable {X:Cx}{cls:Nat->Addr}{E2:St->XK}{st:Stmt}{az:List Stmt}{t u:Ends3->(St3->XN)->St3->MH->Prop}{e:Expr}{te:St3->MH->VK3->XN->Prop}{pos:Pos}
theorem Cd:PSs X [] (bx X.K cls E2 λD _ σ M=>D.nx σ M):=pss_nil.imp λD2 σ H hl_=>ex9 hl_ λσ3 M D3 E3 rm ds lk h er=>er.nx σ H σ3 M rm ds (.refl _) h
theorem zy(h1:PS X st (bx X.K cls E2 t))(h2:PSs X az (bx X.K cls E2 u)):PSs X (st::az) (bx X.K cls E2 λD E σ M=>t {D with nx:=λσ' M'=>u D E σ' M'} E σ M):=
 (mW h1 h2).imp λD2 σ H hl_=>ex9 hl_ λσ3 M D3 E3 rm ds lk h er=>⟨σ3,M,_,E3,rm,ds,lk,h,er.upd_nx λσ' H' σ3' M' rm' ds' tm q=>⟨σ3',M',D3,E3,rm',ds',lk.mono tm,q,er.mono tm⟩⟩
theorem CV{i:Nat}(h2:PSs X az (bx X.K cls E2 u)):PSs X az (bx X.K cls E2 λD E σ M=>match σ[i]? with
  |some (some (.ref a))=>u D E σ (del M a)
  |_=>False):=h2.imp λD2 σ H hl_=>ex9 hl_ λσ3 M D3 E3 rm ds lk h er=>by
 dsimp only at h;split at h
 ·rename_i a e;exact⟨σ3,_,D3,E3,rm.sub λb o q=>(iQ q).2,ds,lk,h,er⟩
 ·exact h.elim
theorem yW:PS X st (bx X.K cls E2 λ_ _ _ _=>False):=λ_ _ _ _ _ _ hl_=>ex9 hl_ λ_ _ _ _ _ _ _ h _=>h.elim
theorem zZ(he:PE X e (low X.K cls E2 te))(hs:swapsWith e none pos.line X.env=pure false):PS X (.Expr e pos) (bx X.K cls E2 λD E σ M=>te σ M (λ_ M1=>D.nx σ M1) (E σ)):=
 (lE he hs).imp λD2 σ H hl_=>ex9 hl_ λσ3 M D3 E3 rm ds lk h er=>aW rm ds (lk.at ds) h λv H1 x M1 dx rm1 t1 q1=>er.nx σ H1 σ3 M1 rm1 (ds.mono t1) t1 q1
theorem A1(he:PE X e (low X.K cls E2 te)):PS X (.Return (some e) pos) (bx X.K cls E2 λD E σ M=>te σ M D.rt (E σ)):=
 (Ap he).imp λD2 σ H hl_=>ex9 hl_ λσ3 M D3 E3 rm ds lk h er=>aW rm ds (lk.at ds) h λv H1 x M1 dx rm1 t1 q1=>er.rt v H1 x M1 dx rm1 t1 q1
theorem EO(hc:PT X c (cH X.K cls E2 tA))(ha:PSs X a (bx X.K cls E2 t))(hb:PSs X b (bx X.K cls E2 u)) :
  PS X (.If c a b pos) (bx X.K cls E2 λD E σ M=>tA σ M (λk M1=>if k=true then t D E σ M1 else u D E σ M1) (E σ)):=
 (BG hc ha hb).imp λD2 σ H hl_=>ex9 hl_ λσ3 M D3 E3 rm ds lk h er=>kF rm ds (lk.at ds) h λk H1 M1 rm1 t1 q1=>by
  cases k with
  |true=>rw[G3 rfl]at q1 ⊢;exact⟨σ3,M1,D3,E3,rm1,ds.mono t1,lk.mono t1,q1,er.mono t1⟩
  |false=>rw[GV Hf]at q1 ⊢;exact⟨σ3,M1,D3,E3,rm1,ds.mono t1,lk.mono t1,q1,er.mono t1⟩
theorem xW(hN:X.N.Nodup)(hi:X.N[i]?=some x)(hx:Loc X.env.scope x)(he:PE X e (low X.K cls E2 te))(hs:swapsWith e (some (.Name x pos')) pos.line X.env=pure false)(hf:X.fn x=true\/X.env.scope.names.lookup x=some .local) :
  PS X (.Assign [.Name x pos'] e pos) (bx X.K cls E2 λD E σ M=>te σ M (λx M1=>D.nx (σ.set i (some x)) M1) (E σ)):=
 (zL hN hi hx he hs hf).imp λD2 σ H hl_=>ex9 hl_ λσ3 M D3 E3 rm ds lk h er=>aW rm ds (lk.at ds) h λv H1 x M1 dx rm1 t1 q1=>er.nx _ _ _ _ rm1 ((ds.mono t1).set dx) t1 q1
theorem Af(hN:X.N.Nodup)(hi:X.N[i]?=some x)(hx:Loc X.env.scope x)(hf:X.fn x=true\/X.env.scope.names.lookup x=some .local):PG X (.Name x pos) (r0 X.K (wpG (.name i))):=
 (iW hN hi hx hf).imp λv σ H Q2 ⟨d,σ3,M,Q,dv,rm,ds,h,back⟩=>back _ _ _ _ rm (ds.set dv) (.refl _) h
noncomputable def bT(N:List Str)(sc:Scope)(fn:Bool):List Nat->List Expr->Bool
 |[],[]=>true
 |i::is,.Name x _::es=>(N[i]? == some x)&&(sc.names.lookup x == some .local||(fn&&sc.names.lookup x == some .cell))&&bT N sc fn is es
 |_,_=>false
noncomputable def jc(is:List Nat)(xs:List α)(σ:List (Option α)):List (Option α):=(is.zip xs).foldl (λσ p=>σ.set p.1 (some p.2)) σ
theorem kZ(hN:X.N.Nodup)(hfn:fn=true->∀x,X.fn x=true):∀{is:List Nat}{es:List Expr},bT X.N X.env.scope fn is es=true->
  PGs X es (λvs σ H Q=>vs.length=is.length/\Q (jc is vs σ) H)/\(assignEach es X.env).length=is.length/\(assignEach es X.env).findIdx? (·.1)=none
 |[],[],_=>⟨λpins s σ H vs us Q I r ⟨e,h⟩=>xq pins s σ H vs us Q I r ⟨List.length_eq_zero_iff.mp e,by cases List.length_eq_zero_iff.mp e;exact h⟩,rfl,rfl⟩
 |[],_::_,h=>by simp[bT]at h
 |i::is,es,h=>by
  unfold bT at h;split at h
  ·rename_i heq;cases heq
  ·rename_i i' is' x px es' heq;cases heq;simp only[GS,Hb,Bool.or_eq_true]at h;obtain⟨⟨h1,h2⟩,h3⟩:=h;obtain⟨ih,il,ix⟩:=kZ hN hfn h3;have hg:PG X (.Name x px) (qE i):=by
    rcases h2 with h2|⟨h2,h4⟩
    ·exact iW hN h1 (.inl h2) (.inr h2)
    ·exact iW hN h1 (.inr h4) (.inl (hfn h2 x))
   refine⟨λpins s σ H vs us Q I r ⟨e,q⟩=>?_,by show (assignEach es' X.env).length+1=is.length+1;rw[il],?_⟩
   ·cases vs with
    |nil=>cases e
    |cons v vs=>exact tR hg ih rfl pins s σ H (v::vs) us Q I r ⟨v,vs,rfl,by simpa using e,q⟩
   ·show List.findIdx? (·.1) ((false,assign (.Name x px) X.env)::assignEach es' X.env)=none;rw[List.findIdx?_cons];simp[ix]
  ·cases h
theorem jo{K:Ii}:∀{is:List Nat}{ds:List D}{vs:List V}{σ3:St3}{σ:St},DenL K H ds vs->DenS K H σ3 σ->DenS K H (jc is ds σ3) (jc is vs σ)
 |[],_,_,_,_,_,h=>by simpa [jc] using h
 |i::is,[],vs,_,_,dl,h=>by cases (show vs=[] from dl);simpa [jc] using h
 |i::is,d::ds,vs,_,_,dl,h=>by
  obtain⟨v,r,rfl,dv,dl⟩:=dl;exact jo (is:=is) dl (h.set (i:=i) dv)
theorem xC(hc:X.calm=true)(hN:X.N.Nodup)(hfn:fn=true->∀x,X.fn x=true)(ok:bT X.N X.env.scope fn is es=true):PG X (.Tuple es k pos) (r0 X.K (wpG (.tup is))):=by
 obtain⟨h1,h2,h3⟩:=kZ hN hfn ok;refine (yF hc h1 h2 h3).imp λv σ H Q2 ⟨d,σ3,M,Q,dv,rm,ds,h,back⟩=>?_
 simp only[wpG]at h;split at h
 ·rename_i es';obtain⟨p,vs,rfl,sq,dl⟩:=dv;obtain⟨z,q⟩:=h;exact⟨p,vs,rfl,sq,by rw[<-dl.length];exact z,by rw[<-dl.length];exact z,back _ _ _ _ rm (jo dl ds) (.refl _) q⟩
 ·exact h.elim
theorem Cr{is:List Nat}(hc:X.calm=true)(hN:X.N.Nodup)(hfn:fn=true->∀x,X.fn x=true)(ok:bT X.N X.env.scope fn is es=true)(he:PE X e (low X.K cls E2 te))
  (hs:swapsWithSole [.Tuple es k p2] e pos.line X.env=pure false) (hw:swappedStores [.Tuple es k p2] e X.env=pure none) :
  PS X (.Assign [.Tuple es k p2] e pos) (bx X.K cls E2 λD E σ M=>te σ M (λx M1=>match x with
  |.tup ds=>ds.length=is.length/\D.nx ((is.zip ds).foldl (λσ p=>σ.set p.1 (some p.2)) σ) M1
  |_=>False) (E σ)):=
 (tj he (xC (is:=is) hc hN hfn ok) hs hw (by rfl)).imp λD2 σ H hl_=>ex9 hl_ λσ3 M D3 E3 rm ds lk h er=>aW rm ds (lk.at ds) h λv H1 x M1 dx rm1 t1 q1=>
  ⟨x,σ3,M1,D3.nx,dx,rm1,ds.mono t1,by simp only[wpG];exact q1,λσ' H' σ3' M' r' d' t' q'=>er.nx σ' H' σ3' M' r' d' (t1.trans t') q'⟩
theorem Bm(hp:PassesOwn (model X.prog X.w) X.A X.env X.xe)(hc:X.calm=true)(hi:PI X tg iter (ka X.K cls E2 wi))(hg:PG X tg (r0 X.K g))(hb:PSs X body (bx X.K cls E2 t))
  (hs:∀x,foldedSetIterable iter X.env x=pure x):PS X (.For tg iter body [] pos) (bx X.K cls E2 λD E σ M=>wi σ M (λds S M1=>jN g (λD σ M=>t D E σ M) S D ds σ M1) (E σ)):=by
 refine (yV hp hc hi hg hb hs).imp λD2 σ H hl_=>ex9 hl_ λσ3 M D3 E3 rm ds0 lk h er=>⟨σ3,M,_,E3 σ3,rm,ds0,lk.at ds0,h,λJ H1 ds S M1 ok rm1 tm1 hP=>?_⟩
 refine⟨λi m σ' H'=>∃σ3' M',m=ds.length-i/\i<=ds.length/\RelM X.K M' H'/\DenS X.K H' σ3' σ'/\TM X.K H1 H'/\jN g (λD σ M=>t D E3 σ M) S D3 (ds.drop i) σ3' M',⟨ds.length,σ3,M1,by simp,Nat.zero_le _,rm1,ds0.mono tm1,.refl _,hP⟩,?_⟩
 rintro i m σ' H' ⟨σ3',M',rfl,hil,rm',ds',tm',p⟩;by_cases hlt:i<ds.length
 ·rw[List.drop_eq_getElem_cons hlt]at p;obtain⟨s',p⟩:=p;refine .inr ⟨ok.go i H' M' tm' rm' s' hlt,λσ4 H4=>∃σ34 M4,RelM X.K M4 H4/\DenS X.K H4 σ34 σ4/\TM X.K H1 H4/\jN g (λD σ M=>t D E3 σ M) S D3 (ds.drop (i+1)) σ34 M4,?_,?_⟩
  ·rintro σ4 H4 ⟨σ34,M4,e1,e2,e3,e4⟩;exact⟨ds.length-(i+1),by omega,σ34,M4,rfl,hlt,e1,e2,e3,e4⟩
  ·intro x H2 y;obtain⟨tm2,rm2,d,hd,dv⟩:=ok.yld i H' M' x H2 tm' rm' s' hlt y;rw[Hd hlt]at hd;cases hd;refine⟨_,σ3',M',_,dv,rm2,ds'.mono tm2,p,λσ5 H5 σ35 M5 rm5 ds5 tm5 q5=>?_⟩
   have tmA:TM X.K H1 H5:=(tm'.trans tm2).trans tm5;exact⟨σ35,M5,_,E3,rm5,ds5,lk.mono (tm1.trans tmA),q5,⟨λσ6 H6 σ36 M6 rm6 ds6 tm6 q6=>⟨σ36,M6,rm6,ds6,tmA.trans tm6,q6⟩,λv H6 d6 M6 dv6 rm6 tm6 q6=>er.rt v H6 d6 M6 dv6 rm6 (tm1.trans (tmA.trans tm6)) q6,
    λσ6 H6 σ36 M6 rm6 ds6 tm6 q6=>er.nx σ6 H6 σ36 M6 rm6 ds6 (tm1.trans (tmA.trans tm6)) q6,λσ6 H6 σ36 M6 rm6 ds6 tm6 q6=>⟨σ36,M6,rm6,ds6,tmA.trans tm6,q6⟩⟩⟩
 ·have e:i=ds.length:=by omega
  subst e;rw[List.drop_length]at p;exact .inl ⟨ok.stop H' M' tm' rm' p.1,er.nx σ' H' σ3' M' rm' ds' (tm1.trans tm') p.2⟩
theorem wS(hx:lR X E)(hE:E2=λ_=>E)(hc:X.calm=true)(hg:Gl X x)(hm:X.mg x=some (.ref (cls i)))(q:wX X.K (cls i))(ha:PA X (e::es) (dI X.K cls E2 tr))(hdb:(x == ("__debug__" : Str))=false)
  (he:starEach (e::es) X.env=(false,eval e X.env)::starEach es X.env) (hpl:(backTo cpos (starEach es X.env)).any (·.1)=false) :
  PS X (.Raise (some (.Call (.Name x np) (e::es) [] cpos)) none pos) (bx X.K cls E2 λ_ E σ M=>tr σ M (λxs M1=>xs.length<=sizeLine/\E σ ⟨i,none⟩ M1) (E σ)):=by
 subst hE;exact (tK hx hc hg hm q ha hdb he hpl).imp λD2 σ H hl_=>ex9 hl_ λσ3 M D3 E3 rm ds lk h er=>eG rm ds (lk.at ds) h λvs H1 xs M1 dl rm1 t1 ⟨z,q⟩=>⟨by rw[<-dl.length];exact z,lk σ3 σ ⟨i,none⟩ M1 H1 t1 (ds.mono t1) rm1 q none rfl⟩
theorem AU{apos cpos:Pos}(ho:PE X o (low X.K cls E2 to))(he:PE X e (low X.K cls E2 te))(hbase:attributeBase o "append" X.env (eval o X.env)=eval o X.env)
  (hline:(apos.endLine == cpos.line)=true) (hs:starEach [e] X.env=[(false,eval e X.env)]) :
  PS X (.Expr (.Call (.Attribute o "append" apos) [e] [] cpos) pos) (bx X.K cls E2 λD E σ M=>to σ M (λx M1=>match x with
  |.ref a=>match M1 a with
   |some (.lst _)=>te σ M1 (λy M2=>match M2 a with
    |some (.lst ds)=>ds.length<sizeLine/\D.nx σ (put M2 a (.lst (ds++[y])))
    |_=>False) (E σ)
   |_=>False
  |_=>False) (E σ)):=by
 have hm:MtR X "list.append" rAppend:=k9;have h1:=Cs (X:=X) PySem.F.plainAttrs_list PySem.F.slot_list_append PySem.F.type_list_append hm ho (aM he pa_nil hs) hbase (by rw[hs];rfl) hline hs (by rfl)
 refine (lE h1 (by rfl)).imp λD2 σ H hl_=>ex9 hl_ λσ3 M D3 E3 rm ds lk h er=>?_
 refine aW rm ds (lk.at ds) h λv H1 x M1 dx rm1 t1 q1=>?_
 split at q1
 ·rename_i a;cases (show v=.ref a from dx);split at q1
  ·rename_i ds0 e0;obtain⟨vs0,f0,_⟩:=rm1 a _ e0;refine⟨.inl ⟨rfl,vs0,.of f0⟩,aW rm1 (ds.mono t1) ((lk.mono t1).at (ds.mono t1)) q1 λu H2 y M2 dy rm2 t2 q2=>?_⟩
   split at q2
   ·rename_i ds1 e1;obtain⟨vs,f1,dl⟩:=rm2 a _ e1;refine⟨a,vs,u,rfl,rfl,f1,by rw[<-dl.length];exact q2.1,?_⟩
    have tw:TM X.K H2 (upd H2 a (.lst (vs++[u]))):=.put f1 (λ_=>λz=>nomatch z) λ_ _=>λz=>nomatch z
    exact er.nx _ _ _ _ (rm2.write (u:=.lst (ds1++[y])) f1 (λ_=>λz=>nomatch z) (λ_ _=>λz=>nomatch z) ⟨_,ae,(dl.append (.one dy)).mono tw⟩) (((ds.mono t1).mono t2).mono tw) ((t1.trans t2).trans tw) q2.2
   ·exact q2.elim
  ·exact q1.elim
 ·exact q1.elim
end
abbrev no2:St->XK:=λ_ _ _ _=>False
theorem t7{K:Ii}(h:DenS K H σ3 σ):DenS K H (aA js σ3) (jP js σ):=by
 refine⟨by simp[aA,jP],λi d e=>?_⟩
 unfold aA at e;unfold jP;rw[Hi]at e ⊢;cases q:js[i]? with
 |none=>rw[q]at e;cases e
 |some o=>
  rw[q]at e;cases o with
  |none=>cases e
  |some j=>
   rw[Option.map_some,Option.bind_some]at e;cases z:σ3[j]? with
   |none=>rw[z]at e;cases e
   |some y=>
    rw[z]at e;have e:some (id y)=some (some d):=e;have e:y=some d:=Hg e;subst e;obtain⟨v,e1,e2⟩:=h.2 j d z;refine⟨v,?_,e2⟩;rw[Option.map_some,Option.bind_some,e1];rfl
section
variable {X:Cx}
theorem jt{Ee:XN}{E2e:St->XK}(lke:∀σc,LkE X.K cls H Ee (E2e σc))(rm:RelM X.K M H)(ds0:DenS X.K H σ3 σ)(lk:LkE X.K cls H E3 (E2 σ))
  (h:wi σ3 M (λds S M1=>∀p,M1 p=none->dH g (λσ M Q=>tt σ M Q (λ_ _=>False)) (λσ M Q=>te σ M Q Ee) S p Q ds [] (aA js σ3) (put M1 p (.lst []))) E3) (back:Back X.K H Q Q2) :
  pY js (ka X.K cls E2 wi) (r0 X.K g) (cH X.K cls no2 tt) (low X.K cls E2e te) σ H Q2:=by
 refine⟨σ3,M,_,E3,rm,ds0,lk,h,λJ H1 ds S M1 ok rm1 tm1 hP p hp=>?_⟩
 have hP:=hP p (rm1.fresh hp);refine⟨λi m σc H'=>∃σ3c ys M',m=ds.length-i/\i<=ds.length/\RelM X.K M' H'/\DenS X.K H' σ3c σc/\TM X.K H1 H'/\dH g (λσ M Q=>tt σ M Q (λ_ _=>False)) (λσ M Q=>te σ M Q Ee) S p Q (ds.drop i) ys σ3c M',
  ⟨ds.length,_,[],_,by simp,Nat.zero_le _,rm1.lay (u:=.lst []) hp ⟨[],ae,.nil⟩,(t7 ds0).mono (tm1.trans (.new hp)),.new hp,hP⟩,?_⟩
 rintro i m σc H' ⟨σ3c,ys,M',rfl,hil,rm',ds',tm',q⟩;by_cases hlt:i<ds.length
 ·rw[List.drop_eq_getElem_cons hlt]at q;obtain⟨s',hl,q⟩:=q;refine .inr ⟨ok.go i H' M' tm' rm' s' hlt,λx H2 y=>?_⟩
  obtain⟨tm2,rm2,d,hd,dv⟩:=ok.yld i H' M' x H2 tm' rm' s' hlt y;rw[Hd hlt]at hd;cases hd;refine⟨_,σ3c,M',_,dv,rm2,ds'.mono tm2,q,λσ5 H5 σ35 M5 rm5 ds5 tm5 q5=>?_⟩
  refine⟨σ35,M5,_,_,rm5,ds5,LkE.no,q5,λb H6 M6 rm6 tm6 q6=>?_⟩
  have tmA:TM X.K H1 H6:=((tm'.trans tm2).trans tm5).trans tm6;cases b with
  |true=>
   rw[G3 rfl]at q6;dsimp only;rw[G3 rfl];refine⟨σ35,M6,_,_,rm6,ds5.mono tm6,(lke _).mono (tm1.trans tmA),q6,λv H7 y M7 dy rm7 tm7 ⟨e7,q7⟩=>?_⟩
   obtain⟨vs,f7,dl⟩:=rm7 p _ e7;have tw:TM X.K H7 (upd H7 p (.lst (vs++[v]))):=.put f7 (λ_=>λz=>nomatch z) λ_ _=>λz=>nomatch z
   exact⟨vs,f7,by rw[<-dl.length];exact hl,ds.length-(i+1),by omega,σ35,ys++[y],_,rfl,hlt,rm7.write (u:=.lst (ys++[y])) f7 (λ_=>λz=>nomatch z) (λ_ _=>λz=>nomatch z) ⟨_,ae,(dl.append (.one dy)).mono tw⟩,((ds5.mono tm6).mono tm7).mono tw,(tmA.trans tm7).trans tw,q7⟩
  |false=>
   rw[GV Hf]at q6;dsimp only;rw[GV Hf];exact⟨ds.length-(i+1),by omega,σ35,ys,M6,rfl,hlt,rm6,ds5.mono tm6,tmA,q6⟩
 ·have e:i=ds.length:=by omega
  subst e;rw[List.drop_length]at q;exact .inl ⟨ok.stop H' M' tm' rm' q.1,back _ _ _ _ gh rm' (tm1.trans tm') q.2⟩
variable {q:Bool} (hok:eu N js scope X.env.scope X.N=true) (hcalm:Qt q X) (hi:PIB q X tg iter (ka X.K cls E2 wi))
  (hg:∀C s2 H2 fp pn,PG (compCx X scope C N s2 H2 fp pn) tg (r0 X.K g)) (ht:∀C s2 H2 fp pn,PIf (compCx X scope C N s2 H2 fp pn) ifs (cH X.K cls no2 tt)) (he:∀C s2 H2 fp pn,PE (compCx X scope C N s2 H2 fp pn) elt (low X.K cls no2 te))
  (hs:∀x,foldedSetIterable iter X.env x=pure x)
include hok hcalm hi hg ht he hs
theorem qd:PE X (.ListComp elt [⟨tg,iter,ifs,0⟩] scope pos) (low X.K cls E2 λσ M Q E=>wi σ M (λds S M1=>∀p,M1 p=none->dH g (λσ M Q=>tt σ M Q (λ_ _=>False)) (λσ M Q=>te σ M Q (λ_ _=>False)) S p Q ds [] (aA js σ) (put M1 p (.lst []))) E):=
 (vA hok hcalm hi hg ht he hs).imp λσ H Q2 hl_=>ex9 hl_ λσ3 M Q E3 rm ds lk h back=>jt (λ_=>LkE.no) rm ds lk h back
theorem zn(fz:Bool):PE X (.ListComp elt [⟨tg,iter,ifs,0⟩] scope pos) (low X.K cls E2 λσ M Q E=>wi σ M (λds S M1=>∀p,M1 p=none->dH g (λσ M Q=>tt σ M Q (λ_ _=>False)) (λσ M Q=>te σ M Q (λ_ _=>False)) S p (if fz=true then fM Q else Q) ds [] (aA js σ) (put M1 p (.lst []))) E):=by
 cases fz with
 |false=>exact qd hok hcalm hi hg ht he hs
 |true=>exact zj (qd hok hcalm hi hg ht he hs)
theorem pQ{spos:Pos}(hN:X.N.Nodup)(hy:X.N[i]?=some y)(hl:X.env.scope.names.lookup y=some .local)(hsw:swapsWith (.ListComp elt [⟨tg,iter,ifs,0⟩] scope pos) (some (.Name y py)) spos.line X.env=pure true)(fz:Bool) :
  PS X (.Assign [.Name y py] (.ListComp elt [⟨tg,iter,ifs,0⟩] scope pos) spos) (bx X.K cls E2 λD E σ M=>wi σ M (λds S M1=>∀p,M1 p=none->dH g (λσ M Q=>tt σ M Q (λ_ _=>False)) (λσ M Q=>te σ M Q (λ_ _=>False)) S p (if fz=true then fM (λx M1=>D.nx (σ.set i (some x)) M1) else (λx M1=>D.nx (σ.set i (some x)) M1)) ds [] (aA js σ) (put M1 p (.lst []))) (E σ)):=by
 cases fz with
 |false=>exact (jf hN hy hl hok hcalm hi hg ht he hs hsw).imp λD2 σ H hl_=>ex9 hl_ λσ3 M D3 E3 rm ds lk h er=>jt (λ_=>LkE.no) rm ds (lk.at ds) h λv H1 x M1 dx rm1 t1 q1=>er.nx _ _ _ _ rm1 ((ds.mono t1).set dx) t1 q1
 |true=>
  refine λpins s σ H D2 I hl_=>ex9 hl_ λσ3 M D3 E3 rm ds lk h er=>?_
  refine thn (jf hN hy hl hok hcalm hi hg ht he hs hsw pins s σ H {D2 with nx:=λσ' H'=>∃x v M1,σ'=σ.set i (some v)/\Den X.K H' x v/\RelM X.K M1 H'/\TM X.K H H'/\fM (λx M1=>D3.nx (σ3.set i (some x)) M1) x M1} I
   (jt (λ_=>LkE.no) rm ds (lk.at ds) h λv H1 x M1 dx rm1 t1 q1=>⟨x,v,M1,rfl,dx,rm1,t1,q1⟩)) λfl s1 q=>?_
  cases fl with
  |next=>
   obtain⟨σ',H',I1,x,v,M1,rfl,dx,rm1,t1,q1⟩:=q;unfold fM at q1;split at q1
   ·rename_i a;cases (show v=.ref a from dx);split at q1
    ·rename_i es e;obtain⟨vs,e1,dl⟩:=rm1 a _ e;obtain⟨o,I2⟩:=I1.freeze e1;exact⟨_,_,I2,er.nx _ _ _ _ (rm1.freeze e1) ((ds.mono (t1.trans (.freeze e1))).set (fq dl e1)) (t1.trans (.freeze e1)) q1⟩
    ·exact q1.elim
   ·exact q1.elim
  |brk=>exact q
  |cont=>exact q
  |ret u=>exact q
end
def pD(K:Ii)(cls:Nat->Addr)(t:XE->Ends3->St3->MH->Prop):Ends->St->XK:=λD2 σ c dx H=>∃i σ3 M D3,(c=.ref (cls i.c)/\XD K H i dx)/\RelM K M H/\DenS K H σ3 σ/\t i D3 σ3 M/\ER K H D3 D2
theorem ER.goes{K:Ii}{D2:Ends}(er:ER K H D3 D2)(i:Nat):ER K H (ot D3 i) (D2.goes i):=
 ⟨λσ' H' σ3' M' rm ds t q=>er.nx _ _ _ _ rm ds.drop t q,er.rt,λσ' H' σ3' M' rm ds t q=>er.bk _ _ _ _ rm ds.drop t q,λσ' H' σ3' M' rm ds t q=>er.ct _ _ _ _ rm ds.drop t q⟩
section
variable {X:Cx}{cls:Nat->Addr}{E2:St->XK}{c n:Str}{k j ne:Nat}{sub:Nat->Nat->Bool}{b0:Stmt}{suite:List Stmt}{np hpos pos:Pos}{az:List ExceptHandler}{tb:Ends3->(St3->XN)->St3->MH->Prop}{tr:XE->Ends3->St3->MH->Prop}
theorem z9:PH X [] (pD X.K cls λ_ _ _ _=>False):=λ_ _ _ _ _ _ _ _ _ ⟨_,_,_,_,_,_,_,h,_⟩=>h.elim
theorem CT(hg:Gl X c)(hm:X.mg c=some (.ref (cls k)))(hsub:∀i,i<ne->PySem.W.exmOne X.K (.ref (cls i)) (.ref (cls k))=some (sub i k))(hN:X.N.Nodup)(hj:X.N[j]?=some n)(hl:X.env.scope.names.lookup n=some .local)
  (hs:∀a o u,nF o->PSs (X.markedS a o u) (b0::suite) (bx X.K cls no2 tb)) (hr:PH X az (pD X.K cls tr)) (hdb:(c == ("__debug__" : Str))=false) :
  PH X (.ExceptHandler (some (.Name c np)) (some n) (b0::suite) hpos::az) (pD X.K cls λi D σ M=>i.c<ne/\if sub i.c k=true then (∀a,M a=none->tb (ot D j) (λ_ _ _=>False) (σ.set j (some (.ref a))) (put M a (.exc i (.ref (cls i.c))))) else tr i D σ M):=by
 intro pins s σ H D a cv dx xi ⟨i,σ3,M,D3,⟨e,xd⟩,rm,ds,⟨hi,h⟩,er⟩;subst e;refine Cc (i:=j) hg hm hN hj hl hs hr hdb pins s σ H D a _ dx xi ?_;have z:=hsub i.c hi;cases q:sub i.c k with
 |true=>
  rw[q]at z;rw[G3 q]at h;refine .inl ⟨z,λa' o ha=>?_⟩
  have tn:TM X.K H (upd H a' (.frz o (uF a' (.ref (cls i.c)) dx))):=.new ha;exact⟨_,_,_,_,rm.lay (u:=.exc i (.ref (cls i.c))) ha ⟨o,dx,ae,xd.mono tn⟩,(ds.mono tn).set gh,(λ_ _ _ _ _ _ _ _ w=>w.elim),h a' (rm.fresh ha),(er.goes j).mono tn⟩
 |false=>
  rw[q]at z;rw[GV (by rw[q];exact Hf)]at h
  exact .inr ⟨z,i,σ3,M,D3,⟨rfl,xd⟩,rm,ds,h,er⟩
theorem Bi(hg:Gl X c)(hm:X.mg c=some (.ref (cls k)))(hsub:∀i,i<ne->PySem.W.exmOne X.K (.ref (cls i)) (.ref (cls k))=some (sub i k))
  (hs:∀v,PSs (X.marked v) (b0::suite) (bx X.K cls no2 tb)) (hr:PH X az (pD X.K cls tr)) (hdb:(c == ("__debug__" : Str))=false) :
  PH X (.ExceptHandler (some (.Name c np)) none (b0::suite) hpos::az) (pD X.K cls λi D σ M=>i.c<ne/\if sub i.c k=true then tb D (λ_ _ _=>False) σ M else tr i D σ M):=by
 intro pins s σ H D a cv dx xi ⟨i,σ3,M,D3,⟨e,xd⟩,rm,ds,⟨hi,h⟩,er⟩;subst e;refine Ca hg hm hs hr hdb pins s σ H D a _ dx xi ?_;have z:=hsub i.c hi;cases q:sub i.c k with
 |true=>
  rw[q]at z;rw[G3 q]at h;exact .inl ⟨z,σ3,M,D3,_,rm,ds,(λ_ _ _ _ _ _ _ _ w=>w.elim),h,er⟩
 |false=>
  rw[q]at z;rw[GV (by rw[q];exact Hf)]at h
  exact .inr ⟨z,i,σ3,M,D3,⟨rfl,xd⟩,rm,ds,h,er⟩
theorem vS{el:List Stmt}(hst:X.stack=X.env::X.outer)(hfr:X.env.frame=some X.env.locals)(hex:X.ex=[])(hh:PH X (h0::hs) th)(he:PSs X el te) :
  PS X (.Try body (h0::hs) el [] pos) (λD σ H=>∀pn W,aQ (CX1 X.prog X.w) (X.tryX pn W) (λσ cls d H=>th D σ cls d H)->∃t,PSs (X.tryX pn W) body t/\t {D with nx:=te D} σ H):=by
 intro pins s σ H D I h;have key:∀(W:Value->Shared->Prop),aQ (CX1 X.prog X.w) (X.tryX pins W) (λσ cls d H=>th D σ cls d H)->wpAny (model X.prog X.w) X.A (execs body X.env) (SP (X.tryX pins W) [] {D with nx:=te D}) W s:=λW hP=>by
  obtain⟨t,ht,q⟩:=h pins W hP;exact ht [] s σ H _ (I.tryX _) q
 refine wpAny_Try_except (HP (key _ ?hx) (λf s1 q=>?_) (λe s1 q=>q))
 case hx=>
  intro pins' σ1 H1 s1 e s' I' hc;have I1:=I'.untry I.ok;obtain⟨a,cls,B,H2,dx,rfl,os,bare,un,hok,⟨fl0,dd0⟩,ha,inc,he⟩:=hc;have hnew:=qe fl0 inc;obtain⟨a0,fl⟩:=fl0;have hfl:Heap.FlyingW B (X.env::X.outer) a cls a0 s'.heap:=hst▸fl;have hA:X.A.frames=some (X.env::X.outer):=hst▸I.ok.frames;refine oO hA hfr hfl dd0 λh4 held up4 dd4=>qu held dd4 λh5 fl5 up5 dd5=>?_
  refine hh pins _ σ1 H2 D a cls dx ⟨B,a0,I1.behind (s':=s') (h4:=h5) os bare un hok inc fl5.1 (up4.trans up5),⟨hst▸fl5,dd5⟩,ha,?_,λp hp z=>?_,λh6 st6 up6=>I1.behind (s':=s') (h4:=h6) os bare un hok inc st6 ((up4.trans up5).trans up6)⟩ he
  ·cases q:X.s₀.heap.get? a with
   |none=>rfl
   |some o=>
    obtain⟨o1,e1⟩:=I1.base.there a o q (by rw[hex];exact λz=>nomatch z)
    rw[hnew]at e1;cases e1
  ·have e1:=(I1.pin p hp).1;rw[z,hnew]at e1;cases e1
 ·match f,q with
  |.next,⟨σ',H',J,q⟩=>exact he pins s1 σ' H' D (J.untry I.ok) q
  |.brk,⟨σ',H',J,q⟩=>exact⟨σ',H',J.untry I.ok,q⟩
  |.cont,⟨σ',H',J,q⟩=>exact⟨σ',H',J.untry I.ok,q⟩
  |.ret u,⟨v,σ',H',J,r,q⟩=>exact⟨v,σ',H',J.untry I.ok,r,q⟩
theorem zW{el:List Stmt}{te:Ends3->(St3->XN)->St3->MH->Prop}(hst:X.stack=X.env::X.outer)(hfr:X.env.frame=some X.env.locals)(hex:X.ex=[])(hh:PH X (h0::hs) (pD X.K cls th))
  (hb:∀pn W E2',aQ (CX1 X.prog X.w) (X.tryX pn W) E2'->PSs (X.tryX pn W) body (bx X.K cls E2' tb)) (he:PSs X el (bx X.K cls E2 te)) :
  PS X (.Try body (h0::hs) el [] pos) (bx X.K cls E2 λD E σ M=>tb {D with nx:=λσ' M'=>te D E σ' M'} (λσ' i M'=>th i D σ' M') σ M):=
 (vS hst hfr hex hh he).imp λD2 σ H ⟨σ3,M,D3,E3,rm,ds,lk,h,er⟩ pn W hP=>⟨_,hb pn W _ hP,σ3,M,_,_,rm,ds,λσ3' σ' i M' H' t ds' rm' q dx xd=>⟨i,σ3',M',D3,⟨rfl,xd⟩,rm',ds',q,er.mono t⟩,h,⟨λσ' H' σ3' M' rm' ds' t q=>⟨σ3',M',D3,E3,rm',ds',lk.mono t,q,er.mono t⟩,er.rt,er.bk,er.ct⟩⟩
end
section
variable {X:Cx}{s:Shared}{kvs:List (Key×V)}{o:Obj}
end
section
variable {X:Cx}{apos cpos:Pos}
end
section
variable {X:Cx}{s:Shared}
end
section
variable {X:Cx}{apos cpos:Pos}
end
end L2
namespace L2
open PySem PySem.Spec PyProof.Rows PySem.W
section
variable {X:Cx}
end
end L2
namespace L2
open PySem PySem.Spec PyProof.Rows
section
variable {X:Cx}{cls:Nat->Addr}{E2:St->XK}{tg o:Expr}
theorem Bo{t2:TE}(ho:PE X o t2):PI X tg o (λσ H R=>t2 σ H λv H1=>∃d ob xs ks ws,v=.ref d/\H1 d=some (.frz ob (.ext (aV d xs)))/\TabOk X.K H1 d ks xs ws/\R (Itk d ob (xs.map λx=>V.ref x.2.1)) H1):=by
 intro pins s σ H R I h;refine thn (ho pins s σ H _ I h) λv s1 ⟨x,H2,I2,r1,d,ob,xs,ks,ws,e1,e3,z,q⟩=>?_
 subst e1;cases r1;obtain⟨⟨es,ep,hx,hd,hz,hr⟩,xd⟩:=mm I2 e3 z;have ho:=I2.frzGet e3;refine xP z.no ho xd hd ?_;have hf:H2 s1.heap.objs.size=none:=I2.hok.fresh (GZ _);have hdl:d<s1.heap.objs.size:=G2 ho;have l2:=z.vx.length;rw[G8]at l2;have hz2:es.size=((xs.map λx=>V.ref x.2.1)).length:=by rw[hz];simp[prs];omega
 exact⟨s1.heap.objs.size,[s1.heap.objs.size],_,_,H2,rfl,I2.kept (t':=s1.toks) (λb o e=>GX _ e),rf d s1.heap.objs.size hd hz2 (λi v e hv he=>by
  obtain⟨w,hw⟩:∃w,ws[i]?=some w:=⟨ws[i]'(by have:=(Hv.mp hv).1;simp at this;omega),by simp⟩
  exact (hr i (v,w) e (List.getElem?_zip_eq_some.mpr ⟨hv,hw⟩) he).1) (Hl hdl),⟨_,G4 _ rfl,rfl,rfl⟩,λb hb=>by
  have e':b=s1.heap.objs.size:=by simpa using hb
  subst e';exact I2.fpOk (GZ _) hf,q⟩
theorem EF{to:St3->MH->VK3->XN->Prop}(ho:PE X o (low X.K cls E2 to)):PI X tg o (ka X.K cls E2 λσ M R E=>to σ M (λx M1=>match x with
  |.dit ks ds=>R (ks.map jH) (λ_=>True) M1
  |_=>False) E):=
 (Bo ho).imp λσ H R2 hl_=>ex9 hl_ λσ3 M R E3 rm ds lk h k=>aW rm ds lk h λv H1 x M1 dx rm1 t1 q1=>by
  cases x with
  |dit ks es=>
   obtain⟨d,vs,ob,xs,rfl,e,z,dl⟩:=dx;exact⟨d,ob,xs,ks,vs,rfl,e,z,k _ _ _ _ _ (wV e z) rm1 t1 q1⟩
  |_=>exact q1.elim
end
section
variable {X:Cx}{apos cpos:Pos}
end
structure Cfg where
 N:List Str
 sc:Scope
 fns:List (Option Str×Nat)
 exc:List Str
 kln:List Str
 gln:List Str
 xin:List (Nat×Nat)
 calm:Bool
 soft:Bool:=false
 own:Bool
 tr:Bool
 fn:Bool
 cel:List (Str×NameKind):=[]
noncomputable def glB(c:Cfg)(x:Str):Bool:=c.sc.names.lookup x == some .globalImplicit
noncomputable def AL(sc:Scope)(x:Str):Bool:=match sc.names.lookup x with
 |some .local=>true
 |some .cell=>true
 |some .free=>true
 |_=>false
noncomputable def wd(c:Cfg)(x:Str):Bool:=c.sc.names.lookup x == some .local||(c.fn&&c.sc.names.lookup x == some .cell)||(c.cel.lookup x == some .cell&&c.sc.names.lookup x == some .cell)
noncomputable def dN:Expr->Bool
 |.Starred ..=>false
 |_=>true
noncomputable def mD:Expr->Bool
 |.Set ..=>false
 |_=>true
noncomputable def kM:Expr->Bool
 |.ListComp ..=>false
 |.SetComp ..=>false
 |.DictComp ..=>false
 |_=>true
noncomputable def xf:Expr->Bool
 |.Tuple ..=>false
 |_=>true
noncomputable def lL:Expr->Bool
 |.Slice ..=>false
 |_=>true
noncomputable def xM:Expr->Bool
 |.Call ..=>false
 |_=>true
noncomputable def n8:Expr->Bool
 |.Call (.Name _ _) [] [] _=>false
 |_=>true
noncomputable def qa:Expr->Bool
 |.UnaryOp ..=>false
 |.BoolOp ..=>false
 |.IfExp ..=>false
 |.Compare ..=>false
 |_=>true
noncomputable def jw:BI->String
 |.len=>"len"|.max=>"max"|.min=>"min"|.list _=>"list"|.all=>"all"|.any=>"any"
noncomputable def ju:BM->String
 |.get=>"get"|.extend=>"extend"|.remove=>"remove"|.setdef=>"setdefault"
noncomputable def biNames:List Str:=["len","abs","max","min","str","list","tuple","isinstance","range","int","bool","dict","ValueError","enumerate","all","any","sum","zip","reversed","sorted"]
noncomputable def zd(sc osc:Scope):Scope:={sc with names:=sc.names.map λ(n,k)=>if (k == .free&&osc.kind == .function&&osc.names.lookup n == some .cell) then (n,.cell) else (n,k)}
noncomputable def Cfg.comp(c:Cfg)(N:List Str)(sc:Scope):Cfg:={c with N:=N,sc:=zd sc c.sc,soft:=false,own:=false,tr:=false,fn:=false,cel:=sc.names}
noncomputable def Cfg.trying(c:Cfg):Cfg:={c with own:=false}
noncomputable def Cfg.caught(c:Cfg)(b:Bool):Cfg:={c with calm:=false,soft:=b,own:=false,tr:=false}
noncomputable def sq:II->Bool
 |_=>false
noncomputable def biS:BI->Bool
 |_=>false
noncomputable def okG(c:Cfg):ITg->Expr->Bool
 |.name i,e=>match e with
  |.Name x _=>(c.N[i]? == some x)&&wd c x
  |_=>false
 |.tup is,e=>match e with
  |.Tuple es _ _=>c.calm&&bT c.N c.sc c.fn is es
  |_=>false
noncomputable def sk:II->Expr->Bool
 |.enum _,e=>match e with
  |.Tuple ..=>true
  |_=>false
 |.zip _ _,e=>match e with
  |.Tuple ..=>true
  |_=>false
 |.items _,e=>match e with
  |.Tuple ..=>true
  |_=>false
 |_,_=>true
mutual
noncomputable def okE:IE->Cfg->Expr->Bool
 |.var i,c,e=>match e with
  |.Name x _=>(c.N[i]? == some x)&&AL c.sc x&&!(x == ("__debug__" : Str))&&!(x == ("__classdict__" : Str))
  |_=>false
 |.con d,_,e=>match e with
  |.Constant k _ _=>match k,d with
   |.int i,.int j=>decide (i=j)
   |.bool i,.bl j=>decide (i=j)
   |.none,.non=>true
   |.str i,.str j=>decide (i=j)
   |_,_=>false
  |_=>false
 |.bin op a b,c,e=>match e with
  |.BinOp x op' y _=>decide (op=op')&&okE a c x&&okE b c y
  |_=>false
 |.neg a,c,e=>match e with
  |.UnaryOp op x _=>decide (op=.USub)&&okE a c x
  |_=>false
 |.cat _ a b,c,e=>match e with
  |.BinOp x op' y _=>decide (op'=.Add)&&okE a c x&&okE b c y
  |_=>false
 |.cmp op a b,c,e=>match e with
  |.Compare x [op'] [y] _=>decide (op=op')&&mD y&&okE a c x&&okE b c y
  |_=>false
 |.chain op1 op2 a b d,c,e=>match e with
  |.Compare x [op1',op2'] [y,z] _=>decide (op1=op1')&&decide (op2=op2')&&mD z&&okE a c x&&okE b c y&&okE d c z
  |_=>false
 |.and a b,c,e=>match e with
  |.BoolOp op (x::y::r) p=>decide (op=.And)&&okE a c x&&(match r with|[]=>okE b c y|_::_=>okE b c (.BoolOp .And (y::r) p))
  |_=>false
 |.or a b,c,e=>match e with
  |.BoolOp op (x::y::r) p=>decide (op=.Or)&&okE a c x&&(match r with|[]=>okE b c y|_::_=>okE b c (.BoolOp .Or (y::r) p))
  |_=>false
 |.not a,c,e=>match e with
  |.UnaryOp op x _=>decide (op=.Not)&&okE a c x
  |_=>false
 |.tup es,c,e=>match e with
  |.Tuple xs _ _=>okA es c xs
  |_=>false
 |.lst _ es,c,e=>match e with
  |.List xs _=>okA es c xs
  |_=>false
 |.frz a,c,e=>okE a c e
 |.ix a b,c,e=>match e with
  |.Subscript x y _=>lL y&&okE a c x&&okE b c y
  |_=>false
 |.sl _ a lo hi,c,e=>match e with
  |.Subscript x (.Slice l h none _) _=>okE a c x&&okO lo c l&&okO hi c h
  |_=>false
 |.call f es,c,e=>match e with
  |.Call (.Name x _) args [] _=>c.calm&&(match c.fns[f]? with|some p=>decide (some x=p.1)&&decide (args.length=p.2)|none=>false)&&glB c x&&!(x == ("__debug__" : Str))&&okA es c args
  |_=>false
 |.bi b es,c,e=>match e with
  |.Call (.Name x _) args [] _=>(c.calm||biS b)&&decide (x=(jw b:Str))&&glB c x&&!args.isEmpty&&okA es c args
  |_=>false
 |.isB a t,c,e=>match e with
  |.Call (.Name x _) [y,.Name z _] [] _=>decide (x=("isinstance" : Str))&&decide (z=(bX t:Str))&&glB c x&&glB c z&&dN y&&okE a c y
  |_=>false
 |.isC a k,c,e=>match e with
  |.Call (.Name x _) [y,.Name z _] [] _=>decide (x=("isinstance" : Str))&&(c.exc[k]? == some z)&&glB c x&&glB c z&&!(z == ("__debug__" : Str))&&dN y&&okE a c y
  |_=>false
 |.isV a,c,e=>match e with
  |.Call (.Name x _) [y,.Name z _] [] _=>decide (x=("isinstance" : Str))&&decide (z=("ValueError" : Str))&&glB c x&&glB c z&&dN y&&okE a c y
  |_=>false
 |.dctT a b,c,e=>match e with
  |.Dict [some x] [y] _=>okE a c x&&okE b c y
  |_=>false
 |.comp _ N js tg it cond elt,c,e=>match e with
  |.ListComp el [⟨tgE,iter,ifs,as⟩] scope _=>(c.calm||c.soft&&sq it)&&decide (as=0)&&sk it tgE&&mD iter&&eu N js scope c.sc c.N&&okI it c iter&&okG (c.comp N scope) tg tgE&&w5 cond (c.comp N scope) ifs&&okE elt (c.comp N scope) el
  |_=>false
 |.mmp a,c,e=>match e with
  |.Call (.Name x _) [y] [] _=>c.calm&&decide (x=("min" : Str))&&glB c x&&dN y&&okE a c y
  |_=>false
 |.fld a f,c,e=>match e with
  |.Attribute x m _=>decide (m=fnm f)&&n8 x&&okE a c x
  |_=>false
 |.make _ i es,c,e=>match e with
  |.Call (.Name x _) args [] _=>c.calm&&(c.kln[i]? == some x)&&glB c x&&!(x == ("__debug__" : Str))&&okA es c args
  |_=>false
 |.meth a m es,c,e=>match e with
  |.Call (.Attribute x n ap) args [] cp=>c.calm&&decide (n=fnm m)&&n8 x&&(ap.endLine == cp.line)&&decide (args.length<30)&&okE a c x&&okA es c args
  |_=>false
 |.ini i es,c,e=>match e with
  |.Call (.Attribute (.Name x _) n ap) args [] cp=>c.calm&&decide (n=("__init__" : Str))&&(c.kln[i]? == some x)&&glB c x&&!(x == ("__debug__" : Str))&&(ap.endLine == cp.line)&&decide (args.length<30)&&!args.isEmpty&&okA es c args
  |_=>false
 |.glo k,c,e=>match e with
  |.Name x _=>(c.gln[k]? == some x)&&glB c x&&!(x == ("__debug__" : Str))
  |_=>false
 |.bm b o es,c,e=>match e with
  |.Call (.Attribute x n ap) args [] cp=>decide (n=(ju b:Str))&&n8 x&&(ap.endLine == cp.line)&&decide (args.length<30)&&okE o c x&&okA es c args
  |_=>false
 |.dnew _,_,e=>match e with
  |.Dict [] [] _=>true
  |_=>false
noncomputable def okT:IT->Cfg->Expr->Bool
 |.val a,c,e=>qa e&&okE a c e
 |.cmp op a b,c,e=>match e with
  |.Compare x [op'] [y] _=>decide (op=op')&&mD y&&okE a c x&&okE b c y
  |_=>false
 |.chain op1 op2 a b d,c,e=>match e with
  |.Compare x [op1',op2'] [y,z] _=>decide (op1=op1')&&decide (op2=op2')&&mD z&&okE a c x&&okE b c y&&okE d c z
  |_=>false
 |.chain3 op1 op2 op3 a b d f,c,e=>match e with
  |.Compare x [op1',op2',op3'] [y,z,u] _=>decide (op1=op1')&&decide (op2=op2')&&decide (op3=op3')&&mD u&&okE a c x&&okE b c y&&okE d c z&&okE f c u
  |_=>false
 |.and a b,c,e=>match e with
  |.BoolOp op (x::y::r) p=>decide (op=.And)&&okT a c x&&(match r with|[]=>okT b c y|_::_=>okT b c (.BoolOp .And (y::r) p))
  |_=>false
 |.or a b,c,e=>match e with
  |.BoolOp op (x::y::r) p=>decide (op=.Or)&&okT a c x&&(match r with|[]=>okT b c y|_::_=>okT b c (.BoolOp .Or (y::r) p))
  |_=>false
 |.not a,c,e=>match e with
  |.UnaryOp op x _=>decide (op=.Not)&&okT a c x
  |_=>false
noncomputable def okA:IA->Cfg->List Expr->Bool
 |.nil,_,es=>es.isEmpty
 |.cons a r,c,es=>match es with
  |x::xs=>dN x&&okE a c x&&okA r c xs
  |[]=>false
noncomputable def okO:IO->Cfg->Option Expr->Bool
 |.no,_,o=>o.isNone
 |.yes a,c,o=>match o with
  |some x=>okE a c x
  |none=>false
noncomputable def w5:ITO->Cfg->List Expr->Bool
 |.no,_,es=>es.isEmpty
 |.yes t,c,es=>match es with
  |[x]=>okT t c x
  |_=>false
noncomputable def okI:II->Cfg->Expr->Bool
 |.seq a,c,e=>okE a c e
 |.enum a,c,e=>match e with
  |.Call (.Name x _) [y] [] _=>decide (x=("enumerate" : Str))&&glB c x&&dN y&&okE a c y
  |_=>false
 |.zip a b,c,e=>match e with
  |.Call (.Name x _) [y,z] [] _=>decide (x=("zip" : Str))&&glB c x&&dN y&&dN z&&okE a c y&&okE b c z
  |_=>false
 |.items a,c,e=>match e with
  |.Call (.Attribute x n ap) [] [] cp=>decide (n=("items" : Str))&&n8 x&&(ap.endLine == cp.line)&&okE a c x
  |_=>false
 |.dk a,c,e=>okE a c e
 |.rng1 a,c,e=>match e with
  |.Call (.Name x _) [y] [] _=>decide (x=("range" : Str))&&glB c x&&dN y&&okE a c y
  |_=>false
end
noncomputable def swB(c:Cfg)(scope:Scope)(x:Str)(l1 l2:Nat):Bool:=c.sc.kind == .function&&c.sc.names.lookup x == some .local&&l1 == l2&&!(scope.names.any λ(n,k)=>n == x&&(k == .local||k == .cell))
mutual
noncomputable def okS:IS->Cfg->Stmt->Bool
 |.set i a,c,s=>match s with
  |.Assign [.Name x px] e _=>(c.N[i]? == some x)&&wd c x&&okE a c e&&(kM e||match e,a with
   |.ListComp _ _ scope pos,.comp ..=>swB c scope x px.line pos.line||c.sc.names.lookup x == some .cell
   |_,_=>false)
  |_=>false
 |.unp is a,c,s=>match s with
  |.Assign [.Tuple es _ _] e _=>c.calm&&bT c.N c.sc c.fn is es&&xf e&&kM e&&okE a c e
  |_=>false
 |.expr a,c,s=>match s with
  |.Expr e _=>kM e&&okE a c e
  |_=>false
 |.ret a,c,s=>match s with
  |.Return (some e) _=>okE a c e
  |_=>false
 |.ifs t a b,c,s=>match s with
  |.If x y z _=>okT t c x&&iF a c y&&iF b c z
  |_=>false
 |.for_ tg it body,c,s=>match s with
  |.For tgE iter b [] _=>c.own&&sk it tgE&&c.calm&&mD iter&&okG c tg tgE&&okI it c iter&&iF body c b
  |_=>false
 |.raise k es,c,s=>match s with
  |.Raise (some (.Call (.Name x _) args [] _)) none _=>(c.xin.lookup k).isNone&&c.own&&c.calm&&(c.exc[k]? == some x)&&glB c x&&!(x == ("__debug__" : Str))&&!args.isEmpty&&okA es c args
  |_=>false
 |.tryE body hs el,c,s=>match s with
  |.Try b handlers e [] _=>c.tr&&!handlers.isEmpty&&iF body c.trying b&&tP hs c handlers&&iF el c e
  |_=>false
 |.app o a,c,s=>match s with
  |.Expr (.Call (.Attribute x m ap) [y] [] cp) _=>decide (m=("append" : Str))&&xM x&&(ap.endLine == cp.line)&&dN y&&okE o c x&&okE a c y
  |_=>false
 |.del _,_,_=>false
 |.dead,_,_=>true
 |.fset o f a,c,s=>match s with
  |.Assign [.Attribute x m _] v _=>decide (m=fnm f)&&kM v&&okE o c x&&okE a c v
  |_=>false
 |.ixset o i a,c,s=>match s with
  |.Assign [.Subscript x y _] v _=>lL y&&kM v&&okE o c x&&okE i c y&&okE a c v
  |_=>false
noncomputable def iF:ISs->Cfg->List Stmt->Bool
 |.nil,_,sts=>sts.isEmpty
 |.cons s r,c,sts=>match s with
  |.del _=>iF r c sts
  |s=>match sts with
   |st::az=>okS s c st&&iF r c az
   |[]=>false
noncomputable def tP:IHs->Cfg->List ExceptHandler->Bool
 |.nil,_,hs=>hs.isEmpty
 |.cons k nm body r,c,hs=>match hs with
  |.ExceptHandler (some (.Name x _)) nmE bodyE _::az=>(c.exc[k]? == some x)&&glB c x&&!(x == ("__debug__" : Str))&&(match nm,nmE with
   |none,none=>true
   |some j,some n=>(c.N[j]? == some n)&&c.sc.names.lookup n == some .local
   |_,_=>false)&&!bodyE.isEmpty&&iF body (c.caught nm.isSome) bodyE&&tP r c az
  |_=>false
end
structure Good (c:Cfg)(W:WC)(X:Cx)(E2:St->XK):Prop where
 N:X.N=c.N
 nd:c.N.Nodup
 sc:X.env.scope=c.sc
 un:X.A.units+64<cLine
 calm:c.calm=true->X.calm=true
 soft:c.soft=true->HdA X
 fnx:c.fn=true->∀x,X.fn x=true
 cel:∀x,c.cel.lookup x=some .cell->X.fn x=true
 own:c.own=true->PassesOwn (model X.prog X.w) X.A X.env X.xe/\∃E,(E2=λ_=>E)/\lR X E/\qy X E/\Room 2 X.A/\tN X E
 tr:c.tr=true->X.stack=X.env::X.outer/\X.env.frame=some X.env.locals/\X.ex=[]
 fns:c.calm=true->∃k,Room (k+1) X.A/\∀f,f<c.fns.length->rY X W.cls k (W.fad f) (W.call f)
 fnn:∀f x n,c.fns[f]?=some (some x,n)->X.mg x=some (.ref (W.fad f))
 kok:∀i,i<W.nk->KOk X.K W.toWB W.fad i
 kin:∀i,i<W.nk->∃f,W.ini i=some f
 kfi:∀i f,i<W.nk->W.ini i=some f->f<c.fns.length
 kfm:∀i m f,i<W.nk->W.mth i m=some f->f<c.fns.length
 knm:∀i x,c.kln[i]?=some x->X.mg x=some (.ref (W.kls i))/\i<W.nk
 glo:∀k x,c.gln[k]?=some x->∃u v,X.mg x=some u/\RelV v u/\vT X.K X.w.params (W.glo k) v
 exc:∀i x,c.exc[i]?=some x->X.mg x=some (.ref (W.cls i))/\(c.xin.lookup i=none->wX X.K (W.cls i))/\∀j,j<W.ne->PySem.W.exmOne X.K (.ref (W.cls j)) (.ref (W.cls i))=some (W.sub j i)
 exi:∀i,i<W.ne->ExcI X.K (W.cls i)/\PySem.W.kitOne X.K (.ref (W.cls i)) (.type "ValueError")=some true/\∀j x,c.exc[j]?=some x->PySem.W.kitOne X.K (.ref (W.cls i)) (.ref (W.cls j))=some (W.sub i j)
 xi:∀i f,c.xin.lookup i=some f->W.xin i=some f/\∃fI fd ps,XIni X.K (W.cls i) fI (fnm f)/\Binds X.K fd ps []/\FnOk X.prog X.w X.K X.mg X.base (CX1 X.prog X.w) 1 fI fd ps (nV (cpF f) X.K (W.cls i) (fnm f))
 xn:∀i f,i<W.ne->W.xin i=some f->NoAttr X.K (W.cls i) (fnm f)
 bi:∀x∈biNames,X.mg x=none
 dig:yb X.K
 pass:aQ (CX1 X.prog X.w) X E2
section
variable {c:Cfg}{X:Cx}
theorem Good.gl(G:Good c W X E2)(h:glB c x=true):Gl X x:=by
 show X.env.scope.names.lookup x=_;rw[G.sc];exact Hb.mp h
theorem Good.loc(G:Good c W X E2)(h:wd c x=true):Loc X.env.scope x/\(X.fn x=true\/X.env.scope.names.lookup x=some .local):=by
 unfold wd at h;rw[G.sc];simp only[Bool.or_eq_true,GS,Hb]at h;rcases h with (h|⟨h1,h2⟩)|⟨h1,h2⟩
 ·exact⟨.inl h,.inr h⟩
 ·exact⟨.inr h2,.inl (G.fnx h1 x)⟩
 ·exact⟨.inr h2,.inl (G.cel x h1)⟩
theorem Good.vis(G:Good c W X E2)(h:AL c.sc x=true):Vis X.env.scope x:=by
 rw[G.sc];unfold AL at h;split at h
 ·exact .inl (by assumption)
 ·exact .inr (.inl (by assumption))
 ·exact .inr (.inr (by assumption))
 ·cases h
theorem Good.at{i:Nat}{x:Str}(G:Good c W X E2)(h:(c.N[i]? == some x)=true):X.N[i]?=some x:=by rw[G.N];exact Hb.mp h
theorem Good.ndX(G:Good c W X E2):X.N.Nodup:=by rw[G.N];exact G.nd
theorem Good.names(G:Good c W X E2)(h:bT c.N c.sc c.fn is es=true):bT X.N X.env.scope c.fn is es=true:=by rw[G.N,G.sc];exact h
theorem Good.trying(G:Good c W X E2)(h:aQ (CX1 X.prog X.w) (X.tryX pn V') E2'):Good c.trying W (X.tryX pn V') E2':=
 ⟨G.N,G.nd,G.sc,G.un,G.calm,G.soft,G.fnx,G.cel,(λz=>nomatch z),G.tr,G.fns,G.fnn,G.kok,G.kin,G.kfi,G.kfm,G.knm,G.glo,G.exc,G.exi,G.xi,G.xn,G.bi,G.dig,h⟩
theorem oV:aQ (CX1 P w) X no2:=λ_ _ _ _ _ _ _ h=>by
 obtain⟨_,_,_,_,_,_,_,_,_,_,_,_,_,he⟩:=h;exact he.elim
theorem Good.caught(G:Good c W X E2)(v:Value):Good (c.caught false) W (X.marked v) no2:=
 ⟨G.N,G.nd,G.sc,G.un,(λz=>nomatch z),(λz=>nomatch z),G.fnx,G.cel,(λz=>nomatch z),(λz=>nomatch z),(λz=>nomatch z),G.fnn,G.kok,G.kin,G.kfi,G.kfm,G.knm,G.glo,G.exc,G.exi,G.xi,G.xn,G.bi,G.dig,oV⟩
theorem Good.caughtS(G:Good c W X E2)(a:Addr)(o:Obj)(u:HO)(l:nF o):Good (c.caught true) W (X.markedS a o u) no2:=
 ⟨G.N,G.nd,G.sc,G.un,(λz=>nomatch z),λ_=>.inr ⟨a,o,u,rfl,ae,l⟩,G.fnx,G.cel,(λz=>nomatch z),(λz=>nomatch z),(λz=>nomatch z),G.fnn,G.kok,G.kin,G.kfi,G.kfm,G.knm,G.glo,G.exc,G.exi,G.xi,G.xn,G.bi,G.dig,oV⟩
theorem Good.qt(G:Good c W X E2)(h:(c.calm||c.soft&&b)=true):Qt b X:=by
 rw[Bool.or_eq_true,GS]at h;cases b with
 |false=>exact h.elim G.calm λz=>nomatch z.2
 |true=>exact h.elim (λz=>.inl (G.calm z)) λz=>G.soft z.1
theorem Good.comp(G:Good c W X E2){N:List Str}{js:List (Option Nat)}{scope:Scope}(h:eu N js scope c.sc c.N=true)(C:Addr)(s2:Shared)(H2:Hp)(fp:List Addr)(pn:List (Addr×Obj)):Good (c.comp N scope) W (compCx X scope C N s2 H2 fp pn) no2:=by
 have hc:=lm h;refine⟨rfl,hc.nd,?_,G.un,G.calm,(λz=>nomatch z),(λz=>nomatch z),(λx z=>Hb.mpr z),(λz=>nomatch z),(λz=>nomatch z),G.fns,G.fnn,G.kok,G.kin,G.kfi,G.kfm,G.knm,G.glo,G.exc,G.exi,G.xi,G.xn,G.bi,G.dig,oV⟩
 show relabel scope X.env=zd scope c.sc;unfold relabel zd;rw[<-G.sc];rfl
end
theorem bC(h:dN e=true):starEach (e::es) env=(false,eval e env)::starEach es env:=by
 cases e<;>first|rfl|cases h
theorem vc(h:mD e=true):∀x,foldedSetIterable e env x=pure x:=by
 intro x;cases e<;>first|rfl|cases h
theorem fZ(h:mD e=true):behindInMarks op e=false:=by
 cases e<;>first|rfl|cases h
theorem jS(h:kM e=true):swapsWith e t n env=pure false:=by
 cases e<;>first|rfl|cases h
theorem rP{e:Expr}(h:qa e=true):∀whole,isTrue e env whole=(do let v<-whole;standAt e.pos;holding [v] (truthy v)):=by
 intro whole;cases e<;>first|rfl|cases h
theorem wz(h:lL e=true):mn e:=by
 intro o i;cases e<;>first|rfl|cases h
theorem zR{e:Expr}{m:Str}{env:Env}{whole:Sem Value}(h:xM e=true):attributeBase e m env whole=whole:=by
 cases e<;>first|rfl|cases h
theorem eW{e:Expr}{m:Str}{env:Env}{whole:Sem Value}(h:n8 e=true):attributeBase e m env whole=whole:=by
 cases e with
 |Call f as ks p=>
  cases f with
  |Name x px=>
   cases as with
   |nil=>
    cases ks with
    |nil=>cases h
    |cons _ _=>rfl
   |cons _ _=>rfl
  |_=>rfl
 |_=>rfl
theorem zO(h:lL i=true):∀v,assign (.Subscript o i p) env v=(do
   let ov<-holding [v] (eval o env)
   let iv<-holding [v,ov] (eval i env)
   standAt p
   holding [v,ov,iv] (setItem ov iv v)
   release [v,ov,iv] []):=by
 intro v;cases i<;>first|rfl|cases h
theorem ue(h:xf e=true):swappedStores [.Tuple es k p] e env=pure none:=by
 cases e<;>first|rfl|cases h
theorem cM(pos:Pos):∀{r:IA}{c:Cfg}{es:List Expr}{env:Env},okA r c es=true->(backTo pos (starEach es env)).any (·.1)=false
 |.nil,c,es,env,h=>by
  simp only[okA]at h;cases es with
  |nil=>rfl
  |cons _ _=>cases h
 |.cons a r,c,es,env,h=>by
  cases es with
  |nil=>simp[okA]at h
  |cons x xs=>
   simp only[okA,GS]at h;rw[bC h.1.1];show (false||(backTo pos (starEach xs env)).any (·.1))=false
   rw[cM pos h.2];rfl
theorem xR(h:PE X a t):PE X (.BoolOp op [a] pos) t:=yY h
theorem yL(b:BI):((jw b:String):Str)∈biNames:=by
 cases b with
 |list fz=>cases fz<;>decide +kernel
 |_=>decide +kernel
theorem z8(t:BT):((bX t:String):Str)∈biNames:=by cases t<;>decide +kernel
theorem wZ{X:Cx}(hu:X.A.units+64<cLine)(hc:biS b=false->X.calm=true)(hd:yb X.K)(hg:Gl X (jw b:String))(hm:X.mg (jw b:String)=none)(ha:PA X (e::es) (dI X.K cls E2 tr))
  (he:starEach (e::es) X.env=(false,eval e X.env)::starEach es X.env) (hpl:(backTo pos (starEach es X.env)).any (·.1)=false):PE X (.Call (.Name (jw b:String) p) (e::es) [] pos) (low X.K cls E2 λσ M Q E=>tr σ M (λxs M1=>rBi b xs M1 Q) E):=by
 cases b with
 |len=>exact gz AI hg hm (by decide +kernel) ha (by decide +kernel) (by decide +kernel) he hpl
 |max=>exact gz (zS (hc rfl)) hg hm (by decide +kernel) ha (by decide +kernel) (by decide +kernel) he hpl
 |min=>exact gz (AK (hc rfl)) hg hm (by decide +kernel) ha (by decide +kernel) (by decide +kernel) he hpl
 |list fz=>exact vJ (wW fz (hc rfl)) hg hm (by cases fz<;>decide +kernel) ha (by cases fz<;>decide +kernel) (by cases fz<;>decide +kernel) he hpl
 |all=>exact gz (xS true (hc rfl)) hg hm (by decide +kernel) ha (by decide +kernel) (by decide +kernel) he hpl
 |any=>exact gz (xS false (hc rfl)) hg hm (by decide +kernel) ha (by decide +kernel) (by decide +kernel) he hpl
theorem wj{X:Cx}{apos pos:Pos}(hu:X.A.units+64<cLine)(ho:PE X o (low X.K cls E2 to))(ha:PA X (e::es) (dI X.K cls E2 tr))
  (hb:attributeBase o (ju b:String) X.env (eval o X.env)=eval o X.env) (hn:(e::es).length<30) (hl:(apos.endLine == pos.line)=true) (he:starEach (e::es) X.env=(false,eval e X.env)::starEach es X.env) (hpl:(backTo pos (starEach es X.env)).any (·.1)=false) :
  PE X (.Call (.Attribute o (ju b:String) apos) (e::es) [] pos) (low X.K cls E2 λσ M Q E=>to σ M (λx M1=>tyB b x M1=true/\tr σ M1 (λxs M2=>rBm b x xs M2 Q) E) E):=by
 cases b with
 |get=>exact wC PySem.F.plainAttrs_dict PySem.F.slot_dict_get PySem.F.type_dict_get (tG hu) lK ho ha hb hn hl he hpl
 |extend=>exact wC PySem.F.plainAttrs_list PySem.F.slot_list_extend PySem.F.type_list_extend kI fV ho ha hb hn hl he hpl
 |remove=>exact wC PySem.F.plainAttrs_list PySem.F.slot_list_remove PySem.F.type_list_remove (kz hu) fV ho ha hb hn hl he hpl
 |setdef=>exact wC PySem.F.plainAttrs_dict PySem.F.slot_dict_setdefault PySem.F.type_dict_setdefault ll oq ho ha hb hn hl he hpl
theorem sR{X:Cx}{apos pos:Pos}(hu:X.A.units+64<cLine)(ho:PE X o (low X.K cls E2 to))
  (hb:attributeBase o (ju b:String) X.env (eval o X.env)=eval o X.env) (hl:(apos.endLine == pos.line)=true) :
  PE X (.Call (.Attribute o (ju b:String) apos) [] [] pos) (low X.K cls E2 λσ M Q E=>to σ M (λx M1=>tyB b x M1=true/\rBm b x [] M1 Q) E):=by
 cases b with
 |get=>exact pV PySem.F.plainAttrs_dict PySem.F.slot_dict_get PySem.F.type_dict_get (tG hu) lK ho hb hl
 |extend=>exact pV PySem.F.plainAttrs_list PySem.F.slot_list_extend PySem.F.type_list_extend kI fV ho hb hl
 |remove=>exact pV PySem.F.plainAttrs_list PySem.F.slot_list_remove PySem.F.type_list_remove (kz hu) fV ho hb hl
 |setdef=>exact pV PySem.F.plainAttrs_dict PySem.F.slot_dict_setdefault PySem.F.type_dict_setdefault ll oq ho hb hl
theorem cQ(h:okA (.cons a r) c es=true):∃x xs,es=x::xs/\dN x=true/\okE a c x=true/\okA r c xs=true:=by
 cases es with
 |nil=>simp[okA]at h
 |cons x xs=>
  simp only[okA,GS]at h;exact⟨x,xs,rfl,h.1.1,h.1.2,h.2⟩
noncomputable def D6:IT->Bool
 |.and _ _=>true
 |.or _ _=>true
 |_=>false
section
variable {W:WC}
theorem sG:∀(tg:ITg) {c:Cfg}{e:Expr}{X:Cx}{E2:St->XK},okG c tg e=true->Good c W X E2->PG X e (r0 X.K (wpG tg))
 |.name i,c,e,X,E2,h,G=>by
  simp only[okG]at h;split at h
  ·simp only[GS]at h;obtain⟨l1,l2⟩:=G.loc h.2;exact Af G.ndX (G.at h.1) l1 l2
  ·cases h
 |.tup is,c,e,X,E2,h,G=>by
  simp only[okG]at h;split at h
  ·simp only[GS]at h;exact xC (G.calm h.1) G.ndX G.fnx (G.names h.2)
  ·cases h
mutual
theorem sE:∀(ie:IE) {c:Cfg}{e:Expr}{X:Cx}{E2:St->XK},okE ie c e=true->Good c W X E2->PE X e (low X.K W.cls E2 (wpE W ie))
 |.var i,c,e,X,E2,h,G=>by
  unfold okE at h;split at h
  ·simp only[GS,Bool.not_eq_true']at h;exact CS (G.at h.1.1.1) (G.vis h.1.1.2) h.1.2 h.2
  ·cases h
 |.con d,c,e,X,E2,h,G=>by
  unfold okE at h;split at h
  ·split at h
   ·cases Ig h;exact mG yE λ_=>rfl
   ·cases Ig h;exact mG CG λ_=>rfl
   ·exact mG zz λ_=>rfl
   ·cases Ig h;exact mG tX λ_=>rfl
   ·cases h
  ·cases h
 |.bin op a b,c,e,X,E2,h,G=>by
  unfold okE at h;split at h
  ·simp only[GS,G1]at h;obtain⟨⟨rfl,h1⟩,h2⟩:=h;exact CF (zA op) (sE a h1 G) (sE b h2 G)
  ·cases h
 |.neg a,c,e,X,E2,h,G=>by
  unfold okE at h;split at h
  ·simp only[GS,G1]at h;obtain⟨rfl,h1⟩:=h;exact ED (ta:=wpE W a) (r:=rNeg) Am (sE a h1 G)
  ·cases h
 |.cat fz a b,c,e,X,E2,h,G=>by
  unfold okE at h;split at h
  ·simp only[GS,G1]at h;obtain⟨⟨rfl,h1⟩,h2⟩:=h;exact CB (sE a h1 G) (sE b h2 G)
  ·cases h
 |.cmp op a b,c,e,X,E2,h,G=>by
  unfold okE at h;split at h
  ·simp only[GS,G1]at h;obtain⟨⟨⟨rfl,h0⟩,h1⟩,h2⟩:=h;exact Bw (dE G.un op) (sE a h1 G) (sE b h2 G) (fZ h0)
  ·cases h
 |.chain op1 op2 a b d,c,e,X,E2,h,G=>by
  unfold okE at h;split at h
  ·simp only[GS,G1]at h;obtain⟨⟨⟨⟨⟨rfl,rfl⟩,h0⟩,h1⟩,h2⟩,h3⟩:=h;exact xp (dE G.un op1) (dE G.un op2) (sE a h1 G) (sE b h2 G) (sE d h3 G) (fZ h0)
  ·cases h
 |.and a b,c,e,X,E2,h,G=>by
  unfold okE at h;split at h
  ·rename_i op x y r p;simp only[GS,G1]at h;obtain⟨⟨rfl,h1⟩,h2⟩:=h;cases r with
   |nil=>exact xT (sE a h1 G) (xR (sE b h2 G))
   |cons z r=>exact xT (sE a h1 G) (sE b h2 G)
  ·cases h
 |.or a b,c,e,X,E2,h,G=>by
  unfold okE at h;split at h
  ·rename_i op x y r p;simp only[GS,G1]at h;obtain⟨⟨rfl,h1⟩,h2⟩:=h;cases r with
   |nil=>exact Bv (sE a h1 G) (xR (sE b h2 G))
   |cons z r=>exact Bv (sE a h1 G) (sE b h2 G)
  ·cases h
 |.not a,c,e,X,E2,h,G=>by
  unfold okE at h;split at h
  ·simp only[GS,G1]at h;obtain⟨rfl,h1⟩:=h;exact BV (sE a h1 G)
  ·cases h
 |.tup es,c,e,X,E2,h,G=>by
  unfold okE at h;split at h
  ·exact B6 (sA es h G)
  ·cases h
 |.lst fz es,c,e,X,E2,h,G=>by
  unfold okE at h;split at h
  ·exact CQ (sA es h G)
  ·cases h
 |.frz a,c,e,X,E2,h,G=>by
  unfold okE at h;exact AR (sE a h G)
 |.ix a b,c,e,X,E2,h,G=>by
  unfold okE at h;split at h
  ·simp only[GS]at h;exact E7 G.un (sE a h.1.2 G) (sE b h.2 G) (wz h.1.1)
  ·cases h
 |.sl fz a lo hi,c,e,X,E2,h,G=>by
  unfold okE at h;split at h
  ·simp only[GS]at h;exact EJ (sE a h.1.1 G) (sO lo h.1.2 G) (sO hi h.2 G)
  ·cases h
 |.call f es,c,e,X,E2,h,G=>by
  unfold okE at h;split at h
  ·rename_i x px args pos;simp only[GS,Bool.not_eq_true']at h;obtain⟨⟨⟨⟨h0,h1⟩,h2⟩,h3⟩,h4⟩:=h;split at h1
   ·rename_i p hp;simp only[GS,G1]at h1;obtain⟨h1,_⟩:=h1;obtain⟨p1,p2⟩:=p;cases h1;obtain⟨k,hr,hF⟩:=G.fns h0;obtain⟨fd,ps,sp0,m2,m3,m5⟩:=hF f (Hv.mp hp).1;have m1:=G.fnn f x p2 hp;have m4:=hr.mono (Ia k);have hA:=sA es h4 G;cases args with
    |nil=>
     cases es with
     |nil=>exact wt m5 m4 (G.gl h2) m1 m2 m3 G.pass h3
     |cons _ _=>simp[okA]at h4
    |cons z zs=>
     cases es with
     |nil=>simp[okA]at h4
     |cons ea er=>
      obtain⟨_,_,e1,n1,_,n3⟩:=cQ h4;cases e1;exact zk m5 m4 (G.gl h2) m1 m2 m3 G.pass hA h3 (bC n1) (cM _ n3)
   ·cases h1
  ·cases h
 |.bi b es,c,e,X,E2,h,G=>by
  unfold okE at h;split at h
  ·rename_i x px args pos;simp only[GS,G1]at h;obtain⟨⟨⟨⟨h0,rfl⟩,h2⟩,h3⟩,h4⟩:=h;have hA:=sA es h4 G;cases args with
   |nil=>cases h3
   |cons z zs=>
    cases es with
    |nil=>simp[okA]at h4
    |cons ea er=>
     obtain⟨_,_,e1,n1,_,n3⟩:=cQ h4;cases e1;exact wZ G.un (λz=>G.calm (by rw[z,Bool.or_false]at h0;exact h0)) G.dig (G.gl h2) (G.bi _ (yL b)) hA (bC n1) (cM _ n3)
  ·cases h
 |.isB a t,c,e,X,E2,h,G=>by
  unfold okE at h;split at h
  ·simp only[GS,G1]at h;obtain⟨⟨⟨⟨⟨rfl,rfl⟩,h2⟩,h3⟩,h4⟩,h5⟩:=h;exact CY (sE a h5 G) (G.gl h2) (G.bi _ (by decide +kernel)) (G.gl h3) (G.bi _ (z8 t)) (bC h4)
  ·cases h
 |.isC a k,c,e,X,E2,h,G=>by
  unfold okE at h;split at h
  ·simp only[GS,G1,Hb,Bool.not_eq_true']at h;obtain⟨⟨⟨⟨⟨⟨rfl,h1⟩,h2⟩,h3⟩,h4⟩,h5⟩,h6⟩:=h;exact Cz (sE a h6 G) (G.gl h2) (G.bi _ (by decide +kernel)) (G.gl h3) (G.exc _ _ h1).1 h4 (λi hi=>⟨(G.exi i hi).1,(G.exi i hi).2.2 _ _ h1⟩) (bC h5)
  ·cases h
 |.isV a,c,e,X,E2,h,G=>by
  unfold okE at h;split at h
  ·simp only[GS,G1]at h;obtain⟨⟨⟨⟨⟨rfl,rfl⟩,h2⟩,h3⟩,h5⟩,h6⟩:=h;exact By (sE a h6 G) (G.gl h2) (G.bi _ (by decide +kernel)) (G.gl h3) (G.bi _ (by decide +kernel)) (λi hi=>⟨(G.exi i hi).1,(G.exi i hi).2.1⟩) (bC h5)
  ·cases h
 |.dctT a b,c,e,X,E2,h,G=>by
  unfold okE at h;split at h
  ·simp only[GS]at h;exact Ac G.un (sE a h.1 G) (sE b h.2 G)
  ·cases h
 |.comp fz N js tg it cond elt,c,e,X,E2,h,G=>by
  unfold okE at h;split at h
  ·simp only[GS,G1]at h;obtain⟨⟨⟨⟨⟨⟨⟨⟨h0,rfl⟩,ht⟩,h1⟩,h2⟩,h3⟩,h4⟩,h5⟩,h6⟩:=h;have hok:=h2;rw[<-G.sc,<-G.N]at hok;exact zn hok (G.qt h0) (sI it h3 G ht) (λC s2 H2 fp pn=>sG tg h4 (G.comp h2 C s2 H2 fp pn)) (λC s2 H2 fp pn=>sTO cond h5 (G.comp h2 C s2 H2 fp pn)) (λC s2 H2 fp pn=>sE elt h6 (G.comp h2 C s2 H2 fp pn)) (vc h1) fz
  ·cases h
 |.mmp a,c,e,X,E2,h,G=>by
  unfold okE at h;split at h
  ·simp only[GS,G1]at h;obtain⟨⟨⟨⟨h0,rfl⟩,h1⟩,h2⟩,h3⟩:=h;exact C0 (G.calm h0) G.un (sE a h3 G) (G.gl h1) (G.bi _ (by decide +kernel)) (bC h2)
  ·cases h
 |.fld a f,c,e,X,E2,h,G=>by
  unfold okE at h;split at h
  ·simp only[GS,G1]at h;obtain⟨⟨rfl,h1⟩,h2⟩:=h;exact CL G.kok (sE a h2 G) (eW h1)
  ·cases h
 |.make fz i es,c,e,X,E2,h,G=>by
  unfold okE at h;split at h
  ·rename_i x px args pos;simp only[GS,Bool.not_eq_true']at h;obtain⟨⟨⟨⟨h0,h1⟩,h2⟩,h3⟩,h4⟩:=h;obtain⟨m1,hi⟩:=G.knm i x (Hb.mp h1);obtain⟨k,hr,hF⟩:=G.fns h0;have hA:=sA es h4 G;cases q:W.ini i with
   |none=>exact absurd q (by obtain⟨f,hf⟩:=G.kin i hi;rw[hf];exact λz=>nomatch z)
   |some f=>
    have F:=hF f (G.kfi i f hi q);cases args with
    |nil=>
     cases es with
     |nil=>exact (xc (B:=W.toWB) (fz:=fz) (G.gl h2) m1 h3 ((G.kok i hi).mkr f q) F hr G.pass).imp λσ H Q2 hl_=>ex9 hl_ λσ3 M Q E3 rm ds lk hh back=>⟨σ3,M,Q,E3,rm,ds,lk,by simp only[wpE,wpA,q,fX]at hh;exact hh.2,back⟩
     |cons _ _=>simp[okA]at h4
    |cons z zs=>
     cases es with
     |nil=>simp[okA]at h4
     |cons ea er=>
      obtain⟨_,_,e1,n1,_,n3⟩:=cQ h4;cases e1;have hA2:PA X (z::zs) (dI X.K W.cls E2 λσ M Q E=>wpA W (.cons ea er) σ M (λxs M1=>i<W.nk/\Q xs M1) E):=hA.imp λσ H Q2 hl_=>ex9 hl_ λσ3 M Q E3 rm ds lk hh back=>⟨σ3,M,_,E3,rm,ds,lk,hh,λvs H' xs M' a b c d=>back vs H' xs M' a b c d.2⟩
      exact (ze (B:=W.toWB) (fz:=fz) (G.gl h2) m1 h3 ((G.kok i hi).mkr f q) F hr G.pass hA2 (bC n1) (cM _ n3)).imp λσ H Q2 hl_=>ex9 hl_ λσ3 M Q E3 rm ds lk hh back=>⟨σ3,M,Q,E3,rm,ds,lk,by simp only[wpE,q,fX]at hh;exact hh,back⟩
  ·cases h
 |.meth a m es,c,e,X,E2,h,G=>by
  unfold okE at h;split at h
  ·rename_i x n ap args cp;simp only[GS,G1]at h;obtain⟨⟨⟨⟨⟨⟨h0,rfl⟩,h1⟩,h2⟩,h3⟩,h4⟩,h5⟩:=h;obtain⟨k,hr,hF⟩:=G.fns h0;have hA:=sA es h5 G;cases args with
   |nil=>
    cases es with
    |nil=>exact xj (B:=W.toWB) G.kok (λi m f hi q=>hF f (G.kfm i m f hi q)) (hr.mono (Ia k)) G.pass (sE a h4 G) (eW h1) h2
    |cons _ _=>simp[okA]at h5
   |cons z zs=>
    cases es with
    |nil=>simp[okA]at h5
    |cons ea er=>
     obtain⟨_,_,e1,n1,_,n3⟩:=cQ h5;cases e1;exact yU (B:=W.toWB) G.kok (λi m f hi q=>hF f (G.kfm i m f hi q)) (hr.mono (Ia k)) G.pass (sE a h4 G) hA (eW h1) h2 h3 (bC n1) (cM _ n3)
  ·cases h
 |.ini i es,c,e,X,E2,h,G=>by
  unfold okE at h;split at h
  ·rename_i x px n ap args cp;simp only[GS,G1,Bool.not_eq_true']at h;obtain⟨⟨⟨⟨⟨⟨⟨⟨h0,rfl⟩,h1⟩,h2⟩,h3⟩,h4⟩,h5⟩,h6⟩,h7⟩:=h;obtain⟨m1,hi⟩:=G.knm i x (Hb.mp h1);obtain⟨k,hr,hF⟩:=G.fns h0;have hA:=sA es h7 G;cases args with
   |nil=>cases h6
   |cons z zs=>
    cases es with
    |nil=>simp[okA]at h7
    |cons ea er=>
     obtain⟨_,_,e1,n1,_,n3⟩:=cQ h7;cases e1;cases q:W.ini i with
     |none=>exact absurd q (by obtain⟨f,hf⟩:=G.kin i hi;rw[hf];exact λz=>nomatch z)
     |some f=>
      have hA2:PA X (z::zs) (dI X.K W.cls E2 λσ M Q E=>wpA W (.cons ea er) σ M (λxs M1=>i<W.nk/\Q xs M1) E):=hA.imp λσ H Q2 hl_=>ex9 hl_ λσ3 M Q E3 rm ds lk hh back=>⟨σ3,M,_,E3,rm,ds,lk,hh,λvs H' xs M' a b c d=>back vs H' xs M' a b c d.2⟩
      exact (C1 (B:=W.toWB) (G.gl h2) m1 h3 ((G.kok i hi).ci f q) (hF f (G.kfi i f hi q)) (hr.mono (Ia k)) G.pass hA2 h4 h5 (bC n1) (cM _ n3)).imp λσ H Q2 hl_=>ex9 hl_ λσ3 M Q E3 rm ds lk hh back=>⟨σ3,M,Q,E3,rm,ds,lk,by simp only[wpE,q,fX]at hh;exact hh,back⟩
  ·cases h
 |.glo k,c,e,X,E2,h,G=>by
  unfold okE at h;split at h
  ·rename_i x px;simp only[GS,Bool.not_eq_true']at h;obtain⟨u,v,m1,r,hd⟩:=G.glo k x (Hb.mp h.1.1);exact zJ (G.gl h.1.2) m1 r h.2 hd
  ·cases h
 |.bm b o es,c,e,X,E2,h,G=>by
  unfold okE at h;split at h
  ·rename_i x n ap args cp;simp only[GS,G1]at h;obtain⟨⟨⟨⟨⟨rfl,h1⟩,h2⟩,h3⟩,h4⟩,h5⟩:=h;have hA:=sA es h5 G;cases args with
   |nil=>
    cases es with
    |nil=>exact sR G.un (sE o h4 G) (eW h1) h2
    |cons _ _=>simp[okA]at h5
   |cons z zs=>
    cases es with
    |nil=>simp[okA]at h5
    |cons ea er=>
     obtain⟨_,_,e1,n1,_,n3⟩:=cQ h5;cases e1;exact wj G.un (sE o h4 G) hA (eW h1) h3 h2 (bC n1) (cM _ n3)
  ·cases h
 |.dnew tk,c,e,X,E2,h,G=>by
  unfold okE at h;split at h
  ·exact zN tk
  ·cases h
theorem sT:∀(it:IT) {c:Cfg}{e:Expr}{X:Cx}{E2:St->XK},okT it c e=true->Good c W X E2->PT X e (cH X.K W.cls E2 (wpT W it))/\(D6 it=true->PW X e (cH X.K W.cls E2 (wpT W it)))
 |.val a,c,e,X,E2,h,G=>by
  unfold okT at h;simp only[GS]at h;exact⟨Bf (sE a h.2 G) (rP h.1),λz=>nomatch z⟩
 |.cmp op a b,c,e,X,E2,h,G=>by
  unfold okT at h;split at h
  ·simp only[GS,G1]at h;obtain⟨⟨⟨rfl,h0⟩,h1⟩,h2⟩:=h;exact⟨Bl (dE G.un op) (sE a h1 G) (sE b h2 G) (fZ h0),λz=>nomatch z⟩
  ·cases h
 |.chain op1 op2 a b d,c,e,X,E2,h,G=>by
  unfold okT at h;split at h
  ·simp only[GS,G1]at h;obtain⟨⟨⟨⟨⟨rfl,rfl⟩,h0⟩,h1⟩,h2⟩,h3⟩:=h;exact⟨vL (dE G.un op1) (dE G.un op2) (sE a h1 G) (sE b h2 G) (sE d h3 G) (fZ h0),λz=>nomatch z⟩
  ·cases h
 |.chain3 op1 op2 op3 a b d f,c,e,X,E2,h,G=>by
  unfold okT at h;split at h
  ·simp only[GS,G1]at h;obtain⟨⟨⟨⟨⟨⟨⟨rfl,rfl⟩,rfl⟩,h0⟩,h1⟩,h2⟩,h3⟩,h4⟩:=h;exact⟨ui (dE G.un op1) (dE G.un op2) (dE G.un op3) (sE a h1 G) (sE b h2 G) (sE d h3 G) (sE f h4 G) (fZ h0),λz=>nomatch z⟩
  ·cases h
 |.and a b,c,e,X,E2,h,G=>by
  unfold okT at h;split at h
  ·rename_i op x y r p;simp only[GS,G1]at h;obtain⟨⟨rfl,h1⟩,h2⟩:=h;have hA:=(sT a h1 G).1;cases r with
   |nil=>exact⟨(pX hA (qv (sT b h2 G).1)).pt,λ_=>pX hA (qv (sT b h2 G).1)⟩
   |cons z r=>
    have hB:=(sT b h2 G).2;cases b with
    |and b1 b2=>exact⟨(pX hA (hB rfl)).pt,λ_=>pX hA (hB rfl)⟩
    |val b1=>simp[okT,qa]at h2
    |cmp=>simp[okT]at h2
    |chain=>simp[okT]at h2
    |chain3=>simp[okT]at h2
    |or=>simp[okT]at h2
    |not=>simp[okT]at h2
  ·cases h
 |.or a b,c,e,X,E2,h,G=>by
  unfold okT at h;split at h
  ·rename_i op x y r p;simp only[GS,G1]at h;obtain⟨⟨rfl,h1⟩,h2⟩:=h;have hA:=(sT a h1 G).1;cases r with
   |nil=>exact⟨(w6 hA (uW (sT b h2 G).1)).pt,λ_=>w6 hA (uW (sT b h2 G).1)⟩
   |cons z r=>
    have hB:=(sT b h2 G).2;cases b with
    |or b1 b2=>exact⟨(w6 hA (hB rfl)).pt,λ_=>w6 hA (hB rfl)⟩
    |val b1=>simp[okT,qa]at h2
    |cmp=>simp[okT]at h2
    |chain=>simp[okT]at h2
    |chain3=>simp[okT]at h2
    |and=>simp[okT]at h2
    |not=>simp[okT]at h2
  ·cases h
 |.not a,c,e,X,E2,h,G=>by
  unfold okT at h;split at h
  ·simp only[GS,G1]at h;obtain⟨rfl,h1⟩:=h;exact⟨Br (sT a h1 G).1,λz=>nomatch z⟩
  ·cases h
theorem sA:∀(ia:IA) {c:Cfg}{es:List Expr}{X:Cx}{E2:St->XK},okA ia c es=true->Good c W X E2->PA X es (dI X.K W.cls E2 (wpA W ia))
 |.nil,c,es,X,E2,h,G=>by
  simp only[okA]at h;cases es with
  |nil=>exact Ba
  |cons _ _=>cases h
 |.cons a r,c,es,X,E2,h,G=>by
  obtain⟨x,xs,rfl,h1,h2,h3⟩:=cQ h;exact AA (sE a h2 G) (sA r h3 G) (bC h1)
theorem sO:∀(io:IO) {c:Cfg}{o:Option Expr}{X:Cx}{E2:St->XK},okO io c o=true->Good c W X E2->PO X o (sF X.K W.cls E2 (wpO W io))
 |.no,c,o,X,E2,h,G=>by
  simp only[okO]at h;cases o with
  |none=>exact Eh
  |some _=>cases h
 |.yes a,c,o,X,E2,h,G=>by
  cases o with
  |none=>simp[okO]at h
  |some x=>
   simp only[okO]at h;exact BA (sE a h G)
theorem sTO:∀(io:ITO) {c:Cfg}{es:List Expr}{X:Cx}{E2:St->XK},w5 io c es=true->Good c W X E2->PIf X es (cH X.K W.cls E2 (md W io))
 |.no,c,es,X,E2,h,G=>by
  simp only[w5]at h;cases es with
  |nil=>exact λpins s σ H Q2 I ⟨σ3,M,Q,E3,rm,ds,lk,h,back⟩=>v8 pins s σ H Q2 I (back _ _ _ rm (.refl _) h)
  |cons _ _=>cases h
 |.yes t,c,es,X,E2,h,G=>by
  unfold w5 at h;split at h
  ·exact wH (sT t h G).1
  ·cases h
theorem sI:∀(ii:II) {c:Cfg}{e:Expr}{X:Cx}{E2:St->XK}{tg:Expr},okI ii c e=true->Good c W X E2->sk ii tg=true->PIB (sq ii) X tg e (ka X.K W.cls E2 (wpI W ii))
 |.seq a,c,e,X,E2,tg,h,G,_=>by
  unfold okI at h;exact A7 (sE a h G)
 |.enum a,c,e,X,E2,tg,h,G,ht=>by
  unfold okI at h;split at h
  ·simp only[GS,G1]at h;obtain⟨⟨⟨rfl,h1⟩,h2⟩,h3⟩:=h;have hA:=sE a h3 G;cases tg<;>first
    |exact Ad (G.gl h1) (G.bi _ (by decide +kernel)) hA (bC h2)
    |(simp[sk]at ht)
  ·cases h
 |.zip a b,c,e,X,E2,tg,h,G,ht=>by
  unfold okI at h;split at h
  ·simp only[GS,G1]at h;obtain⟨⟨⟨⟨⟨rfl,h1⟩,h2⟩,h3⟩,h4⟩,h5⟩:=h;have hA:=sE a h4 G;have hB:=sE b h5 G;cases tg<;>first
    |exact CN (G.gl h1) (G.bi _ (by decide +kernel)) hA hB (by rw[bC h2,bC h3];rfl) (bC h3)
    |(simp[sk]at ht)
  ·cases h
 |.items a,c,e,X,E2,tg,h,G,ht=>by
  unfold okI at h;split at h
  ·simp only[GS,G1]at h;obtain⟨⟨⟨rfl,h1⟩,h2⟩,h3⟩:=h;have hA:=sE a h3 G;cases tg<;>first
    |exact vM hA (eW h1) h2
    |(simp[sk]at ht)
  ·cases h
 |.dk a,c,e,X,E2,tg,h,G,_=>by
  unfold okI at h;exact EF (sE a h G)
 |.rng1 a,c,e,X,E2,tg,h,G,_=>by
  unfold okI at h;split at h
  ·simp only[GS,G1]at h;obtain⟨⟨⟨rfl,h1⟩,h2⟩,h3⟩:=h;exact EB (G.gl h1) (G.bi _ (by decide +kernel)) (sE a h3 G) (bC h2)
  ·cases h
end
end
theorem um{X:Cx}(G:Good c W X E2){pos px spos:Pos}(h:swB c scope x px.line pos.line=true) :
  swapsWith (.ListComp el gs scope pos) (some (.Name x px)) spos.line X.env=pure true:=by
 unfold swB at h;simp only[GS]at h;have h1:X.env.scope.kind=.function:=by rw[G.sc];exact Hb.mp h.1.1.1
 have h2:X.env.kindOf x=some .local:=by show X.env.scope.names.lookup x=_;rw[G.sc];exact Hb.mp h.1.1.2
 have hb:(X.env.blockKind == .function)=true:=by
  unfold Env.blockKind;rw[h1];rfl
 show (pure (X.env.blockKind == .function&&X.env.kindOf x == some .local&&px.line == pos.line&&!(scope.names.any λ(n,k)=>n == x&&(k == .local||k == .cell))):Sem Bool)=pure true
 rw[hb,h2,h.1.2,h.2];rfl
theorem Aa{c:Cfg}{X:Cx}(G:Good c W X E2){spos:Pos}(h:(c.sc.names.lookup x == some .cell)=true) :
  swapsWith (.ListComp el gs scope pos) (some (.Name x px)) spos.line X.env=pure false:=by
 have h2:X.env.kindOf x=some .cell:=by show X.env.scope.names.lookup x=_;rw[G.sc];exact Hb.mp h
 show (pure (X.env.blockKind == .function&&X.env.kindOf x == some .local&&px.line == pos.line&&!(scope.names.any λ(n,k)=>n == x&&(k == .local||k == .cell))):Sem Bool)=pure false
 rw[h2,show ((some NameKind.cell:Option NameKind) == some .local)=false from rfl,Bool.and_false];rfl
theorem xt{c:Cfg}(h:swB c scope x a b=true):c.sc.names.lookup x=some .local:=by
 unfold swB at h;simp only[GS,Hb]at h;exact h.1.1.2
section
variable {W:WC}
theorem tL{fz:Bool}{N:List Str}{js:List (Option Nat)}{tg:ITg}{it:II}{cond:ITO}{elt:IE}{c:Cfg}{X:Cx}{E2:St->XK}{i:Nat}{x:Str}{px spos pos:Pos}{el:Expr}{gs:List Comprehension}{scope:Scope}
  (h:okE (.comp fz N js tg it cond elt) c (.ListComp el gs scope pos)=true) (hi:(c.N[i]? == some x)=true) (hsw:swB c scope x px.line pos.line=true) (G:Good c W X E2) :
  PS X (.Assign [.Name x px] (.ListComp el gs scope pos) spos) (bx X.K W.cls E2 (wpS W (.set i (.comp fz N js tg it cond elt)))):=by
 have sp:=um (spos:=spos) (el:=el) (gs:=gs) G hsw;unfold okE at h;split at h
 ·rename_i el' tgE iter ifs as scope' pos' heq;cases heq;simp only[GS,G1]at h;obtain⟨⟨⟨⟨⟨⟨⟨⟨h0,rfl⟩,ht⟩,h1⟩,h2⟩,h3⟩,h4⟩,h5⟩,h6⟩:=h;have hok:=h2;rw[<-G.sc,<-G.N]at hok;exact pQ hok (G.qt h0) (sI it h3 G ht) (λC s2 H2 fp pn=>sG tg h4 (G.comp h2 C s2 H2 fp pn)) (λC s2 H2 fp pn=>sTO cond h5 (G.comp h2 C s2 H2 fp pn)) (λC s2 H2 fp pn=>sE elt h6 (G.comp h2 C s2 H2 fp pn)) (vc h1) G.ndX (G.at hi) (by rw[G.sc];exact xt hsw) sp fz
 ·cases h
mutual
theorem sS:∀(is:IS) {c:Cfg}{s:Stmt}{X:Cx}{E2:St->XK},okS is c s=true->Good c W X E2->PS X s (bx X.K W.cls E2 (wpS W is))
 |.set i a,c,s,X,E2,h,G=>by
  unfold okS at h;split at h
  ·simp only[GS,Bool.or_eq_true]at h;obtain⟨⟨⟨h1,h2⟩,h3⟩,h4⟩:=h;obtain⟨l1,l2⟩:=G.loc h2;rcases h4 with h4|h4
   ·exact xW G.ndX (G.at h1) l1 (sE a h3 G) (jS h4) l2
   ·split at h4
    ·rcases Bool.or_eq_true_iff.mp h4 with h4|h4
     ·exact tL h3 h1 h4 G
     ·exact xW G.ndX (G.at h1) l1 (sE _ h3 G) (Aa G h4) l2
    ·cases h4
  ·cases h
 |.unp is a,c,s,X,E2,h,G=>by
  unfold okS at h;split at h
  ·simp only[GS]at h;obtain⟨⟨⟨⟨h1,h2⟩,h3⟩,h4⟩,h5⟩:=h;exact Cr (G.calm h1) G.ndX G.fnx (G.names h2) (sE a h5 G) (by unfold swapsWithSole;exact jS h4) (ue h3)
  ·cases h
 |.expr a,c,s,X,E2,h,G=>by
  unfold okS at h;split at h
  ·simp only[GS]at h;exact zZ (sE a h.2 G) (jS h.1)
  ·cases h
 |.ret a,c,s,X,E2,h,G=>by
  unfold okS at h;split at h
  ·exact A1 (sE a h G)
  ·cases h
 |.dead,c,s,X,E2,h,G=>yW
 |.ifs t a b,c,s,X,E2,h,G=>by
  unfold okS at h;split at h
  ·simp only[GS]at h;exact EO (sT t h.1.1 G).1 (sSs a h.1.2 G) (sSs b h.2 G)
  ·cases h
 |.for_ tg it body,c,s,X,E2,h,G=>by
  unfold okS at h;split at h
  ·simp only[GS]at h;obtain⟨⟨⟨⟨⟨⟨h1,ht⟩,h2⟩,h3⟩,h4⟩,h5⟩,h6⟩:=h;exact Bm (G.own h1).1 (G.calm h2) (sI it h5 G ht).calm (sG tg h4 G) (sSs body h6 G) (vc h3)
  ·cases h
 |.raise k es,c,s,X,E2,h,G=>by
  unfold okS at h;split at h
  ·rename_i x px args cp pos;simp only[GS,Bool.not_eq_true']at h;obtain⟨⟨⟨⟨⟨⟨⟨h0,h1⟩,h2⟩,h3⟩,h4⟩,h5⟩,h6⟩,h7⟩:=h;obtain⟨_,E,hE,hR,hRD,hr2,_⟩:=G.own h1;obtain⟨m1,m2,_⟩:=G.exc k x (Hb.mp h3);have hA:=sA (W:=W) es h7 G;cases args with
   |nil=>cases h6
   |cons z zs=>
    cases es with
    |nil=>simp[okA]at h7
    |cons ea er=>
     obtain⟨_,_,e1,n1,_,n3⟩:=cQ h7;cases e1;exact wS hR hE (G.calm h2) (G.gl h4) m1 (m2 (Option.isNone_iff_eq_none.mp h0)) hA h5 (bC n1) (cM _ n3)
  ·cases h
 |.tryE body hs el,c,s,X,E2,h,G=>by
  unfold okS at h;split at h
  ·rename_i b handlers e pos;simp only[GS]at h;obtain⟨⟨⟨⟨h1,h2⟩,h3⟩,h4⟩,h5⟩:=h;obtain⟨t1,t2,t3⟩:=G.tr h1;have hH:=sHs hs h4 G;cases handlers with
   |nil=>cases h2
   |cons h0 hr=>exact zW t1 t2 t3 hH (λpn V' E2' hP=>sSs body h3 (G.trying hP)) (sSs el h5 G)
  ·cases h
 |.app o a,c,s,X,E2,h,G=>by
  unfold okS at h;split at h
  ·simp only[GS,G1]at h;obtain⟨⟨⟨⟨⟨rfl,h1⟩,h2⟩,h3⟩,h4⟩,h5⟩:=h;exact AU (sE o h4 G) (sE a h5 G) (zR h1) h2 (bC h3)
  ·cases h
 |.del i,c,s,X,E2,h,G=>by
  unfold okS at h;cases h
 |.fset o f a,c,s,X,E2,h,G=>by
  unfold okS at h;split at h
  ·simp only[GS,G1]at h;obtain⟨⟨⟨rfl,h1⟩,h2⟩,h3⟩:=h;exact Aj (B:=W.toWB) G.kok (sE o h2 G) (sE a h3 G) (jS h1)
  ·cases h
 |.ixset o i a,c,s,X,E2,h,G=>by
  unfold okS at h;split at h
  ·simp only[GS]at h;obtain⟨⟨⟨⟨h0,h1⟩,h2⟩,h3⟩,h4⟩:=h;exact vC G.un (sE o h2 G) (sE i h3 G) (sE a h4 G) (zO h0) (by unfold swapsWithSole;exact jS h1) (by rfl) (by rfl)
  ·cases h
theorem sSs:∀(is:ISs) {c:Cfg}{sts:List Stmt}{X:Cx}{E2:St->XK},iF is c sts=true->Good c W X E2->PSs X sts (bx X.K W.cls E2 (aX W is))
 |.nil,c,sts,X,E2,h,G=>by
  simp only[iF]at h;cases sts with
  |nil=>exact Cd
  |cons _ _=>cases h
 |.cons s r,c,sts,X,E2,h,G=>by
  unfold iF at h;split at h
  ·exact CV (sSs r h G)
  ·split at h
   ·simp only[GS]at h;exact zy (t:=wpS W s) (u:=aX W r) (sS s h.1 G) (sSs r h.2 G)
   ·cases h
theorem sHs:∀(ih:IHs) {c:Cfg}{hs:List ExceptHandler}{X:Cx}{E2:St->XK},tP ih c hs=true->Good c W X E2->PH X hs (pD X.K W.cls (wpH W ih))
 |.nil,c,hs,X,E2,h,G=>by
  simp only[tP]at h;cases hs with
  |nil=>exact z9
  |cons _ _=>cases h
 |.cons k nm body r,c,hs,X,E2,h,G=>by
  unfold tP at h;split at h
  ·rename_i x px nmE bodyE hp az;simp only[GS,Bool.not_eq_true']at h;obtain⟨⟨⟨⟨⟨⟨h1,h2⟩,h3⟩,h4⟩,h5⟩,h6⟩,h7⟩:=h;obtain⟨m1,m2,m3⟩:=G.exc k x (Hb.mp h1);have hR:=sHs r h7 G;cases bodyE with
   |nil=>cases h5
   |cons b0 suite=>
    cases nm with
    |none=>
     cases nmE with
     |none=>exact Bi (G.gl h2) m1 m3 (λv=>sSs body h6 (G.caught v)) hR h3
     |some n=>cases h4
    |some j=>
     cases nmE with
     |none=>cases h4
     |some n=>
      simp only[GS,Hb]at h4;exact CT (G.gl h2) m1 m3 G.ndX (by rw[G.N];exact h4.1) (by rw[G.sc];exact h4.2) (λa o u l=>sSs body h6 (G.caughtS a o u l)) hR h3
  ·cases h
end
end
end L2
namespace L2
open PySem PySem.W PySem.Spec PyProof.Rows
theorem holdsT{l:OpenLaw}{q:Program}{loose:List Str}{Xt:Shared->Bool}{XP:(Str->Option Value)->Heap->Prop}{α:Type}{Yf:Shared->α}{Ya:World->α}{YP:World->Heap->Prop}{d:DefRec}{N n:Nat}
  (left:LeftO l.row.prog q loose Xt Yf Ya N) (hY:∀w s,Yf s=Ya w->YP w s.heap/\0<s.toks) (hYk:∀w h h',YP w h->(∀b o,h.get? b=some o->h'.get? b=some o)->YP w h')
  (hX:∀s,Xt s=true->XP (s.heap.nsMap mainGlobals) s.heap) (hXk:∀mg h h',XP mg h->(∀b o,h.get? b=some o->h'.get? b=some o)->XP mg h')
  (hdef:defOf q l.row.name=some (d,[])) (hp:l.row.prog.theDef l.row.name=some (d.params,d.body,d.scope)) (hk:kwWritten? d.params.kwonlyargs d.params.kw_defaults=some []) (hRf:∀s,Xt s=true->RecFacts l.row.records s.heap) (hwr:(!l.row.writes||l.row.records.isEmpty)=true)
  (k1:l.row.wellSaid=true) (ok:(chainsOk q&&opensWell l.row.prog&&(frees l.row.toRowW&&l.row.within.isEmpty))=true) (hb:l.row.prog.bare)(hw:l.row.toRowW.promised) (hn:l.most=some n) (hdf:d.params.defaults=[])
  (call:∀(w:World)(s₀ s:Shared)(mg mb:Str->Option Value)(fa:Addr)(a:Addr)(vs:List Value)(ns:List Int),0<s.toks->Ground q loose [] XP w s₀ mg mb s.heap->YP w s.heap->mg d.name=some (.ref fa)->s.heap.get? a=some {cls:=.type "list",data:=.seq vs.toArray}->IntsAre vs ns->ns.length<=n->s.gens=#[]->
   codeAny (model l.prog w) callerA (.call (.ref fa) ⟨[.ref a],[]⟩) (λr s'=>r=.ok (.ret (.bool true))/\OldK s.heap s'.heap/\s'.os=s.os/\AllBare s'.gens) s):l.row.Holds:=by
 refine⟨k1,hw,?_⟩;have mk:∀r:RowW,r.makers=[]->r.claim.makers=[]:=λr hm=>by show r.makers.map _=[];rw[hm];rfl
 obtain⟨ok,k5⟩:=HX.mp ok;obtain⟨hch,o1⟩:=HX.mp ok;obtain⟨k5,k6⟩:=HX.mp k5;obtain⟨hsame,hu,ha,hap,hm⟩:=frees_parts k5;refine⟨⟨hb,o1,mk _ hm⟩,hw.witness,λw=>⟨(left.behind hX hch w).1,λs' hs'=>?_⟩⟩
 obtain⟨s₀,hf,hg0,s,hT,hz,hgens,hg,G00,y⟩:=(left.behind (XP:=λmg h=>XP mg h/\RecFacts l.row.records h) (λs hs=>⟨hX s hs,hRf s hs⟩) hch w).2 s' hs'
 have G0:Ground q loose [] XP w s (s.heap.nsMap mainGlobals) (s.heap.nsMap builtinsNs) s.heap:=⟨G00.T,G00.B,G00.D,G00.TE,G00.TD,G00.W,G00.X.1,G00.cls,G00.has,G00.apart,G00.once,G00.K⟩;have RF:=G00.X.2;refine⟨s₀,hf,hg0,s,hT,λn hn=>?_,RF.1,RF.2.1,?_⟩
 ·obtain rfl:n=l.row.name:=by split at hn<;>simp_all
  exact pinned_of_view hg G0 hdef hp hk
 have hgens:s.gens=#[]:=Array.eq_empty_of_size_eq_zero (Hb.mp hgens);have G:Ground q loose l.row.records XP w s _ _ s.heap:=RF.ground G0;refine ClaimW.callFrom_of_specG (c:=l.row.toRowW.claim) hz hgens λargs hpre hlay ord hord=>?_
 obtain⟨⟨vs,s₁⟩,hlaid⟩:=Id.mp (layAllW_isSome (P:=w.params) (ord:=ord) G.has args l.row.toRowW.args s (pre_splitW hpre).1);have keeps:=layAllW_keeps _ _ _ hlaid;have hal:=layAllW_rest _ _ _ hlaid;obtain⟨as,hrd,hin,hold⟩:=reads_layAllW hord _ _ _ hlaid hlay s₁.heap (λ_ _ e=>e)
 have L:Laid l.row.records w s s₁ args vs as:=⟨⟨ord,hord,hlaid⟩,hrd,hin,hold,keeps,hal.1.trans hgens,hal.2.2.1⟩;have G₁:=G.keeps hXk keeps;obtain⟨fa,o,pm,cd,doc,dV,kV,h1,h2,h3,h4,h5⟩:=G₁.fn hdef;have hi:=ident_freeW hu ha hap;have hwi:l.row.toRowW.claim.within=[]:=List.isEmpty_iff.mp k6;obtain⟨a,vs',ns,rfl,rfl,hobj,hints,hlen⟩:=Att.script_of hn hpre L.well;have tk:0<s₁.toks:=GU (hY w s y).2 (layAllW_grows _ _ _ hlaid).toks;have key:=call w s s₁ _ _ fa a vs' ns tk G₁ (hYk _ _ _ (hY w s y).1 keeps) (defOf_name hdef▸h1) hobj hints hlen L.gens;refine⟨_,s₁,hlaid,xL (wpAny_nsGet G₁.T.g ?_)⟩;rw[h1];refine xL (wpAny_call (codeAny_mono key λr s2 hq=>?_))
 obtain⟨rfl,q2,q3,q4⟩:=hq;have g:GoodWG l.row.toRowW.claim (classAt s.heap) (ExcName.means s.heap) [WData.list (ns.map WData.int)] s₁ (.ok (.ret (.bool true))) s2:=⟨.inl ⟨.bool true,.bool true,[],rfl,λ_=>rfl,.bool true,Att.post_true l _,λ_=>⟨List.Pairwise.nil,λ_ hm=>(nomatch hm)⟩⟩,q2,q3,q4⟩
 have z:=g.laid (c:=l.row.toRowW.claim) hsame hwi hi L;exact GT ⟨_,rfl,z.1,z.2.1,z.2.2,λq=>⟨namesKept_of hT hg _ keeps g.2.1.old,noTable hwr q⟩⟩
end L2
namespace L2
open PySem PySem.Spec PyProof.Rows
theorem cu:∀{l:List (Nat×Nat)}{m f:Nat},l.lookup m=some f->(m,f)∈l
 |[],_,_,h=>by cases h
 |(a,b)::r,m,f,h=>by
  rw[HG]at h;by_cases e:m=a
  ·subst e;simp at h;subst h;exact G5
  ·have:(m == a)=false:=by simpa using e
   rw[this]at h;exact GY _ (cu h)
theorem ixc{α:Type}{P:Nat->α->Prop}{a:α}{r:List α}(h0:P 0 a)(hr:∀i x,r[i]?=some x->P (i+1) x):∀i x,(a::r)[i]?=some x->P i x
 |0,x,h=>by cases h;exact h0
 |i+1,x,h=>hr i x h
theorem ixn{α:Type}{P:Nat->α->Prop}:∀i x,([]:List α)[i]?=some x->P i x:=λi x h=>by simp at h
theorem us0{P:List Value->Prop}(h:P []):∀us:List Value,us.length=0->P us:=λus e=>(List.eq_nil_of_length_eq_zero e)▸h
theorem usS{n:Nat}{P:List Value->Prop}(h:∀a,∀us:List Value,us.length=n->P (a::us)):∀us:List Value,us.length=n+1->P us:=λus e=>by
 cases us with
 |nil=>cases e
 |cons a r=>exact h a r (Nat.succ.inj e)
structure FB where
 np:Nat
 nl:Nat
 cl:Bool
 body:ISs
 df:List Int:=[]
noncomputable def FB.full(fb:FB)(ds:List D):List D:=ds++(fb.df.drop (ds.length+fb.df.length-fb.np)).map D.int
noncomputable def oA(nl:Nat)(ds:List D):St3:=ds.map some++List.replicate (nl-ds.length) none
def aa(T:List FB)(B:WB):Nat->Nat->List D->MH->VK3->XN->Prop
 |0,_,_,_,_,_=>False
 |n+1,f,ds,M,Q,E=>match T[f]? with
  |none=>False
  |some fb=>(fb.full ds).length=fb.np/\aX {toWB:=B,call:=aa T B n} fb.body {nx:=λ_ M'=>Q .non (kp fb.cl M M'),rt:=λv M'=>Q v (kp fb.cl M M')} (λ_ i M'=>E i (aK M M')) (oA fb.nl (fb.full ds)) M
structure FL where
 name:Str
 qual:Str
 glob:Bool
 cl:Bool
 st:Stmt
 N:List Str
 ps:List Str
 body:ISs
 gn:Str:=name
 df:List Int:=[]
noncomputable def lM(N ps:List Str)(sc:Scope):Bool:=(sc.kind == .function)&&!sc.isCoroutine&&!sc.isGenerator&&decide N.Nodup&&(N.take ps.length == ps)&&
 ps.all (λx=>sc.names.lookup x == some .local||sc.names.lookup x == some .cell)&&sc.names.all (λy=>y.2 != .free)
theorem k7(h:lM N ps sc=true):FnScope N ps sc:=by
 unfold lM at h;simp only[GS,Bool.not_eq_true',Hb,G1,Hh,Bool.or_eq_true,bne_iff_ne]at h;obtain⟨⟨⟨⟨⟨⟨h1,h2⟩,h3⟩,h4⟩,h5⟩,h6⟩,h7⟩:=h;exact⟨h1,h2,h3,h4,h5,h6,h7⟩
structure NM where
 exc:List Str
 kln:List Str
 gln:List Str
 xin:List (Nat×Nat)
noncomputable def FL.cfg(l:FL)(fns:List (Option Str×Nat))(n:NM):Cfg:={N:=l.N,sc:=ax l.st,fns:=fns,exc:=n.exc,kln:=n.kln,gln:=n.gln,xin:=n.xin,calm:=true,own:=true,tr:=true,fn:=true}
noncomputable def FL.fb(l:FL):FB:=⟨l.ps.length,l.N.length,l.cl,l.body,l.df⟩
noncomputable def FL.ok(l:FL)(fns:List (Option Str×Nat))(n:NM):Bool:=lM l.N l.ps (ax l.st)&&iF l.body (l.cfg fns n) (aZ l.st)
noncomputable def fk(L:List FL):List (Option Str×Nat):=L.map λl=>(if l.glob=true then some l.gn else none,l.ps.length)
structure FunD (K:Ii)(x qual:Str)(st:Stmt)(f:Addr)(fd:FuncData):Prop where
 ex:∃(oc:Value) (od:Option Addr) (dV kV doc pm:Value) (an:Option Addr) (cdv ct:Value) (osl:Array (Option Value)),
  fd=PySem.W.fnOf x qual (bS st) (aZ st) (ax st) dV kV doc pm an cdv ct/\K.lookup f=some ⟨oc,od,.func fd,osl⟩/\PySem.W.codeIn K cdv qual=true
 kp:PySem.W.keepIn K (.ref f)=true
structure Top (Pm:Params)(K:Ii)(mg:Str->Option Value)(L:List FL)(n:NM)(B:WB):Prop where
 ok:∀l∈L,l.ok (fk L) n=true
 fn:∀f l,L[f]?=some l->∃fd,FunD K l.name l.qual l.st (B.fad f) fd/\(l.glob=true->mg l.gn=some (.ref (B.fad f)))/\(l.df=[]->∀us:List Value,us.length=l.ps.length->bindArgs fd ⟨us,[]⟩=pure (l.ps.zip us))/\∃dv,Vals (l.df.map V.int) dv/\∀j,Binds K fd l.ps (dv.drop j)
 exi:∀i,i<B.ne->ExcI K (B.cls i)/\PySem.W.kitOne K (.ref (B.cls i)) (.type "ValueError")=some true/\∀j x,n.exc[j]?=some x->PySem.W.kitOne K (.ref (B.cls i)) (.ref (B.cls j))=some (B.sub i j)
 exc:∀i x,n.exc[i]?=some x->mg x=some (.ref (B.cls i))/\(n.xin.lookup i=none->wX K (B.cls i))/\∀j,j<B.ne->PySem.W.exmOne K (.ref (B.cls j)) (.ref (B.cls i))=some (B.sub j i)
 kok:∀i,i<B.nk->KOk K B B.fad i
 kin:∀i,i<B.nk->∃f,B.ini i=some f
 kfi:∀i f,i<B.nk->B.ini i=some f->f<L.length
 kfm:∀i m f,i<B.nk->B.mth i m=some f->f<L.length
 knm:∀i x,n.kln[i]?=some x->mg x=some (.ref (B.kls i))/\i<B.nk
 glo:∀k x,n.gln[k]?=some x->∃u v,mg x=some u/\RelV v u/\vT K Pm (B.glo k) v
 bi:∀x∈biNames,mg x=none
 dig:yb K
 xi:∀i f,n.xin.lookup i=some f->B.xin i=some f/\∃fI fd ps,XIni K (B.cls i) fI (fnm f)/\Binds K fd ps []/\∀(P:Program)(w:World)(base:Heap),FnOk P w K mg base (CX1 P w) 1 fI fd ps (nV (cpF f) K (B.cls i) (fnm f))
 xn:∀i f,i<B.ne->B.xin i=some f->NoAttr K (B.cls i) (fnm f)
section
variable {w:World}{K:Ii}{L:List FL}{B:WB}
noncomputable def spF(K:Ii)(cls:Nat->Addr)(l:FL)(t3:List D->MH->VK3->XN->Prop):Sp:=λvs H Q E=>vs.length=l.ps.length/\spX K cls t3 vs H Q E
theorem FB.full_at{fb:FB}{ds:List D}(h:ds.length=fb.np):fb.full ds=ds:=by
 unfold FB.full;rw[List.drop_of_length_le (by omega),List.map_nil,HM]
theorem kX:∀{vs:List V}{us:List Value} (j:Nat),Vals vs us->Vals (vs.drop j) (us.drop j)
 |_,_,0,h=>h
 |_,_,_+1,.nil=>.nil
 |_,_,j+1,.cons _ h=>kX j h
theorem BN{l:FL}(hl:L[f]?=some l){dv:List Value}(hv:Vals (l.df.map V.int) dv)(hb:∀j,Binds K fd l.ps (dv.drop j)):BdT K B.cls fd l.ps (aa (L.map FL.fb) B n f) (spF K B.cls l (aa (L.map FL.fb) B n f)):=by
 rintro vs H Q E ⟨ds,M,Q3,E3,dl,rm,h,back,lk⟩;cases n with
 |zero=>exact h.elim
 |succ n=>
  have hT:(L.map FL.fb)[f]?=some l.fb:=by rw[Hi,hl];rfl
  have h0:=h;simp only[aa,hT]at h0;have e:=h0.1;have hlen:=dl.length;refine⟨(l.df.map V.int).drop (ds.length+l.df.length-l.ps.length),dv.drop (ds.length+l.df.length-l.ps.length),kX _ hv,hb _,?_,?_⟩
  ·have e2:(l.fb.full ds).length=l.ps.length:=e;unfold FB.full at e2;rw[Hu,G8]at e2;rw[Hu,List.length_drop,G8,<-hlen];rw[List.length_drop]at e2;exact e2
  ·refine⟨l.fb.full ds,M,Q3,E3,?_,rm,?_,back,lk⟩
   ·unfold FB.full;rw[<-List.map_drop];exact dl.append DenL.of_int
   ·simp only[aa,hT];rw[FB.full_at e];exact h0
theorem uB(T:Top w.params K mg L nm B):∀(n f:Nat)(l:FL),L[f]?=some l->∀(fd:FuncData),FunD K l.name l.qual l.st (B.fad f) fd->FnOk P w K mg base (CX1 P w) (2*n+2) (B.fad f) fd l.ps (spF K B.cls l (aa (L.map FL.fb) B n f)):=by
 intro n
 induction n with
 |zero=>
  intro f l hl fd F;exact⟨λvs H Q E h=>h.1,λA outer s H args us vs Q E hr e0 hb r ⟨_,_,_,_,_,_,_,h,_⟩=>h.elim⟩
 |succ n ih=>
  intro f l hl fd F;have hT:(L.map FL.fb)[f]?=some l.fb:=by rw[Hi,hl];rfl
  have hm:l∈L:=HW hl;have okl:=T.ok l hm;unfold FL.ok at okl;rw[GS]at okl;have S:=k7 okl.1;obtain⟨oc,od,dV,kV,doc,pm,an,cdv,ct,osl,rfl,lk,hcd⟩:=F.ex;have un:∀ds M Q E,aa (L.map FL.fb) B (n+1) f ds M Q E->ds.length=l.ps.length->aX {toWB:=B,call:=aa (L.map FL.fb) B n} l.body {nx:=λ_ M'=>Q .non (kp l.cl M M'),rt:=λv M'=>Q v (kp l.cl M M')} (λ_ i M'=>E i (aK M M')) (oA l.N.length ds) M:=λds M Q E h e=>by
   simp only[aa,hT]at h;rw[FB.full_at (fb:=l.fb) e]at h;exact h.2
  show FnOk P w K mg base (CX1 P w) (2*n+3+1) _ _ _ _;refine t6 lk hcd S (λvs H Q E h=>?_) λA outer s H vs Q E hr hsp=>?_
  ·exact h.1
  ·obtain⟨hle,ds,M,Q3,E3,dl,rm,h,back,lkE⟩:=hsp;have h:=un _ _ _ _ h (by rw[dl.length];exact hle)
   have len:(fk L).length=L.length:=by unfold fk;rw[G8]
   have G:Good (l.cfg (fk L) nm) {toWB:=B,call:=aa (L.map FL.fb) B n} (bM (CX1 P w) P w K mg base l.N l.qual (ax l.st) (B.fad f) cdv A outer s H E) (λ_=>E):=by
    refine⟨rfl,S.nd,rfl,hr.units,λ_=>rfl,(λz=>nomatch z),λ_ _=>rfl,(λ_ z=>nomatch z),λ_=>⟨DW,E,rfl,vZ,ub,hr.mono (by omega),AF⟩,λ_=>⟨rfl,rfl,rfl⟩,λ_=>⟨2*n+2,hr,λg hg=>?_⟩,λg x k hg=>?_,T.kok,T.kin,λi g hi q=>?_,λi m g hi q=>?_,T.knm,T.glo,T.exc,T.exi,(λi f hi=>?_),T.xn,T.bi,T.dig,λpins σ H' s' e s'' I hc=>Be pins σ H' s' e s'' I hc⟩
    ·have hg:g<(fk L).length:=hg;rw[len]at hg;obtain⟨fd2,F2,_,_,dv2,v2,b2⟩:=T.fn g L[g] (by simp[hg])
     exact⟨fd2,_,_,F2.kp,BN (by simp[hg]) v2 b2,ih g L[g] (by simp[hg]) fd2 F2⟩
    ·have hg:(fk L)[g]?=some (some x,k):=hg;unfold fk at hg;rw[Hi]at hg;cases q:L[g]? with
     |none=>rw[q]at hg;cases hg
     |some l2=>
      rw[q]at hg;obtain⟨fd2,F2,m2,_⟩:=T.fn g l2 q;have e:((if l2.glob=true then some l2.gn else none),l2.ps.length)=(some x,k):=Hg hg
      by_cases z:l2.glob=true
      ·rw[G3 z]at e;cases e;exact m2 z
      ·rw[GV z]at e;cases e
    ·show g<(fk L).length;rw[len];exact T.kfi i g hi q
    ·show g<(fk L).length;rw[len];exact T.kfm i m g hi q
    ·obtain⟨a,fI,fd3,ps3,x3,b3,F3⟩:=T.xi i f hi;exact⟨a,fI,fd3,ps3,x3,b3,F3 P w base⟩
   exact⟨_,sSs l.body okl.2 G,oA l.N.length ds,M,_,_,rm,oM dl,λσ3 σ i M' H' t _ rm' q dx xd=>lkE i _ H' t (rm'.sub λ_ _ z=>li z) q dx xd,h,
    ⟨λσ' H' σ3' M' rm' ds' tm q=>back _ _ _ _ sK (rm'.sub λ_ _ z=>uD z) tm q,λv H' d M' dv rm' tm q=>back _ _ _ _ dv (rm'.sub λ_ _ z=>uD z) tm q,λ_ _ _ _ _ _ _ z=>z.elim,λ_ _ _ _ _ _ _ z=>z.elim⟩⟩
end
noncomputable abbrev scr(ns:List Int):D:=.rol (ns.map D.int)
theorem walkD{l:PySem.W.OpenLaw}{k f:Nat}{q:Program}{loose:List Str}{XP:(Str->Option Value)->Heap->Prop}{YP:World->Heap->Prop}{d:DefRec}{K:Params->Ii}{fl:FL}{x:Str}{L:List FL}{nm:NM}{BB:(Nat->Addr)->(Nat->Addr)->(Nat->Addr)->WB}
  (hr:Room (2*k+2) callerA) (hY:∀(w:World)(h:Heap),YP w h->(K w.params).In h) (hf:L[f]?=some fl) (hps:fl.ps=[x]) (hname:fl.gn=d.name) (hgl:fl.glob=true)
  (T:∀(w:World)(mg:Str->Option Value)(h:Heap),(K w.params).In h->h.Ns mainGlobals mg->∃cls kls fad,Top w.params (K w.params) mg L nm (BB cls kls fad))
  (main:∀(cls kls fad:Nat->Addr)(ns:List Int),ns.length<=63->aa (L.map FL.fb) (BB cls kls fad) k f [scr ns] (λ_=>none) (λd _=>d=.bl true) (λ_ _=>False)) (hd0:fl.df=[]:=by rfl) :
  ∀(w:World)(s₀ s₁:Shared)(mg mb:Str->Option Value)(fa:Addr)(a:Addr)(vs:List Value)(ns:List Int),0<s₁.toks->PySem.W.Ground q loose [] XP w s₀ mg mb s₁.heap->YP w s₁.heap->mg d.name=some (.ref fa)->s₁.heap.get? a=some {cls:=.type "list",data:=.seq vs.toArray}->PyProof.Rows.IntsAre vs ns->ns.length<=63->s₁.gens=#[]->
   codeAny (model l.prog w) callerA (.call (.ref fa) ⟨[.ref a],[]⟩) (λr s'=>r=.ok (.ret (.bool true))/\OldK s₁.heap s'.heap/\s'.os=s₁.os/\AllBare s'.gens) s₁:=by
 intro w s₀ s₁ mg mb fa a vs ns htk G Y hmg hobj hints hlen hg;have KX:=hY w _ Y;obtain⟨cls,kls,fad,T⟩:=T w mg _ KX G.T.g;obtain⟨fd,F,m1,b1,_⟩:=T.fn f fl hf;have m1:=m1 hgl;rw[hname,hmg]at m1;have m1:=Value.ref.inj (Hg m1);subst m1;refine ve (K:=K w.params) (CX:=CX1 l.prog w) (fd:=fd) (x:=x) (sp:=spF (K w.params) (BB cls kls fad).cls fl (aa (L.map FL.fb) (BB cls kls fad) k f)) KX G.T.g G.T.b G.T.builtins G.T.nolimit hg htk hobj hints (Ha hlen (by decide)) hr (λbase kb gb=>by rw[<-hps];exact uB T k f fl hf fd F) (λs u=>?_) (λH hO hS=>?_) λH e s' h=>?_
 ·have hb:=b1 hd0 [u] (by rw[hps];rfl)
  rw[hps]at hb;exact .of_eq hb
 ·have sq:SqF (K w.params) H a (ns.map V.int):=by
   cases hk:(K w.params).lookup a with
   |some ob=>
    have e:=KX a ob hk;rw[hobj]at e;cases e;exact .inr ⟨vs,_,hk,by rw[hints.length];exact Ha hlen (by decide),gY hints⟩
   |none=>
    rcases hS with (h|⟨ob,h⟩)|⟨ob,_,_,h,_⟩
    ·rcases hO a with z|⟨o2,xs,z⟩
     ·rw[h]at z;cases z
     ·rw[h]at z;cases z
    ·exact .inl ⟨ob,h⟩
    ·rw[hk]at h;cases h
  refine⟨by rw[hps];rfl,[scr ns],λ_=>none,λd _=>d=.bl true,λ_ _=>False,.one ⟨a,_,rfl,sq,.of_int⟩,λa o e=>(by cases e),main cls kls fad ns hlen,λv H' d M' dv _ _ q=>?_,λ_ _ _ _ _ h=>h.elim⟩
  subst q;exact dv
 ·obtain⟨_,_,_,_,_,_,_,_,_,_,_,_,_,he⟩:=h;exact he
theorem Fun.bindsE{K:Ii}{st:Stmt}{ps:List Str}(F:Fun K x qual st f fd)
  (h:∀(kV doc pm:Value)(an:Option Addr)(cdv ct:Value)(us:List Value),us.length=ps.length->bindArgs (PySem.W.fnOf x qual (bS st) (aZ st) (ax st) .none kV doc pm an cdv ct) ⟨us,[]⟩=pure (ps.zip us)):∀us:List Value,us.length=ps.length->bindArgs fd ⟨us,[]⟩=pure (ps.zip us):=by
 obtain⟨oc,od,kV,doc,pm,an,cdv,ct,osl,rfl,lk,hcd⟩:=F.ex;exact h kV doc pm an cdv ct
noncomputable def vg(sl pr b:Str)(sc:Scope)(ap cp:Pos):Bool:=(ap.endLine == cp.line)&&(sc.names.lookup b == some .globalImplicit)&&lM [sl,pr] [sl,pr] sc&&
 !(b == ("__debug__" : Str))&&!(sl == ("__debug__" : Str))&&!(pr == ("__debug__" : Str))&&!(sl == ("__classdict__" : Str))&&!(pr == ("__classdict__" : Str))
theorem wT{P:Program}{w:World}{K:Ii}{mg:Str->Option Value}{base:Heap}{fI C D:Addr}{name qual:Str}{params:Arguments}{scope:Scope}{body:List Stmt}{kV doc pm cdv ct oc:Value}{an od:Option Addr}{osl:Array (Option Value)}{b sl pr f tx:Str}{j:Nat}{px ap p1 p2 cp p3 p4 p5 p6 p7 p8 p9:Pos}
  (hbd:body=[.Expr (.Call (.Attribute (.Name b px) "__init__" ap) [.Name sl p1,.Constant (.str tx) j p2] [] cp) p3,.Assign [.Attribute (.Name sl p4) f p5] (.Call (.Name "list" p8) [.Name pr p6] [] p9) p7])
  (h:vg sl pr b scope ap cp=true) (lk:K.lookup fI=some ⟨oc,od,.func (PySem.W.fnOf name qual params body scope .none kV doc pm an cdv ct),osl⟩) (hcd:PySem.W.codeIn K cdv qual=true) (hgl:scope.names.lookup ("list" : Str)=some .globalImplicit) (hml:mg "list"=none) (hm:mg b=some (.ref D)) (hb:BIni K D) (q:XIni K C fI f) :
  FnOk P w K mg base (CX1 P w) 1 fI (PySem.W.fnOf name qual params body scope .none kV doc pm an cdv ct) [sl,pr] (nV true K C f):=by
 subst hbd;unfold vg at h;simp only[GS,Bool.not_eq_true']at h;obtain⟨⟨⟨⟨⟨⟨⟨h7,h8⟩,h9⟩,h10⟩,h11⟩,h12⟩,h13⟩,h14⟩:=h;exact wo lk hcd (k7 h9) (Hb.mp h8) hgl hml hm h7 hb q h10 h11 h12 h13 h14
end L2
namespace L2
open PySem
noncomputable def nu(K:Ii)(a:Addr):Option FuncData:=match K.lookup a with
 |some ⟨_,_,.func fd,_⟩=>some fd
 |_=>none
noncomputable def fdN(l:FL)(fd:FuncData):FuncData:=PySem.W.fnOf l.name l.qual (bS l.st) (aZ l.st) (ax l.st) (if l.df.isEmpty=true then .none else fd.defaults) fd.kwdefaults fd.doc fd.pyModule fd.annotations fd.code fd.closureTuple
noncomputable def fnB(K:Ii)(B:WB)(l:FL)(i:Nat):Bool:=(match nu K (B.fad i) with
 |some fd=>PySem.W.codeIn K fd.code l.qual
 |none=>false)&&PySem.W.keepIn K (.ref (B.fad i))&&(!l.glob||PySem.W.nsIn K mainGlobals l.gn == some (some (.ref (B.fad i))))
theorem wA{K:Ii}(h:nu K a=some fd):∃oc od sl,K.lookup a=some ⟨oc,od,.func fd,sl⟩:=by
 unfold nu at h;split at h
 ·rename_i oc od fd' sl e;cases h;exact⟨oc,od,sl,e⟩
 ·cases h
noncomputable def CP(K:Ii)(C:Addr):Bool:=PySem.W.hasDictIn K C&&PySem.W.findIn K (.ref C) "__getattribute__" == some (some (.builtin "BaseException.__getattribute__"))&&PySem.W.findIn K (.ref C) "__getattr__" == some none&&PySem.W.findIn K (.ref C) "__class__" == some (some (.builtin "object.__class__"))&&PySem.W.mroIn K C (.type "object") == some true&&PySem.W.mroIn K C (.type "BaseException") == some true&&PySem.W.kitOne K (.ref C) (.type "ValueError") == some true
noncomputable def A6(K:Ii):Bool:=PySem.W.specialIn K (.builtin "object.__class__") "__get__" == some (some (.builtin "getset_descriptor.__get__"))&&PySem.W.takesIn K (.builtin "object.__class__") == some true&&PySem.W.nsIn K cStatics "sys.int_max_str_digits" == some none&&biNames.all λx=>PySem.W.nsIn K mainGlobals x == some none
noncomputable def BS(K:Ii)(B:WB)(n:NM):Bool:=(List.range B.ne).all (λi=>CP K (B.cls i)&&(List.range n.exc.length).all λj=>PySem.W.kitOne K (.ref (B.cls i)) (.ref (B.cls j)) == some (B.sub i j)&&PySem.W.exmOne K (.ref (B.cls i)) (.ref (B.cls j)) == some (B.sub i j))&&
 n.exc.zipIdx.all λp=>PySem.W.nsIn K mainGlobals p.1 == some (some (.ref (B.cls p.2)))&&((n.xin.lookup p.2).isSome||PySem.W.excIn K (B.cls p.2) bmV "ValueError.__new__")
noncomputable def kB(K:Ii)(B:WB)(fT:List (List Nat))(mT:List (List (Nat×Nat)))(iT:List Nat)(i:Nat):Bool:=
 PySem.W.plainGet K (B.kls i) Str.empty&&PySem.W.hasDictIn K (B.kls i)&&PySem.W.plainOver K (B.kls i)&&PySem.W.findIn K (.ref (B.kls i)) "__setattr__" == some (some (.builtin "object.__setattr__"))&&
 (fT.getD i []).all (λf=>PySem.W.findIn K (.ref (B.kls i)) (fnm f) == some none)&&
 (mT.getD i []).all (λp=>PySem.W.findIn K (.ref (B.kls i)) (fnm p.1) == some (some (.ref (B.fad p.2)))&&PySem.W.isFn K (.ref (B.fad p.2))&&PySem.W.keepIn K (.ref (B.fad p.2)))&&
 (match iT[i]? with
  |some f=>PySem.W.makesIn K (B.kls i)&&PySem.W.findIn K (.ref (B.kls i)) "__init__" == some (some (.ref (B.fad f)))&&PySem.W.isFn K (.ref (B.fad f))&&PySem.W.keepIn K (.ref (B.kls i))&&PySem.W.specialIn K (.ref (B.kls i)) "__getattribute__" == some (some (.builtin "type.__getattribute__"))&&PySem.W.readsIn K (B.kls i) (.type "type")&&
   (match PySem.W.findCls K (.ref (B.kls i)) (.type "type") "__init__" with
    |some (.val (.ref g))=>g == B.fad f
    |_=>false)
  |none=>false)&&
 PySem.W.findIn K (.ref (B.kls i)) "__class__" == some (some (.builtin "object.__class__"))&&PySem.W.mroIn K (B.kls i) (.type "object") == some true&&
 (List.range B.nk).all λj=>PySem.W.kitOne K (.ref (B.kls i)) (.ref (B.kls j)) == some (B.ksub i j)
noncomputable def B0(L m:Nat)(mT:List (List (Nat×Nat)))(iT:List Nat):Bool:=iT.length == m&&iT.all (λf=>decide (f<L))&&mT.all λl=>l.all λp=>decide (p.2<L)
theorem hU(h:(List.range n).all p=true)(hi:i<n):p i=true:=Hh.mp h i (List.mem_range.mpr hi)
theorem oH{l:List α}(h:l.zipIdx.all p=true)(hx:l[i]?=some x):p (x,i)=true:=by
 refine Hh.mp h (x,i) ?_;rw[List.mem_zipIdx_iff_getElem?];exact hx
theorem Cy{K:Ii}{L:List FL}{B:WB}(h:L.all (λl=>l.df.isEmpty)=true):∀(f:Nat)(l:FL),L[f]?=some l->l.df≠[]->∀fd,nu K (B.fad f)=some fd->∃dv,Vals (l.df.map V.int) dv/\∀j,Binds K fd l.ps (dv.drop j):=λf l hl z=>absurd (List.isEmpty_iff.mp (Hh.mp h l (HW hl))) z
theorem Top.of{Pm:Params}{K:Ii}{h:Heap}{L:List FL}{n:NM}{B:WB}{fT:List (List Nat)}{mT:List (List (Nat×Nat))}(X:K.In h)(Gn:h.Ns mainGlobals mg)
  (h1:L.all (λl=>l.ok (fk L) n)=true)
  (h2:L.zipIdx.map (λp=>nu K (B.fad p.2))=L.zipIdx.map λp=>(nu K (B.fad p.2)).map (fdN p.1))
  (h3:L.zipIdx.all (λp=>fnB K B p.1 p.2)=true)
  (h4:∀(f:Nat)(l:FL),L[f]?=some l->∀us:List Value,us.length=l.ps.length->∀(kV doc pm:Value)(an:Option Addr)(cdv ct:Value),bindArgs (PySem.W.fnOf l.name l.qual (bS l.st) (aZ l.st) (ax l.st) .none kV doc pm an cdv ct) ⟨us,[]⟩=pure (l.ps.zip us))
  (h5:A6 K=true) (h6:BS K B n=true)
  (h7:(List.range B.nk).all (kB K B fT mT iT)=true) (h8:B0 L.length B.nk mT iT=true)
  (hf:∀i f,B.fok i f=(fT.getD i []).contains f) (hm:∀i m,B.mth i m=(mT.getD i []).lookup m) (hi:∀i,B.ini i=iT[i]?)
  (h9:n.kln.zipIdx.all (λp=>PySem.W.nsIn K mainGlobals p.1 == some (some (.ref (B.kls p.2)))&&decide (p.2<B.nk))=true)
  (glo:∀(k:Nat)(x:Str),n.gln[k]?=some x->∃u v,mg x=some u/\RelV v u/\vT K Pm (B.glo k) v)
  (xi:∀i f,n.xin.lookup i=some f->B.xin i=some f/\∃fI fd ps,XIni K (B.cls i) fI (fnm f)/\Binds K fd ps []/\∀(P:Program)(w:World)(base:Heap),FnOk P w K mg base (CX1 P w) 1 fI fd ps (nV (cpF f) K (B.cls i) (fnm f)))
  (xn:∀i f,i<B.ne->B.xin i=some f->NoAttr K (B.cls i) (fnm f))
  (hd:∀(f:Nat)(l:FL),L[f]?=some l->l.df≠[]->∀fd,nu K (B.fad f)=some fd->∃dv,Vals (l.df.map V.int) dv/\∀j,Binds K fd l.ps (dv.drop j)):Top Pm K mg L n B:=by
 unfold A6 at h5;simp only[GS,Hb]at h5;obtain⟨⟨⟨o1,o2⟩,o3⟩,o4⟩:=h5;unfold BS at h6;rw[GS]at h6;obtain⟨e1,e2⟩:=h6;unfold B0 at h8;simp only[GS,Hb]at h8;obtain⟨⟨t1,t2⟩,t3⟩:=h8;have ki:∀i,i<B.nk->kB K B fT mT iT i=true:=λi hi=>hU h7 hi
 refine⟨λl hl=>Hh.mp h1 l hl,λf l hl=>?_,λi hi=>?_,λi x hx=>?_,λi hi'=>?_,λi hi'=>?_,λi f hi' hf'=>?_,λi m f hi' hf'=>?_,λi x hx=>?_,glo,λx hx=>?_,o3,xi,xn⟩
 ·have g:=oH h3 hl;unfold fnB at g;simp only[GS]at g;obtain⟨⟨g1,g2⟩,g3⟩:=g;have hz:L.zipIdx[f]?=some (l,f):=by
   rw[List.getElem?_zipIdx,hl];simp
  have e:=congrArg (λz:List (Option FuncData)=>z[f]?) h2
  simp only[Hi,hz,Option.map_some,Option.some.injEq]at e;cases hfd:nu K (B.fad f) with
  |none=>rw[hfd]at g1;cases g1
  |some fd=>
   rw[hfd]at e g1;simp only[Option.map_some,Option.some.injEq]at e;obtain⟨oc,od,sl,lk⟩:=wA hfd;have hb:l.df=[]->∀us:List Value,us.length=l.ps.length->bindArgs fd ⟨us,[]⟩=pure (l.ps.zip us):=λz us hu=>by
    rw[e];unfold fdN;rw[z];exact h4 f l hl us hu _ _ _ _ _ _
   refine⟨fd,⟨⟨oc,od,_,fd.kwdefaults,fd.doc,fd.pyModule,fd.annotations,fd.code,fd.closureTuple,sl,e,lk,g1⟩,g2⟩,λz=>?_,hb,?_⟩
   ·rw[z]at g3;exact PySem.W.mg_of X Gn (Hb.mp (by simpa using g3))
   ·by_cases z:l.df=[]
    ·exact⟨[],by rw[z];exact .nil,λj=>by rw[List.drop_nil];exact .all (hb z)⟩
    ·exact hd f l hl z fd hfd
 ·have g:=hU e1 hi;rw[GS]at g;obtain⟨g1,g2⟩:=g;unfold CP at g1;simp only[GS,Hb]at g1;obtain⟨⟨⟨⟨⟨⟨a1,a2⟩,a3⟩,a4⟩,a5⟩,a6⟩,a7⟩:=g1;refine⟨⟨a1,a2,a3,a4,o1,o2,a5,a6⟩,a7,λj x hx=>?_⟩
  have hj:j<n.exc.length:=(Hv.mp hx).1;have g:=hU g2 hj;rw[GS,Hb]at g;exact g.1
 ·have g:=oH e2 hx;rw[GS,Hb]at g;refine⟨PySem.W.mg_of X Gn g.1,λz=>?_,λj hj=>?_⟩
  ·have g2:=g.2;rw[show n.xin.lookup (x,i).2=none from z]at g2;have g3:PySem.W.excIn K (B.cls i) bmV "ValueError.__new__"=true:=by simpa using g2
   exact g3
  ·have q:=hU e1 hj;rw[GS]at q;have hi:i<n.exc.length:=(Hv.mp hx).1;have g:=hU q.2 hi;rw[GS,Hb,Hb]at g;exact g.2
 ·have g:=ki i hi';unfold kB at g;simp only[GS,Hb]at g;obtain⟨⟨⟨⟨⟨⟨⟨⟨⟨a1,a2⟩,a3⟩,a4⟩,a5⟩,a6⟩,a7⟩,a8⟩,a9⟩,a10⟩:=g;have iI:∀f,B.ini i=some f->PySem.W.makesIn K (B.kls i)=true/\PySem.W.findIn K (.ref (B.kls i)) "__init__"=some (some (.ref (B.fad f)))/\PySem.W.isFn K (.ref (B.fad f))=true/\PySem.W.keepIn K (.ref (B.kls i))=true/\PySem.W.specialIn K (.ref (B.kls i)) "__getattribute__"=some (some (.builtin "type.__getattribute__"))/\PySem.W.readsIn K (B.kls i) (.type "type")=true/\PySem.W.findCls K (.ref (B.kls i)) (.type "type") "__init__"=some (.val (.ref (B.fad f))):=λf hf=>by
   rw[hi i]at hf;rw[hf]at a7;simp only[GS,Hb]at a7;obtain⟨⟨⟨⟨⟨⟨b1,b2⟩,b3⟩,b4⟩,b5⟩,b6⟩,b7⟩:=a7;refine⟨b1,b2,b3,b4,b5,b6,?_⟩;split at b7
   ·rename_i g hg;rw[hg,Hb.mp b7]
   ·cases b7
  refine⟨⟨a1,a2,a3,a4⟩,λf hf'=>?_,λm f hm'=>?_,λf hf'=>?_,λf hf'=>?_,⟨a8,o1,o2,a9⟩,λj hj=>?_⟩
  ·rw[hf i f]at hf';exact Hb.mp (Hh.mp a5 f (List.contains_iff_mem.mp hf'))
  ·rw[hm i m]at hm';have q:=Hh.mp a6 (m,f) (cu hm');simp only[GS,Hb]at q;exact⟨q.1.1,q.1.2,q.2⟩
  ·obtain⟨b1,b2,b3,b4,_⟩:=iI f hf';exact⟨b1,b2,b3,b4⟩
  ·obtain⟨_,_,_,_,b5,b6,b7⟩:=iI f hf';exact⟨b5,b6,b7⟩
  ·exact Hb.mp (hU a10 hj)
 ·rw[hi i];have:i<iT.length:=by rw[t1];exact hi'
  exact⟨iT[i],Hd this⟩
 ·rw[hi i]at hf';exact Ig (Hh.mp t2 f (HW hf'))
 ·rw[hm i m]at hf';have q:=cu hf';by_cases z:i<mT.length
  ·rw[List.getD_eq_getElem?_getD,Hd z]at q;exact Ig (Hh.mp (Hh.mp t3 _ (HU z)) _ q)
  ·rw[List.getD_eq_getElem?_getD,List.getElem?_eq_none (by omega)]at q
   cases q
 ·have g:=oH h9 hx;rw[GS,Hb]at g;exact⟨PySem.W.mg_of X Gn g.1,Ig g.2⟩
 ·exact PySem.W.mg_none_of X Gn (Hb.mp (Hh.mp o4 x hx))
theorem n0{P:List Value->Prop}(h:P []):∀us:List Value,us.length=0->P us:=us0 h
theorem n1{P:List Value->Prop}(h:∀a,P [a]):∀us:List Value,us.length=1->P us:=usS λa=>us0 (h a)
theorem n2{P:List Value->Prop}(h:∀a b,P [a,b]):∀us:List Value,us.length=2->P us:=usS λa=>usS λb=>us0 (h a b)
theorem n3{P:List Value->Prop}(h:∀a b c,P [a,b,c]):∀us:List Value,us.length=3->P us:=usS λa=>usS λb=>usS λc=>us0 (h a b c)
theorem n4{P:List Value->Prop}(h:∀a b c d,P [a,b,c,d]):∀us:List Value,us.length=4->P us:=usS λa=>usS λb=>usS λc=>usS λd=>us0 (h a b c d)
theorem n5{P:List Value->Prop}(h:∀a b c d e,P [a,b,c,d,e]):∀us:List Value,us.length=5->P us:=usS λa=>usS λb=>usS λc=>usS λd=>usS λe=>us0 (h a b c d e)
end L2
namespace L2
noncomputable def oi:Option Int->D
 |none=>.non
 |some i=>.int i
noncomputable abbrev pr(a b:Option Int):D:=.tup [oi a,oi b]
theorem cx{i j:Int}(h1:0<j)(h2:j<10 ^ 250):kO i j=True:=by
 refine eq_true ⟨h1,oW ?_⟩;omega
theorem c6{i j:Int}(h1 : -(10 ^ 240)<i)(h2:i<10 ^ 240)(h3 : -(10 ^ 240)<j)(h4:j<10 ^ 240):bK i j=True:=by
 refine eq_true ⟨oW ?_,oW ?_⟩<;>omega
theorem iL{i j:Int}(h1:0<=j)(h2:j<=1000000)(h3:i.natAbs<2 ^ 64):sZ i j=True:=eq_true ⟨h1,h2,h3⟩
theorem rW{α:Type}(a:α)(l:List α):atI (a::l) 0=some a:=by simp[atI,ixN]
theorem rE{α:Type}(a b:α)(l:List α):atI (a::b::l) 1=some b:=cL (j:=1) rfl
theorem rT{α:Type}(a b c:α)(l:List α):atI (a::b::c::l) 2=some c:=cL (j:=2) rfl
theorem tU{α:Type}(a b c d:α)(l:List α):atI (a::b::c::d::l) 3=some d:=cL (j:=3) rfl
end L2
namespace L2
open PySem
section
variable {W:WC}{σ:St3}
@[simp ↓] theorem GP:wpE W (.var 0) (some v::σ) M Q E=Q v M:=rfl
@[simp ↓] theorem GL:wpE W (.var 1) (y0::some v::σ) M Q E=Q v M:=rfl
@[simp ↓] theorem GI:wpE W (.var 2) (y0::y1::some v::σ) M Q E=Q v M:=rfl
@[simp ↓] theorem GD:wpE W (.var 3) (y0::y1::y2::some v::σ) M Q E=Q v M:=rfl
@[simp ↓] theorem GK:wpE W (.var 4) (y0::y1::y2::y3::some v::σ) M Q E=Q v M:=rfl
@[simp ↓] theorem GA:wpE W (.var 5) (y0::y1::y2::y3::y4::some v::σ) M Q E=Q v M:=rfl
@[simp ↓] theorem GJ:wpE W (.var 6) (y0::y1::y2::y3::y4::y5::some v::σ) M Q E=Q v M:=rfl
@[simp ↓] theorem GH:wpE W (.var 7) (y0::y1::y2::y3::y4::y5::y6::some v::σ) M Q E=Q v M:=rfl
@[simp ↓] theorem GB:wpE W (.var 8) (y0::y1::y2::y3::y4::y5::y6::y7::some v::σ) M Q E=Q v M:=rfl
@[simp ↓] theorem GM:wpE W (.var 9) (y0::y1::y2::y3::y4::y5::y6::y7::y8::some v::σ) M Q E=Q v M:=rfl
@[simp ↓] theorem Fv:wpE W (.var 10) (y0::y1::y2::y3::y4::y5::y6::y7::y8::y9::some v::σ) M Q E=Q v M:=rfl
@[simp ↓] theorem Fn:wpE W (.var 11) (y0::y1::y2::y3::y4::y5::y6::y7::y8::y9::y10::some v::σ) M Q E=Q v M:=rfl
@[simp ↓] theorem FY:wpE W (.var 12) (y0::y1::y2::y3::y4::y5::y6::y7::y8::y9::y10::y11::some v::σ) M Q E=Q v M:=rfl
@[simp ↓] theorem Gc:wpE W (.var 13) (y0::y1::y2::y3::y4::y5::y6::y7::y8::y9::y10::y11::y12::some v::σ) M Q E=Q v M:=rfl
@[simp ↓] theorem FZ:wpE W (.var 14) (y0::y1::y2::y3::y4::y5::y6::y7::y8::y9::y10::y11::y12::y13::some v::σ) M Q E=Q v M:=rfl
@[simp ↓] theorem F1:wpE W (.var 15) (y0::y1::y2::y3::y4::y5::y6::y7::y8::y9::y10::y11::y12::y13::y14::some v::σ) M Q E=Q v M:=rfl
@[simp ↓] theorem FT:wpE W (.var 16) (y0::y1::y2::y3::y4::y5::y6::y7::y8::y9::y10::y11::y12::y13::y14::y15::some v::σ) M Q E=Q v M:=rfl
@[simp ↓] theorem Fy:wpE W (.var 17) (y0::y1::y2::y3::y4::y5::y6::y7::y8::y9::y10::y11::y12::y13::y14::y15::y16::some v::σ) M Q E=Q v M:=rfl
@[simp ↓] theorem Gj:wpE W (.con v) σ M Q E=Q v M:=rfl
@[simp ↓] theorem Fr{op a b}:wpE W (.bin op a b) σ M Q E=wpE W a σ M (λx M1=>wpE W b σ M1 (λy M2=>jZ op x y M2 Q) E) E:=rfl
@[simp ↓] theorem FG{a}:wpE W (.neg a) σ M Q E=wpE W a σ M (λx M1=>rNeg x M1 Q) E:=rfl
@[simp ↓] theorem Fp{fz a b}:wpE W (.cat fz a b) σ M Q E=wpE W a σ M (λx M1=>wpE W b σ M1 (λy M2=>jV fz x y M2 Q) E) E:=rfl
@[simp ↓] theorem FW{op a b}:wpE W (.cmp op a b) σ M Q E=wpE W a σ M (λx M1=>wpE W b σ M1 (λy M2=>aH op x y M2 Q) E) E:=rfl
@[simp ↓] theorem DR{op op' a b c}:wpE W (.chain op op' a b c) σ M Q E=wpE W a σ M (λx M1=>wpE W b σ M1 (λy M2=>aH op x y M2 λr M3=>match r with
  |.bl k=>if k=true then wpE W c σ M3 (λz M4=>aH op' y z M4 Q) E else Q (.bl false) M3
  |_=>False) E) E:=rfl
@[simp ↓] theorem Gu{a b}:wpE W (.and a b) σ M Q E=wpE W a σ M (λx M1=>match x with
  |.bl c=>if c=true then wpE W b σ M1 Q E else Q (.bl false) M1
  |_=>False) E:=rfl
@[simp ↓] theorem F4{a}:wpE W (.not a) σ M Q E=wpE W a σ M (λx M1=>match x with
  |.bl c=>Q (.bl (!c)) M1
  |_=>False) E:=rfl
@[simp ↓] theorem F9{es}:wpE W (.tup es) σ M Q E=wpA W es σ M (λxs M1=>xs.length<=sizeLine/\Q (.tup xs) M1) E:=rfl
@[simp ↓] theorem F8{fz es}:wpE W (.lst fz es) σ M Q E=wpA W es σ M (λxs M1=>eI fz xs M1 Q) E:=rfl
@[simp ↓] theorem Gv{e}:wpE W (.frz e) σ M Q E=wpE W e σ M (aY Q) E:=rfl
@[simp ↓] theorem GR{a b}:wpE W (.ix a b) σ M Q E=wpE W a σ M (λx M1=>wpE W b σ M1 (λy M2=>ao x y M2 Q) E) E:=rfl
@[simp ↓] theorem GG{fz a lo hi}:wpE W (.sl fz a lo hi) σ M Q E=wpE W a σ M (λx M1=>wpO W lo σ M1 (λl M2=>wpO W hi σ M2 (λh M3=>mE fz x l h M3 Q) E) E) E:=rfl
@[simp ↓] theorem ET{f es}:wpE W (.call f es) σ M Q E=wpA W es σ M (λxs M1=>W.call f xs M1 Q E) E:=rfl
@[simp ↓] theorem GQ{b es}:wpE W (.bi b es) σ M Q E=wpA W es σ M (λxs M1=>rBi b xs M1 Q) E:=rfl
@[simp ↓] theorem FR{e t}:wpE W (.isB e t) σ M Q E=wpE W e σ M (λx M1=>j9 t x M1 Q) E:=rfl
@[simp ↓] theorem F7{e c}:wpE W (.isC e c) σ M Q E=wpE W e σ M (λx M1=>iG W.ne W.cls (λi=>W.sub i c) x M1 Q) E:=rfl
@[simp ↓] theorem Gx{e}:wpE W (.isV e) σ M Q E=wpE W e σ M (λx M1=>iG W.ne W.cls (λ_=>true) x M1 Q) E:=rfl
@[simp ↓] theorem Ek{k v}:wpE W (.dctT k v) σ M Q E=∀p,M p=none->wpE W k σ (put M p (.dt [] [])) (λx M1=>wpE W v σ M1 (λy M2=>iu p x y M2 Q) E) E:=rfl
@[simp ↓] theorem Gr{e}:wpE W (.mmp e) σ M Q E=wpE W e σ M (λx M1=>rMp x M1 Q) E:=rfl
@[simp ↓] theorem FO{e f}:wpE W (.fld e f) σ M Q E=wpE W e σ M (λx M1=>dX W.toWB f x M1 Q) E:=rfl
@[simp ↓] theorem Du{i es}:wpE W (.make true i es) σ M Q E=wpA W es σ M (λxs M1=>i<W.nk/\fX (W.ini i) λf=>∀p,M1 p=none->W.call f (.ref p::xs) (put M1 p (.ins i (W.kls i) [] [])) (λv M2=>v=.non/\aY Q (.ref p) M2) (λi M'=>E i (L2.del M' p))) E:=rfl
@[simp ↓] theorem DT{e m es}:wpE W (.meth e m es) σ M Q E=wpE W e σ M (λx M1=>cZ W.toWB m x M1 λf=>wpA W es σ M1 (λxs M2=>W.call f (x::xs) M2 Q E) E) E:=rfl
@[simp ↓] theorem Ge{i es}:wpE W (.ini i es) σ M Q E=wpA W es σ M (λxs M1=>i<W.nk/\fX (W.ini i) λf=>W.call f xs M1 Q E) E:=rfl
@[simp ↓] theorem Gk{k}:wpE W (.glo k) σ M Q E=uc (W.glo k) M Q:=rfl
@[simp ↓] theorem GF{b o es}:wpE W (.bm b o es) σ M Q E=wpE W o σ M (λx M1=>tyB b x M1=true/\wpA W es σ M1 (λxs M2=>rBm b x xs M2 Q) E) E:=rfl
@[simp] theorem AM:aK M M=M:=by
 funext a;unfold aK;split<;>simp_all
@[simp] theorem jL(h:M p=none):aK M (put M' p o)=aK M M':=by
 funext a;unfold aK put;split
 ·rename_i x e;split
  ·rename_i z;subst z;rw[h]at e;cases e
  ·rfl
 ·rfl
@[simp] theorem nZ(h:M p=some u):aK M (put M' p o)=put (aK M M') p o:=by
 funext a;unfold aK put;by_cases z:a=p
 ·subst z;simp[h]
 ·simp[z]
@[simp] theorem Dz:aK (put M p o) (put M' p u)=put (aK M M') p u:=by
 funext a;unfold aK put;by_cases z:a=p
 ·subst z;simp
 ·simp[z]
@[simp ↓] theorem BP:fX (some f) R=R f:=rfl
@[simp ↓] theorem DL{B:WB}{f i C ns ds}:dX B f (.obj i C ns ds) M Q=((C=B.kls i/\i<B.nk/\B.fok i f=true)/\j5 f ns ds M Q):=rfl
@[simp ↓] theorem Bb{f n ns d ds}:j5 f (n::ns) (d::ds) M Q=if n=f then Q d M else j5 f ns ds M Q:=by
 unfold j5;rw[bU];by_cases h:n=f
 ·rw[G3 h,G3 h]
 ·rw[GV h,GV h]
@[simp ↓] theorem gD{B:WB}{m i C ns ds}:cZ B m (.obj i C ns ds) M R=((C=B.kls i/\i<B.nk/\bU m ns ds=none)/\fX (B.mth i m) R):=rfl
@[simp] theorem AO:bU f [] ds=none:=by unfold bU;rfl
@[simp] theorem zI:bU f (n::ns) (d::ds)=if n=f then some d else bU f ns ds:=by rw[bU]
@[simp] theorem AQ:b9 f []=[f]:=rfl
@[simp] theorem Ax:b9 f (n::ns)=if n=f then n::ns else n::b9 f ns:=rfl
@[simp] theorem AN:b8 f y [] ds=[y]:=by unfold b8;rfl
@[simp] theorem zr:b8 f y (n::ns) (d::ds)=if n=f then y::ds else d::b8 f y ns ds:=by rw[b8]
@[simp ↓] theorem xA{ds}(h:M a=none):aY Q (.ref a) (put M a (.lst ds))=Q (.rol ds) M:=by
 simp only[aY,ag,gt h]
@[simp ↓] theorem Dc{i C ns ds}(h:M a=none):aY Q (.ref a) (put M a (.ins i C ns ds))=dQ ds M (λr M'=>Q (.obj i C ns r) M'):=by
 simp only[aY,ag,gt h]
@[simp ↓] theorem Bu:dQ [] M R=R [] M:=rfl
@[simp ↓] theorem Bn{i ds}:dQ (.int i::ds) M R=dQ ds M (λr M'=>R (.int i::r) M'):=rfl
@[simp ↓] theorem A2{i ds}:dQ (.tup i::ds) M R=dQ ds M (λr M'=>R (.tup i::r) M'):=rfl
@[simp ↓] theorem Dh{fz ds lo hi}:mE fz (.tup ds) lo hi M Q=(whole ds.length lo hi=false/\Q (.tup (dR ds lo hi)) M):=rfl
@[simp ↓] theorem DB{ds lo hi}:mE true (.rol ds) lo hi M Q=((dR ds lo hi).length<=sizeLine/\Q (.rol (dR ds lo hi)) M):=rfl
@[simp ↓] theorem Dx{a b}:jZ .Add (.tup a) (.tup b) M Q=(a.length+b.length<=sizeLine/\Q (.tup (a++b)) M):=rfl
@[simp ↓] theorem E6{tk}:wpE W (.dnew tk) σ M Q E=∀p,M p=none->Q (.ref p) (put M p (if tk=true then .dt [] [] else .dk [] [])):=rfl
theorem ur{ks ds}(h:M a=some (.dk ks ds)):tyB .get (.ref a) M=true:=by simp[tyB,gA,h]
theorem qx{ks ds}(h:M a=some (.dk ks ds)):rBm .get (.ref a) [.int i,z] M Q=Q ((getD ks ds (.inl i)).getD z) M:=by simp[rBm,gQ,gA,h,lO]
theorem iV{ds}(h:M a=some (.lst ds)):isLstM (.ref a) M=true:=by simp[isLstM,h]
@[simp] theorem Ai{x}:tyB .extend x M=isLstM x M:=rfl
theorem ni{ks ds}(h:M a=some (.dk ks ds)):aS (.ref a) (.int i) y M R=(ks.length<sizeLine/\R (put M a (.dk (aj ks (.inl i)) (ak ks ds (.inl i) y)))):=by simp[aS,h,lO]
theorem ky{ds}(h:M a=some (.lst ds))(hj:ixN ds.length i=some j):aS (.ref a) (.int i) y M R=R (put M a (.lst (ds.set j y))):=by simp[aS,h,hj]
theorem aR[DecidableEq κ]:∀{ks:List κ}{ds:List D}{k x:κ}{y:D},ks.length=ds.length->getD (aj ks k) (ak ks ds k y) x=if k=x then some y else getD ks ds x
 |[],ds,k,x,y,_=>by
  simp only[aj,ak];by_cases h:k=x
  ·simp[getD,h]
  ·cases ds<;>simp[getD,h]
 |k'::ks,[],k,x,y,h=>by simp at h
 |k'::ks,d::ds,k,x,y,h=>by
  simp only[aj,ak];have hl:ks.length=ds.length:=by simpa using h
  by_cases e:k'=k
  ·subst e;by_cases h2:k'=x<;>simp[getD,h2]
  ·simp only[GV e,getD];by_cases h2:k'=x
   ·subst h2;rw[G3 rfl,GV (He e),G3 rfl]
   ·rw[GV h2,GV h2];exact aR hl
theorem bo[DecidableEq κ]:∀{ks:List κ}{ds:List D}{k:κ}{y:D},ks.length=ds.length->(aj ks k).length=(ak ks ds k y).length
 |[],ds,k,y,_=>by simp[aj,ak]
 |k'::ks,[],k,y,h=>by simp at h
 |k'::ks,d::ds,k,y,h=>by
  have hl:ks.length=ds.length:=by simpa using h
  simp only[aj,ak];by_cases e:k'=k
  ·simp[e,hl]
  ·simp only[GV e,Hk];rw[bo (k:=k) (y:=y) hl]
@[simp ↓] theorem Aw{ne:Nat}{cls:Nat->Addr}{r:Nat->Bool}{a:Addr}{c:Nat}{pl:Option (Nat×D)}:iG ne cls r (.ref a) (put M a (.exc ⟨c,pl⟩ (.ref (cls c)))) Q=(c<ne/\Q (.bl (r c)) (put M a (.exc ⟨c,pl⟩ (.ref (cls c))))):=by
 simp[iG,ag]
@[simp ↓] theorem DI{c j body r i De}:wpH W (.cons c (some j) body r) i De σ M=(i.c<W.ne/\if W.sub i.c c=true then (∀a,M a=none->aX W body (ot De j) (λ_ _ _=>False) (σ.set j (some (.ref a))) (put M a (.exc i (.ref (W.cls i.c))))) else wpH W r i De σ M):=rfl
def lg(W:WC)(tg:ITg)(cond:ITO)(elt:IE)(S:MH->Prop)(p:Addr)(Q:VK3):List D->List D->St3->MH->Prop:=dH (wpG tg) (λσ M Q=>md W cond σ M Q (λ_ _=>False)) (λσ M Q=>wpE W elt σ M Q (λ_ _=>False)) S p Q
def d9(W:WC)(tg:ITg)(cond:ITO)(elt:IE)(S:MH->Prop)(Q:VK3)(ds:List D)(σ:St3)(M:MH):Prop:=∀p,M p=none->lg W tg cond elt S p (fM Q) ds [] σ (put M p (.lst []))
@[simp ↓] theorem Dy{N js tg it cond elt}:wpE W (.comp true N js tg it cond elt) σ M Q E=wpI W it σ M (λds S M1=>d9 W tg cond elt S Q ds (aA js σ) M1) E:=rfl
@[simp ↓] theorem Ez{e}:wpT W (.val e) σ M QB E=wpE W e σ M (λx M1=>match x with
  |.bl k=>QB k M1
  |_=>False) E:=rfl
@[simp ↓] theorem EA{op a b}:wpT W (.cmp op a b) σ M QB E=wpE W a σ M (λx M1=>wpE W b σ M1 (λy M2=>aH op x y M2 λr M3=>match r with
  |.bl k=>QB k M3
  |_=>False) E) E:=rfl
@[simp ↓] theorem Et{a b}:wpT W (.and a b) σ M QB E=wpT W a σ M (λc M1=>if c=true then wpT W b σ M1 QB E else QB false M1) E:=rfl
@[simp ↓] theorem FQ{a b}:wpT W (.or a b) σ M QB E=wpT W a σ M (λc M1=>if c=true then QB true M1 else wpT W b σ M1 QB E) E:=rfl
@[simp ↓] theorem EQ{a}:wpT W (.not a) σ M QB E=wpT W a σ M (λc M1=>QB (!c) M1) E:=rfl
@[simp ↓] theorem Ey:wpA W .nil σ M QL E=QL [] M:=rfl
@[simp ↓] theorem Dk{e r}:wpA W (.cons e r) σ M QL E=wpE W e σ M (λx M1=>wpA W r σ M1 (λxs M2=>QL (x::xs) M2) E) E:=rfl
@[simp ↓] theorem Gd:wpO W .no σ M QO E=QO none M:=rfl
@[simp ↓] theorem Fl{e}:wpO W (.yes e) σ M QO E=wpE W e σ M (λx M1=>match x with
  |.int i=>QO (some i) M1
  |_=>False) E:=rfl
@[simp ↓] theorem Gw:md W .no σ M QB E=QB true M:=rfl
@[simp ↓] theorem DZ{e}:md W (.yes e) σ M QB E=wpT W e σ M QB E:=rfl
def mZ(R:List D->(MH->Prop)->MH->Prop):VK3:=λx M1=>match x with
  |.tup ds=>R ds (λ_=>True) M1
  |.rol ds=>R ds (λ_=>True) M1
  |.ref a=>match M1 a with
   |some (.lst ds)=>R ds (λM=>M a=some (.lst ds)) M1
   |_=>False
  |.str z=>R (iB z) (λ_=>True) M1
  |_=>False
@[simp ↓] theorem AX{ds}:mZ R (.tup ds) M=R ds (λ_=>True) M:=rfl
@[simp ↓] theorem jk{ds}:mZ R (.rol ds) M=R ds (λ_=>True) M:=rfl
theorem tE{a ds}(h:M a=some (.lst ds)):mZ R (.ref a) M=R ds (λM=>M a=some (.lst ds)) M:=by
 unfold mZ;simp only[h]
@[simp ↓] theorem D5{e}:wpI W (.seq e) σ M R E=wpE W e σ M (mZ R) E:=rfl
@[simp ↓] theorem C8{a}:wpI W (.enum a) σ M R E=wpE W a σ M (λx M1=>match x with
  |.rol ds=>R (bh 0 ds) (λ_=>True) M1
  |.ref a=>match M1 a with
   |some (.lst ds)=>R (bh 0 ds) (λM=>M a=some (.lst ds)) M1
   |_=>False
  |_=>False) E:=rfl
@[simp ↓] theorem BZ{a}:wpI W (.items a) σ M R E=wpE W a σ M (λx M1=>match x with
  |.dit ks ds=>R (cy ks ds) (λ_=>True) M1
  |_=>False) E:=rfl
@[simp ↓] theorem FD{a}:wpI W (.dk a) σ M R E=wpE W a σ M (λx M1=>match x with
  |.dit ks ds=>R (ks.map jH) (λ_=>True) M1
  |_=>False) E:=rfl
@[simp ↓] theorem EZ{a b}:wpI W (.zip a b) σ M R E=wpE W a σ M (λx M1=>wpE W b σ M1 (λy M2=>match x,y with
  |.rol xs,.rol ys=>R (cJ xs ys) (λ_=>True) M2
  |.rol xs,.ref b=>match M2 b with
   |some (.lst ys)=>R (cJ xs ys) (λM=>M b=some (.lst ys)) M2
   |_=>False
  |_,_=>False) E) E:=rfl
@[simp ↓] theorem Dp{a}:wpI W (.rng1 a) σ M R E=wpE W a σ M (λx M1=>match x with
  |.int j=>-(2 ^ 62)<=j/\j<2 ^ 62/\R (rng 0 j.toNat) (λ_=>True) M1
  |_=>False) E:=rfl
end
section
variable {W:WC}{σ:St3}{De:Ends3}{x:Option D}
@[simp ↓] theorem EN:aX W .nil De ES σ M=De.nx σ M:=rfl
@[simp ↓] theorem Ds{s r}:aX W (.cons s r) De ES (x::σ) M=wpS W s {De with nx:=λσ' M'=>aX W r De ES σ' M'} ES (x::σ) M:=rfl
@[simp ↓] theorem Eg{e}:wpS W (.set 1 e) De ES (y0::x::σ) M=wpE W e (y0::x::σ) M (λv M1=>De.nx (y0::some v::σ) M1) (ES (y0::x::σ)):=rfl
@[simp ↓] theorem Eo{e}:wpS W (.set 2 e) De ES (y0::y1::x::σ) M=wpE W e (y0::y1::x::σ) M (λv M1=>De.nx (y0::y1::some v::σ) M1) (ES (y0::y1::x::σ)):=rfl
@[simp ↓] theorem Fb{e}:wpS W (.set 3 e) De ES (y0::y1::y2::x::σ) M=wpE W e (y0::y1::y2::x::σ) M (λv M1=>De.nx (y0::y1::y2::some v::σ) M1) (ES (y0::y1::y2::x::σ)):=rfl
@[simp ↓] theorem Ei{e}:wpS W (.set 4 e) De ES (y0::y1::y2::y3::x::σ) M=wpE W e (y0::y1::y2::y3::x::σ) M (λv M1=>De.nx (y0::y1::y2::y3::some v::σ) M1) (ES (y0::y1::y2::y3::x::σ)):=rfl
@[simp ↓] theorem D7{e}:wpS W (.set 5 e) De ES (y0::y1::y2::y3::y4::x::σ) M=wpE W e (y0::y1::y2::y3::y4::x::σ) M (λv M1=>De.nx (y0::y1::y2::y3::y4::some v::σ) M1) (ES (y0::y1::y2::y3::y4::x::σ)):=rfl
@[simp ↓] theorem EK{e}:wpS W (.set 6 e) De ES (y0::y1::y2::y3::y4::y5::x::σ) M=wpE W e (y0::y1::y2::y3::y4::y5::x::σ) M (λv M1=>De.nx (y0::y1::y2::y3::y4::y5::some v::σ) M1) (ES (y0::y1::y2::y3::y4::y5::x::σ)):=rfl
@[simp ↓] theorem EE{e}:wpS W (.set 7 e) De ES (y0::y1::y2::y3::y4::y5::y6::x::σ) M=wpE W e (y0::y1::y2::y3::y4::y5::y6::x::σ) M (λv M1=>De.nx (y0::y1::y2::y3::y4::y5::y6::some v::σ) M1) (ES (y0::y1::y2::y3::y4::y5::y6::x::σ)):=rfl
@[simp ↓] theorem Ej{e}:wpS W (.set 8 e) De ES (y0::y1::y2::y3::y4::y5::y6::y7::x::σ) M=wpE W e (y0::y1::y2::y3::y4::y5::y6::y7::x::σ) M (λv M1=>De.nx (y0::y1::y2::y3::y4::y5::y6::y7::some v::σ) M1) (ES (y0::y1::y2::y3::y4::y5::y6::y7::x::σ)):=rfl
@[simp ↓] theorem Fd{e}:wpS W (.set 9 e) De ES (y0::y1::y2::y3::y4::y5::y6::y7::y8::x::σ) M=wpE W e (y0::y1::y2::y3::y4::y5::y6::y7::y8::x::σ) M (λv M1=>De.nx (y0::y1::y2::y3::y4::y5::y6::y7::y8::some v::σ) M1) (ES (y0::y1::y2::y3::y4::y5::y6::y7::y8::x::σ)):=rfl
@[simp ↓] theorem Do{e}:wpS W (.set 10 e) De ES (y0::y1::y2::y3::y4::y5::y6::y7::y8::y9::x::σ) M=wpE W e (y0::y1::y2::y3::y4::y5::y6::y7::y8::y9::x::σ) M (λv M1=>De.nx (y0::y1::y2::y3::y4::y5::y6::y7::y8::y9::some v::σ) M1) (ES (y0::y1::y2::y3::y4::y5::y6::y7::y8::y9::x::σ)):=rfl
@[simp ↓] theorem Dw{e}:wpS W (.set 11 e) De ES (y0::y1::y2::y3::y4::y5::y6::y7::y8::y9::y10::x::σ) M=wpE W e (y0::y1::y2::y3::y4::y5::y6::y7::y8::y9::y10::x::σ) M (λv M1=>De.nx (y0::y1::y2::y3::y4::y5::y6::y7::y8::y9::y10::some v::σ) M1) (ES (y0::y1::y2::y3::y4::y5::y6::y7::y8::y9::y10::x::σ)):=rfl
@[simp ↓] theorem Dr{e}:wpS W (.set 12 e) De ES (y0::y1::y2::y3::y4::y5::y6::y7::y8::y9::y10::y11::x::σ) M=wpE W e (y0::y1::y2::y3::y4::y5::y6::y7::y8::y9::y10::y11::x::σ) M (λv M1=>De.nx (y0::y1::y2::y3::y4::y5::y6::y7::y8::y9::y10::y11::some v::σ) M1) (ES (y0::y1::y2::y3::y4::y5::y6::y7::y8::y9::y10::y11::x::σ)):=rfl
@[simp ↓] theorem Db{e}:wpS W (.set 13 e) De ES (y0::y1::y2::y3::y4::y5::y6::y7::y8::y9::y10::y11::y12::x::σ) M=wpE W e (y0::y1::y2::y3::y4::y5::y6::y7::y8::y9::y10::y11::y12::x::σ) M (λv M1=>De.nx (y0::y1::y2::y3::y4::y5::y6::y7::y8::y9::y10::y11::y12::some v::σ) M1) (ES (y0::y1::y2::y3::y4::y5::y6::y7::y8::y9::y10::y11::y12::x::σ)):=rfl
@[simp ↓] theorem Dm{e}:wpS W (.set 14 e) De ES (y0::y1::y2::y3::y4::y5::y6::y7::y8::y9::y10::y11::y12::y13::x::σ) M=wpE W e (y0::y1::y2::y3::y4::y5::y6::y7::y8::y9::y10::y11::y12::y13::x::σ) M (λv M1=>De.nx (y0::y1::y2::y3::y4::y5::y6::y7::y8::y9::y10::y11::y12::y13::some v::σ) M1) (ES (y0::y1::y2::y3::y4::y5::y6::y7::y8::y9::y10::y11::y12::y13::x::σ)):=rfl
@[simp ↓] theorem DC{e}:wpS W (.set 15 e) De ES (y0::y1::y2::y3::y4::y5::y6::y7::y8::y9::y10::y11::y12::y13::y14::x::σ) M=wpE W e (y0::y1::y2::y3::y4::y5::y6::y7::y8::y9::y10::y11::y12::y13::y14::x::σ) M (λv M1=>De.nx (y0::y1::y2::y3::y4::y5::y6::y7::y8::y9::y10::y11::y12::y13::y14::some v::σ) M1) (ES (y0::y1::y2::y3::y4::y5::y6::y7::y8::y9::y10::y11::y12::y13::y14::x::σ)):=rfl
@[simp ↓] theorem DK{e}:wpS W (.set 16 e) De ES (y0::y1::y2::y3::y4::y5::y6::y7::y8::y9::y10::y11::y12::y13::y14::y15::x::σ) M=wpE W e (y0::y1::y2::y3::y4::y5::y6::y7::y8::y9::y10::y11::y12::y13::y14::y15::x::σ) M (λv M1=>De.nx (y0::y1::y2::y3::y4::y5::y6::y7::y8::y9::y10::y11::y12::y13::y14::y15::some v::σ) M1) (ES (y0::y1::y2::y3::y4::y5::y6::y7::y8::y9::y10::y11::y12::y13::y14::y15::x::σ)):=rfl
@[simp ↓] theorem Df{e}:wpS W (.set 17 e) De ES (y0::y1::y2::y3::y4::y5::y6::y7::y8::y9::y10::y11::y12::y13::y14::y15::y16::x::σ) M=wpE W e (y0::y1::y2::y3::y4::y5::y6::y7::y8::y9::y10::y11::y12::y13::y14::y15::y16::x::σ) M (λv M1=>De.nx (y0::y1::y2::y3::y4::y5::y6::y7::y8::y9::y10::y11::y12::y13::y14::y15::y16::some v::σ) M1) (ES (y0::y1::y2::y3::y4::y5::y6::y7::y8::y9::y10::y11::y12::y13::y14::y15::y16::x::σ)):=rfl
@[simp ↓] theorem Dj{j}:(ot De j).nx σ M=De.nx (σ.set j none) M:=rfl
def jh(B:WB)(f:Nat)(y:D)(R:MH->Prop):VK3:=λx M2=>match x with
  |.ref a=>match M2 a with
   |some (.ins i C ns ds)=>(C=B.kls i/\i<B.nk/\B.fok i f=true/\ns.length<1000)/\R (put M2 a (.ins i C (b9 f ns) (b8 f y ns ds)))
   |_=>False
  |_=>False
@[simp ↓] theorem Cl{B:WB}{i C ns ds}:jh B f y R (.ref a) (put M a (.ins i C ns ds))=((C=B.kls i/\i<B.nk/\B.fok i f=true/\ns.length<1000)/\R (put M a (.ins i C (b9 f ns) (b8 f y ns ds)))):=by
 simp[jh,ag,bv]
def iH(is:List Nat)(σ:St3)(k:St3->MH->Prop):VK3:=λx M1=>match x with
  |.tup ds=>ds.length=is.length/\k ((is.zip ds).foldl (λσ p=>σ.set p.1 (some p.2)) σ) M1
  |_=>False
@[simp ↓] theorem Dv{i j a b k}:iH [i,j] σ k (.tup [a,b]) M=k ((σ.set i (some a)).set j (some b)) M:=by
 simp[iH]
@[simp ↓] theorem Fk{is e}:wpS W (.unp is e) De ES σ M=wpE W e σ M (iH is σ De.nx) (ES σ):=rfl
@[simp ↓] theorem DH{e}:wpS W (.expr e) De ES σ M=wpE W e σ M (λ_ M1=>De.nx σ M1) (ES σ):=rfl
@[simp ↓] theorem Ep{e}:wpS W (.ret e) De ES σ M=wpE W e σ M De.rt (ES σ):=rfl
@[simp ↓] theorem C6:wpS W .dead De ES σ M=False:=rfl
@[simp ↓] theorem C4{o f e}:wpS W (.fset o f e) De ES σ M=wpE W e σ M (λy M1=>wpE W o σ M1 (jh W.toWB f y (De.nx σ)) (ES σ)) (ES σ):=rfl
@[simp ↓] theorem CC{o i e}:wpS W (.ixset o i e) De ES σ M=wpE W e σ M (λy M1=>wpE W o σ M1 (λx M2=>wpE W i σ M2 (λk M3=>aS x k y M3 λM4=>De.nx σ M4) (ES σ)) (ES σ)) (ES σ):=rfl
@[simp ↓] theorem EH{c a b}:wpS W (.ifs c a b) De ES σ M=wpT W c σ M (λk M1=>if k=true then aX W a De ES σ M1 else aX W b De ES σ M1) (ES σ):=rfl
def bz(W:WC)(tg:ITg)(body:ISs)(ES:St3->XN)(S:MH->Prop)(De:Ends3):List D->St3->MH->Prop:=jN (wpG tg) (λD σ M=>aX W body D ES σ M) S De
@[simp ↓] theorem Fj{tg it body}:wpS W (.for_ tg it body) De ES σ M=wpI W it σ M (λds S M1=>bz W tg body ES S De ds σ M1) (ES σ):=rfl
theorem aT{tg body S}:bz W tg body ES S De [] σ M=(S M/\De.nx σ M):=rfl
theorem aF{tg body S d r}:bz W tg body ES S De (d::r) σ M=(S M/\wpG tg d σ M λσ2 M2=>aX W body {De with nx:=bz W tg body ES S De r,ct:=bz W tg body ES S De r,bk:=De.nx} ES σ2 M2):=rfl
@[simp ↓] theorem CA{c es}:wpS W (.raise c es) De ES σ M=wpA W es σ M (λxs M1=>xs.length<=sizeLine/\ES σ ⟨c,none⟩ M1) (ES σ):=rfl
@[simp ↓] theorem DM{body hs el}:wpS W (.tryE body hs el) De ES σ M=aX W body {De with nx:=λσ' M'=>aX W el De ES σ' M'} (λσ' i M'=>wpH W hs i De σ' M') σ M:=rfl
def pp(W:WC)(e:IE)(De:Ends3)(E:XN)(σ:St3):VK3:=λx M1=>match x with
  |.ref a=>match M1 a with
   |some (.lst _)=>wpE W e σ M1 (λy M2=>match M2 a with
    |some (.lst ds)=>ds.length<sizeLine/\De.nx σ (put M2 a (.lst (ds++[y])))
    |_=>False) E
   |_=>False
  |_=>False
@[simp ↓] theorem Ea{o e}:wpS W (.app o e) De ES σ M=wpE W o σ M (pp W e De (ES σ) σ) (ES σ):=rfl
def cB(p:Addr)(De:Ends3)(σ:St3):VK3:=λy M2=>match M2 p with
    |some (.lst ds)=>ds.length<sizeLine/\De.nx σ (put M2 p (.lst (ds++[y])))
    |_=>False
@[simp ↓] theorem Di{e E p ds}:pp W e De E σ (.ref p) (put M p (.lst ds))=wpE W e σ (put M p (.lst ds)) (cB p De σ) E:=by
 unfold pp;simp only[ag];rfl
@[simp ↓] theorem Cv{p ds y}:cB p De σ y (put M p (.lst ds))=(ds.length<sizeLine/\De.nx σ (put M p (.lst (ds++[y])))):=by
 unfold cB;simp only[ag,bv]
@[simp ↓] theorem qk{i d k}:wpG (.name i) d σ M k=k (σ.set i (some d)) M:=rfl
@[simp ↓] theorem Eu{is d k}:wpG (.tup is) d σ M k=iH is σ k d M:=rfl
end
section
variable {i j:Int}{x:D}
@[simp ↓] theorem Ga:jZ .Add (.int i) (.int j) M Q=Q (.int (i+j)) M:=rfl
@[simp ↓] theorem Fx:jZ .Sub (.int i) (.int j) M Q=Q (.int (i-j)) M:=rfl
@[simp ↓] theorem Fq:jZ .Mult (.int i) (.int j) M Q=(bK i j/\Q (.int (i*j)) M):=rfl
@[simp ↓] theorem Gm:jZ .FloorDiv (.int i) (.int j) M Q=(kO i j/\Q (.int (i / j)) M):=rfl
@[simp ↓] theorem Go:jZ .Mod (.int i) (.int j) M Q=(0<j/\Q (.int (i % j)) M):=rfl
@[simp ↓] theorem Gh:jZ .Pow (.int i) (.int j) M Q=(sZ i j/\Q (.int (i ^ j.toNat)) M):=rfl
@[simp ↓] theorem FJ:rNeg (.int i) M Q=Q (.int (-i)) M:=rfl
@[simp ↓] theorem Gz:aH .Lt (.int i) (.int j) M Q=Q (.bl (decide (i<j))) M:=rfl
@[simp ↓] theorem GO:aH .LtE (.int i) (.int j) M Q=Q (.bl (decide (i<=j))) M:=rfl
@[simp ↓] theorem GN:aH .Gt (.int i) (.int j) M Q=Q (.bl (decide (j<i))) M:=rfl
@[simp ↓] theorem FU:aH .Eq (.int i) (.int j) M Q=Q (.bl (decide (i=j))) M:=by simp[aH,j3,rs,ai,plN,eqD]
@[simp ↓] theorem Gb:aH .NotEq (.int i) (.int j) M Q=Q (.bl (!decide (i=j))) M:=by simp[aH,j3,rs,ai,plN,eqD]
@[simp ↓] theorem FH:aH .Eq (.str s) (.str t) M Q=Q (.bl (decide (s=t))) M:=by simp[aH,j3,rs,ai,plN,eqD]
@[simp ↓] theorem F6:aH .Is x .non M Q=Q (.bl x.isN) M:=by simp[aH,rQ]
@[simp ↓] theorem E5:aH .IsNot x .non M Q=Q (.bl (!x.isN)) M:=by simp[aH,rQ]
@[simp] theorem C5:(D.int i).isN=false:=rfl
@[simp] theorem Dg:D.non.isN=true:=rfl
@[simp ↓] theorem Fo{d l}:ao (.tup (d::l)) (.int 0) M Q=Q d M:=by simp[ao,aD,rW]
@[simp ↓] theorem Ft{d e l}:ao (.tup (d::e::l)) (.int 1) M Q=Q e M:=by simp[ao,aD,rE]
@[simp ↓] theorem FE{d e f l}:ao (.tup (d::e::f::l)) (.int 2) M Q=Q f M:=by simp[ao,aD,rT]
@[simp ↓] theorem Gf{d e f g l}:ao (.tup (d::e::f::g::l)) (.int 3) M Q=Q g M:=by simp[ao,aD,tU]
@[simp ↓] theorem FP{d e f g h l}:ao (.tup (d::e::f::g::h::l)) (.int 4) M Q=Q h M:=by
 have:atI (d::e::f::g::h::l) 4=some h:=cL (j:=4) rfl;simp[ao,aD,this]
theorem ma{ds y}(h:M a=some (.lst ds)):ao (.ref a) y M Q=ao (.rol ds) y M Q:=by
 cases y<;>simp[ao,aD,ai,h]
@[simp ↓] theorem B7{ds}:rBi (.list true) [.rol ds] M Q=(ds.length<=sizeLine/\Q (.rol ds) M):=rfl
@[simp ↓] theorem F5{d l}:ao (.rol (d::l)) (.int 0) M Q=Q d M:=by simp[ao,aD,ai,rW]
@[simp ↓] theorem FC{d e l}:ao (.rol (d::e::l)) (.int 1) M Q=Q e M:=by simp[ao,aD,ai,rE]
@[simp ↓] theorem Fs{d e f l}:ao (.rol (d::e::f::l)) (.int 2) M Q=Q f M:=by simp[ao,aD,ai,rT]
@[simp ↓] theorem Gp{d e f g l}:ao (.rol (d::e::f::g::l)) (.int 3) M Q=Q g M:=by simp[ao,aD,ai,tU]
@[simp ↓] theorem C7{ds}:rBi .len [.tup ds] M Q=Q (.int ds.length) M:=rfl
@[simp ↓] theorem C3{ds}:rBi .len [.rol ds] M Q=Q (.int ds.length) M:=rfl
@[simp ↓] theorem DX:rBi .max [.int i,.int j] M Q=Q (.int (if j > i then j else i)) M:=rfl
@[simp ↓] theorem DY:rBi .min [.int i,.int j] M Q=Q (.int (if j<i then j else i)) M:=rfl
@[simp ↓] theorem FX{ds}:eI true ds M Q=(ds.length<=sizeLine/\Q (.rol ds) M):=by simp[eI]
@[simp ↓] theorem EY{ds es}:jV true (.rol ds) (.rol es) M Q=((ds++es).length<=sizeLine/\Q (.rol (ds++es)) M):=by simp[jV,ai,eI]
@[simp ↓] theorem Fz{ds}:eI false ds M Q=(ds.length<=sizeLine/\∀p,M p=none->Q (.ref p) (put M p (.lst ds))):=by simp[eI]
theorem ar(h:n<=1000):(n<=sizeLine)=True:=eq_true (Ha h (by decide))
theorem B3(h:n<1000):(n<sizeLine)=True:=eq_true (GU h (by decide))
@[simp ↓] theorem Dq{t}:j9 t (.int i) M Q=Q (.bl (match t with|.int=>true|_=>false)) M:=rfl
@[simp ↓] theorem C9{t ds}:j9 t (.tup ds) M Q=Q (.bl (match t with|.tuple=>true|_=>false)) M:=rfl
@[simp ↓] theorem DG{t ds}:j9 t (.rol ds) M Q=Q (.bl (match t with|.list=>true|_=>false)) M:=rfl
end
section
variable {W:WC}{tg:ITg}{cond:ITO}{elt:IE}{p:Addr}{Q:VK3}{σ:St3}{M:MH}{ys:List D}
@[simp ↓] theorem DE{ds}:fM Q (.ref p) (put M p (.lst ds))=Q (.rol ds) (L2.del (put M p (.lst ds)) p):=by
 simp only[fM,ag]
def Fm(M:MH):Prop:=∃n,∀p,n<=p->M p=none
theorem Fm.nil:Fm (λ_=>none):=⟨0,λ_ _=>rfl⟩
theorem ss{M:MH}(h:Fm M){p:Prop}:(∀a:Addr,M a=none->p)=p:=propext ⟨λf=>let ⟨n,k⟩:=h;f n (k n (GZ _)),λf _ _=>f⟩
theorem Fm.put{M:MH}(h:Fm M)(p:Addr)(o:DO):Fm (put M p o):=by
 obtain⟨n,h⟩:=h;refine⟨max n (p+1),λq hq=>?_⟩
 rw[ah (Nat.ne_of_gt (Nat.lt_of_succ_le (Ha (Nat.le_max_right n (p+1)) hq)))];exact h q (Ha (Nat.le_max_left _ _) hq)
theorem ay{M:MH}(hM:Fm M){P:Addr->Prop}{q:Prop}(h:∀p,M p=none->P p=q):(∀p,M p=none->P p)=q:=by
 rw[<-ss hM (p:=q)];exact forall_congr λp=>implies_congr_ctx rfl λhp=>h p hp
theorem Cb{cs:List Int}(h1 : -(cs.length:Int)<=i)(h2:i<cs.length):∃x,atI (cs.map D.int) i=some (.int x):=by
 unfold atI ixN;rw[G8];by_cases h:0<=i
 ·have hk:i.toNat<cs.length:=by omega
  rw[G3 h,G3 h2];exact⟨cs[i.toNat],by simp[Hd hk]⟩
 ·have hk:(i+cs.length).toNat<cs.length:=by omega
  rw[GV h,G3 h1];exact⟨cs[(i+cs.length).toNat],by simp[Hd hk]⟩
theorem kY(h:atI ds i=some x):ao (.rol ds) (.int i) M Q=Q x M:=by simp[ao,aD,ai,h]
theorem cI(h:put M p o q=none):q≠p/\M q=none:=by
 unfold put at h;split at h
 ·cases h
 ·exact⟨by assumption,h⟩
theorem ug(hp:M p=none)(hq:q≠p):L2.del (put (put M p o) q u) p=put M q u:=by
 funext a;unfold L2.del put;by_cases e:a=p
 ·subst e;simp[He hq,hp]
 ·simp[e]
def Ext(M M':MH):Prop:=Fm M'/\∀a o,M a=some o->M' a=some o
theorem Ext.put{M:MH}(hM:Fm M){p:Addr}(h:M p=none)(o:DO):Ext M (put M p o):=⟨hM.put _ _,λa u e=>by rw[ah (λz=>by rw[z,h]at e;cases e)];exact e⟩
section
variable {W:WC}{σ:St3}{M:MH}{Q:VK3}{tg:ITg}{cond:ITO}{elt:IE}{p:Addr}{S:MH->Prop}
theorem sB{ys:List D}(hp:M p=none)(hS:S (put M p (.lst ys))):lg W tg cond elt S p (fM Q) [] ys σ (put M p (.lst ys))=Q (.rol ys) M:=by
 show (S (put M p (.lst ys))/\fM Q (.ref p) (put M p (.lst ys)))=_;simp[fM,ag,hS,gt hp]
theorem pv{d:D}{r ys:List D}:lg W tg cond elt S p Q (d::r) ys σ M=(S M/\ys.length<sizeLine/\wpG tg d σ M λσ2 M2=>md W cond σ2 M2 (λb M3=>if b=true then wpE W elt σ2 M3 (λy M4=>M4 p=some (.lst ys)/\lg W tg cond elt S p Q r (ys++[y]) σ2 (put M4 p (.lst (ys++[y])))) (λ_ _=>False) else lg W tg cond elt S p Q r ys σ2 M3) (λ_ _=>False)):=rfl
theorem jJ(P:St3->Prop)(st:D->St3)(c:D->Bool)(f:D->D):∀(ds ys:List D)(σ:St3) {M:MH},P σ->Fm M->M p=none->ys.length+ds.length<sizeLine->(∀M',Ext M M'->S M')->
  (∀d∈ds,P (st d)/\∀σ,P σ->∀(M:MH)(k:St3->MH->Prop),wpG tg d σ M k=k (st d) M)->
  (∀d∈ds,∀M',Ext M M'->∀Q:Bool->MH->Prop,md W cond (st d) M' Q (λ_ _=>False)=Q (c d) M')->
  (∀d∈ds,c d=true->∀M',Ext M M'->∀Q,wpE W elt (st d) M' Q (λ_ _=>False)=Q (f d) M')->
  lg W tg cond elt S p (fM Q) ds ys σ (put M p (.lst ys))=Q (.rol (ys++(ds.filter c).map f)) M
 |[],ys,σ,M,h0,hM,hp,hl,hS,hg,hc,he=>by rw[sB hp (hS _ (.put hM hp _))];simp
 |d::ds,ys,σ,M,h0,hM,hp,hl,hS,hg,hc,he=>by
  have hl':ys.length+(ds.length+1)<sizeLine:=hl;obtain⟨g1,g2⟩:=hg d G5;rw[pv,g2 σ h0,hc d G5 _ (.put hM hp _),eq_true (hS _ (.put hM hp _)),true_and];cases q:c d with
  |true=>
   rw[G3 rfl,he d G5 q _ (.put hM hp _),ag,bv];rw[jJ P st c f ds (ys++[f d]) (st d) g1 hM hp (by rw[Hu,List.length_singleton];omega) hS (λe h=>hg e (GY _ h)) (λe h=>hc e (GY _ h)) (λe h=>he e (GY _ h))]
   simp only[List.filter_cons,q,if_true,G6,List.append_assoc,List.singleton_append,true_and];rw[eq_true (show ys.length<sizeLine by omega),true_and]
  |false=>
   rw[GV Hf];rw[jJ P st c f ds ys (st d) g1 hM hp (by omega) hS (λe h=>hg e (GY _ h)) (λe h=>hc e (GY _ h)) (λe h=>he e (GY _ h))]
   simp only[List.filter_cons,q,HZ,if_false];rw[eq_true (show ys.length<sizeLine by omega),true_and]
theorem eU{ds:List D}(P:St3->Prop)(st:D->St3)(c:D->Bool)(f:D->D)(h0:P σ)(hM:Fm M)(hl:ds.length<10000)
  (hg:∀d∈ds,P (st d)/\∀σ,P σ->∀(M:MH)(k:St3->MH->Prop),wpG tg d σ M k=k (st d) M)
  (hc:∀d∈ds,∀M',Ext M M'->∀Q:Bool->MH->Prop,md W cond (st d) M' Q (λ_ _=>False)=Q (c d) M')
  (he:∀d∈ds,c d=true->∀M',Ext M M'->∀Q,wpE W elt (st d) M' Q (λ_ _=>False)=Q (f d) M') (hS:∀M',Ext M M'->S M':=by exact λ_ _=>trivial) :
  d9 W tg cond elt S Q ds σ M=Q (.rol ((ds.filter c).map f)) M:=by
 have hl':([]:List D).length+ds.length<sizeLine:=by rw[List.length_nil,Nat.zero_add];exact Nat.lt_trans hl (by decide)
 exact ay hM λp hp=>by
  rw[jJ P st c f ds [] σ h0 hM hp hl' hS hg hc he];simp
theorem dn{az:St3}{x:Option D}{ds:List D}(c:D->Bool)(f:D->D)(hM:Fm M)(hl:ds.length<10000)
  (hc:∀d∈ds,∀M',Ext M M'->∀Q:Bool->MH->Prop,md W cond (some d::az) M' Q (λ_ _=>False)=Q (c d) M')
  (he:∀d∈ds,c d=true->∀M',Ext M M'->∀Q,wpE W elt (some d::az) M' Q (λ_ _=>False)=Q (f d) M') (hS:∀M',Ext M M'->S M':=by exact λ_ _=>trivial) :
  d9 W (.name 0) cond elt S Q ds (x::az) M=Q (.rol ((ds.filter c).map f)) M:=
 eU (λσ=>∃y,σ=y::az) (λd=>some d::az) c f ⟨x,rfl⟩ hM hl (λd _=>⟨⟨_,rfl⟩,λσ ⟨y,e⟩ M k=>by subst e;rfl⟩) hc he hS
theorem sw{az:St3}{x:Option D}{ds:List D}(f:D->D)(hM:Fm M)(hl:ds.length<10000)
  (he:∀d∈ds,∀M',Ext M M'->∀Q,wpE W elt (some d::az) M' Q (λ_ _=>False)=Q (f d) M') (hS:∀M',Ext M M'->S M':=by exact λ_ _=>trivial) :
  d9 W (.name 0) .no elt S Q ds (x::az) M=Q (.rol (ds.map f)) M:=by
 rw[dn (λ_=>true) f hM hl (λ_ _ _ _ _=>rfl) (λd hd _=>he d hd) hS]
 rw[List.filter_eq_self.mpr (λ_ _=>rfl)]
end
theorem wG(P:St3->Prop)(h0:P σ)(step:∀d∈ds,∀σ,P σ->∀k:St3->MH->Prop,(∀σ',P σ'->k σ' M)->wpG tg d σ M λσ2 M2=>aX W body {De with nx:=k,ct:=k,bk:=De.nx} ES σ2 M2)(done:∀σ,P σ->De.nx σ M) :
  bz W tg body ES (λ_=>True) De ds σ M:=by
 induction ds generalizing σ with
 |nil=>rw[aT];exact⟨trivial,done σ h0⟩
 |cons d ds ih=>
  rw[aF];exact⟨trivial,step d G5 σ h0 _ λσ' p=>ih p λe he=>step e (GY _ he)⟩
theorem se(g:α->D)(f:α->Bool)(xs:List α)(h:∀x∈xs,g x=.bl (f x)):d5 (xs.map g)=some (xs.map f):=by
 induction xs with
 |nil=>rfl
 |cons a r ih=>
  rw[G6,h a G5];simp only[d5];rw[ih λx hx=>h x (GY _ hx)]
  rfl
theorem wb(f:α->Bool){xs:List α}(h:∀x∈xs,g x=.bl (f x)):rBi .all [.rol (xs.map g)] M Q=Q (.bl (xs.all f)) M:=by
 simp only[rBi,ai,se g f xs h];simp[List.all_map,Function.comp_def]
end
section
variable {W:WC}{σ:St3}{M:MH}{Q:VK3}{E:XN}{s:Str}{ds:List D}
@[simp ↓] theorem DD{i:Int}:uc (.int i) M Q=Q (.int i) M:=rfl
@[simp ↓] theorem DJ:uc (.tup ds) M Q=Q (.tup ds) M:=rfl
end
end L2
namespace L2
open PySem PySem.NumText PyProof.Rows StrLaws
end L2
namespace L2
open PySem PySem.NumText PyProof.Rows StrLaws Builtin Builtin.Str
noncomputable def tx(k:Int):Str:=Str.ofString k.repr
end L2
namespace HD
open PySem PySem.W PyProof.Rows L2
noncomputable def pw:Program:=PySem.Challenge.pw_driftmeet_k32_bounds_broken
noncomputable def top(i:Nat):Stmt:=PySem.Challenge.pw_driftmeet_k32_bounds_broken.main.body.getD i (.Pass ⟨0,0,0,0⟩)
noncomputable abbrev R(a:Nat):Value:=.ref a
noncomputable abbrev I(i:Nat):Value:=.int i 0
noncomputable abbrev e(P:Params)(s:String)(t:Nat)(v:Value):DictEntry:=⟨PyData.keyHash P s,.str s t,v⟩
noncomputable abbrev co(n:String)(a:Nat)(m:String)(b c d e g h i j:Nat)(k:Bool)(l o q r s:Nat):Data:=.fields #[.str n a,.str m b,.str "/claim/cut.py" c,I d,I e,I g,I h,I i,R j,.bool k,I l,R o,.none,.none,.none,.none,I q,I r,.str "/claim/cut.py" s]
noncomputable abbrev cp(n:String)(a:Nat)(m:String)(b c d e g h i j:Nat)(k:Bool)(l o x y z q r s:Nat):Data:=.fields #[.str n a,.str m b,.str "/claim/cut.py" c,I d,I e,I g,I h,I i,R j,.bool k,I l,R o,.none,R x,R y,R z,I q,I r,.str "/claim/cut.py" s]
noncomputable abbrev v0:Value:=.type "dict"
noncomputable abbrev v1:Value:=.type "object"
noncomputable abbrev v2:Value:=.str "driftmeet.errors" 187
noncomputable abbrev v3:Value:=.type "type"
noncomputable abbrev v4:Value:=.builtin "object.__new__"
noncomputable abbrev v5:Value:=.type "ValueError"
noncomputable abbrev v6:Value:=.str "driftmeet.happenings" 369
noncomputable abbrev v7:Value:=.builtin "ValueError.__new__"
noncomputable abbrev F:=Params->Obj
noncomputable abbrev fo(n q:String)(s:Stmt)(m:String)(t c:Nat):F:=λ_=>⟨.type "function",none,.func (fnOf n q (bS s) (aZ s) (ax s) .none .none .none (.str m t) none (.ref c) .none),#[]⟩
noncomputable abbrev fp(n q:String)(s:Stmt):F:=λ_=>⟨.none,none,.func {fnOf n q (bS s) (aZ s) (ax s) .none .none .none .none none .none .none with globals:=0,builtins:=0},#[]⟩
noncomputable abbrev vf(l:Array Value):F:=λ_=>⟨.none,none,.fields l,#[]⟩
noncomputable abbrev tu(l:Array Value):F:=λ_=>⟨.type "tuple",none,.seq l 0,#[]⟩
noncomputable abbrev cd(d:Data):F:=λ_=>⟨.type "code",none,d,#[]⟩
noncomputable abbrev bf(a:String)(b:Nat):F:=λ_=>⟨.type "builtin_function_or_method",none,.fields #[.builtin a,.ref b],#[]⟩
noncomputable abbrev n(o:F)(x y:Params->W.BT):Params->W.BT:=λP=>.node (o P) (x P) (y P)
noncomputable abbrev z:Params->W.BT:=λ_=>.nil
noncomputable abbrev l(o:F):Params->W.BT:=λP=>.node (o P) .nil .nil
noncomputable abbrev x0(a:String)(b:Nat)(c:String)(d:Nat)(f:Nat)(g:Nat)(h:Nat):F:=cd (cp a b c (b+1) (b+2) d f 0 0 3 g true 181 (g+1) (g+2) (g+3) (g+4) h d (h+1))
noncomputable abbrev x1(a:String)(b:Nat):F:=fp a a (top b)
noncomputable abbrev x2(a:String)(b:Nat)(c:String)(d:Nat)(f:Nat):F:=fo a a (top b) c d f
noncomputable abbrev x3(a:String)(b:String)(c:Nat)(d:Nat):F:=fp a b (am (top c) d)
noncomputable abbrev x4(a:String)(b:String)(c:Nat)(d:Nat)(f:String)(g:Nat)(h:Nat):F:=fo a b (am (top c) d) f g h
noncomputable abbrev x5(a:String)(b:Nat)(c:Nat)(d:Nat):F:=cd (co a b a (b+1) (b+2) c 0 0 0 0 d false 181 (d+1) (b+3) c (b+4))
noncomputable abbrev x6(a:Nat)(b:Nat)(c:String)(d:Nat):F:=λ_=>⟨(.type "frame"),none,.plain,#[some (R a),some (R 3),some (R b),none,some (.str c d),none,some (R 0)]⟩
noncomputable abbrev x7(a:Nat):F:=λ_=>⟨(.type "super"),none,(.fields #[(R a),(R a),(R a)]),#[]⟩
noncomputable abbrev x8(a:Nat):F:=bf "object.__init_subclass__" a
noncomputable abbrev x9(a:String)(b:Nat):F:=tu #[(.str a b)]
noncomputable abbrev x10(a:String)(b:Nat)(c:String):F:=tu #[(.str a b),(.str c (b+1))]
noncomputable abbrev x11(a:String)(b:Nat)(c:String)(d:String):F:=tu #[(.str a b),(.str c (b+1)),(.str d (b+2))]
noncomputable abbrev x12(a:Nat)(b:String)(c:Nat)(d:Nat):F:=λP=>⟨v0,none,(.dict #[e P "__module__" a v2,e P "__qualname__" (a+2) (.str b (a+1)),e P "__firstlineno__" (a+4) (.int c (a+3)),e P "__static_attributes__" (a+5) (R d)] 4),#[]⟩
noncomputable abbrev x13(a:String)(b:Nat)(c:Nat)(d:Nat):F:=λ_=>⟨v3,none,(.cls ⟨a,[(R 24)],[(R b),(R 24),v5,(.type "Exception"),(.type "BaseException"),v1],(b-1),a,true,[],[],false,none,false⟩),#[some (R c),none,some (.str a d),some (.str a (d+8)),some v7,some (.bool true)]⟩
noncomputable abbrev x14(a:Nat)(b:Nat)(c:Nat):F:=λP=>⟨v0,none,(.dict #[e P "__module__" a v2,e P "__firstlineno__" (a+4) (.int b (a+3)),e P "__static_attributes__" (a+5) (R c),e P "__doc__" (a+6) .none] 2),#[]⟩
noncomputable abbrev x15(a:String)(b:Nat)(c:Nat)(d:Nat)(f:Nat):F:=cd (.fields #[(.str a b),(.str a (b+1)),(.str "/claim/cut.py" (b+2)),(I c),(I d),(I 0),(I 0),(I 3),(R f),(.bool true),(I 181),(R (f+1)),.none,.none,.none,(R (f+2)),(I (b+3)),(I c),(.str "/claim/cut.py" (b+4))])
noncomputable abbrev x16(a:String)(b:Nat)(c:String)(d:String)(f:String)(g:String):F:=tu #[(.str a b),(.str c (b+1)),(.str d (b+2)),(.str f (b+3)),(.str g (b+4))]
noncomputable abbrev x17(a:String)(b:Nat)(c:String)(d:String)(f:String):F:=tu #[(.str a b),(.str c (b+1)),(.str d (b+2)),(.str f (b+3))]
noncomputable abbrev x18(a:Nat)(b:Nat)(c:Nat)(d:Nat)(f:String)(g:Nat)(h:Nat)(i:String)(j:Nat)(k:Nat)(m:String)(o:Nat)(p:Nat):F:=λP=>⟨v0,none,(.dict #[e P "__module__" a v6,e P "__firstlineno__" (a+4) (.int b (a+3)),e P "__init__" c (R d),e P f g (R h),e P i j (R k),e P m o (R (k+1)),e P "__doc__" (o+1) .none] p),#[]⟩
noncomputable abbrev x19(a:Nat)(b:String)(c:Nat)(d:Nat)(f:Nat)(g:Nat)(h:Nat):F:=λP=>⟨v0,none,(.dict #[e P "__module__" a v6,e P "__qualname__" (a+2) (.str b (a+1)),e P "__firstlineno__" (a+4) (.int c (a+3)),e P "__init__" d (R f),e P "row" (d+7) (R (f+7)),e P "own_bounds" g (R (f+14)),e P "__static_attributes__" h (R (f+15))] 7),#[]⟩
noncomputable abbrev x20(a:Nat)(b:Nat)(c:Nat):F:=vf #[(I a),(I 4),(R b),(I c),(I 4),(R (b+7)),(I (c+3)),(I 4),(R (b+14))]
noncomputable abbrev x21(a:String)(b:Nat)(c:Nat):F:=λ_=>⟨v3,none,(.cls ⟨a,[(R 167)],[(R b),(R 167),v1],(b-1),a,true,[],[],false,none,false⟩),#[some (R (b-30)),none,some (.str a c),some (.str a (c+8)),some v4,some (.bool true)]⟩
noncomputable abbrev x22(a:Nat)(b:Nat):F:=λ_=>⟨(.type "getset_descriptor"),none,(.fields #[(.str "__weakref__" a),(R b),(.builtin "ExceptionGroup.__weakref__"),.none]),#[]⟩
noncomputable abbrev x23(a:Nat)(b:Nat)(c:String)(d:Nat)(f:Nat)(g:String)(h:Nat)(i:Nat):F:=λP=>⟨v0,none,(.dict #[e P "__module__" a v2,e P "__firstlineno__" (a+4) (.int b (a+3)),e P c d (R f),e P g (d+2) (R h),e P "__doc__" (d+3) .none] i),#[]⟩
noncomputable abbrev x24(a:Nat)(b:String)(c:Nat)(d:String)(f:Nat)(g:Nat)(h:Nat)(i:Nat):F:=λP=>⟨v0,none,(.dict #[e P "__module__" a (.str b c),e P "__qualname__" (a+2) (.str d (a+1)),e P "__firstlineno__" (a+4) (.int f (a+3)),e P "__init__" g (R h),e P "__static_attributes__" i (R (h+1))] 5),#[]⟩
noncomputable abbrev x25(a:Nat)(b:Nat):F:=λ_=>⟨(.type "getset_descriptor"),none,(.fields #[(.str "__dict__" a),(R b),(.builtin "function.__dict__"),(.builtin "function.__dict__#set")]),#[]⟩
noncomputable def o0:F:=tu #[]
noncomputable def o1:F:=vf #[]
noncomputable def o2:F:=x5 "<module>" 182 1 11
noncomputable def o3:F:=x6 13 3 "__main__" 164
noncomputable def o7:F:=λ_=>⟨(.type "builtin_function_or_method"),none,(.fields #[(.builtin "type.__prepare__"),v3]),#[]⟩
noncomputable def o16:F:=tu #[(R 24)]
noncomputable def xz:F:=tu #[(R 167)]
noncomputable def env:Env:={scope:=pw.main.scope,locals:=mainNs,globals:=mainNs,cells:=[],code:=(R 13),frame:=some 14}
noncomputable def bE:List Stmt:=behindTheImports pw
noncomputable def b(i:Nat):Stmt:=bE.getD i (.Pass ⟨0,0,0,0⟩)
noncomputable def cE:Code:=.body bE env
noncomputable def qF:List Frame:=[topFrame ⟨0,0,0,0⟩]
noncomputable def an:Option Value:=(some (R 6))
noncomputable def hA(P:Params):Heap:=⟨⟨[boot_o_0 P,boot_o_1 P,boot_o_2 P,boot_o_3 P,boot_o_4 P,boot_o_5 P,boot_o_6 P,boot_o_7 P,boot_o_8 P,boot_o_9 P,boot_o_10 P,o0 P,o1 P,o2 P,o3 P]⟩,{}⟩
noncomputable def sA(w:World)(os:OsState):Shared:=⟨hA w.params,⟨[]⟩,{},187,os⟩
noncomputable def t0:Params->W.BT:=(n boot_o_0 (n boot_o_1 (n boot_o_3 (l boot_o_7) (l o0)) (n boot_o_5 (l boot_o_9) (l o2))) (n boot_o_2 (n boot_o_4 (l boot_o_8) (l o1)) (n boot_o_6 (l boot_o_10) (l o3))))
noncomputable def s0(w:World)(os:OsState):SharedT:=⟨t0 w.params,15,{},⟨[]⟩,{},187,os⟩
noncomputable def t1:Params->W.BT:=(n boot_o_0 (n boot_o_1 (n (λP=>⟨v0,none,(.dict #[e P "__name__" 165 (.str "law_driftmeet_k32_bounds_broken" 780),e P "__doc__" 166 .none,e P "__package__" 167 .none,e P "__loader__" 168 (.builtin "__main__.__loader__#opaque"),e P "__spec__" 169 .none,e P "__annotations__" 170 (R 6),e P "__builtins__" 171 (R 4),e P "__file__" 173 (.str "/claim/cut.py" 172),e P "__cached__" 174 .none,e P "DriftError" 206 (R 24),e P "NoNumber" 222 (R 37),e P "NoStretch" 238 (R 49),e P "NoHand" 254 (R 61),e P "NoClock" 270 (R 73),e P "NoWay" 286 (R 85),e P "NoHappening" 302 (R 97),e P "NoName" 318 (R 109),e P "NoHistory" 334 (R 121),e P "Ring" 359 (R 140),e P "is_whole" 368 (R 149),e P "NOUGHT" 374 (R 150),e P "Happening" 405 (R 167),e P "Look" 446 (R 202),e P "Sight" 491 (R 235),e P "Send" 534 (R 268),e P "Take" 579 (R 301),e P "are_wholes" 585 (R 308),e P "is_letter" 592 (R 315),e P "happening" 600 (R 322),e P "count_on" 611 (R 329),e P "names" 621 (R 336),e P "clock_bounds" 633 (R 343),e P "bounds" 647 (R 350),e P "broken" 653 (R 355),e P "MOST_HANDS" 657 (.int 6 656),e P "refuse_clock" 665 (R 362),e P "refuse_lengths" 673 (R 369),e P "World" 779 (R 442),e P "_law_cell_at" 789 (R 453),e P "_law_stream" 800 (R 460),e P "_law_way" 809 (R 467),e P "_law_world" 825 (R 474),e P "_law_made" 831 (R 479),e P "_law_lag" 845 (R 486),e P "_law_row" 851 (R 491),e P "_law_sent" 861 (R 498),e P "_law_tale" 867 (R 503),e P "_law_own" 878 (R 510),e P "_law_due" 894 (R 517),e P "_law_names" 904 (R 524),e P "_law_whole" 911 (R 531),e P "_law_name" 918 (R 538),e P "_law_moved" 931 (R 545),e P "_law_broken" 937 (R 550),e P "_law_refused" 948 (R 557),e P "law" 954 (R 562)] 56),#[]⟩) (n boot_o_7 (n (tu #[v5]) (n o0 (n (x8 61) (n o0 (n o0 (l o0) z) (l (x4 "__init__" "World.__init__" 34 0 "driftmeet.worlds" 654 382))) (n (x0 "row" 427 "Look.row" 40 1 186 431) (l o0) (l o0))) (n o0 (n o1 (n (x9 "self" 560) (l (x1 "_law_moved" 50)) z) (l o0)) (n (x3 "row" "Sight.row" 17 1) (l o0) (l (x2 "_law_made" 40 "law_driftmeet_k32_bounds_broken" 780 478))))) (n o0 (n o0 (n o0 (n xz (l (x9 "_law_found" 908)) z) (l o1)) (n (x19 454 "Sight" 45 469 218 485 488) (l (x0 "names" 612 "names" 105 1 330 619)) (l (x11 "_law_xs" 804 "_law_size" "_law_least")))) (n (x8 109) (n o0 (n (x8 301) (l o1) z) (l (x0 "clock" 753 "World.clock" 182 2 426 758))) (n o7 (l (x1 "refuse_lengths" 33)) (l o0))))) (n (x23 196 2 "__static_attributes__" 201 22 "__weakref__" 25 3) (n (x8 37) (n o0 (n (x3 "__init__" "Ring.__init__" 10 0) (n (x3 "own_bounds" "Send.own_bounds" 18 2) (l o1) z) (l o0)) (n (x4 "own_bounds" "Look.own_bounds" 16 2 "driftmeet.happenings" 369 198) (l (x1 "count_on" 24)) (l o1))) (n o0 (n (λ_=>⟨v3,none,(.cls ⟨"Happening",[v1],[(R 167),v1],166,"Happening",true,[],[(R 202),(R 235),(R 268),(R 301)],false,none,false⟩),#[none,none,some (.str "Happening" 375),some (.str "Happening" 383),some v4,some (.bool true)]⟩) (n o0 (l o0) z) (l (x3 "has_way" "World.has_way" 34 6))) (n (x0 "own_bounds" 477 "Sight.own_bounds" 55 3 226 483) (l o0) (l o0)))) (n o0 (n (x8 85) (n o0 (n o1 (l o0) z) (l (x9 "self" 732))) (n o0 (l (x2 "clock_bounds" 27 "driftmeet.bounds" 622 342)) (l o0))) (n o0 (n (x3 "__init__" "Look.__init__" 16 0) (l (x9 "thing" 589)) (l (x4 "way" "World.way" 34 8 "driftmeet.worlds" 654 438))) (n (x17 "self" 507 "hand" "reading" "to") (l (x5 "World" 676 144 373)) (l (x2 "_law_tale" 44 "law_driftmeet_k32_bounds_broken" 780 502))))))) (n o0 (n o1 (n o0 (n o0 (n o0 (n o0 (l (x1 "_law_due" 46)) z) (l o0)) (n (x11 "self" 437 "world" "name") (l o0) (l (x1 "_law_cell_at" 36)))) (n (x8 97) (n (x0 "__init__" 387 "Happening.__init__" 32 3 158 393) (n (x4 "row" "Take.row" 19 1 "driftmeet.happenings" 369 290) (l o1) z) (l o0)) (n o1 (l (x2 "broken" 29 "driftmeet.bounds" 622 354)) (l o0)))) (n (x8 49) (n o0 (n (x1 "is_whole" 12) (n (x20 70 283 74) (l (x2 "_law_whole" 48 "law_driftmeet_k32_bounds_broken" 780 530)) z) (l (x0 "refuse_pair" 720 "World.refuse_pair" 167 3 398 726))) (n (x6 210 207 "driftmeet.happenings" 369) (l (x17 "clock" 627 "last" "here" "ticks")) (l (x2 "_law_way" 38 "law_driftmeet_k32_bounds_broken" 780 466)))) (n o0 (n o0 (l (x15 "are_wholes" 580 83 2 304)) (l (x11 "self" 764 "one" "other"))) (n (x5 "Send" 494 57 241) (l o7) (l o0))))) (n (x8 24) (n o0 (n (x8 73) (n (x23 342 20 "__init__" 354 137 "__static_attributes__" 138 2) (n (x18 499 57 513 251 "row" 520 258 "own_bounds" 529 265 "__static_attributes__" 531 2) (l (x0 "_law_names" 895 "_law_names" 304 1 518 902)) z) (l (x3 "refuse_hand" "World.refuse_hand" 34 2))) (n (x7 202) (l o1) (l (x0 "_law_stream" 790 "_law_stream" 196 2 454 798)))) (n o0 (n (x8 167) (n (x9 "letter" 575) (l (x1 "_law_refused" 52)) z) (l o1)) (n (x21 "Sight" 235 447) (l o0) (l (x2 "_law_row" 42 "law_driftmeet_k32_bounds_broken" 780 490))))) (n o0 (n o0 (n (vf #[(I 32),(I 4),(R 163)]) (n (x0 "__init__" 547 "Take.__init__" 70 4 278 554) (l o0) z) (l (x4 "hands" "World.hands" 34 4 "driftmeet.worlds" 654 410))) (n o0 (l o0) (l o0))) (n (x8 121) (n o1 (l (x2 "is_letter" 21 "driftmeet.happenings" 369 314)) (l (x25 773 442))) (n (x4 "__init__" "Send.__init__" 18 0 "driftmeet.happenings" 369 250) (l (tu #[(.str "self" 689),(.str "clocks" 690),(.str "ways" 691),(.str "short" 692),(.str "long" 693),(.str "one" 694),(.str "other" 695),(.str "least" 696),(.str "most" 697)])) (l o0))))))) (n boot_o_5 (n boot_o_9 (n (x12 196 "DriftError" 2 22) (n (x5 "NoNumber" 209 4 31) (n o7 (n (x5 "Ring" 337 20 127) (n (x0 "row" 514 "Send.row" 63 1 252 518) (l (tu #[(.str "_law_world_here" 882),(.str "_law_log" 883),(.str "_law_found" 884),(.str "_law_seen" 885),(.str "_law_row_here" 886),(.str "_law_known" 887),(.str "_law_here" 888),(.str "_law_last" 889),(.str "_law_short" 890),(.str "_law_long" 891)])) z) (l o1)) (n o0 (l (x0 "happening" 593 "happening" 87 1 316 598)) (l (x10 "_law_script" 785 "_law_k")))) (n (x13 "NoHappening" 97 88 287) (n o0 (n (x3 "row" "Take.row" 19 1) (l (x2 "_law_moved" 50 "law_driftmeet_k32_bounds_broken" 780 544)) z) (l (x0 "has_hand" 736 "World.has_hand" 176 2 412 741))) (n (x4 "row" "Sight.row" 17 1 "driftmeet.happenings" 369 224) (l (x1 "broken" 29)) (l o1)))) (n (x13 "NoStretch" 49 40 223) (n (x5 "NoWay" 273 12 79) (n (x9 "thing" 365) (n (x19 542 "Take" 68 556 284 574 576) (l (x1 "_law_whole" 48)) z) (l o0)) (n (x20 47 217 52) (l o0) (l (x1 "_law_way" 38)))) (n o7 (n (x5 "Look" 408 35 175) (n o1 (l (x15 "law" 949 342 1 558)) z) (l o0)) (n o0 (l (x2 "refuse_lengths" 33 "driftmeet.worlds" 654 368)) (l (x0 "_law_sent" 852 "_law_sent" 244 4 492 859)))))) (n (x22 202 24) (n o7 (n (x13 "NoClock" 73 64 255) (n (x4 "__init__" "Ring.__init__" 10 0 "driftmeet.errors" 187 136) (n (x4 "own_bounds" "Send.own_bounds" 18 2 "driftmeet.happenings" 369 264) (l o0) z) (l (x10 "self" 715 "hand"))) (n (x18 413 35 426 185 "row" 433 192 "own_bounds" 442 199 "__static_attributes__" 443 2) (l (x2 "count_on" 24 "driftmeet.logs" 601 328)) (l o0))) (n (x5 "NoName" 305 16 103) (n (x22 401 167) (n (x0 "own_bounds" 564 "Take.own_bounds" 77 3 292 572) (l (x16 "_law_made_here" 941 "_law_log" "_law_times" "e" "_law_word")) z) (l (x4 "has_way" "World.has_way" 34 6 "driftmeet.worlds" 654 424))) (n (x10 "early" 486 "late") (l (x0 "refuse_clock" 658 "refuse_clock" 134 2 356 663)) (l (x1 "_law_row" 42))))) (n (x5 "NoHand" 241 8 55) (n o7 (n (x24 382 "driftmeet.happenings" 369 "Happening" 30 395 164 398) (n o0 (l (x0 "_law_name" 912 "_law_name" 313 1 532 916)) z) (l (x3 "hands" "World.hands" 34 4))) (n (x0 "__init__" 459 "Sight.__init__" 47 5 212 467) (l o1) (l (x0 "_law_world" 810 "_law_world" 208 1 468 823)))) (n (x13 "NoHistory" 121 112 319) (n (x4 "__init__" "Look.__init__" 16 0 "driftmeet.happenings" 369 184) (l (x1 "is_letter" 21)) (l (λP=>⟨v0,none,(.dict #[e P "__module__" 681 (.str "driftmeet.worlds" 654),e P "__firstlineno__" 685 (.int 144 684),e P "__init__" 700 (R 383),e P "enter_way" 711 (R 390),e P "refuse_hand" 719 (R 397),e P "refuse_pair" 728 (R 404),e P "hands" 735 (R 411),e P "has_hand" 743 (R 418),e P "has_way" 752 (R 425),e P "clock" 760 (R 432),e P "way" 769 (R 439),e P "__static_attributes__" 772 (R 440),e P "__dict__" 774 (R 443),e P "__weakref__" 776 (R 444),e P "__doc__" 777 .none] 4),#[]⟩))) (n (x3 "__init__" "Send.__init__" 18 0) (l o0) (l o1)))))) (n o2 (n (x6 20 17 "driftmeet.errors" 187) (n (x13 "NoNumber" 37 28 207) (n (x5 "NoClock" 257 10 67) (n (x10 "self" 350 "ring") (n (x11 "self" 524 "world" "name") (l (x2 "_law_due" 46 "law_driftmeet_k32_bounds_broken" 780 516)) z) (l (x0 "enter_way" 701 "World.enter_way" 156 5 384 709))) (n (x3 "own_bounds" "Look.own_bounds" 16 2) (l (x11 "counts" 606 "hand" "ahead")) (l (x2 "_law_cell_at" 36 "law_driftmeet_k32_bounds_broken" 780 452)))) (n o7 (n (x10 "hand" 396 "reading") (n o1 (l (x15 "_law_broken" 932 325 3 546)) z) (l (x11 "self" 747 "one" "other"))) (n o0 (l o1) (l (x0 "_law_lag" 832 "_law_lag" 224 5 480 843))))) (n o7 (n (x13 "NoWay" 85 76 271) (n (x2 "is_whole" 12 "driftmeet.wholes" 360 148) (n (x6 276 273 "driftmeet.happenings" 369) (l o1) z) (l o0)) (n o1 (l (x1 "clock_bounds" 27)) (l o1))) (n (x5 "NoHistory" 321 18 115) (n (x11 "self" 421 "hand" "reading") (l o0) (l (x3 "way" "World.way" 34 8))) (n o0 (l o0) (l (x1 "_law_tale" 44)))))) (n o7 (n (x5 "NoStretch" 225 6 43) (n o7 (n (x7 140) (n (x7 268) (l o0) z) (l (x4 "refuse_hand" "World.refuse_hand" 34 2 "driftmeet.worlds" 654 396))) (n xz (l o0) (l o0))) (n (x13 "NoName" 109 100 303) (n o7 (n (x21 "Take" 301 535) (l (x2 "_law_refused" 52 "law_driftmeet_k32_bounds_broken" 780 556)) z) (l o0)) (n (x8 235) (l (x10 "least" 669 "most")) (l o1)))) (n (x13 "NoHand" 61 52 239) (n (x5 "NoHappening" 289 14 91) (n (x6 156 153 "driftmeet.happenings" 369) (n o0 (l (tu #[(.str "_law_times" 922),(.str "_law_cell" 923),(.str "_law_found" 924),(.str "_law_xs" 925),(.str "_law_k" 926),(.str "_law_at" 927),(.str "_law_by" 928)])) z) (l o1)) (n (x9 "self" 473) (l (x0 "bounds" 634 "bounds" 114 2 344 645)) (l (x1 "_law_made" 40)))) (n o7 (n o0 (l o1) (l (x7 442))) (n o1 (l (x3 "__init__" "World.__init__" 34 0)) (l (x0 "_law_own" 868 "_law_own" 281 3 504 876))))))))) (n boot_o_2 (n boot_o_4 (n boot_o_8 (n o7 (n o1 (n o16 (n (vf #[(I 22),(I 4),(R 136)]) (n (x3 "row" "Send.row" 18 1) (l o1) z) (l o0)) (n (x4 "row" "Look.row" 16 1 "driftmeet.happenings" 369 191) (l (x1 "happening" 22)) (l o1))) (n (x14 294 14 95) (n (x11 "self" 390 "hand" "reading") (n o0 (l (x0 "_law_moved" 919 "_law_moved" 317 2 539 929)) z) (l (x3 "has_hand" "World.has_hand" 34 5))) (n (x0 "row" 470 "Sight.row" 52 1 219 474) (l o1) (l o0)))) (n (x14 230 6 47) (n o1 (n o1 (n o7 (l o0) z) (l (x11 "self" 723 "one" "other"))) (n o0 (l (x2 "names" 25 "driftmeet.logs" 601 335)) (l o0))) (n o16 (n (x20 37 184 40) (n o0 (l (x1 "law" 53)) z) (l (x4 "clock" "World.clock" 34 7 "driftmeet.worlds" 654 431))) (n (x19 499 "Send" 57 513 251 529 531) (l (x0 "refuse_lengths" 666 "refuse_lengths" 139 2 363 671)) (l (x1 "_law_sent" 43)))))) (n (λ_=>⟨v3,none,(.cls ⟨"DriftError",[v5],[(R 24),v5,(.type "Exception"),(.type "BaseException"),v1],23,"DriftError",true,[],[(R 37),(R 49),(R 61),(R 73),(R 85),(R 97),(R 109),(R 121),(R 140)],false,none,false⟩),#[some (R 15),none,some (.str "DriftError" 189),some (.str "DriftError" 197),some v7,some (.bool true)]⟩) (n o16 (n (x14 262 10 71) (n (x0 "__init__" 347 "Ring.__init__" 22 2 131 352) (n (x0 "own_bounds" 521 "Send.own_bounds" 66 3 259 527) (l (x17 "_law_log" 898 "_law_many" "_law_found" "_law_row_here")) z) (l o1)) (n o0 (l (x0 "count_on" 603 "count_on" 101 2 323 609)) (l (x16 "_law_cell" 793 "_law_many" "_law_found" "_law_number" "_law_k")))) (n o1 (n (x25 399 167) (n (x3 "own_bounds" "Take.own_bounds" 19 2) (l o1) z) (l (x0 "has_way" 744 "World.has_way" 179 3 419 750))) (n (x4 "own_bounds" "Sight.own_bounds" 17 2 "driftmeet.happenings" 369 231) (l (x1 "refuse_clock" 32)) (l o1)))) (n o1 (n o16 (n o7 (n (x17 "self" 550 "hand" "reading" "letter") (l (x1 "_law_name" 49)) z) (l o0)) (n (x3 "__init__" "Sight.__init__" 17 0) (l o0) (l (x1 "_law_world" 39)))) (n (x14 326 18 119) (n (x0 "__init__" 418 "Look.__init__" 37 3 179 424) (l o0) (l (x10 "kept_clocks" 770 "kept_ways"))) (n o0 (l (x6 375 372 "driftmeet.worlds" 654)) (l o0)))))) (n (vf #[(I 2),(I 0),(R 20),(I 4),(I 0),(R 33),(I 6),(I 0),(R 45),(I 8),(I 0),(R 57),(I 10),(I 0),(R 69),(I 12),(I 0),(R 81),(I 14),(I 0),(R 93),(I 16),(I 0),(R 105),(I 18),(I 0),(R 117),(I 20),(I 0),(R 129),(I 26),(I 0),(R 148),(I 30),(I 0),(R 156),(I 35),(I 0),(R 177),(I 45),(I 0),(R 210),(I 57),(I 0),(R 243),(I 68),(I 0),(R 276),(I 83),(I 0),(R 307),(I 85),(I 0),(R 314),(I 87),(I 0),(R 321),(I 101),(I 0),(R 328),(I 105),(I 0),(R 335),(I 112),(I 0),(R 342),(I 114),(I 0),(R 349),(I 125),(I 0),(R 354),(I 134),(I 0),(R 361),(I 139),(I 0),(R 368),(I 144),(I 0),(R 375),(I 192),(I 0),(R 452),(I 196),(I 0),(R 459),(I 203),(I 0),(R 466),(I 208),(I 0),(R 473),(I 222),(I 0),(R 478),(I 224),(I 0),(R 485),(I 235),(I 0),(R 490),(I 244),(I 0),(R 497),(I 248),(I 0),(R 502),(I 281),(I 0),(R 509),(I 290),(I 0),(R 516),(I 304),(I 0),(R 523),(I 311),(I 0),(R 530),(I 313),(I 0),(R 537),(I 317),(I 0),(R 544),(I 325),(I 0),(R 549),(I 330),(I 0),(R 556),(I 342),(I 0),(R 561)]) (n (x5 "DriftError" 191 2 18) (n (x14 214 4 35) (n o1 (n o1 (n o1 (l (x0 "_law_due" 879 "_law_due" 290 2 511 892)) z) (l (x3 "enter_way" "World.enter_way" 34 1))) (n o0 (l o1) (l (x0 "_law_cell_at" 782 "_law_cell_at" 192 2 447 787)))) (n o16 (n (x4 "__init__" "Happening.__init__" 15 0 "driftmeet.happenings" 369 163) (n o0 (l (x1 "_law_broken" 51)) z) (l o1)) (n (x11 "self" 480 "world" "name") (l o0) (l (x1 "_law_lag" 41))))) (n o16 (n (x14 278 12 83) (n (x0 "is_whole" 362 "is_whole" 26 1 143 366) (n (x5 "Take" 537 68 274) (l o0) z) (l (x4 "refuse_pair" "World.refuse_pair" 34 3 "driftmeet.worlds" 654 403))) (n o0 (l o0) (l o0))) (n o1 (n o1 (l (x2 "are_wholes" 20 "driftmeet.happenings" 369 307)) (l o0)) (n (x6 243 240 "driftmeet.happenings" 369) (l (λP=>⟨v0,none,(.dict #[e P "__module__" 681 (.str "driftmeet.worlds" 654),e P "__qualname__" 683 (.str "World" 682),e P "__firstlineno__" 685 (.int 144 684),e P "__init__" 700 (R 383),e P "enter_way" 711 (R 390),e P "refuse_hand" 719 (R 397),e P "refuse_pair" 728 (R 404),e P "hands" 735 (R 411),e P "has_hand" 743 (R 418),e P "has_way" 752 (R 425),e P "clock" 760 (R 432),e P "way" 769 (R 439),e P "__static_attributes__" 772 (R 440)] 13),#[]⟩)) (l o1))))) (n o16 (n o1 (n o16 (n (x13 "Ring" 140 124 335) (n (x21 "Send" 268 492) (l (x2 "_law_names" 47 "law_driftmeet_k32_bounds_broken" 780 523)) z) (l (x0 "refuse_hand" 712 "World.refuse_hand" 163 2 391 717))) (n (x8 202) (l (x17 "log" 615 "counts" "told" "row")) (l (x2 "_law_stream" 37 "law_driftmeet_k32_bounds_broken" 780 459)))) (n (x14 310 16 107) (n xz (n (x18 542 68 556 284 "row" 563 291 "own_bounds" 574 298 "__static_attributes__" 576 2) (l (x0 "_law_refused" 938 "_law_refused" 330 3 551 946)) z) (l (x10 "self" 756 "hand"))) (n (x7 235) (l o1) (l o0)))) (n (x14 246 8 59) (n o1 (n (x5 "Happening" 377 30 154) (n (x4 "__init__" "Take.__init__" 19 0 "driftmeet.happenings" 369 283) (l o1) z) (l o0)) (n o1 (l (x1 "bounds" 28)) (l o1))) (n o16 (n (x9 "self" 430) (l o0) (l (x22 775 442))) (n o0 (l o0) (l (x1 "_law_own" 45)))))))) (n boot_o_6 (n boot_o_10 (n o0 (n (x6 33 30 "driftmeet.errors" 187) (n (x12 262 "NoClock" 10 71) (n (x6 129 126 "driftmeet.errors" 187) (n (x4 "row" "Send.row" 18 1 "driftmeet.happenings" 369 257) (l o0) z) (l (x16 "self" 704 "one" "other" "least" "most"))) (n o1 (l (x2 "happening" 22 "driftmeet.happenings" 369 321)) (l o0))) (n (x7 97) (n (x3 "__init__" "Happening.__init__" 15 0) (n (x0 "row" 557 "Take.row" 74 1 285 561) (l o0) z) (l (x4 "has_hand" "World.has_hand" 34 5 "driftmeet.worlds" 654 417))) (n o0 (l (x15 "broken" 648 125 3 351)) (l (tu #[(.str "_law_clock" 835),(.str "_law_here" 836),(.str "_law_xs" 837),(.str "_law_low" 838),(.str "_law_high" 839),(.str "_law_ticks" 840),(.str "_law_first" 841),(.str "_law_last" 842)]))))) (n (x7 49) (n (x6 81 78 "driftmeet.errors" 187) (n o0 (n o0 (l (x0 "_law_whole" 905 "_law_whole" 311 1 525 909)) z) (l (x3 "refuse_pair" "World.refuse_pair" 34 3))) (n (x5 "Sight" 449 45 208) (l o1) (l (x0 "_law_way" 801 "_law_way" 203 2 461 807)))) (n (x12 326 "NoHistory" 18 119) (n (x6 177 174 "driftmeet.happenings" 369) (n (x1 "are_wholes" 20) (l (x2 "law" 53 "law_driftmeet_k32_bounds_broken" 780 561)) z) (l o1)) (n (x20 59 250 63) (l o0) (l (x2 "_law_sent" 43 "law_driftmeet_k32_bounds_broken" 780 497)))))) (n (x7 24) (n (x12 230 "NoStretch" 6 47) (n (x7 73) (n (x9 "ring" 355) (n (x9 "to" 530) (l (x1 "_law_names" 47)) z) (l o0)) (n (x21 "Look" 202 406) (l o0) (l (x1 "_law_stream" 37)))) (n (x6 105 102 "driftmeet.errors" 187) (n (x7 167) (n (x4 "own_bounds" "Take.own_bounds" 19 2 "driftmeet.happenings" 369 297) (l o0) z) (l o0)) (n (x18 454 45 469 218 "row" 476 225 "own_bounds" 485 232 "__static_attributes__" 488 2) (l (x2 "refuse_clock" 32 "driftmeet.worlds" 654 361)) (l (x15 "_law_row" 846 235 5 487))))) (n (x6 57 54 "driftmeet.errors" 187) (n (x12 294 "NoHappening" 14 95) (n o0 (n (x3 "__init__" "Take.__init__" 19 0) (l (x2 "_law_name" 49 "law_driftmeet_k32_bounds_broken" 780 537)) z) (l (x0 "hands" 729 "World.hands" 173 1 405 733))) (n (x4 "__init__" "Sight.__init__" 17 0 "driftmeet.happenings" 369 217) (l (tu #[(.str "world" 637),(.str "log" 638),(.str "told" 639),(.str "readings" 640),(.str "here" 641),(.str "row" 642),(.str "one" 643),(.str "last" 644)])) (l (x2 "_law_world" 39 "law_driftmeet_k32_bounds_broken" 780 473)))) (n (x7 121) (n o0 (l (x0 "is_letter" 586 "is_letter" 85 1 309 590)) (l (λ_=>⟨v3,none,(.cls ⟨"World",[v1],[(R 442),v1],441,"World",true,[],[],false,none,false⟩),#[none,none,some (.str "World" 674),some (.str "World" 682),some v4,some (.bool true)]⟩))) (n (x0 "__init__" 504 "Send.__init__" 59 4 245 511) (l o1) (l (x16 "_law_world_here" 871 "_law_row_here" "_law_here" "_law_least" "_law_most"))))))) (n o3 (n o0 (n (x7 37) (n (x6 69 66 "driftmeet.errors" 187) (n o0 (n o0 (l o0) z) (l (x4 "enter_way" "World.enter_way" 34 1 "driftmeet.worlds" 654 389))) (n (x0 "own_bounds" 434 "Look.own_bounds" 43 3 193 440) (l o0) (l o0))) (n (x12 310 "NoName" 16 107) (n (x18 382 30 395 164 "__static_attributes__" 398 165 "__dict__" 400 168 "__weakref__" 402 4) (n (x16 "self" 567 "world" "name" "way" "told") (l (x2 "_law_broken" 51 "law_driftmeet_k32_bounds_broken" 780 549)) z) (l o0)) (n (x3 "own_bounds" "Sight.own_bounds" 17 2) (l (x10 "short" 661 "long")) (l (x2 "_law_lag" 41 "law_driftmeet_k32_bounds_broken" 780 485))))) (n (x12 246 "NoHand" 8 59) (n (x7 85) (n (tu #[(.int (-1) 372),(.int 0 373)]) (n o0 (l (x9 "_law_found" 915)) z) (l o1)) (n (x16 "self" 462 "hand" "reading" "early" "late") (l (x0 "clock_bounds" 624 "clock_bounds" 112 4 337 631)) (l (tu #[(.str "_law_cell" 813),(.str "_law_xs" 814),(.str "_law_hands" 815),(.str "_law_size" 816),(.str "_law_clocks" 817),(.str "_law_ways" 818),(.str "_law_one" 819),(.str "_law_short" 820),(.str "_law_other" 821),(.str "_law_ys" 822)])))) (n (x6 117 114 "driftmeet.errors" 187) (n o0 (l o1) (l (x0 "way" 761 "World.way" 186 3 433 767))) (n o1 (l (vf #[(I 146),(I 4),(R 382),(I 156),(I 4),(R 389),(I 163),(I 4),(R 396),(I 167),(I 4),(R 403),(I 173),(I 4),(R 410),(I 176),(I 4),(R 417),(I 179),(I 4),(R 424),(I 182),(I 4),(R 431),(I 186),(I 4),(R 438)])) (l (x15 "_law_tale" 862 248 3 499)))))) (n (x12 214 "NoNumber" 4 35) (n (x6 45 42 "driftmeet.errors" 187) (n (x12 278 "NoWay" 12 83) (n (x8 140) (n (x8 268) (l o1) z) (l o0)) (n o7 (l (x1 "names" 25)) (l o1))) (n (x7 109) (n (x19 413 "Look" 35 426 185 442 443) (n (x7 301) (l o0) z) (l (x3 "clock" "World.clock" 34 7))) (n xz (l o0) (l (x17 "_law_here" 855 "_law_row_here" "_law_moment" "_law_way_here"))))) (n (x7 61) (n (x6 93 90 "driftmeet.errors" 187) (n o0 (n o1 (l o0) z) (l (x10 "self" 739 "hand"))) (n o0 (l (x2 "bounds" 28 "driftmeet.bounds" 622 349)) (l (x15 "_law_made" 826 222 1 475)))) (n (x24 342 "driftmeet.errors" 187 "Ring" 20 354 137 356) (n (x3 "row" "Look.row" 16 1) (l (x10 "row" 596 "word")) (l (x8 442))) (n (x9 "self" 517) (l (x0 "__init__" 686 "World.__init__" 146 3 377 698)) (l (x2 "_law_own" 45 "law_driftmeet_k32_bounds_broken" 780 509))))))))))
noncomputable def s1(w:World)(os:OsState):SharedT:=⟨t1 w.params,563,{},⟨[]⟩,{},955,os⟩
noncomputable def t2:Params->W.BT:=t1
noncomputable def s2(w:World)(os:OsState):SharedT:=⟨t2 w.params,563,{},⟨[]⟩,{},955,os⟩
theorem pre:∀w:World,(λos=>topGo treeTable pw w 11 an 12 ⟨boot_heap w.params,⟨[]⟩,boot_drawn,boot_toks,os⟩ (topStub pw))=λos=>some (sA w os,⟨denote treeTable cE,cE,⟨0,0,0,0⟩,qF⟩):=λw=>by kernel_rfl
theorem blk:∀w:World,(λos=>segRun treeTable pw w 11 an 1 1 (sA w os) (blockOf bE env cE ⟨0,0,0,0⟩ qF))=λos=>some (.next,(s0 w os).abs,cE,⟨0,0,0,0⟩):=λw=>by kernel_rfl
noncomputable def g0:List Stmt:=[b 0,b 1,b 2,b 3,b 4,b 5,b 6,b 7,b 8,b 9,b 10,b 11,b 12,b 13,b 14,b 15,b 16,b 17,b 18,b 19,b 20,b 21,b 22,b 23,b 24,b 25,b 26,b 27,b 28,b 29,b 30,b 31,b 32,b 33,b 34,b 35,b 36,b 37,b 38,b 39,b 40,b 41,b 42,b 43,b 44,b 45,b 46,b 47,b 48,b 49,b 50,b 51,b 52,b 53]
theorem p0:∀w:World,(λos=>segRunT treeTable pw w 11 an 1 5076 (s0 w os) (piecesOf g0 env cE ⟨0,0,0,0⟩ qF))=λos=>some (.next,s1 w os,cE,⟨342,0,362,67⟩):=λw=>by kernel_rfl
theorem fin:∀w:World,(λos=>topRun treeTable pw w 11 an 2 (s1 w os).abs (restOf [] env cE ⟨342,0,362,67⟩ qF))=λos=>some (s2 w os).abs:=λw=>by kernel_rfl
theorem B8:bE=g0++([]):=by kernel_rfl
theorem Ew(w:World)(os:OsState):topRun treeTable pw w 11 an (5076+(2)) (s0 w os).abs (restOf (g0++([])) env cE ⟨0,0,0,0⟩ qF)=some (s2 w os).abs:=piece_app (segRun_of (congrFun (p0 w) os)) (congrFun (fin w) os)
theorem run(w:World)(os:OsState):topRun treeTable pw w 11 an (12+(1+(5076+(2)))) ⟨boot_heap w.params,⟨[]⟩,boot_drawn,boot_toks,os⟩ (topStub pw)=some (s2 w os).abs:=go_top (congrFun (pre w) os) (piece_block (congrFun (blk w) os) (by rw[B8];exact Ew w os))
noncomputable def view:Program:={pw with main:={pw.main with body:=[top 53]}}
noncomputable def loose:List Str:=(["DriftError","NoNumber","NoStretch","NoHand","NoClock","NoWay","NoHappening","NoName","NoHistory","Ring","is_whole","NOUGHT","Happening","Look","Sight","Send","Take","are_wholes","is_letter","happening","count_on","names","clock_bounds","bounds","broken","MOST_HANDS","refuse_clock","refuse_lengths","World","_law_cell_at","_law_stream","_law_way","_law_world","_law_made","_law_lag","_law_row","_law_sent","_law_tale","_law_own","_law_due","_law_names","_law_whole","_law_name","_law_moved","_law_broken","_law_refused"]:List String).map Str.ofString
noncomputable def as:List Addr:=[2,3,15,22,23,24,25,28,35,36,37,40,47,48,49,52,59,60,61,64,71,72,73,76,83,84,85,88,95,96,97,100,107,108,109,112,119,120,121,124,131,133,134,136,137,138,139,140,143,145,146,148,149,150,158,160,161,163,164,165,166,167,168,169,172,179,181,182,184,185,186,188,189,191,192,193,195,196,198,199,200,201,202,205,212,214,215,217,218,219,221,222,224,225,226,228,229,231,232,233,234,235,238,245,247,248,250,251,252,254,255,257,258,259,261,262,264,265,266,267,268,271,278,280,281,283,284,285,287,288,290,291,292,294,295,297,298,299,300,301,304,307,308,309,311,312,314,315,316,318,319,321,322,323,325,326,328,329,330,332,333,335,336,337,339,340,342,343,344,346,347,349,350,351,354,355,356,358,359,361,362,363,365,366,368,369,377,379,380,382,383,384,386,387,389,390,391,393,394,396,397,398,400,401,403,404,405,407,408,410,411,412,414,415,417,418,419,421,422,424,425,426,428,429,431,432,433,435,436,438,439,440,441,442,443,444,447,449,450,452,453,454,456,457,459,460,461,463,464,466,467,468,470,471,473,474,475,478,479,480,482,483,485,486,487,490,491,492,494,495,497,498,499,502,503,504,506,507,509,510,511,513,514,516,517,518,520,521,523,524,525,527,528,530,531,532,534,535,537,538,539,541,542,544,545,546,549,550,551,553,554,556,557,558,561,562]
noncomputable def K(P:Params):Frag:=as.map λa=>(a,((t2 P).get a).getD ⟨.none,none,.plain,#[]⟩)
theorem as_eq:∀P,as=(K P).map (·.1):=λP=>by kernel_rfl
noncomputable def h1(P:Params):Heap:=absHeap (t2 P) 563 {}
noncomputable def f1(w:World)(os:OsState):Shared:=⟨h1 w.params,⟨[]⟩,{},955,os⟩
noncomputable def Xt(s:Shared):Bool:=xlAt view [] s&&recOk (RowW.records PySem.Challenge.rw_driftmeet_k32_bounds_broken.row.toRowW) s
theorem lk1:∀w:World,(λos=>(staticsOk (importedModules pw.main.body) (boot_heap w.params) (h1 w.params)&&namesBound pw (h1 w.params)&&gensDone (f1 w os)&&laidKept (boot_heap w.params) (h1 w.params)))=λ_=>true:=λw=>by kernel_rfl
theorem lk2:∀w:World,(λos=>openSeen view loose (importedModules pw.main.body) Xt true (f1 w os))=λ_=>openGood view loose:=λw=>by kernel_rfl
theorem lk3:∀w:World,(λos=>((Hook.obs (kHook K as as_eq)) (f1 w os),Nat.ble 1 (f1 w os).toks))=λ_=>((Hook.val (kHook K as as_eq)) w,true):=λw=>by kernel_rfl
theorem left:LeftO pw view loose Xt (λs=>(Hook.obs (kHook K as as_eq) s,Nat.ble 1 s.toks)) (λw=>(Hook.val (kHook K as as_eq) w,true)) 10276:=LeftO.of_pieces (boot_open (by kernel_rfl) (by decide) (λs=>by kernel_rfl)) (H₀:=boot_heap) (H₁:=h1) (gs₀:=⟨[]⟩) (m₀:=11) (ann:=an) (M:=12+(1+(5076+(2)))) (λw=>by kernel_rfl) (λw os=>run w os) (by decide) λw=>funext λos=>looks_pair (congrFun (lk1 w) os) (looks_pair (congrFun (lk2 w) os) (congrFun (lk3 w) os))
end HD
namespace G
open PySem L2
noncomputable def top(i:Nat):Stmt:=PySem.Challenge.pw_driftmeet_k32_bounds_broken.main.body.getD i (.Pass ⟨0,0,0,0⟩)
noncomputable abbrev V0:IE:=.var 0
noncomputable abbrev V1:IE:=.var 1
noncomputable abbrev V2:IE:=.var 2
noncomputable abbrev V3:IE:=.var 3
noncomputable abbrev V4:IE:=.var 4
noncomputable abbrev V5:IE:=.var 5
noncomputable abbrev V6:IE:=.var 6
noncomputable abbrev V7:IE:=.var 7
noncomputable abbrev V8:IE:=.var 8
noncomputable abbrev V9:IE:=.var 9
noncomputable abbrev V10:IE:=.var 10
noncomputable abbrev V11:IE:=.var 11
noncomputable abbrev V12:IE:=.var 12
noncomputable abbrev V13:IE:=.var 13
noncomputable abbrev V14:IE:=.var 14
noncomputable abbrev V15:IE:=.var 15
noncomputable abbrev V16:IE:=.var 16
noncomputable abbrev V17:IE:=.var 17
noncomputable abbrev I0:IE:=.con (.int 0)
noncomputable abbrev I1:IE:=.con (.int 1)
noncomputable abbrev I2:IE:=.con (.int 2)
noncomputable abbrev I3:IE:=.con (.int 3)
noncomputable abbrev I4:IE:=.con (.int 4)
noncomputable abbrev I5:IE:=.con (.int 5)
noncomputable abbrev I6:IE:=.con (.int 6)
noncomputable abbrev I7:IE:=.con (.int 7)
noncomputable abbrev I8:IE:=.con (.int 8)
noncomputable abbrev I9:IE:=.con (.int 9)
noncomputable abbrev Ar1(a0:IE):IA:=.cons a0 .nil
noncomputable abbrev Ar2(a0 a1:IE):IA:=.cons a0 (.cons a1 .nil)
noncomputable abbrev Ar3(a0 a1 a2:IE):IA:=.cons a0 (.cons a1 (.cons a2 .nil))
noncomputable abbrev Ar4(a0 a1 a2 a3:IE):IA:=.cons a0 (.cons a1 (.cons a2 (.cons a3 .nil)))
noncomputable abbrev Ar5(a0 a1 a2 a3 a4:IE):IA:=.cons a0 (.cons a1 (.cons a2 (.cons a3 (.cons a4 .nil))))
noncomputable abbrev Ar6(a0 a1 a2 a3 a4 a5:IE):IA:=.cons a0 (.cons a1 (.cons a2 (.cons a3 (.cons a4 (.cons a5 .nil)))))
noncomputable abbrev S1(a0:IS):ISs:=.cons a0 .nil
noncomputable abbrev S2(a0 a1:IS):ISs:=.cons a0 (.cons a1 .nil)
noncomputable abbrev S3(a0 a1 a2:IS):ISs:=.cons a0 (.cons a1 (.cons a2 .nil))
noncomputable abbrev S4(a0 a1 a2 a3:IS):ISs:=.cons a0 (.cons a1 (.cons a2 (.cons a3 .nil)))
noncomputable abbrev S5(a0 a1 a2 a3 a4:IS):ISs:=.cons a0 (.cons a1 (.cons a2 (.cons a3 (.cons a4 .nil))))
noncomputable abbrev S7(a0 a1 a2 a3 a4 a5 a6:IS):ISs:=.cons a0 (.cons a1 (.cons a2 (.cons a3 (.cons a4 (.cons a5 (.cons a6 .nil))))))
noncomputable abbrev S8(a0 a1 a2 a3 a4 a5 a6 a7:IS):ISs:=.cons a0 (.cons a1 (.cons a2 (.cons a3 (.cons a4 (.cons a5 (.cons a6 (.cons a7 .nil)))))))
noncomputable abbrev S12(a0 a1 a2 a3 a4 a5 a6 a7 a8 a9 a10 a11:IS):ISs:=.cons a0 (.cons a1 (.cons a2 (.cons a3 (.cons a4 (.cons a5 (.cons a6 (.cons a7 (.cons a8 (.cons a9 (.cons a10 (.cons a11 .nil)))))))))))
noncomputable abbrev fL(n q:String)(g c:Bool)(s:Stmt)(N:List Str)(k:Nat)(b:ISs):FL:={name:=n,qual:=q,glob:=g,cl:=c,st:=s,N:=N,ps:=N.take k,body:=b}
noncomputable abbrev fl(n:String):=fL n n true
abbrev runF(T:List FB)(B:WB)(n:Nat)(b:ISs)(σ:St3)(M:MH)(Q:VK3)(E:XN):Prop:=aX {toWB:=B,call:=aa T B n} b {nx:=λ_ M'=>Q .non (aK M M'),rt:=λv M'=>Q v (aK M M')} (λ_ i M'=>E i (aK M M')) σ M
noncomputable def fA:ISs:=S1 (.ret (.and (.isB V0 .int) (.not (.isB V0 .bool))))
noncomputable def aw:ISs:=S2 (.fset V0 211529960 V1) (.fset V0 456806758904562 V2)
noncomputable def cS:ISs:=S1 (.expr (.ini 0 (Ar3 V0 V1 V2)))
noncomputable def pP:ISs:=S1 .dead
noncomputable def bq:ISs:=S1 (.ret (.lst true .nil))
noncomputable def cq:ISs:=S3 (.expr (.ini 0 (Ar3 V0 V1 V2))) (.fset V0 32709062885 V3) (.fset V0 213725420 V4)
noncomputable def nz:ISs:=S1 .dead
noncomputable def bc:ISs:=S1 (.ret (.lst true (Ar2 (.tup (Ar3 (.glo 0) V2 (.fld V0 213725420))) (.tup (Ar3 V2 (.glo 0) (.neg (.fld V0 32709062885)))))))
noncomputable def cV:ISs:=S2 (.expr (.ini 0 (Ar3 V0 V1 V2))) (.fset V0 14324 V3)
noncomputable def pG:ISs:=S1 .dead
noncomputable def bG:ISs:=S1 (.ret (.lst true .nil))
noncomputable def cW:ISs:=S2 (.expr (.ini 0 (Ar3 V0 V1 V2))) (.fset V0 3944367338220 V3)
noncomputable def pA:ISs:=S1 .dead
noncomputable def aU:ISs:=S4 (.set 3 (.meth V1 1994999 (Ar2 (.ix (.fld V0 3944367338220) I0) (.fld V0 211529960)))) (.set 4 (.lst false (Ar1 (.tup (Ar3 V2 (.fld V0 3944367338220) (.neg (.ix V3 I0))))))) (.ifs (.cmp .IsNot (.ix V3 I1) (.con .non)) (S1 (.app V4 (.tup (Ar3 (.fld V0 3944367338220) V2 (.ix V3 I1))))) .nil) (.ret (.frz V4))
noncomputable def dq:ISs:=S1 (.ret (.and (.cmp .Eq (.bi .len (Ar1 V0)) V1) (.bi .all (Ar1 (.comp true ["thing"] [none] (.name 0) (.seq V0) .no (.call 0 (Ar1 V0)))))))
noncomputable def eB:ISs:=S1 (.ret (.and (.isB V0 .tuple) (.call 14 (Ar2 V0 I2))))
noncomputable def bj:ISs:=S7 (.ifs (.or (.not (.val (.isB V0 .tuple))) (.cmp .Eq (.bi .len (Ar1 V0)) I0)) (S1 .dead) .nil) (.set 1 (.ix V0 I0)) (.ifs (.and (.cmp .Eq V1 (.con (.str "look"))) (.val (.call 14 (Ar2 (.sl true V0 (.yes I1) .no) I2)))) (S1 (.ret (.make true 1 (Ar2 (.ix V0 I1) (.ix V0 I2))))) .nil) (.ifs (.and (.cmp .Eq V1 (.con (.str "sight"))) (.val (.call 14 (Ar2 (.sl true V0 (.yes I1) .no) I4)))) (S1 (.ret (.make true 2 (Ar4 (.ix V0 I1) (.ix V0 I2) (.ix V0 I3) (.ix V0 I4))))) .nil) (.ifs (.and (.cmp .Eq V1 (.con (.str "send"))) (.val (.call 14 (Ar2 (.sl true V0 (.yes I1) .no) I3)))) (S1 (.ret (.make true 3 (Ar3 (.ix V0 I1) (.ix V0 I2) (.ix V0 I3))))) .nil) (.ifs (.and (.cmp .Eq V1 (.con (.str "take"))) (.and (.val (.call 14 (Ar2 (.sl true V0 (.yes I1) (.yes I3)) I2))) (.and (.cmp .Eq (.bi .len (Ar1 V0)) I4) (.val (.call 15 (Ar1 (.ix V0 I3))))))) (S1 (.ret (.make true 4 (Ar3 (.ix V0 I1) (.ix V0 I2) (.ix V0 I3))))) .nil) .dead
noncomputable def fK:ISs:=S3 (.set 2 (.bm .get V0 (Ar2 V1 I0))) (.ixset V0 V1 (.bin .Add V2 I1)) (.ret (.tup (Ar2 V1 V2)))
noncomputable def dM:ISs:=S1 (.app V2 (.call 17 (Ar2 V1 (.ix V3 I1))))
noncomputable def l8:ISs:=S4 (.set 1 (.dnew false)) (.set 2 (.lst false .nil)) (.for_ (.name 3) (.seq V0) dM) (.ret (.frz V2))
noncomputable def cG:ISs:=S1 (.ret (.lst true (Ar2 (.tup (Ar3 V1 V2 (.bin .Mult (.ix V0 I1) V3))) (.tup (Ar3 V2 V1 (.bin .Mult (.neg (.ix V0 I0)) V3))))))
noncomputable def cO:ISs:=S5 (.set 6 (.call 16 (Ar1 V5))) (.expr (.bm .extend V2 (Ar1 (.meth V6 1067955986548848835567 (Ar2 V0 V4))))) (.set 7 (.tup (Ar2 (.ix V4 I0) (.bin .Sub (.ix V4 I1) I1)))) (.ifs (.cmp .In V7 V3) (S1 (.expr (.bm .extend V2 (Ar1 (.call 19 (Ar4 (.meth V0 28932044387 (Ar1 (.fld V6 211529960))) V7 V4 (.bin .Sub (.fld V6 456806758904562) (.ix V3 V7)))))))) .nil) (.ixset V3 V4 (.fld V6 456806758904562))
noncomputable def jm:ISs:=S4 (.set 2 (.lst false .nil)) (.set 3 (.dnew true)) (.for_ (.tup [4,5]) (.zip (.call 18 (Ar1 V1)) V1) cO) (.ret (.frz V2))
noncomputable def iA:ISs:=S1 (.ixset V3 V4 V5)
noncomputable def gc:ISs:=S4 (.ifs (.cmp .NotEq (.bi .len (Ar1 V2)) (.bi .len (Ar1 V1))) (S1 (.raise 8 (Ar1 (.con (.str "there is not one time for each happening"))))) .nil) (.set 3 (.dctT (.glo 0) I0)) (.for_ (.tup [4,5]) (.zip (.call 18 (Ar1 V1)) V2) iA) (.ret (.comp true ["bound","time_of"] [none,some 3] (.name 0) (.seq (.call 20 (Ar2 V0 V1))) (.yes (.cmp .Gt (.bin .Sub (.ix V1 (.ix V0 I1)) (.ix V1 (.ix V0 I0))) (.ix V0 I2))) V0))
noncomputable def cA:ISs:=S2 (.ifs (.cmp .Lt V0 I1) (S1 .dead) .nil) (.ifs (.cmp .Lt V1 V0) (S1 .dead) .nil)
noncomputable def bO:ISs:=S2 (.ifs (.cmp .Lt V0 I0) (S1 .dead) .nil) (.ifs (.and (.cmp .IsNot V1 (.con .non)) (.cmp .Lt V1 V0)) (S1 .dead) .nil)
noncomputable def bF:ISs:=S1 (.expr (.call 22 (Ar2 V3 V4)))
noncomputable def bI:ISs:=S1 (.expr (.meth V0 8774101686596482917 (Ar4 V5 V6 V7 V8)))
noncomputable def cC:ISs:=S5 (.ifs (.or (.cmp .Lt (.bi .len (Ar1 V1)) I1) (.cmp .Gt (.bi .len (Ar1 V1)) (.glo 1))) (S1 .dead) .nil) (.for_ (.tup [3,4]) (.seq V1) bF) (.fset V0 136762133858116729320171 (.bi (.list false) (Ar1 V1))) (.fset V0 8355170983792620267 (.dnew true)) (.for_ (.tup [5,6,7,8]) (.seq V2) bI)
noncomputable def bD:ISs:=S4 (.expr (.meth V0 135562951883986971505394 (Ar2 V1 V2))) (.ifs (.cmp .In (.tup (Ar2 V1 V2)) (.fld V0 8355170983792620267)) (S1 .dead) .nil) (.expr (.call 23 (Ar2 V3 V4))) (.ixset (.fld V0 8355170983792620267) (.tup (Ar2 V1 V2)) (.tup (Ar2 V3 V4)))
noncomputable def aL:ISs:=S1 (.ifs (.not (.val (.meth V0 56782141471387880 (Ar1 V1)))) (S1 .dead) .nil)
noncomputable def aN:ISs:=S3 (.expr (.meth V0 119080781550527859766002 (Ar1 V1))) (.expr (.meth V0 119080781550527859766002 (Ar1 V2))) (.ifs (.cmp .Eq V1 V2) (S1 .dead) .nil)
noncomputable def bR:ISs:=S1 (.ret (.bi .len (Ar1 (.fld V0 136762133858116729320171))))
noncomputable def ba:ISs:=S1 (.ret (.chain .LtE .Lt I0 V1 (.meth V0 31081607400 .nil)))
noncomputable def bY:ISs:=S1 (.ret (.cmp .In (.tup (Ar2 V1 V2)) (.fld V0 8355170983792620267)))
noncomputable def cU:ISs:=S2 (.expr (.meth V0 119080781550527859766002 (Ar1 V1))) (.ret (.ix (.fld V0 136762133858116729320171) V1))
noncomputable def eg:ISs:=S3 (.expr (.meth V0 135562951883986971505394 (Ar2 V1 V2))) (.ifs (.not (.val (.meth V0 535528667410664 (Ar2 V1 V2)))) (S1 .dead) .nil) (.ret (.ix (.fld V0 8355170983792620267) (.tup (Ar2 V1 V2))))
noncomputable def bP:ISs:=S2 (.ifs (.cmp .Lt V1 (.bi .len (Ar1 V0))) (S1 (.ret (.ix V0 V1))) .nil) (.ret I0)
noncomputable def bW:ISs:=S2 (.set 3 (.bin .Mod (.bin .Add (.bin .Add (.bin .Mult V3 V3) (.bin .Mult (.con (.int 48271)) V3)) V4) (.bin .Add (.bin .Pow (.con (.int 10)) (.con (.int 40))) (.con (.int 121))))) (.app V2 V3)
noncomputable def dm:ISs:=S4 (.set 2 (.lst false .nil)) (.set 3 (.bin .Add (.bin .Mod V0 (.bin .Add (.bin .Pow (.con (.int 10)) (.con (.int 40))) (.con (.int 121)))) (.con (.int 48271)))) (.for_ (.name 4) (.rng1 (.bin .Add V1 I4)) bW) (.ret (.sl true V2 (.yes I4) .no))
noncomputable def eV:ISs:=S3 (.set 2 (.ix (.lst true (Ar3 I0 I1 (.bin .Mod (.ix V0 I0) V1))) (.bin .Mod (.ix V0 I1) I3))) (.ifs (.cmp .Eq (.bin .Mod (.bin .FloorDiv (.ix V0 I1) I3) I4) I0) (S1 (.ret (.tup (Ar2 V2 (.con .non))))) .nil) (.ret (.tup (Ar2 V2 (.bin .Add V2 (.ix (.lst true (Ar3 I0 I1 (.bin .Mod (.ix V0 I2) V1))) (.bin .Mod (.bin .FloorDiv (.ix V0 I1) (.con (.int 12))) I3))))))
noncomputable def bu:ISs:=S2 (.set 9 (.call 34 (Ar2 (.bin .Add (.bin .Add (.bin .Add V0 (.bin .Mult I7 V6)) (.bin .Mult (.con (.int 43)) V8)) I1) I4))) (.ifs (.and (.cmp .NotEq V6 V8) (.cmp .Gt (.bin .Mod (.ix V9 I3) I6) I0)) (S1 (.ixset V5 (.tup (Ar2 V6 V8)) (.call 35 (Ar2 V9 V3)))) .nil)
noncomputable def bB:ISs:=S3 (.set 7 (.bin .Add I1 (.bin .Mod (.bin .FloorDiv (.ix V1 (.bin .Add I2 V6)) I3) V3))) (.app V4 (.tup (Ar2 V7 (.bin .Add V7 (.ix (.lst true (Ar3 I0 I1 (.bin .Mod (.ix V1 (.bin .Sub I7 V6)) V3))) (.bin .Mod (.ix V1 (.bin .Add I2 V6)) I3)))))) (.for_ (.name 8) (.rng1 V2) bu)
noncomputable def dY:ISs:=S7 (.set 1 (.call 34 (Ar2 V0 I8))) (.set 2 (.ix (.lst true (.cons I1 (.cons I2 (Ar6 I2 I3 I3 I4 I5 I6)))) (.bin .Mod (.ix V1 I0) I8))) (.set 3 (.ix (.lst true (Ar4 I3 (.con (.int 100)) (.bin .Pow (.con (.int 10)) I9) (.bin .Pow (.con (.int 10)) (.con (.int 30))))) (.bin .Mod (.ix V1 I1) I4))) (.set 4 (.lst false .nil)) (.set 5 (.dnew true)) (.for_ (.name 6) (.rng1 V2) bB) (.ret (.tup (Ar2 (.frz V4) (.frz V5))))
noncomputable def fE:ISs:=S1 (.ret (.make true 5 (Ar2 (.bi (.list true) (Ar1 (.ix V0 I0))) (.comp true ["_law_pair","_law_way_here"] [none,none] (.tup [0,1]) (.items (.ix V0 I1)) .no (.bin .Add V0 V1)))))
noncomputable def gK:ISs:=S7 (.set 5 (.ix (.lst true (Ar4 I0 I1 (.bin .Mod (.ix V2 I1) I5) (.bin .Mod (.ix V2 I1) (.bin .Pow (.con (.int 10)) (.con (.int 12)))))) (.bin .Mod (.ix V2 I2) I4))) (.ifs (.and (.cmp .IsNot V3 (.con .non)) (.cmp .Lt (.bin .Add (.ix V1 I2) (.bin .Mult (.ix V0 I1) V5)) V3)) (S1 (.set 5 (.bin .FloorDiv (.bin .Sub (.bin .Add (.bin .Sub V3 (.ix V1 I2)) (.ix V0 I1)) I1) (.ix V0 I1)))) .nil) (.set 6 (.bin .Add (.ix V1 I2) (.bin .Mult (.ix V0 I0) V5))) (.set 7 (.bin .Add (.ix V1 I2) (.bin .Mult (.ix V0 I1) V5))) (.ifs (.cmp .IsNot V3 (.con .non)) (S1 (.set 6 (.bi .max (Ar2 V6 V3)))) .nil) (.ifs (.cmp .IsNot V4 (.con .non)) (S1 (.set 7 (.bi .min (Ar2 V7 V4)))) .nil) (.ret (.tup (Ar3 V5 V6 V7)))
noncomputable def cY:ISs:=S5 (.set 5 (.comp true ["_law_pair","_law_hand"] [none,some 0] (.name 0) (.dk V3) (.yes (.cmp .Eq (.ix V0 I0) V1)) (.ix V0 I1))) (.set 6 (.bin .Mod (.bin .FloorDiv (.ix V4 I3) I2) I8)) (.ifs (.or (.cmp .Eq V6 I1) (.cmp .Eq V6 I2)) (S2 (.set 7 (.lst true (Ar4 I0 I1 (.bin .Mod (.ix V4 I0) (.con (.int 100))) (.bin .Mod (.ix V4 I0) (.bin .Pow (.con (.int 10)) (.con (.int 12))))))) (.ret (.tup (Ar5 (.con (.str "sight")) V0 V1 (.bin .Sub V2 (.ix V7 (.bin .Mod (.ix V4 I1) I4))) (.bin .Add V2 (.ix V7 (.bin .Mod (.bin .FloorDiv (.ix V4 I1) I4) I4))))))) .nil) (.ifs (.and (.cmp .Gt V6 I2) (.cmp .NotEq V5 (.lst true .nil))) (S1 (.ret (.tup (Ar4 (.con (.str "send")) V0 V1 (.ix V5 (.bin .Mod (.bin .FloorDiv (.ix V4 I2) I5) (.bi .len (Ar1 V5)))))))) .nil) (.ret (.tup (Ar3 (.con (.str "look")) V0 V1)))
noncomputable def fy:ISs:=S2 (.ifs (.cmp .Is (.ix V3 I1) (.con .non)) (S1 (.ret (.tup (Ar4 V0 (.ix V1 I3) (.bin .Add V2 (.ix V3 I0)) (.con .non))))) .nil) (.ret (.tup (Ar4 V0 (.ix V1 I3) (.bin .Add V2 (.ix V3 I0)) (.bin .Add V2 (.ix V3 I1)))))
noncomputable def cT:ISs:=S1 (.app V5 (.tup (Ar3 I0 (.bin .Sub (.bin .Mod V6 (.bin .Pow (.con (.int 10)) (.con (.int 12)))) (.bin .Pow (.con (.int 10)) (.con (.int 11)))) (.bin .Sub (.bin .Mod V1 (.bin .Pow (.con (.int 10)) (.con (.int 12)))) (.bin .Pow (.con (.int 10)) (.con (.int 11)))))))
noncomputable def aC:ISs:=S12 (.set 10 (.call 34 (Ar2 V9 I4))) (.set 11 (.bin .Mod (.ix V10 I0) (.bi .len (Ar1 V3)))) (.ifs (.cmp .Eq (.bin .Mod (.ix V10 I3) I2) I0) (S1 (.set 11 (.ix (.mmp (.comp true ["_law_k","_law_one"] [none,none] (.tup [0,1]) (.enum V5) .no (.tup (Ar2 (.ix V1 I2) V0)))) I1))) .nil) (.set 12 (.con .non)) (.set 13 (.call 38 (Ar5 (.ix V3 V11) (.ix V5 V11) V10 (.con .non) (.con .non)))) (.ifs (.and (.cmp .Gt (.bin .Mod (.bin .FloorDiv (.ix V10 I3) I2) I8) I4) (.cmp .NotEq V7 (.lst true .nil))) (S3 (.set 12 (.ix V7 (.bin .Mod (.bin .FloorDiv (.ix V10 I0) I7) (.bi .len (Ar1 V7))))) (.set 14 (.call 38 (Ar5 (.ix V3 (.ix V12 I1)) (.ix V5 (.ix V12 I1)) V10 (.ix V12 I2) (.ix V12 I3)))) (.ifs (.cmp .Gt (.ix V14 I1) (.ix V14 I2)) (S1 (.set 12 (.con .non))) (S2 (.set 11 (.ix V12 I1)) (.set 13 V14)))) .nil) (.set 15 (.ix (.lst true (Ar3 (.ix V13 I1) (.ix V13 I2) (.bin .Add (.ix V13 I1) (.bin .Mod (.bin .FloorDiv (.ix V10 I2) I4) (.bin .Add (.bin .Sub (.ix V13 I2) (.ix V13 I1)) I1))))) (.bin .Mod (.bin .FloorDiv (.ix V10 I3) (.con (.int 16))) I3))) (.set 16 (.tup (Ar2 V11 (.ix (.ix V5 V11) I0)))) (.ixset V5 V11 (.tup (Ar3 (.bin .Add (.ix V16 I1) I1) (.bin .Add (.ix (.ix V5 V11) I1) (.ix V13 I0)) V15))) (.set 17 (.call 39 (Ar5 V11 (.ix (.ix V5 V11) I1) V15 V4 V10))) (.ifs (.cmp .IsNot V12 (.con .non)) (S2 (.expr (.bm .remove V7 (Ar1 V12))) (.set 17 (.tup (Ar4 (.con (.str "take")) V11 (.ix (.ix V5 V11) I1) (.ix V12 I0))))) (S1 (.ifs (.cmp .Eq (.ix V17 I0) (.con (.str "send"))) (S1 (.app V7 (.call 40 (Ar4 V16 V17 V15 (.ix V4 (.tup (Ar2 V11 (.ix V17 I3)))))))) .nil))) (.app V8 (.tup (Ar2 V17 V15)))
noncomputable def fD:ISs:=S7 (.unp [3,4] V0) (.set 5 (.lst false .nil)) (.for_ (.name 6) (.seq (.call 34 (Ar2 V1 (.bi .len (Ar1 V3))))) cT) (.set 7 (.lst false .nil)) (.set 8 (.lst false .nil)) (.for_ (.name 9) (.seq V2) aC) (.ret (.frz V8))
noncomputable def hZ:ISs:=S3 (.ifs (.cmp .Eq (.ix V1 I0) (.con (.str "sight"))) (S1 (.ret (.lst true (Ar2 (.tup (Ar3 (.tup (Ar2 (.neg I1) I0)) V2 (.ix V1 I4))) (.tup (Ar3 V2 (.tup (Ar2 (.neg I1) I0)) (.bin .Sub I0 (.ix V1 I3)))))))) .nil) (.ifs (.cmp .Eq (.ix V1 I0) (.con (.str "take"))) (S3 (.unp [3,4] (.ix (.ix V0 I1) (.tup (Ar2 (.ix (.ix V1 I3) I0) (.ix V1 I1))))) (.ifs (.cmp .Is V4 (.con .non)) (S1 (.ret (.lst true (Ar1 (.tup (Ar3 V2 (.ix V1 I3) (.bin .Sub I0 V3))))))) .nil) (.ret (.lst true (Ar2 (.tup (Ar3 V2 (.ix V1 I3) (.bin .Sub I0 V3))) (.tup (Ar3 (.ix V1 I3) V2 V4)))))) .nil) (.ret (.lst true .nil))
noncomputable def cf:ISs:=S5 (.set 5 (.bm .setdef V3 (Ar2 (.ix V4 I1) (.lst false .nil)))) (.set 6 (.tup (Ar2 (.ix V4 I1) (.bi .len (Ar1 V5))))) (.expr (.bm .extend V2 (Ar1 (.call 42 (Ar3 V0 V4 V6))))) (.ifs (.cmp .NotEq V5 (.lst true .nil)) (S4 (.set 7 (.tup (Ar2 (.ix V4 I1) (.bin .Sub (.bi .len (Ar1 V5)) I1)))) (.unp [8,9] (.ix (.ix V0 I0) (.ix V4 I1))) (.app V2 (.tup (Ar3 V7 V6 (.bin .Mult V9 (.bin .Sub (.ix V4 I2) (.ix V5 (.neg I1))))))) (.app V2 (.tup (Ar3 V6 V7 (.bin .Mult V8 (.bin .Sub (.ix V5 (.neg I1)) (.ix V4 I2))))))) .nil) (.app V5 (.ix V4 I2))
noncomputable def gP:ISs:=S4 (.set 2 (.lst false .nil)) (.set 3 (.dnew false)) (.for_ (.name 4) (.seq V1) cf) (.ret (.frz V2))
noncomputable def bw:ISs:=S2 (.ixset V1 (.ix V3 I1) (.bin .Add (.bm .get V1 (Ar2 (.ix V3 I1) I0)) I1)) (.app V2 (.tup (Ar2 (.ix V3 I1) (.bin .Sub (.ix V1 (.ix V3 I1)) I1))))
noncomputable def eJ:ISs:=S4 (.set 1 (.dnew false)) (.set 2 (.lst false .nil)) (.for_ (.name 3) (.seq V0) bw) (.ret (.frz V2))
noncomputable def eE:ISs:=S1 (.ret (.and (.isB V0 .int) (.not (.isB V0 .bool))))
noncomputable def ft:ISs:=S2 (.ifs (.or (.not (.val (.isB V0 .tuple))) (.cmp .NotEq (.bi .len (Ar1 V0)) I2)) (S1 (.ret (.con (.bl false)))) .nil) (.ret (.and (.call 45 (Ar1 (.ix V0 I0))) (.call 45 (Ar1 (.ix V0 I1)))))
noncomputable def bH:ISs:=S3 (.set 5 (.bin .Mod (.ix V3 V4) (.bi .len (Ar1 V0)))) (.set 6 (.ix (.lst true (Ar3 I1 (.bin .Add I1 (.bin .Mod (.ix V3 (.bin .Add V4 I3)) I9)) (.bin .Add I1 (.bin .Mod (.ix V3 (.bin .Add V4 I3)) (.bin .Pow (.con (.int 10)) (.con (.int 30))))))) (.bin .Mod (.bin .FloorDiv (.ix V3 V4) (.con (.int 97))) I3))) (.ixset V2 V5 (.bin .Add (.ix V2 V5) (.bin .Mult V6 (.bin .Sub I1 (.bin .Mult I2 (.bin .Mod (.bin .FloorDiv (.ix V3 V4) (.con (.int 293))) I2))))))
noncomputable def d7:ISs:=S4 (.set 2 (.bi (.list false) (Ar1 V0))) (.set 3 (.call 34 (Ar2 V1 I6))) (.for_ (.name 4) (.rng1 (.bin .Mod V1 I4)) bH) (.ret (.frz V2))
noncomputable def dO:ISs:=S1 (.ixset V3 V4 V5)
noncomputable def dA:ISs:=S3 (.set 3 (.dctT (.tup (Ar2 (.neg I1) I0)) I0)) (.for_ (.tup [4,5]) (.zip (.call 44 (Ar1 V1)) V2) dO) (.ret (.comp true ["_law_one","_law_moments"] [none,some 3] (.name 0) (.seq (.call 43 (Ar2 V0 V1))) (.yes (.cmp .Gt (.bin .Sub (.ix V1 (.ix V0 I1)) (.ix V1 (.ix V0 I0))) (.ix V0 I2))) V0))
noncomputable def cX:ISs:=S4 (.tryE (S1 (.expr (.call 21 (Ar3 V0 V1 V2)))) (.cons 8 (some 3) (S1 (.set 4 V3)) .nil) (S1 (.ret (.con (.bl false))))) (.ifs (.or (.val (.isC V4 7)) (.or (.val (.isC V4 6)) (.val (.isC V4 9)))) (S1 (.ret (.con (.bl false)))) .nil) (.ifs (.or (.val (.isC V4 1)) (.val (.isC V4 2))) (S1 (.ret (.con (.bl false)))) .nil) (.ret (.and (.isC V4 0) (.isV V4)))
noncomputable def og:ISs:=S1 (.ifs (.or (.not (.val (.call 46 (Ar1 V10)))) (.or (.not (.val (.call 46 (Ar1 V11)))) (.not (.val (.call 45 (Ar1 V12)))))) (S1 (.ret (.con (.bl false)))) .nil)
noncomputable def nR:ISs:=S8 (.set 1 (.call 36 (Ar1 (.call 33 (Ar2 V0 I0))))) (.set 2 (.call 41 (Ar3 V1 (.call 33 (Ar2 V0 I1)) (.sl true V0 (.yes I2) (.yes (.con (.int 16))))))) (.set 3 (.comp true ["_law_row_here","_law_moment"] [none,none] (.tup [0,1]) (.seq V2) .no V0)) (.set 4 (.comp true ["_law_row_here","_law_moment"] [none,none] (.tup [0,1]) (.seq V2) .no V1)) (.set 5 (.call 37 (Ar1 V1))) (.ifs (.or (.cmp .NotEq (.call 21 (Ar3 V5 (.bi (.list true) (Ar1 V3)) (.bi (.list true) (Ar1 V4)))) (.lst true .nil)) (.cmp .NotEq (.call 21 (Ar3 V5 (.lst true .nil) (.lst true .nil))) (.lst true .nil))) (S1 (.ret (.con (.bl false)))) .nil) (.ifs (.cmp .NotEq V3 (.lst true .nil)) (S7 (.set 6 (.call 47 (Ar2 V4 (.bin .FloorDiv (.call 33 (Ar2 V0 I0)) I3)))) (.set 7 (.tup (Ar2 (.bi (.list true) (Ar1 V3)) (.bi (.list true) (Ar1 V6))))) (.set 8 (.call 21 (Ar3 V5 (.ix V7 I0) (.ix V7 I1)))) (.set 9 (.call 48 (Ar3 V1 V3 V6))) (.ifs (.or (.not (.val (.isB V8 .list))) (.or (.cmp .NotEq V8 V9) (.cmp .NotEq V7 (.tup (Ar2 V3 V6))))) (S1 (.ret (.con (.bl false)))) .nil) (.for_ (.tup [10,11,12]) (.seq V8) og) (.ifs (.or (.not (.val (.call 49 (Ar3 V5 V3 (.sl true V4 (.yes I1) .no))))) (.cmp .NotEq (.call 21 (Ar3 V5 V3 V6)) V9)) (S1 (.ret (.con (.bl false)))) .nil)) .nil) (.ret (.call 49 (Ar3 V5 V3 (.cat true V4 (.lst true (Ar1 I0))))))
noncomputable def pR:FL:=fl "is_whole" true (top 12) ["thing"] 1 fA
noncomputable def fO:FL:=fL "__init__" "Happening.__init__" false true (am (top 15) 0) ["self","hand","reading"] 3 aw
noncomputable def kg:FL:=fL "__init__" "Look.__init__" false true (am (top 16) 0) ["self","hand","reading"] 3 cS
noncomputable def pj:FL:=fL "row" "Look.row" false true (am (top 16) 1) ["self"] 1 pP
noncomputable def f8:FL:=fL "own_bounds" "Look.own_bounds" false true (am (top 16) 2) ["self","world","name"] 3 bq
noncomputable def jW:FL:=fL "__init__" "Sight.__init__" false true (am (top 17) 0) ["self","hand","reading","early","late"] 5 cq
noncomputable def nA:FL:=fL "row" "Sight.row" false true (am (top 17) 1) ["self"] 1 nz
noncomputable def fB:FL:=fL "own_bounds" "Sight.own_bounds" false true (am (top 17) 2) ["self","world","name"] 3 bc
noncomputable def j6:FL:=fL "__init__" "Send.__init__" false true (am (top 18) 0) ["self","hand","reading","to"] 4 cV
noncomputable def pk:FL:=fL "row" "Send.row" false true (am (top 18) 1) ["self"] 1 pG
noncomputable def gm:FL:=fL "own_bounds" "Send.own_bounds" false true (am (top 18) 2) ["self","world","name"] 3 bG
noncomputable def j2:FL:=fL "__init__" "Take.__init__" false true (am (top 19) 0) ["self","hand","reading","letter"] 4 cW
noncomputable def oI:FL:=fL "row" "Take.row" false true (am (top 19) 1) ["self"] 1 pA
noncomputable def fU:FL:=fL "own_bounds" "Take.own_bounds" false true (am (top 19) 2) ["self","world","name","way","told"] 3 aU
noncomputable def mC:FL:=fl "are_wholes" true (top 20) ["things","number"] 2 dq
noncomputable def mR:FL:=fl "is_letter" true (top 21) ["thing"] 1 eB
noncomputable def mM:FL:=fl "happening" true (top 22) ["row","word"] 1 bj
noncomputable def oG:FL:=fl "count_on" true (top 24) ["counts","hand","ahead"] 2 fK
noncomputable def wJ:FL:=fl "names" true (top 25) ["log","counts","told","row"] 1 l8
noncomputable def jp:FL:=fl "clock_bounds" true (top 27) ["clock","last","here","ticks"] 4 cG
noncomputable def ua:FL:=fl "bounds" true (top 28) ["world","log","told","readings","here","row","one","last"] 2 jm
noncomputable def uK:FL:=fl "broken" true (top 29) ["world","log","times","time_of","name","time"] 3 gc
noncomputable def jO:FL:=fl "refuse_clock" true (top 32) ["short","long"] 2 cA
noncomputable def gT:FL:=fl "refuse_lengths" true (top 33) ["least","most"] 2 bO
noncomputable def jC:FL:=fL "__init__" "World.__init__" false false (am (top 34) 0) ["self","clocks","ways","short","long","one","other","least","most"] 3 cC
noncomputable def gE:FL:=fL "enter_way" "World.enter_way" false true (am (top 34) 1) ["self","one","other","least","most"] 5 bD
noncomputable def eY:FL:=fL "refuse_hand" "World.refuse_hand" false true (am (top 34) 2) ["self","hand"] 2 aL
noncomputable def eX:FL:=fL "refuse_pair" "World.refuse_pair" false true (am (top 34) 3) ["self","one","other"] 3 aN
noncomputable def kf:FL:=fL "hands" "World.hands" false true (am (top 34) 4) ["self"] 1 bR
noncomputable def gS:FL:=fL "has_hand" "World.has_hand" false true (am (top 34) 5) ["self","hand"] 2 ba
noncomputable def iN:FL:=fL "has_way" "World.has_way" false true (am (top 34) 6) ["self","one","other"] 3 bY
noncomputable def jY:FL:=fL "clock" "World.clock" false true (am (top 34) 7) ["self","hand"] 2 cU
noncomputable def nW:FL:=fL "way" "World.way" false true (am (top 34) 8) ["self","one","other"] 3 eg
noncomputable def kj:FL:=fl "_law_cell_at" true (top 36) ["_law_script","_law_k"] 2 bP
noncomputable def lN:FL:=fl "_law_stream" true (top 37) ["_law_cell","_law_many","_law_found","_law_number","_law_k"] 2 dm
noncomputable def rS:FL:=fl "_law_way" true (top 38) ["_law_xs","_law_size","_law_least"] 2 eV
noncomputable def on:FL:=fl "_law_world" true (top 39) ["_law_cell","_law_xs","_law_hands","_law_size","_law_clocks","_law_ways","_law_one","_law_short","_law_other","_law_ys"] 1 dY
noncomputable def oz:FL:=fl "_law_made" true (top 40) ["_law_world_here"] 1 fE
noncomputable def qX:FL:=fl "_law_lag" true (top 41) ["_law_clock","_law_here","_law_xs","_law_low","_law_high","_law_ticks","_law_first","_law_last"] 5 gK
noncomputable def rA:FL:=fl "_law_row" true (top 42) ["_law_hand","_law_reading","_law_moment","_law_ways","_law_xs","_law_tos","_law_kind","_law_gaps"] 5 cY
noncomputable def pL:FL:=fl "_law_sent" true (top 43) ["_law_here","_law_row_here","_law_moment","_law_way_here"] 4 fy
noncomputable def o6:FL:=fl "_law_tale" true (top 44) ["_law_world_here","_law_start","_law_cells","_law_clocks","_law_ways","_law_at","_law_x","_law_sent_here","_law_told","_law_cell","_law_xs","_law_hand","_law_letter","_law_lag_here","_law_near","_law_moment","_law_here","_law_row_here"] 3 fD
noncomputable def sC:FL:=fl "_law_own" true (top 45) ["_law_world_here","_law_row_here","_law_here","_law_least","_law_most"] 3 hZ
noncomputable def rq:FL:=fl "_law_due" true (top 46) ["_law_world_here","_law_log","_law_found","_law_seen","_law_row_here","_law_known","_law_here","_law_last","_law_short","_law_long"] 2 gP
noncomputable def nN:FL:=fl "_law_names" true (top 47) ["_law_log","_law_many","_law_found","_law_row_here"] 1 eJ
noncomputable def nI:FL:=fl "_law_whole" true (top 48) ["_law_found"] 1 eE
noncomputable def pB:FL:=fl "_law_name" true (top 49) ["_law_found"] 1 ft
noncomputable def n9:FL:=fl "_law_moved" true (top 50) ["_law_times","_law_cell","_law_found","_law_xs","_law_k","_law_at","_law_by"] 2 d7
noncomputable def lI:FL:=fl "_law_broken" true (top 51) ["_law_world_here","_law_log","_law_times","_law_moments","_law_here","_law_moment"] 3 dA
noncomputable def j1:FL:=fl "_law_refused" true (top 52) ["_law_made_here","_law_log","_law_times","e","_law_word"] 3 cX
noncomputable def l_law:FL:=fl "law" true (top 53) ["_law_script","_law_world_here","_law_told","_law_log","_law_times","_law_made_here","_law_pushed","_law_handed","_law_found","_law_due_here","_law_x","_law_y","_law_m"] 1 nR
noncomputable def L:List FL:=[pR,fO,kg,pj,f8,jW,nA,fB,j6,pk,gm,j2,oI,fU,mC,mR,mM,oG,wJ,jp,ua,uK,jO,gT,jC,gE,eY,eX,kf,gS,iN,jY,nW,kj,lN,rS,on,oz,qX,rA,pL,o6,sC,rq,nN,nI,pB,n9,lI,j1,l_law]
noncomputable def xinT:List (Nat×Nat):=[(9,217822450)]
noncomputable def nm:NM:=⟨["DriftError","NoNumber","NoStretch","NoHand","NoClock","NoWay","NoHappening","NoName","NoHistory","Ring"],["Happening","Look","Sight","Send","Take","World"],["NOUGHT","MOST_HANDS"],xinT⟩
noncomputable def xin(i:Nat):Option Nat:=xinT.lookup i
noncomputable def subT:List (List Bool):=[[true,false,false,false,false,false,false,false,false,false],[true,true,false,false,false,false,false,false,false,false],[true,false,true,false,false,false,false,false,false,false],[true,false,false,true,false,false,false,false,false,false],[true,false,false,false,true,false,false,false,false,false],[true,false,false,false,false,true,false,false,false,false],[true,false,false,false,false,false,true,false,false,false],[true,false,false,false,false,false,false,true,false,false],[true,false,false,false,false,false,false,false,true,false],[true,false,false,false,false,false,false,false,false,true]]
noncomputable def sub(i j:Nat):Bool:=(subT.getD i []).getD j false
noncomputable def ksubT:List (List Bool):=[[true,false,false,false,false,false],[true,true,false,false,false,false],[true,false,true,false,false,false],[true,false,false,true,false,false],[true,false,false,false,true,false],[false,false,false,false,false,true]]
noncomputable def ksub(i j:Nat):Bool:=(ksubT.getD i []).getD j false
noncomputable def fokT:List (List Nat):=[[211529960,456806758904562],[211529960,456806758904562],[32709062885,213725420,211529960,456806758904562],[14324,211529960,456806758904562],[3944367338220,211529960,456806758904562],[136762133858116729320171,8355170983792620267]]
noncomputable def fok(i f:Nat):Bool:=(fokT.getD i []).contains f
noncomputable def mthT:List (List (Nat×Nat)):=[[],[(1067955986548848835567,4),(1964018,3)],[(1067955986548848835567,7),(1964018,6)],[(1067955986548848835567,10),(1964018,9)],[(1067955986548848835567,13),(1964018,12)],[(28932044387,31),(8774101686596482917,25),(31081607400,28),(56782141471387880,29),(535528667410664,30),(119080781550527859766002,26),(135562951883986971505394,27),(1994999,32)]]
noncomputable def mth(i m:Nat):Option Nat:=(mthT.getD i []).lookup m
noncomputable def BE:List Nat:=[1,2,5,8,11,24]
noncomputable def ini(i:Nat):Option Nat:=BE[i]?
noncomputable def gloT:List D:=[.tup [.int (-1),.int 0],.int 6]
noncomputable def glo(k:Nat):D:=gloT.getD k .non
noncomputable def B(cls kls fad:Nat->Addr):WB:={ne:=10,cls:=cls,sub:=sub,nk:=6,kls:=kls,ksub:=ksub,fok:=fok,mth:=mth,ini:=ini,xin:=xin,glo:=glo,fad:=fad}
section
variable {cls kls fad:Nat->Addr}
@[simp] theorem GC:(B cls kls fad).ne=10:=rfl
@[simp] theorem Gs:(B cls kls fad).cls=cls:=rfl
@[simp] theorem Gy:(B cls kls fad).sub=sub:=rfl
@[simp] theorem GE:(B cls kls fad).nk=6:=rfl
@[simp] theorem FI:(B cls kls fad).kls=kls:=rfl
@[simp] theorem FN:(B cls kls fad).fok=fok:=rfl
@[simp] theorem Gi:(B cls kls fad).mth=mth:=rfl
@[simp] theorem FF:(B cls kls fad).ini=ini:=rfl
@[simp] theorem Gq:(B cls kls fad).glo=glo:=rfl
end
@[simp] theorem Dn:sub 8 0=true:=rfl
@[simp] theorem DP:sub 8 1=false:=rfl
@[simp] theorem Dd:sub 8 2=false:=rfl
@[simp] theorem DQ:sub 8 6=false:=rfl
@[simp] theorem DF:sub 8 7=false:=rfl
@[simp] theorem Dl:sub 8 8=true:=rfl
@[simp] theorem DN:sub 8 9=false:=rfl
@[simp] theorem Gg:ini 0=some 1:=rfl
@[simp] theorem yy:fok 1 211529960=true:=by decide
@[simp] theorem vq:fok 1 456806758904562=true:=by decide
@[simp] theorem q9:mth 1 1067955986548848835567=some 4:=by decide
@[simp] theorem FM:ini 1=some 2:=rfl
@[simp] theorem xI:fok 2 32709062885=true:=by decide
@[simp] theorem zE:fok 2 213725420=true:=by decide
@[simp] theorem Al:fok 2 211529960=true:=by decide
@[simp] theorem vp:fok 2 456806758904562=true:=by decide
@[simp] theorem sf:mth 2 1067955986548848835567=some 7:=by decide
@[simp] theorem FV:ini 2=some 5:=rfl
@[simp] theorem Bj:fok 3 14324=true:=by decide
@[simp] theorem yZ:fok 3 211529960=true:=by decide
@[simp] theorem vo:fok 3 456806758904562=true:=by decide
@[simp] theorem rX:mth 3 1067955986548848835567=some 10:=by decide
@[simp] theorem Fu:ini 3=some 8:=rfl
@[simp] theorem xo:fok 4 3944367338220=true:=by decide
@[simp] theorem yg:fok 4 211529960=true:=by decide
@[simp] theorem vt:fok 4 456806758904562=true:=by decide
@[simp] theorem sy:mth 4 1067955986548848835567=some 13:=by decide
@[simp] theorem FS:ini 4=some 11:=rfl
@[simp] theorem qI:fok 5 136762133858116729320171=true:=by decide
@[simp] theorem sJ:fok 5 8355170983792620267=true:=by decide
@[simp] theorem FK:ini 5=some 24:=rfl
@[simp] theorem Fw:glo 0=.tup [.int (-1),.int 0]:=rfl
@[simp] theorem FA:glo 1=.int 6:=rfl
theorem Av:fnm 217822450=("ring" : Str):=by decide +kernel
noncomputable def T:List FB:=L.map FL.fb
theorem D1:L.map FL.fb=T:=rfl
section
variable {B:WB}{M:MH}{Q:VK3}{E:XN}{n:Nat}
theorem oK{x0:D}:aa T B (n+1) 0 [x0] M Q E=runF T B n fA [some x0] M Q E:=propext ⟨λh=>h.2,λh=>⟨rfl,h⟩⟩
theorem aP{x0 x1 x2:D}:aa T B (n+1) 1 [x0,x1,x2] M Q E=runF T B n aw [some x0,some x1,some x2] M Q E:=propext ⟨λh=>h.2,λh=>⟨rfl,h⟩⟩
theorem ko{x0 x1 x2:D}:aa T B (n+1) 2 [x0,x1,x2] M Q E=runF T B n cS [some x0,some x1,some x2] M Q E:=propext ⟨λh=>h.2,λh=>⟨rfl,h⟩⟩
theorem f9{x0 x1 x2:D}:aa T B (n+1) 4 [x0,x1,x2] M Q E=runF T B n bq [some x0,some x1,some x2] M Q E:=propext ⟨λh=>h.2,λh=>⟨rfl,h⟩⟩
theorem i8{x0 x1 x2 x3 x4:D}:aa T B (n+1) 5 [x0,x1,x2,x3,x4] M Q E=runF T B n cq [some x0,some x1,some x2,some x3,some x4] M Q E:=propext ⟨λh=>h.2,λh=>⟨rfl,h⟩⟩
theorem fw{x0 x1 x2:D}:aa T B (n+1) 7 [x0,x1,x2] M Q E=runF T B n bc [some x0,some x1,some x2] M Q E:=propext ⟨λh=>h.2,λh=>⟨rfl,h⟩⟩
theorem j8{x0 x1 x2 x3:D}:aa T B (n+1) 8 [x0,x1,x2,x3] M Q E=runF T B n cV [some x0,some x1,some x2,some x3] M Q E:=propext ⟨λh=>h.2,λh=>⟨rfl,h⟩⟩
theorem gI{x0 x1 x2:D}:aa T B (n+1) 10 [x0,x1,x2] M Q E=runF T B n bG [some x0,some x1,some x2] M Q E:=propext ⟨λh=>h.2,λh=>⟨rfl,h⟩⟩
theorem j4{x0 x1 x2 x3:D}:aa T B (n+1) 11 [x0,x1,x2,x3] M Q E=runF T B n cW [some x0,some x1,some x2,some x3] M Q E:=propext ⟨λh=>h.2,λh=>⟨rfl,h⟩⟩
theorem cR{x0 x1 x2:D}:aa T B (n+1) 13 [x0,x1,x2] M Q E=runF T B n aU [some x0,some x1,some x2,none,none] M Q E:=propext ⟨λh=>h.2,λh=>⟨rfl,h⟩⟩
theorem lT{x0 x1:D}:aa T B (n+1) 14 [x0,x1] M Q E=runF T B n dq [some x0,some x1] M Q E:=propext ⟨λh=>h.2,λh=>⟨rfl,h⟩⟩
theorem nt{x0:D}:aa T B (n+1) 15 [x0] M Q E=runF T B n eB [some x0] M Q E:=propext ⟨λh=>h.2,λh=>⟨rfl,h⟩⟩
theorem cP{x0:D}:aa T B (n+1) 16 [x0] M Q E=runF T B n bj [some x0,none] M Q E:=propext ⟨λh=>h.2,λh=>⟨rfl,h⟩⟩
theorem oU{x0 x1:D}:aa T B (n+1) 17 [x0,x1] M Q E=runF T B n fK [some x0,some x1,none] M Q E:=propext ⟨λh=>h.2,λh=>⟨rfl,h⟩⟩
theorem vE{x0:D}:aa T B (n+1) 18 [x0] M Q E=runF T B n l8 [some x0,none,none,none] M Q E:=propext ⟨λh=>h.2,λh=>⟨rfl,h⟩⟩
theorem jU{x0 x1 x2 x3:D}:aa T B (n+1) 19 [x0,x1,x2,x3] M Q E=runF T B n cG [some x0,some x1,some x2,some x3] M Q E:=propext ⟨λh=>h.2,λh=>⟨rfl,h⟩⟩
theorem tF{x0 x1:D}:aa T B (n+1) 20 [x0,x1] M Q E=runF T B n jm [some x0,some x1,none,none,none,none,none,none] M Q E:=propext ⟨λh=>h.2,λh=>⟨rfl,h⟩⟩
theorem nO{x0 x1 x2:D}:aa T B (n+1) 21 [x0,x1,x2] M Q E=runF T B n gc [some x0,some x1,some x2,none,none,none] M Q E:=propext ⟨λh=>h.2,λh=>⟨rfl,h⟩⟩
theorem i4{x0 x1:D}:aa T B (n+1) 22 [x0,x1] M Q E=runF T B n cA [some x0,some x1] M Q E:=propext ⟨λh=>h.2,λh=>⟨rfl,h⟩⟩
theorem hD{x0 x1:D}:aa T B (n+1) 23 [x0,x1] M Q E=runF T B n bO [some x0,some x1] M Q E:=propext ⟨λh=>h.2,λh=>⟨rfl,h⟩⟩
theorem jG{x0 x1 x2:D}:aa T B (n+1) 24 [x0,x1,x2] M Q E=aX {toWB:=B,call:=aa T B n} cC {nx:=λ_ M'=>Q .non M',rt:=λv M'=>Q v M'} (λ_ i M'=>E i (aK M M')) [some x0,some x1,some x2,none,none,none,none,none,none] M:=propext ⟨λh=>h.2,λh=>⟨rfl,h⟩⟩
theorem gi{x0 x1 x2 x3 x4:D}:aa T B (n+1) 25 [x0,x1,x2,x3,x4] M Q E=runF T B n bD [some x0,some x1,some x2,some x3,some x4] M Q E:=propext ⟨λh=>h.2,λh=>⟨rfl,h⟩⟩
theorem bZ{x0 x1:D}:aa T B (n+1) 26 [x0,x1] M Q E=runF T B n aL [some x0,some x1] M Q E:=propext ⟨λh=>h.2,λh=>⟨rfl,h⟩⟩
theorem ce{x0 x1 x2:D}:aa T B (n+1) 27 [x0,x1,x2] M Q E=runF T B n aN [some x0,some x1,some x2] M Q E:=propext ⟨λh=>h.2,λh=>⟨rfl,h⟩⟩
theorem fh{x0:D}:aa T B (n+1) 28 [x0] M Q E=runF T B n bR [some x0] M Q E:=propext ⟨λh=>h.2,λh=>⟨rfl,h⟩⟩
theorem dc{x0 x1:D}:aa T B (n+1) 29 [x0,x1] M Q E=runF T B n ba [some x0,some x1] M Q E:=propext ⟨λh=>h.2,λh=>⟨rfl,h⟩⟩
theorem iM{x0 x1 x2:D}:aa T B (n+1) 30 [x0,x1,x2] M Q E=runF T B n bY [some x0,some x1,some x2] M Q E:=propext ⟨λh=>h.2,λh=>⟨rfl,h⟩⟩
theorem kr{x0 x1:D}:aa T B (n+1) 31 [x0,x1] M Q E=runF T B n cU [some x0,some x1] M Q E:=propext ⟨λh=>h.2,λh=>⟨rfl,h⟩⟩
theorem nr{x0 x1 x2:D}:aa T B (n+1) 32 [x0,x1,x2] M Q E=runF T B n eg [some x0,some x1,some x2] M Q E:=propext ⟨λh=>h.2,λh=>⟨rfl,h⟩⟩
theorem fg{x0 x1:D}:aa T B (n+1) 33 [x0,x1] M Q E=runF T B n bP [some x0,some x1] M Q E:=propext ⟨λh=>h.2,λh=>⟨rfl,h⟩⟩
theorem mj{x0 x1:D}:aa T B (n+1) 34 [x0,x1] M Q E=runF T B n dm [some x0,some x1,none,none,none] M Q E:=propext ⟨λh=>h.2,λh=>⟨rfl,h⟩⟩
theorem lf{x0 x1:D}:aa T B (n+1) 35 [x0,x1] M Q E=runF T B n eV [some x0,some x1,none] M Q E:=propext ⟨λh=>h.2,λh=>⟨rfl,h⟩⟩
theorem nj{x0:D}:aa T B (n+1) 36 [x0] M Q E=runF T B n dY [some x0,none,none,none,none,none,none,none,none,none] M Q E:=propext ⟨λh=>h.2,λh=>⟨rfl,h⟩⟩
theorem pz{x0:D}:aa T B (n+1) 37 [x0] M Q E=runF T B n fE [some x0] M Q E:=propext ⟨λh=>h.2,λh=>⟨rfl,h⟩⟩
theorem sr{x0 x1 x2 x3 x4:D}:aa T B (n+1) 38 [x0,x1,x2,x3,x4] M Q E=runF T B n gK [some x0,some x1,some x2,some x3,some x4,none,none,none] M Q E:=propext ⟨λh=>h.2,λh=>⟨rfl,h⟩⟩
theorem gZ{x0 x1 x2 x3 x4:D}:aa T B (n+1) 39 [x0,x1,x2,x3,x4] M Q E=runF T B n cY [some x0,some x1,some x2,some x3,some x4,none,none,none] M Q E:=propext ⟨λh=>h.2,λh=>⟨rfl,h⟩⟩
theorem oQ{x0 x1 x2 x3:D}:aa T B (n+1) 40 [x0,x1,x2,x3] M Q E=runF T B n fy [some x0,some x1,some x2,some x3] M Q E:=propext ⟨λh=>h.2,λh=>⟨rfl,h⟩⟩
theorem oS{x0 x1 x2:D}:aa T B (n+1) 41 [x0,x1,x2] M Q E=runF T B n fD [some x0,some x1,some x2,none,none,none,none,none,none,none,none,none,none,none,none,none,none,none] M Q E:=propext ⟨λh=>h.2,λh=>⟨rfl,h⟩⟩
theorem rl{x0 x1 x2:D}:aa T B (n+1) 42 [x0,x1,x2] M Q E=runF T B n hZ [some x0,some x1,some x2,none,none] M Q E:=propext ⟨λh=>h.2,λh=>⟨rfl,h⟩⟩
theorem rb{x0 x1:D}:aa T B (n+1) 43 [x0,x1] M Q E=runF T B n gP [some x0,some x1,none,none,none,none,none,none,none,none] M Q E:=propext ⟨λh=>h.2,λh=>⟨rfl,h⟩⟩
theorem mP{x0:D}:aa T B (n+1) 44 [x0] M Q E=runF T B n eJ [some x0,none,none,none] M Q E:=propext ⟨λh=>h.2,λh=>⟨rfl,h⟩⟩
theorem ou{x0:D}:aa T B (n+1) 45 [x0] M Q E=runF T B n eE [some x0] M Q E:=propext ⟨λh=>h.2,λh=>⟨rfl,h⟩⟩
theorem pi{x0:D}:aa T B (n+1) 46 [x0] M Q E=runF T B n ft [some x0] M Q E:=propext ⟨λh=>h.2,λh=>⟨rfl,h⟩⟩
theorem nJ{x0 x1:D}:aa T B (n+1) 47 [x0,x1] M Q E=runF T B n d7 [some x0,some x1,none,none,none,none,none] M Q E:=propext ⟨λh=>h.2,λh=>⟨rfl,h⟩⟩
theorem mv{x0 x1 x2:D}:aa T B (n+1) 48 [x0,x1,x2] M Q E=runF T B n dA [some x0,some x1,some x2,none,none,none] M Q E:=propext ⟨λh=>h.2,λh=>⟨rfl,h⟩⟩
theorem ku{x0 x1 x2:D}:aa T B (n+1) 49 [x0,x1,x2] M Q E=runF T B n cX [some x0,some x1,some x2,none,none] M Q E:=propext ⟨λh=>h.2,λh=>⟨rfl,h⟩⟩
theorem BO{x0:D}:aa T B (n+1) 50 [x0] M Q E=runF T B n nR [some x0,none,none,none,none,none,none,none,none,none,none,none,none] M Q E:=propext ⟨λh=>h.2,λh=>⟨rfl,h⟩⟩
end
theorem top_mk{P:Params}{h:Heap}{mg:Str->Option Value}(X:(HD.K P).In h)(Gn:h.Ns mainGlobals mg)
  {q0:Addr}{qn0:Nat}{qt0_0:Tok}{qt0_1:Tok}
  (gl0:PySem.W.nsIn (HD.K P) mainGlobals "NOUGHT"=some (some (.ref q0)))
  (gt0:(HD.K P).lookup q0=some {cls:=.type "tuple",data:=.seq #[.int (-1) qt0_0,.int (0) qt0_1] qn0})
  {qt1:Tok}
  (gl1:PySem.W.nsIn (HD.K P) mainGlobals "MOST_HANDS"=some (some (.int (6) qt1)))
  {h9:Addr}{xod9 xan9:Option Addr}{xsl9:Array (Option Value)}{xoc9 xkV9 xdc9 xpm9 xcd9 xct9:Value}
  (x9:eK (HD.K P) 140=true)
  (xi9:PySem.W.findIn (HD.K P) (.ref 140) "__init__"=some (some (.ref h9)))
  (xl9:(HD.K P).lookup h9=some ⟨xoc9,xod9,.func (PySem.W.fnOf "__init__" "Ring.__init__" (bS (am (top 10) 0)) (aZ (am (top 10) 0)) (ax (am (top 10) 0)) .none xkV9 xdc9 xpm9 xan9 xcd9 xct9),xsl9⟩)
  {xtx9:Str}{xj9:Nat}{xpx9 xap9 xp19 xp29 xcp9 xp39 xp49 xp59 xp69 xp79 xp89 xp99:Pos}
  (xw9:aZ (am (top 10) 0)=[.Expr (.Call (.Attribute (.Name "DriftError" xpx9) "__init__" xap9) [.Name "self" xp19,.Constant (.str xtx9) xj9 xp29] [] xcp9) xp39,.Assign [.Attribute (.Name "self" xp49) "ring" xp59] (.Call (.Name "list" xp89) [.Name "ring" xp69] [] xp99) xp79])
  (xz9:vg "self" "ring" "DriftError" (ax (am (top 10) 0)) xap9 xcp9=true)
  (xd9:PySem.W.codeIn (HD.K P) xcd9 "Ring.__init__"=true)
  (xk9:PySem.W.keepIn (HD.K P) (.ref h9)=true)
  (xt9:PySem.W.typeIn (HD.K P) (.ref h9)=some (.type "function"))
  : ∃cls kls fad,Top P (HD.K P) mg L nm (B cls kls fad):=by
 refine⟨λi=>([24,37,49,61,73,85,97,109,121,140]:List Nat).getD i 0,λi=>([167,202,235,268,301,442]:List Nat).getD i 0,λi=>([149,164,185,192,199,218,225,232,251,258,265,284,291,298,308,315,322,329,336,343,350,355,362,369,383,390,397,404,411,418,425,432,439,453,460,467,474,479,486,491,498,503,510,517,524,531,538,545,550,557,562]:List Nat).getD i 0,Top.of (fT:=fokT) (mT:=mthT) (iT:=BE) X Gn (by kernel_rfl) (by kernel_rfl) (by kernel_rfl) (ixc (n1 (by intros;rfl)) (ixc (n3 (by intros;rfl)) (ixc (n3 (by intros;rfl)) (ixc (n1 (by intros;rfl)) (ixc (n3 (by intros;rfl)) (ixc (n5 (by intros;rfl)) (ixc (n1 (by intros;rfl)) (ixc (n3 (by intros;rfl)) (ixc (n4 (by intros;rfl)) (ixc (n1 (by intros;rfl)) (ixc (n3 (by intros;rfl)) (ixc (n4 (by intros;rfl)) (ixc (n1 (by intros;rfl)) (ixc (n3 (by intros;rfl)) (ixc (n2 (by intros;rfl)) (ixc (n1 (by intros;rfl)) (ixc (n1 (by intros;rfl)) (ixc (n2 (by intros;rfl)) (ixc (n1 (by intros;rfl)) (ixc (n4 (by intros;rfl)) (ixc (n2 (by intros;rfl)) (ixc (n3 (by intros;rfl)) (ixc (n2 (by intros;rfl)) (ixc (n2 (by intros;rfl)) (ixc (n3 (by intros;rfl)) (ixc (n5 (by intros;rfl)) (ixc (n2 (by intros;rfl)) (ixc (n3 (by intros;rfl)) (ixc (n1 (by intros;rfl)) (ixc (n2 (by intros;rfl)) (ixc (n3 (by intros;rfl)) (ixc (n2 (by intros;rfl)) (ixc (n3 (by intros;rfl)) (ixc (n2 (by intros;rfl)) (ixc (n2 (by intros;rfl)) (ixc (n2 (by intros;rfl)) (ixc (n1 (by intros;rfl)) (ixc (n1 (by intros;rfl)) (ixc (n5 (by intros;rfl)) (ixc (n5 (by intros;rfl)) (ixc (n4 (by intros;rfl)) (ixc (n3 (by intros;rfl)) (ixc (n3 (by intros;rfl)) (ixc (n2 (by intros;rfl)) (ixc (n1 (by intros;rfl)) (ixc (n1 (by intros;rfl)) (ixc (n1 (by intros;rfl)) (ixc (n2 (by intros;rfl)) (ixc (n3 (by intros;rfl)) (ixc (n3 (by intros;rfl)) (ixc (n1 (by intros;rfl)) (ixn)))))))))))))))))))))))))))))))))))))))))))))))))))) (by kernel_rfl) (by kernel_rfl) (by kernel_rfl) (by kernel_rfl) (λ_ _=>rfl) (λ_ _=>rfl) (λ_=>rfl) (by kernel_rfl) ?_ ?_ ?_ (Cy (by kernel_rfl))⟩
 ·intro k x hi
  match k,hi with
  |0,hi=>cases hi;exact⟨_,.ref q0,PySem.W.mg_of X Gn gl0,rfl,λH=>⟨q0,[.int (-1),.int (0)],rfl,.inr ⟨_,_,qn0,gt0,rfl,rfl,(by show 2<=sizeLine;decide),.cons ⟨_,rfl⟩ (.cons ⟨_,rfl⟩ (.nil))⟩,⟨_,_,rfl,rfl,⟨_,_,rfl,rfl,rfl⟩⟩⟩⟩
  |1,hi=>cases hi;exact⟨_,.int (6),PySem.W.mg_of X Gn gl1,⟨_,rfl⟩,λH=>rfl⟩
  |n+2,hi=>simp[nm]at hi
 ·intro i f hx;have hx:=cu (show [(9,217822450)].lookup i=some f from hx);simp only[G9,Prod.mk.injEq,HS,or_false]at hx;rcases hx with ⟨rfl,rfl⟩
  ·refine⟨rfl,h9,_,["self","ring"],?_,.all ((yI (st:=am (top 10) 0) xl9 xd9 xk9).bindsE λ_ _ _ _ _ _=>usS λ_=>usS λ_=>us0 rfl),λP w base=>?_⟩<;>rw[Av]
   ·exact⟨x9,xi9,xt9,by kernel_rfl,by kernel_rfl,by kernel_rfl,by kernel_rfl,by kernel_rfl⟩
   ·exact wT xw9 xz9 xl9 xd9 (by kernel_rfl) (PySem.W.mg_none_of X Gn (by kernel_rfl)) (PySem.W.mg_of X Gn (v:=.ref 24) (by kernel_rfl)) ⟨by kernel_rfl,by kernel_rfl,by kernel_rfl⟩ ⟨x9,xi9,xt9,by kernel_rfl,by kernel_rfl,by kernel_rfl,by kernel_rfl,by kernel_rfl⟩
 ·intro i f hi hx;have hx:=cu (show [(9,217822450)].lookup i=some f from hx);simp only[G9,Prod.mk.injEq,HS,or_false]at hx;rcases hx with ⟨rfl,rfl⟩
  ·show PySem.W.findIn (HD.K P) (.ref 140) (fnm 217822450)=some none
   kernel_rfl
end G
namespace G
open L2
section
variable {cls kls fad:Nat->PySem.Addr}{M:MH}{Q:VK3}{E:XN}{n:Nat}{p q d:PySem.Addr}{cl ds:List D}{ks:List (List Int)}
noncomputable abbrev fC:Nat:=136762133858116729320171
noncomputable abbrev fW:Nat:=8355170983792620267
structure Wd (kls:Nat->PySem.Addr)(M:MH)(p q d:PySem.Addr)(cl:List D) (ks:List (List Int)) (ds:List D):Prop where
 ip:M p=some (.ins 5 (kls 5) [fC,fW] [.ref q,.ref d])
 iq:M q=some (.lst cl)
 id:M d=some (.dt ks ds)
theorem Cw(h:Wd kls M p q d cl ks ds):dX (B cls kls fad) fC (.ref p) M Q=Q (.ref q) M:=by
 simp[dX,h.ip,j5,fC,fW]
theorem xH(h:Wd kls M p q d cl ks ds):dX (B cls kls fad) fW (.ref p) M Q=Q (.ref d) M:=by
 simp[dX,h.ip,j5,fC,fW]
theorem g8{m f:Nat}{R:Nat->Prop}(h:Wd kls M p q d cl ks ds)(hm:mth 5 m=some f)(h1:fC≠m)(h2:fW≠m):cZ (B cls kls fad) m (.ref p) M R=R f:=by
 simp[cZ,h.ip,hm,h1,h2,fX]
theorem vz(h:Wd kls M p q d cl ks ds):aa T (B cls kls fad) (n+1) 28 [.ref p] M Q E=Q (.int cl.length) M:=by
 simp[fh,bR,Cw h];simp[rBi,ai,aD,h.iq]
theorem pN{i:Int}(h:Wd kls M p q d cl ks ds):aa T (B cls kls fad) (n+2) 29 [.ref p,.int i] M Q E=Q (.bl (decide (0<=i)&&decide (i<cl.length))) M:=by
 simp[dc,ba];by_cases h0:0<=i
 ·simp[h0];rw[g8 h (f:=28) (by decide) (by decide) (by decide),vz h]
  simp
 ·simp[h0]
noncomputable def okH(n:Nat)(i:Int):Bool:=decide (0<=i)&&decide (i<n)
theorem fc{i:Int}(h:Wd kls M p q d cl ks ds)(ho:okH cl.length i=true):aa T (B cls kls fad) (n+3) 26 [.ref p,.int i] M Q E=Q .non M:=by
 simp[bZ,aL];rw[g8 h (f:=29) (by decide) (by decide) (by decide),pN h]
 unfold okH at ho;rw[ho];simp
theorem kn{i j:Int}(h:Wd kls M p q d cl ks ds)(h1:okH cl.length i=true)(h2:okH cl.length j=true)(h3:i≠j):aa T (B cls kls fad) (n+4) 27 [.ref p,.int i,.int j] M Q E=Q .non M:=by
 simp[ce,aN];rw[g8 h (f:=26) (by decide) (by decide) (by decide),fc h h1]
 rw[g8 h (f:=26) (by decide) (by decide) (by decide),fc h h2]
 simp[h3]
noncomputable def lJ(l:Int)(m:Option Int):Bool:=decide (l<0)||(match m with|some m=>decide (m<l)|none=>false)
theorem sj{l:Int}{m:Option Int}(hb:lJ l m=false):aa T (B cls kls fad) (n+1) 23 [.int l,oi m] M Q E=Q .non M:=by
 simp only[lJ,Bool.or_eq_false_iff,decide_eq_false_iff_not]at hb;simp only[hD,bO];cases m with
 |none=>simp[hb.1,oi]
 |some m=>
  have h2:¬ m<l:=of_decide_eq_false hb.2;simp[hb.1,h2,oi]
noncomputable def l9(p:Int×Int):Bool:=decide (p.1<1)||decide (p.2<p.1)
theorem wL{a b:Int}(hb:l9 (a,b)=false):aa T (B cls kls fad) (n+1) 22 [.int a,.int b] M Q E=Q .non M:=by
 simp only[l9,Bool.or_eq_false_iff,decide_eq_false_iff_not]at hb;simp[i4,cA,hb.1,hb.2]
theorem BK{i j:Int}(h:Wd kls M p q d cl ks ds)(hl:ks.length=ds.length):aH .In (.tup [.int i,.int j]) (.ref d) M Q=Q (.bl (decide ([i,j]∈ks))) M:=by
 have e:(getD ks ds [i,j]).isSome=decide ([i,j]∈ks):=by
  clear h
  induction ks generalizing ds with
  |nil=>cases ds<;>simp[getD]
  |cons k ks ih=>
   cases ds with
   |nil=>simp at hl
   |cons x ds=>
    simp only[getD];by_cases e:k=[i,j]
    ·simp[e]
    ·rw[GV e,ih (by simpa using hl)]
     simp[He e]
 simp[aH,oP,aD,ai,h.id,gQ,gA,gO,iK,dP,e]
theorem jx{k:List Int}:∀{ks:List (List Int)},k∉ks->aj ks k=ks++[k]
 |[],_=>rfl
 |a::ks,h=>by
  have h1:a≠k:=λe=>h (by simp[e])
  have h2:k∉ks:=λe=>h (by simp[e])
  simp[aj,h1,jx h2]
noncomputable def way(l:Int)(m:Option Int):D:=.tup [.int l,oi m]
theorem vN{i j l:Int}{m:Option Int}(h:Wd kls M p q d cl ks ds)(hl:ks.length=ds.length)(hz:ks.length<1000)(h1:okH cl.length i=true)(h2:okH cl.length j=true)(h3:i≠j)(h4:[i,j]∉ks)(h5:lJ l m=false):aa T (B cls kls fad) (n+5) 25 [.ref p,.int i,.int j,.int l,oi m] M Q E=Q .non (put M d (.dt (aj ks [i,j]) (ak ks ds [i,j] (way l m)))):=by
 have hs:ks.length<PySem.sizeLine:=GU hz (by decide)
 simp[gi,bD];rw[g8 h (f:=27) (by decide) (by decide) (by decide),kn h h1 h2 h3]
 simp[ar];rw[show dX (B cls kls fad) 8355170983792620267 (.ref p) M _=_ from xH h];rw[BK h hl];simp[h4];rw[sj h5];rw[show dX (B cls kls fad) 8355170983792620267 (.ref p) M _=_ from xH h];simp[aS,h.id,iK,dP,hs,nZ h.id,way]
noncomputable def cD(p:Int×Int):D:=.tup [.int p.1,.int p.2]
structure Wy where
 i:Int
 j:Int
 l:Int
 m:Option Int
noncomputable def wD(w:Wy):D:=.tup [.int w.i,.int w.j,.int w.l,oi w.m]
theorem c9{M:MH}{a b:PySem.Addr}{x y z:DO}(h:a≠b):put (put (put M a x) b y) a z=put (put M a z) b y:=by
 funext c;unfold put;by_cases h1:c=a
 ·subst h1;simp[h]
 ·simp[h1]
theorem lq{M:MH}{a b c:PySem.Addr}{x y w z:DO}(h:a≠b)(h':a≠c):put (put (put (put M a x) b y) c w) a z=put (put (put M a z) b y) c w:=by
 funext e;unfold put;by_cases h1:e=a
 ·subst h1;simp[h,h']
 ·simp[h1]
theorem ql{R:MH->Prop}{f:Nat}{y:D}{i:Nat}{C:PySem.Addr}{ns:List Nat}{es:List D}(h:M p=some (.ins i C ns es)):jh (B cls kls fad) f y R (.ref p) M=((C=(B cls kls fad).kls i/\i<(B cls kls fad).nk/\(B cls kls fad).fok i f=true/\ns.length<1000)/\R (put M p (.ins i C (b9 f ns) (b8 f y ns es)))):=by
 simp[jh,h]
noncomputable def pr(w:Wy):List Int:=[w.i,w.j]
noncomputable def wv(w:Wy):D:=way w.l w.m
structure Wy.good (n:Nat)(w:Wy):Prop where
 i:okH n w.i=true
 j:okH n w.j=true
 ne:w.i≠w.j
 l:lJ w.l w.m=false
theorem jq{k:List Int}{v:D}:∀{ks:List (List Int)}{ds:List D},ks.length=ds.length->k∉ks->ak ks ds k v=ds++[v]
 |[],[],_,_=>rfl
 |a::ks,e::ds,hl,h=>by
  have h1:a≠k:=λz=>h (by simp[z])
  have h2:k∉ks:=λz=>h (by simp[z])
  simp[ak,h1,jq (by simpa using hl) h2]
theorem kT{S:MH->Prop}(hS:S M){De:Ends3}{ES:St3->XN}{R:Prop}{x0 x1 x2 x5 x6 x7 x8:Option D}:∀(cks:List (Int×Int)) (x3 x4:Option D),(∀c∈cks,l9 c=false)->(∀x y,De.nx [x0,x1,x2,x,y,x5,x6,x7,x8] M=R)->
  bz ⟨(B cls kls fad),aa T (B cls kls fad) (n+1)⟩ (.tup [3,4]) bF ES S De (cks.map cD) [x0,x1,x2,x3,x4,x5,x6,x7,x8] M=R
 |[],x3,x4,_,hR=>by simp[aT,hR,hS]
 |(c1,c2)::r,x3,x4,hc,hR=>by
  have ih:=kT hS (De:=De) (ES:=ES) (R:=R) (x0:=x0) (x1:=x1) (x2:=x2) (x5:=x5) (x6:=x6) (x7:=x7) (x8:=x8) r (some (.int c1)) (some (.int c2)) (λc h=>hc c (GY _ h)) hR
  have h':=hc (c1,c2) G5;rw[G6,aF];simp only[bF,cD]at ih ⊢;rw[<-ih];simp[wL,h',hS]
theorem jn{S:MH->Prop}{Mb:MH}(hS:∀ks ds,S (put Mb d (.dt ks ds)))(hw:∀ks ds,Wd kls (put Mb d (.dt ks ds)) p q d cl ks ds){De:Ends3}{ES:St3->XN}{R:Prop}{x1 x2 x3 x4:Option D}:∀(wy:List Wy) (ks:List (List Int)) (ds:List D)(x5 x6 x7 x8:Option D),ks.length=ds.length->ks.length+wy.length<500->
  (∀w∈wy,w.good cl.length)->(wy.map pr).Nodup->(∀w∈wy,pr w∉ks)->(∀x5 x6 x7 x8,De.nx [some (.ref p),x1,x2,x3,x4,x5,x6,x7,x8] (put Mb d (.dt (ks++wy.map pr) (ds++wy.map wv)))=R)->
  bz ⟨(B cls kls fad),aa T (B cls kls fad) (n+5)⟩ (.tup [5,6,7,8]) bI ES S De (wy.map wD) [some (.ref p),x1,x2,x3,x4,x5,x6,x7,x8] (put Mb d (.dt ks ds))=R
 |[],ks,ds,x5,x6,x7,x8,hl,hz,hg,hn,hk,hR=>by
  have:=hR x5 x6 x7 x8;simp at this;simp[aT,this,hS]
 |w::r,ks,ds,x5,x6,x7,x8,hl,hz,hg,hn,hk,hR=>by
  simp only[Hk]at hz;have g:=hg w G5;have hin:[w.i,w.j]∉ks:=hk w G5;rw[G6,HK]at hn;have ih:=jn hS hw (De:=De) (ES:=ES) (R:=R) (x1:=x1) (x2:=x2) (x3:=x3) (x4:=x4) r (ks++[[w.i,w.j]]) (ds++[way w.l w.m]) (some (.int w.i)) (some (.int w.j)) (some (.int w.l)) (some (oi w.m)) (by simp[hl]) (by simp;omega) (λv hv=>hg v (GY _ hv)) hn.2 (λv hv=>by
   intro z;rcases Ho.mp z with z|z
   ·exact hk v (GY _ hv) z
   ·exact hn.1 (by rw[show pr w=pr v from (Hq.mp z).symm];exact List.mem_map_of_mem hv)) (λa b c e=>by
    have:=hR a b c e;simpa [pr,wv] using this)
  rw[G6,aF];simp only[bI,wD]at ih ⊢;have h1:okH cl.length w.i=true/\okH cl.length w.j=true/\w.i≠w.j:=⟨g.i,g.j,g.ne⟩;simp[iH,hS];rw[g8 (hw ks ds) (f:=25) (by decide) (by decide) (by decide),vN (hw ks ds) hl (by omega) g.i g.j g.ne hin g.l,bv,jx hin,jq hl hin]
  simpa using ih
noncomputable def wO(kls:Nat->PySem.Addr)(cks:List (Int×Int))(wy:List Wy):D:=.obj 5 (kls 5) [fC,fW] [.rol (cks.map cD),.dit (wy.map pr) (wy.map wv)]
theorem wU{cks:List (Int×Int)}{wy:List Wy}(hM:Fm M)(h1:1<=cks.length)(h6:cks.length<=6)(hc:∀c∈cks,l9 c=false)(h2:wy.length<400)(hw1:∀w∈wy,w.good cks.length)(hn:(wy.map pr).Nodup) :
  (∀p,M p=none->aa T (B cls kls fad) (n+6) 24 [.ref p,.rol (cks.map cD),.rol (wy.map wD)] (put M p (.ins 5 (kls 5) [] [])) (λv M2=>v=.non/\aY Q (.ref p) M2) (λi M'=>E i (del M' p)))=Q (wO kls cks wy) M:=by
 refine ay hM λp hp=>?_
 have hz:cks.length<=PySem.sizeLine:=Ha (show cks.length<=1000 by omega) (by decide)
 have hB:¬ (cks.length:Int)<1:=by omega
 have hC:¬ (6:Int)<cks.length:=by omega
 have hB':¬ cks.length<1:=by omega
 have hC':¬ 6<cks.length:=by omega
 have hne:¬ cks=[]:=λz=>by simp[z]at h1
 simp[jG,cC,hB,hC,hB',hC',hne];refine iff_of_eq (kT (S:=λ_=>True) trivial cks none none hc λx y=>?_)
 simp[rBi,aD,ai,hz];refine iff_of_eq (ay (hM.put _ _) λq hq=>?_)
 obtain⟨hqp,hq⟩:=cI hq;rw[show jh (B cls kls fad) 136762133858116729320171 (.ref q) _ (.ref p) (put (put M p (.ins 5 (kls 5) [] [])) q (.lst (cks.map cD)))=_ from ql (by rw[ah (He hqp),ag])]
 simp;rw[c9 (He hqp)];refine iff_of_eq (ay ((hM.put _ _).put _ _) λd hd=>?_)
 obtain⟨hdq,hd⟩:=cI hd;obtain⟨hdp,hd⟩:=cI hd;rw[show jh (B cls kls fad) 8355170983792620267 (.ref d) _ (.ref p) (put (put (put M p (.ins 5 (kls 5) [136762133858116729320171] [.ref q])) q (.lst (cks.map cD))) d (.dt [] []))=_ from ql (by rw[ah (He hdp),ah (He hqp),ag])]
 simp;rw[lq (He hqp) (He hdp)];have hw:∀ks ds,Wd kls (put (put (put M p (.ins 5 (kls 5) [fC,fW] [.ref q,.ref d])) q (.lst (cks.map cD))) d (.dt ks ds)) p q d (cks.map cD) ks ds:=λks ds=>
  ⟨by rw[ah (He hdp),ah (He hqp),ag],by rw[ah (He hdq),ag],ag⟩
 refine iff_of_eq (jn (S:=λ_=>True) (λks ds=>trivial) hw wy [] [] none none none none rfl (by simp;omega) (by simpa using hw1) hn (λw _ z=>by cases z) λx5 x6 x7 x8=>?_)
 rw[List.nil_append,List.nil_append];simp only[aY];rw[(hw _ _).ip];simp only[dQ];have e1:∀ks' ds',del (put (put (put M p (.ins 5 (kls 5) [fC,fW] [.ref q,.ref d])) q (.lst (cks.map cD))) d (.dt ks' ds')) p q=some (.lst (cks.map cD)):=λks' ds'=>by
  unfold del;rw[GV hqp];exact (hw ks' ds').iq
 rw[e1];have e2:∀ks' ds',del (del (put (put (put M p (.ins 5 (kls 5) [fC,fW] [.ref q,.ref d])) q (.lst (cks.map cD))) d (.dt ks' ds')) p) q d=some (.dt ks' ds'):=λks' ds'=>by
  unfold del;rw[GV hdq,GV hdp];exact (hw ks' ds').id
 simp only[e2];have e3:∀ks' ds',del (del (del (put (put (put M p (.ins 5 (kls 5) [fC,fW] [.ref q,.ref d])) q (.lst (cks.map cD))) d (.dt ks' ds')) p) q) d=M:=λks' ds'=>by
  funext a;unfold del put;by_cases a1:a=d
  ·subst a1;simp[hd]
  ·by_cases a2:a=q
   ·subst a2;simp[hq,a1]
   ·by_cases a3:a=p
    ·subst a3;simp[hp,a1,a2]
    ·simp[a1,a2,a3]
 rw[e3];rfl
theorem uE(ns:List Int)(k:Nat):∃x:Int,∀{n:Nat}{M:MH}{Q:VK3}{E:XN},aa T (B cls kls fad) (n+1) 33 [scr ns,.int k] M Q E=Q (.int x) M:=by
 by_cases h:k<ns.length
 ·obtain⟨x,hx⟩:=Cb (cs:=ns) (i:=k) (by omega) (by omega)
  refine⟨x,?_⟩;intro n M Q E;have h':(k:Int)<ns.length:=by omega
  simp[fg,bP,scr,kY hx,h]
 ·refine⟨0,?_⟩;intro n M Q E;simp[fg,bP,scr,h]
theorem jB(lo:Int)(k:Nat):rng lo (k+1)=.int lo::rng (lo+1) k:=by
 simp only[rng,List.range_succ_eq_map,G6,List.map_map];congr 1
 ·simp
 ·apply List.map_congr_left;intro i _;simp;omega
variable {cks:List (Int×Int)}{wy:List Wy}
theorem o_c:dX (B cls kls fad) 136762133858116729320171 (wO kls cks wy) M Q=Q (.rol (cks.map cD)) M:=by simp[wO,fC,fW]
theorem o_w:dX (B cls kls fad) 8355170983792620267 (wO kls cks wy) M Q=Q (.dit (wy.map pr) (wy.map wv)) M:=by simp[wO,fC,fW]
theorem o_m{m f:Nat}{R:Nat->Prop}(hm:mth 5 m=some f)(h1:fC≠m)(h2:fW≠m):cZ (B cls kls fad) m (wO kls cks wy) M R=R f:=by
 simp[wO,hm,h1,h2]
theorem o1{R:Nat->Prop}:cZ (B cls kls fad) 31081607400 (wO kls cks wy) M R=R 28:=o_m (by decide) (by decide) (by decide)
theorem uG:aa T (B cls kls fad) (n+1) 28 [wO kls cks wy] M Q E=Q (.int cks.length) M:=by
 simp[fh,bR,o_c]
theorem ng{i:Int}:aa T (B cls kls fad) (n+2) 29 [wO kls cks wy,.int i] M Q E=Q (.bl (okH cks.length i)) M:=by
 simp[dc,ba,okH];by_cases h0:0<=i
 ·simp[h0,o1,uG]
 ·simp[h0]
theorem iX{i:Int}:aa T (B cls kls fad) (n+3) 26 [wO kls cks wy,.int i] M Q E=if okH cks.length i=true then Q .non M else False:=by
 simp[bZ,aL];rw[o_m (f:=29) (by decide) (by decide) (by decide),ng]
 cases okH cks.length i<;>simp[ar]
theorem uN{k:List Int}:∀{wy:List Wy},(getD (wy.map pr) (wy.map wv) k).isSome=decide (k∈wy.map pr)
 |[]=>by simp[getD]
 |w::r=>by
  have ih:=uN (k:=k) (wy:=r);simp only[G6,getD];by_cases e:pr w=k
  ·simp[e]
  ·rw[GV e,ih];simp[He e]
theorem zq{i j:Int}:aH .In (.tup [.int i,.int j]) (.dit (wy.map pr) (wy.map wv)) M Q=Q (.bl (decide ([i,j]∈wy.map pr))) M:=by
 have e:=uN (k:=[i,j]) (wy:=wy);simp[aH,oP,aD,ai,gQ,gA,gO,iK,dP,e]
theorem pE{i j:Int}:aa T (B cls kls fad) (n+1) 30 [wO kls cks wy,.int i,.int j] M Q E=Q (.bl (decide ([i,j]∈wy.map pr))) M:=by
 simp only[iM,bY];simp[ar,↓o_w,↓zq]
end
section
variable {cls kls fad:Nat->PySem.Addr}{M:MH}{Q:VK3}{E:XN}{n:Nat}{p q:PySem.Addr}{cks:List (Int×Int)}{wy:List Wy}
theorem jg{i:Int}:aa T (B cls kls fad) (n+1) 0 [.int i] M Q E=Q (.bl true) M:=by
 simp[oK,fA]
theorem zG{a b:Int}{E:PySem.Addr->XN}(hM:Fm M):(∀p,M p=none->aa T (B cls kls fad) (n+2) 2 [.ref p,.int a,.int b] (put M p (.ins 1 (kls 1) [] [])) (λv M2=>v=.non/\aY Q (.ref p) M2) (E p))=Q (.obj 1 (kls 1) [211529960,456806758904562] [.int a,.int b]) M:=
 ay hM λp hp=>by simp[ko,cS,aP,aw,hp]
theorem wk{a b c d:Int}{E:PySem.Addr->XN}(hM:Fm M):(∀p,M p=none->aa T (B cls kls fad) (n+2) 5 [.ref p,.int a,.int b,.int c,.int d] (put M p (.ins 2 (kls 2) [] [])) (λv M2=>v=.non/\aY Q (.ref p) M2) (E p))=Q (.obj 2 (kls 2) [211529960,456806758904562,32709062885,213725420] [.int a,.int b,.int c,.int d]) M:=
 ay hM λp hp=>by simp[i8,cq,aP,aw,hp]
theorem yD{a b c:Int}{E:PySem.Addr->XN}(hM:Fm M):(∀p,M p=none->aa T (B cls kls fad) (n+2) 8 [.ref p,.int a,.int b,.int c] (put M p (.ins 3 (kls 3) [] [])) (λv M2=>v=.non/\aY Q (.ref p) M2) (E p))=Q (.obj 3 (kls 3) [211529960,456806758904562,14324] [.int a,.int b,.int c]) M:=
 ay hM λp hp=>by simp[j8,cV,aP,aw,hp]
theorem zH{a b:Int}{c:List D}{E:PySem.Addr->XN}(hM:Fm M):(∀p,M p=none->aa T (B cls kls fad) (n+2) 11 [.ref p,.int a,.int b,.tup c] (put M p (.ins 4 (kls 4) [] [])) (λv M2=>v=.non/\aY Q (.ref p) M2) (E p))=Q (.obj 4 (kls 4) [211529960,456806758904562,3944367338220] [.int a,.int b,.tup c]) M:=
 ay hM λp hp=>by simp[j4,cW,aP,aw,hp]
inductive Rw where
 |look (h r:Int)|sight (h r e l:Int)|send (h r t:Int)|take (h r a b:Int)
noncomputable def Rw.d:Rw->D
 |.look h r=>.tup [.str "look",.int h,.int r]
 |.sight h r e l=>.tup [.str "sight",.int h,.int r,.int e,.int l]
 |.send h r t=>.tup [.str "send",.int h,.int r,.int t]
 |.take h r a b=>.tup [.str "take",.int h,.int r,.tup [.int a,.int b]]
noncomputable def Rw.o(kls:Nat->PySem.Addr):Rw->D
 |.look h r=>.obj 1 (kls 1) [211529960,456806758904562] [.int h,.int r]
 |.sight h r e l=>.obj 2 (kls 2) [211529960,456806758904562,32709062885,213725420] [.int h,.int r,.int e,.int l]
 |.send h r t=>.obj 3 (kls 3) [211529960,456806758904562,14324] [.int h,.int r,.int t]
 |.take h r a b=>.obj 4 (kls 4) [211529960,456806758904562,3944367338220] [.int h,.int r,.tup [.int a,.int b]]
theorem o9{ns:List Int}{k:Int}(hM:Fm M)(hl:ns.length<1000):aa T (B cls kls fad) (n+2) 14 [.tup (ns.map D.int),.int k] M Q E=Q (.bl (decide ((ns.length:Int)=k))) M:=by
 simp[lT,dq];by_cases h:(ns.length:Int)=k
 ·simp[h,aA];rw[sw (λ_=>.bl true) hM (by rw[G8];omega) (λd hd M' hM' Q'=>by
   obtain⟨i,_,rfl⟩:=Hn.mp hd;simp[jg])]
  rw[wb (λ_=>true) (λ_ _=>rfl)]
  have:∀l:List Int,(l.all λ_=>true)=true:=λl=>Hh.mpr λ_ _=>rfl
  simp[this]
 ·simp[h]
theorem Ao{a b k:Int}(hM:Fm M):aa T (B cls kls fad) (n+2) 14 [.tup [.int a,.int b],.int k] M Q E=Q (.bl (decide (2=k))) M:=o9 (ns:=[a,b]) hM (by simp)
theorem D4{a b c k:Int}(hM:Fm M):aa T (B cls kls fad) (n+2) 14 [.tup [.int a,.int b,.int c],.int k] M Q E=Q (.bl (decide (3=k))) M:=o9 (ns:=[a,b,c]) hM (by simp)
theorem EM{a b c d k:Int}(hM:Fm M):aa T (B cls kls fad) (n+2) 14 [.tup [.int a,.int b,.int c,.int d],.int k] M Q E=Q (.bl (decide (4=k))) M:=o9 (ns:=[a,b,c,d]) hM (by simp)
theorem uj{a b:Int}(hM:Fm M):aa T (B cls kls fad) (n+3) 15 [.tup [.int a,.int b]] M Q E=Q (.bl true) M:=by
 simp[nt,eB,Ao hM]
theorem nK(r:Rw)(hM:Fm M):aa T (B cls kls fad) (n+4) 16 [r.d] M Q E=Q (r.o kls) M:=by
 cases r with
 |look h r=>simp +decide [cP,bj,Rw.d,Rw.o,whole,HT.sIx,dR,Ao hM,zG hM,rW,rE,rT]
 |sight h r e l=>simp +decide [cP,bj,Rw.d,Rw.o,whole,HT.sIx,dR,EM hM,wk hM,rW,rE,rT,tU]
 |send h r t=>simp +decide [cP,bj,Rw.d,Rw.o,whole,HT.sIx,dR,D4 hM,yD hM,rW,rE,rT,tU]
 |take h r a b=>simp +decide [cP,bj,Rw.d,Rw.o,whole,HT.sIx,dR,Ao hM,uj hM,zH hM,rW,rE,rT,tU]
end
section
variable {cls kls fad:Nat->PySem.Addr}{M:MH}{Q:VK3}{E:XN}{n:Nat}{p q a b d:PySem.Addr}{cks:List (Int×Int)}{wy:List Wy}
noncomputable def Rw.h:Rw->Int
 |.look h _=>h
 |.sight h _ _ _=>h
 |.send h _ _=>h
 |.take h _ _ _=>h
noncomputable def Rw.r:Rw->Int
 |.look _ r=>r
 |.sight _ r _ _=>r
 |.send _ r _=>r
 |.take _ r _ _=>r
variable {r:Rw}
theorem yG:dX (B cls kls fad) 211529960 (r.o kls) M Q=Q (.int r.h) M:=by
 cases r<;>simp[Rw.o,Rw.h]
theorem yO:dX (B cls kls fad) 456806758904562 (r.o kls) M Q=Q (.int r.r) M:=by
 cases r<;>simp[Rw.o,Rw.r]
theorem u7:ao r.d (.int 1) M Q=Q (.int r.h) M:=by cases r<;>simp[Rw.d,Rw.h]
theorem BJ:ao r.d (.int 2) M Q=Q (.int r.r) M:=by cases r<;>simp[Rw.d,Rw.r]
theorem wN{ks:List Key}{ds:List D}{h c:Int}(hM:M a=some (.dk ks ds))(hz:ks.length<1000)(hc:(getD ks ds (.inl h)).getD (.int 0)=.int c) :
  aa T (B cls kls fad) (n+1) 17 [.ref a,.int h] M Q E=Q (.tup [.int h,.int c]) (put M a (.dk (aj ks (.inl h)) (ak ks ds (.inl h) (.int (c+1))))):=by
 have hs:ks.length<PySem.sizeLine:=GU hz (by decide)
 simp[oU,fK,ur hM,qx hM,hc,ni hM,hs,nZ hM,ar]
noncomputable def bump(c:Int->Nat)(h:Int):Int->Nat:=λx=>if x=h then c x+1 else c x
noncomputable def nmF:List Int->(Int->Nat)->List (Int×Nat)
 |[],_=>[]
 |h::hs,c=>(h,c h)::nmF hs (bump c h)
noncomputable def nD(p:Int×Nat):D:=.tup [.int p.1,.int p.2]
theorem oj{ks:List Key}{ds:List D}{c:Int->Nat}{h:Int}(hl:ks.length=ds.length)(hc:∀h,(getD ks ds (.inl h)).getD (.int 0)=.int (c h))(x:Int):(getD (aj ks (.inl h)) (ak ks ds (.inl h) (.int (c h+1))) (.inl x)).getD (.int 0)=.int (bump c h x):=by
 rw[aR hl];by_cases e:h=x
 ·subst e;simp[bump]
 ·have e2:¬ ((Sum.inl h:Key)=Sum.inl x):=λz=>e (Sum.inl.inj z)
  rw[GV e2,hc x];simp[bump,He e]
theorem fN{a b:PySem.Addr}(hab:a≠b){M0:MH}{De:Ends3}{ES:St3->XN}{R:Prop}{log:Option D}{S:MH->Prop}(hS:∀ks ds acc,S (put (put M0 a (.dk ks ds)) b (.lst acc))):∀(rs:List Rw)(ks:List Key)(ds acc:List D)(c:Int->Nat)(x3:Option D),ks.length=ds.length->ks.length+rs.length<500->acc.length+rs.length<500->(∀h,(getD ks ds (.inl h)).getD (.int 0)=.int (c h))->
  (∀ks' ds' x,De.nx [log,some (.ref a),some (.ref b),x] (put (put M0 a (.dk ks' ds')) b (.lst (acc++(nmF (rs.map Rw.h) c).map nD)))=R)->
  bz ⟨(B cls kls fad),aa T (B cls kls fad) (n+1)⟩ (.name 3) dM ES S De (rs.map Rw.d) [log,some (.ref a),some (.ref b),x3] (put (put M0 a (.dk ks ds)) b (.lst acc))=R
 |[],ks,ds,acc,c,x3,_,_,_,_,hR=>by
  have:=hR ks ds x3;simp[nmF]at this;simp[aT,this,hS]
 |r::rs,ks,ds,acc,c,x3,hl,h1,h2,hc,hR=>by
  have ha:(put (put M0 a (.dk ks ds)) b (.lst acc)) a=some (.dk ks ds):=by rw[ah hab,ag]
  simp only[Hk]at h1 h2;have hs:acc.length<PySem.sizeLine:=GU (show acc.length<1000 by omega) (by decide)
  have ih:=fN hab (M0:=M0) (De:=De) (ES:=ES) (R:=R) (log:=log) hS rs (aj ks (.inl r.h)) (ak ks ds (.inl r.h) (.int (c r.h+1))) (acc++[nD (r.h,c r.h)]) (bump c r.h) (some r.d) (bo hl) (by have:=bn (ks:=ks) (k:=(.inl r.h:Key));omega) (by simp;omega) (oj hl hc) (by
    intro ks' ds' x;have:=hR ks' ds' x;simpa [nmF] using this)
  have i1:=λ{M:MH}{Q:VK3}=>u7 (M:=M) (Q:=Q) (r:=r)
  rw[G6,aF];simp[dM,↓i1,wN (n:=n) ha (by omega) (hc r.h),c9 hab,hs,hS]
  simpa [nD,dM] using ih
def Lg(M:MH)(x:D)(ds:List D):Prop:=x=.rol ds\/∃p,x=.ref p/\M p=some (.lst ds)
theorem lA{x:D}(rs:List Rw)(hp:Lg M x (rs.map Rw.d))(hl:rs.length<400)(hM:Fm M):aa T (B cls kls fad) (n+2) 18 [x] M Q E=Q (.rol ((nmF (rs.map Rw.h) λ_=>0).map nD)) M:=by
 simp only[vE,l8];simp;refine iff_of_eq (ay hM λa ha=>?_)
 simp[ar];refine iff_of_eq (ay (hM.put _ _) λb hb=>?_)
 obtain⟨hab,hb⟩:=cI hb;rcases hp with rfl|⟨p,rfl,hp⟩
 ·rw[jk];refine fN (He hab) (λ_ _ _=>trivial) rs [] [] [] _ _ rfl (by simp;omega) (by simp;omega) (λh=>rfl) λks' ds' x=>?_
  simp[ha,hb,ah hab]
 ·have pa:p≠a:=λz=>by rw[z,ha]at hp;cases hp
  have pb:p≠b:=λz=>by rw[z,hb]at hp;cases hp
  have hw:∀ks ds acc,(put (put M a (.dk ks ds)) b (.lst acc)) p=some (.lst (rs.map Rw.d)):=λks ds acc=>by rw[ah pb,ah pa,hp]
  rw[tE (hw _ _ _)];refine fN (He hab) hw rs [] [] [] _ _ rfl (by simp;omega) (by simp;omega) (λh=>rfl) λks' ds' x=>?_
  simp[ha,hb,ah hab]
end
section
variable {r:Rw}{rs:List Rw}{H:Nat}{wy:List Wy}
noncomputable def Rw.s:Rw->PySem.Str
 |.look ..=>"look"
 |.sight ..=>"sight"
 |.send ..=>"send"
 |.take ..=>"take"
def Rw.may(wy:List Wy):Rw->Prop
 |.send h _ t=>[h,t]∈wy.map pr
 |.take h _ a _=>[a,h]∈wy.map pr
 |_=>True
structure Rw.fine (H:Nat)(wy:List Wy)(r:Rw):Prop where
 h:okH H r.h=true
 w:r.may wy
 b : -(10 ^ 62)<=r.r/\r.r<=10 ^ 62
structure Ent where
 h:Int
 k:Int
 to:Int
 lo:Int
 hi:Option Int
noncomputable def Ent.d(e:Ent):D:=.tup [.tup [.int e.h,.int e.k],.int e.to,.int e.lo,oi e.hi]
noncomputable abbrev A3:=Int×Int×Int
noncomputable def a3D(a:A3):D:=.tup [.int a.1,.int a.2.1,.int a.2.2]
structure TA (H:Nat)(wy:List Wy)(rs:List Rw)(at_:List A3)(sn:List Ent):Prop where
 f:∀r∈rs,r.fine H wy
 la:at_.length=H
 un:∀e∈sn,[e.h,e.to]∈wy.map pr/\0<=e.to/\e.to<H
 lt:∀e∈sn,∃k:Nat,e.h=k/\e.k<(at_.getD k (0,0,0)).1
 nd:(sn.map λe=>(e.h,e.k)).Nodup
theorem cz{α:Type}{l:List α}{k j:Nat}{x d:α}(hk:k<l.length):(l.set k x).getD j d=if j=k then x else l.getD j d:=by
 rw[List.getD_eq_getElem?_getD,List.getD_eq_getElem?_getD];by_cases e:j=k
 ·subst e;simp[hk]
 ·rw[Ib (He e),GV e]
theorem TA.plain{at_:List A3}{sn:List Ent}{k:Nat}{v m:Int}(T:TA H wy rs at_ sn)(hk:k<H)(hr:r.fine H wy):TA H wy (rs++[r]) (at_.set k ((at_.getD k (0,0,0)).1+1,v,m)) sn:=by
 have hkl:k<at_.length:=by rw[T.la];exact hk
 refine⟨λx hx=>?_,by simp[T.la],T.un,λe he=>?_,T.nd⟩
 ·rcases Ho.mp hx with z|z
  ·exact T.f x z
  ·rw[Hq.mp z];exact hr
 ·obtain⟨j,e1,e2⟩:=T.lt e he;refine⟨j,e1,?_⟩;rw[cz hkl];split
  ·rename_i z;rw[z]at e2;simp only;omega
  ·exact e2
theorem TA.send{at_:List A3}{sn:List Ent}{k:Nat}{v m:Int}{e:Ent}(T:TA H wy rs at_ sn)(hk:k<H)(hr:(Rw.send k v e.to).fine H wy)(h0:0<=e.to)(h1:e.to<H)(eh:e.h=k)(ek:e.k=(at_.getD k (0,0,0)).1) :
  TA H wy (rs++[.send k v e.to]) (at_.set k ((at_.getD k (0,0,0)).1+1,v,m)) (sn++[e]):=by
 have hkl:k<at_.length:=by rw[T.la];exact hk
 have P:=T.plain (v:=v) (m:=m) hk hr;refine⟨P.f,P.la,λx hx=>?_,λx hx=>?_,?_⟩
 ·rcases Ho.mp hx with z|z
  ·exact P.un x z
  ·rw[Hq.mp z];have:[(k:Int),e.to]∈wy.map pr:=hr.w;exact⟨by rw[eh];exact this,h0,h1⟩
 ·rcases Ho.mp hx with z|z
  ·exact P.lt x z
  ·rw[Hq.mp z];refine⟨k,eh,?_⟩;rw[cz hkl,G3 rfl,ek];simp only;omega
 ·rw[HR,List.nodup_append];refine⟨T.nd,by simp,λp hp q hq z=>?_⟩
  obtain⟨x,hx,rfl⟩:=Hn.mp hp;have hq:q=(e.h,e.k):=by simpa using hq
  subst z;have q1:x.h=e.h:=congrArg Prod.fst hq;have q2:x.k=e.k:=congrArg Prod.snd hq;obtain⟨j,e1,e2⟩:=T.lt x hx;have:j=k:=by omega
  subst this;omega
theorem TA.take{at_:List A3}{sn1 sn2:List Ent}{v m:Int}{e:Ent}{k:Nat}(T:TA H wy rs at_ (sn1++e::sn2))(hk:k<H)(hr:(Rw.take k v e.h e.k).fine H wy) :
  TA H wy (rs++[.take k v e.h e.k]) (at_.set k ((at_.getD k (0,0,0)).1+1,v,m)) (sn1++sn2):=by
 have P:=T.plain (v:=v) (m:=m) hk hr;have sub:∀x∈sn1++sn2,x∈sn1++e::sn2:=λx hx=>by
  rcases Ho.mp hx with z|z
  ·exact HE _ z
  ·exact Hj _ (GY _ z)
 refine⟨P.f,P.la,λx hx=>P.un x (sub x hx),λx hx=>P.lt x (sub x hx),?_⟩
 have nd:=T.nd;rw[HR,G6,List.nodup_append,HK]at nd;rw[HR,List.nodup_append];exact⟨nd.1,nd.2.1.2,λp hp q hq=>nd.2.2 p hp q (GY _ hq)⟩
end
section
variable {cls kls fad:Nat->PySem.Addr}{M:MH}{Q:VK3}{E:XN}{n:Nat}{a:PySem.Addr}
noncomputable def j7:Nat->Int->Int->List Int
 |0,_,_=>[]
 |k+1,lo,x=>(x*x+48271*x+lo) % 10000000000000000000000000000000000000121::j7 k (lo+1) ((x*x+48271*x+lo) % 10000000000000000000000000000000000000121)
theorem lP:∀(k:Nat)(lo x:Int),(j7 k lo x).length=k
 |0,_,_=>rfl
 |k+1,lo,x=>by simp[j7,lP k]
theorem nw{W:WC}{De:Ends3}{ES:St3->XN}{R:Prop}{x0 x1:Option D}:∀(k:Nat)(lo x:Int)(acc:List Int)(x4:Option D),0<=x->x<100000000000000000000000000000000000000000->acc.length+k<500->
  (∀y x4,De.nx [x0,x1,some (.ref a),some (.int y),x4] (put M a (.lst ((acc++j7 k lo x).map D.int)))=R)->
  bz W (.name 4) bW ES (λ_=>True) De (rng lo k) [x0,x1,some (.ref a),some (.int x),x4] (put M a (.lst (acc.map D.int)))=R
 |0,lo,x,acc,x4,_,_,_,hR=>by
  have:=hR x x4;simp[j7]at this;simp[rng,aT,this]
 |k+1,lo,x,acc,x4,h0,h1,hl,hR=>by
  have c1:bK x x=True:=c6 (by omega) (by omega) (by omega) (by omega)
  have c2:bK 48271 x=True:=c6 (by omega) (by omega) (by omega) (by omega)
  have hs:acc.length<PySem.sizeLine:=GU (show acc.length<1000 by omega) (by decide)
  have ih:=nw (W:=W) (De:=De) (ES:=ES) (R:=R) (x0:=x0) (x1:=x1) k (lo+1) ((x*x+48271*x+lo) % 10000000000000000000000000000000000000121) (acc++[(x*x+48271*x+lo) % 10000000000000000000000000000000000000121]) (some (.int lo)) (HJ _ (by decide)) (Int.lt_trans (HF _ (by decide)) (by decide)) (by simp;omega) (λy x4=>by
   have:=hR y x4;simpa [j7] using this)
  rw[jB,aF];simp only[bW]at ih ⊢;simp[c1,c2,iL,hs];simpa using ih
noncomputable def aO(c:Int)(m:Nat):List Int:=(j7 (m+4) 0 (c % 10000000000000000000000000000000000000121+48271)).drop 4
theorem bN{c:Int}{m:Nat}:(aO c m).length=m:=by simp[aO,lP]
theorem dU{c:Int}{m:Nat}(hM:Fm M)(hm:m<100):aa T (B cls kls fad) (n+1) 34 [.int c,.int (m:Nat)] M Q E=Q (.rol ((aO c m).map D.int)) M:=by
 have h0:0<=c % 10000000000000000000000000000000000000121:=HJ _ (by decide)
 have h1:c % 10000000000000000000000000000000000000121<10000000000000000000000000000000000000121:=HF _ (by decide)
 have hb:(m:Int)+4<4611686018427387904:=by omega
 have hb2 : -4611686018427387904<=(m:Int)+4:=by omega
 simp only[mj,dm];simp;refine iff_of_eq (ay hM λp hp=>?_)
 simp[iL,hb,hb2];rw[show ((m:Int)+4).toNat=m+4 by omega]
 refine iff_of_eq (nw (M:=M) (m+4) 0 _ [] none (by omega) (by omega) (by simp;omega) λy x4=>?_)
 have ln:(j7 (m+4) 0 (c % 10000000000000000000000000000000000000121+48271)).length=m+4:=lP _ _ _;have ec:dR ((j7 (m+4) 0 (c % 10000000000000000000000000000000000000121+48271)).map D.int) (some 4) none=(aO c m).map D.int:=by
  unfold dR aO;have e4:HT.sIx ((j7 (m+4) 0 (c % 10000000000000000000000000000000000000121+48271)).map D.int).length 0 (some 4)=4:=by
   rw[show (4:Int)=((4:Nat):Int) from rfl,HT.sIx_nat,G8,ln];omega
  rw[e4,HT.sIx_none,G8,ln,<-List.map_drop,<-List.map_take,List.take_of_length_le (by rw[List.length_drop,ln];omega)]
 have hz:(aO c m).length<=PySem.sizeLine:=by rw[bN,PySem.sizeLine_eq];omega
 simp[mE,ai,ag,eI,ec,hz,jL hp]
end
section
variable {cls kls fad:Nat->PySem.Addr}{M:MH}{Q:VK3}{E:XN}{n:Nat}{a:PySem.Addr}
theorem nE(a b c:Int)(i:Int)(h0:0<=i)(h3:i<3):∃x:Int,(x=a\/x=b\/x=c)/\∀{M:MH}{Q:VK3},ao (.rol [.int a,.int b,.int c]) (.int i) M Q=Q (.int x) M:=by
 have:i=0\/i=1\/i=2:=by omega
 rcases this with rfl|rfl|rfl
 ·exact⟨a,.inl rfl,by intro M Q;simp⟩
 ·exact⟨b,.inr (.inl rfl),by intro M Q;simp⟩
 ·exact⟨c,.inr (.inr rfl),by intro M Q;simp⟩
theorem aB{l:List Int}{k:Nat}(h:k<l.length):ao (.rol (l.map D.int)) (.int (k:Nat)) M Q=Q (.int (l.getD k 0)) M:=by
 have e:(l.map D.int)[k]?=some (.int (l.getD k 0)):=by
  rw[Hi,Hd h,List.getD_eq_getElem?_getD,Hd h];rfl
 exact kY (cL e)
theorem BQ{xs:List Int}{size:Int}(hl:3<=xs.length)(h0:1<=size)(h1:size<=10 ^ 30):∃(l:Int)(m:Option Int),lJ l m=false/\l<=10 ^ 30/\(∀y,m=some y->y<=2*10 ^ 30)/\∀{n:Nat}{M:MH}{Q:VK3}{E:XN},aa T (B cls kls fad) (n+1) 35 [.rol (xs.map D.int),.int size] M Q E=Q (way l m) M:=by
 have i0:∀{M:MH}{Q:VK3},ao (.rol (xs.map D.int)) (.int 0) M Q=Q (.int (xs.getD 0 0)) M:=λ{M Q}=>aB (k:=0) (by omega)
 have i1:∀{M:MH}{Q:VK3},ao (.rol (xs.map D.int)) (.int 1) M Q=Q (.int (xs.getD 1 0)) M:=λ{M Q}=>aB (k:=1) (by omega)
 have i2:∀{M:MH}{Q:VK3},ao (.rol (xs.map D.int)) (.int 2) M Q=Q (.int (xs.getD 2 0)) M:=λ{M Q}=>aB (k:=2) (by omega)
 generalize xs.getD 0 0=x0 at i0;generalize xs.getD 1 0=x1 at i1;generalize xs.getD 2 0=x2 at i2;have z:¬ size=0:=by omega
 have zp:0<size:=by omega
 have m0:=HJ x0 z;have m1:=HF x0 zp;have m2:=HJ x2 z;have m3:=HF x2 zp;obtain⟨l,hl1,hlx⟩:=nE 0 1 (x0 % size) (x1 % 3) (by omega) (by omega)
 obtain⟨g,hg1,hgx⟩:=nE 0 1 (x2 % size) (x1 / 12 % 3) (by omega) (by omega)
 have l0:0<=l/\l<=10 ^ 30:=by omega
 have g0:0<=g/\g<=10 ^ 30:=by omega
 by_cases h:x1 / 3 % 4=0
 ·refine⟨l,none,by simp[lJ,l0.1],l0.2,(λy e=>by cases e),?_⟩
  intro n M Q E;simp only[lf,eV];simp[↓i0,↓i1,↓i2,z,zp,↓hlx,cx,h,way,oi,ar]
 ·refine⟨l,some (l+g),by simp[lJ];omega,l0.2,(λy e=>by cases e;omega),?_⟩
  intro n M Q E;simp only[lf,eV];simp[↓i0,↓i1,↓i2,z,zp,↓hlx,↓hgx,cx,h,way,oi,ar]
end
section
variable {cls kls fad:Nat->PySem.Addr}{M:MH}{Q:VK3}{E:XN}{n:Nat}
theorem qw(a b c d:Int)(i:Int)(h0:0<=i)(h3:i<4):∃x:Int,(x=a\/x=b\/x=c\/x=d)/\∀{M:MH}{Q:VK3},ao (.rol [.int a,.int b,.int c,.int d]) (.int i) M Q=Q (.int x) M:=by
 have:i=0\/i=1\/i=2\/i=3:=by omega
 rcases this with rfl|rfl|rfl|rfl
 ·exact⟨a,.inl rfl,by intro M Q;simp⟩
 ·exact⟨b,.inr (.inl rfl),by intro M Q;simp⟩
 ·exact⟨c,.inr (.inr (.inl rfl)),by intro M Q;simp⟩
 ·exact⟨d,.inr (.inr (.inr rfl)),by intro M Q;simp⟩
noncomputable def eZ(c1 mo t0:Int)(lo:Option Int):Int:=match lo with
 |some l=>if mo+c1*t0<l then (l-mo+c1-1) / c1 else t0
 |none=>t0
noncomputable def fG(c0 mo t:Int)(lo:Option Int):Int:=match lo with
 |some l=>if mo+c0*t<l then l else mo+c0*t
 |none=>mo+c0*t
noncomputable def fP(c1 mo t:Int)(hi:Option Int):Int:=match hi with
 |some l=>if l<mo+c1*t then l else mo+c1*t
 |none=>mo+c1*t
def inB(B:Int)(o:Option Int):Prop:=∀y,o=some y->-B<=y/\y<=B
theorem B4{c1 mo t0 B:Int}{lo:Option Int}(h1:1<=c1)(h2:c1<=10 ^ 31)(t1:0<=t0)(t2:t0<=10 ^ 12)(b1:10 ^ 43<=B)(m1 : -B<=mo)(m2:mo<=B)(hl:inB B lo) :
  0<=eZ c1 mo t0 lo/\c1*eZ c1 mo t0 lo<=3*B/\eZ c1 mo t0 lo<=3*B:=by
 have p0:c1*t0<=10 ^ 31*10 ^ 12:=Int.mul_le_mul h2 t2 t1 (by omega)
 have base:0<=t0/\c1*t0<=3*B/\t0<=3*B:=⟨t1,by omega,by omega⟩
 cases lo with
 |none=>exact base
 |some l=>
  obtain⟨l1,l2⟩:=hl l rfl;unfold eZ;simp only;split
  ·rename_i hlt;have hp:0<=c1*t0:=Int.mul_nonneg (by omega) t1
   have q0:0<=(l-mo+c1-1) / c1:=Int.ediv_nonneg (by omega) (by omega)
   have q1:c1*((l-mo+c1-1) / c1)<=l-mo+c1-1:=Int.mul_ediv_self_le (by omega)
   have q2:(l-mo+c1-1) / c1<=c1*((l-mo+c1-1) / c1):=by
    have:=Int.mul_le_mul_of_nonneg_right h1 q0;omega
   exact⟨q0,by omega,by omega⟩
  ·exact base
theorem CO{c0 c1 mo t B:Int}{lo hi:Option Int}(h0:1<=c0)(h1:c0<=c1)(t0:0<=t)(ht:c1*t<=3*B)(m1 : -B<=mo)(m2:mo<=B)(hl:inB B lo)(hh:inB B hi) :
  (-B<=fG c0 mo t lo/\fG c0 mo t lo<=4*B)/\(-B<=fP c1 mo t hi/\fP c1 mo t hi<=4*B)/\(lo=none->hi=none->fG c0 mo t lo<=fP c1 mo t hi):=by
 have p0:0<=c0*t:=Int.mul_nonneg (by omega) t0
 have p1:c0*t<=c1*t:=Int.mul_le_mul_of_nonneg_right h1 t0;refine⟨?_,?_,λe1 e2=>?_⟩
 ·cases lo with
  |none=>unfold fG;simp only;omega
  |some l=>obtain⟨l1,l2⟩:=hl l rfl;unfold fG;simp only;split<;>omega
 ·cases hi with
  |none=>unfold fP;simp only;omega
  |some l=>obtain⟨l1,l2⟩:=hh l rfl;unfold fP;simp only;split<;>omega
 ·subst e1 e2;unfold fG fP;simp only;omega
structure LagR (c0 c1 mo t f l:Int)(lo hi:Option Int):Prop where
 f0:mo+c0*t<=f
 l0:l<=mo+c1*t
 fl:∀y,lo=some y->y<=f
 lh:∀y,hi=some y->l<=y
theorem Cf{c0 c1 mo t:Int}{lo hi:Option Int}:LagR c0 c1 mo t (fG c0 mo t lo) (fP c1 mo t hi) lo hi:=by
 refine⟨?_,?_,λy e=>?_,λy e=>?_⟩
 ·cases lo<;>unfold fG<;>simp only<;>(try split)<;>omega
 ·cases hi<;>unfold fP<;>simp only<;>(try split)<;>omega
 ·subst e;unfold fG;simp only;split<;>omega
 ·subst e;unfold fP;simp only;split<;>omega
theorem Bz{c0 c1 cnt rd mo B:Int}{xs:List Int}{lo hi:Option Int}(hx:3<=xs.length)(h0:1<=c0)(h1:c0<=c1)(h2:c1<=10 ^ 31)(b1:10 ^ 43<=B)(b2:B<=10 ^ 60)(m1 : -B<=mo)(m2:mo<=B)(hl:inB B lo)(hh:inB B hi) :
  ∃t f l:Int,0<=t/\t<=3*B/\(-B<=f/\f<=4*B)/\(-B<=l/\l<=4*B)/\(lo=none->hi=none->f<=l)/\LagR c0 c1 mo t f l lo hi/\∀{n:Nat}{M:MH}{Q:VK3}{E:XN},aa T (G.B cls kls fad) (n+1) 38 [.tup [.int c0,.int c1],.tup [.int cnt,.int rd,.int mo],.rol (xs.map D.int),oi lo,oi hi] M Q E=Q (.tup [.int t,.int f,.int l]) M:=by
 have i1:∀{M:MH}{Q:VK3},ao (.rol (xs.map D.int)) (.int 1) M Q=Q (.int (xs.getD 1 0)) M:=λ{M Q}=>aB (k:=1) (by omega)
 have i2:∀{M:MH}{Q:VK3},ao (.rol (xs.map D.int)) (.int 2) M Q=Q (.int (xs.getD 2 0)) M:=λ{M Q}=>aB (k:=2) (by omega)
 generalize xs.getD 1 0=x1 at i1;generalize xs.getD 2 0=x2 at i2;obtain⟨t0,ht0,htx⟩:=qw 0 1 (x1 % 5) (x1 % 1000000000000) (x2 % 4) (by omega) (by omega)
 have t1:0<=t0/\t0<=10 ^ 12:=by omega
 obtain⟨a1,a2,a3⟩:=B4 (lo:=lo) (c1:=c1) (mo:=mo) (t0:=t0) (B:=B) (by omega) h2 t1.1 t1.2 b1 m1 m2 hl
 obtain⟨d1,d2,d3⟩:=CO (c0:=c0) (hi:=hi) h0 h1 a1 a2 m1 m2 hl hh;refine⟨_,_,_,a1,a3,d1,d2,d3,Cf,?_⟩;intro n M Q E;have k0:bK c1 t0=True:=c6 (by omega) (by omega) (by omega) (by omega)
 have k1:bK c0 (eZ c1 mo t0 lo)=True:=c6 (by omega) (by omega) (by omega) (by omega)
 have k2:bK c1 (eZ c1 mo t0 lo)=True:=c6 (by omega) (by omega) (by omega) (by omega)
 have z:¬ c1=0:=by omega
 have zp:0<c1:=by omega
 simp only[sr,gK];cases lo with
 |none=>
  cases hi with
  |none=>
   simp only[eZ]at k1 k2;simp[↓i1,↓i2,↓htx,iL,k1,k2,oi,D.isN,eZ,fG,fP,ar]
  |some y=>
   simp only[eZ]at k1 k2;by_cases hy:y<mo+c1*t0<;>simp[↓i1,↓i2,↓htx,iL,k1,k2,hy,oi,D.isN,eZ,fG,fP,ar]
 |some l=>
  by_cases hlt:mo+c1*t0<l
  ·simp only[eZ,G3 hlt]at k1 k2;obtain⟨l1,l2⟩:=hl l rfl;have kd:kO (l-mo+c1-1) c1=True:=cx zp (by omega)
   cases hi with
   |none=>simp[↓i1,↓i2,↓htx,iL,k0,k1,k2,kd,hlt,z,zp,oi,D.isN,eZ,fG,fP,ar]
   |some y=>by_cases hy:y<mo+c1*((l-mo+c1-1) / c1)<;>simp[↓i1,↓i2,↓htx,iL,k0,k1,k2,kd,hy,hlt,z,zp,oi,D.isN,eZ,fG,fP,ar]
  ·simp only[eZ,GV hlt]at k1 k2;cases hi with
   |none=>simp[↓i1,↓i2,↓htx,iL,k0,k1,k2,hlt,oi,D.isN,eZ,fG,fP,ar]
   |some y=>by_cases hy:y<mo+c1*t0<;>simp[↓i1,↓i2,↓htx,iL,k0,k1,k2,hy,hlt,oi,D.isN,eZ,fG,fP,ar]
end
section
variable {cls kls fad:Nat->PySem.Addr}{M:MH}{Q:VK3}{E:XN}{n:Nat}{wy:List Wy}{cks:List (Int×Int)}
theorem xU{l:List Int}{i:Int}(h0:0<=i)(h1:i<l.length):∃x∈l,∀{M:MH}{Q:VK3},ao (.rol (l.map D.int)) (.int i) M Q=Q (.int x) M:=by
 obtain⟨k,rfl⟩:=HN h0;have hk:k<l.length:=by omega
 exact⟨l.getD k 0,by rw[List.getD_eq_getElem?_getD,Hd hk];exact HU hk,aB hk⟩
structure WS (H:Nat)(i j:Nat)(wy:List Wy):Prop where
 nd:(wy.map pr).Nodup
 gd:∀w∈wy,w.good H
 sm:∀w∈wy,w.l<=10 ^ 30/\∀y,w.m=some y->y<=2*10 ^ 30
 lo:∀w∈wy,w.i<i\/(w.i=i/\w.j<j)
theorem WS.skip{H i j:Nat}(W:WS H i j wy):WS H i (j+1) wy:=⟨W.nd,W.gd,W.sm,λw hw=>by rcases W.lo w hw with h|h;exact .inl h;exact .inr ⟨h.1,by omega⟩⟩
theorem WS.row{H i j:Nat}(W:WS H i j wy):WS H (i+1) 0 wy:=⟨W.nd,W.gd,W.sm,λw hw=>.inl (by have:=W.lo w hw;omega)⟩
theorem WS.new{H i j:Nat}(W:WS H i j wy)(hi:i<H)(hj:j<H)(hij:i≠j){l:Int}{m:Option Int}(hl:lJ l m=false)(hs:l<=10 ^ 30/\∀y,m=some y->y<=2*10 ^ 30):WS H i (j+1) (wy++[⟨i,j,l,m⟩])/\[(i:Int),(j:Int)]∉wy.map pr:=by
 have hn:[(i:Int),(j:Int)]∉wy.map pr:=λz=>by
  obtain⟨w,hw,e⟩:=Hn.mp z;simp only[pr,List.cons.injEq,and_true]at e;rcases W.lo w hw with h|h<;>omega
 have al:∀{P:Wy->Prop},(∀w∈wy,P w)->P ⟨i,j,l,m⟩->∀w∈wy++[⟨i,j,l,m⟩],P w:=λh1 h2 w hw=>by
  rcases Ho.mp hw with h|h
  ·exact h1 w h
  ·obtain rfl:=Hq.mp h;exact h2
 refine⟨⟨?_,al W.gd ⟨by simp[okH,hi],by simp[okH,hj],λz=>hij (by have:(i:Int)=j:=z;omega),hl⟩,al W.sm hs,al (λw hw=>?_) (.inr ⟨rfl,by simp;omega⟩)⟩,hn⟩
 ·rw[HR,List.nodup_append];refine⟨W.nd,by simp,λa ha b hb=>?_⟩
  simp only[G6,List.map_nil,Hq]at hb;subst hb;exact λz=>hn (by have:a=[(i:Int),(j:Int)]:=z;rw[<-this];exact ha)
 ·have:=W.lo w hw;omega
theorem jr{b:PySem.Addr}{ks:List (List Int)}{ds:List D}{i j:Int}{y:D}{R:MH->Prop}(h:M b=some (.dt ks ds))(hz:ks.length<1000):aS (.ref b) (.tup [.int i,.int j]) y M R=R (put M b (.dt (aj ks [i,j]) (ak ks ds [i,j] y))):=by
 have hs:ks.length<PySem.sizeLine:=GU hz (by decide)
 simp[aS,h,iK,dP,hs]
theorem m9{H one:Nat}{size c:Int}{M0:MH}(hM0:Fm M0)(s0:1<=size)(s1:size<=10 ^ 30)(hH:H<=6)(ho:one<H){a b:PySem.Addr}{cl:List D}{De:Ends3}{ES:St3->XN}{y1 y2 y7:Option D}:∀(k j:Nat)(wy:List Wy)(x8 x9:Option D),j+k=H->wy.length+k<400->WS H one j wy->
  (∀(wy':List Wy) x8 x9,wy'.length<=wy.length+k->WS H (one+1) 0 wy'->De.nx [some (.int c),y1,y2,some (.int size),some (.ref a),some (.ref b),some (.int one),y7,x8,x9] (put (put M0 a (.lst cl)) b (.dt (wy'.map pr) (wy'.map wv))))->
  bz ⟨(B cls kls fad),aa T (B cls kls fad) (n+1)⟩ (.name 8) bu ES (λ_=>True) De (rng j k) [some (.int c),y1,y2,some (.int size),some (.ref a),some (.ref b),some (.int one),y7,x8,x9] (put (put M0 a (.lst cl)) b (.dt (wy.map pr) (wy.map wv)))
 |0,j,wy,x8,x9,h1,h2,hW,hR=>by
  show bz _ _ _ _ _ _ [] _ _;rw[aT];exact⟨trivial,hR wy _ _ (by omega) hW.row⟩
 |k+1,j,wy,x8,x9,h1,h2,hW,hR=>by
  have fm:Fm (put (put M0 a (.lst cl)) b (.dt (wy.map pr) (wy.map wv))):=(hM0.put _ _).put _ _;have st:∀{Q:VK3}{E:XN},aa T (B cls kls fad) (n+1) 34 [.int (c+7*(one:Int)+43*(j:Int)+1),.int 4] (put (put M0 a (.lst cl)) b (.dt (wy.map pr) (wy.map wv))) Q E=Q (.rol ((aO (c+7*(one:Int)+43*(j:Int)+1) 4).map D.int)) (put (put M0 a (.lst cl)) b (.dt (wy.map pr) (wy.map wv))):=λ{Q E}=>dU (m:=4) fm (by omega)
  have hl:(aO (c+7*(one:Int)+43*(j:Int)+1) 4).length=4:=bN;generalize aO (c+7*(one:Int)+43*(j:Int)+1) 4=ys at st hl;have i3:∀{M:MH}{Q:VK3},ao (.rol (ys.map D.int)) (.int 3) M Q=Q (.int (ys.getD 3 0)) M:=λ{M Q}=>aB (k:=3) (by omega)
  generalize ys.getD 3 0=y at i3;obtain⟨l,m,hb,b1,b2,cw⟩:=BQ (cls:=cls) (kls:=kls) (fad:=fad) (xs:=ys) (by omega) s0 s1
  have cw':∀{M:MH}{Q:VK3}{E:XN},aa T (B cls kls fad) (n+1) 35 [.rol (ys.map D.int),.int size] M Q E=Q (way l m) M:=cw;have c7:bK 7 (one:Int)=True:=c6 (by decide) (by decide) (by omega) (by omega)
  have c8:bK 43 (j:Int)=True:=c6 (by decide) (by decide) (by omega) (by omega)
  rw[jB,aF];refine⟨trivial,?_⟩;have nx:=λ(wy':List Wy) (hw:wy'.length<=wy.length+1) (hW':WS H one (j+1) wy') (x8 x9:Option D)=>m9 hM0 s0 s1 hH ho (c:=c) (a:=a) (b:=b) (cl:=cl) (De:=De) (ES:=ES) (y1:=y1) (y2:=y2) (y7:=y7) k (j+1) wy' x8 x9 (by omega) (by omega) hW' (λw2 a b hw2 hW2=>hR w2 a b (by omega) hW2)
  push_cast at nx
  generalize bz ⟨(B cls kls fad),aa T (B cls kls fad) (n+1)⟩ (.name 8) bu ES (λ_=>True) De (rng ((j:Int)+1) k)=K at nx ⊢
  simp only[bu];by_cases c1:one=j
  ·subst c1;simp[c7,c8,↓st];exact nx wy (by omega) hW.skip _ _
  ·have c1':¬ (one:Int)=(j:Int):=λz=>c1 (by omega)
   by_cases c2:0<y % 6
   ·obtain⟨hW2,hin⟩:=hW.new ho (by omega) c1 hb ⟨b1,b2⟩
    have go:∀{R:MH->Prop},aS (.ref b) (.tup [.int one,.int j]) (way l m) (put (put M0 a (.lst cl)) b (.dt (wy.map pr) (wy.map wv))) R=R (put (put M0 a (.lst cl)) b (.dt ((wy++[(⟨one,j,l,m⟩:Wy)]).map pr) ((wy++[(⟨one,j,l,m⟩:Wy)]).map wv))):=λ{R}=>by
     rw[jr ag (by simp;omega),jx hin,jq (by simp) hin,bv]
     simp[pr,wv]
    simp[c7,c8,↓st,c1',↓i3,c2,↓cw',ar,↓go];have:=nx (wy++[⟨one,j,l,m⟩]) (by simp) hW2 (some (.int j)) (some (.rol (ys.map D.int)))
    rw[HR,HR]at this;exact this
   ·simp[c7,c8,↓st,c1',↓i3,c2];exact nx wy (by omega) hW.skip _ _
theorem ls{xs:List Int}{c size:Int}{M0:MH}(hM0:Fm M0)(hl:xs.length=8)(s0:1<=size)(s1:size<=10 ^ 30){H:Nat}(hH:H<=6){a b:PySem.Addr}(hab:a≠b){De:Ends3}{ES:St3->XN}:∀(k j:Nat) (cks:List (Int×Int)) (wy:List Wy)(x6 x7 x8 x9:Option D),j+k=H->cks.length=j->wy.length<=j*6->(∀c∈cks,l9 c=false/\c.2<=10 ^ 31)->WS H j 0 wy->
  (∀(cks':List (Int×Int)) (wy':List Wy) x6 x7 x8 x9,cks'.length=H->wy'.length<=36->(∀c∈cks',l9 c=false/\c.2<=10 ^ 31)->WS H H 0 wy'->De.nx [some (.int c),some (.rol (xs.map D.int)),some (.int H),some (.int size),some (.ref a),some (.ref b),x6,x7,x8,x9] (put (put M0 a (.lst (cks'.map cD))) b (.dt (wy'.map pr) (wy'.map wv))))->
  bz ⟨(B cls kls fad),aa T (B cls kls fad) (n+1)⟩ (.name 6) bB ES (λ_=>True) De (rng j k) [some (.int c),some (.rol (xs.map D.int)),some (.int H),some (.int size),some (.ref a),some (.ref b),x6,x7,x8,x9] (put (put M0 a (.lst (cks.map cD))) b (.dt (wy.map pr) (wy.map wv)))
 |0,j,cks,wy,x6,x7,x8,x9,h1,h2,h3,hc,hW,hR=>by
  show bz _ _ _ _ _ _ [] _ _;rw[aT];have e:j=H:=by omega
  subst e;exact⟨trivial,hR cks wy _ _ _ _ h2 (by omega) hc hW⟩
 |k+1,j,cks,wy,x6,x7,x8,x9,h1,h2,h3,hc,hW,hR=>by
  have i2:∀{M:MH}{Q:VK3},ao (.rol (xs.map D.int)) (.int (2+(j:Int))) M Q=Q (.int (xs.getD (2+j) 0)) M:=λ{M Q}=>by
   have:=aB (M:=M) (Q:=Q) (l:=xs) (k:=2+j) (by omega)
   push_cast at this
   exact this
  have i7:∀{M:MH}{Q:VK3},ao (.rol (xs.map D.int)) (.int (7-(j:Int))) M Q=Q (.int (xs.getD (7-j) 0)) M:=λ{M Q}=>by
   rw[show (7-(j:Int))=((7-j:Nat):Int) by omega]
   exact aB (by omega)
  generalize xs.getD (2+j) 0=x at i2;generalize xs.getD (7-j) 0=y at i7;have z:¬ size=0:=by omega
  have zp:0<size:=by omega
  have q0:=HJ (x / 3) z;have q1:=HF (x / 3) zp;have q2:=HJ y z;have q3:=HF y zp;obtain⟨g,hg,gx⟩:=nE 0 1 (y % size) (x % 3) (by omega) (by omega)
  have hs:cks.length<PySem.sizeLine:=GU (show cks.length<1000 by omega) (by decide)
  have ha:(put (put M0 a (.lst (cks.map cD))) b (.dt (wy.map pr) (wy.map wv))) a=some (.lst (cks.map cD)):=by rw[ah hab,ag]
  have hb4:(H:Int)<4611686018427387904:=by omega
  have happ:∀{e:IE}{De':Ends3}{E':XN}{σ:St3}{W:WC},pp W e De' E' σ (.ref a) (put (put M0 a (.lst (cks.map cD))) b (.dt (wy.map pr) (wy.map wv)))=wpE W e σ (put (put M0 a (.lst (cks.map cD))) b (.dt (wy.map pr) (wy.map wv))) (cB a De' σ) E':=by
   intro e De' E' σ W;simp[pp,ha];exact Iff.rfl
  have happ2:∀{y:D}{De':Ends3}{σ:St3},cB a De' σ y (put (put M0 a (.lst (cks.map cD))) b (.dt (wy.map pr) (wy.map wv)))=(cks.length<PySem.sizeLine/\De'.nx σ (put (put M0 a (.lst (cks.map cD++[y]))) b (.dt (wy.map pr) (wy.map wv)))):=by
   intro y De' σ;simp[cB,ha,c9 hab]
  rw[jB,aF];refine⟨trivial,?_⟩;have nx:=λ(wy':List Wy) (hw:wy'.length<=(j+1)*6) (hW':WS H (j+1) 0 wy') (x8 x9:Option D)=>ls (c:=c) hM0 hl s0 s1 hH hab (De:=De) (ES:=ES) k (j+1) (cks++[(1+x / 3 % size,1+x / 3 % size+g)]) wy' (some (.int j)) (some (.int (1+x / 3 % size))) x8 x9 (by omega) (by simp;omega) hw (λc hc'=>by
   rcases Ho.mp hc' with h|h
   ·exact hc c h
   ·obtain rfl:=Hq.mp h;exact⟨by simp[l9];omega,by simp only;omega⟩) hW' hR
  push_cast at nx
  generalize bz ⟨(B cls kls fad),aa T (B cls kls fad) (n+1)⟩ (.name 6) bB ES (λ_=>True) De (rng ((j:Int)+1) k)=K at nx ⊢
  simp only[bB];simp[↓i2,↓i7,↓gx,z,zp,cx,↓happ,↓happ2,ar,hs,hb4];have key:=m9 (cls:=cls) (kls:=kls) (fad:=fad) (n:=n) (c:=c) hM0 s0 s1 hH (one:=j) (by omega) (a:=a) (b:=b) (cl:=(cks++[(1+x / 3 % size,1+x / 3 % size+g)]).map cD) (De:={De with nx:=K,ct:=K,bk:=De.nx}) (ES:=ES) (y1:=some (.rol (xs.map D.int))) (y2:=some (.int H)) (y7:=some (.int (1+x / 3 % size))) H 0 wy x8 x9 (by omega) (by omega) hW (λwy' x8 x9 hw hW2=>nx wy' (by omega) hW2 _ _)
  simpa [cD] using key
structure GW (cks:List (Int×Int)) (wy:List Wy):Prop where
 l1:1<=cks.length
 l6:cks.length<=6
 w36:wy.length<=36
 ck:∀c∈cks,l9 c=false/\c.2<=10 ^ 31
 nd:(wy.map pr).Nodup
 gd:∀w∈wy,w.good cks.length
 sm:∀w∈wy,w.l<=10 ^ 30/\∀y,w.m=some y->y<=2*10 ^ 30
theorem vI{c:Int}(hM:Fm M)(h:∀(cks:List (Int×Int)) (wy:List Wy),GW cks wy->Q (.tup [.rol (cks.map cD),.dit (wy.map pr) (wy.map wv)]) M):aa T (B cls kls fad) (n+2) 36 [.int c] M Q E:=by
 have st:∀{M:MH}{Q:VK3}{E:XN},Fm M->aa T (B cls kls fad) (n+1) 34 [.int c,.int 8] M Q E=Q (.rol ((aO c 8).map D.int)) M:=λ{M Q E} fm=>dU (m:=8) fm (by omega)
 have hl:(aO c 8).length=8:=bN;generalize aO c 8=xs at st hl;have i0:∀{M:MH}{Q:VK3},ao (.rol (xs.map D.int)) (.int 0) M Q=Q (.int (xs.getD 0 0)) M:=λ{M Q}=>aB (k:=0) (by omega)
 have i1:∀{M:MH}{Q:VK3},ao (.rol (xs.map D.int)) (.int 1) M Q=Q (.int (xs.getD 1 0)) M:=λ{M Q}=>aB (k:=1) (by omega)
 generalize xs.getD 0 0=x0 at i0;generalize xs.getD 1 0=x1 at i1;obtain⟨H0,hH0,hx⟩:=xU (l:=[1,2,2,3,3,4,5,6]) (i:=x0 % 8) (by omega) (by simp;omega)
 have hx':∀{M:MH}{Q:VK3},ao (.rol [.int 1,.int 2,.int 2,.int 3,.int 3,.int 4,.int 5,.int 6]) (.int (x0 % 8)) M Q=Q (.int H0) M:=hx;obtain⟨size,hz0,hz⟩:=qw 3 100 1000000000 1000000000000000000000000000000 (x1 % 4) (by omega) (by omega)
 have hH1:1<=H0/\H0<=6:=by simp at hH0;omega
 obtain⟨H,rfl⟩:∃H:Nat,H0=H:=⟨H0.toNat,by omega⟩
 have hH6:H<=6:=by omega
 have hb4:(H:Int)<4611686018427387904:=by omega
 simp only[nj,dY];simp[st hM,↓i0,↓i1,↓hx',↓hz,iL,ar,hb4];intro a ha b hb;obtain⟨hba,hb⟩:=cI hb;refine ls hM hl (by omega) (by omega) hH6 (He hba) H 0 [] [] none none none none (by omega) rfl (by simp) (λc hc=>by cases hc) ⟨by simp,λw hw=>(by cases hw),λw hw=>(by cases hw),λw hw=>(by cases hw)⟩ (λcks wy x6 x7 x8 x9 l1 l2 l3 l4=>?_)
 have e1:(put (put M a (.lst (cks.map cD))) b (.dt (wy.map pr) (wy.map wv))) a=some (.lst (cks.map cD)):=by rw[ah (He hba),ag]
 simp[aY,e1,ug ha hba,ag,gt hb,ar];exact h cks wy ⟨by omega,by omega,l2,l3,l4.nd,by rw[l1];exact l4.gd,l4.sm⟩
noncomputable def yN:D->D
 |.tup [.tup a,.tup b]=>.tup (a++b)
 |_=>.non
theorem zw(G:GW cks wy)(hM:Fm M):aa T (B cls kls fad) (n+7) 37 [.tup [.rol (cks.map cD),.dit (wy.map pr) (wy.map wv)]] M Q E=Q (wO kls cks wy) M:=by
 have hz:cks.length<=PySem.sizeLine:=Ha (show cks.length<=1000 by have:=G.l6;omega) (by decide)
 have cm:∀{W:WC}{Q:VK3},d9 W (.tup [0,1]) .no (.bin .Add (.var 0) (.var 1)) (λ_=>True) Q (cy (wy.map pr) (wy.map wv)) [none,none] M=Q (.rol (wy.map wD)) M:=λ{W Q}=>by
  rw[eU (λσ=>∃a b,σ=[a,b]) (λd=>match d with
   |.tup [a,b]=>[some a,some b]
   |_=>[]) (λ_=>true) yN ⟨_,_,rfl⟩ hM (by
    have:=G.w36;simp[cy];omega) (λd hd=>by
    obtain⟨⟨a,b⟩,hp,rfl⟩:=Hn.mp hd;refine⟨⟨_,_,rfl⟩,λσ ⟨a,b,e⟩ M k=>?_⟩
    subst e;simp[wpG]) (λd hd M' hE Q=>rfl) (λd hd _ M' hE Q=>by
    obtain⟨⟨a,b⟩,hp,rfl⟩:=Hn.mp hd;obtain⟨h1,h2⟩:=List.of_mem_zip hp;obtain⟨w,_,rfl⟩:=Hn.mp h1;obtain⟨v,_,rfl⟩:=Hn.mp h2;simp[yN,pr,wv,way,ar])]
  have ef:((cy (wy.map pr) (wy.map wv)).filter λ_=>true).map yN=wy.map wD:=by
   rw[List.filter_eq_self.mpr (λ_ _=>rfl)]
   unfold cy;rw[List.zip_map',List.map_map,List.map_map];rfl
  rw[ef]
 simp only[pz,fE];simp[aA,↓cm,hz];refine iff_of_eq ((wU (n:=n) (Q:=λv M'=>Q v (aK M M')) (E:=λi M'=>E i (aK M M')) hM G.l1 G.l6 (λc hc=>(G.ck c hc).1) (by have:=G.w36;omega) G.gd G.nd).trans ?_)
 simp
end
section
variable {cls kls fad:Nat->PySem.Addr}{M:MH}{Q:VK3}{E:XN}{n:Nat}{wy:List Wy}{cks:List (Int×Int)}
theorem uo{w:Wy}:∀{wy:List Wy},(wy.map pr).Nodup->w∈wy->getD (wy.map pr) (wy.map wv) (pr w)=some (wv w)
 |v::r,hn,h=>by
  rw[G6,HK]at hn;simp only[G6,getD];rcases G9.mp h with rfl|h
  ·rw[G3 rfl]
  ·rw[GV (λz=>hn.1 (by rw[z];exact List.mem_map_of_mem h)),uo hn.2 h]
theorem pJ{w:Wy}(hn:(wy.map pr).Nodup)(h:w∈wy):ao (.dit (wy.map pr) (wy.map wv)) (.tup [.int w.i,.int w.j]) M Q=Q (wv w) M:=by
 have e:=uo hn h;simp only[pr]at e;simp[ao,aD,ai,gQ,gA,gO,iK,dP,e,pr]
theorem jb{x:D}{ds:List D}(hx:ai M x=some ds)(h7:ds.all (plN 7)=true)(h8:ds.all (plN 8)=true):aH .NotEq x (.rol []) M Q=Q (.bl (!ds.isEmpty)) M:=by
 have e:rs M x=.rol ds:=by unfold rs;rw[hx];simp only[pls,h8,if_true]
 have p:pl (.rol ds)=true:=h7;have e2:rs M (.rol [])=.rol []:=rfl;show j3 true x (.rol []) M Q=_;unfold j3;rw[e,e2,p];cases ds<;>simp[plN,eqD,dZ]
noncomputable def iJ(wy:List Wy)(h:Int):List Int:=(wy.filter λw=>decide (w.i=h)).map Wy.j
theorem Bq{W:WC}{h:Int}(hM:Fm M)(hl:wy.length<=36):d9 W (.name 0) (.yes (.cmp .Eq (.ix (.var 0) (.con (.int 0))) (.var 1))) (.ix (.var 0) (.con (.int 1))) (λ_=>True) Q ((wy.map pr).map jH) [none,some (.int h)] M=Q (.rol ((iJ wy h).map D.int)) M:=by
 rw[dn (λd=>match d with
   |.tup [.int i,_]=>decide (i=h)
   |_=>false) (λd=>match d with
   |.tup [_,y]=>y
   |_=>.non) hM (by simp;omega) (λd hd M' hE Q=>by
    obtain⟨_,hk,rfl⟩:=Hn.mp hd;obtain⟨w,_,rfl⟩:=Hn.mp hk;simp[jH,pr]) (λd hd _ M' hE Q=>by
    obtain⟨_,hk,rfl⟩:=Hn.mp hd;obtain⟨w,_,rfl⟩:=Hn.mp hk;simp[jH,pr])]
 have e:((((wy.map pr).map jH).filter (λd=>match d with
   |.tup [.int i,_]=>decide (i=h)
   |_=>false)).map (λd=>match d with
   |.tup [_,y]=>y
   |_=>D.non))=(iJ wy h).map D.int:=by
  rw[List.map_map,List.filter_map,List.map_map];unfold iJ;rw[List.map_map];rfl
 rw[e]
theorem wP{h t:Int}(ht:t∈iJ wy h):∃w∈wy,w.i=h/\w.j=t:=by
 obtain⟨w,hw,rfl⟩:=Hn.mp ht;obtain⟨h1,h2⟩:=List.mem_filter.mp hw;exact⟨w,h1,Ig h2,rfl⟩
def Rw.sg(m:Int):Rw->Prop
 |.sight _ _ e l=>e<=m/\m<=l
 |_=>True
theorem Cg{h v m:Int}{xs:List Int}(hl:xs.length=4)(hw:wy.length<=36):∃r:Rw,r.h=h/\r.r=v/\r.s≠"take"/\r.may wy/\r.sg m/\
  ∀{n:Nat}{M:MH}{Q:VK3}{E:XN},Fm M->aa T (B cls kls fad) (n+1) 39 [.int h,.int v,.int m,.dit (wy.map pr) (wy.map wv),.rol (xs.map D.int)] M Q E=Q r.d M:=by
 have i0:∀{M:MH}{Q:VK3},ao (.rol (xs.map D.int)) (.int 0) M Q=Q (.int (xs.getD 0 0)) M:=λ{M Q}=>aB (k:=0) (by omega)
 have i1:∀{M:MH}{Q:VK3},ao (.rol (xs.map D.int)) (.int 1) M Q=Q (.int (xs.getD 1 0)) M:=λ{M Q}=>aB (k:=1) (by omega)
 have i2:∀{M:MH}{Q:VK3},ao (.rol (xs.map D.int)) (.int 2) M Q=Q (.int (xs.getD 2 0)) M:=λ{M Q}=>aB (k:=2) (by omega)
 have i3:∀{M:MH}{Q:VK3},ao (.rol (xs.map D.int)) (.int 3) M Q=Q (.int (xs.getD 3 0)) M:=λ{M Q}=>aB (k:=3) (by omega)
 generalize xs.getD 0 0=x0 at i0;generalize xs.getD 1 0=x1 at i1;generalize xs.getD 2 0=x2 at i2;generalize xs.getD 3 0=x3 at i3;have ct:=λ{W:WC}{M:MH}{Q:VK3} (hM:Fm M)=>Bq (W:=W) (Q:=Q) (wy:=wy) (h:=h) hM hw
 by_cases k12:x3 / 2 % 8=1\/x3 / 2 % 8=2
 ·obtain⟨g,hg,gx⟩:=qw 0 1 (x0 % 100) (x0 % 1000000000000) (x1 % 4) (by omega) (by omega)
  obtain⟨k,hk,kx⟩:=qw 0 1 (x0 % 100) (x0 % 1000000000000) (x1 / 4 % 4) (by omega) (by omega)
  refine⟨.sight h v (m-g) (m+k),rfl,rfl,by simp +decide [Rw.s],trivial,⟨by omega,by omega⟩,?_⟩
  intro n M Q E hM;simp only[gZ,cY];rcases k12 with k1|k1<;>simp[-List.map_map,aA,↓ct hM,↓i0,↓i1,↓i3,k1,cx,iL,↓gx,↓kx,Rw.d,ar]
 ·obtain⟨k1,k2⟩:=not_or.mp k12;have nn:∀{M:MH}{Q:VK3},aH .NotEq (.rol ((iJ wy h).map D.int)) (.rol []) M Q=Q (.bl (!((iJ wy h).map D.int).isEmpty)) M:=λ{M Q}=>jb rfl (by simp[plN]) (by simp[plN])
  by_cases k3:2<x3 / 2 % 8/\iJ wy h≠[]
  ·have lp:0<(iJ wy h).length:=List.length_pos_iff.mpr k3.2;have lp':(0:Int)<(iJ wy h).length:=by omega
   obtain⟨t,ht,tx⟩:=xU (l:=iJ wy h) (i:=x2 / 5 % ((iJ wy h).length:Int)) (HJ _ (by omega)) (HF _ lp')
   obtain⟨w,hw1,hw2,hw3⟩:=wP ht;refine⟨.send h v t,rfl,rfl,by simp +decide [Rw.s],(show [h,t]∈wy.map pr from Hn.mpr ⟨w,hw1,by simp[pr,hw2,hw3]⟩),trivial,?_⟩
   intro n M Q E hM;simp only[gZ,cY];simp[-List.map_map,aA,↓ct hM,↓i2,↓i3,k1,k2,k3.1,k3.2,↓nn,lp,lp',cx,↓tx,Rw.d,ar]
  ·refine⟨.look h v,rfl,rfl,by simp +decide [Rw.s],trivial,trivial,?_⟩
   intro n M Q E hM;simp only[gZ,cY];by_cases k4:2<x3 / 2 % 8
   ·have k5:iJ wy h=[]:=Classical.byContradiction λz=>k3 ⟨k4,z⟩
    simp[-List.map_map,aA,↓ct hM,↓i3,k1,k2,k4,k5,↓nn,cx,Rw.d,ar]
   ·simp[-List.map_map,aA,↓ct hM,↓i3,k1,k2,k4,cx,Rw.d,ar]
theorem yh{h k v t mo l a:Int}{m:Option Int}:aa T (B cls kls fad) (n+1) 40 [.tup [.int h,.int k],.tup [.str "send",.int a,.int v,.int t],.int mo,.tup [.int l,oi m]] M Q E=Q (Ent.d ⟨h,k,t,mo+l,m.map (mo+·)⟩) M:=by
 simp only[oQ,fy];cases m<;>simp[oi,D.isN,Ent.d,ar]
noncomputable def mQ:D->D
 |.tup [i,.tup [_,_,m]]=>.tup [m,i]
 |_=>.non
noncomputable def psF(k0:Nat):List A3->List (Int×Int)
 |[]=>[]
 |x::r=>(x.2.2,(k0:Int))::psF (k0+1) r
theorem nH:∀{at_:List A3}{k0:Nat},sH ((bh k0 (at_.map a3D)).map mQ)=some (psF k0 at_)
 |[],_=>rfl
 |x::r,k0=>by
  simp only[G6,bh,a3D,mQ,sH];rw[nH (at_:=r)];rfl
theorem uk:∀{at_:List A3}{k0:Nat}{p:Int×Int},p∈psF k0 at_->∃k:Nat,k<at_.length/\p.2=((k0+k:Nat):Int)
 |x::r,k0,p,h=>by
  rcases G9.mp h with rfl|h
  ·exact⟨0,by simp,rfl⟩
  ·obtain⟨k,h1,h2⟩:=uk h;exact⟨k+1,by simp;omega,by rw[h2];congr 1;omega⟩
theorem jI:∀{at_:List A3}{k0:Nat}{d:D},d∈bh k0 (at_.map a3D)->∃(i:Nat)(x:A3),d=.tup [.int i,a3D x]
 |x::r,k0,d,h=>by
  rcases G9.mp h with rfl|h
  ·exact⟨k0,x,rfl⟩
  ·exact jI h
theorem nQ:∀{k0:Nat}{ds:List D},(bh k0 ds).length=ds.length
 |_,[]=>rfl
 |k0,d::r=>by simp[bh,nQ]
theorem yw{at_:List A3}{a:PySem.Addr}(hM:Fm M)(ha:M a=some (.lst (at_.map a3D)))(h0:0<at_.length)(hl:at_.length<=6):∃(k:Nat)(m:Int),k<at_.length/\∀{W:WC}{Q:VK3},d9 W (.tup [0,1]) .no (.tup (.cons (.ix (.var 1) (.con (.int 2))) (.cons (.var 0) .nil))) (λM=>M a=some (.lst (at_.map a3D))) (λx M1=>rMp x M1 Q) (bh 0 (at_.map a3D)) [none,none] M=Q (.tup [.int m,.int k]) M:=by
 have ne:psF 0 at_≠[]:=by
  cases at_ with
  |nil=>simp at h0
  |cons x r=>simp[psF]
 obtain⟨k,hk,e⟩:=uk (re ne);rw[Nat.zero_add]at e;refine⟨k,(kE (psF 0 at_)).1,hk,?_⟩;intro W Q;rw[eU (λσ=>∃a b,σ=[a,b]) (λd=>match d with
   |.tup [a,b]=>[some a,some b]
   |_=>[]) (λ_=>true) mQ ⟨_,_,rfl⟩ hM (by
    rw[nQ,G8];omega) (λd hd=>by
    obtain⟨i,x,rfl⟩:=jI hd;refine⟨⟨_,_,rfl⟩,λσ ⟨a,b,e⟩ M k=>?_⟩
    subst e;simp[wpG]) (λd hd M' hE Q=>rfl) (λd hd _ M' hE Q=>by
    obtain⟨i,x,rfl⟩:=jI hd;simp[mQ,a3D,ar]) (λM' hE=>hE.2 _ _ ha)]
 rw[List.filter_eq_self.mpr (λ_ _=>rfl)]
 show rMp (.rol ((bh 0 (at_.map a3D)).map mQ)) M Q=_;unfold rMp;simp only[ai,nH];have eb:prD (kE (psF 0 at_))=.tup [.int (kE (psF 0 at_)).1,.int k]:=by unfold prD;rw[e]
 revert ne eb;cases psF 0 at_ with
 |nil=>intro ne;exact absurd rfl ne
 |cons p ps=>intro _ eb;simp only[eb]
end
noncomputable abbrev c00:Int->Nat:=λ_=>0
noncomputable abbrev l00:Int->Int:=λ_=>0
noncomputable abbrev k0(cks:List (Int×Int))(k:Nat):Int×Int:=cks.getD k (0,0)
noncomputable abbrev a0(at_:List A3)(k:Nat):A3:=at_.getD k (0,0,0)
section
variable {cks:List (Int×Int)}{wy:List Wy}{r:Rw}
noncomputable def wOf(wy:List Wy)(i j:Int):Wy:=(wy.find? λw=>decide (w.i=i)&&decide (w.j=j)).getD ⟨0,0,0,none⟩
theorem tJ{i j:Int}(h:[i,j]∈wy.map pr):wOf wy i j∈wy/\(wOf wy i j).i=i/\(wOf wy i j).j=j:=by
 unfold wOf;cases e:wy.find? λw=>decide (w.i=i)&&decide (w.j=j) with
 |none=>
  obtain⟨w,hw,q⟩:=Hn.mp h;simp only[pr,List.cons.injEq,and_true]at q;have:=List.find?_eq_none.mp e w hw;simp[q.1,q.2]at this
 |some w=>
  have h1:=List.find?_some e;simp only[GS,G1]at h1;exact⟨List.mem_of_find?_eq_some e,h1.1,h1.2⟩
theorem tI{w:Wy}:∀{wy:List Wy},(wy.map pr).Nodup->w∈wy->wOf wy w.i w.j=w
 |x::r,nd,h=>by
  rw[G6,HK]at nd;unfold wOf;rw[HL];by_cases e:x.i=w.i/\x.j=w.j
  ·simp only[e.1,e.2,decide_true,Bool.and_true,Option.getD_some];rcases G9.mp h with rfl|h
   ·rfl
   ·exact absurd (Hn.mpr ⟨w,h,by simp[pr,e.1,e.2]⟩) nd.1
  ·have:(decide (x.i=w.i)&&decide (x.j=w.j))=false:=by
    rw[Bool.and_eq_false_iff];by_cases e1:x.i=w.i
    ·exact .inr (Hw λe2=>e ⟨e1,e2⟩)
    ·exact .inl (Hw e1)
   rw[this];rcases G9.mp h with rfl|h
   ·exact absurd ⟨rfl,rfl⟩ e
   ·exact tI nd.2 h
noncomputable def bJ(wy:List Wy)(hd:D):Rw->List D
 |.sight _ _ e l=>[.tup [.tup [.int (-1),.int 0],hd,.int l],.tup [hd,.tup [.int (-1),.int 0],.int (-e)]]
 |.take h _ a b=>.tup [hd,.tup [.int a,.int b],.int (-(wOf wy a h).l)]::(match (wOf wy a h).m with
  |none=>[]
  |some m=>[.tup [.tup [.int a,.int b],hd,.int m]])
 |_=>[]
noncomputable def lB(c:Int×Int)(h:Int)(k:Nat)(t:Int):List D:=[.tup [.tup [.int h,.int ((k:Int)-1)],.tup [.int h,.int k],.int (c.2*t)],.tup [.tup [.int h,.int k],.tup [.int h,.int ((k:Int)-1)],.int (-c.1*t)]]
noncomputable def nxt(lr:Int->Int)(h v:Int):Int->Int:=λx=>if x=h then v else lr x
noncomputable def fR(cks:List (Int×Int))(wy:List Wy)(c:Int->Nat)(lr:Int->Int)(r:Rw):List D:=bJ wy (.tup [.int r.h,.int (c r.h)]) r++if 0<c r.h then lB (k0 cks r.h.toNat) r.h (c r.h) (r.r-lr r.h) else []
noncomputable def bdF(cks:List (Int×Int))(wy:List Wy):(Int->Nat)->(Int->Int)->List Rw->List D
 |_,_,[]=>[]
 |c,lr,r::rs=>fR cks wy c lr r++bdF cks wy (bump c r.h) (nxt lr r.h r.r) rs
noncomputable def cF(c:Int->Nat):List Rw->Int->Nat
 |[]=>c
 |r::rs=>cF (bump c r.h) rs
noncomputable def lF(lr:Int->Int):List Rw->Int->Int
 |[]=>lr
 |r::rs=>lF (nxt lr r.h r.r) rs
theorem qC:∀(rs:List Rw)(c:Int->Nat),cF c (rs++[r])=bump (cF c rs) r.h
 |[],c=>rfl
 |x::rs,c=>qC rs _
theorem qR:∀(rs:List Rw)(lr:Int->Int),lF lr (rs++[r])=nxt (lF lr rs) r.h r.r
 |[],_=>rfl
 |x::rs,_=>qR rs _
theorem pS:∀(rs:List Rw)(c:Int->Nat)(lr:Int->Int),bdF cks wy c lr (rs++[r])=bdF cks wy c lr rs++fR cks wy (cF c rs) (lF lr rs) r
 |[],c,lr=>by simp[bdF,cF,lF]
 |x::rs,c,lr=>by
  rw[List.cons_append];unfold bdF;rw[pS rs,List.append_assoc];rfl
noncomputable abbrev Dt:=List (List Int)×List D
noncomputable def dF(c:Int->Nat)(T:Dt):List (Int×Int)->Dt
 |[]=>T
 |p::r=>dF (bump c p.1) (aj T.1 [p.1,(c p.1:Int)],ak T.1 T.2 [p.1,(c p.1:Int)] (.int p.2)) r
noncomputable def hB(c:Int->Nat):List (Int×Int)->Int->Nat
 |[]=>c
 |p::r=>hB (bump c p.1) r
theorem qG{p:Int×Int}:∀(l:List (Int×Int)) (c:Int->Nat)(T:Dt),dF c T (l++[p])=(aj (dF c T l).1 [p.1,(hB c l p.1:Int)],ak (dF c T l).1 (dF c T l).2 [p.1,(hB c l p.1:Int)] (.int p.2))
 |[],c,T=>rfl
 |x::l,c,T=>qG l _ _
theorem u0:∀(l:List (Int×Int)) (c:Int->Nat)(T:Dt),T.1.length=T.2.length->(dF c T l).1.length=(dF c T l).2.length
 |[],c,T,h=>h
 |x::l,c,T,h=>u0 l _ _ (bo h)
noncomputable def ht(p:Rw×Int):Int×Int:=(p.1.h,p.2)
theorem Ce:∀(td:List (Rw×Int)) (c:Int->Nat),hB c (td.map ht)=cF c (td.map Prod.fst)
 |[],_=>rfl
 |p::td,c=>Ce td _
noncomputable abbrev D0:Dt:=([[-1,0]],[.int 0])
noncomputable def tm(l:List (Int×Int))(a i:Int):Option D:=getD (dF c00 D0 l).1 (dF c00 D0 l).2 [a,i]
theorem vD{l:List (Int×Int)}{p:Int×Int}{a i:Int}:tm (l++[p]) a i=if p.1=a/\(hB c00 l p.1:Int)=i then some (.int p.2) else tm l a i:=by
 unfold tm;rw[qG,aR (u0 l _ _ rfl)];by_cases h:p.1=a/\(hB c00 l p.1:Int)=i
 ·rw[G3 h,G3 (by rw[h.1,<-h.2,h.1])]
 ·rw[GV h,GV (λe=>h ?_)]
  simp only[List.cons.injEq,and_true]at e;exact e
def Old(c:Int->Nat)(a i:Int):Prop:=a<0\/i<c a
theorem Old.bump{c:Int->Nat}{h a i:Int}(o:Old c a i):Old (bump c h) a i:=by
 rcases o with o|o
 ·exact .inl o
 ·unfold G.bump;right;dsimp only;split<;>omega
def Ends(T:Int->Int->Option D)(c:Int->Nat)(ok:Int->Int->Int->Prop)(b:D):Prop:=∃a i a' i' m t t':Int,b=.tup [.tup [.int a,.int i],.tup [.int a',.int i'],.int m]/\T a i=some (.int t)/\T a' i'=some (.int t')/\Old c a i/\Old c a' i'/\ok t t' m
abbrev kept(t t' m:Int):Prop:=t' - t<=m
def xF(wy:List Wy)(T:Int->Int->Option D)(c:Int->Nat)(mo:Int):Rw->Prop
 |.take h _ a b=>∃ms,T a b=some (.int ms)/\Old c a b/\ms+(wOf wy a h).l<=mo/\∀m,(wOf wy a h).m=some m->mo<=ms+m
 |r=>r.sg mo
theorem yB{T:Int->Int->Option D}{c:Int->Nat}{mo:Int}(h:r.s≠"take")(s:r.sg mo):xF wy T c mo r:=by
 cases r with
 |take=>exact absurd rfl h
 |_=>exact s
structure TC (cks:List (Int×Int)) (wy:List Wy) (td:List (Rw×Int)) (at_:List A3)(sn:List Ent):Prop where
 z:tm (td.map ht) (-1) 0=some (.int 0)
 n:∀k:Nat,k<cks.length->(a0 at_ k).1=cF c00 (td.map Prod.fst) k
 l:∀k:Nat,k<cks.length->0<cF c00 (td.map Prod.fst) k->(a0 at_ k).2.1=lF l00 (td.map Prod.fst) k/\tm (td.map ht) k (cF c00 (td.map Prod.fst) k-1)=some (.int (a0 at_ k).2.2)
 s:∀e∈sn,∃ms,tm (td.map ht) e.h e.k=some (.int ms)/\Old (cF c00 (td.map Prod.fst)) e.h e.k/\e.lo=ms+(wOf wy e.h e.to).l/\e.hi=(wOf wy e.h e.to).m.map (ms+·)
 b:∀b∈bdF cks wy c00 l00 (td.map Prod.fst),Ends (tm (td.map ht)) (cF c00 (td.map Prod.fst)) kept b
variable {td:List (Rw×Int)}{at_:List A3}{sn:List Ent}
theorem TC.step{k:Nat}{t mo:Int}{sn':List Ent}(C:TC cks wy td at_ sn)(hl:at_.length=cks.length)(hk:k<cks.length)(eh:r.h=k)(er:r.r=(a0 at_ k).2.1+t)
  (ow:xF wy (tm (td.map ht)) (cF c00 (td.map Prod.fst)) mo r) (ck:(k0 cks k).1*t<=mo-(a0 at_ k).2.2/\mo-(a0 at_ k).2.2<=(k0 cks k).2*t)
  (hs:∀e∈sn',e∈sn\/(e.h=k/\e.k=(a0 at_ k).1/\e.lo=mo+(wOf wy e.h e.to).l/\e.hi=(wOf wy e.h e.to).m.map (mo+·))) :
  TC cks wy (td++[(r,mo)]) (at_.set k ((a0 at_ k).1+1,(a0 at_ k).2.1+t,mo)) sn':=by
 have hkl:k<at_.length:=by omega
 have ec:=Ce td c00;have e0:(td++[(r,mo)]).map ht=td.map ht++[(r.h,mo)]:=by simp[ht]
 have e1:(td++[(r,mo)]).map Prod.fst=td.map Prod.fst++[r]:=by simp
 have tmN:∀a i,tm ((td++[(r,mo)]).map ht) a i=if (k:Int)=a/\(cF c00 (td.map Prod.fst) k:Int)=i then some (.int mo) else tm (td.map ht) a i:=λa i=>by
  rw[e0,vD,ec];simp only[eh]
 have old:∀{a i},Old (cF c00 (td.map Prod.fst)) a i->tm ((td++[(r,mo)]).map ht) a i=tm (td.map ht) a i:=λ{a i} o=>by
  rw[tmN,GV];rintro⟨rfl,rfl⟩;rcases o with o|o<;>omega
 have cN:cF c00 ((td++[(r,mo)]).map Prod.fst)=bump (cF c00 (td.map Prod.fst)) k:=by rw[e1,qC,eh]
 have self:tm ((td++[(r,mo)]).map ht) k (cF c00 (td.map Prod.fst) k)=some (.int mo):=by rw[tmN,G3 ⟨rfl,rfl⟩]
 have selfO:Old (bump (cF c00 (td.map Prod.fst)) k) k (cF c00 (td.map Prod.fst) k):=.inr (by simp only[bump,if_true];omega)
 have z':tm ((td++[(r,mo)]).map ht) (-1) 0=some (.int 0):=by rw[old (.inl (by decide))];exact C.z
 have up:∀{ok:Int->Int->Int->Prop} {b},Ends (tm (td.map ht)) (cF c00 (td.map Prod.fst)) ok b->Ends (tm ((td++[(r,mo)]).map ht)) (bump (cF c00 (td.map Prod.fst)) k) ok b:=λ{ok b} ⟨a,i,a',i',m,x,x',h1,h2,h3,h4,h5,h6⟩=>⟨a,i,a',i',m,x,x',h1,by rw[old h4];exact h2,by rw[old h5];exact h3,h4.bump,h5.bump,h6⟩
 refine⟨z',λj hj=>?_,λj hj hp=>?_,λe he=>?_,λb hb=>?_⟩
 ·rw[cN,a0,cz hkl];unfold bump;by_cases e:j=k
  ·subst e;have:=C.n j hj;simp only[if_true];omega
  ·rw[GV e,GV (by omega)];exact C.n j hj
 ·rw[cN,e1,qR,eh,er];rw[cN]at hp;unfold bump at hp ⊢;unfold nxt;by_cases e:j=k
  ·subst e;rw[a0,cz hkl,G3 rfl];simp only[if_true,true_and];rw[show ((cF c00 (td.map Prod.fst) (j:Int)+1:Nat):Int)-1=cF c00 (td.map Prod.fst) (j:Int) by omega]
   exact self
  ·have ej:¬ (j:Int)=k:=by omega
   rw[GV ej]at hp;rw[a0,cz hkl,GV e,GV ej];simp only[GV ej];obtain⟨q1,q2⟩:=C.l j hj hp;exact⟨q1,by rw[old (.inr (by omega))];exact q2⟩
 ·rw[cN];rcases hs e he with h|⟨h1,h2,h3,h4⟩
  ·obtain⟨ms,q1,q2,q3,q4⟩:=C.s e h;exact⟨ms,by rw[old q2];exact q1,q2.bump,q3,q4⟩
  ·refine⟨mo,?_,?_,h3,h4⟩
   ·rw[h1,h2,C.n k hk];exact self
   ·rw[h1,h2,C.n k hk];exact selfO
 ·rw[cN];rw[e1,pS]at hb;rcases Ho.mp hb with h|h
  ·exact up (C.b b h)
  ·unfold fR at h;rw[eh]at h;rcases Ho.mp h with h|h
   ·cases r with
    |look=>cases h
    |send=>cases h
    |sight a v e l=>
     have ow:e<=mo/\mo<=l:=ow;simp only[bJ,G9,HS,or_false]at h;rcases h with rfl|rfl
     ·exact⟨-1,0,_,_,_,0,mo,rfl,z',self,.inl (by decide),selfO,by show mo-0<=l;omega⟩
     ·exact⟨_,_,-1,0,_,mo,0,rfl,self,z',selfO,.inl (by decide),by show 0-mo<=-e;omega⟩
    |take a v x y=>
     obtain⟨ms,q1,q2,q3,q4⟩:=ow;have q1':=(old q2).trans q1;simp only[bJ,G9]at h;rcases h with rfl|h
     ·exact⟨_,_,_,_,_,mo,ms,rfl,self,q1',selfO,q2.bump,by show ms-mo<=-(wOf wy x a).l;omega⟩
     ·cases em:(wOf wy x a).m with
      |none=>rw[em]at h;cases h
      |some m=>
       rw[em]at h;have:=q4 m em;rw[Hq.mp h];exact⟨_,_,_,_,_,ms,mo,rfl,q1',self,q2.bump,selfO,by show mo-ms<=m;omega⟩
   ·split at h
    ·rename_i hp;obtain⟨q1,q2⟩:=C.l k hk hp;have oc:Old (cF c00 (td.map Prod.fst)) k ((cF c00 (td.map Prod.fst) k:Int)-1):=.inr (by omega)
     have q2':=(old oc).trans q2;have et:r.r-lF l00 (td.map Prod.fst) k=t:=by rw[er,q1];omega
     rw[et,Ih]at h;simp only[lB,G9,HS,or_false]at h;rcases h with rfl|rfl
     ·exact⟨_,_,_,_,_,_,mo,rfl,q2',self,oc.bump,selfO,ck.2⟩
     ·exact⟨_,_,_,_,_,mo,_,rfl,self,q2',selfO,oc.bump,by show _-mo<=-(k0 cks k).1*t;rw[Int.neg_mul];omega⟩
    ·cases h
end
section
variable {cls kls fad:Nat->PySem.Addr}{M0:MH}{n:Nat}{wy:List Wy}{cks:List (Int×Int)}{a b d:PySem.Addr}{td:List (Rw×Int)}{at_:List A3}{sn:List Ent}{Bd:Int}
noncomputable def tdD(p:Rw×Int):D:=.tup [p.1.d,.int p.2]
noncomputable def H3(M0:MH)(a b d:PySem.Addr)(at_:List A3)(sn:List Ent)(td:List (Rw×Int)):MH:=put (put (put M0 a (.lst (at_.map a3D))) b (.lst (sn.map Ent.d))) d (.lst (td.map tdD))
structure D3 (a b d:PySem.Addr):Prop where
 ab:a≠b
 ad:a≠d
 bd:b≠d
theorem D3.ga(h:D3 a b d):H3 M0 a b d at_ sn td a=some (.lst (at_.map a3D)):=by unfold H3;rw[ah h.ad,ah h.ab,ag]
theorem D3.gb(h:D3 a b d):H3 M0 a b d at_ sn td b=some (.lst (sn.map Ent.d)):=by unfold H3;rw[ah h.bd,ag]
theorem D3.gd(h:D3 a b d):H3 M0 a b d at_ sn td d=some (.lst (td.map tdD)):=ag
theorem D3.sa(h:D3 a b d){x:List A3}:put (H3 M0 a b d at_ sn td) a (.lst (x.map a3D))=H3 M0 a b d x sn td:=lq h.ab h.ad
theorem D3.sb(h:D3 a b d){x:List Ent}:put (H3 M0 a b d at_ sn td) b (.lst (x.map Ent.d))=H3 M0 a b d at_ x td:=c9 h.bd
theorem D3.sd(h:D3 a b d){x:List (Rw×Int)}:put (H3 M0 a b d at_ sn td) d (.lst (x.map tdD))=H3 M0 a b d at_ sn x:=bv
theorem Fm.h3(h:Fm M0):Fm (H3 M0 a b d at_ sn td):=((h.put _ _).put _ _).put _ _
structure TB (H:Nat)(wy:List Wy)(Bd:Int) (td:List (Rw×Int)) (at_:List A3)(sn:List Ent):Prop where
 ta:TA H wy (td.map Prod.fst) at_ sn
 mo:∀x∈at_,(-Bd<=x.2.2/\x.2.2<=Bd)/\(-Bd<=x.2.1/\x.2.1<=Bd)
 sb:∀e∈sn,(-Bd<=e.lo/\e.lo<=Bd)/\inB Bd e.hi
noncomputable def tl:ISs->ISs
 |.cons _ r=>r
 |.nil=>.nil
noncomputable def je:ISs:=tl (tl (tl (tl (tl (tl aC)))))
noncomputable def gV:ISs:=tl (tl (tl (tl je)))
theorem jF{M:MH}{Q:VK3}{k:Nat}(ha:M a=some (.lst (at_.map a3D)))(h:k<at_.length):ao (.ref a) (.int (k:Nat)) M Q=Q (.tup [.int (a0 at_ k).1,.int (a0 at_ k).2.1,.int (a0 at_ k).2.2]) M:=by
 have e:(at_.map a3D)[k]?=some (a3D (a0 at_ k)):=by
  rw[Hi,Hd h,a0,List.getD_eq_getElem?_getD,Hd h];rfl
 rw[ma ha];exact kY (cL e)
theorem jE{k:Nat}(h:k<at_.length):a0 at_ k∈at_:=by
 rw[a0,List.getD_eq_getElem?_getD,Hd h];exact HU h
theorem m7{xs:List Int}{De:Ends3}{ES:St3->XN}{y0 y1 y2 y6 y9 y14 y15 y16 y17:Option D}{lt:D}{hd:Nat}{t f l:Int}(hl:xs.length=4)(hw:wy.length<=36)(A:D3 a b d)(hM:Fm M0)(hh:hd<at_.length)(hf:f<=l)
  (k:∀(mo:Int)(r:Rw),f<=mo->mo<=l->r.h=hd->r.r=(a0 at_ hd).2.1+t->r.s≠"take"->r.may wy->r.sg mo->
   aX ⟨(B cls kls fad),aa T (B cls kls fad) (n+1)⟩ gV De ES [y0,y1,y2,some (.rol (cks.map cD)),some (.dit (wy.map pr) (wy.map wv)),some (.ref a),y6,some (.ref b),some (.ref d),y9,some (.rol (xs.map D.int)),some (.int hd),some lt,some (.tup [.int t,.int f,.int l]),y14,some (.int mo),some (.tup [.int hd,.int (a0 at_ hd).1]),some r.d] (H3 M0 a b d (at_.set hd ((a0 at_ hd).1+1,(a0 at_ hd).2.1+t,mo)) sn td)) :
  aX ⟨(B cls kls fad),aa T (B cls kls fad) (n+1)⟩ je De ES [y0,y1,y2,some (.rol (cks.map cD)),some (.dit (wy.map pr) (wy.map wv)),some (.ref a),y6,some (.ref b),some (.ref d),y9,some (.rol (xs.map D.int)),some (.int hd),some lt,some (.tup [.int t,.int f,.int l]),y14,y15,y16,y17] (H3 M0 a b d at_ sn td):=by
 have i2:∀{M:MH}{Q:VK3},ao (.rol (xs.map D.int)) (.int 2) M Q=Q (.int (xs.getD 2 0)) M:=λ{M Q}=>aB (k:=2) (by omega)
 have i3:∀{M:MH}{Q:VK3},ao (.rol (xs.map D.int)) (.int 3) M Q=Q (.int (xs.getD 3 0)) M:=λ{M Q}=>aB (k:=3) (by omega)
 generalize xs.getD 2 0=x2 at i2;generalize xs.getD 3 0=x3 at i3;have p0:0<l-f+1:=by omega
 have m0:=HJ (x2 / 4) (Int.ne_of_gt p0);have m1:=HF (x2 / 4) p0;obtain⟨mo,hmo,mx⟩:=nE f l (f+x2 / 4 % (l-f+1)) (x3 / 16 % 3) (by omega) (by omega)
 obtain⟨r,r1,r2,r3,r4,r5,rx⟩:=Cg (cls:=cls) (kls:=kls) (fad:=fad) (wy:=wy) (h:=hd) (v:=(a0 at_ hd).2.1+t) (m:=mo) hl hw;have ia:=λ{Q:VK3}=>jF (Q:=Q) (A.ga (M0:=M0) (sn:=sn) (td:=td)) hh
 have hs:hd<(at_.set hd ((a0 at_ hd).1+1,(a0 at_ hd).2.1+t,mo)).length:=by simp;exact hh
 have es:a0 (at_.set hd ((a0 at_ hd).1+1,(a0 at_ hd).2.1+t,mo)) hd=((a0 at_ hd).1+1,(a0 at_ hd).2.1+t,mo):=by rw[a0,cz hh,G3 rfl]
 have ib:=λ{Q:VK3}=>jF (Q:=Q) (A.ga (M0:=M0) (sn:=sn) (td:=td)) hs
 rw[es]at ib;have st:∀{R:MH->Prop},aS (.ref a) (.int (hd:Nat)) (.tup [.int ((a0 at_ hd).1+1),.int ((a0 at_ hd).2.1+t),.int mo]) (H3 M0 a b d at_ sn td) R=R (H3 M0 a b d (at_.set hd ((a0 at_ hd).1+1,(a0 at_ hd).2.1+t,mo)) sn td):=λ{R}=>by
  rw[ky (A.ga (M0:=M0) (sn:=sn) (td:=td)) (j:=hd) (by simp[ixN];omega),<-A.sa (at_:=at_) (x:=at_.set hd ((a0 at_ hd).1+1,(a0 at_ hd).2.1+t,mo)),List.map_set]
  rfl
 have k':=k mo r (by omega) (by omega) r1 r2 r3 r4 r5
 have rx':=λ{Q:VK3}{E:XN}=>rx (n:=n) (Q:=Q) (E:=E) (Fm.h3 (a:=a) (b:=b) (d:=d) (at_:=at_.set hd ((a0 at_ hd).1+1,(a0 at_ hd).2.1+t,mo)) (sn:=sn) (td:=td) hM)
 rw[show je=.cons _ (.cons _ (.cons _ (.cons _ gV))) from rfl];simp[-List.getD_eq_getElem?_getD,↓i2,↓i3,p0,cx,↓mx,↓ia,↓st,↓ib,↓rx',ar];exact k'
theorem TB.up{k:Nat}{t mo:Int}{H:Nat}{r:Rw}{sn':List Ent}(tb:TB H wy Bd td at_ sn)(hk:k<H)(b0:0<=Bd)(t0:0<=t)(t3:t<=3*Bd)(h1 : -Bd<=mo)(h2:mo<=4*Bd)(ta:TA H wy (td.map Prod.fst++[r]) (at_.set k ((a0 at_ k).1+1,(a0 at_ k).2.1+t,mo)) sn')
  (hs:∀e∈sn',e∈sn\/((-Bd<=e.lo/\e.lo<=5*Bd)/\∀y,e.hi=some y->-Bd<=y/\y<=5*Bd)):TB H wy (5*Bd) (td++[(r,mo)]) (at_.set k ((a0 at_ k).1+1,(a0 at_ k).2.1+t,mo)) sn':=by
 refine⟨by rw[HR];exact ta,λx hx=>?_,λe he=>?_⟩
 ·rcases List.mem_or_eq_of_mem_set hx with h|h
  ·have:=tb.mo x h;omega
  ·have:=(tb.mo _ (jE (at_:=at_) (k:=k) (by rw[tb.ta.la];exact hk))).2
   rw[h];simp only;omega
 ·rcases hs e he with h|h
  ·obtain⟨c1,c2⟩:=tb.sb e h;exact⟨by omega,λy hy=>by have:=c2 y hy;omega⟩
  ·exact⟨by omega,λy hy=>by have:=h.2 y hy;omega⟩
theorem sV{De:Ends3}{σ:St3}{r:Rw}{mo:Int}(A:D3 a b d)(hz:td.length<400):cB d De σ (.tup [r.d,.int mo]) (H3 M0 a b d at_ sn td)=De.nx σ (H3 M0 a b d at_ sn (td++[(r,mo)])):=by
 have hs:td.length<PySem.sizeLine:=GU (show td.length<1000 by omega) (by decide)
 rw[<-A.sd (td:=td) (x:=td++[(r,mo)])];simp[cB,A.gd,hs,tdD]
theorem ik{W:WC}{e:IE}{De:Ends3}{E:XN}{σ:St3}{M:MH}{ds:List D}{p:PySem.Addr}(h:M p=some (.lst ds)):pp W e De E σ (.ref p) M=wpE W e σ M (cB p De σ) E:=by
 simp[pp,h];exact Iff.rfl
theorem Fc{M:MH}{Q:VK3}{r:Rw}:ao r.d (.int 0) M Q=Q (.str r.s) M:=by cases r<;>simp[Rw.d,Rw.s]
theorem Ah{De:Ends3}{σ:St3}{e:Ent}(A:D3 a b d)(hz:sn.length<400):cB b De σ e.d (H3 M0 a b d at_ sn td)=De.nx σ (H3 M0 a b d at_ (sn++[e]) td):=by
 have hs:sn.length<PySem.sizeLine:=GU (show sn.length<1000 by omega) (by decide)
 rw[<-A.sb (sn:=sn) (x:=sn++[e])];simp[cB,A.gb,hs]
theorem sX{De:Ends3}{ES:St3->XN}{y0 y1 y2 y6 y9 y10 y13 y14:Option D}{hd:Nat}{t mo:Int}{r:Rw}(G:GW cks wy)(A:D3 a b d)(tb:TB cks.length wy Bd td at_ sn)(hh:hd<cks.length)(b0:10 ^ 43<=Bd)(z1:td.length<400)(z2:sn.length<400)(ht:0<=t)(t3:t<=3*Bd)(b1:Bd<=10 ^ 60)(m1 : -Bd<=mo)(m2:mo<=4*Bd)(r1:r.h=hd)(r2:r.r=(a0 at_ hd).2.1+t)(r3:r.s≠"take")(r4:r.may wy)(r5:r.sg mo)(tc:TC cks wy td at_ sn)(ck:(k0 cks hd).1*t<=mo-(a0 at_ hd).2.2/\mo-(a0 at_ hd).2.2<=(k0 cks hd).2*t)
  (k:∀td' at' sn',td'.length=td.length+1->sn'.length<=sn.length+1->TB cks.length wy (5*Bd) td' at' sn'->TC cks wy td' at' sn'->∀y11 y12 y13 y14 y15 y16 y17,De.nx [y0,y1,y2,some (.rol (cks.map cD)),some (.dit (wy.map pr) (wy.map wv)),some (.ref a),y6,some (.ref b),some (.ref d),y9,y10,y11,y12,y13,y14,y15,y16,y17] (H3 M0 a b d at' sn' td')) :
  aX ⟨(B cls kls fad),aa T (B cls kls fad) (n+1)⟩ gV De ES [y0,y1,y2,some (.rol (cks.map cD)),some (.dit (wy.map pr) (wy.map wv)),some (.ref a),y6,some (.ref b),some (.ref d),y9,y10,some (.int hd),some .non,y13,y14,some (.int mo),some (.tup [.int hd,.int (a0 at_ hd).1]),some r.d] (H3 M0 a b d (at_.set hd ((a0 at_ hd).1+1,(a0 at_ hd).2.1+t,mo)) sn td):=by
 have mr:=(tb.mo _ (jE (at_:=at_) (k:=hd) (by rw[tb.ta.la];exact hh))).2
 have hfin:r.fine cks.length wy:=⟨by rw[r1];simp[okH,hh],r4,by rw[r2];omega⟩
 have s0:=λ{M:MH}{Q:VK3}=>Fc (M:=M) (Q:=Q) (r:=r)
 have ap:=λ{W:WC}{e:IE}{De:Ends3}{E:XN}{σ:St3}{at_:List A3}{sn:List Ent}=>ik (W:=W) (e:=e) (De:=De) (E:=E) (σ:=σ) (A.gd (M0:=M0) (at_:=at_) (sn:=sn) (td:=td))
 have tp:=λ{De:Ends3}{σ:St3}{at_:List A3}{sn:List Ent}=>sV (M0:=M0) (De:=De) (σ:=σ) (r:=r) (mo:=mo) (at_:=at_) (sn:=sn) A z1
 simp only[gV,je,tl,aC];by_cases e:r.s = "send"
 ·cases r with
  |send h v to=>
   obtain rfl:h=(hd:Int):=r1;obtain rfl:v=(a0 at_ hd).2.1+t:=r2;have hm:[(hd:Int),to]∈wy.map pr:=r4;obtain⟨w,hw,ew⟩:=Hn.mp hm;simp only[pr,List.cons.injEq,and_true]at ew;have g:=G.gd w hw;have ix:=λ{M:MH}{Q:VK3}=>pJ (M:=M) (Q:=Q) G.nd hw
   rw[ew.1,ew.2]at ix;have gj:=g.j;rw[ew.2]at gj;simp only[okH,GS,G1]at gj;have gl:=g.l;simp only[lJ,Bool.or_eq_false_iff,decide_eq_false_iff_not]at gl;obtain⟨l1,l2⟩:=G.sm w hw;have ta:=tb.ta.send (v:=(a0 at_ hd).2.1+t) (m:=mo) (e:=⟨hd,(a0 at_ hd).1,to,mo+w.l,w.m.map (mo+·)⟩) hh hfin gj.1 gj.2 rfl rfl;have:=k (td++[(.send hd ((a0 at_ hd).2.1+t) to,mo)]) _ _ (by simp) (by simp) (tb.up hh (by omega) ht t3 m1 m2 ta λe he=>by
    rcases Ho.mp he with z|z
    ·exact .inl z
    ·refine .inr ?_;rw[Hq.mp z];refine⟨by simp only;omega,λy hy=>?_⟩
     simp only at hy;cases em:w.m with
     |none=>rw[em]at hy;cases hy
     |some q=>
      rw[em]at hy gl;have q1:=l2 q em;have q2:¬ q<w.l:=of_decide_eq_false gl.2;simp only[Option.map,Option.some.injEq]at hy;omega) (tc.step (r:=.send hd ((a0 at_ hd).2.1+t) to) tb.ta.la hh rfl rfl trivial ck λe he=>by
    rcases Ho.mp he with z|z
    ·exact .inl z
    ·refine .inr ?_;rw[Hq.mp z];have ww:=tI G.nd hw;rw[ew.1,ew.2]at ww;exact⟨rfl,rfl,by simp only[ww],by simp only[ww]⟩)
   have sp:=λ{De:Ends3}{σ:St3}{at_:List A3}{e:Ent}=>Ah (M0:=M0) (De:=De) (σ:=σ) (at_:=at_) (td:=td) (e:=e) A z2
   have ap7:=λ{W:WC}{e:IE}{De:Ends3}{E:XN}{σ:St3}{at_:List A3}=>ik (W:=W) (e:=e) (De:=De) (E:=E) (σ:=σ) (A.gb (M0:=M0) (at_:=at_) (sn:=sn) (td:=td))
   have cs:=λ{M:MH}{Q:VK3}{E:XN}=>yh (cls:=cls) (kls:=kls) (fad:=fad) (n:=n) (M:=M) (Q:=Q) (E:=E) (h:=hd) (k:=(a0 at_ hd).1) (v:=(a0 at_ hd).2.1+t) (t:=to) (mo:=mo) (l:=w.l) (a:=hd) (m:=w.m)
   simp only[Rw.d]at tp;simp only[wv,way]at ix;simp[-List.getD_eq_getElem?_getD,Rw.d,D.isN,↓ix,↓cs,↓ap7,↓sp,↓ap,↓tp,ar];exact this _ _ _ _ _ _ _
  |_=>exact absurd e (by simp +decide [Rw.s])
 ·have ta:=tb.ta.plain (v:=(a0 at_ hd).2.1+t) (m:=mo) hh hfin;have:=k (td++[(r,mo)]) _ _ (by simp) (by omega) (tb.up hh (by omega) ht t3 m1 m2 ta λe he=>.inl he) (tc.step tb.ta.la hh r1 r2 (yB r3 r5) ck λe he=>.inl he)
  simp[-List.getD_eq_getElem?_getD,D.isN,↓s0,e,↓ap,↓tp,ar];exact this _ _ _ _ _ _ _
theorem yK{x e:Ent}(h:¬ (x.h=e.h/\x.k=e.k)):eqD x.d e.d=false:=by
 simp only[Ent.d,eqD,dZ];by_cases h1:x.h=e.h
 ·have:¬ x.k=e.k:=λz=>h ⟨h1,z⟩
  simp[this]
 ·simp[h1]
theorem jT{e:Ent}{k:Nat}:plN (k+2) e.d=true:=by
 cases z:e.hi<;>simp[Ent.d,plN,oi,z]
theorem qA{e:Ent}{sn2:List Ent}:∀(sn1:List Ent)(k0:Nat),(∀x∈sn1,¬ (x.h=e.h/\x.k=e.k))->pF e.d ((sn1++e::sn2).map Ent.d) k0=some (k0+sn1.length)
 |[],k0,_=>by
  have:eqD e.d e.d=true:=jK 8 jT;simp[pF,this]
 |x::r,k0,h=>by
  simp only[List.cons_append,G6,pF];rw[yK (h x G5),GV Hf,qA r (k0+1) λy hy=>h y (GY _ hy),Hk]
  congr 1;omega
theorem z7{e:Ent}{sn1 sn2:List Ent}{Q:VK3}(A:D3 a b d)(h:∀x∈sn1,¬ (x.h=e.h/\x.k=e.k)):rBm .remove (.ref b) [e.d] (H3 M0 a b d at_ (sn1++e::sn2) td) Q=Q .non (H3 M0 a b d at_ (sn1++sn2) td):=by
 have e1:res (H3 M0 a b d at_ (sn1++e::sn2) td) e.d=e.d:=rfl;have e2:pls ((sn1++e::sn2).map Ent.d)=true:=Hh.mpr λx hx=>by
  obtain⟨y,_,rfl⟩:=Hn.mp hx;exact jT
 have e3:=qA (sn2:=sn2) sn1 0 h;have e4:((sn1++e::sn2).map Ent.d).eraseIdx sn1.length=(sn1++sn2).map Ent.d:=by
  rw[HR,G6,List.eraseIdx_append_of_length_le (by simp)];simp
 rw[Nat.zero_add]at e3;simp only[rBm,A.gb,e1,e2,e3,e4,A.sb];rw[show pl e.d=true from jT];simp
theorem en0{M:MH}{Q:VK3}{e:Ent}:ao e.d (.int 0) M Q=Q (.tup [.int e.h,.int e.k]) M:=by simp[Ent.d]
theorem en1{M:MH}{Q:VK3}{e:Ent}:ao e.d (.int 1) M Q=Q (.int e.to) M:=by simp[Ent.d]
theorem en2{M:MH}{Q:VK3}{e:Ent}:ao e.d (.int 2) M Q=Q (.int e.lo) M:=by simp[Ent.d]
theorem en3{M:MH}{Q:VK3}{e:Ent}:ao e.d (.int 3) M Q=Q (oi e.hi) M:=by simp[Ent.d]
theorem t9{De:Ends3}{ES:St3->XN}{y0 y1 y2 y3 y4 y6 y9 y10 y13 y14 y16 y17:Option D}{hd:Nat}{t mo:Int}{e:Ent}{sn1 sn2:List Ent}(A:D3 a b d)(tb:TB cks.length wy Bd td at_ (sn1++e::sn2))(hh:hd<cks.length)(he:e.to=hd)(b0:0<=Bd)(z1:td.length<400)(ht:0<=t)(t3:t<=3*Bd)(b1:Bd<=10 ^ 60)(m1 : -Bd<=mo)(m2:mo<=4*Bd)(tc:TC cks wy td at_ (sn1++e::sn2))(ck:(k0 cks hd).1*t<=mo-(a0 at_ hd).2.2/\mo-(a0 at_ hd).2.2<=(k0 cks hd).2*t)(f1:e.lo<=mo)(f2:∀y,e.hi=some y->mo<=y)
  (k:∀td' at' sn',td'.length=td.length+1->sn'.length<=(sn1++e::sn2).length+1->TB cks.length wy (5*Bd) td' at' sn'->TC cks wy td' at' sn'->∀y11 y12 y13 y14 y15 y16 y17,De.nx [y0,y1,y2,y3,y4,some (.ref a),y6,some (.ref b),some (.ref d),y9,y10,y11,y12,y13,y14,y15,y16,y17] (H3 M0 a b d at' sn' td')) :
  aX ⟨(B cls kls fad),aa T (B cls kls fad) (n+1)⟩ gV De ES [y0,y1,y2,y3,y4,some (.ref a),y6,some (.ref b),some (.ref d),y9,y10,some (.int hd),some e.d,y13,y14,some (.int mo),y16,y17] (H3 M0 a b d (at_.set hd ((a0 at_ hd).1+1,(a0 at_ hd).2.1+t,mo)) (sn1++e::sn2) td):=by
 have hl:hd<at_.length:=by rw[tb.ta.la];exact hh
 have mr:=(tb.mo _ (jE hl)).2;have un:=(tb.ta.un e (by simp)).1
 rw[he]at un;have hfin:(Rw.take hd ((a0 at_ hd).2.1+t) e.h e.k).fine cks.length wy:=⟨by simp[okH,Rw.h,hh],un,by simp only[Rw.r];omega⟩
 have nd:=tb.ta.nd;rw[HR,G6,List.nodup_append]at nd;have hn:∀x∈sn1,¬ (x.h=e.h/\x.k=e.k):=λx hx z=>nd.2.2 (x.h,x.k) (Hn.mpr ⟨x,hx,rfl⟩) (e.h,e.k) (by simp) (by rw[z.1,z.2])
 have ta:=tb.ta.take (v:=(a0 at_ hd).2.1+t) (m:=mo) hh hfin;have fin:=k (td++[(.take hd ((a0 at_ hd).2.1+t) e.h e.k,mo)]) _ _ (by simp) (by simp;omega) (tb.up hh b0 ht t3 m1 m2 ta λx hx=>.inl (by
  rcases Ho.mp hx with z|z
  ·exact HE _ z
  ·exact Hj _ (GY _ z))) (tc.step (r:=.take hd ((a0 at_ hd).2.1+t) e.h e.k) tb.ta.la hh rfl rfl (by
   obtain⟨ms,q1,q2,q3,q4⟩:=tc.s e (by simp)
   rw[he]at q3 q4;refine⟨ms,q1,q2,by omega,λm em=>?_⟩
   rw[em]at q4;exact f2 _ q4) ck λx hx=>.inl (by
  rcases Ho.mp hx with z|z
  ·exact HE _ z
  ·exact Hj _ (GY _ z)))
 have hs:hd<(at_.set hd ((a0 at_ hd).1+1,(a0 at_ hd).2.1+t,mo)).length:=by simp;exact hl
 have es:a0 (at_.set hd ((a0 at_ hd).1+1,(a0 at_ hd).2.1+t,mo)) hd=((a0 at_ hd).1+1,(a0 at_ hd).2.1+t,mo):=by rw[a0,cz hl,G3 rfl]
 have ib:=λ{sn:List Ent}{Q:VK3}=>jF (Q:=Q) (A.ga (M0:=M0) (sn:=sn) (td:=td)) hs
 simp only[es]at ib;have ap:=λ{W:WC}{e:IE}{De:Ends3}{E:XN}{σ:St3}{at_:List A3}{sn:List Ent}=>ik (W:=W) (e:=e) (De:=De) (E:=E) (σ:=σ) (A.gd (M0:=M0) (at_:=at_) (sn:=sn) (td:=td))
 have tp:=λ{De:Ends3}{σ:St3}{al:List A3}{sn:List Ent}=>sV (M0:=M0) (De:=De) (σ:=σ) (r:=.take hd ((a0 at_ hd).2.1+t) e.h e.k) (mo:=mo) (at_:=al) (sn:=sn) A z1
 simp only[Rw.d]at tp;have ty:=λ{at_:List A3}{sn:List Ent}=>iV (A.gb (M0:=M0) (at_:=at_) (sn:=sn) (td:=td))
 have rm:=λ{at_:List A3}{Q:VK3}=>z7 (M0:=M0) (at_:=at_) (td:=td) (sn2:=sn2) (Q:=Q) A hn
 have n0:e.d.isN=false:=rfl;have e0:=λ{M:MH}{Q:VK3}=>en0 (M:=M) (Q:=Q) (e:=e)
 simp only[gV,je,tl,aC];simp[-List.getD_eq_getElem?_getD,n0,tyB,ty,↓rm,↓ib,↓e0,↓ap,↓tp,ar];exact fin _ _ _ _ _ _ _
end
section
variable {cls kls fad:Nat->PySem.Addr}{M0:MH}{n:Nat}{wy:List Wy}{cks:List (Int×Int)}{a b d:PySem.Addr}{td:List (Rw×Int)}{at_:List A3}{sn:List Ent}{Bd:Int}
noncomputable def tZ:ISs:=tl (tl (tl aC))
theorem qK{M:MH}{Q:VK3}{k:Nat}(h:k<cks.length):ao (.rol (cks.map cD)) (.int (k:Nat)) M Q=Q (.tup [.int (k0 cks k).1,.int (k0 cks k).2]) M:=by
 have e:(cks.map cD)[k]?=some (cD (k0 cks k)):=by
  rw[Hi,Hd h,k0,List.getD_eq_getElem?_getD,Hd h];rfl
 exact kY (cL e)
theorem uT{k:Nat}(G:GW cks wy)(h:k<cks.length):1<=(k0 cks k).1/\(k0 cks k).1<=(k0 cks k).2/\(k0 cks k).2<=10 ^ 31:=by
 have hm:k0 cks k∈cks:=by rw[k0,List.getD_eq_getElem?_getD,Hd h];exact HU h
 obtain⟨h1,h2⟩:=G.ck _ hm;simp only[l9,Bool.or_eq_false_iff,decide_eq_false_iff_not]at h1;exact⟨by omega,by omega,h2⟩
theorem uA{xs:List Int}{k:Nat}{lo hi:Option Int}(hx:3<=xs.length)(G:GW cks wy)(tb:TB cks.length wy Bd td at_ sn)(h:k<cks.length)(b0:10 ^ 43<=Bd)(b1:Bd<=10 ^ 60)(hl:inB Bd lo)(hh:inB Bd hi) :
  ∃t f l:Int,0<=t/\t<=3*Bd/\(-Bd<=f/\f<=4*Bd)/\(-Bd<=l/\l<=4*Bd)/\(lo=none->hi=none->f<=l)/\LagR (k0 cks k).1 (k0 cks k).2 (a0 at_ k).2.2 t f l lo hi/\∀{n:Nat}{M:MH}{Q:VK3}{E:XN},aa T (B cls kls fad) (n+1) 38 [.tup [.int (k0 cks k).1,.int (k0 cks k).2],.tup [.int (a0 at_ k).1,.int (a0 at_ k).2.1,.int (a0 at_ k).2.2],.rol (xs.map D.int),oi lo,oi hi] M Q E=Q (.tup [.int t,.int f,.int l]) M:=by
 obtain⟨c1,c2,c3⟩:=uT G h;obtain⟨m1,m2⟩:=(tb.mo _ (jE (by rw[tb.ta.la];exact h))).1
 obtain⟨t,f,l,t1,t3,f1,l1,e,lr,cl⟩:=Bz (cls:=cls) (kls:=kls) (fad:=fad) (cnt:=(a0 at_ k).1) (rd:=(a0 at_ k).2.1) hx c1 c2 c3 b0 b1 m1 m2 hl hh;exact⟨t,f,l,t1,t3,f1,l1,e,lr,cl⟩
theorem CW{xs:List Int}{De:Ends3}{ES:St3->XN}{y0 y1 y2 y6 y9 y12 y13 y14 y15 y16 y17:Option D}{hd:Nat}(hl:xs.length=4)(G:GW cks wy)(A:D3 a b d)(hM:Fm M0)(tb:TB cks.length wy Bd td at_ sn)(tc:TC cks wy td at_ sn)(hh:hd<cks.length)(b0:10 ^ 43<=Bd)(b1:Bd<=10 ^ 60)(z1:td.length<400)(z2:sn.length<400)
  (k:∀td' at' sn',td'.length=td.length+1->sn'.length<=sn.length+1->TB cks.length wy (5*Bd) td' at' sn'->TC cks wy td' at' sn'->∀y10 y11 y12 y13 y14 y15 y16 y17,De.nx [y0,y1,y2,some (.rol (cks.map cD)),some (.dit (wy.map pr) (wy.map wv)),some (.ref a),y6,some (.ref b),some (.ref d),y9,y10,y11,y12,y13,y14,y15,y16,y17] (H3 M0 a b d at' sn' td')) :
  aX ⟨(B cls kls fad),aa T (B cls kls fad) (n+1)⟩ tZ De ES [y0,y1,y2,some (.rol (cks.map cD)),some (.dit (wy.map pr) (wy.map wv)),some (.ref a),y6,some (.ref b),some (.ref d),y9,some (.rol (xs.map D.int)),some (.int hd),y12,y13,y14,y15,y16,y17] (H3 M0 a b d at_ sn td):=by
 have la:=tb.ta.la;have i0:∀{M:MH}{Q:VK3},ao (.rol (xs.map D.int)) (.int 0) M Q=Q (.int (xs.getD 0 0)) M:=λ{M Q}=>aB (k:=0) (by omega)
 have i3:∀{M:MH}{Q:VK3},ao (.rol (xs.map D.int)) (.int 3) M Q=Q (.int (xs.getD 3 0)) M:=λ{M Q}=>aB (k:=3) (by omega)
 generalize xs.getD 0 0=x0 at i0;generalize xs.getD 3 0=x3 at i3;obtain⟨t,f,l,t1,t3,f1,l1,fl,lr,cl⟩:=uA (cls:=cls) (kls:=kls) (fad:=fad) (xs:=xs) (k:=hd) (lo:=none) (hi:=none) (by omega) G tb hh b0 b1 (λy e=>by cases e) (λy e=>by cases e)
 have fl:=fl rfl rfl;have cl':∀{M:MH}{Q:VK3}{E:XN},aa T (B cls kls fad) (n+1) 38 [.tup [.int (k0 cks hd).1,.int (k0 cks hd).2],.tup [.int (a0 at_ hd).1,.int (a0 at_ hd).2.1,.int (a0 at_ hd).2.2],.rol (xs.map D.int),.non,.non] M Q E=Q (.tup [.int t,.int f,.int l]) M:=cl;have ic:=λ{M:MH}{Q:VK3}=>qK (M:=M) (Q:=Q) hh
 have ia:=λ{Q:VK3}=>jF (Q:=Q) (k:=hd) (A.ga (M0:=M0) (at_:=at_) (sn:=sn) (td:=td)) (by omega)
 have plain:∀y14,aX ⟨(B cls kls fad),aa T (B cls kls fad) (n+1)⟩ je De ES [y0,y1,y2,some (.rol (cks.map cD)),some (.dit (wy.map pr) (wy.map wv)),some (.ref a),y6,some (.ref b),some (.ref d),y9,some (.rol (xs.map D.int)),some (.int hd),some .non,some (.tup [.int t,.int f,.int l]),y14,y15,y16,y17] (H3 M0 a b d at_ sn td):=λy14=>
  m7 hl G.w36 A hM (by omega) fl λmo r m1 m2 r1 r2 r3 r4 r5=>sX G A tb hh b0 z1 z2 t1 t3 b1 (by omega) (by omega) r1 r2 r3 r4 r5 tc ⟨by have:=lr.f0;omega,by have:=lr.l0;omega⟩ λtd' at' sn' h1 h2 h3 h4=>k td' at' sn' h1 h2 h3 h4 _
 have nn:∀{Q:VK3},aH .NotEq (.ref b) (.rol []) (H3 M0 a b d at_ sn td) Q=Q (.bl (!(sn.map Ent.d).isEmpty)) (H3 M0 a b d at_ sn td):=λ{Q}=>jb (by simp[ai,A.gb]) (Hh.mpr λx hx=>by
  obtain⟨y,_,rfl⟩:=Hn.mp hx;exact jT) (Hh.mpr λx hx=>by
  obtain⟨y,_,rfl⟩:=Hn.mp hx;exact jT)
 rw[show tZ=.cons _ (.cons _ (.cons _ je)) from rfl];by_cases c1:4<x3 / 2 % 8
 ·by_cases c2:sn=[]
  ·subst c2;simp[-List.getD_eq_getElem?_getD,↓ic,↓ia,↓cl',↓i3,cx,c1,↓nn];exact plain _
  ·have lp:0<sn.length:=List.length_pos_iff.mpr c2;have lp':(0:Int)<sn.length:=by omega
   obtain⟨j,hj⟩:=HN (HJ (x0 / 7) (Int.ne_of_gt lp'));have jl:j<sn.length:=by have:=HF (x0 / 7) lp';omega
   have lb:∀{Q:VK3},rBi .len [.ref b] (H3 M0 a b d at_ sn td) Q=Q (.int sn.length) (H3 M0 a b d at_ sn td):=λ{Q}=>by simp[rBi,aD,ai,A.gb]
   have xb:∀{Q:VK3},ao (.ref b) (.int (j:Nat)) (H3 M0 a b d at_ sn td) Q=Q (sn[j]).d (H3 M0 a b d at_ sn td):=λ{Q}=>by
    rw[ma A.gb];exact kY (cL (by simp[jl]))
   have hm:sn[j]∈sn:=HU jl;generalize sn[j]=e at xb hm;obtain⟨_,e0,eH⟩:=tb.ta.un e hm;obtain⟨⟨elo,ehi⟩,ein⟩:=tb.sb e hm;obtain⟨g,hg⟩:=HN e0;have gH:g<cks.length:=by omega
   obtain⟨t',f',l',t1',t3',f1',l1',_,lr',cn⟩:=uA (cls:=cls) (kls:=kls) (fad:=fad) (xs:=xs) (k:=g) (lo:=some e.lo) (hi:=e.hi) (by omega) G tb gH b0 b1 (λy z=>by cases z;omega) ein
   have cn':∀{M:MH}{Q:VK3}{E:XN},aa T (B cls kls fad) (n+1) 38 [.tup [.int (k0 cks g).1,.int (k0 cks g).2],.tup [.int (a0 at_ g).1,.int (a0 at_ g).2.1,.int (a0 at_ g).2.2],.rol (xs.map D.int),.int e.lo,oi e.hi] M Q E=Q (.tup [.int t',.int f',.int l']) M:=cn;have q1:∀{M:MH}{Q:VK3},ao e.d (.int 1) M Q=Q (.int (g:Nat)) M:=λ{M Q}=>by rw[en1,hg]
   have q2:=λ{M:MH}{Q:VK3}=>en2 (M:=M) (Q:=Q) (e:=e)
   have q3:=λ{M:MH}{Q:VK3}=>en3 (M:=M) (Q:=Q) (e:=e)
   have ic':=λ{M:MH}{Q:VK3}=>qK (M:=M) (Q:=Q) gH
   have ia':=λ{Q:VK3}=>jF (Q:=Q) (k:=g) (A.ga (M0:=M0) (at_:=at_) (sn:=sn) (td:=td)) (by omega)
   by_cases c3:l' < f'
   ·simp[-List.getD_eq_getElem?_getD,↓ic,↓ia,↓cl',↓i3,↓i0,cx,c1,↓nn,c2,↓lb,lp,lp',hj,↓xb,↓q1,↓q2,↓q3,↓ic',↓ia',↓cn',c3];exact plain _
   ·simp[-List.getD_eq_getElem?_getD,↓ic,↓ia,↓cl',↓i3,↓i0,cx,c1,↓nn,c2,↓lb,lp,lp',hj,↓xb,↓q1,↓q2,↓q3,↓ic',↓ia',↓cn',c3];obtain⟨sn1,sn2,rfl⟩:=List.append_of_mem hm;exact m7 hl G.w36 A hM (by omega) (by omega) λmo r m1 m2 r1 r2 r3 r4 r5=>t9 A tb gH hg (by omega) z1 t1' t3' b1 (by omega) (by omega) tc ⟨by have:=lr'.f0;omega,by have:=lr'.l0;omega⟩ (by have:=lr'.fl _ rfl;omega) (λy hy=>by have:=lr'.lh y hy;omega) λtd' at' sn' h1 h2 h3 h4=>k td' at' sn' h1 h2 h3 h4 _
 ·simp[-List.getD_eq_getElem?_getD,↓ic,↓ia,↓cl',↓i3,cx,c1];exact plain _
theorem oX{c:Int}{De:Ends3}{ES:St3->XN}{y0 y1 y2 y6 y10 y11 y12 y13 y14 y15 y16 y17:Option D}(G:GW cks wy)(A:D3 a b d)(hM:Fm M0)(tb:TB cks.length wy Bd td at_ sn)(tc:TC cks wy td at_ sn)(b0:10 ^ 43<=Bd)(b1:Bd<=10 ^ 60)(z1:td.length<400)(z2:sn.length<400)
  (k:∀td' at' sn',td'.length=td.length+1->sn'.length<=sn.length+1->TB cks.length wy (5*Bd) td' at' sn'->TC cks wy td' at' sn'->∀y10 y11 y12 y13 y14 y15 y16 y17,De.nx [y0,y1,y2,some (.rol (cks.map cD)),some (.dit (wy.map pr) (wy.map wv)),some (.ref a),y6,some (.ref b),some (.ref d),some (.int c),y10,y11,y12,y13,y14,y15,y16,y17] (H3 M0 a b d at' sn' td')) :
  aX ⟨(B cls kls fad),aa T (B cls kls fad) (n+1)⟩ aC De ES [y0,y1,y2,some (.rol (cks.map cD)),some (.dit (wy.map pr) (wy.map wv)),some (.ref a),y6,some (.ref b),some (.ref d),some (.int c),y10,y11,y12,y13,y14,y15,y16,y17] (H3 M0 a b d at_ sn td):=by
 have fm:Fm (H3 M0 a b d at_ sn td):=Fm.h3 hM;have st:∀{Q:VK3}{E:XN},aa T (B cls kls fad) (n+1) 34 [.int c,.int 4] (H3 M0 a b d at_ sn td) Q E=Q (.rol ((aO c 4).map D.int)) (H3 M0 a b d at_ sn td):=λ{Q E}=>dU (m:=4) fm (by omega)
 have hl:(aO c 4).length=4:=bN;generalize aO c 4=xs at st hl;have i0:∀{M:MH}{Q:VK3},ao (.rol (xs.map D.int)) (.int 0) M Q=Q (.int (xs.getD 0 0)) M:=λ{M Q}=>aB (k:=0) (by omega)
 have i3:∀{M:MH}{Q:VK3},ao (.rol (xs.map D.int)) (.int 3) M Q=Q (.int (xs.getD 3 0)) M:=λ{M Q}=>aB (k:=3) (by omega)
 generalize xs.getD 0 0=x0 at i0;generalize xs.getD 3 0=x3 at i3;have la:=tb.ta.la;have l1:=G.l1;have l6:=G.l6;have lp:0<cks.length:=by omega
 have lp':(0:Int)<cks.length:=by omega
 obtain⟨j,hj⟩:=HN (HJ x0 (Int.ne_of_gt lp'));have jl:j<cks.length:=by have:=HF x0 lp';omega
 have go:∀{hd:Nat},hd<cks.length->_:=λ{hd} hh=>CW (cls:=cls) (kls:=kls) (fad:=fad) (n:=n) (De:=De) (ES:=ES) (y0:=y0) (y1:=y1) (y2:=y2) (y6:=y6) (y9:=some (.int c)) (y12:=y12) (y13:=y13) (y14:=y14) (y15:=y15) (y16:=y16) (y17:=y17) hl G A hM tb tc hh b0 b1 z1 z2 k
 rw[show aC=.cons _ (.cons _ (.cons _ tZ)) from rfl];by_cases c1:x3 % 2=0
 ·obtain⟨g,m,hg,cb⟩:=yw (at_:=at_) fm A.ga (by omega) (by omega)
  have ga:=A.ga (M0:=M0) (at_:=at_) (sn:=sn) (td:=td);simp[↓st,↓i0,↓i3,lp,lp',hj,c1,ga,aA,↓cb];exact go (by omega)
 ·simp[↓st,↓i0,↓i3,lp,lp',hj,c1];exact go jl
theorem lc{De:Ends3}{ES:St3->XN}{y0 y1 y2 y6:Option D}(G:GW cks wy)(A:D3 a b d)(hM:Fm M0):∀(cs:List Int)(Bd:Int) (td:List (Rw×Int)) (at_:List A3)(sn:List Ent)(y9 y10 y11 y12 y13 y14 y15 y16 y17:Option D),10 ^ 43<=Bd->Bd*5 ^ cs.length<=10 ^ 60->td.length+cs.length<=300->sn.length+cs.length<=300->TB cks.length wy Bd td at_ sn->TC cks wy td at_ sn->
  (∀(td':List (Rw×Int)) at' sn',(∀r∈td'.map Prod.fst,r.fine cks.length wy)->TC cks wy td' at' sn'->td'.length=td.length+cs.length->∀y9 y10 y11 y12 y13 y14 y15 y16 y17,De.nx [y0,y1,y2,some (.rol (cks.map cD)),some (.dit (wy.map pr) (wy.map wv)),some (.ref a),y6,some (.ref b),some (.ref d),y9,y10,y11,y12,y13,y14,y15,y16,y17] (H3 M0 a b d at' sn' td'))->
  bz ⟨(B cls kls fad),aa T (B cls kls fad) (n+1)⟩ (.name 9) aC ES (λ_=>True) De (cs.map D.int) [y0,y1,y2,some (.rol (cks.map cD)),some (.dit (wy.map pr) (wy.map wv)),some (.ref a),y6,some (.ref b),some (.ref d),y9,y10,y11,y12,y13,y14,y15,y16,y17] (H3 M0 a b d at_ sn td)
 |[],Bd,td,at_,sn,y9,y10,y11,y12,y13,y14,y15,y16,y17,b0,b1,z1,z2,tb,tc,k=>by
  rw[List.map_nil,aT];exact⟨trivial,k td at_ sn tb.ta.f tc (by simp) _ _ _ _ _ _ _ _ _⟩
 |c::cs,Bd,td,at_,sn,y9,y10,y11,y12,y13,y14,y15,y16,y17,b0,b1,z1,z2,tb,tc,k=>by
  simp only[Hk]at z1 z2 k b1;have p1:(1:Int)<=5 ^ cs.length:=by have:(0:Int)<5 ^ cs.length:=Int.pow_pos (by decide);omega
  have e5:Bd*5 ^ (cs.length+1)=5*Bd*5 ^ cs.length:=by rw[Int.pow_succ,Int.mul_comm (5 ^ cs.length) 5,<-Int.mul_assoc,Int.mul_comm Bd 5]
  rw[e5]at b1;have b2:5*Bd<=5*Bd*5 ^ cs.length:=by
   have:=Int.mul_le_mul_of_nonneg_left (c:=5*Bd) p1 (by omega)
   rwa [Int.mul_one]at this
  have b3:=Int.le_trans b2 b1;rw[G6,aF];refine⟨trivial,?_⟩;rw[qk];refine oX G A hM tb tc b0 (by omega) (by omega) (by omega) λtd' at' sn' h1 h2 h3 h4 y10 y11 y12 y13 y14 y15 y16 y17=>?_
  exact lc G A hM cs (5*Bd) td' at' sn' _ _ _ _ _ _ _ _ _ (by omega) b1 (by omega) (by omega) h3 h4 λtd2 a2 s2 f2 g2 l2=>k td2 a2 s2 f2 g2 (by omega)
theorem qO{W:WC}{De:Ends3}{ES:St3->XN}{y0 y2 y3 y4:Option D}{ys:List (Option D)}{st:Int}:∀(xs:List Int)(at_:List A3)(y6:Option D),at_.length+xs.length<400->
  (∀y6,De.nx (y0::some (.int st)::y2::y3::y4::some (.ref a)::y6::ys) (put M0 a (.lst ((at_++xs.map λx=>(0,x % 1000000000000-100000000000,st % 1000000000000-100000000000)).map a3D))))->
  bz W (.name 6) cT ES (λ_=>True) De (xs.map D.int) (y0::some (.int st)::y2::y3::y4::some (.ref a)::y6::ys) (put M0 a (.lst (at_.map a3D)))
 |[],at_,y6,hl,hR=>by
  rw[List.map_nil,aT];have:=hR y6;rw[List.map_nil,HM]at this;exact⟨trivial,this⟩
 |x::xs,at_,y6,hl,hR=>by
  simp only[Hk]at hl;have hs:at_.length<PySem.sizeLine:=GU (show at_.length<1000 by omega) (by decide)
  have ih:=qO (W:=W) (De:=De) (ES:=ES) (y0:=y0) (y2:=y2) (y3:=y3) (y4:=y4) (ys:=ys) xs (at_++[(0,x % 1000000000000-100000000000,st % 1000000000000-100000000000)]) (some (.int x)) (by simp;omega) (λy6=>by
   have:=hR y6;simpa using this)
  rw[G6,aF];simp only[cT]at ih ⊢;simp[iL,hs,ar];simpa [a3D] using ih
theorem Bh{M:MH}(ha:M a=none)(hb:M b=none)(hd:M d=none):aK M (del (H3 M a b d at_ sn td) d)=M:=by
 funext k;unfold aK del H3 put;by_cases k1:k=d
 ·subst k1;simp[hd]
 ·by_cases k2:k=b
  ·subst k2;simp[hb]
  ·by_cases k3:k=a
   ·subst k3;simp[ha]
   ·simp[k1,k2,k3];cases M k<;>rfl
theorem zB{M:MH}{Q:VK3}{E:XN}{st:Int}{cs:List Int}(G:GW cks wy)(hM:Fm M)(hl:cs.length<=16)(k:∀td:List (Rw×Int),(∀r∈td.map Prod.fst,r.fine cks.length wy)->(∃at_ sn,TC cks wy td at_ sn)->td.length<=16->Q (.rol (td.map tdD)) M) :
  aa T (B cls kls fad) (n+2) 41 [.tup [.rol (cks.map cD),.dit (wy.map pr) (wy.map wv)],.int st,.rol (cs.map D.int)] M Q E:=by
 have l1:=G.l1;have l6:=G.l6;have sm:∀{M:MH}{Q:VK3}{E:XN},Fm M->aa T (B cls kls fad) (n+1) 34 [.int st,.int (cks.length:Nat)] M Q E=Q (.rol ((aO st cks.length).map D.int)) M:=λ{M Q E} fm=>dU fm (by omega)
 have sl:(aO st cks.length).length=cks.length:=bN;generalize aO st cks.length=xs at sm sl;simp only[oS,fD];simp[iH];intro a ha;simp[sm (hM.put _ _)];refine qO (M0:=M) xs [] none (by simp;omega) λy6=>?_
 simp[-List.map_map];intro b hb d hd;obtain⟨hba,hb⟩:=cI hb;obtain⟨hdb,hd⟩:=cI hd;obtain⟨hda,hd⟩:=cI hd;have A:D3 a b d:=⟨He hba,He hda,He hdb⟩;generalize hat:(xs.map λx=>((0:Int),x % 1000000000000-100000000000,st % 1000000000000-100000000000))=at_
 have tb:TB cks.length wy (10 ^ 43) [] at_ []:=by
  have hat0:∀x∈at_,(-(10 ^ 43)<=x.2.2/\x.2.2<=10 ^ 43)/\(-(10 ^ 43)<=x.2.1/\x.2.1<=10 ^ 43):=λx hx=>by
   rw[<-hat]at hx;obtain⟨y,_,rfl⟩:=Hn.mp hx;exact⟨by simp only;omega,by simp only;omega⟩
  have la:at_.length=cks.length:=by rw[<-hat];simp[sl]
  refine⟨⟨λr hr=>(by cases hr),la,λe he=>(by cases he),λe he=>(by cases he),by simp⟩,hat0,λe he=>by cases he⟩
 have tc:TC cks wy [] at_ []:=⟨rfl,λk hk=>(by
   have hz:∀x∈at_,x.1=0:=λx hx=>by rw[<-hat]at hx;obtain⟨y,_,rfl⟩:=Hn.mp hx;rfl
   exact hz _ (jE (by rw[tb.ta.la];exact hk))),λk hk h=>(by cases h),λe he=>(by cases he),λb hb=>(by cases hb)⟩
 refine lc (M0:=M) G A hM cs (10 ^ 43) [] at_ [] none none none none none none none none none (by omega) ?_ (by simp;omega) (by simp;omega) tb tc λtd' at' sn' f g l y9 y10 y11 y12 y13 y14 y15 y16 y17=>?_
 ·have:(5:Int) ^ cs.length<=5 ^ 16:=by
   have:=Int.ofNat_le.mpr (Nat.pow_le_pow_right (show 5 > 0 by decide) hl)
   rw[Int.natCast_pow,Int.natCast_pow]at this;exact this
  have:=Int.mul_le_mul_of_nonneg_left (c:=(10:Int) ^ 43) this (by decide)
  exact Int.le_trans this (by decide)
 ·have:=k td' f ⟨_,_,g⟩ (by simpa [l] using hl)
  simp[aY,A.gd,Bh ha hb hd];exact this
end
section
variable {cls kls fad:Nat->PySem.Addr}{M:MH}{Q:VK3}{E:XN}{n:Nat}{p d:PySem.Addr}{cks:List (Int×Int)}{wy:List Wy}{r:Rw}
theorem cj{i:Int}(h:okH cks.length i=true):aa T (B cls kls fad) (n+3) 26 [wO kls cks wy,.int i] M Q E=Q .non M:=by rw[iX,G3 h]
theorem uu{i:Int}(h:okH cks.length i=true):aa T (B cls kls fad) (n+4) 31 [wO kls cks wy,.int i] M Q E=Q (.tup [.int (k0 cks i.toNat).1,.int (k0 cks i.toNat).2]) M:=by
 have om:∀{M:MH}{R:Nat->Prop},cZ (B cls kls fad) 119080781550527859766002 (wO kls cks wy) M R=R 26:=λ{M R}=>o_m (by decide) (by decide) (by decide)
 have rh:=λ{M:MH}{Q:VK3}{E:XN}=>cj (cls:=cls) (kls:=kls) (fad:=fad) (n:=n) (M:=M) (Q:=Q) (E:=E) (cks:=cks) (wy:=wy) h
 simp only[okH,GS,G1]at h;obtain⟨k,rfl⟩:=HN h.1;have ix:=λ{M:MH}{Q:VK3}=>qK (M:=M) (Q:=Q) (cks:=cks) (k:=k) (by omega)
 simp only[kr,cU];simp[-List.getD_eq_getElem?_getD,↓om,↓rh,↓o_c,↓ix]
theorem xY{w:Wy}(hg:w.good cks.length)(hn:(wy.map pr).Nodup)(hk:w∈wy):aa T (B cls kls fad) (n+5) 32 [wO kls cks wy,.int w.i,.int w.j] M Q E=Q (way w.l w.m) M:=by
 have om:∀{M:MH}{R:Nat->Prop},cZ (B cls kls fad) 119080781550527859766002 (wO kls cks wy) M R=R 26:=λ{M R}=>o_m (by decide) (by decide) (by decide)
 have op:∀{M:MH}{R:Nat->Prop},cZ (B cls kls fad) 135562951883986971505394 (wO kls cks wy) M R=R 27:=λ{M R}=>o_m (by decide) (by decide) (by decide)
 have oh:∀{M:MH}{R:Nat->Prop},cZ (B cls kls fad) 535528667410664 (wO kls cks wy) M R=R 30:=λ{M R}=>o_m (by decide) (by decide) (by decide)
 have r1:=λ{M:MH}{Q:VK3}{E:XN}=>cj (cls:=cls) (kls:=kls) (fad:=fad) (n:=n) (M:=M) (Q:=Q) (E:=E) (cks:=cks) (wy:=wy) hg.i
 have r2:=λ{M:MH}{Q:VK3}{E:XN}=>cj (cls:=cls) (kls:=kls) (fad:=fad) (n:=n) (M:=M) (Q:=Q) (E:=E) (cks:=cks) (wy:=wy) hg.j
 have rp:∀{M:MH}{Q:VK3}{E:XN},aa T (B cls kls fad) (n+4) 27 [wO kls cks wy,.int w.i,.int w.j] M Q E=Q .non M:=λ{M Q E}=>by
  simp only[ce,aN];simp[↓om,↓r1,↓r2,hg.ne]
 have hw:=λ{M:MH}{Q:VK3}{E:XN}=>pE (cls:=cls) (kls:=kls) (fad:=fad) (n:=n+3) (M:=M) (Q:=Q) (E:=E) (cks:=cks) (wy:=wy) (i:=w.i) (j:=w.j)
 have hm:[w.i,w.j]∈wy.map pr:=Hn.mpr ⟨w,hk,rfl⟩;have ix:=λ{M:MH}{Q:VK3}=>pJ (M:=M) (Q:=Q) hn hk
 simp only[nr,eg];simp[↓op,↓rp,↓oh,↓hw,hm,↓o_w,↓ix,wv,ar]
noncomputable abbrev mO:Nat:=1067955986548848835567
theorem Bp{hd:D}(G:GW cks wy)(hr:r.may wy)(hM:Fm M):cZ (B cls kls fad) mO (r.o kls) M (λf=>aa T (B cls kls fad) (n+6) f [r.o kls,wO kls cks wy,hd] M Q E)=Q (.rol (bJ wy hd r)) M:=by
 cases r with
 |look a b=>simp[Rw.o,mO,gD,f9,bq,bJ]
 |sight a b c d=>simp[Rw.o,mO,gD,fw,bc,ar,bJ]
 |send a b c=>simp[Rw.o,mO,gD,gI,bG,bJ]
 |take a b c d=>
  obtain⟨w1,w2,w3⟩:=tJ (show [c,a]∈wy.map pr from hr);have om:∀{R:Nat->Prop},cZ (B cls kls fad) 1994999 (wO kls cks wy) M R=R 32:=λ{R}=>o_m (by decide) (by decide) (by decide)
  have ws:=λ{Q:VK3}{E:XN}=>xY (cls:=cls) (kls:=kls) (fad:=fad) (n:=n) (M:=M) (Q:=Q) (E:=E) (G.gd _ w1) G.nd w1
  rw[w2,w3]at ws;simp only[bJ];cases e:(wOf wy c a).m with
  |none=>
   simp[Rw.o,mO,gD,cR,aU,↓om,↓ws,way,oi,e,ar];exact iff_of_eq (ay hM λp hp=>by simp[jL hp,hp])
  |some m=>
   simp[Rw.o,mO,gD,cR,aU,↓om,↓ws,way,oi,e,ar];exact iff_of_eq (ay hM λp hp=>by simp[jL hp,hp,B3])
theorem Ay{hd:D}(hn:(wy.map pr).Nodup)(hr:r.may wy):aa T (B cls kls fad) (n+1) 42 [.tup [.rol (cks.map cD),.dit (wy.map pr) (wy.map wv)],r.d,hd] M Q E=Q (.rol (bJ wy hd r)) M:=by
 simp only[rl,hZ];cases r with
 |look a b=>simp +decide [Rw.d,bJ]
 |sight a b c d=>simp +decide [Rw.d,ar,bJ]
 |send a b c=>simp +decide [Rw.d,bJ]
 |take a b c d=>
  obtain⟨w1,w2,w3⟩:=tJ (show [c,a]∈wy.map pr from hr);have ix:=λ{M:MH}{Q:VK3}=>pJ (M:=M) (Q:=Q) hn w1
  rw[w2,w3]at ix;simp only[bJ];simp only[wv,way]at ix;cases e:(wOf wy c a).m with
  |none=>rw[e]at ix;simp +decide [Rw.d,↓ix,iH,oi,D.isN,ar]
  |some m=>rw[e]at ix;simp +decide [Rw.d,↓ix,iH,oi,D.isN,ar]
theorem lw{hd:D}:(bJ wy hd r).length<=2:=by
 cases r with
 |take h v a b=>simp only[bJ];split<;>simp
 |_=>simp[bJ]
theorem lX{c:Int->Nat}{lr:Int->Int}:(fR cks wy c lr r).length<=4:=by
 unfold fR;rw[Hu];have:=lw (wy:=wy) (r:=r) (hd:=.tup [.int r.h,.int (c r.h)]);split<;>simp[lB]<;>omega
theorem BR{ks:List (List Int)}{ds:List D}{i j:Int}(h:M d=some (.dt ks ds)):aH .In (.tup [.int i,.int j]) (.ref d) M Q=Q (.bl (getD ks ds [i,j]).isSome) M:=by
 simp[aH,oP,aD,ai,h,gQ,gA,gO,iK,dP]
theorem tY{ks:List (List Int)}{ds:List D}{i j:Int}{v:D}(h:M d=some (.dt ks ds))(hv:getD ks ds [i,j]=some v):ao (.ref d) (.tup [.int i,.int j]) M Q=Q v M:=by
 simp[ao,aD,ai,h,gQ,gA,gO,iK,dP,hv]
theorem uX{ds es:List D}{p d:PySem.Addr}{o:DO}(hpd:p≠d)(hz:ds.length+es.length<1000):rBm .extend (.ref p) [.rol es] (put (put M p (.lst ds)) d o) Q=Q .non (put (put M p (.lst (ds++es))) d o):=by
 have h:(put (put M p (.lst ds)) d o) p=some (.lst ds):=by rw[ah hpd,ag]
 have hs:ds.length+es.length<=PySem.sizeLine:=Ha (show ds.length+es.length<=1000 by omega) (by decide)
 simp[rBm,h,ai,hs,c9 hpd]
structure BI (ks:List (List Int)) (ds:List D)(c:Int->Nat)(lr:Int->Int):Prop where
 hl:ks.length=ds.length
 i1:∀h,getD ks ds [h,-1]=none
 i2:∀h,0<c h->getD ks ds [h,(c h:Int)-1]=some (.int (lr h))
 lb:∀h,-(10 ^ 62)<=lr h/\lr h<=10 ^ 62
theorem BI.step{ks:List (List Int)}{ds:List D}{c:Int->Nat}{lr:Int->Int}{h v:Int}(I:BI ks ds c lr)(hv : -(10 ^ 62)<=v/\v<=10 ^ 62):BI (aj ks [h,(c h:Int)]) (ak ks ds [h,(c h:Int)] (.int v)) (bump c h) (nxt lr h v):=by
 refine⟨bo I.hl,λx=>?_,λx hx=>?_,λx=>?_⟩
 ·rw[aR I.hl,GV (λz=>by simp only[List.cons.injEq,and_true]at z;omega)];exact I.i1 x
 ·rw[aR I.hl];unfold bump nxt at *
  by_cases e:x=h
  ·subst e;simp
  ·rw[GV e]at hx ⊢;rw[GV (λz=>by simp only[List.cons.injEq,and_true]at z;exact e z.1.symm),GV e]
   exact I.i2 x hx
 ·unfold nxt;split
  ·exact hv
  ·exact I.lb x
theorem lu(G:GW cks wy)(hM:Fm M)(hpd:p≠d){S:MH->Prop}(hS:∀acc ks ds,S (put (put M p (.lst acc)) d (.dt ks ds))){De:Ends3}{ES:St3->XN}{x1:Option D}:∀(rows:List Rw)(c:Int->Nat)(lr:Int->Int)(acc:List D) (ks:List (List Int)) (ds:List D)(x4 x5 x6 x7:Option D),BI ks ds c lr->ks.length+rows.length<400->acc.length+4*rows.length<900->(∀r∈rows,r.fine cks.length wy)->
  (∀ks' ds' x4 x5 x6 x7,De.nx [some (wO kls cks wy),x1,some (.ref p),some (.ref d),x4,x5,x6,x7] (put (put M p (.lst (acc++bdF cks wy c lr rows))) d (.dt ks' ds')))->
  bz ⟨(B cls kls fad),aa T (B cls kls fad) (n+6)⟩ (.tup [4,5]) cO ES S De (cJ ((nmF (rows.map Rw.h) c).map nD) (rows.map Rw.d)) [some (wO kls cks wy),x1,some (.ref p),some (.ref d),x4,x5,x6,x7] (put (put M p (.lst acc)) d (.dt ks ds))
 |[],c,lr,acc,ks,ds,x4,x5,x6,x7,I,z1,z2,hf,hR=>by
  have:=hR ks ds x4 x5 x6 x7;rw[bdF,HM]at this;show bz _ _ _ _ _ _ [] _ _;rw[aT];exact⟨hS _ _ _,this⟩
 |r::rows,c,lr,acc,ks,ds,x4,x5,x6,x7,I,z1,z2,hf,hR=>by
  simp only[Hk]at z1 z2;have f:=hf r G5;have fm:∀{acc ks ds},Fm (put (put M p (.lst acc)) d (.dt ks ds)):=λ{_ _ _}=>(hM.put _ _).put _ _
  have gp:∀{acc ks ds},(put (put M p (.lst acc)) d (.dt ks ds)) p=some (.lst acc):=λ{_ _ _}=>by rw[ah hpd,ag]
  have l1:=lw (wy:=wy) (r:=r) (hd:=.tup [.int r.h,.int (c r.h)]);have k1:=bn (ks:=ks) (k:=[r.h,(c r.h:Int)]);have ol:=lX (cks:=cks) (wy:=wy) (c:=c) (lr:=lr) (r:=r);have nx:=lu G hM hpd hS (De:=De) (ES:=ES) (x1:=x1) rows (bump c r.h) (nxt lr r.h r.r) (acc++fR cks wy c lr r) (aj ks [r.h,(c r.h:Int)]) (ak ks ds [r.h,(c r.h:Int)] (.int r.r)) (some (.tup [.int r.h,.int (c r.h)])) (some r.d) (some (r.o kls)) (some (.tup [.int r.h,.int ((c r.h:Int)-1)])) (I.step f.b) (by omega) (by rw[Hu];omega) (λx hx=>hf x (GY _ hx)) (λks' ds' x4 x5 x6 x7=>by
   rw[List.append_assoc];exact hR ks' ds' x4 x5 x6 x7)
  have ch:=λ{acc:List D}{Q:VK3}{E:XN}=>nK (cls:=cls) (kls:=kls) (fad:=fad) (n:=n+2) (Q:=Q) (E:=E) r (fm (acc:=acc) (ks:=ks) (ds:=ds))
  have co:=λ{acc:List D}{Q:VK3}{E:XN}=>Bp (cls:=cls) (kls:=kls) (fad:=fad) (n:=n) (Q:=Q) (E:=E) (hd:=.tup [.int r.h,.int (c r.h)]) G f.w (fm (acc:=acc) (ks:=ks) (ds:=ds))
  have ty:=λ{acc:List D}=>iV (gp (acc:=acc) (ks:=ks) (ds:=ds))
  have oh:=λ{M:MH}{Q:VK3}=>yG (cls:=cls) (fad:=fad) (kls:=kls) (M:=M) (Q:=Q) (r:=r)
  have or:=λ{M:MH}{Q:VK3}=>yO (cls:=cls) (fad:=fad) (kls:=kls) (M:=M) (Q:=Q) (r:=r)
  have e1:=λ{Q:VK3}=>uX (M:=M) (Q:=Q) (ds:=acc) (es:=bJ wy (.tup [.int r.h,.int (c r.h)]) r) (o:=.dt ks ds) hpd (by omega)
  have ia:=λ{acc:List D}{Q:VK3}=>BR (Q:=Q) (i:=r.h) (j:=(c r.h:Int)-1) (ag (M:=put M p (.lst acc)) (a:=d) (o:=.dt ks ds))
  have st:∀{acc:List D}{R:MH->Prop},aS (.ref d) (.tup [.int r.h,.int (c r.h)]) (.int r.r) (put (put M p (.lst acc)) d (.dt ks ds)) R=R (put (put M p (.lst acc)) d (.dt (aj ks [r.h,(c r.h:Int)]) (ak ks ds [r.h,(c r.h:Int)] (.int r.r)))):=λ{acc R}=>by
   rw[jr ag (by omega),bv]
  show bz _ _ _ _ _ _ (.tup [nD (r.h,c r.h),r.d]::cJ ((nmF (rows.map Rw.h) (bump c r.h)).map nD) (rows.map Rw.d)) _ _;rw[aF];refine⟨hS _ _ _,?_⟩;generalize bz ⟨(B cls kls fad),aa T (B cls kls fad) (n+6)⟩ (.tup [4,5]) cO ES S De (cJ ((nmF (rows.map Rw.h) (bump c r.h)).map nD) (rows.map Rw.d))=K at nx ⊢;simp only[mO]at co;simp only[cO,nD];by_cases c0:0<c r.h
  ·have g2:=I.i2 r.h c0;have ix:=λ{acc:List D}{Q:VK3}=>tY (Q:=Q) (ag (M:=put M p (.lst acc)) (a:=d) (o:=.dt ks ds)) g2
   have oc:∀{M:MH}{R:Nat->Prop},cZ (B cls kls fad) 28932044387 (wO kls cks wy) M R=R 31:=λ{M R}=>o_m (by decide) (by decide) (by decide)
   have cc:=λ{M:MH}{Q:VK3}{E:XN}=>uu (cls:=cls) (kls:=kls) (fad:=fad) (n:=n+2) (M:=M) (Q:=Q) (E:=E) (cks:=cks) (wy:=wy) f.h
   have lb:=I.lb r.h;have fb:=f.b;have hk:=f.h;simp only[okH,GS,G1]at hk;obtain⟨q1,q2,q3⟩:=uT (k:=r.h.toNat) G (by omega)
   have m1:bK (k0 cks r.h.toNat).2 (r.r-lr r.h)=True:=c6 (by omega) (by omega) (by omega) (by omega)
   have m2:bK (-(k0 cks r.h.toNat).1) (r.r-lr r.h)=True:=c6 (by omega) (by omega) (by omega) (by omega)
   have cb:∀{M:MH}{Q:VK3}{E:XN},aa T (B cls kls fad) (n+6) 19 [.tup [.int (k0 cks r.h.toNat).1,.int (k0 cks r.h.toNat).2],.tup [.int r.h,.int ((c r.h:Int)-1)],.tup [.int r.h,.int (c r.h)],.int (r.r-lr r.h)] M Q E=Q (.rol (lB (k0 cks r.h.toNat) r.h (c r.h) (r.r-lr r.h))) M:=λ{M Q E}=>by
    simp only[jU,cG];simp[-List.getD_eq_getElem?_getD,m1,m2,lB,ar]
   have e2:=λ{Q:VK3}=>uX (M:=M) (Q:=Q) (ds:=acc++bJ wy (.tup [.int r.h,.int (c r.h)]) r) (es:=lB (k0 cks r.h.toNat) r.h (c r.h) (r.r-lr r.h)) (o:=.dt ks ds) hpd (by rw[Hu];simp[lB];omega)
   rw[show fR cks wy c lr r=bJ wy (.tup [.int r.h,.int (c r.h)]) r++lB (k0 cks r.h.toNat) r.h (c r.h) (r.r-lr r.h) by unfold fR;rw[G3 c0]]at nx
   simp[-List.getD_eq_getElem?_getD,↓ch,↓co,ty,↓e1,↓ia,g2,↓oh,↓or,↓oc,↓cc,↓ix,↓cb,↓e2,↓st,ar];simpa [-List.getD_eq_getElem?_getD] using nx
  ·have z0:c r.h=0:=by omega
   have g1:getD ks ds [r.h,(c r.h:Int)-1]=none:=by rw[z0];exact I.i1 r.h
   rw[show fR cks wy c lr r=bJ wy (.tup [.int r.h,.int (c r.h)]) r by unfold fR;rw[GV c0,HM]]at nx
   simp[-List.getD_eq_getElem?_getD,↓ch,↓co,ty,↓e1,↓ia,g1,↓oh,↓or,↓st,ar];simpa [-List.getD_eq_getElem?_getD] using nx
end
section
variable {cls kls fad:Nat->PySem.Addr}{M:MH}{Q:VK3}{E:XN}{n:Nat}{p d:PySem.Addr}{cks:List (Int×Int)}{wy:List Wy}{r:Rw}
theorem xK{o u:DO}(hp:M p=none)(hd:M d=none):aK M (del (put (put M p o) d u) p)=M:=by
 funext k;unfold aK del put;by_cases k1:k=p
 ·subst k1;simp[hp]
 ·by_cases k2:k=d
  ·subst k2;simp[hd]
  ·simp[k1,k2];cases M k<;>rfl
theorem uf{x:D}{rows:List Rw}(G:GW cks wy)(hM:Fm M)(hx:Lg M x (rows.map Rw.d))(hl:rows.length<=16)(hf:∀r∈rows,r.fine cks.length wy)
  (k:Q (.rol (bdF cks wy c00 l00 rows)) M):aa T (B cls kls fad) (n+7) 20 [wO kls cks wy,x] M Q E:=by
 simp only[tF,jm];simp;intro p hp d hd;obtain⟨hdp,hd⟩:=cI hd;have fm:Fm (put (put M p (.lst [])) d (.dt [] [])):=(hM.put _ _).put _ _;have I0:BI [] [] c00 l00:=⟨rfl,λh=>rfl,λh z=>(by cases z),λh=>⟨by show -(10 ^ 62)<=(0:Int);decide,by show (0:Int)<=10 ^ 62;decide⟩⟩
 rcases hx with rfl|⟨b,rfl,hb⟩
 ·have cn:=λ{Q:VK3}{E:XN}=>lA (cls:=cls) (kls:=kls) (fad:=fad) (n:=n+4) (Q:=Q) (E:=E) rows (.inl rfl) (by omega) fm
  simp[↓cn];exact lu G hM (He hdp) (λ_ _ _=>trivial) rows c00 l00 [] [] [] _ _ _ _ I0 (by simp;omega) (by simp;omega) hf λks' ds' x4 x5 x6 x7=>by
   simp[aY,ah (He hdp),ag,xK hp hd];exact k
 ·have bp:b≠p:=λz=>by rw[z,hp]at hb;cases hb
  have bd:b≠d:=λz=>by rw[z,hd]at hb;cases hb
  have hw:∀acc ks ds,(put (put M p (.lst acc)) d (.dt ks ds)) b=some (.lst (rows.map Rw.d)):=λacc ks ds=>by rw[ah bd,ah bp,hb]
  have cn:=λ{Q:VK3}{E:XN}=>lA (cls:=cls) (kls:=kls) (fad:=fad) (n:=n+4) (Q:=Q) (E:=E) rows (.inr ⟨b,rfl,hw [] [] []⟩) (by omega) fm
  simp[↓cn,hw];exact lu G hM (He hdp) hw rows c00 l00 [] [] [] _ _ _ _ I0 (by simp;omega) (by simp;omega) hf λks' ds' x4 x5 x6 x7=>by
   simp[aY,ah (He hdp),ag,xK hp hd];exact k
structure DV (M0 M:MH)(f s:PySem.Addr)(acc:List D)(ks:List Key)(ds:List D)(c:Int->Nat)(lr:Int->Int):Prop where
 fm:Fm M
 old:∀a o,M0 a=some o->M a=some o
 f0:M0 f=none
 s0:M0 s=none
 fs:f≠s
 vf:M f=some (.lst acc)
 vs:M s=some (.dk ks ds)
 hl:ks.length=ds.length
 no:∀h,c h=0->getD ks ds (.inl h)=none
 yes:∀h,0<c h->∃(q:PySem.Addr)(l:List Int),getD ks ds (.inl h)=some (.ref q)/\M q=some (.lst (l.map D.int))/\l.length=c h/\l.getLast?=some (lr h)/\q≠f/\q≠s/\M0 q=none
 one:∀h h' q,getD ks ds (.inl h)=some (.ref q)->getD ks ds (.inl h')=some (.ref q)->h=h'
theorem qo{De:Ends3}{σ:St3}{ds:List D}{y:D}(h:M p=some (.lst ds))(hz:ds.length<1000):cB p De σ y M=De.nx σ (put M p (.lst (ds++[y]))):=by
 have hs:ds.length<PySem.sizeLine:=GU hz (by decide)
 simp[cB,h,hs]
theorem t5{ds es:List D}(h:M p=some (.lst ds))(hz:ds.length+es.length<1000):rBm .extend (.ref p) [.rol es] M Q=Q .non (put M p (.lst (ds++es))):=by
 have hs:ds.length+es.length<=PySem.sizeLine:=Ha (show ds.length+es.length<=1000 by omega) (by decide)
 simp[rBm,h,ai,hs]
theorem xw{l:List Int}{v:Int}(h:l.getLast?=some v):atI (l.map D.int) (-1)=some (.int v):=by
 have hne:l≠[]:=λz=>by rw[z]at h;cases h
 have hl:0<l.length:=List.length_pos_iff.mpr hne;have e:l[l.length-1]?=some v:=by rw[<-List.getLast?_eq_getElem?];exact h
 have e2:ixN (l.map D.int).length (-1)=some (l.length-1):=by
  rw[G8];unfold ixN;rw[GV (by decide),G3 (by omega)];congr 1;omega
 unfold atI;rw[e2];simp[e]
theorem uS{M0:MH}{f s:PySem.Addr}{acc:List D}{ks:List Key}{ds:List D}{c:Int->Nat}{lr:Int->Int}{De:Ends3}{ES:St3->XN}{x1 y5 y6 y7 y8 y9:Option D}(G:GW cks wy)(V:DV M0 M f s acc ks ds c lr)(hf:r.fine cks.length wy)(lb:∀h,-(10 ^ 62)<=lr h/\lr h<=10 ^ 62)(z1:ks.length<300)(z2:acc.length<900)(z3:c r.h<900)
  (k:∀M' ks' ds' y5 y6 y7 y8 y9,ks'.length<=ks.length+1->DV M0 M' f s (acc++fR cks wy c lr r) ks' ds' (bump c r.h) (nxt lr r.h r.r)->De.nx [some (.tup [.rol (cks.map cD),.dit (wy.map pr) (wy.map wv)]),x1,some (.ref f),some (.ref s),some r.d,y5,y6,y7,y8,y9] M') :
  aX ⟨(B cls kls fad),aa T (B cls kls fad) (n+1)⟩ cf De ES [some (.tup [.rol (cks.map cD),.dit (wy.map pr) (wy.map wv)]),x1,some (.ref f),some (.ref s),some r.d,y5,y6,y7,y8,y9] M:=by
 have i1:=λ{M:MH}{Q:VK3}=>u7 (M:=M) (Q:=Q) (r:=r)
 have i2:=λ{M:MH}{Q:VK3}=>BJ (M:=M) (Q:=Q) (r:=r)
 have ol:=lw (wy:=wy) (r:=r) (hd:=.tup [.int r.h,.int (c r.h)]);have lo:=λ{M:MH}{Q:VK3}{E:XN}=>Ay (cls:=cls) (kls:=kls) (fad:=fad) (n:=n) (M:=M) (Q:=Q) (E:=E) (cks:=cks) (hd:=.tup [.int r.h,.int (c r.h)]) G.nd hf.w
 have hz:ks.length<PySem.sizeLine:=GU (show ks.length<1000 by omega) (by decide)
 have kl:=bn (ks:=ks) (k:=(.inl r.h:Key));simp only[cf];simp[↓i1];refine⟨by simp[tyB,gA,V.vs],λp hp=>?_⟩
 have ps:p≠s:=λz=>by rw[z,V.vs]at hp;cases hp
 have pf:p≠f:=λz=>by rw[z,V.vf]at hp;cases hp
 have gs:(put M p (.lst [])) s=some (.dk ks ds):=by rw[ah (He ps)];exact V.vs
 have gf:(put M p (.lst [])) f=some (.lst acc):=by rw[ah (He pf)];exact V.vf
 have fm1:Fm (put M p (.lst [])):=V.fm.put _ _;have m0p:M0 p=none:=by
  cases e:M0 p with
  |none=>rfl
  |some o=>rw[V.old p o e]at hp;cases hp
 by_cases c0:0<c r.h
 ·obtain⟨q,l,g1,g2,g3,g4,g5,g6,g7⟩:=V.yes r.h c0;have qp:q≠p:=λz=>by rw[z,hp]at g2;cases g2
  have sd:∀{Q:VK3},rBm .setdef (.ref s) [.int r.h,.ref p] (put M p (.lst [])) Q=Q (.ref q) (put M p (.lst [])):=λ{Q}=>by simp[rBm,gs,lO,g1,hz]
  have F:∀a,(put (put M p (.lst [])) f (.lst a)) q=some (.lst (l.map D.int)):=λa=>by rw[ah g5,ah qp];exact g2
  have F0:(put M p (.lst [])) q=some (.lst (l.map D.int)):=by rw[ah qp];exact g2
  have le:∀{M:MH}{Q:VK3},M q=some (.lst (l.map D.int))->rBi .len [.ref q] M Q=Q (.int (c r.h:Nat)) M:=λ{M Q} h=>by rw[<-g3];simp[rBi,aD,ai,h]
  have le0:=λ{Q:VK3}=>le (Q:=Q) F0
  have le1:=λ{a:List D}{Q:VK3}=>le (Q:=Q) (F a)
  have ex:=λ{Q:VK3}=>t5 (Q:=Q) (es:=bJ wy (.tup [.int r.h,.int (c r.h)]) r) gf (by omega)
  have ne:l.isEmpty=false:=by
   cases l with
   |nil=>rw[<-g3]at c0;simp at c0
   |cons _ _=>rfl
  have nn:∀{a:List D}{Q:VK3},aH .NotEq (.ref q) (.rol []) (put (put M p (.lst [])) f (.lst a)) Q=Q (.bl true) (put (put M p (.lst [])) f (.lst a)):=λ{a Q}=>by
   rw[jb (ds:=l.map D.int) (by simp[ai,F]) (by simp[plN]) (by simp[plN])];simp[ne]
  have hk:=hf.h;simp only[okH,GS,G1]at hk;have ic:∀{M:MH}{Q:VK3},ao (.rol (cks.map cD)) (.int r.h) M Q=Q (.tup [.int (k0 cks r.h.toNat).1,.int (k0 cks r.h.toNat).2]) M:=λ{M Q}=>by
   have:=qK (M:=M) (Q:=Q) (cks:=cks) (k:=r.h.toNat) (by omega)
   rwa [Int.toNat_of_nonneg hk.1]at this
  have la:∀{a:List D}{Q:VK3},ao (.ref q) (.int (-1)) (put (put M p (.lst [])) f (.lst a)) Q=Q (.int (lr r.h)) (put (put M p (.lst [])) f (.lst a)):=λ{a Q}=>by
   rw[ma (F a)];exact kY (xw g4)
  have fb:=hf.b;have lbh:=lb r.h;obtain⟨q1,q2,q3⟩:=uT (k:=r.h.toNat) G (by omega)
  have m1:bK (k0 cks r.h.toNat).2 (r.r-lr r.h)=True:=c6 (by omega) (by omega) (by omega) (by omega)
  have m2:bK (k0 cks r.h.toNat).1 (lr r.h-r.r)=True:=c6 (by omega) (by omega) (by omega) (by omega)
  have af:=λ{W:WC}{e:IE}{De:Ends3}{E:XN}{σ:St3}{a:List D}=>ik (W:=W) (e:=e) (De:=De) (E:=E) (σ:=σ) (ag (M:=put M p (.lst [])) (a:=f) (o:=.lst a))
  have af2:∀{De:Ends3}{σ:St3}{y:D}{a:List D},cB f De σ y (put (put M p (.lst [])) f (.lst a))=(a.length<PySem.sizeLine/\De.nx σ (put (put M p (.lst [])) f (.lst (a++[y])))):=λ{De σ y a}=>by simp[cB,ag,bv]
  have aq:=λ{W:WC}{e:IE}{De:Ends3}{E:XN}{σ:St3}{a:List D}=>ik (W:=W) (e:=e) (De:=De) (E:=E) (σ:=σ) (F a)
  have aq2:=λ{De:Ends3}{σ:St3}{y:D}{a:List D}=>qo (De:=De) (σ:=σ) (y:=y) (F a) (by rw[G8];omega)
  have eo:fR cks wy c lr r=bJ wy (.tup [.int r.h,.int (c r.h)]) r++[.tup [.tup [.int r.h,.int ((c r.h:Int)-1)],.tup [.int r.h,.int (c r.h)],.int ((k0 cks r.h.toNat).2*(r.r-lr r.h))],.tup [.tup [.int r.h,.int (c r.h)],.tup [.int r.h,.int ((c r.h:Int)-1)],.int ((k0 cks r.h.toNat).1*(lr r.h-r.r))]]:=by
   unfold fR lB;rw[G3 c0];congr 5;rw[Int.neg_mul,<-Int.mul_neg,Int.neg_sub]
  rw[eo]at k;simp[-List.getD_eq_getElem?_getD,↓sd,↓i1,↓i2,↓le0,↓lo,tyB,iV gf,↓ex,↓nn,↓le1,↓ic,iH,m1,m2,↓la,↓af,↓af2,↓aq,↓aq2,ar];refine⟨GU (show _<1000 by omega) (by decide),GU (show _<1000 by omega) (by decide),k _ ks ds _ _ _ _ _ (by omega) ⟨(fm1.put _ _).put _ _,λa o h=>(by
    have ap:a≠p:=λz=>by rw[z,m0p]at h;cases h
    have af:a≠f:=λz=>by rw[z,V.f0]at h;cases h
    have aq:a≠q:=λz=>by rw[z,g7]at h;cases h
    rw[ah aq,ah af,ah ap];exact V.old a o h),V.f0,V.s0,V.fs,by rw[ah (He g5),ag],by rw[ah (He g6),ah (He V.fs)];exact gs,V.hl,λh e=>(by
    unfold bump at e;by_cases z:h=r.h
    ·rw[G3 z]at e;cases e
    ·rw[GV z]at e;exact V.no h e),λh e=>(by
    unfold bump at e ⊢;by_cases z:h=r.h
    ·subst z;refine⟨q,l++[r.r],g1,by rw[ag,HR];rfl,by simp[g3],by simp[nxt],g5,g6,g7⟩
    ·rw[GV z]at e;obtain⟨q',l',g1',g2',g3',g4',g5',g6',g7'⟩:=V.yes h e;have qp':q'≠p:=λy=>by rw[y,hp]at g2';cases g2'
     have qq:q'≠q:=λy=>z (V.one h r.h q (by rw[<-y];exact g1') g1)
     refine⟨q',l',g1',by rw[ah qq,ah g5',ah qp'];exact g2',by rw[GV z];exact g3',by unfold nxt;rw[GV z];exact g4',g5',g6',g7'⟩),V.one⟩⟩
 ·have z0:c r.h=0:=by omega
  have g1:=V.no r.h z0;have sd:∀{Q:VK3},rBm .setdef (.ref s) [.int r.h,.ref p] (put M p (.lst [])) Q=Q (.ref p) (put (put M p (.lst [])) s (.dk (aj ks (.inl r.h)) (ak ks ds (.inl r.h) (.ref p)))):=λ{Q}=>by simp[rBm,gs,lO,g1,hz]
  have M2p:(put (put M p (.lst [])) s (.dk (aj ks (.inl r.h)) (ak ks ds (.inl r.h) (.ref p)))) p=some (.lst []):=by rw[ah ps,ag]
  have M2f:(put (put M p (.lst [])) s (.dk (aj ks (.inl r.h)) (ak ks ds (.inl r.h) (.ref p)))) f=some (.lst acc):=by rw[ah V.fs];exact gf
  have M2s:(put (put M p (.lst [])) s (.dk (aj ks (.inl r.h)) (ak ks ds (.inl r.h) (.ref p)))) s=some (.dk (aj ks (.inl r.h)) (ak ks ds (.inl r.h) (.ref p))):=ag;have M2o:∀a,a≠p->a≠s->(put (put M p (.lst [])) s (.dk (aj ks (.inl r.h)) (ak ks ds (.inl r.h) (.ref p)))) a=M a:=λa h1 h2=>by rw[ah h2,ah h1]
  have fm2:Fm (put (put M p (.lst [])) s (.dk (aj ks (.inl r.h)) (ak ks ds (.inl r.h) (.ref p)))):=fm1.put _ _;generalize hM2:put (put M p (.lst [])) s (.dk (aj ks (.inl r.h)) (ak ks ds (.inl r.h) (.ref p)))=M2 at sd M2p M2f M2s M2o fm2;have le:∀{Q:VK3},rBi .len [.ref p] M2 Q=Q (.int (c r.h:Nat)) M2:=λ{Q}=>by rw[z0];simp[rBi,aD,ai,M2p]
  have ex:=λ{Q:VK3}=>t5 (Q:=Q) (es:=bJ wy (.tup [.int r.h,.int (c r.h)]) r) M2f (by omega)
  have M3p:(put M2 f (.lst (acc++bJ wy (.tup [.int r.h,.int (c r.h)]) r))) p=some (.lst []):=by rw[ah pf];exact M2p
  have nn:∀{Q:VK3},aH .NotEq (.ref p) (.rol []) (put M2 f (.lst (acc++bJ wy (.tup [.int r.h,.int (c r.h)]) r))) Q=Q (.bl false) (put M2 f (.lst (acc++bJ wy (.tup [.int r.h,.int (c r.h)]) r))):=λ{Q}=>by
   rw[jb (ds:=[]) (by simp[ai,M3p]) rfl rfl];rfl
  have ap:=λ{W:WC}{e:IE}{De:Ends3}{E:XN}{σ:St3}=>ik (W:=W) (e:=e) (De:=De) (E:=E) (σ:=σ) M3p
  have ap2:=λ{De:Ends3}{σ:St3}{y:D}=>qo (De:=De) (σ:=σ) (y:=y) M3p (by simp)
  have eo:fR cks wy c lr r=bJ wy (.tup [.int r.h,.int (c r.h)]) r:=by unfold fR;rw[GV c0,HM]
  rw[eo]at k;have fin:=k (put (put M2 f (.lst (acc++bJ wy (.tup [.int r.h,.int (c r.h)]) r))) p (.lst [.int r.r])) (aj ks (.inl r.h)) (ak ks ds (.inl r.h) (.ref p)) (some (.ref p)) (some (.tup [.int r.h,.int (c r.h)])) y7 y8 y9 kl ⟨(fm2.put _ _).put _ _,λa o h=>(by
    have ap:a≠p:=λz=>by rw[z,m0p]at h;cases h
    have af:a≠f:=λz=>by rw[z,V.f0]at h;cases h
    have as:a≠s:=λz=>by rw[z,V.s0]at h;cases h
    rw[ah ap,ah af,M2o a ap as];exact V.old a o h),V.f0,V.s0,V.fs,by rw[ah (He pf),ag],by rw[ah (He ps),ah (He V.fs)];exact M2s,bo V.hl,λh e=>(by
    unfold bump at e;by_cases z:h=r.h
    ·rw[G3 z]at e;cases e
    ·rw[GV z]at e;rw[aR V.hl,GV (λy=>z (Sum.inl.inj y).symm)];exact V.no h e),λh e=>(by
    unfold bump at e ⊢;by_cases z:h=r.h
    ·subst z;refine⟨p,[r.r],by rw[aR V.hl,G3 rfl],ag,by simp[z0],by simp[nxt],pf,ps,m0p⟩
    ·rw[GV z]at e;obtain⟨q,l,g1,g2,g3,g4,g5,g6,g7⟩:=V.yes h e;have qp:q≠p:=λy=>by rw[y,hp]at g2;cases g2
     refine⟨q,l,by rw[aR V.hl,GV (λy=>z (Sum.inl.inj y).symm)];exact g1,by rw[ah qp,ah g5,M2o q qp g6];exact g2,by rw[GV z];exact g3,by unfold nxt;rw[GV z];exact g4,g5,g6,g7⟩),λh h' q e1 e2=>(by
    have fresh:∀h,getD ks ds (.inl h)≠some (.ref p):=λh e=>by
     by_cases z:0<c h
     ·obtain⟨q,l,g1,g2,_⟩:=V.yes h z;rw[g1]at e;cases e;rw[hp]at g2;cases g2
     ·rw[V.no h (by omega)]at e;cases e
    rw[aR V.hl]at e1 e2;by_cases z1:(Sum.inl r.h:Key)=.inl h
    ·by_cases z2:(Sum.inl r.h:Key)=.inl h'
     ·exact (Sum.inl.inj z1).symm.trans (Sum.inl.inj z2)
     ·rw[G3 z1]at e1;rw[GV z2]at e2;cases e1;exact absurd e2 (fresh h')
    ·by_cases z2:(Sum.inl r.h:Key)=.inl h'
     ·rw[GV z1]at e1;rw[G3 z2]at e2;cases e2;exact absurd e1 (fresh h)
     ·rw[GV z1]at e1;rw[GV z2]at e2;exact V.one h h' q e1 e2)⟩
  simp[-List.getD_eq_getElem?_getD,↓sd,↓i1,↓i2,↓le,↓lo,iV M2f,↓ex,↓nn,↓ap,↓ap2,ar];exact fin
theorem mX{M0:MH}{f s:PySem.Addr}{De:Ends3}{ES:St3->XN}{x1:Option D}(G:GW cks wy):∀(rows:List Rw)(M:MH)(c:Int->Nat)(lr:Int->Int)(acc:List D)(ks:List Key)(ds:List D)(y4 y5 y6 y7 y8 y9:Option D),DV M0 M f s acc ks ds c lr->(∀r∈rows,r.fine cks.length wy)->(∀h,-(10 ^ 62)<=lr h/\lr h<=10 ^ 62)->ks.length+rows.length<300->acc.length+4*rows.length<900->(∀h,c h+rows.length<900)->
  (∀M' y4 y5 y6 y7 y8 y9,(∀a o,M0 a=some o->M' a=some o)->M' f=some (.lst (acc++bdF cks wy c lr rows))->De.nx [some (.tup [.rol (cks.map cD),.dit (wy.map pr) (wy.map wv)]),x1,some (.ref f),some (.ref s),y4,y5,y6,y7,y8,y9] M')->
  bz ⟨(B cls kls fad),aa T (B cls kls fad) (n+1)⟩ (.name 4) cf ES (λ_=>True) De (rows.map Rw.d) [some (.tup [.rol (cks.map cD),.dit (wy.map pr) (wy.map wv)]),x1,some (.ref f),some (.ref s),y4,y5,y6,y7,y8,y9] M
 |[],M,c,lr,acc,ks,ds,y4,y5,y6,y7,y8,y9,V,hf,lb,z1,z2,z3,k=>by
  rw[List.map_nil,aT];exact⟨trivial,k M _ _ _ _ _ _ V.old (by rw[bdF,HM];exact V.vf)⟩
 |r::rows,M,c,lr,acc,ks,ds,y4,y5,y6,y7,y8,y9,V,hf,lb,z1,z2,z3,k=>by
  simp only[Hk]at z1 z2 z3;have ol:=lX (cks:=cks) (wy:=wy) (c:=c) (lr:=lr) (r:=r);have f:=hf r G5;rw[G6,aF];refine⟨trivial,?_⟩;rw[qk];refine uS G V f lb (by omega) (by omega) (by have:=z3 r.h;omega) λM' ks' ds' y5 y6 y7 y8 y9 hk V'=>?_
  exact mX G rows M' _ _ _ _ _ _ _ _ _ _ _ V' (λx hx=>hf x (GY _ hx)) (λh=>by
   unfold nxt;split
   ·exact f.b
   ·exact lb h) (by omega) (by rw[Hu];omega) (λh=>by have:=z3 h;unfold bump;split<;>omega) λM2 y4 y5 y6 y7 y8 y9 o v=>k M2 _ _ _ _ _ _ o (by rw[v,bdF,List.append_assoc])
theorem A9{rows:List Rw}(G:GW cks wy)(hM:Fm M)(hl:rows.length<=16)(hf:∀r∈rows,r.fine cks.length wy)(k:Q (.rol (bdF cks wy c00 l00 rows)) M):aa T (B cls kls fad) (n+2) 43 [.tup [.rol (cks.map cD),.dit (wy.map pr) (wy.map wv)],.rol (rows.map Rw.d)] M Q E:=by
 simp only[rb,gP];simp;intro f hf0 s hs0;obtain⟨hsf,hs0⟩:=cI hs0;refine mX (M0:=M) G rows _ c00 l00 [] [] [] none none none none none none ⟨(hM.put _ _).put _ _,λa o h=>(by
   have af:a≠f:=λz=>by rw[z,hf0]at h;cases h
   have as:a≠s:=λz=>by rw[z,hs0]at h;cases h
   rw[ah as,ah af];exact h),hf0,hs0,He hsf,by rw[ah (He hsf),ag],ag,rfl,λh _=>rfl,λh z=>(by cases z),λh h' q e _=>(by cases e)⟩ hf (λh=>⟨by show -(10 ^ 62)<=(0:Int);decide,by show (0:Int)<=10 ^ 62;decide⟩) (by simp;omega) (by simp;omega) (λh=>by show 0+_<_;omega) λM' y4 y5 y6 y7 y8 y9 o v=>?_
 rw[List.nil_append]at v;have ke:aK M (del M' f)=M:=by
  funext a;unfold aK del;cases e:M a with
  |none=>rfl
  |some u=>
   have af:a≠f:=λz=>by rw[z,hf0]at e;cases e
   simp[af,o a u e]
 simp[aY,v,ke];exact k
end
section
variable {cls kls fad:Nat->PySem.Addr}{M:MH}{Q:VK3}{E:XN}{n:Nat}{a b d:PySem.Addr}{cks:List (Int×Int)}{wy:List Wy}{rows:List Rw}
theorem CK{ks:List Key}{ds:List D}{i:Int}{v:D}(h:M a=some (.dk ks ds))(hv:getD ks ds (.inl i)=some v):ao (.ref a) (.int i) M Q=Q v M:=by
 simp[ao,aD,ai,h,gQ,gA,gO,lO,hv]
theorem iz(hab:a≠b){W:WC}{M0:MH}{De:Ends3}{ES:St3->XN}{R:Prop}{log:Option D}:∀(rs:List Rw)(ks:List Key)(ds acc:List D)(c:Int->Nat)(x3:Option D),ks.length=ds.length->ks.length+rs.length<500->acc.length+rs.length<500->(∀h,(getD ks ds (.inl h)).getD (.int 0)=.int (c h))->
  (∀ks' ds' x,De.nx [log,some (.ref a),some (.ref b),x] (put (put M0 a (.dk ks' ds')) b (.lst (acc++(nmF (rs.map Rw.h) c).map nD)))=R)->
  bz W (.name 3) bw ES (λ_=>True) De (rs.map Rw.d) [log,some (.ref a),some (.ref b),x3] (put (put M0 a (.dk ks ds)) b (.lst acc))=R
 |[],ks,ds,acc,c,x3,_,_,_,_,hR=>by
  have:=hR ks ds x3;simp[nmF]at this;simp[aT,this]
 |r::rs,ks,ds,acc,c,x3,hl,h1,h2,hc,hR=>by
  have ga:∀{ks ds},(put (put M0 a (.dk ks ds)) b (.lst acc)) a=some (.dk ks ds):=λ{_ _}=>by rw[ah hab,ag]
  simp only[Hk]at h1 h2;have hs:acc.length<PySem.sizeLine:=GU (show acc.length<1000 by omega) (by decide)
  have hk:ks.length<PySem.sizeLine:=GU (show ks.length<1000 by omega) (by decide)
  have ih:=iz hab (W:=W) (M0:=M0) (De:=De) (ES:=ES) (R:=R) (log:=log) rs (aj ks (.inl r.h)) (ak ks ds (.inl r.h) (.int (c r.h+1))) (acc++[nD (r.h,c r.h)]) (bump c r.h) (some r.d) (bo hl) (by have:=bn (ks:=ks) (k:=(.inl r.h:Key));omega) (by simp;omega) (oj hl hc) (by
    intro ks' ds' x;have:=hR ks' ds' x;simpa [nmF] using this)
  have i1:=λ{M:MH}{Q:VK3}=>u7 (M:=M) (Q:=Q) (r:=r)
  have gv:getD (aj ks (.inl r.h)) (ak ks ds (.inl r.h) (.int (c r.h+1))) (.inl r.h)=some (.int (c r.h+1)):=by rw[aR hl,G3 rfl]
  have st:∀{R:MH->Prop},aS (.ref a) (.int r.h) (.int (c r.h+1)) (put (put M0 a (.dk ks ds)) b (.lst acc)) R=R (put (put M0 a (.dk (aj ks (.inl r.h)) (ak ks ds (.inl r.h) (.int (c r.h+1))))) b (.lst acc)):=λ{R}=>by
   rw[ni ga,eq_true hk,true_and,c9 hab]
  have ix:=λ{Q:VK3}=>CK (Q:=Q) (ga (ks:=aj ks (.inl r.h)) (ds:=ak ks ds (.inl r.h) (.int (c r.h+1)))) gv
  rw[G6,aF];simp[bw,↓i1,ur ga,qx ga,hc,↓st,↓ix,hs,ar];simpa [nD,bw] using ih
theorem sL(hM:Fm M)(hl:rows.length<400):aa T (B cls kls fad) (n+1) 44 [.rol (rows.map Rw.d)] M Q E=Q (.rol ((nmF (rows.map Rw.h) c00).map nD)) M:=by
 simp only[mP,eJ];simp;refine iff_of_eq (ay hM λa ha=>?_)
 simp[ar];refine iff_of_eq (ay (hM.put _ _) λb hb=>?_)
 obtain⟨hab,hb⟩:=cI hb;refine iz (He hab) rows [] [] [] _ _ rfl (by simp;omega) (by simp;omega) (λh=>rfl) λks' ds' x=>?_
 simp[ha,hb,ah hab]
theorem my{W:WC}{De:Ends3}{ES:St3->XN}{R:Prop}{x0 x1 x2:Option D}{body:ISs}(hb:body=.cons (.ixset (.var 3) (.var 4) (.var 5)) .nil):∀(l:List (Int×Int)) (c:Int->Nat)(T:Dt)(x4 x5:Option D),T.1.length+l.length<500->
  (∀x4 x5,De.nx [x0,x1,x2,some (.ref d),x4,x5] (put M d (.dt (dF c T l).1 (dF c T l).2))=R)->
  bz W (.tup [4,5]) body ES (λ_=>True) De (cJ ((nmF (l.map Prod.fst) c).map nD) ((l.map Prod.snd).map D.int)) [x0,x1,x2,some (.ref d),x4,x5] (put M d (.dt T.1 T.2))=R
 |[],c,T,x4,x5,_,hR=>by
  have:=hR x4 x5;simp[dF]at this;simp[nmF,cJ,aT,this]
 |p::l,c,T,x4,x5,hl,hR=>by
  simp only[Hk]at hl;have k1:=bn (ks:=T.1) (k:=[p.1,(c p.1:Int)]);have ih:=my (W:=W) (De:=De) (ES:=ES) (R:=R) (x0:=x0) (x1:=x1) (x2:=x2) hb l (bump c p.1) (aj T.1 [p.1,(c p.1:Int)],ak T.1 T.2 [p.1,(c p.1:Int)] (.int p.2)) (some (.tup [.int p.1,.int (c p.1)])) (some (.int p.2)) (by simp only;omega) (λx4 x5=>hR x4 x5)
  have st:∀{R:MH->Prop},aS (.ref d) (.tup [.int p.1,.int (c p.1)]) (.int p.2) (put M d (.dt T.1 T.2)) R=R (put M d (.dt (aj T.1 [p.1,(c p.1:Int)]) (ak T.1 T.2 [p.1,(c p.1:Int)] (.int p.2)))):=λ{R}=>by
   rw[jr ag (by omega),bv]
  show bz _ _ _ _ _ _ (.tup [nD (p.1,c p.1),.int p.2]::cJ ((nmF (l.map Prod.fst) (bump c p.1)).map nD) ((l.map Prod.snd).map D.int)) _ _=R;rw[aF];generalize bz W (.tup [4,5]) body ES (λ_=>True) De (cJ ((nmF (l.map Prod.fst) (bump c p.1)).map nD) ((l.map Prod.snd).map D.int))=K at ih ⊢
  rw[hb];simp[nD,↓st,iH];exact iff_of_eq ih
end
theorem pU:∀{l l':List (Int×Int)} (c:Int->Nat)(T T':Dt),l.map Prod.fst=l'.map Prod.fst->T.1.length=T.2.length->T'.1.length=T'.2.length->
  (∀k t,getD T.1 T.2 k=some (.int t)->∃t',getD T'.1 T'.2 k=some (.int t'))->∀k t,getD (dF c T l).1 (dF c T l).2 k=some (.int t)->∃t',getD (dF c T' l').1 (dF c T' l').2 k=some (.int t')
 |[],[],c,T,T',_,_,_,h=>h
 |p::l,p'::l',c,T,T',e,h1,h2,h=>by
  simp only[G6,List.cons.injEq]at e;unfold dF;rw[<-e.1];refine pU (bump c p.1) _ _ e.2 (bo h1) (bo h2) λk t hk=>?_
  rw[aR h1]at hk;rw[aR h2];by_cases z:[p.1,(c p.1:Int)]=k
  ·rw[G3 z];exact⟨_,rfl⟩
  ·rw[GV z]at hk ⊢;exact h k t hk
theorem qM{l l':List (Int×Int)}{a i t:Int}(e:l.map Prod.fst=l'.map Prod.fst)(h:tm l a i=some (.int t)):∃t',tm l' a i=some (.int t'):=pU c00 D0 D0 e rfl rfl (λk t h=>⟨t,h⟩) _ t h
theorem Ends.any{l l':List (Int×Int)}{c:Int->Nat}{ok:Int->Int->Int->Prop}{b:D}(e:l.map Prod.fst=l'.map Prod.fst)(h:Ends (tm l) c ok b):Ends (tm l') c (λ_ _ _=>True) b:=by
 obtain⟨a,i,a',i',m,t,t',h1,h2,h3,h4,h5,_⟩:=h;obtain⟨x,hx⟩:=qM e h2;obtain⟨y,hy⟩:=qM e h3;exact⟨a,i,a',i',m,x,y,h1,hx,hy,h4,h5,trivial⟩
noncomputable def qL:Option D->Int
 |some (.int t)=>t
 |_=>0
noncomputable def rj:D->Int×Int
 |.tup [.int a,.int i]=>(a,i)
 |_=>(0,0)
noncomputable def lQ(l:List (Int×Int)):D->Bool
 |.tup [x,y,.int m]=>decide (m<qL (tm l (rj y).1 (rj y).2)-qL (tm l (rj x).1 (rj x).2))
 |_=>false
theorem yX{l:List (Int×Int)}{c:Int->Nat}{bs:List D}(h:∀b∈bs,Ends (tm l) c kept b):bs.filter (lQ l)=[]:=by
 rw[List.filter_eq_nil_iff];intro b hb;obtain⟨a,i,a',i',m,t,t',rfl,h2,h3,_,_,h6⟩:=h b hb;have h6:t' - t<=m:=h6;simp[lQ,rj,h2,h3,qL];omega
section
variable {cls kls fad:Nat->PySem.Addr}{M:MH}{Q:VK3}{E:XN}{n:Nat}{d:PySem.Addr}{cks:List (Int×Int)}{wy:List Wy}{rows:List Rw}
theorem vh{W:WC}{l:List (Int×Int)}{c:Int->Nat}{ok:Int->Int->Int->Prop}{bs:List D}{x:Option D}(hM:Fm M)(hd:M d=some (.dt (dF c00 D0 l).1 (dF c00 D0 l).2))(hl:bs.length<1000)(he:∀b∈bs,Ends (tm l) c ok b) :
  d9 W (.name 0) (.yes (.cmp .Gt (.bin .Sub (.ix (.var 1) (.ix (.var 0) (.con (.int 1)))) (.ix (.var 1) (.ix (.var 0) (.con (.int 0))))) (.ix (.var 0) (.con (.int 2))))) (.var 0) (λ_=>True) Q bs [x,some (.ref d)] M=Q (.rol (bs.filter (lQ l))) M:=by
 rw[dn (lQ l) id hM (by omega) (λb hb M' hE Q=>?_) (λb hb _ M' hE Q=>by simp)]
 ·simp
 ·obtain⟨a,i,a',i',m,t,t',rfl,h2,h3,_,_,_⟩:=he b hb;have hd':M' d=some (.dt (dF c00 D0 l).1 (dF c00 D0 l).2):=hE.2 d _ hd;have x1:=λ{Q:VK3}=>tY (Q:=Q) hd' h2
  have x2:=λ{Q:VK3}=>tY (Q:=Q) hd' h3
  simp[↓x1,↓x2,lQ,rj,h2,h3,qL]
theorem mi:∀(rows:List Rw)(c:Int->Nat)(lr:Int->Int),(bdF cks wy c lr rows).length<=4*rows.length
 |[],_,_=>by simp[bdF]
 |r::rows,c,lr=>by
  have:=mi rows (bump c r.h) (nxt lr r.h r.r);have:=lX (cks:=cks) (wy:=wy) (c:=c) (lr:=lr) (r:=r);simp only[bdF,Hu,Hk];omega
noncomputable abbrev hts(rows:List Rw)(ts:List Int):List (Int×Int):=(rows.map Rw.h).zip ts
theorem iR{ts:List Int}(h:ts.length=rows.length):(hts rows ts).map Prod.fst=rows.map Rw.h:=List.map_fst_zip (by simp[h])
theorem qi{ts:List Int}(h:ts.length=rows.length):(hts rows ts).map Prod.snd=ts:=List.map_snd_zip (by simp[h])
theorem BH:iu d (.tup [.int (-1),.int 0]) (.int 0) (put M d (.dt [] [])) Q=Q (.ref d) (put M d (.dt [[-1,0]] [.int 0])):=by simp[iu,iK,dP,ag,bv]
theorem gq{ts:List Int}{c:Int->Nat}{ok:Int->Int->Int->Prop}(G:GW cks wy)(hM:Fm M)(hl:rows.length<=16)(hf:∀r∈rows,r.fine cks.length wy)(len:ts.length=rows.length)(he:∀b∈bdF cks wy c00 l00 rows,Ends (tm (hts rows ts)) c ok b)
  (k:Q (.rol ((bdF cks wy c00 l00 rows).filter (lQ (hts rows ts)))) M):aa T (B cls kls fad) (n+8) 21 [wO kls cks wy,.rol (rows.map Rw.d),.rol (ts.map D.int)] M Q E:=by
 have bl:=mi (cks:=cks) (wy:=wy) rows c00 l00;simp only[nO,gc];simp[len];intro d hd;have cn:=λ{Q:VK3}{E:XN}=>lA (cls:=cls) (kls:=kls) (fad:=fad) (n:=n+5) (Q:=Q) (E:=E) rows (.inl rfl) (by omega) (hM.put d (.dt [[-1,0]] [.int 0]))
 rw[BH];simp[↓cn];have lp:=λ(De:Ends3) (ES:St3->XN) (x0 x1 x2:Option D)=>my (M:=M) (d:=d) (W:=⟨B cls kls fad,aa T (B cls kls fad) (n+7)⟩) (R:=True) (body:=iA) (De:=De) (ES:=ES) (x0:=x0) (x1:=x1) (x2:=x2) rfl (hts rows ts) c00 D0 none none (by simp;omega)
 simp only[iR len,qi len]at lp;refine of_eq_true (lp _ _ _ _ _ λx4 x5=>eq_true ?_)
 have hM':=hM.put d (.dt (dF c00 D0 (hts rows ts)).1 (dF c00 D0 (hts rows ts)).2);simp[aA];refine uf (n:=n) G hM' (.inl rfl) hl hf ?_;rw[jk,vh hM' ag (by omega) he]
 simp[hd];exact k
theorem rM{ts:List Int}{x:D}(len:ts.length≠rows.length):aa T (B cls kls fad) (n+1) 21 [x,.rol (rows.map Rw.d),.rol (ts.map D.int)] M Q E=E ⟨8,none⟩ M:=by
 have:¬ (ts.length:Int)=rows.length:=by omega
 simp only[nO,gc];simp[this,ar]
theorem rH{ts:List Int}{c:Int->Nat}{ok:Int->Int->Int->Prop}(G:GW cks wy)(hM:Fm M)(hl:rows.length<=16)(hf:∀r∈rows,r.fine cks.length wy)(len:ts.length=rows.length)(he:∀b∈bdF cks wy c00 l00 rows,Ends (tm (hts rows ts)) c ok b)
  (k:Q (.rol ((bdF cks wy c00 l00 rows).filter (lQ (hts rows ts)))) M):aa T (B cls kls fad) (n+3) 48 [.tup [.rol (cks.map cD),.dit (wy.map pr) (wy.map wv)],.rol (rows.map Rw.d),.rol (ts.map D.int)] M Q E:=by
 have bl:=mi (cks:=cks) (wy:=wy) rows c00 l00;simp only[mv,dA];simp[ar];intro d hd;have cn:=λ{Q:VK3}{E:XN}=>sL (cls:=cls) (kls:=kls) (fad:=fad) (n:=n+1) (Q:=Q) (E:=E) (rows:=rows) (hM.put d (.dt [[-1,0]] [.int 0])) (by omega)
 rw[BH];simp[↓cn];have lp:=λ(De:Ends3) (ES:St3->XN) (x0 x1 x2:Option D)=>my (M:=M) (d:=d) (W:=⟨B cls kls fad,aa T (B cls kls fad) (n+2)⟩) (R:=True) (body:=dO) (De:=De) (ES:=ES) (x0:=x0) (x1:=x1) (x2:=x2) rfl (hts rows ts) c00 D0 none none (by simp;omega)
 simp only[iR len,qi len]at lp;refine of_eq_true (lp _ _ _ _ _ λx4 x5=>eq_true ?_)
 have hM':=hM.put d (.dt (dF c00 D0 (hts rows ts)).1 (dF c00 D0 (hts rows ts)).2);simp[aA];refine A9 (n:=n) G hM' hl hf ?_;rw[jk,vh hM' ag (by omega) he]
 simp[hd];exact k
theorem kC{ts:List Int}{x:D}(hM:Fm M)(len:ts.length≠rows.length):aa T (B cls kls fad) (n+2) 49 [x,.rol (rows.map Rw.d),.rol (ts.map D.int)] M Q E=Q (.bl true) M:=by
 have cb:=λ{Q:VK3}{E:XN}=>rM (cls:=cls) (kls:=kls) (fad:=fad) (n:=n) (M:=M) (Q:=Q) (E:=E) (x:=x) len
 simp only[ku,cX];simp[↓cb];refine iff_of_eq (ay hM λa ha=>?_)
 simp +decide [ha]
 done
end
theorem EG(H:Nat):rng 0 H=(List.range H).map λk=>.int (k:Int):=by
 unfold rng;simp
theorem qP{xs:List Int}{N:Nat}(hx:xs.length=6)(hN:0<N)(hs:N<=16):∀(ks:List Nat)(fs:List Int),(∀k∈ks,k<3)->fs.length=N->∃fs':List Int,fs'.length=N/\∀{W:WC}{M:MH}{p:PySem.Addr}{De:Ends3}{ES:St3->XN}{R:Prop}{ts:List Int}{x1:Option D} (x4 x5 x6:Option D),ts.length=N->
  (∀x4 x5 x6,De.nx [some (.rol (ts.map D.int)),x1,some (.ref p),some (.rol (xs.map D.int)),x4,x5,x6] (put M p (.lst (fs'.map D.int)))=R)->
  bz W (.name 4) bH ES (λ_=>True) De (ks.map λk:Nat=>.int (k:Int)) [some (.rol (ts.map D.int)),x1,some (.ref p),some (.rol (xs.map D.int)),x4,x5,x6] (put M p (.lst (fs.map D.int)))=R
 |[],fs,_,hf=>⟨fs,hf,λ{W M p De ES R ts x1} x4 x5 x6 _ hR=>by simp[aT,hR x4 x5 x6]⟩
 |k::ks,fs,hk,hf=>by
  have k3:=hk k (by simp)
  have hN':(0:Int)<(N:Int):=by omega
  have i0:∀{M:MH}{Q:VK3},ao (.rol (xs.map D.int)) (.int (k:Nat)) M Q=Q (.int (xs.getD k 0)) M:=λ{M Q}=>aB (by omega)
  have i3:∀{M:MH}{Q:VK3},ao (.rol (xs.map D.int)) (.int ((k:Int)+3)) M Q=Q (.int (xs.getD (k+3) 0)) M:=λ{M Q}=>aB (k:=k+3) (by omega)
  generalize xs.getD k 0=u at i0;generalize xs.getD (k+3) 0=w at i3;obtain⟨j,hj⟩:=HN (HJ u (Int.ne_of_gt hN'));have jl:j<N:=by have:=HF u hN';omega
  obtain⟨v,hv,vx⟩:=nE 1 (1+w % 9) (1+w % 1000000000000000000000000000000) (u / 97 % 3) (by omega) (by omega)
  obtain⟨fs',h1,h2⟩:=qP hx hN hs ks (fs.set j (fs.getD j 0+v*(1-2*(u / 293 % 2)))) (λi hi=>hk i (GY _ hi)) (by simp[hf])
  refine⟨fs',h1,λ{W M p De ES R ts x1} x4 x5 x6 ht hR=>?_⟩
  have ih:=h2 (W:=W) (M:=M) (p:=p) (De:=De) (ES:=ES) (R:=R) (ts:=ts) (x1:=x1) (some (.int k)) (some (.int j)) (some (.int v)) ht hR;have ij:∀{Q:VK3},ao (.ref p) (.int (j:Nat)) (put M p (.lst (fs.map D.int))) Q=Q (.int (fs.getD j 0)) (put M p (.lst (fs.map D.int))):=λ{Q}=>by
   rw[ma ag];exact aB (by omega)
  have st:∀{y:Int}{R:MH->Prop},aS (.ref p) (.int (j:Nat)) (.int y) (put M p (.lst (fs.map D.int))) R=R (put M p (.lst ((fs.set j y).map D.int))):=λ{y R}=>by
   rw[ky ag (j:=j) (by simp[ixN];omega),bv,List.map_set]
  have mb:bK v (1-2*(u / 293 % 2))=True:=c6 (by omega) (by omega) (by omega) (by omega)
  have m2:bK 2 (u / 293 % 2)=True:=c6 (by omega) (by omega) (by omega) (by omega)
  have lt:0<ts.length:=by omega
  have lt':(ts.length:Int)=N:=by omega
  rw[G6,aF];generalize bz W (.name 4) bH ES (λ_=>True) De (ks.map λk:Nat=>D.int (k:Int))=K at ih ⊢
  simp only[bH];simp[-List.getD_eq_getElem?_getD,↓i0,↓i3,lt,lt',hN,hN',hj,cx,iL,↓vx,↓ij,↓st,mb,m2,ar];rw[List.map_set]at ih;exact iff_of_eq ih
theorem vK{ts:List Int}(c:Int)(h0:0<ts.length)(hl:ts.length<=16):∃ts':List Int,ts'.length=ts.length/\∀{cls kls fad:Nat->PySem.Addr}{M:MH}{Q:VK3}{E:XN}{n:Nat},Fm M->aa T (B cls kls fad) (n+2) 47 [.rol (ts.map D.int),.int c] M Q E=Q (.rol (ts'.map D.int)) M:=by
 obtain⟨m,hm⟩:=HN (HJ c (show (4:Int)≠0 by decide))
 have m4:m<4:=by omega
 obtain⟨ts',h1,h2⟩:=qP (xs:=aO c 6) bN h0 hl (List.range m) ts (λk hk=>by have:=List.mem_range.mp hk;omega) rfl
 refine⟨ts',h1,λ{cls kls fad M Q E n} hM=>?_⟩
 have hz:ts.length<=PySem.sizeLine:=Ha hl (by decide)
 simp only[nJ,d7];have bl:∀{Q:VK3},rBi (.list false) [.rol (ts.map D.int)] M Q=∀p,M p=none->Q (.ref p) (put M p (.lst (ts.map D.int))):=λ{Q}=>by simp[rBi,aD,ai,eI,hz]
 have b1 : -4611686018427387904<=c % 4/\c % 4<4611686018427387904:=by omega
 simp[bl];refine iff_of_eq (ay hM λp hp=>?_)
 have cs:=λ{Q:VK3}{E:XN}=>dU (cls:=cls) (kls:=kls) (fad:=fad) (n:=n) (Q:=Q) (E:=E) (c:=c) (m:=6) (hM.put p (.lst (ts.map D.int))) (by omega)
 have cs':∀{Q:VK3}{E:XN},aa T (B cls kls fad) (n+1) 34 [.int c,.int 6] (put M p (.lst (ts.map D.int))) Q E=Q (.rol ((aO c 6).map D.int)) (put M p (.lst (ts.map D.int))):=cs;have b2:(m:Int)<4611686018427387904:=by omega
 simp[↓cs',hm,b2,EG];refine iff_of_eq (h2 _ _ _ rfl λx4 x5 x6=>?_)
 simp[xA hp]
section
variable {cls kls fad:Nat->PySem.Addr}{M:MH}{Q:VK3}{E:XN}{n:Nat}{cks:List (Int×Int)}{wy:List Wy}{r:Rw}{rows:List Rw}{ts:List Int}
theorem qz{i:Int}:aa T (B cls kls fad) (n+1) 45 [.int i] M Q E=Q (.bl true) M:=by
 simp only[ou,eE];simp
theorem zQ{i j:Int}:aa T (B cls kls fad) (n+2) 46 [.tup [.int i,.int j]] M Q E=Q (.bl true) M:=by
 have cw:=λ{i:Int}{M:MH}{Q:VK3}{E:XN}=>qz (cls:=cls) (kls:=kls) (fad:=fad) (n:=n) (M:=M) (Q:=Q) (E:=E) (i:=i)
 simp only[pi,ft];simp[↓cw]
theorem zP{k:Nat}:plN (k+2) r.d=true:=by cases r<;>simp[Rw.d,plN]
theorem ml{k:Nat}:(rows.map Rw.d).all (plN (k+2))=true:=Hh.mpr λx hx=>by
 obtain⟨y,_,rfl⟩:=Hn.mp hx;exact zP
theorem xk{k:Nat}:(ts.map D.int).all (plN k)=true:=Hh.mpr λx hx=>by
 obtain⟨y,_,rfl⟩:=Hn.mp hx;cases k<;>rfl
theorem lx{x:D}(e:rs M x=x)(h:pl x=true):aH .NotEq x x M Q=Q (.bl false) M:=by
 show j3 true x x M Q=_;unfold j3;rw[e,h,jK 8 h];simp
theorem zF{ds:List D}(h:pls ds=true):rs M (.rol ds)=.rol ds:=by
 show D.rol (if pls ds=true then _ else _)=_
 rw[G3 h]
theorem An(ns:List Int):∃cs:List Int,dR (ns.map D.int) (some 2) (some 16)=cs.map D.int/\cs.length<=16:=by
 unfold dR;rw[G8,<-List.map_drop,<-List.map_take];refine⟨_,rfl,?_⟩;rw[List.length_take,List.length_drop];simp[HT.sIx];omega
theorem qh{W:WC}{td:List (Rw×Int)}(hM:Fm M)(hl:td.length<=16)(b:Bool):d9 W (.tup [0,1]) .no (.var (if b then 1 else 0)) (λ_=>True) Q (td.map tdD) [none,none] M=Q (.rol (td.map λp=>if b then .int p.2 else p.1.d)) M:=by
 rw[eU (λσ=>σ.length=2) (λd=>match d with|.tup [x,y]=>[some x,some y]|_=>[]) (λ_=>true) (λd=>match d with|.tup [x,y]=>if b then y else x|_=>.non) rfl hM (by simp;omega) (λd hd=>?_) (λd hd M' hE Q=>by simp) (λd hd _ M' hE Q=>?_)]
 ·rw[List.filter_eq_self.mpr (by simp),List.map_map]
  cases b<;>rfl
 ·obtain⟨p,_,rfl⟩:=Hn.mp hd;refine⟨rfl,λσ hσ M k=>?_⟩
  obtain⟨x,y,rfl⟩:∃x y,σ=[x,y]:=by
   rcases σ with _|⟨x,_|⟨y,_|⟨z,t⟩⟩⟩<;>simp at hσ
   exact⟨x,y,rfl⟩
  simp[tdD,iH]
 ·obtain⟨p,_,rfl⟩:=Hn.mp hd;cases b<;>simp[tdD]
theorem xh{l:List (Int×Int)}{c:Int->Nat}{ok:Int->Int->Int->Prop}{bs:List D}{f:D->Bool}(h:∀b∈bs,Ends (tm l) c ok b):∀b∈bs.filter f,∃a i a' i' m:Int,b=.tup [.tup [.int a,.int i],.tup [.int a',.int i'],.int m]:=λb hb=>by
 obtain⟨a,i,a',i',m,_,_,e,_⟩:=h b (List.mem_filter.mp hb).1;exact⟨a,i,a',i',m,e⟩
theorem xQ{bs:List D}{k:Nat}(h:∀b∈bs,∃a i a' i' m:Int,b=.tup [.tup [.int a,.int i],.tup [.int a',.int i'],.int m]):bs.all (plN (k+2))=true:=Hh.mpr λx hx=>by
 obtain⟨a,i,a',i',m,rfl⟩:=h x hx;simp[plN]
end
noncomputable def we:ISs:=tl (tl (tl (tl (tl nR))))
noncomputable def uy:ISs:=tl we
noncomputable def za:ISs:=tl uy
section
variable {cls kls fad:Nat->PySem.Addr}{M:MH}{cks:List (Int×Int)}{wy:List Wy}{rows:List Rw}{ts:List Int}
theorem BD{De:Ends3}{ES:St3->XN}{y0 y1 y2:Option D}{ys:List (Option D)}(hrt:De.rt (.bl true) M)(hM:Fm M)(hl:rows.length<=16)(len:ts.length=rows.length) :
  aX ⟨(B cls kls fad),aa T (B cls kls fad) 9⟩ za De ES (y0::y1::y2::some (.rol (rows.map Rw.d))::some (.rol (ts.map D.int))::some (wO kls cks wy)::ys) M:=by
 have cr:=λ{Q:VK3}{E:XN}=>kC (cls:=cls) (kls:=kls) (fad:=fad) (n:=7) (M:=M) (Q:=Q) (E:=E) (x:=wO kls cks wy) (rows:=rows) (ts:=ts++[0]) hM (by simp;omega)
 have e:ts.map D.int++[.int 0]=(ts++[0]).map D.int:=by simp
 have hz:ts.length+1<=PySem.sizeLine:=Ha (show ts.length+1<=1000 by omega) (by decide)
 simp only[za,uy,we,tl,nR];simp[hz,ar];rw[e,cr];exact hrt
theorem pl2{xs ys:List D}(hx:xs.all (plN 6)=true)(hy:ys.all (plN 6)=true):pl (.tup [.rol xs,.rol ys])=true:=by
 simp[pl,plN,hx,hy]
theorem Es{De:Ends3}{ES:St3->XN}{y2:Option D}{ns:List Int}{c0:Int}{y6 y7 y8 y9 y10 y11 y12:Option D}{c:Int->Nat}{ok:Int->Int->Int->Prop}(hrt:De.rt (.bl true) M)(hM:Fm M)(G:GW cks wy)(hl:rows.length<=16)(hf:∀r∈rows,r.fine cks.length wy)(len:ts.length=rows.length)
  (h0:∀{M:MH}{Q:VK3}{E:XN},aa T (B cls kls fad) 9 33 [scr ns,.int 0] M Q E=Q (.int c0) M)
  (he:∀b∈bdF cks wy c00 l00 rows,Ends (tm (hts rows ts)) c ok b) :
  aX ⟨(B cls kls fad),aa T (B cls kls fad) 9⟩ uy De ES [some (scr ns),some (.tup [.rol (cks.map cD),.dit (wy.map pr) (wy.map wv)]),y2,some (.rol (rows.map Rw.d)),some (.rol (ts.map D.int)),some (wO kls cks wy),y6,y7,y8,y9,y10,y11,y12] M:=by
 have nn:∀{Q:VK3},aH .NotEq (.rol (rows.map Rw.d)) (.rol []) M Q=Q (.bl (!(rows.map Rw.d).isEmpty)) M:=λ{Q}=>jb rfl ml ml
 have l7:=λys=>BD (cls:=cls) (kls:=kls) (fad:=fad) (De:=De) (ES:=ES) (y0:=some (scr ns)) (y1:=some (.tup [.rol (cks.map cD),.dit (wy.map pr) (wy.map wv)])) (y2:=y2) (ys:=ys) (cks:=cks) (wy:=wy) hrt hM hl len
 rw[show uy=.cons _ za from rfl];by_cases z:rows=[]
 ·subst z;simp[↓nn];exact l7 _
 ·have lp:0<ts.length:=by have:=List.length_pos_iff.mpr z;omega
  obtain⟨tp,tl',cm⟩:=vK (ts:=ts) (c0 / 3) lp (by omega)
  have len':tp.length=rows.length:=by omega
  have cm':=λ{Q:VK3}{E:XN}=>cm (cls:=cls) (kls:=kls) (fad:=fad) (n:=7) (Q:=Q) (E:=E) hM
  have rz:rows.length<=PySem.sizeLine:=Ha (show rows.length<=1000 by omega) (by decide)
  have tz:tp.length<=PySem.sizeLine:=Ha (show tp.length<=1000 by omega) (by decide)
  have he':∀b∈bdF cks wy c00 l00 rows,Ends (tm (hts rows tp)) c (λ_ _ _=>True) b:=λb hb=>(he b hb).any (by rw[iR len,iR len'])
  simp[↓nn,z,↓h0,cx,↓cm',rz,tz,ar];refine gq (n:=1) G hM hl hf len' he' ?_;refine rH (n:=6) G hM hl hf len' he' ?_;have be:=xh (f:=lQ (hts rows tp)) he';have bl:=mi (cks:=cks) (wy:=wy) rows c00 l00;have kk:=λ{Q:VK3}{E:XN}=>gq (cls:=cls) (kls:=kls) (fad:=fad) (n:=1) (Q:=Q) (E:=E) G hM hl hf len' he'
  generalize (bdF cks wy c00 l00 rows).filter (lQ (hts rows tp))=bs at be kk ⊢;have n1:∀{Q:VK3},aH .NotEq (.rol bs) (.rol bs) M Q=Q (.bl false) M:=λ{Q}=>lx (zF (xQ be)) (xQ be)
  have n2:∀{Q:VK3},aH .NotEq (.tup [.rol (rows.map Rw.d),.rol (tp.map D.int)]) (.tup [.rol (rows.map Rw.d),.rol (tp.map D.int)]) M Q=Q (.bl false) M:=λ{Q}=>lx rfl (pl2 ml xk)
  simp[j9,n1,n2];refine wG (λσ=>∃a b c,σ=[some (scr ns),some (.tup [.rol (cks.map cD),.dit (wy.map pr) (wy.map wv)]),y2,some (.rol (rows.map Rw.d)),some (.rol (ts.map D.int)),some (wO kls cks wy),some (.rol (tp.map D.int)),some (.tup [.rol (rows.map Rw.d),.rol (tp.map D.int)]),some (.rol bs),some (.rol bs),a,b,c]) ⟨_,_,_,rfl⟩ (λd hd σ ⟨a,b,c,e⟩ k hk=>?_) (λσ ⟨a,b,c,e⟩=>?_)
  ·subst e;obtain⟨a,i,a',i',m,rfl⟩:=be d hd;have n3:=λ{i j:Int}{M:MH}{Q:VK3}{E:XN}=>zQ (cls:=cls) (kls:=kls) (fad:=fad) (n:=7) (M:=M) (Q:=Q) (E:=E) (i:=i) (j:=j)
   have n4:=λ{i:Int}{M:MH}{Q:VK3}{E:XN}=>qz (cls:=cls) (kls:=kls) (fad:=fad) (n:=8) (M:=M) (Q:=Q) (E:=E) (i:=i)
   simp only[og];simp[iH,↓n3,↓n4];exact hk _ ⟨_,_,_,rfl⟩
  ·subst e;have cr:=λ{Q:VK3}{E:XN}=>kC (cls:=cls) (kls:=kls) (fad:=fad) (n:=7) (M:=M) (Q:=Q) (E:=E) (x:=wO kls cks wy) (rows:=rows) (ts:=ts.drop 1) hM (by simp;omega)
   have e1:dR (ts.map D.int) (some 1) none=(ts.drop 1).map D.int:=by
    have:min 1 ts.length=1:=by omega
    unfold dR;rw[<-List.map_drop,List.take_of_length_le]<;>simp[HT.sIx,this]
   have n3:ts.length<=PySem.sizeLine+1:=by have:=tz;omega
   simp[↓e1,-List.map_drop,-List.drop_one];rw[cr];refine⟨n3,?_⟩;dsimp only;rw[G3 rfl];refine kk ?_;simp[n1];exact l7 _
end
theorem main(cls kls fad:Nat->PySem.Addr)(ns:List Int)(hl:ns.length<=63):aa (L.map FL.fb) (B cls kls fad) 10 50 [scr ns] (λ_=>none) (λd _=>d=.bl true) (λ_ _=>False):=by
 rw[D1];obtain⟨c0,hc0⟩:=uE (cls:=cls) (kls:=kls) (fad:=fad) ns 0;obtain⟨c1,hc1⟩:=uE (cls:=cls) (kls:=kls) (fad:=fad) ns 1;have h0:∀{M:MH}{Q:VK3}{E:XN},aa T (B cls kls fad) 9 33 [scr ns,.int 0] M Q E=Q (.int c0) M:=hc0;have h1:∀{M:MH}{Q:VK3}{E:XN},aa T (B cls kls fad) 9 33 [scr ns,.int 1] M Q E=Q (.int c1) M:=hc1;obtain⟨cs,sc,hcl⟩:=An ns;have hz:cs.length<=PySem.sizeLine:=Ha (show cs.length<=1000 by omega) (by decide)
 rw[BO,show nR=.cons _ (.cons _ (.cons _ (.cons _ (.cons _ we)))) from rfl];simp[↓h0];refine vI (n:=7) Fm.nil λcks wy G=>?_
 simp[↓h1,sc,hz];refine zB (n:=7) G Fm.nil hcl λtd f ⟨at_,sn,tc⟩ l=>?_
 have t0:∀{W:WC}{Q:VK3},d9 W (.tup [0,1]) .no V0 (λ_=>True) Q (td.map tdD) [none,none] (λ_=>none)=Q (.rol ((td.map Prod.fst).map Rw.d)) λ_=>none:=λ{W Q}=>by rw[List.map_map];exact qh Fm.nil l false
 have t1:∀{W:WC}{Q:VK3},d9 W (.tup [0,1]) .no V1 (λ_=>True) Q (td.map tdD) [none,none] (λ_=>none)=Q (.rol ((td.map Prod.snd).map D.int)) λ_=>none:=λ{W Q}=>by rw[List.map_map];exact qh Fm.nil l true
 have mk:=λ{Q:VK3}{E:XN}=>zw (cls:=cls) (kls:=kls) (fad:=fad) (n:=2) (M:=λ_=>none) (Q:=Q) (E:=E) G Fm.nil
 have he:=tc.b;have eh:td.map ht=hts (td.map Prod.fst) (td.map Prod.snd):=by
  unfold hts;rw[List.map_map,List.zip_map'];rfl
 rw[eh]at he;have tl:(td.map Prod.fst).length<=16:=by rw[G8];exact l
 have len:(td.map Prod.snd).length=(td.map Prod.fst).length:=by simp
 generalize td.map Prod.fst=rows at f t0 tl he len;generalize td.map Prod.snd=ts at t1 he len;have rz:rows.length<=PySem.sizeLine:=Ha (show rows.length<=1000 by omega) (by decide)
 have tz:ts.length<=PySem.sizeLine:=by rw[len];exact rz
 have n0:∀{M:MH}{Q:VK3},aH .NotEq (.rol []) (.rol []) M Q=Q (.bl false) M:=λ{M Q}=>lx rfl rfl
 simp[aA];rw[t0,t1];simp[↓mk];rw[show we=.cons _ uy from rfl];simp[rz,tz,ar];refine gq (n:=1) G Fm.nil tl f len he ?_;rw[yX he];simp[n0];refine gq (rows:=[]) (ts:=[]) (n:=1) (c:=c00) (ok:=kept) G Fm.nil (by simp) (by simp) rfl (by simp[bdF]) ?_
 simp[bdF,n0];exact Es rfl Fm.nil G tl f len h0 he
end G
open PySem PySem.W PyProof.Rows
set_option maxRecDepth 100000 in
set_option maxHeartbeats 0 in
theorem PySem.Challenge.cw_driftmeet_k32_bounds_broken_holds : PySem.Challenge.rw_driftmeet_k32_bounds_broken.Holds := by
 w_on;refine PySem.W.holds_law (by decide +kernel) λsaid=>?_
 refine L2.holdsT (l:=PySem.Challenge.rw_driftmeet_k32_bounds_broken) (q:=HD.view) (loose:=HD.loose) (Xt:=HD.Xt) (XP:=XL HD.view []) (YP:=Hook.says (kHook HD.K HD.as HD.as_eq)) (N:=10276) (n:=63) HD.left (λw s e=>⟨Hook.of (kHook HD.K HD.as HD.as_eq) w s (congrArg Prod.fst e),Nat.le_of_ble_eq_true (congrArg Prod.snd e)⟩) (Hook.keeps (kHook HD.K HD.as HD.as_eq)) (λs e=>xl_of s (Bool.and_eq_true_iff.mp e).1) XL.keeps (by rfl) (by rfl) (by rfl) (λs e=>recFacts_of (Bool.and_eq_true_iff.mp e).2) (by kernel_rfl) (by first|assumption|decide +kernel) (by decide +kernel) ⟨rfl,rfl,rfl,rfl,rfl,by decide +kernel⟩ ?hw rfl rfl ?hc
 (case hw=>w_witness2)
 k_fill
 refine L2.walkD (l:=PySem.Challenge.rw_driftmeet_k32_bounds_broken) (k:=10) (f:=50) (fl:=G.l_law) (x:="_law_script") (L:=G.L) (nm:=G.nm) (BB:=G.B) ⟨rfl,by decide,by decide⟩ (λw h Y=>PySem.W.kIn_of Y) rfl rfl rfl rfl ?F (λcls kls fad ns hl=>G.main cls kls fad ns hl)
 case F=>
  intro w mg h KX Gn
  refine' G.top_mk (q0:=150) (qn0:=0) (qt0_0:=372) (qt0_1:=373) (qt1:=656) (h9:=137) (xod9:=none) (xan9:=none) (xsl9:=#[]) (xoc9:=.type "function") (xkV9:=.none) (xdc9:=.none) (xpm9:=.str "driftmeet.errors" 187) (xcd9:=.ref 136) (xct9:=.none) KX Gn ?gl0 ?gt0 ?gl1 ?x9 ?xi9 ?xl9 ?xw9 ?xz9 ?xd9 ?xk9 ?xt9
  (case gl0=>kernel_rfl)
  (case gt0=>kernel_rfl)
  (case gl1=>kernel_rfl)
  (case x9=>kernel_rfl)
  (case xi9=>kernel_rfl)
  (case xl9=>kernel_rfl)
  (case xw9=>rfl)
  (case xz9=>kernel_rfl)
  (case xd9=>kernel_rfl)
  (case xk9=>kernel_rfl)
  (case xt9=>kernel_rfl)
  all_goals exact⟨0,0,0,0⟩
