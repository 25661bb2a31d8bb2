import PyProof.Rows.All
import Wide.All
import OpenK.AllK
import Wide.FinOn
import Lean
import PyProof.EqAt
import PyProof.EqKinds
import PyProof.TupleCall
import PySem.Challenge.RW_driftmeet_k26_roads_and_latest_times
set_option Elab.async false
set_option linter.all false
set_option maxRecDepth 100000
namespace L2
open PySem PySem.Spec PyProof.Rows
abbrev E7:=PySem.W.Frag
def vJ:=@wpAny_bind
def DR:=@Bool.and_eq_true
def DS:=@wpAny_pure
def DT:=@List.mem_cons_of_mem
def DU:=@Heap.get?_push_of_some
def DV:=@if_neg
def DW:=@List.mem_cons_self
def DX:=@List.mem_cons
def DY:=@if_pos
def DZ:=@Nat.le_refl
def D0:=@Nat.lt_of_lt_of_le
def D1:=@Heap.lt_size
def D4:=@List.map_cons
def D5:=@List.length_map
def D6:=@decide_eq_true_eq
def D7:=@Heap.get?_push_size
def D8:=@Bool.false_ne_true
def D9:=@Option.some.inj
def Ea:=@Ne.symm
def Eb:=@List.size_toArray
def Ec:=@beq_iff_eq
def Ef:=@List.getElem?_map
def Eh:=@List.mem_singleton
def Ei:=@Heap.get?_update_other
def Ej:=@Nat.le_trans
def Ek:=@Nat.ne_of_lt
def El:=@List.mem_append_right
def Em:=@List.length_cons
def En:=@Option.isSome_iff_exists
def Eo:=@List.mem_append
def Ep:=@Heap.get?_update_self
def Er:=@wpAny_newObj_type
def Es:=@List.all_eq_true
def Et:=@List.getElem?_eq_getElem
def Eu:=@Nat.le_add_right
def Ev:=@List.mem_append_left
def Ew:=@List.length_append
def Ey:=@beq_eq_false_iff_ne
def Ez:=@wpAny_holding
def EA:=@Bool.false_eq_true
def EB:=@List.mem_map
def EC:=@wpAny_truthy_bool
def ED:=@Array.getElem?_eq_some_iff
def EE:=@List.nodup_cons
def EF:=@Nat.lt_irrefl
def EG:=@wpAny_field
def EH:=@tupleKind_room_in1
def EI:=@decide_eq_false
def EJ:=@List.lookup_cons
def EK:=@wpAny_mono
def EL:=@Nat.succ_pos
def EM:=@List.getElem?_eq_some_iff
def EN:=@wpAny_setField
def EO:=@List.append_nil
def EQ:=@Obj.data_mapFields
def ET:=@Nat.le_succ
def EU:=@List.find?_cons
def EV:=@List.mem_of_getElem?
def EW:=@Bool.and_eq_true_iff
def EX:=@wpAny_dictEntries
def EY:=@wpAny_call_entry
def EZ:=@of_decide_eq_true
def E0:=@List.getElem?_set_ne
def E1:=@Int.toNat_natCast
def E4:=@List.not_mem_nil
def E5:=@List.getElem_mem
def E6:=@List.getD_eq_getElem?_getD
end L2
namespace L2
open PySem
theorem fW{M:Model}(h:Runs M Γ p t fs s e s'):s.toks<=s'.toks:=by
 induction h with
 |done|raise|yield=>exact DZ _
 |fresh _ ih=>exact Nat.le_of_succ_le ih
 |call _ _ a b|segRet _ _ a b=>exact Ej a b
 |resumeFresh _ _ _ _ a b|resumeSuspended _ _ _ _ a b|segGen _ _ a b|segSuspGen _ _ _ _ a b=>exact Ej a b
 |_=>assumption
theorem nI{M:Model}(h:Wakes M Γ p g r s res s'):s.toks<=s'.toks:=by
 unfold Wakes at h;split at h
 ·exact h.elim
 ·split at h
  ·obtain⟨e,s1,h1,_,_,rfl⟩:=h;have:=fW h1;exact this
  ·rw[h.2];exact DZ _
  ·rw[h.2];exact DZ _
 ·obtain⟨e,s1,h1,_,_,rfl⟩:=h;have:=fW h1;exact this
 ·rw[h.2];exact DZ _
 ·rw[h.2];exact DZ _
theorem uu{M:Model}{t:Sem α}{Q:α->Pos->Shared->Prop}{E:Value->Pos->Shared->Prop}(n:Nat)(h:Sem.wp M Γ t (λa p s'=>n<=s'.toks->Q a p s') (λa p s'=>n<=s'.toks->E a p s') p s)(hn:n<=s.toks):Sem.wp M Γ t Q E p s:=by
 revert h hn
 induction t generalizing p s with
 |pure x=>exact λh g=>h g
 |raise v=>exact λh g=>h g
 |unsupported|finish|yield|fork|await|register=>exact λh _=>h
 |fresh k ih=>exact λh g=>ih _ h (Nat.le_succ_of_le g)
 |rule _ k ih|«at» _ k ih|alloc _ k ih|loadIfAlive _ k ih|point _ k ih|ask k ih|os _ _ k ih|handled _ k ih|newGen _ k ih|stack k ih|thread k ih=>exact λh g=>ih _ h g
 |load a _ k ih|genState a k ih=>exact λ⟨o,ho,h⟩ g=>⟨o,ho,ih _ h g⟩
 |update a _ f k ih|choose _ _ k ih=>exact λ⟨ha,h⟩ g=>⟨ha,ih _ h g⟩
 |call c h g l k ih=>exact λ⟨r,s1,q,z⟩ g=>⟨r,s1,q,ih _ z (Ej g (fW q))⟩
 |resume g r l k ih=>exact λ⟨res,s',hw,h⟩ g=>⟨res,s',hw,ih _ h (Ej g (nI hw))⟩
theorem bF{M:Model}{A:Around}{t:Sem α}{Q:α->Shared->Prop}{E:Value->Shared->Prop}(hn:0<s.toks)(h:wpAny M A t (λa s'=>0<s'.toks->Q a s') (λa s'=>0<s'.toks->E a s') s):wpAny M A t Q E s:=λΓ p hΓ=>uu 1 (h Γ p hΓ) hn
end L2
set_option maxHeartbeats 4000000
namespace L2
open PySem PySem.Spec PyProof.Rows
theorem d8:entryFor table "proto.unchain"=some Builtin.«proto.unchain»:=entryFor_of_tree (by kernel_rfl)
def gU(o:Obj):Prop:=∃vs,o.data=.fields vs/\vs[2]?=some .none
def tI(A:Around)(h:Heap):Prop:=A.handled=none\/∃a o,A.handled=some (.ref a)/\h.get? a=some o/\gU o
section
variable {prog:Program}{w:World}{A:Around}{E:Value->Shared->Prop}{s:Shared}
theorem sZ{b:Addr}{T:String}{ws:Array Value}{Q:α->Shared->Prop}(hh:tI A s.heap)(hb:s.heap.get? b=some {cls:=.type T,data:=.fields ws})(hz:2<ws.size)(hws:ws.size<=100)(hne:A.handled≠some (.ref b))
  (h:∀h',Heap.SameBut b s.heap h'->(∃o',h'.get? b=some o'/\o'.cls=.type T)->E (.ref b) {s with heap:=h'}):wpAny (model prog w) A (raiseNew (.ref b)) Q E s:=by
 simp only[raiseNew];refine vJ (wpAny_handled ?_);rcases hh with e|⟨a,o,e,ho,vs,hv,h2⟩
 ·rw[e];exact vJ (DS (wpAny_throw (h _ ⟨rfl,λ_ _=>rfl⟩ ⟨_,hb,rfl⟩)))
 ·rw[e];have ab:a≠b:=λz=>hne (by rw[e,z])
  have hn:(Value.ref a != Value.ref b)=true:=by simpa using ab
  simp only[hn,if_true];refine vJ (Ez (wpAny_runValue (codeAny_builtin d8 ?_)));show wpAny _ _ (field (.ref a) 2 >>=_) _ _ s;refine vJ (EG ho hv (x:=.none) h2 ?_);show wpAny _ _ (ret .none) _ _ s;refine DS (vJ ?_);have us:=EN (M:=model prog w) (A:=A) (E:=E) (x:=.ref a) hb rfl hz (Q:=λ_ s'=>wpAny (model prog w) A (throw (.ref b)) Q E s') (wpAny_throw (h _ (Heap.SameBut.update ..) ⟨_,Ep _ hb rfl,rfl⟩))
  exact us
open PySem in
theorem jk{it l:Addr}{i:Nat}{items}{Q:Option Value->Shared->Prop}(hh:tI A s.heap)(hl':∀a,A.handled=some (.ref a)->a≠it)
  (hit:s.heap.IsListIter it l i)(hl:s.heap.IsList l items) (hx:items[i]?=none)
  (hQ:∀h',Heap.ExtBut it s.heap h'->Q none {s with heap:=h'}):wpAny (model prog w) A (pyNext (.ref it)) Q E s:=by
 obtain⟨o,ho,hc,hd⟩:=id hit;obtain⟨ol,hol,_,nl,hdl⟩:=hl;unfold pyNext;refine vJ (wpAny_attempt (wpAny_callSpecial?_slot (name:=Str.ofString "__next__") hit.typeIs slot_listiter_next
  (EY slot_listiter_next hit.typeIs entry_listiter_next ?_ (args_listiter_next _))))
 show wpAny _ _ (field (.ref it) 0 >>=_) _ _ s;refine vJ (EG ho hd (x:=.ref l) rfl ?_);show wpAny _ _ (if (Value.ref l == Value.none)=true then _ else _) _ _ s
 rw[DV (show ¬ ((Value.ref l == Value.none)=true) from D8)];show wpAny _ _ (field (.ref it) 1 >>=_) _ _ s;refine vJ (EG ho hd (x:=.int i 0) rfl ?_);show wpAny _ _ (seqItems? (.ref l) >>=_) _ _ s;refine vJ (wpAny_seqItems hol hdl ?_);simp only[E1,hx];refine vJ (wpAny_rule (vJ (EN ho hd (by simp) ?_)))
 show wpAny _ _ (newExc (.type "StopIteration") [] >>=_) _ _ _;refine vJ ?_;simp only[newExc,newTuple];refine vJ (Er ?_ (by size_fits))
 refine vJ (m:=firstArgMember _ _) (wpAny_of_eq (a:=Value.none) (by first|rfl|(simp only[firstArgMember];rfl)) ?_)
 refine Er ?_ (by size_fits)
 have sb:Heap.SameBut it s.heap (s.heap.update it (Obj.mapFields λx=>x.setIfInBounds 0 .none)):=Heap.SameBut.update ..
 have ext:∀x y,Heap.ExtBut it s.heap (((s.heap.update it (Obj.mapFields λx=>x.setIfInBounds 0 .none)).push x).push y):=λx y=>(sb.extBut.push _).push _
 have big:∀b ob,s.heap.get? b=some ob->b<s.heap.objs.size:=λb ob e=>D1 e
 have hn:∀x:Obj,((s.heap.update it (Obj.mapFields λx=>x.setIfInBounds 0 .none)).push x).objs.size=s.heap.objs.size+1:=λx=>by rw[Heap.size_push,sb.1]
 refine sZ (T:="StopIteration") ?_ (D7 _ rfl) (by simp[ownMembersOf]) (by simp[ownMembersOf]) ?_ λh' sb2 ⟨o',ho',hc'⟩=>?_
 ·rcases hh with e|⟨a,oa,e,ha,lo⟩
  ·exact .inl e
  ·exact .inr ⟨a,oa,e,ext _ _ a oa (hl' a e) ha,lo⟩
 ·intro q;rcases hh with e|⟨a,oa,e,ha,lo⟩
  ·rw[show A.in1.handled=none from e]at q;cases q
  ·rw[show A.in1.handled=some (.ref a) from e]at q;have:=big a oa ha;have q2:=Value.ref.inj (D9 q);have q3:a=s.heap.objs.size+1:=q2.trans (hn _);exact EF _ (D0 (q3▸this:s.heap.objs.size+1<s.heap.objs.size) (ET _))
 ·refine vJ (wpAny_isInstance (T:="StopIteration") (b:=true) ⟨o',ho',hc'⟩ isSubtype_stop ?_);refine DS (hQ _ λb ob hb e=>?_)
  have:=big b ob e;refine (sb2.2 b λq=>?_).trans (ext _ _ b ob hb e)
  have q3:b=s.heap.objs.size+1:=q.trans (hn _);exact EF _ (D0 (q3▸this:s.heap.objs.size+1<s.heap.objs.size) (ET _))
end
noncomputable abbrev Key:=Sum Int Str
noncomputable def jA:Key->Value->Bool
 |.inl k,v=>Value.isInt k v
 |.inr x,v=>Value.isStrOf x v
noncomputable def Co(w:World):Key->Int
 |.inl k=>hashInt k
 |.inr x=>hashStr w x
theorem aB:∀{k:Key}{v:Value},jA k v=true->(∃i t,k=Sum.inl i/\v=Value.int i t)\/(∃x t,k=Sum.inr x/\v=Value.str x t)
 |.inl i,v,h=>by
  obtain⟨t,e⟩:=Value.isInt_shape (k:=i) (v:=v) h;exact .inl ⟨i,t,rfl,e⟩
 |.inr x,v,h=>by
  obtain⟨t,e⟩:=Value.isStrOf_shape (x:=x) (v:=v) h;exact .inr ⟨x,t,rfl,e⟩
theorem qe(i:Int)(t:Tok):jA (.inl i) (.int i t)=true:=by simp[jA,Value.isInt]
theorem pR(x:Str)(t:Tok):jA (.inr x) (.str x t)=true:=by simp[jA,Value.isStrOf]
theorem xS(a b:Int):decide ((Sum.inl a:Key)=Sum.inl b)=(a == b):=by
 by_cases e:a=b
 ·subst e;simp
 ·have h:¬ (Sum.inl a:Key)=Sum.inl b:=λq=>e (Sum.inl.inj q)
  rw[EI h];exact (Ey.mpr e).symm
theorem xZ(a b:Str):decide ((Sum.inr a:Key)=Sum.inr b)=decide (a=b):=by
 by_cases e:a=b
 ·subst e;simp
 ·have h:¬ (Sum.inr a:Key)=Sum.inr b:=λq=>e (Sum.inr.inj q)
  rw[EI h,EI e]
theorem xU(a:Int)(b:Str):decide ((Sum.inl a:Key)=Sum.inr b)=false:=EI (λq=>nomatch q)
theorem xt(a:Str)(b:Int):decide ((Sum.inr a:Key)=Sum.inl b)=false:=EI (λq=>nomatch q)
noncomputable def av(prog:Program)(w:World):PySem.KeyKind prog w Key where
 is:=jA
 hash:=Co w
 inj:=λv a b ha hb=>by
  rcases aB ha with ⟨i,t,rfl,rfl⟩|⟨x,t,rfl,rfl⟩
  ·rcases aB hb with ⟨j,u,rfl,e⟩|⟨y,u,rfl,e⟩
   ·injection e with e1 _;rw[e1]
   ·exact nomatch e
  ·rcases aB hb with ⟨j,u,rfl,e⟩|⟨y,u,rfl,e⟩
   ·exact nomatch e
   ·injection e with e1 _;rw[e1]
 byValue:=λk v h=>by
  rcases aB h with ⟨i,t,rfl,rfl⟩|⟨x,t,rfl,rfl⟩<;>rfl
 pyHash:=λhv h=>by
  rcases aB hv with ⟨i,t,rfl,rfl⟩|⟨x,t,rfl,rfl⟩
  ·exact wpAny_pyHash_int h
  ·exact wpAny_pyHash_str h
 eqBool:=λhu hv h=>by
  rcases aB hu with ⟨i,t,rfl,rfl⟩|⟨x,t,rfl,rfl⟩
  ·rcases aB hv with ⟨j,u,rfl,rfl⟩|⟨y,u,rfl,rfl⟩
   ·rw[xS]at h;exact wpAny_eqBool_int h
   ·rw[xU]at h;exact SeqAt.EqAt.int_str i t y u _ _ _ _ h
  ·rcases aB hv with ⟨j,u,rfl,rfl⟩|⟨y,u,rfl,rfl⟩
   ·rw[xt]at h;exact SeqAt.EqAt.str_int x t j u _ _ _ _ h
   ·rw[xZ]at h;exact wpAny_eqBool_str h
 «strs»:=λk x t v h=>by
  rcases aB h with ⟨i,u,rfl,e⟩|⟨y,u,rfl,e⟩
  ·exact nomatch e
  ·injection e with e1 _
   subst e1;cases v<;>rfl
theorem ma(prog:Program)(w:World)(i:Int)(t:Tok):(av prog w).is (.inl i) (.int i t)=true:=qe i t
theorem dN(prog:Program)(w:World)(x:Str)(t:Tok):(av prog w).is (.inr x) (.str x t)=true:=pR x t
inductive V where
 |non|bl (b:Bool)|int (i:Int)|str (x:Str)|byt (b:Array UInt8)|flt (b:UInt64)|ref (a:Addr)|ty (n:String)
 deriving DecidableEq
def RelV:V->Value->Prop
 |.non,u=>u=Value.none
 |.bl b,u=>u=Value.bool b
 |.int i,u=>∃t,u=Value.int i t
 |.str x,u=>∃t,u=Value.str x t
 |.byt b,u=>∃t,u=Value.bytes b t
 |.flt b,u=>∃t,u=Value.float b t
 |.ref a,u=>u=Value.ref a
 |.ty n,u=>u=Value.type n
abbrev Vals:List V->List Value->Prop:=Paired RelV
theorem Vals.length{xs:List V}{us:List Value}(r:Vals xs us):xs.length=us.length:=Paired.length r
theorem Vals.get:∀{xs:List V}{us:List Value}{i:Nat}{x:V},Vals xs us->xs[i]?=some x->∃u,us[i]?=some u/\RelV x u
 |_,_,_,_,.nil,e=>by simp at e
 |_,_,0,_,.cons r _,e=>by simp at e;subst e;exact⟨_,rfl,r⟩
 |_,_,i+1,x,.cons _ t,e=>by
  obtain⟨u,h1,h2⟩:=Vals.get (i:=i) (x:=x) t (by simpa using e)
  exact⟨u,by simpa using h1,h2⟩
theorem Vals.set(r:RelV x u):∀{xs:List V}{us:List Value} (i:Nat),Vals xs us->Vals (xs.set i x) (us.set i u)
 |_,_,_,.nil=>.nil
 |_,_,0,.cons _ t=>.cons r t
 |_,_,i+1,.cons q t=>.cons q (Vals.set r i t)
theorem Vals.append:∀{xs ys:List V}{us ws:List Value},Vals xs us->Vals ys ws->Vals (xs++ys) (us++ws)
 |_,_,_,_,.nil,s=>s
 |_,_,_,_,.cons r t,s=>.cons r (Vals.append t s)
theorem Vals.take:∀{xs:List V}{us:List Value} (n:Nat),Vals xs us->Vals (xs.take n) (us.take n)
 |_,_,0,_=>.nil
 |_,_,_+1,.nil=>.nil
 |_,_,n+1,.cons r t=>.cons r (Vals.take n t)
theorem Vals.drop:∀{xs:List V}{us:List Value} (n:Nat),Vals xs us->Vals (xs.drop n) (us.drop n)
 |_,_,0,r=>r
 |_,_,_+1,.nil=>.nil
 |_,_,n+1,.cons _ t=>Vals.drop n t
def RelO:Option V->Option Value->Prop
 |some v,some u=>RelV v u
 |none,none=>True
 |_,_=>False
def KV:List (κ×V)->List (κ×Value)->Prop:=Paired λ(p:κ×V) (q:κ×Value)=>p.1=q.1/\RelV p.2 q.2
noncomputable def kV:Key->V
 |.inl i=>.int i
 |.inr x=>.str x
inductive HO where
 |lst (xs:List V)
 |tup (xs:List V)
 |dK (kvs:List (Key×V))|dT (kvs:List (List Key×V))
 |set (S:Int->Bool) (n:Nat)
 |ins (C dx:Addr) (fs:List (Str×V))
 |own (x:Addr)
 |xd (fs:List (Str×V))
 |met (f x:Addr)
 |rng (lo hi:Int)
 |frz (o:Obj) (u:HO)
 |tbl (ps:Array Value)
 |ext (φ:Heap->Prop)
noncomputable abbrev Hp:=Addr->Option HO
noncomputable def upd(H:Hp)(a:Addr)(o:HO):Hp:=λb=>if b=a then some o else H b
theorem ad:upd H a o a=some o:=by unfold upd;rw[DY rfl]
theorem aa(h:b≠a):upd H a o b=H b:=by unfold upd;rw[DV h]
theorem cx{H:Hp}{a b:Addr}{o u:HO}(h:H a=some o)(h':H b=some u)(d:o≠u):a≠b:=by
 intro e;subst e;rw[h]at h';exact d (D9 h')
theorem au{H:Hp}{a b:Addr}{o:HO}(h:H a=some o)(h':H b=none):a≠b:=by
 intro e;subst e;rw[h]at h';cases h'
section
variable (P:Program) (w:World)
def ObjOk(H:Hp)(h:Heap)(a:Addr):HO->Prop
 |.lst xs=>xs.length<=sizeLine/\∃(its:List Value) (n:Nat),Vals xs its/\h.get? a=some {cls:=.type "list",data:=.seq its.toArray n}
 |.tup xs=>xs.length<=sizeLine/\∃its:List Value,Vals xs its/\IsTup h a its.toArray
 |.dK kvs=>kvs.length<=sizeLine/\(a == sysModules)=false/\∃vs,KV kvs vs/\h.DictOf (av P w) a vs
 |.dT kvs=>kvs.length<=sizeLine/\(a == sysModules)=false/\∃xs:List (List Key×Addr×Value),
   Paired (λ(p:List Key×V) (q:List Key×Addr×Value)=>p.1=q.1/\H q.2.1=some (.tup (p.1.map kV))/\RelV p.2 q.2.2) kvs xs/\
   ∃o es ep,h.get? a=some o/\o.ExactDict/\o.data=.dict es ep/\es.toList=xs.map (entryOfKey (tupleKind (av P w)))/\(xs.map (·.1)).Nodup
 |.set S n=>h.SetOf (intKind P w) a S n
 |.ins C dx fs=>H dx=some (.own a)/\fs.length<=1000/\dx≠a/\h.get? a=some (PySem.W.instObj C dx)/\
   ∃mA,h.Ns1 dx mA/\(∀f,RelO (fs.lookup f) (mA f))/\PySem.Within mA (fs.map (·.1))
 |.own _=>∃o,h.get? a=some o
 |.xd fs=>∃mA,h.Ns1 a mA/\∀f,RelO (fs.lookup f) (mA f)
 |.rng lo hi=>∃t u v,h.get? a=some {cls:=.type "range",data:=.fields #[.int lo t,.int hi u,.int 1 v]}
 |.frz o u=>h.get? a=some o/\ObjOk H h a u
 |.tbl ps=>h.get? a=some {cls:=.none,data:=.fields ps}
 |.met f x=>h.get? a=some (PySem.W.methodObj (.ref f) (.ref x))
 |.ext φ=>φ h/\(∃o,h.get? a=some o)/\∀h1 h2:Heap,φ h1->(∀o,h1.get? a=some o->h2.get? a=some o)->φ h2
def HOk(H:Hp)(h:Heap):Prop:=∀a o,H a=some o->ObjOk P w H h a o
end
section
variable {P:Program}{w:World}{H H':Hp}{h h':Heap}{a:Addr}{o:HO}
theorem ObjOk.lt(x:ObjOk P w H h a o):a<h.objs.size:=by
 cases o with
 |lst xs=>obtain⟨_,_,_,_,e⟩:=x;exact D1 e
 |tup xs=>obtain⟨_,_,_,p⟩:=x;exact p.lt
 |dK kvs=>obtain⟨_,_,_,_,o,_,_,e,_⟩:=x;exact D1 e
 |dT kvs=>obtain⟨_,_,_,_,o,_,_,e,_⟩:=x;exact D1 e
 |set S n=>obtain⟨o,_,_,_,e,_⟩:=x;exact D1 e
 |ins C dx fs=>obtain⟨_,_,_,e,_⟩:=x;exact D1 e
 |own y=>obtain⟨_,e⟩:=x;exact D1 e
 |xd fs=>obtain⟨_,⟨_,_,_,e,_⟩,_⟩:=x;exact D1 e
 |rng lo hi=>obtain⟨_,_,_,e⟩:=x;exact D1 e
 |frz ob u=>obtain⟨e,_⟩:=x;exact D1 e
 |tbl ps=>exact D1 (show h.get? a=some _ from x)
 |met f y=>exact D1 (show h.get? a=some _ from x)
 |ext φ=>obtain⟨_,⟨_,e⟩,_⟩:=x;exact D1 e
theorem Paired.mapP:∀{l₁:List α}{l₂:List β},Paired F l₁ l₂->(∀a b,F a b->G a b)->Paired G l₁ l₂
 |_,_,.nil,_=>.nil
 |_,_,.cons r t,f=>.cons (f _ _ r) (Paired.mapP t f)
theorem ObjOk.stay(x:ObjOk P w H h a o)(k:∀b u,(b=a\/H b=some (.own a))->h.get? b=some u->h'.get? b=some u)
  (ho:∀b,H b=some (.own a)->H' b=some (.own a)) (ht:∀b xs,H b=some (.tup xs)->H' b=some (.tup xs)):ObjOk P w H' h' a o:=by
 induction o with
 |lst xs=>obtain⟨z,its,n,r,e⟩:=x;exact⟨z,its,n,r,k _ _ (.inl rfl) e⟩
 |tup xs=>obtain⟨z,its,r,ob,e,c⟩:=x;exact⟨z,its,r,ob,k _ _ (.inl rfl) e,c⟩
 |dK kvs=>obtain⟨z,y,vs,r,ob,es,ep,e,c⟩:=x;exact⟨z,y,vs,r,ob,es,ep,k _ _ (.inl rfl) e,c⟩
 |dT kvs=>
  obtain⟨z,y,xs,r,ob,es,ep,e,c⟩:=x;exact⟨z,y,xs,Paired.mapP r λp q z=>⟨z.1,ht _ _ z.2.1,z.2.2⟩,ob,es,ep,k _ _ (.inl rfl) e,c⟩
 |set S n=>obtain⟨ob,es,ep,t,e,c⟩:=x;exact⟨ob,es,ep,t,k _ _ (.inl rfl) e,c⟩
 |ins C dx fs=>
  obtain⟨d,z,ne,e,mA,⟨od,es,ep,e2,c⟩,r⟩:=x;exact⟨ho _ d,z,ne,k _ _ (.inl rfl) e,mA,⟨od,es,ep,k _ _ (.inr d) e2,c⟩,r⟩
 |own y=>obtain⟨ob,e⟩:=x;exact⟨ob,k _ _ (.inl rfl) e⟩
 |xd fs=>obtain⟨mA,⟨od,es,ep,e,c⟩,r⟩:=x;exact⟨mA,⟨od,es,ep,k _ _ (.inl rfl) e,c⟩,r⟩
 |rng lo hi=>obtain⟨t,u,v,e⟩:=x;exact⟨t,u,v,k _ _ (.inl rfl) e⟩
 |frz ob u ih=>obtain⟨e,q⟩:=x;exact⟨k _ _ (.inl rfl) e,ih q⟩
 |tbl ps=>
  have e:h.get? a=some {cls:=.none,data:=.fields ps}:=x;show h'.get? a=some {cls:=.none,data:=.fields ps};exact k a _ (.inl rfl) e
 |met f y=>
  have e:h.get? a=some (PySem.W.methodObj (.ref f) (.ref y)):=x;show h'.get? a=some (PySem.W.methodObj (.ref f) (.ref y));exact k a _ (.inl rfl) e
 |ext φ=>obtain⟨p,⟨o,e⟩,st⟩:=x;exact⟨st _ _ p λo q=>k _ _ (.inl rfl) q,⟨o,k _ _ (.inl rfl) e⟩,st⟩
theorem HOk.lt(x:HOk P w H h)(e:H a=some o):a<h.objs.size:=(x a o e).lt
theorem HOk.fresh(x:HOk P w H h)(e:h.objs.size<=a):H a=none:=by
 cases q:H a with
 |none=>rfl
 |some u=>exact absurd (D0 (x.lt q) e) (EF _)
theorem HOk.kept(x:HOk P w H h)(k:∀b u,h.get? b=some u->h'.get? b=some u):HOk P w H h':=λa o e=>
 (x a o e).stay (λb u _ q=>k b u q) (λ_ q=>q) λ_ _ q=>q
theorem HOk.laid(x:HOk P w H h)(k:∀b u,h.get? b=some u->h'.get? b=some u)(hp:h.objs.size<=a)(new:ObjOk P w (upd H a o) h' a o):HOk P w (upd H a o) h':=λb u e=>by
 have hn:=x.fresh hp;by_cases hb:b=a
 ·subst hb;rw[ad]at e;cases e;exact new
 ·rw[aa hb]at e;exact (x b u e).stay (λc v _ q=>k c v q) (λc q=>by rw[aa (au q hn)];exact q) λc xs q=>by rw[aa (au q hn)];exact q
end
def Rd(H:Hp)(a:Addr)(u:HO):Prop:=H a=some u\/∃o,H a=some (.frz o u)
theorem Rd.ok{P:Program}{w:World}{H:Hp}{h:Heap}{a:Addr}{u:HO}(r:Rd H a u)(x:HOk P w H h):ObjOk P w H h a u:=by
 rcases r with r|⟨o,r⟩
 ·exact x a u r
 ·obtain⟨_,q⟩:=x a _ r;exact q
def Mut:Option HO->Prop
 |some (.lst _)=>True
 |some (.dK _)=>True
 |some (.dT _)=>True
 |some (.set _ _)=>True
 |some (.ins _ _ _)=>True
 |some (.ext _)=>True
 |_=>False
section
variable {P:Program}{w:World}{h h':Heap}{x e:Addr}
theorem HOk.write(ok:HOk P w H h)(mu:Mut (H x))(he:e=x\/H e=some (.own x))(k:∀b u,b≠e->h.get? b=some u->h'.get? b=some u)(heo:∃u,h'.get? e=some u)
  (new:ObjOk P w (upd H x o') h' x o'):HOk P w (upd H x o') h':=λb u q=>by
 have nown:∀c y,H c=some (.own y)->c≠x:=λc y r z=>by subst z;rw[r]at mu;exact mu
 have Ai:∀c xs,H c=some (.tup xs)->c≠x:=λc xs r z=>by subst z;rw[r]at mu;exact mu
 by_cases hb:b=x
 ·subst hb;rw[ad]at q;cases q;exact new
 ·rw[aa hb]at q;by_cases hbe:b=e
  ·have q':H b=some (.own x):=by
    rcases he with z|z
    ·exact absurd (hbe.trans z) hb
    ·rw[hbe];exact z
   rw[q]at q';cases q';obtain⟨v,hv⟩:=heo;exact⟨v,by rw[hbe];exact hv⟩
  ·refine (ok b u q).stay (λc v hc r=>k c v ?_ r) (λc r=>by rw[aa (nown c b r)];exact r) λc xs r=>by rw[aa (Ai c xs r)];exact r
   rcases hc with rfl|hc
   ·exact hbe
   ·rintro rfl;rcases he with z|z
    ·exact nown c b hc z
    ·rw[hc]at z;cases z;exact hb rfl
end
structure Un (fs ex:List Addr)(H H':Hp)(h h':Heap):Prop where
 keep:∀b o,h.get? b=some o->H b=none->b∉fs->b∉ex->h'.get? b=some o
 slot:∀b o,h.get? b=some o->H b=none->b∈fs->b∉ex->∃sl,h'.get? b=some {o with slots:=sl}
 free:∀b o,h.get? b=some o->H b=none->b∉ex->H' b=none
 there:∀b o,h.get? b=some o->b∉ex->∃o',h'.get? b=some o'
 tups:∀b xs,H b=some (.tup xs)->H' b=some (.tup xs)
 frzs:∀b o u,H b=some (.frz o u)->H' b=some (.frz o u)
 tbls:∀b ps,H b=some (.tbl ps)->∃more,H' b=some (.tbl (ps++more))
section
variable {fs fs' ex ex':List Addr}{H H1 H2:Hp}{h h1 h2 h':Heap}{a x e:Addr}{o:HO}
theorem Un.any(u:Un fs ex H H1 h h1)(q:h.get? b=some ob)(n:H b=none)(hx:b∉ex):∃sl,h1.get? b=some {ob with slots:=sl}:=by
 by_cases hb:b∈fs
 ·exact u.slot b ob q n hb hx
 ·exact⟨ob.slots,u.keep b ob q n hb hx⟩
theorem Un.kept(k:∀b u,h.get? b=some u->h'.get? b=some u):Un fs ex H H h h':=
 ⟨λb ob q _ _ _=>k b ob q,λb ob q _ _ _=>⟨ob.slots,k b ob q⟩,λ_ _ _ n _=>n,λb ob q _=>⟨ob,k b ob q⟩,λ_ _ q=>q,λ_ _ _ q=>q,λ_ ps q=>⟨#[],by rw[q];simp⟩⟩
theorem Un.refl:Un fs ex H H h h:=Un.kept λ_ _ q=>q
theorem Un.laid(k:∀b u,h.get? b=some u->h'.get? b=some u)(hp:h.objs.size<=a)(hn:H a=none):Un fs ex H (upd H a o) h h' where
 keep:=λb u q _ _ _=>k b u q
 slot:=λb u q _ _ _=>⟨u.slots,k b u q⟩
 free:=λb u q n _=>by rw[aa (Ek (D0 (D1 q) hp))];exact n
 there:=λb u q _=>⟨u,k b u q⟩
 tups:=λb xs q=>by rw[aa (au q hn)];exact q
 frzs:=λb u xs q=>by rw[aa (au q hn)];exact q
 tbls:=λb ps q=>⟨#[],by rw[aa (au q hn),q];simp⟩
theorem Un.write(mu:Mut (H x))(he:e=x\/H e=some (.own x))(k:∀b u,b≠e->h.get? b=some u->h'.get? b=some u)(heo:∃u,h'.get? e=some u):Un fs ex H (upd H x o) h h':=by
 have hx:∀b,H b=none->b≠x:=λb n z=>by subst z;rw[n]at mu;exact mu
 have hb:∀b,H b=none->b≠e:=λb n z=>by
  subst z;rcases he with r|r
  ·exact hx b n r
  ·rw[n]at r;cases r
 have hm:∀b u,H b=some u->¬ Mut (some u)->b≠x:=λb u q nm z=>by subst z;rw[q]at mu;exact nm mu
 refine⟨λb u q n _ _=>k b u (hb b n) q,λb u q n _ _=>⟨u.slots,k b u (hb b n) q⟩,λb u q n _=>by rw[aa (hx b n)];exact n,λb u q _=>?_,
  λb xs q=>by rw[aa (hm b _ q λz=>z)];exact q,λb u xs q=>by rw[aa (hm b _ q λz=>z)];exact q,λb ps q=>⟨#[],by rw[aa (hm b _ q λz=>z),q];simp⟩⟩
 by_cases hbe:b=e
 ·subst hbe;exact heo
 ·exact⟨u,k b u hbe q⟩
end
noncomputable def trk(h:Heap)(H:Hp):List Addr:=(List.range h.objs.size).filter λa=>(H a).isSome
noncomputable def kD(h:Heap)(H:Hp):Heap:=PySem.W.hideAll h (trk h H)
theorem pK(h:Heap)(H:Hp):(kD h H).objs.size=h.objs.size:=PySem.W.hideAll_size _ _
theorem re{h:Heap}(e:h.get? b=some o)(n:H b=none):(kD h H).get? b=some o:=
 PySem.W.hideAll_get _ e λhm=>by
  have q:(H b).isSome=true:=(List.mem_filter.mp hm).2;rw[n]at q;simp at q
theorem ua{h:Heap}(e:(kD h H).get? b=some o):h.get? b=some o/\H b=none:=by
 have e':h.get? b=some o:=PySem.W.of_hideAll (trk h H) e;refine⟨e',?_⟩;cases q:H b with
 |none=>rfl
 |some x=>
  have hm:b∈trk h H:=List.mem_filter.mpr ⟨List.mem_range.mpr (D1 e'),by simp[q]⟩
  have z:(kD h H).get? b=none:=PySem.W.hideAll_none (trk h H) hm;rw[z]at e;cases e
noncomputable def tL(g h:Heap)(L:Addr):List (Addr×Obj):=(List.range h.objs.size).filterMap λa=>if a=L\/(g.get? a).isSome=true then none else (h.get? a).map λo=>(a,o)
noncomputable def rest(g h:Heap)(L d:Addr):List (Addr×Obj):=(tL g h L).filter λp=>decide (p.1≠d)
structure Mod (K:E7)(mg:Str->Option Value)(base:Heap):Prop where
 kin:K.In base
 glob:base.Ns mainGlobals mg
 blt:∃mb,base.Ns builtinsNs mb/\∀x:Str,x≠"__name__"->mb x=bootBuiltins x
 nolimit:base.NoLimit
structure Cx where
 prog:Program
 w:World
 K:E7
 mg:Str->Option Value
 base:Heap
 A:Around
 N:List Str
 s₀:Shared
 H₀:Hp
 env:Env
 outer:List Env
 stack:List Env
 ex:List Addr
 fn:Str->Bool
 calm:Bool
 pn:List (Addr×Obj)
 xe:Value->Shared->Prop
noncomputable def frs(l:List Env):List Addr:=l.filterMap (·.frame)
noncomputable abbrev Cx.fs(X:Cx):List Addr:=frs X.outer
def Vis(sc:Scope)(x:Str):Prop:=sc.names.lookup x=some .local\/sc.names.lookup x=some .cell\/sc.names.lookup x=some .free
def Loc(sc:Scope)(x:Str):Prop:=sc.names.lookup x=some .local\/sc.names.lookup x=some .cell
def Aw(env:Env)(h:Heap)(m:Str->Option Value)(x:Str)(u:Value):Prop:=
 (env.kindOf x=some .local/\m x=some u)\/((env.kindOf x=some .cell\/env.kindOf x=some .free)/\∃c,env.cells.lookup x=some c/\h.IsCell c (some u))
structure Cx.Ok (X:Cx):Prop where
 mod:Mod X.K X.mg X.base
 kind:X.env.scope.kind=.function
 glob:X.env.globals=mainGlobals
 blt:X.env.builtins=builtinsNs
 above:X.s₀.heap.objs.size<=X.env.locals
 inj:∀x y c,X.env.cells.lookup x=some c->X.env.cells.lookup y=some c->x=y
 has:∀x,(X.env.kindOf x=some .cell\/X.env.kindOf x=some .free)->∃c,X.env.cells.lookup x=some c
 cab:∀x c,X.fn x=true->X.env.cells.lookup x=some c->X.s₀.heap.objs.size<=c
 hd:X.calm=true->X.A.handled=none
 frames:X.A.frames=some X.stack
 stk:X.stack=X.outer\/(X.stack=X.env::X.outer/\X.env.frame=some X.env.locals)
 exf:∀b∈X.ex,b≠X.env.locals/\∀x c,X.env.cells.lookup x=some c->c≠b
 bs:∀b o,X.base.get? b=some o->X.s₀.heap.get? b=some o/\X.H₀ b=none
 bsz:X.base.objs.size<=X.s₀.heap.objs.size
 noex:∀b o,X.base.get? b=some o->b∉X.ex
 exfs:∀b∈X.ex,b∉X.fs
 funs:X.s₀.heap.FunFrames X.base X.outer
 frf:∀b∈X.fs,X.H₀ b=none
structure Inv (X:Cx) (pins:List (Addr×Obj)) (σ:List (Option V)) (H:Hp)(s:Shared):Prop where
 ok:X.Ok
 os:s.os=X.s₀.os/\0<s.toks
 bare:AllBare s.gens
 base:Un X.fs X.ex X.H₀ H X.s₀.heap s.heap
 loc:∃m,s.heap.Ns X.env.locals m/\∀(i:Nat)(x:Str)(v:V),X.N[i]?=some x->σ[i]?=some (some v)->Vis X.env.scope x->∃u,RelV v u/\Aw X.env s.heap m x u
 cell:∀x c,X.env.cells.lookup x=some c->∃v,s.heap.IsCell c v
 free:H X.env.locals=none
 freeC:∀x c,X.env.cells.lookup x=some c->H c=none
 pin:∀p∈X.pn++pins,s.heap.get? p.1=some p.2/\H p.1=none/\p.1≠X.env.locals/\p.1∉X.fs/\∀v,p.2.data≠.cell v
 hok:HOk X.prog X.w H s.heap
 len:σ.length=X.N.length
section
variable {X:Cx}{σ:List (Option V)}{s:Shared}{h':Heap}
theorem Inv.tk(I:Inv X pins σ H s):0<s.toks:=I.os.2
theorem Cx.Ok.nofr(ok:X.Ok)(e:X.base.get? b=some o):b∉X.fs:=λhb=>by
 have:=(ok.funs.mem hb).1;rw[e]at this;cases this
theorem Inv.bs(I:Inv X pins σ H s):∀b o,X.base.get? b=some o->s.heap.get? b=some o/\H b=none:=λb o e=>
 ⟨I.base.keep b o (I.ok.bs b o e).1 (I.ok.bs b o e).2 (I.ok.nofr e) (I.ok.noex b o e),I.base.free b o (I.ok.bs b o e).1 (I.ok.bs b o e).2 (I.ok.noex b o e)⟩
theorem Inv.bk(I:Inv X pins σ H s):∀b o,X.base.get? b=some o->s.heap.get? b=some o:=λb o e=>(I.bs b o e).1
theorem Inv.mod(I:Inv X pins σ H s):Mod X.K X.mg X.base:=I.ok.mod
theorem Inv.kIn(I:Inv X pins σ H s):X.K.In s.heap:=I.ok.mod.kin.keeps I.bk
theorem Inv.lt(I:Inv X pins σ H s):X.env.locals<s.heap.objs.size:=let ⟨_,hn,_⟩:=I.loc;hn.lt
theorem Inv.sz(I:Inv X pins σ H s):X.s₀.heap.objs.size<=s.heap.objs.size:=Ej I.ok.above (Nat.le_of_lt I.lt)
theorem Inv.nofs(I:Inv X pins σ H s)(h:s.heap.objs.size<=a):a∉X.fs:=λhb=>by
 obtain⟨_,o,ho,_⟩:=I.ok.funs.mem hb;exact absurd (D0 (D1 ho) (Ej I.sz h)) (EF _)
theorem Inv.cne(I:Inv X pins σ H s):∀x c,X.env.cells.lookup x=some c->c≠X.env.locals:=λx c e z=>by
 obtain⟨v,o,ho,hd⟩:=I.cell x c e;obtain⟨m,⟨o',es,ep,ho',hd',_⟩,_⟩:=I.loc;rw[z,ho']at ho;cases ho;rw[hd']at hd;cases hd
theorem Inv.funs(I:Inv X pins σ H s):s.heap.FunFrames X.base X.outer:=by
 have all:∀(l:List Env),(∀b∈frs l,b∈X.fs)->X.s₀.heap.FunFrames X.base l->s.heap.FunFrames X.base l:=by
  intro l
  induction l with
  |nil=>intro _ _;trivial
  |cons env r ih=>
   intro hs hl;obtain⟨hk,⟨L,o,hf,hn,ho,hd⟩,hr⟩:=hl;have hL:L∈X.fs:=hs L (by unfold frs;rw[List.filterMap_cons,hf];exact DW)
   obtain⟨sl,e⟩:=I.base.slot L o ho (I.ok.frf L hL) hL λz=>I.ok.exfs L z hL
   exact⟨hk,⟨L,_,hf,hn,e,hd⟩,ih (λb hb=>hs b (by unfold frs;rw[List.filterMap_cons,hf];exact DT _ hb)) hr⟩
 exact all X.outer (λ_ hb=>hb) I.ok.funs
theorem Inv.stack(I:Inv X pins σ H s):s.heap.FunFrames X.base X.stack:=by
 rcases I.ok.stk with e|⟨e,hf⟩
 ·rw[e];exact I.funs
 ·rw[e];obtain⟨m,hn,_⟩:=I.loc;refine .cons (by rw[I.ok.kind];decide) hf hn ?_ I.funs
  exact Heap.get?_none_of_le (Ej I.ok.bsz I.ok.above)
theorem Inv.stkSub(I:Inv X pins σ H s):∀b∈frs X.stack,b∈X.env.locals::X.fs:=λb hb=>by
 rcases I.ok.stk with e|⟨e,hf⟩
 ·rw[e]at hb;exact DT _ hb
 ·rw[e]at hb;unfold frs at hb;rw[List.filterMap_cons,hf]at hb;exact hb
theorem Inv.stkFree(I:Inv X pins σ H s):∀b∈frs X.stack,H b=none:=λb hb=>by
 rcases DX.mp (I.stkSub b hb) with e|hb
 ·rw[e];exact I.free
 ·obtain⟨_,o,ho,_⟩:=I.ok.funs.mem hb;exact I.base.free b o ho (I.ok.frf b hb) λz=>I.ok.exfs b z hb
theorem Inv.step{g':Array GenState}{t':Nat}{d':Drawn}{ch:List Addr}(I:Inv X pins σ H s)
  (hch:∀b∈ch,(b∈X.ex\/X.s₀.heap.objs.size<=b)/\b≠X.env.locals/\(∀x c,X.env.cells.lookup x=some c->c≠b)/\∀p∈X.pn++pins,p.1≠b)
  (keep:∀b o,b≠X.env.locals->b∉X.fs->b∉ch->s.heap.get? b=some o->H b=none->h'.get? b=some o)
  (slot:∀b o,b≠X.env.locals->b∈X.fs->b∉ch->s.heap.get? b=some o->H b=none->∃sl,h'.get? b=some {o with slots:=sl}) (free:∀b o,b∉ch->s.heap.get? b=some o->H b=none->H' b=none)
  (there:∀b o,b∉ch->s.heap.get? b=some o->∃o',h'.get? b=some o')
  (tups:∀b xs,H b=some (.tup xs)->H' b=some (.tup xs)) (frzs:∀b o u,H b=some (.frz o u)->H' b=some (.frz o u)) (tbls:∀b ps,H b=some (.tbl ps)->∃more,H' b=some (.tbl (ps++more)))
  (ns:∀m,s.heap.Ns X.env.locals m->h'.Ns X.env.locals m)(hok:HOk X.prog X.w H' h')(hg:AllBare g')(ht:0<t') :
  Inv X pins σ H' {s with heap:=h',gens:=g',drawn:=d',toks:=t'}:=by
 have neL:∀b o,X.s₀.heap.get? b=some o->b≠X.env.locals:=λb o e=>Ek (D0 (D1 e) I.ok.above)
 have neC:∀b o,X.s₀.heap.get? b=some o->b∉X.ex->b∉ch:=λb o e hx hb=>by
  rcases (hch b hb).1 with z|z
  ·exact hx z
  ·exact absurd (D0 (D1 e) z) (EF _)
 have cellK:∀x c,X.env.cells.lookup x=some c->∀v,s.heap.IsCell c v->h'.IsCell c v:=λx c e v ⟨o,ho,hd⟩=>by
  have nch:c∉ch:=λz=>(hch c z).2.2.1 x c e rfl
  by_cases hc:c∈X.fs
  ·obtain⟨sl,q⟩:=slot c o (I.cne x c e) hc nch ho (I.freeC x c e);exact⟨_,q,hd⟩
  ·exact⟨o,keep c o (I.cne x c e) hc nch ho (I.freeC x c e),hd⟩
 refine⟨I.ok,⟨I.os.1,ht⟩,hg,⟨λb o e n hb hx=>?_,λb o e n hb hx=>?_,λb o e n hx=>?_,λb o e hx=>?_,λb xs e=>tups b xs (I.base.tups b xs e),λb o xs e=>frzs b o xs (I.base.frzs b o xs e),λb ps e=>?_⟩,?_,λx c e=>?_,?_,λx c e=>?_,λp hp=>?_,hok,I.len⟩
 ·exact keep b o (neL b o e) hb (neC b o e hx) (I.base.keep b o e n hb hx) (I.base.free b o e n hx)
 ·obtain⟨sl,e1⟩:=I.base.slot b o e n hb hx;obtain⟨sl',e2⟩:=slot b _ (neL b o e) hb (neC b o e hx) e1 (I.base.free b o e n hx);exact⟨sl',e2⟩
 ·obtain⟨o',e1⟩:=I.base.there b o e hx;exact free b o' (neC b o e hx) e1 (I.base.free b o e n hx)
 ·obtain⟨o',e1⟩:=I.base.there b o e hx;exact there b o' (neC b o e hx) e1
 ·obtain⟨m1,e1⟩:=I.base.tbls b ps e;obtain⟨m2,e2⟩:=tbls b _ e1;exact⟨m1++m2,by rw[e2,Array.append_assoc]⟩
 ·obtain⟨m,hn,hl⟩:=I.loc;refine⟨m,ns m hn,λi x v e1 e2 e3=>?_⟩
  obtain⟨u,r,l⟩:=hl i x v e1 e2 e3;refine⟨u,r,?_⟩;rcases l with l|⟨k,c,e,z⟩
  ·exact .inl l
  ·exact .inr ⟨k,c,e,cellK x c e _ z⟩
 ·obtain⟨v,z⟩:=I.cell x c e;exact⟨v,cellK x c e v z⟩
 ·obtain⟨m,⟨o,_,_,ho,_⟩,_⟩:=I.loc;exact free _ o (λz=>(hch _ z).2.1 rfl) ho I.free
 ·obtain⟨v,o,ho,hd⟩:=I.cell x c e;exact free c o (λz=>(hch c z).2.2.1 x c e rfl) ho (I.freeC x c e)
 ·obtain⟨e,n,ne,nf,d⟩:=I.pin p hp;have nch:p.1∉ch:=λz=>(hch p.1 z).2.2.2 p hp rfl
  exact⟨keep p.1 p.2 ne nf nch e n,free p.1 p.2 nch e n,ne,nf,d⟩
theorem Inv.un{t':Nat}(I:Inv X pins σ H s)(u:Un X.fs [] H H' s.heap h')(hok:HOk X.prog X.w H' h')(ht:0<t':=by first|exact EL _|assumption|exact Inv.tk (by assumption)|exact Env0.tk (by assumption)|exact D0 (Inv.tk (by assumption)) (Eu _ _)):Inv X pins σ H' {s with heap:=h',toks:=t'}:=by
 obtain⟨m,⟨o,es,ep,ho,r⟩,_⟩:=id I.loc;obtain⟨sl,hL⟩:=u.any ho I.free (by simp)
 exact I.step (g':=s.gens) (d':=s.drawn) (ch:=[]) (λ_ z=>nomatch z) (λb o _ hb _ e n=>u.keep b o e n hb (by simp)) (λb o _ hb _ e n=>u.slot b o e n hb (by simp)) (λb o _ e n=>u.free b o e n (by simp)) (λb o _ e=>u.there b o e (by simp)) u.tups u.frzs u.tbls (λm' hm=>by
  obtain⟨o',es',ep',ho',r'⟩:=hm;rw[ho]at ho';cases ho';exact⟨_,es',ep',hL,r'⟩) hok I.bare ht
theorem Inv.call{g':Array GenState}{t':Nat}{d':Drawn}{ch:List Addr}(I:Inv X pins σ H s)(u:Un (frs X.stack) ch H H' s.heap h')(hok:HOk X.prog X.w H' h')(hg:AllBare g')
  (hch:∀b∈ch,(b∈X.ex\/X.s₀.heap.objs.size<=b)/\b≠X.env.locals/\(∀x c,X.env.cells.lookup x=some c->c≠b)/\∀p∈X.pn++pins,p.1≠b) (ht:0<t':=by first|exact EL _|assumption|exact Inv.tk (by assumption)|exact Env0.tk (by assumption)|exact D0 (Inv.tk (by assumption)) (Eu _ _)) :
  Inv X pins σ H' {s with heap:=h',gens:=g',drawn:=d',toks:=t'}:=by
 obtain⟨m,⟨o,es,ep,ho,r⟩,_⟩:=id I.loc;obtain⟨sl,hL⟩:=u.any ho I.free λz=>(hch _ z).2.1 rfl
 exact I.step (ch:=ch) hch (λb o hL hb hc e n=>u.keep b o e n (λz=>(DX.mp (I.stkSub b z)).elim hL hb) hc) (λb o _ _ hc e n=>u.any e n hc) (λb o hc e n=>u.free b o e n hc) (λb o hc e=>u.there b o e hc) u.tups u.frzs u.tbls (λm' hm=>by
  obtain⟨o',es',ep',ho',r'⟩:=hm;rw[ho]at ho';cases ho';exact⟨_,es',ep',hL,r'⟩) hok hg ht
theorem Inv.turned{t':Nat}{it:Addr}(I:Inv X pins σ H s)(k:∀b o,b≠it->s.heap.get? b=some o->h'.get? b=some o)(hn:H it=none)(hL:it≠X.env.locals)
  (h1:it∈X.ex\/X.s₀.heap.objs.size<=it) (h2:∀x c,X.env.cells.lookup x=some c->c≠it) (h3:∀p∈X.pn++pins,p.1≠it) (ht:0<t':=by first|exact EL _|assumption|exact Inv.tk (by assumption)|exact Env0.tk (by assumption)|exact D0 (Inv.tk (by assumption)) (Eu _ _)):Inv X pins σ H {s with heap:=h',toks:=t'}:=by
 have nit:∀b u,H b=some u->b≠it:=λb u e z=>by rw[z,hn]at e;cases e
 refine I.step (g':=s.gens) (d':=s.drawn) (ch:=[it]) (λb hb=>?_) (λb o _ _ hc e _=>k b o (λz=>hc (by simp[z])) e) (λb o _ _ hc e _=>⟨o.slots,k b o (λz=>hc (by simp[z])) e⟩) (λ_ _ _ _ n=>n)
  (λb o hc e=>⟨o,k b o (λz=>hc (by simp[z])) e⟩) (λ_ _ e=>e) (λ_ _ _ e=>e) (λb ps e=>⟨#[],by rw[e];simp⟩) (λm hm=>?_) (λb u e=>?_) I.bare ht
 ·have e:b=it:=by simpa using hb
  subst e;exact⟨h1,hL,h2,h3⟩
 ·obtain⟨o,es,ep,ho,r⟩:=hm;exact⟨o,es,ep,k _ o (Ea hL) ho,r⟩
 ·refine (I.hok b u e).stay (λc v hc q=>k c v ?_ q) (λ_ q=>q) λ_ _ q=>q
  rcases hc with z|z
  ·rw[z];exact nit b u e
  ·exact nit c _ z
theorem Inv.tok(I:Inv X pins σ H s)(t:Nat)(ht:0<t:=by first|exact EL _|assumption|exact Inv.tk (by assumption)|exact Env0.tk (by assumption)|exact D0 (Inv.tk (by assumption)) (Eu _ _)):Inv X pins σ H {s with toks:=t}:=I.un (h':=s.heap) (t':=t) Un.refl I.hok
theorem Inv.kept(I:Inv X pins σ H s)(k:∀b u,s.heap.get? b=some u->h'.get? b=some u)(ht:0<t':=by first|exact EL _|assumption|exact Inv.tk (by assumption)|exact Env0.tk (by assumption)|exact D0 (Inv.tk (by assumption)) (Eu _ _)):Inv X pins σ H {s with heap:=h',toks:=t'}:=I.un (Un.kept k) (I.hok.kept k)
theorem Inv.laid(I:Inv X pins σ H s)(k:∀b u,s.heap.get? b=some u->h'.get? b=some u)(hp:s.heap.objs.size<=a)(new:ObjOk X.prog X.w (upd H a o) h' a o)(ht:0<t':=by first|exact EL _|assumption|exact Inv.tk (by assumption)|exact Env0.tk (by assumption)|exact D0 (Inv.tk (by assumption)) (Eu _ _)) :
  Inv X pins σ (upd H a o) {s with heap:=h',toks:=t'}:=I.un (Un.laid k hp (I.hok.fresh hp)) (I.hok.laid k hp new)
theorem Inv.write(I:Inv X pins σ H s)(mu:Mut (H x))(he:e=x\/H e=some (.own x))(k:∀b u,b≠e->s.heap.get? b=some u->h'.get? b=some u)(heo:∃u,h'.get? e=some u)
  (new:ObjOk X.prog X.w (upd H x o) h' x o) (ht:0<t':=by first|exact EL _|assumption|exact Inv.tk (by assumption)|exact Env0.tk (by assumption)|exact D0 (Inv.tk (by assumption)) (Eu _ _)):Inv X pins σ (upd H x o) {s with heap:=h',toks:=t'}:=I.un (Un.write mu he k heo) (I.hok.write mu he k heo new)
theorem Inv.pins_of(I:Inv X pins σ H s)(h:∀p∈pins',s.heap.get? p.1=some p.2/\H p.1=none/\p.1≠X.env.locals/\p.1∉X.fs/\∀v,p.2.data≠.cell v):Inv X pins' σ H s:=
 ⟨I.ok,I.os,I.bare,I.base,I.loc,I.cell,I.free,I.freeC,λp hp=>(Eo.mp hp).elim (λz=>I.pin p (Ev _ z)) (h p),I.hok,I.len⟩
theorem iP{N:List Str}(hN:N.Nodup){i j:Nat}{x:Str}(a:N[i]?=some x)(b:N[j]?=some x):i=j:=by
 obtain⟨h1,e1⟩:=EM.mp a;obtain⟨h2,e2⟩:=EM.mp b;exact (List.getElem_inj hN).mp (e1.trans e2.symm)
theorem pA{M:Model}{A:Around}{E:Value->Shared->Prop}{i:Nat}{x:Str}{v:V}{u:Value}{Q:Unit->Shared->Prop}(I:Inv X pins σ H s)(hN:X.N.Nodup)(hi:X.N[i]?=some x)(hx:Loc X.env.scope x)(r:RelV v u)
  (h:∀s',Inv X pins (σ.set i (some v)) H s'->(∃a,Heap.SameBut a s.heap s'.heap/\(a=X.env.locals\/X.env.cells.lookup x=some a))->Q () s') (hf:X.fn x=true\/X.env.scope.names.lookup x=some .local:=by first|exact .inl rfl|exact .inr rfl|assumption):wpAny M A (storeName X.env x u) Q E s:=by
 obtain⟨m,hn,hl⟩:=id I.loc;have hcls:(X.env.scope.kind == .class||(X.env.scope.kind == .module&&X.env.locals != X.env.globals))=false:=by rw[I.ok.kind];rfl
 have hiσ:i<σ.length:=by rw[I.len];exact (EM.mp hi).1
 have cne:=I.cne;have tracked:∀{a:Addr}{h':Heap},(∃o,s.heap.get? a=some o/\H a=none)->Heap.SameBut a s.heap h'->HOk X.prog X.w H h':=λ{a h'} ha hs b ob e=>by
  obtain⟨_,_,hfree⟩:=ha;refine (I.hok b ob e).stay (λc w' hc q=>(hs.2 c ?_).trans q) (λ_ q=>q) λ_ _ q=>q
  rintro rfl;rcases hc with rfl|hc
  ·rw[hfree]at e;cases e
  ·rw[hfree]at hc;cases hc
 rcases hx with hk|hk
 ·refine wpAny_storeName_local hk hn (λh' hn' hs=>?_) hcls
  obtain⟨oL,_,_,hoL,_⟩:=id hn;refine h _ ⟨I.ok,⟨I.os.1,EL _⟩,I.bare,⟨λb o e n hb hx=>?_,λb o e n hb hx=>?_,I.base.free,λb o e hx=>?_,I.base.tups,I.base.frzs,I.base.tbls⟩,⟨_,hn',λj y v' e1 e2 e3=>?_⟩,λy c e=>?_,I.free,I.freeC,λp hp=>?_,tracked ⟨oL,hoL,I.free⟩ hs,by simpa using I.len⟩ ⟨_,hs,.inl rfl⟩
  ·exact (hs.2 b (Ek (D0 (D1 e) I.ok.above))).trans (I.base.keep b o e n hb hx)
  ·obtain⟨sl,e1⟩:=I.base.slot b o e n hb hx;exact⟨sl,(hs.2 b (Ek (D0 (D1 e) I.ok.above))).trans e1⟩
  ·obtain⟨o',e1⟩:=I.base.there b o e hx;exact⟨o',(hs.2 b (Ek (D0 (D1 e) I.ok.above))).trans e1⟩
  ·by_cases hj:j=i
   ·subst hj;rw[hi]at e1;cases e1;rw[List.getElem?_set_self hiσ]at e2;cases e2;exact⟨u,r,.inl ⟨hk,by simp⟩⟩
   ·rw[E0 (Ea hj)]at e2;obtain⟨u',r',q⟩:=hl j y v' e1 e2 e3;refine⟨u',r',?_⟩;rcases q with ⟨k,e⟩|⟨k,c,e,z⟩
    ·refine .inl ⟨k,?_⟩;have:y≠x:=λe=>hj (iP hN e1 (e▸hi))
     simp[this,e]
    ·exact .inr ⟨k,c,e,z.sameBut hs (cne y c e)⟩
  ·obtain⟨w',z⟩:=I.cell y c e;exact⟨w',z.sameBut hs (cne y c e)⟩
  ·obtain⟨e,n,ne,nf,d⟩:=I.pin p hp;exact⟨(hs.2 p.1 ne).trans e,n,ne,nf,d⟩
 ·have hfn:X.fn x=true:=by
   rcases hf with z|z
   ·exact z
   ·rw[z]at hk;cases hk
  obtain⟨c,hc⟩:=I.ok.has x (.inl hk);obtain⟨w',z⟩:=I.cell x c hc;refine wpAny_storeName_cell I.ok.kind hk hc z (λh' hc' hs=>?_)
  obtain⟨oc,hoc,hocd⟩:=id z;refine h {s with heap:=h'} ⟨I.ok,I.os,I.bare,⟨λb o e n hb hx=>?_,λb o e n hb hx=>?_,I.base.free,λb o e hx=>?_,I.base.tups,I.base.frzs,I.base.tbls⟩,⟨m,hn.sameBut hs (Ea (cne x c hc)),λj y v' e1 e2 e3=>?_⟩,λy c' e=>?_,I.free,I.freeC,λp hp=>?_,tracked ⟨oc,hoc,I.freeC x c hc⟩ hs,by simpa using I.len⟩ ⟨c,hs,.inr hc⟩
  ·exact (hs.2 b (Ek (D0 (D1 e) (I.ok.cab x c hfn hc)))).trans (I.base.keep b o e n hb hx)
  ·obtain⟨sl,e1⟩:=I.base.slot b o e n hb hx;exact⟨sl,(hs.2 b (Ek (D0 (D1 e) (I.ok.cab x c hfn hc)))).trans e1⟩
  ·obtain⟨o',e1⟩:=I.base.there b o e hx;exact⟨o',(hs.2 b (Ek (D0 (D1 e) (I.ok.cab x c hfn hc)))).trans e1⟩
  ·by_cases hj:j=i
   ·subst hj;rw[hi]at e1;cases e1;rw[List.getElem?_set_self hiσ]at e2;cases e2;exact⟨u,r,.inr ⟨.inl hk,c,hc,hc'⟩⟩
   ·rw[E0 (Ea hj)]at e2;obtain⟨u',r',q⟩:=hl j y v' e1 e2 e3;refine⟨u',r',?_⟩;rcases q with q|⟨k,c',e,z'⟩
    ·exact .inl q
    ·refine .inr ⟨k,c',e,z'.sameBut hs ?_⟩;rintro rfl;exact hj (iP hN e1 (I.ok.inj _ _ _ e hc▸hi))
  ·by_cases hcc:c'=c
   ·subst hcc;exact⟨_,hc'⟩
   ·obtain⟨w2,z2⟩:=I.cell y c' e;exact⟨w2,z2.sameBut hs hcc⟩
  ·obtain⟨e,n,ne,nf,d⟩:=I.pin p hp;refine⟨(hs.2 p.1 ?_).trans e,n,ne,nf,d⟩;intro q;rw[q,hoc]at e;have q':oc=p.2:=D9 e;exact d w' (by rw[<-q'];exact hocd)
theorem iJ(I:Inv X pins σ H s)(hN:X.N.Nodup)(hi:X.N[i]?=some x)(hx:Loc X.env.scope x)(r:RelV v u)
  (h:∀s',Inv X pins (σ.set i (some v)) H s'->Q () s') (hf:X.fn x=true\/X.env.scope.names.lookup x=some .local:=by first|exact .inl rfl|exact .inr rfl|assumption):wpAny M A (storeName X.env x u) Q E s:=
 pA I hN hi hx r (λs' I' _=>h s' I') hf
theorem Inv.call'{s':Shared}(I:Inv X pins σ H s)(ho:s'.os=s.os/\0<s'.toks)(u:Un (frs X.stack) ch H H' s.heap s'.heap)(hok:HOk X.prog X.w H' s'.heap)(hg:AllBare s'.gens)
  (hch:∀b∈ch,(b∈X.ex\/X.s₀.heap.objs.size<=b)/\b≠X.env.locals/\(∀x c,X.env.cells.lookup x=some c->c≠b)/\∀p∈X.pn++pins,p.1≠b):Inv X pins σ H' s':=by
 obtain⟨h',g',d',t',o'⟩:=s';have e:o'=s.os:=ho.1;subst e;have ht:=ho.2;exact I.call (g':=g') (t':=t') (d':=d') u hok hg hch
end
noncomputable abbrev XK:=Value->Option Addr->Hp->Prop
noncomputable abbrev St:=List (Option V)
noncomputable abbrev VK:=V->Hp->Prop
noncomputable abbrev TE:=St->Hp->VK->Prop
noncomputable abbrev TT:=St->Hp->(Bool->Hp->Prop)->Prop
noncomputable abbrev TA:=St->Hp->(List V->Hp->Prop)->Prop
structure Ends where
 nx:St->Hp->Prop
 rt:VK
 bk:St->Hp->Prop:=λ_ _=>False
 ct:St->Hp->Prop:=λ_ _=>False
noncomputable abbrev TS:=Ends->St->Hp->Prop
def EP(X:Cx)(pins:List (Addr×Obj))(σ:St)(Q:VK)(u:Value)(s':Shared):Prop:=∃v H',Inv X pins σ H' s'/\RelV v u/\Q v H'
def TP(X:Cx)(pins:List (Addr×Obj))(σ:St)(Q:Bool->Hp->Prop)(b:Bool)(s':Shared):Prop:=∃H',Inv X pins σ H' s'/\Q b H'
def AP(X:Cx)(pins:List (Addr×Obj))(σ:St)(Q:List V->Hp->Prop)(us:List Value)(s':Shared):Prop:=∃vs H',Inv X pins σ H' s'/\Vals vs us/\Q vs H'
def SP(X:Cx)(pins:List (Addr×Obj))(D:Ends)(f:Flow)(s':Shared):Prop:=
 match f with
 |.next=>∃σ' H',Inv X pins σ' H' s'/\D.nx σ' H'
 |.brk=>∃σ' H',Inv X pins σ' H' s'/\D.bk σ' H'
 |.cont=>∃σ' H',Inv X pins σ' H' s'/\D.ct σ' H'
 |.ret u=>∃v σ' H',Inv X pins σ' H' s'/\RelV v u/\D.rt v H'
def PE(X:Cx)(e:Expr)(t:TE):Prop:=
 ∀(pins:List (Addr×Obj)) (s:Shared)(σ:St)(H:Hp)(Q:VK),Inv X pins σ H s->t σ H Q->wpAny (model X.prog X.w) X.A (eval e X.env) (EP X pins σ Q) X.xe s
def PT(X:Cx)(e:Expr)(t:TT):Prop:=
 ∀(pins:List (Addr×Obj)) (s:Shared)(σ:St)(H:Hp)(Q:Bool->Hp->Prop),Inv X pins σ H s->t σ H Q->wpAny (model X.prog X.w) X.A (isTrue e X.env (eval e X.env)) (TP X pins σ Q) X.xe s
def PW(X:Cx)(e:Expr)(t:TT):Prop:=
 ∀(whole:Sem Value) (pins:List (Addr×Obj)) (s:Shared)(σ:St)(H:Hp)(Q:Bool->Hp->Prop),Inv X pins σ H s->t σ H Q->wpAny (model X.prog X.w) X.A (isTrue e X.env whole) (TP X pins σ Q) X.xe s
theorem PW.pt(h:PW X e t):PT X e t:=h _
def PA(X:Cx)(es:List Expr)(t:TA):Prop:=
 ∀(pos:Pos) (pins:List (Addr×Obj)) (s:Shared)(σ:St)(H:Hp)(Q:List V->Hp->Prop),Inv X pins σ H s->t σ H Q->wpAny (model X.prog X.w) X.A (spliced (backTo pos (starEach es X.env))) (AP X pins σ Q) X.xe s
def PS(X:Cx)(st:Stmt)(t:TS):Prop:=
 ∀(pins:List (Addr×Obj)) (s:Shared)(σ:St)(H:Hp)(D:Ends),Inv X pins σ H s->t D σ H->wpAny (model X.prog X.w) X.A (exec st X.env) (SP X pins D) X.xe s
def PSs(X:Cx)(st:List Stmt)(t:TS):Prop:=
 ∀(pins:List (Addr×Obj)) (s:Shared)(σ:St)(H:Hp)(D:Ends),Inv X pins σ H s->t D σ H->wpAny (model X.prog X.w) X.A (execs st X.env) (SP X pins D) X.xe s
theorem thn{α:Type}{t:Sem α}{Q Q':α->Shared->Prop}{M:Model}{A:Around}{E:Value->Shared->Prop}{s:Shared}(h:wpAny M A t Q E s)(hQ:∀a s,Q a s->Q' a s):wpAny M A t Q' E s:=EK h hQ λ_ _ x=>x
section
variable {X:Cx}
theorem bin{a b:Expr}{ta tb:TE}(ha:PE X a ta)(hb:PE X b tb){pins:List (Addr×Obj)}{s:Shared}{σ:St}{H:Hp}{R:V->V->Hp->Prop}(I:Inv X pins σ H s)(h:ta σ H λx H1=>tb σ H1 λy H2=>R x y H2)
  {α:Type}{Q:α->Shared->Prop}{f:Value->Value->Sem α}
  (hf:∀v u s2 x y H2,Inv X pins σ H2 s2->RelV x v->RelV y u->R x y H2->wpAny (model X.prog X.w) X.A (f v u) Q X.xe s2) :
  wpAny (model X.prog X.w) X.A (eval a X.env) (λv s₁=>wpAny (model X.prog X.w) X.A (eval b X.env) (λu s₂=>wpAny (model X.prog X.w) X.A (f v u) Q X.xe s₂) X.xe s₁) X.xe s:=by
 refine thn (ha pins s σ H _ I h) λv s1 ⟨x,H1,I1,r1,q1⟩=>?_
 refine thn (hb pins s1 σ H1 _ I1 q1) λu s2 ⟨y,H2,I2,r2,q2⟩=>?_
 exact hf v u s2 x y H2 I2 r1 r2 q2
noncomputable def tN(i:Nat):TE:=λσ H Q=>∃v,σ[i]?=some (some v)/\Q v H
noncomputable def tC(v:V):TE:=λ_ H Q=>Q v H
theorem kP(hN:X.N[i]?=some x)(hv:Vis X.env.scope x)(hd:(x == ("__debug__" : Str))=false:=by decide)(hcd:(x == ("__classdict__" : Str))=false:=by decide):PE X (.Name x pos) (tN i):=by
 intro pins s σ H Q I h;obtain⟨v,e,h⟩:=h;obtain⟨m,hn,hl⟩:=I.loc;obtain⟨u,r,l⟩:=hl i x v hN e hv;have fin:EP X pins σ Q u s:=⟨v,H,I,r,h⟩;rcases l with ⟨hk,hm⟩|⟨hk,c,hc,hcell⟩
 ·exact wpAny_Name (wpAny_loadName_local I.ok.kind hk hn hm fin) hd
 ·rcases hk with hk|hk
  ·exact wpAny_Name (wpAny_loadName_cell I.ok.kind hk hc hcell fin) hd
  ·exact wpAny_Name (wpAny_loadName_free I.ok.kind hk hc hcell fin hcd) hd
theorem qi{i j pos}:PE X (.Constant (.int i) j pos) (tC (.int i)):=λ_ _ _ H _ I h=>wpAny_Constant_int ⟨.int i,H,I.tok _,⟨_,rfl⟩,h⟩
theorem zW{b j pos}:PE X (.Constant (.bool b) j pos) (tC (.bl b)):=λ_ _ _ H _ I h=>Constant_bool ⟨.bl b,H,I,rfl,h⟩
theorem sx{j pos}:PE X (.Constant .none j pos) (tC .non):=λ_ _ _ H _ I h=>Constant_none ⟨.non,H,I,rfl,h⟩
theorem rb{x j pos}:PE X (.Constant (.str x) j pos) (tC (.str x)):=λ_ _ _ H _ I h=>Calls.Constant_str ⟨.str x,H,I.tok _,⟨_,rfl⟩,h⟩
def Gl(X:Cx)(x:Str):Prop:=X.env.kindOf x=some .globalImplicit
theorem bh(I:Inv X pins σ H s)(hg:Gl X x)(hm:X.mg x=some u)(h:Q u s)
  (hd:(x == ("__debug__" : Str))=false:=by decide):wpAny (model X.prog X.w) X.A (eval (.Name x pos) X.env) Q E s:=
 Calls.Name_function_global I.ok.kind hg (Calls.loadGlobal_global (by rw[I.ok.glob];exact I.mod.glob.keeps I.bk) hm h) hd
theorem cL(I:Inv X pins σ H s)(hg:Gl X x)(hm:X.mg x=none)(hv:bootBuiltins x=some u)(h:Q u s)
  (hn:x≠"__name__":=by decide) (hd:(x == ("__debug__" : Str))=false:=by decide):wpAny (model X.prog X.w) X.A (eval (.Name x pos) X.env) Q E s:=by
 obtain⟨mb,h1,h2⟩:=I.mod.blt;exact Calls.Name_function_global I.ok.kind hg (Calls.loadGlobal_builtin (by rw[I.ok.glob];exact I.mod.glob.keeps I.bk) hm (by rw[I.ok.blt];exact h1.keeps I.bk) ((h2 x hn).trans hv) h) hd
theorem tU(hg:Gl X x)(hm:X.mg x=some u)(r:RelV v u)(hd:(x == ("__debug__" : Str))=false:=by decide):PE X (.Name x pos) (tC v):=
 λ_ _ _ H _ I h=>bh I hg hm ⟨v,H,I,r,h⟩ hd
theorem uy(hg:Gl X x)(hm:X.mg x=none)(hv:bootBuiltins x=some u)(r:RelV v u)(hn:x≠"__name__":=by decide)(hd:(x == ("__debug__" : Str))=false:=by decide):PE X (.Name x pos) (tC v):=
 λ_ _ _ H _ I h=>cL I hg hm hv ⟨v,H,I,r,h⟩ hn hd
variable {a b:Expr}{ta tb:TE}{pos:Pos}
noncomputable def tB(t:TE):TT:=λσ H Q=>t σ H λx H1=>∃c,x=.bl c/\Q c H1
theorem yc{e:Expr}(h:PE X e t)(he:∀whole,isTrue e X.env whole=(do let v<-whole;standAt e.pos;holding [v] (truthy v)):=by intro _;rfl):PT X e (tB t):=by
 intro pins s σ H Q I hw;refine isTrue_plain (thn (h pins s σ H _ I hw) λv s1 ⟨x,H1,I1,r1,q1⟩=>?_) (he _)
 obtain⟨d,rfl,q⟩:=q1;cases r1;exact EC ⟨H1,I1,q⟩
variable {tA tB':TT}{rest:List Expr}
noncomputable def B2(t u:TT):TT:=λσ H Q=>t σ H λc H1=>if c=true then u σ H1 Q else Q false H1
noncomputable def tOr(t u:TT):TT:=λσ H Q=>t σ H λc H1=>if c=true then Q true H1 else u σ H1 Q
noncomputable def Cq(t:TT):TT:=λσ H Q=>t σ H λc H1=>Q (!c) H1
theorem uB(ha:PT X a tA):PW X (.BoolOp .And [a] pos) tA:=by
 intro wh pins s σ H Q I h;refine isTrue_and (thn (ha pins s σ H Q I h) λc s1 e=>?_)
 cases c with
 |true=>exact isTrue_and_nil e
 |false=>exact e
theorem xB(ha:PT X a tA):PW X (.BoolOp .Or [a] pos) tA:=by
 intro wh pins s σ H Q I h;refine isTrue_or (thn (ha pins s σ H Q I h) λc s1 e=>?_)
 cases c with
 |false=>exact isTrue_or_nil e
 |true=>exact e
theorem xX(ha:PT X a tA)(hb:PW X (.BoolOp .And (b::rest) pos) tB'):PW X (.BoolOp .And (a::b::rest) pos) (B2 tA tB'):=by
 intro wh pins s σ H Q I h;refine isTrue_and (thn (ha pins s σ H _ I h) λc s1 ⟨H1,I1,q1⟩=>?_)
 cases c with
 |true=>exact hb wh pins s1 σ H1 Q I1 q1
 |false=>exact⟨H1,I1,q1⟩
theorem Aa(ha:PT X a tA)(hb:PW X (.BoolOp .Or (b::rest) pos) tB'):PW X (.BoolOp .Or (a::b::rest) pos) (tOr tA tB'):=by
 intro wh pins s σ H Q I h;refine isTrue_or (thn (ha pins s σ H _ I h) λc s1 ⟨H1,I1,q1⟩=>?_)
 cases c with
 |true=>exact⟨H1,I1,q1⟩
 |false=>exact hb wh pins s1 σ H1 Q I1 q1
theorem xy(ha:PT X a tA):PT X (.UnaryOp .Not a pos) (Cq tA):=by
 intro pins s σ H Q I h;exact isTrue_not (ha pins s σ H (λc H1=>Q (!c) H1) I h)
noncomputable def yR(ta tb:TE):TE:=λσ H Q=>ta σ H λx H1=>∃c,x=.bl c/\if c=true then tb σ H1 Q else Q (.bl false) H1
noncomputable def Cj(ta tb:TE):TE:=λσ H Q=>ta σ H λx H1=>∃c,x=.bl c/\if c=true then Q (.bl true) H1 else tb σ H1 Q
noncomputable def zO(ta:TE):TE:=λσ H Q=>ta σ H λx H1=>∃c,x=.bl c/\Q (.bl (!c)) H1
theorem yG{op}(h:PE X a t):PE X (.BoolOp op [a] pos) t:=λpins s σ H Q I hw=>BoolOp_one (h pins s σ H Q I hw)
theorem wF(ha:PE X a ta)(hb:PE X (.BoolOp .And (b::rest) pos) tb):PE X (.BoolOp .And (a::b::rest) pos) (yR ta tb):=by
 intro pins s σ H Q I h;refine BoolOp_and (thn (ha pins s σ H _ I h) λv s1 ⟨x,H1,I1,r1,q1⟩=>?_)
 obtain⟨c,rfl,q1⟩:=q1;cases r1;refine EC ?_;cases c with
 |true=>exact hb pins s1 σ H1 Q I1 q1
 |false=>exact⟨.bl false,H1,I1,rfl,q1⟩
theorem yZ(ha:PE X a ta)(hb:PE X (.BoolOp .Or (b::rest) pos) tb):PE X (.BoolOp .Or (a::b::rest) pos) (Cj ta tb):=by
 intro pins s σ H Q I h;refine BoolOp_or (thn (ha pins s σ H _ I h) λv s1 ⟨x,H1,I1,r1,q1⟩=>?_)
 obtain⟨c,rfl,q1⟩:=q1;cases r1;refine EC ?_;cases c with
 |false=>exact hb pins s1 σ H1 Q I1 q1
 |true=>exact⟨.bl true,H1,I1,rfl,q1⟩
theorem xh(ha:PE X a ta):PE X (.UnaryOp .Not a pos) (zO ta):=by
 intro pins s σ H Q I h;refine UnaryOp_ (thn (ha pins s σ H _ I h) λv s1 ⟨x,H1,I1,r1,q1⟩=>?_)
 obtain⟨c,rfl,q1⟩:=q1;cases r1;exact not_of (EC ⟨.bl (!c),H1,I1,rfl,q1⟩)
noncomputable def tIf(t:TT)(ta tb:TE):TE:=λσ H Q=>t σ H λc H1=>if c=true then ta σ H1 Q else tb σ H1 Q
theorem sB(hc:PT X c tA)(ha:PE X a ta)(hb:PE X b tb):PE X (.IfExp c a b pos) (tIf tA ta tb):=by
 intro pins s σ H Q I h;refine wpAny_IfExp (thn (hc pins s σ H _ I h) λd s1 ⟨H1,I1,q1⟩=>?_)
 cases d with
 |true=>exact ha pins s1 σ H1 Q I1 q1
 |false=>exact hb pins s1 σ H1 Q I1 q1
end
def SqL(K:E7)(H:Hp)(a:Addr)(xs:List V):Prop:=
 Rd H a (.lst xs)\/
  ∃(o:Obj) (its:Array Value) (n:Nat),K.lookup a=some o/\o.cls=.type "list"/\o.dict=none/\o.data=.seq its n/\its.size<=sizeLine/\Vals xs its.toList
def SqT(K:E7)(H:Hp)(a:Addr)(xs:List V):Prop:=
 Rd H a (.tup xs)\/
  ∃(o:Obj) (its:Array Value) (n:Nat),K.lookup a=some o/\o.cls=.type "tuple"/\o.data=.seq its n/\its.size<=sizeLine/\Vals xs its.toList
noncomputable def BJ:Value->Option V
 |.none=>some .non
 |.bool b=>some (.bl b)
 |.int i _=>some (.int i)
 |.str x _=>some (.str x)
 |.bytes b _=>some (.byt b)
 |.float b _=>some (.flt b)
 |.ref a=>some (.ref a)
 |.type n=>some (.ty n)
 |_=>none
theorem RelV.abs(r:RelV x u):BJ u=some x:=by
 cases x with
 |non=>cases r;rfl
 |bl _=>cases r;rfl
 |int _=>obtain⟨t,rfl⟩:=r;rfl
 |str _=>obtain⟨t,rfl⟩:=r;rfl
 |byt _=>obtain⟨t,rfl⟩:=r;rfl
 |flt _=>obtain⟨t,rfl⟩:=r;rfl
 |ref _=>cases r;rfl
 |ty _=>cases r;rfl
theorem RelV.inj(r:RelV x u)(q:RelV y u):x=y:=D9 (r.abs.symm.trans q.abs)
theorem Vals.inj:∀{xs ys:List V}{us:List Value},Vals xs us->Vals ys us->xs=ys
 |_,_,_,.nil,.nil=>rfl
 |_,_,_,.cons r t,.cons r' t'=>by rw[r.inj r',Vals.inj t t']
section
variable {X:Cx}{s:Shared}{a:Addr}{xs ys:List V}
theorem SqL.of{K:E7}(h:H a=some (.lst xs)):SqL K H a xs:=.inl (.inl h)
theorem SqT.of{K:E7}(h:H a=some (.tup xs)):SqT K H a xs:=.inl (.inl h)
theorem Inv.list(I:Inv X pins σ H s)(h:SqL X.K H a xs):∃its:List Value,Vals xs its/\PlainL s.heap a its.toArray/\xs.length<=sizeLine:=by
 rcases h with h|⟨o,its,n,hk,hc,hd,hs,hz,r⟩
 ·obtain⟨z,its,n,r,e⟩:=h.ok I.hok;exact⟨its,r,⟨_,n,e,rfl,rfl,rfl⟩,z⟩
 ·refine⟨its.toList,r,⟨o,n,I.kIn a o hk,hc,hd,by simpa using hs⟩,?_⟩
  have e:=r.length;simp only[Array.length_toList]at e;omega
theorem Inv.tuple(I:Inv X pins σ H s)(h:SqT X.K H a xs):∃its:List Value,Vals xs its/\IsTup s.heap a its.toArray/\xs.length<=sizeLine:=by
 rcases h with h|⟨o,its,n,hk,hc,hs,hz,r⟩
 ·obtain⟨z,its,r,p⟩:=h.ok I.hok;exact⟨its,r,p,z⟩
 ·refine⟨its.toList,r,⟨o,I.kIn a o hk,hc,n,by simpa using hs⟩,?_⟩
  have e:=r.length;simp only[Array.length_toList]at e;omega
theorem Inv.list_inj(I:Inv X pins σ H s)(h:SqL X.K H a xs)(h':SqL X.K H a ys):xs=ys:=by
 obtain⟨its,r,⟨o,n,e,_,_,d⟩,_⟩:=I.list h;obtain⟨its',r',⟨o',n',e',_,_,d'⟩,_⟩:=I.list h';rw[e]at e';cases e';rw[d]at d';injection d' with d1 _
 have:its=its':=by simpa using congrArg Array.toList d1
 subst this;exact r.inj r'
theorem Inv.tuple_inj(I:Inv X pins σ H s)(h:SqT X.K H a xs)(h':SqT X.K H a ys):xs=ys:=by
 obtain⟨its,r,⟨o,e,_,n,d⟩,_⟩:=I.tuple h;obtain⟨its',r',⟨o',e',_,n',d'⟩,_⟩:=I.tuple h';rw[e]at e';cases e';rw[d]at d';injection d' with d1 _
 have:its=its':=by simpa using congrArg Array.toList d1
 subst this;exact r.inj r'
end
noncomputable abbrev Cx.wish(X:Cx)(E:Value->Shared->Prop):Cx:={X with xe:=E}
theorem Cx.Ok.wish{X:Cx}(ok:X.Ok)(E:Value->Shared->Prop):(X.wish E).Ok:=
 ⟨ok.mod,ok.kind,ok.glob,ok.blt,ok.above,ok.inj,ok.has,ok.cab,ok.hd,ok.frames,ok.stk,ok.exf,ok.bs,ok.bsz,ok.noex,ok.exfs,ok.funs,ok.frf⟩
theorem Cx.Ok.unwish{X:Cx}(ok:(X.wish E).Ok):X.Ok:=
 ⟨ok.mod,ok.kind,ok.glob,ok.blt,ok.above,ok.inj,ok.has,ok.cab,ok.hd,ok.frames,ok.stk,ok.exf,ok.bs,ok.bsz,ok.noex,ok.exfs,ok.funs,ok.frf⟩
section
variable {X:Cx}{s:Shared}
theorem Inv.wish(I:Inv X pins σ H s)(E:Value->Shared->Prop):Inv (X.wish E) pins σ H s:=⟨I.ok.wish E,I.os,I.bare,I.base,I.loc,I.cell,I.free,I.freeC,I.pin,I.hok,I.len⟩
theorem Inv.unwish(I:Inv (X.wish E) pins σ H s):Inv X pins σ H s:=⟨I.ok.unwish,I.os,I.bare,I.base,I.loc,I.cell,I.free,I.freeC,I.pin,I.hok,I.len⟩
end
section
variable {X:Cx}{st:Stmt}{rest:List Stmt}{t u:TS}{e:Expr}{te:TE}{pos:Pos}
noncomputable def tNext:TS:=λD σ H=>D.nx σ H
noncomputable def Bz(t u:TS):TS:=λD σ H=>t {D with nx:=u D} σ H
theorem pss_nil:PSs X [] tNext:=λ_ _ σ H _ I h=>wpAny_execs_nil ⟨σ,H,I,h⟩
theorem lm(h1:PS X st t)(h2:PSs X rest u):PSs X (st::rest) (Bz t u):=by
 intro pins s σ H D I h;refine wpAny_execs_cons (thn (h1 pins s σ H {D with nx:=u D} I h) λf s1 q=>?_)
 cases f with
 |next=>
  obtain⟨σ',H',I',q⟩:=q;exact h2 pins s1 σ' H' D I' q
 |ret v=>exact q
 |brk=>exact q
 |cont=>exact q
theorem tV(h1:PS X st t):PSs X [st] t:=by
 intro pins s σ H D I h;refine wpAny_execs_cons (thn (h1 pins s σ H D I h) λf s1 q=>?_)
 cases f with
 |next=>exact wpAny_execs_nil q
 |ret v=>exact q
 |brk=>exact q
 |cont=>exact q
theorem Inv.quiet(I:Inv X pins σ H s):interactive X.env=false:=by simp[interactive,I.ok.kind]
noncomputable def zG(te:TE):TS:=λD σ H=>te σ H λ_ H1=>D.nx σ H1
theorem lb(he:PE X e te)(hs:swapsWith e none pos.line X.env=pure false:=by rfl):PS X (.Expr e pos) (zG te):=by
 intro pins s σ H D I h;exact wpAny_Expr_any (thn (he pins s σ H _ I h) λv s1 ⟨x,H1,I1,r1,q1⟩=>⟨σ,H1,I1,q1⟩) I.quiet hs
noncomputable def BG(te:TE):TS:=λD σ H=>te σ H D.rt
theorem wZ(he:PE X e te):PS X (.Return (some e) pos) (BG te):=by
 intro pins s σ H D I h;exact wpAny_Return_some (thn (he pins s σ H _ I h) λv s1 ⟨x,H1,I1,r1,q1⟩=>⟨x,σ,H1,I1,r1,q1⟩)
noncomputable def tRetN:TS:=λD _ H=>D.rt .non H
theorem ps_retN:PS X (.Return none pos) tRetN:=λ_ _ σ H _ I h=>wpAny_Return_none ⟨.non,σ,H,I,rfl,h⟩
noncomputable def Bn(c:TT)(t u:TS):TS:=λD σ H=>c σ H λb H1=>if b=true then t D σ H1 else u D σ H1
theorem Ay(hc:PT X c tc)(ha:PSs X a t)(hb:PSs X b u):PS X (.If c a b pos) (Bn tc t u):=by
 intro pins s σ H D I h;refine wpAny_If (thn (hc pins s σ H _ I h) λd s1 ⟨H1,I1,q1⟩=>?_)
 cases d with
 |true=>exact ha pins s1 σ H1 D I1 q1
 |false=>exact hb pins s1 σ H1 D I1 q1
end
noncomputable abbrev TG:=V->St->Hp->(St->Hp->Prop)->Prop
noncomputable abbrev TGs:=List V->St->Hp->(St->Hp->Prop)->Prop
def PG(X:Cx)(target:Expr)(t:TG):Prop:=
 ∀(pins:List (Addr×Obj)) (s:Shared)(σ:St)(H:Hp)(v:V)(u:Value)(Q:St->Hp->Prop),Inv X pins σ H s->RelV v u->t v σ H Q->
  wpAny (model X.prog X.w) X.A (assign target X.env u) (λ_ s'=>∃σ' H',Inv X pins σ' H' s'/\Q σ' H') X.xe s
def PGs(X:Cx)(ts:List Expr)(t:TGs):Prop:=
 ∀(pins:List (Addr×Obj)) (s:Shared)(σ:St)(H:Hp)(vs:List V)(us:List Value)(Q:St->Hp->Prop),Inv X pins σ H s->Vals vs us->t vs σ H Q->
  wpAny (model X.prog X.w) X.A (assignInOrder ((assignEach ts X.env).map (·.2)) us) (λ_ s'=>∃σ' H',Inv X pins σ' H' s'/\Q σ' H') X.xe s
noncomputable abbrev TSet:=V->V->V->Hp->(Hp->Prop)->Prop
def xf(X:Cx)(t:TSet):Prop:=
 ∀(pins:List (Addr×Obj)) (s:Shared)(σ:St)(H:Hp)(o i v:V)(ov iv u:Value)(Q:Hp->Prop),Inv X pins σ H s->RelV o ov->RelV i iv->RelV v u->t o i v H Q->
  wpAny (model X.prog X.w) X.A (setItem ov iv u) (λ_ s'=>∃H',Inv X pins σ H' s'/\Q H') X.xe s
section
variable {X:Cx}{pos:Pos}
noncomputable def oQ(i:Nat):TG:=λv σ H Q=>Q (σ.set i (some v)) H
theorem gZ(hN:X.N.Nodup)(hi:X.N[i]?=some x)(hx:Loc X.env.scope x)(hf:X.fn x=true\/X.env.scope.names.lookup x=some .local:=by first|exact .inl rfl|exact .inr rfl|assumption):PG X (.Name x pos) (oQ i):=by
 intro pins s σ H v u Q I r h;exact wpAny_assign_Name (iJ I hN hi hx r (λs' I'=>⟨_,H,I',h⟩) hf)
noncomputable def gNil:TGs:=λvs σ H Q=>vs=[]/\Q σ H
noncomputable def yQ(t:TG)(u:TGs):TGs:=λvs σ H Q=>∃v r,vs=v::r/\t v σ H λσ' H'=>u r σ' H' Q
theorem um:PGs X [] gNil:=by
 intro pins s σ H vs us Q I r h;obtain⟨e,h⟩:=h;subst e;cases r;exact assignInOrder_nil ⟨σ,H,I,h⟩
theorem rS(h1:PG X e t)(h2:PGs X es u)
  (hs:(assignEach (e::es) X.env).map (·.2)=assign e X.env::(assignEach es X.env).map (·.2):=by rfl):PGs X (e::es) (yQ t u):=by
 intro pins s σ H vs us Q I r h;obtain⟨v,vr,e1,h⟩:=h;subst e1;cases r with
 |cons r rr=>
  rw[hs];refine assignInOrder_cons (thn (h1 pins s σ H _ _ _ I r h) λ_ s1 ⟨σ1,H1,I1,q1⟩=>?_)
  exact h2 pins s1 σ1 H1 _ _ Q I1 rr q1
noncomputable def CG(K:E7)(n:Nat)(t:TGs):TG:=λv σ H Q=>∃a xs,v=.ref a/\SqT K H a xs/\xs.length=n/\t xs σ H Q
theorem xF(hc:X.calm=true)(h:PGs X es t)
  (hn:(assignEach es X.env).length=n:=by rfl) (hst:(assignEach es X.env).findIdx? (·.1)=none:=by rfl):PG X (.Tuple es k pos) (CG X.K n t):=by
 intro pins s σ H v u Q I r hw;obtain⟨a,xs,e1,hq,hl,hw⟩:=hw;subst e1;cases r;obtain⟨its,rv,ht,hz⟩:=I.tuple hq;refine assign_Tuple_tuple (I.ok.hd hc) ht (by simp[hn,<-hl,rv.length]) hst λh' hx=>?_
 have I1:Inv X pins σ H {s with heap:=h'}:=I.kept (t':=s.toks) λb o e=>hx b o (Ek (D1 e)) e
 exact h pins _ σ H xs _ Q I1 (by simpa using rv) hw
noncomputable def Bx(to ti:TE)(t:TSet):TG:=λv σ H Q=>to σ H λo H1=>ti σ H1 λi H2=>t o i v H2 λH3=>Q σ H3
theorem wj(ho:PE X o to)(hi:PE X i ti)(hs:xf X t)
  (ha:∀v,assign (.Subscript o i pos) X.env v=(do
   let ov<-holding [v] (eval o X.env)
   let iv<-holding [v,ov] (eval i X.env)
   standAt pos
   holding [v,ov,iv] (setItem ov iv v)
   release [v,ov,iv] []):=by intro _;rfl):PG X (.Subscript o i pos) (Bx to ti t):=by
 intro pins s σ H v u Q I r h;rw[ha];refine vJ (Ez (thn (ho pins s σ H _ I h) λov s1 ⟨x,H1,I1,r1,q1⟩=>?_))
 refine vJ (Ez (thn (hi pins s1 σ H1 _ I1 q1) λiv s2 ⟨y,H2,I2,r2,q2⟩=>?_))
 refine vJ (wpAny_standAt (vJ (Ez (thn (hs pins s2 σ H2 x y v ov iv u _ I2 r1 r2 r q2) λ_ s3 ⟨H3,I3,q3⟩=>?_))))
 exact wpAny_release ⟨σ,H3,I3,q3⟩
noncomputable def wd(te:TE)(g:TG):TS:=λD σ H=>te σ H λx H1=>g x σ H1 D.nx
theorem xm(he:PE X e te)(hg:PG X tg g)(hs:swapsWithSole [tg] e pos.line X.env=pure false:=by rfl)(hw:swappedStores [tg] e X.env=pure none:=by rfl)
  (h1:(assignEach [tg] X.env).map (·.2)=[assign tg X.env]:=by rfl):PS X (.Assign [tg] e pos) (wd te g):=by
 intro pins s σ H D I h;refine wpAny_Assign_stores (thn (he pins s σ H _ I h) λv s1 ⟨x,H1,I1,r1,q1⟩=>?_) hs hw
 rw[h1];exact thn (hg pins s1 σ H1 x v _ I1 r1 q1) λ_ s2 q=>q
theorem yr(hN:X.N.Nodup)(hi:X.N[i]?=some x)(hx:Loc X.env.scope x)(he:PE X e te)(hs:swapsWith e (some (.Name x pos')) pos.line X.env=pure false:=by rfl)(hf:X.fn x=true\/X.env.scope.names.lookup x=some .local:=by first|exact .inl rfl|exact .inr rfl|assumption) :
  PS X (.Assign [.Name x pos'] e pos) (wd te (oQ i)):=by
 intro pins s σ H D I h;refine wpAny_Assign_Name (thn (he pins s σ H _ I h) λv s1 ⟨y,H1,I1,r1,q1⟩=>?_) hs
 exact iJ I1 hN hi hx r1 (λs2 I2=>⟨_,H1,I2,q1⟩) hf
end
section
variable {X:Cx}{pos:Pos}
noncomputable def ww(c:TT)(tb:TS):TS:=λD σ H=>∃W:Nat->St->Hp->Prop,(∃m,W m σ H)/\∀m σ H,W m σ H->
 c σ H λb H1=>if b=true then ∃N:St->Hp->Prop,(∀σ' H',N σ' H'->∃m',m' < m/\W m' σ' H')/\tb {D with nx:=N,ct:=N,bk:=D.nx} σ H1 else D.nx σ H1
theorem rH(hp:PassesOwn (model X.prog X.w) X.A X.env X.xe)(hc:PT X c tc)(hb:PSs X body tb):PS X (.While c body [] pos) (ww tc tb):=by
 intro pins s σ H D I h;obtain⟨W,⟨m0,w0⟩,turn⟩:=h;refine wpAny_While (codeAny_whileLoop (λn s'=>∃σ' H',Inv X pins σ' H' s'/\W n σ' H') ?_ m0 ⟨σ,H,I,w0⟩)
 rintro n s1 ⟨σ1,H1,I1,w1⟩;refine wpAny_passesOwn hp (thn (hc pins s1 σ1 H1 _ I1 (turn n σ1 H1 w1)) λb s2 ⟨H2,I2,q2⟩=>?_)
 cases b with
 |true=>
  obtain⟨N,hN,q2⟩:=q2;rw[DY rfl];refine wpAny_passesOwn hp (thn (hb pins s2 σ1 H2 _ I2 q2) λf s3 q3=>?_)
  cases f with
  |next=>
   obtain⟨σ3,H3,I3,n3⟩:=q3;obtain⟨m',hm,w3⟩:=hN σ3 H3 n3;exact⟨m',hm,σ3,H3,I3,w3⟩
  |cont=>
   obtain⟨σ3,H3,I3,n3⟩:=q3;obtain⟨m',hm,w3⟩:=hN σ3 H3 n3;exact⟨m',hm,σ3,H3,I3,w3⟩
  |brk=>exact q3
  |ret v=>exact q3
 |false=>
  rw[DV D8];exact wpAny_execs_nil ⟨σ1,H2,I2,q2⟩
end
structure It where
 go:Nat->Hp->Prop
 yld:Nat->Hp->V->Hp->Prop
 stop:Nat->Hp->Prop
def la(X:Cx)(pins:List (Addr×Obj))(H:Hp)(b:Addr):Prop:=
 H b=none/\b≠X.env.locals/\b∉X.fs/\(b∈X.ex\/X.s₀.heap.objs.size<=b)/\(∀x c,X.env.cells.lookup x=some c->c≠b)/\∀p∈X.pn++pins,p.1≠b
theorem Inv.fpOk{s:Shared}(I:Inv X pins σ H s)(hb:s.heap.objs.size<=b)(hn:H' b=none):la X pins H' b:=by
 refine⟨hn,Nat.ne_of_gt (D0 I.lt hb),I.nofs hb,.inr (Ej I.sz hb),λx c e z=>?_,λp hp z=>?_⟩
 ·obtain⟨v,q⟩:=I.cell x c e;exact absurd (D0 q.lt (by rw[z];exact hb)) (EF _)
 ·exact absurd (D0 (D1 (I.pin p hp).1) (by rw[z];exact hb)) (EF _)
def HdA(X:Cx):Prop:=X.calm=true\/∃a o u,X.A.handled=some (.ref a)/\X.H₀ a=some (.frz o u)/\gU o
def Qt(q:Bool)(X:Cx):Prop:=match q with
 |false=>X.calm=true
 |true=>HdA X
theorem Inv.hdA{X:Cx}(I:Inv X pins σ H s)(q:HdA X):tI X.A s.heap/\∀c,X.A.handled=some (.ref c)->H c≠none:=by
 rcases q with q|⟨a,o,u,e,f,l⟩
 ·have z:=I.ok.hd q;exact⟨.inl z,λc e=>by rw[z]at e;cases e⟩
 ·have z:=I.base.frzs a o u f;exact⟨.inr ⟨a,o,e,(I.hok a _ z).1,l⟩,λc w n=>by rw[e]at w;cases w;rw[z]at n;cases n⟩
theorem Qt.hd{X:Cx}(h:Qt q X):HdA X:=by
 cases q with
 |false=>exact .inl h
 |true=>exact h
structure TurnB (q:Bool)(P:Program)(w:World)(K:E7)(tg:Expr)(J:It)(fp:List Addr)(it:Addr)(tn:Nat->Heap->Prop):Prop where
 mem:it∈fp
 obj:∀i h,tn i h->∀b∈fp,∃o,h.get? b=some o/\∀v,o.data≠.cell v
 keep:∀i h h',tn i h->(∀b∈fp,∀o,h.get? b=some o->h'.get? b=some o)->tn i h'
 item:∀(X:Cx),X.prog=P->X.w=w->X.K=K->Qt q X->∀(i:Nat) (pins:List (Addr×Obj)) (s:Shared)(σ:St)(H:Hp)(E:Value->Shared->Prop),Inv X pins σ H s->(∀b∈fp,la X pins H b)->tn i s.heap->J.go i H->
  wpAny (model P w) X.A (pyNext (.ref it)) (λr s1=>∃u,r=some u/\
   wpAny (model P w) X.A (letOwnedTupleGo tg (.ref it) u) (λ_ s2=>∃x H',Inv X pins σ H' s2/\RelV x u/\J.yld i H x H'/\tn (i+1) s2.heap/\∀b∈fp,H' b=none) E s1) E s
 done:∀(X:Cx),X.prog=P->X.w=w->X.K=K->Qt q X->∀(i:Nat) (pins:List (Addr×Obj)) (s:Shared)(σ:St)(H:Hp)(E:Value->Shared->Prop),Inv X pins σ H s->(∀b∈fp,la X pins H b)->tn i s.heap->J.stop i H->
  wpAny (model P w) X.A (pyNext (.ref it)) (λr s1=>r=none/\Inv X pins σ H s1) E s
 self:∀(A:Around)(i:Nat)(s:Shared)(Q:Value->Shared->Prop)(E:Value->Shared->Prop),tn i s.heap->Q (.ref it) s->wpAny (model P w) A (pyIter (.ref it)) Q E s
noncomputable abbrev Turn:=TurnB false
theorem TurnB.calm{K:E7}(T:TurnB q P w K tg J fp it tn):Turn P w K tg J fp it tn:=by
 cases q with
 |false=>exact T
 |true=>exact⟨T.mem,T.obj,T.keep,λX a b c h=>T.item X a b c (.inl h),λX a b c h=>T.done X a b c (.inl h),T.self⟩
noncomputable abbrev TI:=St->Hp->(It->Hp->Prop)->Prop
def yH(q:Bool)(X:Cx)(pins:List (Addr×Obj))(σ:St)(tg:Expr)(R:It->Hp->Prop)(itv:Value)(s2:Shared):Prop:=
 ∃(it:Addr)(fp:List Addr)(tn:Nat->Heap->Prop)(J:It)(H':Hp),itv=.ref it/\Inv X pins σ H' s2/\TurnB q X.prog X.w X.K tg J fp it tn/\tn 0 s2.heap/\(∀b∈fp,la X pins H' b)/\R J H'
noncomputable abbrev PIE:=yH false
def PIB(q:Bool)(X:Cx)(tg iter:Expr)(wi:TI):Prop:=
 ∀(pins:List (Addr×Obj)) (s:Shared)(σ:St)(H:Hp)(R:It->Hp->Prop),Inv X pins σ H s->wi σ H R->
  wpAny (model X.prog X.w) X.A (eval iter X.env) (λv s1=>wpAny (model X.prog X.w) X.A (pyIter v) (yH q X pins σ tg R) X.xe s1) X.xe s
noncomputable abbrev PI:=PIB false
theorem PIB.calm{X:Cx}(h:PIB q X tg iter wi):PI X tg iter wi:=λpins s σ H R I z=>EK (h pins s σ H R I z) (λ_ _ k=>EK k (λ_ _ ⟨it,fp,tn,J,H',e,I',T,r⟩=>⟨it,fp,tn,J,H',e,I',T.calm,r⟩) λ_ _ x=>x) λ_ _ x=>x
theorem ot {s : Shared} {o : Obj} (ho : s.heap.get? it = some o) (hc : o.cls = .type n) (hd : o.data = .fields vs)
    (hn : ["enumerate", "zip", "dict_itemiterator", "dict_reverseitemiterator", "odict_iterator", "itertools.zip_longest", "itertools.pairwise"].contains n = false) (hQ : Q () s) : wpAny M A (letOwnedTupleGo tg (.ref it) u) Q E s := by
  unfold letOwnedTupleGo;cases tg <;> first
    | exact DS hQ
    | (cases u <;> first
        | exact DS hQ
        | (refine vJ (wpAny_load ho ?_)
           rw [hc, hd];show wpAny M A (if (["enumerate", "zip", "dict_itemiterator", "dict_reverseitemiterator", "odict_iterator", "itertools.zip_longest", "itertools.pairwise"].contains n && vs[0]? == some (rawInt _)) = true then _ else _) Q E s
           rw [DV (by intro h; rw [hn, Bool.false_and] at h; cases h)]
           exact DS hQ))
noncomputable def Itl(K:E7)(a:Addr):It:=
 ⟨λi H=>∃xs x,SqL K H a xs/\xs[i]?=some x,λi H x H'=>H'=H/\∀xs,SqL K H a xs->xs[i]?=some x,λi H=>∃xs,SqL K H a xs/\xs.length<=i⟩
noncomputable def Itt(K:E7)(a:Addr):It:=
 ⟨λi H=>∃xs x,SqT K H a xs/\xs[i]?=some x,λi H x H'=>H'=H/\∀xs,SqT K H a xs->xs[i]?=some x,λi H=>∃xs,SqT K H a xs/\xs.length<=i⟩
noncomputable def Itr(lo:Int)(n:Nat):It:=⟨λi _=>i<n,λi H x H'=>H'=H/\x=.int (lo+i),λi _=>n<=i⟩
theorem qg{K:E7}{q:Bool}(a it:Addr):TurnB q P w K tg (Itl K a) [it] it (λi h=>h.IsListIter it a i) where
 mem:=by simp
 obj:=λi h st b hb=>by
  have e:b=it:=by simpa using hb
  subst e;obtain⟨o,e,c,d⟩:=st;exact⟨o,e,λv z=>by rw[d]at z;cases z⟩
 keep:=λi h h' st k=>st.at λo e=>k it (by simp) o e
 item:=by
  intro X hP hw hK hc i pins s σ H E I hf st hg;subst hP hw hK;obtain⟨xs,x,hq,hx⟩:=hg;obtain⟨its,rv,p,hz⟩:=I.list hq;obtain⟨u,hu,ru⟩:=rv.get hx;obtain⟨f0,f1,f2,f3,f4,f5⟩:=hf it (by simp)
  refine wpAny_pyNext_list_item st p.isList (x:=u) (by simpa using hu) λh' st' sb=>?_
  have I1:Inv X pins σ H {s with heap:=h'}:=I.turned (t':=s.toks) (λb o hb e=>(sb.2 b hb).trans e) f0 f1 f3 f4 f5
  obtain⟨o,e,c,d⟩:=id st';exact⟨u,rfl,ot (s:={s with heap:=h'}) e c d (by decide) ⟨x,H,I1,ru,⟨rfl,λys hy=>by rw[I.list_inj hy hq];exact hx⟩,st',λb hb=>(hf b hb).1⟩⟩
 done:=by
  intro X hP hw hK hc i pins s σ H E I hf st hg;subst hP hw hK;obtain⟨xs,hq,hx⟩:=hg;obtain⟨its,rv,p,hz⟩:=I.list hq;obtain⟨f0,f1,f2,f3,f4,f5⟩:=hf it (by simp)
  have hl:=rv.length;exact jk (I.hdA hc.hd).1 (λc e z=>(I.hdA hc.hd).2 c e (z▸f0)) st p.isList (by simp;omega) λh' eb=>⟨rfl,I.turned (t':=s.toks) (λb o hb e=>eb b o hb e) f0 f1 f3 f4 f5⟩
 self:=λ_ _ _ _ _ st h=>wpAny_pyIter_listiter st h
theorem ni{K:E7}(a it:Addr):Turn P w K tg (Itt K a) [it] it (λi h=>h.IsTupleIter it a i) where
 mem:=by simp
 obj:=λi h st b hb=>by
  have e:b=it:=by simpa using hb
  subst e;obtain⟨o,e,c,d⟩:=st;exact⟨o,e,λv z=>by rw[d]at z;cases z⟩
 keep:=λi h h' st k=>st.at λo e=>k it (by simp) o e
 item:=by
  intro X hP hw hK hc i pins s σ H E I hf st hg;subst hP hw hK;obtain⟨xs,x,hq,hx⟩:=hg;obtain⟨its,rv,p,hz⟩:=I.tuple hq;obtain⟨u,hu,ru⟩:=rv.get hx;obtain⟨f0,f1,f2,f3,f4,f5⟩:=hf it (by simp)
  refine wpAny_pyNext_tuple_item st (show s.heap.IsTuple a its.toArray from p) (x:=u) (by simpa using hu) λh' st' sb=>?_
  have I1:Inv X pins σ H {s with heap:=h'}:=I.turned (t':=s.toks) (λb o hb e=>(sb.2 b hb).trans e) f0 f1 f3 f4 f5
  obtain⟨o,e,c,d⟩:=id st';exact⟨u,rfl,ot (s:={s with heap:=h'}) e c d (by decide) ⟨x,H,I1,ru,⟨rfl,λys hy=>by rw[I.tuple_inj hy hq];exact hx⟩,st',λb hb=>(hf b hb).1⟩⟩
 done:=by
  intro X hP hw hK hc i pins s σ H E I hf st hg;subst hP hw hK;obtain⟨xs,hq,hx⟩:=hg;obtain⟨its,rv,p,hz⟩:=I.tuple hq;obtain⟨f0,f1,f2,f3,f4,f5⟩:=hf it (by simp)
  have hl:=rv.length;exact wpAny_pyNext_tuple_end (I.ok.hd hc) st (show s.heap.IsTuple a its.toArray from p) (by simp;omega) λh' eb=>⟨rfl,I.turned (t':=s.toks) (λb o hb e=>eb b o hb e) f0 f1 f3 f4 f5⟩
 self:=λ_ _ _ _ _ st h=>wpAny_pyIter_tupleiter st h
theorem m7{K:E7}(it:Addr)(lo:Int)(n:Nat):Turn P w K tg (Itr lo n) [it] it (λi h=>IsRangeIter h it (lo+(i:Nat)*1) ((n:Int)-(i:Nat)) 1) where
 mem:=by simp
 obj:=λi h st b hb=>by
  have e:b=it:=by simpa using hb
  subst e;exact⟨_,st,λv z=>by
   have z':Data.fields _=Data.cell v:=z;cases z'⟩
 keep:=λi h h' st k=>k it (by simp) _ st
 item:=by
  intro X hP hw hK hc i pins s σ H E I hf st hg;subst hP hw hK;obtain⟨f0,f1,f2,f3,f4,f5⟩:=hf it (by simp)
  have W:=Walks.range (prog:=X.prog) (w:=X.w) (I.ok.hd hc) it lo 1 n;refine bF I.tk (W.item i s _ _ hg st λv h' tk hv st' kk h0=>?_)
  obtain⟨t,rfl⟩:=hv;have I1:Inv X pins σ H {s with heap:=h',toks:=tk}:=I.turned (λb o hb e=>kk b o (by simpa using hb) e) f0 f1 f3 f4 f5
  refine⟨_,rfl,ot (s:={s with heap:=h',toks:=tk}) (n:="range_iterator") st' rfl rfl (by decide) ⟨.int (lo+i),H,I1,⟨t,?_⟩,⟨rfl,rfl⟩,st',λb hb=>(hf b hb).1⟩⟩
  rw[Int.mul_one]
 done:=by
  intro X hP hw hK hc i pins s σ H E I hf st hg;subst hP hw hK;obtain⟨f0,f1,f2,f3,f4,f5⟩:=hf it (by simp)
  exact wpAny_pyNext_range_end (I.ok.hd hc) st (by have:n<=i:=hg;omega) λh' eb=>⟨rfl,I.turned (t':=s.toks) (λb o hb e=>eb b o hb e) f0 f1 f3 f4 f5⟩
 self:=λ_ _ _ _ _ st h=>wpAny_pyIter_rangeiter st h
section
variable {X:Cx}
theorem lX{s:Shared}{lo:Int}(I:Inv X pins σ H s)(h1 : -(2 ^ 62)<=lo)(h2:lo<2 ^ 62)(h3 : -(2 ^ 62)<=hi)(h4:hi<2 ^ 62)
  (q:R (Itr lo (hi-lo).toNat) H) (h0:0<tk:=by first|exact EL _|assumption|exact Inv.tk (by assumption)|exact Env0.tk (by assumption)|exact D0 (Inv.tk (by assumption)) (Eu _ _)):wpAny (model X.prog X.w) X.A (pyIter (.ref s.heap.objs.size)) (PIE X pins σ tg R) E {s with heap:=s.heap.push {cls:=.type "range",data:=.fields #[.int lo t,.int hi u,.int 1 v]},toks:=tk}:=by
 refine wpAny_pyIter_range (IsRange.new ..) (small_one h1 h2 h3 h4) ?_;have I1:Inv X pins σ H {s with heap:=s.heap.push {cls:=.type "range",data:=.fields #[.int lo t,.int hi u,.int 1 v]},toks:=tk}:=I.kept λb o e=>DU _ e
 refine⟨(s.heap.push {cls:=.type "range",data:=.fields #[.int lo t,.int hi u,.int 1 v]}).objs.size,[(s.heap.push {cls:=.type "range",data:=.fields #[.int lo t,.int hi u,.int 1 v]}).objs.size],_,_,H,rfl,
  I1.kept (t':=tk) λb o e=>DU _ e,m7 _ lo (hi-lo).toNat,?_,λb hb=>?_,q⟩
 ·have e1:lo+((0:Nat):Int)*1=lo:=by simp
  have e2:(((hi-lo).toNat:Nat):Int)-((0:Nat):Int)=Builtin.Range.rangeSize lo hi 1:=by rw[rangeSize_one];split<;>omega
  show IsRangeIter _ _ (lo+((0:Nat):Int)*1) ((((hi-lo).toNat:Nat):Int)-((0:Nat):Int)) 1;rw[e1,e2];exact D7 _ rfl
 ·have e:b=(s.heap.push {cls:=.type "range",data:=.fields #[.int lo t,.int hi u,.int 1 v]}).objs.size:=by simpa using hb
  subst e;exact I1.fpOk (DZ _) (I1.hok.fresh (DZ _))
noncomputable def Al(ta:TA):TI:=λσ H R=>ta σ H λvs H1=>∃j:Int,vs=[.int j]/\-(2 ^ 62)<=j/\j<2 ^ 62/\R (Itr 0 j.toNat) H1
noncomputable def AD(ta:TA):TI:=λσ H R=>ta σ H λvs H1=>∃i j:Int,vs=[.int i,.int j]/\(-(2 ^ 62)<=i/\i<2 ^ 62/\-(2 ^ 62)<=j/\j<2 ^ 62)/\R (Itr i (j-i).toNat) H1
theorem o8(hg:Gl X "range")(hm:X.mg "range"=none)(ha:PA X [a] ta)(hs:starEach [a] X.env=[(false,eval a X.env)]:=by rfl):PI X tg (.Call (.Name "range" p) [a] [] pos) (Al ta):=by
 intro pins s σ H R I h;refine Call_ (cL I hg hm boot_range (PyProof.Rows.callWith_type1 (thn (ha pos pins s σ H _ I h) λus s1 ⟨vs,H1,I1,r1,q1⟩=>?_) hs rfl))
 obtain⟨j,e,q1,q2,q⟩:=q1;subst e;cases r1 with
 |cons r rr=>
  cases rr;obtain⟨t,rfl⟩:=r;exact call_range_1 (lX I1 (by omega) (by omega) q1 q2 (by simpa using q))
theorem pS(hg:Gl X "range")(hm:X.mg "range"=none)(ha:PA X [a,b] ta)(hs:starEach [a,b] X.env=[(false,eval a X.env),(false,eval b X.env)]:=by rfl)(hs2:starEach [b] X.env=[(false,eval b X.env)]:=by rfl) :
  PI X tg (.Call (.Name "range" p) [a,b] [] pos) (AD ta):=by
 intro pins s σ H R I h;refine Call_ (cL I hg hm boot_range (PyProof.Rows.callWith_type1 (thn (ha pos pins s σ H _ I h) λus s1 ⟨vs,H1,I1,r1,q1⟩=>?_) (by rw[hs,hs2]) (by rw[hs2];rfl)))
 obtain⟨i,j,e,⟨q1,q2,q3,q4⟩,q⟩:=q1;subst e;cases r1 with
 |cons r rr=>
  cases rr with
  |cons r' rr=>
   cases rr;obtain⟨t,rfl⟩:=r;obtain⟨t',rfl⟩:=r';exact call_range_2 (lX I1 q1 q2 q3 q4 q)
noncomputable def BK(wi:TI)(g:TG)(tb:TS):TS:=λD σ H=>wi σ H λJ H1=>∃W:Nat->Nat->St->Hp->Prop,(∃m,W 0 m σ H1)/\∀i m σ H,W i m σ H->
 (J.stop i H/\D.nx σ H)\/(J.go i H/\∃N:St->Hp->Prop,(∀σ' H',N σ' H'->∃m',m' < m/\W (i+1) m' σ' H')/\∀x H',J.yld i H x H'->g x σ H' λσ2 H2=>tb {D with nx:=N,ct:=N,bk:=D.nx} σ2 H2)
noncomputable def ic(fp:List Addr)(h:Heap):List (Addr×Obj):=fp.filterMap λb=>(h.get? b).map λo=>(b,o)
theorem cK{h:Heap}(hb:b∈fp)(e:h.get? b=some o):(b,o)∈ic fp h:=List.mem_filterMap.mpr ⟨b,hb,by rw[e];rfl⟩
theorem pF{h:Heap}{p:Addr×Obj}(hp:p∈ic fp h):p.1∈fp/\h.get? p.1=some p.2:=by
 obtain⟨b,hb,e⟩:=List.mem_filterMap.mp hp;cases q:h.get? b with
 |none=>rw[q]at e;cases e
 |some o=>
  rw[q]at e;have e':(b,o)=p:=D9 e;subst e';exact⟨hb,q⟩
theorem Inv.pinned{s:Shared}(I:Inv X pins σ H s)(hf:∀b∈fp,la X pins H b)(ho:∀b∈fp,∃o,s.heap.get? b=some o/\∀v,o.data≠.cell v):Inv X (pins++ic fp s.heap) σ H s:=
 I.pins_of λp hp=>(Eo.mp hp).elim (λz=>I.pin p (El _ z)) λz=>by
  obtain⟨hb,e⟩:=pF z;obtain⟨f0,f1,f2,_⟩:=hf p.1 hb;obtain⟨o,e',d⟩:=ho p.1 hb;rw[e]at e';cases e';exact⟨e,f0,f1,f2,d⟩
theorem Inv.unpinned(I:Inv X (pins++pl) σ H s):Inv X pins σ H s:=I.pins_of λp hp=>I.pin p (El _ (Ev _ hp))
theorem mW(hp:PassesOwn (model X.prog X.w) X.A X.env X.xe)(hc:X.calm=true)(hi:PI X tg iter wi)(hg:PG X tg g)(hb:PSs X body tb)
  (hs:∀x,foldedSetIterable iter X.env x=pure x:=by intro _;rfl):PS X (.For tg iter body [] pos) (BK wi g tb):=by
 intro pins s σ H D I h;refine wpAny_For (thn (hi pins s σ H _ I h) λv s1 h1=>thn h1 λitv s2 h2=>?_) hs
 obtain⟨it,fp,tn,J,H2,e,I2,T,st2,f2,W,⟨m0,w0⟩,turn⟩:=h2;subst e;have stat:∀{H':Hp},(∀b∈fp,H' b=none)->∀b∈fp,la X pins H' b:=λhn b hb=>⟨hn b hb,(f2 b hb).2⟩
 refine codeAny_forLoop_any (λn s'=>∃i σ' H',Inv X pins σ' H' s'/\tn i s'.heap/\(∀b∈fp,H' b=none)/\W i n σ' H') ?_ m0 ⟨0,σ,H2,I2,st2,λb hb=>(f2 b hb).1,w0⟩
 rintro n s3 ⟨i,σ3,H3,I3,st3,fr3,w3⟩;rcases turn i n σ3 H3 w3 with ⟨stop,qn⟩|⟨go,N,hN,step⟩
 ·refine wpAny_passesOwn hp (thn (T.done X rfl rfl rfl hc i pins s3 σ3 H3 X.xe I3 (stat fr3) st3 stop) λr s4 ⟨hr,I4⟩=>?_)
  subst hr;exact wpAny_execs_nil ⟨σ3,H3,I4,qn⟩
 ·refine wpAny_passesOwn hp (thn (T.item X rfl rfl rfl hc i pins s3 σ3 H3 X.xe I3 (stat fr3) st3 go) λr s4 ⟨u,hr,h4⟩=>?_)
  subst hr;refine wpAny_passesOwn hp (thn h4 λ_ s5 ⟨x,H5,I5,r5,y5,st5,fr5⟩=>?_)
  have I5':=I5.pinned (stat fr5) (T.obj _ _ st5);refine wpAny_passesOwn hp (thn (hg _ s5 σ3 H5 x u _ I5' r5 (step x H5 y5)) λ_ s6 ⟨σ6,H6,I6,q6⟩=>?_)
  refine wpAny_passesOwn hp (thn (hb _ s6 σ6 H6 _ I6 q6) λf s7 q7=>?_)
  have again:∀{σ7:St}{H7:Hp},Inv X (pins++ic fp s5.heap) σ7 H7 s7->N σ7 H7->∃m,m<n/\∃i σ' H',Inv X pins σ' H' s7/\tn i s7.heap/\(∀b∈fp,H' b=none)/\W i m σ' H':=λ{σ7 H7} I7 n7=>by
   obtain⟨m',hm,w7⟩:=hN σ7 H7 n7;refine⟨m',hm,i+1,σ7,H7,I7.unpinned,T.keep _ _ _ st5 λb hb o e=>(I7.pin (b,o) (El _ (El _ (cK hb e)))).1,λb hb=>?_,w7⟩
   obtain⟨o,e,d⟩:=T.obj _ _ st5 b hb;exact (I7.pin (b,o) (El _ (El _ (cK hb e)))).2.1
  cases f with
  |next=>obtain⟨σ7,H7,I7,n7⟩:=q7;exact again I7 n7
  |cont=>obtain⟨σ7,H7,I7,n7⟩:=q7;exact again I7 n7
  |brk=>obtain⟨σ7,H7,I7,q7⟩:=q7;exact⟨σ7,H7,I7.unpinned,q7⟩
  |ret v=>obtain⟨x7,σ7,H7,I7,r7,q7⟩:=q7;exact⟨x7,σ7,H7,I7.unpinned,r7,q7⟩
end
noncomputable abbrev R2:=V->V->Hp->VK->Prop
def OpR(X:Cx)(f:Value->Value->Sem Value)(r:R2):Prop:=
 ∀(pins:List (Addr×Obj)) (s:Shared)(σ:St)(H:Hp)(x y:V)(v u:Value)(Q:VK),Inv X pins σ H s->RelV x v->RelV y u->r x y H Q->
  wpAny (model X.prog X.w) X.A (f v u) (EP X pins σ Q) X.xe s
def UnR(X:Cx)(f:Value->Sem Value)(r:V->Hp->VK->Prop):Prop:=
 ∀(pins:List (Addr×Obj)) (s:Shared)(σ:St)(H:Hp)(x:V)(v:Value)(Q:VK),Inv X pins σ H s->RelV x v->r x H Q->
  wpAny (model X.prog X.w) X.A (f v) (EP X pins σ Q) X.xe s
def CallR(X:Cx)(f:Value)(r:List V->Hp->VK->Prop):Prop:=
 ∀(pins:List (Addr×Obj)) (s:Shared)(σ:St)(H:Hp)(xs:List V)(us:List Value)(Q:VK),Inv X pins σ H s->Vals xs us->r xs H Q->
  wpAny (model X.prog X.w) X.A (call f us) (EP X pins σ Q) X.xe s
noncomputable def tOp(r:R2)(ta tb:TE):TE:=λσ H Q=>ta σ H λx H1=>tb σ H1 λy H2=>r x y H2 Q
noncomputable def tUn(r:V->Hp->VK->Prop)(ta:TE):TE:=λσ H Q=>ta σ H λx H1=>r x H1 Q
def rI(C:Int->Int->Prop)(g:Int->Int->V):R2:=λx y H Q=>∃i j,x=.int i/\y=.int j/\C i j/\Q (g i j) H
def rI0(g:Int->Int->V):R2:=λx y H Q=>∃i j,x=.int i/\y=.int j/\Q (g i j) H
def rU(g:Int->V):V->Hp->VK->Prop:=λx H Q=>∃i,x=.int i/\Q (g i) H
section
variable {X:Cx}{a b c:Expr}{ta tb tc:TE}{pos:Pos}
theorem yf(ha:PE X a ta)(hb:PE X b tb){pins:List (Addr×Obj)}{s:Shared}{σ:St}{H:Hp}{R:V->V->Hp->Prop}(I:Inv X pins σ H s)
  (h:ta σ H λx H1=>tb σ H1 λy H2=>R x y H2) {Q:Value->Shared->Prop}{f:Value->Value->Sem Value}
  (hf:∀v u s2 x y H2,Inv X pins σ H2 s2->RelV x v->RelV y u->R x y H2->wpAny (model X.prog X.w) X.A (f v u) Q X.xe s2) :
  wpAny (model X.prog X.w) X.A (eval a X.env) (λv s₁=>wpAny (model X.prog X.w) X.A (eval b X.env) (λu s₂=>wpAny (model X.prog X.w) X.A (f v u) Q X.xe s₂) X.xe s₁) X.xe s:=by
 refine thn (ha pins s σ H _ I h) λv s1 ⟨x,H1,I1,r1,q1⟩=>?_
 refine thn (hb pins s1 σ H1 _ I1 q1) λu s2 ⟨y,H2,I2,r2,q2⟩=>?_
 exact hf v u s2 x y H2 I2 r1 r2 q2
theorem Ap{op:Operator}{r:R2}(ho:OpR X (binaryOp op) r)(ha:PE X a ta)(hb:PE X b tb):PE X (.BinOp a op b pos) (tOp r ta tb):=by
 intro pins s σ H Q I h;exact wpAny_BinOp (yf ha hb I h λv u s2 x y H2 I2 rx ry q=>ho pins s2 σ H2 x y v u Q I2 rx ry q)
theorem AA(ho:UnR X (unaryOp op) r)(ha:PE X a ta):PE X (.UnaryOp op a pos) (tUn r ta):=by
 intro pins s σ H Q I h;exact UnaryOp_ (thn (ha pins s σ H _ I h) λv s1 ⟨x,H1,I1,r1,q1⟩=>ho pins s1 σ H1 x v Q I1 r1 q1)
theorem opI{f:Value->Value->Sem Value}{C:Int->Int->Prop}{g:Int->Int->Int}
  (rule:∀(i j:Int)(t u:Tok)(s:Shared)(Q:Value->Shared->Prop)(E:Value->Shared->Prop),C i j->Q (.int (g i j) s.toks) {s with toks:=s.toks+1}->wpAny (model X.prog X.w) X.A (f (.int i t) (.int j u)) Q E s) :
  OpR X f (rI C λi j=>.int (g i j)):=by
 intro pins s σ H x y v u Q I rx ry h;obtain⟨i,j,rfl,rfl,hc,q⟩:=h;obtain⟨t,rfl⟩:=rx;obtain⟨t',rfl⟩:=ry;exact rule i j t t' s _ _ hc ⟨.int (g i j),H,I.tok _,⟨_,rfl⟩,q⟩
theorem wm{f:Value->Value->Sem Value}{g:Int->Int->Int}
  (rule:∀(i j:Int)(t u:Tok)(s:Shared)(Q:Value->Shared->Prop)(E:Value->Shared->Prop),Q (.int (g i j) s.toks) {s with toks:=s.toks+1}->wpAny (model X.prog X.w) X.A (f (.int i t) (.int j u)) Q E s) :
  OpR X f (rI0 λi j=>.int (g i j)):=by
 intro pins s σ H x y v u Q I rx ry h;obtain⟨i,j,rfl,rfl,q⟩:=h;obtain⟨t,rfl⟩:=rx;obtain⟨t',rfl⟩:=ry;exact rule i j t t' s _ _ ⟨.int (g i j),H,I.tok _,⟨_,rfl⟩,q⟩
theorem uU{f:Value->Value->Sem Value}{g:Int->Int->Bool}
  (rule:∀(i j:Int)(t u:Tok)(s:Shared)(Q:Value->Shared->Prop)(E:Value->Shared->Prop),Q (.bool (g i j)) s->wpAny (model X.prog X.w) X.A (f (.int i t) (.int j u)) Q E s) :
  OpR X f (rI0 λi j=>.bl (g i j)):=by
 intro pins s σ H x y v u Q I rx ry h;obtain⟨i,j,rfl,rfl,q⟩:=h;obtain⟨t,rfl⟩:=rx;obtain⟨t',rfl⟩:=ry;exact rule i j t t' s _ _ ⟨.bl (g i j),H,I,rfl,q⟩
def qD(i j:Int):Prop:=0<=j/\j<=1000000/\i.natAbs<2 ^ 64
theorem mJ(k:Nat):(0:Int)<=2 ^ k:=by
 rw[two_pow_cast];exact Int.natCast_nonneg _
theorem xW:OpR X (binaryOp .Add) (rI0 λi j=>.int (i+j)):=wm λ_ _ _ _ _ _ _ q=>add_int q
theorem wo:OpR X (binaryOp .Sub) (rI0 λi j=>.int (i-j)):=wm λ_ _ _ _ _ _ _ q=>sub_int q
theorem vV:OpR X (binaryOp .Mod) (rI (λ_ j=>0<j) λi j=>.int (i % j)):=opI λi j _ _ _ _ _ hc q=>by
 have h1:(0:Int)<j:=hc;exact mod_int' (by omega) (by rw[Int.fmod_eq_emod_of_nonneg i (by omega)];exact q)
theorem xp:OpR X (binaryOp .Pow) (rI qD λi j=>.int (i ^ j.toNat)):=opI λ_ _ _ _ _ _ _ hc q=>pow_int_small hc.1 hc.2.1 hc.2.2 q
theorem wu:OpR X (binaryOp .RShift) (rI (λ_ j=>0<=j) λi j=>.int (i / 2 ^ j.toNat)):=opI λi j _ _ _ _ _ hc q=>
 rshift_int hc (by rw[Int.fdiv_eq_ediv_of_nonneg i (mJ _)];exact q)
theorem xz:OpR X (binaryOp .BitAnd) (rI0 λi j=>.int (Builtin.bitAnd i j)):=wm λ_ _ _ _ _ _ _ q=>and_int q
theorem unI{f:Value->Sem Value}{g:Int->Int}
  (rule:∀(i:Int)(t:Tok)(s:Shared)(Q:Value->Shared->Prop)(E:Value->Shared->Prop),Q (.int (g i) s.toks) {s with toks:=s.toks+1}->wpAny (model X.prog X.w) X.A (f (.int i t)) Q E s) :
  UnR X f (rU λi=>.int (g i)):=by
 intro pins s σ H x v Q I rx h;obtain⟨i,rfl,q⟩:=h;obtain⟨t,rfl⟩:=rx;exact rule i t s _ _ ⟨.int (g i),H,I.tok _,⟨_,rfl⟩,q⟩
theorem wS:UnR X (unaryOp .USub) (rU λi=>.int (-i)):=unI λ_ _ _ _ _ q=>neg_int q
end
section
variable {X:Cx}{a b c:Expr}{ta tb tc:TE}{pos:Pos}
theorem ko(I:Inv X pins σ H s)(q:Q (.bl k) H)(e:k=k'):EP X pins σ Q (.bool k') s:=by
 subst e;exact⟨.bl k,H,I,rfl,q⟩
theorem zA:OpR X (compareOp .Lt) (rI0 λi j=>.bl (decide (i<j))):=uU λ_ _ _ _ _ _ _ q=>lt_int q
theorem yS:OpR X (compareOp .LtE) (rI0 λi j=>.bl (decide (i<=j))):=uU λ_ _ _ _ _ _ _ q=>le_int q
theorem zk:OpR X (compareOp .Gt) (rI0 λi j=>.bl (decide (j<i))):=uU λ_ _ _ _ _ _ _ q=>gt_int q
theorem At:OpR X (compareOp .GtE) (rI0 λi j=>.bl (decide (j<=i))):=uU λ_ _ _ _ _ _ _ q=>ge_int q
theorem qh:OpR X (compareOp .In) (λx y H Q=>∃i j,x=.str i/\y=.str j/\Q (.bl (!(Builtin.Str.occurrences j i 0 j.length 1).isEmpty)) H):=by
 intro pins s σ H x y v u Q I rx ry h;obtain⟨i,j,rfl,rfl,q⟩:=h;obtain⟨t,rfl⟩:=rx;obtain⟨t',rfl⟩:=ry;exact in_str (ko I q rfl)
theorem wV:OpR X (compareOp .Is) (λx y H Q=>y=.non/\Q (.bl (decide (x=.non))) H):=by
 intro pins s σ H x y v u Q I rx ry h;obtain⟨rfl,q⟩:=h;cases ry;refine is_none_gen (ko I q ?_);cases x<;>first
  |(cases rx;rfl)
  |(obtain⟨t,rfl⟩:=rx;rfl)
theorem uV:OpR X (compareOp .IsNot) (λx y H Q=>y=.non/\Q (.bl (!decide (x=.non))) H):=by
 intro pins s σ H x y v u Q I rx ry h;obtain⟨rfl,q⟩:=h;cases ry;refine isnot_none_gen (ko I q ?_);cases x<;>first
  |(cases rx;rfl)
  |(obtain⟨t,rfl⟩:=rx;rfl)
theorem kf:OpR X (compareOp .NotIn) (λx y H Q=>∃i j,x=.str i/\y=.str j/\Q (.bl (!(!(Builtin.Str.occurrences j i 0 j.length 1).isEmpty))) H):=by
 intro pins s σ H x y v u Q I rx ry h;obtain⟨i,j,rfl,rfl,q⟩:=h;obtain⟨t,rfl⟩:=rx;obtain⟨t',rfl⟩:=ry;exact notIn_str (ko I q rfl)
theorem vc{op:CmpOp}{r:R2}(ho:OpR X (compareOp op) r)(ha:PE X a ta)(hb:PE X b tb)(hm:behindInMarks op b=false):PE X (.Compare a [op] [b] pos) (tOp r ta tb):=by
 intro pins s σ H Q I h;exact wpAny_Compare1 (yf ha hb I h λv u s2 x y H2 I2 rx ry q=>ho pins s2 σ H2 x y v u Q I2 rx ry q) hm
noncomputable def qQ(t:TE):TT:=λσ H Q=>t σ H λx H'=>∃k,x=.bl k/\Q k H'
theorem ui(ho:OpR X (compareOp op) r)(ha:PE X a ta)(hb:PE X b tb)(hm:behindInMarks op b=false):PT X (.Compare a [op] [b] pos) (qQ (tOp r ta tb)):=by
 intro pins s σ H Q I h;refine wpAny_isTrue_Compare1 (thn (ha pins s σ H _ I h) λv s1 ⟨x,H1,I1,r1,q1⟩=>thn (hb pins s1 σ H1 _ I1 q1) λu s2 ⟨y,H2,I2,r2,q2⟩=>
  thn (ho pins s2 σ H2 x y v u _ I2 r1 r2 q2) λc s3 ⟨z,H3,I3,r3,k,e,q3⟩=>?_) hm
 subst e;cases r3;exact EC ⟨H3,I3,q3⟩
noncomputable def wg(r r':R2)(ta tb tc:TE):TE:=λσ H Q=>ta σ H λx H1=>tb σ H1 λy H2=>r x y H2 λz H3=>∃k,z=.bl k/\
 (if k=true then tc σ H3 λw' H4=>r' y w' H4 Q else Q (.bl false) H3)
theorem rX(ho:OpR X (compareOp op) r)(ho':OpR X (compareOp op') r')(ha:PE X a ta)(hb:PE X b tb)(hc:PE X c tc)
  (hm:lastMarks [op,op'] [b,c]=false:=by with_unfolding_all rfl):PT X (.Compare a [op,op'] [b,c] pos) (qQ (wg r r' ta tb tc)):=by
 intro pins s σ H Q I h;refine isTrue_chain (thn (ha pins s σ H _ I h) λv s1 ⟨x,H1,I1,r1,q1⟩=>test_link (thn (hb pins s1 σ H1 _ I1 q1) λu s2 ⟨y,H2,I2,r2,q2⟩=>
  thn (ho pins s2 σ H2 x y v u _ I2 r1 r2 q2) λd s3 ⟨z,H3,I3,r3,k,e,q3⟩=>?_)) hm
 subst e;cases r3;refine EC ?_;cases k with
 |false=>
  obtain⟨k',e',q'⟩:=q3;cases e';exact ite_ff ⟨H3,I3,q'⟩
 |true=>
  refine ite_tt (test_last (thn (hc pins s3 σ H3 _ I3 q3) λw' s4 ⟨z',H4,I4,r4,q4⟩=>thn (ho' pins s4 σ H4 y z' u w' _ I4 r2 r4 q4) λd' s5 ⟨z2,H5,I5,r5,k2,e2,q5⟩=>?_))
  subst e2;cases r5;exact EC ⟨H5,I5,q5⟩
theorem gp:(sizeLine:Nat)<2 ^ 63:=by rw[sizeLine_eq];decide
theorem mH:OpR X (binaryOp .Add) (λx y H Q=>∃i j,x=.str i/\y=.str j/\i.length+j.length<=sizeLine/\Q (.str (i++j)) H):=by
 intro pins s σ H x y v u Q I rx ry h;obtain⟨i,j,rfl,rfl,hz,q⟩:=h;obtain⟨t,rfl⟩:=rx;obtain⟨t',rfl⟩:=ry;exact bF I.tk <| add_str (λt' tk _=>⟨.str (i++j),H,I.tok _,⟨_,rfl⟩,q⟩) hz
theorem eh(r:Vals [x] us):∃u,us=[u]/\RelV x u:=by
 cases r with
 |cons r1 r2=>cases r2;exact⟨_,rfl,r1⟩
theorem Ad(r:Vals [x,y] us):∃u w',us=[u,w']/\RelV x u/\RelV y w':=by
 cases r with
 |cons r1 r2=>
  cases r2 with
  |cons r3 r4=>cases r4;exact⟨_,_,rfl,r1,r3⟩
theorem pO(hc:X.calm=true):CallR X (.builtin "min") (λxs H Q=>∃i j,xs=[.int i,.int j]/\Q (.int (if j<i then j else i)) H):=by
 intro pins s σ H xs us Q I r h;obtain⟨i,j,rfl,q⟩:=h;obtain⟨u,w',rfl,⟨t,rfl⟩,⟨t',rfl⟩⟩:=Ad r;refine bF I.tk <| min_two_ints (I.ok.hd hc) λh' tk k _=>⟨_,H,I.kept k,?_,q⟩
 by_cases hj:j<i
 ·rw[DY hj,DY hj];exact⟨_,rfl⟩
 ·rw[DV hj,DV hj];exact⟨_,rfl⟩
end
structure ObjM (h:Heap)(x dx C:Addr)(mA:Str->Option Value):Prop where
 obj:h.get? x=some (PySem.W.instObj C dx)
 ns:h.Ns1 dx mA
 ne:dx≠x
theorem pT{h:Heap}(n:h.Ns1 dx mA):∃od,h.get? dx=some od/\∀name,PySem.W.lookIn name od=some (mA name):=by
 obtain⟨o,es,ep,ho,hd,hk,_,hm⟩:=n;refine⟨o,ho,λname=>?_⟩
 have e:=hm name;unfold nsFind findBy at e;rw[<-Array.find?_toList]at e;unfold PySem.W.lookIn;rw[hd];dsimp only;split
 ·rename_i y q;rw[q]at e;exact congrArg some e
 ·rename_i q;rw[q]at e;have a:es.toList.any (·.refKey)=false:=by
   rw[List.any_eq_false];intro y hy;obtain⟨z,t,hkey⟩:=hk y (Array.mem_toList_iff.mp hy);simp[DictEntry.refKey,hkey]
  have a':¬ es.toList.any (·.refKey)=true:=by rw[a];exact D8
  rw[DV a'];exact congrArg some e
theorem ObjM.look(I:ObjM h x dx C mA):∃od,PySem.W.InstAt h x (PySem.W.instObj C dx) C (some od)/\∀name,PySem.W.lookIn name od=some (mA name):=
 let ⟨od,ho,hl⟩:=pT I.ns
 ⟨od,⟨I.obj,rfl,rfl,ho⟩,hl⟩
section
variable {w:World}{A:Around}{s:Shared}{K:E7}{x:Addr}
theorem ur(X:K.In s.heap)(I:ObjM s.heap x dx C mA)(hg:PySem.W.plainGet K C name=true)(hh:PySem.W.hasDictIn K C=true)
  (ha:PySem.W.findIn K (.ref C) name=some none) (hv:mA name=some v) (hv':PySem.W.handedIn v=true) (h:Q v {s with toks:=s.toks+1}) :
  wpAny (model prog w) A (getAttr (.ref x) name expr) Q E s:=by
 obtain⟨od,J,hl⟩:=I.look;exact PySem.W.get_value X J (PySem.W.plainGet_of hg).1 (PySem.W.findObj_own hh ha rfl (by rw[hl,hv])) hv' h
theorem rP(X:K.In s.heap)(I:ObjM s.heap x dx C mA)(hg:PySem.W.plainGet K C name=true)
  (hf:PySem.W.findIn K (.ref C) name=some (some (.ref f))) (ht:PySem.W.isFn K (.ref f)=true) (hv:mA name=none) (h:Q (.ref f,[.ref x]) s) :
  wpAny (model prog w) A (getMethod (.ref x) name pl) Q E s:=by
 obtain⟨od,J,hl⟩:=I.look;exact PySem.W.method_fn X J (PySem.W.plainGet_of hg).1 (PySem.W.plainGet_of hg).2 hf (Ec.mp ht) (by show (PySem.W.lookIn name od).map (·.isSome)=some false;rw[hl,hv];rfl) h
theorem u9{ns:List Str}(X:K.In s.heap)(I:ObjM s.heap x dx C mA)
  (hs:PySem.W.findIn K (.ref C) "__setattr__"=some (some (.builtin "object.__setattr__"))) (hp:PySem.W.plainOver K C=true) (ht:PySem.W.takerIn K C name=some none) (hh:PySem.W.hasDictIn K C=true)
  (hw:PySem.Within mA ns) (hsz:ns.length<=sizeLine)
  (h:∀h',ObjM h' x dx C (λy=>if y=name then some v else mA y)->Heap.SameBut dx s.heap h'->Q () {s with heap:=h',toks:=s.toks+2}) :
  wpAny (model prog w) A (setAttr (.ref x) name v) Q E s:=by
 obtain⟨od,J,hl⟩:=I.look;refine PySem.W.set_plain X J hs (PySem.W.osa_open (s:={s with toks:=s.toks+1}) (r:=none) X J hp ht λb=>?_)
 obtain⟨cd,hc,hd'⟩:=PySem.W.any_some hh;have hx:s.heap.get? x=some ⟨.ref C,some dx,.plain,#[]⟩:=I.obj;refine vJ (DS (vJ (vJ (wpAny_loadPart hx (vJ (PySem.W.Looks.here (s:={s with toks:=s.toks+1}) (PySem.W.looks_clsIn X hc) ?_))))))
 rw[hd'];refine DS (a:=some dx) (vJ (DS (vJ ?_)));refine wpAny_nsSet1 (s:={s with toks:=s.toks+1}) I.ns λh' hn2 hs2=>?_
 obtain⟨oD,esD,epD,hoD,hdD,hcD⟩:=hn2.count (PySem.Within.cons name v hw);refine vJ (wpAny_lookBehind hoD (by rw[hdD];exact pastItsLine_dict (Ej hcD (by rw[Em];omega))) ?_)
 exact DS (h _ ⟨(hs2.2 _ (Ea I.ne)).trans I.obj,hn2,I.ne⟩ hs2)
theorem rY(X:K.In s.heap)(hm:PySem.W.makesIn K C=true)
  (hi:PySem.W.findIn K (.ref C) "__init__"=some (some (.ref f))) (hf:PySem.W.typeIn K (.ref f)=some (.type "function"))
  (h:codeAny (model prog w) (A.under (.builtin "type.__call__" ⟨.ref C::vs,kw⟩)) (.call (.ref f) ⟨.ref (s.heap.objs.size+1)::vs,kw⟩) (PySem.W.InitBack (s.heap.objs.size+1) R)
   {s with heap:=(s.heap.push PySem.W.emptyDict).push (PySem.W.instObj C s.heap.objs.size)}) :
  codeAny (model prog w) A (.call (.ref C) ⟨vs,kw⟩) R s:=by
 obtain⟨hh,g,d,t,os⟩:=s;exact PySem.W.make_core (PySem.W.makes_of X hm) (PySem.W.looks_findIn X hi) (λself=>PySem.W.bind_fn X self hf) (.inl rfl) h
end
noncomputable def cC(f:Str)(v:V):List (Str×V)->List (Str×V)
 |[]=>[(f,v)]
 |(g,x)::r=>if g=f then (g,v)::r else (g,x)::cC f v r
theorem gL(f g:Str)(v:V):∀fs:List (Str×V),(cC f v fs).lookup g=if g=f then some v else fs.lookup g
 |[]=>by
  show List.lookup g [(f,v)]=_;by_cases h:g=f
  ·have hb:(g == f)=true:=Ec.mpr h;simp only[List.lookup,hb,DY h]
  ·have hb:(g == f)=false:=Ey.mpr h;simp only[List.lookup,hb,DV h]
 |(k,x)::r=>by
  have ih:=gL f g v r;rw[show cC f v ((k,x)::r)=(if k=f then (k,v)::r else (k,x)::cC f v r) from rfl]
  by_cases hk:k=f
  ·rw[DY hk];by_cases h:g=k
   ·have hb:(g == k)=true:=Ec.mpr h;simp only[List.lookup,hb,DY (h.trans hk)]
   ·have hb:(g == k)=false:=Ey.mpr h;simp only[List.lookup,hb,DV (λe:g=f=>h (e.trans hk.symm))]
  ·rw[DV hk];by_cases h:g=k
   ·have hb:(g == k)=true:=Ec.mpr h;simp only[List.lookup,hb,DV (λe:g=f=>hk (h.symm.trans e))]
   ·have hb:(g == k)=false:=Ey.mpr h;simp only[List.lookup,hb];exact ih
theorem gi(f:Str)(v:V):∀fs:List (Str×V),f∈(cC f v fs).map (·.1)/\∀g,g∈fs.map (·.1)->g∈(cC f v fs).map (·.1)
 |[]=>⟨by simp[cC],λg h=>by simp at h⟩
 |(k,x)::r=>by
  obtain⟨i1,i2⟩:=gi f v r;rw[show cC f v ((k,x)::r)=(if k=f then (k,v)::r else (k,x)::cC f v r) from rfl]
  by_cases hk:k=f
  ·rw[DY hk];subst hk;exact⟨by simp,λg h=>by simpa using h⟩
  ·rw[DV hk];refine⟨?_,λg h=>?_⟩
   ·rw[D4];exact DT _ i1
   ·rw[D4]at h ⊢;rcases DX.mp h with e|e
    ·exact DX.mpr (.inl e)
    ·exact DT _ (i2 g e)
theorem gN(f:Str)(v:V):∀fs:List (Str×V),(cC f v fs).length<=fs.length+1
 |[]=>by simp[cC]
 |(k,x)::r=>by
  have ih:=gN f v r;rw[show cC f v ((k,x)::r)=(if k=f then (k,v)::r else (k,x)::cC f v r) from rfl]
  by_cases hk:k=f
  ·rw[DY hk,Em,Em];omega
  ·rw[DV hk,Em,Em];omega
theorem RelO.some_of(r:RelO (some v) o):∃u,o=some u/\RelV v u:=by
 cases o with
 |none=>exact (show False from r).elim
 |some u=>exact⟨u,rfl,r⟩
theorem RelO.none_of(r:RelO none o):o=none:=by
 cases o with
 |none=>rfl
 |some u=>exact (show False from r).elim
theorem pL(r:RelV v u):PySem.W.handedIn u=true:=by
 cases v with
 |non=>cases (show u=Value.none from r);rfl
 |bl b=>cases (show u=Value.bool b from r);rfl
 |int i=>obtain⟨t,e⟩:=(show ∃t,u=Value.int i t from r);cases e;rfl
 |str x=>obtain⟨t,e⟩:=(show ∃t,u=Value.str x t from r);cases e;rfl
 |byt b=>obtain⟨t,e⟩:=(show ∃t,u=Value.bytes b t from r);cases e;rfl
 |flt b=>obtain⟨t,e⟩:=(show ∃t,u=Value.float b t from r);cases e;rfl
 |ref a=>cases (show u=Value.ref a from r);rfl
 |ty n=>cases (show u=Value.type n from r);rfl
section
variable {P:Program}{w:World}{h h':Heap}{a:Addr}{fs:List (Str×V)}
theorem u8(hok:HOk P w H h)(e:H a=some (.ins C dx fs)):∃mA,ObjM h a dx C mA/\(∀f,RelO (fs.lookup f) (mA f))/\PySem.Within mA (fs.map (·.1))/\fs.length<=1000/\H dx=some (.own a):=by
 obtain⟨d,z,ne,ob,mA,n,r,q⟩:=(show ObjOk P w H h a (.ins C dx fs) from hok a _ e);exact⟨mA,⟨ob,n,ne⟩,r,q,z,d⟩
end
structure Cls (K:E7)(C:Addr):Prop where
 pg:PySem.W.plainGet K C Str.empty=true
 hd:PySem.W.hasDictIn K C=true
 po:PySem.W.plainOver K C=true
 sa:PySem.W.findIn K (.ref C) "__setattr__"=some (some (.builtin "object.__setattr__"))
theorem Cls.get{K:E7}{C:Addr}(c:Cls K C)(f:Str):PySem.W.plainGet K C f=true:=c.pg
def NoAttr(K:E7)(C:Addr)(f:Str):Prop:=PySem.W.findIn K (.ref C) f=some none
theorem NoAttr.taker{K:E7}(n:NoAttr K C f):PySem.W.takerIn K C f=some none:=by
 unfold PySem.W.takerIn;rw[show PySem.W.findIn K (.ref C) f=some none from n];rfl
structure Meth (K:E7)(C:Addr)(m:Str)(f:Addr):Prop where
 at_:PySem.W.findIn K (.ref C) m=some (some (.ref f))
 fn:PySem.W.isFn K (.ref f)=true
 kp:PySem.W.keepIn K (.ref f)=true
section
variable {X:Cx}{s:Shared}{a:Addr}{fs:List (Str×V)}{A:Around}
theorem nH(I:Inv X pins σ H s)(e:H a=some (.ins C dx fs))(c:Cls X.K C)(n:NoAttr X.K C f)(hl:fs.length<1000)(ry:RelV y u)
  (h:∀s',Inv X pins σ (upd H a (.ins C dx (cC f y fs))) s'->Q () s'):wpAny (model X.prog X.w) A (setAttr (.ref a) f u) Q E s:=by
 obtain⟨mA,O,r,wi,_,ho⟩:=u8 I.hok e;have hz:(fs.map (·.1)).length<=sizeLine:=by rw[D5,sizeLine_eq];omega
 refine u9 I.kIn O c.sa c.po n.taker c.hd wi hz λh' O' sb=>h _ ?_
 have hd:∃o,h'.get? dx=some o:=let ⟨o,_,_,e',_⟩:=O'.ns;⟨o,e'⟩
 refine I.write (x:=a) (e:=dx) (by rw[e];exact True.intro) (.inr ho) (λb q hb z=>(sb.2 b hb).trans z) hd ?_
 refine⟨by rw[aa O.ne];exact ho,?_,O.ne,O'.obj,_,O'.ns,λg=>?_,λg hg=>?_⟩
 ·have:=gN f y fs;omega
 ·show RelO ((cC f y fs).lookup g) (if g=f then some u else mA g)
  rw[gL];by_cases q:g=f
  ·rw[DY q,DY q];exact ry
  ·rw[DV q,DV q];exact r g
 ·by_cases q:g=f
  ·rw[q];exact (gi f y fs).1
  ·refine (gi f y fs).2 g (wi g λz=>hg ?_)
   show (if g=f then some u else mA g)=none
   rw[DV q];exact z
theorem Inv.made(I:Inv X pins σ H s):Inv X pins σ (upd (upd H s.heap.objs.size (.own (s.heap.objs.size+1))) (s.heap.objs.size+1) (.ins C s.heap.objs.size []))
  {s with heap:=(s.heap.push PySem.W.emptyDict).push (PySem.W.instObj C s.heap.objs.size)}:=by
 have e1:(s.heap.push PySem.W.emptyDict).get? s.heap.objs.size=some PySem.W.emptyDict:=D7 s.heap rfl;have e2:((s.heap.push PySem.W.emptyDict).push (PySem.W.instObj C s.heap.objs.size)).get? (s.heap.objs.size+1)=some (PySem.W.instObj C s.heap.objs.size):=by
  have:=D7 (s.heap.push PySem.W.emptyDict) (o:=PySem.W.instObj C s.heap.objs.size) rfl
  rwa [Heap.size_push]at this
 have e3:(s.heap.push PySem.W.emptyDict).Ns s.heap.objs.size (λ_=>none):=⟨PySem.W.emptyDict,#[],_,e1,rfl,(λe he=>absurd he (by simp)),λ_=>rfl⟩
 have I1:=I.laid (a:=s.heap.objs.size) (o:=.own (s.heap.objs.size+1)) (h':=s.heap.push PySem.W.emptyDict) (t':=s.toks) (λb u q=>DU _ q) (DZ _) ⟨_,e1⟩
 refine I1.laid (a:=s.heap.objs.size+1) (o:=.ins C s.heap.objs.size []) (t':=s.toks) (λb u q=>DU _ q) (Nat.le_of_eq (Heap.size_push _ _)) ?_
 have ne:s.heap.objs.size≠s.heap.objs.size+1:=Ek (Nat.lt_succ_self _);refine⟨by rw[aa ne,ad],Nat.zero_le _,ne,e2,λ_=>none,(Heap.Ns1.of_empty e3).at λo q=>DU _ q,λ_=>True.intro,λy hy=>absurd rfl hy⟩
theorem va(hb:attributeBase e f env (eval e env)=eval e env)
  (h:wpAny (model prog w) A (eval e env) (λo s₁=>wpAny (model prog w) A (getAttr o f true) Q E s₁) E s):wpAny (model prog w) A (eval (.Attribute e f pos) env) Q E s:=
 Attribute_any_ h (by rw[arm_eval_Attribute,hb])
end
noncomputable def Bw(K:E7)(ta tv:TE)(f:Str):TS:=λD σ H=>tv σ H λy H1=>ta σ H1 λx H2=>∃a C dx fs,x=.ref a/\H2 a=some (.ins C dx fs)/\Cls K C/\NoAttr K C f/\fs.length<1000/\
 D.nx σ (upd H2 a (.ins C dx (cC f y fs)))
section
variable {X:Cx}{o:Expr}{pos:Pos}
theorem wL(ha:PE X o ta)(hv:PE X value tv)(hs:swapsWith value (some (.Attribute o f pos')) pos.line X.env=pure false):PS X (.Assign [.Attribute o f pos'] value pos) (Bw X.K ta tv f):=by
 intro pins s σ H D I h;refine plainObj_wpAny_Assign_Attribute (thn (hv pins s σ H _ I h) λu s1 ⟨y,H1,I1,ry,q⟩=>thn (ha pins s1 σ H1 _ I1 q) λov s2 ⟨x,H2,I2,rx,a,C,dx,fs,ex,ea,c,n,l,q2⟩=>?_) hs
 subst ex;obtain rfl:ov=Value.ref a:=rx;exact nH I2 ea c n l ry λs3 I3=>⟨σ,_,I3,q2⟩
end
section
variable {X:Cx}{s:Shared}{A:Around}{c:Value}{b:Bool}
end
def HdH(A:Around)(H:Hp):Prop:=∃a o u,A.handled=some (.ref a)/\H a=some (.frz o u)/\gU o
structure Room (k:Nat)(A:Around) (b:Bool:=true):Prop where
 hd:b=true->A.handled=none
 dp:A.depth+3*k+5<recursionLimit
 un:A.units+16*k+200<cLine
theorem Room.mono(r:Room k A b)(h:j<=k):Room j A b:=⟨r.hd,by have:=r.dp;omega,by have:=r.un;omega⟩
theorem Room.deeper{A:Around}(r:Room (k+1) A b)(env:Env):Room k (A.deeper env) b:=
 ⟨r.hd,by have:=r.dp;show A.depth+1+3*k+5<_;omega,by have:=r.un;show A.units+3+16*k+200<_;omega⟩
theorem mI{A:Around}:(A.under (.builtin "type.__call__" ⟨.ref C::us,kw⟩)).depth=A.depth+1:=by
 first|rfl|simp[Around.under,Code.weight,Code.isCreation,Code.isGuard,Code.isCaller,Code.frames,Code.isFrame,guardIds]
theorem nN{A:Around}:(A.under (.builtin "type.__call__" ⟨.ref C::us,kw⟩)).units=A.units+1:=by
 first|rfl|simp[Around.under,Code.cUnits,Code.frames,Code.isFrame]
theorem Room.make{A:Around}(r:Room (k+1) A b)(C:Addr)(us:List Value)(kw:List (Str×Value)):Room k (A.under (.builtin "type.__call__" ⟨.ref C::us,kw⟩)) b:=
 ⟨r.hd,by have:=r.dp;rw[mI];omega,by have:=r.un;rw[nN];omega⟩
theorem Room.depth{A:Around}(r:Room k A b):A.depth<recursionLimit:=by have:=r.dp;omega
theorem Room.units{A:Around}(r:Room k A b):A.units+64<cLine:=by have:=r.un;omega
noncomputable def tNil:TA:=λ_ H Q=>Q [] H
noncomputable def qL(ta:TE)(tr:TA):TA:=λσ H Q=>ta σ H λx H1=>tr σ H1 λxs H2=>Q (x::xs) H2
section
variable {X:Cx}{pos:Pos}
theorem pa_nil:PA X [] tNil:=λ_ _ _ _ H Q I h=>Calls.spliced_nil ⟨[],H,I,.nil,h⟩
theorem aL(ha:PE X e te)(hr:PA X es t)(hs:starEach (e::es) X.env=(false,eval e X.env)::starEach es X.env:=by rfl):PA X (e::es) (qL te t):=by
 intro pos pins s σ H Q I h;rw[hs];show wpAny _ _ (spliced ((false,eval e X.env)::backTo pos (starEach es X.env))) _ _ s;refine Calls.spliced_cons (thn (ha pins s σ H _ I h) λu s1 ⟨x,H1,I1,r1,q1⟩=>?_)
 exact thn (hr pos pins s1 σ H1 _ I1 q1) λus s2 ⟨xs,H2,I2,r2,q2⟩=>⟨x::xs,H2,I2,.cons r1 r2,q2⟩
noncomputable def B8(t:TA):TE:=λσ H Q=>t σ H λxs H1=>xs.length<=sizeLine/\∀p,H1 p=none->Q (.ref p) (upd H1 p (.tup xs))
noncomputable def Cr(t:TA):TE:=λσ H Q=>t σ H λxs H1=>xs.length<=sizeLine/\∀p,H1 p=none->Q (.ref p) (upd H1 p (.lst xs))
theorem xc{x1}(h:PA X es t):PE X (.Tuple es x1 pos) (B8 t):=by
 intro pins s σ H Q I hq;refine wpAny_Tuple_spliced (thn (h pos pins s σ H _ I hq) λus s1 ⟨xs,H1,I1,r,z,q⟩=>⟨by rw[<-r.length];exact z,?_⟩)
 have hf:H1 s1.heap.objs.size=none:=I1.hok.fresh (DZ _);refine⟨.ref s1.heap.objs.size,upd H1 s1.heap.objs.size (.tup xs),I1.laid (t':=s1.toks) (λb u e=>DU _ e) (DZ _) ?_,rfl,q _ hf⟩
 exact⟨z,us,r,⟨_,D7 _ rfl,rfl,_,rfl⟩⟩
theorem yz(h:PA X es t):PE X (.List es pos) (Cr t):=by
 intro pins s σ H Q I hq;refine wpAny_List_spliced (thn (h pos pins s σ H _ I hq) λus s1 ⟨xs,H1,I1,r,z,q⟩=>⟨by rw[<-r.length];exact z,?_⟩)
 have hf:H1 s1.heap.objs.size=none:=I1.hok.fresh (DZ _);refine⟨.ref s1.heap.objs.size,upd H1 s1.heap.objs.size (.lst xs),I1.laid (t':=s1.toks) (λb u e=>DU _ e) (DZ _) ?_,rfl,q _ hf⟩
 exact⟨z,us,0,r,D7 _ rfl⟩
end
noncomputable abbrev Sp:=List V->Hp->VK->XK->Prop
noncomputable abbrev CXT:=List Env->Hp->Shared->XK->Value->Shared->Prop
structure Env0 (P:Program)(w:World)(K:E7)(mg:Str->Option Value)(base:Heap)(A:Around)(outer:List Env)(s:Shared)(H:Hp):Prop where
 frames:A.frames=some outer
 mod:Mod K mg base
 bs:∀b o,base.get? b=some o->s.heap.get? b=some o/\H b=none
 bsz:base.objs.size<=s.heap.objs.size
 funs:s.heap.FunFrames base outer
 frf:∀b∈frs outer,H b=none
 hok:HOk P w H s.heap
 bare:AllBare s.gens
 tk:0<s.toks
def CE(outer:List Env)(P:Program)(w:World)(H:Hp)(s:Shared)(Q:VK)(u:Value)(s':Shared):Prop:=
 ∃v H',(s'.os=s.os/\0<s'.toks)/\AllBare s'.gens/\Un (frs outer) [] H H' s.heap s'.heap/\HOk P w H' s'.heap/\RelV v u/\Q v H'
def CR(CX:CXT)(outer:List Env)(P:Program)(w:World)(H:Hp)(s:Shared)(Q:VK)(E:XK)(r:Result)(s':Shared):Prop:=
 match r with
 |.ok (.ret u)=>CE outer P w H s Q u s'
 |.ok _=>False
 |.error e=>CX outer H s E e s'
structure FnOk (P:Program)(w:World)(K:E7)(mg:Str->Option Value)(base:Heap)(CX:CXT)(k:Nat)(f:Addr)(fd:FuncData)(ps:List Str)(sp:Sp) (b:Bool:=true):Prop where
 len:∀vs H Q E,sp vs H Q E->vs.length=ps.length
 run:∀(A:Around)(outer:List Env)(s:Shared)(H:Hp)(args:Args)(us:List Value)(vs:List V)(Q:VK)(E:XK),Room k A b->(b=false->HdH A H)->Env0 P w K mg base A outer s H->BindsTo s fd args (ps.zip us)->Vals vs us->sp vs H Q E->
  codeAny (model P w) A (.call (.ref f) args) (CR CX outer P w H s Q E) s
theorem Env0.make{K:E7}{A:Around}(e:Env0 P w K mg base A outer s H)(C:Addr)(us:List Value)(kw:List (Str×Value)) :
  Env0 P w K mg base (A.under (.builtin "type.__call__" ⟨.ref C::us,kw⟩)) outer s H:=⟨by first|exact e.frames|(simpa [Around.under,Code.envs,Code.isFrame,pushEnvs] using e.frames),e.mod,e.bs,e.bsz,e.funs,e.frf,e.hok,e.bare,e.tk⟩
section
variable {X:Cx}{s:Shared}
theorem Inv.env0(I:Inv X pins σ H s):Env0 X.prog X.w X.K X.mg X.base X.A X.stack s H:=
 ⟨I.ok.frames,I.ok.mod,I.bs,Ej I.ok.bsz I.sz,I.stack,I.stkFree,I.hok,I.bare,I.tk⟩
theorem Inv.after(I:Inv X pins σ H s)(h:CE X.stack X.prog X.w H s Q u s'):EP X pins σ Q u s':=by
 obtain⟨v,H',os,bare,un,hok,r,q⟩:=h;obtain⟨hh,g,d,t,os'⟩:=s';obtain⟨os,ht⟩:=os;obtain rfl:os'=s.os:=os;exact⟨v,H',I.call (h':=hh) (g':=g) (d':=d) (t':=t) (ch:=[]) un hok bare (λb z=>absurd z (by simp)),r,q⟩
end
def Binds(K:E7)(fd:FuncData)(ps:List Str)(ds:List Value):Prop:=
 ∀(s:Shared)(us:List Value),K.In s.heap->(us++ds).length=ps.length->BindsTo s fd ⟨us,[]⟩ (ps.zip (us++ds))
theorem Binds.all{K:E7}{ps:List Str}(h:∀us:List Value,us.length=ps.length->bindArgs fd ⟨us,[]⟩=pure (ps.zip us)):Binds K fd ps []:=λs us _ hl=>by
 rw[EO]at hl ⊢;exact .of_eq (h us hl)
def yw(CX:CXT)(X:Cx)(E:XK):Prop:=∀(pins:List (Addr×Obj)) (σ:St)(H:Hp)(s:Shared)(e:Value)(s':Shared),Inv X pins σ H s->CX X.stack H s E e s'->X.xe e s'
section
variable {X:Cx}{k:Nat}{ps:List Str}{x:Str}{p pos apos:Pos}{o:Expr}
structure Mk (K:E7)(C f:Addr):Prop where
 makes:PySem.W.makesIn K C=true
 init:PySem.W.findIn K (.ref C) "__init__"=some (some (.ref f))
 fn:PySem.W.isFn K (.ref f)=true
 kp:PySem.W.keepIn K (.ref C)=true
end
section
variable {X:Cx}{k:Nat}{ps ks:List Str}{x:Str}{p pos apos:Pos}{o:Expr}
end
structure FnScope (N P:List Str)(sc:Scope):Prop where
 kind:sc.kind=.function
 co:sc.isCoroutine=false
 gen:sc.isGenerator=false
 nd:N.Nodup
 pre:N.take P.length=P
 par:∀x∈P,sc.names.lookup x=some .local\/sc.names.lookup x=some .cell
 nofree:∀y∈sc.names,y.2≠.free
theorem jR{kindOf:Str->Option NameKind}{x:Str}:∀{binds:List (Str×Value)}{m:Str->Option Value},(∀v,(x,v)∉binds)->bindL kindOf binds m x=m x
 |[],_,_=>rfl
 |(n,v)::r,m,h=>by
  unfold bindL;rw[jR λw hw=>h w (DT _ hw)]
  split
  ·have:x≠n:=by rintro rfl;exact h v DW
   simp[this]
  ·rfl
theorem jr{kindOf:Str->Option NameKind}{x:Str}:∀{binds:List (Str×Value)}{m:Str->Option Value},(∀v,(x,v)∉binds)->bindC kindOf binds m x=m x
 |[],_,_=>rfl
 |(n,v)::r,m,h=>by
  unfold bindC;rw[jr λw hw=>h w (DT _ hw)]
  split
  ·rfl
  ·have:x≠n:=by rintro rfl;exact h v DW
   simp[this]
theorem jW{kindOf:Str->Option NameKind}{x:Str}{v:Value}:∀{P:List Str}{vs:List Value}{i:Nat}{m:Str->Option Value},P.Nodup->P[i]?=some x->vs[i]?=some v->kindOf x=some .local->
  bindL kindOf (P.zip vs) m x=some v
 |[],_,_,_,_,h,_,_=>by simp at h
 |_::_,[],_,_,_,_,h,_=>by simp at h
 |p::P,w::vs,0,m,nd,h1,h2,hk=>by
  simp at h1 h2;subst h1;subst h2;show bindL kindOf ((p,w)::P.zip vs) m p=_;unfold bindL;rw[jR λv hv=>(EE.mp nd).1 (List.of_mem_zip hv).1,DY hk]
  simp
 |p::P,w::vs,i+1,m,nd,h1,h2,hk=>by
  show bindL kindOf ((p,w)::P.zip vs) m x=_;unfold bindL;exact jW (i:=i) (EE.mp nd).2 (by simpa using h1) (by simpa using h2) hk
theorem j0{kindOf:Str->Option NameKind}{x:Str}{v:Value}:∀{P:List Str}{vs:List Value}{i:Nat}{m:Str->Option Value},P.Nodup->P[i]?=some x->vs[i]?=some v->kindOf x≠some .local->
  bindC kindOf (P.zip vs) m x=some v
 |[],_,_,_,_,h,_,_=>by simp at h
 |_::_,[],_,_,_,_,h,_=>by simp at h
 |p::P,w::vs,0,m,nd,h1,h2,hk=>by
  simp at h1 h2;subst h1;subst h2;show bindC kindOf ((p,w)::P.zip vs) m p=_;unfold bindC;rw[jr λv hv=>(EE.mp nd).1 (List.of_mem_zip hv).1,DV hk]
  simp
 |p::P,w::vs,i+1,m,nd,h1,h2,hk=>by
  show bindC kindOf ((p,w)::P.zip vs) m x=_;unfold bindC;exact j0 (i:=i) (EE.mp nd).2 (by simpa using h1) (by simpa using h2) hk
noncomputable def start(N:List Str)(vs:List V):St:=vs.map some++List.replicate (N.length-vs.length) none
noncomputable def bj(CX:CXT)(P:Program)(w:World)(K:E7)(mg:Str->Option Value)(base:Heap)(N:List Str)(qual:Str)(scope:Scope)(f:Addr)(cd:Value)(A:Around)(outer:List Env)(s:Shared)(H:Hp)(E:XK)(b:Bool:=true):Cx where
 prog:=P
 w:=w
 K:=K
 mg:=mg
 base:=base
 A:=A.deeper (envOfC qual scope s.heap.objs.size f cd)
 N:=N
 s₀:=s
 H₀:=H
 env:=envOfC qual scope s.heap.objs.size f cd
 outer:=outer
 stack:=envOfC qual scope s.heap.objs.size f cd::outer
 ex:=[]
 calm:=b
 fn:=λ_=>true
 pn:=[]
 xe:=λe s'=>wpAny (model P w) (A.deeper (envOfC qual scope s.heap.objs.size f cd)) (leaving (envOfC qual scope s.heap.objs.size f cd) e) (λ_ s''=>CX outer H s E e s'') (λe' s''=>CX outer H s E e' s'') s'
theorem ly{sc:Scope}(h:sc.names.lookup x=some .cell):∃c,(cellsFrom n sc.names []).lookup x=some c:=by
 have q:=PySem.W.cellsFrom_some sc.names n [] (.inl h);exact En.mp q
theorem pb{K:E7}{ps:List Str}{scope:Scope}{A:Around}{s:Shared}{vs:List V}
  (S:FnScope N ps scope) (hd:b=true->A.handled=none) (e0:Env0 P w K mg base A outer s H) (hl:vs.length=ps.length) (r:Vals vs us)
  (x:InCallC s s.heap.objs.size (bindL (envOfC qual scope s.heap.objs.size f cd).kindOf (ps.zip us) λ_=>none) (cellsFrom (s.heap.objs.size+1) scope.names []) (bindC (envOfC qual scope s.heap.objs.size f cd).kindOf (ps.zip us) λ_=>none) s1) :
  0<s1.toks->Inv (bj CX P w K mg base N qual scope f cd A outer s H E b) [] (start N vs) H s1:=by
 intro htk;have hpl:ps.length<=N.length:=by have:=congrArg List.length S.pre;rw[List.length_take]at this;omega
 obtain⟨h1,tk,rfl,hk⟩:=x.done;have noA:∀c:Addr,c∉(bj CX P w K mg base N qual scope f cd A outer s H E b).ex:=λc z=>absurd (show c∈([]:List Addr) from z) (by simp)
 refine⟨⟨e0.mod,S.kind,rfl,rfl,DZ _,λy z c h1 h2=>?_,λy hy=>?_,λy c _ h=>?_,hd,Around.frames_deeper e0.frames,.inr ⟨rfl,rfl⟩,λb z=>absurd z (noA b),e0.bs,e0.bsz,λb _ _=>noA b,λb z=>absurd z (noA b),e0.funs,e0.frf⟩,
  ⟨rfl,htk⟩,e0.bare,Un.kept hk,⟨_,x.toInCall.ns,λi y v h1 h2 h3=>?_⟩,λy c h=>⟨_,x.cell y c h⟩,e0.hok.fresh (DZ _),λy c h=>?_,λp hp=>absurd (show p∈([]:List (Addr×Obj)) from hp) (by simp),e0.hok.kept hk,?_⟩
 ·exact name_of_addr x.apart (PySem.mem_of_lookup h1) (PySem.mem_of_lookup h2)
 ·have hy:scope.names.lookup y=some .cell\/scope.names.lookup y=some .free:=hy;rcases hy with hy|hy
  ·exact ly hy
  ·exact absurd rfl (S.nofree _ (PySem.mem_of_lookup hy))
 ·exact Nat.le_of_lt (x.above y c (PySem.mem_of_lookup h))
 ·have hi:i<vs.length:=by
   unfold start at h2;by_cases hi:i<vs.length
   ·exact hi
   ·rw[List.getElem?_append_right (by simpa using hi)]at h2
    rw[List.getElem?_replicate]at h2;split at h2<;>cases h2
  have ha:vs[i]?=some v:=by
   unfold start at h2;rw[List.getElem?_append_left (by simpa using hi),Ef]at h2
   cases e:vs[i]? with
   |none=>rw[e]at h2;cases h2
   |some a=>rw[e]at h2;cases h2;rfl
  obtain⟨u,hu,rv⟩:=r.get ha;have hp:ps[i]?=some y:=by
   rw[<-S.pre,List.getElem?_take_of_lt (by omega)];exact h1
  have ndP:ps.Nodup:=by rw[<-S.pre];exact S.nd.sublist (List.take_sublist _ _)
  refine⟨u,rv,?_⟩;rcases S.par y (EV hp) with k|k
  ·exact .inl ⟨k,jW ndP hp hu k⟩
  ·obtain⟨c,e⟩:=ly (n:=s.heap.objs.size+1) k;refine .inr ⟨.inl k,c,e,?_⟩;have q:=x.cell y c e;rw[j0 ndP hp hu (by show scope.names.lookup y≠_;rw[k];decide)]at q
   exact q
 ·exact e0.hok.fresh (Nat.le_of_lt (x.above y c (PySem.mem_of_lookup h)))
 ·unfold start;show _=N.length;rw[Ew,D5,List.length_replicate];omega
theorem qH{b:Bool}{CX:CXT}{P:Program}{w:World}{K:E7}{mg:Str->Option Value}{base:Heap}{k:Nat}{f:Addr}{name qual:Str}{params:Arguments}{body:List Stmt}{scope:Scope}{dV kV doc pm cdv ct oc:Value}{an od:Option Addr}
  {osl:Array (Option Value)}{N ps:List Str}{sp:Sp} (lk:K.lookup f=some ⟨oc,od,.func (PySem.W.fnOf name qual params body scope dV kV doc pm an cdv ct),osl⟩) (hcd:PySem.W.codeIn K cdv qual=true) (S:FnScope N ps scope)
  (len:∀vs H Q E,sp vs H Q E->vs.length=ps.length)
  (hbody:∀(A:Around)(outer:List Env)(s:Shared)(H:Hp)(vs:List V)(Q:VK)(E:XK),Room k (A.deeper (envOfC qual scope s.heap.objs.size f cdv)) b->(b=false->HdH A H)->sp vs H Q E->
   ∃t,PSs (bj CX P w K mg base N qual scope f cdv A outer s H E b) body t/\t {nx:=λ_ H'=>Q .non H',rt:=Q} (start N vs) H) :
  FnOk P w K mg base CX (k+1) f (PySem.W.fnOf name qual params body scope dV kV doc pm an cdv ct) ps sp b:=by
 refine⟨len,λA outer s H args us vs Q E hr hq e0 hb r hsp=>?_⟩
 have hl:=len _ _ _ _ hsp;have KX:K.In s.heap:=e0.mod.kin.keeps λb o e=>(e0.bs b o e).1
 have lim:s.heap.NoLimit:=e0.mod.nolimit.keeps λb o e=>(e0.bs b o e).1
 have hkind:∀y∈ps.zip us,scope.names.lookup y.1=some .local\/(scope.names.lookup y.1=some .cell/\((cellsFrom (s.heap.objs.size+1) scope.names []).lookup y.1).isSome=true):=λ⟨n,v⟩ hy=>by
  rcases S.par n (List.of_mem_zip hy).1 with q|q
  ·exact .inl q
  ·exact .inr ⟨q,PySem.W.cellsFrom_some _ _ _ (.inl q)⟩
 refine codeAny_call_function hr.depth (KX _ _ lk) rfl S.co S.gen rfl (PySem.W.codeRec_of KX hcd) (hb _ _ _ _ ?_);refine bF e0.tk (wpAny_newFunctionEnv_cells S.kind hkind λenv he s1 x htk=>?_)
 subst he;refine⟨lim.keeps x.toInCall.keep,codeAny_func ?_⟩;obtain⟨t,ht,hq2⟩:=hbody A outer s H vs Q E (hr.deeper _) hq hsp;have I:Inv (bj CX P w K mg base N qual scope f cdv A outer s H E b) [] (start N vs) H s1:=pb S hr.hd e0 hl r x htk;refine EK (ht [] s1 (start N vs) H _ I hq2) (λfl s' hs=>?_) λe s' hs=>hs
 have fin:∀{σ':St}{H':Hp}{v:V}{u:Value},Inv (bj CX P w K mg base N qual scope f cdv A outer s H E b) [] σ' H' s'->RelV v u->Q v H'->CE outer P w H s Q u s':=
  λ{σ' H' v u} J rv q=>⟨v,H',J.os,J.bare,J.base,J.hok,rv,q⟩
 cases fl with
 |ret u=>
  obtain⟨v,σ',H',J,rv,q⟩:=hs;exact fin J rv q
 |next=>
  obtain⟨σ',H',J,q⟩:=hs;exact fin (v:=V.non) (u:=Value.none) J rfl q
 |brk=>
  obtain⟨_,_,_,q⟩:=hs;exact False.elim q
 |cont=>
  obtain⟨_,_,_,q⟩:=hs;exact False.elim q
theorem vB{CX:CXT}{P:Program}{w:World}{K:E7}{mg:Str->Option Value}{base:Heap}{k:Nat}{f:Addr}{name qual:Str}{params:Arguments}{body:List Stmt}{scope:Scope}{dV kV doc pm cdv ct oc:Value}{an od:Option Addr}
  {osl:Array (Option Value)}{N ps:List Str}{sp:Sp} (lk:K.lookup f=some ⟨oc,od,.func (PySem.W.fnOf name qual params body scope dV kV doc pm an cdv ct),osl⟩) (hcd:PySem.W.codeIn K cdv qual=true) (S:FnScope N ps scope)
  (len:∀vs H Q E,sp vs H Q E->vs.length=ps.length)
  (hbody:∀(A:Around)(outer:List Env)(s:Shared)(H:Hp)(vs:List V)(Q:VK)(E:XK),Room k (A.deeper (envOfC qual scope s.heap.objs.size f cdv))->sp vs H Q E->
   ∃t,PSs (bj CX P w K mg base N qual scope f cdv A outer s H E) body t/\t {nx:=λ_ H'=>Q .non H',rt:=Q} (start N vs) H) :
  FnOk P w K mg base CX (k+1) f (PySem.W.fnOf name qual params body scope dV kV doc pm an cdv ct) ps sp:=qH lk hcd S len λA outer s H vs Q E hr _ hsp=>hbody A outer s H vs Q E hr hsp
section
variable {X:Cx}{x:Str}{p pos:Pos}{id:String}
noncomputable def tCB(r:List V->Hp->VK->Prop)(t:TA):TE:=λσ H Q=>t σ H λvs H1=>r vs H1 Q
theorem ig(hc:CallR X (.builtin id) r)(hg:Gl X x)(hm:X.mg x=none)(hv:bootBuiltins x=some (.builtin id))(ha:PA X (e::es) t)(hn:x≠"__name__":=by decide)(hdb:(x == ("__debug__" : Str))=false:=by decide)
  (he:starEach (e::es) X.env=(false,eval e X.env)::starEach es X.env:=by rfl) (hpl:(backTo pos (starEach es X.env)).any (·.1)=false:=by rfl):PE X (.Call (.Name x p) (e::es) [] pos) (tCB r t):=by
 intro pins s σ H Q I h;refine wpAny_Call_Name_kw (cL I hg hm hv ?_ hn hdb);exact PyProof.Rows.callWith_builtin1 (thn (ha pos pins s σ H _ I h) λus s1 ⟨vs,H1,I1,r1,q1⟩=>hc pins s1 σ H1 vs us Q I1 r1 q1) he hpl
theorem ju(hc:CallR X (.type T) r)(hg:Gl X x)(hm:X.mg x=none)(hv:bootBuiltins x=some (.type T))(ha:PA X (e::es) t)(hn:x≠"__name__":=by decide)(hdb:(x == ("__debug__" : Str))=false:=by decide)
  (he:starEach (e::es) X.env=(false,eval e X.env)::starEach es X.env:=by rfl) (hpl:(backTo pos (starEach es X.env)).any (·.1)=false:=by rfl):PE X (.Call (.Name x p) (e::es) [] pos) (tCB r t):=by
 intro pins s σ H Q I h;refine wpAny_Call_Name_kw (cL I hg hm hv ?_ hn hdb);exact PyProof.Rows.callWith_type1 (thn (ha pos pins s σ H _ I h) λus s1 ⟨vs,H1,I1,r1,q1⟩=>hc pins s1 σ H1 vs us Q I1 r1 q1) he hpl
end
section
variable [DecidableEq κ]
noncomputable def c7(kvs:List (κ×V))(k:κ):Option V:=(kvs.find? λkv=>decide (kv.1=k)).map (·.2)
noncomputable def dF(kvs:List (κ×V))(k:κ)(v:V):List (κ×V):=
 if (kvs.any λkv=>decide (kv.1=k))=true then kvs.map (λkv=>if kv.1=k then (kv.1,v) else kv) else kvs++[(k,v)]
theorem dg{p:κ×V}(e:p.1=k):c7 (p::r) k=some p.2:=by simp[c7,EU,e]
theorem cy{p:κ×V}(e:¬ p.1=k):c7 (p::r) k=c7 r k:=by simp[c7,EU,e]
theorem lD(k:κ):∀kvs:List (κ×V),(kvs.any λkv=>decide (kv.1=k))=(c7 kvs k).isSome
 |[]=>rfl
 |p::r=>by
  rw[List.any_cons];by_cases e:p.1=k
  ·simp only[dg e,decide_eq_true e,Bool.true_or,Option.isSome_some]
  ·rw[cy e,EI e,Bool.false_or];exact lD k r
theorem gx(kvs:List (κ×V))(k:κ)(v:V):(dF kvs k v).length<=kvs.length+1:=by
 unfold dF;split
 ·rw[D5];omega
 ·rw[Ew,Em,List.length_nil];omega
theorem RelO.isSome_eq{o:Option V}{u:Option Value}(r:RelO o u):o.isSome=u.isSome:=by
 cases o with
 |none=>cases u with
  |none=>rfl
  |some _=>exact (show False from r).elim
 |some _=>cases u with
  |none=>exact (show False from r).elim
  |some _=>rfl
theorem RelO.getD{o:Option V}{u:Option Value}(r:RelO o u)(rd:RelV d d'):RelV (o.getD d) (u.getD d'):=by
 cases o with
 |none=>cases u with
  |none=>exact rd
  |some _=>exact (show False from r).elim
 |some _=>cases u with
  |none=>exact (show False from r).elim
  |some _=>exact r
theorem KV.val(r:KV kvs vs)(k:κ):RelO (c7 kvs k) (valueAt vs k):=by
 unfold KV at r
 induction r with
 |nil=>exact True.intro
 |@cons p q ps qs h t ih=>
  obtain⟨h1,h2⟩:=h;by_cases e:p.1=k
  ·have e':q.1=k:=h1.symm.trans e;have b:valueAt (q::qs) k=some q.2:=by simp[valueAt,EU,e']
   rw[dg e,b];exact h2
  ·have e':¬ q.1=k:=λz=>e (h1.trans z)
   have b:valueAt (q::qs) k=valueAt qs k:=by simp[valueAt,EU,e']
   rw[cy e,b];exact ih
theorem KV.any{kvs:List (κ×V)}{vs:List (κ×Value)}(r:KV kvs vs)(k:κ):(kvs.any λkv=>decide (kv.1=k))=vs.any λkv=>decide (kv.1=k):=by
 unfold KV at r
 induction r with
 |nil=>rfl
 |cons h t ih=>rw[List.any_cons,List.any_cons,ih,h.1]
theorem KV.repl{kvs:List (κ×V)}{vs:List (κ×Value)}(r:KV kvs vs)(k:κ)(ry:RelV y u) :
  KV (kvs.map λkv=>if kv.1=k then (kv.1,y) else kv) (vs.map λkv=>if kv.1=k then (kv.1,u) else kv):=by
 unfold KV at r ⊢
 induction r with
 |nil=>exact .nil
 |@cons p q ps qs h t ih=>
  rw[D4,D4];refine .cons ?_ ih;obtain⟨h1,h2⟩:=h;by_cases e:p.1=k
  ·rw[DY e,DY (h1.symm.trans e)];exact⟨h1,ry⟩
  ·rw[DV e,DV (λz=>e (h1.trans z))];exact⟨h1,h2⟩
theorem KV.put(r:KV kvs vs)(k:κ)(ry:RelV y u):KV (dF kvs k y) (stored vs k u):=by
 unfold dF stored;rw[r.any k];by_cases e:(vs.any λkv=>decide (kv.1=k))=true
 ·rw[DY e,DY e];exact r.repl k ry
 ·rw[DV e,DV e];exact Paired.snoc r ⟨rfl,ry⟩
theorem KV.keys{kvs:List (κ×V)}{vs:List (κ×Value)}(r:KV kvs vs):kvs.map (·.1)=vs.map (·.1):=by
 unfold KV at r
 induction r with
 |nil=>rfl
 |cons h t ih=>rw[D4,D4,ih,h.1]
theorem KV.length{kvs:List (κ×V)}{vs:List (κ×Value)}(r:KV kvs vs):kvs.length=vs.length:=Paired.length r
end
theorem i7(r:RelV (kV k) u):(av P w).is k u=true:=by
 cases k with
 |inl i=>obtain⟨t,e⟩:=(show ∃t,u=Value.int i t from r);subst e;exact ma P w i t
 |inr x=>obtain⟨t,e⟩:=(show ∃t,u=Value.str x t from r);subst e;exact dN P w x t
theorem jU:∀{ks:List Key}{us:List Value},Vals (ks.map kV) us->ItemsAre (av P w) ks us
 |[],_,r=>by rw[List.map_nil]at r;cases r;exact .nil
 |k::ks,_,r=>by
  rw[D4]at r;cases r with
  |cons h t=>exact .cons (i7 h) (jU t)
abbrev KT(H:Hp):List (List Key×V)->List (List Key×Addr×Value)->Prop:=Paired λp q=>p.1=q.1/\H q.2.1=some (.tup (p.1.map kV))/\RelV p.2 q.2.2
theorem KT.val(r:KT H kvs xs)(k:List Key):RelO (c7 kvs k) ((atKey xs k).map (·.2)):=by
 induction r with
 |nil=>exact True.intro
 |@cons p q ps qs h t ih=>
  obtain⟨h1,_,h2⟩:=h;by_cases e:p.1=k
  ·have e':q.1=k:=h1.symm.trans e;have b:atKey (q::qs) k=some q.2:=by simp[atKey,EU,e']
   rw[dg e,b];exact h2
  ·have e':¬ q.1=k:=λz=>e (h1.trans z)
   have b:atKey (q::qs) k=atKey qs k:=by simp[atKey,EU,e']
   rw[cy e,b];exact ih
theorem KT.repl{kvs:List (List Key×V)}{xs:List (List Key×Addr×Value)}(r:KT H kvs xs)(k:List Key)(ry:RelV y u) :
  KT H (kvs.map λkv=>if kv.1=k then (kv.1,y) else kv) (xs.map (putAt k u)):=by
 induction r with
 |nil=>exact .nil
 |@cons p q ps qs h t ih=>
  rw[D4,D4];refine .cons ?_ ih;obtain⟨h1,h2,h3⟩:=h;unfold putAt;by_cases e:p.1=k
  ·rw[DY e,DY (h1.symm.trans e)];exact⟨h1,h2,ry⟩
  ·rw[DV e,DV (λz=>e (h1.trans z))];exact⟨h1,h2,h3⟩
theorem KT.put(r:KT H kvs xs)(k:List Key)(hb:H b=some (.tup (k.map kV)))(ry:RelV y u) :
  KT H (dF kvs k y) (storedH xs k b u):=by
 have e:(kvs.any λkv=>decide (kv.1=k))=(atKey xs k).isSome:=by
  rw[lD,(r.val k).isSome_eq,Option.isSome_map]
 unfold dF storedH;rw[e];by_cases q:(atKey xs k).isSome=true
 ·rw[DY q,DY q];exact r.repl k ry
 ·rw[DV q,DV q];exact Paired.snoc r ⟨rfl,hb,ry⟩
theorem KT.keeps(r:KT H kvs xs)(ht:∀b ys,H b=some (.tup ys)->H' b=some (.tup ys)):KT H' kvs xs:=
 Paired.mapP r λ_ _ z=>⟨z.1,ht _ _ z.2.1,z.2.2⟩
section
variable {w:World}{h:Heap}{a:Addr}
theorem vD(ok:HOk P w H h)(e:Rd H a u):ObjOk P w H h a u:=e.ok ok
theorem gM{kvs:List (Key×V)}(ok:HOk P w H h)(e:Rd H a (.dK kvs)):kvs.length<=sizeLine/\(a == sysModules)=false/\∃vs,KV kvs vs/\h.DictOf (av P w) a vs:=
 show ObjOk P w H h a (.dK kvs) from vD ok e
theorem vF{kvs:List (Key×V)}(ok:HOk P w H h)(e:H a=some (.dK kvs)):kvs.length<=sizeLine/\(a == sysModules)=false/\∃vs,KV kvs vs/\h.DictOf (av P w) a vs:=gM ok (.inl e)
theorem eL{ks:List Key}(ok:HOk P w H h)(e:H a=some (.tup (ks.map kV))):(tupleKind (av P w)).is h ks a:=by
 obtain⟨_,its,r,o,h1,h2,n,h3⟩:=(show ObjOk P w H h a (.tup (ks.map kV)) from ok a _ e);exact⟨o,its.toArray,n,h1,h2,h3,by simpa using jU r⟩
theorem jS{kvs:List (List Key×V)}(ok:HOk P w H h)(e:Rd H a (.dT kvs)):kvs.length<=sizeLine/\(a == sysModules)=false/\
  ∃xs,KT H kvs xs/\h.DictOfH (tupleKind (av P w)) a xs:=by
 obtain⟨z,y,xs,r,o,es,ep,h1,h2,h3,h4,h5⟩:=(show ObjOk P w H h a (.dT kvs) from vD ok e);refine⟨z,y,xs,r,o,es,ep,h1,h2,h3,h4,λx hx=>?_,h5⟩
 have all:∀{l:List (List Key×V)}{m:List (List Key×Addr×Value)},KT H l m->∀x∈m,(tupleKind (av P w)).is h x.1 x.2.1:=by
  intro l m q
  induction q with
  |nil=>intro x hx;exact nomatch hx
  |@cons p q ps qs hq t ih=>
   intro x hx;rcases DX.mp hx with e|hx
   ·subst e;exact eL ok (by rw[<-hq.1];exact hq.2.1)
   ·exact ih x hx
 exact all r x hx
theorem Ak{kvs:List (List Key×V)}(ok:HOk P w H h)(e:H a=some (.dT kvs)):kvs.length<=sizeLine/\(a == sysModules)=false/\
  ∃xs,KT H kvs xs/\h.DictOfH (tupleKind (av P w)) a xs:=jS ok (.inl e)
end
def DGet(H:Hp)(a:Addr)(y:V)(r:Option V):Prop:=
 (∃kvs k,Rd H a (.dK kvs)/\y=kV k/\r=c7 kvs k)\/∃kvs k b,Rd H a (.dT kvs)/\y=.ref b/\H b=some (.tup (k.map kV))/\r=c7 kvs k
def DPut(H:Hp)(a:Addr)(y v:V)(H':Hp):Prop:=
 (∃kvs k,H a=some (.dK kvs)/\y=kV k/\kvs.length<sizeLine/\H'=upd H a (.dK (dF kvs k v)))\/
 ∃kvs k b,H a=some (.dT kvs)/\y=.ref b/\H b=some (.tup (k.map kV))/\kvs.length<sizeLine/\H'=upd H a (.dT (dF kvs k v))
section
variable {X:Cx}{s:Shared}{a:Addr}{y:V}{o:Option V}{A:Around}
theorem qd(hu:A.units+1<cLine)(I:Inv X pins σ H s)(g:DGet H a y (some v))(ry:RelV y u)(h:∀w' s',Inv X pins σ H s'->RelV v w'->Q w' s') :
  wpAny (model X.prog X.w) A (getItem (.ref a) u) Q E s:=by
 rcases g with ⟨kvs,k,e,ey,l⟩|⟨kvs,k,b,e,ey,eb,l⟩
 ·subst ey;obtain⟨z,hd,vs,rel,dd⟩:=gM I.hok e;obtain⟨w',hw,rw'⟩:=RelO.some_of (v:=v) (o:=valueAt vs k) (by rw[l];exact rel.val k)
  exact wpAny_getItem_of (i7 ry) dd.mapOf hw (h w' _ (I.tok _) rw')
 ·subst ey;cases (show u=Value.ref b from ry);obtain⟨z,hd,xs,rel,dd⟩:=jS I.hok e;obtain⟨w',hw,rw'⟩:=RelO.some_of (v:=v) (o:=(atKey xs k).map (·.2)) (by rw[l];exact rel.val k)
  obtain⟨p,hp,hp2⟩:=Option.map_eq_some_iff.mp hw;refine wpAny_getItem_heap (EH hu) (eL I.hok eb) dd hp ?_;rw[hp2];exact h w' _ (I.tok _) rw'
theorem Cy(hu:A.units+1<cLine)(I:Inv X pins σ H s)(g:DGet H a y o)(ry:RelV y u)(h:∀s',Inv X pins σ H s'->Q (.bool o.isSome) s') :
  wpAny (model X.prog X.w) A (compareOp .In u (.ref a)) Q E s:=by
 rcases g with ⟨kvs,k,e,ey,l⟩|⟨kvs,k,b,e,ey,eb,l⟩
 ·subst ey;obtain⟨z,hd,vs,rel,dd⟩:=gM I.hok e;refine wpAny_in_of (i7 ry) hd dd.mapOf ?_;rw[<-(rel.val k).isSome_eq,<-l];exact h _ (I.tok _)
 ·subst ey;cases (show u=Value.ref b from ry);obtain⟨z,hd,xs,rel,dd⟩:=jS I.hok e;refine wpAny_in_heap (EH hu) (eL I.hok eb) hd dd ?_;have q:=(rel.val k).isSome_eq;rw[Option.isSome_map]at q;rw[<-q,<-l];exact h _ (I.tok _)
theorem ue(hu:A.units+1<cLine)(I:Inv X pins σ H s)(g:DGet H a y o)(ry:RelV y u)(h:∀s',Inv X pins σ H s'->Q (.bool (!o.isSome)) s') :
  wpAny (model X.prog X.w) A (compareOp .NotIn u (.ref a)) Q E s:=by
 rcases g with ⟨kvs,k,e,ey,l⟩|⟨kvs,k,b,e,ey,eb,l⟩
 ·subst ey;obtain⟨z,hd,vs,rel,dd⟩:=gM I.hok e;refine wpAny_notIn_of (i7 ry) hd dd.mapOf ?_;rw[<-(rel.val k).isSome_eq,<-l];exact h _ (I.tok _)
 ·subst ey;cases (show u=Value.ref b from ry);obtain⟨z,hd,xs,rel,dd⟩:=jS I.hok e;refine wpAny_notIn_heap (EH hu) (eL I.hok eb) hd dd ?_;have q:=(rel.val k).isSome_eq;rw[Option.isSome_map]at q;rw[<-q,<-l];exact h _ (I.tok _)
theorem fe{h':Heap}(I:Inv X pins σ H s)(mu:Mut (H a))(hs:Heap.SameBut a s.heap h')(he:∃q,h'.get? a=some q)(new:ObjOk X.prog X.w (upd H a ob) h' a ob)(ht:0<t':=by first|exact EL _|assumption|exact Inv.tk (by assumption)|exact Env0.tk (by assumption)|exact D0 (Inv.tk (by assumption)) (Eu _ _)) :
  Inv X pins σ (upd H a ob) {s with heap:=h',toks:=t'}:=
 I.write (x:=a) (e:=a) mu (.inl rfl) (λb q hb z=>(hs.2 b hb).trans z) he new
theorem wb{h':Heap}{kvs:List (Key×V)}(z:kvs.length<=sizeLine)(hd:(a == sysModules)=false)(rel:KV kvs vs)(dd:h'.DictOf (av P w) a vs) :
  ObjOk P w H' h' a (.dK kvs):=⟨z,hd,vs,rel,dd⟩
theorem pN(hu:A.units+1<cLine)(I:Inv X pins σ H s)(g:DPut H a y v H')(ry:RelV y u)(rv:RelV v r)(h:∀s',Inv X pins σ H' s'->Q () s') :
  wpAny (model X.prog X.w) A (setItem (.ref a) u r) Q E s:=by
 rcases g with ⟨kvs,k,e,ey,l,eH⟩|⟨kvs,k,b,e,ey,eb,l,eH⟩
 ·subst ey eH;obtain⟨z,hd,vs,rel,dd⟩:=vF I.hok e;have hz:vs.length<=sizeLine:=by rw[<-rel.length];exact z
  have hl:(dF kvs k v).length<=sizeLine:=by have:=gx kvs k v;omega
  refine wpAny_setItem_pairs (hsz:=hz) (i7 ry) dd λh' dd' hs=>h _ ?_
  have he:∃q,h'.get? a=some q:=let ⟨q,_,_,hq,_⟩:=dd';⟨q,hq⟩
  exact fe I (by rw[e];exact True.intro) hs he (wb hl hd (rel.put k rv) dd')
 ·subst ey eH;cases (show u=Value.ref b from ry);obtain⟨z,hd,xs,rel,dd⟩:=Ak I.hok e;have hz:xs.length<=sizeLine:=by rw[<-Paired.length rel];exact z
  have hl:(dF kvs k v).length<=sizeLine:=by have:=gx kvs k v;omega
  refine wpAny_setItem_heap (hsz:=hz) (EH hu) (eL I.hok eb) dd λh' dd' hs=>h _ ?_
  obtain⟨q,es,ep,hq,h2,h3,h4,_,h5⟩:=dd';refine fe I (by rw[e];exact True.intro) hs ⟨q,hq⟩ ⟨hl,hd,_,(rel.put k eb rv).keeps λc ys ec=>?_,q,es,ep,hq,h2,h3,h4,h5⟩
  rw[aa (cx ec e (λz=>nomatch z))]
  exact ec
end
section
variable {X:Cx}{s:Shared}{a:Addr}{kvs:List (Key×V)}{A:Around}
end
section
variable {X:Cx}{o:Expr}{pos:Pos}
end
section
variable {X:Cx}
end
structure M1 (X:Cx)(o:Expr)(m:Str)(apos:Pos)(e:Expr)(cpos:Pos):Prop where
 base:attributeBase o m X.env (eval o X.env)=eval o X.env
 few:((backTo cpos (starEach [e] X.env)).all (λx=>!x.1)&&(backToKw cpos (keywordEach [] X.env)).all (λx=>x.1.isSome)
  &&decide (([e]:List Expr).length+([]:List Keyword).length+(if ([]:List Keyword).isEmpty then 0 else 1)<30))=true
 line:(apos.endLine == cpos.line)=true
 trees:backTo cpos (starEach [e] X.env)=[(false,eval e X.env)]
structure M2 (X:Cx)(o:Expr)(m:Str)(apos:Pos)(e f:Expr)(cpos:Pos):Prop where
 base:attributeBase o m X.env (eval o X.env)=eval o X.env
 few:((backTo cpos (starEach [e,f] X.env)).all (λx=>!x.1)&&(backToKw cpos (keywordEach [] X.env)).all (λx=>x.1.isSome)
  &&decide (([e,f]:List Expr).length+([]:List Keyword).length+(if ([]:List Keyword).isEmpty then 0 else 1)<30))=true
 line:(apos.endLine == cpos.line)=true
 trees:backTo cpos (starEach [e,f] X.env)=[(false,eval e X.env),(false,eval f X.env)]
section
variable {X:Cx}{s:Shared}{a:Addr}{y d:V}{o:Option V}{A:Around}
theorem xK(hu:A.units+1<cLine)(I:Inv X pins σ H s)(g:DGet H a y o)(ry:RelV y u)(h:∀w' s',Inv X pins σ H s'->RelV (o.getD .non) w'->Q w' s') :
  wpAny (model X.prog X.w) A (call (.builtin "dict.get") [.ref a,u]) Q E s:=by
 rcases g with ⟨kvs,k,e,ey,l⟩|⟨kvs,k,b,e,ey,eb,l⟩
 ·subst ey;obtain⟨z,hd,vs,rel,dd⟩:=gM I.hok e;refine call_meetsIn PySem.F.slot_dict_get dd.typeIs PySem.F.entry_dict_get (PySem.F.args_dict_get_2 _ _) (meets_dict_get (av X.prog X.w) a (i7 ry) hd) ⟨_,dd.mapOf,h _ _ (I.tok _) ?_⟩;rw[l];exact (rel.val k).getD rfl
 ·subst ey;cases (show u=Value.ref b from ry);obtain⟨z,hd,xs,rel,dd⟩:=jS I.hok e;refine call_meetsIn PySem.F.slot_dict_get dd.typeIs PySem.F.entry_dict_get (PySem.F.args_dict_get_2 _ _) (meetsH_dict_get (tupleKind (av X.prog X.w)) a b hd) ⟨EH hu,k,xs,eL I.hok eb,dd,h _ _ (I.tok _) ?_⟩;rw[l];exact (rel.val k).getD rfl
theorem xj(hu:A.units+1<cLine)(I:Inv X pins σ H s)(g:DGet H a y o)(ry:RelV y u)(rd:RelV d r)(h:∀w' s',Inv X pins σ H s'->RelV (o.getD d) w'->Q w' s') :
  wpAny (model X.prog X.w) A (call (.builtin "dict.get") [.ref a,u,r]) Q E s:=by
 rcases g with ⟨kvs,k,e,ey,l⟩|⟨kvs,k,b,e,ey,eb,l⟩
 ·subst ey;obtain⟨z,hd,vs,rel,dd⟩:=gM I.hok e;refine call_meetsIn PySem.F.slot_dict_get dd.typeIs PySem.F.entry_dict_get (PySem.F.args_dict_get_3 _ _ _) (meets_dict_get_default (av X.prog X.w) a (i7 ry) hd r) ⟨_,dd.mapOf,h _ _ (I.tok _) ?_⟩;rw[l];exact (rel.val k).getD rd
 ·subst ey;cases (show u=Value.ref b from ry);obtain⟨z,hd,xs,rel,dd⟩:=jS I.hok e;refine call_meetsIn PySem.F.slot_dict_get dd.typeIs PySem.F.entry_dict_get (PySem.F.args_dict_get_3 _ _ _) (meetsH_dict_get_default (tupleKind (av X.prog X.w)) a b hd r) ⟨EH hu,k,xs,eL I.hok eb,dd,h _ _ (I.tok _) ?_⟩;rw[l];exact (rel.val k).getD rd
end
section
variable {X:Cx}{o:Expr}
end
section
variable {X:Cx}{s:Shared}{a:Addr}{kvs:List (Key×V)}{A:Around}
end
section
variable {X:Cx}{s:Shared}{a:Addr}{y:V}{A:Around}
end
end L2
namespace HT
open PySem PyProof.Rows
section
open PySem.SeqAt
open PySem.AutoSeq1 (wpAny_loadPart')
open PySem.MeetsSeq PySem.MeetsSeq2 PySem.MeetsSeq3
end
section
variable {w:World}{A:Around}{s:Shared}
theorem cat_tup{vs ws:List Value}(ht:IsTup s.heap t vs.toArray)(hb:IsTup s.heap b ws.toArray)(hv:vs≠[])
  (h1:ws=[]->Q (.ref t) s) (h2:ws≠[]->Q (.ref s.heap.objs.size) {s with heap:=s.heap.push {cls:=.type "tuple",data:=.seq (vs++ws).toArray}})
  (hsz:vs.length+ws.length<=sizeLine):wpAny (model prog w) A (binaryOp .Add (.ref t) (.ref b)) Q E s:=by
 obtain⟨⟨cls,dd,data,sl⟩,ho,hc,n,hd⟩:=id ht;obtain⟨⟨cls2,dd2,data2,sl2⟩,ho2,hc2,n2,hd2⟩:=id hb;simp only at hc hd hc2 hd2;subst hc hd hc2 hd2;have e:vs.toArray++ws.toArray=(vs++ws).toArray:=by simp
 by_cases hw:ws=[]
 ·exact concat_meets ⟨_,ho,rfl⟩ ⟨_,ho2,rfl⟩ noFill_tuple_add seq_tuple_add PySem.F.slot_tuple_add PySem.F.entry_tuple_add (PySem.F.args_tuple_add_2 _ _)
   (tuple_addW1 t b vs.toArray ws.toArray n n2 dd dd2 sl sl2 (by simpa using hv) (by simp[hw])) ⟨ho,ho2,h1 hw⟩
 ·refine concat_meets ⟨_,ho,rfl⟩ ⟨_,ho2,rfl⟩ noFill_tuple_add seq_tuple_add PySem.F.slot_tuple_add PySem.F.entry_tuple_add (PySem.F.args_tuple_add_2 _ _)
   (tuple_addW2 t b vs.toArray ws.toArray n n2 dd dd2 sl sl2 (by simpa using hv) (by simpa using hw) (by rw[List.size_toArray,List.size_toArray];exact hsz)) ⟨ho,ho2,?_⟩
  rw[e];exact h2 hw
noncomputable def sIx(n d:Nat):Option Int->Nat
 |none=>d
 |some v=>if v<0 then (v+(n:Int)).toNat else min v.toNat n
theorem yD(n d:Nat)(hd:d<=n)(o:Option Int):sIx n d o<=n:=by
 cases o with
 |none=>exact hd
 |some v=>
  show (if v<0 then (v+(n:Int)).toNat else min v.toNat n)<=n
  by_cases hv:v<0
  ·rw[if_pos hv];omega
  ·rw[if_neg hv];exact Nat.min_le_right _ _
theorem oH(v:Int)(n d:Nat):(if v<0 then max (v+(n:Int)) 0 else min v (n:Int))=((sIx n d (some v):Nat):Int):=by
 show (if v<0 then max (v+(n:Int)) 0 else min v (n:Int))=(((if v<0 then (v+(n:Int)).toNat else min v.toNat n):Nat):Int)
 by_cases hv:v<0
 ·simp only[if_pos hv];omega
 ·simp only[if_neg hv];omega
theorem mG(lo hi:Option Int)(n:Nat):Builtin.Slice.sliceAdjust lo hi 1 (n:Int)=(((sIx n 0 lo:Nat):Int),((sIx n n hi:Nat):Int)):=by
 have h1:¬ ((1:Int)<0):=by omega
 unfold Builtin.Slice.sliceAdjust;simp only[h1,if_false];refine Prod.ext ?_ ?_
 ·cases lo with
  |none=>rfl
  |some v=>exact oH v n 0
 ·cases hi with
  |none=>rfl
  |some v=>exact oH v n n
theorem mX(i j:Nat):Builtin.Slice.slicePlaces (i:Int) (j:Int) 1=j-i:=by
 unfold Builtin.Slice.slicePlaces;have h1:(1:Int) > 0:=by omega
 simp only[h1,if_true,Int.ediv_one];split<;>omega
theorem iQ(p:IsPart v o)(h:Q o s):wpAny (model prog w) A (Builtin.Slice.slicePartIndex v) Q E s:=by
 cases p with
 |none=>exact slicePart_none h
 |int i t=>exact slicePart_int h
theorem gv{sl:Addr}{vl vu:Value}{lo hi:Option Int}{n:Nat}{Q:Int×Int×Nat->Shared->Prop}(hs:s.heap.IsSliceOf sl vl vu .none)(pl:IsPart vl lo)(pu:IsPart vu hi)
  (h:Q (((sIx n 0 lo:Nat):Int),1,sIx n n hi-sIx n 0 lo) s):wpAny (model prog w) A (Builtin.Slice.sliceApplied (.ref sl) (pure (n:Int))) Q E s:=by
 obtain⟨os,hos,hcs,hds⟩:=id hs;unfold Builtin.Slice.sliceApplied Builtin.Slice.sliceFields;refine wpAny_bind (wpAny_bind (wpAny_field hos hds (x:=vl) rfl (wpAny_bind (wpAny_field hos hds (x:=vu) rfl (wpAny_bind (wpAny_field hos hds (x:=.none) rfl (wpAny_pure ?_)))))));refine wpAny_bind (slicePart_none ?_);show wpAny _ _ (if ((1:Int) == 0)=true then _ else _) _ _ s
 rw[if_neg (by decide)]
 refine wpAny_bind (iQ pl (wpAny_bind (iQ pu (wpAny_bind (wpAny_pure ?_)))));show wpAny _ _ (match Builtin.Slice.sliceAdjust lo hi 1 (n:Int) with|(lo,hi)=>pure (lo,(1:Int),Builtin.Slice.slicePlaces lo hi 1)) _ _ s
 rw[mG lo hi n];show wpAny _ _ (pure (((sIx n 0 lo:Nat):Int),(1:Int),Builtin.Slice.slicePlaces ((sIx n 0 lo:Nat):Int) ((sIx n n hi:Nat):Int) 1)) _ _ s;rw[mX];exact wpAny_pure h
theorem rg(xs:Array Value)(i k:Nat):((List.range k).filterMap λ(m:Nat)=>xs[((i:Int)+(m:Int)*1).toNat]?).toArray=((xs.toList.drop i).take k).toArray:=by
 have e:(λ(m:Nat)=>xs[((i:Int)+(m:Int)*1).toNat]?)=λm=>xs[i+m]?:=by
  funext m;have:((i:Int)+(m:Int)*1).toNat=i+m:=by omega
  rw[this]
 rw[e];have:=pick_run xs i k;rw[List.filterMap_map]at this;have e2:((λx=>xs[x]?)∘λx=>i+x)=λm=>xs[i+m]?:=rfl
 rw[e2]at this;rw[this]
theorem getItem_tuple_cut{items:Array Value}{lo:Option Int}(ht:IsTup s.heap t items)(hs:s.heap.IsSliceOf sl vl vu .none)(pl:IsPart vl lo)(pu:IsPart vu hi)
  (hw:¬ (sIx items.size 0 lo=0/\sIx items.size items.size hi=items.size))
  (h:Q (.ref s.heap.objs.size) {s with heap:=s.heap.push {cls:=.type "tuple",data:=.seq ((items.toList.drop (sIx items.size 0 lo)).take (sIx items.size items.size hi-sIx items.size 0 lo)).toArray}})
  (hsz:items.size<=sizeLine):wpAny (model prog w) A (getItem (.ref t) (.ref sl)) Q E s:=by
 have htake:sizeOk (.seq ((items.toList.drop (sIx items.size 0 lo)).take (sIx items.size items.size hi-sIx items.size 0 lo)).toArray):=by
  show ((items.toList.drop (sIx items.size 0 lo)).take (sIx items.size items.size hi-sIx items.size 0 lo)).toArray.size<=sizeLine;rw[List.size_toArray,List.length_take,List.length_drop,Array.length_toList];omega
 have hj:sIx items.size items.size hi<=items.size:=yD _ _ (Nat.le_refl _) hi;obtain⟨os,hos,hcs,hds⟩:=id hs;have hTs:s.TypeIs (.ref sl) "slice":=⟨os,hos,hcs⟩;unfold getItem
 try with_reducible refine wpAny_holding ?_
 first|refine wpAny_bind (wpAny_pure ?_)|skip
 refine wpAny_bind (wpAny_sequenceKey ht.typeIs (by decide) ?_)
 refine wpAny_bind (wpAny_callSpecial?_slot (name:=Str.ofString "__getitem__") ht.typeIs PyProof.Rows.slot_tuple_getitem
  (wpAny_call_entry PyProof.Rows.slot_tuple_getitem ht.typeIs entry_tuple_getitem ?_ (args_tuple_getitem _ _)))
 show wpAny _ _ (Builtin.Tuple.tupleItemsOf (.ref t) >>=_) _ _ s;refine wpAny_bind (tupleItemsOf_ ht ?_);refine wpAny_bind (wpAny_typeOf hTs ?_);rw[if_pos (by decide)]
 refine wpAny_bind (gv hs pl pu ?_);have hno:¬ ((((sIx items.size 0 lo:Nat):Int) == 0&&(1:Int) == 1&&(sIx items.size items.size hi-sIx items.size 0 lo) == items.size)=true):=by
  intro q;rw[Bool.and_eq_true,Bool.and_eq_true]at q;have q1:((sIx items.size 0 lo:Nat):Int)=0:=eq_of_beq q.1.1;have q2:sIx items.size items.size hi-sIx items.size 0 lo=items.size:=eq_of_beq q.2;exact hw ⟨by omega,by omega⟩
 show wpAny _ _ (if (((sIx items.size 0 lo:Nat):Int) == 0&&(1:Int) == 1&&(sIx items.size items.size hi-sIx items.size 0 lo) == items.size)=true then _ else _) _ _ s
 rw[if_neg hno,rg]
 first
  |exact wpAny_bind (m:=Builtin.Tuple.tupleExact _) (wpAny_newObj_type (wpAny_pure ⟨_,rfl,wpAny_pure h⟩) htake)
  |exact wpAny_bind (m:=Builtin.Tuple.tupleExact _) (wpAny_newObj_type (wpAny_bind (wpAny_pure (wpAny_pure ⟨_,rfl,wpAny_pure h⟩))) htake)
  |exact wpAny_bind (wpAny_bind (m:=Builtin.Tuple.tupleExact _) (wpAny_newObj_type (wpAny_pure (wpAny_pure ⟨_,rfl,wpAny_pure h⟩)) htake))
  |exact wpAny_bind (wpAny_bind (m:=Builtin.Tuple.tupleExact _) (wpAny_newObj_type (wpAny_pure ⟨_,rfl,wpAny_pure h⟩) htake))
end
end HT
namespace L2
open PySem PySem.Spec PyProof.Rows
noncomputable abbrev TO:=St->Hp->(Option Int->Hp->Prop)->Prop
def PO(X:Cx)(e:Option Expr)(t:TO):Prop:=
 ∀(pins:List (Addr×Obj)) (s:Shared)(σ:St)(H:Hp)(Q:Option Int->Hp->Prop),Inv X pins σ H s->t σ H Q->
  wpAny (model X.prog X.w) X.A (evalPart e X.env) (λu s'=>∃o H',Inv X pins σ H' s'/\IsPart u o/\Q o H') X.xe s
noncomputable def tNoPart:TO:=λ_ H Q=>Q none H
noncomputable def zJ(t:TE):TO:=λσ H Q=>t σ H λx H1=>∃i,x=.int i/\Q (some i) H1
theorem jc{ns:List Int}:∀{us:List Value},Vals (ns.map V.int) us->IntsAre us ns:=by
 induction ns with
 |nil=>intro us r;rw[List.map_nil]at r;cases r;exact .nil
 |cons n ns ih=>
  intro us r;rw[D4]at r;cases r with
  |cons r1 r2=>
   obtain⟨t,e⟩:=r1;subst e;exact .cons n t (ih r2)
section
variable {X:Cx}{lo:Option Expr}
theorem po_none:PO X none tNoPart:=by
 intro pins s σ H Q I h;rw[evalPart_none];exact DS ⟨none,H,I,.none,h⟩
theorem tF(h:PE X e te):PO X (some e) (zJ te):=by
 intro pins s σ H Q I hw;rw[evalPart_some];refine thn (h pins s σ H _ I hw) λu s1 ⟨x,H1,I1,r1,q1⟩=>?_
 obtain⟨i,rfl,q⟩:=q1;obtain⟨t,rfl⟩:=r1;exact⟨some i,H1,I1,.int i t,q⟩
def SlR(X:Cx)(r:V->Option Int->Option Int->Hp->VK->Prop):Prop:=
 ∀(pins:List (Addr×Obj)) (s:Shared)(σ:St)(H:Hp)(x:V)(v vl vu:Value)(lo hi:Option Int)(sl:Addr)(Q:VK),Inv X pins σ H s->RelV x v->s.heap.IsSliceOf sl vl vu .none->IsPart vl lo->IsPart vu hi->r x lo hi H Q->
  ∃T id,typeLookup (.type T) "__getitem__"=pure (some (.builtin id))/\s.TypeIs v T/\wpAny (model X.prog X.w) X.A (getItem v (.ref sl)) (EP X pins σ Q) X.xe s
noncomputable def tSl(r:V->Option Int->Option Int->Hp->VK->Prop)(te:TE)(tl th:TO):TE:=λσ H Q=>te σ H λx H1=>tl σ H1 λl H2=>th σ H2 λu H3=>r x l u H3 Q
theorem rB(hr:SlR X r)(he:PE X e te)(hl:PO X lo tl)(hu:PO X hi th):PE X (.Subscript e (.Slice lo hi none p2) pos) (tSl r te tl th):=by
 intro pins s σ H Q I h;refine Subscript_ (thn (he pins s σ H _ I h) λv s1 ⟨x,H1,I1,r1,q1⟩=>?_)
 refine wpAny_Slice (thn (hl pins s1 σ H1 _ I1 q1) λvl s2 ⟨l,H2,I2,pl,q2⟩=>thn (hu pins s2 σ H2 _ I2 q2) λvu s3 ⟨u,H3,I3,pu,q3⟩=>?_)
 rw[evalPart_none];refine DS ?_;have I4:Inv X pins σ H3 {s3 with heap:=s3.heap.push {cls:=.type "slice",data:=.fields #[vl,vu,.none]}}:=I3.kept (t':=s3.toks) λb ob q=>DU _ q
 obtain⟨T,id,hT,ht,hg⟩:=hr pins {s3 with heap:=s3.heap.push {cls:=.type "slice",data:=.fields #[vl,vu,.none]}} σ H3 x v vl vu l u s3.heap.objs.size Q I4 r1 (Heap.IsSliceOf.new ..) pl pu q3
 show wpAny (model X.prog X.w) X.A (subscriptTail e (.Slice lo hi none p2) v (.ref s3.heap.objs.size)) (EP X pins σ Q) X.xe {s3 with heap:=s3.heap.push {cls:=.type "slice",data:=.fields #[vl,vu,.none]}}
 exact tail_any (ops:=[.ref s3.heap.objs.size,v]) ht hT hg (by with_unfolding_all rfl)
noncomputable def nJ(xs:List V)(lo hi:Option Int):List V:=(xs.drop (HT.sIx xs.length 0 lo)).take (HT.sIx xs.length xs.length hi-HT.sIx xs.length 0 lo)
theorem gJ(xs:List V)(lo hi:Option Int):(nJ xs lo hi).length<=xs.length:=by
 unfold nJ;rw[List.length_take,List.length_drop];omega
def Bq(K:E7):V->Option Int->Option Int->Hp->VK->Prop:=λx lo hi H Q=>∃a xs,x=.ref a/\SqT K H a xs/\
 ¬ (HT.sIx xs.length 0 lo=0/\HT.sIx xs.length xs.length hi=xs.length)/\∀p,H p=none->Q (.ref p) (upd H p (.tup (nJ xs lo hi)))
theorem wT:SlR X (Bq X.K):=by
 intro pins s σ H x v vl vu lo hi sl Q I rx hs pl pu h;obtain⟨a,xs,rfl,hx,hw,q⟩:=h;cases rx;obtain⟨its,r,ht,hz⟩:=I.tuple hx;have hlen:its.toArray.size=xs.length:=by rw[Eb];exact r.length.symm
 refine⟨"tuple",_,PyProof.Rows.slot_tuple_getitem.lookup,ht.typeIs,?_⟩;refine HT.getItem_tuple_cut ht hs pl pu (by rw[hlen];exact hw) ?_ (by rw[hlen];exact hz)
 rw[hlen];refine⟨.ref s.heap.objs.size,_,I.laid (t':=s.toks) (o:=.tup (nJ xs lo hi)) (λb ob q=>DU _ q) (DZ _) ?_,rfl,q _ (I.hok.fresh (DZ _))⟩
 exact⟨Ej (gJ xs lo hi) hz,_,(r.drop (HT.sIx xs.length 0 lo)).take (HT.sIx xs.length xs.length hi-HT.sIx xs.length 0 lo),IsTup.new _ _⟩
def zj(K:E7):R2:=λx y H Q=>∃a b xs ys,x=.ref a/\y=.ref b/\SqT K H a xs/\SqT K H b ys/\xs≠[]/\xs.length+ys.length<=sizeLine/\
 (ys=[]->Q (.ref a) H)/\(ys≠[]->∀p,H p=none->Q (.ref p) (upd H p (.tup (xs++ys))))
theorem Vals.nil_iff(r:Vals xs us):us=[]<->xs=[]:=by
 cases r with
 |nil=>simp
 |cons _ _=>simp
theorem tS:OpR X (binaryOp .Add) (zj X.K):=by
 intro pins s σ H x y v u Q I rx ry h;obtain⟨a,b,xs,ys,rfl,rfl,ha,hb,hx,hz,q1,q2⟩:=h;cases rx;cases ry;obtain⟨its,r1,p1,_⟩:=I.tuple ha;obtain⟨its2,r2,p2,_⟩:=I.tuple hb;refine HT.cat_tup p1 p2 (λz=>hx (r1.nil_iff.mp z)) (λz=>⟨.ref a,H,I,rfl,q1 (r2.nil_iff.mp z)⟩) (λz=>?_) (by rw[<-r1.length,<-r2.length];exact hz)
 refine⟨.ref s.heap.objs.size,_,I.laid (t':=s.toks) (o:=.tup (xs++ys)) (λb ob q=>DU _ q) (DZ _) ?_,rfl,q2 (λw=>z (r2.nil_iff.mpr w)) _ (I.hok.fresh (DZ _))⟩
 exact⟨by rw[Ew];exact hz,_,r1.append r2,IsTup.new _ _⟩
end
noncomputable def ixN(n:Nat)(i:Int):Option Nat:=if 0<=i then (if i<n then some i.toNat else none) else if -(n:Int)<=i then some (i+n).toNat else none
noncomputable def atI(xs:List α)(i:Int):Option α:=(ixN xs.length i).bind λj=>xs[j]?
theorem oU(h:ixN n i=some j):seqIndex? i n=some j/\j<n/\-(n:Int)<=i/\i<n:=by
 unfold ixN at h;by_cases h0:0<=i
 ·rw[DY h0]at h;by_cases h1:i<n
  ·rw[DY h1]at h;have e:i.toNat=j:=D9 h;exact⟨by rw[seqIndex_of h0 h1,e],by omega,by omega,h1⟩
  ·rw[DV h1]at h;cases h
 ·rw[DV h0]at h;by_cases h1 : -(n:Int)<=i
  ·rw[DY h1]at h;have e:(i+n).toNat=j:=D9 h;exact⟨by rw[seqIndex_neg (by omega) h1,e],by omega,h1,by omega⟩
  ·rw[DV h1]at h;cases h
theorem k7{xs:List α}(h:atI xs i=some v):∃j,seqIndex? i xs.length=some j/\xs[j]?=some v/\j<xs.length/\-(xs.length:Int)<=i/\i<xs.length:=by
 unfold atI at h;cases e:ixN xs.length i with
 |none=>rw[e]at h;cases h
 |some j=>
  rw[e]at h;obtain⟨h1,h2,h3,h4⟩:=oU e;exact⟨j,h1,h,h2,h3,h4⟩
theorem ca{α:Type}{xs:List α}{j:Nat}{v:α}(h:xs[j]?=some v):atI xs (j:Int)=some v:=by
 have hj:j<xs.length:=(EM.mp h).1;have e:ixN xs.length (j:Int)=some j:=by
  unfold ixN;rw[DY (by omega),DY (by omega)];simp
 unfold atI;rw[e];exact h
def kQ(b:Expr):Prop:=∀o i,subscripted b false o i=operate [o,i] (getItem o i)
def IxR(X:Cx)(r:R2):Prop:=
 ∀(value slice:Expr) (pins:List (Addr×Obj)) (s:Shared)(σ:St)(H:Hp)(x y:V)(v u:Value)(Q:VK),Inv X pins σ H s->RelV x v->RelV y u->r x y H Q->
  subscripted slice false v u=operate [v,u] (getItem v u)->wpAny (model X.prog X.w) X.A (subscriptTail value slice v u) (EP X pins σ Q) X.xe s
def MtR(X:Cx)(id:String)(r:V->List V->Hp->VK->Prop):Prop:=
 ∀(pins:List (Addr×Obj)) (s:Shared)(σ:St)(H:Hp)(x:V)(xs:List V)(v:Value)(us:List Value)(Q:VK),Inv X pins σ H s->RelV x v->Vals xs us->r x xs H Q->
  wpAny (model X.prog X.w) X.A (call (.builtin id) (v::us)) (EP X pins σ Q) X.xe s
section
variable {X:Cx}{a:Expr}
theorem IxR.or(h:IxR X r)(h':IxR X r'):IxR X (λx y H Q=>r x y H Q\/r' x y H Q):=by
 intro value slice pins s σ H x y v u Q I rx ry q hs;rcases q with q|q
 ·exact h value slice pins s σ H x y v u Q I rx ry q hs
 ·exact h' value slice pins s σ H x y v u Q I rx ry q hs
theorem zh(hr:IxR X r)(ha:PE X a ta)(hb:PE X b tb)(hs:kQ b):PE X (.Subscript a b pos) (tOp r ta tb):=by
 intro pins s σ H Q I h;exact Subscript_ (yf ha hb I h λv u s2 x y H2 I2 rx ry q=>hr a b pins s2 σ H2 x y v u Q I2 rx ry q (hs _ _))
def zZ(K:E7):R2:=λx y H Q=>∃p xs i v,x=.ref p/\y=.int i/\SqL K H p xs/\atI xs i=some v/\Q v H
def z7(K:E7):R2:=λx y H Q=>∃p xs i v,x=.ref p/\y=.int i/\SqT K H p xs/\atI xs i=some v/\Q v H
def rIxS:R2:=λx y H Q=>∃z i c,x=.str z/\y=.int i/\z.length<=sizeLine/\atI z.cps.toList i=some c/\Q (.str ⟨#[c]⟩) H
theorem ix_list:IxR X (zZ X.K):=by
 intro value slice pins s σ H x y v u Q I rx ry h hs;obtain⟨p,xs,i,z,rfl,rfl,hq,he,q⟩:=h;cases rx;obtain⟨t,rfl⟩:=ry;obtain⟨its,r,pl,hz⟩:=I.list hq;obtain⟨j,h1,h2,h3,h4,h5⟩:=k7 he;obtain⟨w,ew,rw'⟩:=r.get h2;have hl:=r.length;have hn:=gp;have fin:EP X pins σ Q w s:=⟨z,H,I,rw',q⟩;by_cases h0:0<=i
 ·have hj:i.toNat=j:=by
   rw[seqIndex_of h0 h5]at h1;exact D9 h1
  exact item_listR pl.isList h0 (by omega) (by rw[hj];simpa using ew) fin hs
 ·have hj:(i+(its.toArray.size:Int)).toNat=j:=by
   rw[seqIndex_neg (by omega) h4]at h1
   rw[Eb,<-hl];exact D9 h1
  exact subscriptTail_builtinR (x:=w) pl.isList.typeIs slot_list_getitem.lookup
   (wpAny_getItem_list_neg (Q:=λr s'=>r=w/\EP X pins σ Q r s') pl.isList (by omega) (by rw[Eb]<;>omega) (by omega) (by rw[hj];simpa using ew) ⟨rfl,fin⟩) hs
theorem ix_tup:IxR X (z7 X.K):=by
 intro value slice pins s σ H x y v u Q I rx ry h hs;obtain⟨p,xs,i,z,rfl,rfl,hq,he,q⟩:=h;cases rx;obtain⟨t,rfl⟩:=ry;obtain⟨its,r,pl,hz⟩:=I.tuple hq;obtain⟨j,h1,h2,h3,h4,h5⟩:=k7 he;obtain⟨w,ew,rw'⟩:=r.get h2;have hl:=r.length;have hn:=gp;have fin:EP X pins σ Q w s:=⟨z,H,I,rw',q⟩;exact subscriptTail_builtinR (x:=w) pl.typeIs slot_tuple_getitem.lookup
  (getItem_tuple (j:=j) (Q:=λr s'=>r=w/\EP X pins σ Q r s') pl (by omega) (by omega) (by rw[Eb,<-hl];exact h1) (by simpa using ew) ⟨rfl,fin⟩) hs
theorem yF:IxR X rIxS:=by
 intro value slice pins s σ H x y v u Q I rx ry h hs;obtain⟨z,i,c,rfl,rfl,hz,he,q⟩:=h;obtain⟨t,rfl⟩:=rx;obtain⟨t',rfl⟩:=ry;obtain⟨j,h1,h2,h3,h4,h5⟩:=k7 he;have hl:z.cps.toList.length=z.length:=by simp[Str.length]
 rw[hl]at h1 h4 h5;have hn:=gp;exact tail_any (typeIs_str s z t) slot_str_getitem.lookup (getItem_str (c:=c) (by
  have e1:decide (i < -(2 ^ 63:Int))=false:=EI (by omega)
  have e2:decide (i>=2 ^ 63)=false:=EI (by omega)
  rw[e1,e2,Bool.or_false]) (by rw[h1];simpa using h2) ⟨.str ⟨#[c]⟩,H,I.tok _,⟨_,rfl⟩,q⟩) hs
def rIx(K:E7):R2:=λx y H Q=>zZ K x y H Q\/z7 K x y H Q\/rIxS x y H Q
theorem xA:IxR X (rIx X.K):=ix_list.or (ix_tup.or yF)
theorem nK(its:List Value)(n j:Nat)(u:Value):Obj.mapSeq (·.setIfInBounds j u) {cls:=.type "list",data:=.seq its.toArray n}={cls:=.type "list",data:=.seq (its.set j u).toArray n}:=by
 simp[Obj.mapSeq]
theorem Inv.lst{s:Shared}(I:Inv X pins σ H s)(h:H p=some (.lst xs)) :
  ∃(its:List Value) (n:Nat),Vals xs its/\s.heap.get? p=some {cls:=.type "list",data:=.seq its.toArray n}/\xs.length<=sizeLine:=by
 obtain⟨z,its,n,r,e⟩:=I.hok p _ h;exact⟨its,n,r,e,z⟩
theorem Inv.lstUpd{pins:List (Addr×Obj)}{σ:St}{H:Hp}{s:Shared}{p:Addr}{xs ys:List V}{its its':List Value}{n n':Nat}{f:Obj->Obj}(I:Inv X pins σ H s)(h:H p=some (.lst xs))
  (ho:s.heap.get? p=some {cls:=.type "list",data:=.seq its.toArray n}) (hf:f {cls:=.type "list",data:=.seq its.toArray n}={cls:=.type "list",data:=.seq its'.toArray n'}) (r:Vals ys its') (hz:ys.length<=sizeLine) (t:Nat) (ht:0<t:=by first|exact EL _|assumption|exact Inv.tk (by assumption)|exact Env0.tk (by assumption)|exact D0 (Inv.tk (by assumption)) (Eu _ _)) :
  Inv X pins σ (upd H p (.lst ys)) {s with heap:=s.heap.update p f,toks:=t}:=by
 have e:(s.heap.update p f).get? p=some {cls:=.type "list",data:=.seq its'.toArray n'}:=by
  rw[Ep f ho (by rw[hf]<;>rfl),hf]
 refine I.write (x:=p) (e:=p) (by rw[h];trivial) (.inl rfl) (λb u hb q=>(Ei _ _ (Ea hb)).trans q) ⟨_,e⟩ ?_
 exact⟨hz,its',n',r,e⟩
def rSetL:V->V->V->Hp->(Hp->Prop)->Prop:=λo i v H Q=>∃p xs k j,o=.ref p/\i=.int k/\H p=some (.lst xs)/\ixN xs.length k=some j/\Q (upd H p (.lst (xs.set j v)))
theorem qI:xf X rSetL:=by
 intro pins s σ H o i v ov iv u Q I ro ri rv h;obtain⟨p,xs,k,j,rfl,rfl,hp,hj,q⟩:=h;cases ro;obtain⟨t,rfl⟩:=ri;obtain⟨its,n,r,ho,hz⟩:=I.lst hp;obtain⟨h1,h2,h3,h4⟩:=oU hj;have hl:=r.length;have hn:=gp;have I':Inv X pins σ (upd H p (.lst (xs.set j v))) {s with heap:=s.heap.update p (Obj.mapSeq (·.setIfInBounds j u))}:=
  I.lstUpd hp ho (nK its n j u) (r.set rv j) (by rw[List.length_set];exact hz) s.toks
 by_cases h0:0<=k
 ·have hk:k.toNat=j:=by
   rw[seqIndex_of h0 h4]at h1;exact D9 h1
  exact PySem.W.ki_setAt ho h0 (by omega) (by rw[Eb,<-hl];exact h4) (by rw[hk];exact⟨_,I',q⟩)
 ·have hk:(k+(its.toArray.size:Int)).toNat=j:=by
   rw[seqIndex_neg (by omega) h3]at h1
   rw[Eb,<-hl];exact D9 h1
  exact PySem.W.ki_setBack ho (by omega) (by rw[Eb,<-hl];exact h3) (by omega) (by rw[hk];exact⟨_,I',q⟩)
theorem kJ(lo hi:Option Int)(n:Nat):(sliceBounds lo hi none n).1=((HT.sIx n 0 lo:Nat):Int)/\(sliceBounds lo hi none n).2.1=((HT.sIx n n hi:Nat):Int)/\(sliceBounds lo hi none n).2.2=1:=by
 refine⟨?_,?_,rfl⟩
 ·cases lo with
  |none=>simp[sliceBounds,HT.sIx]
  |some i=>
   simp only[sliceBounds,HT.sIx,Option.getD_none,show (1:Int) > 0 by decide,if_true]
   by_cases h:i<0
   ·simp only[h,if_true]<;>omega
   ·simp only[h,if_false]<;>omega
 ·cases hi with
  |none=>simp[sliceBounds,HT.sIx]
  |some i=>
   simp only[sliceBounds,HT.sIx,Option.getD_none,show (1:Int) > 0 by decide,if_true]
   by_cases h:i<0
   ·simp only[h,if_true]<;>omega
   ·simp only[h,if_false]<;>omega
theorem jq(its:List Value)(lo hi:Option Int):slicePick its.toArray lo hi none=((its.drop (HT.sIx its.length 0 lo)).take (HT.sIx its.length its.length hi-HT.sIx its.length 0 lo)).toArray:=by
 obtain⟨h1,h2,h3⟩:=kJ lo hi its.toArray.size;unfold slicePick;rw[h1,h2,h3];simp only[sliceRange_one,pick_run,Eb]<;>rfl
theorem kc:CallR X (.builtin "len") (λxs H Q=>∃p ys,xs=[.ref p]/\(SqL X.K H p ys\/SqT X.K H p ys)/\Q (.int ys.length) H):=by
 intro pins s σ H xs us Q I r h;obtain⟨p,ys,rfl,hq,q⟩:=h;obtain⟨u,rfl,rx⟩:=eh r;cases rx;have hn:=gp;rcases hq with hq|hq
 ·obtain⟨its,r',pl,hz⟩:=I.list hq;have hlen:=r'.length;exact Calls.call_len_list pl.isList (by simp only[Eb]<;>omega) ⟨.int ys.length,H,I.tok _,⟨s.toks+1,by rw[Eb,hlen]⟩,q⟩
 ·obtain⟨its,r',pl,hz⟩:=I.tuple hq;have hlen:=r'.length;exact len_tuple pl (by simp only[Eb]<;>omega) ⟨.int ys.length,H,I.tok _,⟨s.toks+1,by rw[Eb,hlen]⟩,q⟩
theorem j5:CallR X (.builtin "len") (λxs H Q=>∃z,xs=[.str z]/\z.length<=sizeLine/\Q (.int z.length) H):=by
 intro pins s σ H xs us Q I r h;obtain⟨z,rfl,hz,q⟩:=h;obtain⟨u,rfl,t,rfl⟩:=eh r;have hn:=gp;exact len_str (by omega) ⟨.int z.length,H,I.tok _,⟨_,rfl⟩,q⟩
theorem fu:CallR X (.type "list") (λxs H Q=>∃p ys,xs=[.ref p]/\(SqL X.K H p ys\/SqT X.K H p ys)/\∀l,H l=none->Q (.ref l) (upd H l (.lst ys))):=by
 intro pins s σ H xs us Q I r h;obtain⟨p,ys,rfl,hq,q⟩:=h;obtain⟨u,rfl,rx⟩:=eh r;cases rx;have fin:∀(its:List Value),Vals ys its->ys.length<=sizeLine->∀(h':Heap)(c':Nat),(∀b o',s.heap.get? b=some o'->h'.get? b=some o')->
   h'.get? s.heap.objs.size=some {cls:=.type "list",dict:=none,data:=.seq its.toArray c',slots:=#[]}->EP X pins σ Q (.ref s.heap.objs.size) {s with heap:=h'}:=λits r' hz h' c' kp e=>
  ⟨.ref s.heap.objs.size,_,I.laid (t':=s.toks) kp (DZ _) (show ObjOk X.prog X.w _ h' _ (.lst ys) from⟨hz,its,c',r',e⟩),rfl,q _ (I.hok.fresh (DZ _))⟩
 rcases hq with hq|hq
 ·obtain⟨its,r',pl,hz⟩:=I.list hq;have hlen:=r'.length;obtain⟨o,ho,hc,n,hd⟩:=pl.isList;exact call_list_seq p (.inl rfl) ho hc hd (λh' c' kp e=>fin its r' hz h' c' kp e) (by simp only[Eb]<;>omega)
 ·obtain⟨its,r',pl,hz⟩:=I.tuple hq;have hlen:=r'.length;obtain⟨o,ho,hc,n,hd⟩:=pl;exact call_list_seq p (.inr rfl) ho hc hd (λh' c' kp e=>fin its r' hz h' c' kp e) (by simp only[Eb]<;>omega)
def tyV(K:E7)(T:String)(x:V)(H:Hp):Prop:=match x with
 |.str _=>T = "str"
 |.int _=>T = "int"
 |.ref p=>(T = "list"/\∃xs,SqL K H p xs)\/(T = "tuple"/\∃o,K.lookup p=some o/\o.cls=.type "tuple"/\o.dict=none)\/
   (T = "dict"/\((∃kvs,H p=some (.dK kvs))\/∃kvs,H p=some (.dT kvs)))\/(T = "set"/\∃S n,H p=some (.set S n))
 |_=>False
theorem xH{s:Shared}(I:Inv X pins σ H s)(r:RelV x v)(ty:tyV X.K T x H) :
  s.TypeIs v T/\∀a,v=.ref a->∃ob,s.heap.get? a=some ob/\ob.dict=none:=by
 cases x with
 |str z=>
  obtain⟨t,rfl⟩:=r;cases (show T = "str" from ty);exact⟨typeIs_str s z t,λ_ e=>nomatch e⟩
 |int i=>
  obtain⟨t,rfl⟩:=r;cases (show T = "int" from ty);exact⟨typeIs_int s i t,λ_ e=>nomatch e⟩
 |ref p=>
  cases r;rcases ty with ⟨rfl,xs,hq⟩|⟨rfl,o,hk,hc,hd⟩|⟨rfl,hk⟩|⟨rfl,S,n,hk⟩
  ·obtain⟨its,_,pl,_⟩:=I.list hq;refine⟨pl.isList.typeIs,λa e=>?_⟩
   cases e;obtain⟨o,n,e,c,hd,_⟩:=pl;exact⟨o,e,hd⟩
  ·refine⟨⟨o,I.kIn p o hk,hc⟩,λa e=>?_⟩
   cases e;exact⟨o,I.kIn _ o hk,hd⟩
  ·have z:∃o,s.heap.get? p=some o/\o.ExactDict:=by
    rcases hk with ⟨kvs,hk⟩|⟨kvs,hk⟩
    ·obtain⟨_,_,_,_,o,_,_,e,ex,_⟩:=I.hok p _ hk;exact⟨o,e,ex⟩
    ·obtain⟨_,_,_,_,o,_,_,e,ex,_⟩:=I.hok p _ hk;exact⟨o,e,ex⟩
   obtain⟨o,e,ex⟩:=z;refine⟨⟨o,e,ex.1⟩,λa e2=>?_⟩
   cases e2;exact⟨o,e,ex.2.1⟩
  ·obtain⟨o,_,_,_,e,ex,_⟩:=I.hok p _ hk;refine⟨⟨o,e,ex.1⟩,λa e2=>?_⟩
   cases e2;exact⟨o,e,ex.2.1⟩
 |_=>exact False.elim ty
noncomputable def tBM(K:E7)(T:String)(r:V->List V->Hp->VK->Prop)(to:TE)(t:TA):TE:=λσ H Q=>to σ H λx H1=>tyV K T x H1/\t σ H1 λxs H2=>r x xs H2 Q
variable {o:Expr}{id:String}
theorem zM(pa:PlainAttrs T)(slot:Slot T name id)(hty:typeOf (.builtin id)=pure (.type "method_descriptor"))(hm:MtR X id r)(ho:PE X o to)(ha:PA X (e::es) t)
  (hbase:attributeBase o name X.env (eval o X.env)=eval o X.env:=by rfl)
  (hfew:((backTo cpos (starEach (e::es) X.env)).all (λx=>!x.1)&&(backToKw cpos (keywordEach [] X.env)).all (λx=>x.1.isSome)
   &&decide ((e::es).length+([]:List Keyword).length+(if ([]:List Keyword).isEmpty then 0 else 1)<30))=true:=by rfl)
  (hline:(apos.endLine == cpos.line)=true:=by rfl) (hs:starEach (e::es) X.env=(false,eval e X.env)::starEach es X.env:=by rfl) (hplain:(backTo cpos (starEach es X.env)).any (·.1)=false:=by rfl) :
  PE X (.Call (.Attribute o name apos) (e::es) [] cpos) (tBM X.K T r to t):=by
 intro pins s σ H Q I h;refine wpAny_Call_method_late hbase hfew hline rfl (thn (ho pins s σ H _ I h) λv s1 ⟨x,H1,I1,r1,ty,q1⟩=>?_)
 obtain⟨h1,h2⟩:=xH I1 r1 ty;refine⟨T,id,pa,slot,hty,h1,h2,?_⟩;have hA:=ha cpos pins s1 σ H1 _ I1 q1;rw[hs]at hA ⊢;refine Calls.callWith_builtin (by show (false||(backTo cpos (starEach es X.env)).any (·.1))=false;rw[hplain]<;>rfl) (Calls.evalArgs_plain ?_)
 exact thn hA λus s2 ⟨vs,H2,I2,r2,q2⟩=>hm pins s2 σ H2 x vs v us Q I2 r1 r2 q2
end
def MtM(X:Cx)(id:String)(r:V->List V->Hp->VK->Prop):Prop:=
 ∀(pins:List (Addr×Obj)) (s:Shared)(σ:St)(H:Hp)(x:V)(xs:List V)(v:Value)(us:List Value)(Q:VK),Inv X pins σ H s->RelV x v->Vals xs us->r x xs H Q->
  wpAny (model X.prog X.w) X.A (call (.builtin id) (v::us)) (EP X pins σ Q) X.xe s
theorem Vals.one:∀{x:V}{us:List Value},Vals [x] us->∃u,us=[u]/\RelV x u
 |_,_,.cons r .nil=>⟨_,rfl,r⟩
theorem Vals.two:∀{x y:V}{us:List Value},Vals [x,y] us->∃u v,us=[u,v]/\RelV x u/\RelV y v
 |_,_,_,.cons r (.cons q .nil)=>⟨_,_,rfl,r,q⟩
theorem Vals.reverse{xs:List V}{us:List Value}(h:Vals xs us):Vals xs.reverse us.reverse:=by
 induction h with
 |nil=>exact .nil
 |cons r t ih=>rw[List.reverse_cons,List.reverse_cons];exact Vals.append ih (.cons r .nil)
section
variable {X:Cx}{s:Shared}{l:Addr}{xs ys:List V}
theorem Inv.lset{its its':List Value}{n:Nat}{f:Array Value->Array Value}{t':Nat}(I:Inv X pins σ H s)(hH:H l=some (.lst xs))
  (e:s.heap.get? l=some {cls:=.type "list",data:=.seq its.toArray n}) (hf:f its.toArray=its'.toArray) (hv:Vals ys its') (hz:ys.length<=sizeLine) (ht:0<t':=by first|exact EL _|assumption|exact Inv.tk (by assumption)|exact Env0.tk (by assumption)|exact D0 (Inv.tk (by assumption)) (Eu _ _)) :
  Inv X pins σ (upd H l (.lst ys)) {s with heap:=s.heap.update l (Obj.mapSeq f),toks:=t'}:=by
 have q:=PySem.IsL.update e f;rw[hf]at q;refine I.write (x:=l) (e:=l) (by rw[hH];exact trivial) (.inl rfl) (λb' u hb hu=>(Ei s.heap (Obj.mapSeq f) (Ea hb)).trans hu) ⟨_,q⟩ ?_
 exact⟨hz,its',_,hv,q⟩
theorem Inv.lnew(I:Inv X pins σ H s)(hv:Vals ys its)(hz:ys.length<=sizeLine)(ht:0<t':=by first|exact EL _|assumption|exact Inv.tk (by assumption)|exact Env0.tk (by assumption)|exact D0 (Inv.tk (by assumption)) (Eu _ _)) :
  Inv X pins σ (upd H s.heap.objs.size (.lst ys)) {s with heap:=s.heap.push {cls:=.type "list",data:=.seq its.toArray},toks:=t'}:=
 I.laid (λ_ _ q=>DU _ q) (DZ _) ⟨hz,its,0,hv,D7 _ rfl⟩
theorem Inv.fresh(I:Inv X pins σ H s):H s.heap.objs.size=none:=I.hok.fresh (DZ _)
theorem Inv.lstM(I:Inv X pins σ H s)(hH:H l=some (.lst xs)):xs.length<=sizeLine/\∃(its:List Value) (n:Nat),Vals xs its/\xs.length=its.length/\s.heap.get? l=some {cls:=.type "list",data:=.seq its.toArray n}:=by
 obtain⟨z,its,n,r,e⟩:=I.hok l _ hH;exact⟨z,its,n,r,r.length,e⟩
theorem rN{n:Nat}(h:n<=sizeLine):Builtin.List.listTooLong n=false:=by
 unfold Builtin.List.listTooLong;exact EI (by omega)
end
section
variable {X:Cx}
def rAppend:V->List V->Hp->VK->Prop:=λx vs H Q=>∃l xs y,x=.ref l/\vs=[y]/\H l=some (.lst xs)/\xs.length<sizeLine/\Q .non (upd H l (.lst (xs++[y])))
theorem jQ:MtM X "list.append" rAppend:=by
 intro pins s σ H x vs v us Q I rx rv h;obtain⟨l,xs,y,rfl,rfl,hH,hz,q⟩:=h;cases rx;obtain⟨u,rfl,ru⟩:=rv.one;obtain⟨z,its,n,r,hl,e⟩:=I.lstM hH;refine call_meets F.slot_list_append ⟨_,e,rfl⟩ F.entry_list_append (F.args_list_append_2 _ _) (PySem.list_append l its.toArray n u (by rw[Eb];omega)) ⟨e,?_⟩
 refine⟨.non,_,I.lset (its':=its++[u]) hH e (by simp) (r.append (.cons ru .nil)) ?_,rfl,q⟩
 rw[Ew,List.length_singleton];omega
end
section
variable {w:World}{A:Around}{s:Shared}
set_option maxRecDepth 100000 in
end
section
variable {X:Cx}
end
end L2
namespace Att
open PySem PySem.W PySem.Calls PyProof.Rows
theorem gR:∀(ns:List Int)(vs:List Value),WellAll P h vs (ns.map WData.int)->IntsAre vs ns:=by
 intro ns
 induction ns with
 |nil=>
  intro vs w;rw[List.map_nil]at w;cases w;exact .nil
 |cons n ns ih=>
  intro vs w;rw[List.map_cons]at w;cases w with
  |cons a b=>
   cases a;exact .cons _ _ (ih _ b)
theorem script_of{l:OpenLaw}(hn:l.most=some n){h:Heap}
  (hpre:l.row.toRowW.claim.pre args=true) (hwl:WellAll P h vals args) :
  ∃a vs ns,vals=[Value.ref a]/\args=[WData.list (ns.map WData.int)]/\h.get? a=some {cls:=.type "list",data:=.seq vs.toArray}/\IntsAre vs ns/\ns.length<=n:=by
 have hsh:WShape.hasAll [] args [.list .int]=true:=(pre_splitW hpre).1;have hc:l.pre.holds [] {args:=args}=true:=(pre_splitW hpre).2;obtain⟨d,r,rfl,h1,h2⟩:=hasAllW_cons hsh;obtain rfl:=hasAllW_nil h2;obtain⟨xs,rfl,h3⟩:=hasW_list h1;obtain⟨ns,rfl⟩:=items_int h3;have hlen:ns.length<=n:=by
  unfold OpenLaw.pre at hc;have h4:(WTm.not (.lt (.lit (.int (n:Int))) (.len (.arg 0)))).holds [] {args:=[.list (ns.map .int)]}=true:=by
   have h4:=(holds_andW hc).1;rw[hn]at h4;exact h4
  have h5:=condW_of h4 (w_not (w_lt w_lit (w_len_list (w_arg rfl))));rw[List.length_map]at h5;refine Nat.le_of_not_lt λq=>?_
  have q':(n:Int)<((ns.length:Nat):Int):=by omega
  first
   |(rw[decide_eq_true q']at h5;exact absurd h5 (by decide))
   |(simp at h5;omega)
 cases hwl with
 |cons w1 w2=>
  cases w2;cases w1 with
  |list ho hall=>exact⟨_,_,ns,rfl,rfl,ho,gR ns _ hall,hlen⟩
theorem post_true(l:OpenLaw)(args:List WData):l.row.toRowW.claim.post args (.bool true) args=true:=
 postW_of (r:=l.row.toRowW) (X:=(true == true))
  (show WShape.has [] (.bool true) .bool=true by first|rfl|decide|simp[WShape.has,WShape.arms,WShape.armsAll])
  (show (WTm.eq .res (.lit (.bool true))).value [] {args:=args,res:=some (.bool true),after:=args}=some (.bool (true == true)) from w_eq_bool (w_res rfl) w_lit) rfl
section
variable {w:World}{A:Around}{s:Shared}{K:Frag}
end
end Att
namespace L2
open PySem PySem.Spec PyProof.Rows
theorem gm:∀{vs:List Value}{ns:List Int},IntsAre vs ns->Vals (ns.map V.int) vs
 |_,_,.nil=>.nil
 |_,_,.cons n t h=>.cons ⟨t,rfl⟩ (gm h)
def yV(H:Hp):Prop:=∀b,H b=none\/∃o xs,H b=some (.frz o (.lst xs))
theorem q9{K:E7}{s₁:Shared}
  (KX:K.In s₁.heap)(hns:s₁.heap.Ns mainGlobals mg)(hb:s₁.heap.Ns builtinsNs mb) (hbb:∀x:Str,x≠"__name__"->mb x=bootBuiltins x) (hlim:s₁.heap.NoLimit) (hg:s₁.gens=#[]) (htk:0<s₁.toks)
  (ha:s₁.heap.get? a=some {cls:=.type "list",data:=.seq vs.toArray}) (hi:IntsAre vs ns) (hl:ns.length<=sizeLine) (hr:Room k callerA)
  (F:∀base:Heap,K.In base->base.Ns mainGlobals mg->FnOk P w K mg base CX k fa fd [x] sp) (hbind:∀(s:Shared)(u:Value),BindsTo s fd ⟨[u],[]⟩ [(x,u)])
  (hsp:∀H:Hp,yV H->SqL K H a (ns.map V.int)->sp [.ref a] H (λv _=>v=.bl true) λ_ _ _=>False)
  (hCX:∀H e s',CX [] H s₁ (λ_ _ _=>False) e s'->False) :
  codeAny (model P w) callerA (.call (.ref fa) ⟨[.ref a],[]⟩) (λr s'=>r=.ok (.ret (.bool true))/\OldK s₁.heap s'.heap/\s'.os=s₁.os/\AllBare s'.gens) s₁:=by
 have rv:=gm hi;have lenV:=hi.length;have core:∀H:Hp,yV H->SqL K H a (ns.map V.int)->HOk P w H s₁.heap->(∀b,H b≠none->b=a)->(H a≠none->K.lookup a=none)->
   codeAny (model P w) callerA (.call (.ref fa) ⟨[.ref a],[]⟩) (λr s'=>r=.ok (.ret (.bool true))/\OldK s₁.heap s'.heap/\s'.os=s₁.os/\AllBare s'.gens) s₁:=by
  intro H hO hS hok hA hK;have base_of:∀{b:Addr}{o:Obj},s₁.heap.get? b=some o->H b=none->(kD s₁.heap H).get? b=some o:=λe n=>re e n
  have noA:∀{b:Addr}{o:Obj}{es:Array DictEntry}{ep:Nat},s₁.heap.get? b=some o->o.data=.dict es ep->H b=none:=λ{b o es ep} e d=>by
   cases q:H b with
   |none=>rfl
   |some u=>
    have e':b=a:=hA b (by rw[q];simp)
    subst e';rw[ha]at e;cases e;have d':Data.seq vs.toArray _=Data.dict es ep:=d;cases d'
  have nsK:∀{b:Addr}{m:Str->Option Value},s₁.heap.Ns b m->(kD s₁.heap H).Ns b m:=λ{b m} ⟨o,es,ep,e,d,r⟩=>⟨o,es,ep,base_of e (noA e d),d,r⟩
  have hKb:K.In (kD s₁.heap H):=λb o e=>base_of (KX b o e) (by
   cases q:H b with
   |none=>rfl
   |some u=>
    have e':b=a:=hA b (by rw[q];simp)
    subst e';rw[hK (by rw[q];simp)]at e;cases e)
  have hM:Mod K mg (kD s₁.heap H):=⟨hKb,nsK hns,⟨mb,nsK hb,hbb⟩,let ⟨mc,h1,h2⟩:=hlim;⟨mc,nsK h1,h2⟩⟩
  have e0:Env0 P w K mg (kD s₁.heap H) callerA [] s₁ H:=⟨rfl,hM,λb o e=>ua e,Nat.le_of_eq (pK _ _),trivial,λb hb=>absurd (show b∈([]:List Addr) from hb) (by simp),hok,.of_eq hg,htk⟩
  refine codeAny_mono ((F _ hKb (nsK hns)).run callerA [] s₁ H ⟨[.ref a],[]⟩ [.ref a] [.ref a] _ _ hr (λz=>nomatch z) e0 (hbind s₁ (.ref a)) (.cons rfl .nil) (hsp H hO hS)) λr s' h=>?_
  cases r with
  |error e=>exact (hCX H e s' h).elim
  |ok fl=>
   cases fl with
   |next=>exact False.elim h
   |brk=>exact False.elim h
   |cont=>exact False.elim h
   |ret u=>
    obtain⟨v,H',os,bare,un,hok',r',q⟩:=h;have q':v=.bl true:=q;subst q';obtain rfl:u=Value.bool true:=r';refine⟨rfl,OldK.of_keep λb o e=>?_,os.1,bare⟩
    cases q:H b with
    |none=>exact un.keep b o e q (by intro z;exact absurd (show b∈([]:List Addr) from z) (by simp)) (by simp)
    |some u=>
     rcases hO b with z|⟨ob,xs,z⟩
     ·rw[q]at z;cases z
     ·have z2:=un.frzs b ob _ z;obtain⟨e1,_⟩:=hok b _ z;obtain⟨e2,_⟩:=hok' b _ z2;rw[e]at e1;cases e1;exact e2
 cases hk:K.lookup a with
 |some o=>
  have e:=KX a o hk;rw[ha]at e;cases e;refine core (λ_=>none) (λ_=>.inl rfl) (.inr ⟨_,vs.toArray,_,hk,rfl,rfl,rfl,by rw[Eb,lenV];exact hl,by simpa using rv⟩) (λb u z=>by have z':(none:Option HO)=some u:=z;cases z') (λb z=>absurd rfl z) λz=>absurd rfl z
 |none=>
  refine core (λb=>if b=a then some (.frz {cls:=.type "list",data:=.seq vs.toArray} (.lst (ns.map V.int))) else none) (λb=>?_) (.inl (.inr ⟨{cls:=.type "list",data:=.seq vs.toArray},DY rfl⟩)) (λb u z=>?_) (λb z=>?_) λ_=>hk
  ·by_cases hb:b=a
   ·exact .inr ⟨_,_,DY hb⟩
   ·exact .inl (DV hb)
  ·by_cases hb:b=a
   ·have z':=(DY hb).symm.trans z;cases z';subst hb;exact⟨ha,by rw[D5];exact hl,vs,_,rv,ha⟩
   ·have z':=(DV hb).symm.trans z;cases z'
  ·by_cases hb:b=a
   ·exact hb
   ·exact absurd (DV hb) z
noncomputable def am(s:Stmt)(j:Nat):Stmt:=match s with
 |.ClassDef _ _ _ body _ _ _ _ _ _ _=>body.getD j (.Pass ⟨0,0,0,0⟩)
 |_=>.Pass ⟨0,0,0,0⟩
noncomputable def ba(s:Stmt):Arguments:=match s with
 |.FunctionDef _ a _ _ _ _ _ _ _ _=>a
 |_=>{posonlyargs:=[],args:=[],vararg:=none,kwonlyargs:=[],kw_defaults:=[],kwarg:=none,defaults:=[]}
noncomputable def ax(s:Stmt):List Stmt:=match s with
 |.FunctionDef _ _ b _ _ _ _ _ _ _=>b
 |_=>[]
noncomputable def aq(s:Stmt):Scope:=match s with
 |.FunctionDef _ _ _ _ _ _ sc _ _ _=>sc
 |_=>{kind:=.function,names:=[],isGenerator:=false,isCoroutine:=false}
structure Fun (K:E7)(x qual:Str)(st:Stmt)(f:Addr)(fd:FuncData):Prop where
 ex:∃(oc:Value) (od:Option Addr) (kV doc pm:Value) (an:Option Addr) (cdv ct:Value) (osl:Array (Option Value)),
  fd=PySem.W.fnOf x qual (ba st) (ax st) (aq st) .none kV doc pm an cdv ct/\K.lookup f=some ⟨oc,od,.func fd,osl⟩/\PySem.W.codeIn K cdv qual=true
 kp:PySem.W.keepIn K (.ref f)=true
section
variable {K:E7}
theorem yi{x qual:Str}{st:Stmt}{f:Addr}{oc:Value}{od an:Option Addr}{osl:Array (Option Value)}{kV doc pm cdv ct:Value}(l:K.lookup f=some ⟨oc,od,.func (PySem.W.fnOf x qual (ba st) (ax st) (aq st) .none kV doc pm an cdv ct),osl⟩)
  (c:PySem.W.codeIn K cdv qual=true) (k:PySem.W.keepIn K (.ref f)=true):Fun K x qual st f (PySem.W.fnOf x qual (ba st) (ax st) (aq st) .none kV doc pm an cdv ct):=⟨⟨oc,od,kV,doc,pm,an,cdv,ct,osl,rfl,l,c⟩,k⟩
end
section
variable {X:Cx}
end
section
variable {κ:Type} [DecidableEq κ]
end
def DA(h:Heap)(e:Addr)(d:Option Addr)(q:Bool:=true):Prop:=∃o,h.get? e=some o/\o.dict=d/\(q=true->gU o)
theorem dM(f:Array Value->Array Value)(o:Obj):(Obj.mapFields f o).dict=o.dict:=by
 obtain⟨c,d,x,sl⟩:=o;cases x<;>rfl
section
variable {A:Around}{s:Shared}{base:Heap}{env:Env}
theorem lg{oe:Obj}{vs:Array Value}(hfr:A.frames=some (env::outer))(hl:s.heap.FunFrames base (env::outer))(hf:env.frame=some L)(he:s.heap.get? e=some oe)(hkb:base.StaysIn s.heap)(hen:base.get? e=none)
  (hd:oe.data=.fields vs) (hsz:1<vs.size) (h0:vs[0]?=some a0) (hz:bq=true->gU oe) (k:∀h',Heap.NotedW base (env::outer) e oe.cls a0 (rawInt L) s.heap h'->DA h' e oe.dict bq->Q () {s with heap:=h'}) :
  wpAny M A (do let fr<-frameOf env;let pl<-entryPlaceOf L hadNext;let t<-EntryCells.newEntry head fr .none (rawInt L) .none pl;setField (.ref e) 1 t) Q E s:=by
 have out:e∉(env::outer).filterMap (·.frame):=λz=>by
  obtain⟨_,o,ho,nf⟩:=hl.mem z;cases he.symm.trans ho;exact nf vs hd
 refine vJ (wpAny_frameOf_fun hfr hl hf λg1 sl1=>vJ (wpAny_entryPlaceOf λpl hpl=>?_))
 unfold EntryCells.newEntry newFields;refine vJ (Er ?_ (hpl.sizeOk5 _ _ _ _ _));generalize hT:({cls:=.type "traceback",dict:=none,data:=.fields ([head,.ref L,.none,rawInt L,.none]++(if pl.isEmpty then List.replicate 6 Value.none else pl)).toArray}:Obj)=oT
 have e1:g1.get? e=some oe:=(sl1.2.1 e out).trans he;have b1:base.StaysIn g1:=λb o q=>(sl1.2.1 b λz=>by rw[(hl.mem z).1]at q;cases q).trans (hkb b o q)
 have e2:(g1.push oT).get? e=some oe:=DU oT e1;refine EN e2 hd hsz (k _ ?_ ?_)
 ·have ne:g1.objs.size≠e:=Nat.ne_of_gt (D1 e1);have d3:=EQ hd (·.setIfInBounds 1 (Value.ref g1.objs.size));have e3:=Ep (Obj.mapFields (·.setIfInBounds 1 (Value.ref g1.objs.size))) e2 (Obj.isFreed_of_fields d3);have t3:(g1.push oT).get? g1.objs.size=some oT:=D7 g1 (by rw[<-hT];rfl)
  have t4:((g1.push oT).update e (Obj.mapFields (·.setIfInBounds 1 (Value.ref g1.objs.size)))).get? g1.objs.size=some oT:=(Ei _ _ (Ea ne)).trans t3;have stay:∀b o,b≠e->g1.get? b=some o->((g1.push oT).update e (Obj.mapFields (·.setIfInBounds 1 (Value.ref g1.objs.size)))).get? b=some o:=λb o n q=>
   (Ei _ _ (Ea n)).trans (DU oT q)
  have other:∀b o,s.heap.get? b=some o->(∀ws,o.data≠.fields ws)->b≠e:=λb o q nf z=>by
   subst z;cases he.symm.trans q;exact nf vs hd
  refine⟨λb o q=>stay b o (λz=>by rw[z,hen]at q;cases q) (b1 b o q),hl.of_keeps λb o q nf=>?_,⟨_,_,g1.objs.size,oT,_,e3,⟨Obj.cls_mapFields _ _,?_⟩,d3,by simp[hsz],b1.fresh,ne,t4,by rw[<-hT],?_⟩,λb o q nf=>?_⟩
  ·obtain⟨sl,z⟩:=sl1.2.2 b o q;exact⟨_,stay b _ (other b o q nf) z,rfl⟩
  ·rw[Array.getElem?_setIfInBounds_ne (by decide)];exact h0
  ·first|(simp;done)|(rcases hpl with rfl|⟨_,_,_,_,_,_,_,rfl⟩<;>simp)
  ·obtain⟨sl,z⟩:=sl1.2.2 b o q;exact⟨sl,stay b _ (other b o q nf) z⟩
 ·have d3:=EQ hd (·.setIfInBounds 1 (Value.ref g1.objs.size));exact⟨_,Ep (Obj.mapFields (·.setIfInBounds 1 (Value.ref g1.objs.size))) e2 (Obj.isFreed_of_fields d3),dM _ _,λhq=>⟨_,d3,by
   obtain⟨ws,e4,e5⟩:=hz hq;rw[hd]at e4;cases e4;rw[Array.getElem?_setIfInBounds_ne (by decide)];exact e5⟩⟩
theorem c9(hkb:base.StaysIn s.heap)(hl:s.heap.FunFrames base l)(ht:s.heap.TracedAtW base e cls a0 fl)(hd:DA s.heap e d bq)
  (k:∀h',base.StaysIn h'->h'.FunFrames base l->h'.TracedW base e cls a0->s.heap.UpToSlots h'->DA h' e d bq->Q () {s with heap:=h'}):wpAny M A (setFlight (.ref e) none) Q E s:=by
 obtain⟨oe,vs,T,oT,ts,he,hc,hv,h1,nT,ne,hT,dT,h3⟩:=ht;obtain⟨oe',he',hd⟩:=hd;cases he.symm.trans he';have sz:3<ts.size:=(ED.mp h3).1;unfold setFlight;refine vJ (EG he hv h1 ?_);rw[DY (by simp:(Value.ref T != Value.none)=true)]
 have oth:∀b,b≠T->(s.heap.update T (Obj.mapFields (·.setIfInBounds 3 ((none:Option Addr).elim Value.none λf=>rawInt f)))).get? b=s.heap.get? b:=λb n=>Ei _ _ (Ea n)
 have plain:∀b o,s.heap.get? b=some o->(∀ws,o.data≠.fields ws)->b≠T:=λb o q nf z=>by
  subst z;cases hT.symm.trans q;exact nf ts dT
 have ee:=(oth e (Ea ne)).trans he;refine EN hT dT sz (k _ (λb o q=>(oth b λz=>by rw[z,nT]at q;cases q).trans (hkb b o q)) (hl.of_keeps λb o q nf=>⟨o,(oth b (plain b o q nf)).trans q,rfl⟩) ⟨oe,vs,T,_,_,ee,hc,hv,h1,nT,ne,Ep _ hT (Obj.isFreed_of_fields (EQ dT _)),EQ dT _,by simp[sz]⟩
  (λb o q nf=>⟨o.slots,(oth b (plain b o q nf)).trans q⟩) ⟨oe,ee,hd⟩)
theorem nO(hfr:A.frames=some (env::outer))(hf:env.frame=some L)(fl:Heap.FlyingW base (env::outer) e cls a0 s.heap)(hd:DA s.heap e d bq)
  (k:∀h',Heap.HeldW base (env::outer) e cls a0 L h'->s.heap.UpToSlots h'->DA h' e d bq->Q () {s with heap:=h'}):wpAny M A (noteFrame (.ref e) env) Q E s:=by
 obtain⟨hkb,hen,hl,oe,vs,T,oT,ts,he,⟨rfl,h0⟩,hv,h1,nT,ne,hT,dT,h3⟩:=fl;obtain⟨oe',he',rfl,hz⟩:=hd;cases he.symm.trans he';unfold noteFrame;simp only[hf];refine vJ (EG he hv h1 ?_);rw[DY (by simp:(Value.ref T != Value.none)=true)]
 refine vJ (EG hT dT h3 ?_);rw[DV (by simp[rawInt]:¬ ((Value.none == rawInt L)=true))]
 refine vJ (EN hT dT (ED.mp h3).1 ?_);have oth:∀b,b≠T->(s.heap.update T (Obj.mapFields (·.setIfInBounds 3 Value.none))).get? b=s.heap.get? b:=λb n=>Ei _ _ (Ea n)
 have plain:∀b o,s.heap.get? b=some o->(∀ws,o.data≠.fields ws)->b≠T:=λb o q nf z=>by
  subst z;cases hT.symm.trans q;exact nf ts dT
 exact lg hfr (hl.of_keeps λb o q nf=>⟨o,(oth b (plain b o q nf)).trans q,rfl⟩) hf ((oth e (Ea ne)).trans he) (λb o q=>(oth b λz=>by rw[z,nT]at q;cases q).trans (hkb b o q)) hen hv (ED.mp h1).1 h0 hz
  λh' ⟨x1,x2,x3,x4⟩ dd=>k h' ⟨x1,hen,x2,x3⟩ (λb o q nf=>x4 b o ((oth b (plain b o q nf)).trans q) nf) dd
theorem o6(hh:Heap.HeldW base l e cls a0 L s.heap)(hd:DA s.heap e d bq)(k:∀h',Heap.FlyingW base l e cls a0 h'->s.heap.UpToSlots h'->DA h' e d bq->Q () {s with heap:=h'}):wpAny M A (setFlight (.ref e) none) Q E s:=
 c9 hh.1 hh.2.2.1 hh.2.2.2 hd λh' k1 k2 k3 k4 k5=>k h' ⟨k1,hh.2.1,k2,k3⟩ k4 k5
theorem oY(fl:Heap.FlyingW base l e cls a0 s.heap)(hd:DA s.heap e d bq)(k:∀h',Heap.FlyingW base l e cls a0 h'->s.heap.UpToSlots h'->DA h' e d bq->Q () {s with heap:=h'}):wpAny M A (setFlight (.ref e) none) Q E s:=
 c9 fl.1 fl.2.2.1 fl.2.2.2.at hd λh' k1 k2 k3 k4 k5=>k h' ⟨k1,fl.2.1,k2,k3⟩ k4 k5
theorem bb{h:Heap}(x:h.FunFrames base (env::outer)):h.FunFrames base outer:=x.2.2
theorem rK(hfr:A.frames=some (env::outer))(hf:env.frame=some L)(fl:Heap.FlyingW base (env::outer) e cls a0 s.heap)(hd:DA s.heap e d bq)
  (k:∀h',Heap.FlyingW base outer e cls a0 h'->s.heap.UpToSlots h'->DA h' e d bq->Q () {s with heap:=h'}):wpAny M A (leaving env (.ref e)) Q E s:=by
 unfold leaving;refine vJ (nO hfr hf fl hd λh1 x1 u1 d1=>o6 x1 d1 λh2 x2 u2 d2=>k h2 ⟨x2.1,x2.2.1,bb x2.2.2.1,x2.2.2.2⟩ (u1.trans u2) d2)
theorem uA{oe:Obj}(hfr:A.frames=some (env::outer))(hf:env.frame=some L)(hkb:base.StaysIn s.heap)(hl:s.heap.FunFrames base (env::outer))(he:s.heap.get? e=some oe)(hen:base.get? e=none)(hv:oe.data=.fields vs)(h0:vs[0]?=some a0)(h1:vs[1]?=some .none)(h2:bq=true->vs[2]?=some .none)
  (k:∀h',Heap.FlyingW base outer e oe.cls a0 h'->s.heap.UpToSlots h'->DA h' e oe.dict bq->Q () {s with heap:=h'}):wpAny M A (leaving env (.ref e)) Q E s:=by
 unfold leaving noteFrame;simp only[hf];refine vJ (vJ (EG he hv h1 ?_));rw[DV (by decide)]
 refine lg hfr hl hf he hkb hen hv (ED.mp h1).1 h0 (λz=>⟨vs,hv,h2 z⟩) λh1 x1 d1=>?_
 exact c9 x1.1 x1.2.1 x1.2.2.1 d1 λh2 k1 k2 k3 k4 k5=>k h2 ⟨k1,hen,bb k2,k3⟩ (Heap.UpToSlots.trans x1.2.2.2 k4) k5
theorem rZ(hfr:A.frames=some (env::outer))(hf:env.frame=some L)(hkb:base.StaysIn s.heap)(hen:base.get? e=none)(hl:s.heap.FunFrames base (env::outer))(ht:s.heap.TracedAtW base e cls a0 v)(hd:DA s.heap e d bq)
  (k:∀h',Heap.FlyingW base outer e cls a0 h'->s.heap.UpToSlots h'->DA h' e d bq->Q () {s with heap:=h'}):wpAny M A (leaving env (.ref e)) Q E s:=by
 by_cases hv:(v == rawInt L)=true
 ·unfold leaving;refine vJ (wpAny_noteFrame_againW hf (eq_of_beq hv▸ht) ?_);exact c9 hkb hl ht hd λh2 k1 k2 k3 k4 k5=>k h2 ⟨k1,hen,bb k2,k3⟩ k4 k5
 obtain⟨oe,vs,T,oT,ts,he,⟨rfl,h0⟩,hvs,h1,nT,ne,hT,dT,h3⟩:=ht;obtain⟨oe',he',rfl,hz⟩:=hd;cases he.symm.trans he';unfold leaving noteFrame;simp only[hf];refine vJ (vJ (EG he hvs h1 ?_));rw[DY (by simp:(Value.ref T != Value.none)=true)]
 refine vJ (EG hT dT h3 ?_);rw[DV hv];refine vJ (EN hT dT (ED.mp h3).1 ?_);have oth:∀b,b≠T->(s.heap.update T (Obj.mapFields (·.setIfInBounds 3 Value.none))).get? b=s.heap.get? b:=λb n=>Ei _ _ (Ea n)
 have plain:∀b o,s.heap.get? b=some o->(∀ws,o.data≠.fields ws)->b≠T:=λb o q nf z=>by
  subst z;cases hT.symm.trans q;exact nf ts dT
 refine lg hfr (hl.of_keeps λb o q nf=>⟨o,(oth b (plain b o q nf)).trans q,rfl⟩) hf ((oth e (Ea ne)).trans he) (λb o q=>(oth b λz=>by rw[z,nT]at q;cases q).trans (hkb b o q)) hen hvs (ED.mp h1).1 h0 hz
  λh1 x1 d1=>c9 x1.1 x1.2.1 x1.2.2.1 d1 λh2 k1 k2 k3 k4 k5=>k h2 ⟨k1,hen,bb k2,k3⟩ (Heap.UpToSlots.trans (λb o q nf=>x1.2.2.2 b o ((oth b (plain b o q nf)).trans q) nf) k4) k5
theorem qy{oT:Obj}{T:Addr}(he:s.heap.get? e=some oe)(hv:oe.data=.fields vs)(h1:vs[1]?=some (.ref T))(hT:s.heap.get? T=some oT)(dT:oT.data=.fields ts)(sz:3<ts.size)
  (k:∀h' oT' ts',h'.get? T=some oT'->oT'.data=.fields ts'->3<ts'.size->(∀b,b≠T->h'.get? b=s.heap.get? b)->E (.ref e) {s with heap:=h'}):wpAny M A (PySem.passOn what (.ref e) env:Sem α) Q E s:=by
 unfold PySem.passOn setFlight;refine vJ (EG he hv h1 ?_);rw[DV (by simp:¬ ((Value.ref T == Value.none)=true))]
 refine vJ (vJ (EG he hv h1 ?_));rw[DY (by simp:(Value.ref T != Value.none)=true)]
 refine EN hT dT sz (wpAny_throw (k _ _ _ (Ep _ hT (Obj.isFreed_of_fields (EQ dT _))) (EQ dT _) (by simp[sz]) λb n=>Ei _ _ (Ea n)))
end
section
variable {h h':Heap}{o:HO}
theorem ObjOk.isAt(x:ObjOk P w H h a o):∃ob,h.get? a=some ob:=by
 cases o with
 |lst xs=>obtain⟨_,_,_,_,e⟩:=x;exact⟨_,e⟩
 |tup xs=>obtain⟨_,_,_,ob,e,_⟩:=x;exact⟨_,e⟩
 |dK kvs=>obtain⟨_,_,_,_,ob,_,_,e,_⟩:=x;exact⟨_,e⟩
 |dT kvs=>obtain⟨_,_,_,_,ob,_,_,e,_⟩:=x;exact⟨_,e⟩
 |set S n=>obtain⟨ob,_,_,_,e,_⟩:=x;exact⟨_,e⟩
 |ins C dx fs=>obtain⟨_,_,_,e,_⟩:=x;exact⟨_,e⟩
 |own y=>exact x
 |xd fs=>obtain⟨_,⟨ob,_,_,e,_⟩,_⟩:=x;exact⟨_,e⟩
 |rng lo hi=>obtain⟨_,_,_,e⟩:=x;exact⟨_,e⟩
 |frz ob u=>exact⟨_,x.1⟩
 |tbl ps=>exact⟨_,x⟩
 |met f y=>exact⟨_,x⟩
 |ext φ=>exact x.2.1
theorem HOk.keptT(x:HOk P w H h)(k:∀b u ob,H b=some u->h.get? b=some ob->h'.get? b=some ob):HOk P w H h':=λa o e=>
 (x a o e).stay (λb u hb q=>hb.elim (λz=>by subst z;exact k _ _ _ e q) (λz=>k _ _ _ z q)) (λ_ q=>q) λ_ _ q=>q
end
def Fly(B:Heap)(l:List Env)(a:Addr)(cls:Value)(h:Heap):Prop:=∃a0,Heap.FlyingW B l a cls a0 h
def Within(B:Heap)(l:List Env)(hs:Heap)(H':Hp)(h':Heap):Prop:=
 ∀b ob,h'.get? b=some ob->(H' b≠none\/((∃o',hs.get? b=some o')/\b∉frs l))->B.get? b=some ob
noncomputable def CX1(P:Program)(w:World)(bq:Bool:=true):CXT:=λouter H s E e s'=>
 ∃(a:Addr) (cls:Value) (B:Heap) (H':Hp) (dx:Option Addr),e=.ref a/\(s'.os=s.os/\0<s'.toks)/\AllBare s'.gens/\Un (frs outer) [] H H' s.heap s'.heap/\HOk P w H' s'.heap/\
  (Fly B outer a cls s'.heap/\DA s'.heap a dx bq)/\H' a=none/\Within B outer s.heap H' s'.heap/\E cls dx H'
theorem Inv.notrk{s:Shared}(I:Inv X pins σ H s)(hn:s.heap.get? e=none):H e=none:=by
 cases q:H e with
 |none=>rfl
 |some u=>
  obtain⟨ob,z⟩:=(I.hok e u q).isAt;rw[hn]at z;cases z
theorem Inv.oldNe{X:Cx}(I:Inv X pins σ H s)(q:X.s₀.heap.get? b=some o)(hb:b∉X.fs):b∉frs X.stack:=λhm=>by
 rcases DX.mp (I.stkSub b hm) with z|z
 ·have:=D0 (D1 q) I.ok.above;rw[z]at this;exact absurd this (EF _)
 ·exact hb z
section
variable {K:E7}{s:Shared}
theorem jK{s1:Shared}{h':Heap}{ts:List Addr}
  (I:Inv (bj (CX1 P w bq) P w K mg base N qual scope f cd A outer s H E bq) pins σ H1 s1) (hk:∀b o,s1.heap.get? b=some o->b∉ts->h'.get? b=some o) (hke:∀b∈ts,∀o,s1.heap.get? b=some o->∃vs,o.data=.fields vs) (hnt:∀b∈ts,H1 b=none) (hno:∀b∈ts,s.heap.get? b=none) (het:e∈ts)
  (lv:∀(B:Heap)(Q:Unit->Shared->Prop)(X:Value->Shared->Prop),B.StaysIn h'->h'.FunFrames B (envOfC qual scope s.heap.objs.size f cd::outer)->(∀b∈ts,B.get? b=none)->(∀h2 a0,Heap.FlyingW B outer e cls a0 h2->h'.UpToSlots h2->DA h2 e dx bq->Q () {s1 with heap:=h2})->
   wpAny (model P w) (bj (CX1 P w bq) P w K mg base N qual scope f cd A outer s H E bq).A (leaving (envOfC qual scope s.heap.objs.size f cd) (.ref e)) Q X {s1 with heap:=h'}) (he:E cls dx H1) :
  (bj (CX1 P w bq) P w K mg base N qual scope f cd A outer s H E bq).xe (.ref e) {s1 with heap:=h'}:=by
 have hl:s1.heap.FunFrames base (envOfC qual scope s.heap.objs.size f cd::outer):=I.stack;have hin:∀env∈(envOfC qual scope s.heap.objs.size f cd::outer),∀b,env.frame=some b->b∈ts++frs (envOfC qual scope s.heap.objs.size f cd::outer):=λenv he b hb=>El _ (List.mem_filterMap.mpr ⟨env,he,hb⟩)
 have hB:∀b o,(PySem.W.hideAll s1.heap (ts++frs (envOfC qual scope s.heap.objs.size f cd::outer))).get? b=some o->s1.heap.get? b=some o/\b∉ts:=λb o q=>⟨PySem.W.of_hideAll _ q,λz=>by
  rw[PySem.W.hideAll_none _ (Ev _ z)]at q;cases q⟩
 have hff:s1.heap.FunFrames (PySem.W.hideAll s1.heap (ts++frs (envOfC qual scope s.heap.objs.size f cd::outer))) (envOfC qual scope s.heap.objs.size f cd::outer):=PySem.W.funFrames_hide hl hin;show wpAny _ _ (leaving _ _) _ _ _;refine lv (PySem.W.hideAll s1.heap (ts++frs (envOfC qual scope s.heap.objs.size f cd::outer))) _ _ (λb o q=>hk b o (hB b o q).1 (hB b o q).2) (hff.of_keeps λb o q nf=>⟨o,hk b o q (λz=>by
  obtain⟨ws,dw⟩:=hke b z o q;exact nf ws dw),rfl⟩) (λb z=>PySem.W.hideAll_none _ (Ev _ z)) λh2 a0 fl up dd=>?_
 have tB:∀b u ob,H1 b=some u->s1.heap.get? b=some ob->(PySem.W.hideAll s1.heap (ts++frs (envOfC qual scope s.heap.objs.size f cd::outer))).get? b=some ob:=λb u ob hb q=>
  PySem.W.hideAll_get _ q λhm=>by
   rcases Eo.mp hm with z|hm
   ·rw[hnt b z]at hb;cases hb
   ·have z:=I.stkFree b hm;rw[hb]at z;cases z
 have one:∀b o,s.heap.get? b=some o->b∉ts:=λb o q z=>by rw[hno b z]at q;cases q
 have oB:∀b o ob,s.heap.get? b=some o->b∉frs outer->s1.heap.get? b=some ob->(PySem.W.hideAll s1.heap (ts++frs (envOfC qual scope s.heap.objs.size f cd::outer))).get? b=some ob:=λb o ob q hb q1=>
  PySem.W.hideAll_get _ q1 λhm=>(Eo.mp hm).elim (one b o q) (I.oldNe q hb)
 have st:=fl.1;have slot:∀b o,s.heap.get? b=some o->H b=none->b∈frs outer->∃sl,h2.get? b=some {o with slots:=sl}:=λb o q n hb=>by
  obtain⟨sl,e1⟩:=I.base.slot b o q n hb (λz=>nomatch z)
  obtain⟨_,o2,e2,nf⟩:=I.ok.funs.mem hb;have e3:o2=o:=D9 (e2.symm.trans q);subst e3;obtain⟨sl2,e4⟩:=up b _ (hk _ _ e1 (one b _ q)) nf;exact⟨sl2,e4⟩
 refine⟨e,cls,_,H1,dx,rfl,I.os,I.bare,⟨λb o q n hb _=>?_,λb o q n hb _=>slot b o q n hb,λb o q n _=>I.base.free b o q n (λz=>nomatch z),λb o q _=>?_,I.base.tups,I.base.frzs,I.base.tbls⟩,?_,⟨⟨_,fl⟩,dd⟩,hnt e het,λb ob q hb=>?_,he⟩
 ·exact st b o (oB b o o q hb (I.base.keep b o q n hb (λz=>nomatch z)))
 ·by_cases hb:b∈frs outer
  ·obtain⟨sl,z⟩:=slot b o q (I.ok.frf b hb) hb;exact⟨_,z⟩
  ·obtain⟨o',e1⟩:=I.base.there b o q (λz=>nomatch z)
   exact⟨o',st b o' (oB b o o' q hb e1)⟩
 ·exact I.hok.keptT λb u ob hb q=>st b ob (tB b u ob hb q)
 ·rcases hb with hb|⟨⟨o',ho'⟩,hb⟩
  ·cases z:H1 b with
   |none=>exact absurd z hb
   |some u=>
    obtain⟨o1,e1⟩:=(I.hok b u z).isAt;have e2:=tB b u o1 z e1;have e3:o1=ob:=D9 ((st b o1 e2).symm.trans q);rw[<-e3];exact e2
  ·obtain⟨o1,e1⟩:=I.base.there b o' ho' (λz=>nomatch z)
   have e2:=oB b o' o1 ho' hb e1;have e3:o1=ob:=D9 ((st b o1 e2).symm.trans q);rw[<-e3];exact e2
theorem fX{s1:Shared}{oe:Obj}{h':Heap}
  (I:Inv (bj (CX1 P w bq) P w K mg base N qual scope f cd A outer s H E bq) pins σ H1 s1) (hk:∀b o,s1.heap.get? b=some o->b≠e->h'.get? b=some o) (hke:∀o,s1.heap.get? e=some o->∃vs,o.data=.fields vs) (hnt:H1 e=none) (hno:s.heap.get? e=none)
  (hoe:h'.get? e=some oe) (hv:oe.data=.fields vs) (hv0:vs[0]?=some a0) (hv1:vs[1]?=some .none) (hv2:bq=true->vs[2]?=some .none) (he:E oe.cls oe.dict H1) :
  (bj (CX1 P w bq) P w K mg base N qual scope f cd A outer s H E bq).xe (.ref e) {s1 with heap:=h'}:=
 jK (ts:=[e]) I (λb o q n=>hk b o q λz=>n (z▸DW)) (λb hb o q=>hke o (Eh.mp hb▸q)) (λb hb=>Eh.mp hb▸hnt) (λb hb=>Eh.mp hb▸hno) DW
  (λB Q X st ff hn k=>uA (s:={s1 with heap:=h'}) I.ok.frames rfl st ff hoe (hn e DW) hv hv0 hv1 hv2 λh2 fl up dd=>k h2 _ fl up dd) he
structure ExAt (h:Heap)(e T:Addr)(cls:Value)(dx:Option Addr):Prop where
 ex:∃oe vs oT ts a0,h.get? e=some oe/\oe.cls=cls/\oe.dict=dx/\oe.data=.fields vs/\vs[0]?=some a0/\vs[1]?=some (.ref T)/\vs[2]?=some .none/\T≠e/\h.get? T=some oT/\oT.data=.fields ts/\3<ts.size
def qW(X:Cx)(E:XK):Prop:=(X.stack=X.env::X.outer/\X.env.frame=some X.env.locals/\X.ex=[])/\∀(pins:List (Addr×Obj)) (σ:St)(H:Hp)(s:Shared)(e T:Addr)(cls:Value)(dx:Option Addr)(h':Heap),Inv X pins σ H s->(∀b,b≠T->h'.get? b=s.heap.get? b)->
 (∀o,s.heap.get? T=some o->∃vs,o.data=.fields vs)->ExAt h' e T cls dx->H e=none->H T=none->X.s₀.heap.get? e=none->X.s₀.heap.get? T=none->E cls dx H->X.xe (.ref e) {s with heap:=h'}
theorem wI:qW (bj (CX1 P w bq) P w K mg base N qual scope f cd A outer s H E bq) E:=⟨⟨rfl,rfl,rfl⟩,λpins σ H1 s1 e T cls dx h' I hk hT ⟨oe,vs,oT,ts,a0,e1,e2,e3,e4,e5,e6,e62,e7,e8,e9,e10⟩ h1 h2 h3 h4 he=>by
 have all:∀{p:Addr->Prop},p e->p T->∀b∈[e,T],p b:=λ{p} x y b hb=>by
  rcases DX.mp hb with z|z
  ·rw[z];exact x
  ·rw[Eh.mp z];exact y
 subst e2 e3;refine jK (ts:=[e,T]) I (λb o q n=>(hk b λz=>n (by simp[z])).trans q) (all (p:=λb=>∀o,s1.heap.get? b=some o->∃vs,o.data=.fields vs) (λo q=>?_) hT) (all h1 h2) (all h3 h4) DW (λB Q X st ff hn k=>?_) he
 ·rw[(hk e (Ea e7)).trans q]at e1;cases e1;exact⟨vs,e4⟩
 ·exact rZ (s:={s1 with heap:=h'}) (v:=ts[3]) I.ok.frames rfl st (hn e DW) ff ⟨oe,vs,T,oT,ts,e1,⟨rfl,e5⟩,e4,e6,hn T (by simp),e7,e8,e9,Array.getElem?_eq_getElem e10⟩ ⟨oe,e1,rfl,λ_=>⟨vs,e4,e62⟩⟩ λh2 fl up dd=>k h2 _ fl up dd⟩
theorem pW{s1:Shared}
  (I:Inv (bj (CX1 P w bq) P w K mg base N qual scope f cd A outer s H E bq) pins σ H1 s1) (hx:Heap.MadeExcOf s1.heap h' e cls args)(he:E cls none H1) :
  (bj (CX1 P w bq) P w K mg base N qual scope f cd A outer s H E bq).xe (.ref e) {s1 with heap:=h'}:=by
 obtain⟨t,e1,_,_⟩:=hx.there;refine fX I (λb o q _=>hx.keeps b o q) (λo q=>by rw[hx.new]at q;cases q) (I.notrk hx.new) ?_ e1 rfl rfl rfl (λ_=>rfl) he
 cases q:s.heap.get? e with
 |none=>rfl
 |some o=>
  obtain⟨o1,z⟩:=I.base.there e o q (λz=>nomatch z)
  rw[hx.new]at z;cases z
theorem qp(hE:∀c d H',E' c d H'->E c d H')
  (I:Inv (bj (CX1 P w bq) P w K mg base N qual scope f cd A outer s H E bq) pins σ H1 s1) (hc:CX1 P w bq (envOfC qual scope s.heap.objs.size f cd::outer) H1 s1 E' e s') :
  (bj (CX1 P w bq) P w K mg base N qual scope f cd A outer s H E bq).xe e s':=by
 obtain⟨a,cls,B,H2,dx,rfl,os,bare,un,hok,⟨⟨a0,fl⟩,dd⟩,ha,inc,he⟩:=hc;have hfr:((bj (CX1 P w bq) P w K mg base N qual scope f cd A outer s H E bq).A).frames=some (envOfC qual scope s.heap.objs.size f cd::outer):=I.ok.frames;show wpAny _ _ (leaving _ _) _ _ _;refine rK hfr rfl fl dd λh2 fl2 up dd2=>?_
 have st:=fl2.1;have nil:∀b:Addr,b∉([]:List Addr):=λb z=>nomatch z
 have slot:∀b o,s.heap.get? b=some o->H b=none->b∈frs outer->∃sl,h2.get? b=some {o with slots:=sl}:=λb o q n hb=>by
  obtain⟨sl,e1⟩:=I.base.slot b o q n hb (nil b);obtain⟨sl1,e2⟩:=un.any e1 (I.base.free b o q n (nil b)) (nil b);obtain⟨_,o2,e3,nf⟩:=I.ok.funs.mem hb;have e4:o2=o:=D9 (e3.symm.trans q);subst e4;obtain⟨sl2,e5⟩:=up b _ e2 nf;exact⟨sl2,e5⟩
 have old:∀b o,s.heap.get? b=some o->b∉frs outer->∃ob,s'.heap.get? b=some ob/\B.get? b=some ob:=λb o q hb=>by
  obtain⟨o1,e1⟩:=I.base.there b o q (nil b);obtain⟨o2,e2⟩:=un.there b o1 e1 (nil b);exact⟨o2,e2,inc b o2 e2 (.inr ⟨⟨o1,e1⟩,I.oldNe q hb⟩)⟩
 refine⟨a,cls,B,H2,dx,rfl,⟨os.1.trans I.os.1,os.2⟩,bare,⟨λb o q n hb _=>?_,λb o q n hb _=>slot b o q n hb,λb o q n _=>?_,λb o q _=>?_,λb xs q=>un.tups b xs (I.base.tups b xs q),λb o u q=>un.frzs b o u (I.base.frzs b o u q),λb ps q=>?_⟩,?_,⟨⟨a0,fl2⟩,dd2⟩,ha,λb ob q hb=>?_,hE _ _ _ he⟩
 ·have e1:=I.base.keep b o q n hb (nil b);have e2:=un.keep b o e1 (I.base.free b o q n (nil b)) (I.oldNe q hb) (nil b);exact st b o (inc b o e2 (.inr ⟨⟨o,e1⟩,I.oldNe q hb⟩))
 ·obtain⟨o1,e1⟩:=I.base.there b o q (nil b);exact un.free b o1 e1 (I.base.free b o q n (nil b)) (nil b)
 ·by_cases hb:b∈frs outer
  ·obtain⟨sl,z⟩:=slot b o q (I.ok.frf b hb) hb;exact⟨_,z⟩
  ·obtain⟨ob,_,e2⟩:=old b o q hb;exact⟨ob,st b ob e2⟩
 ·obtain⟨m1,e1⟩:=I.base.tbls b ps q;obtain⟨m2,e2⟩:=un.tbls b _ e1;exact⟨m1++m2,by rw[e2,Array.append_assoc]⟩
 ·exact hok.keptT λb u ob hb q=>st b ob (inc b ob q (.inl (by rw[hb];exact λz=>nomatch z)))
 ·rcases hb with hb|⟨⟨o',ho'⟩,hb⟩
  ·cases z:H2 b with
   |none=>exact absurd z hb
   |some u=>
    obtain⟨o1,e1⟩:=(hok b u z).isAt;have e2:=inc b o1 e1 (.inl hb);have e3:o1=ob:=D9 ((st b o1 e2).symm.trans q);rw[<-e3];exact e2
  ·obtain⟨o1,e1,e2⟩:=old b o' ho' hb;have e3:o1=ob:=D9 ((st b o1 e2).symm.trans q);rw[<-e3];exact e2
theorem Aj:yw (CX1 P w bq) (bj (CX1 P w bq) P w K mg base N qual scope f cd A outer s H E bq) E:=λ_ _ _ _ _ _ I h=>qp (λ_ _ _ z=>z) I h
theorem Cv:PassesOwn (model P w) (bj (CX1 P w bq) P w K mg base N qual scope f cd A outer s H E bq).A (bj (CX1 P w bq) P w K mg base N qual scope f cd A outer s H E bq).env (bj (CX1 P w bq) P w K mg base N qual scope f cd A outer s H E bq).xe:=
 PassesOwn.leaving
end
def qj(X:Cx)(E:XK):Prop:=∀(pins:List (Addr×Obj)) (σ:St)(H:Hp)(s:Shared)(e:Addr)(cls:Value)(args:List Value)(h':Heap),Inv X pins σ H s->Heap.MadeExcOf s.heap h' e cls args->E cls none H->X.xe (.ref e) {s with heap:=h'}
def g8(X:Cx)(E:XK):Prop:=∀(pins:List (Addr×Obj)) (σ:St)(H:Hp)(s:Shared)(e:Addr)(oe:Obj)(vs:Array Value)(a0:Value),Inv X pins σ H s->H e=none->X.s₀.heap.get? e=none->s.heap.get? e=some oe->oe.data=.fields vs->vs[0]?=some a0->vs[1]?=some .none->(X.calm=true->vs[2]?=some .none)->E oe.cls oe.dict H->X.xe (.ref e) s
theorem qZ{K:E7} :
  g8 (bj (CX1 P w bq) P w K mg base N qual scope f cd A outer s H E bq) E:=λ_ _ _ s1 e oe vs a0 I ht h0 hoe hv v0 v1 v2 he=>fX (h':=s1.heap) I (λ_ _ q _=>q) (λo q=>by
 cases hoe.symm.trans q;exact⟨vs,hv⟩) ht h0 hoe hv v0 v1 v2 he
theorem tO{K:E7} :
  qj (bj (CX1 P w bq) P w K mg base N qual scope f cd A outer s H E bq) E:=λ_ _ _ _ _ _ _ _ I hx he=>pW I hx he
abbrev bmV:List Value:=[.type "ValueError",.type "Exception",.type "BaseException",.type "object"]
def tG(K:E7)(C:Addr):Prop:=PySem.W.excIn K C bmV "ValueError.__new__"=true
noncomputable def yb(E:XK)(C:Addr)(t:TA):TS:=λ_ σ H=>t σ H λvs H1=>vs.length<=sizeLine/\E (.ref C) none H1
theorem tM{K:E7}{h:Heap}(X:K.In h)(z:PySem.W.excIn K C bmB nid=true) :
  ∃bm M nm qn bs b1 sn sb b2 co dd x0 x1 x2 x3 x5 mN,h.get? C=some (excClassObj nm qn C M bs bm b1 sn sb b2 co dd x0 x1 x2 x3 x5 nid)/\h.Ns M mN/\mN "__init__"=none/\OwnTail h bmB bm:=by
 unfold PySem.W.excIn at z;split at z
 next dd cd sl ho=>
  split at z
  next C' bm x0 x1 x2 x3 n x5 hm hs=>
   rw[DR,DR,DR,DR,DR,Ec,Ec,Ec]at z;have z1:=z.1.1.1.1.1;have z2:=z.1.1.1.1.2;have z3:=z.1.1.1.2;have z4:=z.1.1.2;have z5:=z.1.2;have z6:=z.2;subst z1;subst z2;cases cd with
   |mk nm bs mro ns qn hd sn sub ab col del=>
    cases hm;cases del with
    |true=>cases z3
    |false=>
     have es:sl=#[x0,x1,x2,x3,some (.builtin n),x5]:=by
      cases sl with
      |mk l=>cases hs;rfl
     subst es;exact⟨bm,ns,nm,qn,bs,hd,sn,sub,ab,col,dd,x0,x1,x2,x3,x5,_,X _ _ ho,.of_isNs (PySem.W.isNs_of_in X z5),PySem.W.nsMap_none_of_in X z5 z6,PySem.W.tail_of_in X z4⟩
  next=>cases z
 next=>cases z
section
variable {X:Cx}
end
section
variable {prog:Program}{w:World}{A:Around}{E:Value->Shared->Prop}{s:Shared}{env:Env}
theorem pG{b:Addr}{ob:Obj}{ws:Array Value}{Q:α->Shared->Prop}(hh:tI A s.heap)(hb:s.heap.get? b=some ob)(hd:ob.data=.fields ws)(hz:2<ws.size)(hne:A.handled≠some (.ref b))
  (h:∀h' o' ws',Heap.SameBut b s.heap h'->h'.get? b=some o'->o'.cls=ob.cls->o'.dict=ob.dict->o'.data=.fields ws'->ws'[0]?=ws[0]?->ws'[1]?=ws[1]?->(A.handled=none->ws'[2]?=ws[2]?)->E (.ref b) {s with heap:=h'}):wpAny (model prog w) A (raiseNew (.ref b)) Q E s:=by
 simp only[raiseNew];refine vJ (wpAny_handled ?_);rcases hh with e|⟨a,o,e,ho,vs,hv,h2⟩
 ·rw[e];exact vJ (DS (wpAny_throw (h _ _ _ ⟨rfl,λ_ _=>rfl⟩ hb rfl rfl hd rfl rfl λ_=>rfl)))
 ·rw[e];have ab:a≠b:=λz=>hne (by rw[e,z])
  have hn:(Value.ref a != Value.ref b)=true:=by simpa using ab
  simp only[hn,if_true];refine vJ (Ez (wpAny_runValue (codeAny_builtin d8 ?_)));show wpAny _ _ (field (.ref a) 2 >>=_) _ _ s;refine vJ (EG ho hv (x:=.none) h2 ?_);show wpAny _ _ (ret .none) _ _ s;refine DS (vJ ?_);have d3:=EQ hd (·.setIfInBounds 2 (Value.ref a));have us:=EN (M:=model prog w) (A:=A) (E:=E) (x:=.ref a) hb hd hz (Q:=λ_ s'=>wpAny (model prog w) A (throw (.ref b)) Q E s') (wpAny_throw (h _ _ _ (Heap.SameBut.update ..) (Ep _ hb (Obj.isFreed_of_fields d3)) (Obj.cls_mapFields _ _) (dM _ _) d3 (Array.getElem?_setIfInBounds_ne (by decide)) (Array.getElem?_setIfInBounds_ne (by decide)) λz=>by rw[e]at z;cases z))
  exact us
end
def hD(X:Cx)(E:XK):Prop:=∀(pins:List (Addr×Obj)) (σ:St)(H:Hp)(s:Shared)(e:Addr)(oe:Obj)(vs:Array Value)(a0:Value)(h':Heap),Inv X pins σ H s->s.heap.get? e=none->(∀b o,s.heap.get? b=some o->h'.get? b=some o)->h'.get? e=some oe->oe.data=.fields vs->
 vs[0]?=some a0->vs[1]?=some .none->(X.calm=true->vs[2]?=some .none)->E oe.cls oe.dict H->X.xe (.ref e) {s with heap:=h'}
theorem sy{K:E7}:hD (bj (CX1 P w bq) P w K mg base N qual scope f cd A outer s H E bq) E:=λ_ _ _ s1 e oe vs a0 h' I hn hk hoe hv v0 v1 v2 he=>
 fX I (λb o q _=>hk b o q) (λo q=>by rw[hn]at q;cases q) (I.notrk hn) (by
  cases q:s.heap.get? e with
  |none=>rfl
  |some o=>
   obtain⟨o1,z⟩:=I.base.there e o q (λz=>nomatch z)
   rw[hn]at z;cases z) hoe hv v0 v1 v2 he
section
variable {X:Cx}
theorem pU(hx:hD X E)(hc:HdA X)(hg:Gl X x)(hm:X.mg x=some (.ref C))(q:tG X.K C)(ha:PA X (e::es) t)(hdb:(x == ("__debug__" : Str))=false:=by decide)
  (he:starEach (e::es) X.env=(false,eval e X.env)::starEach es X.env:=by rfl) (hpl:(backTo cpos (starEach es X.env)).any (·.1)=false:=by rfl) :
  PS X (.Raise (some (.Call (.Name x np) (e::es) [] cpos)) none pos) (yb E C t):=by
 intro pins s σ H D I h;obtain⟨bm,M,nm,qn,bs,b1,sn,sb,b2,co,dd,x0,x1,x2,x3,x5,mN,hC,hN,hni,T⟩:=tM I.ok.mod.kin q;have hplain:(backTo cpos (starEach (e::es) X.env)).any (·.1)=false:=by
  rw[he];show (false||(backTo cpos (starEach es X.env)).any (·.1))=false
  rw[hpl];rfl
 have has:(Value.ref C::bm).contains (.type "BaseException")=true:=by rw[List.contains_cons,T.hasType PySem.F.excBase_ValueError.hasBase,Bool.or_true]
 rw[arm_exec_Raise];refine vJ (wpAny_standAt ?_);simp only[evalOpt,Option.map];unfold raiseStmt;refine vJ (vJ (EK (wpAny_Call_ofName (Q:=λv s3=>∃us h' a s2 H2,v=.ref a/\s3={s2 with heap:=h'}/\Inv X pins σ H2 s2/\Heap.MadeExcOf s2.heap h' a (.ref C) us/\E (.ref C) none H2) (bh I hg hm ?_ hdb)) (λv s1 hv=>?_) λ_ _ x=>x))
 ·unfold callWith;refine vJ (Ez ?_);have h2:=ha cpos pins s σ H _ I h;rw[he]at h2 ⊢;refine Calls.evalArgs_plain (thn h2 λus s2 ⟨vs,H2,I2,r,z,q2⟩=>vJ (wpAny_standAt ?_))
  rw[he]at hplain;simp only[hplain];refine vJ (wpAny_keeperOf_exc (I2.bk _ _ hC) ?_);refine vJ (wpAny_call_exc_subT (hrest:=by show us.length<=_;rw[<-r.length];exact z) PySem.F.excBase_ValueError (T.keeps I2.bk) (I2.bk _ _ hC) (hN.keeps I2.bk) hni λh' e hm=>vJ (Ez (wpAny_point (DS ?_))))
  exact⟨_,_,_,_,_,rfl,rfl,I2,hm,q2⟩
 ·obtain⟨us,h',a,s2,H2,rfl,rfl,I2,hm',q2⟩:=hv;obtain⟨t,ht,_,_⟩:=hm'.there;have hC':=hm'.keeps _ _ (I2.bk _ _ hC);refine vJ (wpAny_standAt (DS ?_));obtain⟨hp,g,d,tk,os⟩:=s2
  repeat (first|with_reducible refine wpAny_loadPart_at ht ?_|with_reducible refine wpAny_loadPart_at hC' ?_|(with_reducible refine wpAny_isSubtype_exc hC' ?_;rw[has])|wp_step)
  have hk:=(I2.hdA hc).1;refine pG ?_ ht rfl (by simp) (λw=>?_) λh3 o3 ws3 sb e1 e2 e3 e4 e5 e6 e7=>?_
  ·rcases hk with e|⟨b,o,e,f,l⟩
   ·exact .inl e
   ·exact .inr ⟨b,o,e,hm'.keeps _ _ f,l⟩
  ·rcases hk with e|⟨b,o,e,f,l⟩
   ·rw[e]at w;cases w
   ·rw[e]at w;cases w;rw[hm'.new]at f;cases f
  ·refine hx pins σ H2 ⟨hp,g,d,tk,os⟩ a o3 ws3 (.ref t) h3 I2 hm'.new (λb o q=>(sb.2 b λw=>?_).trans (hm'.keeps b o q)) e1 e4 (e5.trans rfl) (e6.trans rfl) (λw=>(e7 (I2.ok.hd w)).trans rfl) (by rw[e2,e3];exact q2)
   rw[w,hm'.new]at q;cases q
end
def aA(CX:CXT)(X:Cx)(E:St->XK):Prop:=∀(pins:List (Addr×Obj)) (σ:St)(H:Hp)(s:Shared)(e:Value)(s':Shared),Inv X pins σ H s->CX X.stack H s (E σ) e s'->X.xe e s'
section
variable {X:Cx}{p:Pos}{o:Expr}
end
section
variable {X:Cx}{σ:St}{s1 s':Shared}{B:Heap}
theorem Inv.behind(I:Inv X pins σ H1 s1)(os:s'.os=s1.os/\0<s'.toks)(bare:AllBare s'.gens)(un:Un (frs X.stack) [] H1 H2 s1.heap s'.heap)(hok:HOk X.prog X.w H2 s'.heap)
  (inc:Within B X.stack s1.heap H2 s'.heap)(st:B.StaysIn h4)(up:s'.heap.UpToSlots h4):Inv X pins σ H2 {s' with heap:=h4}:=by
 have nil:∀b:Addr,b∉([]:List Addr):=λb z=>nomatch z
 have dataK:∀b o,s1.heap.get? b=some o->H1 b=none->(∀vs,o.data≠.fields vs)->∃sl,h4.get? b=some {o with slots:=sl}:=λb o q n nf=>by
  obtain⟨sl,e1⟩:=un.any q n (nil b);obtain⟨sl2,e2⟩:=up b _ e1 nf;exact⟨sl2,e2⟩
 have cellK:∀x c,X.env.cells.lookup x=some c->∀v,s1.heap.IsCell c v->h4.IsCell c v:=λx c e v ⟨o,ho,hd⟩=>by
  obtain⟨sl,z⟩:=dataK c o ho (I.freeC x c e) λvs q=>by rw[hd]at q;cases q
  exact⟨_,z,hd⟩
 refine⟨I.ok,⟨os.1.trans I.os.1,os.2⟩,bare,⟨λb o q n hb hx=>?_,λb o q n hb hx=>?_,λb o q n hx=>?_,λb o q hx=>?_,λb xs q=>un.tups b xs (I.base.tups b xs q),λb o u q=>un.frzs b o u (I.base.frzs b o u q),λb ps q=>?_⟩,?_,λx c e=>?_,?_,λx c e=>?_,λp hp=>?_,?_,I.len⟩
 ·have e1:=I.base.keep b o q n hb hx;have e2:=un.keep b o e1 (I.base.free b o q n hx) (I.oldNe q hb) (nil b);exact st b o (inc b o e2 (.inr ⟨⟨o,e1⟩,I.oldNe q hb⟩))
 ·obtain⟨sl,e1⟩:=I.base.slot b o q n hb hx;obtain⟨_,o2,e3,nf⟩:=I.ok.funs.mem hb;have e4:o2=o:=D9 (e3.symm.trans q);subst e4;obtain⟨sl2,e5⟩:=dataK b _ e1 (I.base.free b _ q n hx) nf;exact⟨sl2,e5⟩
 ·obtain⟨o1,e1⟩:=I.base.there b o q hx;exact un.free b o1 e1 (I.base.free b o q n hx) (nil b)
 ·obtain⟨o1,e1⟩:=I.base.there b o q hx;by_cases hb:b∈X.fs
  ·obtain⟨_,o2,e3,nf⟩:=I.ok.funs.mem hb;obtain⟨sl,e4⟩:=I.base.slot b o2 e3 (I.ok.frf b hb) hb hx;obtain⟨sl2,e5⟩:=dataK b _ e4 (I.base.free b _ e3 (I.ok.frf b hb) hx) nf;exact⟨_,e5⟩
  ·obtain⟨o2,e2⟩:=un.there b o1 e1 (nil b);exact⟨o2,st b o2 (inc b o2 e2 (.inr ⟨⟨o1,e1⟩,I.oldNe q hb⟩))⟩
 ·obtain⟨m1,e1⟩:=I.base.tbls b ps q;obtain⟨m2,e2⟩:=un.tbls b _ e1;exact⟨m1++m2,by rw[e2,Array.append_assoc]⟩
 ·obtain⟨m,⟨o,es,ep,ho,hd,r⟩,hl⟩:=I.loc;obtain⟨sl,z⟩:=dataK _ o ho I.free λvs q=>by rw[hd]at q;cases q
  refine⟨m,⟨_,es,ep,z,hd,r⟩,λi x v e1 e2 e3=>?_⟩
  obtain⟨u,r',l⟩:=hl i x v e1 e2 e3;refine⟨u,r',l.elim .inl λ⟨k,c,e,z⟩=>.inr ⟨k,c,e,cellK x c e _ z⟩⟩
 ·obtain⟨v,z⟩:=I.cell x c e;exact⟨v,cellK x c e v z⟩
 ·obtain⟨m,⟨o,_,_,ho,_⟩,_⟩:=I.loc;exact un.free _ o ho I.free (nil _)
 ·obtain⟨v,o,ho,_⟩:=I.cell x c e;exact un.free c o ho (I.freeC x c e) (nil _)
 ·obtain⟨e,n,ne,nf,d⟩:=I.pin p hp;have nb:p.1∉frs X.stack:=λhm=>(DX.mp (I.stkSub _ hm)).elim ne nf
  have e2:=un.keep p.1 p.2 e n nb (nil _);exact⟨st _ _ (inc _ _ e2 (.inr ⟨⟨_,e⟩,nb⟩)),un.free p.1 p.2 e n (nil _),ne,nf,d⟩
 ·exact hok.keptT λb u ob hb q=>st b ob (inc b ob q (.inl (by rw[hb];exact λz=>nomatch z)))
theorem n8(fl:Fly B X.stack a cls s'.heap)(inc:Within B X.stack s1.heap H2 s'.heap):s1.heap.get? a=none:=by
 obtain⟨a0,f1,f2,f3,oe,vs,T,oT,ts,he,hc,hd,_⟩:=fl;cases q:s1.heap.get? a with
 |none=>rfl
 |some o=>
  have z:=inc a oe he (.inr ⟨⟨o,q⟩,λhm=>by
   obtain⟨_,o2,e2,nf⟩:=f3.mem hm;rw[he]at e2;cases e2;exact nf vs hd⟩)
  rw[f2]at z;cases z
end
noncomputable def mS(a:Addr)(cls:Value)(dx:Option Addr):HO:=.ext λh=>∃o vs,h.get? a=some o/\o.cls=cls/\o.data=.fields vs/\o.dict=dx
section
variable {X:Cx}{σ:St}{s:Shared}
theorem Inv.trackExc{o:Obj}(I:Inv X pins σ H s)(hn:H a=none)(ho:s.heap.get? a=some o)(hc:o.cls=cls)(hd:o.data=.fields vs)(hdx:o.dict=dx)(h0:X.s₀.heap.get? a=none)(hp:∀p∈X.pn++pins,p.1≠a) :
  Inv X pins σ (upd H a (.frz o (mS a cls dx))) s:=by
 have ne:∀b u,H b=some u->b≠a:=λb u q=>au q hn
 have nL:X.env.locals≠a:=λz=>by
  obtain⟨m,⟨o',_,_,ho',hd',_⟩,_⟩:=I.loc;rw[z,ho]at ho';cases ho';rw[hd]at hd';cases hd'
 have nC:∀x c,X.env.cells.lookup x=some c->c≠a:=λx c e z=>by
  obtain⟨v,o',ho',hd'⟩:=I.cell x c e;rw[z,ho]at ho';cases ho';rw[hd]at hd';cases hd'
 refine⟨I.ok,I.os,I.bare,⟨I.base.keep,I.base.slot,λb o' q n hx=>?_,I.base.there,λb xs q=>?_,λb o' u q=>?_,λb ps q=>?_⟩,I.loc,I.cell,?_,λx c e=>?_,λp hp'=>?_,λb u q=>?_,I.len⟩
 ·rw[aa λz=>by rw[z,h0]at q;cases q]
  exact I.base.free b o' q n hx
 ·have z:=I.base.tups b xs q;rw[aa (ne _ _ z)];exact z
 ·have z:=I.base.frzs b o' u q;rw[aa (ne _ _ z)];exact z
 ·obtain⟨m,z⟩:=I.base.tbls b ps q;exact⟨m,by rw[aa (ne _ _ z)];exact z⟩
 ·rw[aa nL];exact I.free
 ·rw[aa (nC x c e)];exact I.freeC x c e
 ·obtain⟨e,n,r⟩:=I.pin p hp';exact⟨e,by rw[aa (hp p hp')];exact n,r⟩
 ·by_cases hb:b=a
  ·subst hb;rw[ad]at q;cases q;exact⟨ho,⟨o,vs,ho,hc,hd,hdx⟩,⟨o,ho⟩,λh1 h2 ⟨o1,vs1,e1,e2,e3⟩ k=>⟨o1,vs1,k _ e1,e2,e3⟩⟩
  ·rw[aa hb]at q;exact (I.hok b u q).stay (λ_ _ _ z=>z) (λc z=>by rw[aa (ne _ _ z)];exact z) λc xs z=>by rw[aa (ne _ _ z)];exact z
theorem Inv.goes{h':Heap}(hi:X.N[i]?=some n)(hN:X.N.Nodup)(I:Inv X pins σ H s)(hm:s.heap.Ns X.env.locals m)
  (hl:∀(j:Nat)(x:Str)(w:V),X.N[j]?=some x->σ[j]?=some (some w)->Vis X.env.scope x->∃u,RelV w u/\Aw X.env s.heap m x u)
  (hn:h'.Ns X.env.locals (λx=>if x=n then v else m x)) (hs:Heap.SameBut X.env.locals s.heap h') (ht:0<t':=by first|exact EL _|assumption|exact Inv.tk (by assumption)|exact Env0.tk (by assumption)|exact D0 (Inv.tk (by assumption)) (Eu _ _)):Inv X pins (σ.set i none) H {s with heap:=h',toks:=t'}:=by
 obtain⟨oL,_,_,hoL,_⟩:=id hm;have old:∀b o,X.s₀.heap.get? b=some o->h'.get? b=s.heap.get? b:=λb o e=>hs.2 b (Ek (D0 (D1 e) I.ok.above))
 refine⟨I.ok,⟨I.os.1,ht⟩,I.bare,⟨λb o q n hb hx=>(old b o q).trans (I.base.keep b o q n hb hx),λb o q n hb hx=>?_,I.base.free,λb o q hx=>?_,I.base.tups,I.base.frzs,I.base.tbls⟩,⟨_,hn,λj y w e1 e2 e3=>?_⟩,λy c e=>?_,I.free,I.freeC,λp hp=>?_,λb u q=>?_,by rw[List.length_set];exact I.len⟩
 ·obtain⟨sl,z⟩:=I.base.slot b o q n hb hx;exact⟨sl,(old b o q).trans z⟩
 ·obtain⟨o',z⟩:=I.base.there b o q hx;exact⟨o',(old b o q).trans z⟩
 ·have hj:j≠i:=λz=>by
   subst z;rw[List.getElem?_set_self']at e2;cases q:σ[j]? with
   |none=>rw[q]at e2;cases e2
   |some r=>rw[q]at e2;cases e2
  rw[E0 (Ea hj)]at e2;obtain⟨u,r,l⟩:=hl j y w e1 e2 e3;refine⟨u,r,?_⟩;rcases l with ⟨k,e⟩|⟨k,c,e,z⟩
  ·refine .inl ⟨k,?_⟩;have:y≠n:=λe=>hj (iP hN e1 (e▸hi))
   show (if y=n then v else m y)=some u
   rw[DV this];exact e
  ·exact .inr ⟨k,c,e,z.sameBut hs (I.cne y c e)⟩
 ·obtain⟨w',z⟩:=I.cell y c e;exact⟨w',z.sameBut hs (I.cne y c e)⟩
 ·obtain⟨e,n,ne,nf,d⟩:=I.pin p hp;exact⟨(hs.2 p.1 ne).trans e,n,ne,nf,d⟩
 ·refine (I.hok b u q).stay (λc w' hc z=>(hs.2 c ?_).trans z) (λ_ z=>z) λ_ _ z=>z
  rintro rfl;rcases hc with rfl|hc
  ·rw[I.free]at q;cases q
  ·rw[I.free]at hc;cases hc
end
noncomputable abbrev Cx.marked(X:Cx)(v:Value):Cx:={X with A:=X.A.mark (some v),calm:=false,xe:=λ_ _=>False}
noncomputable abbrev Cx.markedS(X:Cx)(a:Addr)(o:Obj)(u:HO):Cx:={X with A:=X.A.mark (some (.ref a)),H₀:=upd X.H₀ a (.frz o u),calm:=false,xe:=λ_ _=>False}
noncomputable abbrev Cx.tryX(X:Cx)(pn:List (Addr×Obj))(W:Value->Shared->Prop):Cx:={X with pn:=X.pn++pn,xe:=W}
section
variable {X:Cx}
theorem Inv.marked(I:Inv X pins σ H s)(v:Value):Inv (X.marked v) pins σ H s:=
 ⟨⟨I.ok.mod,I.ok.kind,I.ok.glob,I.ok.blt,I.ok.above,I.ok.inj,I.ok.has,I.ok.cab,(λz=>nomatch z),I.ok.frames,I.ok.stk,I.ok.exf,I.ok.bs,I.ok.bsz,I.ok.noex,I.ok.exfs,I.ok.funs,I.ok.frf⟩,I.os,I.bare,I.base,I.loc,I.cell,I.free,I.freeC,I.pin,I.hok,I.len⟩
theorem Inv.markedS(I:Inv X pins σ H s)(h0:X.s₀.heap.get? a=none)(ha:H a=some (.frz o u)):Inv (X.markedS a o u) pins σ H s:=by
 have n0:∀b ob,X.s₀.heap.get? b=some ob->b≠a:=λb ob e z=>by rw[z,h0]at e;cases e
 have n1:∀b,upd X.H₀ a (.frz o u) b=none->X.H₀ b=none:=λb e=>by
  rwa [aa λz=>by rw[z,ad]at e;cases e]at e
 refine⟨⟨I.ok.mod,I.ok.kind,I.ok.glob,I.ok.blt,I.ok.above,I.ok.inj,I.ok.has,I.ok.cab,(λz=>nomatch z),I.ok.frames,I.ok.stk,I.ok.exf,λb ob e=>?_,I.ok.bsz,I.ok.noex,I.ok.exfs,I.ok.funs,λb hb=>?_⟩,I.os,I.bare,⟨λb ob e n=>I.base.keep b ob e (n1 b n),λb ob e n=>I.base.slot b ob e (n1 b n),λb ob e n=>I.base.free b ob e (n1 b n),I.base.there,λb xs e=>?_,λb ob v e=>?_,λb ps e=>?_⟩,I.loc,I.cell,I.free,I.freeC,I.pin,I.hok,I.len⟩
 ·have z:=I.ok.bs b ob e;exact⟨z.1,(aa (n0 b ob z.1)).trans z.2⟩
 ·obtain⟨_,ob,e,_⟩:=I.ok.funs.mem hb;exact (aa (n0 b ob e)).trans (I.ok.frf b hb)
 all_goals
  have e:upd X.H₀ a _ b=_:=e;by_cases hb:b=a
  ·subst hb;rw[ad]at e;cases e<;>exact ha
  ·rw[aa hb]at e
   first|exact I.base.tups b xs e|exact I.base.frzs b ob v e|exact I.base.tbls b ps e
theorem Inv.unmarkS(I0:Inv X pins0 σ0 H0 s0)(h0:X.s₀.heap.get? a=none)(ha:H0 a=none)(I:Inv (X.markedS a o u) pins σ H s):Inv X pins σ H s:=by
 have n1:∀b ob,X.s₀.heap.get? b=some ob->X.H₀ b=none->upd X.H₀ a (.frz o u) b=none:=λb ob e n=>by
  rw[aa λz=>by rw[z,h0]at e;cases e];exact n
 refine⟨I0.ok,I.os,I.bare,⟨λb ob e n=>I.base.keep b ob e (n1 b ob e n),λb ob e n=>I.base.slot b ob e (n1 b ob e n),λb ob e n=>I.base.free b ob e (n1 b ob e n),I.base.there,λb xs e=>I.base.tups b xs ?_,λb ob v e=>I.base.frzs b ob v ?_,λb ps e=>I.base.tbls b ps ?_⟩,I.loc,I.cell,I.free,I.freeC,I.pin,I.hok,I.len⟩
 all_goals
  show upd _ _ _ b=_;rw[aa]
  ·exact e
  ·intro z;subst z
   first
    |(have w:=I0.base.tups b xs e;rw[ha]at w;cases w;done)
    |(have w:=I0.base.frzs b ob v e;rw[ha]at w;cases w;done)
    |(obtain⟨_,w⟩:=I0.base.tbls b ps e;rw[ha]at w;cases w)
theorem Cx.Ok.tryX(ok:X.Ok)(pn:List (Addr×Obj))(W:Value->Shared->Prop):(X.tryX pn W).Ok:=
 ⟨ok.mod,ok.kind,ok.glob,ok.blt,ok.above,ok.inj,ok.has,ok.cab,ok.hd,ok.frames,ok.stk,ok.exf,ok.bs,ok.bsz,ok.noex,ok.exfs,ok.funs,ok.frf⟩
theorem Inv.tryX(I:Inv X pins σ H s)(W:Value->Shared->Prop):Inv (X.tryX pins W) [] σ H s:=
 ⟨I.ok.tryX _ _,I.os,I.bare,I.base,I.loc,I.cell,I.free,I.freeC,λp hp=>I.pin p (by rw[EO]at hp;exact hp),I.hok,I.len⟩
theorem Inv.untry(ok:X.Ok)(I:Inv (X.tryX pn W) pins σ H s):Inv X pn σ H s:=
 ⟨ok,I.os,I.bare,I.base,I.loc,I.cell,I.free,I.freeC,λp hp=>I.pin p (Ev _ hp),I.hok,I.len⟩
end
def XI(X:Cx)(pins:List (Addr×Obj))(σ:St)(H:Hp)(a:Addr)(cls:Value)(dx:Option Addr)(s:Shared):Prop:=
 ∃B a0,Inv X pins σ H s/\(Heap.FlyingW B X.stack a cls a0 s.heap/\DA s.heap a dx X.calm)/\H a=none/\X.s₀.heap.get? a=none/\(∀p∈X.pn++pins,p.1≠a)/\∀h4,B.StaysIn h4->s.heap.UpToSlots h4->Inv X pins σ H {s with heap:=h4}
def PH(X:Cx)(hs:List ExceptHandler)(t:Ends->St->XK):Prop:=
 ∀(pins:List (Addr×Obj)) (s:Shared)(σ:St)(H:Hp)(D:Ends)(a:Addr)(cls:Value)(dx:Option Addr),XI X pins σ H a cls dx s->t D σ cls dx H->wpAny (model X.prog X.w) X.A (handleBy (.ref a) X.env hs) (SP X pins D) X.xe s
noncomputable def Ends.goes(D:Ends)(i:Nat):Ends:=⟨λσ H=>D.nx (σ.set i none) H,D.rt,λσ H=>D.bk (σ.set i none) H,λσ H=>D.ct (σ.set i none) H⟩
def Cl(K:E7)(C:Addr)(i:Nat)(ts:TS)(tr:Ends->St->XK):Ends->St->XK:=λD σ cls d H=>
 (PySem.W.exmOne K cls (.ref C)=some true/\∀a o,H a=none->ts (D.goes i) (σ.set i (some (.ref a))) (upd H a (.frz o (mS a cls d))))\/(PySem.W.exmOne K cls (.ref C)=some false/\tr D σ cls d H)
def BQ(K:E7)(C:Addr)(ts:TS)(tr:Ends->St->XK):Ends->St->XK:=λD σ cls d H=>
 (PySem.W.exmOne K cls (.ref C)=some true/\∀a o,H a=none->ts D σ (upd H a (.frz o (mS a cls d))))\/(PySem.W.exmOne K cls (.ref C)=some false/\tr D σ cls d H)
section
variable {X:Cx}{c n:Str}{C:Addr}{b0:Stmt}{suite:List Stmt}{np hpos pos:Pos}{rest:List ExceptHandler}{ts:TS}{tr:Ends->St->XK}{i:Nat}
theorem fx{M:Model}{B h:Heap}{l:List Env}{a:Addr}{cls a0:Value}(fl:Heap.FlyingW B l a cls a0 h):PySem.W.Looks M h (typeOf (.ref a)) cls:=by
 obtain⟨ob,hob,hc⟩:=fl.there;exact hc▸(PySem.W.Looks.ld hob).andThen .now
theorem zI(hg:Gl X c)(hm:X.mg c=some (.ref C))(hN:X.N.Nodup)(hi:X.N[i]?=some n)(hl:X.env.scope.names.lookup n=some .local)(hs:∀a o u,(X.calm=true->gU o)->PSs (X.markedS a o u) (b0::suite) ts)(hr:PH X rest tr)(hdb:(c == ("__debug__" : Str))=false:=by decide) :
  PH X (.ExceptHandler (some (.Name c np)) (some n) (b0::suite) hpos::rest) (Cl X.K C i ts tr):=by
 intro pins s σ H D a cls dx xi h;obtain⟨B,a0,I,⟨fl,dd⟩,ha,h0,hp,stab⟩:=id xi;rcases h with ⟨em,k⟩|⟨em,k⟩
 ·refine wpAny_handleBy_cons (codeAny_handlers_test (bh (I.marked (.ref a)) hg hm ?_ hdb)) (by intro q;cases q)
  refine (PySem.W.exm_one I.kIn (fx fl) em).here ?_;refine codeAny_handlers_suite_as (oY fl dd λh6 fl6 up6 dd6=>?_)
  have I6:=stab h6 fl6.1 up6;obtain⟨oe,vs,e1,e2,e3,_⟩:=fl6.first
  obtain⟨e4,e5⟩:oe.dict=dx/\(X.calm=true->gU oe):=by
   obtain⟨o',z1,z2⟩:=dd6;cases e1.symm.trans z1;exact z2
  have I7:=I6.trackExc (cls:=cls) ha e1 e2 e3 e4 h0 hp;refine iJ (X:=X.markedS a oe _) (v:=.ref a) (I7.markedS h0 ad) hN hi (.inl hl) rfl (λs7 I8=>?_) (.inr hl)
  refine EK (hs a oe _ e5 pins s7 _ _ (D.goes i) I8 (k a oe ha)) (λfl s8 q=>?_) (λ_ _ z=>False.elim z)
  have hcl:(X.env.scope.kind == .class||(X.env.scope.kind == .module&&X.env.locals != X.env.globals))=false:=by rw[I.ok.kind];rfl
  have fin:∀σ' H',Inv (X.markedS a oe (mS a cls dx)) pins σ' H' s8->∀(Q:Unit->Shared->Prop),(∀s9,Inv X pins (σ'.set i none) H' s9->Q () s9)->
    wpAny (model X.prog X.w) X.A (do bindName X.env n .none;unbindBehindTheSuite X.env n hpos) Q X.xe s8:=λσ' H' J Q kq=>by
   have J':=I.unmarkS h0 ha J;obtain⟨m,hm',hl'⟩:=J'.loc;exact wpAny_nameGoes_keeps hl hm' hcl λh' v hn hs'=>kq _ (Inv.goes hi hN J' hm' hl' hn hs')
  match fl,q with
  |.next,⟨σ',H',J,q⟩=>exact fin σ' H' J _ λs9 J9=>⟨_,_,J9,q⟩
  |.brk,⟨σ',H',J,q⟩=>exact fin σ' H' J _ λs9 J9=>⟨_,_,J9,q⟩
  |.cont,⟨σ',H',J,q⟩=>exact fin σ' H' J _ λs9 J9=>⟨_,_,J9,q⟩
  |.ret u,⟨v,σ',H',J,r,q⟩=>exact fin σ' H' J _ λs9 J9=>⟨v,_,_,J9,r,q⟩
 ·refine wpAny_handleBy_cons (codeAny_handlers_test (bh (I.marked (.ref a)) hg hm ?_ hdb)) (by intro q;cases q)
  refine (PySem.W.exm_one I.kIn (fx fl) em).here ?_;exact hr pins s σ H D a cls dx xi k
theorem yP(hg:Gl X c)(hm:X.mg c=some (.ref C))(hs:∀a o u,(X.calm=true->gU o)->PSs (X.markedS a o u) (b0::suite) ts)(hr:PH X rest tr)(hdb:(c == ("__debug__" : Str))=false:=by decide) :
  PH X (.ExceptHandler (some (.Name c np)) none (b0::suite) hpos::rest) (BQ X.K C ts tr):=by
 intro pins s σ H D a cls dx xi h;obtain⟨B,a0,I,⟨fl,dd⟩,ha,h0,hp,stab⟩:=id xi;rcases h with ⟨em,k⟩|⟨em,k⟩
 ·refine wpAny_handleBy_cons (codeAny_handlers_test (bh (I.marked (.ref a)) hg hm ?_ hdb)) (by intro q;cases q)
  refine (PySem.W.exm_one I.kIn (fx fl) em).here ?_;refine codeAny_handlers_suite (oY fl dd λh6 fl6 up6 dd6=>?_)
  have I6:=stab h6 fl6.1 up6;obtain⟨oe,vs,e1,e2,e3,_⟩:=fl6.first
  obtain⟨e4,e5⟩:oe.dict=dx/\(X.calm=true->gU oe):=by
   obtain⟨o',z1,z2⟩:=dd6;cases e1.symm.trans z1;exact z2
  have I7:=I6.trackExc (cls:=cls) ha e1 e2 e3 e4 h0 hp;refine EK (hs a oe _ e5 pins _ _ _ D (I7.markedS h0 ad) (k a oe ha)) (λfl s8 q=>?_) (λ_ _ z=>False.elim z)
  match fl,q with
  |.next,⟨σ',H',J,q⟩=>exact⟨_,_,I.unmarkS h0 ha J,q⟩
  |.brk,⟨σ',H',J,q⟩=>exact⟨_,_,I.unmarkS h0 ha J,q⟩
  |.cont,⟨σ',H',J,q⟩=>exact⟨_,_,I.unmarkS h0 ha J,q⟩
  |.ret u,⟨v,σ',H',J,r,q⟩=>exact⟨v,_,_,I.unmarkS h0 ha J,r,q⟩
 ·refine wpAny_handleBy_cons (codeAny_handlers_test (bh (I.marked (.ref a)) hg hm ?_ hdb)) (by intro q;cases q)
  refine (PySem.W.exm_one I.kIn (fx fl) em).here ?_;exact hr pins s σ H D a cls dx xi k
end
end L2
namespace L2
open PySem PySem.Spec PySem.Calls PyProof.Rows
noncomputable def cr(K:E7)(C:Addr):Bool:=match K.lookup C with
 |some ⟨.type "type",_,.cls k,sl⟩=>(match k.mro with
  |.ref C2::above=>C2 == C&&!k.hasDel&&PySem.W.tailIn K bmV above&&(match sl.toList with
   |[_,_,_,_,some (.builtin mk),_]=>mk == "ValueError.__new__"
   |_=>false)
  |_=>false)
 |_=>false
theorem fE{K:E7}{h:Heap}(X:K.In h)(z:cr K C=true) :
  ∃bm M nm qn bs b1 sn sb b2 co dd x0 x1 x2 x3 x5,h.get? C=some (excClassObj nm qn C M bs bm b1 sn sb b2 co dd x0 x1 x2 x3 x5 "ValueError.__new__")/\OwnTail h bmV bm:=by
 unfold cr at z;split at z
 ·rename_i dd k sl ho;split at z
  ·rename_i C2 above hm;rw[DR,DR,DR,Ec]at z;obtain⟨⟨⟨rfl,z2⟩,z3⟩,z4⟩:=z;split at z4
   ·rename_i x0 x1 x2 x3 mk x5 hs;rw[Ec]at z4;subst z4;cases k with
    |mk nm bs mro ns qn hd sn sub ab col del=>
     cases hm;cases del with
     |true=>cases z2
     |false=>
      have es:sl=#[x0,x1,x2,x3,some (.builtin "ValueError.__new__"),x5]:=by
       cases sl with
       |mk l=>cases hs;rfl
      subst es;exact⟨above,ns,nm,qn,bs,hd,sn,sub,ab,col,dd,x0,x1,x2,x3,x5,X _ _ ho,PySem.W.tail_of_in X z3⟩
   ·cases z4
  ·cases z
 ·cases z
noncomputable abbrev exB:ExcBaseFacts "ValueError" "ValueError.__new__" "ValueError.__init__" bmV:=PySem.F.excBase_ValueError
section
variable {A:Around}{h:Heap}{os:OsState}{K:E7}
theorem sL{us:List Value}(X:K.In h)(z:cr K C=true)(hi:PySem.W.findIn K (.ref C) "__init__"=some (some (.ref fI)))(hf:PySem.W.typeIn K (.ref fI)=some (.type "function"))(hl:us.length<=sizeLine)
  (k:∀h' e,h.objs.size<=e->Heap.MadeExcOf h h' e (.ref C) us->wpAny (model prog w) (A.under (.builtin "type.__call__" ⟨.ref C::us,[]⟩)) (call (.ref fI) (.ref e::us)) (λr s'=>r=.none/\Q (.ref e) s') E ⟨h',g,d,t,os⟩) :
  wpAny (model prog w) A (call (.ref C) us) Q E ⟨h,g,d,t,os⟩:=by
 obtain⟨bm,M,nm,qn,bs,b1,sn,sb,b2,co,dd,x0,x1,x2,x3,x5,hC,T⟩:=fE X z;have F:=exB;have f1:=tc_lookup;have f2:=tc_bind (.ref C);have hT:(⟨h,g,d,t,os⟩:Shared).TypeIs (.ref C) "type":=⟨_,hC,rfl⟩;refine wpAny_call (codeAny_of_tree ?_);show wpAny _ _ (callAny (.ref C) _) _ _ _
 repeat (any_goals (first|assumption|with_reducible refine wpAny_loadPart_at hC ?_|wp_step))
 refine⟨rfl,codeAny_call_builtin_at (Code.quiet_builtin _ (by decide +kernel)) entry_typeCall (wpAny_check_type_call_sub hC ?_)⟩
 repeat (first|with_reducible refine wpAny_loadPart_at hC ?_|with_reducible refine wpAny_madeBy_exc hC ?_|wp_step)
 refine codeAny_call_builtin_code (Code.quiet_builtin _ F.quiet) (wpAny_check_new_subU F F.hasB T hC (codeAny_exc_new_subU F F.hasB F T hC ?_ hl));show wpAny _ _ _ _ _ ⟨(h.push {cls:=.type "tuple",data:=.seq us.toArray}).push {cls:=.ref C,data:=.fields #[.ref h.objs.size,.none,.none,.none,.bool false,.none]},g,d,t,os⟩;generalize hoT:({cls:=.type "tuple",data:=.seq us.toArray}:Obj)=oT;generalize hoE:({cls:=.ref C,data:=.fields #[.ref h.objs.size,.none,.none,.none,.bool false,.none]}:Obj)=oE;have kp:∀b o,h.get? b=some o->((h.push oT).push oE).get? b=some o:=λb o q=>DU _ (DU _ q)
 have gC:=kp _ _ hC;have gE:((h.push oT).push oE).get? (h.objs.size+1)=some oE:=Heap.get?_push_at (by rw[Heap.size_push]) (by rw[<-hoE];rfl)
 have cE:oE.cls=.ref C:=by rw[<-hoE]
 have has:(Value.ref C::bm).contains (.ref C)=true:=by simp
 have X1:K.In ((h.push oT).push oE):=X.keeps kp;unfold isInstance
 repeat (first|(with_reducible refine wpAny_loadPart_at gE ?_;rw[cE])|(with_reducible refine wpAny_isSubtype_exc gC ?_;rw[has])|wp_step)
 show wpAny _ _ (typeLookup (.ref C) _) _ _ _;refine (PySem.W.looks_findIn X1 hi).here ?_;refine Ez (vJ ((PySem.W.bind_fn X1 _ hf).here (vJ (EK (k _ (h.objs.size+1) (ET _) ⟨kp,Heap.get?_none_of_le (ET _),h.objs.size,?_,Heap.get?_none_of_le (DZ _),?_⟩) (λr s' hr=>?_) λ_ _ x=>x))))
 ·rw[gE,<-hoE]
 ·rw[<-hoT];exact DU _ (Heap.get?_push_at rfl rfl)
 ·obtain⟨rfl,hQ⟩:=hr
  wp_walk
  exact hQ
theorem rM{oe:Obj}{us:List Value}(X:K.In h)(z:cr K C=true)(he:h.get? e=some oe)(hc:oe.cls=.ref C)(hd:oe.data=.fields vs)(h0:vs[0]?=some (.ref t0))(hl:us.length<=sizeLine)
  (k:Q .none ⟨(h.push {cls:=.type "tuple",data:=.seq us.toArray}).update e (Obj.mapFields (·.setIfInBounds 0 (.ref h.objs.size))),g,d,t,os⟩):wpAny (model prog w) A (call (.builtin "ValueError.__init__") (.ref e::us)) Q E ⟨h,g,d,t,os⟩:=by
 obtain⟨bm,M,nm,qn,bs,b1,sn,sb,b2,co,dd,x0,x1,x2,x3,x5,hC,T⟩:=fE X z;refine wpAny_call (codeAny_call_builtin exB.init.plain exB.initEntry (wpAny_check_init_subU exB T hC he hc ?_));unfold Builtin.«BaseException.__init__»;dsimp only;rw[DV (by simp)]
 unfold newTuple Builtin.BaseException.bexcPut;have e1:=DU (h:=h) {cls:=.type "tuple",data:=.seq us.toArray} he;refine vJ (Er ?_ (by show us.toArray.size<=sizeLine;rw[Eb];exact hl))
 exact vJ (vJ (EG e1 hd h0 (vJ (EN e1 hd (ED.mp h0).1 (wpAny_letGo (DS k))))))
theorem lA(T:OwnTail h bmV bm):refuseLoop self "__setattr__" bm=pure ():=by
 induction T with
 |base=>exact PySem.F.store_ValueError.passes self
 |own _ _ _ _ ih=>rw[refuseLoop_ref];exact ih
theorem qR{oe:Obj}{s:Shared}(X:K.In s.heap)(z:cr K C=true)(he:s.heap.get? e=some oe)(hc:oe.cls=.ref C)(hd:oe.data=.fields vs)(hdn:oe.dict=none)
  (hfn:PySem.W.findIn K (.ref C) name=some none) (hhd:PySem.W.hasDictIn K C=true) (hm:PySem.W.mroIn K C (.type "object")=some true)
  (k:∀h' t',h'.get? e=some {oe with dict:=some s.heap.objs.size}->h'.Ns1 s.heap.objs.size (λy=>if y=name then some v else none)->(∀b o,b≠e->s.heap.get? b=some o->h'.get? b=some o)->R (.ok (.ret .none)) {s with heap:=h',toks:=t'}) :
  codeAny (model prog w) A (.call (.builtin "object.__setattr__") ⟨[.ref e,.str name tk,v],[]⟩) R s:=by
 obtain⟨bm,M,nm,qn,bs,b1,sn,sb,b2,co,dd,x0,x1,x2,x3,x5,hC,T⟩:=fE X z;have SF:=PySem.F.store_ValueError;have LT:PySem.W.Looks (model prog w) s.heap (typeOf (.ref e)) (.ref C):=hc▸(PySem.W.Looks.ld he).andThen .now;have sub:PySem.W.Looks (model prog w) s.heap (isInstance (.ref e) (.type "object")) true:=LT.andThen (PySem.W.looks_mroIn X hm);obtain⟨cd,hcd,hdt⟩:=PySem.W.any_some hhd;have LM:PySem.W.Looks (model prog w) s.heap (mroOf (.ref C)) cd.mro:=(PySem.W.looks_clsIn X hcd).andThen .now;have em:cd.mro=.ref C::bm:=by
  unfold PySem.W.clsIn at hcd;split at hcd
  ·rename_i c' d' cd' sl' ho;cases hcd;have:=X _ _ ho;rw[hC]at this;cases this;rfl
  ·cases hcd
 refine codeAny_call_builtin SF.slot.plain SF.entry (@PySem.W.check_slot (model prog w) _ _ s "object.__setattr__" "object" "__setattr__" (.ref e) [.str name tk,v] [] _ SF.kind SF.split sub (SF.args (.ref e) (.str name tk) v) ?_);rw[PySem.W.osa_eq,refuse_eq];refine vJ (vJ (LT.here (vJ (LM.here ?_))));rw[em,refuseLoop_ref,lA T];refine DS (vJ (LT.here (vJ ((PySem.W.looks_findIn X hfn).here (vJ (DS ?_))))));dsimp only;obtain⟨oc,od,oda,osl⟩:=oe;dsimp only at hc hd hdn;subst hc hd hdn;refine vJ (DS (vJ (vJ (wpAny_loadPart he (vJ ((PySem.W.looks_clsIn X hcd).here ?_))))));rw[hdt];refine vJ (wpAny_alloc' ?_);have ne:e≠s.heap.objs.size:=Ek (D1 he);have e1:(s.heap.push {cls:=.type "dict",data:=.dict #[]}).get? e=some ⟨.ref C,none,.fields vs,osl⟩:=DU _ he;refine vJ (wpAny_update' e1 (DS ?_));generalize hH:(s.heap.push {cls:=.type "dict",data:=.dict #[]}).update e (λo=>{cls:=o.cls,dict:=some s.heap.objs.size,data:=o.data,slots:=o.slots})=H1
 have gd:H1.get? s.heap.objs.size=some {cls:=.type "dict",data:=.dict #[]}:=by
  rw[<-hH];exact (Heap.get?_update_ne _ _ _ _ ne.symm).trans (Heap.get?_push_at rfl rfl)
 have ge:H1.get? e=some ⟨.ref C,some s.heap.objs.size,.fields vs,osl⟩:=by
  rw[<-hH];exact Ep _ e1 rfl
 have gk:∀b o,b≠e->s.heap.get? b=some o->H1.get? b=some o:=λb o n q=>by
  rw[<-hH];exact (Heap.get?_update_ne _ _ _ _ n).trans (DU _ q)
 have nd:H1.Ns s.heap.objs.size (λ_=>none):=⟨_,#[],_,gd,rfl,λx hx=>absurd hx (by simp),λ_=>rfl⟩
 show wpAny _ _ (Builtin.ObjectAttr.storeInDict s.heap.objs.size (.str name tk) name v) _ _ _;unfold Builtin.ObjectAttr.storeInDict Builtin.ObjectAttr.newKeyGuard;refine vJ (DS (vJ (wpAny_nsSet1 (Heap.Ns1.of_empty nd) λh' n' hs=>?_)))
 obtain⟨oD,esD,epD,hoD,hdD,hcD⟩:=n'.count (PySem.Within.cons name v PySem.Within.nil);refine vJ (wpAny_lookBehind hoD (by rw[hdD];exact pastItsLine_dict (Ej hcD (by rw[Em,List.length_nil,sizeLine_eq];omega))) ?_)
 exact DS (k h' _ ((hs.2 e ne).trans ge) n' λb o n q=>(hs.2 b (Ek (D1 q))).trans (gk b o n q))
theorem ul{oe:Obj}{s:Shared}(X:K.In s.heap)(z:cr K C=true)(he:s.heap.get? e=some oe)(hc:oe.cls=.ref C)(hd:oe.data=.fields vs)(hdn:oe.dict=none)
  (hsa:PySem.W.findIn K (.ref C) "__setattr__"=some (some (.builtin "object.__setattr__"))) (hfn:PySem.W.findIn K (.ref C) name=some none) (hhd:PySem.W.hasDictIn K C=true) (hm:PySem.W.mroIn K C (.type "object")=some true)
  (k:∀h' t',h'.get? e=some {oe with dict:=some s.heap.objs.size}->h'.Ns1 s.heap.objs.size (λy=>if y=name then some v else none)->(∀b o,b≠e->s.heap.get? b=some o->h'.get? b=some o)->Q () {s with heap:=h',toks:=t'}) :
  wpAny (model prog w) A (setAttr (.ref e) name v) Q E s:=by
 have LT:PySem.W.Looks (model prog w) s.heap (typeOf (.ref e)) (.ref C):=hc▸(PySem.W.Looks.ld he).andThen .now;have f3:=PySem.F.store_ValueError.slot.bind (.ref e);unfold setAttr callSpecial? specialOf;refine vJ (wpAny_mkText (vJ (vJ (vJ (LT.at ((PySem.W.looks_findIn X hsa).at (Ez (vJ ?_))))))));rw[f3];refine DS (vJ (wpAny_call (qR (s:={s with toks:=s.toks+1}) X z he hc hd hdn hfn hhd hm λh' t' q1 q2 q3=>?_)))
 exact DS (DS (k h' t' q1 q2 q3))
end
section
variable {pos:Pos}
theorem fF{args:List Expr}(h1:(backTo pos (starEach args env)).any (·.1)=false)(h2:args.length<30):methodCallForm (args.length+([]:List Keyword).length) (backTo pos (starEach args env)) (backToKw pos (keywordEach [] env))=true:=by
 unfold methodCallForm;have a:(backTo pos (starEach args env)).all (!·.1)=true:=by
  rw[Es];intro x hx;have:=List.any_eq_false.mp h1 x hx;simpa using this
 rw[a];have:(backToKw pos (keywordEach [] env)).all (·.1.isSome)=true:=rfl;rw[this];have h3:(backToKw pos (keywordEach ([]:List Keyword) env)).isEmpty=true:=rfl;simp only[h3,if_true,List.length_nil,Bool.true_and,Nat.add_zero,D6];exact h2
theorem dQ{apos:Pos}{args:List Expr}(hb:attributeBase o m env (eval o env)=eval o env)
  (hf:methodCallForm (args.length+([]:List Keyword).length) (backTo pos (starEach args env)) (backToKw pos (keywordEach [] env))=true) (hl:(apos.endLine == pos.line)=true) :
  eval (.Call (.Attribute o m apos) args [] pos) env=(do
   let ov<-eval o env
   standAt apos.atName
   let (f,first)<-holding [ov] (getMethod ov m (do return (<-importBound o env).getD true))
   callWith pos f first (backTo pos (starEach args env)) (backToKw pos (keywordEach [] env))):=by
 rw[arm_eval_Call,hb];unfold methodCall calleeOf methodCallPos;simp only[hf,hl];rfl
end
noncomputable def fH(e C:Addr):HO:=.ext λh=>∃t0,h.get? e=some {cls:=.ref C,data:=.fields #[.ref t0,.none,.none,.none,.bool false,.none]}
noncomputable def fK(e C dx:Addr):HO:=.ext λh=>∃t0,h.get? e=some {cls:=.ref C,dict:=some dx,data:=.fields #[.ref t0,.none,.none,.none,.bool false,.none]}
theorem oR{h:Heap}(q:h.get? e=some {cls:=.ref C,data:=.fields #[.ref t0,.none,.none,.none,.bool false,.none]}):ObjOk P w H h e (fH e C):=
 ⟨⟨t0,q⟩,⟨_,q⟩,λ_ _ ⟨t1,z⟩ k=>⟨t1,k _ z⟩⟩
theorem uY{h:Heap}(q:h.get? e=some {cls:=.ref C,dict:=some dx,data:=.fields #[.ref t0,.none,.none,.none,.bool false,.none]}):ObjOk P w H h e (fK e C dx):=
 ⟨⟨t0,q⟩,⟨_,q⟩,λ_ _ ⟨t1,z⟩ k=>⟨t1,k _ z⟩⟩
structure XIni (K:E7)(C fI:Addr)(f:Str):Prop where
 cl:cr K C=true
 ini:PySem.W.findIn K (.ref C) "__init__"=some (some (.ref fI))
 fn:PySem.W.typeIn K (.ref fI)=some (.type "function")
 sa:PySem.W.findIn K (.ref C) "__setattr__"=some (some (.builtin "object.__setattr__"))
 at_:PySem.W.findIn K (.ref C) f=some none
 hd:PySem.W.hasDictIn K C=true
 ob:PySem.W.mroIn K C (.type "object")=some true
 kp:PySem.W.keepIn K (.ref C)=true
structure BIni (K:E7)(D:Addr):Prop where
 ga:PySem.W.specialIn K (.ref D) "__getattribute__"=some (some (.builtin "type.__getattribute__"))
 rd:PySem.W.readsIn K D (.type "type")=true
 at_:PySem.W.findCls K (.ref D) (.type "type") "__init__"=some (.val (.builtin "ValueError.__init__"))
noncomputable def tXI(K:E7)(t:TA):TE:=λσ H Q=>t σ H λvs H1=>∃a r C,vs=.ref a::r/\cr K C=true/\H1 a=some (fH a C)/\r.length<=sizeLine/\Q .non H1
noncomputable def sXF(C:Addr)(f:Str)(ta tv:TE):TS:=λD σ H=>tv σ H λy H1=>ta σ H1 λx H2=>∃a,x=.ref a/\H2 a=some (fH a C)/\∀dx o,H2 dx=none->dx≠a->D.nx σ (upd (upd H2 a (fK a C dx)) dx (.frz o (.xd [(f,y)])))
section
variable {X:Cx}{D:Addr}{apos pos:Pos}
theorem tJ(hg:Gl X x)(hm:X.mg x=some (.ref D))(hdb:(x == ("__debug__" : Str))=false)(b:BIni X.K D)(ha:PA X (e::es) t)(hl:(apos.endLine == pos.line)=true)(hn:(e::es).length<30)
  (he:starEach (e::es) X.env=(false,eval e X.env)::starEach es X.env) (hpl:(backTo pos (starEach es X.env)).any (·.1)=false) :
  PE X (.Call (.Attribute (.Name x px) "__init__" apos) (e::es) [] pos) (tXI X.K t):=by
 intro pins s σ H Q I h;have hst:(backTo pos (starEach (e::es) X.env)).any (·.1)=false:=by
  rw[he];show ((false,_)::backTo pos (starEach es X.env)).any (·.1)=false;rw[List.any_cons,hpl];rfl
 have hT:PE X (.Name x px) (tC (.ref D)):=tU hg hm rfl hdb;refine PySem.W.methodCall_KW (thn (hT pins s σ H (λv H1=>v=.ref D/\H1=H) I ⟨rfl,rfl⟩) λu s1 ⟨v,H1,I1,r1,e1,e2⟩=>?_) (dQ (by rfl) (fF hst hn) hl)
 subst e1 e2;obtain rfl:u=Value.ref D:=r1;refine PySem.W.method_cls I1.kIn b.ga (PySem.W.cls_value I1.kIn b.rd b.at_ (by decide +kernel) ?_)
 have I2:=I1.tok (s1.toks+1);rw[he];refine PySem.W.callWith_of (P:=λh=>X.K.In h) (by show ((false||(backTo pos (starEach es X.env)).any (·.1))||false)=false;rw[hpl];rfl) (λ_ _=>⟨.machine,.inr (.inl rfl),.now⟩) (PySem.Calls.evalArgs_plain ?_)
 have h2:=ha pos pins _ σ H1 _ I2 h;rw[he]at h2;refine thn h2 λus s2 ⟨vs,H2,I3,r,a,rs,C,ev,z,ea,hz,q⟩=>⟨I3.kIn,?_⟩
 subst ev;cases r with
 |@cons v u vs us rv r=>
  obtain rfl:u=Value.ref a:=rv;have oa:=I3.hok a _ ea;obtain⟨⟨t0,go⟩,_,_⟩:=oa;obtain⟨h2,g2,d2,t2,os2⟩:=s2;refine rM (oe:=_) (t0:=t0) I3.kIn z go rfl rfl rfl (by rw[<-r.length];exact hz) ?_
  refine⟨.non,H2,?_,rfl,q⟩;have ge:((h2.push {cls:=.type "tuple",data:=.seq us.toArray}).update a (Obj.mapFields (·.setIfInBounds 0 (.ref h2.objs.size)))).get? a=some {cls:=.ref C,data:=.fields #[.ref h2.objs.size,.none,.none,.none,.bool false,.none]}:=
   Ep _ (DU _ go) rfl
  have w:=I3.write (x:=a) (e:=a) (o:=fH a C) (h':=(h2.push {cls:=.type "tuple",data:=.seq us.toArray}).update a (Obj.mapFields (·.setIfInBounds 0 (.ref h2.objs.size)))) (t':=t2) (by rw[ea];exact True.intro) (.inl rfl)
   (λb ob n q=>(Ei _ _ (Ea n)).trans (DU _ q)) ⟨_,ge⟩ (oR ge)
  have eq:upd H2 a (fH a C)=H2:=by
   funext b;by_cases hb:b=a
   ·rw[hb,ad,ea]
   ·rw[aa hb]
  rw[eq]at w;exact w
theorem uZ(q:XIni X.K C fI f)(ha:PE X o ta)(hv:PE X value tv)(hs:swapsWith value (some (.Attribute o f pos')) pos.line X.env=pure false):PS X (.Assign [.Attribute o f pos'] value pos) (sXF C f ta tv):=by
 intro pins s σ H D I h;refine plainObj_wpAny_Assign_Attribute (thn (hv pins s σ H _ I h) λu s1 ⟨y,H1,I1,ry,h1⟩=>thn (ha pins s1 σ H1 _ I1 h1) λov s2 ⟨x,H2,I2,rx,a,ex,ea,h2⟩=>?_) hs
 subst ex;obtain rfl:ov=Value.ref a:=rx;obtain⟨⟨t0,go⟩,_,_⟩:=I2.hok a _ ea;refine bF I2.tk <| ul (vs:=#[.ref t0,.none,.none,.none,.bool false,.none]) I2.kIn q.cl go rfl rfl rfl q.sa q.at_ q.hd q.ob λh' t' g1 g2 g3 _=>?_
 obtain⟨od,es,ep,gd,gr⟩:=id g2;have hn:H2 s2.heap.objs.size=none:=I2.hok.fresh (DZ _);have ne:s2.heap.objs.size≠a:=Nat.ne_of_gt (D1 go);have hk1:HOk X.prog X.w (upd H2 a (fK a C s2.heap.objs.size)) h':=I2.hok.write (x:=a) (e:=a) (by rw[ea];exact True.intro) (.inl rfl) (λb u n q=>g3 b u n q) ⟨_,g1⟩ (uY g1)
 have un:∀b u,H2 b=some u->(∀φ,u≠.ext φ)->upd (upd H2 a (fK a C s2.heap.objs.size)) s2.heap.objs.size (.frz od (.xd [(f,y)])) b=some u:=λb u q nx=>by
  rw[aa (au q hn),aa (λz=>by rw[z,ea]at q;cases q;exact nx _ rfl)]
  exact q
 refine⟨σ,_,I2.un (t':=t') ⟨λb ob z n _ _=>g3 b ob (λw=>by rw[w,ea]at n;cases n) z,λb ob z n _ _=>⟨ob.slots,g3 b ob (λw=>by rw[w,ea]at n;cases n) z⟩,λb ob z n _=>?_,λb ob z _=>?_,λb xs z=>un b _ z (λ_ w=>nomatch w),λb ob u z=>un b _ z (λ_ w=>nomatch w),λb ps z=>⟨#[],by rw[Array.append_empty];exact un b _ z (λ_ w=>nomatch w)⟩⟩ (λb u z=>?_),h2 _ od hn ne⟩
 ·rw[aa (Ek (D1 z)),aa (λw=>by rw[w,ea]at n;cases n)]
  exact n
 ·by_cases w:b=a
  ·subst w;exact⟨_,g1⟩
  ·exact⟨_,g3 b ob w z⟩
 ·by_cases w:b=s2.heap.objs.size
  ·subst w;rw[ad]at z;cases z;refine⟨gd,_,g2,λn=>?_⟩
   show RelO (List.lookup n [(f,y)]) (if n=f then some u else none)
   by_cases wn:n=f
   ·rw[DY wn,wn,EJ,beq_self_eq_true];exact ry
   ·rw[DV wn,EJ,Ey.mpr wn];exact True.intro
  ·rw[aa w]at z;refine (hk1 b u z).stay (λ_ _ _ q=>q) (λc q=>?_) λc xs q=>?_
   ·rw[aa λe=>?_]
    ·exact q
    ·rw[e,aa ne,hn]at q;cases q
   ·rw[aa λe=>?_]
    ·exact q
    ·rw[e,aa ne,hn]at q;cases q
noncomputable def forget(H:Hp)(a:Addr):Hp:=λb=>if b=a then none else H b
theorem b9:forget H a a=none:=DY rfl
theorem cA(h:b≠a):forget H a b=H b:=DV h
theorem Inv.forget(I:Inv X pins σ H s)(ea:H a=some (.ext φ)):Inv X pins σ (forget H a) s:=by
 have un:∀b u,H b=some u->(∀φ,u≠.ext φ)->L2.forget H a b=some u:=λb u q nx=>by
  rw[cA (λz=>by rw[z,ea]at q;cases q;exact nx _ rfl)]
  exact q
 have nn:∀b,H b=none->L2.forget H a b=none:=λb n=>by
  by_cases w:b=a
  ·rw[w];exact b9
  ·rw[cA w];exact n
 refine⟨I.ok,I.os,I.bare,⟨I.base.keep,I.base.slot,λb ob q n x=>nn b (I.base.free b ob q n x),I.base.there,λb xs q=>un b _ (I.base.tups b xs q) (λ_ w=>nomatch w),λb ob u q=>un b _ (I.base.frzs b ob u q) (λ_ w=>nomatch w),λb ps q=>?_⟩,I.loc,I.cell,nn _ I.free,λx c e=>nn _ (I.freeC x c e),λp hp=>?_,λb u q=>?_,I.len⟩
 ·obtain⟨m,z⟩:=I.base.tbls b ps q;exact⟨m,un b _ z (λ_ w=>nomatch w)⟩
 ·obtain⟨e,n,r⟩:=I.pin p hp;exact⟨e,nn _ n,r⟩
 ·have w:b≠a:=λw=>by rw[w,b9]at q;cases q
  rw[cA w]at q;exact (I.hok b u q).stay (λ_ _ _ z=>z) (λc z=>un c _ z (λ_ w=>nomatch w)) λc xs z=>un c _ z (λ_ w=>nomatch w)
theorem pB{K:E7}{A:Around}(hh:A.handled=none)(z:cr K C=true)
  (h:wpAny (model prog w) A (eval ce env) (λv s1=>∃a t0 dx,v=.ref a/\K.In s1.heap/\s1.heap.get? a=some {cls:=.ref C,dict:=some dx,data:=.fields #[.ref t0,.none,.none,.none,.bool false,.none]}/\E (.ref a) s1) E s) :
  wpAny (model prog w) A (exec (.Raise (some ce) none pos) env) Q E s:=by
 rw[arm_exec_Raise];refine vJ (wpAny_standAt ?_);simp only[evalOpt,Option.map];unfold raiseStmt;refine vJ (vJ (EK h (λv s1 ⟨a,t0,dx,ev,X,go,he⟩=>vJ (wpAny_standAt (DS ?_))) λ_ _ x=>x))
 subst ev;obtain⟨bm,M,nm,qn,bs,b1,sn,sb,b2,co,dd,x0,x1,x2,x3,x5,hC,T⟩:=fE X z;have has:(Value.ref C::bm).contains (.type "BaseException")=true:=by rw[List.contains_cons,T.hasType exB.hasBase,Bool.or_true]
 obtain⟨hp,g,d,tk,os⟩:=s1
 repeat (first|with_reducible refine wpAny_loadPart_at go ?_|with_reducible refine wpAny_loadPart_at hC ?_|(with_reducible refine wpAny_isSubtype_exc hC ?_;rw[has])|wp_step)
 exact wpAny_raiseNew_none hh he
noncomputable def gw(cp:Bool)(K:E7)(C:Addr)(f:Str):Sp:=λvs H Q _=>∃a v,vs=[.ref a,v]/\H a=some (fH a C)/\(cp=false->∀dx ob,H dx=none->dx≠a->Q .non (upd (upd H a (fK a C dx)) dx (.frz ob (.xd [(f,v)]))))/\
 (cp=true->∃p ws,v=.ref p/\SqL K H p ws/\∀q dx ob,H q=none->H dx=none->dx≠a->dx≠q->Q .non (upd (upd (upd H q (.lst ws)) a (fK a C dx)) dx (.frz ob (.xd [(f,.ref q)]))))
end
theorem tE{P:Program}{w:World}{K:E7}{mg:Str->Option Value}{base:Heap}{fI C D:Addr}{name qual:Str}{params:Arguments}{scope:Scope}{kV doc pm cdv ct oc:Value}{an od:Option Addr}{osl:Array (Option Value)}{b sl pr f tx:Str}{j:Nat}{px apos p1 p2 cp p3 p4 p5 p6 p7 p8 p9:Pos}
  (lk:K.lookup fI=some ⟨oc,od,.func (PySem.W.fnOf name qual params [.Expr (.Call (.Attribute (.Name b px) "__init__" apos) [.Name sl p1,.Constant (.str tx) j p2] [] cp) p3,.Assign [.Attribute (.Name sl p4) f p5] (.Call (.Name "list" p8) [.Name pr p6] [] p9) p7] scope .none kV doc pm an cdv ct),osl⟩)
  (hcd:PySem.W.codeIn K cdv qual=true) (S:FnScope [sl,pr] [sl,pr] scope) (hg:scope.names.lookup b=some .globalImplicit) (hgl:scope.names.lookup ("list" : Str)=some .globalImplicit) (hml:mg "list"=none) (hm:mg b=some (.ref D)) (hl:(apos.endLine == cp.line)=true) (hb:BIni K D) (q:XIni K C fI f)
  (db1:(b == ("__debug__" : Str))=false) (db2:(sl == ("__debug__" : Str))=false) (db3:(pr == ("__debug__" : Str))=false) (cd2:(sl == ("__classdict__" : Str))=false) (cd3:(pr == ("__classdict__" : Str))=false) :
  FnOk P w K mg base (CX1 P w) 1 fI (PySem.W.fnOf name qual params [.Expr (.Call (.Attribute (.Name b px) "__init__" apos) [.Name sl p1,.Constant (.str tx) j p2] [] cp) p3,.Assign [.Attribute (.Name sl p4) f p5] (.Call (.Name "list" p8) [.Name pr p6] [] p9) p7] scope .none kV doc pm an cdv ct) [sl,pr] (gw true K C f):=by
 refine vB (k:=0) lk hcd S (λvs H Q E ⟨_,_,e,_⟩=>by subst e;rfl) λA outer s H vs Q E hr hsp=>?_
 obtain⟨a,v,ev,ea,_,h⟩:=hsp;obtain⟨p0,ws,ep,sq,h⟩:=h rfl;subst ev;have vs:∀x∈[sl,pr],Vis scope x:=λx hx=>(S.par x hx).elim .inl λz=>.inr (.inl z)
 have h0:PE (bj (CX1 P w) P w K mg base [sl,pr] qual scope fI cdv A outer s H E) (.Name sl p1) (tN 0):=kP rfl (vs _ (by simp)) db2 cd2
 have h4:PE (bj (CX1 P w) P w K mg base [sl,pr] qual scope fI cdv A outer s H E) (.Name sl p4) (tN 0):=kP rfl (vs _ (by simp)) db2 cd2
 have h1:PE (bj (CX1 P w) P w K mg base [sl,pr] qual scope fI cdv A outer s H E) (.Name pr p6) (tN 1):=kP rfl (vs _ (by simp)) db3 cd3
 refine⟨_,lm (lb (tJ (D:=D) hg hm db1 hb (aL h0 (aL rb pa_nil)) hl (by simp) rfl rfl)) (tV (uZ q h4 (ju (T:="list") fu hgl hml (by decide +kernel) (aL h1 pa_nil)) rfl)),?_⟩
 refine⟨.ref a,rfl,?_⟩;refine⟨a,[.str tx],C,rfl,q.cl,ea,by rw[sizeLine_eq];simp,?_⟩
 refine⟨v,rfl,p0,ws,by rw[ep],.inl sq,λq hq=>⟨.ref a,rfl,a,rfl,?_,λdx ob n ne=>?_⟩⟩
 ·rw[aa (au ea hq)];exact ea
 ·have nq:dx≠q:=λz=>by rw[z,ad]at n;cases n
  rw[aa nq]at n;exact h q dx ob hq n ne nq
end L2
namespace L2
open PySem PySem.Spec PyProof.Rows
noncomputable def aF(names:List (Str×NameKind))(cs:List (Str×Addr))(acc:List (Str×Addr)):List (Str×Addr):=match names with
 |[]=>acc
 |(n,k)::r=>if k=.free then (match cs.lookup n with|some c=>aF r cs ((n,c)::acc)|none=>aF r cs acc) else aF r cs acc
theorem bx{cs:List (Str×Addr)}:∀{names:List (Str×NameKind)}{acc:List (Str×Addr)},(∀p∈acc,cs.lookup p.1=some p.2)->∀p∈aF names cs acc,cs.lookup p.1=some p.2
 |[],_,h,p,hp=>h p hp
 |(n,k)::r,acc,h,p,hp=>by
  unfold aF at hp;split at hp
  ·split at hp
   next c e=>
    refine bx (λq hq=>?_) p hp
    rcases DX.mp hq with z|z
    ·subst z;exact e
    ·exact h q z
   next=>exact bx h p hp
  ·exact bx h p hp
theorem cP:∀{names:List (Str×NameKind)}{acc:List (Str×Addr)}{p:Str×Addr},p∈acc->p∈aF names cs acc
 |[],_,_,h=>h
 |(n,k)::r,acc,p,h=>by
  unfold aF;split
  ·split
   ·exact cP (DT _ h)
   ·exact cP h
  ·exact cP h
theorem cN{cs:List (Str×Addr)}(e:cs.lookup x=some c):∀{names:List (Str×NameKind)}{acc:List (Str×Addr)},(x,NameKind.free)∈names->(x,c)∈aF names cs acc
 |(n,k)::r,acc,h=>by
  rcases DX.mp h with z|z
  ·cases z;unfold aF;rw[DY rfl,e];exact cP DW
  ·unfold aF;split
   ·split
    ·exact cN e z
    ·exact cN e z
   ·exact cN e z
theorem dq{l:List (Str×Addr)}(h:(x,c)∈l)(u:∀p∈l,p.1=x->p.2=c):l.lookup x=some c:=by
 induction l with
 |nil=>cases h
 |cons p r ih=>
  obtain⟨n,d⟩:=p;by_cases e:x=n
  ·subst e;rw[EJ,beq_self_eq_true];exact congrArg some (u (x,d) DW rfl)
  ·rw[EJ];rw[Ey.mpr e];rcases DX.mp h with z|z
   ·cases z;exact absurd rfl e
   ·exact ih z λq hq=>u q (DT _ hq)
theorem bc{l:List (Str×Addr)}(h:l.lookup x=some c):(x,c)∈l:=PySem.mem_of_lookup h
theorem lu{cs:List (Str×Addr)}(hm:(x,NameKind.free)∈names)(e:cs.lookup x=some c):(aF names cs []).lookup x=some c:=by
 refine dq (cN e hm) λp hp hx=>?_
 have z:=bx (acc:=[]) (λp hp=>nomatch hp) p hp
 rw[hx,e]at z;exact (D9 z).symm
theorem pq{env:Env}(e:env.cells.lookup n=some c):cellOf env n=pure c:=by
 unfold cellOf;rw[e]
theorem ji{scope:Scope}{env:Env}(h:∀y∈scope.names,y.2=.free->∃c,env.cells.lookup y.1=some c):closureFor scope env=pure (aF scope.names env.cells []):=by
 have go:∀(names:List (Str×NameKind)) (acc:List (Str×Addr)),(∀y∈names,y.2=.free->∃c,env.cells.lookup y.1=some c)->
   (forIn names acc λx r=>match x with
    |(n,k)=>if (k == NameKind.free)=true then do let c<-cellOf env n;pure (ForInStep.yield ((n,c)::r)) else pure (ForInStep.yield r):Sem (List (Str×Addr)))=pure (aF names env.cells acc):=by
  intro names
  induction names with
  |nil=>intro acc _;rfl
  |cons y r ih=>
   intro acc hy;obtain⟨n,k⟩:=y;rw[List.forIn_cons];by_cases hk:k=NameKind.free
   ·subst hk;obtain⟨c,e⟩:=hy (n,.free) DW rfl;simp only[beq_self_eq_true,if_true];rw[pq e];show (forIn r ((n,c)::acc) _:Sem _)=_;rw[ih _ λz hz=>hy z (DT _ hz)]
    conv=>rhs;unfold aF
    simp only[if_true,e]
   ·have hb:(k == NameKind.free)=false:=by simpa using hk
    simp only[hb,EA,if_false];show (forIn r acc _:Sem _)=_;rw[ih _ λz hz=>hy z (DT _ hz)]
    conv=>rhs;unfold aF
    simp only[hk,if_false]
 have e:=go scope.names [] h;show ((forIn scope.names [] λx r=>match x with
    |(n,k)=>if (k == NameKind.free)=true then do let c<-cellOf env n;pure (ForInStep.yield ((n,c)::r)) else pure (ForInStep.yield r):Sem (List (Str×Addr))) >>=λz=>pure z)=_
 rw[e];rfl
theorem aD:∀(names:List (Str×NameKind)) (n:Nat) (acc:List (Str×Addr)),cellsFrom n names acc=cellsFrom n names []++acc
 |[],_,_=>rfl
 |(x,k)::r,n,acc=>by
  unfold cellsFrom;split
  ·rw[aD r (n+1) ((x,n)::acc),aD r (n+1) [(x,n)],List.append_assoc];rfl
  ·exact aD r n acc
theorem az:∀{names:List (Str×NameKind)}{n:Nat}{p:Str×Addr},p∈cellsFrom n names []->(p.1,NameKind.cell)∈names/\n<=p.2
 |[],_,_,h=>nomatch h
 |(x,k)::r,n,p,h=>by
  unfold cellsFrom at h;split at h
  ·rename_i hk;rw[aD]at h;rcases Eo.mp h with z|z
   ·obtain⟨a,b⟩:=az z;exact⟨DT _ a,by omega⟩
   ·obtain rfl:=Eh.mp z;exact⟨by rw[show k=NameKind.cell from by simpa using hk];exact DW,DZ _⟩
  ·obtain⟨a,b⟩:=az h;exact⟨DT _ a,b⟩
theorem bP:∀{names:List (Str×NameKind)}{n:Nat}{x:Str},(x,NameKind.cell)∈names->∃c,(x,c)∈cellsFrom n names []
 |(y,k)::r,n,x,h=>by
  rcases DX.mp h with z|z
  ·cases z;unfold cellsFrom;rw[DY (by rfl),aD]
   exact⟨n,El _ DW⟩
  ·unfold cellsFrom;split
   ·obtain⟨c,e⟩:=bP z (n:=n+1);rw[aD];exact⟨c,Ev _ e⟩
   ·exact bP z
theorem cF:∀{l:List (Str×Addr)}{x:Str}{c:Addr},(x,c)∈l->∃c',l.lookup x=some c'
 |(y,d)::r,x,c,h=>by
  rw[EJ];cases e:x == y with
  |true=>exact⟨d,rfl⟩
  |false=>
   rcases DX.mp h with z|z
   ·cases z;simp at e
   ·exact cF z
theorem fR
  (hQ:Q {scope:=scope,locals:=s.heap.objs.size,globals:=globals,cells:=cellsFrom (s.heap.objs.size+1) scope.names []++cl,qual:=qual,func:=none,code:=outer.code,frame:=outer.frame,builtins:=outer.builtins} {s with heap:=pushCells (s.heap.push {cls:=.type "dict",data:=.dict #[]}) scope.names}) :
  wpAny M A (newFunctionEnv scope globals cl [] qual none .none (some outer)) Q E s:=by
 simp only[newFunctionEnv,Option.isSome_some,if_true];refine vJ (wpAny_alloc ?_);refine vJ (wpAny_layCells _ (λname kind cells=>by cases hkc:kind == NameKind.cell<;>simp[hkc]) _ _ _ _ ?_)
 rw[show ({s with heap:=s.heap.push {cls:=.type "dict",data:=.dict #[]}}:Shared).heap.objs.size=s.heap.objs.size+1 from Heap.size_push ..,aD]
 refine vJ ?_;rw[List.forIn_nil];exact DS (DS hQ)
noncomputable def cq(N:List Str)(js:List (Option Nat))(sc osc:Scope)(oN:List Str):Bool:=
 N.length == js.length&&decide N.Nodup&&
 (N.zip js).all (λp=>match p.2 with
  |none=>sc.names.lookup p.1 == some .local||sc.names.lookup p.1 == some .cell
  |some j=>oN[j]? == some p.1&&sc.names.contains (p.1,NameKind.free)&&osc.names.lookup p.1 == some .cell)&&
 decide (sc.names.map (·.1)).Nodup&&sc.names.all (λy=>(y.2 != .free||osc.names.lookup y.1 == some .cell)&&(y.2 != .local||sc.names.lookup y.1 == some .local))&&(sc.kind == .function)&&(osc.kind == .function)
noncomputable def iE(js:List (Option Nat))(σ:St):St:=js.map λo=>o.bind λj=>(σ[j]?).bind id
noncomputable abbrev compCx(X:Cx)(scope:Scope)(C:Addr)(N:List Str)(s2:Shared)(H2:Hp)(fp:List Addr)(pins:List (Addr×Obj)):Cx:=
 {X with env:=compEnvC scope (cellsFrom (C+1) scope.names []++aF scope.names X.env.cells []) C X.env,N:=N,s₀:=s2,H₀:=H2,outer:=X.stack,stack:=X.stack,ex:=fp,fn:=λx=>scope.names.lookup x == some .cell,pn:=X.pn++pins,xe:=λ_ _=>False}
theorem eX{env:Env}(hk:env.scope.kind=.function)(hc:env.kindOf x=some .cell):∀{names:List (Str×NameKind)},(x,NameKind.free)∈names->(∀y∈names,y.1=x->y.2=.free)->
  (names.map λ(n,k)=>if (k == .free&&env.scope.kind == .function&&env.kindOf n == some .cell) then (n,.cell) else (n,k)).lookup x=some NameKind.cell
 |(n,k)::r,hm,hu=>by
  show List.lookup x ((if (k == NameKind.free&&env.scope.kind == .function&&env.kindOf n == some .cell)=true then (n,NameKind.cell) else (n,k))::_)=_
  by_cases e:x=n
  ·subst e;have ek:k=.free:=hu (x,k) DW rfl;subst ek;simp only[hk,hc,beq_self_eq_true,Bool.and_self,if_true];rw[EJ,beq_self_eq_true]
  ·have hm':(x,NameKind.free)∈r:=by
    rcases DX.mp hm with z|z
    ·cases z;exact absurd rfl e
    ·exact z
   have ih:=eX hk hc hm' λy hy=>hu y (DT _ hy)
   split
   ·rw[EJ,Ey.mpr e];exact ih
   ·rw[EJ,Ey.mpr e];exact ih
structure CompOk (N:List Str) (js:List (Option Nat)) (sc osc:Scope)(oN:List Str):Prop where
 len:N.length=js.length
 nd:N.Nodup
 own:∀(i:Nat)(x:Str),N[i]?=some x->js[i]?=some none->sc.names.lookup x=some .local\/sc.names.lookup x=some .cell
 fr:∀(i:Nat)(x:Str)(j:Nat),N[i]?=some x->js[i]?=some (some j)->oN[j]?=some x/\(x,NameKind.free)∈sc.names/\osc.names.lookup x=some .cell
 ndn:(sc.names.map (·.1)).Nodup
 nf:∀y∈sc.names,y.2=.free->osc.names.lookup y.1=some .cell
 nl:∀y∈sc.names,y.2=.local->sc.names.lookup y.1=some .local
 k1:sc.kind=.function
 k2:osc.kind=.function
theorem jN(h:cq N js sc osc oN=true):CompOk N js sc osc oN:=by
 unfold cq at h;simp only[DR,Ec,D6,Es,Bool.or_eq_true,bne_iff_ne]at h;obtain⟨⟨⟨⟨⟨⟨h1,h2⟩,h3⟩,h4⟩,h5⟩,h6⟩,h7⟩:=h;have zip:∀(i:Nat)(x:Str)(o:Option Nat),N[i]?=some x->js[i]?=some o->(x,o)∈N.zip js:=λi x o e1 e2=>
  EV (i:=i) (by rw[List.getElem?_zip_eq_some];exact⟨e1,e2⟩)
 refine⟨h1,h2,λi x e1 e2=>?_,λi x j e1 e2=>?_,h4,λy hy e=>?_,λy hy e=>?_,h6,h7⟩
 ·have z:=h3 _ (zip i x _ e1 e2);simpa using z
 ·have z:=h3 _ (zip i x _ e1 e2);simp only[DR,Ec]at z;exact⟨z.1.1,List.contains_iff_mem.mp z.1.2,z.2⟩
 ·rcases (h5 y hy).1 with z|z
  ·exact absurd e z
  ·exact z
 ·rcases (h5 y hy).2 with z|z
  ·exact absurd e z
  ·exact z
theorem dD{env:Env}:∀{names:List (Str×NameKind)},
  (names.map λ(n,k)=>if (k == .free&&env.scope.kind == .function&&env.kindOf n == some .cell) then (n,.cell) else (n,k)).lookup x=some k->∃k',(x,k')∈names/\(k'=k\/k'=.free)
 |[],h=>by cases h
 |(n,k0)::r,h=>by
  have h:List.lookup x ((if (k0 == NameKind.free&&env.scope.kind == .function&&env.kindOf n == some .cell)=true then (n,NameKind.cell) else (n,k0))::_)=_:=h
  by_cases e:x=n
  ·subst e;split at h
   next hc=>
    refine⟨k0,DW,.inr ?_⟩;have:=(EW.mp (EW.mp hc).1).1;simpa using this
   next=>
    rw[EJ,beq_self_eq_true]at h;exact⟨k0,DW,.inl (D9 h)⟩
  ·have h':List.lookup x (r.map λ(n,k)=>if (k == .free&&env.scope.kind == .function&&env.kindOf n == some .cell) then (n,.cell) else (n,k))=some k:=by
    split at h
    ·rw[EJ,Ey.mpr e]at h;exact h
    ·rw[EJ,Ey.mpr e]at h;exact h
   obtain⟨k',m,z⟩:=dD h';exact⟨k',DT _ m,z⟩
theorem pJ(I:Nat->Shared->Prop)(V:Value->Shared->Prop)(hV:∀e s,V e s->notedBy (model prog w) A env (λx s'=>R (.error x) s') e s)
  (turn:∀n s,I n s->wpAny (model prog w) A (pyNext it) (λr s1=>match r with
   |none=>R (.ok .next) s1
   |some v=>wpAny (model prog w) A (letOwnedTupleGo target it v) (λ_ s2=>wpAny (model prog w) A (assign target env v) (λ_ s3=>
     wpAny (model prog w) A (forIn ifs true λc r=>if r=true then do let ok<-isTrue c env (eval c env);pure (ForInStep.yield ok) else pure (ForInStep.yield r)) (λok s4=>
      if ok=true then wpAny (model prog w) A (eval elt env) (λx s5=>wpAny (model prog w) A (call (.builtin "list.append") [acc,x]) (λ_ s6=>∃m,m<n/\I m s6) (λ_ _=>False) s5) V s4
      else ∃m,m<n/\I m s4) (λ_ _=>False) s3) (λ_ _=>False) s2) (λ_ _=>False) s1) (λ_ _=>False) s)
  (n:Nat)(h:I n s):codeAny (model prog w) A (.compLoop (.ListComp elt [⟨target,iter,ifs,0⟩] scope pos) 0 it acc env) R s:=by
 have no:∀{α:Type}{t:Sem α}{Q:α->Shared->Prop}{E:Value->Shared->Prop}{z:Shared},wpAny (model prog w) A t Q (λ_ _=>False) z->wpAny (model prog w) A t Q E z:=λh=>wpAny_noRaise h
 refine codeAny_loop rfl I (λn s hI=>?_) n h
 show wpAny _ A ((compTurn (.ListComp elt [⟨target,iter,ifs,0⟩] scope pos) 0 it acc env).onRaise (λx=>do noteFrame x env;theTreesLotGoes x)) _ _ s
 refine wpAny_noted ?_;rw[compTurn_list];refine vJ (wpAny_standAt (vJ (no (EK (turn n s hI) (λr s1 h1=>?_) λ_ _ z=>z))))
 cases r with
 |none=>exact DS h1
 |some v=>
  refine vJ (no (EK h1 (λ_ s2 h2=>?_) λ_ _ z=>z))
  refine vJ (no (EK h2 (λ_ s3 h3=>?_) λ_ _ z=>z))
  refine vJ (no (EK h3 (λok s4 h4=>?_) λ_ _ z=>z))
  cases ok with
  |false=>exact DS ⟨rfl,h4⟩
  |true=>
   refine vJ (vJ (EK h4 (λx s5 h5=>?_) hV))
   exact vJ (no (EK h5 (λ_ s6 h6=>DS (DS ⟨rfl,h6⟩)) λ_ _ z=>z))
def PIf(X:Cx)(ifs:List Expr)(tt:TT):Prop:=∀(pins:List (Addr×Obj)) (s:Shared)(σ:St)(H:Hp)(Q:Bool->Hp->Prop),Inv X pins σ H s->tt σ H Q->
 wpAny (model X.prog X.w) X.A (forIn ifs true λc r=>if r=true then do let ok<-isTrue c X.env (eval c X.env);pure (ForInStep.yield ok) else pure (ForInStep.yield r)) (TP X pins σ Q) X.xe s
noncomputable def tYes:TT:=λ_ H Q=>Q true H
theorem tK:PIf X [] tYes:=λpins s σ H Q I h=>wpAny_tests_nil ⟨H,I,h⟩
theorem uP(h:PT X c t):PIf X [c] t:=λpins s σ H Q I q=>wpAny_tests_one (h pins s σ H Q I q)
noncomputable def o5(js:List (Option Nat))(wi:TI)(g:TG)(tt:TT)(te:TE):TE:=λσ H Q=>wi σ H λJ H1=>∀p,H1 p=none->∃W:Nat->Nat->St->Hp->Prop,(∃m,W 0 m (iE js σ) (upd H1 p (.lst [])))/\
 ∀(i:Nat) m σc H,W i m σc H->(J.stop i H/\Q (.ref p) H)\/(J.go i H/\∀x H',J.yld i H x H'->g x σc H' λσ2 H2=>tt σ2 H2 λb H3=>
  if b=true then te σ2 H3 λy H4=>∃ys,H4 p=some (.lst ys)/\ys.length<sizeLine/\∃m',m' < m/\W (i+1) m' σ2 (upd H4 p (.lst (ys++[y]))) else ∃m',m' < m/\W (i+1) m' σ2 H3)
section
variable {X:Cx}
def rR(X:Cx)(scope:Scope)(C:Addr)(N:List Str)(s2:Shared)(H2:Hp)(fp:List Addr)(pn:List (Addr×Obj))(Ex:XK)(e:Value)(s':Shared):Prop:=∃pins σ H s,Inv (compCx X scope C N s2 H2 fp pn) pins σ H s/\CX1 X.prog X.w X.calm X.stack H s Ex e s'
theorem mo{q:Bool}(hok:cq N js scope X.env.scope X.N=true)(hcalm:Qt q X)(hi:PIB q X tg iter wi)
  (hg:∀C s2 H2 fp pn,PG (compCx X scope C N s2 H2 fp pn) tg g) (ht:∀C s2 H2 fp pn,PIf (compCx X scope C N s2 H2 fp pn) ifs tt) (he:∀C s2 H2 fp pn,PE ((compCx X scope C N s2 H2 fp pn).wish (rR X scope C N s2 H2 fp pn Ex)) elt te) (hp:(∀c d H,¬ Ex c d H)\/(X.calm=true/\qW X Ex))
  (hs:∀x,foldedSetIterable iter X.env x=pure x) (I:Inv X pins σ H s)(h:o5 js wi g tt te σ H Q)
  (fin:∀(D C:Addr)(s5:Shared)(H4:Hp)(m5:Str->Option Value),s5.heap.Ns C m5->la X pins H4 C->(∀h',Heap.SameBut C s5.heap h'->Inv X pins σ H4 {s5 with heap:=h'})->Q (.ref D) H4->compPost (model X.prog X.w) X.A X.xe use Qf (.ref D) C (.ok .next) s5) :
  wpAny (model X.prog X.w) X.A (comprehension (.ListComp elt [⟨tg,iter,ifs,0⟩] scope pos) scope X.env pos' (newList []) false (eval iter X.env) use) Qf X.xe s:=by
 have O:=jN hok;have hcells:∀y∈scope.names,y.2=.free->∃c,X.env.cells.lookup y.1=some c:=λy hy e=>I.ok.has y.1 (.inl (O.nf y hy e))
 refine wpAny_comprehension_free (use:=use) rfl hs (ji hcells) O.k1 O.nl (thn (hi pins s σ H _ I h) λxv s1 h1=>thn h1 λitv s2 h2=>?_)
 obtain⟨it,fp,tn,J,H2,rfl,I2,T,st2,f2,hQ⟩:=h2;refine Er (fR ?_);dsimp only;have sz1:(s2.heap.push {cls:=.type "list",dict:=none,data:=.seq ([]:List Value).toArray}).objs.size=s2.heap.objs.size+1:=Heap.size_push ..;have sz2:((s2.heap.push {cls:=.type "list",dict:=none,data:=.seq ([]:List Value).toArray}).push {cls:=.type "dict",data:=.dict #[]}).objs.size=s2.heap.objs.size+1+1:=by rw[Heap.size_push,sz1]
 have hns:(pushCells ((s2.heap.push {cls:=.type "list",dict:=none,data:=.seq ([]:List Value).toArray}).push {cls:=.type "dict",data:=.dict #[]}) scope.names).Ns (s2.heap.objs.size+1) (λ_=>none):=by
  rw[<-sz1];exact (Heap.Ns.new _ (.type "dict")).keeps (pushCells_keeps _ _)
 have keep:∀b o,s2.heap.get? b=some o->(pushCells ((s2.heap.push {cls:=.type "list",dict:=none,data:=.seq ([]:List Value).toArray}).push {cls:=.type "dict",data:=.dict #[]}) scope.names).get? b=some o:=λb o e=>
  pushCells_keeps _ _ b o (DU _ (DU _ e))
 have atD:(pushCells ((s2.heap.push {cls:=.type "list",dict:=none,data:=.seq ([]:List Value).toArray}).push {cls:=.type "dict",data:=.dict #[]}) scope.names).get? s2.heap.objs.size=some {cls:=.type "list",data:=.seq ([]:List Value).toArray}:=
  pushCells_keeps _ _ _ _ (DU _ (D7 _ rfl))
 have cok:=cellsFrom_ok scope.names ((s2.heap.push {cls:=.type "list",dict:=none,data:=.seq ([]:List Value).toArray}).push {cls:=.type "dict",data:=.dict #[]}) (s2.heap.objs.size+1+1) [] ⟨λ_ _ hm=>(nomatch hm),List.Pairwise.nil⟩ (by rw[sz2];exact DZ _)
 rw[sz2]at cok;rw[sz1];generalize pushCells ((s2.heap.push {cls:=.type "list",dict:=none,data:=.seq ([]:List Value).toArray}).push {cls:=.type "dict",data:=.dict #[]}) scope.names=h1' at hns keep atD cok ⊢;have frD:H2 s2.heap.objs.size=none:=I2.hok.fresh (DZ _);have frC:H2 (s2.heap.objs.size+1)=none:=I2.hok.fresh (ET _);have hCD:s2.heap.objs.size+1≠s2.heap.objs.size:=Nat.succ_ne_self _;obtain⟨W,⟨m0,w0⟩,turn⟩:=hQ s2.heap.objs.size frD;have fpThere:∀b∈fp,b<s2.heap.objs.size:=λb hb=>by
  obtain⟨o,e,_⟩:=T.obj 0 _ st2 b hb;exact D1 e
 have lk:∀x c,(cellsFrom (s2.heap.objs.size+1+1) scope.names []++aF scope.names X.env.cells []).lookup x=some c->(x,c)∈cellsFrom (s2.heap.objs.size+1+1) scope.names []\/X.env.cells.lookup x=some c:=λx c e=>by
  rcases Eo.mp (bc e) with z|z
  ·exact .inl z
  ·exact .inr (bx (acc:=[]) (λp hp=>nomatch hp) _ z)
 have old:∀x c,X.env.cells.lookup x=some c->c<s2.heap.objs.size:=λx c e=>by
  obtain⟨v,o,ho,hd⟩:=I2.cell x c e;exact D1 ho
 have cne:∀b∈fp,∀x c,(cellsFrom (s2.heap.objs.size+1+1) scope.names []++aF scope.names X.env.cells []).lookup x=some c->c≠b:=λb hb x c e=>by
  rcases lk x c e with z|z
  ·have a1:=(az z).2;exact Nat.ne_of_gt (D0 (fpThere b hb) (Ej (Eu _ 2) a1))
  ·exact (f2 b hb).2.2.2.2.1 x c z
 let Xc:Cx:=compCx X scope (s2.heap.objs.size+1) N s2 H2 fp pins
 have cOk:Xc.Ok:=by
  refine⟨I2.ok.mod,O.k1,I2.ok.glob,I2.ok.blt,ET _,λx y c e1 e2=>?_,λx hx=>?_,λx c e1 e2=>?_,I2.ok.hd,I2.ok.frames,.inl rfl,λb hb=>?_,I2.bs,Ej I2.ok.bsz I2.sz,λb o e hb=>?_,λb hb hm=>?_,I2.stack,I2.stkFree⟩
  ·rcases lk x c e1 with z1|z1<;>rcases lk y c e2 with z2|z2
   ·exact name_of_addr cok.apart z1 z2
   ·have a1:=(az z1).2;exact absurd (D0 (old _ _ z2) (Ej (Eu _ 2) a1)) (EF _)
   ·have a1:=(az z2).2;exact absurd (D0 (old _ _ z1) (Ej (Eu _ 2) a1)) (EF _)
   ·exact I2.ok.inj x y c z1 z2
  ·have hx:(relabel scope X.env).names.lookup x=some .cell\/(relabel scope X.env).names.lookup x=some .free:=hx;have key:(x,NameKind.free)∈scope.names\/(x,NameKind.cell)∈scope.names:=by
    rcases hx with hx|hx
    ·obtain⟨k',m,z⟩:=dD hx;rcases z with z|z
     ·subst z;exact .inr m
     ·subst z;exact .inl m
    ·obtain⟨k',m,z⟩:=dD hx;rcases z with z|z<;>(subst z;exact .inl m)
   rcases key with key|key
   ·obtain⟨c,e⟩:=hcells _ key rfl;exact cF (El _ (bc (lu key e)))
   ·obtain⟨c,e⟩:=bP key (n:=s2.heap.objs.size+1+1);exact cF (Ev _ e)
  ·have e1:scope.names.lookup x=some .cell:=Ec.mp e1;obtain⟨c1,h1⟩:=bP (PySem.mem_of_lookup e1) (n:=s2.heap.objs.size+1+1);obtain⟨c2,h2⟩:=cF h1;have e2:(cellsFrom (s2.heap.objs.size+1+1) scope.names []++aF scope.names X.env.cells []).lookup x=some c:=e2;rw[List.lookup_append,h2]at e2;cases e2;have a1:=(az (bc h2)).2;exact Ej (Eu _ 2) a1
  ·exact⟨Ek (Nat.lt_succ_of_lt (fpThere b hb)),λx c e=>cne b hb x c e⟩
  ·rcases (f2 b hb).2.2.2.1 with z|z
   ·exact I2.ok.noex b o e z
   ·exact absurd (D0 (D1 e) (Ej I2.ok.bsz z)) (EF _)
  ·rcases DX.mp (I2.stkSub b hm) with z|z
   ·exact (f2 b hb).2.1 z
   ·exact (f2 b hb).2.2.1 z
 have I3:Inv Xc [] (iE js σ) (upd H2 s2.heap.objs.size (.lst [])) {s2 with heap:=h1'}:=by
  refine⟨cOk,⟨rfl,I2.tk⟩,I2.bare,Un.laid keep (DZ _) frD,⟨_,hns,λi x v e1 e2 e3=>?_⟩,λx c e=>?_,?_,λx c e=>?_,λp hp=>?_,?_,?_⟩
  ·have e2:(js.map λo=>o.bind λj=>(σ[j]?).bind id)[i]?=some (some v):=e2
   rw[Ef]at e2;cases q:js[i]? with
   |none=>rw[q]at e2;cases e2
   |some o=>
    rw[q]at e2;cases o with
    |none=>cases e2
    |some j=>
     obtain⟨a1,a2,a3⟩:=O.fr i x j e1 q;have hv:σ[j]?=some (some v):=by
      cases z:σ[j]? with
      |none=>rw[Option.map_some,Option.bind_some,z]at e2;cases e2
      |some y=>
       rw[Option.map_some,Option.bind_some,z]at e2;have e2:some (id y)=some (some v):=e2;rw[show y=some v from D9 e2]
     obtain⟨m,hn,hl⟩:=I2.loc;obtain⟨u,r,l⟩:=hl j x v a1 hv (.inr (.inl a3));refine⟨u,r,?_⟩;rcases l with ⟨k,_⟩|⟨k,c,e,o,ho,hd⟩
     ·rw[show X.env.kindOf x=some .cell from a3]at k;cases k
     ·have only:∀y∈scope.names,y.1=x->y.2=.free:=λy hy hyx=>?_
      ·refine .inr ⟨.inl (eX I2.ok.kind a3 a2 only),c,dq (El _ (bc (lu a2 e))) (λp hp hx=>?_),o,keep _ _ ho,hd⟩
       rcases Eo.mp hp with z|z
       ·have:=only _ (az z).1 hx;cases this
       ·have z:=bx (acc:=[]) (λp hp=>nomatch hp) p z
        rw[hx,e]at z;exact (D9 z).symm
      obtain⟨i1,h1,e1'⟩:=List.mem_iff_getElem.mp hy;obtain⟨i2,h2,e2'⟩:=List.mem_iff_getElem.mp a2;have:i1=i2:=by
       refine (List.getElem_inj (h₀:=by rw[D5];exact h1) (h₁:=by rw[D5];exact h2) O.ndn).mp ?_
       rw[List.getElem_map,List.getElem_map,e1',e2'];exact hyx
      subst this;rw[e1']at e2';rw[e2']
  ·rcases lk x c e with z|z
   ·exact⟨none,(cok.empty x c z).1⟩
   ·obtain⟨v,o,ho,hd⟩:=I2.cell x c z;exact⟨v,o,keep _ _ ho,hd⟩
  ·show upd H2 _ _ (s2.heap.objs.size+1)=none;rw[aa hCD];exact frC
  ·rcases lk x c e with z|z
   ·have a1:=(az z).2;show upd H2 _ _ c=none;rw[aa (Nat.ne_of_gt (D0 (Nat.lt_add_of_pos_right (by decide:0<2)) a1))]
    exact I2.hok.fresh (Ej (Eu _ 2) a1)
   ·have a2:=old _ _ z;show upd H2 _ _ c=none;rw[aa (Ek a2)];exact I2.freeC x c z
  ·have hp:p∈X.pn++pins:=by rw[EO]at hp;exact hp
   obtain⟨e,n,ne,nf,d⟩:=I2.pin p hp;refine⟨keep _ _ e,by rw[aa (Ek (D1 e))];exact n,Ek (Nat.lt_succ_of_lt (D1 e)),λhm=>?_,d⟩
   rcases DX.mp (I2.stkSub _ hm) with z|z
   ·exact ne z
   ·exact nf z
  ·exact I2.hok.laid keep (DZ _) ⟨Nat.zero_le _,[],0,.nil,atD⟩
  ·show (js.map _).length=N.length;rw[D5,O.len]
 have fpc:∀{H':Hp},(∀b∈fp,H' b=none)->∀b∈fp,la Xc [] H' b:=λ{H'} hn b hb=>by
  refine⟨hn b hb,Ek (Nat.lt_succ_of_lt (fpThere b hb)),λhm=>?_,.inl hb,λx c e=>cne b hb x c e,λp hp=>(f2 b hb).2.2.2.2.2 p (by rw[EO]at hp;exact hp)⟩
  rcases DX.mp (I2.stkSub b hm) with z|z
  ·exact (f2 b hb).2.1 z
  ·exact (f2 b hb).2.2.1 z
 have hcalm:Qt q Xc:=by
  cases q with
  |false=>exact hcalm
  |true=>exact hcalm.imp id λ⟨a,o,u,e,f,l⟩=>⟨a,o,u,e,I2.base.frzs a o u f,l⟩
 have st3:tn 0 h1':=T.keep 0 _ _ st2 λb hb o e=>keep b o e
 have fr3:∀b∈fp,(upd H2 s2.heap.objs.size (.lst [])) b=none:=λb hb=>by
  rw[aa (Ek (fpThere b hb))];exact (f2 b hb).1
 have bk:∀{p5:List (Addr×Obj)}{σ5:St}{H4:Hp}{s5:Shared},Inv Xc p5 σ5 H4 s5->∀h',Heap.SameBut (s2.heap.objs.size+1) s5.heap h'->Inv X pins σ H4 {s5 with heap:=h'}:=λ{p5 σ5 H4 s5} I5 h' hsame=>by
  have un5:Un (frs X.stack) fp H2 H4 s2.heap s5.heap:=I5.base;have neC:∀b o,s2.heap.get? b=some o->b≠s2.heap.objs.size+1:=λb o e=>Ek (Nat.lt_succ_of_lt (D1 e))
  have fC:H4 (s2.heap.objs.size+1)=none:=I5.free;refine I2.call' (s':={s5 with heap:=h'}) (ch:=fp) I5.os ⟨λb o q n hb hx=>(hsame.2 b (neC b o q)).trans (un5.keep b o q n hb hx),λb o q n hb hx=>?_,un5.free,λb o q hx=>?_,un5.tups,un5.frzs,un5.tbls⟩ ?_ I5.bare (λb hb=>⟨(f2 b hb).2.2.2.1,(f2 b hb).2.1,(f2 b hb).2.2.2.2.1,(f2 b hb).2.2.2.2.2⟩)
  ·obtain⟨sl,z⟩:=un5.slot b o q n hb hx;exact⟨sl,(hsame.2 b (neC b o q)).trans z⟩
  ·obtain⟨o',z⟩:=un5.there b o q hx;exact⟨o',(hsame.2 b (neC b o q)).trans z⟩
  ·exact I5.hok.keptT λb u ob hb q=>(hsame.2 b λz=>by rw[z,fC]at hb;cases hb).trans q
 have hV:∀e s,rR X scope (s2.heap.objs.size+1) N s2 H2 fp pins Ex e s->notedBy (model X.prog X.w) X.A (compEnvC scope (cellsFrom (s2.heap.objs.size+1+1) scope.names []++aF scope.names X.env.cells []) (s2.heap.objs.size+1) X.env) (λx s'=>compPost (model X.prog X.w) X.A X.xe use Qf (.ref s2.heap.objs.size) (s2.heap.objs.size+1) (.error x) s') e s:=λe s5 ⟨pc,σc,Hc,sc,Ic,a,cls,B,H5,dx,ee,os,bare,un,hok5,⟨⟨a0,fl⟩,dd⟩,ha,inc,hE⟩=>by
  subst ee;rcases hp with hp|⟨hcm,⟨hst,hfr,hex⟩,hp⟩
  ·exact (hp _ _ _ hE).elim
  have fr0:X.A.frames=some (X.env::X.outer):=hst▸I2.ok.frames;have fl':Heap.FlyingW B (X.env::X.outer) a cls a0 s5.heap:=hst▸fl;have na:sc.heap.get? a=none:=n8 (X:=Xc) (H2:=H5) ⟨a0,fl⟩ inc;show wpAny _ _ (noteFrame (.ref a) X.env) _ _ _;refine nO fr0 hfr fl' dd λh6 hd6 up6 dd6=>?_
  have I6:Inv Xc pc σc H5 {s5 with heap:=h6}:=Ic.behind (s':=s5) os bare un hok5 inc hd6.1 up6
  obtain⟨m6,hn6,_⟩:=id I6.loc;refine⟨m6,hn6,λh' hsame cenv _=>?_⟩
  obtain⟨oC,_,_,eC,dC,_⟩:=id hn6;have I7:=bk I6 h' hsame;obtain⟨st6,nB,ff6,oe,vs,T,oT,ts,he,⟨hc,h0⟩,hv,h1,nT,ne,hT,dT,h3⟩:=hd6;obtain⟨oe',he',hdx,hlo⟩:=dd6;obtain⟨ws,hw1,hw2⟩:=hlo hcm;cases he.symm.trans he';cases hv.symm.trans hw1;have neA:a≠s2.heap.objs.size+1:=λz=>by
   have q:h6.get? (s2.heap.objs.size+1)=some oC:=eC;rw[<-z,he]at q;cases q;rw[hv]at dC;cases dC
  have neT:T≠s2.heap.objs.size+1:=λz=>by
   have q:h6.get? (s2.heap.objs.size+1)=some oC:=eC;rw[<-z,hT]at q;cases q;rw[dT]at dC;cases dC
  have ea:=(hsame.2 a neA).trans he;have eT:=(hsame.2 T neT).trans hT;have sz:3<ts.size:=(ED.mp h3).1;have old':∀b o,X.s₀.heap.get? b=some o->∃o',sc.heap.get? b=some o':=λb o q=>by
   have nf:b∉fp:=λhb=>by
    rcases (f2 b hb).2.2.2.1 with z|z
    ·rw[hex]at z;cases z
    ·exact absurd (D0 (D1 q) z) (EF _)
   obtain⟨o1,e1⟩:=I2.base.there b o q (by rw[hex];exact λz=>nomatch z)
   exact Ic.base.there b o1 e1 nf
  have n0:∀b,(∀o',sc.heap.get? b=some o'->False)->X.s₀.heap.get? b=none:=λb hb=>by
   cases q:X.s₀.heap.get? b with
   |none=>rfl
   |some o=>
    obtain⟨o',z⟩:=old' b o q;exact (hb o' z).elim
  have noT:∀o',sc.heap.get? T=some o'->False:=λo' q=>by
   obtain⟨o2,e2⟩:=un.there T o' q (λz=>nomatch z)
   have z:=inc T o2 e2 (.inr ⟨⟨o',q⟩,λhm=>by
    have hm:T∈frs (X.env::X.outer):=hst▸hm;obtain⟨_,o3,e3,nf⟩:=ff6.mem hm;rw[hT]at e3;cases e3;exact nf ts dT⟩)
   rw[nT]at z;cases z
  have hT5:H5 T=none:=by
   cases q:H5 T with
   |none=>rfl
   |some u=>
    obtain⟨ob,z⟩:=(hok5 T u q).isAt;have z2:=inc T ob z (.inl (by rw[q];exact λw=>nomatch w))
    rw[nT]at z2;cases z2
  refine qy (s:={s5 with heap:=h'}) ea hv h1 eT dT sz λh'' oT' ts' g1 g2 g3 g4=>?_
  exact hp pins σ H5 {s5 with heap:=h'} a T cls dx h'' I7 g4 (λo q=>by rw[eT]at q;cases q;exact⟨ts,dT⟩) ⟨oe,vs,oT',ts',a0,(g4 a (Ea ne)).trans ea,hc,hdx,hv,h0,h1,hw2,ne,g1,g2,g3⟩ ha hT5 (n0 a λo' q=>by rw[na]at q;cases q) (n0 T noT) hE
 have loop:codeAny (model X.prog X.w) X.A (.compLoop (.ListComp elt [⟨tg,iter,ifs,0⟩] scope pos) 0 (.ref it) (.ref s2.heap.objs.size) (compEnvC scope (cellsFrom (s2.heap.objs.size+1+1) scope.names []++aF scope.names X.env.cells []) (s2.heap.objs.size+1) X.env))
   (compPost (model X.prog X.w) X.A X.xe use Qf (.ref s2.heap.objs.size) (s2.heap.objs.size+1)) {s2 with heap:=h1'}:=by
  refine pJ (V:=rR X scope (s2.heap.objs.size+1) N s2 H2 fp pins Ex) (hV:=hV) (λn s'=>∃i σc H',Inv Xc [] σc H' s'/\tn i s'.heap/\(∀b∈fp,H' b=none)/\W i n σc H') ?_ m0 ⟨0,_,_,I3,st3,fr3,w0⟩
  rintro n s4 ⟨i,σc,H4,I4,st4,fr4,w4⟩;rcases turn i n σc H4 w4 with ⟨stop,q⟩|⟨go,step⟩
  ·refine thn (T.done Xc rfl rfl rfl hcalm i [] s4 σc H4 (λ_ _=>False) I4 (fpc fr4) st4 stop) λr s5 ⟨hr,I5⟩=>?_
   subst hr;obtain⟨m5,hn5,_⟩:=I5.loc;exact fin _ _ _ H4 m5 hn5 (I2.fpOk (ET _) I5.free) (λh' hsame=>bk I5 h' hsame) q
  ·refine thn (T.item Xc rfl rfl rfl hcalm i [] s4 σc H4 (λ_ _=>False) I4 (fpc fr4) st4 go) λr s5 ⟨u,hr,h5⟩=>?_
   subst hr;refine thn h5 λ_ s6 ⟨x,H6,I6,r6,y6,st6,fr6⟩=>?_
   have I6':=I6.pinned (fpc fr6) (T.obj _ _ st6);refine thn (hg _ _ _ _ _ _ s6 σc H6 x u _ I6' r6 (step x H6 y6)) λ_ s7 ⟨σ7,H7,I7,q7⟩=>?_
   refine thn (ht _ _ _ _ _ _ s7 σ7 H7 _ I7 q7) λok s8 ⟨H8,I8,q8⟩=>?_
   have back:∀{H9:Hp}{s9:Shared}{σ9:St},Inv Xc ([]++ic fp s6.heap) σ9 H9 s9->Inv Xc [] σ9 H9 s9/\tn (i+1) s9.heap/\∀b∈fp,H9 b=none:=λ{H9 s9 σ9} I9=>by
    refine⟨I9.unpinned,T.keep _ _ _ st6 λb hb o e=>(I9.pin (b,o) (El _ (El _ (cK hb e)))).1,λb hb=>?_⟩
    obtain⟨o,e,d⟩:=T.obj _ _ st6 b hb;exact (I9.pin (b,o) (El _ (El _ (cK hb e)))).2.1
   cases ok with
   |false=>
    rw[DV D8]at q8 ⊢;obtain⟨m',hm,w8⟩:=q8;obtain⟨b1,b2,b3⟩:=back I8;exact⟨m',hm,i+1,σ7,H8,b1,b2,b3,w8⟩
   |true=>
    rw[DY rfl]at q8 ⊢;refine thn (he _ _ _ _ _ _ s8 σ7 H8 _ (I8.wish _) q8) λy s9 ⟨z,H9,I9,r9,ys,e9,hl,m',hm,w9⟩=>?_
    have I9:=I9.unwish;refine thn (jQ (X:=Xc) _ s9 σ7 H9 (.ref s2.heap.objs.size) [z] (.ref s2.heap.objs.size) [y] (λ_ H10=>H10=upd H9 s2.heap.objs.size (.lst (ys++[z]))) I9 rfl (.cons r9 .nil) ⟨_,ys,z,rfl,rfl,e9,hl,rfl⟩) λ_ s10 ⟨_,H10,I10,_,e10⟩=>?_
    subst e10;obtain⟨b1,b2,b3⟩:=back I10;exact⟨m',hm,i+1,σ7,_,b1,b2,b3,w9⟩
 exact codeAny_compStart_list loop (T.self _ 0 _ _ _ st3 loop)
theorem PE.wish0{V:Value->Shared->Prop}{C:Addr}{s2:Shared}{H2:Hp}{fp:List Addr}{pn:List (Addr×Obj)}(h:PE (compCx X scope C N s2 H2 fp pn) e t):PE ((compCx X scope C N s2 H2 fp pn).wish V) e t:=λpins s σ H Q I q=>
 EK (h pins s σ H Q I.unwish q) (λ_ _ ⟨v,H',I',r⟩=>⟨v,H',I'.wish _,r⟩) λ_ _ z=>z.elim
theorem oz{q:Bool}(hok:cq N js scope X.env.scope X.N=true)(hcalm:Qt q X)(hi:PIB q X tg iter wi)
  (hg:∀C s2 H2 fp pn,PG (compCx X scope C N s2 H2 fp pn) tg g) (ht:∀C s2 H2 fp pn,PIf (compCx X scope C N s2 H2 fp pn) ifs tt) (he:∀C s2 H2 fp pn,PE (compCx X scope C N s2 H2 fp pn) elt te)
  (hs:∀x,foldedSetIterable iter X.env x=pure x:=by intro _;rfl):PE X (.ListComp elt [⟨tg,iter,ifs,0⟩] scope pos) (o5 js wi g tt te):=λpins s σ H Q I h=>by
 rw[eval_ListComp];exact mo (use:=none) (Ex:=λ_ _ _=>False) hok hcalm hi hg ht (λC s2 H2 fp pn=>(he C s2 H2 fp pn).wish0) (.inl λ_ _ _ z=>z) hs I h λD C s5 H4 m5 hn _ key q=>⟨m5,hn,λh' hs'=>⟨.ref D,H4,key h' hs',rfl,q⟩⟩
theorem iK{q:Bool}{spos:Pos}(hN:X.N.Nodup)(hy:X.N[i]?=some y)(hl:X.env.scope.names.lookup y=some .local)(hok:cq N js scope X.env.scope X.N=true)(hcalm:Qt q X)(hi:PIB q X tg iter wi)
  (hg:∀C s2 H2 fp pn,PG (compCx X scope C N s2 H2 fp pn) tg g) (ht:∀C s2 H2 fp pn,PIf (compCx X scope C N s2 H2 fp pn) ifs tt) (he:∀C s2 H2 fp pn,PE (compCx X scope C N s2 H2 fp pn) elt te)
  (hs:∀x,foldedSetIterable iter X.env x=pure x) (hsw:swapsWith (.ListComp elt [⟨tg,iter,ifs,0⟩] scope pos) (some (.Name y py)) spos.line X.env=pure true) :
  PS X (.Assign [.Name y py] (.ListComp elt [⟨tg,iter,ifs,0⟩] scope pos) spos) (wd (o5 js wi g tt te) (oQ i)):=by
 intro pins s σ H D I h;rw[exec_Assign_Name_used _ _ _ _ hsw];refine vJ (wpAny_standAt (vJ ?_));show wpAny _ _ (do let _<-comprehension (.ListComp elt [⟨tg,iter,ifs,0⟩] scope pos) scope X.env _ (newList []) false (eval iter X.env) (some (assign (.Name y py) X.env))) _ _ s
 refine vJ (EK (mo (use:=some (assign (.Name y py) X.env)) (Qf:=λ_ s'=>SP X pins D .next s') (Ex:=λ_ _ _=>False) hok hcalm hi hg ht (λC s2 H2 fp pn=>(he C s2 H2 fp pn).wish0) (.inl λ_ _ _ z=>z) hs I h λDa C s5 H4 m5 hn fp key q=>?_) (λ_ s' hq=>DS (DS hq)) λ_ _ z=>z)
 show wpAny _ _ (assign (.Name y py) X.env (.ref Da)) _ _ _;have J:Inv X pins σ H4 s5:=key s5.heap (Heap.SameBut.refl _ _);obtain⟨oC,es,ep,eC,rC⟩:=id hn;obtain⟨f0,f1,f2,f3,f4,f5⟩:=id fp;have JC:Inv X (pins++[(C,oC)]) σ H4 s5:=J.pins_of λp hp=>by
  rcases Eo.mp hp with z|z
  ·exact J.pin p (El _ z)
  ·have e:p=(C,oC):=by simpa using z
   subst e;exact⟨eC,f0,f1,f2,λv hv=>by
    have z:=rC.1;rw[show oC.data=.cell v from hv]at z;cases z⟩
 refine thn ((gZ (pos:=py) hN hy (.inl hl) (.inr hl)) _ s5 σ H4 (.ref Da) (.ref Da) (λσ' H'=>H'=H4/\D.nx σ' H') JC rfl ⟨rfl,q⟩) λ_ s6 ⟨σ6,H6,I6,e6,q6⟩=>?_
 subst e6;have eC6:s6.heap.get? C=some oC:=(I6.pin (C,oC) (El _ (El _ (by simp)))).1
 refine⟨m5,hn.at' λo e=>?_,λh' hsame=>⟨σ6,H6,?_,q6⟩⟩
 ·rw[eC]at e;cases e;exact eC6
 ·exact (Inv.unpinned I6).turned (t':=s6.toks) (it:=C) (λb o hb e=>(hsame.2 b hb).trans e) f0 f1 f3 f4 f5
end
end L2
namespace L2
open PySem PySem.Spec PySem.Calls PyProof.Rows PySem.W PySem.Builtin PySem.Builtin.ObjectAttr PySem.Builtin.Getset_descriptor
section
variable {h:Heap}{os:OsState}{o:Obj}{K:E7}
variable (hga:findIn K (.ref C) "__getattribute__"=some (some (.builtin "BaseException.__getattribute__"))) (hgn:findIn K (.ref C) "__getattr__"=some none) (hcl:findIn K (.ref C) "__class__"=some (some (.builtin "object.__class__")))
 (hn:specialIn K (.builtin "object.__class__") "__get__"=some (some (.builtin "getset_descriptor.__get__"))) (htk:takesIn K (.builtin "object.__class__")=some true) (hm:mroIn K C (.type "object")=some true) (hmB:mroIn K C (.type "BaseException")=some true)
end
structure ExcI (K:E7)(C:Addr):Prop where
 hd:PySem.W.hasDictIn K C=true
 ga:findIn K (.ref C) "__getattribute__"=some (some (.builtin "BaseException.__getattribute__"))
 gn:findIn K (.ref C) "__getattr__"=some none
 cl:findIn K (.ref C) "__class__"=some (some (.builtin "object.__class__"))
 n:specialIn K (.builtin "object.__class__") "__get__"=some (some (.builtin "getset_descriptor.__get__"))
 tk:takesIn K (.builtin "object.__class__")=some true
 m:mroIn K C (.type "object")=some true
 mB:mroIn K C (.type "BaseException")=some true
end L2
namespace L2
open PySem PySem.Spec PySem.Calls PyProof.Rows PySem.W PySem.Builtin PySem.Builtin.ObjectAttr
section
variable {h:Heap}{os:OsState}{o:Obj}{K:E7}
end
end L2
namespace L2
open PySem PySem.Spec PySem.Calls PyProof.Rows PySem.W
section
variable {s:Shared}
end
end L2
namespace L2
open PySem PySem.Spec PySem.Calls PyProof.Rows PySem.W
open AutoSeq1 (wpAny_loadPart')
open MeetsSeq MeetsSeq2 MeetsSeq3
section
variable {A:Around}{s:Shared}
end
end L2
namespace L2
open PySem PySem.Spec PyProof.Rows
section
variable {A:Around}{s:Shared}{St:Nat->Heap->Prop}{xs:Array (Int×Tok)}
theorem lr(W:Walks prog w A.in1 I fp wr n P St)(bt:Nat->Nat->Bool)(hcmp:CmpOf prog w A.in1 .Gt P bt)(S:Addr)(hSf:S∉fp) :
  ∀(k j:Nat)(s:Shared)(vb:Value)(c:Nat),n-(j+1)=k->j+1<=n->St (j+1) s.heap->P (argBest bt j) vb->s.heap.get? S=some {cls:=.type "list",dict:=none,data:=.seq #[vb,vb] c,slots:=#[]}->
  (∀v h' tk,P (argBest bt (n-1)) v->(∀b o,b∉wr->b≠S->s.heap.get? b=some o->h'.get? b=some o)->R (.ok (.ret v)) {s with heap:=h',toks:=tk})->
  codeAny (model prog w) A (.builtin "max.loop" ⟨[.ref I,.none,.ref S],kw⟩) R s:=by
 have hSw:S∉wr:=λh=>hSf (W.sub _ h)
 have hname:(toString "max"++toString ".loop" : String) = "max.loop":=by decide
 intro k
 induction k with
 |zero=>
  intro j s vb c hk hj hst hPb hS hR;have hin:j+1=n:=by omega
  refine codeAny_builtin F.entry_max_loop ?_;rw[Around.under_plainId F.plain_max_loop _];show wpAny _ A.in1 (seqItems? (.ref S) >>=_) _ _ s;refine vJ (wpAny_seqItems hS rfl ?_);show wpAny _ A.in1 (tryCatch (pyNext (.ref I)) _ >>=_) _ _ s;refine vJ (wpAny_tryCatch (W.done s _ _ (hin▸hst) λh' tk hk'=>?_))
  have hS':=hk' S _ hSw hS;show wpAny _ A.in1 (updateSeq S (λ_=>#[]) >>=_) _ _ _
  refine vJ (wpAny_updateSeq hS' rfl (vJ (wpAny_letGo (DS ?_))));exact hR vb _ tk (by rw[<-hin];exact hPb) λb o hbw hbS e=>(Ei _ _ (Ea hbS)).trans (hk' b o hbw e)
 |succ k ih=>
  intro j s vb c hk hj hst hPb hS hR;have hlt:j+1<n:=by omega
  refine codeAny_builtin F.entry_max_loop ?_;rw[Around.under_plainId F.plain_max_loop _];show wpAny _ A.in1 (seqItems? (.ref S) >>=_) _ _ s;refine vJ (wpAny_seqItems hS rfl ?_);show wpAny _ A.in1 (tryCatch (pyNext (.ref I)) _ >>=_) _ _ s;refine vJ (wpAny_tryCatch (W.item (j+1) s _ _ hlt hst λv h' tk hP hst' hk'=>?_))
  have hS':=hk' S _ hSw hS;show wpAny _ A.in1 (tryCatch (holding [v,v] (richCompare .Gt v vb >>=_)) _ >>=_) _ _ _;refine vJ (wpAny_tryCatch (Ez (vJ (hcmp (j+1) (argBest bt j) v vb _ _ _ hP hPb ?_))));refine vJ (Ez (EC (vJ (wpAny_letGo (DS ?_)))));cases hb:bt (j+1) (argBest bt j) with
  |true=>
   simp only[if_true];refine vJ (wpAny_updateSeq hS' rfl (vJ (wpAny_letGo ?_)));rw[hname];refine DS ⟨plainId_quiet F.plain_max_loop _,ih (j+1) _ v _ (by omega) hlt (W.frame _ _ _ hst' λb hbf o e=>?_) (by simp only[argBest,hb,if_true];exact hP) (Ep _ hS' rfl) λv' h'' tk'' hP' hk''=>?_⟩
   ·exact (Ei _ _ (λh:S=b=>hSf (by rw[h];exact hbf))).trans e
   ·exact hR v' h'' tk'' hP' λb o hbw hbS e=>hk'' b o hbw hbS ((Ei _ _ (Ea hbS)).trans (hk' b o hbw e))
  |false=>
   simp only[EA,if_false];refine vJ (wpAny_letGo ?_);rw[hname];refine DS ⟨plainId_quiet F.plain_max_loop _,ih (j+1) _ vb c (by omega) hlt hst' (by simp only[argBest,hb,EA,if_false];exact hPb) hS' λv' h'' tk'' hP' hk''=>?_⟩
   exact hR v' h'' tk'' hP' λb o hbw hbS e=>hk'' b o hbw hbS (hk' b o hbw e)
theorem iO(hh:A.handled=none)(hl:s.heap.IsList l (intItems xs))(ha:argsOk "max" ⟨[.ref l],kw⟩)(hb:Builtin.Builtins.bindParams "max" ["key","default"] 0 ⟨[],kw⟩=pure [none,dv])(hne:dv=none->0<xs.size)
  (h0:xs.size=0->∀d h' tk,dv=some d->(∀b o,s.heap.get? b=some o->h'.get? b=some o)->Q d {s with heap:=h',toks:=tk})
  (h:0<xs.size->∀v h' tk,(intItems xs)[argBest (λi j=>decide (numAt xs i > numAt xs j)) (xs.size-1)]?=some v->(∀b o,s.heap.get? b=some o->h'.get? b=some o)->Q v {s with heap:=h',toks:=tk}) :
  wpAny (model prog w) A (call (.builtin "max") [.ref l] kw) Q E s:=by
 have hname:(toString "max"++toString ".loop" : String) = "max.loop":=by decide
 refine kmk_tree F.kind_max F.plain_max F.entry_max ha ?_;show wpAny _ A.in1 (Builtin.Builtins.bindParams "max" ["key","default"] 0 ⟨[],kw⟩ >>=_) _ _ s;refine vJ (wpAny_of_eq hb ?_);refine vJ (DS ?_);refine vJ (iter_intList hl λs₂ e st hfp hlI=>?_)
 refine vJ (Er ?_);have hSf:s₂.heap.objs.size∉[s.heap.objs.size,l]:=λhm=>EF _ (hfp _ hm)
 have W:=Walks.list (prog:=prog) (w:=w) (A:=A.in1) hh s.heap.objs.size l hlI (intItems xs);have hSw:s₂.heap.objs.size∉[s.heap.objs.size]:=λh=>hSf (W.sub _ h)
 have hsz:(intItems xs).size=xs.size:=by simp[intItems]
 have hcmp:=CmpOf.ints_gt (prog:=prog) (w:=w) (A:=A.in1) (numAt xs) (λ_ _=>intItems_at)
 rw[hname];refine DS ⟨plainId_quiet F.plain_max_loop _,?_⟩;refine codeAny_builtin F.entry_max_loop ?_;rw[Around.under_plainId F.plain_max_loop _];have hst:(λi h=>h.IsListIter s.heap.objs.size l i/\h.IsList l (intItems xs)) 0 (s₂.heap.push {cls:=.type "list",data:=.seq #[]}):=W.frame 0 s₂.heap _ st λb _ o e=>DU _ e
 have hS:(s₂.heap.push {cls:=.type "list",data:=.seq #[]}).get? s₂.heap.objs.size=some {cls:=.type "list",dict:=none,data:=.seq #[] 0,slots:=#[]}:=D7 _ rfl;show wpAny _ A.in1 (seqItems? (.ref _) >>=_) _ _ _;refine vJ (wpAny_seqItems hS rfl ?_);show wpAny _ A.in1 (tryCatch (pyNext (.ref _)) _ >>=_) _ _ _;have kp:∀{h':Heap},(∀b o,b∉[s.heap.objs.size]->(s₂.heap.push {cls:=.type "list",data:=.seq #[]}).get? b=some o->h'.get? b=some o)->∀b o,s.heap.get? b=some o->h'.get? b=some o:=λ{h'} hk=>by
  subst e;exact old_kept λb o hb e=>hk b o hb (DU _ e)
 by_cases hz:xs.size=0
 ·have hst':=hst;refine vJ (wpAny_tryCatch (W.done _ _ _ (by rw[hsz,hz];exact hst) λh' tk hk'=>?_))
  cases dv with
  |none=>exact absurd (hne rfl) (by omega)
  |some d=>
   show wpAny _ A.in1 (rule _ >>=_) _ _ _;refine vJ (wpAny_rule (DS ?_));have:=h0 hz d h' tk rfl (kp hk');subst e;exact this
 ·have hn:0<xs.size:=by omega
  refine vJ (wpAny_tryCatch (W.item 0 _ _ _ (by rw[hsz];exact hn) hst λv h' tk hP hst' hk'=>?_))
  have hS':=hk' _ _ hSw hS;show wpAny _ A.in1 (updateSeq _ (λ_=>#[v,v]) >>=_) _ _ _
  refine vJ (wpAny_updateSeq hS' rfl ?_);rw[hname];refine DS ⟨plainId_quiet F.plain_max_loop _,lr W _ hcmp _ hSf _ 0 _ v _ rfl (by rw[hsz];exact hn) (W.frame _ _ _ hst' λb hbf o e=>?_) hP (Ep _ hS' rfl) λv' h'' tk'' hP' hk''=>?_⟩
  ·exact (Ei _ _ (λh:_=b=>hSf (by rw[h];exact hbf))).trans e
  ·have:=h hn v' h'' tk'' (by rw[hsz]at hP';exact hP') (λb o e2=>by
    have hlt:b<s₂.heap.objs.size:=by subst e;exact D1 (DU _ e2)
    refine hk'' b o (λhm=>?_) (Ek hlt) ((Ei _ _ (Nat.ne_of_gt hlt)).trans (kp hk' b o e2))
    rcases DX.mp hm with e1|hm
    ·exact absurd (e1▸D1 e2) (EF _)
    ·cases hm)
   subst e;exact this
theorem lw(W:Walks prog w A.in1 I fp wr n P St)(bt:Nat->Nat->Bool)(hcmp:CmpOf prog w A.in1 .Lt P bt)(S:Addr)(hSf:S∉fp) :
  ∀(k j:Nat)(s:Shared)(vb:Value)(c:Nat),n-(j+1)=k->j+1<=n->St (j+1) s.heap->P (argBest bt j) vb->s.heap.get? S=some {cls:=.type "list",dict:=none,data:=.seq #[vb,vb] c,slots:=#[]}->
  (∀v h' tk,P (argBest bt (n-1)) v->(∀b o,b∉wr->b≠S->s.heap.get? b=some o->h'.get? b=some o)->R (.ok (.ret v)) {s with heap:=h',toks:=tk})->
  codeAny (model prog w) A (.builtin "min.loop" ⟨[.ref I,.none,.ref S],kw⟩) R s:=by
 have hSw:S∉wr:=λh=>hSf (W.sub _ h)
 have hname:(toString "min"++toString ".loop" : String) = "min.loop":=by decide
 intro k
 induction k with
 |zero=>
  intro j s vb c hk hj hst hPb hS hR;have hin:j+1=n:=by omega
  refine codeAny_builtin F.entry_min_loop ?_;rw[Around.under_plainId F.plain_min_loop _];show wpAny _ A.in1 (seqItems? (.ref S) >>=_) _ _ s;refine vJ (wpAny_seqItems hS rfl ?_);show wpAny _ A.in1 (tryCatch (pyNext (.ref I)) _ >>=_) _ _ s;refine vJ (wpAny_tryCatch (W.done s _ _ (hin▸hst) λh' tk hk'=>?_))
  have hS':=hk' S _ hSw hS;show wpAny _ A.in1 (updateSeq S (λ_=>#[]) >>=_) _ _ _
  refine vJ (wpAny_updateSeq hS' rfl (vJ (wpAny_letGo (DS ?_))));exact hR vb _ tk (by rw[<-hin];exact hPb) λb o hbw hbS e=>(Ei _ _ (Ea hbS)).trans (hk' b o hbw e)
 |succ k ih=>
  intro j s vb c hk hj hst hPb hS hR;have hlt:j+1<n:=by omega
  refine codeAny_builtin F.entry_min_loop ?_;rw[Around.under_plainId F.plain_min_loop _];show wpAny _ A.in1 (seqItems? (.ref S) >>=_) _ _ s;refine vJ (wpAny_seqItems hS rfl ?_);show wpAny _ A.in1 (tryCatch (pyNext (.ref I)) _ >>=_) _ _ s;refine vJ (wpAny_tryCatch (W.item (j+1) s _ _ hlt hst λv h' tk hP hst' hk'=>?_))
  have hS':=hk' S _ hSw hS;show wpAny _ A.in1 (tryCatch (holding [v,v] (richCompare .Lt v vb >>=_)) _ >>=_) _ _ _;refine vJ (wpAny_tryCatch (Ez (vJ (hcmp (j+1) (argBest bt j) v vb _ _ _ hP hPb ?_))));refine vJ (Ez (EC (vJ (wpAny_letGo (DS ?_)))));cases hb:bt (j+1) (argBest bt j) with
  |true=>
   simp only[if_true];refine vJ (wpAny_updateSeq hS' rfl (vJ (wpAny_letGo ?_)));rw[hname];refine DS ⟨plainId_quiet F.plain_min_loop _,ih (j+1) _ v _ (by omega) hlt (W.frame _ _ _ hst' λb hbf o e=>?_) (by simp only[argBest,hb,if_true];exact hP) (Ep _ hS' rfl) λv' h'' tk'' hP' hk''=>?_⟩
   ·exact (Ei _ _ (λh:S=b=>hSf (by rw[h];exact hbf))).trans e
   ·exact hR v' h'' tk'' hP' λb o hbw hbS e=>hk'' b o hbw hbS ((Ei _ _ (Ea hbS)).trans (hk' b o hbw e))
  |false=>
   simp only[EA,if_false];refine vJ (wpAny_letGo ?_);rw[hname];refine DS ⟨plainId_quiet F.plain_min_loop _,ih (j+1) _ vb c (by omega) hlt hst' (by simp only[argBest,hb,EA,if_false];exact hPb) hS' λv' h'' tk'' hP' hk''=>?_⟩
   exact hR v' h'' tk'' hP' λb o hbw hbS e=>hk'' b o hbw hbS (hk' b o hbw e)
theorem iX(hh:A.handled=none)(hl:s.heap.IsList l (intItems xs))(ha:argsOk "min" ⟨[.ref l],kw⟩)(hb:Builtin.Builtins.bindParams "min" ["key","default"] 0 ⟨[],kw⟩=pure [none,dv])(hne:dv=none->0<xs.size)
  (h0:xs.size=0->∀d h' tk,dv=some d->(∀b o,s.heap.get? b=some o->h'.get? b=some o)->Q d {s with heap:=h',toks:=tk})
  (h:0<xs.size->∀v h' tk,(intItems xs)[argBest (λi j=>decide (numAt xs i<numAt xs j)) (xs.size-1)]?=some v->(∀b o,s.heap.get? b=some o->h'.get? b=some o)->Q v {s with heap:=h',toks:=tk}) :
  wpAny (model prog w) A (call (.builtin "min") [.ref l] kw) Q E s:=by
 have hname:(toString "min"++toString ".loop" : String) = "min.loop":=by decide
 refine kmk_tree F.kind_min F.plain_min F.entry_min ha ?_;show wpAny _ A.in1 (Builtin.Builtins.bindParams "min" ["key","default"] 0 ⟨[],kw⟩ >>=_) _ _ s;refine vJ (wpAny_of_eq hb ?_);refine vJ (DS ?_);refine vJ (iter_intList hl λs₂ e st hfp hlI=>?_)
 refine vJ (Er ?_);have hSf:s₂.heap.objs.size∉[s.heap.objs.size,l]:=λhm=>EF _ (hfp _ hm)
 have W:=Walks.list (prog:=prog) (w:=w) (A:=A.in1) hh s.heap.objs.size l hlI (intItems xs);have hSw:s₂.heap.objs.size∉[s.heap.objs.size]:=λh=>hSf (W.sub _ h)
 have hsz:(intItems xs).size=xs.size:=by simp[intItems]
 have hcmp:=CmpOf.ints_lt (prog:=prog) (w:=w) (A:=A.in1) (numAt xs) (λ_ _=>intItems_at)
 rw[hname];refine DS ⟨plainId_quiet F.plain_min_loop _,?_⟩;refine codeAny_builtin F.entry_min_loop ?_;rw[Around.under_plainId F.plain_min_loop _];have hst:(λi h=>h.IsListIter s.heap.objs.size l i/\h.IsList l (intItems xs)) 0 (s₂.heap.push {cls:=.type "list",data:=.seq #[]}):=W.frame 0 s₂.heap _ st λb _ o e=>DU _ e
 have hS:(s₂.heap.push {cls:=.type "list",data:=.seq #[]}).get? s₂.heap.objs.size=some {cls:=.type "list",dict:=none,data:=.seq #[] 0,slots:=#[]}:=D7 _ rfl;show wpAny _ A.in1 (seqItems? (.ref _) >>=_) _ _ _;refine vJ (wpAny_seqItems hS rfl ?_);show wpAny _ A.in1 (tryCatch (pyNext (.ref _)) _ >>=_) _ _ _;have kp:∀{h':Heap},(∀b o,b∉[s.heap.objs.size]->(s₂.heap.push {cls:=.type "list",data:=.seq #[]}).get? b=some o->h'.get? b=some o)->∀b o,s.heap.get? b=some o->h'.get? b=some o:=λ{h'} hk=>by
  subst e;exact old_kept λb o hb e=>hk b o hb (DU _ e)
 by_cases hz:xs.size=0
 ·have hst':=hst;refine vJ (wpAny_tryCatch (W.done _ _ _ (by rw[hsz,hz];exact hst) λh' tk hk'=>?_))
  cases dv with
  |none=>exact absurd (hne rfl) (by omega)
  |some d=>
   show wpAny _ A.in1 (rule _ >>=_) _ _ _;refine vJ (wpAny_rule (DS ?_));have:=h0 hz d h' tk rfl (kp hk');subst e;exact this
 ·have hn:0<xs.size:=by omega
  refine vJ (wpAny_tryCatch (W.item 0 _ _ _ (by rw[hsz];exact hn) hst λv h' tk hP hst' hk'=>?_))
  have hS':=hk' _ _ hSw hS;show wpAny _ A.in1 (updateSeq _ (λ_=>#[v,v]) >>=_) _ _ _
  refine vJ (wpAny_updateSeq hS' rfl ?_);rw[hname];refine DS ⟨plainId_quiet F.plain_min_loop _,lw W _ hcmp _ hSf _ 0 _ v _ rfl (by rw[hsz];exact hn) (W.frame _ _ _ hst' λb hbf o e=>?_) hP (Ep _ hS' rfl) λv' h'' tk'' hP' hk''=>?_⟩
  ·exact (Ei _ _ (λh:_=b=>hSf (by rw[h];exact hbf))).trans e
  ·have:=h hn v' h'' tk'' (by rw[hsz]at hP';exact hP') (λb o e2=>by
    have hlt:b<s₂.heap.objs.size:=by subst e;exact D1 (DU _ e2)
    refine hk'' b o (λhm=>?_) (Ek hlt) ((Ei _ _ (Nat.ne_of_gt hlt)).trans (kp hk' b o e2))
    rcases DX.mp hm with e1|hm
    ·exact absurd (e1▸D1 e2) (EF _)
    ·cases hm)
   subst e;exact this
end
end L2
namespace L2
open PySem PySem.Spec PySem.Calls PyProof.Rows PySem.W
open AutoSeq1 (wpAny_loadPart')
def P2(h:Heap)(v:Value)(p:Int×Int):Prop:=∃a n t u dd sl,v=.ref a/\h.get? a=some {cls:=.type "tuple",dict:=dd,data:=.seq #[.int p.1 t,.int p.2 u] n,slots:=sl}
section
variable {prog:Program}{w:World}{A:Around}{s:Shared}{St:Nat->Heap->Prop}{I l:Addr}{fp wr:List Addr}{n:Nat}{P:Nat->Value->Prop}{R:Result->Shared->Prop}{kw:List (Str×Value)}{Q:Value->Shared->Prop}{E:Value->Shared->Prop}
end
end L2
namespace L2
open PySem PySem.Spec PyProof.Rows
inductive D where
 |non|bl (b:Bool)|int (i:Int)|str (x:Str)|tup (ds:List D)|rol (ds:List D)|ref (a:Addr)
 |obj (i:Nat) (C:Addr) (ns:List Nat) (ds:List D)|dik (ks:List Key) (ds:List D)|dit (ks:List (List Int)) (ds:List D)
noncomputable def nQ:Nat->Nat->List Nat
 |0,_=>[]
 |k+1,n=>if n=0 then [] else (n % 128)::nQ k (n / 128)
noncomputable def fnm(n:Nat):Str:=⟨(nQ n n).toArray⟩
noncomputable def uk:List Nat->Nat
 |[]=>0
 |d::r=>d+128*uk r
theorem ja:∀(k n:Nat),n<=k->uk (nQ k n)=n
 |0,n,h=>by have:n=0:=Nat.le_zero.mp h;subst this;rfl
 |k+1,n,h=>by
  unfold nQ;by_cases z:n=0
  ·rw[DY z];exact z.symm
  ·rw[DV z];show n % 128+128*uk (nQ k (n / 128))=n;rw[ja k (n / 128) (by omega)]
   omega
theorem lc(h:fnm a=fnm b):a=b:=by
 have e:nQ a a=nQ b b:=by
  have:=congrArg (λx:Str=>x.cps.toList) h
  simpa [fnm] using this
 have:=congrArg uk e
 rwa [ja a a (DZ _),ja b b (DZ _)]at this
noncomputable def tH(k:List Int):Int:=reduceHash (Builtin.Tuple.tupleHashOf (k.map hashInt))
def ao(a:Addr)(xs:List (List Int×Addr×Value)):Heap->Prop:=λh=>∃o es ep,h.get? a=some o/\o.ExactDict/\o.data=.dict es ep/\es.toList=xs.map λx=>(⟨tH x.1,.ref x.2.1,x.2.2⟩:DictEntry)
structure TabOk (K:E7)(H:Hp)(a:Addr) (ks:List (List Int)) (xs:List (List Int×Addr×Value)) (vs:List V):Prop where
 kx:xs.map (·.1)=ks
 nd:ks.Nodup
 sz:ks.length<=sizeLine
 no:(a == sysModules)=false
 vx:Vals vs (xs.map (·.2.2))
 at_:∀x∈xs,SqT K H x.2.1 (x.1.map V.int)
def SqM(K:E7)(a:Addr)(xs:List V):Prop:=∃(its:List Value) (n:Nat),K.lookup a=some {cls:=.type "list",data:=.seq its.toArray n}/\its.length<=sizeLine/\Vals xs its
def SqF(K:E7)(H:Hp)(a:Addr)(xs:List V):Prop:=(∃o,H a=some (.frz o (.lst xs)))\/SqM K a xs
theorem SqM.sq{K:E7}(h:SqM K a xs):SqL K H a xs:=by
 obtain⟨its,n,e,z,r⟩:=h;exact .inr ⟨_,its.toArray,n,e,rfl,rfl,rfl,by simpa using z,by simpa using r⟩
theorem SqF.sq{K:E7}(h:SqF K H a xs):SqL K H a xs:=by
 rcases h with h|h
 ·exact .inl (.inr h)
 ·exact h.sq
mutual
def Den(K:E7)(H:Hp):D->V->Prop
 |.non,v=>v=.non
 |.bl b,v=>v=.bl b
 |.int i,v=>v=.int i
 |.str x,v=>v=.str x
 |.tup ds,v=>∃p vs,v=.ref p/\SqT K H p vs/\DenL K H ds vs
 |.rol ds,v=>∃p vs,v=.ref p/\SqF K H p vs/\DenL K H ds vs
 |.ref a,v=>v=.ref a
 |.obj _ C ns ds,v=>∃p vs o dx,v=.ref p/\H p=some (.frz o (.ins C dx ((ns.map fnm).zip vs)))/\ns.length=vs.length/\DenL K H ds vs
 |.dik ks ds,v=>∃p vs o,v=.ref p/\H p=some (.frz o (.dK (ks.zip vs)))/\ks.length=vs.length/\DenL K H ds vs
 |.dit ks ds,v=>∃p vs o xs,v=.ref p/\H p=some (.frz o (.ext (ao p xs)))/\TabOk K H p ks xs vs/\DenL K H ds vs
def DenL(K:E7)(H:Hp):List D->List V->Prop
 |[],vs=>vs=[]
 |d::ds,vs=>∃v r,vs=v::r/\Den K H d v/\DenL K H ds r
end
structure TM (K:E7)(H H':Hp):Prop where
 t:∀p xs,SqT K H p xs->SqT K H' p xs
 f:∀p xs,SqF K H p xs->SqF K H' p xs
 g:∀p o u,H p=some (.frz o u)->H' p=some (.frz o u)
theorem TM.refl{K:E7}(H:Hp):TM K H H:=⟨λ_ _ h=>h,λ_ _ h=>h,λ_ _ _ h=>h⟩
theorem TM.trans{K:E7}(a:TM K H H1)(b:TM K H1 H2):TM K H H2:=⟨λp xs h=>b.t p xs (a.t p xs h),λp xs h=>b.f p xs (a.f p xs h),λp o u h=>b.g p o u (a.g p o u h)⟩
theorem TM.un{K:E7}(t:∀b xs,H b=some (.tup xs)->H' b=some (.tup xs))(f:∀b o u,H b=some (.frz o u)->H' b=some (.frz o u)):TM K H H':=⟨λq xs h=>by
 rcases h with (h|⟨ob,h⟩)|h
 ·exact .inl (.inl (t _ _ h))
 ·exact .inl (.inr ⟨ob,f _ _ _ h⟩)
 ·exact .inr h,λq xs h=>by
 rcases h with ⟨ob,h⟩|h
 ·exact .inl ⟨ob,f _ _ _ h⟩
 ·exact .inr h,f⟩
theorem TM.new{K:E7}(hp:H p=none):TM K H (upd H p o):=
 .un (λb xs h=>by rw[aa (au h hp)];exact h) λb ob u h=>by rw[aa (au h hp)];exact h
theorem TM.put{K:E7}(hp:H p=some u)(h1:∀xs,u≠.tup xs)(h2:∀ob v,u≠.frz ob v):TM K H (upd H p o):=
 .un (λb xs h=>by rw[aa (cx h hp λz=>h1 _ z.symm)];exact h) λb ob u h=>by rw[aa (cx h hp λz=>h2 _ _ z.symm)];exact h
section
variable {K:E7}
mutual
theorem Den.mono(t:TM K H H'):∀{d:D}{v:V},Den K H d v->Den K H' d v
 |.non,_,h=>h
 |.bl _,_,h=>h
 |.int _,_,h=>h
 |.str _,_,h=>h
 |.ref _,_,h=>h
 |.tup ds,v,h=>by
  obtain⟨p,vs,e,s,l⟩:=h;exact⟨p,vs,e,t.t _ _ s,DenL.mono t l⟩
 |.rol ds,v,h=>by
  obtain⟨p,vs,e,s,l⟩:=h;exact⟨p,vs,e,t.f _ _ s,DenL.mono t l⟩
 |.obj i C ns ds,v,h=>by
  obtain⟨p,vs,o,dx,e,s,z,l⟩:=h;exact⟨p,vs,o,dx,e,t.g _ _ _ s,z,DenL.mono t l⟩
 |.dik ks ds,v,h=>by
  obtain⟨p,vs,o,e,s,z,l⟩:=h;exact⟨p,vs,o,e,t.g _ _ _ s,z,DenL.mono t l⟩
 |.dit ks ds,v,h=>by
  obtain⟨p,vs,o,xs,e,s,z,l⟩:=h;exact⟨p,vs,o,xs,e,t.g _ _ _ s,⟨z.kx,z.nd,z.sz,z.no,z.vx,λx hx=>t.t _ _ (z.at_ x hx)⟩,DenL.mono t l⟩
theorem DenL.mono(t:TM K H H'):∀{ds:List D}{vs:List V},DenL K H ds vs->DenL K H' ds vs
 |[],_,h=>h
 |d::ds,vs,h=>by
  obtain⟨v,r,e,a,b⟩:=h;exact⟨v,r,e,Den.mono t a,DenL.mono t b⟩
end
theorem DenL.length:∀{ds:List D}{vs:List V},DenL K H ds vs->ds.length=vs.length
 |[],_,h=>by cases h;rfl
 |d::ds,vs,h=>by
  obtain⟨v,r,rfl,_,b⟩:=h;rw[Em,Em,DenL.length b]
theorem DenL.get:∀{ds:List D}{vs:List V}{i:Nat}{d:D},DenL K H ds vs->ds[i]?=some d->∃v,vs[i]?=some v/\Den K H d v
 |[],_,_,_,_,e=>by simp at e
 |d::ds,vs,0,d',h,e=>by
  obtain⟨v,r,rfl,a,b⟩:=h;simp at e;subst e;exact⟨v,rfl,a⟩
 |d::ds,vs,i+1,d',h,e=>by
  obtain⟨v,r,rfl,a,b⟩:=h;obtain⟨u,e1,e2⟩:=DenL.get (i:=i) b (by simpa using e)
  exact⟨u,by simpa using e1,e2⟩
theorem DenL.get':∀{ds:List D}{vs:List V}{i:Nat}{v:V},DenL K H ds vs->vs[i]?=some v->∃d,ds[i]?=some d/\Den K H d v
 |[],_,_,_,h,e=>by cases h;simp at e
 |d::ds,vs,0,v',h,e=>by
  obtain⟨v,r,rfl,a,b⟩:=h;simp at e;subst e;exact⟨d,rfl,a⟩
 |d::ds,vs,i+1,v',h,e=>by
  obtain⟨v,r,rfl,a,b⟩:=h;obtain⟨u,e1,e2⟩:=DenL.get' (i:=i) b (by simpa using e)
  exact⟨u,by simpa using e1,e2⟩
theorem DenL.append:∀{ds es:List D}{vs ws:List V},DenL K H ds vs->DenL K H es ws->DenL K H (ds++es) (vs++ws)
 |[],_,_,_,h,g=>by cases h;exact g
 |d::ds,_,_,_,h,g=>by
  obtain⟨v,r,rfl,a,b⟩:=h;exact⟨v,r++_,rfl,a,DenL.append b g⟩
theorem DenL.nil:DenL K H [] []:=rfl
theorem DenL.cons(a:Den K H d v)(b:DenL K H ds vs):DenL K H (d::ds) (v::vs):=⟨v,vs,rfl,a,b⟩
theorem DenL.one(a:Den K H d v):DenL K H [d] [v]:=.cons a .nil
theorem DenL.take:∀{ds:List D}{vs:List V} (n:Nat),DenL K H ds vs->DenL K H (ds.take n) (vs.take n)
 |_,_,0,_=>rfl
 |[],_,n+1,h=>by cases h;rfl
 |d::ds,_,n+1,h=>by
  obtain⟨v,r,rfl,a,b⟩:=h;exact⟨v,r.take n,rfl,a,DenL.take n b⟩
theorem DenL.drop:∀{ds:List D}{vs:List V} (n:Nat),DenL K H ds vs->DenL K H (ds.drop n) (vs.drop n)
 |_,_,0,h=>h
 |[],_,n+1,h=>by cases h;rfl
 |d::ds,_,n+1,h=>by
  obtain⟨v,r,rfl,a,b⟩:=h;exact DenL.drop n b
theorem DenL.reverse:∀{ds:List D}{vs:List V},DenL K H ds vs->DenL K H ds.reverse vs.reverse
 |[],_,h=>by cases h;rfl
 |d::ds,_,h=>by
  obtain⟨v,r,rfl,a,b⟩:=h;rw[List.reverse_cons,List.reverse_cons];exact (DenL.reverse b).append (.one a)
theorem DenL.set(a:Den K H d v):∀{ds:List D}{vs:List V} (i:Nat),DenL K H ds vs->DenL K H (ds.set i d) (vs.set i v)
 |[],_,_,h=>by cases h;rfl
 |_::ds,_,0,h=>by
  obtain⟨_,r,rfl,_,b⟩:=h;exact⟨v,r,rfl,a,b⟩
 |e::ds,_,i+1,h=>by
  obtain⟨u,r,rfl,c,b⟩:=h;exact⟨u,_,rfl,c,DenL.set a i b⟩
theorem DenL.int_of:∀{ns:List Int}{vs:List V},DenL K H (ns.map D.int) vs->vs=ns.map V.int
 |[],_,h=>h
 |n::ns,vs,h=>by
  obtain⟨v,r,rfl,a,b⟩:=h;rw[DenL.int_of b];cases (show v=.int n from a);rfl
theorem DenL.of_int:∀{ns:List Int},DenL K H (ns.map D.int) (ns.map V.int)
 |[]=>rfl
 |n::ns=>⟨.int n,ns.map V.int,rfl,rfl,DenL.of_int⟩
end
structure XE where
 c:Nat
 pl:Option (Nat×D)
def XD(K:E7)(H:Hp)(i:XE)(dx:Option Addr):Prop:=match i.pl with
 |none=>dx=none
 |some (f,y)=>∃p o v,dx=some p/\H p=some (.frz o (.xd [(fnm f,v)]))/\Den K H y v
theorem XD.mono{K:E7}(t:TM K H H')(h:XD K H i dx):XD K H' i dx:=by
 obtain⟨c,pl⟩:=i;cases pl with
 |none=>exact h
 |some q=>
  obtain⟨p,o,v,e,g,d⟩:=h;exact⟨p,o,v,e,t.g _ _ _ g,d.mono t⟩
inductive DO where
 |lst (ds:List D)
 |dk (ks:List Key) (ds:List D)
 |dt (ks:List (List Int)) (ds:List D)
 |ins (i:Nat) (C:Addr) (ns:List Nat) (ds:List D)
 |exc (i:XE) (cls:Value)
 |stl (φ:Heap->Prop)
noncomputable abbrev MH:=Addr->Option DO
noncomputable def put(M:MH)(a:Addr)(o:DO):MH:=λb=>if b=a then some o else M b
theorem ae:put M a o a=some o:=DY rfl
theorem af(h:b≠a):put M a o b=M b:=DV h
theorem aV:put (put M a o) a u=put M a u:=by
 funext b;unfold put;split<;>rfl
def OD(K:E7)(H:Hp)(a:Addr):DO->Prop
 |.lst ds=>∃vs,H a=some (.lst vs)/\DenL K H ds vs
 |.dk ks ds=>∃vs,H a=some (.dK (ks.zip vs))/\ks.length=vs.length/\DenL K H ds vs
 |.dt ks ds=>∃vs xs,H a=some (.ext (ao a xs))/\TabOk K H a ks xs vs/\DenL K H ds vs
 |.ins _ C ns ds=>∃dx vs,H a=some (.ins C dx ((ns.map fnm).zip vs))/\ns.length=vs.length/\DenL K H ds vs
 |.exc i cls=>∃o dx,H a=some (.frz o (mS a cls dx))/\XD K H i dx
 |.stl φ=>H a=some (.ext φ)
def RelM(K:E7)(M:MH)(H:Hp):Prop:=∀a o,M a=some o->OD K H a o
noncomputable abbrev St3:=List (Option D)
def DenS(K:E7)(H:Hp)(σ3:St3)(σ:St):Prop:=σ3.length=σ.length/\∀(i:Nat)(d:D),σ3[i]?=some (some d)->∃v,σ[i]?=some (some v)/\Den K H d v
section
variable {K:E7}
theorem OD.tracked(h:OD K H a o):∃u,H a=some u:=by
 cases o with
 |lst ds=>obtain⟨_,e,_⟩:=h;exact⟨_,e⟩
 |dk ks ds=>obtain⟨_,e,_⟩:=h;exact⟨_,e⟩
 |dt ks ds=>obtain⟨_,_,e,_⟩:=h;exact⟨_,e⟩
 |ins i C ns ds=>obtain⟨_,_,e,_⟩:=h;exact⟨_,e⟩
 |exc i cls=>obtain⟨_,_,e,_⟩:=h;exact⟨_,e⟩
 |stl φ=>exact⟨_,h⟩
theorem RelM.fresh(r:RelM K M H)(hp:H p=none):M p=none:=by
 cases e:M p with
 |none=>rfl
 |some o=>
  obtain⟨u,z⟩:=(r p o e).tracked;rw[hp]at z;cases z
theorem OD.stay(t:TM K H H')(e:H' a=H a)(h:OD K H a o):OD K H' a o:=by
 cases o with
 |lst ds=>obtain⟨vs,q,l⟩:=h;exact⟨vs,e.trans q,l.mono t⟩
 |dk ks ds=>obtain⟨vs,q,n,l⟩:=h;exact⟨vs,e.trans q,n,l.mono t⟩
 |dt ks ds=>obtain⟨vs,xs,q,z,l⟩:=h;exact⟨vs,xs,e.trans q,⟨z.kx,z.nd,z.sz,z.no,z.vx,λx hx=>t.t _ _ (z.at_ x hx)⟩,l.mono t⟩
 |ins i C ns ds=>obtain⟨dx,vs,q,n,l⟩:=h;exact⟨dx,vs,e.trans q,n,l.mono t⟩
 |exc i cls=>obtain⟨o,dx,q,x⟩:=h;exact⟨o,dx,e.trans q,x.mono t⟩
 |stl φ=>exact e.trans h
theorem RelM.grow(r:RelM K M H)(hp:H p=none):RelM K M (upd H p o):=λa u e=>by
 obtain⟨x,z⟩:=(r a u e).tracked;exact (r a u e).stay (.new hp) (aa (au z hp))
theorem RelM.lay(r:RelM K M H)(hp:H p=none)(h:OD K (upd H p o) p u):RelM K (put M p u) (upd H p o):=λa x e=>by
 by_cases ha:a=p
 ·subst ha;rw[ae]at e;cases e;exact h
 ·rw[af ha]at e;exact r.grow hp a x e
theorem RelM.write(r:RelM K M H)(hp:H p=some w)(h1:∀xs,w≠.tup xs)(h2:∀ob v,w≠.frz ob v)(h:OD K (upd H p o) p u):RelM K (put M p u) (upd H p o):=λa x e=>by
 by_cases ha:a=p
 ·subst ha;rw[ae]at e;cases e;exact h
 ·rw[af ha]at e;exact (r a x e).stay (.put hp h1 h2) (aa ha)
def Sub(M' M:MH):Prop:=∀a o,M' a=some o->M a=some o
theorem RelM.sub(r:RelM K M H)(s:Sub M' M):RelM K M' H:=λa o e=>r a o (s a o e)
theorem DenS.mono(t:TM K H H')(h:DenS K H σ3 σ):DenS K H' σ3 σ:=⟨h.1,λi d e=>let ⟨v,e1,e2⟩:=h.2 i d e;⟨v,e1,e2.mono t⟩⟩
theorem DenS.set{σ3:St3}{σ:St}(h:DenS K H σ3 σ)(e:Den K H d v):DenS K H (σ3.set i (some d)) (σ.set i (some v)):=by
 refine⟨by rw[List.length_set,List.length_set];exact h.1,λj d' q=>?_⟩
 by_cases hj:i=j
 ·subst hj;rw[List.getElem?_set]at q ⊢;rw[DY rfl]at q ⊢;rw[<-h.1];split at q
  next hl=>
   cases q;exact⟨v,DY hl,e⟩
  next=>cases q
 ·rw[E0 hj]at q ⊢;exact h.2 j d' q
theorem DenS.drop{σ3:St3}{σ:St}(h:DenS K H σ3 σ):DenS K H (σ3.set i none) (σ.set i none):=by
 refine⟨by rw[List.length_set,List.length_set];exact h.1,λj d' q=>?_⟩
 by_cases hj:i=j
 ·subst hj;rw[List.getElem?_set,DY rfl]at q;split at q<;>cases q
 ·rw[E0 hj]at q ⊢;exact h.2 j d' q
theorem nM{N:List Str}{ds:List D}(h:DenL K H ds vs):DenS K H (ds.map some++List.replicate (N.length-ds.length) none) (start N vs):=by
 have hl:=h.length;refine⟨by unfold start;simp[hl],λi d e=>?_⟩
 by_cases hi:i<ds.length
 ·rw[List.getElem?_append_left (by simpa using hi),Ef]at e
  have e':ds[i]?=some d:=by
   cases q:ds[i]? with
   |none=>rw[q]at e;cases e
   |some x=>rw[q]at e;cases e;rfl
  obtain⟨v,e1,e2⟩:=h.get e';refine⟨v,?_,e2⟩;unfold start;rw[List.getElem?_append_left (by simpa [<-hl] using hi),Ef,e1]
  rfl
 ·rw[List.getElem?_append_right (by simpa using hi),List.getElem?_replicate]at e
  split at e<;>cases e
end
noncomputable abbrev VK3:=D->MH->Prop
noncomputable abbrev TE3:=St3->MH->VK3->Prop
noncomputable abbrev TT3:=St3->MH->(Bool->MH->Prop)->Prop
structure Ends3 where
 nx:St3->MH->Prop
 rt:VK3
 bk:St3->MH->Prop:=λ_ _=>False
 ct:St3->MH->Prop:=λ_ _=>False
noncomputable abbrev TS3:=Ends3->St3->MH->Prop
structure ER (K:E7)(H:Hp)(D3:Ends3)(D2:Ends):Prop where
 nx:∀σ' H' σ3' M',RelM K M' H'->DenS K H' σ3' σ'->TM K H H'->D3.nx σ3' M'->D2.nx σ' H'
 rt:∀v H' d M',Den K H' d v->RelM K M' H'->TM K H H'->D3.rt d M'->D2.rt v H'
 bk:∀σ' H' σ3' M',RelM K M' H'->DenS K H' σ3' σ'->TM K H H'->D3.bk σ3' M'->D2.bk σ' H'
 ct:∀σ' H' σ3' M',RelM K M' H'->DenS K H' σ3' σ'->TM K H H'->D3.ct σ3' M'->D2.ct σ' H'
theorem ER.mono{K:E7}(r:ER K H D3 D2)(t:TM K H H1):ER K H1 D3 D2:=
 ⟨λa b c d h1 h2 h3 h4=>r.nx a b c d h1 h2 (t.trans h3) h4,λa b c d h1 h2 h3 h4=>r.rt a b c d h1 h2 (t.trans h3) h4,λa b c d h1 h2 h3 h4=>r.bk a b c d h1 h2 (t.trans h3) h4,λa b c d h1 h2 h3 h4=>r.ct a b c d h1 h2 (t.trans h3) h4⟩
section
variable {K:E7}
theorem aX:Den K H (.int i) (.int i):=rfl
theorem bu{b:Bool}:Den K H (.bl b) (.bl b):=rfl
theorem g6:Den K H (.str x) (.str x):=rfl
theorem ip:Den K H .non .non:=rfl
theorem dW:Den K H (.ref a) (.ref a):=rfl
theorem nZ(h:SqT K H p vs)(l:DenL K H ds vs):Den K H (.tup ds) (.ref p):=⟨p,vs,rfl,h,l⟩
end
noncomputable abbrev R3:=D->D->MH->VK3->Prop
abbrev Back(K:E7)(H:Hp)(Q:VK3)(Q2:VK):Prop:=∀v H' d M',Den K H' d v->RelM K M' H'->TM K H H'->Q d M'->Q2 v H'
def Op3(X:Cx)(f:Value->Value->Sem Value)(r3:R3):Prop:=∃r2,OpR X f r2/\∀(H:Hp)(x y:D)(v u:V)(M:MH)(Q:VK3)(Q2:VK),Den X.K H x v->Den X.K H y u->RelM X.K M H->r3 x y M Q->Back X.K H Q Q2->r2 v u H Q2
def Un3(X:Cx)(f:Value->Sem Value)(r3:D->MH->VK3->Prop):Prop:=∃r2,UnR X f r2/\∀(H:Hp)(x:D)(v:V)(M:MH)(Q:VK3)(Q2:VK),Den X.K H x v->RelM X.K M H->r3 x M Q->Back X.K H Q Q2->r2 v H Q2
def qm(X:Cx)(f:Value)(r3:List D->MH->VK3->Prop):Prop:=∃r2,CallR X f r2/\∀(H:Hp)(xs:List D)(vs:List V)(M:MH)(Q:VK3)(Q2:VK),DenL X.K H xs vs->RelM X.K M H->r3 xs M Q->Back X.K H Q Q2->r2 vs H Q2
def rI3(C:Int->Int->Prop)(g:Int->Int->D):R3:=λx y M Q=>∃i j,x=.int i/\y=.int j/\C i j/\Q (g i j) M
section
variable {X:Cx}{a b c e:Expr}{ta tb tc te:TE3}{pos:Pos}
noncomputable def q3(t:TE3):TT3:=λσ M Q=>t σ M λx M1=>∃k,x=.bl k/\Q k M1
variable {tA tB':TT3}{rest:List Expr}
theorem uQ{K:E7}(h:DenL K H ds vs)(e:atI ds i=some d):∃v,atI vs i=some v/\Den K H d v:=by
 unfold atI at e ⊢;rw[<-h.length];cases q:ixN ds.length i with
 |none=>rw[q]at e;cases e
 |some j=>
  rw[q]at e;obtain⟨v,e1,e2⟩:=h.get (show ds[j]?=some d from e);exact⟨v,e1,e2⟩
def Is(M:MH)(x:D)(ds:List D):Prop:=x=.rol ds\/∃a,x=.ref a/\M a=some (.lst ds)
theorem RelM.list{K:E7}(rm:RelM K M H)(h:Is M x ds)(dv:Den K H x v):∃p vs,v=.ref p/\SqL K H p vs/\DenL K H ds vs:=by
 rcases h with rfl|⟨a,rfl,h⟩
 ·obtain⟨p,vs,e,s,l⟩:=dv;exact⟨p,vs,e,s.sq,l⟩
 ·obtain⟨vs,e,l⟩:=rm a _ h;exact⟨a,vs,dv,.of e,l⟩
def isIB:V->D->Prop:=λv d=>(∃i,v=.int i/\d=.int i)\/(∃b,v=.bl b/\d=.bl b)
theorem isIB.den{K:E7}(h:isIB v d):Den K H d v:=by
 rcases h with ⟨i,rfl,rfl⟩|⟨b,rfl,rfl⟩<;>rfl
theorem iF(h:OpR X f (rI C g))(hg:∀i j,isIB (g i j) (g3 i j)):Op3 X f (rI3 C g3):=
 ⟨_,h,λH x y v u M Q Q2 dx dy rm ⟨i,j,e1,e2,hc,q⟩ k=>by
  subst e1;subst e2;cases (show v=.int i from dx);cases (show u=.int j from dy);exact⟨i,j,rfl,rfl,hc,k _ H _ M (hg i j).den rm (.refl _) q⟩⟩
def k9(g:Int->Int->D):R3:=λx y M Q=>∃i j,x=.int i/\y=.int j/\Q (g i j) M
theorem cG(h:OpR X f (rI0 g))(hg:∀i j,isIB (g i j) (g3 i j)):Op3 X f (k9 g3):=
 ⟨_,h,λH x y v u M Q Q2 dx dy rm ⟨i,j,e1,e2,q⟩ k=>by
  subst e1;subst e2;cases (show v=.int i from dx);cases (show u=.int j from dy);exact⟨i,j,rfl,rfl,k _ H _ M (hg i j).den rm (.refl _) q⟩⟩
noncomputable def big:Nat:=2 ^ 4096
theorem nE(h:n<10 ^ 250):n<big:=D0 h (by decide +kernel)
def gA(i j:Int):Prop:=(i.natAbs<big/\j.natAbs<big)
theorem gQ{k:Int}(h:k.natAbs<big):Builtin.Int.intBits k<=2 ^ 20:=by
 unfold Builtin.Int.intBits;by_cases h0:k.natAbs=0
 ·have:k=0:=by omega
  subst this;decide
 ·have h30:k.natAbs.log2<4096:=(Nat.log2_lt h0).mpr h;split<;>omega
theorem uK:OpR X (binaryOp .Mult) (rI gA λi j=>.int (i*j)):=opI λ_ _ _ _ _ _ _ hc q=>mul_int q (.of_bits (gQ hc.1) (gQ hc.2))
def gF(_ j:Int):Prop:=0<j/\j.toNat<big
theorem ss:OpR X (binaryOp .FloorDiv) (rI gF λi j=>.int (i / j)):=opI λi j _ _ _ _ _ hc q=>by
 have h1:(0:Int)<j:=hc.1;have h2:j.toNat<big:=hc.2;refine floordiv_int (by omega) (by rw[Int.fdiv_eq_ediv_of_nonneg i (by omega)];exact q) (.inl (PyProof.noPylong_of_log2 ?_))
 have h3:j.natAbs<2 ^ 4096:=by
  have e:j.natAbs=j.toNat:=by omega
  rw[e];exact h2
 have h0:j.natAbs≠0:=by omega
 have:=(Nat.log2_lt h0).mpr h3;omega
theorem AN:Op3 X (binaryOp .Add) (k9 λi j=>.int (i+j)):=cG xW λ_ _=>.inl ⟨_,rfl,rfl⟩
theorem Ag:Op3 X (binaryOp .Sub) (k9 λi j=>.int (i-j)):=cG wo λ_ _=>.inl ⟨_,rfl,rfl⟩
theorem Ah:Op3 X (binaryOp .Mult) (rI3 gA λi j=>.int (i*j)):=iF uK λ_ _=>.inl ⟨_,rfl,rfl⟩
theorem xl:Op3 X (binaryOp .FloorDiv) (rI3 gF λi j=>.int (i / j)):=iF ss λ_ _=>.inl ⟨_,rfl,rfl⟩
theorem Ab:Op3 X (binaryOp .Mod) (rI3 (λ_ j=>0<j) λi j=>.int (i % j)):=iF vV λ_ _=>.inl ⟨_,rfl,rfl⟩
theorem zE:Op3 X (binaryOp .Pow) (rI3 qD λi j=>.int (i ^ j.toNat)):=iF xp λ_ _=>.inl ⟨_,rfl,rfl⟩
theorem zq:Op3 X (binaryOp .RShift) (rI3 (λ_ j=>0<=j) λi j=>.int (i / 2 ^ j.toNat)):=iF wu λ_ _=>.inl ⟨_,rfl,rfl⟩
theorem zH:Op3 X (binaryOp .BitAnd) (k9 λi j=>.int (Builtin.bitAnd i j)):=cG xz λ_ _=>.inl ⟨_,rfl,rfl⟩
theorem BO:Op3 X (compareOp .Lt) (k9 λi j=>.bl (decide (i<j))):=cG zA λ_ _=>.inr ⟨_,rfl,rfl⟩
theorem Bo:Op3 X (compareOp .LtE) (k9 λi j=>.bl (decide (i<=j))):=cG yS λ_ _=>.inr ⟨_,rfl,rfl⟩
theorem BX:Op3 X (compareOp .Gt) (k9 λi j=>.bl (decide (j<i))):=cG zk λ_ _=>.inr ⟨_,rfl,rfl⟩
theorem Cg:Op3 X (compareOp .GtE) (k9 λi j=>.bl (decide (j<=i))):=cG At λ_ _=>.inr ⟨_,rfl,rfl⟩
def rU3(g:Int->Int):D->MH->VK3->Prop:=λx M Q=>∃i,x=.int i/\Q (.int (g i)) M
theorem zN:Un3 X (unaryOp .USub) (rU3 λi=>-i):=⟨_,wS,λH x v M Q Q2 dx rm ⟨i,e,q⟩ k=>by
 subst e;cases (show v=.int i from dx);exact⟨i,rfl,k _ H _ M aX rm (.refl _) q⟩⟩
noncomputable def D.isN:D->Bool
 |.non=>true
 |_=>false
theorem oA{K:E7}{d:D}(h:Den K H d v):decide (v=.non)=d.isN:=by
 cases d with
 |non=>cases (show v=.non from h);rfl
 |bl b=>cases (show v=.bl b from h);rfl
 |int i=>cases (show v=.int i from h);rfl
 |str x=>cases (show v=.str x from h);rfl
 |tup ds=>obtain⟨p,vs,rfl,_⟩:=h;rfl
 |rol ds=>obtain⟨p,vs,rfl,_⟩:=h;rfl
 |ref a=>cases (show v=.ref a from h);rfl
 |obj i C ns ds=>obtain⟨p,vs,_,_,rfl,_⟩:=h;rfl
 |dik ks ds=>obtain⟨p,vs,_,rfl,_⟩:=h;rfl
 |dit ks ds=>obtain⟨p,vs,_,_,rfl,_⟩:=h;rfl
def rIs3:R3:=λx y M Q=>y=.non/\Q (.bl x.isN) M
def rIsN3:R3:=λx y M Q=>y=.non/\Q (.bl (!x.isN)) M
theorem BR:Op3 X (compareOp .Is) rIs3:=⟨_,wV,λH x y v u M Q Q2 dx dy rm ⟨e,q⟩ k=>by
 subst e;refine⟨dy,?_⟩;rw[oA dx];exact k _ H _ M bu rm (.refl _) q⟩
theorem tQ:Op3 X (compareOp .IsNot) rIsN3:=⟨_,uV,λH x y v u M Q Q2 dx dy rm ⟨e,q⟩ k=>by
 subst e;refine⟨dy,?_⟩;rw[oA dx];exact k _ H _ M bu rm (.refl _) q⟩
variable {id:String}
def rLen3:List D->MH->VK3->Prop:=λxs M Q=>∃x ds,xs=[x]/\(Is M x ds\/x=.tup ds)/\Q (.int ds.length) M
theorem zf:qm X (.builtin "len") rLen3:=⟨_,kc,λH xs vs M Q Q2 dl rm ⟨x,ds,e,h,q⟩ k=>by
 subst e;obtain⟨v,r,rfl,dv,rfl⟩:=dl;rcases h with h|rfl
 ·obtain⟨a,ys,rfl,sq,l⟩:=rm.list h dv;exact⟨a,ys,rfl,.inl sq,by rw[<-l.length];exact k _ H _ M aX rm (.refl _) q⟩
 ·obtain⟨a,ys,rfl,sq,l⟩:=dv;exact⟨a,ys,rfl,.inr sq,by rw[<-l.length];exact k _ H _ M aX rm (.refl _) q⟩⟩
def rMin3:List D->MH->VK3->Prop:=λxs M Q=>∃i j,xs=[.int i,.int j]/\Q (.int (if j<i then j else i)) M
theorem Am(hc:X.calm=true):qm X (.builtin "min") rMin3:=⟨_,pO hc,λH xs vs M Q Q2 dl rm ⟨i,j,e,q⟩ k=>by
 subst e;obtain⟨v,r,rfl,dv,w,r',rfl,dw,rfl⟩:=dl;cases (show v=.int i from dv);cases (show w=.int j from dw);exact⟨i,j,rfl,k _ H _ M aX rm (.refl _) q⟩⟩
end
abbrev BackS(K:E7)(H:Hp)(Q:St3->MH->Prop)(Q2:St->Hp->Prop):Prop:=∀σ' H' σ3' M',RelM K M' H'->DenS K H' σ3' σ'->TM K H H'->Q σ3' M'->Q2 σ' H'
section
variable {X:Cx}{st:Stmt}{rest:List Stmt}{t u:TS3}{e:Expr}{te:TE3}{pos:Pos}
structure ItOk (K:E7)(H0:Hp)(J:It)(ds:List D)(S:MH->Prop):Prop where
 go:∀(i:Nat) H M,TM K H0 H->RelM K M H->S M->i<ds.length->J.go i H
 yld:∀(i:Nat) H M x H',TM K H0 H->RelM K M H->S M->i<ds.length->J.yld i H x H'->TM K H H'/\RelM K M H'/\∃d,ds[i]?=some d/\Den K H' d x
 stop:∀H M,TM K H0 H->RelM K M H->S M->J.stop ds.length H
noncomputable def rng(lo:Int)(n:Nat):List D:=(List.range n).map λ(i:Nat)=>D.int (lo+i)
theorem dZ(lo:Int)(n:Nat):(rng lo n).length=n:=by unfold rng;rw[D5,List.length_range]
theorem xN{lo:Int}(h:i<n):(rng lo n)[i]?=some (.int (lo+i)):=by
 unfold rng;rw[Ef,List.getElem?_range h];rfl
theorem qo{K:E7}{lo:Int}:ItOk K H0 (Itr lo n) (rng lo n) (λ_=>True):=by
 refine⟨λi H M _ _ _ hi=>?_,λi H M x H' _ rm _ hi y=>?_,λH M _ _ _=>?_⟩
 ·rw[dZ]at hi;exact hi
 ·rw[dZ]at hi;obtain⟨e,y⟩:=y;subst e;subst y;exact⟨.refl _,rm,_,xN hi,rfl⟩
 ·rw[dZ];exact DZ _
end
section
variable {K:E7}
end
section
variable {X:Cx}
end
noncomputable abbrev XN:=XE->MH->Prop
noncomputable def del(M:MH)(a:Addr):MH:=λb=>if b=a then none else M b
theorem kz(h:M a=none):del (put M a o) a=M:=by
 funext b;unfold del put;by_cases e:b=a
 ·subst e;rw[DY rfl,h]
 ·rw[DV e,DV e]
theorem g5(h:del M a b=some o):b≠a/\M b=some o:=by
 unfold del at h;split at h
 ·cases h
 ·exact⟨by assumption,h⟩
noncomputable def ak(M M':MH):MH:=λa=>match M a with
 |some _=>M' a
 |none=>none
theorem jE(h:ak M M' a=some o):M' a=some o:=by
 unfold ak at h;split at h
 ·exact h
 ·cases h
noncomputable def kp(b:Bool)(M M':MH):MH:=if b=true then ak M M' else M'
theorem sN(h:kp b M M' a=some o):M' a=some o:=by
 cases b with
 |true=>exact jE h
 |false=>exact h
inductive BI where
 |len  |min  |list (fz:Bool)  |all  |any
inductive BM where
 |get  |extend  |cleard
inductive BT where
 |int|bool|str|tuple|list|dict
mutual
inductive IE where
 |var (i:Nat)
 |con (d:D)
 |bin (op:Operator) (a b:IE)
 |neg (a:IE)
 |cat (fz:Bool) (a b:IE)
 |cmp (op:CmpOp) (a b:IE)
 |and (a b:IE)
 |or (a b:IE)
 |not (a:IE)
 |ifx (c:IT) (a b:IE)
 |tup (es:IA)
 |lst (fz:Bool) (es:IA)
 |frz (e:IE)
 |ix (a b:IE)
 |sl (fz:Bool) (a:IE) (lo hi:IO)
 |call (f:Nat) (es:IA)
 |bi (b:BI) (es:IA)
 |isB (e:IE) (t:BT)
 |mm (mx dflt:Bool) (e:IE)
 |dctT (k v:IE)
 |comp (fz:Bool) (N:List Str) (js:List (Option Nat)) (tg:ITg) (it:II) (cond:ITO) (elt:IE)
 |compT (N:List Str) (js:List (Option Nat)) (tg:ITg) (o:IE) (cond:ITO) (elt:IE)
 |mmz (mx:Bool) (e:IE)
 |fld (e:IE) (f:Nat)
 |make (fz:Bool) (i:Nat) (es:IA)
 |meth (e:IE) (m:Nat) (es:IA)
 |methS (k:Nat) (e:IE) (m:Nat) (es:IA)
 |bm (b:BM) (o:IE) (es:IA)
 |dnew (tk:Bool)
 |lrev (fz:Bool) (a:IE)
inductive IT where
 |val (e:IE)|cmp (op:CmpOp) (a b:IE)|chain (op op':CmpOp) (a b c:IE)|chain3 (op op' op'':CmpOp) (a b c d:IE)|and (a b:IT)|or (a b:IT)|not (a:IT)
inductive IA where
 |nil|cons (e:IE) (r:IA)
inductive IO where
 |no|yes (e:IE)
inductive ITO where
 |no|yes (e:IT)
inductive II where
 |seq (e:IE)
 |rng1 (a:IE)
 |rng2 (a b:IE)
inductive ITg where
 |name (i:Nat)|tup (is:List Nat)
end
mutual
inductive IS where
 |set (i:Nat) (e:IE)
 |expr (e:IE)
 |ret (e:IE)
 |retN
 |ifs (c:IT) (a b:ISs)
 |for_ (tg:ITg) (it:II) (body:ISs)
 |whl (c:IT) (body:ISs)
 |raise (c:Nat) (es:IA)
 |raiseI (c:Nat) (es:IA)
 |try_ (body:ISs) (hs:IHs)
 |app (o e:IE)
 |del (i:Nat)
 |fset (o:IE) (f:Nat) (e:IE)
 |ixset (o i e:IE)
 |dead
 |forK (tg:ITg) (o:IE) (body:ISs)
 |forD (tg:ITg) (o:IE) (body:ISs)
inductive ISs where
 |nil|cons (s:IS) (r:ISs)
inductive IHs where
 |nil|cons (c:Nat) (nm:Option Nat) (body:ISs) (r:IHs)
end
noncomputable def ah(M:MH):D->Option (List D)
 |.rol ds=>some ds
 |.ref a=>match M a with
  |some (.lst ds)=>some ds
  |_=>none
 |_=>none
noncomputable def aT(M:MH):D->Option (List D)
 |.tup ds=>some ds
 |x=>ah M x
noncomputable def res(M:MH)(x:D):D:=match ah M x with
 |some ds=>.rol ds
 |none=>x
def c8(fz:Bool)(ds:List D)(M:MH)(Q:VK3):Prop:=ds.length<=sizeLine/\if fz=true then Q (.rol ds) M else ∀p,M p=none->Q (.ref p) (put M p (.lst ds))
noncomputable def plN:Nat->D->Bool
 |_,.ref _=>false
 |n,.tup ds=>match n with
  |0=>false
  |m+1=>ds.all (plN m)
 |n,.rol ds=>match n with
  |0=>false
  |m+1=>ds.all (plN m)
 |_,.obj _ _ _ _=>false
 |_,.dik _ _=>false
 |_,.dit _ _=>false
 |_,_=>true
noncomputable abbrev pl(x:D):Bool:=plN 8 x
noncomputable abbrev pls(ds:List D):Bool:=ds.all (plN 8)
mutual
noncomputable def eqD:D->D->Bool
 |.non,y=>match y with
  |.non=>true
  |_=>false
 |.bl a,y=>match y with
  |.bl b=>a == b
  |.int b=>decide ((if a=true then (1:Int) else 0)=b)
  |_=>false
 |.int a,y=>match y with
  |.int b=>decide (a=b)
  |.bl b=>decide (a=if b=true then (1:Int) else 0)
  |_=>false
 |.str a,y=>match y with
  |.str b=>decide (a=b)
  |_=>false
 |.tup a,y=>match y with
  |.tup b=>bM a b
  |_=>false
 |.rol a,y=>match y with
  |.rol b=>bM a b
  |_=>false
 |.ref _,_=>false
 |.obj _ _ _ _,_=>false
 |.dik _ _,_=>false
 |.dit _ _,_=>false
noncomputable def bM:List D->List D->Bool
 |[],y=>match y with
  |[]=>true
  |_=>false
 |a::r,y=>match y with
  |b::t=>eqD a b&&bM r t
  |_=>false
end
def rII(C:Int->Int->Prop)(g:Int->Int->D)(x y:D)(M:MH)(Q:VK3):Prop:=match x,y with
 |.int i,.int j=>C i j/\Q (g i j) M
 |_,_=>False
def rI2(g:Int->Int->D)(x y:D)(M:MH)(Q:VK3):Prop:=match x,y with
 |.int i,.int j=>Q (g i j) M
 |_,_=>False
def rF(x y:D)(M:MH)(Q:VK3):Prop:=match x,y with
 |.int i,.int j=>Q (.int (i+j)) M
 |.str a,.str b=>a.length+b.length<=sizeLine/\Q (.str (a++b)) M
 |.tup a,.tup b=>a.length+b.length<=sizeLine/\Q (.tup (a++b)) M
 |_,_=>False
noncomputable def kW(z:Str)(n:Int):Str:=if n<1 then Str.empty else if (n == 1||z.length == 0)=true then z else⟨(List.replicate n.toNat z.cps).foldl (·++·) #[]⟩
def sU(x y:D)(M:MH)(Q:VK3):Prop:=match x,y with
 |.int i,.int j=>gA i j/\Q (.int (i*j)) M
 |.str z,.int n=>(0<=n/\n<=100000/\z.length<=10)/\Q (.str (kW z n)) M
 |_,_=>False
def kA:Operator->D->D->MH->VK3->Prop
 |.Add=>rF
 |.Sub=>rI2 λi j=>.int (i-j)
 |.Mult=>sU
 |.FloorDiv=>rII gF λi j=>.int (i / j)
 |.Mod=>rII (λ_ j=>0<j) λi j=>.int (i % j)
 |.Pow=>rII qD λi j=>.int (i ^ j.toNat)
 |.RShift=>rII (λ_ j=>0<=j) λi j=>.int (i / 2 ^ j.toNat)
 |.BitAnd=>rI2 λi j=>.int (Builtin.bitAnd i j)
 |_=>λ_ _ _ _=>False
def rNeg(x:D)(M:MH)(Q:VK3):Prop:=match x with
 |.int i=>Q (.int (-i)) M
 |_=>False
def iN(fz:Bool)(x y:D)(M:MH)(Q:VK3):Prop:=match ah M x,ah M y with
 |some a,some b=>c8 fz (a++b) M Q
 |_,_=>match x,y with
  |.tup a,.tup b=>a.length+b.length<=sizeLine/\Q (.tup (a++b)) M
  |_,_=>False
noncomputable def rs(M:MH)(x:D):D:=match ah M x with
 |some ds=>.rol (if pls ds=true then ds else ds.map (res M))
 |none=>x
def kN(neg:Bool)(x y:D)(M:MH)(Q:VK3):Prop:=pl (rs M x)=true/\pl (rs M y)=true/\Q (.bl (neg ^^ eqD (rs M x) (rs M y))) M
def pe(neg:Bool)(x y:D)(M:MH)(Q:VK3):Prop:=match y with
 |.non=>Q (.bl (neg ^^ x.isN)) M
 |.bl b=>match x with
  |.bl a=>Q (.bl (neg ^^ (a == b))) M
  |.non=>Q (.bl neg) M
  |_=>False
 |_=>False
noncomputable def xG:D->Option Key
 |.int i=>some (.inl i)
 |.str s=>some (.inr s)
 |_=>none
noncomputable def bX:List D->Option (List Int)
 |[]=>some []
 |.int i::r=>match bX r with
  |some ns=>some (i::ns)
  |none=>none
 |_::_=>none
noncomputable def sP:D->Option (List Int)
 |.tup es=>bX es
 |_=>none
noncomputable def getD[DecidableEq κ]:List κ->List D->κ->Option D
 |k::ks,d::ds,x=>if k=x then some d else getD ks ds x
 |_,_,_=>none
noncomputable def ai[DecidableEq κ]:List κ->κ->List κ
 |[],x=>[x]
 |k::ks,x=>if k=x then k::ks else k::ai ks x
noncomputable def aR[DecidableEq κ]:List κ->List D->κ->D->List D
 |k::ks,d::ds,x,y=>if k=x then y::ds else d::aR ks ds x y
 |_,_,_,y=>[y]
noncomputable def gV(M:MH):D->Option (List Key×List D)
 |.dik ks ds=>some (ks,ds)
 |.ref a=>match M a with
  |some (.dk ks ds)=>some (ks,ds)
  |_=>none
 |_=>none
noncomputable def d5(M:MH):D->Option (List (List Int)×List D)
 |.dit ks ds=>some (ks,ds)
 |.ref a=>match M a with
  |some (.dt ks ds)=>some (ks,ds)
  |_=>none
 |_=>none
noncomputable def hJ(M:MH)(x y:D):Option (Option D):=match gV M x with
 |some (ks,ds)=>match xG y with
  |some k=>some (getD ks ds k)
  |none=>none
 |none=>match d5 M x with
  |some (ks,ds)=>match sP y with
   |some k=>some (getD ks ds k)
   |none=>none
  |none=>none
noncomputable def Ao(a b:Str):Bool:=!(Builtin.Str.occurrences b a 0 b.length 1).isEmpty
noncomputable def vH(z:Str)(i:Nat):Str:=⟨#[z.cps.getD i 0]⟩
noncomputable def gy(z:Str):List D:=z.cps.toList.map λc=>.str ⟨#[c]⟩
def pP(neg:Bool)(x y:D)(M:MH)(Q:VK3):Prop:=match aT M y with
 |some ds=>pl (res M x)=true/\pls ds=true/\Q (.bl (neg ^^ ds.any λd=>eqD d (res M x))) M
 |none=>match hJ M y x with
  |some o=>Q (.bl (neg ^^ o.isSome)) M
  |none=>match x,y with
   |.str a,.str b=>Q (.bl (neg ^^ Ao a b)) M
   |_,_=>False
def aG:CmpOp->D->D->MH->VK3->Prop
 |.Eq=>kN false
 |.NotEq=>kN true
 |.Lt=>rI2 λi j=>.bl (decide (i<j))
 |.LtE=>rI2 λi j=>.bl (decide (i<=j))
 |.Gt=>rI2 λi j=>.bl (decide (j<i))
 |.GtE=>rI2 λi j=>.bl (decide (j<=i))
 |.Is=>pe false
 |.IsNot=>pe true
 |.In=>pP false
 |.NotIn=>pP true
def ar(x y:D)(M:MH)(Q:VK3):Prop:=match aT M x with
 |some ds=>match y with
  |.int i=>match atI ds i with
   |some d=>Q d M
   |none=>False
  |_=>False
 |none=>match hJ M x y with
  |some (some d)=>Q d M
  |some none=>False
  |none=>match x,y with
   |.str z,.int i=>(0<=i/\i<z.length/\i<2 ^ 63)/\Q (.str (vH z i.toNat)) M
   |_,_=>False
noncomputable def jo(xs:List D)(lo hi:Option Int):List D:=(xs.drop (HT.sIx xs.length 0 lo)).take (HT.sIx xs.length xs.length hi-HT.sIx xs.length 0 lo)
noncomputable def whole(n:Nat)(lo hi:Option Int):Bool:=HT.sIx n 0 lo == 0&&HT.sIx n n hi == n
def pQ(fz:Bool)(x:D)(lo hi:Option Int)(M:MH)(Q:VK3):Prop:=match x with
 |.tup ds=>whole ds.length lo hi=false/\Q (.tup (jo ds lo hi)) M
 |.str z=>z.length<=sizeLine/\Q (.str (Txt.slice z lo hi)) M
 |x=>match ah M x with
  |some ds=>c8 fz (jo ds lo hi) M Q
  |none=>False
noncomputable def dO:List D->Option (List Bool)
 |[]=>some []
 |.bl i::r=>match dO r with
  |some ns=>some (i::ns)
  |none=>none
 |_::_=>none
noncomputable def isLstM(x:D)(M:MH):Bool:=match x with
 |.ref a=>match M a with
  |some (.lst _)=>true
  |_=>false
 |_=>false
noncomputable def vk(n:Nat)(i:Int):Nat:=if i<0 then (i+n).toNat else min i.toNat n
noncomputable def tyB:BM->D->MH->Bool
 |.get,x,M=>(gV M x).isSome||(d5 M x).isSome
 |.extend,x,M=>isLstM x M
 |.cleard,x,M=>(gV M x).isSome||(d5 M x).isSome
def rBm:BM->D->List D->MH->VK3->Prop
 |.get,x,ys,M,Q=>match ys with
  |[y]=>match hJ M x y with
   |some o=>Q (o.getD .non) M
   |none=>False
  |[y,z]=>match hJ M x y with
   |some o=>Q (o.getD z) M
   |none=>False
  |_=>False
 |.extend,x,ys,M,Q=>match x,ys with
  |.ref a,[y]=>match M a,ah M y with
   |some (.lst ds),some es=>ds.length+es.length<=sizeLine/\Q .non (put M a (.lst (ds++es)))
   |_,_=>False
  |_,_=>False
 |.cleard,x,ys,M,Q=>match x,ys with
  |.ref a,[]=>match M a with
   |some (.dt _ _)=>Q .non (put M a (.dt [] []))
   |_=>False
  |_,_=>False
noncomputable def c6(k:List Int):D:=.tup (k.map D.int)
def rBi:BI->List D->MH->VK3->Prop
 |.len,xs,M,Q=>match xs with
  |[x]=>match aT M x with
   |some ds=>Q (.int ds.length) M
   |none=>match d5 M x with
    |some (ks,_)=>Q (.int ks.length) M
    |none=>match x with
     |.str z=>z.length<=sizeLine/\Q (.int z.length) M
     |_=>False
  |_=>False
 |.min,xs,M,Q=>match xs with
  |[.int i,.int j]=>Q (.int (if j<i then j else i)) M
  |_=>False
 |.list fz,xs,M,Q=>match xs with
  |[x]=>match aT M x with
   |some ds=>c8 fz ds M Q
   |none=>match d5 M x with
    |some (ks,_)=>c8 fz (ks.map c6) M Q
    |none=>False
  |_=>False
 |.all,xs,M,Q=>match xs with
  |[x]=>match ah M x with
   |some ds=>match dO ds with
    |some bs=>Q (.bl (bs.all id)) M
    |none=>False
   |none=>False
  |_=>False
 |.any,xs,M,Q=>match xs with
  |[x]=>match ah M x with
   |some ds=>match dO ds with
    |some bs=>Q (.bl (bs.any id)) M
    |none=>False
   |none=>False
  |_=>False
def iB(t:BT)(x:D)(M:MH)(Q:VK3):Prop:=match x with
 |.non=>Q (.bl false) M
 |.bl _=>Q (.bl (match t with|.int=>true|.bool=>true|_=>false)) M
 |.int _=>Q (.bl (match t with|.int=>true|_=>false)) M
 |.str _=>Q (.bl (match t with|.str=>true|_=>false)) M
 |.tup _=>Q (.bl (match t with|.tuple=>true|_=>false)) M
 |.rol _=>Q (.bl (match t with|.list=>true|_=>false)) M
 |.ref a=>match M a with
  |some (.lst _)=>Q (.bl (match t with|.list=>true|_=>false)) M
  |some (.dk _ _)=>Q (.bl (match t with|.dict=>true|_=>false)) M
  |some (.dt _ _)=>Q (.bl (match t with|.dict=>true|_=>false)) M
  |_=>False
 |.dik _ _=>Q (.bl (match t with|.dict=>true|_=>false)) M
 |.dit _ _=>Q (.bl (match t with|.dict=>true|_=>false)) M
 |.obj _ _ _ _=>False
noncomputable def gD:List D->Option (List Int)
 |[]=>some []
 |.int i::r=>match gD r with
  |some ns=>some (i::ns)
  |none=>none
 |_::_=>none
noncomputable def mmI(mx:Bool)(a b:Int):Int:=if mx=true then (if b > a then b else a) else (if b<a then b else a)
def rMM(mx dflt:Bool)(x:D)(M:MH)(Q:VK3):Prop:=match ah M x with
 |some ds=>match gD ds with
  |some []=>dflt=true/\Q .non M
  |some (n::ns)=>Q (.int (ns.foldl (mmI mx) n)) M
  |none=>False
 |none=>False
def lz(mx:Bool)(x:D)(M:MH)(Q:VK3):Prop:=match ah M x with
 |some ds=>match gD ds with
  |some []=>Q (.int 0) M
  |some (n::ns)=>Q (.int (ns.foldl (mmI mx) n)) M
  |none=>False
 |none=>False
def fg(p:Addr)(x y:D)(M:MH)(Q:VK3):Prop:=match sP x with
 |some k=>M p=some (.dt [] [])/\Q (.ref p) (put M p (.dt [k] [y]))
 |none=>False
structure WB where
 ne:Nat
 cls:Nat->Addr
 sub:Nat->Nat->Bool
 nk:Nat
 kls:Nat->Addr
 ksub:Nat->Nat->Bool
 fok:Nat->Nat->Bool
 mth:Nat->Nat->Option Nat
 ini:Nat->Option Nat
 xin:Nat->Option Nat
 glo:Nat->D
 fad:Nat->Addr
 tw:Nat->Option Nat:=λ_=>none
structure WC extends WB where
 call:Nat->List D->MH->VK3->XN->Prop
noncomputable def bG(f:Nat):List Nat->List D->Option D
 |n::ns,d::ds=>if n=f then some d else bG f ns ds
 |_,_=>none
noncomputable def cD(f:Nat):List Nat->List Nat
 |n::ns=>if n=f then n::ns else n::cD f ns
 |[]=>[f]
noncomputable def cW(f:Nat)(y:D):List Nat->List D->List D
 |n::ns,d::ds=>if n=f then y::ds else d::cW f y ns ds
 |_,_=>[y]
def mL(f:Nat)(ns:List Nat)(ds:List D)(M:MH)(Q:VK3):Prop:=match bG f ns ds with
 |some d=>Q d M
 |none=>False
def lh(B:WB)(f:Nat)(x:D)(M:MH)(Q:VK3):Prop:=match x with
 |.obj i C ns ds=>(C=B.kls i/\i<B.nk/\B.fok i f=true)/\mL f ns ds M Q
 |.ref a=>match M a with
  |some (.ins i C ns ds)=>(C=B.kls i/\i<B.nk/\B.fok i f=true)/\mL f ns ds M Q
  |_=>False
 |_=>False
def fO(o:Option Nat)(R:Nat->Prop):Prop:=match o with
 |some f=>R f
 |none=>False
def fh(B:WB)(m:Nat)(x:D)(M:MH)(R:Nat->Prop):Prop:=match x with
 |.obj i C ns ds=>(C=B.kls i/\i<B.nk/\bG m ns ds=none)/\fO (B.mth i m) R
 |.ref a=>match M a with
  |some (.ins i C ns ds)=>(C=B.kls i/\i<B.nk/\bG m ns ds=none)/\fO (B.mth i m) R
  |_=>False
 |_=>False
def eU(Q:VK3):VK3:=λx M=>match x with
 |.ref a=>match M a with
  |some (.lst ds)=>Q (.rol ds) (del M a)
  |_=>False
 |_=>False
def ij:List D->MH->(List D->MH->Prop)->Prop
 |[],M,R=>R [] M
 |d::ds,M,R=>match d with
  |.ref a=>match M a with
   |some (.lst es)=>ij ds (del M a) λr M'=>R (.rol es::r) M'
   |some (.dk ks es)=>ij ds (del M a) λr M'=>R (.dik ks es::r) M'
   |some (.dt ks es)=>ij ds (del M a) λr M'=>R (.dit ks es::r) M'
   |_=>ij ds M λr M'=>R (.ref a::r) M'
  |d=>ij ds M λr M'=>R (d::r) M'
def ck(Q:VK3):VK3:=λx M=>match x with
 |.ref a=>match M a with
  |some (.lst ds)=>Q (.rol ds) (del M a)
  |some (.dk ks ds)=>Q (.dik ks ds) (del M a)
  |some (.dt ks ds)=>Q (.dit ks ds) (del M a)
  |some (.ins i C ns ds)=>ij ds (del M a) λr M'=>Q (.obj i C ns r) M'
  |_=>False
 |_=>False
def wpG:ITg->D->St3->MH->(St3->MH->Prop)->Prop
 |.name i,d,σ,M,Q=>Q (σ.set i (some d)) M
 |.tup is,d,σ,M,Q=>match d with
  |.tup ds=>ds.length=is.length/\Q ((is.zip ds).foldl (λσ p=>σ.set p.1 (some p.2)) σ) M
  |_=>False
noncomputable def ay(js:List (Option Nat))(σ:St3):St3:=js.map λo=>o.bind λj=>(σ[j]?).bind id
def bv(g:D->St3->MH->(St3->MH->Prop)->Prop)(tt:St3->MH->(Bool->MH->Prop)->Prop)(te:St3->MH->VK3->Prop)(S:MH->Prop)(p:Addr)(Q:VK3):List D->List D->St3->MH->Prop
 |[],_,_,M=>S M/\Q (.ref p) M
 |d::r,ys,σ,M=>S M/\ys.length<sizeLine/\g d σ M λσ2 M2=>tt σ2 M2 λb M3=>if b=true then te σ2 M3 λy M4=>M4 p=some (.lst ys)/\bv g tt te S p Q r (ys++[y]) σ2 (put M4 p (.lst (ys++[y]))) else bv g tt te S p Q r ys σ2 M3
def bo(x k y:D)(M:MH)(R:MH->Prop):Prop:=match x with
 |.ref a=>match M a,k with
  |some (.lst ds),.int i=>(match ixN ds.length i with
   |some j=>R (put M a (.lst (ds.set j y)))
   |none=>False)
  |some (.dk ks ds),k=>(match xG k with
   |some q=>ks.length<sizeLine/\R (put M a (.dk (ai ks q) (aR ks ds q y)))
   |none=>False)
  |some (.dt ks ds),k=>(match sP k with
   |some q=>ks.length<sizeLine/\R (put M a (.dt (ai ks q) (aR ks ds q y)))
   |none=>False)
  |_,_=>False
 |_=>False
noncomputable def aj(ks:List (List Int))(ds:List D):List D:=(ks.zip ds).map λp=>.tup [.tup (p.1.map D.int),p.2]
noncomputable def cpF(f:Nat):Bool:=f == 217822450
def rXp(f:Nat)(y:D)(M:MH)(R:D->Prop):Prop:=if cpF f=true then (match ah M y with
 |some ds=>R (.rol ds)
 |none=>False) else R y
def rLr(fz:Bool)(x:D)(M:MH)(Q:VK3):Prop:=match ah M x with
 |some ds=>c8 fz ds.reverse M Q
 |none=>False
def dm(x:D)(M:MH)(R:Addr->List (List Int)->List D->Prop):Prop:=match x with
 |.ref d=>match M d with
  |some (.dt ks es)=>R d ks es
  |_=>False
 |_=>False
noncomputable def f8(d:Addr)(φ:Heap->Prop)(ks:List (List Int))(es:List D)(D:Ends3):Ends3:=
 ⟨λσ M=>M d=some (.stl φ)/\D.nx σ (put M d (.dt ks es)),λv M=>M d=some (.stl φ)/\D.rt v (put M d (.dt ks es)),λσ M=>M d=some (.stl φ)/\D.bk σ (put M d (.dt ks es)),λσ M=>M d=some (.stl φ)/\D.ct σ (put M d (.dt ks es))⟩
section
variable (W:WC)
mutual
def wpE:IE->St3->MH->VK3->XN->Prop
 |.var i,σ,M,Q,_=>match σ[i]? with
  |some (some d)=>Q d M
  |_=>False
 |.con d,_,M,Q,_=>Q d M
 |.bin op a b,σ,M,Q,E=>wpE a σ M (λx M1=>wpE b σ M1 (λy M2=>kA op x y M2 Q) E) E
 |.neg a,σ,M,Q,E=>wpE a σ M (λx M1=>rNeg x M1 Q) E
 |.cat fz a b,σ,M,Q,E=>wpE a σ M (λx M1=>wpE b σ M1 (λy M2=>iN fz x y M2 Q) E) E
 |.cmp op a b,σ,M,Q,E=>wpE a σ M (λx M1=>wpE b σ M1 (λy M2=>aG op x y M2 Q) E) E
 |.and a b,σ,M,Q,E=>wpE a σ M (λx M1=>match x with
  |.bl c=>if c=true then wpE b σ M1 Q E else Q (.bl false) M1
  |_=>False) E
 |.or a b,σ,M,Q,E=>wpE a σ M (λx M1=>match x with
  |.bl c=>if c=true then Q (.bl true) M1 else wpE b σ M1 Q E
  |_=>False) E
 |.not a,σ,M,Q,E=>wpE a σ M (λx M1=>match x with
  |.bl c=>Q (.bl (!c)) M1
  |_=>False) E
 |.ifx c a b,σ,M,Q,E=>wpT c σ M (λk M1=>if k=true then wpE a σ M1 Q E else wpE b σ M1 Q E) E
 |.tup es,σ,M,Q,E=>wpA es σ M (λxs M1=>xs.length<=sizeLine/\Q (.tup xs) M1) E
 |.lst fz es,σ,M,Q,E=>wpA es σ M (λxs M1=>c8 fz xs M1 Q) E
 |.frz e,σ,M,Q,E=>wpE e σ M (ck Q) E
 |.ix a b,σ,M,Q,E=>wpE a σ M (λx M1=>wpE b σ M1 (λy M2=>ar x y M2 Q) E) E
 |.sl fz a lo hi,σ,M,Q,E=>wpE a σ M (λx M1=>wpO lo σ M1 (λl M2=>wpO hi σ M2 (λh M3=>pQ fz x l h M3 Q) E) E) E
 |.call f es,σ,M,Q,E=>wpA es σ M (λxs M1=>W.call f xs M1 Q E) E
 |.bi b es,σ,M,Q,E=>wpA es σ M (λxs M1=>rBi b xs M1 Q) E
 |.isB e t,σ,M,Q,E=>wpE e σ M (λx M1=>iB t x M1 Q) E
 |.mm mx dflt e,σ,M,Q,E=>wpE e σ M (λx M1=>rMM mx dflt x M1 Q) E
 |.dctT k v,σ,M,Q,E=>∀p,M p=none->wpE k σ (put M p (.dt [] [])) (λx M1=>wpE v σ M1 (λy M2=>fg p x y M2 Q) E) E
 |.comp fz _ js tg it cond elt,σ,M,Q,E=>wpI it σ M (λds S M1=>∀p,M1 p=none->
   bv (wpG tg) (λσ M Q=>fZ cond σ M Q (λ_ _=>False)) (λσ M Q=>wpE elt σ M Q (λ_ _=>False)) S p (if fz=true then eU Q else Q) ds [] (ay js σ) (put M1 p (.lst []))) E
 |.compT _ js tg o cond elt,σ,M,Q,E=>wpE o σ M (λx M1=>dm x M1 λd ks es=>∀φ p,M1 p=none->
   bv (wpG tg) (λσ M Q=>fZ cond σ M Q (λ_ _=>False)) (λσ M Q=>wpE elt σ M Q (λ_ _=>False)) (λM=>M d=some (.stl φ)) p (λy M2=>Q y (put M2 d (.dt ks es))) (aj ks es) [] (ay js σ) (put (put M1 d (.stl φ)) p (.lst []))) E
 |.mmz mx e,σ,M,Q,E=>wpE e σ M (λx M1=>lz mx x M1 Q) E
 |.fld e f,σ,M,Q,E=>wpE e σ M (λx M1=>lh W.toWB f x M1 Q) E
 |.make fz i es,σ,M,Q,E=>wpA es σ M (λxs M1=>i<W.nk/\fO (W.ini i) λf=>∀p,M1 p=none->
   W.call f (.ref p::xs) (put M1 p (.ins i (W.kls i) [] [])) (λv M2=>v=.non/\if fz=true then ck Q (.ref p) M2 else Q (.ref p) M2) (λi M'=>E i (del M' p))) E
 |.methS k e m es,σ,M,Q,E=>wpE e σ M (λx M1=>fh W.toWB m x M1 λf=>W.tw k=some f/\wpA es σ M1 (λxs M2=>W.call k (x::xs) M2 Q E) E) E
 |.meth e m es,σ,M,Q,E=>wpE e σ M (λx M1=>fh W.toWB m x M1 λf=>wpA es σ M1 (λxs M2=>W.call f (x::xs) M2 Q E) E) E
 |.bm b o es,σ,M,Q,E=>wpE o σ M (λx M1=>tyB b x M1=true/\wpA es σ M1 (λxs M2=>rBm b x xs M2 Q) E) E
 |.dnew tk,_,M,Q,_=>∀p,M p=none->Q (.ref p) (put M p (if tk=true then .dt [] [] else .dk [] []))
 |.lrev fz a,σ,M,Q,E=>wpE a σ M (λx M1=>rLr fz x M1 Q) E
def wpT:IT->St3->MH->(Bool->MH->Prop)->XN->Prop
 |.val e,σ,M,Q,E=>wpE e σ M (λx M1=>match x with
  |.bl k=>Q k M1
  |_=>False) E
 |.cmp op a b,σ,M,Q,E=>wpE a σ M (λx M1=>wpE b σ M1 (λy M2=>aG op x y M2 λr M3=>match r with
  |.bl k=>Q k M3
  |_=>False) E) E
 |.chain op op' a b c,σ,M,Q,E=>wpE a σ M (λx M1=>wpE b σ M1 (λy M2=>aG op x y M2 λr M3=>match r with
  |.bl k=>if k=true then wpE c σ M3 (λz M4=>aG op' y z M4 λr M5=>match r with
   |.bl k=>Q k M5
   |_=>False) E else Q false M3
  |_=>False) E) E
 |.chain3 op op' op'' a b c d,σ,M,Q,E=>wpE a σ M (λx M1=>wpE b σ M1 (λy M2=>aG op x y M2 λr M3=>match r with
  |.bl k=>if k=true then wpE c σ M3 (λz M4=>aG op' y z M4 λr M5=>match r with
   |.bl k=>if k=true then wpE d σ M5 (λu M6=>aG op'' z u M6 λr M7=>match r with
    |.bl k=>Q k M7
    |_=>False) E else Q false M5
   |_=>False) E else Q false M3
  |_=>False) E) E
 |.and a b,σ,M,Q,E=>wpT a σ M (λc M1=>if c=true then wpT b σ M1 Q E else Q false M1) E
 |.or a b,σ,M,Q,E=>wpT a σ M (λc M1=>if c=true then Q true M1 else wpT b σ M1 Q E) E
 |.not a,σ,M,Q,E=>wpT a σ M (λc M1=>Q (!c) M1) E
def wpA:IA->St3->MH->(List D->MH->Prop)->XN->Prop
 |.nil,_,M,Q,_=>Q [] M
 |.cons e r,σ,M,Q,E=>wpE e σ M (λx M1=>wpA r σ M1 (λxs M2=>Q (x::xs) M2) E) E
def wpO:IO->St3->MH->(Option Int->MH->Prop)->XN->Prop
 |.no,_,M,Q,_=>Q none M
 |.yes e,σ,M,Q,E=>wpE e σ M (λx M1=>match x with
  |.int i=>Q (some i) M1
  |_=>False) E
def fZ:ITO->St3->MH->(Bool->MH->Prop)->XN->Prop
 |.no,_,M,Q,_=>Q true M
 |.yes e,σ,M,Q,E=>wpT e σ M Q E
def wpI:II->St3->MH->(List D->(MH->Prop)->MH->Prop)->XN->Prop
 |.seq e,σ,M,R,E=>wpE e σ M (λx M1=>match x with
  |.tup ds=>R ds (λ_=>True) M1
  |.rol ds=>R ds (λ_=>True) M1
  |.ref a=>match M1 a with
   |some (.lst ds)=>R ds (λM=>M a=some (.lst ds)) M1
   |_=>False
  |.str z=>R (gy z) (λ_=>True) M1
  |_=>False) E
 |.rng1 a,σ,M,R,E=>wpE a σ M (λx M1=>match x with
  |.int j=>-(2 ^ 62)<=j/\j<2 ^ 62/\R (rng 0 j.toNat) (λ_=>True) M1
  |_=>False) E
 |.rng2 a b,σ,M,R,E=>wpE a σ M (λx M1=>wpE b σ M1 (λy M2=>match x,y with
  |.int i,.int j=>(-(2 ^ 62)<=i/\i<2 ^ 62/\-(2 ^ 62)<=j/\j<2 ^ 62)/\R (rng i (j-i).toNat) (λ_=>True) M2
  |_,_=>False) E) E
end
def bU(g:D->St3->MH->(St3->MH->Prop)->Prop)(tb:Ends3->St3->MH->Prop)(S:MH->Prop)(D:Ends3):List L2.D->St3->MH->Prop
 |[],σ,M=>S M/\D.nx σ M
 |d::r,σ,M=>S M/\g d σ M λσ2 M2=>tb {D with nx:=bU g tb S D r,ct:=bU g tb S D r,bk:=D.nx} σ2 M2
noncomputable def qV(D:Ends3)(i:Nat):Ends3:=⟨λσ M=>D.nx (σ.set i none) M,D.rt,λσ M=>D.bk (σ.set i none) M,λσ M=>D.ct (σ.set i none) M⟩
mutual
def wpS:IS->Ends3->(St3->XN)->St3->MH->Prop
 |.set i e,D,E,σ,M=>wpE W e σ M (λx M1=>D.nx (σ.set i (some x)) M1) (E σ)
 |.expr e,D,E,σ,M=>wpE W e σ M (λ_ M1=>D.nx σ M1) (E σ)
 |.ret e,D,E,σ,M=>wpE W e σ M D.rt (E σ)
 |.retN,D,_,_,M=>D.rt .non M
 |.ifs c a b,D,E,σ,M=>wpT W c σ M (λk M1=>if k=true then aw a D E σ M1 else aw b D E σ M1) (E σ)
 |.for_ tg it body,D,E,σ,M=>wpI W it σ M (λds S M1=>bU (wpG tg) (λD σ M=>aw body D E σ M) S D ds σ M1) (E σ)
 |.whl c body,D,E,σ,M=>∃P:Nat->St3->MH->Prop,(∃m,P m σ M)/\∀m σ M,P m σ M->wpT W c σ M (λb M1=>if b=true then
   aw body {D with nx:=λσ' M'=>∃m',m' < m/\P m' σ' M',ct:=λσ' M'=>∃m',m' < m/\P m' σ' M',bk:=D.nx} E σ M1 else D.nx σ M1) (E σ)
 |.raise c es,_,E,σ,M=>wpA W es σ M (λxs M1=>xs.length<=sizeLine/\E σ ⟨c,none⟩ M1) (E σ)
 |.raiseI c es,_,E,σ,M=>wpA W es σ M (λxs M1=>match xs with
  |[y]=>fO (W.xin c) λf=>rXp f y M1 λy'=>E σ ⟨c,some (f,y')⟩ M1
  |_=>False) (E σ)
 |.try_ body hs,D,E,σ,M=>aw body D (λσ' i M'=>wpH hs i D σ' M') σ M
 |.app o e,D,E,σ,M=>wpE W o σ M (λx M1=>match x with
  |.ref a=>match M1 a with
   |some (.lst _)=>wpE W e σ M1 (λy M2=>match M2 a with
    |some (.lst ds)=>ds.length<sizeLine/\D.nx σ (put M2 a (.lst (ds++[y])))
    |_=>False) (E σ)
   |_=>False
  |_=>False) (E σ)
 |.del i,D,_,σ,M=>match σ[i]? with
  |some (some (.ref a))=>D.nx σ (L2.del M a)
  |_=>False
 |.fset o f e,D,E,σ,M=>wpE W e σ M (λy M1=>wpE W o σ M1 (λx M2=>match x with
  |.ref a=>match M2 a with
   |some (.ins i C ns ds)=>(C=W.kls i/\i<W.nk/\W.fok i f=true/\ns.length<1000)/\D.nx σ (put M2 a (.ins i C (cD f ns) (cW f y ns ds)))
   |_=>False
  |_=>False) (E σ)) (E σ)
 |.ixset o i e,D,E,σ,M=>wpE W e σ M (λy M1=>wpE W o σ M1 (λx M2=>wpE W i σ M2 (λk M3=>bo x k y M3 λM4=>D.nx σ M4) (E σ)) (E σ)) (E σ)
 |.dead,_,_,_,_=>False
 |.forD tg o body,D,E,σ,M=>wpE W o σ M (λx M1=>dm x M1 λd ks es=>∀φ,bU (wpG tg) (λD σ M=>aw body D (λ_ _ _=>False) σ M) (λM=>M d=some (.stl φ)) (f8 d φ ks es D) (aj ks es) σ (put M1 d (.stl φ))) (E σ)
 |.forK tg o body,D,E,σ,M=>wpE W o σ M (λx M1=>dm x M1 λd ks es=>∀φ,bU (wpG tg) (λD σ M=>aw body D (λ_ _ _=>False) σ M) (λM=>M d=some (.stl φ)) (f8 d φ ks es D) (ks.map c6) σ (put M1 d (.stl φ))) (E σ)
def aw:ISs->Ends3->(St3->XN)->St3->MH->Prop
 |.nil,D,_,σ,M=>D.nx σ M
 |.cons s r,D,E,σ,M=>wpS s {D with nx:=λσ' M'=>aw r D E σ' M'} E σ M
def wpH:IHs->XE->Ends3->St3->MH->Prop
 |.nil,_,_,_,_=>False
 |.cons c nm body r,i,D,σ,M=>i.c<W.ne/\if W.sub i.c c=true then (match nm with
  |none=>aw body D (λ_ _ _=>False) σ M
  |some j=>∀a,M a=none->aw body (qV D j) (λ_ _ _=>False) (σ.set j (some (.ref a))) (put M a (.exc i (.ref (W.cls i.c))))) else wpH r i D σ M
end
end
def LkE(K:E7)(cls:Nat->Addr)(H:Hp)(E3:XN)(E:XK):Prop:=∀i M' H',TM K H H'->RelM K M' H'->E3 i M'->∀dx,XD K H' i dx->E (.ref (cls i.c)) dx H'
def LkS(K:E7)(cls:Nat->Addr)(H:Hp)(E3:St3->XN)(E2:St->XK):Prop:=∀σ3 σ i M' H',TM K H H'->DenS K H' σ3 σ->RelM K M' H'->E3 σ3 i M'->∀dx,XD K H' i dx->E2 σ (.ref (cls i.c)) dx H'
section
variable {K:E7}
theorem LkE.mono(h:LkE K cls H E3 E)(t:TM K H H1):LkE K cls H1 E3 E:=λi M' H' t' r q=>h i M' H' (t.trans t') r q
theorem LkS.mono(h:LkS K cls H E3 E2)(t:TM K H H1):LkS K cls H1 E3 E2:=λσ3 σ i M' H' t' d r q=>h σ3 σ i M' H' (t.trans t') d r q
theorem LkS.at(h:LkS K cls H E3 E2)(ds:DenS K H σ3 σ):LkE K cls H (E3 σ3) (E2 σ):=λi M' H' t r q=>h σ3 σ i M' H' t (ds.mono t) r q
theorem LkE.no:LkE K cls H (λ_ _=>False) E:=λ_ _ _ _ _ h=>h.elim
theorem Back.mono(h:Back K H Q Q2)(t:TM K H H1):Back K H1 Q Q2:=λv H' d M' a b c e=>h v H' d M' a b (t.trans c) e
end
section
variable (K:E7) (cls:Nat->Addr) (E2:St->XK)
noncomputable def low(t:St3->MH->VK3->XN->Prop):TE:=λσ H Q2=>∃σ3 M Q E3,RelM K M H/\DenS K H σ3 σ/\LkE K cls H E3 (E2 σ)/\t σ3 M Q E3/\Back K H Q Q2
noncomputable def bC(t:St3->MH->(Bool->MH->Prop)->XN->Prop):TT:=λσ H Q2=>∃σ3 M Q E3,RelM K M H/\DenS K H σ3 σ/\LkE K cls H E3 (E2 σ)/\t σ3 M Q E3/\∀b H' M',RelM K M' H'->TM K H H'->Q b M'->Q2 b H'
noncomputable def cU(t:St3->MH->(List D->MH->Prop)->XN->Prop):TA:=λσ H Q2=>∃σ3 M Q E3,RelM K M H/\DenS K H σ3 σ/\LkE K cls H E3 (E2 σ)/\t σ3 M Q E3/\∀vs H' ds M',DenL K H' ds vs->RelM K M' H'->TM K H H'->Q ds M'->Q2 vs H'
noncomputable def pf(t:St3->MH->(Option Int->MH->Prop)->XN->Prop):TO:=λσ H Q2=>∃σ3 M Q E3,RelM K M H/\DenS K H σ3 σ/\LkE K cls H E3 (E2 σ)/\t σ3 M Q E3/\∀o H' M',RelM K M' H'->TM K H H'->Q o M'->Q2 o H'
noncomputable def nc(t:St3->MH->(List D->(MH->Prop)->MH->Prop)->XN->Prop):TI:=λσ H R2=>∃σ3 M R E3,RelM K M H/\DenS K H σ3 σ/\LkE K cls H E3 (E2 σ)/\t σ3 M R E3/\∀J H' ds S M',ItOk K H' J ds S->RelM K M' H'->TM K H H'->R ds S M'->R2 J H'
noncomputable def aP(t:Ends3->(St3->XN)->St3->MH->Prop):TS:=λD2 σ H=>∃σ3 M D3 E3,RelM K M H/\DenS K H σ3 σ/\LkS K cls H E3 E2/\t D3 E3 σ3 M/\ER K H D3 D2
noncomputable def kn(t:D->St3->MH->(St3->MH->Prop)->Prop):TG:=λv σ H Q2=>∃d σ3 M Q,Den K H d v/\RelM K M H/\DenS K H σ3 σ/\t d σ3 M Q/\BackS K H Q Q2
end
section
variable {X:Cx}{st:Stmt}
theorem PE.imp(h:PE X e t)(f:∀σ H Q,t' σ H Q->t σ H Q):PE X e t':=λpins s σ H Q I q=>h pins s σ H Q I (f σ H Q q)
theorem PT.imp(h:PT X e t)(f:∀σ H Q,t' σ H Q->t σ H Q):PT X e t':=λpins s σ H Q I q=>h pins s σ H Q I (f σ H Q q)
theorem PW.imp(h:PW X e t)(f:∀σ H Q,t' σ H Q->t σ H Q):PW X e t':=λwhole pins s σ H Q I q=>h whole pins s σ H Q I (f σ H Q q)
theorem PA.imp(h:PA X es t)(f:∀σ H Q,t' σ H Q->t σ H Q):PA X es t':=λpos pins s σ H Q I q=>h pos pins s σ H Q I (f σ H Q q)
theorem PO.imp(h:PO X o t)(f:∀σ H Q,t' σ H Q->t σ H Q):PO X o t':=λpins s σ H Q I q=>h pins s σ H Q I (f σ H Q q)
theorem PI.imp(h:PI X tg e t)(f:∀σ H Q,t' σ H Q->t σ H Q):PI X tg e t':=λpins s σ H Q I q=>h pins s σ H Q I (f σ H Q q)
theorem PS.imp(h:PS X st t)(f:∀D σ H,t' D σ H->t D σ H):PS X st t':=λpins s σ H D I q=>h pins s σ H D I (f D σ H q)
theorem PSs.imp(h:PSs X sts t)(f:∀D σ H,t' D σ H->t D σ H):PSs X sts t':=λpins s σ H D I q=>h pins s σ H D I (f D σ H q)
theorem PG.imp(h:PG X e t)(f:∀v σ H Q,t' v σ H Q->t v σ H Q):PG X e t':=λpins s σ H v u Q I r q=>h pins s σ H v u Q I r (f v σ H Q q)
end
section
variable {X:Cx}{s:Shared}
theorem HOk.freeze(x:HOk P w H h)(e:H a=some (.lst xs)):∃o,HOk P w (upd H a (.frz o (.lst xs))) h:=by
 obtain⟨o,ho⟩:=(x a _ e).isAt;refine⟨o,λb u q=>?_⟩
 have own:∀c y,H c=some (.own y)->(upd H a (.frz o (.lst xs))) c=some (.own y):=λc y z=>by
  rw[aa (cx z e (λw=>nomatch w))];exact z
 have tup:∀c ys,H c=some (.tup ys)->(upd H a (.frz o (.lst xs))) c=some (.tup ys):=λc ys z=>by
  rw[aa (cx z e (λw=>nomatch w))];exact z
 by_cases hb:b=a
 ·subst hb;rw[ad]at q;cases q;exact⟨ho,(x b _ e).stay (λ_ _ _ q=>q) (λc z=>own c _ z) λc ys z=>tup c ys z⟩
 ·rw[aa hb]at q;exact (x b u q).stay (λ_ _ _ q=>q) (λc z=>own c _ z) λc ys z=>tup c ys z
theorem Inv.freeze(I:Inv X pins σ H s)(e:H a=some (.lst xs)):∃o,Inv X pins σ (upd H a (.frz o (.lst xs))) s:=by
 obtain⟨o,ok⟩:=I.hok.freeze e;have ne:∀b,H b=none->b≠a:=λb z=>λq=>by rw[q,e]at z;cases z
 refine⟨o,⟨I.ok,I.os,I.bare,⟨I.base.keep,I.base.slot,λb ob q n hx=>?_,I.base.there,λb ys q=>?_,λb ob u q=>?_,λb ps q=>?_⟩,I.loc,I.cell,?_,λx c z=>?_,λp hp=>?_,ok,I.len⟩⟩
 ·have z:=I.base.free b ob q n hx;rw[aa (ne b z)];exact z
 ·have z:=I.base.tups b ys q;rw[aa (cx z e (λw=>nomatch w))];exact z
 ·have z:=I.base.frzs b ob u q;rw[aa (cx z e (λw=>nomatch w))];exact z
 ·obtain⟨more,z⟩:=I.base.tbls b ps q;exact⟨more,by rw[aa (cx z e (λw=>nomatch w))];exact z⟩
 ·rw[aa (ne _ I.free)];exact I.free
 ·rw[aa (ne _ (I.freeC x c z))];exact I.freeC x c z
 ·obtain⟨p1,p2,p3⟩:=I.pin p hp;exact⟨p1,by rw[aa (ne _ p2)];exact p2,p3⟩
end
section
variable {K:E7}{xs:List V}
theorem TM.freeze(e:H a=some (.lst xs)):TM K H (upd H a (.frz o (.lst xs))):=
 .put e (λ_=>λz=>nomatch z) λ_ _=>λz=>nomatch z
theorem RelM.freeze(r:RelM K M H)(e:H a=some (.lst xs)):RelM K (del M a) (upd H a (.frz o (.lst xs))):=λb u q=>by
 obtain⟨ne,q⟩:=g5 q;exact (r b u q).stay (.freeze e) (aa ne)
theorem eE(h:DenL K H ds xs)(e:H a=some (.lst xs)):Den K (upd H a (.frz o (.lst xs))) (.rol ds) (.ref a):=⟨a,xs,rfl,.inl ⟨o,ad⟩,h.mono (.freeze e)⟩
end
theorem bR{X:Cx}
  (I:Inv X pins σ (upd H p (.lst vs)) s) (hp:H p=none) (dl:DenL X.K H ds vs)(rm:RelM X.K M H)(tm:TM X.K H0 H)(h:c8 fz ds M Q)(back:Back X.K H0 Q Q2):EP X pins σ Q2 (.ref p) s:=by
 obtain⟨_,h⟩:=h;cases fz with
 |true=>
  rw[DY rfl]at h;obtain⟨o,I2⟩:=I.freeze ad;refine⟨.ref p,_,I2,rfl,back _ _ _ _ (eE (o:=o) (dl.mono (.new hp)) ad) ?_ (tm.trans ((TM.new hp).trans (.freeze ad))) h⟩;have r2:RelM X.K (put M p (.lst ds)) (upd H p (.lst vs)):=rm.lay hp ⟨vs,ad,dl.mono (.new hp)⟩;have r3:=r2.freeze (o:=o) (xs:=vs) ad;rw[kz (rm.fresh hp)]at r3;exact r3
 |false=>
  rw[DV D8]at h;exact⟨.ref p,_,I,rfl,back _ _ _ _ dW (rm.lay (u:=.lst ds) hp ⟨vs,ad,dl.mono (.new hp)⟩) (tm.trans (.new hp)) (h p (rm.fresh hp))⟩
def RdL(K:E7)(H:Hp)(p:Addr)(vs:List V):Prop:=Rd H p (.lst vs)\/SqM K p vs
theorem RdL.sq{K:E7}(h:RdL K H p vs):SqL K H p vs:=by
 rcases h with h|h
 ·exact .inl h
 ·exact h.sq
theorem SqF.rd{K:E7}(h:SqF K H p vs):RdL K H p vs:=by
 rcases h with h|h
 ·exact .inl (.inr h)
 ·exact .inr h
theorem aJ{K:E7}(rm:RelM K M H)(h:ah M x=some ds)(dv:Den K H x v):∃p vs,v=.ref p/\RdL K H p vs/\DenL K H ds vs:=by
 cases x with
 |rol es=>
  cases (show es=ds from D9 h);obtain⟨p,vs,e,s,l⟩:=dv;exact⟨p,vs,e,s.rd,l⟩
 |ref a=>
  have h:(match M a with|some (.lst ds)=>some ds|_=>none)=some ds:=h
  split at h
  next es q=>
   cases h;obtain⟨vs,e,l⟩:=rm a _ q;exact⟨a,vs,dv,.inl (.inl e),l⟩
  next=>cases h
 |_=>cases h
theorem gj{K:E7}(rm:RelM K M H)(h:aT M x=some ds)(dv:Den K H x v):∃p vs,v=.ref p/\(SqL K H p vs\/SqT K H p vs)/\DenL K H ds vs:=by
 cases x with
 |tup es=>
  cases (show es=ds from D9 h);obtain⟨p,vs,e,s,l⟩:=dv;exact⟨p,vs,e,.inr s,l⟩
 |rol es=>obtain⟨p,vs,e,s,l⟩:=aJ rm (show ah M (.rol es)=some ds from h) dv;exact⟨p,vs,e,.inl s.sq,l⟩
 |ref a=>obtain⟨p,vs,e,s,l⟩:=aJ rm (show ah M (.ref a)=some ds from h) dv;exact⟨p,vs,e,.inl s.sq,l⟩
 |_=>cases h
theorem Inv.rdL{X:Cx}{s:Shared}{xs:List V}(I:Inv X pins σ H s)(h:RdL X.K H l xs):xs.length<=sizeLine/\∃(its:List Value) (n:Nat),Vals xs its/\xs.length=its.length/\s.heap.get? l=some {cls:=.type "list",data:=.seq its.toArray n}:=by
 rcases h with h|⟨its,n,e,z,r⟩
 ·obtain⟨z,its,n,r,e⟩:=h.ok I.hok;exact⟨z,its,n,r,r.length,e⟩
 ·exact⟨by rw[r.length];exact z,its,n,r,r.length,I.kIn _ _ e⟩
noncomputable def rq:HO->Bool
 |.lst _=>true
 |.dK _=>true
 |.dT _=>true
 |.ins _ _ _=>true
 |.ext _=>true
 |_=>false
theorem kh(h:rq u=true):(∀y,HO.own y≠u)/\(∀xs,HO.tup xs≠u)/\(∀o v,HO.frz o v≠u)/\∀ps,HO.tbl ps≠u:=by
 cases u<;>first
  |(cases h;done)
  |exact⟨λ_ z=>(by cases z),λ_ z=>(by cases z),λ_ _ z=>(by cases z),λ_ z=>(by cases z)⟩
section
variable {X:Cx}
theorem HOk.frzU(x:HOk P w H h)(e:H a=some u)(hu:rq u=true):∃o,HOk P w (upd H a (.frz o u)) h:=by
 obtain⟨n1,n2,_,_⟩:=kh hu;obtain⟨o,ho⟩:=(x a _ e).isAt;refine⟨o,λb v q=>?_⟩
 have own:∀c y,H c=some (.own y)->(upd H a (.frz o u)) c=some (.own y):=λc y z=>by
  rw[aa (cx z e (n1 y))];exact z
 have tup:∀c ys,H c=some (.tup ys)->(upd H a (.frz o u)) c=some (.tup ys):=λc ys z=>by
  rw[aa (cx z e (n2 ys))];exact z
 by_cases hb:b=a
 ·subst hb;rw[ad]at q;cases q;exact⟨ho,(x b _ e).stay (λ_ _ _ q=>q) (λc z=>own c _ z) λc ys z=>tup c ys z⟩
 ·rw[aa hb]at q;exact (x b v q).stay (λ_ _ _ q=>q) (λc z=>own c _ z) λc ys z=>tup c ys z
theorem Inv.frzU(I:Inv X pins σ H s)(e:H a=some u)(hu:rq u=true):∃o,Inv X pins σ (upd H a (.frz o u)) s:=by
 obtain⟨n1,n2,n3,n4⟩:=kh hu;obtain⟨o,ok⟩:=I.hok.frzU e hu;have ne:∀b,H b=none->b≠a:=λb z=>λq=>by rw[q,e]at z;cases z
 refine⟨o,⟨I.ok,I.os,I.bare,⟨I.base.keep,I.base.slot,λb ob q n hx=>?_,I.base.there,λb ys q=>?_,λb ob u q=>?_,λb ps q=>?_⟩,I.loc,I.cell,?_,λx c z=>?_,λp hp=>?_,ok,I.len⟩⟩
 ·have z:=I.base.free b ob q n hx;rw[aa (ne b z)];exact z
 ·have z:=I.base.tups b ys q;rw[aa (cx z e (n2 _))];exact z
 ·have z:=I.base.frzs b ob u q;rw[aa (cx z e (n3 _ _))];exact z
 ·obtain⟨more,z⟩:=I.base.tbls b ps q;exact⟨more,by rw[aa (cx z e (n4 _))];exact z⟩
 ·rw[aa (ne _ I.free)];exact I.free
 ·rw[aa (ne _ (I.freeC x c z))];exact I.freeC x c z
 ·obtain⟨p1,p2,p3⟩:=I.pin p hp;exact⟨p1,by rw[aa (ne _ p2)];exact p2,p3⟩
end
section
variable {K:E7}
theorem TM.frzU(e:H a=some u)(hu:rq u=true):TM K H (upd H a (.frz o u)):=by
 obtain⟨_,n2,n3,_⟩:=kh hu;exact .put e (λxs z=>n2 xs z.symm) λob v z=>n3 ob v z.symm
theorem RelM.frzU(r:RelM K M H)(e:H a=some u)(hu:rq u=true):RelM K (del M a) (upd H a (.frz o u)):=λb v q=>by
 obtain⟨ne,q⟩:=g5 q;exact (r b v q).stay (.frzU e hu) (aa ne)
end
noncomputable def fzD:DO->D
 |.lst ds=>.rol ds
 |.dk ks ds=>.dik ks ds
 |.dt ks ds=>.dit ks ds
 |.ins i C ns ds=>.obj i C ns ds
 |.exc _ _=>.non
 |.stl _=>.non
theorem de{X:Cx}(I:Inv X pins σ H s)(rm:RelM X.K M H)(e:M a=some o)(ho:(∀i c,o≠.exc i c)/\∀φ,o≠.stl φ) :
  ∃H',Inv X pins σ H' s/\TM X.K H H'/\RelM X.K (del M a) H'/\Den X.K H' (fzD o) (.ref a):=by
 cases o with
 |lst ds=>
  obtain⟨vs,e1,dl⟩:=rm a _ e;obtain⟨ob,I2⟩:=I.frzU e1 rfl;exact⟨_,I2,.frzU e1 rfl,rm.frzU e1 rfl,a,vs,rfl,.inl ⟨ob,ad⟩,dl.mono (.frzU e1 rfl)⟩
 |dk ks ds=>
  obtain⟨vs,e1,hl,dl⟩:=rm a _ e;obtain⟨ob,I2⟩:=I.frzU e1 rfl;exact⟨_,I2,.frzU e1 rfl,rm.frzU e1 rfl,a,vs,ob,rfl,ad,hl,dl.mono (.frzU e1 rfl)⟩
 |dt ks ds=>
  obtain⟨vs,xs,e1,z,dl⟩:=rm a _ e;obtain⟨ob,I2⟩:=I.frzU e1 rfl;have t:TM X.K H (upd H a (.frz ob (.ext (ao a xs)))):=.frzU e1 rfl;exact⟨_,I2,t,rm.frzU e1 rfl,a,vs,ob,xs,rfl,ad,⟨z.kx,z.nd,z.sz,z.no,z.vx,λx hx=>t.t _ _ (z.at_ x hx)⟩,dl.mono t⟩
 |ins i C ns ds=>
  obtain⟨dx,vs,e1,hl,dl⟩:=rm a _ e;obtain⟨ob,I2⟩:=I.frzU e1 rfl;exact⟨_,I2,.frzU e1 rfl,rm.frzU e1 rfl,a,vs,ob,dx,rfl,ad,hl,dl.mono (.frzU e1 rfl)⟩
 |exc i c=>exact absurd rfl (ho.1 i c)
 |stl φ=>exact absurd rfl (ho.2 φ)
theorem eS{X:Cx}:∀{ds:List D}{vs:List V}{H:Hp}{M:MH}{R:List D->MH->Prop},Inv X pins σ H s->RelM X.K M H->DenL X.K H ds vs->ij ds M R->
  ∃H' M' r,Inv X pins σ H' s/\TM X.K H H'/\RelM X.K M' H'/\DenL X.K H' r vs/\R r M'
 |[],vs,H,M,R,I,rm,dl,h=>⟨H,M,[],I,.refl _,rm,dl,h⟩
 |d::ds,_,H,M,R,I,rm,dl,h=>by
  obtain⟨v,r,rfl,dv,dl⟩:=dl;have keep:∀(d:D),Den X.K H d v->ij ds M (λr M'=>R (d::r) M')->∃H' M' r',Inv X pins σ H' s/\TM X.K H H'/\RelM X.K M' H'/\DenL X.K H' r' (v::r)/\R r' M':=λd dv h=>by
   obtain⟨H',M',r',I',t,rm',dl',q⟩:=eS I rm dl h;exact⟨H',M',d::r',I',t,rm',.cons (dv.mono t) dl',q⟩
  have fz:∀(a:Addr)(o:DO),v=.ref a->M a=some o->((∀i c,o≠.exc i c)/\∀φ,o≠.stl φ)->ij ds (del M a) (λr M'=>R (fzD o::r) M')->∃H' M' r',Inv X pins σ H' s/\TM X.K H H'/\RelM X.K M' H'/\DenL X.K H' r' (v::r)/\R r' M':=λa o e eM ne h=>by
   subst e;obtain⟨H1,I1,t1,rm1,d1⟩:=de I rm eM ne;obtain⟨H',M',r',I',t,rm',dl',q⟩:=eS I1 rm1 (dl.mono t1) h;exact⟨H',M',_::r',I',t1.trans t,rm',.cons (d1.mono t) dl',q⟩
  cases d with
  |ref a=>
   simp only[ij]at h;have e:v=.ref a:=dv;split at h
   ·rename_i es q;exact fz a (.lst es) e q ⟨(λ_ _ z=>nomatch z),(λ_ z=>nomatch z)⟩ h
   ·rename_i ks es q;exact fz a (.dk ks es) e q ⟨(λ_ _ z=>nomatch z),(λ_ z=>nomatch z)⟩ h
   ·rename_i ks es q;exact fz a (.dt ks es) e q ⟨(λ_ _ z=>nomatch z),(λ_ z=>nomatch z)⟩ h
   ·exact keep _ dv h
  |_=>exact keep _ dv (by simpa only[ij] using h)
theorem kg{X:Cx}(I:Inv X pins σ H s)(rm:RelM X.K M H)(dx:Den X.K H x v)(h:ck Q x M) :
  ∃H' M' d,Inv X pins σ H' s/\TM X.K H H'/\RelM X.K M' H'/\Den X.K H' d v/\Q d M':=by
 unfold ck at h;split at h
 ·rename_i a;cases (show v=.ref a from dx);split at h
  ·rename_i es q;obtain⟨H1,I1,t1,rm1,d1⟩:=de (o:=.lst es) I rm q ⟨(λ_ _ z=>nomatch z),(λ_ z=>nomatch z)⟩
   exact⟨H1,_,_,I1,t1,rm1,d1,h⟩
  ·rename_i ks es q;obtain⟨H1,I1,t1,rm1,d1⟩:=de (o:=.dk ks es) I rm q ⟨(λ_ _ z=>nomatch z),(λ_ z=>nomatch z)⟩
   exact⟨H1,_,_,I1,t1,rm1,d1,h⟩
  ·rename_i ks es q;obtain⟨H1,I1,t1,rm1,d1⟩:=de (o:=.dt ks es) I rm q ⟨(λ_ _ z=>nomatch z),(λ_ z=>nomatch z)⟩
   exact⟨H1,_,_,I1,t1,rm1,d1,h⟩
  ·rename_i i C ns es q;obtain⟨H1,I1,t1,rm1,d1⟩:=de (o:=.ins i C ns es) I rm q ⟨(λ_ _ z=>nomatch z),(λ_ z=>nomatch z)⟩
   obtain⟨a',vs,ob,dx',e',he,hl,dl⟩:=d1;cases e';obtain⟨H2,M2,r,I2,t2,rm2,dl2,q2⟩:=eS I1 rm1 dl h;refine⟨H2,M2,.obj i C ns r,I2,t1.trans t2,rm2,?_,q2⟩;exact⟨a,vs,ob,dx',rfl,t2.g _ _ _ he,hl,dl2⟩
  ·exact h.elim
 ·exact h.elim
end L2
namespace L2
open PySem PySem.Spec PySem.Calls PyProof.Rows
noncomputable def uL(E:XK)(cp:Bool)(K:E7)(C:Addr)(f:Str)(t:TA):TS:=λ_ σ H=>t σ H λvs H1=>∃v,vs=[v]/\(cp=false->∀dx ob,H1 dx=none->E (.ref C) (some dx) (upd H1 dx (.frz ob (.xd [(f,v)]))))/\
 (cp=true->∃p ws,v=.ref p/\SqL K H1 p ws/\∀q o dx ob,H1 q=none->H1 dx=none->dx≠q->E (.ref C) (some dx) (upd (upd H1 q (.frz o (.lst ws))) dx (.frz ob (.xd [(f,.ref q)]))))
theorem SqL.new{K:E7}(h:SqL K H p ws)(hn:H a=none):SqL K (upd H a o) p ws:=by
 rcases h with (h|⟨ob,h⟩)|h
 ·exact .inl (.inl (by rw[aa (au h hn)];exact h))
 ·exact .inl (.inr ⟨ob,by rw[aa (au h hn)];exact h⟩)
 ·exact .inr h
section
variable {X:Cx}{D:Addr}
theorem pV(hx:g8 X E)(hc:X.calm=true)(hg:Gl X x)(hm:X.mg x=some (.ref C))(q:XIni X.K C fI f)(F:FnOk X.prog X.w X.K X.mg X.base (CX1 X.prog X.w) k fI fd ps (gw cp X.K C f))(hr:Room (k+1) X.A)(hb:Binds X.K fd ps [])(ha:PA X (e::es) t)
  (hdb:(x == ("__debug__" : Str))=false) (he:starEach (e::es) X.env=(false,eval e X.env)::starEach es X.env) (hpl:(backTo cpos (starEach es X.env)).any (·.1)=false) :
  PS X (.Raise (some (.Call (.Name x np) (e::es) [] cpos)) none pos) (uL E cp X.K C f t):=by
 intro pins s σ H D I h;refine pB (K:=X.K) (I.ok.hd hc) q.cl (wpAny_Call_Name_kw (bh I hg hm (PySem.W.callWith_K (h₀:=X.base) I.ok.mod.kin q.kp (thn (ha cpos pins s σ H _ I h) λus s1 ⟨vs,H1,I1,r,v,ev,q0,q1⟩=>⟨I1.kIn,?_⟩) he hpl) hdb))
 subst ev;cases r with
 |@cons _ u _ us rv r=>
 cases r with
 |nil=>
 obtain⟨h1,g1,d1,t1,os1⟩:=s1;refine sL I1.kIn q.cl q.ini q.fn (by rw[sizeLine_eq];simp) λh' a hsz hm=>?_
 obtain⟨t0,go,_,_⟩:=hm.there;have I2:=I1.laid (a:=a) (o:=fH a C) (h':=h') (t':=t1) hm.keeps hsz (oR go);have hn:H1 a=none:=I1.hok.fresh hsz;have r2:Vals [V.ref a,v] [Value.ref a,u]:=.cons rfl (.cons rv .nil);have hsp:gw cp X.K C f [V.ref a,v] (upd H1 a (fH a C)) (λr H'=>r=.non/\((cp=false/\∃dx ob,H1 dx=none/\dx≠a/\H'=upd (upd (upd H1 a (fH a C)) a (fK a C dx)) dx (.frz ob (.xd [(f,v)])))\/
   (cp=true/\∃ws q dx ob,H1 q=none/\q≠a/\H1 dx=none/\dx≠a/\dx≠q/\(∀o,E (.ref C) (some dx) (upd (upd H1 q (.frz o (.lst ws))) dx (.frz ob (.xd [(f,.ref q)]))))/\H'=upd (upd (upd (upd H1 a (fH a C)) q (.lst ws)) a (fK a C dx)) dx (.frz ob (.xd [(f,.ref q)]))))) (λ_ _ _=>False):=by
  refine⟨a,v,rfl,ad,λz dx ob n ne=>⟨rfl,.inl ⟨z,dx,ob,by rw[aa ne]at n;exact n,ne,rfl⟩⟩,λz=>?_⟩
  obtain⟨p,ws,ep,sq,qE⟩:=q1 z;refine⟨p,ws,ep,sq.new hn,λq dx ob nq nd ne nn=>⟨rfl,.inr ⟨z,ws,q,dx,ob,?_⟩⟩⟩
  have hqa:q≠a:=λw=>by rw[w,ad]at nq;cases nq
  rw[aa hqa]at nq;rw[aa ne]at nd;exact⟨nq,hqa,nd,ne,nn,λo=>qE q o dx ob nq nd nn,rfl⟩
 have hl:([Value.ref a,u]++([]:List Value)).length=ps.length:=by
  rw[<-F.len _ _ _ _ hsp];rfl
 have hb':=hb _ [Value.ref a,u] I2.kIn hl;rw[EO]at hb';refine wpAny_call (codeAny_mono (F.run _ X.stack _ _ ⟨[Value.ref a,u],[]⟩ [Value.ref a,u] _ _ _ (hr.make C [u] []) (λz=>nomatch z) (I2.env0.make C [u] []) hb' r2 hsp) λr s' hq=>?_)
 match r,hq with
 |.error e,hq=>
  obtain⟨_,_,_,_,_,_,_,_,_,_,_,_,_,z⟩:=hq;exact z.elim
 |.ok (.ret u'),hq=>
  obtain⟨v',H',I3,rv',e1,hh⟩:=I2.after hq;subst e1;rcases hh with ⟨zc,dx,ob,n,ne,eH⟩|⟨zc,ws,q',dx,ob,nq,qa,n,ne,nn,qE,eH⟩
  ·subst eH;have ea:upd (upd (upd H1 a (fH a C)) a (fK a C dx)) dx (.frz ob (.xd [(f,v)])) a=some (fK a C dx):=by rw[aa (Ea ne),ad]
   obtain⟨⟨t1,go1⟩,_,_⟩:=I3.hok a _ ea;have I4:=I3.forget ea;have eF:forget (upd (upd (upd H1 a (fH a C)) a (fK a C dx)) dx (.frz ob (.xd [(f,v)]))) a=upd H1 dx (.frz ob (.xd [(f,v)])):=by
    funext b;by_cases w:b=a
    ·rw[w,b9,aa (Ea ne),hn]
    ·rw[cA w];by_cases w2:b=dx
     ·rw[w2,ad,ad]
     ·rw[aa w2,aa w2,aa w,aa w]
   rw[eF]at I4;exact⟨rv',a,t1,dx,rfl,I3.kIn,go1,hx pins σ _ s' a _ _ _ I4 (by rw[aa (Ea ne)];exact hn) (Heap.get?_none_of_le (Ej I1.sz hsz)) go1 rfl rfl rfl (λ_=>rfl) (q0 zc dx ob n)⟩
  ·subst eH;have ea:upd (upd (upd (upd H1 a (fH a C)) q' (.lst ws)) a (fK a C dx)) dx (.frz ob (.xd [(f,.ref q')])) a=some (fK a C dx):=by rw[aa (Ea ne),ad]
   obtain⟨⟨t1,go1⟩,_,_⟩:=I3.hok a _ ea;have I4:=I3.forget ea;have eF:forget (upd (upd (upd (upd H1 a (fH a C)) q' (.lst ws)) a (fK a C dx)) dx (.frz ob (.xd [(f,.ref q')]))) a=upd (upd H1 q' (.lst ws)) dx (.frz ob (.xd [(f,.ref q')])):=by
    funext b;by_cases w:b=a
    ·rw[w,b9,aa (Ea ne),aa (Ea qa),hn]
    ·rw[cA w];by_cases w2:b=dx
     ·rw[w2,ad,ad]
     ·rw[aa w2,aa w2,aa w];by_cases w3:b=q'
      ·rw[w3,ad,ad]
      ·rw[aa w3,aa w3,aa w]
   rw[eF]at I4;obtain⟨o,I5⟩:=I4.freeze (a:=q') (xs:=ws) (by rw[aa (Ea nn),ad])
   have eG:upd (upd (upd H1 q' (.lst ws)) dx (.frz ob (.xd [(f,.ref q')]))) q' (.frz o (.lst ws))=upd (upd H1 q' (.frz o (.lst ws))) dx (.frz ob (.xd [(f,.ref q')])):=by
    funext b;by_cases w:b=q'
    ·rw[w,ad,aa (Ea nn),ad]
    ·rw[aa w];by_cases w2:b=dx
     ·rw[w2,ad,ad]
     ·rw[aa w2,aa w2,aa w,aa w]
   rw[eG]at I5;exact⟨rv',a,t1,dx,rfl,I3.kIn,go1,hx pins σ _ s' a _ _ _ I5 (by rw[aa (Ea ne),aa (Ea qa)];exact hn) (Heap.get?_none_of_le (Ej I1.sz hsz)) go1 rfl rfl rfl (λ_=>rfl) (qE o)⟩
 |.ok .next,hq=>exact hq.elim
 |.ok .brk,hq=>exact hq.elim
 |.ok .cont,hq=>exact hq.elim
end
end L2
namespace L2
open PySem PySem.Spec PyProof.Rows
section
variable {X:Cx}
theorem iw:∀{xs ys:List D},bM xs ys=true->xs.length=ys.length
 |[],[],_=>rfl
 |[],_::_,h=>by simp[bM]at h
 |_::_,[],h=>by simp[bM]at h
 |x::xs,y::ys,h=>by
  simp only[bM,DR]at h;rw[Em,Em,iw h.2]
theorem eu:∀{xs ys:List D},xs.length=ys.length->bM xs ys=(List.range xs.length).all λj=>eqD (xs.getD j .non) (ys.getD j .non)
 |[],[],_=>by simp[bM]
 |[],_::_,h=>by simp at h
 |_::_,[],h=>by simp at h
 |x::xs,y::ys,h=>by
  have ih:=eu (xs:=xs) (ys:=ys) (by simpa using h)
  simp only[bM,Em,List.range_succ_eq_map,List.all_cons,List.all_map,ih];rfl
theorem sv{xs ys:List D}:bM xs ys=((List.range (min xs.length ys.length)).all (λj=>eqD (xs.getD j .non) (ys.getD j .non))&&(xs.length == ys.length)):=by
 by_cases h:xs.length=ys.length
 ·rw[eu h,h,Nat.min_self,beq_self_eq_true,Bool.and_true]
 ·have e1:(xs.length == ys.length)=false:=Ey.mpr h;rw[e1,Bool.and_false];cases q:bM xs ys with
  |false=>rfl
  |true=>exact absurd (iw q) h
theorem ow{K:E7}(I:Inv X pins σ H s)(hK:K=X.K):∀(n:Nat) {x y:D}{v:V},plN n x=true->plN n y=true->Den K H x v->Den K H y v->x=y:=by
 subst hK;have lists:∀(n:Nat),(∀{x y:D}{v:V},plN n x=true->plN n y=true->Den X.K H x v->Den X.K H y v->x=y)->∀{xs ys:List D}{vs:List V},xs.all (plN n)=true->ys.all (plN n)=true->DenL X.K H xs vs->DenL X.K H ys vs->xs=ys:=by
  intro n ih xs
  induction xs with
  |nil=>
   intro ys vs _ _ h1 h2;cases (show vs=[] from h1);cases ys with
   |nil=>rfl
   |cons y ys=>obtain⟨_,_,e,_⟩:=h2;cases e
  |cons x xs iht=>
   intro ys vs p1 p2 h1 h2;obtain⟨v,r,rfl,d1,l1⟩:=h1;cases ys with
   |nil=>cases (show v::r=[] from h2)
   |cons y ys=>
    obtain⟨v',r',e,d2,l2⟩:=h2;cases e;simp only[List.all_cons,DR]at p1 p2;rw[ih p1.1 p2.1 d1 d2,iht p1.2 p2.2 l1 l2]
 have clash:∀{p:Addr}{vs ws:List V},SqT X.K H p vs->SqF X.K H p ws->False:=λ{p vs ws} h1 h2=>by
  obtain⟨its,_,t1,_⟩:=I.tuple h1;obtain⟨z,its2,n2,_,_,e2⟩:=I.rdL h2.rd;obtain⟨o,e1,c1,_⟩:=(show s.heap.IsTuple p its.toArray from t1);rw[e2]at e1;cases e1;injection c1 with z;exact absurd z (by decide)
 intro n
 induction n with
 |zero=>
  intro x y v p1 p2 d1 d2;cases x with
  |non=>
   cases (show v=.non from d1);cases y with
   |non=>rfl
   |bl b=>cases (show V.non=.bl b from d2)
   |int b=>cases (show V.non=.int b from d2)
   |str b=>cases (show V.non=.str b from d2)
   |tup es=>cases p2
   |rol es=>cases p2
   |ref a=>cases p2
   |obj _ _ _ _=>cases p2
   |dik _ _=>cases p2
   |dit _ _=>cases p2
  |bl a=>
   cases (show v=.bl a from d1);cases y with
   |non=>cases (show V.bl a=.non from d2)
   |bl b=>cases (show V.bl a=.bl b from d2);rfl
   |int b=>cases (show V.bl a=.int b from d2)
   |str b=>cases (show V.bl a=.str b from d2)
   |tup es=>cases p2
   |rol es=>cases p2
   |ref a=>cases p2
   |obj _ _ _ _=>cases p2
   |dik _ _=>cases p2
   |dit _ _=>cases p2
  |int a=>
   cases (show v=.int a from d1);cases y with
   |non=>cases (show V.int a=.non from d2)
   |bl b=>cases (show V.int a=.bl b from d2)
   |int b=>cases (show V.int a=.int b from d2);rfl
   |str b=>cases (show V.int a=.str b from d2)
   |tup es=>cases p2
   |rol es=>cases p2
   |ref a=>cases p2
   |obj _ _ _ _=>cases p2
   |dik _ _=>cases p2
   |dit _ _=>cases p2
  |str a=>
   cases (show v=.str a from d1);cases y with
   |non=>cases (show V.str a=.non from d2)
   |bl b=>cases (show V.str a=.bl b from d2)
   |int b=>cases (show V.str a=.int b from d2)
   |str b=>cases (show V.str a=.str b from d2);rfl
   |tup es=>cases p2
   |rol es=>cases p2
   |ref a=>cases p2
   |obj _ _ _ _=>cases p2
   |dik _ _=>cases p2
   |dit _ _=>cases p2
  |tup es=>cases p1
  |rol es=>cases p1
  |ref a=>cases p1
  |obj _ _ _ _=>cases p1
  |dik _ _=>cases p1
  |dit _ _=>cases p1
 |succ n ih=>
  intro x y v p1 p2 d1 d2;cases x with
  |non=>
   cases (show v=.non from d1);cases y with
   |non=>rfl
   |bl b=>cases (show V.non=.bl b from d2)
   |int b=>cases (show V.non=.int b from d2)
   |str b=>cases (show V.non=.str b from d2)
   |tup es=>obtain⟨p,vs,e,_⟩:=d2;cases e
   |rol es=>obtain⟨p,vs,e,_⟩:=d2;cases e
   |ref a=>cases p2
   |obj _ _ _ _=>cases p2
   |dik _ _=>cases p2
   |dit _ _=>cases p2
  |bl a=>
   cases (show v=.bl a from d1);cases y with
   |non=>cases (show V.bl a=.non from d2)
   |bl b=>cases (show V.bl a=.bl b from d2);rfl
   |int b=>cases (show V.bl a=.int b from d2)
   |str b=>cases (show V.bl a=.str b from d2)
   |tup es=>obtain⟨p,vs,e,_⟩:=d2;cases e
   |rol es=>obtain⟨p,vs,e,_⟩:=d2;cases e
   |ref a=>cases p2
   |obj _ _ _ _=>cases p2
   |dik _ _=>cases p2
   |dit _ _=>cases p2
  |int a=>
   cases (show v=.int a from d1);cases y with
   |non=>cases (show V.int a=.non from d2)
   |bl b=>cases (show V.int a=.bl b from d2)
   |int b=>cases (show V.int a=.int b from d2);rfl
   |str b=>cases (show V.int a=.str b from d2)
   |tup es=>obtain⟨p,vs,e,_⟩:=d2;cases e
   |rol es=>obtain⟨p,vs,e,_⟩:=d2;cases e
   |ref a=>cases p2
   |obj _ _ _ _=>cases p2
   |dik _ _=>cases p2
   |dit _ _=>cases p2
  |str a=>
   cases (show v=.str a from d1);cases y with
   |non=>cases (show V.str a=.non from d2)
   |bl b=>cases (show V.str a=.bl b from d2)
   |int b=>cases (show V.str a=.int b from d2)
   |str b=>cases (show V.str a=.str b from d2);rfl
   |tup es=>obtain⟨p,vs,e,_⟩:=d2;cases e
   |rol es=>obtain⟨p,vs,e,_⟩:=d2;cases e
   |ref a=>cases p2
   |obj _ _ _ _=>cases p2
   |dik _ _=>cases p2
   |dit _ _=>cases p2
  |tup ds=>
   obtain⟨p,vs,rfl,q1,l1⟩:=d1;cases y with
   |tup es=>
    obtain⟨p',vs',e,q2,l2⟩:=d2;cases e;have e:vs=vs':=by
     obtain⟨its,r1,t1,_⟩:=I.tuple q1;obtain⟨its2,r2,t2,_⟩:=I.tuple q2;obtain⟨o1,e1,c1,n1,f1⟩:=(show s.heap.IsTuple p its.toArray from t1);obtain⟨o2,e2,c2,n2,f2⟩:=(show s.heap.IsTuple p its2.toArray from t2);rw[e1]at e2;cases e2;rw[f1]at f2;have:its=its2:=by injection f2 with z;simpa using z
     subst this;exact r1.inj r2
    subst e;rw[lists n ih (by simpa [plN] using p1) (by simpa [plN] using p2) l1 l2]
   |rol es=>obtain⟨p',vs',e,q2,l2⟩:=d2;cases e;exact (clash q1 q2).elim
   |non=>cases (show V.ref p=.non from d2)
   |bl b=>cases (show V.ref p=.bl b from d2)
   |int b=>cases (show V.ref p=.int b from d2)
   |str b=>cases (show V.ref p=.str b from d2)
   |ref a=>cases p2
   |obj _ _ _ _=>cases p2
   |dik _ _=>cases p2
   |dit _ _=>cases p2
  |rol ds=>
   obtain⟨p,vs,rfl,q1,l1⟩:=d1;cases y with
   |rol es=>
    obtain⟨p',vs',e,q2,l2⟩:=d2;cases e;have e:vs=vs':=by
     obtain⟨_,its,n1,r1,_,e1⟩:=I.rdL q1.rd;obtain⟨_,its2,n2,r2,_,e2⟩:=I.rdL q2.rd;rw[e1]at e2;have:its=its2:=by
      have z:=D9 e2;injection z with z1 z2 z3 z4
      injection z3 with z5 z6
      simpa using z5
     subst this;exact r1.inj r2
    subst e;rw[lists n ih (by simpa [plN] using p1) (by simpa [plN] using p2) l1 l2]
   |tup es=>obtain⟨p',vs',e,q2,l2⟩:=d2;cases e;exact (clash q2 q1).elim
   |non=>cases (show V.ref p=.non from d2)
   |bl b=>cases (show V.ref p=.bl b from d2)
   |int b=>cases (show V.ref p=.int b from d2)
   |str b=>cases (show V.ref p=.str b from d2)
   |ref a=>cases p2
   |obj _ _ _ _=>cases p2
   |dik _ _=>cases p2
   |dit _ _=>cases p2
  |ref a=>cases p1
  |obj _ _ _ _=>cases p1
  |dik _ _=>cases p1
  |dit _ _=>cases p1
theorem sd:∀(n:Nat) {x:D},plN n x=true->eqD x x=true:=by
 have lists:∀(n:Nat),(∀{x:D},plN n x=true->eqD x x=true)->∀{xs:List D},xs.all (plN n)=true->bM xs xs=true:=by
  intro n ih xs
  induction xs with
  |nil=>intro _;rfl
  |cons x xs iht=>
   intro h;simp only[List.all_cons,DR]at h;simp only[bM,DR];exact⟨ih h.1,iht h.2⟩
 intro n
 induction n with
 |zero=>
  intro x h;cases x with
  |tup es=>cases h
  |rol es=>cases h
  |ref a=>cases h
  |obj _ _ _ _=>cases h
  |dik _ _=>cases h
  |dit _ _=>cases h
  |_=>simp[eqD]
 |succ n ih=>
  intro x h;cases x with
  |tup es=>simp only[eqD];exact lists n ih (by simpa [plN] using h)
  |rol es=>simp only[eqD];exact lists n ih (by simpa [plN] using h)
  |ref a=>cases h
  |obj _ _ _ _=>cases h
  |dik _ _=>cases h
  |dit _ _=>cases h
  |_=>simp[eqD]
theorem lH{K:E7}(I:Inv X pins σ H s)(hK:K=X.K)(n:Nat)(p1:plN n x=true)(p2:plN n y=true)(d1:Den K H x v)(d2:Den K H y v):eqD x y=true:=by
 rw[ow I hK n p1 p2 d1 d2];exact sd n p2
theorem xQ(a b:Bool):eqD (.bl a) (.bl b)=(a == b):=by simp[eqD]
theorem xY(a:Bool)(b:Int):eqD (.bl a) (.int b)=((if a then 1 else 0) == b):=by simp[eqD];rfl
theorem v9(a:Int)(b:Bool):eqD (.int a) (.bl b)=(a == (if b then 1 else 0)):=by simp[eqD];rfl
theorem wO(a b:Int):eqD (.int a) (.int b)=(a == b):=by simp[eqD];rfl
theorem vY(a b:Str):eqD (.str a) (.str b)=(a == b):=by simp[eqD];rfl
abbrev Eq3(A:Around)(s:Shared)(v u:Value)(k:Bool):Prop:=SeqAt.RcAt A s v u k/\SeqAt.RcNeAt A s v u (!k)/\SeqAt.EqAt A s v u k
inductive Seen (s:Shared):D->Value->Prop where
 |non:Seen s .non .none
 |bl (b:Bool):Seen s (.bl b) (.bool b)
 |int (i:Int) (t:Tok):Seen s (.int i) (.int i t)
 |str (x:Str) (t:Tok):Seen s (.str x) (.str x t)
 |tup {ds:List D}{p:Addr}{its:List Value} (h:s.heap.IsTuple p its.toArray):Seen s (.tup ds) (.ref p)
 |rol {ds:List D}{p:Addr}{its:List Value} (h:s.heap.IsList p its.toArray):Seen s (.rol ds) (.ref p)
theorem g9{X:Cx}(I:Inv X pins σ H s)(p:plN n x=true)(d:Den X.K H x v)(r:RelV v v2):Seen s x v2:=by
 cases x with
 |non=>cases (show v=.non from d);cases r;exact .non
 |bl b=>cases (show v=.bl b from d);cases r;exact .bl b
 |int i=>cases (show v=.int i from d);obtain⟨t,rfl⟩:=r;exact .int i t
 |str i=>cases (show v=.str i from d);obtain⟨t,rfl⟩:=r;exact .str i t
 |tup ds=>
  obtain⟨q,vs,rfl,sq,_⟩:=d;cases r;obtain⟨its,_,t,_⟩:=I.tuple sq;exact .tup (its:=its) t
 |rol ds=>
  obtain⟨q,vs,rfl,sq,_⟩:=d;cases r;obtain⟨its,_,t,_⟩:=I.list sq.sq;exact .rol (its:=its) t.isList
 |ref a=>simp[plN]at p
 |obj _ _ _ _=>simp[plN]at p
 |dik _ _=>simp[plN]at p
 |dit _ _=>simp[plN]at p
theorem sQ{A:Around}(hx:Seen s x v)(hy:Seen s y u)(hu:A.units<cLine)(seq:∀ds es,(x=.tup ds/\y=.tup es)\/(x=.rol ds/\y=.rol es)->Eq3 A s v u (eqD x y)):Eq3 A s v u (eqD x y):=by
 cases hx with
 |non=>
  cases hy with
  |non=>exact⟨.none_none,.none_none,.same _⟩
  |bl b=>rw[show eqD (.non) (.bl b)=false by simp[eqD]];exact⟨.none_bool b,.none_bool b,.none_bool b⟩
  |int b tb=>rw[show eqD (.non) (.int b)=false by simp[eqD]];exact⟨.none_int b tb,.none_int b tb,.none_int b tb⟩
  |str b tb=>rw[show eqD (.non) (.str b)=false by simp[eqD]];exact⟨.none_str b tb,.none_str b tb,.none_str b tb⟩
  |@tup es p2 its2 h2=>rw[show eqD (.non) (.tup es)=false by simp[eqD]];exact⟨.none_tuple h2 hu,.none_tuple h2 hu,.none_tuple h2 hu⟩
  |@rol es p2 its2 h2=>rw[show eqD (.non) (.rol es)=false by simp[eqD]];exact⟨.none_list h2 hu,.none_list h2 hu,.none_list h2 hu⟩
 |bl a=>
  cases hy with
  |non=>rw[show eqD (.bl a) (.non)=false by simp[eqD]];exact⟨.bool_none a,.bool_none a,.bool_none a⟩
  |bl b=>rw[xQ];exact⟨.bool_bool a b,.bool_bool a b,.bool_bool a b⟩
  |int b tb=>rw[xY];exact⟨.bool_int a b tb,.bool_int a b tb,.bool_int a b tb⟩
  |str b tb=>rw[show eqD (.bl a) (.str b)=false by simp[eqD]];exact⟨.bool_str a b tb,.bool_str a b tb,.bool_str a b tb⟩
  |@tup es p2 its2 h2=>rw[show eqD (.bl a) (.tup es)=false by simp[eqD]];exact⟨.bool_tuple a h2 hu,.bool_tuple a h2 hu,.bool_tuple a h2 hu⟩
  |@rol es p2 its2 h2=>rw[show eqD (.bl a) (.rol es)=false by simp[eqD]];exact⟨.bool_list a h2 hu,.bool_list a h2 hu,.bool_list a h2 hu⟩
 |int a ta=>
  cases hy with
  |non=>rw[show eqD (.int a) (.non)=false by simp[eqD]];exact⟨.int_none a ta,.int_none a ta,.int_none a ta⟩
  |bl b=>rw[v9];exact⟨.int_bool a ta b,.int_bool a ta b,.int_bool a ta b⟩
  |int b tb=>rw[wO];exact⟨.int_int a ta b tb,.int_int a ta b tb,.int_int a ta b tb⟩
  |str b tb=>rw[show eqD (.int a) (.str b)=false by simp[eqD]];exact⟨.int_str a ta b tb,.int_str a ta b tb,.int_str a ta b tb⟩
  |@tup es p2 its2 h2=>rw[show eqD (.int a) (.tup es)=false by simp[eqD]];exact⟨.int_tuple a ta h2 hu,.int_tuple a ta h2 hu,.int_tuple a ta h2 hu⟩
  |@rol es p2 its2 h2=>rw[show eqD (.int a) (.rol es)=false by simp[eqD]];exact⟨.int_list a ta h2 hu,.int_list a ta h2 hu,.int_list a ta h2 hu⟩
 |str a ta=>
  cases hy with
  |non=>rw[show eqD (.str a) (.non)=false by simp[eqD]];exact⟨.str_none a ta,.str_none a ta,.str_none a ta⟩
  |bl b=>rw[show eqD (.str a) (.bl b)=false by simp[eqD]];exact⟨.str_bool a ta b,.str_bool a ta b,.str_bool a ta b⟩
  |int b tb=>rw[show eqD (.str a) (.int b)=false by simp[eqD]];exact⟨.str_int a ta b tb,.str_int a ta b tb,.str_int a ta b tb⟩
  |str b tb=>rw[vY];exact⟨.str_str a ta b tb,.str_str a ta b tb,.str_str a ta b tb⟩
  |@tup es p2 its2 h2=>rw[show eqD (.str a) (.tup es)=false by simp[eqD]];exact⟨.str_tuple a ta h2 hu,.str_tuple a ta h2 hu,.str_tuple a ta h2 hu⟩
  |@rol es p2 its2 h2=>rw[show eqD (.str a) (.rol es)=false by simp[eqD]];exact⟨.str_list a ta h2 hu,.str_list a ta h2 hu,.str_list a ta h2 hu⟩
 |@tup ds p its h=>
  cases hy with
  |non=>rw[show eqD (.tup ds) (.non)=false by simp[eqD]];exact⟨.tuple_none h hu,.tuple_none h hu,.tuple_none h hu⟩
  |bl b=>rw[show eqD (.tup ds) (.bl b)=false by simp[eqD]];exact⟨.tuple_bool b h hu,.tuple_bool b h hu,.tuple_bool b h hu⟩
  |int b tb=>rw[show eqD (.tup ds) (.int b)=false by simp[eqD]];exact⟨.tuple_int b tb h hu,.tuple_int b tb h hu,.tuple_int b tb h hu⟩
  |str b tb=>rw[show eqD (.tup ds) (.str b)=false by simp[eqD]];exact⟨.tuple_str b tb h hu,.tuple_str b tb h hu,.tuple_str b tb h hu⟩
  |@tup es p2 its2 h2=>exact seq ds es (.inl ⟨rfl,rfl⟩)
  |@rol es p2 its2 h2=>rw[show eqD (.tup ds) (.rol es)=false by simp[eqD]];exact⟨.tuple_list h h2 hu,.tuple_list h h2 hu,.tuple_list h h2 hu⟩
 |@rol ds p its h=>
  cases hy with
  |non=>rw[show eqD (.rol ds) (.non)=false by simp[eqD]];exact⟨.list_none h hu,.list_none h hu,.list_none h hu⟩
  |bl b=>rw[show eqD (.rol ds) (.bl b)=false by simp[eqD]];exact⟨.list_bool b h hu,.list_bool b h hu,.list_bool b h hu⟩
  |int b tb=>rw[show eqD (.rol ds) (.int b)=false by simp[eqD]];exact⟨.list_int b tb h hu,.list_int b tb h hu,.list_int b tb h hu⟩
  |str b tb=>rw[show eqD (.rol ds) (.str b)=false by simp[eqD]];exact⟨.list_str b tb h hu,.list_str b tb h hu,.list_str b tb h hu⟩
  |@tup es p2 its2 h2=>rw[show eqD (.rol ds) (.tup es)=false by simp[eqD]];exact⟨.list_tuple h h2 hu,.list_tuple h h2 hu,.list_tuple h h2 hu⟩
  |@rol es p2 its2 h2=>exact seq ds es (.inr ⟨rfl,rfl⟩)
theorem AR{K:E7}(I:Inv X pins σ H s)(hK:K=X.K):∀(n:Nat) {A:Around}{x y:D}{v u:V}{v2 u2:Value},plN n x=true->plN n y=true->Den K H x v->Den K H y u->RelV v v2->RelV u u2->A.units+n<cLine->
  SeqAt.RcAt A s v2 u2 (eqD x y)/\SeqAt.RcNeAt A s v2 u2 (!eqD x y)/\SeqAt.EqAt A s v2 u2 (eqD x y):=by
 subst hK;have items:∀(n:Nat),(∀{A:Around}{x y:D}{v u:V}{v2 u2:Value},plN n x=true->plN n y=true->Den X.K H x v->Den X.K H y u->RelV v v2->RelV u u2->A.units+n<cLine->
   SeqAt.RcAt A s v2 u2 (eqD x y)/\SeqAt.RcNeAt A s v2 u2 (!eqD x y)/\SeqAt.EqAt A s v2 u2 (eqD x y))->∀{A:Around}{xs ys:List D}{vs us:List V}{its its2:List Value},xs.all (plN n)=true->ys.all (plN n)=true->DenL X.K H xs vs->DenL X.K H ys us->Vals vs its->Vals us its2->A.units+(n+1)<cLine->
   ∀j (h1:j<its.toArray.size)(h2:j<its2.toArray.size),SeqAt.EqAt A.in1 s its.toArray[j] its2.toArray[j] (eqD (xs.getD j .non) (ys.getD j .non)):=by
  intro n ih A xs ys vs us its its2 p1 p2 l1 l2 r1 r2 hu j h1 h2;have h1:j<its.length:=by simpa using h1
  have h2:j<its2.length:=by simpa using h2
  have hx:j<xs.length:=by rw[l1.length,r1.length];exact h1
  have hy:j<ys.length:=by rw[l2.length,r2.length];exact h2
  obtain⟨v,e1,d1⟩:=l1.get (i:=j) (d:=xs[j]) (by simp[hx])
  obtain⟨u,e2,d2⟩:=l2.get (i:=j) (d:=ys[j]) (by simp[hy])
  obtain⟨v2,e3,rv⟩:=r1.get e1;obtain⟨u2,e4,ru⟩:=r2.get e2;have f1:its.toArray[j]=v2:=by
   have:=e3;rw[Et h1]at this;simpa using this
  have f2:its2.toArray[j]=u2:=by
   have:=e4;rw[Et h2]at this;simpa using this
  rw[f1,f2];have g1:xs.getD j .non=xs[j]:=by simp[List.getD,hx]
  have g2:ys.getD j .non=ys[j]:=by simp[List.getD,hy]
  rw[g1,g2];exact (ih (Es.mp p1 _ (E5 hx)) (Es.mp p2 _ (E5 hy)) d1 d2 rv ru (by show A.units+1+n<cLine;omega)).2.2
 intro n
 induction n with
 |zero=>
  intro A x y v u v2 u2 p1 p2 d1 d2 r1 r2 hu;refine sQ (g9 I p1 d1 r1) (g9 I p2 d2 r2) (by omega) λds es z=>?_
  rcases z with ⟨rfl,rfl⟩|⟨rfl,rfl⟩<;>cases p1
 |succ n ih=>
  intro A x y v u v2 u2 p1 p2 d1 d2 r1 r2 hu;refine sQ (g9 I p1 d1 r1) (g9 I p2 d2 r2) (by omega) λds es z=>?_
  rcases z with ⟨rfl,rfl⟩|⟨rfl,rfl⟩
  ·obtain⟨p,vs,rfl,q1,l1⟩:=id d1;obtain⟨p',us,rfl,q2,l2⟩:=id d2;cases r1;cases r2;obtain⟨its,v1,t1,_⟩:=I.tuple q1;obtain⟨its2,v2,t2,_⟩:=I.tuple q2;have he:=items n ih (A:=A) (by simpa [plN] using p1) (by simpa [plN] using p2) l1 l2 v1 v2 hu
   have ee:eqD (.tup ds) (.tup es)=((List.range (min its.toArray.size its2.toArray.size)).all (λj=>eqD (ds.getD j .non) (es.getD j .non))&&its.toArray.size == its2.toArray.size):=by
    simp only[eqD];rw[sv,l1.length,v1.length,l2.length,v2.length];rfl
   have rc:=SeqAt.RcAt.tuples (A:=A) t1 t2 (by omega) he
   rw[<-ee]at rc;have rn:=SeqAt.RcNeAt.tuples (A:=A) t1 t2 (by omega) he
   rw[<-ee]at rn;refine⟨rc,rn,?_⟩;by_cases hp:p=p'
   ·subst hp;rw[lH I rfl (n+1) p1 p2 d1 d2];exact .same _
   ·exact .of_refs hp rc
  ·obtain⟨p,vs,rfl,q1,l1⟩:=id d1;obtain⟨p',us,rfl,q2,l2⟩:=id d2;cases r1;cases r2;obtain⟨its,v1,t1,_⟩:=I.list q1.sq;obtain⟨its2,v2,t2,_⟩:=I.list q2.sq;have he:=items n ih (A:=A) (by simpa [plN] using p1) (by simpa [plN] using p2) l1 l2 v1 v2 hu
   have rcn:SeqAt.RcAt A s (.ref p) (.ref p') (eqD (.rol ds) (.rol es))/\SeqAt.RcNeAt A s (.ref p) (.ref p') (!eqD (.rol ds) (.rol es)):=by
    by_cases hl:its.toArray.size=its2.toArray.size
    ·have ee:eqD (.rol ds) (.rol es)=(List.range its.toArray.size).all λj=>eqD (ds.getD j .non) (es.getD j .non):=by
      have e1:ds.length=es.length:=by rw[l1.length,v1.length,l2.length,v2.length];simpa using hl
      simp only[eqD];rw[eu e1,l1.length,v1.length];rfl
     rw[ee];exact⟨.lists t1.isList t2.isList hl (by omega) he,.lists t1.isList t2.isList hl (by omega) he⟩
    ·have ee:eqD (.rol ds) (.rol es)=false:=by
      simp only[eqD];cases q:bM ds es with
      |false=>rfl
      |true=>
       have:=iw q;rw[l1.length,v1.length,l2.length,v2.length]at this;exact absurd (by simpa using this) hl
     rw[ee];exact⟨.lists_lengths t1.isList t2.isList (by simpa using hl) (by omega),.lists_lengths t1.isList t2.isList (by simpa using hl) (by omega)⟩
   refine⟨rcn.1,rcn.2,?_⟩;by_cases hp:p=p'
   ·subst hp;rw[lH I rfl (n+1) p1 p2 d1 d2];exact .same _
   ·exact .of_refs hp rcn.1
end
def VO(X:Cx)(f:Value->Value->Sem Value)(r:D->D->MH->VK3->Prop):Prop:=
 ∀(pins:List (Addr×Obj)) (s:Shared)(σ:St)(H:Hp)(x y:D)(v u:V)(v2 u2:Value)(M:MH)(Q:VK3)(Q2:VK),Inv X pins σ H s->RelV v v2->RelV u u2->Den X.K H x v->Den X.K H y u->RelM X.K M H->r x y M Q->Back X.K H Q Q2->
  wpAny (model X.prog X.w) X.A (f v2 u2) (EP X pins σ Q2) X.xe s
def VU(X:Cx)(f:Value->Sem Value)(r:D->MH->VK3->Prop):Prop:=
 ∀(pins:List (Addr×Obj)) (s:Shared)(σ:St)(H:Hp)(x:D)(v:V)(v2:Value)(M:MH)(Q:VK3)(Q2:VK),Inv X pins σ H s->RelV v v2->Den X.K H x v->RelM X.K M H->r x M Q->Back X.K H Q Q2->
  wpAny (model X.prog X.w) X.A (f v2) (EP X pins σ Q2) X.xe s
def VC(X:Cx)(f:Value)(r:List D->MH->VK3->Prop):Prop:=
 ∀(pins:List (Addr×Obj)) (s:Shared)(σ:St)(H:Hp)(xs:List D)(vs:List V)(us:List Value)(M:MH)(Q:VK3)(Q2:VK),Inv X pins σ H s->Vals vs us->DenL X.K H xs vs->RelM X.K M H->r xs M Q->Back X.K H Q Q2->
  wpAny (model X.prog X.w) X.A (call f us) (EP X pins σ Q2) X.xe s
section
variable {X:Cx}
theorem VO.of3(h:Op3 X f r):VO X f r:=by
 obtain⟨r2,h2,hl⟩:=h;exact λpins s σ H x y v u v2 u2 M Q Q2 I rv ru dx dy rm q back=>h2 pins s σ H v u v2 u2 Q2 I rv ru (hl H x y v u M Q Q2 dx dy rm q back)
theorem VU.of3(h:Un3 X f r):VU X f r:=by
 obtain⟨r2,h2,hl⟩:=h;exact λpins s σ H x v v2 M Q Q2 I rv dx rm q back=>h2 pins s σ H v v2 Q2 I rv (hl H x v M Q Q2 dx rm q back)
theorem VC.of3(h:qm X f r):VC X f r:=by
 obtain⟨r2,h2,hl⟩:=h;exact λpins s σ H xs vs us M Q Q2 I rv dx rm q back=>h2 pins s σ H vs us Q2 I rv (hl H xs vs M Q Q2 dx rm q back)
theorem VO.imp(h:VO X f r)(g:∀x y M Q,r' x y M Q->r x y M Q):VO X f r':=
 λpins s σ H x y v u v2 u2 M Q Q2 I rv ru dx dy rm q back=>h pins s σ H x y v u v2 u2 M Q Q2 I rv ru dx dy rm (g x y M Q q) back
theorem VU.imp(h:VU X f r)(g:∀x M Q,r' x M Q->r x M Q):VU X f r':=
 λpins s σ H x v v2 M Q Q2 I rv dx rm q back=>h pins s σ H x v v2 M Q Q2 I rv dx rm (g x M Q q) back
theorem VC.imp(h:VC X f r)(g:∀x M Q,r' x M Q->r x M Q):VC X f r':=
 λpins s σ H x v v2 M Q Q2 I rv dx rm q back=>h pins s σ H x v v2 M Q Q2 I rv dx rm (g x M Q q) back
theorem gu(h:rI2 g x y M Q):k9 g x y M Q:=by
 unfold rI2 at h;split at h
 ·exact⟨_,_,rfl,rfl,h⟩
 ·exact h.elim
theorem j7(h:rII C g x y M Q):rI3 C g x y M Q:=by
 unfold rII at h;split at h
 ·exact⟨_,_,rfl,rfl,h⟩
 ·exact h.elim
theorem tY{s:Shared}{ws:List Value}(ht:IsTup s.heap t #[])(hb:IsTup s.heap b ws.toArray)(h:Q (.ref b) s):wpAny (model prog w) A (binaryOp .Add (.ref t) (.ref b)) Q E s:=by
 obtain⟨⟨cls,dd,data,sl⟩,ho,hc,n,hd⟩:=id ht;obtain⟨⟨cls2,dd2,data2,sl2⟩,ho2,hc2,n2,hd2⟩:=id hb;simp only at hc hd hc2 hd2;subst hc hd hc2 hd2;exact concat_meets ⟨_,ho,rfl⟩ ⟨_,ho2,rfl⟩ noFill_tuple_add seq_tuple_add PySem.F.slot_tuple_add PySem.F.entry_tuple_add (PySem.F.args_tuple_add_2 _ _) (tuple_addW0 t b #[] ws.toArray n n2 dd dd2 sl sl2 rfl) ⟨ho,ho2,h⟩
theorem n6{a b:List D}(I:Inv X pins σ H s)(rv:RelV v v2)(ru:RelV u u2)(dx:Den X.K H (.tup a) v)(dy:Den X.K H (.tup b) u)(rm:RelM X.K M H)
  (q:a.length+b.length<=sizeLine/\Q (.tup (a++b)) M) (back:Back X.K H Q Q2):wpAny (model X.prog X.w) X.A (binaryOp .Add v2 u2) (EP X pins σ Q2) X.xe s:=by
 obtain⟨p1,vs,rfl,sq1,dl1⟩:=dx;obtain⟨p2,us,rfl,sq2,dl2⟩:=dy;obtain⟨h2,q⟩:=q;by_cases h1:a=[]
 ·subst h1;cases (show vs=[] from dl1);cases rv;cases ru;obtain⟨its,r1,p1',_⟩:=I.tuple sq1;obtain⟨its2,r2,p2',_⟩:=I.tuple sq2;cases r1;exact tY p1' p2' ⟨.ref p2,H,I,rfl,back _ _ (.tup b) _ ⟨p2,us,rfl,sq2,dl2⟩ rm (.refl _) q⟩
 refine tS pins s σ H _ _ v2 u2 Q2 I rv ru ⟨p1,p2,vs,us,rfl,rfl,sq1,sq2,λz=>?_,by rw[<-dl1.length,<-dl2.length];exact h2,λz=>?_,λ_ p hp=>?_⟩
 ·have:=dl1.length;rw[z]at this;cases a with
  |nil=>exact h1 rfl
  |cons _ _=>cases this
 ·have hb:b=[]:=List.length_eq_zero_iff.mp (by rw[dl2.length,z];rfl)
  subst hb;rw[EO]at q;exact back _ _ (.tup a) _ ⟨p1,vs,rfl,sq1,dl1⟩ rm (.refl _) q
 ·exact back _ _ (.tup (a++b)) _ ⟨p,_,rfl,.of ad,(dl1.append dl2).mono (.new hp)⟩ (rm.grow hp) (.new hp) q
theorem lN(a:Array α):∀(k:Nat)(b:Array α),((List.replicate k a).foldl (·++·) b).size=b.size+k*a.size
 |0,b=>by simp
 |k+1,b=>by
  rw[List.replicate_succ,List.foldl_cons,lN a k,Array.size_append,Nat.succ_mul];omega
theorem sk{z:Str}(n0:0<=n)(n1:n<=100000)(hz:z.length<=10)
  (h:∀t' tk,Q (.str (kW z n) t') {s with toks:=tk}):wpAny (model prog w) A (binaryOp .Mult (.str z t) (.int n u)) Q E s:=by
 have e1:decide (n < -(2 ^ 63:Int))=false:=EI (by omega)
 have e2:decide (n>=2 ^ 63)=false:=EI (by omega)
 refine PySem.P.mul_str (by rw[e1,e2];rfl) (λh1 h2=>?_) (λh1 h2=>?_) ?_
 ·have:(2 ^ 63-1) / n>=10:=by
   rw[ge_iff_le,Int.le_ediv_iff_mul_le (by omega)]
   omega
  omega
 ·have hl:z.length*n.toNat<=10*100000:=Nat.mul_le_mul hz (by omega)
  unfold Builtin.Str.tooLong;exact EI (by rw[sizeLine_eq];omega)
 ·unfold kW at h;split
  ·rename_i hn;rw[DY hn]at h;exact⟨by decide,h _ _⟩
  ·rename_i hn;rw[DV hn]at h;split
   ·rename_i hb;rw[DY hb]at h;exact h _ _
   ·rename_i hb;rw[DV hb]at h;refine⟨?_,h _ _⟩;show ((List.replicate n.toNat z.cps).foldl (·++·) #[]).size<=sizeLine;rw[lN];have hl:n.toNat*z.cps.size<=100000*10:=Nat.mul_le_mul (by omega) hz
    rw[sizeLine_eq];simp;omega
theorem xJ(op:Operator):VO X (binaryOp op) (kA op):=by
 cases op with
 |Add=>
  intro pins s σ H x y v u v2 u2 M Q Q2 I rv ru dx dy rm q back;have q':rF x y M Q:=q;clear q;unfold rF at q';split at q'
  ·exact VO.of3 AN pins s σ H _ _ v u v2 u2 M Q Q2 I rv ru dx dy rm ⟨_,_,rfl,rfl,q'⟩ back
  ·rename_i a b;cases (show v=.str a from dx);cases (show u=.str b from dy);exact mH pins s σ H _ _ v2 u2 Q2 I rv ru ⟨a,b,rfl,rfl,q'.1,back _ _ _ _ g6 rm (.refl _) q'.2⟩
  ·exact n6 I rv ru dx dy rm q' back
  ·exact q'.elim
 |Sub=>exact (VO.of3 Ag).imp λ_ _ _ _ h=>gu h
 |Mult=>
  intro pins s σ H x y v u v2 u2 M Q Q2 I rv ru dx dy rm q back;have q':sU x y M Q:=q;clear q;unfold sU at q';split at q'
  ·exact VO.of3 Ah pins s σ H _ _ v u v2 u2 M Q Q2 I rv ru dx dy rm ⟨_,_,rfl,rfl,q'⟩ back
  ·rename_i z n;cases (show v=.str z from dx);cases (show u=.int n from dy);obtain⟨t,rfl⟩:=rv;obtain⟨t',rfl⟩:=ru;obtain⟨⟨n0,n1,hz⟩,q'⟩:=q';exact bF I.tk <| sk n0 n1 hz λt2 tk _=>⟨.str (kW z n),H,I.tok _,⟨_,rfl⟩,back _ _ _ _ g6 rm (.refl _) q'⟩
  ·exact q'.elim
 |FloorDiv=>exact (VO.of3 xl).imp λ_ _ _ _ h=>j7 h
 |Mod=>exact (VO.of3 Ab).imp λ_ _ _ _ h=>j7 h
 |Pow=>exact (VO.of3 zE).imp λ_ _ _ _ h=>j7 h
 |RShift=>exact (VO.of3 zq).imp λ_ _ _ _ h=>j7 h
 |BitAnd=>exact (VO.of3 zH).imp λ_ _ _ _ h=>gu h
 |_=>exact λpins s σ H x y v u v2 u2 M Q Q2 I rv ru dx dy rm q back=>False.elim q
theorem wx:VU X (unaryOp .USub) rNeg:=(VU.of3 zN).imp λx M Q h=>by
 unfold rNeg at h;split at h
 ·exact⟨_,rfl,h⟩
 ·exact h.elim
theorem wl(fz:Bool):VO X (binaryOp .Add) (iN fz):=by
 intro pins s σ H x y v u v2 u2 M Q Q2 I rv ru dx dy rm q back;unfold iN at q;split at q
 next a b ea eb=>
  obtain⟨l,xs,rfl,hH,dl⟩:=aJ rm ea dx;obtain⟨b',zs,rfl,hB,dl2⟩:=aJ rm eb dy;cases rv;cases ru;obtain⟨z,its,n,r,hl,e⟩:=I.rdL hH;obtain⟨z2,its2,n2,r2,hl2,e2⟩:=I.rdL hB;have hlen:xs.length+zs.length<=sizeLine:=by
   have:=q.1;rw[Ew,dl.length,dl2.length]at this;exact this
  refine PySem.P.add_list e e2 ?_ (by rw[Eb,Eb];omega)
  have ea:its.toArray++its2.toArray=(its++its2).toArray:=by simp
  rw[ea];exact bR (I.lnew (t':=s.toks) (r.append r2) (by rw[Ew];omega)) I.fresh (dl.append dl2) rm (.refl _) q back
 next=>
  split at q
  ·exact n6 I rv ru dx dy rm q back
  ·exact q.elim
theorem uC{K:E7}(rm:RelM K M H)(dx:Den K H x v)(hp:pl (res M x)=true) :
  (∃a ds,x=.ref a/\M a=some (.lst ds)/\res M x=.rol ds)\/(res M x=x):=by
 cases x with
 |ref a=>
  cases e:M a with
  |none=>
   have:res M (.ref a)=.ref a:=by simp[res,ah,e]
   rw[this]at hp;simp[plN]at hp
  |some o=>
   cases o with
   |lst ds=>exact .inl ⟨a,ds,rfl,e,by simp[res,ah,e]⟩
   |_=>
    have:res M (.ref a)=.ref a:=by simp[res,ah,e]
    rw[this]at hp;simp[plN]at hp
 |rol ds=>exact .inr rfl
 |_=>exact .inr rfl
theorem qv(I:Inv X pins σ H s)(rm:RelM X.K M H)(dx:Den X.K H x v)(hp:pl (res M x)=true) :
  ∃H',Inv X pins σ H' s/\TM X.K H H'/\Den X.K H' (res M x) v:=by
 rcases uC rm dx hp with ⟨a,ds,rfl,q,e⟩|e
 ·obtain⟨vs,e1,l⟩:=rm a _ q;obtain⟨o,I2⟩:=I.freeze e1;refine⟨_,I2,.freeze e1,?_⟩;rw[e];cases (show v=.ref a from dx);exact eE l e1
 ·rw[e];exact⟨H,I,.refl _,dx⟩
def kY(K:E7)(M:MH)(H:Hp):Prop:=∀a ds,M a=some (.lst ds)->∃vs,(H a=some (.lst vs)\/∃o,H a=some (.frz o (.lst vs)))/\DenL K H ds vs
theorem RelM.z{K:E7}(rm:RelM K M H):kY K M H:=λa ds q=>by
 obtain⟨vs,e,l⟩:=rm a _ q;exact⟨vs,.inl e,l⟩
theorem AI(I:Inv X pins σ H s)(rz:kY X.K M H)(q:M a=some (.lst ds)) :
  ∃H',Inv X pins σ H' s/\TM X.K H H'/\kY X.K M H'/\∃vs,SqF X.K H' a vs/\DenL X.K H' ds vs/\DenL X.K H ds vs:=by
 obtain⟨vs,e|⟨o,e⟩,l⟩:=rz a ds q
 ·obtain⟨o,I2⟩:=I.freeze e;have t:TM X.K H (upd H a (.frz o (.lst vs))):=.freeze e;refine⟨_,I2,t,λb es qb=>?_,vs,.inl ⟨o,ad⟩,l.mono t,l⟩
  obtain⟨us,e2,l2⟩:=rz b es qb;by_cases hb:b=a
  ·subst hb;rw[q]at qb;cases qb;exact⟨vs,.inr ⟨o,ad⟩,l.mono t⟩
  ·refine⟨us,?_,l2.mono t⟩;rw[aa hb];exact e2
 ·exact⟨H,I,.refl _,rz,vs,.inl ⟨o,e⟩,l,l⟩
theorem ze(I:Inv X pins σ H s)(rz:kY X.K M H)(dx:Den X.K H x v) :
  ∃H',Inv X pins σ H' s/\TM X.K H H'/\kY X.K M H'/\Den X.K H' (res M x) v:=by
 cases x with
 |ref a=>
  cases e:M a with
  |none=>
   have:res M (.ref a)=.ref a:=by simp[res,ah,e]
   rw[this];exact⟨H,I,.refl _,rz,dx⟩
  |some o=>
   cases o with
   |lst ds=>
    obtain⟨H',I2,t,rz2,vs,sq,l,_⟩:=AI I rz e;have:res M (.ref a)=.rol ds:=by simp[res,ah,e]
    rw[this];exact⟨H',I2,t,rz2,a,vs,dx,sq,l⟩
   |_=>
    have:res M (.ref a)=.ref a:=by simp[res,ah,e]
    rw[this];exact⟨H,I,.refl _,rz,dx⟩
 |rol ds=>exact⟨H,I,.refl _,rz,dx⟩
 |_=>exact⟨H,I,.refl _,rz,dx⟩
theorem r8:∀{ds:List D}{vs:List V}{H:Hp},Inv X pins σ H s->kY X.K M H->DenL X.K H ds vs->
  ∃H',Inv X pins σ H' s/\TM X.K H H'/\kY X.K M H'/\DenL X.K H' (ds.map (res M)) vs
 |[],vs,H,I,rz,dl=>⟨H,I,.refl _,rz,dl⟩
 |d::ds,vs,H,I,rz,dl=>by
  obtain⟨v,r,rfl,dv,dr⟩:=dl;obtain⟨H1,I1,t1,rz1,d1⟩:=ze I rz dv;obtain⟨H2,I2,t2,rz2,d2⟩:=r8 I1 rz1 (dr.mono t1);exact⟨H2,I2,t1.trans t2,rz2,v,r,rfl,d1.mono t2,d2⟩
theorem vj(I:Inv X pins σ H s)(rz:kY X.K M H)(dx:Den X.K H x v) :
  ∃H',Inv X pins σ H' s/\TM X.K H H'/\kY X.K M H'/\Den X.K H' (rs M x) v:=by
 cases x with
 |ref a=>
  cases e:M a with
  |none=>
   have:rs M (.ref a)=.ref a:=by simp[rs,ah,e]
   rw[this];exact⟨H,I,.refl _,rz,dx⟩
  |some o=>
   cases o with
   |lst ds=>
    have:rs M (.ref a)=.rol (if pls ds=true then ds else ds.map (res M)):=by simp[rs,ah,e]
    rw[this];obtain⟨H',I2,t,rz2,vs,sq,l,_⟩:=AI I rz e;split
    ·exact⟨H',I2,t,rz2,a,vs,dx,sq,l⟩
    ·obtain⟨H3,I3,t3,rz3,l3⟩:=r8 I2 rz2 l;exact⟨H3,I3,t.trans t3,rz3,a,vs,dx,t3.f _ _ sq,l3⟩
   |_=>
    have:rs M (.ref a)=.ref a:=by simp[rs,ah,e]
    rw[this];exact⟨H,I,.refl _,rz,dx⟩
 |rol ds=>
  have:rs M (.rol ds)=.rol (if pls ds=true then ds else ds.map (res M)):=by simp[rs,ah]
  rw[this];split
  ·exact⟨H,I,.refl _,rz,dx⟩
  ·obtain⟨p,vs,e,sq,l⟩:=dx;obtain⟨H3,I3,t3,rz3,l3⟩:=r8 I rz l;exact⟨H3,I3,t3,rz3,p,vs,e,t3.f _ _ sq,l3⟩
 |_=>exact⟨H,I,.refl _,rz,dx⟩
theorem AS(I:Inv X pins σ H s)(rm:RelM X.K M H)(dx:Den X.K H x v)(dy:Den X.K H y u) :
  ∃H',Inv X pins σ H' s/\Den X.K H' (rs M x) v/\Den X.K H' (rs M y) u:=by
 obtain⟨H1,I1,t1,rz1,d1⟩:=vj I rm.z dx;obtain⟨H2,I2,t2,rz2,d2⟩:=vj I1 rz1 (dy.mono t1);exact⟨H2,I2,d1.mono t2,d2⟩
theorem vE(hu:X.A.units+64<cLine)(neg:Bool):VO X (compareOp (if neg=true then .NotEq else .Eq)) (kN neg):=by
 intro pins s σ H x y v u v2 u2 M Q Q2 I rv ru dx dy rm q back;obtain⟨h1,h2,q⟩:=q;obtain⟨H',I',d1,d2⟩:=AS I rm dx dy;obtain⟨rc,rn,_⟩:=AR I' rfl 8 (A:=X.A) h1 h2 d1 d2 rv ru (by omega)
 have fin:=back _ _ _ _ (bu (K:=X.K) (H:=H)) rm (.refl _) q;cases neg with
 |true=>
  refine rn _ _ _ _ ⟨.bl _,H,I,rfl,?_⟩;rw[Bool.true_xor]at fin;exact fin
 |false=>
  refine rc _ _ _ _ ⟨.bl _,H,I,rfl,?_⟩;rw[Bool.false_xor]at fin;exact fin
end
section
variable {K:E7}
theorem hU[DecidableEq κ]:∀{ks:List κ}{ds:List D}{vs:List V}{k:κ},DenL K H ds vs->ks.length=vs.length->
  (∀d,getD ks ds k=some d->∃v,c7 (ks.zip vs) k=some v/\Den K H d v)/\(getD ks ds k=none->c7 (ks.zip vs) k=none)
 |[],_,vs,k,_,_=>⟨λd e=>by simp[getD]at e,λ_=>by simp[c7]⟩
 |q::ks,[],vs,k,dl,hl=>by cases (show vs=[] from dl);cases hl
 |q::ks,d0::ds,_,k,dl,hl=>by
  obtain⟨v,r,rfl,dv,dl⟩:=dl;have ih:=hU (ks:=ks) (k:=k) dl (by simpa using hl)
  by_cases z:q=k
  ·refine⟨λd e=>?_,λe=>?_⟩
   ·simp only[getD,DY z]at e;cases e;exact⟨v,dg (p:=(q,v)) z,dv⟩
   ·simp only[getD,DY z]at e;cases e
  ·refine⟨λd e=>?_,λe=>?_⟩
   ·simp only[getD,DV z]at e;obtain⟨w,h1,h2⟩:=ih.1 d e;exact⟨w,(cy (p:=(q,v)) z).trans h1,h2⟩
   ·simp only[getD,DV z]at e;exact (cy (p:=(q,v)) z).trans (ih.2 e)
theorem ln(h:xG y=some k)(d:Den K H y u):u=kV k:=by
 cases y with
 |int i=>cases (show some (Sum.inl i)=some k from h);exact d
 |str x=>cases (show some (Sum.inr x)=some k from h);exact d
 |_=>cases h
theorem jD:∀{es:List D}{vs:List V}{k:List Int},bX es=some k->DenL K H es vs->vs=k.map V.int
 |[],vs,k,h,dl=>by cases (show some []=some k from h);exact dl
 |d::es,_,k,h,dl=>by
  obtain⟨v,r,rfl,dv,dl⟩:=dl;cases d with
  |int i=>
   simp only[bX]at h;split at h
   ·rename_i ns q;cases h;rw[jD q dl];cases (show v=.int i from dv);rfl
   ·cases h
  |_=>cases h
theorem jg{k:List Int}(h:sP y=some k)(d:Den K H y u):∃b,u=.ref b/\SqT K H b (k.map V.int):=by
 cases y with
 |tup es=>
  obtain⟨b,vs,e,sq,dl⟩:=d;refine⟨b,e,?_⟩;rw[<-jD h dl];exact sq
 |_=>cases h
theorem lP{ks:List Key}(h:gV M x=some (ks,ds))(rm:RelM K M H)(d:Den K H x v):∃p vs,v=.ref p/\Rd H p (.dK (ks.zip vs))/\ks.length=vs.length/\DenL K H ds vs:=by
 cases x with
 |dik ks' ds'=>
  cases h;obtain⟨p,vs,o,rfl,e,hl,dl⟩:=d;exact⟨p,vs,rfl,.inr ⟨o,e⟩,hl,dl⟩
 |ref a=>
  simp only[gV]at h;split at h
  ·rename_i q;cases h;obtain⟨vs,e,hl,dl⟩:=rm a _ q;exact⟨a,vs,d,.inl e,hl,dl⟩
  ·cases h
 |_=>cases h
theorem fA(h:d5 M x=some (ks,ds))(rm:RelM K M H)(d:Den K H x v):∃p vs xs,v=.ref p/\Rd H p (.ext (ao p xs))/\TabOk K H p ks xs vs/\DenL K H ds vs:=by
 cases x with
 |dit ks' ds'=>
  cases h;obtain⟨p,vs,o,xs,rfl,e,z,dl⟩:=d;exact⟨p,vs,xs,rfl,.inr ⟨o,e⟩,z,dl⟩
 |ref a=>
  simp only[d5]at h;split at h
  ·rename_i q;cases h;obtain⟨vs,xs,e,z,dl⟩:=rm a _ q;exact⟨a,vs,xs,d,.inl e,z,dl⟩
  ·cases h
 |_=>cases h
theorem TabOk.len{ks:List (List Int)}{vs:List V}(z:TabOk K H a ks xs vs):ks.length=vs.length:=by
 rw[<-z.kx,D5,z.vx.length,D5]
theorem cB:∀{xs:List (List Int×Addr×Value)}{vs:List V} (k:List Int),Vals vs (xs.map (·.2.2))->RelO (c7 ((xs.map (·.1)).zip vs) k) ((atKey xs k).map (·.2))
 |[],vs,k,r=>by cases r;exact True.intro
 |x::xs,vs,k,r=>by
  rw[D4]at r;cases r with
  |@cons v _ vs _ h t=>
   have ih:=cB k t;by_cases e:x.1=k
   ·have b:atKey (x::xs) k=some x.2:=by simp[atKey,EU,e]
    rw[D4,List.zip_cons_cons,dg (p:=(x.1,v)) e,b];exact h
   ·have b:atKey (x::xs) k=atKey xs k:=by simp[atKey,EU,e]
    rw[D4,List.zip_cons_cons,cy (p:=(x.1,v)) e,b];exact ih
end
inductive DRd (X:Cx) (H:Hp) (a:Addr) (u:V):Option V->Prop where
 |k {kvs:List (Key×V)}{k:Key} (e:Rd H a (.dK kvs)) (hu:u=kV k):DRd X H a u (c7 kvs k)
 |t {ks:List (List Int)}{xs:List (List Int×Addr×Value)}{vs:List V}{k:List Int}{b:Addr} (e:Rd H a (.ext (ao a xs))) (z:TabOk X.K H a ks xs vs) (hu:u=.ref b) (sq:SqT X.K H b (k.map V.int)):DRd X H a u (c7 (ks.zip vs) k)
def OptDen(K:E7)(H:Hp):Option D->Option V->Prop
 |some d,some v=>Den K H d v
 |none,none=>True
 |_,_=>False
theorem fM{X:Cx}(h:hJ M x y=some o)(rm:RelM X.K M H)(dx:Den X.K H x v)(dy:Den X.K H y u):∃a ov,v=.ref a/\DRd X H a u ov/\OptDen X.K H o ov:=by
 unfold hJ at h;split at h
 ·rename_i ks ds e;split at h
  ·rename_i k ek;cases h;obtain⟨p,vs,rfl,rd,hl,dl⟩:=lP e rm dx;refine⟨p,_,rfl,.k rd (ln ek dy),?_⟩;have g:=hU (k:=k) dl hl;cases q:getD ks ds k with
   |none=>rw[g.2 q];exact True.intro
   |some d=>obtain⟨w,h1,h2⟩:=g.1 d q;rw[h1];exact h2
  ·cases h
 ·split at h
  ·rename_i ks ds e;split at h
   ·rename_i k ek;cases h;obtain⟨p,vs,xs,rfl,rd,z,dl⟩:=fA e rm dx;obtain⟨b,hb,sq⟩:=jg ek dy;refine⟨p,_,rfl,.t rd z hb sq,?_⟩;have g:=hU (k:=k) dl z.len;cases q:getD ks ds k with
    |none=>rw[g.2 q];exact True.intro
    |some d=>obtain⟨w,h1,h2⟩:=g.1 d q;rw[h1];exact h2
   ·cases h
  ·cases h
section
variable {X:Cx}{s:Shared}{o:Option V}{A:Around}
theorem iD:∀{ks:List Int}{us:List Value},Vals (ks.map V.int) us->ItemsAre (intKind P w) ks us
 |[],_,r=>by rw[List.map_nil]at r;cases r;exact .nil
 |k::ks,_,r=>by
  rw[D4]at r;cases r with
  |cons h t=>
   obtain⟨tk,rfl⟩:=h;exact .cons (by show Value.isInt k (.int k tk)=true;simp[Value.isInt]) (iD t)
theorem dH{k:List Int}(I:Inv X pins σ H s)(sq:SqT X.K H b (k.map V.int)):(tupleKind (intKind X.prog X.w)).is s.heap k b:=by
 obtain⟨its,r,⟨o,e,c,n,d⟩,_⟩:=I.tuple sq;exact⟨o,its.toArray,n,e,c,d,by simpa using iD r⟩
theorem bg(I:Inv X pins σ H s)(e:Rd H a (.ext (ao a xs)))(z:TabOk X.K H a ks xs vs):s.heap.DictOfH (tupleKind (intKind X.prog X.w)) a xs:=by
 obtain⟨⟨ob,es,ep,h1,h2,h3,h4⟩,_⟩:=(show ObjOk X.prog X.w H s.heap a (.ext (ao a xs)) from e.ok I.hok);exact⟨ob,es,ep,h1,h2,h3,h4,λx hx=>dH I (z.at_ x hx),by rw[z.kx];exact z.nd⟩
theorem DRd.isDict(I:Inv X pins σ H s)(g:DRd X H a y o):s.TypeIs (.ref a) "dict":=by
 cases g with
 |k e _=>obtain⟨_,_,vs,_,dd⟩:=gM I.hok e;exact dd.typeIs
 |t e z _ _=>exact (bg I e z).typeIs
theorem pM(hu:A.units+1<cLine)(I:Inv X pins σ H s)(g:DRd X H a y o)(ho:o=some v)(ry:RelV y u)(h:∀w' s',Inv X pins σ H s'->RelV v w'->Q w' s') :
  wpAny (model X.prog X.w) A (getItem (.ref a) u) Q E s:=by
 cases g with
 |k e hk=>exact qd hu I (.inl ⟨_,_,e,hk,ho.symm⟩) ry h
 |@t ks xs vs k b e z hb sq=>
  subst hb;cases (show u=Value.ref b from ry);have dd:=bg I e z;have rel:=cB (vs:=vs) k z.vx;rw[z.kx]at rel;obtain⟨w',hw,rw'⟩:=RelO.some_of (v:=v) (o:=(atKey xs k).map (·.2)) (by rw[<-ho];exact rel)
  obtain⟨p,hp,hp2⟩:=Option.map_eq_some_iff.mp hw;refine wpAny_getItem_heap (EH hu) (dH I sq) dd hp ?_;rw[hp2];exact h w' _ (I.tok _) rw'
theorem BC(neg:Bool)(hu:A.units+1<cLine)(I:Inv X pins σ H s)(g:DRd X H a y o)(ry:RelV y u)(h:∀s',Inv X pins σ H s'->Q (.bool (neg ^^ o.isSome)) s') :
  wpAny (model X.prog X.w) A (compareOp (if neg=true then .NotIn else .In) u (.ref a)) Q E s:=by
 cases g with
 |k e hk=>
  cases neg with
  |true=>exact ue hu I (.inl ⟨_,_,e,hk,rfl⟩) ry λs' I'=>by have:=h s' I';rw[Bool.true_xor]at this;exact this
  |false=>exact Cy hu I (.inl ⟨_,_,e,hk,rfl⟩) ry λs' I'=>by have:=h s' I';rw[Bool.false_xor]at this;exact this
 |@t ks xs vs k b e z hb sq=>
  subst hb;cases (show u=Value.ref b from ry);have dd:=bg I e z;have rel:=cB (vs:=vs) k z.vx;rw[z.kx]at rel;have q:=rel.isSome_eq;rw[Option.isSome_map]at q;rw[q]at h;cases neg with
  |true=>
   refine wpAny_notIn_heap (EH hu) (dH I sq) z.no dd ?_;have:=h _ (I.tok (s.toks+(tupleKind (intKind X.prog X.w)).draws k));rw[Bool.true_xor]at this;exact this
  |false=>
   refine wpAny_in_heap (EH hu) (dH I sq) z.no dd ?_;have:=h _ (I.tok (s.toks+(tupleKind (intKind X.prog X.w)).draws k));rw[Bool.false_xor]at this;exact this
theorem vX(hu:A.units+1<cLine)(I:Inv X pins σ H s)(g:DRd X H a y o)(ry:RelV y u)(h:∀w' s',Inv X pins σ H s'->RelV (o.getD .non) w'->Q w' s') :
  wpAny (model X.prog X.w) A (call (.builtin "dict.get") [.ref a,u]) Q E s:=by
 cases g with
 |k e hk=>exact xK hu I (.inl ⟨_,_,e,hk,rfl⟩) ry h
 |@t ks xs vs k b e z hb sq=>
  subst hb;cases (show u=Value.ref b from ry);have dd:=bg I e z;have rel:=cB (vs:=vs) k z.vx;rw[z.kx]at rel;exact call_meetsIn PySem.F.slot_dict_get dd.typeIs PySem.F.entry_dict_get (PySem.F.args_dict_get_2 _ _) (meetsH_dict_get (tupleKind (intKind X.prog X.w)) a b z.no) ⟨EH hu,k,xs,dH I sq,dd,h _ _ (I.tok _) (rel.getD rfl)⟩
theorem xx(hu:A.units+1<cLine)(I:Inv X pins σ H s)(g:DRd X H a y o)(ry:RelV y u)(rd:RelV d r)(h:∀w' s',Inv X pins σ H s'->RelV (o.getD d) w'->Q w' s') :
  wpAny (model X.prog X.w) A (call (.builtin "dict.get") [.ref a,u,r]) Q E s:=by
 cases g with
 |k e hk=>exact xj hu I (.inl ⟨_,_,e,hk,rfl⟩) ry rd h
 |@t ks xs vs k b e z hb sq=>
  subst hb;cases (show u=Value.ref b from ry);have dd:=bg I e z;have rel:=cB (vs:=vs) k z.vx;rw[z.kx]at rel;exact call_meetsIn PySem.F.slot_dict_get dd.typeIs PySem.F.entry_dict_get (PySem.F.args_dict_get_3 _ _ _) (meetsH_dict_get_default (tupleKind (intKind X.prog X.w)) a b z.no r) ⟨EH hu,k,xs,dH I sq,dd,h _ _ (I.tok _) (rel.getD rd)⟩
end
section
variable {K:E7}
theorem pY[DecidableEq κ]{l:List (κ×V)}:dF ((q,w)::l) k v=if q=k then (q,v)::l.map (λkv=>if kv.1=k then (kv.1,v) else kv) else (q,w)::dF l k v:=by
 unfold dF;by_cases e:q=k
 ·simp[e]
 ·by_cases g:(l.any λkv=>decide (kv.1=k))=true
  ·simp[e,g]
  ·simp[e,g]
theorem l9[DecidableEq κ]:∀{ks:List κ}{vs:List V},¬ k∈ks->(ks.zip vs).map (λkv=>if kv.1=k then (kv.1,v) else kv)=ks.zip vs
 |[],_,_=>by simp
 |q::ks,[],_=>by simp
 |q::ks,w::vs,h=>by
  have hq:¬ q=k:=λz=>h (by simp[z])
  have ih:=l9 (k:=k) (v:=v) (ks:=ks) (vs:=vs) λm=>h (DT _ m)
  simp only[List.zip_cons_cons,D4,DV hq,ih]
theorem lW[DecidableEq κ]:∀{ks:List κ}{ds:List D}{vs:List V}{k:κ}{y:D}{v:V},ks.Nodup->DenL K H ds vs->ks.length=vs.length->Den K H y v->
  ∃vs',dF (ks.zip vs) k v=(ai ks k).zip vs'/\(ai ks k).length=vs'.length/\DenL K H (aR ks ds k y) vs'
 |[],ds,vs,k,y,v,_,dl,hl,dy=>by
  cases vs with
  |nil=>exact⟨[v],rfl,rfl,by unfold aR;exact .one dy⟩
  |cons _ _=>cases hl
 |q::ks,[],vs,k,y,v,_,dl,hl,dy=>by cases (show vs=[] from dl);cases hl
 |q::ks,d::ds,_,k,y,v,nd,dl,hl,dy=>by
  obtain⟨w,r,rfl,dw,dl⟩:=dl;obtain⟨n1,n2⟩:=EE.mp nd;rw[List.zip_cons_cons,pY];by_cases e:q=k
  ·subst e;rw[DY rfl,l9 n1];refine⟨v::r,?_,?_,?_⟩
   ·simp[ai]
   ·simpa [ai] using hl
   ·simp only[aR,DY];exact .cons dy dl
  ·rw[DV e];obtain⟨vs',h1,h2,h3⟩:=lW (k:=k) (v:=v) n2 dl (by simpa using hl) dy
   refine⟨w::vs',?_,?_,?_⟩
   ·simp[ai,DV e,h1]
   ·simp[ai,DV e,h2]
   ·simp only[aR,DV e];exact .cons dw h3
theorem lL{x:List Int×Addr×Value}{xs:List (List Int×Addr×Value)}:storedH (x::xs) k b r=if x.1=k then (x.1,x.2.1,r)::xs.map (putAt k r) else x::storedH xs k b r:=by
 unfold storedH;by_cases e:x.1=k
 ·have b':atKey (x::xs) k=some x.2:=by simp[atKey,EU,e]
  rw[b',DY e];simp[putAt,e]
 ·have b':atKey (x::xs) k=atKey xs k:=by simp[atKey,EU,e]
  rw[b',DV e];by_cases g:(atKey xs k).isSome=true
  ·rw[DY g,DY g];simp[putAt,e]
  ·rw[DV g,DV g];rfl
theorem iU:∀{xs:List (List Int×Addr×Value)},¬ k∈xs.map (·.1)->xs.map (putAt k r)=xs
 |[],_=>rfl
 |x::xs,h=>by
  have hq:¬ x.1=k:=λz=>h (by simp[z])
  rw[D4,iU λm=>h (DT _ m)]
  simp[putAt,hq]
theorem eN:∀{xs:List (List Int×Addr×Value)}{ds:List D}{vs:List V}{k:List Int}{b:Addr}{r:Value}{y:D}{v:V},(xs.map (·.1)).Nodup->Vals vs (xs.map (·.2.2))->RelV v r->DenL K H ds vs->Den K H y v->
  ∃vs',(storedH xs k b r).map (·.1)=ai (xs.map (·.1)) k/\Vals vs' ((storedH xs k b r).map (·.2.2))/\DenL K H (aR (xs.map (·.1)) ds k y) vs'/\∀x∈storedH xs k b r,(x.1=k/\x.2.1=b)\/∃x'∈xs,x'.1=x.1/\x'.2.1=x.2.1
 |[],ds,vs,k,b,r,y,v,_,vr,rv,dl,dy=>by
  cases vr;cases ds with
  |cons _ _=>obtain⟨_,_,z,_⟩:=dl;cases z
  |nil=>exact⟨[v],rfl,.cons rv .nil,by unfold aR;exact .one dy,λx hx=>.inl (by simp[storedH,atKey]at hx;simp[hx])⟩
 |x::xs,ds,vs,k,b,r,y,v,nd,vr,rv,dl,dy=>by
  rw[D4]at vr nd;cases vr with
  |@cons w _ vs _ h t=>
   cases ds with
   |nil=>cases (show w::vs=[] from dl)
   |cons d ds=>
    obtain⟨w',r',e',dw,dl⟩:=dl;cases e';obtain⟨n1,n2⟩:=EE.mp nd;rw[lL];by_cases e:x.1=k
    ·rw[DY e,iU (by rw[<-e];exact n1)]
     refine⟨v::vs,?_,.cons rv t,?_,λz hz=>?_⟩
     ·simp[ai,e]
     ·simp only[D4,aR,DY e];exact .cons dy dl
     ·rcases DX.mp hz with rfl|hz
      ·exact .inr ⟨x,DW,rfl,rfl⟩
      ·exact .inr ⟨z,DT _ hz,rfl,rfl⟩
    ·rw[DV e];obtain⟨vs',h1,h2,h3,h4⟩:=eN (k:=k) (b:=b) n2 t rv dl dy;refine⟨w::vs',?_,.cons h h2,?_,λz hz=>?_⟩
     ·simp only[D4,ai,DV e,h1]
     ·simp only[D4,aR,DV e];exact .cons dw h3
     ·rcases DX.mp hz with rfl|hz
      ·exact .inr ⟨z,DW,rfl,rfl⟩
      ·rcases h4 z hz with q|⟨x',hx',q⟩
       ·exact .inl q
       ·exact .inr ⟨x',DT _ hx',q⟩
theorem fV[DecidableEq κ]:∀{ks:List κ}{k:κ},(ai ks k).length<=ks.length+1
 |[],_=>by simp[ai]
 |q::ks,k=>by
  unfold ai;split
  ·simp
  ·have:=fV (ks:=ks) (k:=k);simp only[Em];omega
theorem putD1_mem[DecidableEq κ]:∀{ks:List κ}{k x:κ},x∈ai ks k<->x∈ks\/x=k
 |[],k,x=>by simp[ai]
 |q::ks,k,x=>by
  unfold ai;split
  ·rename_i e;subst e;simp;intro z;exact .inl z
  ·rw[DX,putD1_mem,DX,or_assoc]
theorem dE[DecidableEq κ]:∀{ks:List κ}{k:κ},ks.Nodup->(ai ks k).Nodup
 |[],k,_=>by simp[ai]
 |q::ks,k,h=>by
  obtain⟨n1,n2⟩:=EE.mp h;unfold ai;split
  ·exact h
  ·rename_i e;refine EE.mpr ⟨λm=>?_,dE n2⟩
   rcases putD1_mem.mp m with z|z
   ·exact n1 z
   ·exact e z
end
section
variable {X:Cx}{A:Around}{ks:List Key}
theorem lM:∀{ks:List κ}{vs:List V},ks.length=vs.length->(ks.zip vs).map (·.1)=ks
 |[],_,_=>by simp
 |q::ks,[],h=>by cases h
 |q::ks,v::vs,h=>by simp[lM (ks:=ks) (vs:=vs) (by simpa using h)]
theorem qA{vs:List V}(I:Inv X pins σ H s)(e:H a=some (.dK (ks.zip vs)))(hl:ks.length=vs.length):ks.Nodup:=by
 obtain⟨_,_,ws,rel,_,_,_,_,_,_,_,_,nd⟩:=vF I.hok e;rw[<-rel.keys,lM hl]at nd;exact nd
theorem wK{k:Key}{y:D}{v w:V}{R:MH->Prop}{R2:Hp->Prop}(hu:A.units+1<cLine)(I:Inv X pins σ H s)(rm:RelM X.K M H)(q:M a=some (.dk ks ds))(hk:w=kV k)(rw':RelV w u)(dy:Den X.K H y v)(rv:RelV v r)(hz:ks.length<sizeLine)
  (h:R (put M a (.dk (ai ks k) (aR ks ds k y)))) (back:∀H' M',RelM X.K M' H'->TM X.K H H'->R M'->R2 H'):wpAny (model X.prog X.w) A (setItem (.ref a) u r) (λ_ s'=>∃H',Inv X pins σ H' s'/\R2 H') E s:=by
 obtain⟨vs,e,hl,dl⟩:=rm a _ q;subst hk;obtain⟨vs',h1,h2,h3⟩:=lW (k:=k) (v:=v) (qA I e hl) dl hl dy;refine pN hu I (.inl ⟨_,k,e,rfl,?_,rfl⟩) rw' rv λs' I'=>⟨_,I',?_⟩
 ·rw[List.length_zip,hl,Nat.min_self,<-hl];exact hz
 ·have tw:TM X.K H (upd H a (.dK (dF (ks.zip vs) k v))):=.put e (λ_ z=>by cases z) λ_ _ z=>by cases z
  exact back _ _ (rm.write (u:=.dk (ai ks k) (aR ks ds k y)) e (λ_ z=>by cases z) (λ_ _ z=>by cases z) ⟨vs',by rw[ad,h1],h2,h3.mono tw⟩) tw h
theorem yE{kt:List (List Int)}{k:List Int}{y:D}{v:V}{b:Addr}{R:MH->Prop}{R2:Hp->Prop}(hu:A.units+1<cLine)(I:Inv X pins σ H s)(rm:RelM X.K M H)(q:M a=some (.dt kt ds))(sq:SqT X.K H b (k.map V.int))(dy:Den X.K H y v)(rv:RelV v r)(hz:kt.length<sizeLine)
  (h:R (put M a (.dt (ai kt k) (aR kt ds k y)))) (back:∀H' M',RelM X.K M' H'->TM X.K H H'->R M'->R2 H'):wpAny (model X.prog X.w) A (setItem (.ref a) (.ref b) r) (λ_ s'=>∃H',Inv X pins σ H' s'/\R2 H') E s:=by
 obtain⟨vs,xs,e,z,dl⟩:=rm a _ q;have dd:=bg I (.inl e) z;have nd:(xs.map (·.1)).Nodup:=by rw[z.kx];exact z.nd
 obtain⟨vs',h1,h2,h3,h4⟩:=eN (k:=k) (b:=b) nd z.vx rv dl dy;rw[z.kx]at h1 h3;have hsz:xs.length<=sizeLine:=by
  have:=congrArg List.length z.kx;rw[D5]at this;omega
 refine wpAny_setItem_heap (hsz:=hsz) (EH hu) (dH I sq) dd λh' dd' hs=>?_
 obtain⟨ob,es,ep,hq,hx,hd,he,_,_⟩:=dd';have tw:TM X.K H (upd H a (.ext (ao a (storedH xs k b r)))):=.put e (λ_ z=>by cases z) λ_ _ z=>by cases z
 have tb:ao a (storedH xs k b r) h':=⟨ob,es,ep,hq,hx,hd,he⟩;have I':Inv X pins σ (upd H a (.ext (ao a (storedH xs k b r)))) {s with heap:=h',toks:=s.toks+(tupleKind (intKind X.prog X.w)).draws k}:=
  fe I (by rw[e];exact True.intro) hs ⟨ob,hq⟩ ⟨tb,⟨ob,hq⟩,λg1 g2 ⟨o1,es1,ep1,a1,a2,a3,a4⟩ kk=>⟨o1,es1,ep1,kk _ a1,a2,a3,a4⟩⟩
 refine⟨_,I',back _ _ (rm.write (u:=.dt (ai kt k) (aR kt ds k y)) e (λ_ z=>by cases z) (λ_ _ z=>by cases z) ⟨vs',_,ad,⟨h1,dE z.nd,Ej fV hz,z.no,h2,λx hx'=>?_⟩,h3.mono tw⟩) tw h⟩
 rcases h4 x hx' with ⟨q1,q2⟩|⟨x',m,q1,q2⟩
 ·rw[q1,q2];exact tw.t _ _ sq
 ·rw[<-q1,<-q2];exact tw.t _ _ (z.at_ x' m)
end
end L2
namespace L2
open PySem PySem.Spec PyProof.Rows PySem.W
section
variable {A:Around}{s:Shared}{ob:Obj}{es:Array DictEntry}{e:DictEntry}
theorem pH(hn:(d == sysModules)=false):MeetsIn prog w (Builtin.«dict.__len__» ⟨[.ref d],[]⟩) (λ_ R s=>∃ob es ep,s.heap.get? d=some ob/\ob.data=.dict es ep/\R (.ok (.ret (.int es.size s.toks))) {s with toks:=s.toks+1}):=
 .of_wp λA R s ⟨ob,es,ep,ho,hd,q⟩=>by
  show wpAny _ _ (dictSize d >>=_) _ _ s;unfold dictSize;refine vJ (vJ (EX ho hd (DS ?_)));show wpAny _ _ (Builtin.Dict.pendingCount d >>=_) _ _ s;exact vJ (wpAny_pendingCount_other hn (wpAny_ret_mkInt q))
theorem B1(hn:(d == sysModules)=false)(ho:s.heap.get? d=some ob)(hx:ob.ExactDict)(hd:ob.data=.dict es ep)(hz:(es.size:Int)<2 ^ 63)(q:Q (.int es.size (s.toks+1)) {s with toks:=s.toks+1+1}) :
  wpAny (model prog w) A (call (.builtin "len") [.ref d]) Q E s:=by
 have hT:s.TypeIs (.ref d) "dict":=⟨_,ho,hx.1⟩;refine Calls.call_function_entry kind_len plain_len entry_len (args_len1 _) ?_;unfold Builtin.«len»;refine vJ (m:=oneArg "len" _) (DS ?_);refine vJ (m:=callSpecial? (.ref d) (Str.ofString "__len__")) (wpAny_callSpecial?_slot (name:=Str.ofString "__len__") hT F.slot_dict_len
  (call_meetsIn F.slot_dict_len hT F.entry_dict_len (F.args_dict_len_1 _) (pH hn) ⟨ob,es,ep,ho,hd,?_⟩))
 show wpAny _ _ _ _ _ {s with toks:=s.toks+1}
 refine vJ (Ez (DS ?_));refine vJ (wpAny_letGo ?_);show wpAny _ _ (if ((es.size:Nat):Int)<0 then _ else _) _ _ _
 rw[DV (by omega)]
 show wpAny _ _ (if ((es.size:Nat):Int)>=2 ^ 63 then _ else _) _ _ _
 rw[DV (by omega)]
 exact vJ (wpAny_mkInt (DS ⟨_,rfl,q⟩))
theorem vz(hn:(d == sysModules)=false)(ho:s.heap.get? d=some ob)(hx:ob.ExactDict)(hd:ob.data=.dict es ep)
  (hQ:Q (.ref s.heap.objs.size) {s with heap:=s.heap.push {cls:=.type "dict_keyiterator",data:=.fields #[.ref d,.int 0 0,.int es.size 0,.int ep 0]}}):wpAny (model prog w) A (pyIter (.ref d)) Q E s:=by
 have hT:s.TypeIs (.ref d) "dict":=⟨_,ho,hx.1⟩;refine wpAny_pyIter_slot hT F.slot_dict_iter (EY F.slot_dict_iter hT F.entry_dict_iter ?_ (F.args_dict_iter_1 _));unfold Builtin.«dict.__iter__»;refine vJ ?_;unfold Builtin.Dict.dictSlotNone;refine vJ (wpAny_notOrdered_dict hT ?_);show wpAny _ _ (pure (Value.ref d)) _ _ s;refine DS ?_;show wpAny _ _ (Builtin.Dict.showsAll d >>=_) _ _ s;unfold Builtin.Dict.showsAll;rw[DV (by rw[hn];exact D8)]
 refine vJ (DS (vJ (EX ho hd (vJ (wpAny_dictEpoch ho hd ?_)))));refine vJ (Er (DS ⟨_,rfl,"dict_keyiterator",_,⟨_,D7 _ rfl,rfl⟩,F.slot_dict_keyiterator_next.lookup,?_⟩));simpa [rawInt] using hQ
theorem me(hit:s.heap.IsKeyIter it d i es.size ep)(hod:s.heap.get? d=some ob)(hdd:ob.data=.dict es ep)(he:es[i]?=some e)
  (hQ:∀h',h'.IsKeyIter it d (i+1) es.size ep->Heap.SameBut it s.heap h'->Q (some e.key) {s with heap:=h'}):wpAny (model prog w) A (pyNext (.ref it)) Q E s:=by
 obtain⟨o,ho,hc,hd⟩:=id hit;unfold pyNext;refine vJ (wpAny_attempt (wpAny_callSpecial?_slot (name:=Str.ofString "__next__") hit.typeIs F.slot_dict_keyiterator_next
  (EY F.slot_dict_keyiterator_next hit.typeIs F.entry_dict_keyiterator_next ?_ (F.args_dict_keyiterator_next_1 _))))
 refine vJ (DS (vJ (vJ ?_)))
 first|refine vJ (wpAny_typeNameOfWhole_keyiter hit.typeIs (DS ?_))|refine vJ (wpAny_typeNameOf_keyiter hit.typeIs (DS ?_))
 refine vJ (wpAny_fieldsOf ho hd ?_);simp only[show Builtin.Dict_items.ownsTuple "dict_keyiterator"=false by decide,EA,if_false]
 show wpAny _ _ (if (Value.ref d == Value.none)=true then _ else _) _ _ s
 rw[DV (show ¬ ((Value.ref d == Value.none)=true) from D8)];refine vJ (DS (vJ (EX hod hdd ?_)));rw[DV (by simp)]
 refine vJ (DS (vJ (wpAny_dictEpoch hod hdd ?_)));rw[DV (by simp)]
 refine DS ?_;simp only[show ¬ ((i:Int)<0) from by omega,if_false,E1,he]
 refine vJ ?_
 first|refine vJ (wpAny_typeNameOfWhole_keyiter hit.typeIs (DS ?_))|refine vJ (wpAny_typeNameOf_keyiter hit.typeIs (DS ?_))
 refine vJ (wpAny_isOneOf_keyiter hit.typeIs ?_);show wpAny _ _ (setField (.ref it) 1 (rawInt ((i:Int)+1)) >>=_) _ _ s;refine vJ (EN ho hd (by simp) ?_)
 have hit':(s.heap.update it (Obj.mapFields (·.setIfInBounds 1 (rawInt ((i:Int)+1))))).IsKeyIter it d (i+1) es.size ep:=
  ⟨_,Ep _ ho (Obj.isFreed_of_fields (EQ hd _)),(Obj.cls_mapFields ..).trans hc,by rw[EQ hd];simp[rawInt]⟩
 refine vJ (Ez ?_);refine vJ (wpAny_isOneOf_keyiter (s:={s with heap:=s.heap.update it (Obj.mapFields (·.setIfInBounds 1 (rawInt ((i:Int)+1))))}) hit'.typeIs ?_)
 show wpAny _ _ (pure e.key) _ _ _;exact DS (DS ⟨_,rfl,DS (hQ _ hit' (Heap.SameBut.update ..))⟩)
theorem lV(hh:A.handled=none)(hit:s.heap.IsKeyIter it d i es.size ep)(hod:s.heap.get? d=some ob)(hdd:ob.data=.dict es ep)(he:es.size<=i)
  (hQ:∀h',Heap.ExtBut it s.heap h'->Q none {s with heap:=h'}):wpAny (model prog w) A (pyNext (.ref it)) Q E s:=by
 obtain⟨o,ho,hc,hd⟩:=id hit;unfold pyNext;refine vJ (wpAny_attempt (wpAny_callSpecial?_slot (name:=Str.ofString "__next__") hit.typeIs F.slot_dict_keyiterator_next
  (EY F.slot_dict_keyiterator_next hit.typeIs F.entry_dict_keyiterator_next ?_ (F.args_dict_keyiterator_next_1 _))))
 refine vJ (DS (vJ (vJ ?_)))
 first|refine vJ (wpAny_typeNameOfWhole_keyiter hit.typeIs (DS ?_))|refine vJ (wpAny_typeNameOf_keyiter hit.typeIs (DS ?_))
 refine vJ (wpAny_fieldsOf ho hd ?_);simp only[show Builtin.Dict_items.ownsTuple "dict_keyiterator"=false by decide,EA,if_false]
 show wpAny _ _ (if (Value.ref d == Value.none)=true then _ else _) _ _ s
 rw[DV (show ¬ ((Value.ref d == Value.none)=true) from D8)];refine vJ (DS (vJ (EX hod hdd ?_)));rw[DV (by simp)]
 refine vJ (DS (vJ (wpAny_dictEpoch hod hdd ?_)));rw[DV (by simp)]
 refine DS ?_;simp only[show ¬ ((i:Int)<0) from by omega,if_false,E1,Array.getElem?_eq_none he]
 refine vJ ?_
 first|refine vJ (wpAny_typeNameOfWhole_keyiter hit.typeIs (DS ?_))|refine vJ (wpAny_typeNameOf_keyiter hit.typeIs (DS ?_))
 show wpAny _ _ (setField (.ref it) 0 .none >>=_) _ _ s;refine vJ (EN ho hd (by simp) ?_)
 show wpAny _ _ (newExc (.type "StopIteration") [] >>=_) _ _ _;refine vJ ?_;simp only[newExc,newTuple];refine vJ (Er ?_ (by size_fits))
 refine vJ (m:=firstArgMember _ _) (wpAny_of_eq (a:=Value.none) (by first|rfl|(simp only[firstArgMember];rfl)) ?_)
 refine Er ?_ (by size_fits)
 simp only[raiseNew];refine vJ (wpAny_handled ?_);rw[show A.in1.handled=none from hh];refine vJ (DS (wpAny_throw ?_));refine vJ (wpAny_isInstance (T:="StopIteration") (b:=true) ⟨_,D7 _ rfl,rfl⟩ isSubtype_stop ?_);exact DS (hQ _ (((Heap.SameBut.update ..).extBut.push _).push _))
theorem pD(hh:A.handled=none)(I d:Addr)(hne:d≠I)(hd:ob.data=.dict es ep) :
  Walks prog w A I [I,d] [I] es.size (λi v=>∃e,es[i]?=some e/\v=e.key) (λi h=>h.IsKeyIter I d i es.size ep/\h.get? d=some ob) where
 sub:=λb hb=>by simp at hb;simp[hb]
 frame:=λ_ _ _ st hk=>⟨st.1.at λo e=>hk I (by simp) o e,hk d (by simp) _ st.2⟩
 item:=λi s Q E hi st hQ=>by
  have he:es[i]?=some es[i]:=by simp[hi]
  refine me st.1 st.2 hd he λh' hit' hs'=>?_
  exact hQ _ h' s.toks ⟨_,he,rfl⟩ ⟨hit',hs'.extBut d ob hne st.2⟩ λb o hb e=>hs'.extBut b o (λh=>hb (by simp[h])) e
 done:=λs Q E st hQ=>lV hh st.1 st.2 hd (DZ _) λh' he'=>hQ h' s.toks λb o hb e=>he' b o (λh=>hb (by simp[h])) e
 self:=λ_ _ _ _ st hQ=>wpAny_pyIter_keyiter st.1 hQ
theorem sj(lo:(d == sysModules)=false)(hx:ob.ExactDict)(hd:ob.data=.dict es ep):KdlSrc prog w "dict" d d es.size (λi v=>∃e,es[i]?=some e/\v=e.key) (λh=>h.get? d=some ob) where
 type:=λ_ hm=>⟨_,hm,hx.1⟩
 there:=λ_ hm=>⟨D1 hm,D1 hm⟩
 keep:=λ_ _ hm hk=>hk d (.inl rfl) _ hm
 notList:=by decide
 notTuple:=by decide
 hint:=λ_ _ _ _ hm hq=>kdl_hint_dict ⟨_,hm,hx.1⟩ hq
 iter:=λ_ _ hh hm=>⟨_,_,(λ_ _ hq=>vz lo hm hx hd hq),pD hh _ d (Ek (D1 hm)) hd,⟨⟨_,D7 _ rfl,rfl,rfl⟩,DU _ hm⟩⟩
end
end L2
namespace L2
open PySem PySem.Spec PyProof.Rows
section
variable {X:Cx}
theorem vL(neg:Bool):VO X (compareOp (if neg=true then .IsNot else .Is)) (pe neg):=by
 intro pins s σ H x y v u v2 u2 M Q Q2 I rv ru dx dy rm q back;unfold pe at q;split at q
 ·cases (show u=.non from dy);cases neg with
  |true=>exact VO.of3 tQ pins s σ H x .non v .non v2 u2 M Q Q2 I rv ru dx dy rm ⟨rfl,by rw[Bool.true_xor]at q;exact q⟩ back
  |false=>exact VO.of3 BR pins s σ H x .non v .non v2 u2 M Q Q2 I rv ru dx dy rm ⟨rfl,by rw[Bool.false_xor]at q;exact q⟩ back
 ·rename_i b;cases (show u=.bl b from dy);cases ru;have fin:∀k,Q (.bl k) M->EP X pins σ Q2 (.bool k) s:=λk q=>⟨.bl k,H,I,rfl,back _ _ _ _ bu rm (.refl _) q⟩
  split at q
  ·rename_i a;cases (show v=.bl a from dx);cases rv;have e:((Value.bool a == Value.bool b):Bool)=(a == b):=by cases a<;>cases b<;>rfl
   cases neg with
   |true=>exact wpAny_isNot_plain rfl (by rw[e];rw[Bool.true_xor]at q;exact fin _ q)
   |false=>exact wpAny_is_plain rfl (by rw[e];rw[Bool.false_xor]at q;exact fin _ q)
  ·cases (show v=.non from dx);cases rv;cases neg with
   |true=>exact wpAny_isNot_other rfl (λz=>nomatch z) (fin _ q)
   |false=>exact wpAny_is_other rfl (λz=>nomatch z) (fin _ q)
  ·exact q.elim
 ·exact q.elim
theorem qC:∀{ds:List D}{us:List β},Paired R ds us->(∀d u,d∈ds->R d u->e u=f d)->us.any e=ds.any f
 |_,_,.nil,_=>rfl
 |d::ds,u::us,.cons r t,h=>by
  rw[List.any_cons,List.any_cons,h d u DW r,qC t λd u hd=>h d u (DT _ hd)]
theorem jX{K:E7}:∀{ds:List D}{vs:List V}{us:List Value},DenL K H ds vs->Vals vs us->Paired (λd u=>∃v,Den K H d v/\RelV v u) ds us
 |[],_,_,h,r=>by cases (show _=[] from h);cases r;exact .nil
 |d::ds,_,_,h,r=>by
  obtain⟨v,r',rfl,dv,dl⟩:=h;cases r with
  |cons r1 r2=>exact .cons ⟨v,dv,r1⟩ (jX dl r2)
theorem Paired.mem_right:∀{l:List α}{m:List β},Paired R l m->∀b∈m,∃a∈l,R a b
 |_,_,.nil,b,hb=>by cases hb
 |a::l,c::m,.cons r t,b,hb=>by
  rcases DX.mp hb with rfl|hb
  ·exact⟨a,DW,r⟩
  ·obtain⟨a',h1,h2⟩:=Paired.mem_right t b hb;exact⟨a',DT _ h1,h2⟩
theorem vt(hu:X.A.units+64<cLine)(neg:Bool):VO X (compareOp (if neg=true then .NotIn else .In)) (pP neg):=by
 intro pins s σ H x y v u v2 u2 M Q Q2 I rv ru dx dy rm q back;unfold pP at q;split at q
 ·rename_i ds eds;obtain⟨p1,p2,q⟩:=q;obtain⟨p,vs,rfl,hq,dl⟩:=gj rm eds dy;cases ru;obtain⟨H',I',t',d1⟩:=qv I rm dx p1;have dl':=dl.mono t';have fin:EP X pins σ Q2 (.bool (neg ^^ ds.any λd=>eqD d (res M x))) s:=⟨.bl _,H,I,rfl,back _ _ _ _ bu rm (.refl _) q⟩
  classical
  have key:∀{its:List Value},Vals vs its->∃e:Value->Bool,its.any e=(ds.any λd=>eqD d (res M x))/\∀w∈its,SeqAt.EqAt X.A.in1 s w v2 (e w):=λ{its} r=>by
   have pd:=jX dl' r
   let e:Value->Bool:=λw=>if h:∃d∈ds,∃v,Den X.K H' d v/\RelV v w then eqD h.choose (res M x) else false
   have he:∀d w,d∈ds->(∃v,Den X.K H' d v/\RelV v w)->e w=eqD d (res M x):=λd w hd ⟨v',dv,rw'⟩=>by
    have h:∃d∈ds,∃v,Den X.K H' d v/\RelV v w:=⟨d,hd,v',dv,rw'⟩;obtain⟨hm,v'',dv2,rw2⟩:=h.choose_spec;have:v''=v':=rw2.inj rw';subst this;have e1:h.choose=d:=ow I' rfl 8 (Es.mp p2 _ hm) (Es.mp p2 _ hd) dv2 dv;show (if h:∃d∈ds,∃v,Den X.K H' d v/\RelV v w then eqD h.choose (res M x) else false)=_
    rw[dif_pos h,e1]
   refine⟨e,qC pd he,λw hw=>?_⟩
   obtain⟨d,hd,v',dv,rw'⟩:=Paired.mem_right pd w hw;rw[he d w hd ⟨v',dv,rw'⟩];exact (AR I' rfl 8 (A:=X.A.in1) (Es.mp p2 _ hd) p1 dv d1 rw' rv (by show X.A.units+1+8<cLine;omega)).2.2
  rcases hq with hq|hq
  ·obtain⟨its,r,pl',hz⟩:=I.list hq;obtain⟨e,e1,e2⟩:=key r;have ea:its.toArray.any e=ds.any λd=>eqD d (res M x):=by rw[<-e1];simp
   cases neg with
   |true=>exact SeqAt.notIn_listAt e pl'.isList (λw hw=>e2 w (by simpa using hw)) (by rw[ea];rw[Bool.true_xor]at fin;exact fin)
   |false=>exact SeqAt.in_listAt e pl'.isList (λw hw=>e2 w (by simpa using hw)) (by rw[ea];rw[Bool.false_xor]at fin;exact fin)
  ·obtain⟨its,r,pl',hz⟩:=I.tuple hq;obtain⟨e,e1,e2⟩:=key r;have ea:its.toArray.any e=ds.any λd=>eqD d (res M x):=by rw[<-e1];simp
   cases neg with
   |true=>exact SeqAt.notIn_tupleAt e pl' (λw hw=>e2 w (by simpa using hw)) (by rw[ea];rw[Bool.true_xor]at fin;exact fin)
   |false=>exact SeqAt.in_tupleAt e pl' (λw hw=>e2 w (by simpa using hw)) (by rw[ea];rw[Bool.false_xor]at fin;exact fin)
 ·split at q
  ·rename_i o e;obtain⟨a,ov,rfl,g,od⟩:=fM (X:=X) e rm dy dx;cases ru;refine BC neg (by omega) I g rv λs' I'=>⟨.bl (neg ^^ ov.isSome),H,I',rfl,back _ _ (.bl _) _ bu rm (.refl _) ?_⟩
   have:o.isSome=ov.isSome:=by
    cases o<;>cases ov<;>first|rfl|exact od.elim
   rw[<-this];exact q
  ·split at q
   ·rename_i i j _ _;cases (show v=.str i from dx);cases (show u=.str j from dy);cases neg with
    |false=>exact qh pins s σ H _ _ v2 u2 Q2 I rv ru ⟨i,j,rfl,rfl,back _ _ (.bl _) _ bu rm (.refl _) (by rw[Bool.false_xor]at q;exact q)⟩
    |true=>exact kf pins s σ H _ _ v2 u2 Q2 I rv ru ⟨i,j,rfl,rfl,back _ _ (.bl _) _ bu rm (.refl _) (by rw[Bool.true_xor]at q;exact q)⟩
   ·exact q.elim
theorem et(hu:X.A.units+64<cLine)(op:CmpOp):VO X (compareOp op) (aG op):=by
 cases op with
 |Eq=>exact vE hu false
 |NotEq=>exact vE hu true
 |Lt=>exact (VO.of3 BO).imp λ_ _ _ _ h=>gu h
 |LtE=>exact (VO.of3 Bo).imp λ_ _ _ _ h=>gu h
 |Gt=>exact (VO.of3 BX).imp λ_ _ _ _ h=>gu h
 |GtE=>exact (VO.of3 Cg).imp λ_ _ _ _ h=>gu h
 |Is=>exact vL false
 |IsNot=>exact vL true
 |In=>exact vt hu false
 |NotIn=>exact vt hu true
theorem gG{K:E7}(h:DenL K H [d] vs):∃v,vs=[v]/\Den K H d v:=by
 obtain⟨v,r,rfl,dv,rfl⟩:=h;exact⟨v,rfl,dv⟩
def rLen0(xs:List D)(M:MH)(Q:VK3):Prop:=match xs with
  |[x]=>match aT M x with
   |some ds=>Q (.int ds.length) M
   |none=>False
  |_=>False
theorem uJ:VC X (.builtin "len") rLen0:=(VC.of3 zf).imp λxs M Q h=>by
 simp only[rLen0]at h;split at h
 ·rename_i x;split at h
  ·rename_i ds e;refine⟨x,ds,rfl,?_,h⟩;cases x with
   |tup es=>exact .inr (by rw[show es=ds from D9 e])
   |rol es=>exact .inl (.inl (by rw[show es=ds from D9 e]))
   |ref a=>
    cases q:M a with
    |none=>simp[aT,ah,q]at e
    |some o=>
     cases o with
     |lst es=>exact .inl (.inr ⟨a,rfl,by rw[q];simp[aT,ah,q]at e;rw[e]⟩)
     |_=>simp[aT,ah,q]at e
   |_=>cases e
  ·exact h.elim
 ·exact h.elim
theorem oO{s:Shared}{ks:List (List Int)}{xs:List (List Int×Addr×Value)}(I:Inv X pins σ H s)(e:Rd H p (.ext (ao p xs)))(z:TabOk X.K H p ks xs vs) :
  ∃ob es ep,s.heap.get? p=some ob/\ob.ExactDict/\ob.data=.dict es ep/\es.toList=(xs.map λx=>(⟨tH x.1,.ref x.2.1,x.2.2⟩:DictEntry))/\es.size=ks.length:=by
 obtain⟨⟨ob,es,ep,h1,h2,h3,h4⟩,_⟩:=(show ObjOk X.prog X.w H s.heap p (.ext (ao p xs)) from e.ok I.hok);refine⟨ob,es,ep,h1,h2,h3,h4,?_⟩;have:=congrArg List.length h4;have l3:xs.length=ks.length:=by rw[<-z.kx];simp
 simp at this;omega
theorem wY:VC X (.builtin "len") (rBi .len):=by
 intro pins s σ H xs vs us M Q Q2 I rs dl rm q back;by_cases h:rLen0 xs M Q
 ·exact uJ pins s σ H xs vs us M Q Q2 I rs dl rm h back
 ·simp only[rBi]at q;split at q
  ·rename_i x;split at q
   ·rename_i ds e;exact absurd (by simp only[rLen0,e];exact q) h
   ·split at q
    ·rename_i ks ds e;obtain⟨v,rfl,dv⟩:=gG dl;obtain⟨p,ws,ts,rfl,rd,z,_⟩:=fA e rm dv;obtain⟨ob,es,ep,h1,h2,h3,h4,h5⟩:=oO I rd z;obtain⟨u,rfl,rx⟩:=eh rs;cases rx;refine B1 z.no h1 h2 h3 (by have:=z.sz;have:=sizeLine_eq;omega) ⟨.int es.size,H,I.tok _,⟨_,rfl⟩,?_⟩
     rw[h5];exact back _ _ _ _ aX rm (.refl _) q
    ·split at q
     ·rename_i z _ _;obtain⟨v,rfl,dv⟩:=gG dl;cases (show v=.str z from dv);exact j5 pins s σ H _ us Q2 I rs ⟨z,rfl,q.1,back _ _ _ _ aX rm (.refl _) q.2⟩
     ·exact q.elim
  ·exact q.elim
theorem wa(hc:X.calm=true):VC X (.builtin "min") (rBi .min):=(VC.of3 (Am hc)).imp λxs M Q h=>by
 simp only[rBi]at h;split at h
 ·exact⟨_,_,rfl,h⟩
 ·exact h.elim
theorem jG{K:E7}:∀ks:List Int,DenL K H (ks.map D.int) (ks.map V.int)
 |[]=>rfl
 |k::r=>⟨_,_,rfl,rfl,jG r⟩
theorem mv{K:E7}:∀{ts:List (List Int×Addr×Value)},(∀x∈ts,SqT K H x.2.1 (x.1.map V.int))->DenL K H ((ts.map (·.1)).map c6) (ts.map λx=>V.ref x.2.1)
 |[],_=>rfl
 |x::r,h=>⟨_,_,rfl,nZ (h x DW) (jG _),mv λy hy=>h y (DT _ hy)⟩
theorem jy:∀ts:List (List Int×Addr×Value),Vals (ts.map λx=>V.ref x.2.1) (ts.map λx=>Value.ref x.2.1)
 |[]=>.nil
 |x::r=>.cons rfl (jy r)
theorem uS(fz:Bool)(hc:X.calm=true):VC X (.type "list") (rBi (.list fz)):=by
 intro pins s σ H xs vs us M Q Q2 I r dl rm q back;simp only[rBi]at q;split at q
 ·rename_i x;split at q
  ·rename_i ds e;obtain⟨v,rfl,dv⟩:=gG dl;obtain⟨p,vs,rfl,hq,dl2⟩:=gj rm e dv;refine thn (fu pins s σ H _ us (λw H'=>∃l,w=.ref l/\H l=none/\H'=upd H l (.lst vs)) I r ⟨p,vs,rfl,hq,λl hl=>⟨l,rfl,hl,rfl⟩⟩) λu s1 ⟨w,H1,I1,r1,l,e1,hl,e2⟩=>?_
   subst e1;subst e2;cases r1;exact bR I1 hl dl2 rm (.refl _) q back
  ·split at q
   ·rename_i ks ds e;obtain⟨v,rfl,dv⟩:=gG dl;obtain⟨p,ws,ts,rfl,rd,z,_⟩:=fA e rm dv;obtain⟨ob,es,ep,h1,h2,h3,h4,h5⟩:=oO I rd z;obtain⟨u,rfl,rx⟩:=eh r;cases rx;have hz:es.size<=sizeLine:=by have:=z.sz;omega
    refine bF I.tk <| PySem.W.kdl_call (sj z.no h2 h3) (I.ok.hd hc) h1 hz λh' tk acc' c' kp e hi _=>?_
    have hp:H s.heap.objs.size=none:=I.hok.fresh (DZ _);have ea:acc'.toList=ts.map λx=>Value.ref x.2.1:=by
     refine List.ext_getElem? λj=>?_
     by_cases hj:j<acc'.size
     ·have e1:acc'[j]?=some acc'[j]:=by simp[hj]
      obtain⟨en,e2,e3⟩:=hi.2 j _ e1;have e4:es.toList[j]?=some en:=by simpa using e2
      rw[h4,Ef]at e4;cases hx:ts[j]? with
      |none=>rw[hx]at e4;cases e4
      |some x=>
       rw[hx]at e4;cases e4;rw[Array.getElem?_toList,e1,e3,Ef,hx];rfl
     ·have h6:=hi.1;have h7:ts.length=es.size:=by
       have:=congrArg List.length h4;simpa using this.symm
      rw[List.getElem?_eq_none (by simpa using hj),List.getElem?_eq_none (by rw[D5];omega)]
    have hv:Vals (ts.map λx=>V.ref x.2.1) acc'.toList:=by rw[ea];exact jy ts
    have I1:=I.laid (a:=s.heap.objs.size) (o:=.lst (ts.map λx=>V.ref x.2.1)) (t':=tk) kp (DZ _) ⟨by rw[hv.length,ea,D5];have:=z.sz;rw[<-z.kx,D5]at this;exact this,acc'.toList,c',hv,by simpa using e⟩
    exact bR I1 hp (by rw[<-z.kx];exact mv z.at_) rm (.refl _) q back
   ·exact q.elim
 ·exact q.elim
end
end L2
namespace L2
open PySem PySem.Spec PyProof.Rows PySem.W
theorem ints_of{K:E7}:∀{es:List D}{ns:List Int}{vs:List V}{us:List Value},bX es=some ns->DenL K H es vs->Vals vs us->IntsAre us ns
 |[],ns,vs,us,h,dl,r=>by
  cases (show []=ns from D9 h);cases (show vs=[] from dl);cases r;exact .nil
 |d::es,ns,vs,us,h,dl,r=>by
  obtain⟨v,ws,rfl,dv,dl⟩:=dl;cases d with
  |int i=>
   cases q:bX es with
   |none=>simp[bX,q]at h
   |some ms=>
    simp[bX,q]at h;subst h;cases (show v=.int i from dv);cases r with
    |cons h1 h2=>
     obtain⟨t,rfl⟩:=h1;exact .cons _ _ (ints_of q dl h2)
  |_=>simp[bX]at h
end L2
namespace L2
open PySem PySem.Spec PyProof.Rows
theorem ex9{α β γ δ:Sort _}{P1 P2 P3 P4 P5:α->β->γ->δ->Prop}{R:Prop}(h:∃a b c d,P1 a b c d/\P2 a b c d/\P3 a b c d/\P4 a b c d/\P5 a b c d)(k:∀a b c d,P1 a b c d->P2 a b c d->P3 a b c d->P4 a b c d->P5 a b c d->R):R:=
 h.elim λa h=>h.elim λb h=>h.elim λc h=>h.elim λd h=>k a b c d h.1 h.2.1 h.2.2.1 h.2.2.2.1 h.2.2.2.2
def Cz(K:E7)(r:D->D->MH->VK3->Prop):R2:=λv u H Q2=>∃x y M Q,Den K H x v/\Den K H y u/\RelM K M H/\r x y M Q/\Back K H Q Q2
def B9(K:E7)(r:D->MH->VK3->Prop):V->Hp->VK->Prop:=λv H Q2=>∃x M Q,Den K H x v/\RelM K M H/\r x M Q/\Back K H Q Q2
def BY(K:E7)(r:List D->MH->VK3->Prop):List V->Hp->VK->Prop:=λvs H Q2=>∃xs M Q,DenL K H xs vs/\RelM K M H/\r xs M Q/\Back K H Q Q2
section
variable {X:Cx}
theorem VO.op{f:Value->Value->Sem Value}{r:D->D->MH->VK3->Prop}(h:VO X f r):OpR X f (Cz X.K r):=λpins s σ H v u v2 u2 Q2 I rv ru ⟨x,y,M,Q,dx,dy,rm,q,back⟩=>h pins s σ H x y v u v2 u2 M Q Q2 I rv ru dx dy rm q back
theorem VU.op{f:Value->Sem Value}{r:D->MH->VK3->Prop}(h:VU X f r):UnR X f (B9 X.K r):=λpins s σ H v v2 Q2 I rv ⟨x,M,Q,dx,rm,q,back⟩=>h pins s σ H x v v2 M Q Q2 I rv dx rm q back
theorem VC.op{f:Value}{r:List D->MH->VK3->Prop}(h:VC X f r):CallR X f (BY X.K r):=λpins s σ H vs us Q2 I rv ⟨xs,M,Q,dx,rm,q,back⟩=>h pins s σ H xs vs us M Q Q2 I rv dx rm q back
end
section
variable {K:E7}
theorem nS{ta tb:St3->MH->VK3->XN->Prop}{R3:D->D->MH->Prop}{R2:V->V->Hp->Prop}(rm:RelM K M H)(ds:DenS K H σ3 σ)(lk:LkE K cls H E3 (E2 σ))
  (h:ta σ3 M (λx M1=>tb σ3 M1 (λy M2=>R3 x y M2) E3) E3) (k:∀v u H' x y M',Den K H' x v->Den K H' y u->RelM K M' H'->TM K H H'->R3 x y M'->R2 v u H') :
  low K cls E2 ta σ H λv H1=>low K cls E2 tb σ H1 λu H2=>R2 v u H2:=
 ⟨σ3,M,_,E3,rm,ds,lk,h,λv H1 x M1 dv rm1 t1 h1=>⟨σ3,M1,_,E3,rm1,ds.mono t1,lk.mono t1,h1,λu H2 y M2 du rm2 t2 h2=>k v u H2 x y M2 (dv.mono t2) du rm2 (t1.trans t2) h2⟩⟩
theorem aO{ta:St3->MH->VK3->XN->Prop}{R3:VK3}{R2:VK}(rm:RelM K M H)(ds:DenS K H σ3 σ)(lk:LkE K cls H E3 (E2 σ))(h:ta σ3 M R3 E3)(k:∀v H' x M',Den K H' x v->RelM K M' H'->TM K H H'->R3 x M'->R2 v H') :
  low K cls E2 ta σ H R2:=⟨σ3,M,R3,E3,rm,ds,lk,h,k⟩
end
section
variable {X:Cx}{cls:Nat->Addr}{E2:St->XK}{a b c e:Expr}{ta tb tc te:St3->MH->VK3->XN->Prop}{pos:Pos}
theorem zS{i:Nat}{x:Str}(hN:X.N[i]?=some x)(hv:Vis X.env.scope x)(hd:(x == ("__debug__" : Str))=false)(hcd:(x == ("__classdict__" : Str))=false) :
  PE X (.Name x pos) (low X.K cls E2 λσ M Q _=>match σ[i]? with|some (some d)=>Q d M|_=>False):=
 (kP hN hv hd hcd).imp λσ H Q2 hl_=>ex9 hl_ λσ3 M Q E3 rm ds lk h back=>by
  try dsimp only at h
  split at h
  ·rename_i d e;obtain⟨v,e1,e2⟩:=ds.2 i d e;exact⟨v,e1,back _ _ _ _ e2 rm (.refl _) h⟩
  ·exact h.elim
theorem oo{v:V}{d:D}(h:PE X e (tC v))(hd:∀H,Den X.K H d v):PE X e (low X.K cls E2 λ_ M Q _=>Q d M):=
 h.imp λσ H Q2 hl_=>ex9 hl_ λσ3 M Q E3 rm ds lk h back=>back _ _ _ _ (hd H) rm (.refl _) h
theorem z9{op:Operator}{r:D->D->MH->VK3->Prop}(ho:VO X (binaryOp op) r)(ha:PE X a (low X.K cls E2 ta))(hb:PE X b (low X.K cls E2 tb)) :
  PE X (.BinOp a op b pos) (low X.K cls E2 λσ M Q E=>ta σ M (λx M1=>tb σ M1 (λy M2=>r x y M2 Q) E) E):=
 (Ap ho.op ha hb).imp λσ H Q2 hl_=>ex9 hl_ λσ3 M Q E3 rm ds lk h back=>nS rm ds lk h λv u H' x y M' dx dy rm' t q=>⟨x,y,M',Q,dx,dy,rm',q,back.mono t⟩
theorem CI{op:UnaryOp}{r:D->MH->VK3->Prop}(ho:VU X (unaryOp op) r)(ha:PE X a (low X.K cls E2 ta)) :
  PE X (.UnaryOp op a pos) (low X.K cls E2 λσ M Q E=>ta σ M (λx M1=>r x M1 Q) E):=
 (AA ho.op ha).imp λσ H Q2 hl_=>ex9 hl_ λσ3 M Q E3 rm ds lk h back=>aO rm ds lk h λv H' x M' dx rm' t q=>⟨x,M',Q,dx,rm',q,back.mono t⟩
theorem zU{op:CmpOp}{r:D->D->MH->VK3->Prop}(ho:VO X (compareOp op) r)(ha:PE X a (low X.K cls E2 ta))(hb:PE X b (low X.K cls E2 tb))(hm:behindInMarks op b=false) :
  PE X (.Compare a [op] [b] pos) (low X.K cls E2 λσ M Q E=>ta σ M (λx M1=>tb σ M1 (λy M2=>r x y M2 Q) E) E):=
 (vc ho.op ha hb hm).imp λσ H Q2 hl_=>ex9 hl_ λσ3 M Q E3 rm ds lk h back=>nS rm ds lk h λv u H' x y M' dx dy rm' t q=>⟨x,y,M',Q,dx,dy,rm',q,back.mono t⟩
abbrev boolQ(Q:Bool->MH->Prop):VK3:=λr M=>match r with
 |.bl k=>Q k M
 |_=>False
theorem dU{K:E7}{H:Hp}{Q:Bool->MH->Prop}{Q2:Bool->Hp->Prop}(k:∀b H' M',RelM K M' H'->TM K H H'->Q b M'->Q2 b H'):Back K H (boolQ Q) λx H1=>∃k,x=.bl k/\Q2 k H1:=λv H' d M' dv rm t q=>by
 unfold boolQ at q;split at q
 ·exact⟨_,dv,k _ _ _ rm t q⟩
 ·exact q.elim
theorem AU{op:CmpOp}{r:D->D->MH->VK3->Prop}(ho:VO X (compareOp op) r)(ha:PE X a (low X.K cls E2 ta))(hb:PE X b (low X.K cls E2 tb))(hm:behindInMarks op b=false) :
  PT X (.Compare a [op] [b] pos) (bC X.K cls E2 λσ M Q E=>ta σ M (λx M1=>tb σ M1 (λy M2=>r x y M2 (boolQ Q)) E) E):=
 (ui ho.op ha hb hm).imp λσ H Q2 hl_=>ex9 hl_ λσ3 M Q E3 rm ds lk h back=>nS rm ds lk h λv u H' x y M' dx dy rm' t q=>⟨x,y,M',_,dx,dy,rm',q,(dU back).mono t⟩
theorem AF(ha:PE X a (low X.K cls E2 ta))(he:∀whole,isTrue a X.env whole=(do let v<-whole;standAt a.pos;holding [v] (truthy v))):PT X a (bC X.K cls E2 λσ M Q E=>ta σ M (boolQ Q) E):=
 (yc ha he).imp λσ H Q2 hl_=>ex9 hl_ λσ3 M Q E3 rm ds lk h back=>aO rm ds lk h λv H' x M' dx rm' t q=>dU back v H' x M' dx rm' t q
variable {tA tB:St3->MH->(Bool->MH->Prop)->XN->Prop}{rest:List Expr}
theorem gz{K:E7}{σ:St}{H:Hp}{σ3:St3}{M:MH}{E3:XN}{R3:Bool->MH->Prop}{R2:Bool->Hp->Prop}(rm:RelM K M H)(ds:DenS K H σ3 σ)(lk:LkE K cls H E3 (E2 σ))(h:tA σ3 M R3 E3)(k:∀b H' M',RelM K M' H'->TM K H H'->R3 b M'->R2 b H') :
  bC K cls E2 tA σ H R2:=⟨σ3,M,R3,E3,rm,ds,lk,h,k⟩
theorem oj(ha:PT X a (bC X.K cls E2 tA)):PW X (.BoolOp .And [a] pos) (bC X.K cls E2 tA):=uB ha
theorem ra(ha:PT X a (bC X.K cls E2 tA)):PW X (.BoolOp .Or [a] pos) (bC X.K cls E2 tA):=xB ha
theorem oJ(ha:PT X a (bC X.K cls E2 tA))(hb:PW X (.BoolOp .And (b::rest) pos) (bC X.K cls E2 tB)) :
  PW X (.BoolOp .And (a::b::rest) pos) (bC X.K cls E2 λσ M Q E=>tA σ M (λc M1=>if c=true then tB σ M1 Q E else Q false M1) E):=
 (xX ha hb).imp λσ H Q2 hl_=>ex9 hl_ λσ3 M Q E3 rm ds lk h back=>gz rm ds lk h λc H' M' rm' t q=>by
  cases c with
  |true=>rw[DY rfl]at q ⊢;exact gz rm' (ds.mono t) (lk.mono t) q λb H2 M2 r2 t2 q2=>back b H2 M2 r2 (t.trans t2) q2
  |false=>rw[DV D8]at q ⊢;exact back _ _ _ rm' t q
theorem tP(ha:PT X a (bC X.K cls E2 tA))(hb:PW X (.BoolOp .Or (b::rest) pos) (bC X.K cls E2 tB)) :
  PW X (.BoolOp .Or (a::b::rest) pos) (bC X.K cls E2 λσ M Q E=>tA σ M (λc M1=>if c=true then Q true M1 else tB σ M1 Q E) E):=
 (Aa ha hb).imp λσ H Q2 hl_=>ex9 hl_ λσ3 M Q E3 rm ds lk h back=>gz rm ds lk h λc H' M' rm' t q=>by
  cases c with
  |true=>rw[DY rfl]at q ⊢;exact back _ _ _ rm' t q
  |false=>rw[DV D8]at q ⊢;exact gz rm' (ds.mono t) (lk.mono t) q λb H2 M2 r2 t2 q2=>back b H2 M2 r2 (t.trans t2) q2
theorem zi(ha:PT X a (bC X.K cls E2 tA)):PT X (.UnaryOp .Not a pos) (bC X.K cls E2 λσ M Q E=>tA σ M (λc M1=>Q (!c) M1) E):=
 (xy ha).imp λσ H Q2 hl_=>ex9 hl_ λσ3 M Q E3 rm ds lk h back=>gz rm ds lk h λc H' M' rm' t q=>back _ _ _ rm' t q
theorem vG(ha:PE X a (low X.K cls E2 ta))(hb:PE X (.BoolOp .And (b::rest) pos) (low X.K cls E2 tb)) :
  PE X (.BoolOp .And (a::b::rest) pos) (low X.K cls E2 λσ M Q E=>ta σ M (λx M1=>match x with|.bl c=>if c=true then tb σ M1 Q E else Q (.bl false) M1|_=>False) E):=
 (wF ha hb).imp λσ H Q2 hl_=>ex9 hl_ λσ3 M Q E3 rm ds lk h back=>aO rm ds lk h λv H' x M' dx rm' t q=>by
  split at q
  ·rename_i c;cases (show v=.bl c from dx);refine⟨c,rfl,?_⟩;cases c with
   |true=>rw[DY rfl]at q ⊢;exact aO rm' (ds.mono t) (lk.mono t) q λv2 H2 x2 M2 d2 r2 t2 q2=>back v2 H2 x2 M2 d2 r2 (t.trans t2) q2
   |false=>rw[DV D8]at q ⊢;exact back _ _ _ _ bu rm' t q
  ·exact q.elim
theorem Af(ha:PE X a (low X.K cls E2 ta))(hb:PE X (.BoolOp .Or (b::rest) pos) (low X.K cls E2 tb)) :
  PE X (.BoolOp .Or (a::b::rest) pos) (low X.K cls E2 λσ M Q E=>ta σ M (λx M1=>match x with|.bl c=>if c=true then Q (.bl true) M1 else tb σ M1 Q E|_=>False) E):=
 (yZ ha hb).imp λσ H Q2 hl_=>ex9 hl_ λσ3 M Q E3 rm ds lk h back=>aO rm ds lk h λv H' x M' dx rm' t q=>by
  split at q
  ·rename_i c;cases (show v=.bl c from dx);refine⟨c,rfl,?_⟩;cases c with
   |true=>rw[DY rfl]at q ⊢;exact back _ _ _ _ bu rm' t q
   |false=>rw[DV D8]at q ⊢;exact aO rm' (ds.mono t) (lk.mono t) q λv2 H2 x2 M2 d2 r2 t2 q2=>back v2 H2 x2 M2 d2 r2 (t.trans t2) q2
  ·exact q.elim
theorem yX(ha:PE X a (low X.K cls E2 ta)):PE X (.UnaryOp .Not a pos) (low X.K cls E2 λσ M Q E=>ta σ M (λx M1=>match x with|.bl c=>Q (.bl (!c)) M1|_=>False) E):=
 (xh ha).imp λσ H Q2 hl_=>ex9 hl_ λσ3 M Q E3 rm ds lk h back=>aO rm ds lk h λv H' x M' dx rm' t q=>by
  split at q
  ·rename_i c;cases (show v=.bl c from dx);exact⟨c,rfl,back _ _ _ _ bu rm' t q⟩
  ·exact q.elim
theorem Ck(hc:PT X c (bC X.K cls E2 tA))(ha:PE X a (low X.K cls E2 ta))(hb:PE X b (low X.K cls E2 tb)) :
  PE X (.IfExp c a b pos) (low X.K cls E2 λσ M Q E=>tA σ M (λk M1=>if k=true then ta σ M1 Q E else tb σ M1 Q E) E):=
 (sB hc ha hb).imp λσ H Q2 hl_=>ex9 hl_ λσ3 M Q E3 rm ds lk h back=>gz rm ds lk h λk H' M' rm' t q=>by
  cases k with
  |true=>rw[DY rfl]at q ⊢;exact aO rm' (ds.mono t) (lk.mono t) q λv2 H2 x2 M2 d2 r2 t2 q2=>back v2 H2 x2 M2 d2 r2 (t.trans t2) q2
  |false=>rw[DV D8]at q ⊢;exact aO rm' (ds.mono t) (lk.mono t) q λv2 H2 x2 M2 d2 r2 t2 q2=>back v2 H2 x2 M2 d2 r2 (t.trans t2) q2
theorem uF{op op':CmpOp}{r r':D->D->MH->VK3->Prop}(ho:VO X (compareOp op) r)(ho':VO X (compareOp op') r')(ha:PE X a (low X.K cls E2 ta))(hb:PE X b (low X.K cls E2 tb))(hc:PE X c (low X.K cls E2 tc))(hm:lastMarks [op,op'] [b,c]=false) :
  PT X (.Compare a [op,op'] [b,c] pos) (bC X.K cls E2 λσ M Q E=>ta σ M (λx M1=>tb σ M1 (λy M2=>r x y M2 λz M3=>match z with
   |.bl k=>if k=true then tc σ M3 (λz M4=>r' y z M4 (boolQ Q)) E else Q false M3
   |_=>False) E) E):=
 (rX ho.op ho'.op ha hb hc hm).imp λσ H Q2 hl_=>ex9 hl_ λσ3 M Q E3 rm ds lk h back=>nS rm ds lk h λv u H' x y M' dx dy rm' t q=>⟨x,y,M',_,dx,dy,rm',q,λw H1 z M1 dz rm1 t1 q1=>by
  split at q1
  ·rename_i k;refine⟨k,dz,?_⟩;cases k with
   |true=>rw[DY rfl]at q1 ⊢;exact aO rm1 ((ds.mono t).mono t1) ((lk.mono t).mono t1) q1 λv2 H2 x2 M2 d2 r2 t2 q2=>⟨y,x2,M2,_,(dy.mono t1).mono t2,d2,r2,q2,((dU back).mono t).mono (t1.trans t2)⟩
   |false=>rw[DV D8]at q1 ⊢;exact⟨false,rfl,back _ _ _ rm1 (t.trans t1) q1⟩
  ·exact q1.elim⟩
noncomputable def uO(r r' r'':R2)(ta tb tc td:TE):TE:=λσ H Q=>ta σ H λx H1=>tb σ H1 λy H2=>r x y H2 λz H3=>∃k,z=.bl k/\
 (if k=true then tc σ H3 (λw H4=>r' y w H4 λz2 H5=>∃k2,z2=.bl k2/\(if k2=true then td σ H5 λu H6=>r'' w u H6 Q else Q (.bl false) H5)) else Q (.bl false) H3)
theorem pE{a b c d:Expr}{ta tb tc td:TE}{op op' op'':CmpOp}{r r' r'':R2}(ho:OpR X (compareOp op) r)(ho':OpR X (compareOp op') r')(ho'':OpR X (compareOp op'') r'')(ha:PE X a ta)(hb:PE X b tb)(hc:PE X c tc)(hd:PE X d td)
  (hm:lastMarks [op,op',op''] [b,c,d]=false):PT X (.Compare a [op,op',op''] [b,c,d] pos) (qQ (uO r r' r'' ta tb tc td)):=by
 intro pins s σ H Q I h;refine isTrue_chain (thn (ha pins s σ H _ I h) λv s1 ⟨x,H1,I1,r1,q1⟩=>test_link (thn (hb pins s1 σ H1 _ I1 q1) λu s2 ⟨y,H2,I2,r2,q2⟩=>
  thn (ho pins s2 σ H2 x y v u _ I2 r1 r2 q2) λd s3 ⟨z,H3,I3,r3,k,e,q3⟩=>?_)) hm
 subst e;cases r3;refine EC ?_;cases k with
 |false=>
  obtain⟨k',e',q'⟩:=q3;cases e';exact ite_ff ⟨H3,I3,q'⟩
 |true=>
  refine ite_tt (test_link (thn (hc pins s3 σ H3 _ I3 q3) λw' s4 ⟨z',H4,I4,r4,q4⟩=>thn (ho' pins s4 σ H4 y z' u w' _ I4 r2 r4 q4) λd' s5 ⟨z2,H5,I5,r5,k2,e2,q5⟩=>?_))
  subst e2;cases r5;refine EC ?_;cases k2 with
  |false=>
   obtain⟨k',e',q'⟩:=q5;cases e';exact ite_ff ⟨H5,I5,q'⟩
  |true=>
   refine ite_tt (test_last (thn (hd pins s5 σ H5 _ I5 q5) λw2 s6 ⟨z3,H6,I6,r6,q6⟩=>thn (ho'' pins s6 σ H6 z' z3 w' w2 _ I6 r4 r6 q6) λd2 s7 ⟨z4,H7,I7,r7,k3,e3,q7⟩=>?_))
   subst e3;cases r7;exact EC ⟨H7,I7,q7⟩
theorem qS{d:Expr}{td:St3->MH->VK3->XN->Prop}{op op' op'':CmpOp}{r r' r'':D->D->MH->VK3->Prop}(ho:VO X (compareOp op) r)(ho':VO X (compareOp op') r')(ho'':VO X (compareOp op'') r'')(ha:PE X a (low X.K cls E2 ta))(hb:PE X b (low X.K cls E2 tb))(hc:PE X c (low X.K cls E2 tc))(hd:PE X d (low X.K cls E2 td))(hm:lastMarks [op,op',op''] [b,c,d]=false) :
  PT X (.Compare a [op,op',op''] [b,c,d] pos) (bC X.K cls E2 λσ M Q E=>ta σ M (λx M1=>tb σ M1 (λy M2=>r x y M2 λz M3=>match z with
   |.bl k=>if k=true then tc σ M3 (λz M4=>r' y z M4 λo M5=>match o with
    |.bl k=>if k=true then td σ M5 (λu M6=>r'' z u M6 (boolQ Q)) E else Q false M5
    |_=>False) E else Q false M3
   |_=>False) E) E):=
 (pE ho.op ho'.op ho''.op ha hb hc hd hm).imp λσ H Q2 hl_=>ex9 hl_ λσ3 M Q E3 rm ds lk h back=>nS rm ds lk h λv u H' x y M' dx dy rm' t q=>⟨x,y,M',_,dx,dy,rm',q,λw H1 z M1 dz rm1 t1 q1=>by
  split at q1
  ·rename_i k;refine⟨k,dz,?_⟩;cases k with
   |true=>
    rw[DY rfl]at q1 ⊢;refine aO rm1 ((ds.mono t).mono t1) ((lk.mono t).mono t1) q1 λv2 H2 x2 M2 d2 r2 t2 q2=>⟨y,x2,M2,_,(dy.mono t1).mono t2,d2,r2,q2,λw3 H3 z3 M3 dz3 rm3 t3 q3=>?_⟩
    split at q3
    ·rename_i k;refine⟨k,dz3,?_⟩;cases k with
     |true=>
      rw[DY rfl]at q3 ⊢;exact aO rm3 ((((ds.mono t).mono t1).mono t2).mono t3) ((((lk.mono t).mono t1).mono t2).mono t3) q3 λv4 H4 x4 M4 d4 r4 t4 q4=>⟨x2,x4,M4,_,(d2.mono t3).mono t4,d4,r4,q4,(((dU back).mono t).mono (t1.trans t2)).mono (t3.trans t4)⟩
     |false=>rw[DV D8]at q3 ⊢;exact⟨false,rfl,back _ _ _ rm3 (((t.trans t1).trans t2).trans t3) q3⟩
    ·exact q3.elim
   |false=>rw[DV D8]at q1 ⊢;exact⟨false,rfl,back _ _ _ rm1 (t.trans t1) q1⟩
  ·exact q1.elim⟩
variable {es:List Expr}{tr:St3->MH->(List D->MH->Prop)->XN->Prop}
theorem cZ{K:E7}{σ:St}{H:Hp}{σ3:St3}{M:MH}{E3:XN}{R3:List D->MH->Prop}{R2:List V->Hp->Prop}(rm:RelM K M H)(ds:DenS K H σ3 σ)(lk:LkE K cls H E3 (E2 σ))(h:tr σ3 M R3 E3)(k:∀vs H' xs M',DenL K H' xs vs->RelM K M' H'->TM K H H'->R3 xs M'->R2 vs H') :
  cU K cls E2 tr σ H R2:=⟨σ3,M,R3,E3,rm,ds,lk,h,k⟩
theorem Az:PA X [] (cU X.K cls E2 λ_ M Q _=>Q [] M):=pa_nil.imp λσ H Q2 hl_=>ex9 hl_ λσ3 M Q E3 rm ds lk h back=>back _ _ _ _ .nil rm (.refl _) h
theorem wC(ha:PE X e (low X.K cls E2 te))(hr:PA X es (cU X.K cls E2 tr))(hs:starEach (e::es) X.env=(false,eval e X.env)::starEach es X.env) :
  PA X (e::es) (cU X.K cls E2 λσ M Q E=>te σ M (λx M1=>tr σ M1 (λxs M2=>Q (x::xs) M2) E) E):=
 (aL ha hr hs).imp λσ H Q2 hl_=>ex9 hl_ λσ3 M Q E3 rm ds lk h back=>aO rm ds lk h λv H1 x M1 dx rm1 t1 q1=>cZ rm1 (ds.mono t1) (lk.mono t1) q1 λvs H2 xs M2 dl rm2 t2 q2=>back _ _ _ _ (.cons (dx.mono t2) dl) rm2 (t1.trans t2) q2
theorem zy{x1}(h:PA X es (cU X.K cls E2 tr)):PE X (.Tuple es x1 pos) (low X.K cls E2 λσ M Q E=>tr σ M (λxs M1=>xs.length<=sizeLine/\Q (.tup xs) M1) E):=
 (xc h).imp λσ H Q2 hl_=>ex9 hl_ λσ3 M Q E3 rm ds lk h back=>cZ rm ds lk h λvs H' xs M' dl rm' t ⟨z,q⟩=>⟨by rw[<-dl.length];exact z,λp hp=>
  back _ _ _ _ (nZ (.of ad) (dl.mono (.new hp))) (rm'.grow hp) (t.trans (.new hp)) q⟩
theorem Av{t2:TE}(h:PE X e t2){t:St3->MH->VK3->XN->Prop}{fz:Bool}
  (f:∀σ H σ3 M Q E3 (R2:VK),RelM X.K M H->DenS X.K H σ3 σ->LkE X.K cls H E3 (E2 σ)->t σ3 M Q E3->(∀H' vs ds M' p,H' p=none->DenL X.K H' ds vs->RelM X.K M' H'->TM X.K H H'->c8 fz ds M' Q->R2 (.ref p) (upd H' p (.lst vs)))->t2 σ H R2):PE X e (low X.K cls E2 t):=by
 refine λpins s σ H Q2 I hl_=>ex9 hl_ λσ3 M Q E3 rm ds lk q back=>?_
 refine thn (h pins s σ H (λv H1=>∃p H' vs ds M',v=.ref p/\H1=upd H' p (.lst vs)/\H' p=none/\DenL X.K H' ds vs/\RelM X.K M' H'/\TM X.K H H'/\c8 fz ds M' Q) I
  (f σ H σ3 M Q E3 _ rm ds lk q λH' vs ds M' p hp dl rm' t' n=>⟨p,H',vs,ds,M',rfl,rfl,hp,dl,rm',t',n⟩)) λu s1 ⟨v,H1,I1,r1,p,H',vs,ds',M',e1,e2,hp,dl,rm',t',n⟩=>?_
 subst e1;subst e2;cases r1;exact bR I1 hp dl rm' t' n back
theorem AK(h:PA X es (cU X.K cls E2 tr)):PE X (.List es pos) (low X.K cls E2 λσ M Q E=>tr σ M (λxs M1=>c8 fz xs M1 Q) E):=
 Av (fz:=fz) (yz h) λσ H σ3 M Q E3 R2 rm ds lk q k=>cZ rm ds lk q λvs H' xs M' dl rm' t n=>⟨by rw[<-dl.length];exact n.1,λp hp=>k H' vs xs M' p hp dl rm' t n⟩
theorem yj(hu:X.A.units+64<cLine):IxR X (λv u H Q2=>∃x y M Q,Den X.K H x v/\Den X.K H y u/\RelM X.K M H/\ar x y M Q/\Back X.K H Q Q2):=by
 intro value slice pins s σ H v u v2 u2 Q2 I rv ru ⟨x,y,M,Q,dx,dy,rm,q,back⟩ hs;unfold ar at q;split at q
 ·rename_i es e;split at q
  ·rename_i i;cases (show u=.int i from dy);split at q
   ·rename_i d e2;obtain⟨p,vs,rfl,hq,dl⟩:=gj rm e dx;obtain⟨w,e4,e5⟩:=uQ dl e2;refine xA value slice pins s σ H _ _ v2 u2 Q2 I rv ru ?_ hs;rcases hq with hq|hq
    ·exact .inl ⟨p,vs,i,w,rfl,rfl,hq,e4,back _ _ _ _ e5 rm (.refl _) q⟩
    ·exact .inr (.inl ⟨p,vs,i,w,rfl,rfl,hq,e4,back _ _ _ _ e5 rm (.refl _) q⟩)
   ·exact q.elim
  ·exact q.elim
 ·split at q
  ·rename_i d e;obtain⟨a,ov,rfl,g,od⟩:=fM (X:=X) e rm dx dy;cases rv;cases ov with
   |none=>exact od.elim
   |some w=>exact tail_any (g.isDict I) PySem.F.slot_dict_getitem.lookup (pM (by omega) I g rfl ru λw' s' I' rw'=>⟨w,H,I',rw',back _ _ _ _ od rm (.refl _) q⟩) hs
  ·exact q.elim
  ·split at q
   ·rename_i z i _ _;cases (show v=.str z from dx);cases (show u=.int i from dy);obtain⟨t,rfl⟩:=rv;obtain⟨t',rfl⟩:=ru;obtain⟨⟨h0,h1,h63⟩,q⟩:=q;have e:seqIndex? i z.length=some i.toNat:=PySem.StrLaws.seqIndex_nonneg h0 h1;have hz:i.toNat<z.cps.size:=by
     have:(i:Int)<(z.cps.size:Int):=h1;omega
    have hc:z.cps[i.toNat]?=some (z.cps.getD i.toNat 0):=by simp[hz]
    exact tail_any (typeIs_str s z t) slot_str_getitem.lookup (getItem_str (c:=z.cps.getD i.toNat 0) (by
     rw[EI (by omega:¬ i < -(2 ^ 63:Int)),EI (by omega:¬ i>=2 ^ 63)];rfl) (by rw[e];exact hc) ⟨.str (vH z i.toNat),H,I.tok _,⟨_,rfl⟩,back _ _ _ _ g6 rm (.refl _) q⟩) hs
   ·exact q.elim
theorem BS(hu:X.A.units+64<cLine)(ha:PE X a (low X.K cls E2 ta))(hb:PE X b (low X.K cls E2 tb))(hs:kQ b):PE X (.Subscript a b pos) (low X.K cls E2 λσ M Q E=>ta σ M (λx M1=>tb σ M1 (λy M2=>ar x y M2 Q) E) E):=
 (zh (yj hu) ha hb hs).imp λσ H Q2 hl_=>ex9 hl_ λσ3 M Q E3 rm ds lk h back=>nS rm ds lk h λv u H' x y M' dx dy rm' t q=>⟨x,y,M',Q,dx,dy,rm',q,back.mono t⟩
variable {lo hi:Option Expr}{tl th:St3->MH->(Option Int->MH->Prop)->XN->Prop}{p2:Pos}
theorem Ca:PO X none (pf X.K cls E2 λ_ M Q _=>Q none M):=po_none.imp λσ H Q2 hl_=>ex9 hl_ λσ3 M Q E3 rm ds lk h back=>back _ _ _ rm (.refl _) h
theorem An(h:PE X e (low X.K cls E2 te)):PO X (some e) (pf X.K cls E2 λσ M Q E=>te σ M (λx M1=>match x with|.int i=>Q (some i) M1|_=>False) E):=
 (tF h).imp λσ H Q2 hl_=>ex9 hl_ λσ3 M Q E3 rm ds lk h back=>aO rm ds lk h λv H1 x M1 dx rm1 t1 q1=>by
  split at q1
  ·exact⟨_,dx,back _ _ _ rm1 t1 q1⟩
  ·exact q1.elim
theorem vN{t:St3->MH->(Option Int->MH->Prop)->XN->Prop}{K:E7}{σ:St}{H:Hp}{σ3:St3}{M:MH}{E3:XN}{R3:Option Int->MH->Prop}{R2:Option Int->Hp->Prop}(rm:RelM K M H)(ds:DenS K H σ3 σ)(lk:LkE K cls H E3 (E2 σ))(h:t σ3 M R3 E3)(k:∀o H' M',RelM K M' H'->TM K H H'->R3 o M'->R2 o H') :
  pf K cls E2 t σ H R2:=⟨σ3,M,R3,E3,rm,ds,lk,h,k⟩
theorem zo(ha:PE X a (low X.K cls E2 ta))(hb:PE X b (low X.K cls E2 tb)) :
  PE X (.BinOp a .Add b pos) (low X.K cls E2 λσ M Q E=>ta σ M (λx M1=>tb σ M1 (λy M2=>iN fz x y M2 Q) E) E):=z9 (wl fz) ha hb
theorem zu(h:PE X e (low X.K cls E2 te)):PE X e (low X.K cls E2 λσ M Q E=>te σ M (ck Q) E):=by
 refine λpins s σ H Q2 I hl_=>ex9 hl_ λσ3 M Q E3 rm ds lk q back=>?_
 refine thn (h pins s σ H (λv H1=>∃d M1,Den X.K H1 d v/\RelM X.K M1 H1/\TM X.K H H1/\ck Q d M1) I ⟨σ3,M,_,E3,rm,ds,lk,q,λv H' d M' a b c e=>⟨d,M',a,b,c,e⟩⟩) λu s1 ⟨v,H1,I1,r1,d,M1,dv,rm1,t1,q1⟩=>?_
 obtain⟨H2,M2,d2,I2,t2,rm2,dv2,q2⟩:=kg I1 rm1 dv q1;exact⟨v,H2,I2,r1,back _ _ _ _ dv2 rm2 (t1.trans t2) q2⟩
theorem xO(h:PE X e (low X.K cls E2 te)):PE X e (low X.K cls E2 λσ M Q E=>te σ M (eU Q) E):=by
 refine λpins s σ H Q2 I hl_=>ex9 hl_ λσ3 M Q E3 rm ds lk q back=>?_
 refine thn (h pins s σ H (λv H1=>∃d M1,Den X.K H1 d v/\RelM X.K M1 H1/\TM X.K H H1/\eU Q d M1) I ⟨σ3,M,_,E3,rm,ds,lk,q,λv H' d M' a b c e=>⟨d,M',a,b,c,e⟩⟩) λu s1 ⟨v,H1,I1,r1,d,M1,dv,rm1,t1,q1⟩=>?_
 have q1:ck Q d M1:=by
  unfold eU at q1;split at q1
  ·split at q1
   ·rename_i a ds' e;simp only[ck,e];exact q1
   ·exact q1.elim
  ·exact q1.elim
 obtain⟨H2,M2,d2,I2,t2,rm2,dv2,q2⟩:=kg I1 rm1 dv q1;exact⟨v,H2,I2,r1,back _ _ _ _ dv2 rm2 (t1.trans t2) q2⟩
end
section
variable {X:Cx}
end
theorem sV{K:E7}(h:CX1 P w bq outer H s (λc d H'=>TM K H H'->E c d H') e s'):CX1 P w bq outer H s E e s':=by
 obtain⟨a,cls,B,H',dx,h1,h2,h3,un,hok,fl,ha,inc,he⟩:=h;exact⟨a,cls,B,H',dx,h1,h2,h3,un,hok,fl,ha,inc,he (.un un.tups un.frzs)⟩
section
variable {X:Cx}{cls:Nat->Addr}{E2:St->XK}{k:Nat}{f:Addr}{fd:FuncData}{ps:List Str}{x:Str}{p pos:Pos}{e:Expr}{es:List Expr}{tr:St3->MH->(List D->MH->Prop)->XN->Prop}{t3:List D->MH->VK3->XN->Prop}
noncomputable def spX(K:E7)(cls:Nat->Addr)(t3:List D->MH->VK3->XN->Prop):Sp:=λvs H Q E=>∃ds M Q3 E3,DenL K H ds vs/\RelM K M H/\t3 ds M Q3 E3/\Back K H Q3 Q/\LkE K cls H E3 E
def BdT(K:E7)(cls:Nat->Addr)(fd:FuncData)(ps:List Str)(t3:List D->MH->VK3->XN->Prop)(sp:Sp):Prop:=∀vs H Q E,spX K cls t3 vs H Q E->∃dvs ds,Vals dvs ds/\Binds K fd ps ds/\sp (vs++dvs) H Q E
theorem fG{bq:Bool}(F:FnOk X.prog X.w X.K X.mg X.base (CX1 X.prog X.w bq) k f fd ps sp bq)(hr:Room k X.A bq)(hb:BdT X.K cls fd ps t3 sp)(hx:aA (CX1 X.prog X.w bq) X E2)
  (I:Inv X pins σ H s)(r:Vals vs us) (h:spX X.K cls t3 vs H Q (λc d H'=>TM X.K H H'->E2 σ c d H')) (hq:bq=false->HdH X.A X.H₀:=by exact λz=>nomatch z):wpAny (model X.prog X.w) X.A (call (.ref f) us) (EP X pins σ Q) X.xe s:=by
 obtain⟨dvs,dsv,hv,bd,h'⟩:=hb _ _ _ _ h;have r2:Vals (vs++dvs) (us++dsv):=r.append hv;have hl:(us++dsv).length=ps.length:=by rw[<-r2.length];exact F.len _ _ _ _ h'
 refine wpAny_call (codeAny_mono (F.run X.A X.stack s H ⟨us,[]⟩ (us++dsv) (vs++dvs) Q _ hr (λz=>(hq z).imp λa ⟨o,u,e1,e2,l⟩=>⟨o,u,e1,I.base.frzs _ _ _ e2,l⟩) I.env0 (bd s us I.kIn hl) r2 h') λz s' hq=>?_)
 match z,hq with
 |.error e,hq=>exact hx pins σ H s e s' I (sV hq)
 |.ok (.ret u),hq=>exact I.after hq
 |.ok .next,hq=>exact hq.elim
 |.ok .brk,hq=>exact hq.elim
 |.ok .cont,hq=>exact hq.elim
theorem iq{σ:St}{H:Hp}{xs:List D}{vs:List V}{M:MH}{Q:VK3}{Q2:VK}{E3:XN}(dl:DenL X.K H xs vs)(rm:RelM X.K M H)(lk:LkE X.K cls H E3 (E2 σ))(q:t3 xs M Q E3)(back:Back X.K H Q Q2) :
  spX X.K cls t3 vs H Q2 (λc d H'=>TM X.K H H'->E2 σ c d H'):=
 ⟨xs,M,Q,E3,dl,rm,q,back,λi M' H' t rm' q dx xd _=>lk i M' H' t rm' q dx xd⟩
theorem wJ{bq:Bool}(F:FnOk X.prog X.w X.K X.mg X.base (CX1 X.prog X.w bq) k f fd ps sp bq)(hr:Room k X.A bq)(hg:Gl X x)(hm:X.mg x=some (.ref f))(hk:PySem.W.keepIn X.K (.ref f)=true)(hb:BdT X.K cls fd ps t3 sp)(hx:aA (CX1 X.prog X.w bq) X E2)
  (ha:PA X (e::es) (cU X.K cls E2 tr)) (hdb:(x == ("__debug__" : Str))=false) (he:starEach (e::es) X.env=(false,eval e X.env)::starEach es X.env) (hpl:(backTo pos (starEach es X.env)).any (·.1)=false) (hq:bq=false->HdH X.A X.H₀:=by exact λz=>nomatch z) :
  PE X (.Call (.Name x p) (e::es) [] pos) (low X.K cls E2 λσ M Q E=>tr σ M (λxs M1=>t3 xs M1 Q E) E):=λpins s σ H Q2 I hl_=>ex9 hl_ λσ3 M Q E3 rm ds lk h back=>
 wpAny_Call_Name_kw (bh I hg hm (PySem.W.callWith_K (h₀:=X.base) I.ok.mod.kin hk (thn (ha pos pins s σ H _ I (cZ (R2:=λvs H1=>spX X.K cls t3 vs H1 Q2 (λc d H'=>TM X.K H1 H'->E2 σ c d H')) rm ds lk h
  λvs H1 xs M1 dl rm1 t1 q1=>iq dl rm1 (lk.mono t1) q1 (back.mono t1))) λus s1 ⟨vs,H1,I1,r,q⟩=>⟨I1.kIn,fG F hr hb hx I1 r q hq⟩) he hpl) hdb)
theorem uq{bq:Bool}(F:FnOk X.prog X.w X.K X.mg X.base (CX1 X.prog X.w bq) k f fd ps sp bq)(hr:Room k X.A bq)(hg:Gl X x)(hm:X.mg x=some (.ref f))(hk:PySem.W.keepIn X.K (.ref f)=true)(hb:BdT X.K cls fd ps t3 sp)(hx:aA (CX1 X.prog X.w bq) X E2)(hdb:(x == ("__debug__" : Str))=false)(hq:bq=false->HdH X.A X.H₀:=by exact λz=>nomatch z) :
  PE X (.Call (.Name x p) [] [] pos) (low X.K cls E2 λσ M Q E=>t3 [] M Q E):=λpins s σ H Q2 I hl_=>ex9 hl_ λσ3 M Q E3 rm ds lk h back=>
 wpAny_Call_Name_kw (bh I hg hm (PySem.W.callWith_K0 I.kIn hk (fG (us:=[]) F hr hb hx I .nil (iq (xs:=[]) .nil rm lk h back) hq)) hdb)
theorem gY{id:String}(hc:VC X (.builtin id) r)(hg:Gl X x)(hm:X.mg x=none)(hv:bootBuiltins x=some (.builtin id))(ha:PA X (e::es) (cU X.K cls E2 tr))(hn:x≠"__name__")(hdb:(x == ("__debug__" : Str))=false)
  (he:starEach (e::es) X.env=(false,eval e X.env)::starEach es X.env) (hpl:(backTo pos (starEach es X.env)).any (·.1)=false):PE X (.Call (.Name x p) (e::es) [] pos) (low X.K cls E2 λσ M Q E=>tr σ M (λxs M1=>r xs M1 Q) E):=
 (ig hc.op hg hm hv ha hn hdb he hpl).imp λσ H Q2 hl_=>ex9 hl_ λσ3 M Q E3 rm ds lk h back=>cZ rm ds lk h λvs H1 xs M1 dl rm1 t1 q1=>⟨xs,M1,Q,dl,rm1,q1,back.mono t1⟩
theorem tW(hc:VC X (.type T) r)(hg:Gl X x)(hm:X.mg x=none)(hv:bootBuiltins x=some (.type T))(ha:PA X (e::es) (cU X.K cls E2 tr))(hn:x≠"__name__")(hdb:(x == ("__debug__" : Str))=false)
  (he:starEach (e::es) X.env=(false,eval e X.env)::starEach es X.env) (hpl:(backTo pos (starEach es X.env)).any (·.1)=false):PE X (.Call (.Name x p) (e::es) [] pos) (low X.K cls E2 λσ M Q E=>tr σ M (λxs M1=>r xs M1 Q) E):=
 (ju hc.op hg hm hv ha hn hdb he hpl).imp λσ H Q2 hl_=>ex9 hl_ λσ3 M Q E3 rm ds lk h back=>cZ rm ds lk h λvs H1 xs M1 dl rm1 t1 q1=>⟨xs,M1,Q,dl,rm1,q1,back.mono t1⟩
noncomputable def bD:BT->String
 |.int=>"int"|.bool=>"bool"|.str=>"str"|.tuple=>"tuple"|.list=>"list"|.dict=>"dict"
theorem yl{pins:List (Addr×Obj)}{σ:St}{H:Hp}{s:Shared}{A:Around}{Ex:Value->Shared->Prop}{t:BT}{x:D}{v:V}{v2:Value}{M:MH}{Q:VK3}{Q2:VK}(I:Inv X pins σ H s)(rv:RelV v v2)(dx:Den X.K H x v)(rm:RelM X.K M H)(q:iB t x M Q)(back:Back X.K H Q Q2) :
  wpAny (model X.prog X.w) A (call (.builtin "isinstance") [v2,.type (bD t)]) (EP X pins σ Q2) Ex s:=by
 refine bF I.tk ?_;have fin:∀b,Q (.bl b) M->∀tk,0<tk->EP X pins σ Q2 (.bool b) {s with toks:=tk}:=λb q tk _=>⟨.bl b,H,I.tok _,rfl,back _ _ _ _ bu rm (.refl _) q⟩
 cases x with
 |non=>cases (show v=.non from dx);cases rv;cases t<;>exact PySem.W.kia_one PySem.W.kitx_none I.kIn True.intro rfl (λz=>nomatch z) (fin _ q)
 |bl b=>cases (show v=.bl b from dx);cases rv;cases t<;>exact PySem.W.kia_one PySem.W.kitx_bool I.kIn True.intro rfl (λz=>nomatch z) (fin _ q)
 |int i=>cases (show v=.int i from dx);obtain⟨tk,rfl⟩:=rv;cases t<;>exact PySem.W.kia_one PySem.W.kitx_int I.kIn True.intro rfl (λz=>nomatch z) (fin _ q)
 |str i=>cases (show v=.str i from dx);obtain⟨tk,rfl⟩:=rv;cases t<;>exact PySem.W.kia_one PySem.W.kitx_str I.kIn True.intro rfl (λz=>nomatch z) (fin _ q)
 |tup ds=>
  obtain⟨a,vs,rfl,sq,_⟩:=dx;cases rv;obtain⟨its,_,tt,_⟩:=I.tuple sq;obtain⟨o,h1,h2,_⟩:=(show s.heap.IsTuple a its.toArray from tt);cases t<;>exact PySem.W.kia_one PySem.W.kitx_tuple I.kIn ⟨o,h1,h2⟩ rfl (λz=>nomatch z) (fin _ q)
 |rol ds=>
  obtain⟨a,vs,rfl,sq,_⟩:=dx;cases rv;obtain⟨_,its,n,_,_,h1⟩:=I.rdL sq.rd;cases t<;>exact PySem.W.kia_one PySem.W.kitx_list I.kIn ⟨_,h1,rfl⟩ rfl (λz=>nomatch z) (fin _ q)
 |ref a=>
  cases (show v=.ref a from dx);cases rv;simp only[iB]at q;split at q
  ·rename_i ds e;obtain⟨vs,e1,_⟩:=rm a _ e;obtain⟨_,its,n,_,_,h1⟩:=I.rdL (.inl (.inl e1));cases t<;>exact PySem.W.kia_one PySem.W.kitx_list I.kIn ⟨_,h1,rfl⟩ rfl (λz=>nomatch z) (fin _ q)
  ·rename_i ks ds e;obtain⟨vs,e1,_,_⟩:=rm a _ e;obtain⟨_,_,_,_,o,_,_,h1,h2,_⟩:=I.hok a _ e1;cases t<;>exact PySem.W.kia_one PySem.W.kitx_dict I.kIn ⟨o,h1,h2.1⟩ rfl (λz=>nomatch z) (fin _ q)
  ·rename_i ks ds e;obtain⟨vs,xs,e1,_⟩:=rm a _ e;obtain⟨⟨o,es,ep,h1,h2,_⟩,_⟩:=(show ObjOk X.prog X.w H s.heap a (.ext (ao a xs)) from I.hok a _ e1);cases t<;>exact PySem.W.kia_one PySem.W.kitx_dict I.kIn ⟨o,h1,h2.1⟩ rfl (λz=>nomatch z) (fin _ q)
  ·exact q.elim
 |dik ks ds=>
  obtain⟨a,vs,ob,rfl,e1,_⟩:=dx;cases rv;obtain⟨_,_,_,ws,_,p⟩:=(show ObjOk X.prog X.w H s.heap a (.frz ob (.dK (ks.zip vs))) from I.hok a _ e1);obtain⟨o,es,ep,h1,h2,_⟩:=p;cases t<;>exact PySem.W.kia_one PySem.W.kitx_dict I.kIn ⟨o,h1,h2.1⟩ rfl (λz=>nomatch z) (fin _ q)
 |dit ks ds=>
  obtain⟨a,vs,ob,xs,rfl,e1,_⟩:=dx;cases rv;obtain⟨_,⟨o,es,ep,h1,h2,_⟩,_⟩:=(show ObjOk X.prog X.w H s.heap a (.frz ob (.ext (ao a xs))) from I.hok a _ e1);cases t<;>exact PySem.W.kia_one PySem.W.kitx_dict I.kIn ⟨o,h1,h2.1⟩ rfl (λz=>nomatch z) (fin _ q)
 |obj i C ns ds=>exact (show False from q).elim
theorem zC(ha:PE X e (low X.K cls E2 te))(hg:Gl X "isinstance")(hm:X.mg "isinstance"=none)(hg2:Gl X (bD t))(hm2:X.mg (bD t)=none)(hs:starEach (e::[.Name (bD t) p2]) X.env=(false,eval e X.env)::starEach [.Name (bD t) p2] X.env) :
  PE X (.Call (.Name "isinstance" p) [e,.Name (bD t) p2] [] pos) (low X.K cls E2 λσ M Q E=>te σ M (λx M1=>iB t x M1 Q) E):=by
 have hT:PE X (.Name (bD t) p2) (tC (.ty (bD t))):=by
  cases t<;>exact uy hg2 hm2 (by decide +kernel) rfl
 have hc:CallR X (.builtin "isinstance") (λvs H Q2=>∃x v M Q,vs=[v,.ty (bD t)]/\Den X.K H x v/\RelM X.K M H/\iB t x M Q/\Back X.K H Q Q2):=by
  refine λpins s σ H vs us Q2 I r hl_=>ex9 hl_ λx v M Q e dx rm q back=>?_
  subst e;obtain⟨u,w,rfl,ru,rw⟩:=Vals.two r;cases (show w=Value.type (bD t) from rw);exact yl I ru dx rm q back
 refine (ig hc hg hm (by decide +kernel) (aL ha (aL hT pa_nil (by rfl)) hs) (by decide +kernel) (by decide +kernel) hs (by rfl)).imp λσ H Q2 hl_=>ex9 hl_ λσ3 M Q E3 rm ds lk h back=>?_
 exact aO rm ds lk h λv H1 x M1 dx rm1 t1 q1=>⟨x,v,M1,Q,rfl,dx,rm1,q1,back.mono t1⟩
end
section
variable {X:Cx}
theorem wq{K:E7}(sq:SqT K H0 p vs)(dl:DenL K H0 ds vs):ItOk K H0 (Itt K p) ds (λ_=>True):=by
 refine⟨λi H M t rm s hi=>?_,λi H M x H' t rm s hi y=>?_,λH M t rm s=>?_⟩
 ·have hi':i<vs.length:=by rw[<-dl.length];exact hi
  exact⟨vs,vs[i],t.t _ _ sq,by simp[hi']⟩
 ·obtain⟨e,y⟩:=y;subst e;obtain⟨d,e1,e2⟩:=(dl.mono t).get' (y vs (t.t _ _ sq));exact⟨.refl _,rm,d,e1,e2⟩
 ·exact⟨vs,t.t _ _ sq,by rw[dl.length];exact DZ _⟩
theorem wU{K:E7}(sq:SqF K H0 p vs)(dl:DenL K H0 ds vs):ItOk K H0 (Itl K p) ds (λ_=>True):=by
 refine⟨λi H M t rm s hi=>?_,λi H M x H' t rm s hi y=>?_,λH M t rm s=>?_⟩
 ·have hi':i<vs.length:=by rw[<-dl.length];exact hi
  exact⟨vs,vs[i],(t.f _ _ sq).sq,by simp[hi']⟩
 ·obtain⟨e,y⟩:=y;subst e;obtain⟨d,e1,e2⟩:=(dl.mono t).get' (y vs (t.f _ _ sq).sq);exact⟨.refl _,rm,d,e1,e2⟩
 ·exact⟨vs,(t.f _ _ sq).sq,by rw[dl.length];exact DZ _⟩
theorem xb{K:E7}:ItOk K H0 (Itl K p) ds (λM=>M p=some (.lst ds)):=by
 refine⟨λi H M t rm s hi=>?_,λi H M x H' t rm s hi y=>?_,λH M t rm s=>?_⟩
 ·obtain⟨vs,e,dl⟩:=rm p _ s;have hi':i<vs.length:=by rw[<-dl.length];exact hi
  exact⟨vs,vs[i],.of e,by simp[hi']⟩
 ·obtain⟨vs,e,dl⟩:=rm p _ s;obtain⟨e',y⟩:=y;subst e';obtain⟨d,e1,e2⟩:=dl.get' (y vs (.of e));exact⟨.refl _,rm,d,e1,e2⟩
 ·obtain⟨vs,e,dl⟩:=rm p _ s;exact⟨vs,.of e,by rw[dl.length];exact DZ _⟩
theorem jO{qb:Bool}(I:Inv X pins σ H s)(hq:SqL X.K H a xs)(q:R (Itl X.K a) H):wpAny (model X.prog X.w) X.A (pyIter (.ref a)) (yH qb X pins σ tg R) Ex s:=by
 obtain⟨its,rv,p,hz⟩:=I.list hq;refine wpAny_pyIter_list p.isList ?_;refine⟨s.heap.objs.size,[s.heap.objs.size],_,_,H,rfl,I.kept (t':=s.toks) λb o e=>DU _ e,qg a _,⟨_,D7 _ rfl,rfl,rfl⟩,λb hb=>?_,q⟩
 have e:b=s.heap.objs.size:=by simpa using hb
 subst e;exact I.fpOk (DZ _) (I.hok.fresh (DZ _))
theorem sg(I:Inv X pins σ H s)(hq:SqT X.K H a xs)(q:R (Itt X.K a) H):wpAny (model X.prog X.w) X.A (pyIter (.ref a)) (PIE X pins σ tg R) Ex s:=by
 obtain⟨its,rv,p,hz⟩:=I.tuple hq;refine wpAny_pyIter_tuple (show s.heap.IsTuple a its.toArray from p) ?_;refine⟨s.heap.objs.size,[s.heap.objs.size],_,_,H,rfl,I.kept (t':=s.toks) λb o e=>DU _ e,ni a _,⟨_,D7 _ rfl,rfl,rfl⟩,λb hb=>?_,q⟩
 have e:b=s.heap.objs.size:=by simpa using hb
 subst e;exact I.fpOk (DZ _) (I.hok.fresh (DZ _))
noncomputable def uI(z:Str):It:=⟨λi _=>i<z.cps.size,λi H x H'=>H'=H/\∃c,z.cps[i]?=some c/\x=.str ⟨#[c]⟩,λi _=>z.cps.size<=i⟩
theorem qz{K:E7}(it:Addr)(z:Str)(t:Tok)(ty:String)(hty:ty = "str_ascii_iterator"\/ty = "str_iterator"):Turn P w K tg (uI z) [it] it (λi h=>h.IsStrIter it ty z t i) where
 mem:=by simp
 obj:=λi h st b hb=>by
  have e:b=it:=by simpa using hb
  subst e;obtain⟨o,e,c,d⟩:=st;exact⟨o,e,λv z=>by rw[d]at z;cases z⟩
 keep:=λi h h' st k=>let ⟨o,e,r⟩:=st;⟨o,k it (by simp) o e,r⟩
 item:=by
  intro X hP hw hK hc i pins s σ H E I hf st hg;subst hP hw hK;have hi:i<z.cps.size:=hg;obtain⟨f0,f1,f2,f3,f4,f5⟩:=hf it (by simp)
  have hx:z.cps[i]?=some z.cps[i]:=by simp[hi]
  have fin:∀h':Heap,h'.IsStrIter it ty z t (i+1)->Heap.SameBut it s.heap h'->∃u,some (Value.str ⟨#[z.cps[i]]⟩ s.toks)=some u/\wpAny (model X.prog X.w) X.A (letOwnedTupleGo tg (.ref it) u) (λ_ s2=>∃x H',Inv X pins σ H' s2/\RelV x u/\(uI z).yld i H x H'/\s2.heap.IsStrIter it ty z t (i+1)/\∀b∈[it],H' b=none) E {s with heap:=h',toks:=s.toks+1}:=λh' st' sb=>by
   have I1:Inv X pins σ H {s with heap:=h',toks:=s.toks+1}:=I.turned (t':=s.toks+1) (λb o hb e=>(sb.2 b hb).trans e) f0 f1 f3 f4 f5
   obtain⟨o,e,c,d⟩:=id st';exact⟨_,rfl,ot (s:={s with heap:=h',toks:=s.toks+1}) e c d (by rcases hty with rfl|rfl<;>decide) ⟨.str ⟨#[z.cps[i]]⟩,H,I1,⟨_,rfl⟩,⟨rfl,_,hx,rfl⟩,st',λb hb=>(hf b hb).1⟩⟩
  rcases hty with rfl|rfl
  ·exact wpAny_pyNext_ascii_item st hx fin
  ·exact wpAny_pyNext_wide_item st hx fin
 done:=by
  intro X hP hw hK hc i pins s σ H E I hf st hg;subst hP hw hK;obtain⟨f0,f1,f2,f3,f4,f5⟩:=hf it (by simp)
  have hx:z.cps[i]?=none:=by simpa using (show z.cps.size<=i from hg)
  rcases hty with rfl|rfl
  ·exact wpAny_pyNext_ascii_end (I.ok.hd hc) st hx λh' eb=>⟨rfl,I.turned (t':=s.toks) (λb o hb e=>eb b o hb e) f0 f1 f3 f4 f5⟩
  ·exact wpAny_pyNext_wide_end (I.ok.hd hc) st hx λh' eb=>⟨rfl,I.turned (t':=s.toks) (λb o hb e=>eb b o hb e) f0 f1 f3 f4 f5⟩
 self:=λ_ _ _ _ _ st h=>by
  rcases hty with rfl|rfl
  ·exact wpAny_pyIter_striter_ascii st h
  ·exact wpAny_pyIter_striter_wide st h
theorem we{K:E7}:ItOk K H0 (uI z) (gy z) (λ_=>True):=by
 have hl:(gy z).length=z.cps.size:=by simp[gy]
 refine⟨λi H M t rm s hi=>by rw[hl]at hi;exact hi,λi H M x H' t rm s hi y=>?_,λH M t rm s=>by show z.cps.size<=_;rw[hl];exact DZ _⟩
 obtain⟨rfl,c,hc,rfl⟩:=y;exact⟨.refl _,rm,.str ⟨#[c]⟩,by simp[gy,hc],rfl⟩
theorem ql{X:Cx}(I:Inv X pins σ H s)(q:R (uI z) H):wpAny (model X.prog X.w) X.A (pyIter (.str z t)) (PIE X pins σ tg R) X.xe s:=by
 have go:∀ty:String,(ty = "str_ascii_iterator"\/ty = "str_iterator")->PIE X pins σ tg R (.ref s.heap.objs.size) {s with heap:=s.heap.push {cls:=.type ty,data:=.fields #[.str z t,.int 0 0]}}:=λty hty=>
  ⟨s.heap.objs.size,[s.heap.objs.size],_,_,H,rfl,I.kept (t':=s.toks) (λb o e=>DU _ e),qz s.heap.objs.size z t ty hty,⟨_,D7 _ rfl,rfl,rfl⟩,λb hb=>by
   have e':b=s.heap.objs.size:=by simpa using hb
   subst e';exact I.fpOk (DZ _) (I.hok.fresh (DZ _)),q⟩
 cases ha:z.cps.all (· < 128)
 ·exact wpAny_pyIter_wide ha (go _ (.inr rfl))
 ·exact wpAny_pyIter_ascii ha (go _ (.inl rfl))
theorem yY(hl:PE X l (low X.K cls E2 te)):PI X tg l (nc X.K cls E2 λσ M R E=>te σ M (λx M1=>match x with
  |.tup ds=>R ds (λ_=>True) M1
  |.rol ds=>R ds (λ_=>True) M1
  |.ref a=>match M1 a with
   |some (.lst ds)=>R ds (λM=>M a=some (.lst ds)) M1
   |_=>False
  |.str z=>R (gy z) (λ_=>True) M1
  |_=>False) E):=by
 refine λpins s σ H R2 I hl_=>ex9 hl_ λσ3 M R E3 rm ds lk h k=>?_
 refine thn (hl pins s σ H _ I ⟨σ3,M,_,E3,rm,ds,lk,h,λv H' d M' a b c e=>(⟨d,M',a,b,c,e⟩:(λv H'=>∃d M',Den X.K H' d v/\RelM X.K M' H'/\TM X.K H H'/\(match d with
  |.tup ds=>R ds (λ_=>True) M'
  |.rol ds=>R ds (λ_=>True) M'
  |.ref a=>match M' a with
   |some (.lst ds)=>R ds (λM=>M a=some (.lst ds)) M'
   |_=>False
  |.str z=>R (gy z) (λ_=>True) M'
  |_=>False)) v H')⟩) λu s1 ⟨v,H1,I1,r1,d,M1,dv,rm1,t1,q1⟩=>?_
 split at q1
 ·obtain⟨p,vs,rfl,sq,dl⟩:=dv;cases r1;exact sg I1 sq (k _ _ _ _ _ (wq sq dl) rm1 t1 q1)
 ·obtain⟨p,vs,rfl,sq,dl⟩:=dv;cases r1;exact jO I1 sq.sq (k _ _ _ _ _ (wU sq dl) rm1 t1 q1)
 ·rename_i a;cases (show v=.ref a from dv);cases r1;split at q1
  ·rename_i ds' e;obtain⟨vs,e1,dl⟩:=rm1 a _ e;exact jO I1 (.of e1) (k _ _ _ _ _ xb rm1 t1 q1)
  ·exact q1.elim
 ·rename_i z;cases (show v=.str z from dv);obtain⟨tt,rfl⟩:=r1;exact ql I1 (k _ _ _ _ _ we rm1 t1 q1)
 ·exact q1.elim
theorem BP(hg:Gl X "range")(hm:X.mg "range"=none)(ha:PE X a (low X.K cls E2 ta))(hs:starEach [a] X.env=[(false,eval a X.env)]):PI X tg (.Call (.Name "range" p) [a] [] pos) (nc X.K cls E2 λσ M R E=>ta σ M (λx M1=>match x with
  |.int j=>-(2 ^ 62)<=j/\j<2 ^ 62/\R (rng 0 j.toNat) (λ_=>True) M1
  |_=>False) E):=
 (o8 hg hm (aL ha pa_nil hs) hs).imp λσ H R2 hl_=>ex9 hl_ λσ3 M R E3 rm ds lk h k=>aO rm ds lk h λv H1 x M1 dx rm1 t1 q1=>by
  split at q1
  ·rename_i j;cases (show v=.int j from dx);exact⟨j,rfl,q1.1,q1.2.1,k _ _ _ _ _ qo rm1 t1 q1.2.2⟩
  ·exact q1.elim
theorem B6(hg:Gl X "range")(hm:X.mg "range"=none)(ha:PE X a (low X.K cls E2 ta))(hb:PE X b (low X.K cls E2 tb))(hs:starEach [a,b] X.env=[(false,eval a X.env),(false,eval b X.env)])(hs2:starEach [b] X.env=[(false,eval b X.env)]) :
  PI X tg (.Call (.Name "range" p) [a,b] [] pos) (nc X.K cls E2 λσ M R E=>ta σ M (λx M1=>tb σ M1 (λy M2=>match x,y with
  |.int i,.int j=>(-(2 ^ 62)<=i/\i<2 ^ 62/\-(2 ^ 62)<=j/\j<2 ^ 62)/\R (rng i (j-i).toNat) (λ_=>True) M2
  |_,_=>False) E) E):=
 (pS hg hm (aL ha (aL hb pa_nil hs2) (by rw[hs,hs2])) hs hs2).imp λσ H R2 hl_=>ex9 hl_ λσ3 M R E3 rm ds lk h k=>nS rm ds lk h λv u H1 x y M1 dx dy rm1 t1 q1=>by
  split at q1
  ·rename_i i j;cases (show v=.int i from dx);cases (show u=.int j from dy);exact⟨i,j,rfl,q1.1,k _ _ _ _ _ qo rm1 t1 q1.2⟩
  ·exact q1.elim
end
section
variable {X:Cx}
end
section
variable {K:E7}
theorem eo:∀{ns:List Nat}{ds:List D}{vs:List V}{f:Nat}{d:D},DenL K H ds vs->bG f ns ds=some d->∃v,((ns.map fnm).zip vs).lookup (fnm f)=some v/\Den K H d v
 |[],_,_,_,_,_,e=>by simp[bG]at e
 |n::ns,[],_,_,_,_,e=>by simp[bG]at e
 |n::ns,d0::ds,_,f,d,dl,e=>by
  obtain⟨v,r,rfl,dv,dl⟩:=dl;simp only[bG]at e;by_cases z:n=f
  ·rw[DY z]at e;cases e;subst z;exact⟨v,by simp[List.lookup],dv⟩
  ·rw[DV z]at e;obtain⟨u,h1,h2⟩:=eo dl e;refine⟨u,?_,h2⟩;have nb:(fnm f == fnm n)=false:=Ey.mpr λq=>z (lc q).symm
   simp[List.lookup,nb,h1]
theorem eI:∀{ns:List Nat}{ds:List D}{vs:List V}{f:Nat},DenL K H ds vs->ns.length=vs.length->bG f ns ds=none->((ns.map fnm).zip vs).lookup (fnm f)=none
 |[],_,_,_,_,_,_=>by simp
 |n::ns,[],vs,_,dl,hl,_=>by cases (show vs=[] from dl);cases hl
 |n::ns,d0::ds,_,f,dl,hl,e=>by
  obtain⟨v,r,rfl,dv,dl⟩:=dl;simp only[bG]at e;by_cases z:n=f
  ·rw[DY z]at e;cases e
  ·rw[DV z]at e;have h1:=eI dl (by simpa using hl) e
   have nb:(fnm f == fnm n)=false:=Ey.mpr λq=>z (lc q).symm
   simp[List.lookup,nb,h1]
theorem l8:∀{ns:List Nat}{ds:List D}{vs:List V}{f:Nat}{y:D}{u:V},DenL K H ds vs->ns.length=vs.length->Den K H y u->
  ∃ws,cC (fnm f) u ((ns.map fnm).zip vs)=((cD f ns).map fnm).zip ws/\(cD f ns).length=ws.length/\DenL K H (cW f y ns ds) ws
 |[],ds,vs,f,y,u,dl,hl,dy=>by
  cases vs with
  |nil=>exact⟨[u],rfl,rfl,by unfold cW;exact .one dy⟩
  |cons _ _=>cases hl
 |n::ns,[],vs,f,y,u,dl,hl,dy=>by cases (show vs=[] from dl);cases hl
 |n::ns,d::ds,_,f,y,u,dl,hl,dy=>by
  obtain⟨v,r,rfl,dv,dl⟩:=dl;have hl':ns.length=r.length:=by simpa using hl
  by_cases z:n=f
  ·subst z;refine⟨u::r,?_,?_,?_⟩
   ·simp[cC,cD]
   ·simp[cD,hl']
   ·simp only[cW,DY];exact .cons dy dl
  ·obtain⟨ws,h1,h2,h3⟩:=l8 (f:=f) (u:=u) dl hl' dy;have nf:¬ fnm n=fnm f:=λq=>z (lc q)
   refine⟨v::ws,?_,?_,?_⟩
   ·simp only[D4,List.zip_cons_cons,cC,DV nf,cD,DV z];rw[h1]
   ·simp[cD,DV z,h2]
   ·simp only[cW,DV z];exact .cons dv h3
end
theorem sY{fs:List (Str×V)}(hok:HOk P w H h)(e:Rd H a (.ins C dx fs)):∃mA,ObjM h a dx C mA/\(∀f,RelO (fs.lookup f) (mA f))/\H dx=some (.own a):=by
 obtain⟨d,z,ne,ob,mA,n,r,q⟩:=(show ObjOk P w H h a (.ins C dx fs) from e.ok hok);exact⟨mA,⟨ob,n,ne⟩,r,d⟩
section
variable {X:Cx}{fs:List (Str×V)}
theorem qY(I:Inv X pins σ H s)(e:Rd H a (.ins C dx fs))(c:Cls X.K C)(n:NoAttr X.K C f)(l:fs.lookup f=some v)
  (h:∀u s',Inv X pins σ H s'->RelV v u->Q u s'):wpAny (model X.prog X.w) A (getAttr (.ref a) f b) Q E s:=by
 obtain⟨mA,O,r,_⟩:=sY I.hok e;obtain⟨u,hu,ru⟩:=RelO.some_of (v:=v) (o:=mA f) (by rw[<-l];exact r f)
 exact ur I.kIn O (c.get f) c.hd n hu (pL ru) (h u _ (I.tok _) ru)
theorem ir{m:Str}{g:Addr}{pl:Sem Bool}{Q:Value×List Value->Shared->Prop}(I:Inv X pins σ H s)(e:Rd H a (.ins C dx fs))(c:Cls X.K C)(k:Meth X.K C m g)(l:fs.lookup m=none)
  (h:Q (.ref g,[.ref a]) s):wpAny (model X.prog X.w) A (getMethod (.ref a) m pl) Q E s:=by
 obtain⟨mA,O,r,_⟩:=sY I.hok e;have hn:mA m=none:=RelO.none_of (by rw[<-l];exact r m)
 exact rP I.kIn O (c.get m) k.at_ k.fn hn h
end
structure ClsI (K:E7)(C f:Addr):Prop where
 ga:PySem.W.specialIn K (.ref C) "__getattribute__"=some (some (.builtin "type.__getattribute__"))
 rd:PySem.W.readsIn K C (.type "type")=true
 at_:PySem.W.findCls K (.ref C) (.type "type") "__init__"=some (.val (.ref f))
structure TyI (K:E7)(C:Addr):Prop where
 ha:PySem.W.findIn K (.ref C) "__class__"=some (some (.builtin "object.__class__"))
 hn:PySem.W.specialIn K (.builtin "object.__class__") "__get__"=some (some (.builtin "getset_descriptor.__get__"))
 htk:PySem.W.takesIn K (.builtin "object.__class__")=some true
 hm:PySem.W.mroIn K C (.type "object")=some true
structure KOk (K:E7)(B:WB)(fad:Nat->Addr)(i:Nat):Prop where
 cl:Cls K (B.kls i)
 na:∀f,B.fok i f=true->NoAttr K (B.kls i) (fnm f)
 mt:∀m f,B.mth i m=some f->Meth K (B.kls i) (fnm m) (fad f)
 mkr:∀f,B.ini i=some f->Mk K (B.kls i) (fad f)
 ci:∀f,B.ini i=some f->ClsI K (B.kls i) (fad f)
 ty:TyI K (B.kls i)
 is:∀j,j<B.nk->PySem.W.kitOne K (.ref (B.kls i)) (.ref (B.kls j))=some (B.ksub i j)
section
variable {X:Cx}{B:WB}
theorem uo{K:E7}(hk:∀i,i<B.nk->KOk K B fad i)(dx:Den K H x v)(rm:RelM K M H)(h:lh B f x M Q) :
  ∃a C dx fs u d,v=.ref a/\Rd H a (.ins C dx fs)/\Cls K C/\NoAttr K C (fnm f)/\fs.lookup (fnm f)=some u/\Den K H d u/\Q d M:=by
 unfold lh at h;split at h
 ·rename_i i C ns ds;obtain⟨p,vs,ob,dx',rfl,e,hl,dl⟩:=dx;obtain⟨⟨rfl,hi,hf⟩,h⟩:=h;unfold mL at h;split at h
  ·rename_i d q;obtain⟨u,h1,h2⟩:=eo dl q;exact⟨p,_,dx',_,u,d,rfl,.inr ⟨ob,e⟩,(hk i hi).cl,(hk i hi).na f hf,h1,h2,h⟩
  ·exact h.elim
 ·rename_i a;split at h
  ·rename_i i C ns ds q;obtain⟨dx',vs,e,hl,dl⟩:=rm a _ q;obtain⟨⟨rfl,hi,hf⟩,h⟩:=h;unfold mL at h;split at h
   ·rename_i d q;obtain⟨u,h1,h2⟩:=eo dl q;exact⟨a,_,dx',_,u,d,dx,.inl e,(hk i hi).cl,(hk i hi).na f hf,h1,h2,h⟩
   ·exact h.elim
  ·exact h.elim
 ·exact h.elim
theorem zD(hk:∀i,i<B.nk->KOk X.K B fad i)(he:PE X e (low X.K cls E2 te))(hb:attributeBase e (fnm f) X.env (eval e X.env)=eval e X.env):PE X (.Attribute e (fnm f) pos) (low X.K cls E2 λσ M Q E=>te σ M (λx M1=>lh B f x M1 Q) E):=by
 refine λpins s σ H Q2 I hl_=>ex9 hl_ λσ3 M Q E3 rm ds lk h back=>?_
 refine va hb (thn (he pins s σ H (λv H1=>∃x M1,Den X.K H1 x v/\RelM X.K M1 H1/\TM X.K H H1/\lh B f x M1 Q) I ⟨σ3,M,_,E3,rm,ds,lk,h,λv H' d M' a b c e=>⟨d,M',a,b,c,e⟩⟩) λu s1 ⟨v,H1,I1,r1,x,M1,dx,rm1,t1,q1⟩=>?_)
 obtain⟨a,C,dx',fs,u',d,rfl,rd,c,n,l,du,q⟩:=uo hk dx rm1 q1;obtain rfl:u=Value.ref a:=r1;exact qY I1 rd c n l λu'' s2 I2 ru=>⟨u',H1,I2,ru,back _ _ _ _ du rm1 t1 q⟩
end
def rJ(X:Cx)(cls:Nat->Addr)(k:Nat)(a:Addr)(t3:List D->MH->VK3->XN->Prop):Prop:=∃fd ps sp,PySem.W.keepIn X.K (.ref a)=true/\BdT X.K cls fd ps t3 sp/\FnOk X.prog X.w X.K X.mg X.base (CX1 X.prog X.w) k a fd ps sp
def su(bq:Bool)(X:Cx)(cls:Nat->Addr)(k:Nat)(a:Addr)(t3:List D->MH->VK3->XN->Prop):Prop:=∃fd ps sp,PySem.W.keepIn X.K (.ref a)=true/\BdT X.K cls fd ps t3 sp/\FnOk X.prog X.w X.K X.mg X.base (CX1 X.prog X.w bq) k a fd ps sp bq
section
variable {X:Cx}{B:WB}{fad:Nat->Addr}{cls:Nat->Addr}{E2:St->XK}{o e:Expr}{es:List Expr}{to te:St3->MH->VK3->XN->Prop}{tr:St3->MH->(List D->MH->Prop)->XN->Prop}{pos apos p:Pos}{m k:Nat}
 {cl3:Nat->List D->MH->VK3->XN->Prop}
theorem kR{K:E7}{H:Hp}{x:D}{v:V}{M:MH}{R:Nat->Prop}(hk:∀i,i<B.nk->KOk K B fad i)(dx:Den K H x v)(rm:RelM K M H)(h:fh B m x M R) :
  ∃a C dx fs f,v=.ref a/\Rd H a (.ins C dx fs)/\Cls K C/\Meth K C (fnm m) (fad f)/\fs.lookup (fnm m)=none/\(∃i,i<B.nk/\B.mth i m=some f)/\R f:=by
 unfold fh at h;split at h
 ·rename_i i C ns ds;obtain⟨p,vs,ob,dx',rfl,e,hl,dl⟩:=dx;obtain⟨⟨rfl,hi,hf⟩,h⟩:=h;unfold fO at h;split at h
  ·rename_i f q;exact⟨p,_,dx',_,f,rfl,.inr ⟨ob,e⟩,(hk i hi).cl,(hk i hi).mt m f q,eI dl hl hf,⟨i,hi,q⟩,h⟩
  ·exact h.elim
 ·rename_i a;split at h
  ·rename_i i C ns ds q;obtain⟨dx',vs,e,hl,dl⟩:=rm a _ q;obtain⟨⟨rfl,hi,hf⟩,h⟩:=h;unfold fO at h;split at h
   ·rename_i f q;exact⟨a,_,dx',_,f,dx,.inl e,(hk i hi).cl,(hk i hi).mt m f q,eI dl hl hf,⟨i,hi,q⟩,h⟩
   ·exact h.elim
  ·exact h.elim
 ·exact h.elim
theorem xq(hk:∀i,i<B.nk->KOk X.K B fad i)(hf:∀i m f,i<B.nk->B.mth i m=some f->rJ X cls k (fad f) (cl3 f))(hr:Room k X.A)(hx:aA (CX1 X.prog X.w) X E2)
  (ho:PE X o (low X.K cls E2 to)) (ha:PA X (e::es) (cU X.K cls E2 tr)) (hb:attributeBase o (fnm m) X.env (eval o X.env)=eval o X.env) (hl:(apos.endLine == pos.line)=true) (hn:(e::es).length<30)
  (he:starEach (e::es) X.env=(false,eval e X.env)::starEach es X.env) (hpl:(backTo pos (starEach es X.env)).any (·.1)=false) :
  PE X (.Call (.Attribute o (fnm m) apos) (e::es) [] pos) (low X.K cls E2 λσ M Q E=>to σ M (λx M1=>fh B m x M1 λf=>tr σ M1 (λxs M2=>cl3 f (x::xs) M2 Q E) E) E):=by
 refine λpins s σ H Q2 I hl_=>ex9 hl_ λσ3 M Q E3 rm ds lk h back=>?_
 have hst:(backTo pos (starEach (e::es) X.env)).any (·.1)=false:=by
  rw[he];show ((false,_)::backTo pos (starEach es X.env)).any (·.1)=false;rw[List.any_cons,hpl];rfl
 refine PySem.W.methodCall_KW (thn (ho pins s σ H (λv H1=>∃x M1,Den X.K H1 x v/\RelM X.K M1 H1/\TM X.K H H1/\fh B m x M1 λf=>tr σ3 M1 (λxs M2=>cl3 f (x::xs) M2 Q E3) E3) I ⟨σ3,M,_,E3,rm,ds,lk,h,λv H' d M' a b c e=>⟨d,M',a,b,c,e⟩⟩) λu s1 ⟨v,H1,I1,r1,x,M1,dx,rm1,t1,q1⟩=>?_) (dQ hb (fF hst hn) hl)
 obtain⟨a,C,dx',fs,f,rfl,rd,c,mt,l,⟨i,hi,hfi⟩,q⟩:=kR hk dx rm1 q1;obtain rfl:u=Value.ref a:=r1;obtain⟨fd,ps,sp,kp,bd,F⟩:=hf i m f hi hfi;refine ir I1 rd c mt l ?_;refine PySem.W.callWith_K (first:=[.ref a]) (h₀:=X.base) I.ok.mod.kin mt.kp (thn (ha pos pins s1 σ H1 _ I1 (cZ (R2:=λvs H2=>spX X.K cls (cl3 f) (.ref a::vs) H2 Q2 (λc d H'=>TM X.K H2 H'->E2 σ c d H')) rm1 (ds.mono t1) (lk.mono t1) q
  λvs H2 xs M2 dl rm2 t2 q2=>iq (.cons (dx.mono t2) dl) rm2 (lk.mono (t1.trans t2)) q2 (back.mono (t1.trans t2)))) λus s2 ⟨vs,H2,I2,r,q2⟩=>⟨I2.kIn,?_⟩) he hpl
 exact fG (us:=.ref a::us) (vs:=.ref a::vs) F hr bd hx I2 (.cons rfl r) q2
theorem uv{bq:Bool}{tw:Option Nat}{a2:Addr}{c3:List D->MH->VK3->XN->Prop}(hk:∀i,i<B.nk->KOk X.K B fad i)(htw:∀f,tw=some f->fad f=a2)(hf:su bq X cls k a2 c3)(hr:Room k X.A bq)(hx:aA (CX1 X.prog X.w bq) X E2)(hq:bq=false->HdH X.A X.H₀)
  (ho:PE X o (low X.K cls E2 to)) (ha:PA X (e::es) (cU X.K cls E2 tr)) (hb:attributeBase o (fnm m) X.env (eval o X.env)=eval o X.env) (hl:(apos.endLine == pos.line)=true) (hn:(e::es).length<30)
  (he:starEach (e::es) X.env=(false,eval e X.env)::starEach es X.env) (hpl:(backTo pos (starEach es X.env)).any (·.1)=false) :
  PE X (.Call (.Attribute o (fnm m) apos) (e::es) [] pos) (low X.K cls E2 λσ M Q E=>to σ M (λx M1=>fh B m x M1 λf=>tw=some f/\tr σ M1 (λxs M2=>c3 (x::xs) M2 Q E) E) E):=by
 refine λpins s σ H Q2 I hl_=>ex9 hl_ λσ3 M Q E3 rm ds lk h back=>?_
 have hst:(backTo pos (starEach (e::es) X.env)).any (·.1)=false:=by
  rw[he];show ((false,_)::backTo pos (starEach es X.env)).any (·.1)=false;rw[List.any_cons,hpl];rfl
 refine PySem.W.methodCall_KW (thn (ho pins s σ H (λv H1=>∃x M1,Den X.K H1 x v/\RelM X.K M1 H1/\TM X.K H H1/\fh B m x M1 λf=>tw=some f/\tr σ3 M1 (λxs M2=>c3 (x::xs) M2 Q E3) E3) I ⟨σ3,M,_,E3,rm,ds,lk,h,λv H' d M' a b c e=>⟨d,M',a,b,c,e⟩⟩) λu s1 ⟨v,H1,I1,r1,x,M1,dx,rm1,t1,q1⟩=>?_) (dQ hb (fF hst hn) hl)
 obtain⟨a,C,dx',fs,f,rfl,rd,c,mt,l,⟨i,hi,hfi⟩,ew,q⟩:=kR hk dx rm1 q1;obtain rfl:u=Value.ref a:=r1;have ea:=htw f ew;subst ea;obtain⟨fd,ps,sp,kp,bd,F⟩:=hf;refine ir I1 rd c mt l ?_;refine PySem.W.callWith_K (first:=[.ref a]) (h₀:=X.base) I.ok.mod.kin mt.kp (thn (ha pos pins s1 σ H1 _ I1 (cZ (R2:=λvs H2=>spX X.K cls c3 (.ref a::vs) H2 Q2 (λc d H'=>TM X.K H2 H'->E2 σ c d H')) rm1 (ds.mono t1) (lk.mono t1) q
  λvs H2 xs M2 dl rm2 t2 q2=>iq (.cons (dx.mono t2) dl) rm2 (lk.mono (t1.trans t2)) q2 (back.mono (t1.trans t2)))) λus s2 ⟨vs,H2,I2,r,q2⟩=>⟨I2.kIn,?_⟩) he hpl
 exact fG (us:=.ref a::us) (vs:=.ref a::vs) F hr bd hx I2 (.cons rfl r) q2 hq
theorem uc(hk:∀i,i<B.nk->KOk X.K B fad i)(hf:∀i m f,i<B.nk->B.mth i m=some f->rJ X cls k (fad f) (cl3 f))(hr:Room k X.A)(hx:aA (CX1 X.prog X.w) X E2)
  (ho:PE X o (low X.K cls E2 to)) (hb:attributeBase o (fnm m) X.env (eval o X.env)=eval o X.env) (hl:(apos.endLine == pos.line)=true) :
  PE X (.Call (.Attribute o (fnm m) apos) [] [] pos) (low X.K cls E2 λσ M Q E=>to σ M (λx M1=>fh B m x M1 λf=>cl3 f [x] M1 Q E) E):=by
 refine λpins s σ H Q2 I hl_=>ex9 hl_ λσ3 M Q E3 rm ds lk h back=>?_
 refine PySem.W.methodCall_KW (thn (ho pins s σ H (λv H1=>∃x M1,Den X.K H1 x v/\RelM X.K M1 H1/\TM X.K H H1/\fh B m x M1 λf=>cl3 f [x] M1 Q E3) I ⟨σ3,M,_,E3,rm,ds,lk,h,λv H' d M' a b c e=>⟨d,M',a,b,c,e⟩⟩) λu s1 ⟨v,H1,I1,r1,x,M1,dx,rm1,t1,q1⟩=>?_) (dQ hb (fF (by rfl) (by decide)) hl)
 obtain⟨a,C,dx',fs,f,rfl,rd,c,mt,l,⟨i,hi,hfi⟩,q⟩:=kR hk dx rm1 q1;obtain rfl:u=Value.ref a:=r1;obtain⟨fd,ps,sp,kp,bd,F⟩:=hf i m f hi hfi;refine ir I1 rd c mt l ?_;exact PySem.W.callWith_K0 (first:=[.ref a]) I1.kIn mt.kp (fG (us:=[.ref a]) (vs:=[.ref a]) F hr bd hx I1 (.cons rfl .nil) (iq (.one dx) rm1 (lk.mono t1) q (back.mono t1)))
theorem jH(M:Mk X.K C f)(F:FnOk X.prog X.w X.K X.mg X.base (CX1 X.prog X.w) k f fd ps sp)(hr:Room (k+1) X.A)(hb:BdT X.K cls fd ps t3 sp)
  (hx:aA (CX1 X.prog X.w) X E2) (I:Inv X pins σ H s)(r:Vals vs us)
  (h:∀x dx,H x=none->H dx=none->dx≠x->spX X.K cls t3 (.ref x::vs) (upd (upd H dx (.own x)) x (.ins C dx [])) (λv H2=>v=.non/\Q (.ref x) H2) (λc d H'=>TM X.K (upd (upd H dx (.own x)) x (.ins C dx [])) H'->E2 σ c d H')) :
  wpAny (model X.prog X.w) X.A (call (.ref C) us) (EP X pins σ Q) X.xe s:=by
 have hq:=h (s.heap.objs.size+1) s.heap.objs.size (I.hok.fresh (ET _)) (I.hok.fresh (DZ _)) (Ek (Nat.lt_succ_self _));have I2:=Inv.made (C:=C) I;have r2:Vals (V.ref (s.heap.objs.size+1)::vs) (Value.ref (s.heap.objs.size+1)::us):=.cons rfl r;obtain⟨dvs,dsv,hv,bd,hq⟩:=hb _ _ _ _ hq;have r2:Vals ((V.ref (s.heap.objs.size+1)::vs)++dvs) ((Value.ref (s.heap.objs.size+1)::us)++dsv):=r2.append hv;have hl:(Value.ref (s.heap.objs.size+1)::us++dsv).length=ps.length:=by rw[<-r2.length];exact F.len _ _ _ _ hq
 have hb':=bd _ (Value.ref (s.heap.objs.size+1)::us) I2.kIn hl;refine wpAny_call (rY (f:=f) I.kIn M.makes M.init (Ec.mp M.fn) (codeAny_mono (F.run _ X.stack _ _ ⟨Value.ref (s.heap.objs.size+1)::us,[]⟩ (Value.ref (s.heap.objs.size+1)::us++dsv) _ _ _ (hr.make C us []) (λz=>nomatch z)
  (I2.env0.make C us []) hb' r2 hq) λr s' hq'=>?_))
 match r,hq' with
 |.error e,hq'=>exact hx pins σ _ _ e s' I2 (sV hq')
 |.ok (.ret u),hq'=>
  obtain⟨v,H',I3,rv,ev,q3⟩:=I2.after hq';subst ev;exact⟨rv,⟨V.ref (s.heap.objs.size+1),H',I3,rfl,q3⟩⟩
 |.ok .next,hq'=>exact hq'.elim
 |.ok .brk,hq'=>exact hq'.elim
 |.ok .cont,hq'=>exact hq'.elim
theorem TM.made{K:E7}(hx:H x=none)(hd:H dx=none)(ne:dx≠x):TM K H (upd (upd H dx (.own x)) x (.ins C dx [])):=
 (TM.new hd).trans (.new (by rw[aa (Ea ne)];exact hx))
theorem om{σ:St}{H:Hp}{xs:List D}{vs:List V}{M:MH}{Q:VK3}{Q2:VK}{E3:XN}{i:Nat}{fz:Bool}{t3:List D->MH->VK3->XN->Prop}(dl:DenL X.K H xs vs)(rm:RelM X.K M H)(lk:LkE X.K cls H E3 (E2 σ))
  (q:∀p,M p=none->t3 (.ref p::xs) (put M p (.ins i (B.kls i) [] [])) (λv M2=>v=.non/\if fz=true then ck Q (.ref p) M2 else Q (.ref p) M2) (λj M'=>E3 j (del M' p))) :
  ∀x dx,H x=none->H dx=none->dx≠x->spX X.K cls t3 (.ref x::vs) (upd (upd H dx (.own x)) x (.ins (B.kls i) dx [])) (λv H2=>v=.non/\∃M2,RelM X.K M2 H2/\TM X.K H H2/\if fz=true then ck Q (.ref x) M2 else Q (.ref x) M2)
   (λc d H'=>TM X.K (upd (upd H dx (.own x)) x (.ins (B.kls i) dx [])) H'->E2 σ c d H'):=λx dx hx hd ne=>by
 have t:=TM.made (K:=X.K) (C:=B.kls i) hx hd ne;have hx':(upd H dx (.own x)) x=none:=by rw[aa (Ea ne)];exact hx
 have rm2:RelM X.K (put M x (.ins i (B.kls i) [] [])) (upd (upd H dx (.own x)) x (.ins (B.kls i) dx [])):=(rm.grow hd).lay hx' ⟨dx,[],ad,rfl,rfl⟩;refine⟨.ref x::xs,_,_,_,.cons rfl (dl.mono t),rm2,q x (rm.fresh hx),λv H' d M' dv rm' t' ⟨e,q'⟩=>?_,λj M' H' t' rm' q' dy xd _=>lk j (del M' x) H' (t.trans t') (rm'.sub λb o z=>(g5 z).2) q' dy xd⟩
 subst e;exact⟨dv,M',rm',t.trans t',q'⟩
theorem lO(back:Back X.K H Q Q2)
  (h:EP X pins σ (λv H2=>∃x,v=.ref x/\∃M2,RelM X.K M2 H2/\TM X.K H H2/\if fz=true then ck Q (.ref x) M2 else Q (.ref x) M2) u s'):EP X pins σ Q2 u s':=by
 obtain⟨v,H2,I2,r,x,rfl,M2,rm2,t2,q⟩:=h;cases fz with
 |true=>
  obtain⟨H3,M3,d,I3,t3,rm3,dv,q3⟩:=kg I2 rm2 dW (show ck Q (.ref x) M2 from q);exact⟨.ref x,H3,I3,r,back _ _ _ _ dv rm3 (t2.trans t3) q3⟩
 |false=>exact⟨.ref x,H2,I2,r,back _ _ _ _ dW rm2 t2 q⟩
theorem wD{i f:Nat}{fz:Bool}{x:Str}(hg:Gl X x)(hm:X.mg x=some (.ref (B.kls i)))(hdb:(x == ("__debug__" : Str))=false)(mk:Mk X.K (B.kls i) (fad f))(hf:rJ X cls k (fad f) (cl3 f))(hr:Room (k+1) X.A)(hx:aA (CX1 X.prog X.w) X E2)
  (ha:PA X (e::es) (cU X.K cls E2 tr)) (he:starEach (e::es) X.env=(false,eval e X.env)::starEach es X.env) (hpl:(backTo pos (starEach es X.env)).any (·.1)=false) :
  PE X (.Call (.Name x p) (e::es) [] pos) (low X.K cls E2 λσ M Q E=>tr σ M (λxs M1=>∀p,M1 p=none->cl3 f (.ref p::xs) (put M1 p (.ins i (B.kls i) [] [])) (λv M2=>v=.non/\if fz=true then ck Q (.ref p) M2 else Q (.ref p) M2) (λi M'=>E i (del M' p))) E):=by
 refine λpins s σ H Q2 I hl_=>ex9 hl_ λσ3 M Q E3 rm ds lk h back=>?_
 obtain⟨fd,ps,sp,kp,bd,F⟩:=hf;refine wpAny_Call_Name_kw (bh I hg hm ?_ hdb);refine PySem.W.callWith_K (h₀:=X.base) I.ok.mod.kin mk.kp (thn (ha pos pins s σ H (λvs H1=>TM X.K H H1/\∃xs M1,DenL X.K H1 xs vs/\RelM X.K M1 H1/\∀p,M1 p=none->cl3 f (.ref p::xs) (put M1 p (.ins i (B.kls i) [] [])) (λv M2=>v=.non/\if fz=true then ck Q (.ref p) M2 else Q (.ref p) M2) (λi M'=>E3 i (del M' p))) I
  (cZ rm ds lk h λvs H1 xs M1 dl rm1 t1 q1=>⟨t1,xs,M1,dl,rm1,q1⟩)) λus s1 ⟨vs,H1,I1,r,t1,xs,M1,dl,rm1,q1⟩=>⟨I1.kIn,?_⟩) he hpl
 refine thn (jH (Q:=λv H2=>∃x,v=.ref x/\∃M2,RelM X.K M2 H2/\TM X.K H1 H2/\if fz=true then ck Q (.ref x) M2 else Q (.ref x) M2) mk F hr bd hx I1 r λx dx n1 n2 n3=>?_) λu s2 q2=>lO (fz:=fz) (back.mono t1) q2
 obtain⟨a1,a2,a3,a4,b1,b2,b3,b4,b5⟩:=om (fz:=fz) (i:=i) (t3:=cl3 f) (Q2:=Q2) dl rm1 (lk.mono t1) q1 x dx n1 n2 n3;exact⟨a1,a2,a3,a4,b1,b2,b3,λv H' d M' dv rm' t' q'=>by
  obtain⟨e,w⟩:=b4 v H' d M' dv rm' t' q';exact⟨e,x,rfl,w⟩,b5⟩
theorem uG{i f:Nat}{fz:Bool}{x:Str}(hg:Gl X x)(hm:X.mg x=some (.ref (B.kls i)))(hdb:(x == ("__debug__" : Str))=false)(mk:Mk X.K (B.kls i) (fad f))(hf:rJ X cls k (fad f) (cl3 f))(hr:Room (k+1) X.A)(hx:aA (CX1 X.prog X.w) X E2) :
  PE X (.Call (.Name x p) [] [] pos) (low X.K cls E2 λσ M Q E=>∀p,M p=none->cl3 f [.ref p] (put M p (.ins i (B.kls i) [] [])) (λv M2=>v=.non/\if fz=true then ck Q (.ref p) M2 else Q (.ref p) M2) (λi M'=>E i (del M' p))):=by
 refine λpins s σ H Q2 I hl_=>ex9 hl_ λσ3 M Q E3 rm ds lk h back=>?_
 obtain⟨fd,ps,sp,kp,bd,F⟩:=hf;refine wpAny_Call_Name_kw (bh I hg hm ?_ hdb);refine PySem.W.callWith_K0 I.kIn mk.kp ?_;refine thn (jH (us:=[]) (vs:=[]) (Q:=λv H2=>∃x,v=.ref x/\∃M2,RelM X.K M2 H2/\TM X.K H H2/\if fz=true then ck Q (.ref x) M2 else Q (.ref x) M2) mk F hr bd hx I .nil λx dx n1 n2 n3=>?_) λu s2 q2=>lO (fz:=fz) back q2
 obtain⟨a1,a2,a3,a4,b1,b2,b3,b4,b5⟩:=om (fz:=fz) (i:=i) (t3:=cl3 f) (xs:=[]) (vs:=[]) (Q2:=Q2) .nil rm lk h x dx n1 n2 n3;exact⟨a1,a2,a3,a4,b1,b2,b3,λv H' d M' dv rm' t' q'=>by
  obtain⟨e,w⟩:=b4 v H' d M' dv rm' t' q';exact⟨e,x,rfl,w⟩,b5⟩
theorem ya(hk:∀i,i<B.nk->KOk X.K B fad i)(ho:PE X o (low X.K cls E2 to))(hv:PE X value (low X.K cls E2 tv))(hs:swapsWith value (some (.Attribute o (fnm f) pos')) pos.line X.env=pure false) :
  PS X (.Assign [.Attribute o (fnm f) pos'] value pos) (aP X.K cls E2 λD E σ M=>tv σ M (λy M1=>to σ M1 (λx M2=>match x with
  |.ref a=>match M2 a with
   |some (.ins i C ns ds)=>(C=B.kls i/\i<B.nk/\B.fok i f=true/\ns.length<1000)/\D.nx σ (put M2 a (.ins i C (cD f ns) (cW f y ns ds)))
   |_=>False
  |_=>False) (E σ)) (E σ)):=
 (wL ho hv hs).imp λD2 σ H hl_=>ex9 hl_ λσ3 M D3 E3 rm ds lk h er=>aO rm ds (lk.at ds) h λv H1 y M1 dy rm1 t1 q1=>aO rm1 (ds.mono t1) ((lk.at ds).mono t1) q1 λw H2 x M2 dx rm2 t2 q2=>by
  split at q2
  ·rename_i a;split at q2
   ·rename_i i C ns es q;obtain⟨dx',vs,e,hl,dl⟩:=rm2 a _ q;obtain⟨⟨rfl,hi,hf,hz⟩,q2⟩:=q2;obtain⟨ws,h1,h2,h3⟩:=l8 (f:=f) (u:=v) dl hl (dy.mono t2);refine⟨a,_,dx',_,dx,e,(hk i hi).cl,(hk i hi).na f hf,?_,?_⟩
    ·rw[List.length_zip,D5,hl,Nat.min_self,<-hl];exact hz
    ·have tw:TM X.K H2 (upd H2 a (.ins (B.kls i) dx' (cC (fnm f) v ((ns.map fnm).zip vs)))):=.put e (λ_ z=>by cases z) λ_ _ z=>by cases z
     refine er.nx _ _ σ3 _ (rm2.write (u:=.ins i (B.kls i) (cD f ns) (cW f y ns es)) e (λ_ z=>by cases z) (λ_ _ z=>by cases z) ⟨dx',ws,by rw[ad,h1],h2,h3.mono tw⟩) (((ds.mono t1).mono t2).mono tw) ((t1.trans t2).trans tw) q2
   ·exact q2.elim
  ·exact q2.elim
end
def VS(X:Cx)(r:D->Option Int->Option Int->MH->VK3->Prop):Prop:=
 ∀(pins:List (Addr×Obj)) (s:Shared)(σ:St)(H:Hp)(x:D)(v:V)(v2 vl vu:Value)(lo hi:Option Int)(sl:Addr)(M:MH)(Q:VK3)(Q2:VK),Inv X pins σ H s->RelV v v2->Den X.K H x v->RelM X.K M H->s.heap.IsSliceOf sl vl vu .none->IsPart vl lo->IsPart vu hi->r x lo hi M Q->Back X.K H Q Q2->
  ∃T id,typeLookup (.type T) "__getitem__"=pure (some (.builtin id))/\s.TypeIs v2 T/\wpAny (model X.prog X.w) X.A (getItem v2 (.ref sl)) (EP X pins σ Q2) X.xe s
section
variable {X:Cx}{lo:Option Expr}
theorem VS.op(h:VS X r):SlR X (λv lo hi H Q2=>∃x M Q,Den X.K H x v/\RelM X.K M H/\r x lo hi M Q/\Back X.K H Q Q2):=by
 intro pins s σ H v v2 vl vu lo hi sl Q2 I rv hs pl pu ⟨x,M,Q,dx,rm,q,back⟩;exact h pins s σ H x v v2 vl vu lo hi sl M Q Q2 I rv dx rm hs pl pu q back
theorem mf{K:E7}{lo:Option Int}(dl:DenL K H ds vs):DenL K H (jo ds lo hi) (nJ vs lo hi):=by
 unfold jo nJ;rw[dl.length];exact (dl.drop _).take _
theorem zR(fz:Bool):VS X (pQ fz):=by
 intro pins s σ H x v v2 vl vu lo hi sl M Q Q2 I rv dx rm hs pl pu q back;unfold pQ at q;split at q
 ·rename_i ds;obtain⟨p,vs,rfl,sq,dl⟩:=dx;obtain⟨hw,q⟩:=q;refine wT pins s σ H _ v2 vl vu lo hi sl Q2 I rv hs pl pu ⟨p,vs,rfl,sq,λz=>?_,λp' hp=>?_⟩
  ·unfold whole at hw;rw[dl.length,z.1,z.2]at hw;simp at hw
  ·exact back _ _ (.tup (jo ds lo hi)) _ ⟨p',_,rfl,.of ad,(mf dl).mono (.new hp)⟩ (rm.grow hp) (.new hp) q
 ·rename_i z;cases (show v=.str z from dx);obtain⟨t,rfl⟩:=rv;obtain⟨hz,q⟩:=q;have fin:∀t' k,0<k->EP X pins σ Q2 (.str (Txt.slice z lo hi) t') {s with toks:=k}:=λt' k _=>⟨.str _,H,I.tok _,⟨_,rfl⟩,back _ _ _ _ g6 rm (.refl _) q⟩
  refine⟨"str",_,PySem.F.slot_str_getitem.lookup,typeIs_str _ _ _,?_⟩;cases pl with
  |none=>
   cases pu with
   |none=>exact bF I.tk <| wpAny_getItem_str_slice (l:=none) (u:=none) (st:=none) hs rfl (post_val_or_str ⟨Ej (Txt.slice_le z _ _) hz,fin⟩)
   |int j u=>exact bF I.tk <| wpAny_getItem_str_slice (l:=none) (u:=some (j,u)) (st:=none) hs rfl (post_val_or_str ⟨Ej (Txt.slice_le z _ _) hz,fin⟩)
  |int i u'=>
   cases pu with
   |none=>exact bF I.tk <| wpAny_getItem_str_slice (l:=some (i,u')) (u:=none) (st:=none) hs rfl (post_val_or_str ⟨Ej (Txt.slice_le z _ _) hz,fin⟩)
   |int j u=>exact bF I.tk <| wpAny_getItem_str_slice (l:=some (i,u')) (u:=some (j,u)) (st:=none) hs rfl (post_val_or_str ⟨Ej (Txt.slice_le z _ _) hz,fin⟩)
 ·split at q
  ·rename_i ds e;obtain⟨p,vs,rfl,hq,dl⟩:=aJ rm e dx;cases rv;obtain⟨its,r,ht,hz⟩:=I.list hq.sq;have hlen:=r.length;refine⟨"list",_,slot_list_getitem.lookup,ht.isList.typeIs,?_⟩;refine wpAny_getItem_list_slice ht.isList hs pl pu .none (by simp) ?_ (by rw[Eb]<;>omega)
   rw[jq,<-hlen];have I2:=I.laid (t':=s.toks) (o:=.lst (nJ vs lo hi)) (h':=s.heap.push {cls:=.type "list",data:=.seq ((its.drop (HT.sIx vs.length 0 lo)).take (HT.sIx vs.length vs.length hi-HT.sIx vs.length 0 lo)).toArray 0}) (λb ob q=>DU _ q) (DZ _)
    ⟨Ej (gJ vs lo hi) hz,_,0,(r.drop (HT.sIx vs.length 0 lo)).take (HT.sIx vs.length vs.length hi-HT.sIx vs.length 0 lo),D7 _ rfl⟩
   exact bR I2 (I.hok.fresh (DZ _)) (mf dl) rm (.refl _) q back
  ·exact q.elim
theorem B0(ha:PE X a (low X.K cls E2 ta))(hl:PO X lo (pf X.K cls E2 tl))(hh:PO X hi (pf X.K cls E2 th)) :
  PE X (.Subscript a (.Slice lo hi none p2) pos) (low X.K cls E2 λσ M Q E=>ta σ M (λx M1=>tl σ M1 (λl M2=>th σ M2 (λh M3=>pQ fz x l h M3 Q) E) E) E):=
 (rB (zR fz).op ha hl hh).imp λσ H Q2 hl_=>ex9 hl_ λσ3 M Q E3 rm ds lk h back=>aO rm ds lk h λv H1 x M1 dx rm1 t1 q1=>vN rm1 (ds.mono t1) (lk.mono t1) q1 λl H2 M2 rm2 t2 q2=>vN rm2 ((ds.mono t1).mono t2) ((lk.mono t1).mono t2) q2 λh H3 M3 rm3 t3 q3=>
  ⟨x,M3,Q,(dx.mono t2).mono t3,rm3,q3,back.mono ((t1.trans t2).trans t3)⟩
theorem jt{K:E7}:∀{ds:List D}{bs:List Bool}{vs:List V}{us:List Value},dO ds=some bs->DenL K H ds vs->Vals vs us->LSm.BoolsAre us bs
 |[],bs,vs,us,e,dl,r=>by
  cases (show vs=[] from dl);cases r;cases (show some []=some bs from e);exact .nil
 |d::ds,bs,_,us,e,dl,r=>by
  obtain⟨v,vs,rfl,dv,dl⟩:=dl;cases r with
  |cons ru rt=>
   cases d with
   |bl b=>
    simp only[dO]at e;split at e
    ·rename_i ns q;cases e;cases (show v=.bl b from dv);cases ru;exact .cons b (jt q dl rt)
    ·cases e
   |_=>cases e
theorem vQ(al:Bool)(hc:X.calm=true):VC X (.builtin (if al=true then "all" else "any")) (rBi (if al=true then .all else .any)):=by
 intro pins s σ H xs vs us M Q Q2 I r dl rm q back;have hh:X.A.handled=none:=I.ok.hd hc;have key:∃x ds bs,xs=[x]/\ah M x=some ds/\dO ds=some bs/\Q (.bl (if al=true then bs.all id else bs.any id)) M:=by
  cases al with
  |true=>
   simp only[if_true,rBi]at q;split at q
   ·split at q
    ·split at q
     ·exact⟨_,_,_,rfl,by assumption,by assumption,q⟩
     ·exact q.elim
    ·exact q.elim
   ·exact q.elim
  |false=>
   simp only[EA,if_false,rBi]at q;split at q
   ·split at q
    ·split at q
     ·exact⟨_,_,_,rfl,by assumption,by assumption,q⟩
     ·exact q.elim
    ·exact q.elim
   ·exact q.elim
 obtain⟨x,ds,bs,rfl,e1,e2,q⟩:=key;obtain⟨v,rfl,dv⟩:=gG dl;obtain⟨u,rfl,ru⟩:=eh r;obtain⟨p,ws,rfl,hq,dl2⟩:=aJ rm e1 dv;cases ru;obtain⟨its,r2,pl',hz⟩:=I.list hq.sq;have hb:=jt e2 dl2 r2;have hl:=pl'.isList;have hlt:p<s.heap.objs.size:=by obtain⟨_,e,_⟩:=hl;exact D1 e
 have fin:∀h' tk,(∀b o,s.heap.get? b=some o->h'.get? b=some o)->0<tk->EP X pins σ Q2 (.bool (if al=true then bs.all id else bs.any id)) {s with heap:=h',toks:=tk}:=λh' tk hk _=>
  ⟨.bl _,H,I.kept (t':=tk) hk,rfl,back _ _ _ _ bu rm (.refl _) q⟩
 cases al with
 |true=>
  refine bF I.tk <| call_all_walk (wpAny_pyIter_list hl ?_)
  refine⟨s.heap.objs.size,[s.heap.objs.size,p],[s.heap.objs.size],its.toArray.size,_,_,λi=>(bs[i]?).getD true,rfl,Walks.list (A:=X.A.in1) hh _ p (Ek hlt) its.toArray,
   ⟨⟨_,D7 _ rfl,rfl,rfl⟩,hl.push _⟩,λi v s' Q' E' hP hQ=>?_,λh' tk hk=>?_⟩
  ·obtain⟨b,e,rfl⟩:=hb.get i v (by simpa using hP)
   simp only[e,Option.getD_some]at hQ;exact EC hQ
  ·have e:((List.range its.toArray.size).all λi=>(bs[i]?).getD true)=bs.all id:=by
    rw[Eb,hb.length];exact LSm.range_all bs
   rw[e];exact fin h' tk (LSm.kept_iter hk)
 |false=>
  refine bF I.tk <| call_any_walk (wpAny_pyIter_list hl ?_)
  refine⟨s.heap.objs.size,[s.heap.objs.size,p],[s.heap.objs.size],its.toArray.size,_,_,λi=>(bs[i]?).getD false,rfl,Walks.list (A:=X.A.in1) hh _ p (Ek hlt) its.toArray,
   ⟨⟨_,D7 _ rfl,rfl,rfl⟩,hl.push _⟩,λi v s' Q' E' hP hQ=>?_,λh' tk hk=>?_⟩
  ·obtain⟨b,e,rfl⟩:=hb.get i v (by simpa using hP)
   simp only[e,Option.getD_some]at hQ;exact EC hQ
  ·have e:((List.range its.toArray.size).any λi=>(bs[i]?).getD false)=bs.any id:=by
    rw[Eb,hb.length];exact LSm.range_any bs
   rw[e];exact fin h' tk (LSm.kept_iter hk)
end
def TyV(X:Cx)(T:String)(x:V)(H:Hp):Prop:=∀(pins:List (Addr×Obj)) (σ:St)(s:Shared)(v:Value),Inv X pins σ H s->RelV x v->s.TypeIs v T/\∀a,v=.ref a->∃ob,s.heap.get? a=some ob/\ob.dict=none
section
variable {X:Cx}{o:Expr}{apos cpos pos:Pos}{id:String}
theorem wE(pa:PlainAttrs T)(slot:Slot T name id)(hty:typeOf (.builtin id)=pure (.type "method_descriptor"))(hm:MtR X id r)(ho:PE X o t2)(ha:PA X (e::es) ta)
  (hbase:attributeBase o name X.env (eval o X.env)=eval o X.env)
  (hfew:((backTo cpos (starEach (e::es) X.env)).all (λx=>!x.1)&&(backToKw cpos (keywordEach [] X.env)).all (λx=>x.1.isSome)
   &&decide ((e::es).length+([]:List Keyword).length+(if ([]:List Keyword).isEmpty then 0 else 1)<30))=true)
  (hline:(apos.endLine == cpos.line)=true) (hs:starEach (e::es) X.env=(false,eval e X.env)::starEach es X.env) (hplain:(backTo cpos (starEach es X.env)).any (·.1)=false) :
  PE X (.Call (.Attribute o name apos) (e::es) [] cpos) (λσ H Q=>t2 σ H λx H1=>TyV X T x H1/\ta σ H1 λxs H2=>r x xs H2 Q):=by
 intro pins s σ H Q I h;refine wpAny_Call_method_late hbase hfew hline rfl (thn (ho pins s σ H _ I h) λv s1 ⟨x,H1,I1,r1,ty,q1⟩=>?_)
 obtain⟨h1,h2⟩:=ty pins σ s1 v I1 r1;refine⟨T,id,pa,slot,hty,h1,h2,?_⟩;have hA:=ha cpos pins s1 σ H1 _ I1 q1;rw[hs]at hA ⊢;refine Calls.callWith_builtin (by show (false||(backTo cpos (starEach es X.env)).any (·.1))=false;rw[hplain]<;>rfl) (Calls.evalArgs_plain ?_)
 exact thn hA λus s2 ⟨vs,H2,I2,r2,q2⟩=>hm pins s2 σ H2 x vs v us Q I2 r1 r2 q2
theorem tD(pa:PlainAttrs T)(slot:Slot T name id)(hty:typeOf (.builtin id)=pure (.type "method_descriptor"))(hm:MtR X id r)(ho:PE X o t2)
  (hbase:attributeBase o name X.env (eval o X.env)=eval o X.env) (hline:(apos.endLine == cpos.line)=true):PE X (.Call (.Attribute o name apos) [] [] cpos) (λσ H Q=>t2 σ H λx H1=>TyV X T x H1/\r x [] H1 Q):=by
 intro pins s σ H Q I h;refine wpAny_Call_method0_late hbase hline (thn (ho pins s σ H _ I h) λv s1 ⟨x,H1,I1,r1,ty,q1⟩=>?_)
 obtain⟨h1,h2⟩:=ty pins σ s1 v I1 r1;exact⟨T,id,pa,slot,hty,h1,h2,Calls.callWith_builtin rfl (PySem.evalArgs_none (hm pins s1 σ H1 x [] v [] Q I1 r1 .nil q1))⟩
def VM(X:Cx)(id:String)(r:D->List D->MH->VK3->Prop):Prop:=
 ∀(pins:List (Addr×Obj)) (s:Shared)(σ:St)(H:Hp)(x:D)(xs:List D)(v:V)(vs:List V)(v2:Value)(us:List Value)(M:MH)(Q:VK3)(Q2:VK),Inv X pins σ H s->RelV v v2->Vals vs us->Den X.K H x v->DenL X.K H xs vs->RelM X.K M H->r x xs M Q->Back X.K H Q Q2->
  wpAny (model X.prog X.w) X.A (call (.builtin id) (v2::us)) (EP X pins σ Q2) X.xe s
theorem VM.op(h:VM X id r):MtR X id (λv vs H Q2=>∃x xs M Q,Den X.K H x v/\DenL X.K H xs vs/\RelM X.K M H/\r x xs M Q/\Back X.K H Q Q2):=by
 intro pins s σ H v vs v2 us Q2 I rv rs ⟨x,xs,M,Q,dx,dl,rm,q,back⟩;exact h pins s σ H x xs v vs v2 us M Q Q2 I rv rs dx dl rm q back
def TyD(X:Cx)(T:String)(tb:D->MH->Bool):Prop:=∀(x:D)(v:V)(M:MH)(H:Hp),Den X.K H x v->RelM X.K M H->tb x M=true->TyV X T v H
theorem xM(pa:PlainAttrs T)(slot:Slot T name id)(hty:typeOf (.builtin id)=pure (.type "method_descriptor"))(hm:VM X id r)(ht:TyD X T tb)(ho:PE X o (low X.K cls E2 to))(ha:PA X (e::es) (cU X.K cls E2 tr))
  (hbase:attributeBase o name X.env (eval o X.env)=eval o X.env) (hn:(e::es).length<30)
  (hline:(apos.endLine == cpos.line)=true) (hs:starEach (e::es) X.env=(false,eval e X.env)::starEach es X.env) (hplain:(backTo cpos (starEach es X.env)).any (·.1)=false) :
  PE X (.Call (.Attribute o name apos) (e::es) [] cpos) (low X.K cls E2 λσ M Q E=>to σ M (λx M1=>tb x M1=true/\tr σ M1 (λxs M2=>r x xs M2 Q) E) E):=by
 have hst:(backTo cpos (starEach (e::es) X.env)).any (·.1)=false:=by
  rw[hs];show ((false,_)::backTo cpos (starEach es X.env)).any (·.1)=false;rw[List.any_cons,hplain];rfl
 refine (wE pa slot hty hm.op ho ha hbase (fF hst hn) hline hs hplain).imp λσ H Q2 hl_=>ex9 hl_ λσ3 M Q E3 rm ds lk h back=>aO rm ds lk h λv H1 x M1 dx rm1 t1 q1=>?_
 exact⟨ht x v M1 H1 dx rm1 q1.1,cZ rm1 (ds.mono t1) (lk.mono t1) q1.2 λvs H2 xs M2 dl rm2 t2 q2=>⟨x,xs,M2,Q,dx.mono t2,dl,rm2,q2,back.mono (t1.trans t2)⟩⟩
theorem rj(pa:PlainAttrs T)(slot:Slot T name id)(hty:typeOf (.builtin id)=pure (.type "method_descriptor"))(hm:VM X id r)(ht:TyD X T tb)(ho:PE X o (low X.K cls E2 to))
  (hbase:attributeBase o name X.env (eval o X.env)=eval o X.env) (hline:(apos.endLine == cpos.line)=true) :
  PE X (.Call (.Attribute o name apos) [] [] cpos) (low X.K cls E2 λσ M Q E=>to σ M (λx M1=>tb x M1=true/\r x [] M1 Q) E):=
 (tD pa slot hty hm.op ho hbase hline).imp λσ H Q2 hl_=>ex9 hl_ λσ3 M Q E3 rm ds lk h back=>aO rm ds lk h λv H1 x M1 dx rm1 t1 q1=>⟨ht x v M1 H1 dx rm1 q1.1,x,[],M1,Q,dx,.nil,rm1,q1.2,back.mono t1⟩
theorem uj(hb:∀x M,tb x M=true->(ah M x).isSome=true):TyD X "list" tb:=λx v M H dx rm h pins σ s v2 I rv=>by
 obtain⟨ds,e⟩:=En.mp (hb x M h);obtain⟨p,vs,rfl,hq,dl⟩:=aJ rm e dx;cases rv;obtain⟨its,_,pl,_⟩:=I.list hq.sq;refine⟨pl.isList.typeIs,λa e=>?_⟩
 cases e;obtain⟨o,n,e,c,hd,_⟩:=pl;exact⟨o,e,hd⟩
theorem kG:TyD X "dict" (tyB .get):=λx v M H dx rm h pins σ s v2 I rv=>by
 simp only[tyB,Bool.or_eq_true]at h;rcases h with h|h
 ·obtain⟨⟨ks,ds⟩,e⟩:=En.mp h;obtain⟨p,vs,rfl,rd,_⟩:=lP e rm dx;cases rv;obtain⟨_,_,ws,_,dd⟩:=gM I.hok rd;refine⟨dd.typeIs,λb q=>?_⟩
  cases q;obtain⟨ob,_,_,h1,h2,_⟩:=dd;exact⟨ob,h1,h2.2.1⟩
 ·obtain⟨⟨ks,ds⟩,e⟩:=En.mp h;obtain⟨p,vs,xs,rfl,rd,z,_⟩:=fA e rm dx;cases rv;have dd:=bg I rd z;refine⟨dd.typeIs,λb q=>?_⟩
  cases q;obtain⟨ob,_,_,h1,h2,_⟩:=dd;exact⟨ob,h1,h2.2.1⟩
theorem OptDen.getD{K:E7}{o:Option D}{ov:Option V}(h:OptDen K H o ov)(dv:Den K H d v):Den K H (o.getD d) (ov.getD v):=by
 cases o with
 |none=>cases ov with
  |none=>exact dv
  |some _=>exact h.elim
 |some d'=>cases ov with
  |none=>exact h.elim
  |some v'=>exact h
theorem jv{K:E7}(h:DenL K H (d::ds) vs):∃v ws,vs=v::ws/\Den K H d v/\DenL K H ds ws:=by
 obtain⟨v,r,e,dv,dl⟩:=h;exact⟨v,r,e,dv,dl⟩
theorem so(hu:X.A.units+64<cLine):VM X "dict.get" (rBm .get):=by
 intro pins s σ H x xs v vs v2 us M Q Q2 I rv rs dx dl rm q back;simp only[rBm]at q;split at q
 ·rename_i y;split at q
  ·rename_i o e;obtain⟨yv,rfl,dy⟩:=gG dl;obtain⟨u,rfl,ru⟩:=rs.one;obtain⟨a,ov,rfl,g,od⟩:=fM e rm dx dy;cases rv;exact vX (by omega) I g ru λw' s' I' rw'=>⟨_,H,I',rw',back _ _ _ _ (od.getD (show Den X.K H .non .non from rfl)) rm (.refl _) q⟩
  ·exact q.elim
 ·rename_i y z;split at q
  ·rename_i o e;obtain⟨yv,wv,rfl,dy,dw⟩:=jv dl;obtain⟨zv,rfl,dz⟩:=gG dw;obtain⟨u,w,rfl,ru,rw'⟩:=rs.two;obtain⟨a,ov,rfl,g,od⟩:=fM e rm dx dy;cases rv;exact xx (by omega) I g ru rw' λw' s' I' rw'=>⟨_,H,I',rw',back _ _ _ _ (od.getD dz) rm (.refl _) q⟩
  ·exact q.elim
 ·exact q.elim
theorem yg(hu:X.A.units+64<cLine):xf X (λo i v H R2=>∃x k y M R,Den X.K H x o/\Den X.K H k i/\Den X.K H y v/\RelM X.K M H/\bo x k y M R/\∀H' M',RelM X.K M' H'->TM X.K H H'->R M'->R2 H'):=by
 intro pins s σ H o i v ov iv u R2 I ro ri rv ⟨x,k,y,M,R,dx,dk,dy,rm,q,back⟩;unfold bo at q;split at q
 ·rename_i a;cases (show o=.ref a from dx);split at q
  ·rename_i ds n e;split at q
   ·rename_i j ej;cases (show i=.int n from dk);obtain⟨vs,e1,dl⟩:=rm a _ e;have tw:TM X.K H (upd H a (.lst (vs.set j v))):=.put e1 (λ_ z=>by cases z) λ_ _ z=>by cases z
    refine qI pins s σ H _ _ v ov iv u R2 I ro ri rv ⟨a,vs,n,j,rfl,rfl,e1,by rw[<-dl.length];exact ej,?_⟩
    exact back _ _ (rm.write (u:=.lst (ds.set j y)) e1 (λ_ z=>by cases z) (λ_ _ z=>by cases z) ⟨_,ad,(dl.set dy j).mono tw⟩) tw q
   ·exact q.elim
  ·rename_i ks ds e;split at q
   ·rename_i k' ek;cases ro;exact wK (by omega) I rm e (ln ek dk) ri dy rv q.1 q.2 back
   ·exact q.elim
  ·rename_i ks ds e;split at q
   ·rename_i k' ek;cases ro;obtain⟨b,rfl,sq⟩:=jg ek dk;cases ri;exact yE (by omega) I rm e sq dy rv q.1 q.2 back
   ·exact q.elim
  ·exact q.elim
 ·exact q.elim
theorem ub(hu:X.A.units+64<cLine)(ho:PE X o (low X.K cls E2 to))(hi:PE X ixe (low X.K cls E2 ti))(hv:PE X value (low X.K cls E2 tv))
  (ha:∀v,assign (.Subscript o ixe pos') X.env v=(do
   let ov<-holding [v] (eval o X.env)
   let iv<-holding [v,ov] (eval ixe X.env)
   standAt pos'
   holding [v,ov,iv] (setItem ov iv v)
   release [v,ov,iv] [])) (hs:swapsWithSole [.Subscript o ixe pos'] value pos.line X.env=pure false) (hw:swappedStores [.Subscript o ixe pos'] value X.env=pure none) (h1:(assignEach [.Subscript o ixe pos'] X.env).map (·.2)=[assign (.Subscript o ixe pos') X.env]) :
  PS X (.Assign [.Subscript o ixe pos'] value pos) (aP X.K cls E2 λD E σ M=>tv σ M (λy M1=>to σ M1 (λx M2=>ti σ M2 (λk M3=>bo x k y M3 λM4=>D.nx σ M4) (E σ)) (E σ)) (E σ)):=
 (xm hv (wj ho hi (yg hu) ha) hs hw h1).imp λD2 σ H hl_=>ex9 hl_ λσ3 M D3 E3 rm ds lk h er=>aO rm ds (lk.at ds) h λv H1 y M1 dy rm1 t1 q1=>
  aO rm1 (ds.mono t1) ((lk.at ds).mono t1) q1 λw H2 x M2 dx rm2 t2 q2=>aO rm2 ((ds.mono t1).mono t2) (((lk.at ds).mono t1).mono t2) q2 λz H3 k M3 dk rm3 t3 q3=>
   ⟨x,k,y,M3,_,dx.mono t3,dk,(dy.mono t2).mono t3,rm3,q3,λH' M' rm' t' q'=>er.nx _ _ σ3 M' rm' ((((ds.mono t1).mono t2).mono t3).mono t') (((t1.trans t2).trans t3).trans t') q'⟩
end
end L2
namespace L2
open PySem PySem.Spec PyProof.Rows PySem.W
section
variable {A:Around}{s:Shared} [DecidableEq κ] {knd:HeapKind prog w κ}{xs:List (κ×Addr×Value)}{p:Addr×Value}
theorem mO:MeetsIn prog w (Builtin.«dict.clear» ⟨[.ref d],[]⟩) (λ_ R s=>∃xs,s.heap.DictOfH knd d xs/\xs.length<=sizeLine/\
  ∀h',h'.DictOfH knd d []->Heap.SameBut d s.heap h'->R (.ok (.ret .none)) {s with heap:=h'}):=
 .of_wp λA R s ⟨xs,hm,hsz,h⟩=>by
  obtain⟨o,es,ep,ho,hc,hd,he,his,hn⟩:=id hm;have hes:es.size<=sizeLine:=by have:=size_of_entries he;omega
  unfold Builtin.«dict.clear»;refine vJ ?_;unfold Builtin.Dict.noArgs;refine vJ (wpAny_notOrdered_dict hm.typeIs (DS ?_));refine vJ (EX ho hd (vJ ?_));unfold bearsInstanceDictMark;refine vJ (wpAny_load ho (DS (vJ (wpAny_updateDictKeys (hz:=hes) ho hd ?_))));have nw:(s.heap.update d (Obj.mapDictKeys λ_=>#[])).DictOfH knd d []:=
   ⟨_,_,ep+1,Ep _ ho (Obj.isFreed_of_dict (Obj.data_mapDictKeys hd _)),hc.mapDictKeys _,Obj.data_mapDictKeys hd _,by simp,λ_ z=>(by cases z),List.nodup_nil⟩
  split
  ·exact vJ (wpAny_letGo (DS ⟨.none,rfl,h _ nw (Heap.SameBut.update ..)⟩))
  ·exact vJ (DS (DS ⟨.none,rfl,h _ nw (Heap.SameBut.update ..)⟩))
end
section
variable {X:Cx}
theorem lJ:TyD X "dict" (tyB .cleard):=kG
theorem jz:VM X "dict.clear" (rBm .cleard):=by
 intro pins s σ H x xs v vs v2 us M Q Q2 I rv rs dx dl rm q back;simp only[rBm]at q;split at q
 ·rename_i a;split at q
  ·rename_i ks ds e;cases (show vs=[] from dl);cases rs;cases (show v=.ref a from dx);cases rv;obtain⟨vs,xs,e0,z,dl0⟩:=rm a _ e;have dd:=bg I (.inl e0) z;have hsz:xs.length<=sizeLine:=by
    have:=congrArg List.length z.kx;rw[D5]at this;rw[this];exact z.sz
   refine call_meetsIn PySem.F.slot_dict_clear dd.typeIs PySem.F.entry_dict_clear (PySem.F.args_dict_clear_1 _) mO ⟨xs,dd,hsz,λh' dd' hs=>?_⟩
   obtain⟨ob,es,ep,hq,hx,hd,he,_,_⟩:=dd';have tw:TM X.K H (upd H a (.ext (ao a []))):=.put e0 (λ_ z=>by cases z) λ_ _ z=>by cases z
   have tb:ao a [] h':=⟨ob,es,ep,hq,hx,hd,he⟩;have I':Inv X pins σ (upd H a (.ext (ao a []))) {s with heap:=h'}:=
    fe I (by rw[e0];exact True.intro) hs ⟨ob,hq⟩ ⟨tb,⟨ob,hq⟩,λg1 g2 ⟨o1,es1,ep1,a1,a2,a3,a4⟩ kk=>⟨o1,es1,ep1,kk _ a1,a2,a3,a4⟩⟩
   exact⟨.non,_,I',rfl,back _ _ .non _ rfl (rm.write (u:=.dt [] []) e0 (λ_ z=>by cases z) (λ_ _ z=>by cases z) ⟨[],[],ad,⟨rfl,List.nodup_nil,Nat.zero_le _,z.no,.nil,λx hx'=>by cases hx'⟩,rfl⟩) tw q⟩
  ·exact q.elim
 ·exact q.elim
end
end L2
namespace L2
open PySem PySem.Spec PyProof.Rows
section
variable {X:Cx}
theorem VM.of{id:String}{r3:D->List D->MH->VK3->Prop}{r:V->List V->Hp->VK->Prop}(h:MtM X id r)
  (hr:∀(H:Hp)(x:D)(xs:List D)(v:V)(vs:List V)(M:MH)(Q:VK3)(Q2:VK),Den X.K H x v->DenL X.K H xs vs->RelM X.K M H->r3 x xs M Q->Back X.K H Q Q2->r v vs H Q2):VM X id r3:=
 λpins s σ H x xs v vs v2 us M Q Q2 I rv rs dx dl rm q back=>h pins s σ H v vs v2 us Q2 I rv rs (hr H x xs v vs M Q Q2 dx dl rm q back)
theorem l5:TyD X "list" isLstM:=uj λx M h=>by
 unfold isLstM at h;split at h
 ·split at h
  ·rename_i e;simp[ah,e]
  ·cases h
 ·cases h
noncomputable def zQ(xs:List V)(i:Int)(y:V):List V:=xs.take (vk xs.length i)++y::xs.drop (vk xs.length i)
theorem ins_len{xs:List V}:(zQ xs i y).length=xs.length+1:=by
 unfold zQ;simp;omega
theorem t8{K:E7}{H:Hp}{M:MH}{a:Addr}{ds es:List D}{vs:List V}(rm:RelM K M H)(e:H a=some (.lst vs))(ws:List V)(h:DenL K H es ws):RelM K (put M a (.lst es)) (upd H a (.lst ws))/\TM K H (upd H a (.lst ws)):=by
 have tw:TM K H (upd H a (.lst ws)):=.put e (λ_ z=>by cases z) λ_ _ z=>by cases z
 exact⟨rm.write (u:=.lst es) e (λ_ z=>by cases z) (λ_ _ z=>by cases z) ⟨_,ad,h.mono tw⟩,tw⟩
def rf:V->List V->Hp->VK->Prop:=λx vs H Q=>∃l b xs zs,x=.ref l/\vs=[.ref b]/\H l=some (.lst xs)/\RdL X.K H b zs/\xs.length+zs.length<=sizeLine/\Q .non (upd H l (.lst (xs++zs)))
theorem nz:MtM X "list.extend" (rf (X:=X)):=by
 intro pins s σ H x vs v us Q I rx rv h;obtain⟨l,b,xs,zs,rfl,rfl,hH,hB,hz,q⟩:=h;cases rx;obtain⟨u,rfl,ru⟩:=rv.one;cases ru;obtain⟨z,its,n,r,hl,e⟩:=I.lstM hH;obtain⟨z2,its2,n2,r2,hl2,e2⟩:=I.rdL hB;have hsz:its.toArray.size+its2.toArray.size<=sizeLine:=by rw[Eb,Eb];omega
 have hlong:¬ (!its.toArray.isEmpty&&Builtin.List.listTooLong (its.toArray.size+its2.toArray.size))=true:=by
  rw[rN hsz,Bool.and_false];exact D8
 refine call_meets F.slot_list_extend ⟨_,e,rfl⟩ F.entry_list_extend (F.args_list_extend_2 _ _)
  (AutoSeq1.list_extend_list_list_0 l its.toArray n b its2.toArray n2 hlong (by rw[Eb];omega) (by omega)) ⟨e,e2,?_⟩
 refine⟨.non,_,I.lset (its':=its++its2) hH e (by simp) (r.append r2) ?_,rfl,q⟩
 rw[Ew];omega
theorem jZ:VM X "list.extend" (rBm .extend):=VM.of nz λH x xs v vs M Q Q2 dx dl rm q back=>by
 simp only[rBm]at q;split at q
 ·rename_i a y;split at q
  ·rename_i ds es e e';obtain⟨ws,e1,dw⟩:=rm a _ e;cases (show v=.ref a from dx);obtain⟨yv,rfl,dy⟩:=gG dl;obtain⟨p,us,rfl,hq,du⟩:=aJ rm e' dy;obtain⟨r1,t1⟩:=t8 (ds:=ds) rm e1 _ (dw.append du);exact⟨a,p,ws,us,rfl,rfl,e1,hq,by rw[<-dw.length,<-du.length];exact q.1,back _ _ .non _ rfl r1 t1 q.2⟩
  ·exact q.elim
 ·exact q.elim
end
end L2
namespace L2
open PySem PySem.Spec PyProof.Rows SeqAt PySem.MeetsSeq AutoSeq1
end L2
namespace L2
open PySem PySem.Spec PyProof.Rows PySem.W
section
variable {X:Cx}
end
end L2
namespace L2
open PySem PySem.Spec PyProof.Rows PySem.Calls PySem.NumText PySem.W.KIN
end L2
namespace L2
open PySem PySem.Spec PyProof.Rows
def yC(K:E7):Prop:=PySem.W.nsIn K cStatics "sys.int_max_str_digits"=some none
section
variable {X:Cx}
end
section
variable {X:Cx}{s:Shared}{h':Heap}
end
section
variable {X:Cx}{s:Shared}{h':Heap}
end
section
variable {prog:Program}{w:World}{A:Around}{E:Value->Shared->Prop}{s:Shared}{n l1 l2 l3:Nat}
theorem neA{a b:Nat}(h:a≠b):@Ne Addr a b:=h
end
section
variable {X:Cx}{s:Shared}{h':Heap}
end
section
variable {A:Around}{s:Shared}
end
section
variable {prog:Program}{w:World}{A:Around}{E:Value->Shared->Prop}{s:Shared}{z TI TO i1 i2 l1 l2 S:Addr}{xs ys:Array Value}{i:Nat}
end
section
variable {prog:Program}{w:World}{A:Around}{s:Shared}{R:Result->Shared->Prop}{z TI TO i1 i2 l1 l2 S lo:Addr}{xs ys:Array Value}
end
section
variable {prog:Program}{w:World}{A:Around}{E:Value->Shared->Prop}{s:Shared}{R:Result->Shared->Prop}{z TI TO i1 i2 l1 l2 S lo:Addr}{xs ys:Array Value}
end
section
variable {X:Cx}{s:Shared}{h':Heap}
end
section
variable {X:Cx}
end
theorem qc:typeLookup (.type "list_reverseiterator") "__len__"=pure none:=by rw[typeLookup_type,builtinLookup_eq_fast];kernel_rfl
theorem sX:typeLookup (.type "list_reverseiterator") "__length_hint__"=pure (some (.builtin "list_reverseiterator.__length_hint__")):=by rw[typeLookup_type,builtinLookup_eq_fast];kernel_rfl
section
variable {A:Around}{s:Shared}{items:Array Value}
theorem rD(hT:s.TypeIs (.ref it) "list_reverseiterator")(h:Q false s):wpAny (model prog w) A (Builtin.List.listLengthHint (.ref it)) Q E s:=by
 unfold Builtin.List.listLengthHint;refine vJ (wpAny_specialOf hT qc ?_);show wpAny _ A (specialOf (Value.ref it) (Str.ofString "__length_hint__") >>=_) _ _ _;refine vJ (wpAny_specialOf hT sX ?_);generalize hid:("list_reverseiterator.__length_hint__" : String)=id0
 wp_delta
 rw[show splitId id0=some ("list_reverseiterator","__length_hint__") from by subst hid;decide +kernel]
 subst hid;refine vJ (wpAny_isInstance (b:=true) hT (by rw[isSubtype_type];kernel_rfl) ?_)
 exact DS h
theorem tX(hh:A.handled=none)(hit:s.heap.IsRevIter it l ((items.size:Int)-1))(hl:s.heap.IsList l items)(hne:l≠it)(hn:items.size<=sizeLine)
  (hQ:∀h' tk acc c,(∀b o,b≠it->s.heap.get? b=some o->h'.get? b=some o)->h'.get? s.heap.objs.size=some {cls:=.type "list",dict:=none,data:=.seq acc c,slots:=#[]}->ItemsOf (λi v=>items[items.size-1-i]?=some v) acc items.size->Q (.ref s.heap.objs.size) {s with heap:=h',toks:=tk}) :
  wpAny (model prog w) A (call (.type "list") [.ref it]) Q E s:=by
 have l1:it<s.heap.objs.size:=by obtain⟨_,e,_⟩:=hit;exact D1 e
 have l2:l<s.heap.objs.size:=by obtain⟨_,e,_⟩:=hl;exact D1 e
 refine callType_codes (Q₁:=λobj s₁=>obj=.ref s.heap.objs.size/\s₁={s with heap:=s.heap.push {cls:=.type "list",data:=.seq #[]}}) PySem.F.called_list (PySem.F.typeCall_list_1 _) PySem.F.entry_list_init
  (code_list_new _ ⟨rfl,rfl⟩) λobj s₁ h₁=>?_
 obtain⟨rfl,rfl⟩:=h₁;have hS:(s.heap.push {cls:=.type "list",data:=.seq #[]}).get? s.heap.objs.size=some {cls:=.type "list",data:=.seq #[]}:=D7 _ rfl;refine⟨⟨_,hS,rfl⟩,PySem.F.args_list_init_2 _ _,?_⟩;show wpAny _ _ (do let old<-Builtin.List.listItems (.ref s.heap.objs.size);Builtin.List.listUpdate (.ref s.heap.objs.size) (λ_=>#[]);letGo old.toList.reverse;Builtin.List.listExtendWith (.ref s.heap.objs.size) (.ref it) .none) _ _ _
 refine vJ ?_;unfold Builtin.List.listItems;refine vJ (wpAny_seqItems hS rfl (DS ?_));show wpAny _ _ (updateSeq s.heap.objs.size (λ_=>#[]) >>=λ_=>letGo (#[]:Array Value).toList.reverse >>=λ_=>Builtin.List.listExtendWith (.ref s.heap.objs.size) (.ref it) .none) _ _ _
 refine vJ (wpAny_updateSeq hS rfl ?_);have hS₂:=Ep (Obj.mapSeq (λ_=>(#[]:Array Value))) hS rfl
 have oth:∀b o,s.heap.get? b=some o->((s.heap.push {cls:=.type "list",data:=.seq #[]}).update s.heap.objs.size (Obj.mapSeq (λ_=>(#[]:Array Value)))).get? b=some o:=
  λb o e=>(Ei _ _ (Nat.ne_of_gt (D1 e))).trans (DU _ e)
 refine vJ (wpAny_letGo ?_);have it2:=hit.at λo e=>oth _ o e
 have hl2:=hl.at λo e=>oth _ o e
 have hT:Shared.TypeIs {s with heap:=(s.heap.push {cls:=.type "list",data:=.seq #[]}).update s.heap.objs.size (Obj.mapSeq (λ_=>(#[]:Array Value)))} (.ref it) "list_reverseiterator":=by
  obtain⟨o,e,c,_⟩:=it2;exact⟨o,e,c⟩
 unfold Builtin.List.listExtendWith;refine vJ (wpAny_typeOf hT ?_);have h1:Builtin.List.listSameRef (.ref s.heap.objs.size) (.ref it)=false:=by simp[Builtin.List.listSameRef,Nat.ne_of_gt l1]
 have h2:(Value.type "list_reverseiterator" == Value.type "list")=false:=by decide
 have h3:(Value.type "list_reverseiterator" == Value.type "tuple")=false:=by decide
 simp only[h1,h2,h3,Bool.or_false,EA,if_false];refine vJ (wpAny_pyIter_revIter it2 ?_);refine vJ (Ez (rD hT ?_));refine wpAny_ite_split (λhab=>absurd hab (by decide)) (λ_=>DS ⟨plainId_quiet PySem.F.plain_extend_loop _,?_⟩)
 have W:=Walks.listRev (prog:=prog) (w:=w) (A:=A.in1.in1) hh it l hne items;have hSf:s.heap.objs.size∉[it,l]:=by simp only[DX,E4,or_false,not_or];exact⟨Nat.ne_of_gt l1,Nat.ne_of_gt l2⟩
 refine codeAny_extend_loopS W.toS hn _ hSf _ items.size 0 _ #[] _ rfl (Nat.zero_le _) ⟨Nat.zero_le _,by simpa using it2,hl2⟩ hS₂ (ItemsOf.nil _) λs' acc' c' hm hS' hacc=>?_
 rw[Moved.eq_with hm];refine⟨rfl,hQ s'.heap s'.toks acc' c' (λb o hb e=>hm.heap b o (λhmem=>?_) (oth b o e)) hS' hacc⟩
 rcases DX.mp hmem with e'|hmem
 ·exact absurd (D1 e) (by rw[e'];exact EF _)
 ·exact hb (Eh.mp hmem)
end
theorem yA{X:Cx}(hc:X.calm=true)(hgl:Gl X "list")(hml:X.mg "list"=none)(hg:Gl X "reversed")(hm:X.mg "reversed"=none)(ha:PE X a (low X.K cls E2 ta))(hs:starEach [a] X.env=[(false,eval a X.env)]) :
  PE X (.Call (.Name "list" p') [.Call (.Name "reversed" p) [a] [] pos] [] pos') (low X.K cls E2 λσ M Q E=>ta σ M (λx M1=>rLr fz x M1 Q) E):=by
 intro pins s σ H Q2 I hl_;refine ex9 hl_ λσ3 M Q E3 rm ds lk h back=>?_
 refine wpAny_Call_Name_kw (cL I hgl hml (u:=.type "list") (by decide +kernel) ?_)
 refine PyProof.Rows.callWith_type1 ?_;refine Calls.spliced_cons ?_;refine Call_ (cL I hg hm (u:=.type "reversed") (by decide +kernel) (PyProof.Rows.callWith_type1 (thn ((aL ha pa_nil hs) pos pins s σ H (λvs H1=>∃v x M1,vs=[v]/\Den X.K H1 x v/\RelM X.K M1 H1/\TM X.K H H1/\rLr fz x M1 Q) I ?_) λus s1 ⟨vs,H1,I1,r1,q1⟩=>?_) hs rfl))
 ·exact aO rm ds lk h λv H2 x M2 dx rm2 t2 q2=>⟨v,x,M2,rfl,dx,rm2,t2,q2⟩
 ·obtain⟨v,x,M1,rfl,dx,rm1,t1,q⟩:=q1;unfold rLr at q;split at q
  ·rename_i es ee;obtain⟨c,ws,rfl,hq,dl⟩:=aJ rm1 ee dx;obtain⟨u1,rfl,ru⟩:=eh r1;cases ru;obtain⟨hz,its,n,rv,hlen,ho⟩:=I1.rdL hq;have hil:s1.heap.IsList c its.toArray:=⟨_,ho,rfl,n,rfl⟩;refine call_reversed_list hil ?_;refine Calls.spliced_nil ?_;have hlt:c<s1.heap.objs.size:=D1 ho;have e1:=rv.length;refine bF (s:={s1 with heap:=s1.heap.push (revObj c ((its.toArray.size:Int)-1))}) I1.tk <| tX (s:={s1 with heap:=s1.heap.push (revObj c ((its.toArray.size:Int)-1))}) (items:=its.toArray) (I.ok.hd hc) ⟨_,D7 _ rfl,rfl,rfl⟩ (hil.at λo e=>DU _ e) (Ek hlt) (by simp;omega) λh2' tk acc cc hk hS hacc _=>?_
   have sz:(s1.heap.push (revObj c ((its.toArray.size:Int)-1))).objs.size=s1.heap.objs.size+1:=Heap.size_push ..;have hk':∀b o,s1.heap.get? b=some o->h2'.get? b=some o:=λb o e=>hk b o (Ek (D1 e)) (DU _ e)
   have hHS:H1 (s1.heap.push (revObj c ((its.toArray.size:Int)-1))).objs.size=none:=I1.hok.fresh (by rw[sz];exact ET _)
   have ea:acc.toList=its.reverse:=by
    refine List.ext_getElem? λj=>?_
    by_cases hj:j<acc.size
    ·have e2:acc[j]?=some acc[j]:=by simp[hj]
     have e3:=hacc.2 j _ e2;have e4:=hacc.1;simp at e3 e4;rw[Array.getElem?_toList,e2,List.getElem?_reverse (by omega)]
     exact e3.symm
    ·have e4:=hacc.1;simp at e4;rw[List.getElem?_eq_none (by simp;omega),List.getElem?_eq_none (by simp;omega)]
   have I2:Inv X pins σ (upd H1 (s1.heap.push (revObj c ((its.toArray.size:Int)-1))).objs.size (.lst ws.reverse)) {s1 with heap:=h2',toks:=tk}:=I1.laid hk' (by rw[sz];exact ET _) ⟨by rw[List.length_reverse];omega,its.reverse,cc,rv.reverse,by rw[<-ea];simpa using hS⟩
   exact bR I2 hHS dl.reverse rm1 t1 q back
  ·exact q.elim
theorem dP:∀{ds:List D}{ns:List Int},gD ds=some ns->ds=ns.map D.int
 |[],ns,h=>by cases h;rfl
 |d::r,ns,h=>by
  cases d<;>simp only[gD]at h<;>try cases h
  split at h
  ·rename_i ms e;cases h;rw[dP e];rfl
  ·cases h
theorem jb:∀(ns:List Int)(n m:Int),m∈n::ns->(∀a,a∈n::ns->a<=m)->ns.foldl (mmI true) n=m
 |[],n,m,h,_=>by simp at h;simp[h]
 |a::ns,n,m,h,hb=>by
  rw[List.foldl_cons];refine jb ns _ m ?_ λb hb'=>?_
  ·have h1:=hb n (by simp)
   have h2:=hb a (by simp)
   unfold mmI;simp only[if_true];rcases DX.mp h with rfl|h
   ·rw[DV (by omega)];simp
   ·rcases DX.mp h with rfl|h
    ·by_cases z:m > n
     ·rw[DY z];simp
     ·rw[DV z];have:n=m:=by omega
      simp[this]
    ·exact DT _ h
  ·rcases DX.mp hb' with rfl|hb'
   ·have h1:=hb n (by simp)
    have h2:=hb a (by simp)
    unfold mmI;simp only[if_true];split<;>assumption
   ·exact hb b (by simp[hb'])
theorem iG:∀(ns:List Int)(n m:Int),m∈n::ns->(∀a,a∈n::ns->m<=a)->ns.foldl (mmI false) n=m
 |[],n,m,h,_=>by simp at h;simp[h]
 |a::ns,n,m,h,hb=>by
  rw[List.foldl_cons];refine iG ns _ m ?_ λb hb'=>?_
  ·have h1:=hb n (by simp)
   have h2:=hb a (by simp)
   unfold mmI;simp only[EA,if_false];rcases DX.mp h with rfl|h
   ·rw[DV (by omega)];simp
   ·rcases DX.mp h with rfl|h
    ·by_cases z:m<n
     ·rw[DY z];simp
     ·rw[DV z];have:n=m:=by omega
      simp[this]
    ·exact DT _ h
  ·rcases DX.mp hb' with rfl|hb'
   ·have h1:=hb n (by simp)
    have h2:=hb a (by simp)
    unfold mmI;simp only[EA,if_false];split<;>assumption
   ·exact hb b (by simp[hb'])
noncomputable def nG(dflt:Bool):List (Str×Value):=if dflt=true then [("default",Value.none)] else []
noncomputable def aK(mx:Bool):String:=if mx=true then "max" else "min"
section
variable {X:Cx}
theorem qN(rm:RelM X.K M H)(dx:Den X.K H x v)(e:ah M x=some ds):∃a vs,v=.ref a/\RdL X.K H a vs/\DenL X.K H ds vs:=by
 cases x with
 |rol es=>
  cases e;obtain⟨a,vs,rfl,sq,dl⟩:=dx;exact⟨a,vs,rfl,sq.rd,dl⟩
 |ref a=>
  cases q:M a with
  |none=>simp[ah,q]at e
  |some o=>
   cases o with
   |lst es=>
    simp[ah,q]at e;subst e;cases (show v=.ref a from dx);obtain⟨vs,e1,dl⟩:=rm a _ q;exact⟨a,vs,rfl,.inl (.inl e1),dl⟩
   |_=>simp[ah,q]at e
 |_=>cases e
theorem vM(mx dflt:Bool)(hc:X.calm=true)
  (I:Inv X pins σ H s)(rv:RelV v v2)(dx:Den X.K H x v)(rm:RelM X.K M H)(q:rMM mx dflt x M Q)(back:Back X.K H Q Q2) :
  wpAny (model X.prog X.w) X.A (call (.builtin (aK mx)) [v2] (nG dflt)) (EP X pins σ Q2) Ex s:=by
 have hh:=I.ok.hd hc;unfold rMM at q;split at q
 ·rename_i ds e1;obtain⟨a,vs,rfl,rd,dl⟩:=qN rm dx e1;cases rv;obtain⟨_,its,n,r,_,hg⟩:=I.rdL rd;have hl:s.heap.IsList a its.toArray:=⟨_,hg,rfl,n,rfl⟩;split at q
  ·rename_i e2;obtain⟨rfl,q⟩:=q;have z:=dP e2;subst z;cases (show vs=[] from dl);cases r;have hl0:s.heap.IsList a (intItems #[]):=by simpa [intItems] using hl
   cases mx with
   |true=>exact bF I.tk <| iO (kw:=nG true) (dv:=some .none) hh hl0 (by unfold argsOk;kernel_rfl) rfl (λz=>nomatch z) (λ_ d h' tk ed k _=>by cases ed;exact⟨.non,H,I.kept k,rfl,back _ _ _ _ ip rm (.refl _) q⟩) (λz=>absurd z (by decide))
   |false=>exact bF I.tk <| iX (kw:=nG true) (dv:=some .none) hh hl0 (by unfold argsOk;kernel_rfl) rfl (λz=>nomatch z) (λ_ d h' tk ed k _=>by cases ed;exact⟨.non,H,I.kept k,rfl,back _ _ _ _ ip rm (.refl _) q⟩) (λz=>absurd z (by decide))
  ·rename_i m ns e2;have z:=dP e2;subst z;have zv:=dl.int_of;subst zv;have hi:=jc r;obtain⟨xs,e⟩:=hi.allInts.items;have hns:m::ns=xs.toList.map (·.1):=by rw[<-hi.numsOf,<-nums_intItems,<-e]
   have hsz:0<xs.size:=by
    have h3:0<(m::ns).length:=by simp
    rw[hns,D5,Array.length_toList]at h3;exact h3
   rw[e]at hl;cases mx with
   |true=>
    have fin:0<xs.size->∀v h' tk,(intItems xs)[argBest (λi j=>decide (numAt xs i > numAt xs j)) (xs.size-1)]?=some v->(∀b o,s.heap.get? b=some o->h'.get? b=some o)->0<tk->EP X pins σ Q2 v {s with heap:=h',toks:=tk}:=by
     intro _ v h' tk hv k _;obtain⟨t,rfl⟩:=intItems_at hv;obtain⟨h1,h2⟩:=argBest_gt (numAt xs) (xs.size-1);refine⟨.int _,H,I.kept k,⟨_,rfl⟩,back _ _ _ _ aX rm (.refl _) ?_⟩;rw[<-jb ns m (numAt xs (argBest (λi j=>decide (numAt xs i > numAt xs j)) (xs.size-1))) ?_ ?_]
     ·exact q
     ·rw[hns,numAt_eq];exact getD_mem (by rw[D5,Array.length_toList];omega)
     ·intro b hb;rw[hns]at hb;obtain⟨j,hj,rfl⟩:=mem_getD hb;rw[D5,Array.length_toList]at hj;rw[<-numAt_eq];exact h2 j (by omega)
    cases dflt with
    |true=>exact bF I.tk <| iO (kw:=nG true) (dv:=some .none) hh hl (by unfold argsOk;kernel_rfl) rfl (λz=>nomatch z) (λz=>by omega) fin
    |false=>exact bF I.tk <| iO (kw:=nG false) (dv:=none) hh hl (by unfold argsOk;kernel_rfl) rfl (λ_=>hsz) (λz=>by omega) fin
   |false=>
    have fin:0<xs.size->∀v h' tk,(intItems xs)[argBest (λi j=>decide (numAt xs i<numAt xs j)) (xs.size-1)]?=some v->(∀b o,s.heap.get? b=some o->h'.get? b=some o)->0<tk->EP X pins σ Q2 v {s with heap:=h',toks:=tk}:=by
     intro _ v h' tk hv k _;obtain⟨t,rfl⟩:=intItems_at hv;obtain⟨h1,h2⟩:=argBest_lt (numAt xs) (xs.size-1);refine⟨.int _,H,I.kept k,⟨_,rfl⟩,back _ _ _ _ aX rm (.refl _) ?_⟩;rw[<-iG ns m (numAt xs (argBest (λi j=>decide (numAt xs i<numAt xs j)) (xs.size-1))) ?_ ?_]
     ·exact q
     ·rw[hns,numAt_eq];exact getD_mem (by rw[D5,Array.length_toList];omega)
     ·intro b hb;rw[hns]at hb;obtain⟨j,hj,rfl⟩:=mem_getD hb;rw[D5,Array.length_toList]at hj;rw[<-numAt_eq];exact h2 j (by omega)
    cases dflt with
    |true=>exact bF I.tk <| iX (kw:=nG true) (dv:=some .none) hh hl (by unfold argsOk;kernel_rfl) rfl (λz=>nomatch z) (λz=>by omega) fin
    |false=>exact bF I.tk <| iX (kw:=nG false) (dv:=none) hh hl (by unfold argsOk;kernel_rfl) rfl (λ_=>hsz) (λz=>by omega) fin
  ·exact q.elim
 ·exact q.elim
theorem Ce(mx:Bool)(hc:X.calm=true)(ha:PE X e (low X.K cls E2 te))(hg:Gl X (aK mx))(hm:X.mg (aK mx)=none)(hs:starEach (e::[]) X.env=(false,eval e X.env)::starEach [] X.env) :
  PE X (.Call (.Name (aK mx) p) [e] [] pos) (low X.K cls E2 λσ M Q E=>te σ M (λx M1=>rMM mx false x M1 Q) E):=by
 have hcl:CallR X (.builtin (aK mx)) (λvs H Q2=>∃x v M Q,vs=[v]/\Den X.K H x v/\RelM X.K M H/\rMM mx false x M Q/\Back X.K H Q Q2):=by
  refine λpins s σ H vs us Q2 I r hl_=>ex9 hl_ λx v M Q e dx rm q back=>?_
  subst e;obtain⟨u,rfl,ru⟩:=eh r;exact vM mx false hc I ru dx rm q back
 refine (ig hcl hg hm (by cases mx<;>decide +kernel) (aL ha pa_nil hs) (by cases mx<;>decide +kernel) (by cases mx<;>decide +kernel) hs (by rfl)).imp λσ H Q2 hl_=>ex9 hl_ λσ3 M Q E3 rm ds lk h back=>?_
 exact aO rm ds lk h λv H1 x M1 dx rm1 t1 q1=>⟨x,v,M1,Q,rfl,dx,rm1,q1,back.mono t1⟩
theorem Au{te:St3->MH->VK3->XN->Prop}{k1:Nat}{k2 kp:Pos}(mx:Bool)(hc:X.calm=true)(ha:PE X e (low X.K cls E2 te))(hg:Gl X (aK mx))(hm:X.mg (aK mx)=none)(hs:starEach (e::[]) X.env=(false,eval e X.env)::starEach [] X.env) :
  PE X (.Call (.Name (aK mx) p) [e] [⟨some "default",.Constant .none k1 k2,kp⟩] pos) (low X.K cls E2 λσ M Q E=>te σ M (λx M1=>rMM mx true x M1 Q) E):=by
 intro pins s σ H Q2 I h;refine wpAny_Call_Name_kw (cL I hg hm (u:=.builtin (aK mx)) (by cases mx<;>decide +kernel) ?_ (by cases mx<;>decide +kernel) (by cases mx<;>decide +kernel))
 obtain⟨σ3,M,Q,E3,rm,ds,lk,h,back⟩:=h;have hA:qL (low X.K cls E2 te) tNil σ H (λvs H1=>∃x v M1,vs=[v]/\Den X.K H1 x v/\RelM X.K M1 H1/\rMM mx true x M1 Q/\Back X.K H1 Q Q2):=aO rm ds lk h λv H1 x M1 dx rm1 t1 q1=>⟨x,v,M1,rfl,dx,rm1,q1,back.mono t1⟩
 refine callWith_kw (thn ((aL ha pa_nil hs) pos pins s σ H _ I hA) λus s1 ⟨vs,H1,I1,r1,x,v,M1,ev,dx,rm1,q1,back1⟩=>kws_cons ?_) (by rw[hs];rfl) (by rw[hs];rfl)
 subst ev;obtain⟨u,rfl,ru⟩:=eh r1;refine thn (sx pins s1 σ H1 (λv H'=>v=.non/\H'=H1) I1 ⟨rfl,rfl⟩) λw s2 ⟨wv,H2,I2,rw,e1,e2⟩=>kws_nil ?_
 subst e1;subst e2;cases (show w=Value.none from rw);exact vM mx true hc I2 ru dx rm1 q1 back1
theorem wz(mx:Bool)(hc:X.calm=true)
  (I:Inv X pins σ H s)(rv:RelV v v2)(dx:Den X.K H x v)(rm:RelM X.K M H)(q:lz mx x M Q)(back:Back X.K H Q Q2) :
  wpAny (model X.prog X.w) X.A (call (.builtin (aK mx)) [v2] [("default",Value.int 0 t0)]) (EP X pins σ Q2) Ex s:=by
 have hh:=I.ok.hd hc;unfold lz at q;split at q
 ·rename_i ds e1;obtain⟨a,vs,rfl,rd,dl⟩:=qN rm dx e1;cases rv;obtain⟨_,its,n,r,_,hg⟩:=I.rdL rd;have hl:s.heap.IsList a its.toArray:=⟨_,hg,rfl,n,rfl⟩;split at q
  ·rename_i e2;have z:=dP e2;subst z;cases (show vs=[] from dl);cases r;have hl0:s.heap.IsList a (intItems #[]):=by simpa [intItems] using hl
   cases mx with
   |true=>exact bF I.tk <| iO (kw:=[("default",Value.int 0 t0)]) (dv:=some (.int 0 t0)) hh hl0 (by unfold argsOk;kernel_rfl) rfl (λz=>nomatch z) (λ_ d h' tk ed k _=>by cases ed;exact⟨.int 0,H,I.kept k,⟨_,rfl⟩,back _ _ _ _ aX rm (.refl _) q⟩) (λz=>absurd z (by decide))
   |false=>exact bF I.tk <| iX (kw:=[("default",Value.int 0 t0)]) (dv:=some (.int 0 t0)) hh hl0 (by unfold argsOk;kernel_rfl) rfl (λz=>nomatch z) (λ_ d h' tk ed k _=>by cases ed;exact⟨.int 0,H,I.kept k,⟨_,rfl⟩,back _ _ _ _ aX rm (.refl _) q⟩) (λz=>absurd z (by decide))
  ·rename_i m ns e2;have z:=dP e2;subst z;have zv:=dl.int_of;subst zv;have hi:=jc r;obtain⟨xs,e⟩:=hi.allInts.items;have hns:m::ns=xs.toList.map (·.1):=by rw[<-hi.numsOf,<-nums_intItems,<-e]
   have hsz:0<xs.size:=by
    have h3:0<(m::ns).length:=by simp
    rw[hns,D5,Array.length_toList]at h3;exact h3
   rw[e]at hl;cases mx with
   |true=>
    have fin:0<xs.size->∀v h' tk,(intItems xs)[argBest (λi j=>decide (numAt xs i > numAt xs j)) (xs.size-1)]?=some v->(∀b o,s.heap.get? b=some o->h'.get? b=some o)->0<tk->EP X pins σ Q2 v {s with heap:=h',toks:=tk}:=by
     intro _ v h' tk hv k _;obtain⟨t,rfl⟩:=intItems_at hv;obtain⟨h1,h2⟩:=argBest_gt (numAt xs) (xs.size-1);refine⟨.int _,H,I.kept k,⟨_,rfl⟩,back _ _ _ _ aX rm (.refl _) ?_⟩;rw[<-jb ns m (numAt xs (argBest (λi j=>decide (numAt xs i > numAt xs j)) (xs.size-1))) ?_ ?_]
     ·exact q
     ·rw[hns,numAt_eq];exact getD_mem (by rw[D5,Array.length_toList];omega)
     ·intro b hb;rw[hns]at hb;obtain⟨j,hj,rfl⟩:=mem_getD hb;rw[D5,Array.length_toList]at hj;rw[<-numAt_eq];exact h2 j (by omega)
    exact bF I.tk <| iO (kw:=[("default",Value.int 0 t0)]) (dv:=some (.int 0 t0)) hh hl (by unfold argsOk;kernel_rfl) rfl (λz=>nomatch z) (λz=>by omega) fin
   |false=>
    have fin:0<xs.size->∀v h' tk,(intItems xs)[argBest (λi j=>decide (numAt xs i<numAt xs j)) (xs.size-1)]?=some v->(∀b o,s.heap.get? b=some o->h'.get? b=some o)->0<tk->EP X pins σ Q2 v {s with heap:=h',toks:=tk}:=by
     intro _ v h' tk hv k _;obtain⟨t,rfl⟩:=intItems_at hv;obtain⟨h1,h2⟩:=argBest_lt (numAt xs) (xs.size-1);refine⟨.int _,H,I.kept k,⟨_,rfl⟩,back _ _ _ _ aX rm (.refl _) ?_⟩;rw[<-iG ns m (numAt xs (argBest (λi j=>decide (numAt xs i<numAt xs j)) (xs.size-1))) ?_ ?_]
     ·exact q
     ·rw[hns,numAt_eq];exact getD_mem (by rw[D5,Array.length_toList];omega)
     ·intro b hb;rw[hns]at hb;obtain⟨j,hj,rfl⟩:=mem_getD hb;rw[D5,Array.length_toList]at hj;rw[<-numAt_eq];exact h2 j (by omega)
    exact bF I.tk <| iX (kw:=[("default",Value.int 0 t0)]) (dv:=some (.int 0 t0)) hh hl (by unfold argsOk;kernel_rfl) rfl (λz=>nomatch z) (λz=>by omega) fin
  ·exact q.elim
 ·exact q.elim
theorem AQ{te:St3->MH->VK3->XN->Prop}{k1:Nat}{k2 kp:Pos}(mx:Bool)(hc:X.calm=true)(ha:PE X e (low X.K cls E2 te))(hg:Gl X (aK mx))(hm:X.mg (aK mx)=none)(hs:starEach (e::[]) X.env=(false,eval e X.env)::starEach [] X.env) :
  PE X (.Call (.Name (aK mx) p) [e] [⟨some "default",.Constant (.int 0) k1 k2,kp⟩] pos) (low X.K cls E2 λσ M Q E=>te σ M (λx M1=>lz mx x M1 Q) E):=by
 intro pins s σ H Q2 I h;refine wpAny_Call_Name_kw (cL I hg hm (u:=.builtin (aK mx)) (by cases mx<;>decide +kernel) ?_ (by cases mx<;>decide +kernel) (by cases mx<;>decide +kernel))
 obtain⟨σ3,M,Q,E3,rm,ds,lk,h,back⟩:=h;have hA:qL (low X.K cls E2 te) tNil σ H (λvs H1=>∃x v M1,vs=[v]/\Den X.K H1 x v/\RelM X.K M1 H1/\lz mx x M1 Q/\Back X.K H1 Q Q2):=aO rm ds lk h λv H1 x M1 dx rm1 t1 q1=>⟨x,v,M1,rfl,dx,rm1,q1,back.mono t1⟩
 refine callWith_kw (thn ((aL ha pa_nil hs) pos pins s σ H _ I hA) λus s1 ⟨vs,H1,I1,r1,x,v,M1,ev,dx,rm1,q1,back1⟩=>kws_cons ?_) (by rw[hs];rfl) (by rw[hs];rfl)
 subst ev;obtain⟨u,rfl,ru⟩:=eh r1;refine thn (qi pins s1 σ H1 (λv H'=>v=.int 0/\H'=H1) I1 ⟨rfl,rfl⟩) λw s2 ⟨wv,H2,I2,rw,e1,e2⟩=>kws_nil ?_
 subst e1;subst e2;obtain⟨t0,rfl⟩:=rw;exact wz mx hc I2 ru dx rm1 q1 back1
theorem rA{s:Shared}(I:Inv X pins σ H s):(s.heap.objs.size == sysModules)=false:=by
 have h:mainGlobals<s.heap.objs.size:=(I.mod.glob.keeps I.bk).lt;have h2:sysModules<mainGlobals:=by decide
 exact Ey.mpr (Nat.ne_of_gt (Nat.lt_trans h2 h))
theorem ym(tk:Bool):PE X (.Dict [] [] pos) (low X.K cls E2 λσ M Q E=>∀p,M p=none->Q (.ref p) (put M p (if tk=true then .dt [] [] else .dk [] []))):=by
 refine λpins s σ H Q2 I hl_=>ex9 hl_ λσ3 M Q E3 rm ds lk q back=>?_
 have hp:H s.heap.objs.size=none:=I.hok.fresh (DZ _);have hb:=rA I;have q0:=q s.heap.objs.size (rm.fresh hp);cases tk with
 |false=>
  have ok0:ObjOk X.prog X.w (upd H s.heap.objs.size (.dK [])) (s.heap.push {cls:=.type "dict",data:=.dict #[]}) s.heap.objs.size (.dK []):=⟨Nat.zero_le _,hb,[],.nil,Heap.DictOf.new s.heap⟩;have I1:=I.laid (a:=s.heap.objs.size) (o:=.dK []) (h':=s.heap.push {cls:=.type "dict",data:=.dict #[]}) (t':=s.toks) (λ_ _ q=>DU _ q) (DZ _) ok0
  have rm1:RelM X.K (put M s.heap.objs.size (.dk [] [])) (upd H s.heap.objs.size (.dK [])):=rm.lay hp ⟨[],ad,rfl,rfl⟩;exact wpAny_Dict_empty ⟨.ref s.heap.objs.size,_,I1,rfl,back _ _ (.ref s.heap.objs.size) _ rfl rm1 (.new hp) q0⟩
 |true=>
  obtain⟨ob,es,ep,hq,hx,hd,he,_,_⟩:=(Heap.DictOfH.new (knd:=tupleKind (intKind X.prog X.w)) s.heap);have tb:ao s.heap.objs.size [] (s.heap.push {cls:=.type "dict",data:=.dict #[]}):=⟨ob,es,ep,hq,hx,hd,he⟩;have ok0:ObjOk X.prog X.w (upd H s.heap.objs.size (.ext (ao s.heap.objs.size []))) (s.heap.push {cls:=.type "dict",data:=.dict #[]}) s.heap.objs.size (.ext (ao s.heap.objs.size [])):=
   ⟨tb,⟨ob,hq⟩,λg1 g2 ⟨o1,es1,ep1,a1,a2,a3,a4⟩ kk=>⟨o1,es1,ep1,kk _ a1,a2,a3,a4⟩⟩
  have I1:=I.laid (a:=s.heap.objs.size) (o:=.ext (ao s.heap.objs.size [])) (h':=s.heap.push {cls:=.type "dict",data:=.dict #[]}) (t':=s.toks) (λ_ _ q=>DU _ q) (DZ _) ok0
  have rm1:RelM X.K (put M s.heap.objs.size (.dt [] [])) (upd H s.heap.objs.size (.ext (ao s.heap.objs.size []))):=rm.lay hp ⟨[],[],ad,⟨rfl,.nil,Nat.zero_le _,hb,.nil,λx hx=>nomatch hx⟩,rfl⟩
  exact wpAny_Dict_empty ⟨.ref s.heap.objs.size,_,I1,rfl,back _ _ (.ref s.heap.objs.size) _ rfl rm1 (.new hp) q0⟩
end
section
variable {X:Cx}
end
section
variable {X:Cx}{cls:Nat->Addr}{E2:St->XK}{e:Expr}{pos p:Pos}
end
noncomputable def isN(i:Int):Expr->Bool
 |.Constant k _ _=>match k with
  |.int j=>decide (j=i)
  |_=>false
 |_=>false
section
variable {X:Cx}
noncomputable def Ci(ps:List (Str×Int)):List Key:=ps.map λp=>.inr p.1
noncomputable def Cn(ps:List (Str×Int)):List D:=ps.map λp=>.int p.2
end
def As(Pm:Params)(p:Str×Int)(e:DictEntry):Prop:=(∀w:World,w.params=Pm->e.hash=hashStr w p.1)/\(∃t,e.key=.str p.1 t)/\∃t,e.val=.int p.2 t
def GDk(K:E7)(Pm:Params)(a:Addr)(ps:List (Str×Int)):Prop:=∃(es:List DictEntry) (n:Nat),K.lookup a=some {cls:=.type "dict",data:=.dict es.toArray n}/\(a == sysModules)=false/\Paired (As Pm) ps es/\(ps.map (·.1)).Nodup
def vZ(K:E7)(Pm:Params):D->V->Prop
 |.dik ks ds,v=>∃a ps,v=.ref a/\ks=Ci ps/\ds=Cn ps/\GDk K Pm a ps
 |d,v=>∀H,Den K H d v
section
variable {X:Cx}{A:Around}
theorem xI{kt:List (List Int)}{k:List Int}{y:D}{v:V}{b:Addr}{R:MH->Prop}{R2:Hp->Prop}(hu:A.units+1<cLine)(I:Inv X pins σ H s)(rm:RelM X.K M H)(q:M a=some (.dt kt ds))(sq:SqT X.K H b (k.map V.int))(dy:Den X.K H y v)(rv:RelV v r)(hz:kt.length<sizeLine)
  (h:R (put M a (.dt (ai kt k) (aR kt ds k y)))) (back:∀H' M',RelM X.K M' H'->TM X.K H H'->R M'->R2 H'):wpAny (model X.prog X.w) A (dictSet a (.ref b) r) (λ_ s'=>∃H',Inv X pins σ H' s'/\R2 H') E s:=by
 obtain⟨vs,xs,e,z,dl⟩:=rm a _ q;have dd:=bg I (.inl e) z;have nd:(xs.map (·.1)).Nodup:=by rw[z.kx];exact z.nd
 obtain⟨vs',h1,h2,h3,h4⟩:=eN (k:=k) (b:=b) nd z.vx rv dl dy;rw[z.kx]at h1 h3;have hsz:xs.length<=sizeLine:=by
  have:=congrArg List.length z.kx;rw[D5]at this;omega
 refine wpAny_dictSet_heap (hsz:=hsz) (show A.units<cLine by omega) (dH I sq) dd λh' dd' hs=>?_
 obtain⟨ob,es,ep,hq,hx,hd,he,_,_⟩:=dd';have tw:TM X.K H (upd H a (.ext (ao a (storedH xs k b r)))):=.put e (λ_ z=>by cases z) λ_ _ z=>by cases z
 have tb:ao a (storedH xs k b r) h':=⟨ob,es,ep,hq,hx,hd,he⟩;have I':Inv X pins σ (upd H a (.ext (ao a (storedH xs k b r)))) {s with heap:=h',toks:=s.toks+(tupleKind (intKind X.prog X.w)).draws k}:=
  fe I (by rw[e];exact True.intro) hs ⟨ob,hq⟩ ⟨tb,⟨ob,hq⟩,λg1 g2 ⟨o1,es1,ep1,a1,a2,a3,a4⟩ kk=>⟨o1,es1,ep1,kk _ a1,a2,a3,a4⟩⟩
 refine⟨_,I',back _ _ (rm.write (u:=.dt (ai kt k) (aR kt ds k y)) e (λ_ z=>by cases z) (λ_ _ z=>by cases z) ⟨vs',_,ad,⟨h1,dE z.nd,Ej fV hz,z.no,h2,λx hx'=>?_⟩,h3.mono tw⟩) tw h⟩
 rcases h4 x hx' with ⟨q1,q2⟩|⟨x',m,q1,q2⟩
 ·rw[q1,q2];exact tw.t _ _ sq
 ·rw[<-q1,<-q2];exact tw.t _ _ (z.at_ x' m)
theorem yq(hu:X.A.units+64<cLine)(hk:PE X k (low X.K cls E2 tk))(hv:PE X v (low X.K cls E2 tv)) :
  PE X (.Dict [some k] [v] pos) (low X.K cls E2 λσ M Q E=>∀p,M p=none->tk σ (put M p (.dt [] [])) (λx M1=>tv σ M1 (λy M2=>fg p x y M2 Q) E) E):=by
 refine λpins s σ H Q2 I hl_=>ex9 hl_ λσ3 M Q E3 rm ds lk q back=>?_
 have hp:H s.heap.objs.size=none:=I.hok.fresh (DZ _);have hb:=rA I;obtain⟨ob,es,ep,hq,hx,hd,he,_,_⟩:=(Heap.DictOfH.new (knd:=tupleKind (intKind X.prog X.w)) s.heap);have tb:ao s.heap.objs.size [] (s.heap.push {cls:=.type "dict",data:=.dict #[]}):=⟨ob,es,ep,hq,hx,hd,he⟩;have ok0:ObjOk X.prog X.w (upd H s.heap.objs.size (.ext (ao s.heap.objs.size []))) (s.heap.push {cls:=.type "dict",data:=.dict #[]}) s.heap.objs.size (.ext (ao s.heap.objs.size [])):=
  ⟨tb,⟨ob,hq⟩,λg1 g2 ⟨o1,es1,ep1,a1,a2,a3,a4⟩ kk=>⟨o1,es1,ep1,kk _ a1,a2,a3,a4⟩⟩
 have I1:=I.laid (a:=s.heap.objs.size) (o:=.ext (ao s.heap.objs.size [])) (h':=s.heap.push {cls:=.type "dict",data:=.dict #[]}) (t':=s.toks) (λ_ _ q=>DU _ q) (DZ _) ok0
 have rm1:RelM X.K (put M s.heap.objs.size (.dt [] [])) (upd H s.heap.objs.size (.ext (ao s.heap.objs.size []))):=rm.lay hp ⟨[],[],ad,⟨rfl,.nil,Nat.zero_le _,hb,.nil,λx hx=>nomatch hx⟩,rfl⟩
 have tm1:TM X.K H (upd H s.heap.objs.size (.ext (ao s.heap.objs.size []))):=.new hp;have q0:=q s.heap.objs.size (rm.fresh hp);have hn:=pairTrees_length [some k] [v] X.env pos rfl rfl;rw[arm_eval_Dict,zip_pairTrees [some k] [v] X.env pos rfl rfl,dictDisplay_pairs (pairTrees [some k] [v] X.env pos) (by intro z;rw[z]at hn;cases hn) (by rw[hn];show 1<17;decide)]
 refine vJ (wpAny_standAt (vJ ?_));unfold subDict;refine vJ (wpAny_alloc (vJ (Ez ?_)));rw[DY (by rw[hn];show 1<=15;decide)]
 refine vJ (pairTrees_cons_walk ?_);refine thn (hk pins _ σ _ (λu H2=>∃x M2,Den X.K H2 x u/\RelM X.K M2 H2/\TM X.K H H2/\tv σ3 M2 (λy M3=>fg s.heap.objs.size x y M3 Q) E3) I1
  ⟨σ3,_,_,E3,rm1,ds.mono tm1,lk.mono tm1,q0,λu H2 x M2 dx rm2 t2 q2=>⟨x,M2,dx,rm2,tm1.trans t2,q2⟩⟩) λkv s2 ⟨u,H2,I2,ru,x,M2,dx,rm2,t2,q2⟩=>?_
 refine thn (hv pins _ σ _ (λv H3=>∃y M3,Den X.K H3 x u/\Den X.K H3 y v/\RelM X.K M3 H3/\TM X.K H H3/\fg s.heap.objs.size x y M3 Q) I2
  ⟨σ3,_,_,E3,rm2,ds.mono t2,lk.mono t2,q2,λv H3 y M3 dy rm3 t3 q3=>⟨y,M3,dx.mono t3,dy,rm3,t2.trans t3,q3⟩⟩) λvv s3 ⟨v,H3,I3,rv,y,M3,dx3,dy,rm3,t3,q3⟩=>?_
 refine pairTrees_nil_walk ?_;refine Ez ?_;unfold fg at q3;split at q3
 ·rename_i kk ek;obtain⟨e,q4⟩:=q3;obtain⟨b,rfl,sq⟩:=jg ek dx3;cases ru;refine vJ ?_;rw[List.forIn_cons];refine vJ (vJ (EK (xI (R:=λM'=>Q (.ref s.heap.objs.size) M') (R2:=λH'=>Q2 (.ref s.heap.objs.size) H') (show X.A.units+1<cLine by omega) I3 rm3 e sq dy rv (by show 0<sizeLine;decide) q4
   (λH' M' rm' tm' qq=>back _ _ (.ref s.heap.objs.size) _ rfl rm' (t3.trans tm') qq)) (λ_ s4 ⟨H4,I4,q5⟩=>DS ?_) λ_ _ z=>z))
  dsimp only;rw[List.forIn_nil];exact DS (DS (DS (DS ⟨.ref s.heap.objs.size,H4,I4,rfl,q5⟩)))
 ·exact q3.elim
end
section
variable {A:Around}{s:Shared}{ob:Obj}{es:Array DictEntry}
theorem ny(hn:(d == sysModules)=false):MeetsIn prog w (Builtin.«dict.items» ⟨[.ref d],[]⟩) (λ_ R s=>s.TypeIs (.ref d) "dict"/\R (.ok (.ret (.ref s.heap.objs.size))) {s with heap:=s.heap.push {cls:=.type "dict_items",data:=.fields #[.ref d]}}):=
 .of_wp λA R s ⟨ty,q⟩=>by
  unfold Builtin.«dict.items»;refine vJ ?_;unfold Builtin.Dict.noArgs;refine vJ (wpAny_notOrdered_dict ty (show wpAny _ _ (pure d) _ _ s from DS (show wpAny _ _ (Builtin.Dict.showsAll d >>=_) _ _ s from ?_)));unfold Builtin.Dict.showsAll;rw[hn];exact vJ (DS (vJ (Er (DS ⟨_,rfl,q⟩))))
theorem nP(vw:s.heap.IsItemsView p d)(ho:s.heap.get? d=some ob)(hd:ob.data=.dict es ep)
  (q:Q (.ref s.heap.objs.size) {s with heap:=s.heap.push {cls:=.type "dict_itemiterator",data:=.fields #[.none,.bool false,.ref d,.int 0 0,.int es.size 0,.int ep 0,.none,.none]}}):wpAny (model prog w) A (pyIter (.ref p)) Q E s:=by
 obtain⟨ov,e1,e2,e3⟩:=id vw;refine wpAny_pyIter_slot vw.typeIs F.slot_dict_items_iter (EY F.slot_dict_items_iter vw.typeIs F.entry_dict_items_iter ?_ (F.args_dict_items_iter_1 _));unfold Builtin.«dict_items.__iter__» Builtin.Dict_items.dictOf Builtin.Dict_items.newIterator;refine vJ (DS (vJ (vJ (EG e1 e3 (x:=.ref d) rfl (DS (vJ (vJ (EX ho hd (vJ (wpAny_dictEpoch ho hd ?_))))))))));simp only[show Builtin.Dict_items.ownsTuple "dict_itemiterator"=true by decide,if_true]
 refine Er (DS ⟨_,rfl,"dict_itemiterator",_,⟨_,D7 _ rfl,rfl⟩,F.slot_dict_itemiterator_next.lookup,?_⟩) (by simp only[sizeOk,Builtin.Dict_items.ownedTupleFields,Eb,Ew,Em,List.length_nil,sizeLine_eq];omega)
 simpa [rawInt,Builtin.Dict_items.ownedTupleFields] using q
theorem nA{e:DictEntry}(hit:IsItemIter s.heap it d i es.size ep a1 a2)(ho:s.heap.get? d=some ob)(hd:ob.data=.dict es ep)(he:es[i]?=some e)
  (hQ:∀h',IsItemIterOut h' it d (i+1) es.size ep e.key e.val s.heap.objs.size->h'.get? s.heap.objs.size=some {cls:=.type "tuple",data:=.seq #[e.key,e.val]}->
   (∀b o,b≠it->s.heap.get? b=some o->h'.get? b=some o)->Q (some (.ref s.heap.objs.size)) {s with heap:=h'}):wpAny (model prog w) A (pyNext (.ref it)) Q E s:=by
 obtain⟨hp,g,dr,tk,os⟩:=s;have ty:Shared.TypeIs ⟨hp,g,dr,tk,os⟩ (.ref it) "dict_itemiterator":=⟨_,hit,rfl⟩;have hlt:i<es.size:=(ED.mp he).1;unfold pyNext;refine vJ (wpAny_attempt (wpAny_callSpecial?_slot (name:=Str.ofString "__next__") ty F.slot_dict_itemiterator_next (EY F.slot_dict_itemiterator_next ty F.entry_dict_itemiterator_next ?_ (F.args_dict_itemiterator_next_1 _))));refine vJ (DS (vJ (vJ ?_)))
 first|refine vJ (wpAny_typeNameOfWhole_itemiter ty (DS (vJ (wpAny_fieldsOf hit rfl ?_))))|refine vJ (wpAny_typeNameOf_itemiter ty (DS (vJ (wpAny_fieldsOf hit rfl ?_))))
 simp only[show Builtin.Dict_items.ownsTuple "dict_itemiterator"=true by decide,if_true]
 have nn:¬ ((Value.ref d == Value.none)=true):=D8;refine (show wpAny _ _ (if (Value.ref d == Value.none)=true then _ else _) _ _ _ from ?_)
 rw[DV nn];refine vJ (DS (vJ (EX ho hd ?_)));rw[DV (by simp)]
 refine vJ (DS (vJ (wpAny_dictEpoch ho hd ?_)));rw[DV (by simp)]
 refine DS ?_;simp only[show ¬ ((i:Int)<0) from by omega,if_false,E1,he]
 refine vJ ?_
 first|refine vJ (wpAny_typeNameOfWhole_itemiter ty (DS (vJ (wpAny_isOneOf_itemiter ty ?_))))|refine vJ (wpAny_typeNameOf_itemiter ty (DS (vJ (wpAny_isOneOf_itemiter ty ?_))))
 refine (show wpAny _ _ (setField (.ref it) 3 (rawInt ((i:Int)+1)) >>=_) _ _ ⟨hp,g,dr,tk,os⟩ from ?_);refine vJ (wpAny_setField_rec hit (by simp) λk1 f1 u1=>?_)
 replace u1:Heap.SameBut it hp k1:=u1
 replace f1:IsItemIter k1 it d (i+1) es.size ep a1 a2:=by
  unfold IsItemIter;rw[show ((i+1:Nat):Int)=(i:Int)+1 by omega]
  simpa [rawInt] using f1
 have ty1:Shared.TypeIs ⟨k1,g,dr,tk,os⟩ (.ref it) "dict_itemiterator":=⟨_,f1,rfl⟩;refine vJ (Ez (vJ (wpAny_isOneOf_itemiter ty1 (vJ (wpAny_isOneOf_itemiter ty1 ?_)))));show wpAny _ _ (Builtin.Dict_items.pairFromOwner (.ref it) 6 e.key e.val) _ _ ⟨k1,g,dr,tk,os⟩;unfold Builtin.Dict_items.pairFromOwner;refine vJ (wpAny_newTuple ?_);have f2:IsItemIter (k1.push {cls:=.type "tuple",data:=.seq #[e.key,e.val]}) it d (i+1) es.size ep a1 a2:=DU _ f1;generalize hk2:k1.push {cls:=.type "tuple",data:=.seq #[e.key,e.val]}=k2 at f2;have z1:k1.objs.size=hp.objs.size:=u1.1;have lt:it<hp.objs.size:=D1 hit;have t2:k2.get? hp.objs.size=some {cls:=.type "tuple",data:=.seq #[e.key,e.val]}:=by rw[<-hk2,<-z1];exact D7 _ rfl
 have r2:∀b o,b≠it->hp.get? b=some o->k2.get? b=some o:=λb o hb q=>by rw[<-hk2];exact DU _ (u1.extBut b o hb q)
 show wpAny _ _ (Builtin.Dict_items.ownedTupleIsFree (.ref it) >>=_) _ _ ⟨k2,g,dr,tk,os⟩;rw[z1];clear hk2 f1 u1 ty1 z1 k1;unfold Builtin.Dict_items.ownedTupleIsFree;refine vJ (vJ (EG f2 rfl (x:=.none) rfl (DS ?_)));simp only[if_true];refine vJ (EG f2 rfl (x:=a1) rfl (vJ (EG f2 rfl (x:=a2) rfl (vJ (wpAny_setField_rec f2 (by simp) λk3 f3 u3=>?_)))))
 replace u3:Heap.SameBut it k2 k3:=u3
 replace f3:IsItemIter k3 it d (i+1) es.size ep e.key a2:=f3
 refine vJ (wpAny_setField_rec f3 (by simp) λk4 f4 u4=>?_)
 replace u4:Heap.SameBut it k3 k4:=u4
 replace f4:IsItemIter k4 it d (i+1) es.size ep e.key e.val:=f4
 refine vJ (wpAny_setField_rec f4 (by simp) λk5 f5 u5=>?_)
 replace u5:Heap.SameBut it k4 k5:=u5
 replace f5:IsItemIterOut k5 it d (i+1) es.size ep e.key e.val hp.objs.size:=f5
 refine vJ (wpAny_setField_rec f5 (by simp) λk6 f6 u6=>?_)
 replace u6:Heap.SameBut it k5 k6:=u6
 replace f6:IsItemIterOut k6 it d (i+1) es.size ep e.key e.val hp.objs.size:=f6
 have up:∀b o,b≠it->k2.get? b=some o->k6.get? b=some o:=λb o hb q=>u6.extBut b o hb (u5.extBut b o hb (u4.extBut b o hb (u3.extBut b o hb q)))
 exact vJ (wpAny_letGo (DS (DS ⟨_,rfl,DS (hQ k6 f6 (up _ _ (Nat.ne_of_gt lt) t2) λb o hb q=>up b o hb (r2 b o hb q))⟩)))
theorem nu(cm:A.handled=none)(hit:IsItemIter s.heap it d i es.size ep a1 a2)(ho:s.heap.get? d=some ob)(hd:ob.data=.dict es ep)(he:es.size<=i)
  (hQ:∀h',Heap.ExtBut it s.heap h'->Q none {s with heap:=h'}):wpAny (model prog w) A (pyNext (.ref it)) Q E s:=by
 have ty:s.TypeIs (.ref it) "dict_itemiterator":=⟨_,hit,rfl⟩;unfold pyNext;refine vJ (wpAny_attempt (wpAny_callSpecial?_slot (name:=Str.ofString "__next__") ty F.slot_dict_itemiterator_next (EY F.slot_dict_itemiterator_next ty F.entry_dict_itemiterator_next ?_ (F.args_dict_itemiterator_next_1 _))));refine vJ (DS (vJ (vJ ?_)))
 first|refine vJ (wpAny_typeNameOfWhole_itemiter ty (DS (vJ (wpAny_fieldsOf hit rfl ?_))))|refine vJ (wpAny_typeNameOf_itemiter ty (DS (vJ (wpAny_fieldsOf hit rfl ?_))))
 simp only[show Builtin.Dict_items.ownsTuple "dict_itemiterator"=true by decide,if_true]
 have nn:¬ ((Value.ref d == Value.none)=true):=D8;refine (show wpAny _ _ (if (Value.ref d == Value.none)=true then _ else _) _ _ s from ?_)
 rw[DV nn];refine vJ (DS (vJ (EX ho hd ?_)));rw[DV (by simp)]
 refine vJ (DS (vJ (wpAny_dictEpoch ho hd ?_)));rw[DV (by simp)]
 refine DS ?_;simp only[show ¬ ((i:Int)<0) from by omega,if_false,E1,Array.getElem?_eq_none he]
 refine vJ ?_
 first|refine vJ (wpAny_typeNameOfWhole_itemiter ty (DS ?_))|refine vJ (wpAny_typeNameOf_itemiter ty (DS ?_))
 refine (show wpAny _ _ (setField (.ref it) 2 .none >>=_) _ _ s from vJ (EN hit rfl (by simp) ?_))
 refine (show wpAny _ _ (newExc (.type "StopIteration") [] >>=_) _ _ _ from vJ ?_);simp only[newExc,newTuple,raiseNew];refine vJ (Er (vJ (m:=firstArgMember _ _) (wpAny_of_eq (a:=Value.none) (by first|rfl|(simp only[firstArgMember];rfl)) (Er (vJ (wpAny_handled ?_)) (by size_fits)))) (by size_fits))
 rw[show A.in1.handled=none from cm];refine vJ (DS (wpAny_throw ?_));have fin:=λ(h':Heap) (z:Heap.ExtBut it s.heap h')=>hQ h' z
 refine vJ (wpAny_isInstance (T:="StopIteration") (b:=true) ⟨_,D7 _ rfl,rfl⟩ isSubtype_stop (DS (fin _ (((Heap.SameBut.update ..).extBut.push _).push _))))
end
section
variable {X:Cx}{apos cpos:Pos}
end
end L2
namespace L2
open PySem PySem.Spec PyProof.Rows PySem.W
section
variable {X:Cx}{apos cpos:Pos}
end
end L2
namespace L2
open PySem PySem.Spec PyProof.Rows
section
variable {X:Cx}
end
theorem ER.upd_nx{K:E7}(er:ER K H D3 D2)(h:∀σ' H' σ3' M',RelM K M' H'->DenS K H' σ3' σ'->TM K H H'->n3 σ3' M'->n2 σ' H'):ER K H {D3 with nx:=n3} {D2 with nx:=n2}:=⟨h,er.rt,er.bk,er.ct⟩
section
variable {X:Cx}{cls:Nat->Addr}{E2:St->XK}{st:Stmt}{rest:List Stmt}{t u:Ends3->(St3->XN)->St3->MH->Prop}{e:Expr}{te:St3->MH->VK3->XN->Prop}{pos:Pos}
theorem AC:PSs X [] (aP X.K cls E2 λD _ σ M=>D.nx σ M):=pss_nil.imp λD2 σ H hl_=>ex9 hl_ λσ3 M D3 E3 rm ds lk h er=>er.nx σ H σ3 M rm ds (.refl _) h
theorem xr(h1:PS X st (aP X.K cls E2 t))(h2:PSs X rest (aP X.K cls E2 u)):PSs X (st::rest) (aP X.K cls E2 λD E σ M=>t {D with nx:=λσ' M'=>u D E σ' M'} E σ M):=
 (lm h1 h2).imp λD2 σ H hl_=>ex9 hl_ λσ3 M D3 E3 rm ds lk h er=>⟨σ3,M,_,E3,rm,ds,lk,h,er.upd_nx λσ' H' σ3' M' rm' ds' tm q=>⟨σ3',M',D3,E3,rm',ds',lk.mono tm,q,er.mono tm⟩⟩
theorem zz{i:Nat}(h2:PSs X rest (aP X.K cls E2 u)):PSs X rest (aP X.K cls E2 λD E σ M=>match σ[i]? with
  |some (some (.ref a))=>u D E σ (del M a)
  |_=>False):=h2.imp λD2 σ H hl_=>ex9 hl_ λσ3 M D3 E3 rm ds lk h er=>by
 dsimp only at h;split at h
 ·rename_i a e;exact⟨σ3,_,D3,E3,rm.sub λb o q=>(g5 q).2,ds,lk,h,er⟩
 ·exact h.elim
theorem ye:PS X st (aP X.K cls E2 λ_ _ _ _=>False):=λ_ _ _ _ _ _ hl_=>ex9 hl_ λ_ _ _ _ _ _ _ h _=>h.elim
theorem yy(he:PE X e (low X.K cls E2 te))(hs:swapsWith e none pos.line X.env=pure false):PS X (.Expr e pos) (aP X.K cls E2 λD E σ M=>te σ M (λ_ M1=>D.nx σ M1) (E σ)):=
 (lb he hs).imp λD2 σ H hl_=>ex9 hl_ λσ3 M D3 E3 rm ds lk h er=>aO rm ds (lk.at ds) h λv H1 x M1 dx rm1 t1 q1=>er.nx σ H1 σ3 M1 rm1 (ds.mono t1) t1 q1
theorem zp(he:PE X e (low X.K cls E2 te)):PS X (.Return (some e) pos) (aP X.K cls E2 λD E σ M=>te σ M D.rt (E σ)):=
 (wZ he).imp λD2 σ H hl_=>ex9 hl_ λσ3 M D3 E3 rm ds lk h er=>aO rm ds (lk.at ds) h λv H1 x M1 dx rm1 t1 q1=>er.rt v H1 x M1 dx rm1 t1 q1
theorem wQ:PS X (.Return none pos) (aP X.K cls E2 λD _ _ M=>D.rt .non M):=ps_retN.imp λD2 σ H hl_=>ex9 hl_ λσ3 M D3 E3 rm ds lk h er=>er.rt .non H .non M rfl rm (.refl _) h
theorem B4(hc:PT X c (bC X.K cls E2 tA))(ha:PSs X a (aP X.K cls E2 t))(hb:PSs X b (aP X.K cls E2 u)) :
  PS X (.If c a b pos) (aP X.K cls E2 λD E σ M=>tA σ M (λk M1=>if k=true then t D E σ M1 else u D E σ M1) (E σ)):=
 (Ay hc ha hb).imp λD2 σ H hl_=>ex9 hl_ λσ3 M D3 E3 rm ds lk h er=>gz rm ds (lk.at ds) h λk H1 M1 rm1 t1 q1=>by
  cases k with
  |true=>rw[DY rfl]at q1 ⊢;exact⟨σ3,M1,D3,E3,rm1,ds.mono t1,lk.mono t1,q1,er.mono t1⟩
  |false=>rw[DV D8]at q1 ⊢;exact⟨σ3,M1,D3,E3,rm1,ds.mono t1,lk.mono t1,q1,er.mono t1⟩
theorem vm(hN:X.N.Nodup)(hi:X.N[i]?=some x)(hx:Loc X.env.scope x)(he:PE X e (low X.K cls E2 te))(hs:swapsWith e (some (.Name x pos')) pos.line X.env=pure false)(hf:X.fn x=true\/X.env.scope.names.lookup x=some .local) :
  PS X (.Assign [.Name x pos'] e pos) (aP X.K cls E2 λD E σ M=>te σ M (λx M1=>D.nx (σ.set i (some x)) M1) (E σ)):=
 (yr hN hi hx he hs hf).imp λD2 σ H hl_=>ex9 hl_ λσ3 M D3 E3 rm ds lk h er=>aO rm ds (lk.at ds) h λv H1 x M1 dx rm1 t1 q1=>er.nx _ _ _ _ rm1 ((ds.mono t1).set dx) t1 q1
theorem xE(hN:X.N.Nodup)(hi:X.N[i]?=some x)(hx:Loc X.env.scope x)(hf:X.fn x=true\/X.env.scope.names.lookup x=some .local):PG X (.Name x pos) (kn X.K (wpG (.name i))):=
 (gZ hN hi hx hf).imp λv σ H Q2 ⟨d,σ3,M,Q,dv,rm,ds,h,back⟩=>back _ _ _ _ rm (ds.set dv) (.refl _) h
noncomputable def cb(N:List Str)(sc:Scope)(fn:Bool):List Nat->List Expr->Bool
 |[],[]=>true
 |i::is,.Name x _::es=>(N[i]? == some x)&&(sc.names.lookup x == some .local||(fn&&sc.names.lookup x == some .cell))&&cb N sc fn is es
 |_,_=>false
noncomputable def iC(is:List Nat)(xs:List α)(σ:List (Option α)):List (Option α):=(is.zip xs).foldl (λσ p=>σ.set p.1 (some p.2)) σ
theorem jC(hN:X.N.Nodup)(hfn:fn=true->∀x,X.fn x=true):∀{is:List Nat}{es:List Expr},cb X.N X.env.scope fn is es=true->
  PGs X es (λvs σ H Q=>vs.length=is.length/\Q (iC is vs σ) H)/\(assignEach es X.env).length=is.length/\(assignEach es X.env).findIdx? (·.1)=none
 |[],[],_=>⟨λpins s σ H vs us Q I r ⟨e,h⟩=>um pins s σ H vs us Q I r ⟨List.length_eq_zero_iff.mp e,by cases List.length_eq_zero_iff.mp e;exact h⟩,rfl,rfl⟩
 |[],_::_,h=>by simp[cb]at h
 |i::is,es,h=>by
  unfold cb at h;split at h
  ·rename_i heq;cases heq
  ·rename_i i' is' x px es' heq;cases heq;simp only[DR,Ec,Bool.or_eq_true]at h;obtain⟨⟨h1,h2⟩,h3⟩:=h;obtain⟨ih,il,ix⟩:=jC hN hfn h3;have hg:PG X (.Name x px) (oQ i):=by
    rcases h2 with h2|⟨h2,h4⟩
    ·exact gZ hN h1 (.inl h2) (.inr h2)
    ·exact gZ hN h1 (.inr h4) (.inl (hfn h2 x))
   refine⟨λpins s σ H vs us Q I r ⟨e,q⟩=>?_,by show (assignEach es' X.env).length+1=is.length+1;rw[il],?_⟩
   ·cases vs with
    |nil=>cases e
    |cons v vs=>exact rS hg ih rfl pins s σ H (v::vs) us Q I r ⟨v,vs,rfl,by simpa using e,q⟩
   ·show List.findIdx? (·.1) ((false,assign (.Name x px) X.env)::assignEach es' X.env)=none;rw[List.findIdx?_cons];simp[ix]
  ·cases h
theorem jh{K:E7}:∀{is:List Nat}{ds:List D}{vs:List V}{σ3:St3}{σ:St},DenL K H ds vs->DenS K H σ3 σ->DenS K H (iC is ds σ3) (iC is vs σ)
 |[],_,_,_,_,_,h=>by simpa [iC] using h
 |i::is,[],vs,_,_,dl,h=>by cases (show vs=[] from dl);simpa [iC] using h
 |i::is,d::ds,vs,_,_,dl,h=>by
  obtain⟨v,r,rfl,dv,dl⟩:=dl;exact jh (is:=is) dl (h.set (i:=i) dv)
theorem yT(hc:X.calm=true)(hN:X.N.Nodup)(hfn:fn=true->∀x,X.fn x=true)(ok:cb X.N X.env.scope fn is es=true):PG X (.Tuple es k pos) (kn X.K (wpG (.tup is))):=by
 obtain⟨h1,h2,h3⟩:=jC hN hfn ok;refine (xF hc h1 h2 h3).imp λv σ H Q2 ⟨d,σ3,M,Q,dv,rm,ds,h,back⟩=>?_
 simp only[wpG]at h;split at h
 ·rename_i es';obtain⟨p,vs,rfl,sq,dl⟩:=dv;obtain⟨z,q⟩:=h;exact⟨p,vs,rfl,sq,by rw[<-dl.length];exact z,by rw[<-dl.length];exact z,back _ _ _ _ rm (jh dl ds) (.refl _) q⟩
 ·exact h.elim
theorem zF(hp:PassesOwn (model X.prog X.w) X.A X.env X.xe)(hc:X.calm=true)(hi:PI X tg iter (nc X.K cls E2 wi))(hg:PG X tg (kn X.K g))(hb:PSs X body (aP X.K cls E2 t))
  (hs:∀x,foldedSetIterable iter X.env x=pure x):PS X (.For tg iter body [] pos) (aP X.K cls E2 λD E σ M=>wi σ M (λds S M1=>bU g (λD σ M=>t D E σ M) S D ds σ M1) (E σ)):=by
 refine (mW hp hc hi hg hb hs).imp λD2 σ H hl_=>ex9 hl_ λσ3 M D3 E3 rm ds0 lk h er=>⟨σ3,M,_,E3 σ3,rm,ds0,lk.at ds0,h,λJ H1 ds S M1 ok rm1 tm1 hP=>?_⟩
 refine⟨λi m σ' H'=>∃σ3' M',m=ds.length-i/\i<=ds.length/\RelM X.K M' H'/\DenS X.K H' σ3' σ'/\TM X.K H1 H'/\bU g (λD σ M=>t D E3 σ M) S D3 (ds.drop i) σ3' M',⟨ds.length,σ3,M1,by simp,Nat.zero_le _,rm1,ds0.mono tm1,.refl _,hP⟩,?_⟩
 rintro i m σ' H' ⟨σ3',M',rfl,hil,rm',ds',tm',p⟩;by_cases hlt:i<ds.length
 ·rw[List.drop_eq_getElem_cons hlt]at p;obtain⟨s',p⟩:=p;refine .inr ⟨ok.go i H' M' tm' rm' s' hlt,λσ4 H4=>∃σ34 M4,RelM X.K M4 H4/\DenS X.K H4 σ34 σ4/\TM X.K H1 H4/\bU g (λD σ M=>t D E3 σ M) S D3 (ds.drop (i+1)) σ34 M4,?_,?_⟩
  ·rintro σ4 H4 ⟨σ34,M4,e1,e2,e3,e4⟩;exact⟨ds.length-(i+1),by omega,σ34,M4,rfl,hlt,e1,e2,e3,e4⟩
  ·intro x H2 y;obtain⟨tm2,rm2,d,hd,dv⟩:=ok.yld i H' M' x H2 tm' rm' s' hlt y;rw[Et hlt]at hd;cases hd;refine⟨_,σ3',M',_,dv,rm2,ds'.mono tm2,p,λσ5 H5 σ35 M5 rm5 ds5 tm5 q5=>?_⟩
   have tmA:TM X.K H1 H5:=(tm'.trans tm2).trans tm5;exact⟨σ35,M5,_,E3,rm5,ds5,lk.mono (tm1.trans tmA),q5,⟨λσ6 H6 σ36 M6 rm6 ds6 tm6 q6=>⟨σ36,M6,rm6,ds6,tmA.trans tm6,q6⟩,λv H6 d6 M6 dv6 rm6 tm6 q6=>er.rt v H6 d6 M6 dv6 rm6 (tm1.trans (tmA.trans tm6)) q6,
    λσ6 H6 σ36 M6 rm6 ds6 tm6 q6=>er.nx σ6 H6 σ36 M6 rm6 ds6 (tm1.trans (tmA.trans tm6)) q6,λσ6 H6 σ36 M6 rm6 ds6 tm6 q6=>⟨σ36,M6,rm6,ds6,tmA.trans tm6,q6⟩⟩⟩
 ·have e:i=ds.length:=by omega
  subst e;rw[List.drop_length]at p;exact .inl ⟨ok.stop H' M' tm' rm' p.1,er.nx σ' H' σ3' M' rm' ds' (tm1.trans tm') p.2⟩
theorem uh(hp:PassesOwn (model X.prog X.w) X.A X.env X.xe)(hc:PT X c (bC X.K cls E2 tA))(hb:PSs X body (aP X.K cls E2 t)) :
  PS X (.While c body [] pos) (aP X.K cls E2 λD E σ M=>∃P:Nat->St3->MH->Prop,(∃m,P m σ M)/\∀m σ M,P m σ M->tA σ M (λb M1=>if b=true then
   t {D with nx:=λσ' M'=>∃m',m' < m/\P m' σ' M',ct:=λσ' M'=>∃m',m' < m/\P m' σ' M',bk:=D.nx} E σ M1 else D.nx σ M1) (E σ)):=by
 refine (rH hp hc hb).imp λD2 σ H hl_=>ex9 hl_ λσ3 M D3 E3 rm ds lk h er=>?_
 obtain⟨P,⟨m0,p0⟩,step⟩:=h;refine⟨λm σ' H'=>∃σ3' M',RelM X.K M' H'/\DenS X.K H' σ3' σ'/\TM X.K H H'/\P m σ3' M',⟨m0,σ3,M,rm,ds,.refl _,p0⟩,?_⟩
 rintro m σ' H' ⟨σ3',M',rm',ds',tm',p⟩;refine gz rm' ds' ((lk.mono tm').at ds') (step m σ3' M' p) λb H1 M1 rm1 tm1 q=>?_
 cases b with
 |true=>
  rw[DY rfl]at q ⊢;refine⟨λσ4 H4=>∃σ34 M4 m',m' < m/\RelM X.K M4 H4/\DenS X.K H4 σ34 σ4/\TM X.K H H4/\P m' σ34 M4,?_,?_⟩
  ·rintro σ4 H4 ⟨σ34,M4,m',hm,e1,e2,e3,e4⟩;exact⟨m',hm,σ34,M4,e1,e2,e3,e4⟩
  ·have tmA:=tm'.trans tm1;exact⟨σ3',M1,_,E3,rm1,ds'.mono tm1,lk.mono tmA,q,⟨λσ6 H6 σ36 M6 rm6 ds6 tm6 ⟨m',hm,q6⟩=>⟨σ36,M6,m',hm,rm6,ds6,tmA.trans tm6,q6⟩,λv H6 d6 M6 dv6 rm6 tm6 q6=>er.rt v H6 d6 M6 dv6 rm6 (tmA.trans tm6) q6,
    λσ6 H6 σ36 M6 rm6 ds6 tm6 q6=>er.nx σ6 H6 σ36 M6 rm6 ds6 (tmA.trans tm6) q6,λσ6 H6 σ36 M6 rm6 ds6 tm6 ⟨m',hm,q6⟩=>⟨σ36,M6,m',hm,rm6,ds6,tmA.trans tm6,q6⟩⟩⟩
 |false=>
  rw[DV D8]at q ⊢;exact er.nx σ' H1 σ3' M1 rm1 (ds'.mono tm1) (tm'.trans tm1) q
theorem qw(hx:hD X E)(hE:E2=λ_=>E)(hc:HdA X)(hg:Gl X x)(hm:X.mg x=some (.ref (cls i)))(q:tG X.K (cls i))(ha:PA X (e::es) (cU X.K cls E2 tr))(hdb:(x == ("__debug__" : Str))=false)
  (he:starEach (e::es) X.env=(false,eval e X.env)::starEach es X.env) (hpl:(backTo cpos (starEach es X.env)).any (·.1)=false) :
  PS X (.Raise (some (.Call (.Name x np) (e::es) [] cpos)) none pos) (aP X.K cls E2 λ_ E σ M=>tr σ M (λxs M1=>xs.length<=sizeLine/\E σ ⟨i,none⟩ M1) (E σ)):=by
 subst hE;exact (pU hx hc hg hm q ha hdb he hpl).imp λD2 σ H hl_=>ex9 hl_ λσ3 M D3 E3 rm ds lk h er=>cZ rm ds (lk.at ds) h λvs H1 xs M1 dl rm1 t1 ⟨z,q⟩=>⟨by rw[<-dl.length];exact z,lk σ3 σ ⟨i,none⟩ M1 H1 t1 (ds.mono t1) rm1 q none rfl⟩
theorem rO{E:XK}{x:Str}{np cpos:Pos}{i f:Nat}{xin:Nat->Option Nat}{fI:Addr}{fd:FuncData}{ps:List Str}{es:List Expr}{tr:St3->MH->(List D->MH->Prop)->XN->Prop}(hx:g8 X E)(hE:E2=λ_=>E)(hc:X.calm=true)(hg:Gl X x)(hm:X.mg x=some (.ref (cls i)))(q:XIni X.K (cls i) fI (fnm f))
  (F:FnOk X.prog X.w X.K X.mg X.base (CX1 X.prog X.w) 1 fI fd ps (gw (cpF f) X.K (cls i) (fnm f))) (hr:Room 2 X.A)(hb:Binds X.K fd ps []) (hf:xin i=some f) (ha:PA X (e::es) (cU X.K cls E2 tr)) (hdb:(x == ("__debug__" : Str))=false)
  (he:starEach (e::es) X.env=(false,eval e X.env)::starEach es X.env) (hpl:(backTo cpos (starEach es X.env)).any (·.1)=false) :
  PS X (.Raise (some (.Call (.Name x np) (e::es) [] cpos)) none pos) (aP X.K cls E2 λ_ E σ M=>tr σ M (λxs M1=>match xs with
   |[y]=>fO (xin i) λf=>rXp f y M1 λy'=>E σ ⟨i,some (f,y')⟩ M1
   |_=>False) (E σ)):=by
 subst hE;refine (pV hx hc hg hm q F hr hb ha hdb he hpl).imp λD2 σ H hl_=>ex9 hl_ λσ3 M D3 E3 rm ds lk h er=>cZ rm ds (lk.at ds) h λvs H1 xs M1 dl rm1 t1 q=>?_
 split at q
 ·rename_i y;rw[hf]at q;obtain⟨v,r,e1,dv,e2⟩:=dl;cases (show r=[] from e2);subst e1;simp only[fO,rXp]at q;refine⟨v,rfl,λz dx ob n=>?_,λz=>?_⟩
  ·rw[z,DV D8]at q;exact lk σ3 σ ⟨i,some (f,y)⟩ M1 _ (t1.trans (.new n)) (ds.mono (t1.trans (.new n))) (rm1.grow n) q (some dx) ⟨dx,ob,v,rfl,ad,dv.mono (.new n)⟩
  ·rw[z,DY rfl]at q;split at q
   ·rename_i es ee;obtain⟨p,ws,rfl,hq,dl2⟩:=aJ rm1 ee dv;refine⟨p,ws,rfl,hq.elim .inl SqM.sq,λq' o dx ob n1 n2 nn=>?_⟩
    have tA:TM X.K H1 (upd H1 q' (.frz o (.lst ws))):=.new n1;have n3:upd H1 q' (.frz o (.lst ws)) dx=none:=by rw[aa nn];exact n2
    have tB:=tA.trans (.new (o:=.frz ob (.xd [(fnm f,.ref q')])) n3);exact lk σ3 σ ⟨i,some (f,.rol es)⟩ M1 _ (t1.trans tB) (ds.mono (t1.trans tB)) ((rm1.grow n1).grow n3) q (some dx) ⟨dx,ob,.ref q',rfl,ad,⟨q',ws,rfl,.inl ⟨o,by rw[aa (Ea nn),ad]⟩,dl2.mono tB⟩⟩
   ·exact q.elim
 ·exact q.elim
theorem AT{apos cpos:Pos}(ho:PE X o (low X.K cls E2 to))(he:PE X e (low X.K cls E2 te))(hbase:attributeBase o "append" X.env (eval o X.env)=eval o X.env)
  (hline:(apos.endLine == cpos.line)=true) (hs:starEach [e] X.env=[(false,eval e X.env)]) :
  PS X (.Expr (.Call (.Attribute o "append" apos) [e] [] cpos) pos) (aP X.K cls E2 λD E σ M=>to σ M (λx M1=>match x with
  |.ref a=>match M1 a with
   |some (.lst _)=>te σ M1 (λy M2=>match M2 a with
    |some (.lst ds)=>ds.length<sizeLine/\D.nx σ (put M2 a (.lst (ds++[y])))
    |_=>False) (E σ)
   |_=>False
  |_=>False) (E σ)):=by
 have hm:MtR X "list.append" rAppend:=jQ;have h1:=zM (X:=X) PySem.F.plainAttrs_list PySem.F.slot_list_append PySem.F.type_list_append hm ho (aL he pa_nil hs) hbase (by rw[hs];rfl) hline hs (by rfl)
 refine (lb h1 (by rfl)).imp λD2 σ H hl_=>ex9 hl_ λσ3 M D3 E3 rm ds lk h er=>?_
 refine aO rm ds (lk.at ds) h λv H1 x M1 dx rm1 t1 q1=>?_
 split at q1
 ·rename_i a;cases (show v=.ref a from dx);split at q1
  ·rename_i ds0 e0;obtain⟨vs0,f0,_⟩:=rm1 a _ e0;refine⟨.inl ⟨rfl,vs0,.of f0⟩,aO rm1 (ds.mono t1) ((lk.mono t1).at (ds.mono t1)) q1 λu H2 y M2 dy rm2 t2 q2=>?_⟩
   split at q2
   ·rename_i ds1 e1;obtain⟨vs,f1,dl⟩:=rm2 a _ e1;refine⟨a,vs,u,rfl,rfl,f1,by rw[<-dl.length];exact q2.1,?_⟩
    have tw:TM X.K H2 (upd H2 a (.lst (vs++[u]))):=.put f1 (λ_=>λz=>nomatch z) λ_ _=>λz=>nomatch z
    exact er.nx _ _ _ _ (rm2.write (u:=.lst (ds1++[y])) f1 (λ_=>λz=>nomatch z) (λ_ _=>λz=>nomatch z) ⟨_,ad,(dl.append (.one dy)).mono tw⟩) (((ds.mono t1).mono t2).mono tw) ((t1.trans t2).trans tw) q2.2
   ·exact q2.elim
  ·exact q1.elim
 ·exact q1.elim
end
abbrev no2:St->XK:=λ_ _ _ _=>False
theorem mw{K:E7}(h:DenS K H σ3 σ):DenS K H (ay js σ3) (iE js σ):=by
 refine⟨by simp[ay,iE],λi d e=>?_⟩
 unfold ay at e;unfold iE;rw[Ef]at e ⊢;cases q:js[i]? with
 |none=>rw[q]at e;cases e
 |some o=>
  rw[q]at e;cases o with
  |none=>cases e
  |some j=>
   rw[Option.map_some,Option.bind_some]at e;cases z:σ3[j]? with
   |none=>rw[z]at e;cases e
   |some y=>
    rw[z]at e;have e:some (id y)=some (some d):=e;have e:y=some d:=D9 e;subst e;obtain⟨v,e1,e2⟩:=h.2 j d z;refine⟨v,?_,e2⟩;rw[Option.map_some,Option.bind_some,e1];rfl
section
variable {X:Cx}
theorem hZ{Ee:XN}{E2e:St->XK}(lke:∀σc,LkE X.K cls H Ee (E2e σc))(rm:RelM X.K M H)(ds0:DenS X.K H σ3 σ)(lk:LkE X.K cls H E3 (E2 σ))
  (h:wi σ3 M (λds S M1=>∀p,M1 p=none->bv g (λσ M Q=>tt σ M Q (λ_ _=>False)) (λσ M Q=>te σ M Q Ee) S p Q ds [] (ay js σ3) (put M1 p (.lst []))) E3) (back:Back X.K H Q Q2) :
  o5 js (nc X.K cls E2 wi) (kn X.K g) (bC X.K cls no2 tt) (low X.K cls E2e te) σ H Q2:=by
 refine⟨σ3,M,_,E3,rm,ds0,lk,h,λJ H1 ds S M1 ok rm1 tm1 hP p hp=>?_⟩
 have hP:=hP p (rm1.fresh hp);refine⟨λi m σc H'=>∃σ3c ys M',m=ds.length-i/\i<=ds.length/\RelM X.K M' H'/\DenS X.K H' σ3c σc/\TM X.K H1 H'/\bv g (λσ M Q=>tt σ M Q (λ_ _=>False)) (λσ M Q=>te σ M Q Ee) S p Q (ds.drop i) ys σ3c M',
  ⟨ds.length,_,[],_,by simp,Nat.zero_le _,rm1.lay (u:=.lst []) hp ⟨[],ad,.nil⟩,(mw ds0).mono (tm1.trans (.new hp)),.new hp,hP⟩,?_⟩
 rintro i m σc H' ⟨σ3c,ys,M',rfl,hil,rm',ds',tm',q⟩;by_cases hlt:i<ds.length
 ·rw[List.drop_eq_getElem_cons hlt]at q;obtain⟨s',hl,q⟩:=q;refine .inr ⟨ok.go i H' M' tm' rm' s' hlt,λx H2 y=>?_⟩
  obtain⟨tm2,rm2,d,hd,dv⟩:=ok.yld i H' M' x H2 tm' rm' s' hlt y;rw[Et hlt]at hd;cases hd;refine⟨_,σ3c,M',_,dv,rm2,ds'.mono tm2,q,λσ5 H5 σ35 M5 rm5 ds5 tm5 q5=>?_⟩
  refine⟨σ35,M5,_,_,rm5,ds5,LkE.no,q5,λb H6 M6 rm6 tm6 q6=>?_⟩
  have tmA:TM X.K H1 H6:=((tm'.trans tm2).trans tm5).trans tm6;cases b with
  |true=>
   rw[DY rfl]at q6;dsimp only;rw[DY rfl];refine⟨σ35,M6,_,_,rm6,ds5.mono tm6,(lke _).mono (tm1.trans tmA),q6,λv H7 y M7 dy rm7 tm7 ⟨e7,q7⟩=>?_⟩
   obtain⟨vs,f7,dl⟩:=rm7 p _ e7;have tw:TM X.K H7 (upd H7 p (.lst (vs++[v]))):=.put f7 (λ_=>λz=>nomatch z) λ_ _=>λz=>nomatch z
   exact⟨vs,f7,by rw[<-dl.length];exact hl,ds.length-(i+1),by omega,σ35,ys++[y],_,rfl,hlt,rm7.write (u:=.lst (ys++[y])) f7 (λ_=>λz=>nomatch z) (λ_ _=>λz=>nomatch z) ⟨_,ad,(dl.append (.one dy)).mono tw⟩,((ds5.mono tm6).mono tm7).mono tw,(tmA.trans tm7).trans tw,q7⟩
  |false=>
   rw[DV D8]at q6;dsimp only;rw[DV D8];exact⟨ds.length-(i+1),by omega,σ35,ys,M6,rfl,hlt,rm6,ds5.mono tm6,tmA,q6⟩
 ·have e:i=ds.length:=by omega
  subst e;rw[List.drop_length]at q;exact .inl ⟨ok.stop H' M' tm' rm' q.1,back _ _ _ _ dW rm' (tm1.trans tm') q.2⟩
variable {q:Bool} (hok:cq N js scope X.env.scope X.N=true) (hcalm:Qt q X) (hi:PIB q X tg iter (nc X.K cls E2 wi))
  (hg:∀C s2 H2 fp pn,PG (compCx X scope C N s2 H2 fp pn) tg (kn X.K g)) (ht:∀C s2 H2 fp pn,PIf (compCx X scope C N s2 H2 fp pn) ifs (bC X.K cls no2 tt)) (he:∀C s2 H2 fp pn,PE (compCx X scope C N s2 H2 fp pn) elt (low X.K cls no2 te))
  (hs:∀x,foldedSetIterable iter X.env x=pure x)
include hok hcalm hi hg ht he hs
theorem n9:PE X (.ListComp elt [⟨tg,iter,ifs,0⟩] scope pos) (low X.K cls E2 λσ M Q E=>wi σ M (λds S M1=>∀p,M1 p=none->bv g (λσ M Q=>tt σ M Q (λ_ _=>False)) (λσ M Q=>te σ M Q (λ_ _=>False)) S p Q ds [] (ay js σ) (put M1 p (.lst []))) E):=
 (oz hok hcalm hi hg ht he hs).imp λσ H Q2 hl_=>ex9 hl_ λσ3 M Q E3 rm ds lk h back=>hZ (λ_=>LkE.no) rm ds lk h back
theorem xu(fz:Bool):PE X (.ListComp elt [⟨tg,iter,ifs,0⟩] scope pos) (low X.K cls E2 λσ M Q E=>wi σ M (λds S M1=>∀p,M1 p=none->bv g (λσ M Q=>tt σ M Q (λ_ _=>False)) (λσ M Q=>te σ M Q (λ_ _=>False)) S p (if fz=true then eU Q else Q) ds [] (ay js σ) (put M1 p (.lst []))) E):=by
 cases fz with
 |false=>exact n9 hok hcalm hi hg ht he hs
 |true=>exact xO (n9 hok hcalm hi hg ht he hs)
theorem nD{spos:Pos}(hN:X.N.Nodup)(hy:X.N[i]?=some y)(hl:X.env.scope.names.lookup y=some .local)(hsw:swapsWith (.ListComp elt [⟨tg,iter,ifs,0⟩] scope pos) (some (.Name y py)) spos.line X.env=pure true)(fz:Bool) :
  PS X (.Assign [.Name y py] (.ListComp elt [⟨tg,iter,ifs,0⟩] scope pos) spos) (aP X.K cls E2 λD E σ M=>wi σ M (λds S M1=>∀p,M1 p=none->bv g (λσ M Q=>tt σ M Q (λ_ _=>False)) (λσ M Q=>te σ M Q (λ_ _=>False)) S p (if fz=true then eU (λx M1=>D.nx (σ.set i (some x)) M1) else (λx M1=>D.nx (σ.set i (some x)) M1)) ds [] (ay js σ) (put M1 p (.lst []))) (E σ)):=by
 cases fz with
 |false=>exact (iK hN hy hl hok hcalm hi hg ht he hs hsw).imp λD2 σ H hl_=>ex9 hl_ λσ3 M D3 E3 rm ds lk h er=>hZ (λ_=>LkE.no) rm ds (lk.at ds) h λv H1 x M1 dx rm1 t1 q1=>er.nx _ _ _ _ rm1 ((ds.mono t1).set dx) t1 q1
 |true=>
  refine λpins s σ H D2 I hl_=>ex9 hl_ λσ3 M D3 E3 rm ds lk h er=>?_
  refine thn (iK hN hy hl hok hcalm hi hg ht he hs hsw pins s σ H {D2 with nx:=λσ' H'=>∃x v M1,σ'=σ.set i (some v)/\Den X.K H' x v/\RelM X.K M1 H'/\TM X.K H H'/\eU (λx M1=>D3.nx (σ3.set i (some x)) M1) x M1} I
   (hZ (λ_=>LkE.no) rm ds (lk.at ds) h λv H1 x M1 dx rm1 t1 q1=>⟨x,v,M1,rfl,dx,rm1,t1,q1⟩)) λfl s1 q=>?_
  cases fl with
  |next=>
   obtain⟨σ',H',I1,x,v,M1,rfl,dx,rm1,t1,q1⟩:=q;unfold eU at q1;split at q1
   ·rename_i a;cases (show v=.ref a from dx);split at q1
    ·rename_i es e;obtain⟨vs,e1,dl⟩:=rm1 a _ e;obtain⟨o,I2⟩:=I1.freeze e1;exact⟨_,_,I2,er.nx _ _ _ _ (rm1.freeze e1) ((ds.mono (t1.trans (.freeze e1))).set (eE dl e1)) (t1.trans (.freeze e1)) q1⟩
    ·exact q1.elim
   ·exact q1.elim
  |brk=>exact q
  |cont=>exact q
  |ret u=>exact q
end
def mQ(K:E7)(cls:Nat->Addr)(t:XE->Ends3->St3->MH->Prop):Ends->St->XK:=λD2 σ c dx H=>∃i σ3 M D3,(c=.ref (cls i.c)/\XD K H i dx)/\RelM K M H/\DenS K H σ3 σ/\t i D3 σ3 M/\ER K H D3 D2
theorem ER.goes{K:E7}{D2:Ends}(er:ER K H D3 D2)(i:Nat):ER K H (qV D3 i) (D2.goes i):=
 ⟨λσ' H' σ3' M' rm ds t q=>er.nx _ _ _ _ rm ds.drop t q,er.rt,λσ' H' σ3' M' rm ds t q=>er.bk _ _ _ _ rm ds.drop t q,λσ' H' σ3' M' rm ds t q=>er.ct _ _ _ _ rm ds.drop t q⟩
section
variable {X:Cx}{cls:Nat->Addr}{E2:St->XK}{c n:Str}{k j ne:Nat}{sub:Nat->Nat->Bool}{b0:Stmt}{suite:List Stmt}{np hpos pos:Pos}{rest:List ExceptHandler}{tb:Ends3->(St3->XN)->St3->MH->Prop}{tr:XE->Ends3->St3->MH->Prop}
theorem wM:PH X [] (mQ X.K cls λ_ _ _ _=>False):=λ_ _ _ _ _ _ _ _ _ ⟨_,_,_,_,_,_,_,h,_⟩=>h.elim
theorem yU(hg:Gl X c)(hm:X.mg c=some (.ref (cls k)))(hsub:∀i,i<ne->PySem.W.exmOne X.K (.ref (cls i)) (.ref (cls k))=some (sub i k))(hN:X.N.Nodup)(hj:X.N[j]?=some n)(hl:X.env.scope.names.lookup n=some .local)
  (hs:∀a o u,(X.calm=true->gU o)->PSs (X.markedS a o u) (b0::suite) (aP X.K cls no2 tb)) (hr:PH X rest (mQ X.K cls tr)) (hdb:(c == ("__debug__" : Str))=false) :
  PH X (.ExceptHandler (some (.Name c np)) (some n) (b0::suite) hpos::rest) (mQ X.K cls λi D σ M=>i.c<ne/\if sub i.c k=true then (∀a,M a=none->tb (qV D j) (λ_ _ _=>False) (σ.set j (some (.ref a))) (put M a (.exc i (.ref (cls i.c))))) else tr i D σ M):=by
 intro pins s σ H D a cv dx xi ⟨i,σ3,M,D3,⟨e,xd⟩,rm,ds,⟨hi,h⟩,er⟩;subst e;refine zI (i:=j) hg hm hN hj hl hs hr hdb pins s σ H D a _ dx xi ?_;have z:=hsub i.c hi;cases q:sub i.c k with
 |true=>
  rw[q]at z;rw[DY q]at h;refine .inl ⟨z,λa' o ha=>?_⟩
  have tn:TM X.K H (upd H a' (.frz o (mS a' (.ref (cls i.c)) dx))):=.new ha;exact⟨_,_,_,_,rm.lay (u:=.exc i (.ref (cls i.c))) ha ⟨o,dx,ad,xd.mono tn⟩,(ds.mono tn).set dW,(λ_ _ _ _ _ _ _ _ w=>w.elim),h a' (rm.fresh ha),(er.goes j).mono tn⟩
 |false=>
  rw[q]at z;rw[DV (by rw[q];exact D8)]at h
  exact .inr ⟨z,i,σ3,M,D3,⟨rfl,xd⟩,rm,ds,h,er⟩
theorem zP(hg:Gl X c)(hm:X.mg c=some (.ref (cls k)))(hsub:∀i,i<ne->PySem.W.exmOne X.K (.ref (cls i)) (.ref (cls k))=some (sub i k))
  (hs:∀a o u,(X.calm=true->gU o)->PSs (X.markedS a o u) (b0::suite) (aP X.K cls no2 tb)) (hr:PH X rest (mQ X.K cls tr)) (hdb:(c == ("__debug__" : Str))=false) :
  PH X (.ExceptHandler (some (.Name c np)) none (b0::suite) hpos::rest) (mQ X.K cls λi D σ M=>i.c<ne/\if sub i.c k=true then tb D (λ_ _ _=>False) σ M else tr i D σ M):=by
 intro pins s σ H D a cv dx xi ⟨i,σ3,M,D3,⟨e,xd⟩,rm,ds,⟨hi,h⟩,er⟩;subst e;refine yP hg hm hs hr hdb pins s σ H D a _ dx xi ?_;have z:=hsub i.c hi;cases q:sub i.c k with
 |true=>
  rw[q]at z;rw[DY q]at h;refine .inl ⟨z,λa' o ha=>?_⟩
  have tn:TM X.K H (upd H a' (.frz o (mS a' (.ref (cls i.c)) dx))):=.new ha;exact⟨σ3,M,D3,_,rm.grow ha,ds.mono tn,(λ_ _ _ _ _ _ _ _ w=>w.elim),h,er.mono tn⟩
 |false=>
  rw[q]at z;rw[DV (by rw[q];exact D8)]at h
  exact .inr ⟨z,i,σ3,M,D3,⟨rfl,xd⟩,rm,ds,h,er⟩
theorem ux{el:List Stmt}(hst:X.stack=X.env::X.outer)(hfr:X.env.frame=some X.env.locals)(hex:X.ex=[])(hh:PH X (h0::hs) th)(he:PSs X el te) :
  PS X (.Try body (h0::hs) el [] pos) (λD σ H=>∀pn W,aA (CX1 X.prog X.w X.calm) (X.tryX pn W) (λσ cls d H=>th D σ cls d H)->∃t,PSs (X.tryX pn W) body t/\t {D with nx:=te D} σ H):=by
 intro pins s σ H D I h;have key:∀(W:Value->Shared->Prop),aA (CX1 X.prog X.w X.calm) (X.tryX pins W) (λσ cls d H=>th D σ cls d H)->wpAny (model X.prog X.w) X.A (execs body X.env) (SP (X.tryX pins W) [] {D with nx:=te D}) W s:=λW hP=>by
  obtain⟨t,ht,q⟩:=h pins W hP;exact ht [] s σ H _ (I.tryX _) q
 refine wpAny_Try_except (EK (key _ ?hx) (λf s1 q=>?_) (λe s1 q=>q))
 case hx=>
  intro pins' σ1 H1 s1 e s' I' hc;have I1:=I'.untry I.ok;obtain⟨a,cls,B,H2,dx,rfl,os,bare,un,hok,⟨fl0,dd0⟩,ha,inc,he⟩:=hc;have hnew:=n8 fl0 inc;obtain⟨a0,fl⟩:=fl0;have hfl:Heap.FlyingW B (X.env::X.outer) a cls a0 s'.heap:=hst▸fl;have hA:X.A.frames=some (X.env::X.outer):=hst▸I.ok.frames;refine nO hA hfr hfl dd0 λh4 held up4 dd4=>o6 held dd4 λh5 fl5 up5 dd5=>?_
  refine hh pins _ σ1 H2 D a cls dx ⟨B,a0,I1.behind (s':=s') (h4:=h5) os bare un hok inc fl5.1 (up4.trans up5),⟨hst▸fl5,dd5⟩,ha,?_,λp hp z=>?_,λh6 st6 up6=>I1.behind (s':=s') (h4:=h6) os bare un hok inc st6 ((up4.trans up5).trans up6)⟩ he
  ·cases q:X.s₀.heap.get? a with
   |none=>rfl
   |some o=>
    obtain⟨o1,e1⟩:=I1.base.there a o q (by rw[hex];exact λz=>nomatch z)
    rw[hnew]at e1;cases e1
  ·have e1:=(I1.pin p hp).1;rw[z,hnew]at e1;cases e1
 ·match f,q with
  |.next,⟨σ',H',J,q⟩=>exact he pins s1 σ' H' D (J.untry I.ok) q
  |.brk,⟨σ',H',J,q⟩=>exact⟨σ',H',J.untry I.ok,q⟩
  |.cont,⟨σ',H',J,q⟩=>exact⟨σ',H',J.untry I.ok,q⟩
  |.ret u,⟨v,σ',H',J,r,q⟩=>exact⟨v,σ',H',J.untry I.ok,r,q⟩
theorem AE(hst:X.stack=X.env::X.outer)(hfr:X.env.frame=some X.env.locals)(hex:X.ex=[])(hh:PH X (h0::hs) (mQ X.K cls th))
  (hb:∀pn W E2',aA (CX1 X.prog X.w X.calm) (X.tryX pn W) E2'->PSs (X.tryX pn W) body (aP X.K cls E2' tb)) :
  PS X (.Try body (h0::hs) [] [] pos) (aP X.K cls E2 λD _ σ M=>tb D (λσ' i M'=>th i D σ' M') σ M):=
 (ux hst hfr hex hh pss_nil).imp λD2 σ H ⟨σ3,M,D3,E3,rm,ds,lk,h,er⟩ pn W hP=>⟨_,hb pn W _ hP,σ3,M,D3,_,rm,ds,λσ3' σ' i M' H' t ds' rm' q dx xd=>⟨i,σ3',M',D3,⟨rfl,xd⟩,rm',ds',q,er.mono t⟩,h,er⟩
end
section
variable {X:Cx}{s:Shared}{kvs:List (Key×V)}{o:Obj}
theorem Inv.rehang(I:Inv X pins σ H s)(e:H a=some u)(n1:∀xs,u≠.tup xs)(n2:∀ps,u≠.tbl ps)(n3:∀b,u≠.own b)(n4:∀ob v,u≠.frz ob v)(ok:ObjOk X.prog X.w H s.heap a u'):Inv X pins σ (upd H a u') s:=by
 have ne:∀b,H b=none->b≠a:=λb z q=>by rw[q,e]at z;cases z
 have own:∀c b,H c=some (.own b)->c≠a:=λc b z q=>by rw[q,e]at z;cases z;exact n3 _ rfl
 have tup:∀c xs,H c=some (.tup xs)->c≠a:=λc b z q=>by rw[q,e]at z;cases z;exact n1 _ rfl
 refine⟨I.ok,I.os,I.bare,⟨I.base.keep,I.base.slot,λb ob q n hx=>?_,I.base.there,λb ys q=>?_,λb ob v q=>?_,λb ps q=>?_⟩,I.loc,I.cell,?_,λx c z=>?_,λp hp=>?_,λb v q=>?_,I.len⟩
 ·have z:=I.base.free b ob q n hx;rw[aa (ne b z)];exact z
 ·have z:=I.base.tups b ys q;rw[aa (tup _ _ z)];exact z
 ·have z:=I.base.frzs b ob v q;rw[aa (λw=>by rw[w,e]at z;cases z;exact n4 _ _ rfl)];exact z
 ·obtain⟨more,z⟩:=I.base.tbls b ps q;exact⟨more,by rw[aa (λw=>by rw[w,e]at z;cases z;exact n2 _ rfl)];exact z⟩
 ·rw[aa (ne _ I.free)];exact I.free
 ·rw[aa (ne _ (I.freeC x c z))];exact I.freeC x c z
 ·obtain⟨e1,e2,e3⟩:=I.pin p hp;exact⟨e1,by rw[aa (ne _ e2)];exact e2,e3⟩
 ·by_cases w:b=a
  ·subst w;rw[ad]at q;cases q;exact ok.stay (λ_ _ _ z=>z) (λc z=>by rw[aa (own _ _ z)];exact z) λc xs z=>by rw[aa (tup _ _ z)];exact z
  ·rw[aa w]at q;exact (I.hok b v q).stay (λ_ _ _ z=>z) (λc z=>by rw[aa (own _ _ z)];exact z) λc xs z=>by rw[aa (tup _ _ z)];exact z
end
noncomputable def Itg(G:Hp->Prop)(ps:List (V×V)):It:=
 ⟨λi H=>G H/\i<ps.length,λi H v H'=>∃p,v=.ref p/\H p=none/\∃kv,ps[i]?=some kv/\H'=upd H p (.tup [kv.1,kv.2]),λi H=>G H/\ps.length<=i⟩
theorem lU{K:E7}(d it:Addr){o:Obj}{ps:List (V×V)}{es:Array DictEntry}(hd:o.data=.dict es ep)(hz:es.size=ps.length)
  (hr:∀(i:Nat) p e,ps[i]?=some p->es[i]?=some e->RelV p.1 e.key/\RelV p.2 e.val) (hne:d≠it) (hG:∀(X:Cx) (pins:List (Addr×Obj)) (σ:St)(H:Hp)(s:Shared),Inv X pins σ H s->G H->s.heap.get? d=some o):Turn P w K (.Tuple elts x1 pos) (Itg G ps) [it] it (λi h=>∃a1 a2,IsItemIter h it d i es.size ep a1 a2) where
 mem:=by simp
 obj:=λi h st b hb=>by
  obtain⟨a1,a2,h1⟩:=st;have e':b=it:=by simpa using hb
  subst e';exact⟨_,h1,λv z=>by
   have z':Data.fields _=Data.cell v:=z;cases z'⟩
 keep:=λi h h' st k=>let ⟨a1,a2,h1⟩:=st;⟨a1,a2,k it (by simp) _ h1⟩
 item:=by
  intro X hP hw hK hc i pins s σ H E I hf st hg;subst hP hw hK;obtain⟨hu,hi⟩:=hg;obtain⟨a1,a2,hit⟩:=st;have fi:=hf it (by simp)
  have hil:it<s.heap.objs.size:=D1 hit;have he:es[i]?=some es[i]:=by simp[show i<es.size by omega]
  have hp':ps[i]?=some ps[i]:=by simp[hi]
  obtain⟨rk,rv⟩:=hr i _ _ hp' he;refine nA hit (hG _ _ _ _ _ I hu) hd he λh' hio ht k=>?_
  have hp:H s.heap.objs.size=none:=I.hok.fresh (DZ _);have I1:Inv X pins σ (upd H s.heap.objs.size (.tup [ps[i].1,ps[i].2])) {s with heap:=s.heap.push {cls:=.type "tuple",data:=.seq #[es[i].key,es[i].val]},toks:=s.toks}:=
   I.laid (λb o e1=>DU _ e1) (DZ _) ⟨by show 2<=sizeLine;decide,[es[i].key,es[i].val],.cons rk (.cons rv .nil),⟨_,D7 _ rfl,rfl,_,rfl⟩⟩
  have fi':la X pins (upd H s.heap.objs.size (.tup [ps[i].1,ps[i].2])) it:=⟨by rw[aa (Ek hil)];exact fi.1,fi.2⟩
  obtain⟨f0,f1,f2,f3,f4,f5⟩:=fi';have I2:Inv X pins σ (upd H s.heap.objs.size (.tup [ps[i].1,ps[i].2])) {s with heap:=h',toks:=s.toks}:=I1.turned (t':=s.toks) (λb o hb e1=>by
   by_cases hb':b=s.heap.objs.size
   ·subst hb';have e2:(s.heap.push {cls:=.type "tuple",data:=.seq #[es[i].key,es[i].val]}).get? s.heap.objs.size=some {cls:=.type "tuple",data:=.seq #[es[i].key,es[i].val]}:=D7 _ rfl;rw[e2]at e1;cases e1;exact ht
   ·exact k b o hb ((Heap.get?_push_ne _ _ _ hb').symm.trans e1)) f0 f1 f3 f4 f5
  refine⟨.ref s.heap.objs.size,rfl,wpAny_letOwnedTupleGo_items (s:={s with heap:=h'}) hio λh2 he2 hs2=>?_⟩
  have I3:Inv X pins σ (upd H s.heap.objs.size (.tup [ps[i].1,ps[i].2])) {s with heap:=h2,toks:=s.toks}:=I2.turned (t':=s.toks) (λb o hb e1=>(hs2.2 b hb).trans e1) f0 f1 f3 f4 f5
  refine⟨.ref s.heap.objs.size,_,I3,rfl,⟨_,rfl,hp,_,hp',rfl⟩,⟨_,_,he2⟩,λb hb=>?_⟩
  have e':b=it:=by simpa using hb
  subst e';exact f0
 done:=by
  intro X hP hw hK hc i pins s σ H E I hf st hg;subst hP hw hK;obtain⟨hu,hi⟩:=hg;obtain⟨a1,a2,hit⟩:=st;obtain⟨f0,f1,f2,f3,f4,f5⟩:=hf it (by simp)
  exact nu (I.ok.hd hc) hit (hG _ _ _ _ _ I hu) hd (by omega) λh' eb=>⟨rfl,I.turned (t':=s.toks) (λb o hb e=>eb b o hb e) f0 f1 f3 f4 f5⟩
 self:=λ_ _ _ _ _ st h=>let ⟨_,_,hit⟩:=st;PySem.W.kcp_self hit h
section
variable {X:Cx}{apos cpos:Pos}
end
section
variable {X:Cx}{s:Shared}
def cu(o:Obj)(xs:List (List Int×Addr×Value)):Prop:=∃es ep,o.ExactDict/\o.data=.dict es ep/\es.toList=xs.map λx=>(⟨tH x.1,.ref x.2.1,x.2.2⟩:DictEntry)
abbrev phO(a:Addr)(o:Obj):Heap->Prop:=λh=>h.get? a=some o
theorem Inv.stillT(I:Inv X pins σ H s)(e:H a=some (.ext (ao a xs))):∃o,cu o xs/\Inv X pins σ (upd H a (.ext (phO a o))) s/\s.heap.get? a=some o:=by
 obtain⟨⟨o,es,ep,g,r1,r2,r3⟩,_⟩:=I.hok a _ e;exact⟨o,⟨es,ep,r1,r2,r3⟩,I.rehang e (λ_ z=>nomatch z) (λ_ z=>nomatch z) (λ_ z=>nomatch z) (λ_ _ z=>nomatch z) ⟨g,⟨o,g⟩,λh1 h2 k1 k=>k _ k1⟩,g⟩
theorem Inv.movesT(I:Inv X pins σ H s)(t:cu o xs)(e:H a=some (.ext (phO a o))):Inv X pins σ (upd H a (.ext (ao a xs))) s:=by
 obtain⟨g,_⟩:=I.hok a _ e;obtain⟨es,ep,r1,r2,r3⟩:=t;exact I.rehang e (λ_ z=>nomatch z) (λ_ z=>nomatch z) (λ_ z=>nomatch z) (λ_ _ z=>nomatch z) ⟨⟨o,es,ep,g,r1,r2,r3⟩,⟨o,g⟩,λh1 h2 ⟨o',es',ep',q,r⟩ k=>⟨o',es',ep',k _ q,r⟩⟩
end
noncomputable def iR(xs:List (List Int×Addr×Value))(vs:List V):List (V×V):=(xs.zip vs).map λp=>(.ref p.1.2.1,p.2)
noncomputable def u7(X:Cx)(t2:TE):TI:=λσ H R=>t2 σ H λv H1=>∃d xs vs,v=.ref d/\H1 d=some (.ext (ao d xs))/\(d == sysModules)=false/\Vals vs (xs.map (·.2.2))/\∀ob p,cu ob xs->H1 p=none->R (Itg (λH=>H d=some (.ext (phO d ob))) (iR xs vs)) (upd (upd H1 d (.ext (phO d ob))) p (.ext λh=>h.IsItemsView p d))
section
variable {X:Cx}{apos cpos:Pos}
theorem j4(ho:PE X o t2)(hbase:attributeBase o "items" X.env (eval o X.env)=eval o X.env)(hline:(apos.endLine == cpos.line)=true):PI X (.Tuple elts x1 pt) (.Call (.Attribute o "items" apos) [] [] cpos) (u7 X t2):=by
 intro pins s σ H R I h;refine wpAny_Call_method0_late hbase hline (thn (ho pins s σ H _ I h) λv s0 ⟨x,H1,I1,r1,d,xs,vs,e1,e3,nm,hv,q⟩=>?_)
 subst e1;cases r1;obtain⟨ob,tb,I2,go⟩:=I1.stillT e3;obtain⟨es,ep,xd,hd,he⟩:=id tb;have l1:es.size=xs.length:=by have:=congrArg List.length he;simpa using this
 have l2:vs.length=xs.length:=by have:=hv.length;simpa using this
 have hz:es.size=(iR xs vs).length:=by simp[iR];omega
 have hr:∀(i:Nat) p e,(iR xs vs)[i]?=some p->es[i]?=some e->RelV p.1 e.key/\RelV p.2 e.val:=λi p e h1 h2=>by
  unfold iR at h1;rw[Ef]at h1;cases hz:(xs.zip vs)[i]? with
  |none=>rw[hz]at h1;cases h1
  |some q=>
   rw[hz]at h1;have h1:(V.ref q.1.2.1,q.2)=p:=by simpa using h1
   obtain⟨a1,a2⟩:=List.getElem?_zip_eq_some.mp hz;have h3:es.toList[i]?=some e:=by simpa using h2
   rw[he,Ef,a1]at h3;cases h3;obtain⟨u,b1,b2⟩:=hv.get a2;rw[Ef,a1]at b1;cases b1;rw[<-h1];exact⟨rfl,b2⟩
 refine⟨"dict","dict.items",PySem.F.plainAttrs_dict,PySem.F.slot_dict_items,PySem.F.type_dict_items,⟨_,go,xd.1⟩,λa ha=>?_,Calls.callWith_builtin rfl (PySem.evalArgs_none ?_)⟩
 ·cases ha;exact⟨_,go,xd.2.1⟩
 have hp:H1 s0.heap.objs.size=none:=I1.hok.fresh (DZ _);have hdl:d<s0.heap.objs.size:=D1 go;refine call_meetsIn PySem.F.slot_dict_items ⟨_,go,xd.1⟩ PySem.F.entry_dict_items (PySem.F.args_dict_items_1 _) (ny nm) ⟨⟨_,go,xd.1⟩,?_⟩;have q:=q ob s0.heap.objs.size tb hp;have I3:Inv X pins σ (upd (upd H1 d (.ext (phO d ob))) s0.heap.objs.size (.ext λh=>h.IsItemsView s0.heap.objs.size d)) {s0 with heap:=s0.heap.push {cls:=.type "dict_items",data:=.fields #[.ref d]},toks:=s0.toks}:=
  I2.laid (o:=.ext λh=>h.IsItemsView s0.heap.objs.size d) (λb o e1=>DU _ e1) (DZ _) ⟨⟨_,D7 _ rfl,rfl,rfl⟩,⟨_,D7 _ rfl⟩,λh1 h2 ⟨ov,g1,g2,g3⟩ k=>⟨ov,k _ g1,g2,g3⟩⟩
 have go2:(s0.heap.push {cls:=.type "dict_items",data:=.fields #[.ref d]}).get? d=some ob:=DU _ go;refine nP (s:={s0 with heap:=s0.heap.push {cls:=.type "dict_items",data:=.fields #[.ref d]}}) ⟨_,D7 _ rfl,rfl,rfl⟩ go2 hd ?_
 have sz:(s0.heap.push {cls:=.type "dict_items",data:=.fields #[.ref d]}).objs.size=s0.heap.objs.size+1:=Heap.size_push ..;have hf:=I3.hok.fresh (DZ (s0.heap.push {cls:=.type "dict_items",data:=.fields #[.ref d]}).objs.size);refine⟨_,[(s0.heap.push {cls:=.type "dict_items",data:=.fields #[.ref d]}).objs.size],_,_,_,rfl,I3.kept (t':=s0.toks) (λb o e=>DU _ e),lU d (s0.heap.push {cls:=.type "dict_items",data:=.fields #[.ref d]}).objs.size hd hz hr (Ek (by rw[sz];exact Nat.lt_succ_of_lt hdl)) (G:=λH=>H d=some (.ext (phO d ob))) (λX' pins' σ' H' s' I' hG=>(show ObjOk X'.prog X'.w H' s'.heap d (.ext (phO d ob)) from I'.hok d _ hG).1),⟨_,_,D7 _ rfl⟩,λb hb=>?_,q⟩
 have e':b=(s0.heap.push {cls:=.type "dict_items",data:=.fields #[.ref d]}).objs.size:=by simpa using hb
 subst e';exact I3.fpOk (DZ _) hf
theorem wt(hp:PassesOwn (model X.prog X.w) X.A X.env X.xe)(hcalm:X.calm=true)(ho:PE X o (low X.K cls E2 to))(hbase:attributeBase o "items" X.env (eval o X.env)=eval o X.env)(hline:(apos.endLine == cpos.line)=true)(hg:PG X (.Tuple elts x1 pt) (kn X.K g))(hb:PSs X body (aP X.K cls E2 t))
  (hs:∀x,foldedSetIterable (.Call (.Attribute o "items" apos) [] [] cpos) X.env x=pure x) :
  PS X (.For (.Tuple elts x1 pt) (.Call (.Attribute o "items" apos) [] [] cpos) body [] pos) (aP X.K cls E2 λD E σ M=>to σ M (λx M1=>dm x M1 λd ks es=>∀φ,bU g (λD σ M=>t D (λ_ _ _=>False) σ M) (λM=>M d=some (.stl φ)) (f8 d φ ks es D) (aj ks es) σ (put M1 d (.stl φ))) (E σ)):=by
 refine λpins s σ H D2 I hl_=>ex9 hl_ λσ3 M D3 E3 rm ds0 lk h er=>?_
 refine thn (mW hp hcalm (j4 ho hbase hline) hg hb hs pins s σ H ⟨λσ' H'=>∃d ob xs,cu ob xs/\H' d=some (.ext (phO d ob))/\D2.nx σ' (upd H' d (.ext (ao d xs))),λv H'=>∃d ob xs,cu ob xs/\H' d=some (.ext (phO d ob))/\D2.rt v (upd H' d (.ext (ao d xs))),λσ' H'=>∃d ob xs,cu ob xs/\H' d=some (.ext (phO d ob))/\D2.bk σ' (upd H' d (.ext (ao d xs))),λσ' H'=>∃d ob xs,cu ob xs/\H' d=some (.ext (phO d ob))/\D2.ct σ' (upd H' d (.ext (ao d xs)))⟩ I ?_) λf s1 hf=>?_
 rotate_left
 ·cases f with
  |next=>
   obtain⟨σ',H',I',d,ob,xs,tb,e,q⟩:=hf;exact⟨σ',_,I'.movesT tb e,q⟩
  |brk=>
   obtain⟨σ',H',I',d,ob,xs,tb,e,q⟩:=hf;exact⟨σ',_,I'.movesT tb e,q⟩
  |cont=>
   obtain⟨σ',H',I',d,ob,xs,tb,e,q⟩:=hf;exact⟨σ',_,I'.movesT tb e,q⟩
  |ret u=>
   obtain⟨v,σ',H',I',r,d,ob,xs,tb,e,q⟩:=hf;exact⟨v,σ',_,I'.movesT tb e,r,q⟩
 refine aO rm ds0 (lk.at ds0) h λv H1 x M1 dx rm1 t1 q1=>?_
 unfold dm at q1;split at q1
 ·rename_i d;cases (show v=.ref d from dx);split at q1
  ·rename_i ks es em;obtain⟨vs,xs,ed,tk,dl⟩:=rm1 d _ em;refine⟨d,xs,vs,rfl,ed,tk.no,tk.vx,λob p0 tb hp0=>?_⟩
   have np:p0≠d:=λz=>by rw[z,ed]at hp0;cases hp0
   have tA:TM X.K H1 (upd H1 d (.ext (phO d ob))):=.put ed (λ_ z=>nomatch z) λ_ _ z=>nomatch z
   have tB:TM X.K H1 (upd (upd H1 d (.ext (phO d ob))) p0 (.ext λh=>h.IsItemsView p0 d)):=tA.trans (.new (by rw[aa np];exact hp0))
   have rmA:RelM X.K (put M1 d (.stl (phO d ob))) (upd H1 d (.ext (phO d ob))):=rm1.write (u:=.stl (phO d ob)) ed (λ_ z=>nomatch z) (λ_ _ z=>nomatch z) ad
   have rmB:=rmA.grow (p:=p0) (o:=.ext λh=>h.IsItemsView p0 d) (by rw[aa np];exact hp0)
   have q1:=q1 (phO d ob);have l1:=dl.length;have lx:xs.length=ks.length:=by rw[<-tk.kx];simp
   have lv:vs.length=xs.length:=by have:=tk.vx.length;simpa using this
   have li:(aj ks es).length=ks.length:=by simp[aj];omega
   have lp:(iR xs vs).length=ks.length:=by simp[iR];omega
   have bk:∀{M':MH}{H':Hp},RelM X.K M' H'->TM X.K H1 H'->M' d=some (.stl (phO d ob))->H' d=some (.ext (phO d ob))/\RelM X.K (put M' d (.dt ks es)) (upd H' d (.ext (ao d xs)))/\TM X.K H' (upd H' d (.ext (ao d xs))):=λ{M' H'} rm' tm' hM=>by
    have e:H' d=some (.ext (phO d ob)):=rm' d _ hM;have tm2:TM X.K H' (upd H' d (.ext (ao d xs))):=.put e (λ_ z=>nomatch z) λ_ _ z=>nomatch z
    refine⟨e,rm'.write e (λ_ z=>nomatch z) (λ_ _ z=>nomatch z) ⟨vs,xs,ad,⟨tk.kx,tk.nd,tk.sz,tk.no,tk.vx,λx hx=>tm2.t _ _ (tm'.t _ _ (tk.at_ x hx))⟩,dl.mono (tm'.trans tm2)⟩,tm2⟩
   have er2:ER X.K (upd (upd H1 d (.ext (phO d ob))) p0 (.ext λh=>h.IsItemsView p0 d)) (f8 d (phO d ob) ks es D3) ⟨λσ' H'=>∃d ob xs,cu ob xs/\H' d=some (.ext (phO d ob))/\D2.nx σ' (upd H' d (.ext (ao d xs))),λv H'=>∃d ob xs,cu ob xs/\H' d=some (.ext (phO d ob))/\D2.rt v (upd H' d (.ext (ao d xs))),λσ' H'=>∃d ob xs,cu ob xs/\H' d=some (.ext (phO d ob))/\D2.bk σ' (upd H' d (.ext (ao d xs))),λσ' H'=>∃d ob xs,cu ob xs/\H' d=some (.ext (phO d ob))/\D2.ct σ' (upd H' d (.ext (ao d xs)))⟩:=by
    refine⟨λσ' H' σ3' M' r d' tm q=>?_,λv H' d' M' dv r tm q=>?_,λσ' H' σ3' M' r d' tm q=>?_,λσ' H' σ3' M' r d' tm q=>?_⟩
    ·obtain⟨z1,z2,z3⟩:=bk r (tB.trans tm) q.1;exact⟨d,ob,xs,tb,z1,er.nx _ _ _ _ z2 (d'.mono z3) (t1.trans ((tB.trans tm).trans z3)) q.2⟩
    ·obtain⟨z1,z2,z3⟩:=bk r (tB.trans tm) q.1;exact⟨d,ob,xs,tb,z1,er.rt _ _ _ _ (dv.mono z3) z2 (t1.trans ((tB.trans tm).trans z3)) q.2⟩
    ·obtain⟨z1,z2,z3⟩:=bk r (tB.trans tm) q.1;exact⟨d,ob,xs,tb,z1,er.bk _ _ _ _ z2 (d'.mono z3) (t1.trans ((tB.trans tm).trans z3)) q.2⟩
    ·obtain⟨z1,z2,z3⟩:=bk r (tB.trans tm) q.1;exact⟨d,ob,xs,tb,z1,er.ct _ _ _ _ z2 (d'.mono z3) (t1.trans ((tB.trans tm).trans z3)) q.2⟩
   generalize hH2:upd (upd H1 d (.ext (phO d ob))) p0 (.ext λh=>h.IsItemsView p0 d)=H2 at *
   refine⟨λi m σc H'=>∃σ3c M',m=(aj ks es).length-i/\i<=(aj ks es).length/\RelM X.K M' H'/\DenS X.K H' σ3c σc/\TM X.K H2 H'/\bU g (λD σ M=>t D (λ_ _ _=>False) σ M) (λM=>M d=some (.stl (phO d ob))) (f8 d (phO d ob) ks es D3) ((aj ks es).drop i) σ3c M',
    ⟨_,_,_,rfl,Nat.zero_le _,rmB,ds0.mono (t1.trans tB),.refl _,q1⟩,?_⟩
   rintro i m σc H' ⟨σ3c,M',rfl,hil,rm',ds',tm',q⟩;by_cases hlt:i<(aj ks es).length
   ·rw[List.drop_eq_getElem_cons hlt]at q;obtain⟨s',q⟩:=q;refine .inr ⟨⟨rm' d _ s',by omega⟩,λσ4 H4=>∃σ34 M4,RelM X.K M4 H4/\DenS X.K H4 σ34 σ4/\TM X.K H2 H4/\bU g (λD σ M=>t D (λ_ _ _=>False) σ M) (λM=>M d=some (.stl (phO d ob))) (f8 d (phO d ob) ks es D3) ((aj ks es).drop (i+1)) σ34 M4,?_,?_⟩
    ·rintro σ4 H4 ⟨σ34,M4,e1,e2,e3,e4⟩;exact⟨(aj ks es).length-(i+1),by omega,σ34,M4,rfl,hlt,e1,e2,e3,e4⟩
    ·intro x H3 y;obtain⟨pp,rfl,hpp,kv,hkv,rfl⟩:=y;have tm2:TM X.K H' (upd H' pp (.tup [kv.1,kv.2])):=.new hpp;unfold iR at hkv;rw[Ef]at hkv;cases hz:(xs.zip vs)[i]? with
     |none=>rw[hz]at hkv;cases hkv
     |some kw=>
      rw[hz]at hkv;have hkv:(V.ref kw.1.2.1,kw.2)=kv:=by simpa using hkv
      obtain⟨a1,a2⟩:=List.getElem?_zip_eq_some.mp hz;have tmA:=tB.trans tm';obtain⟨dd,b1,b2⟩:=(dl.mono tmA).get' a2;have hk:ks[i]?=some kw.1.1:=by rw[<-tk.kx,Ef,a1];rfl
      have ei:(aj ks es)[i]=.tup [.tup (kw.1.1.map D.int),dd]:=by
       have:(aj ks es)[i]?=some (.tup [.tup (kw.1.1.map D.int),dd]):=by
        have ez:(ks.zip es)[i]?=some (kw.1.1,dd):=List.getElem?_zip_eq_some.mpr ⟨hk,b1⟩;unfold aj;rw[Ef,ez];rfl
       rw[Et hlt]at this;exact D9 this
      have dv:Den X.K (upd H' pp (.tup [kv.1,kv.2])) ((aj ks es)[i]) (.ref pp):=by
       rw[ei,<-hkv];exact⟨pp,[.ref kw.1.2.1,kw.2],rfl,.inl (.inl ad),⟨_,_,rfl,⟨kw.1.2.1,kw.1.1.map V.int,rfl,TM.t (.new hpp) _ _ (tmA.t _ _ (tk.at_ kw.1 (EV a1))),DenL.of_int⟩,_,_,rfl,b2.mono (.new hpp),rfl⟩⟩
      refine⟨_,σ3c,M',_,dv,rm'.grow hpp,ds'.mono tm2,q,λσ5 H5 σ35 M5 rm5 ds5 tm5 q5=>?_⟩
      have tmC:TM X.K H2 H5:=(tm'.trans tm2).trans tm5;exact⟨σ35,M5,_,_,rm5,ds5,(λ_ _ _ _ _ _ _ _ h=>h.elim),q5,⟨λσ6 H6 σ36 M6 rm6 ds6 tm6 q6=>⟨σ36,M6,rm6,ds6,tmC.trans tm6,q6⟩,λv H6 d6 M6 dv6 rm6 tm6 q6=>er2.rt v H6 d6 M6 dv6 rm6 (tmC.trans tm6) q6,
       λσ6 H6 σ36 M6 rm6 ds6 tm6 q6=>er2.nx σ6 H6 σ36 M6 rm6 ds6 (tmC.trans tm6) q6,λσ6 H6 σ36 M6 rm6 ds6 tm6 q6=>⟨σ36,M6,rm6,ds6,tmC.trans tm6,q6⟩⟩⟩
   ·have e:i=(aj ks es).length:=by omega
    subst e;rw[List.drop_length]at q;exact .inl ⟨⟨rm' d _ q.1,by omega⟩,er2.nx _ _ _ _ rm' ds' tm' q.2⟩
  ·exact q1.elim
 ·exact q1.elim
end
end L2
namespace L2
open PySem PySem.Spec PyProof.Rows PySem.W
noncomputable def zl(G:Hp->Prop)(vs:List V):It:=⟨λi H=>G H/\i<vs.length,λi H v H'=>H'=H/\vs[i]?=some v,λi H=>G H/\vs.length<=i⟩
theorem nV{K:E7}(d it:Addr){o:Obj}{vs:List V}{es:Array DictEntry}(hd:o.data=.dict es ep)(hz:es.size=vs.length)
  (hr:∀(i:Nat) v e,vs[i]?=some v->es[i]?=some e->RelV v e.key) (hne:d≠it) (hG:∀(X:Cx) (pins:List (Addr×Obj)) (σ:St)(H:Hp)(s:Shared),Inv X pins σ H s->G H->s.heap.get? d=some o):Turn P w K tg (zl G vs) [it] it (λi h=>h.IsKeyIter it d i es.size ep) where
 mem:=by simp
 obj:=λi h st b hb=>by
  obtain⟨o1,h1,h2,h3⟩:=st;have e':b=it:=by simpa using hb
  subst e';exact⟨_,h1,λv z=>by rw[h3]at z;cases z⟩
 keep:=λi h h' st k=>st.at λo e=>k it (by simp) o e
 item:=by
  intro X hP hw hK hc i pins s σ H E I hf st hg;subst hP hw hK;obtain⟨hu,hi⟩:=hg;have he:es[i]?=some es[i]:=by simp[show i<es.size by omega]
  have hp':vs[i]?=some vs[i]:=by simp[hi]
  have rk:=hr i _ _ hp' he;obtain⟨f0,f1,f2,f3,f4,f5⟩:=hf it (by simp)
  refine me st (hG _ _ _ _ _ I hu) hd he λh' hit' hs'=>?_
  have I2:Inv X pins σ H {s with heap:=h',toks:=s.toks}:=I.turned (t':=s.toks) (λb o hb e1=>hs'.extBut b o hb e1) f0 f1 f3 f4 f5
  refine⟨_,rfl,letGo_keyiter (s':={s with heap:=h'}) hit' ?_⟩
  refine⟨vs[i],H,I2,rk,⟨rfl,hp'⟩,hit',λb hb=>?_⟩
  have e':b=it:=by simpa using hb
  subst e';exact f0
 done:=by
  intro X hP hw hK hc i pins s σ H E I hf st hg;subst hP hw hK;obtain⟨hu,hi⟩:=hg;obtain⟨f0,f1,f2,f3,f4,f5⟩:=hf it (by simp)
  exact lV (I.ok.hd hc) st (hG _ _ _ _ _ I hu) hd (by omega) λh' eb=>⟨rfl,I.turned (t':=s.toks) (λb o hb e=>eb b o hb e) f0 f1 f3 f4 f5⟩
 self:=λ_ _ _ _ _ st h=>wpAny_pyIter_keyiter st h
noncomputable def kvT(xs:List (List Int×Addr×Value)):List V:=xs.map λx=>.ref x.2.1
noncomputable def wk(X:Cx)(t2:TE):TI:=λσ H R=>t2 σ H λv H1=>∃d xs,v=.ref d/\H1 d=some (.ext (ao d xs))/\(d == sysModules)=false/\∀ob,cu ob xs->R (zl (λH=>H d=some (.ext (phO d ob))) (kvT xs)) (upd H1 d (.ext (phO d ob)))
section
variable {X:Cx}
theorem qT(ho:PE X o t2):PI X tg o (wk X t2):=by
 intro pins s σ H R I h;refine thn (ho pins s σ H _ I h) λv s0 ⟨x,H1,I1,r1,d,xs,e1,e3,nm,q⟩=>?_
 subst e1;cases r1;obtain⟨ob,tb,I2,go⟩:=I1.stillT e3;obtain⟨es,ep,xd,hd,he⟩:=id tb;have l1:es.size=xs.length:=by have:=congrArg List.length he;simpa using this
 have hz:es.size=(kvT xs).length:=by simp[kvT];omega
 have hr:∀(i:Nat) v e,(kvT xs)[i]?=some v->es[i]?=some e->RelV v e.key:=λi v e h1 h2=>by
  unfold kvT at h1;rw[Ef]at h1;cases a1:xs[i]? with
  |none=>rw[a1]at h1;cases h1
  |some q=>
   rw[a1]at h1;cases h1;have h3:es.toList[i]?=some e:=by simpa using h2
   rw[he,Ef,a1]at h3;cases h3;rfl
 have hdl:d<s0.heap.objs.size:=D1 go;refine vz nm go xd hd ?_;have hf:=I2.hok.fresh (DZ s0.heap.objs.size);refine⟨_,[s0.heap.objs.size],_,_,_,rfl,I2.kept (t':=s0.toks) (λb o e=>DU _ e),nV d s0.heap.objs.size hd hz hr (Ek hdl) (G:=λH=>H d=some (.ext (phO d ob))) (λX' pins' σ' H' s' I' hG=>(show ObjOk X'.prog X'.w H' s'.heap d (.ext (phO d ob)) from I'.hok d _ hG).1),⟨_,D7 _ rfl,rfl,rfl⟩,λb hb=>?_,q ob tb⟩
 have e':b=s0.heap.objs.size:=by simpa using hb
 subst e';exact I2.fpOk (DZ _) hf
theorem xo(hp:PassesOwn (model X.prog X.w) X.A X.env X.xe)(hcalm:X.calm=true)(ho:PE X o (low X.K cls E2 to))(hg:PG X tg (kn X.K g))(hb:PSs X body (aP X.K cls E2 t))
  (hs:∀x,foldedSetIterable o X.env x=pure x) :
  PS X (.For tg o body [] pos) (aP X.K cls E2 λD E σ M=>to σ M (λx M1=>dm x M1 λd ks es=>∀φ,bU g (λD σ M=>t D (λ_ _ _=>False) σ M) (λM=>M d=some (.stl φ)) (f8 d φ ks es D) (ks.map c6) σ (put M1 d (.stl φ))) (E σ)):=by
 refine λpins s σ H D2 I hl_=>ex9 hl_ λσ3 M D3 E3 rm ds0 lk h er=>?_
 refine thn (mW hp hcalm (qT ho) hg hb hs pins s σ H ⟨λσ' H'=>∃d ob xs,cu ob xs/\H' d=some (.ext (phO d ob))/\D2.nx σ' (upd H' d (.ext (ao d xs))),λv H'=>∃d ob xs,cu ob xs/\H' d=some (.ext (phO d ob))/\D2.rt v (upd H' d (.ext (ao d xs))),λσ' H'=>∃d ob xs,cu ob xs/\H' d=some (.ext (phO d ob))/\D2.bk σ' (upd H' d (.ext (ao d xs))),λσ' H'=>∃d ob xs,cu ob xs/\H' d=some (.ext (phO d ob))/\D2.ct σ' (upd H' d (.ext (ao d xs)))⟩ I ?_) λf s1 hf=>?_
 rotate_left
 ·cases f with
  |next=>
   obtain⟨σ',H',I',d,ob,xs,tb,e,q⟩:=hf;exact⟨σ',_,I'.movesT tb e,q⟩
  |brk=>
   obtain⟨σ',H',I',d,ob,xs,tb,e,q⟩:=hf;exact⟨σ',_,I'.movesT tb e,q⟩
  |cont=>
   obtain⟨σ',H',I',d,ob,xs,tb,e,q⟩:=hf;exact⟨σ',_,I'.movesT tb e,q⟩
  |ret u=>
   obtain⟨v,σ',H',I',r,d,ob,xs,tb,e,q⟩:=hf;exact⟨v,σ',_,I'.movesT tb e,r,q⟩
 refine aO rm ds0 (lk.at ds0) h λv H1 x M1 dx rm1 t1 q1=>?_
 unfold dm at q1;split at q1
 ·rename_i d;cases (show v=.ref d from dx);split at q1
  ·rename_i ks es em;obtain⟨vs,xs,ed,tk,dl⟩:=rm1 d _ em;refine⟨d,xs,rfl,ed,tk.no,λob tb=>?_⟩
   have tA:TM X.K H1 (upd H1 d (.ext (phO d ob))):=.put ed (λ_ z=>nomatch z) λ_ _ z=>nomatch z
   have rmA:RelM X.K (put M1 d (.stl (phO d ob))) (upd H1 d (.ext (phO d ob))):=rm1.write (u:=.stl (phO d ob)) ed (λ_ z=>nomatch z) (λ_ _ z=>nomatch z) ad
   have q1:=q1 (phO d ob);have l1:=dl.length;have lx:xs.length=ks.length:=by rw[<-tk.kx];simp
   have lv:vs.length=xs.length:=by have:=tk.vx.length;simpa using this
   have li:(ks.map c6).length=ks.length:=by simp
   have lp:(kvT xs).length=ks.length:=by simp[kvT];omega
   have bk:∀{M':MH}{H':Hp},RelM X.K M' H'->TM X.K H1 H'->M' d=some (.stl (phO d ob))->H' d=some (.ext (phO d ob))/\RelM X.K (put M' d (.dt ks es)) (upd H' d (.ext (ao d xs)))/\TM X.K H' (upd H' d (.ext (ao d xs))):=λ{M' H'} rm' tm' hM=>by
    have e:H' d=some (.ext (phO d ob)):=rm' d _ hM;have tm2:TM X.K H' (upd H' d (.ext (ao d xs))):=.put e (λ_ z=>nomatch z) λ_ _ z=>nomatch z
    refine⟨e,rm'.write e (λ_ z=>nomatch z) (λ_ _ z=>nomatch z) ⟨vs,xs,ad,⟨tk.kx,tk.nd,tk.sz,tk.no,tk.vx,λx hx=>tm2.t _ _ (tm'.t _ _ (tk.at_ x hx))⟩,dl.mono (tm'.trans tm2)⟩,tm2⟩
   have er2:ER X.K (upd H1 d (.ext (phO d ob))) (f8 d (phO d ob) ks es D3) ⟨λσ' H'=>∃d ob xs,cu ob xs/\H' d=some (.ext (phO d ob))/\D2.nx σ' (upd H' d (.ext (ao d xs))),λv H'=>∃d ob xs,cu ob xs/\H' d=some (.ext (phO d ob))/\D2.rt v (upd H' d (.ext (ao d xs))),λσ' H'=>∃d ob xs,cu ob xs/\H' d=some (.ext (phO d ob))/\D2.bk σ' (upd H' d (.ext (ao d xs))),λσ' H'=>∃d ob xs,cu ob xs/\H' d=some (.ext (phO d ob))/\D2.ct σ' (upd H' d (.ext (ao d xs)))⟩:=by
    refine⟨λσ' H' σ3' M' r d' tm q=>?_,λv H' d' M' dv r tm q=>?_,λσ' H' σ3' M' r d' tm q=>?_,λσ' H' σ3' M' r d' tm q=>?_⟩
    ·obtain⟨z1,z2,z3⟩:=bk r (tA.trans tm) q.1;exact⟨d,ob,xs,tb,z1,er.nx _ _ _ _ z2 (d'.mono z3) (t1.trans ((tA.trans tm).trans z3)) q.2⟩
    ·obtain⟨z1,z2,z3⟩:=bk r (tA.trans tm) q.1;exact⟨d,ob,xs,tb,z1,er.rt _ _ _ _ (dv.mono z3) z2 (t1.trans ((tA.trans tm).trans z3)) q.2⟩
    ·obtain⟨z1,z2,z3⟩:=bk r (tA.trans tm) q.1;exact⟨d,ob,xs,tb,z1,er.bk _ _ _ _ z2 (d'.mono z3) (t1.trans ((tA.trans tm).trans z3)) q.2⟩
    ·obtain⟨z1,z2,z3⟩:=bk r (tA.trans tm) q.1;exact⟨d,ob,xs,tb,z1,er.ct _ _ _ _ z2 (d'.mono z3) (t1.trans ((tA.trans tm).trans z3)) q.2⟩
   generalize hH2:upd H1 d (.ext (phO d ob))=H2 at *
   refine⟨λi m σc H'=>∃σ3c M',m=(ks.map c6).length-i/\i<=(ks.map c6).length/\RelM X.K M' H'/\DenS X.K H' σ3c σc/\TM X.K H2 H'/\bU g (λD σ M=>t D (λ_ _ _=>False) σ M) (λM=>M d=some (.stl (phO d ob))) (f8 d (phO d ob) ks es D3) ((ks.map c6).drop i) σ3c M',
    ⟨_,_,_,rfl,Nat.zero_le _,rmA,ds0.mono (t1.trans tA),.refl _,q1⟩,?_⟩
   rintro i m σc H' ⟨σ3c,M',rfl,hil,rm',ds',tm',q⟩;by_cases hlt:i<(ks.map c6).length
   ·rw[List.drop_eq_getElem_cons hlt]at q;obtain⟨s',q⟩:=q;refine .inr ⟨⟨rm' d _ s',by omega⟩,λσ4 H4=>∃σ34 M4,RelM X.K M4 H4/\DenS X.K H4 σ34 σ4/\TM X.K H2 H4/\bU g (λD σ M=>t D (λ_ _ _=>False) σ M) (λM=>M d=some (.stl (phO d ob))) (f8 d (phO d ob) ks es D3) ((ks.map c6).drop (i+1)) σ34 M4,?_,?_⟩
    ·rintro σ4 H4 ⟨σ34,M4,e1,e2,e3,e4⟩;exact⟨(ks.map c6).length-(i+1),by omega,σ34,M4,rfl,hlt,e1,e2,e3,e4⟩
    ·intro x H3 y;obtain⟨rfl,hkv⟩:=y;unfold kvT at hkv;rw[Ef]at hkv;cases a1:xs[i]? with
     |none=>rw[a1]at hkv;cases hkv
     |some kw=>
      rw[a1]at hkv;cases hkv;have tmA:=tA.trans tm';have hk:ks[i]?=some kw.1:=by rw[<-tk.kx,Ef,a1];rfl
      have ei:(ks.map c6)[i]=.tup (kw.1.map D.int):=by
       have:(ks.map c6)[i]?=some (.tup (kw.1.map D.int)):=by
        rw[Ef,hk];rfl
       rw[Et hlt]at this;exact D9 this
      have dv:Den X.K H3 ((ks.map c6)[i]) (.ref kw.2.1):=by
       rw[ei];exact⟨kw.2.1,kw.1.map V.int,rfl,tmA.t _ _ (tk.at_ kw (EV a1)),DenL.of_int⟩
      refine⟨_,σ3c,M',_,dv,rm',ds',q,λσ5 H5 σ35 M5 rm5 ds5 tm5 q5=>?_⟩
      have tmC:TM X.K H2 H5:=tm'.trans tm5;exact⟨σ35,M5,_,_,rm5,ds5,(λ_ _ _ _ _ _ _ _ h=>h.elim),q5,⟨λσ6 H6 σ36 M6 rm6 ds6 tm6 q6=>⟨σ36,M6,rm6,ds6,tmC.trans tm6,q6⟩,λv H6 d6 M6 dv6 rm6 tm6 q6=>er2.rt v H6 d6 M6 dv6 rm6 (tmC.trans tm6) q6,
       λσ6 H6 σ36 M6 rm6 ds6 tm6 q6=>er2.nx σ6 H6 σ36 M6 rm6 ds6 (tmC.trans tm6) q6,λσ6 H6 σ36 M6 rm6 ds6 tm6 q6=>⟨σ36,M6,rm6,ds6,tmC.trans tm6,q6⟩⟩⟩
   ·have e:i=(ks.map c6).length:=by omega
    subst e;rw[List.drop_length]at q;exact .inl ⟨⟨rm' d _ q.1,by omega⟩,er2.nx _ _ _ _ rm' ds' tm' q.2⟩
  ·exact q1.elim
 ·exact q1.elim
end
end L2
namespace L2
open PySem PySem.Spec PyProof.Rows
section
variable {X:Cx}{cls:Nat->Addr}{E2:St->XK}{tg o:Expr}
end
section
variable {X:Cx}{apos cpos:Pos}
theorem vi(hok:cq N js scope X.env.scope X.N=true)(hcalm:X.calm=true)(ho:PE X o (low X.K cls E2 to))(hbase:attributeBase o "items" X.env (eval o X.env)=eval o X.env)(hline:(apos.endLine == cpos.line)=true)
  (hg:∀C s2 H2 fp pn,PG (compCx X scope C N s2 H2 fp pn) (.Tuple elts x1 pt) (kn X.K g)) (ht:∀C s2 H2 fp pn,PIf (compCx X scope C N s2 H2 fp pn) ifs (bC X.K cls no2 tt)) (he:∀C s2 H2 fp pn,PE (compCx X scope C N s2 H2 fp pn) elt (low X.K cls no2 te))
  (hs:∀x,foldedSetIterable (.Call (.Attribute o "items" apos) [] [] cpos) X.env x=pure x) :
  PE X (.ListComp elt [⟨.Tuple elts x1 pt,.Call (.Attribute o "items" apos) [] [] cpos,ifs,0⟩] scope pos) (low X.K cls E2 λσ M Q E=>to σ M (λx M1=>dm x M1 λd ks es=>∀φ p,M1 p=none->
   bv g (λσ M Q=>tt σ M Q (λ_ _=>False)) (λσ M Q=>te σ M Q (λ_ _=>False)) (λM=>M d=some (.stl φ)) p (λy M2=>Q y (put M2 d (.dt ks es))) (aj ks es) [] (ay js σ) (put (put M1 d (.stl φ)) p (.lst []))) E):=by
 refine λpins s σ H Q2 I hl_=>ex9 hl_ λσ3 M Q E3 rm ds lk h back=>?_
 refine thn (oz (q:=false) hok hcalm (j4 ho hbase hline) hg ht he hs pins s σ H (λv H'=>∃d ob xs,cu ob xs/\H' d=some (.ext (phO d ob))/\Q2 v (upd H' d (.ext (ao d xs)))) I ?_) λu s1 ⟨v,H',I',r,d,ob,xs,tb,e,q⟩=>⟨v,_,I'.movesT tb e,r,q⟩
 refine aO rm ds lk h λv H1 x M1 dx rm1 t1 q1=>?_
 unfold dm at q1;split at q1
 ·rename_i d;cases (show v=.ref d from dx);split at q1
  ·rename_i ks es em;obtain⟨vs,xs,ed,tk,dl⟩:=rm1 d _ em;refine⟨d,xs,vs,rfl,ed,tk.no,tk.vx,λob p0 tb hp0 p hp=>?_⟩
   have np:p0≠d:=λz=>by rw[z,ed]at hp0;cases hp0
   have tA:TM X.K H1 (upd H1 d (.ext (phO d ob))):=.put ed (λ_ z=>nomatch z) λ_ _ z=>nomatch z
   have tB:TM X.K H1 (upd (upd H1 d (.ext (phO d ob))) p0 (.ext λh=>h.IsItemsView p0 d)):=tA.trans (.new (by rw[aa np];exact hp0))
   have rmA:RelM X.K (put M1 d (.stl (phO d ob))) (upd H1 d (.ext (phO d ob))):=rm1.write (u:=.stl (phO d ob)) ed (λ_ z=>nomatch z) (λ_ _ z=>nomatch z) ad
   have rmB:=rmA.grow (p:=p0) (o:=.ext λh=>h.IsItemsView p0 d) (by rw[aa np];exact hp0)
   have hpd:p≠d:=λz=>by rw[z,aa (Ea np),ad]at hp;cases hp
   have hp1:H1 p=none:=by
    by_cases w:p=p0
    ·rw[w];exact hp0
    ·rw[aa w,aa hpd]at hp;exact hp
   have q1:=q1 (phO d ob) p (rm1.fresh hp1);generalize hH2:upd (upd H1 d (.ext (phO d ob))) p0 (.ext λh=>h.IsItemsView p0 d)=H2 at *
   generalize hφ:phO d ob=φ at *
   have l1:=dl.length;have lx:xs.length=ks.length:=by rw[<-tk.kx];simp
   have lv:vs.length=xs.length:=by have:=tk.vx.length;simpa using this
   have li:(aj ks es).length=ks.length:=by simp[aj];omega
   have lp:(iR xs vs).length=ks.length:=by simp[iR];omega
   refine⟨λi m σc H'=>∃σ3c ys M',m=(aj ks es).length-i/\i<=(aj ks es).length/\RelM X.K M' H'/\DenS X.K H' σ3c σc/\TM X.K H2 H'/\bv g (λσ M Q=>tt σ M Q (λ_ _=>False)) (λσ M Q=>te σ M Q (λ_ _=>False)) (λM=>M d=some (.stl φ)) p (λy M2=>Q y (put M2 d (.dt ks es))) ((aj ks es).drop i) ys σ3c M',
    ⟨_,_,[],_,rfl,Nat.zero_le _,rmB.lay (u:=.lst []) hp ⟨[],ad,.nil⟩,(mw ds).mono ((t1.trans tB).trans (.new hp)),.new hp,q1⟩,?_⟩
   rintro i m σc H' ⟨σ3c,ys,M',rfl,hil,rm',ds',tm',q⟩;by_cases hlt:i<(aj ks es).length
   ·rw[List.drop_eq_getElem_cons hlt]at q;obtain⟨s',hl,q⟩:=q;refine .inr ⟨⟨rm' d _ s',by omega⟩,λx H3 y=>?_⟩
    obtain⟨pp,rfl,hpp,kv,hkv,rfl⟩:=y;have tm2:TM X.K H' (upd H' pp (.tup [kv.1,kv.2])):=.new hpp;unfold iR at hkv;rw[Ef]at hkv;cases hz:(xs.zip vs)[i]? with
    |none=>rw[hz]at hkv;cases hkv
    |some kw=>
     rw[hz]at hkv;have hkv:(V.ref kw.1.2.1,kw.2)=kv:=by simpa using hkv
     obtain⟨a1,a2⟩:=List.getElem?_zip_eq_some.mp hz;have tmB:=tB.trans tm';obtain⟨dd,b1,b2⟩:=(dl.mono tmB).get' a2;have hk:ks[i]?=some kw.1.1:=by rw[<-tk.kx,Ef,a1];rfl
     have ei:(aj ks es)[i]=.tup [.tup (kw.1.1.map D.int),dd]:=by
      have:(aj ks es)[i]?=some (.tup [.tup (kw.1.1.map D.int),dd]):=by
       have ez:(ks.zip es)[i]?=some (kw.1.1,dd):=List.getElem?_zip_eq_some.mpr ⟨hk,b1⟩;unfold aj;rw[Ef,ez];rfl
      rw[Et hlt]at this;exact D9 this
     have dv:Den X.K (upd H' pp (.tup [kv.1,kv.2])) ((aj ks es)[i]) (.ref pp):=by
      rw[ei,<-hkv];exact⟨pp,[.ref kw.1.2.1,kw.2],rfl,.inl (.inl ad),⟨_,_,rfl,⟨kw.1.2.1,kw.1.1.map V.int,rfl,TM.t (.new hpp) _ _ (tmB.t _ _ (tk.at_ kw.1 (EV a1))),DenL.of_int⟩,_,_,rfl,b2.mono (.new hpp),rfl⟩⟩
     refine⟨_,σ3c,M',_,dv,rm'.grow hpp,ds'.mono tm2,q,λσ5 H5 σ35 M5 rm5 ds5 tm5 q5=>?_⟩
     refine⟨σ35,M5,_,_,rm5,ds5,LkE.no,q5,λb H6 M6 rm6 tm6 q6=>?_⟩
     have tmA:TM X.K H2 H6:=((tm'.trans tm2).trans tm5).trans tm6;cases b with
     |true=>
      rw[DY rfl]at q6;dsimp only;rw[DY rfl];refine⟨σ35,M6,_,_,rm6,ds5.mono tm6,LkE.no,q6,λv H7 y M7 dy rm7 tm7 ⟨e7,q7⟩=>?_⟩
      obtain⟨ws,f7,dl7⟩:=rm7 p _ e7;have tw:TM X.K H7 (upd H7 p (.lst (ws++[v]))):=.put f7 (λ_=>λz=>nomatch z) λ_ _=>λz=>nomatch z
      exact⟨ws,f7,by rw[<-dl7.length];exact hl,(aj ks es).length-(i+1),by omega,σ35,ys++[y],_,rfl,hlt,rm7.write (u:=.lst (ys++[y])) f7 (λ_=>λz=>nomatch z) (λ_ _=>λz=>nomatch z) ⟨_,ad,(dl7.append (.one dy)).mono tw⟩,((ds5.mono tm6).mono tm7).mono tw,(tmA.trans tm7).trans tw,q7⟩
     |false=>
      rw[DV D8]at q6;dsimp only;rw[DV D8];exact⟨(aj ks es).length-(i+1),by omega,σ35,ys,M6,rfl,hlt,rm6,ds5.mono tm6,tmA,q6⟩
   ·have e:i=(aj ks es).length:=by omega
    subst e;rw[List.drop_length]at q;obtain⟨s',q⟩:=q;have ed':H' d=some (.ext φ):=rm' d _ s';have tC:TM X.K H' (upd H' d (.ext (ao d xs))):=.put ed' (λ_ z=>nomatch z) λ_ _ z=>nomatch z
    refine .inl ⟨⟨ed',by omega⟩,d,ob,xs,tb,by rw[hφ];exact ed',?_⟩
    exact back _ _ _ _ dW (rm'.write (u:=.dt ks es) ed' (λ_ z=>nomatch z) (λ_ _ z=>nomatch z) ⟨vs,xs,ad,⟨tk.kx,tk.nd,tk.sz,tk.no,tk.vx,λx hx=>tC.t _ _ ((tB.trans tm').t _ _ (tk.at_ x hx))⟩,dl.mono ((tB.trans tm').trans tC)⟩) (((t1.trans tB).trans tm').trans tC) q
  ·exact q1.elim
 ·exact q1.elim
end
structure Cfg where
 N:List Str
 sc:Scope
 fns:List (Option Str×Nat)
 exc:List Str
 kln:List Str
 gln:List Str
 xin:List (Nat×Nat)
 calm:Bool
 soft:Bool:=false
 sfl:List Nat:=[]
 own:Bool
 tr:Bool
 fn:Bool
 cel:List (Str×NameKind):=[]
noncomputable def glB(c:Cfg)(x:Str):Bool:=c.sc.names.lookup x == some .globalImplicit
noncomputable def xP(sc:Scope)(x:Str):Bool:=match sc.names.lookup x with
 |some .local=>true
 |some .cell=>true
 |some .free=>true
 |_=>false
noncomputable def uH(c:Cfg)(x:Str):Bool:=c.sc.names.lookup x == some .local||(c.fn&&c.sc.names.lookup x == some .cell)||(c.cel.lookup x == some .cell&&c.sc.names.lookup x == some .cell)
noncomputable def dJ:Expr->Bool
 |.Starred ..=>false
 |_=>true
noncomputable def kT:Expr->Bool
 |.Set ..=>false
 |_=>true
noncomputable def mD:Expr->Bool
 |.ListComp ..=>false
 |.SetComp ..=>false
 |.DictComp ..=>false
 |_=>true
noncomputable def Ai:Expr->Bool
 |.Tuple ..=>false
 |_=>true
noncomputable def kH:Expr->Bool
 |.Slice ..=>false
 |_=>true
noncomputable def vI:Expr->Bool
 |.Call ..=>false
 |_=>true
noncomputable def jd:Expr->Bool
 |.Call (.Name _ _) [] [] _=>false
 |_=>true
noncomputable def ou:Expr->Bool
 |.UnaryOp ..=>false
 |.BoolOp ..=>false
 |.IfExp ..=>false
 |.Compare ..=>false
 |_=>true
noncomputable def iZ:BI->String
 |.len=>"len"|.min=>"min"|.list _=>"list"|.all=>"all"|.any=>"any"
noncomputable def i5:BM->String
 |.get=>"get"|.cleard=>"clear"|.extend=>"extend"
noncomputable def biNames:List Str:=["len","abs","max","min","str","list","tuple","isinstance","range","int","bool","dict","ValueError","enumerate","all","any","sum","zip","reversed","sorted"]
noncomputable def xa(sc osc:Scope):Scope:={sc with names:=sc.names.map λ(n,k)=>if (k == .free&&osc.kind == .function&&osc.names.lookup n == some .cell) then (n,.cell) else (n,k)}
noncomputable def Cfg.comp(c:Cfg)(N:List Str)(sc:Scope):Cfg:={c with N:=N,sc:=xa sc c.sc,soft:=false,own:=false,tr:=false,fn:=false,cel:=sc.names}
noncomputable def Cfg.trying(c:Cfg):Cfg:={c with own:=false}
noncomputable def Cfg.caught(c:Cfg):Cfg:={c with calm:=false,soft:=c.calm,own:=false,tr:=false}
noncomputable def sq:II->Bool
 |_=>false
noncomputable def biS:BI->Bool
 |_=>false
noncomputable def okG(c:Cfg):ITg->Expr->Bool
 |.name i,e=>match e with
  |.Name x _=>(c.N[i]? == some x)&&uH c x
  |_=>false
 |.tup is,e=>match e with
  |.Tuple es _ _=>c.calm&&cb c.N c.sc c.fn is es
  |_=>false
noncomputable def yB:II->Expr->Bool
 |_,_=>true
mutual
noncomputable def okE:IE->Cfg->Expr->Bool
 |.var i,c,e=>match e with
  |.Name x _=>(c.N[i]? == some x)&&xP c.sc x&&!(x == ("__debug__" : Str))&&!(x == ("__classdict__" : Str))
  |_=>false
 |.con d,_,e=>match e with
  |.Constant k _ _=>match k,d with
   |.int i,.int j=>decide (i=j)
   |.bool i,.bl j=>decide (i=j)
   |.none,.non=>true
   |.str i,.str j=>decide (i=j)
   |_,_=>false
  |_=>false
 |.bin op a b,c,e=>match e with
  |.BinOp x op' y _=>decide (op=op')&&okE a c x&&okE b c y
  |_=>false
 |.neg a,c,e=>match e with
  |.UnaryOp op x _=>decide (op=.USub)&&okE a c x
  |_=>false
 |.cat _ a b,c,e=>match e with
  |.BinOp x op' y _=>decide (op'=.Add)&&okE a c x&&okE b c y
  |_=>false
 |.cmp op a b,c,e=>match e with
  |.Compare x [op'] [y] _=>decide (op=op')&&kT y&&okE a c x&&okE b c y
  |_=>false
 |.and a b,c,e=>match e with
  |.BoolOp op (x::y::r) p=>decide (op=.And)&&okE a c x&&(match r with|[]=>okE b c y|_::_=>okE b c (.BoolOp .And (y::r) p))
  |_=>false
 |.or a b,c,e=>match e with
  |.BoolOp op (x::y::r) p=>decide (op=.Or)&&okE a c x&&(match r with|[]=>okE b c y|_::_=>okE b c (.BoolOp .Or (y::r) p))
  |_=>false
 |.not a,c,e=>match e with
  |.UnaryOp op x _=>decide (op=.Not)&&okE a c x
  |_=>false
 |.ifx t a b,c,e=>match e with
  |.IfExp x y z _=>okT t c x&&okE a c y&&okE b c z
  |_=>false
 |.tup es,c,e=>match e with
  |.Tuple xs _ _=>okA es c xs
  |_=>false
 |.lst _ es,c,e=>match e with
  |.List xs _=>okA es c xs
  |_=>false
 |.frz a,c,e=>okE a c e
 |.ix a b,c,e=>match e with
  |.Subscript x y _=>kH y&&okE a c x&&okE b c y
  |_=>false
 |.sl _ a lo hi,c,e=>match e with
  |.Subscript x (.Slice l h none _) _=>okE a c x&&okO lo c l&&okO hi c h
  |_=>false
 |.call f es,c,e=>match e with
  |.Call (.Name x _) args [] _=>(c.calm||c.soft&&c.sfl.contains f)&&(match c.fns[f]? with|some p=>decide (some x=p.1)&&decide (args.length=p.2)|none=>false)&&glB c x&&!(x == ("__debug__" : Str))&&okA es c args
  |_=>false
 |.bi b es,c,e=>match e with
  |.Call (.Name x _) args [] _=>(c.calm||biS b)&&decide (x=(iZ b:Str))&&glB c x&&!args.isEmpty&&okA es c args
  |_=>false
 |.isB a t,c,e=>match e with
  |.Call (.Name x _) [y,.Name z _] [] _=>decide (x=("isinstance" : Str))&&decide (z=(bD t:Str))&&glB c x&&glB c z&&dJ y&&okE a c y
  |_=>false
 |.mm mx dflt a,c,e=>match e with
  |.Call (.Name x _) [y] kws _=>c.calm&&decide (x=(aK mx:Str))&&glB c x&&dJ y&&okE a c y&&(match kws,dflt with
   |[],false=>true
   |[⟨some d,.Constant k _ _,_⟩],true=>decide (d=("default" : Str))&&(match k with|.none=>true|_=>false)
   |_,_=>false)
  |_=>false
 |.dctT a b,c,e=>match e with
  |.Dict [some x] [y] _=>okE a c x&&okE b c y
  |_=>false
 |.comp _ N js tg it cond elt,c,e=>match e with
  |.ListComp el [⟨tgE,iter,ifs,as⟩] scope _=>(c.calm||c.soft&&sq it)&&decide (as=0)&&yB it tgE&&kT iter&&cq N js scope c.sc c.N&&okI it c iter&&okG (c.comp N scope) tg tgE&&rQ cond (c.comp N scope) ifs&&okE elt (c.comp N scope) el
  |_=>false
 |.compT N js tg o cond elt,c,e=>match e with
  |.ListComp el [⟨.Tuple elts x1 pt,.Call (.Attribute x m ap) [] [] cp,ifs,as⟩] scope _=>c.calm&&decide (as=0)&&decide (m=("items" : Str))&&jd x&&(ap.endLine == cp.line)&&cq N js scope c.sc c.N&&okE o c x&&okG (c.comp N scope) tg (.Tuple elts x1 pt)&&rQ cond (c.comp N scope) ifs&&okE elt (c.comp N scope) el
  |_=>false
 |.mmz mx a,c,e=>match e with
  |.Call (.Name x _) [y] [⟨some d,.Constant k _ _,_⟩] _=>c.calm&&decide (x=(aK mx:Str))&&glB c x&&dJ y&&okE a c y&&decide (d=("default" : Str))&&(match k with|.int i=>decide (i=0)|_=>false)
  |_=>false
 |.fld a f,c,e=>match e with
  |.Attribute x m _=>decide (m=fnm f)&&jd x&&okE a c x
  |_=>false
 |.make _ i es,c,e=>match e with
  |.Call (.Name x _) args [] _=>c.calm&&(c.kln[i]? == some x)&&glB c x&&!(x == ("__debug__" : Str))&&okA es c args
  |_=>false
 |.methS k a m es,c,e=>match e with
  |.Call (.Attribute x n ap) args [] cp=>(c.calm||c.soft&&c.sfl.contains k)&&decide (k<c.fns.length)&&!args.isEmpty&&decide (n=fnm m)&&jd x&&(ap.endLine == cp.line)&&decide (args.length<30)&&okE a c x&&okA es c args
  |_=>false
 |.meth a m es,c,e=>match e with
  |.Call (.Attribute x n ap) args [] cp=>c.calm&&decide (n=fnm m)&&jd x&&(ap.endLine == cp.line)&&decide (args.length<30)&&okE a c x&&okA es c args
  |_=>false
 |.bm b o es,c,e=>match e with
  |.Call (.Attribute x n ap) args [] cp=>decide (n=(i5 b:Str))&&jd x&&(ap.endLine == cp.line)&&decide (args.length<30)&&okE o c x&&okA es c args
  |_=>false
 |.dnew _,_,e=>match e with
  |.Dict [] [] _=>true
  |_=>false
 |.lrev _ a,c,e=>match e with
  |.Call (.Name x _) [.Call (.Name x' _) [y] [] _] [] _=>c.calm&&decide (x=("list" : Str))&&glB c x&&decide (x'=("reversed" : Str))&&glB c x'&&dJ y&&okE a c y
  |_=>false
noncomputable def okT:IT->Cfg->Expr->Bool
 |.val a,c,e=>ou e&&okE a c e
 |.cmp op a b,c,e=>match e with
  |.Compare x [op'] [y] _=>decide (op=op')&&kT y&&okE a c x&&okE b c y
  |_=>false
 |.chain op1 op2 a b d,c,e=>match e with
  |.Compare x [op1',op2'] [y,z] _=>decide (op1=op1')&&decide (op2=op2')&&kT z&&okE a c x&&okE b c y&&okE d c z
  |_=>false
 |.chain3 op1 op2 op3 a b d f,c,e=>match e with
  |.Compare x [op1',op2',op3'] [y,z,u] _=>decide (op1=op1')&&decide (op2=op2')&&decide (op3=op3')&&kT u&&okE a c x&&okE b c y&&okE d c z&&okE f c u
  |_=>false
 |.and a b,c,e=>match e with
  |.BoolOp op (x::y::r) p=>decide (op=.And)&&okT a c x&&(match r with|[]=>okT b c y|_::_=>okT b c (.BoolOp .And (y::r) p))
  |_=>false
 |.or a b,c,e=>match e with
  |.BoolOp op (x::y::r) p=>decide (op=.Or)&&okT a c x&&(match r with|[]=>okT b c y|_::_=>okT b c (.BoolOp .Or (y::r) p))
  |_=>false
 |.not a,c,e=>match e with
  |.UnaryOp op x _=>decide (op=.Not)&&okT a c x
  |_=>false
noncomputable def okA:IA->Cfg->List Expr->Bool
 |.nil,_,es=>es.isEmpty
 |.cons a r,c,es=>match es with
  |x::xs=>dJ x&&okE a c x&&okA r c xs
  |[]=>false
noncomputable def okO:IO->Cfg->Option Expr->Bool
 |.no,_,o=>o.isNone
 |.yes a,c,o=>match o with
  |some x=>okE a c x
  |none=>false
noncomputable def rQ:ITO->Cfg->List Expr->Bool
 |.no,_,es=>es.isEmpty
 |.yes t,c,es=>match es with
  |[x]=>okT t c x
  |_=>false
noncomputable def okI:II->Cfg->Expr->Bool
 |.seq a,c,e=>okE a c e
 |.rng1 a,c,e=>match e with
  |.Call (.Name x _) [y] [] _=>decide (x=("range" : Str))&&glB c x&&dJ y&&okE a c y
  |_=>false
 |.rng2 a b,c,e=>match e with
  |.Call (.Name x _) [y,z] [] _=>decide (x=("range" : Str))&&glB c x&&dJ y&&dJ z&&okE a c y&&okE b c z
  |_=>false
end
noncomputable def swB(c:Cfg)(scope:Scope)(x:Str)(l1 l2:Nat):Bool:=c.sc.kind == .function&&c.sc.names.lookup x == some .local&&l1 == l2&&!(scope.names.any λ(n,k)=>n == x&&(k == .local||k == .cell))
mutual
noncomputable def okS:IS->Cfg->Stmt->Bool
 |.set i a,c,s=>match s with
  |.Assign [.Name x px] e _=>(c.N[i]? == some x)&&uH c x&&okE a c e&&(mD e||match e,a with
   |.ListComp _ _ scope pos,.comp ..=>swB c scope x px.line pos.line||c.sc.names.lookup x == some .cell
   |_,_=>false)
  |_=>false
 |.expr a,c,s=>match s with
  |.Expr e _=>mD e&&okE a c e
  |_=>false
 |.ret a,c,s=>match s with
  |.Return (some e) _=>okE a c e
  |_=>false
 |.retN,_,s=>match s with
  |.Return none _=>true
  |_=>false
 |.ifs t a b,c,s=>match s with
  |.If x y z _=>okT t c x&&cH a c y&&cH b c z
  |_=>false
 |.for_ tg it body,c,s=>match s with
  |.For tgE iter b [] _=>c.own&&yB it tgE&&c.calm&&kT iter&&okG c tg tgE&&okI it c iter&&cH body c b
  |_=>false
 |.forK tg o body,c,s=>match s with
  |.For tgE x b [] _=>c.own&&c.calm&&kT x&&okG c tg tgE&&okE o c x&&cH body c b
  |_=>false
 |.forD tg o body,c,s=>match s with
  |.For (.Tuple elts x1 pt) (.Call (.Attribute x n ap) [] [] cp) b [] _=>c.own&&c.calm&&decide (n=("items" : Str))&&jd x&&(ap.endLine == cp.line)&&okG c tg (.Tuple elts x1 pt)&&okE o c x&&cH body c b
  |_=>false
 |.whl t body,c,s=>match s with
  |.While x b [] _=>c.own&&okT t c x&&cH body c b
  |_=>false
 |.raiseI k es,c,s=>match s with
  |.Raise (some (.Call (.Name x _) args [] _)) none _=>(c.xin.lookup k).isSome&&c.own&&c.calm&&(c.exc[k]? == some x)&&glB c x&&!(x == ("__debug__" : Str))&&!args.isEmpty&&okA es c args
  |_=>false
 |.raise k es,c,s=>match s with
  |.Raise (some (.Call (.Name x _) args [] _)) none _=>(c.xin.lookup k).isNone&&c.own&&(c.calm||c.soft)&&(c.exc[k]? == some x)&&glB c x&&!(x == ("__debug__" : Str))&&!args.isEmpty&&okA es c args
  |_=>false
 |.try_ body hs,c,s=>match s with
  |.Try b handlers [] [] _=>c.tr&&!handlers.isEmpty&&cH body c.trying b&&qu hs c handlers
  |_=>false
 |.app o a,c,s=>match s with
  |.Expr (.Call (.Attribute x m ap) [y] [] cp) _=>decide (m=("append" : Str))&&vI x&&(ap.endLine == cp.line)&&dJ y&&okE o c x&&okE a c y
  |_=>false
 |.del _,_,_=>false
 |.dead,_,_=>true
 |.fset o f a,c,s=>match s with
  |.Assign [.Attribute x m _] v _=>decide (m=fnm f)&&mD v&&okE o c x&&okE a c v
  |_=>false
 |.ixset o i a,c,s=>match s with
  |.Assign [.Subscript x y _] v _=>kH y&&mD v&&okE o c x&&okE i c y&&okE a c v
  |_=>false
noncomputable def cH:ISs->Cfg->List Stmt->Bool
 |.nil,_,sts=>sts.isEmpty
 |.cons s r,c,sts=>match s with
  |.del _=>cH r c sts
  |s=>match sts with
   |st::rest=>okS s c st&&cH r c rest
   |[]=>false
noncomputable def qu:IHs->Cfg->List ExceptHandler->Bool
 |.nil,_,hs=>hs.isEmpty
 |.cons k nm body r,c,hs=>match hs with
  |.ExceptHandler (some (.Name x _)) nmE bodyE _::rest=>(c.exc[k]? == some x)&&glB c x&&!(x == ("__debug__" : Str))&&(match nm,nmE with
   |none,none=>true
   |some j,some n=>(c.N[j]? == some n)&&c.sc.names.lookup n == some .local
   |_,_=>false)&&!bodyE.isEmpty&&cH body c.caught bodyE&&qu r c rest
  |_=>false
end
structure Good (c:Cfg)(W:WC)(X:Cx)(E2:St->XK):Prop where
 N:X.N=c.N
 nd:c.N.Nodup
 sc:X.env.scope=c.sc
 un:X.A.units+64<cLine
 calm:c.calm=true->X.calm=true
 soft:c.soft=true->X.calm=false/\HdH X.A X.H₀
 fnx:c.fn=true->∀x,X.fn x=true
 cel:∀x,c.cel.lookup x=some .cell->X.fn x=true
 own:c.own=true->PassesOwn (model X.prog X.w) X.A X.env X.xe/\∃E,(E2=λ_=>E)/\hD X E/\qj X E/\g8 X E/\Room 2 X.A X.calm/\qW X E
 tr:c.tr=true->X.stack=X.env::X.outer/\X.env.frame=some X.env.locals/\X.ex=[]
 fns:c.calm=true->∃k,Room (k+1) X.A/\∀f,f<c.fns.length->rJ X W.cls k (W.fad f) (W.call f)
 fnn:∀f x n,c.fns[f]?=some (some x,n)->X.mg x=some (.ref (W.fad f))
 kok:∀i,i<W.nk->KOk X.K W.toWB W.fad i
 kin:∀i,i<W.nk->∃f,W.ini i=some f
 kfi:∀i f,i<W.nk->W.ini i=some f->f<c.fns.length
 kfm:∀i m f,i<W.nk->W.mth i m=some f->f<c.fns.length
 knm:∀i x,c.kln[i]?=some x->X.mg x=some (.ref (W.kls i))/\i<W.nk
 glo:∀k x,c.gln[k]?=some x->∃u v,X.mg x=some u/\RelV v u/\vZ X.K X.w.params (W.glo k) v
 exc:∀i x,c.exc[i]?=some x->X.mg x=some (.ref (W.cls i))/\(c.xin.lookup i=none->tG X.K (W.cls i))/\∀j,j<W.ne->PySem.W.exmOne X.K (.ref (W.cls j)) (.ref (W.cls i))=some (W.sub j i)
 exi:∀i,i<W.ne->ExcI X.K (W.cls i)/\PySem.W.kitOne X.K (.ref (W.cls i)) (.type "ValueError")=some true/\∀j x,c.exc[j]?=some x->PySem.W.kitOne X.K (.ref (W.cls i)) (.ref (W.cls j))=some (W.sub i j)
 xi:∀i f,c.xin.lookup i=some f->W.xin i=some f/\∃fI fd ps,XIni X.K (W.cls i) fI (fnm f)/\Binds X.K fd ps []/\FnOk X.prog X.w X.K X.mg X.base (CX1 X.prog X.w) 1 fI fd ps (gw (cpF f) X.K (W.cls i) (fnm f))
 xn:∀i f,i<W.ne->W.xin i=some f->NoAttr X.K (W.cls i) (fnm f)
 bi:∀x∈biNames,X.mg x=none
 dig:yC X.K
 pass:aA (CX1 X.prog X.w X.calm) X E2
 fnS:∃k,Room (k+1) X.A false/\∀f,f<c.fns.length->c.sfl.contains f=true->su false X W.cls k (W.fad f) (W.call f)
 twn:∀k f,W.tw k=some f->W.fad f=W.fad k
section
variable {c:Cfg}{X:Cx}
theorem Good.gl(G:Good c W X E2)(h:glB c x=true):Gl X x:=by
 show X.env.scope.names.lookup x=_;rw[G.sc];exact Ec.mp h
theorem Good.loc(G:Good c W X E2)(h:uH c x=true):Loc X.env.scope x/\(X.fn x=true\/X.env.scope.names.lookup x=some .local):=by
 unfold uH at h;rw[G.sc];simp only[Bool.or_eq_true,DR,Ec]at h;rcases h with (h|⟨h1,h2⟩)|⟨h1,h2⟩
 ·exact⟨.inl h,.inr h⟩
 ·exact⟨.inr h2,.inl (G.fnx h1 x)⟩
 ·exact⟨.inr h2,.inl (G.cel x h1)⟩
theorem Good.vis(G:Good c W X E2)(h:xP c.sc x=true):Vis X.env.scope x:=by
 rw[G.sc];unfold xP at h;split at h
 ·exact .inl (by assumption)
 ·exact .inr (.inl (by assumption))
 ·exact .inr (.inr (by assumption))
 ·cases h
theorem Good.at{i:Nat}{x:Str}(G:Good c W X E2)(h:(c.N[i]? == some x)=true):X.N[i]?=some x:=by rw[G.N];exact Ec.mp h
theorem Good.ndX(G:Good c W X E2):X.N.Nodup:=by rw[G.N];exact G.nd
theorem Good.names(G:Good c W X E2)(h:cb c.N c.sc c.fn is es=true):cb X.N X.env.scope c.fn is es=true:=by rw[G.N,G.sc];exact h
theorem Good.trying(G:Good c W X E2)(h:aA (CX1 X.prog X.w X.calm) (X.tryX pn V') E2'):Good c.trying W (X.tryX pn V') E2':=
 ⟨G.N,G.nd,G.sc,G.un,G.calm,G.soft,G.fnx,G.cel,(λz=>nomatch z),G.tr,G.fns,G.fnn,G.kok,G.kin,G.kfi,G.kfm,G.knm,G.glo,G.exc,G.exi,G.xi,G.xn,G.bi,G.dig,h,G.fnS,G.twn⟩
theorem sH:aA (CX1 P w bq) X no2:=λ_ _ _ _ _ _ _ h=>by
 obtain⟨_,_,_,_,_,_,_,_,_,_,_,_,_,he⟩:=h;exact he.elim
theorem Good.passC(G:Good c W X E2)(h:c.calm=true):aA (CX1 X.prog X.w) X E2:=by
 have p:=G.pass;rw[G.calm h]at p;exact p
theorem Good.caughtS(G:Good c W X E2)(a:Addr)(o:Obj)(u:HO)(l:X.calm=true->gU o):Good c.caught W (X.markedS a o u) no2:=
 ⟨G.N,G.nd,G.sc,G.un,(λz=>nomatch z),λz=>⟨rfl,a,o,u,rfl,ad,l (G.calm z)⟩,G.fnx,G.cel,(λz=>nomatch z),(λz=>nomatch z),(λz=>nomatch z),G.fnn,G.kok,G.kin,G.kfi,G.kfm,G.knm,G.glo,G.exc,G.exi,G.xi,G.xn,G.bi,G.dig,sH,G.fnS.imp λk ⟨hr,hF⟩=>⟨⟨(λz=>nomatch z),hr.dp,hr.un⟩,hF⟩,G.twn⟩
theorem Good.fnAt{f:Nat}(G:Good c W X E2)(h:(c.calm||c.soft&&c.sfl.contains f)=true)(hf:f<c.fns.length) :
  ∃bq k,Room k X.A bq/\su bq X W.cls k (W.fad f) (W.call f)/\aA (CX1 X.prog X.w bq) X E2/\(bq=false->HdH X.A X.H₀):=by
 rw[Bool.or_eq_true,DR]at h;rcases h with h|⟨h1,h2⟩
 ·obtain⟨k,hr,hF⟩:=G.fns h;exact⟨true,k,hr.mono (ET k),hF f hf,G.passC h,λz=>nomatch z⟩
 ·obtain⟨k,hr,hF⟩:=G.fnS;have p:=G.pass;rw[(G.soft h1).1]at p;exact⟨false,k,hr.mono (ET k),hF f hf h2,p,λ_=>(G.soft h1).2⟩
theorem Good.qt(G:Good c W X E2)(h:(c.calm||c.soft&&b)=true):Qt b X:=by
 rw[Bool.or_eq_true,DR]at h;cases b with
 |false=>exact h.elim G.calm λz=>nomatch z.2
 |true=>exact h.elim (λz=>.inl (G.calm z)) λz=>.inr (G.soft z.1).2
theorem Good.comp(G:Good c W X E2){N:List Str}{js:List (Option Nat)}{scope:Scope}(h:cq N js scope c.sc c.N=true)(C:Addr)(s2:Shared)(H2:Hp)(fp:List Addr)(pn:List (Addr×Obj)):Good (c.comp N scope) W (compCx X scope C N s2 H2 fp pn) no2:=by
 have hc:=jN h;refine⟨rfl,hc.nd,?_,G.un,G.calm,(λz=>nomatch z),(λz=>nomatch z),(λx z=>Ec.mpr z),(λz=>nomatch z),(λz=>nomatch z),G.fns,G.fnn,G.kok,G.kin,G.kfi,G.kfm,G.knm,G.glo,G.exc,G.exi,G.xi,G.xn,G.bi,G.dig,sH,G.fnS,G.twn⟩
 show relabel scope X.env=xa scope c.sc;unfold relabel xa;rw[<-G.sc];rfl
end
theorem aZ(h:dJ e=true):starEach (e::es) env=(false,eval e env)::starEach es env:=by
 cases e<;>first|rfl|cases h
theorem nW(h:kT e=true):∀x,foldedSetIterable e env x=pure x:=by
 intro x;cases e<;>first|rfl|cases h
theorem g7(h:kT e=true):behindInMarks op e=false:=by
 cases e<;>first|rfl|cases h
theorem j9(h:mD e=true):swapsWith e t n env=pure false:=by
 cases e<;>first|rfl|cases h
theorem pX{e:Expr}(h:ou e=true):∀whole,isTrue e env whole=(do let v<-whole;standAt e.pos;holding [v] (truthy v)):=by
 intro whole;cases e<;>first|rfl|cases h
theorem tR(h:kH e=true):kQ e:=by
 intro o i;cases e<;>first|rfl|cases h
theorem yI{e:Expr}{m:Str}{env:Env}{whole:Sem Value}(h:vI e=true):attributeBase e m env whole=whole:=by
 cases e<;>first|rfl|cases h
theorem b8{e:Expr}{m:Str}{env:Env}{whole:Sem Value}(h:jd e=true):attributeBase e m env whole=whole:=by
 cases e with
 |Call f as ks p=>
  cases f with
  |Name x px=>
   cases as with
   |nil=>
    cases ks with
    |nil=>cases h
    |cons _ _=>rfl
   |cons _ _=>rfl
  |_=>rfl
 |_=>rfl
theorem vT(h:kH i=true):∀v,assign (.Subscript o i p) env v=(do
   let ov<-holding [v] (eval o env)
   let iv<-holding [v,ov] (eval i env)
   standAt p
   holding [v,ov,iv] (setItem ov iv v)
   release [v,ov,iv] []):=by
 intro v;cases i<;>first|rfl|cases h
theorem bO(pos:Pos):∀{r:IA}{c:Cfg}{es:List Expr}{env:Env},okA r c es=true->(backTo pos (starEach es env)).any (·.1)=false
 |.nil,c,es,env,h=>by
  simp only[okA]at h;cases es with
  |nil=>rfl
  |cons _ _=>cases h
 |.cons a r,c,es,env,h=>by
  cases es with
  |nil=>simp[okA]at h
  |cons x xs=>
   simp only[okA,DR]at h;rw[aZ h.1.1];show (false||(backTo pos (starEach xs env)).any (·.1))=false
   rw[bO pos h.2];rfl
theorem vC(h:PE X a t):PE X (.BoolOp op [a] pos) t:=yG h
theorem wR(b:BI):((iZ b:String):Str)∈biNames:=by
 cases b with
 |list fz=>cases fz<;>decide +kernel
 |_=>decide +kernel
theorem yt(t:BT):((bD t:String):Str)∈biNames:=by cases t<;>decide +kernel
theorem vd{X:Cx}(hu:X.A.units+64<cLine)(hc:biS b=false->X.calm=true)(hd:yC X.K)(hg:Gl X (iZ b:String))(hm:X.mg (iZ b:String)=none)(ha:PA X (e::es) (cU X.K cls E2 tr))
  (he:starEach (e::es) X.env=(false,eval e X.env)::starEach es X.env) (hpl:(backTo pos (starEach es X.env)).any (·.1)=false):PE X (.Call (.Name (iZ b:String) p) (e::es) [] pos) (low X.K cls E2 λσ M Q E=>tr σ M (λxs M1=>rBi b xs M1 Q) E):=by
 cases b with
 |len=>exact gY wY hg hm (by decide +kernel) ha (by decide +kernel) (by decide +kernel) he hpl
 |min=>exact gY (wa (hc rfl)) hg hm (by decide +kernel) ha (by decide +kernel) (by decide +kernel) he hpl
 |list fz=>exact tW (uS fz (hc rfl)) hg hm (by cases fz<;>decide +kernel) ha (by cases fz<;>decide +kernel) (by cases fz<;>decide +kernel) he hpl
 |all=>exact gY (vQ true (hc rfl)) hg hm (by decide +kernel) ha (by decide +kernel) (by decide +kernel) he hpl
 |any=>exact gY (vQ false (hc rfl)) hg hm (by decide +kernel) ha (by decide +kernel) (by decide +kernel) he hpl
theorem tT{X:Cx}{apos pos:Pos}(hu:X.A.units+64<cLine)(ho:PE X o (low X.K cls E2 to))(ha:PA X (e::es) (cU X.K cls E2 tr))
  (hb:attributeBase o (i5 b:String) X.env (eval o X.env)=eval o X.env) (hn:(e::es).length<30) (hl:(apos.endLine == pos.line)=true) (he:starEach (e::es) X.env=(false,eval e X.env)::starEach es X.env) (hpl:(backTo pos (starEach es X.env)).any (·.1)=false) :
  PE X (.Call (.Attribute o (i5 b:String) apos) (e::es) [] pos) (low X.K cls E2 λσ M Q E=>to σ M (λx M1=>tyB b x M1=true/\tr σ M1 (λxs M2=>rBm b x xs M2 Q) E) E):=by
 cases b with
 |get=>exact xM PySem.F.plainAttrs_dict PySem.F.slot_dict_get PySem.F.type_dict_get (so hu) kG ho ha hb hn hl he hpl
 |extend=>exact xM PySem.F.plainAttrs_list PySem.F.slot_list_extend PySem.F.type_list_extend jZ l5 ho ha hb hn hl he hpl
 |cleard=>exact xM PySem.F.plainAttrs_dict PySem.F.slot_dict_clear PySem.F.type_dict_clear jz lJ ho ha hb hn hl he hpl
theorem tf{X:Cx}{apos pos:Pos}(hu:X.A.units+64<cLine)(ho:PE X o (low X.K cls E2 to))
  (hb:attributeBase o (i5 b:String) X.env (eval o X.env)=eval o X.env) (hl:(apos.endLine == pos.line)=true) :
  PE X (.Call (.Attribute o (i5 b:String) apos) [] [] pos) (low X.K cls E2 λσ M Q E=>to σ M (λx M1=>tyB b x M1=true/\rBm b x [] M1 Q) E):=by
 cases b with
 |get=>exact rj PySem.F.plainAttrs_dict PySem.F.slot_dict_get PySem.F.type_dict_get (so hu) kG ho hb hl
 |extend=>exact rj PySem.F.plainAttrs_list PySem.F.slot_list_extend PySem.F.type_list_extend jZ l5 ho hb hl
 |cleard=>exact rj PySem.F.plainAttrs_dict PySem.F.slot_dict_clear PySem.F.type_dict_clear jz lJ ho hb hl
theorem bJ(h:okA (.cons a r) c es=true):∃x xs,es=x::xs/\dJ x=true/\okE a c x=true/\okA r c xs=true:=by
 cases es with
 |nil=>simp[okA]at h
 |cons x xs=>
  simp only[okA,DR]at h;exact⟨x,xs,rfl,h.1.1,h.1.2,h.2⟩
noncomputable def Bv:IT->Bool
 |.and _ _=>true
 |.or _ _=>true
 |_=>false
section
variable {W:WC}
theorem sG:∀(tg:ITg) {c:Cfg}{e:Expr}{X:Cx}{E2:St->XK},okG c tg e=true->Good c W X E2->PG X e (kn X.K (wpG tg))
 |.name i,c,e,X,E2,h,G=>by
  simp only[okG]at h;split at h
  ·simp only[DR]at h;obtain⟨l1,l2⟩:=G.loc h.2;exact xE G.ndX (G.at h.1) l1 l2
  ·cases h
 |.tup is,c,e,X,E2,h,G=>by
  simp only[okG]at h;split at h
  ·simp only[DR]at h;exact yT (G.calm h.1) G.ndX G.fnx (G.names h.2)
  ·cases h
mutual
theorem sE:∀(ie:IE) {c:Cfg}{e:Expr}{X:Cx}{E2:St->XK},okE ie c e=true->Good c W X E2->PE X e (low X.K W.cls E2 (wpE W ie))
 |.var i,c,e,X,E2,h,G=>by
  unfold okE at h;split at h
  ·simp only[DR,Bool.not_eq_true']at h;exact zS (G.at h.1.1.1) (G.vis h.1.1.2) h.1.2 h.2
  ·cases h
 |.con d,c,e,X,E2,h,G=>by
  unfold okE at h;split at h
  ·split at h
   ·cases EZ h;exact oo qi λ_=>rfl
   ·cases EZ h;exact oo zW λ_=>rfl
   ·exact oo sx λ_=>rfl
   ·cases EZ h;exact oo rb λ_=>rfl
   ·cases h
  ·cases h
 |.bin op a b,c,e,X,E2,h,G=>by
  unfold okE at h;split at h
  ·simp only[DR,D6]at h;obtain⟨⟨rfl,h1⟩,h2⟩:=h;exact z9 (xJ op) (sE a h1 G) (sE b h2 G)
  ·cases h
 |.neg a,c,e,X,E2,h,G=>by
  unfold okE at h;split at h
  ·simp only[DR,D6]at h;obtain⟨rfl,h1⟩:=h;exact CI (ta:=wpE W a) (r:=rNeg) wx (sE a h1 G)
  ·cases h
 |.cat fz a b,c,e,X,E2,h,G=>by
  unfold okE at h;split at h
  ·simp only[DR,D6]at h;obtain⟨⟨rfl,h1⟩,h2⟩:=h;exact zo (sE a h1 G) (sE b h2 G)
  ·cases h
 |.cmp op a b,c,e,X,E2,h,G=>by
  unfold okE at h;split at h
  ·simp only[DR,D6]at h;obtain⟨⟨⟨rfl,h0⟩,h1⟩,h2⟩:=h;exact zU (et G.un op) (sE a h1 G) (sE b h2 G) (g7 h0)
  ·cases h
 |.and a b,c,e,X,E2,h,G=>by
  unfold okE at h;split at h
  ·rename_i op x y r p;simp only[DR,D6]at h;obtain⟨⟨rfl,h1⟩,h2⟩:=h;cases r with
   |nil=>exact vG (sE a h1 G) (vC (sE b h2 G))
   |cons z r=>exact vG (sE a h1 G) (sE b h2 G)
  ·cases h
 |.or a b,c,e,X,E2,h,G=>by
  unfold okE at h;split at h
  ·rename_i op x y r p;simp only[DR,D6]at h;obtain⟨⟨rfl,h1⟩,h2⟩:=h;cases r with
   |nil=>exact Af (sE a h1 G) (vC (sE b h2 G))
   |cons z r=>exact Af (sE a h1 G) (sE b h2 G)
  ·cases h
 |.not a,c,e,X,E2,h,G=>by
  unfold okE at h;split at h
  ·simp only[DR,D6]at h;obtain⟨rfl,h1⟩:=h;exact yX (sE a h1 G)
  ·cases h
 |.ifx t a b,c,e,X,E2,h,G=>by
  unfold okE at h;split at h
  ·simp only[DR]at h;exact Ck (sT t h.1.1 G).1 (sE a h.1.2 G) (sE b h.2 G)
  ·cases h
 |.tup es,c,e,X,E2,h,G=>by
  unfold okE at h;split at h
  ·exact zy (sA es h G)
  ·cases h
 |.lst fz es,c,e,X,E2,h,G=>by
  unfold okE at h;split at h
  ·exact AK (sA es h G)
  ·cases h
 |.frz a,c,e,X,E2,h,G=>by
  unfold okE at h;exact zu (sE a h G)
 |.ix a b,c,e,X,E2,h,G=>by
  unfold okE at h;split at h
  ·simp only[DR]at h;exact BS G.un (sE a h.1.2 G) (sE b h.2 G) (tR h.1.1)
  ·cases h
 |.sl fz a lo hi,c,e,X,E2,h,G=>by
  unfold okE at h;split at h
  ·simp only[DR]at h;exact B0 (sE a h.1.1 G) (sO lo h.1.2 G) (sO hi h.2 G)
  ·cases h
 |.call f es,c,e,X,E2,h,G=>by
  unfold okE at h;split at h
  ·rename_i x px args pos;rw[DR,DR,DR,DR,Bool.not_eq_true']at h;obtain⟨⟨⟨⟨h0,h1⟩,h2⟩,h3⟩,h4⟩:=h;split at h1
   ·rename_i p hp;simp only[DR,D6]at h1;obtain⟨h1,_⟩:=h1;obtain⟨p1,p2⟩:=p;cases h1;obtain⟨bq,k,m4,⟨fd,ps,sp0,m2,m3,m5⟩,hps,hq⟩:=G.fnAt h0 (EM.mp hp).1;have m1:=G.fnn f x p2 hp;have hA:=sA es h4 G;cases args with
    |nil=>
     cases es with
     |nil=>exact uq m5 m4 (G.gl h2) m1 m2 m3 hps h3 hq
     |cons _ _=>simp[okA]at h4
    |cons z zs=>
     cases es with
     |nil=>simp[okA]at h4
     |cons ea er=>
      obtain⟨_,_,e1,n1,_,n3⟩:=bJ h4;cases e1;exact wJ m5 m4 (G.gl h2) m1 m2 m3 hps hA h3 (aZ n1) (bO _ n3) hq
   ·cases h1
  ·cases h
 |.bi b es,c,e,X,E2,h,G=>by
  unfold okE at h;split at h
  ·rename_i x px args pos;simp only[DR,D6]at h;obtain⟨⟨⟨⟨h0,rfl⟩,h2⟩,h3⟩,h4⟩:=h;have hA:=sA es h4 G;cases args with
   |nil=>cases h3
   |cons z zs=>
    cases es with
    |nil=>simp[okA]at h4
    |cons ea er=>
     obtain⟨_,_,e1,n1,_,n3⟩:=bJ h4;cases e1;exact vd G.un (λz=>G.calm (by rw[z,Bool.or_false]at h0;exact h0)) G.dig (G.gl h2) (G.bi _ (wR b)) hA (aZ n1) (bO _ n3)
  ·cases h
 |.isB a t,c,e,X,E2,h,G=>by
  unfold okE at h;split at h
  ·simp only[DR,D6]at h;obtain⟨⟨⟨⟨⟨rfl,rfl⟩,h2⟩,h3⟩,h4⟩,h5⟩:=h;exact zC (sE a h5 G) (G.gl h2) (G.bi _ (by decide +kernel)) (G.gl h3) (G.bi _ (yt t)) (aZ h4)
  ·cases h
 |.mm mx dflt a,c,e,X,E2,h,G=>by
  unfold okE at h;split at h
  ·simp only[DR,D6]at h;obtain⟨⟨⟨⟨⟨h0,rfl⟩,h2⟩,h3⟩,h4⟩,h5⟩:=h;have hb:X.mg (aK mx:String)=none:=G.bi _ (by cases mx<;>decide +kernel)
   split at h5
   ·exact Ce mx (G.calm h0) (sE a h4 G) (G.gl h2) hb (aZ h3)
   ·simp only[DR,D6]at h5;obtain⟨rfl,h6⟩:=h5;split at h6
    ·exact Au mx (G.calm h0) (sE a h4 G) (G.gl h2) hb (aZ h3)
    ·cases h6
   ·cases h5
  ·cases h
 |.dctT a b,c,e,X,E2,h,G=>by
  unfold okE at h;split at h
  ·simp only[DR]at h;exact yq G.un (sE a h.1 G) (sE b h.2 G)
  ·cases h
 |.comp fz N js tg it cond elt,c,e,X,E2,h,G=>by
  unfold okE at h;split at h
  ·simp only[DR,D6]at h;obtain⟨⟨⟨⟨⟨⟨⟨⟨h0,rfl⟩,ht⟩,h1⟩,h2⟩,h3⟩,h4⟩,h5⟩,h6⟩:=h;have hok:=h2;rw[<-G.sc,<-G.N]at hok;exact xu hok (G.qt h0) (sI it h3 G ht) (λC s2 H2 fp pn=>sG tg h4 (G.comp h2 C s2 H2 fp pn)) (λC s2 H2 fp pn=>sTO cond h5 (G.comp h2 C s2 H2 fp pn)) (λC s2 H2 fp pn=>sE elt h6 (G.comp h2 C s2 H2 fp pn)) (nW h1) fz
  ·cases h
 |.compT N js tg o cond elt,c,e,X,E2,h,G=>by
  unfold okE at h;split at h
  ·simp only[DR,D6]at h;obtain⟨⟨⟨⟨⟨⟨⟨⟨⟨h0,rfl⟩,rfl⟩,h1⟩,hl⟩,h2⟩,h3⟩,h4⟩,h5⟩,h6⟩:=h;have hok:=h2;rw[<-G.sc,<-G.N]at hok;exact vi hok (G.calm h0) (sE o h3 G) (b8 h1) hl (λC s2 H2 fp pn=>sG tg h4 (G.comp h2 C s2 H2 fp pn)) (λC s2 H2 fp pn=>sTO cond h5 (G.comp h2 C s2 H2 fp pn)) (λC s2 H2 fp pn=>sE elt h6 (G.comp h2 C s2 H2 fp pn)) (λx=>rfl)
  ·cases h
 |.mmz mx a,c,e,X,E2,h,G=>by
  unfold okE at h;split at h
  ·simp only[DR,D6]at h;obtain⟨⟨⟨⟨⟨⟨h0,rfl⟩,h2⟩,h3⟩,h4⟩,rfl⟩,h6⟩:=h;have hb:X.mg (aK mx:String)=none:=G.bi _ (by cases mx<;>decide +kernel)
   split at h6
   ·simp only[D6]at h6;subst h6;exact AQ mx (G.calm h0) (sE a h4 G) (G.gl h2) hb (aZ h3)
   ·cases h6
  ·cases h
 |.fld a f,c,e,X,E2,h,G=>by
  unfold okE at h;split at h
  ·simp only[DR,D6]at h;obtain⟨⟨rfl,h1⟩,h2⟩:=h;exact zD G.kok (sE a h2 G) (b8 h1)
  ·cases h
 |.make fz i es,c,e,X,E2,h,G=>by
  unfold okE at h;split at h
  ·rename_i x px args pos;simp only[DR,Bool.not_eq_true']at h;obtain⟨⟨⟨⟨h0,h1⟩,h2⟩,h3⟩,h4⟩:=h;obtain⟨m1,hi⟩:=G.knm i x (Ec.mp h1);obtain⟨k,hr,hF⟩:=G.fns h0;have hA:=sA es h4 G;cases q:W.ini i with
   |none=>exact absurd q (by obtain⟨f,hf⟩:=G.kin i hi;rw[hf];exact λz=>nomatch z)
   |some f=>
    have F:=hF f (G.kfi i f hi q);cases args with
    |nil=>
     cases es with
     |nil=>exact (uG (B:=W.toWB) (fz:=fz) (G.gl h2) m1 h3 ((G.kok i hi).mkr f q) F hr (G.passC h0)).imp λσ H Q2 hl_=>ex9 hl_ λσ3 M Q E3 rm ds lk hh back=>⟨σ3,M,Q,E3,rm,ds,lk,by simp only[wpE,wpA,q,fO]at hh;exact hh.2,back⟩
     |cons _ _=>simp[okA]at h4
    |cons z zs=>
     cases es with
     |nil=>simp[okA]at h4
     |cons ea er=>
      obtain⟨_,_,e1,n1,_,n3⟩:=bJ h4;cases e1;have hA2:PA X (z::zs) (cU X.K W.cls E2 λσ M Q E=>wpA W (.cons ea er) σ M (λxs M1=>i<W.nk/\Q xs M1) E):=hA.imp λσ H Q2 hl_=>ex9 hl_ λσ3 M Q E3 rm ds lk hh back=>⟨σ3,M,_,E3,rm,ds,lk,hh,λvs H' xs M' a b c d=>back vs H' xs M' a b c d.2⟩
      exact (wD (B:=W.toWB) (fz:=fz) (G.gl h2) m1 h3 ((G.kok i hi).mkr f q) F hr (G.passC h0) hA2 (aZ n1) (bO _ n3)).imp λσ H Q2 hl_=>ex9 hl_ λσ3 M Q E3 rm ds lk hh back=>⟨σ3,M,Q,E3,rm,ds,lk,by simp only[wpE,q,fO]at hh;exact hh,back⟩
  ·cases h
 |.methS k2 a m es,c,e,X,E2,h,G=>by
  unfold okE at h;split at h
  ·rename_i x n ap args cp;rw[DR,DR,DR,DR,DR,DR,DR,DR,D6,D6,D6]at h;obtain⟨⟨⟨⟨⟨⟨⟨⟨h0,hlt⟩,h6⟩,rfl⟩,h1⟩,h2⟩,h3⟩,h4⟩,h5⟩:=h;obtain⟨bq,k,hr,hF,hps,hq⟩:=G.fnAt h0 hlt;have hA:=sA es h5 G;cases args with
   |nil=>cases h6
   |cons z zs=>
    cases es with
    |nil=>simp[okA]at h5
    |cons ea er=>
     obtain⟨_,_,e1,n1,_,n3⟩:=bJ h5;cases e1;exact uv (B:=W.toWB) G.kok (G.twn k2) hF hr hps hq (sE a h4 G) hA (b8 h1) h2 h3 (aZ n1) (bO _ n3)
  ·cases h
 |.meth a m es,c,e,X,E2,h,G=>by
  unfold okE at h;split at h
  ·rename_i x n ap args cp;simp only[DR,D6]at h;obtain⟨⟨⟨⟨⟨⟨h0,rfl⟩,h1⟩,h2⟩,h3⟩,h4⟩,h5⟩:=h;obtain⟨k,hr,hF⟩:=G.fns h0;have hA:=sA es h5 G;cases args with
   |nil=>
    cases es with
    |nil=>exact uc (B:=W.toWB) G.kok (λi m f hi q=>hF f (G.kfm i m f hi q)) (hr.mono (ET k)) (G.passC h0) (sE a h4 G) (b8 h1) h2
    |cons _ _=>simp[okA]at h5
   |cons z zs=>
    cases es with
    |nil=>simp[okA]at h5
    |cons ea er=>
     obtain⟨_,_,e1,n1,_,n3⟩:=bJ h5;cases e1;exact xq (B:=W.toWB) G.kok (λi m f hi q=>hF f (G.kfm i m f hi q)) (hr.mono (ET k)) (G.passC h0) (sE a h4 G) hA (b8 h1) h2 h3 (aZ n1) (bO _ n3)
  ·cases h
 |.bm b o es,c,e,X,E2,h,G=>by
  unfold okE at h;split at h
  ·rename_i x n ap args cp;simp only[DR,D6]at h;obtain⟨⟨⟨⟨⟨rfl,h1⟩,h2⟩,h3⟩,h4⟩,h5⟩:=h;have hA:=sA es h5 G;cases args with
   |nil=>
    cases es with
    |nil=>exact tf G.un (sE o h4 G) (b8 h1) h2
    |cons _ _=>simp[okA]at h5
   |cons z zs=>
    cases es with
    |nil=>simp[okA]at h5
    |cons ea er=>
     obtain⟨_,_,e1,n1,_,n3⟩:=bJ h5;cases e1;exact tT G.un (sE o h4 G) hA (b8 h1) h3 h2 (aZ n1) (bO _ n3)
  ·cases h
 |.dnew tk,c,e,X,E2,h,G=>by
  unfold okE at h;split at h
  ·exact ym tk
  ·cases h
 |.lrev fz a,c,e,X,E2,h,G=>by
  unfold okE at h;split at h
  ·simp only[DR,D6]at h;obtain⟨⟨⟨⟨⟨⟨h0,rfl⟩,h1⟩,rfl⟩,h2⟩,h3⟩,h4⟩:=h;exact yA (G.calm h0) (G.gl h1) (G.bi _ (by decide +kernel)) (G.gl h2) (G.bi _ (by decide +kernel)) (sE a h4 G) (aZ h3)
  ·cases h
theorem sT:∀(it:IT) {c:Cfg}{e:Expr}{X:Cx}{E2:St->XK},okT it c e=true->Good c W X E2->PT X e (bC X.K W.cls E2 (wpT W it))/\(Bv it=true->PW X e (bC X.K W.cls E2 (wpT W it)))
 |.val a,c,e,X,E2,h,G=>by
  unfold okT at h;simp only[DR]at h;exact⟨AF (sE a h.2 G) (pX h.1),λz=>nomatch z⟩
 |.cmp op a b,c,e,X,E2,h,G=>by
  unfold okT at h;split at h
  ·simp only[DR,D6]at h;obtain⟨⟨⟨rfl,h0⟩,h1⟩,h2⟩:=h;exact⟨AU (et G.un op) (sE a h1 G) (sE b h2 G) (g7 h0),λz=>nomatch z⟩
  ·cases h
 |.chain op1 op2 a b d,c,e,X,E2,h,G=>by
  unfold okT at h;split at h
  ·simp only[DR,D6]at h;obtain⟨⟨⟨⟨⟨rfl,rfl⟩,h0⟩,h1⟩,h2⟩,h3⟩:=h;exact⟨uF (et G.un op1) (et G.un op2) (sE a h1 G) (sE b h2 G) (sE d h3 G) (g7 h0),λz=>nomatch z⟩
  ·cases h
 |.chain3 op1 op2 op3 a b d f,c,e,X,E2,h,G=>by
  unfold okT at h;split at h
  ·simp only[DR,D6]at h;obtain⟨⟨⟨⟨⟨⟨⟨rfl,rfl⟩,rfl⟩,h0⟩,h1⟩,h2⟩,h3⟩,h4⟩:=h;exact⟨qS (et G.un op1) (et G.un op2) (et G.un op3) (sE a h1 G) (sE b h2 G) (sE d h3 G) (sE f h4 G) (g7 h0),λz=>nomatch z⟩
  ·cases h
 |.and a b,c,e,X,E2,h,G=>by
  unfold okT at h;split at h
  ·rename_i op x y r p;simp only[DR,D6]at h;obtain⟨⟨rfl,h1⟩,h2⟩:=h;have hA:=(sT a h1 G).1;cases r with
   |nil=>exact⟨(oJ hA (oj (sT b h2 G).1)).pt,λ_=>oJ hA (oj (sT b h2 G).1)⟩
   |cons z r=>
    have hB:=(sT b h2 G).2;cases b with
    |and b1 b2=>exact⟨(oJ hA (hB rfl)).pt,λ_=>oJ hA (hB rfl)⟩
    |val b1=>simp[okT,ou]at h2
    |cmp=>simp[okT]at h2
    |chain=>simp[okT]at h2
    |chain3=>simp[okT]at h2
    |or=>simp[okT]at h2
    |not=>simp[okT]at h2
  ·cases h
 |.or a b,c,e,X,E2,h,G=>by
  unfold okT at h;split at h
  ·rename_i op x y r p;simp only[DR,D6]at h;obtain⟨⟨rfl,h1⟩,h2⟩:=h;have hA:=(sT a h1 G).1;cases r with
   |nil=>exact⟨(tP hA (ra (sT b h2 G).1)).pt,λ_=>tP hA (ra (sT b h2 G).1)⟩
   |cons z r=>
    have hB:=(sT b h2 G).2;cases b with
    |or b1 b2=>exact⟨(tP hA (hB rfl)).pt,λ_=>tP hA (hB rfl)⟩
    |val b1=>simp[okT,ou]at h2
    |cmp=>simp[okT]at h2
    |chain=>simp[okT]at h2
    |chain3=>simp[okT]at h2
    |and=>simp[okT]at h2
    |not=>simp[okT]at h2
  ·cases h
 |.not a,c,e,X,E2,h,G=>by
  unfold okT at h;split at h
  ·simp only[DR,D6]at h;obtain⟨rfl,h1⟩:=h;exact⟨zi (sT a h1 G).1,λz=>nomatch z⟩
  ·cases h
theorem sA:∀(ia:IA) {c:Cfg}{es:List Expr}{X:Cx}{E2:St->XK},okA ia c es=true->Good c W X E2->PA X es (cU X.K W.cls E2 (wpA W ia))
 |.nil,c,es,X,E2,h,G=>by
  simp only[okA]at h;cases es with
  |nil=>exact Az
  |cons _ _=>cases h
 |.cons a r,c,es,X,E2,h,G=>by
  obtain⟨x,xs,rfl,h1,h2,h3⟩:=bJ h;exact wC (sE a h2 G) (sA r h3 G) (aZ h1)
theorem sO:∀(io:IO) {c:Cfg}{o:Option Expr}{X:Cx}{E2:St->XK},okO io c o=true->Good c W X E2->PO X o (pf X.K W.cls E2 (wpO W io))
 |.no,c,o,X,E2,h,G=>by
  simp only[okO]at h;cases o with
  |none=>exact Ca
  |some _=>cases h
 |.yes a,c,o,X,E2,h,G=>by
  cases o with
  |none=>simp[okO]at h
  |some x=>
   simp only[okO]at h;exact An (sE a h G)
theorem sTO:∀(io:ITO) {c:Cfg}{es:List Expr}{X:Cx}{E2:St->XK},rQ io c es=true->Good c W X E2->PIf X es (bC X.K W.cls E2 (fZ W io))
 |.no,c,es,X,E2,h,G=>by
  simp only[rQ]at h;cases es with
  |nil=>exact λpins s σ H Q2 I ⟨σ3,M,Q,E3,rm,ds,lk,h,back⟩=>tK pins s σ H Q2 I (back _ _ _ rm (.refl _) h)
  |cons _ _=>cases h
 |.yes t,c,es,X,E2,h,G=>by
  unfold rQ at h;split at h
  ·exact uP (sT t h G).1
  ·cases h
theorem sI:∀(ii:II) {c:Cfg}{e:Expr}{X:Cx}{E2:St->XK}{tg:Expr},okI ii c e=true->Good c W X E2->yB ii tg=true->PIB (sq ii) X tg e (nc X.K W.cls E2 (wpI W ii))
 |.seq a,c,e,X,E2,tg,h,G,_=>by
  unfold okI at h;exact yY (sE a h G)
 |.rng1 a,c,e,X,E2,tg,h,G,_=>by
  unfold okI at h;split at h
  ·simp only[DR,D6]at h;obtain⟨⟨⟨rfl,h1⟩,h2⟩,h3⟩:=h;exact BP (G.gl h1) (G.bi _ (by decide +kernel)) (sE a h3 G) (aZ h2)
  ·cases h
 |.rng2 a b,c,e,X,E2,tg,h,G,_=>by
  unfold okI at h;split at h
  ·simp only[DR,D6]at h;obtain⟨⟨⟨⟨⟨rfl,h1⟩,h2⟩,h3⟩,h4⟩,h5⟩:=h;exact B6 (G.gl h1) (G.bi _ (by decide +kernel)) (sE a h4 G) (sE b h5 G) (by rw[aZ h2,aZ h3];rfl) (aZ h3)
  ·cases h
end
end
theorem rh{X:Cx}(G:Good c W X E2){pos px spos:Pos}(h:swB c scope x px.line pos.line=true) :
  swapsWith (.ListComp el gs scope pos) (some (.Name x px)) spos.line X.env=pure true:=by
 unfold swB at h;simp only[DR]at h;have h1:X.env.scope.kind=.function:=by rw[G.sc];exact Ec.mp h.1.1.1
 have h2:X.env.kindOf x=some .local:=by show X.env.scope.names.lookup x=_;rw[G.sc];exact Ec.mp h.1.1.2
 have hb:(X.env.blockKind == .function)=true:=by
  unfold Env.blockKind;rw[h1];rfl
 show (pure (X.env.blockKind == .function&&X.env.kindOf x == some .local&&px.line == pos.line&&!(scope.names.any λ(n,k)=>n == x&&(k == .local||k == .cell))):Sem Bool)=pure true
 rw[hb,h2,h.1.2,h.2];rfl
theorem wH{c:Cfg}{X:Cx}(G:Good c W X E2){spos:Pos}(h:(c.sc.names.lookup x == some .cell)=true) :
  swapsWith (.ListComp el gs scope pos) (some (.Name x px)) spos.line X.env=pure false:=by
 have h2:X.env.kindOf x=some .cell:=by show X.env.scope.names.lookup x=_;rw[G.sc];exact Ec.mp h
 show (pure (X.env.blockKind == .function&&X.env.kindOf x == some .local&&px.line == pos.line&&!(scope.names.any λ(n,k)=>n == x&&(k == .local||k == .cell))):Sem Bool)=pure false
 rw[h2,show ((some NameKind.cell:Option NameKind) == some .local)=false from rfl,Bool.and_false];rfl
theorem ud{c:Cfg}(h:swB c scope x a b=true):c.sc.names.lookup x=some .local:=by
 unfold swB at h;simp only[DR,Ec]at h;exact h.1.1.2
section
variable {W:WC}
theorem r0{fz:Bool}{N:List Str}{js:List (Option Nat)}{tg:ITg}{it:II}{cond:ITO}{elt:IE}{c:Cfg}{X:Cx}{E2:St->XK}{i:Nat}{x:Str}{px spos pos:Pos}{el:Expr}{gs:List Comprehension}{scope:Scope}
  (h:okE (.comp fz N js tg it cond elt) c (.ListComp el gs scope pos)=true) (hi:(c.N[i]? == some x)=true) (hsw:swB c scope x px.line pos.line=true) (G:Good c W X E2) :
  PS X (.Assign [.Name x px] (.ListComp el gs scope pos) spos) (aP X.K W.cls E2 (wpS W (.set i (.comp fz N js tg it cond elt)))):=by
 have sp:=rh (spos:=spos) (el:=el) (gs:=gs) G hsw;unfold okE at h;split at h
 ·rename_i el' tgE iter ifs as scope' pos' heq;cases heq;simp only[DR,D6]at h;obtain⟨⟨⟨⟨⟨⟨⟨⟨h0,rfl⟩,ht⟩,h1⟩,h2⟩,h3⟩,h4⟩,h5⟩,h6⟩:=h;have hok:=h2;rw[<-G.sc,<-G.N]at hok;exact nD hok (G.qt h0) (sI it h3 G ht) (λC s2 H2 fp pn=>sG tg h4 (G.comp h2 C s2 H2 fp pn)) (λC s2 H2 fp pn=>sTO cond h5 (G.comp h2 C s2 H2 fp pn)) (λC s2 H2 fp pn=>sE elt h6 (G.comp h2 C s2 H2 fp pn)) (nW h1) G.ndX (G.at hi) (by rw[G.sc];exact ud hsw) sp fz
 ·cases h
mutual
theorem sS:∀(is:IS) {c:Cfg}{s:Stmt}{X:Cx}{E2:St->XK},okS is c s=true->Good c W X E2->PS X s (aP X.K W.cls E2 (wpS W is))
 |.set i a,c,s,X,E2,h,G=>by
  unfold okS at h;split at h
  ·simp only[DR,Bool.or_eq_true]at h;obtain⟨⟨⟨h1,h2⟩,h3⟩,h4⟩:=h;obtain⟨l1,l2⟩:=G.loc h2;rcases h4 with h4|h4
   ·exact vm G.ndX (G.at h1) l1 (sE a h3 G) (j9 h4) l2
   ·split at h4
    ·rcases Bool.or_eq_true_iff.mp h4 with h4|h4
     ·exact r0 h3 h1 h4 G
     ·exact vm G.ndX (G.at h1) l1 (sE _ h3 G) (wH G h4) l2
    ·cases h4
  ·cases h
 |.expr a,c,s,X,E2,h,G=>by
  unfold okS at h;split at h
  ·simp only[DR]at h;exact yy (sE a h.2 G) (j9 h.1)
  ·cases h
 |.ret a,c,s,X,E2,h,G=>by
  unfold okS at h;split at h
  ·exact zp (sE a h G)
  ·cases h
 |.retN,c,s,X,E2,h,G=>by
  unfold okS at h;split at h
  ·exact wQ
  ·cases h
 |.dead,c,s,X,E2,h,G=>ye
 |.ifs t a b,c,s,X,E2,h,G=>by
  unfold okS at h;split at h
  ·simp only[DR]at h;exact B4 (sT t h.1.1 G).1 (sSs a h.1.2 G) (sSs b h.2 G)
  ·cases h
 |.for_ tg it body,c,s,X,E2,h,G=>by
  unfold okS at h;split at h
  ·simp only[DR]at h;obtain⟨⟨⟨⟨⟨⟨h1,ht⟩,h2⟩,h3⟩,h4⟩,h5⟩,h6⟩:=h;exact zF (G.own h1).1 (G.calm h2) (sI it h5 G ht).calm (sG tg h4 G) (sSs body h6 G) (nW h3)
  ·cases h
 |.forK tg o body,c,s,X,E2,h,G=>by
  unfold okS at h;split at h
  ·simp only[DR]at h;obtain⟨⟨⟨⟨⟨h1,h2⟩,h3⟩,h4⟩,h5⟩,h6⟩:=h;exact xo (G.own h1).1 (G.calm h2) (sE o h5 G) (sG tg h4 G) (sSs body h6 G) (nW h3)
  ·cases h
 |.forD tg o body,c,s,X,E2,h,G=>by
  unfold okS at h;split at h
  ·simp only[DR,D6]at h;obtain⟨⟨⟨⟨⟨⟨⟨h1,h2⟩,rfl⟩,h3⟩,h4⟩,h5⟩,h6⟩,h7⟩:=h;exact wt (G.own h1).1 (G.calm h2) (sE o h6 G) (b8 h3) h4 (sG tg h5 G) (sSs body h7 G) (λ_=>rfl)
  ·cases h
 |.whl t body,c,s,X,E2,h,G=>by
  unfold okS at h;split at h
  ·simp only[DR]at h;exact uh (G.own h.1.1).1 (sT t h.1.2 G).1 (sSs body h.2 G)
  ·cases h
 |.raiseI k es,c,s,X,E2,h,G=>by
  unfold okS at h;split at h
  ·rename_i x px args cp pos;simp only[DR,Bool.not_eq_true']at h;obtain⟨⟨⟨⟨⟨⟨⟨h0,h1⟩,h2⟩,h3⟩,h4⟩,h5⟩,h6⟩,h7⟩:=h;obtain⟨_,E,hE,hRH,hR,hRD,hr2,_⟩:=G.own h1;rw[G.calm h2]at hr2;obtain⟨m1,_,_⟩:=G.exc k x (Ec.mp h3);obtain⟨f,hf⟩:=En.mp h0;obtain⟨hxf,fI,fd,ps,xi,bd,F⟩:=G.xi k f hf;have hA:=sA (W:=W) es h7 G;cases args with
   |nil=>cases h6
   |cons z zs=>
    cases es with
    |nil=>simp[okA]at h7
    |cons ea er=>
     obtain⟨_,_,e1,n1,_,n3⟩:=bJ h7;cases e1;exact rO hRD hE (G.calm h2) (G.gl h4) m1 xi F hr2 bd hxf hA h5 (aZ n1) (bO _ n3)
  ·cases h
 |.raise k es,c,s,X,E2,h,G=>by
  unfold okS at h;split at h
  ·rename_i x px args cp pos;simp only[DR,Bool.not_eq_true',Bool.or_eq_true]at h;obtain⟨⟨⟨⟨⟨⟨⟨h0,h1⟩,h2⟩,h3⟩,h4⟩,h5⟩,h6⟩,h7⟩:=h;obtain⟨_,E,hE,hRH,hR,hRD,hr2,_⟩:=G.own h1;have hda:HdA X:=h2.elim (λz=>.inl (G.calm z)) λz=>.inr (G.soft z).2
   obtain⟨m1,m2,_⟩:=G.exc k x (Ec.mp h3);have hA:=sA (W:=W) es h7 G;cases args with
   |nil=>cases h6
   |cons z zs=>
    cases es with
    |nil=>simp[okA]at h7
    |cons ea er=>
     obtain⟨_,_,e1,n1,_,n3⟩:=bJ h7;cases e1;exact qw hRH hE hda (G.gl h4) m1 (m2 (Option.isNone_iff_eq_none.mp h0)) hA h5 (aZ n1) (bO _ n3)
  ·cases h
 |.try_ body hs,c,s,X,E2,h,G=>by
  unfold okS at h;split at h
  ·rename_i b handlers pos;simp only[DR]at h;obtain⟨⟨⟨h1,h2⟩,h3⟩,h4⟩:=h;obtain⟨t1,t2,t3⟩:=G.tr h1;have hH:=sHs hs h4 G;cases handlers with
   |nil=>cases h2
   |cons h0 hr=>exact AE t1 t2 t3 hH λpn V' E2' hP=>sSs body h3 (G.trying hP)
  ·cases h
 |.app o a,c,s,X,E2,h,G=>by
  unfold okS at h;split at h
  ·simp only[DR,D6]at h;obtain⟨⟨⟨⟨⟨rfl,h1⟩,h2⟩,h3⟩,h4⟩,h5⟩:=h;exact AT (sE o h4 G) (sE a h5 G) (yI h1) h2 (aZ h3)
  ·cases h
 |.del i,c,s,X,E2,h,G=>by
  unfold okS at h;cases h
 |.fset o f a,c,s,X,E2,h,G=>by
  unfold okS at h;split at h
  ·simp only[DR,D6]at h;obtain⟨⟨⟨rfl,h1⟩,h2⟩,h3⟩:=h;exact ya (B:=W.toWB) G.kok (sE o h2 G) (sE a h3 G) (j9 h1)
  ·cases h
 |.ixset o i a,c,s,X,E2,h,G=>by
  unfold okS at h;split at h
  ·simp only[DR]at h;obtain⟨⟨⟨⟨h0,h1⟩,h2⟩,h3⟩,h4⟩:=h;exact ub G.un (sE o h2 G) (sE i h3 G) (sE a h4 G) (vT h0) (by unfold swapsWithSole;exact j9 h1) (by rfl) (by rfl)
  ·cases h
theorem sSs:∀(is:ISs) {c:Cfg}{sts:List Stmt}{X:Cx}{E2:St->XK},cH is c sts=true->Good c W X E2->PSs X sts (aP X.K W.cls E2 (aw W is))
 |.nil,c,sts,X,E2,h,G=>by
  simp only[cH]at h;cases sts with
  |nil=>exact AC
  |cons _ _=>cases h
 |.cons s r,c,sts,X,E2,h,G=>by
  unfold cH at h;split at h
  ·exact zz (sSs r h G)
  ·split at h
   ·simp only[DR]at h;exact xr (t:=wpS W s) (u:=aw W r) (sS s h.1 G) (sSs r h.2 G)
   ·cases h
theorem sHs:∀(ih:IHs) {c:Cfg}{hs:List ExceptHandler}{X:Cx}{E2:St->XK},qu ih c hs=true->Good c W X E2->PH X hs (mQ X.K W.cls (wpH W ih))
 |.nil,c,hs,X,E2,h,G=>by
  simp only[qu]at h;cases hs with
  |nil=>exact wM
  |cons _ _=>cases h
 |.cons k nm body r,c,hs,X,E2,h,G=>by
  unfold qu at h;split at h
  ·rename_i x px nmE bodyE hp rest;simp only[DR,Bool.not_eq_true']at h;obtain⟨⟨⟨⟨⟨⟨h1,h2⟩,h3⟩,h4⟩,h5⟩,h6⟩,h7⟩:=h;obtain⟨m1,m2,m3⟩:=G.exc k x (Ec.mp h1);have hR:=sHs r h7 G;cases bodyE with
   |nil=>cases h5
   |cons b0 suite=>
    cases nm with
    |none=>
     cases nmE with
     |none=>exact zP (G.gl h2) m1 m3 (λa o u l=>sSs body h6 (G.caughtS a o u l)) hR h3
     |some n=>cases h4
    |some j=>
     cases nmE with
     |none=>cases h4
     |some n=>
      simp only[DR,Ec]at h4;exact yU (G.gl h2) m1 m3 G.ndX (by rw[G.N];exact h4.1) (by rw[G.sc];exact h4.2) (λa o u l=>sSs body h6 (G.caughtS a o u l)) hR h3
  ·cases h
end
end
end L2
namespace L2
open PySem PySem.W PySem.Spec PyProof.Rows
theorem holdsT{l:OpenLaw}{q:Program}{loose:List Str}{Xt:Shared->Bool}{XP:(Str->Option Value)->Heap->Prop}{α:Type}{Yf:Shared->α}{Ya:World->α}{YP:World->Heap->Prop}{d:DefRec}{N n:Nat}
  (left:LeftO l.row.prog q loose Xt Yf Ya N) (hY:∀w s,Yf s=Ya w->YP w s.heap/\0<s.toks) (hYk:∀w h h',YP w h->(∀b o,h.get? b=some o->h'.get? b=some o)->YP w h')
  (hX:∀s,Xt s=true->XP (s.heap.nsMap mainGlobals) s.heap) (hXk:∀mg h h',XP mg h->(∀b o,h.get? b=some o->h'.get? b=some o)->XP mg h')
  (hdef:defOf q l.row.name=some (d,[])) (hp:l.row.prog.theDef l.row.name=some (d.params,d.body,d.scope)) (hk:kwWritten? d.params.kwonlyargs d.params.kw_defaults=some []) (hRf:∀s,Xt s=true->RecFacts l.row.records s.heap) (hwr:(!l.row.writes||l.row.records.isEmpty)=true)
  (k1:l.row.wellSaid=true) (ok:(chainsOk q&&opensWell l.row.prog&&(frees l.row.toRowW&&l.row.within.isEmpty))=true) (hb:l.row.prog.bare)(hw:l.row.toRowW.promised) (hn:l.most=some n) (hdf:d.params.defaults=[])
  (call:∀(w:World)(s₀ s:Shared)(mg mb:Str->Option Value)(fa:Addr)(a:Addr)(vs:List Value)(ns:List Int),0<s.toks->Ground q loose [] XP w s₀ mg mb s.heap->YP w s.heap->mg d.name=some (.ref fa)->s.heap.get? a=some {cls:=.type "list",data:=.seq vs.toArray}->IntsAre vs ns->ns.length<=n->s.gens=#[]->
   codeAny (model l.prog w) callerA (.call (.ref fa) ⟨[.ref a],[]⟩) (λr s'=>r=.ok (.ret (.bool true))/\OldK s.heap s'.heap/\s'.os=s.os/\AllBare s'.gens) s):l.row.Holds:=by
 refine⟨k1,hw,?_⟩;have mk:∀r:RowW,r.makers=[]->r.claim.makers=[]:=λr hm=>by show r.makers.map _=[];rw[hm];rfl
 obtain⟨ok,k5⟩:=EW.mp ok;obtain⟨hch,o1⟩:=EW.mp ok;obtain⟨k5,k6⟩:=EW.mp k5;obtain⟨hsame,hu,ha,hap,hm⟩:=frees_parts k5;refine⟨⟨hb,o1,mk _ hm⟩,hw.witness,λw=>⟨(left.behind hX hch w).1,λs' hs'=>?_⟩⟩
 obtain⟨s₀,hf,hg0,s,hT,hz,hgens,hg,G00,y⟩:=(left.behind (XP:=λmg h=>XP mg h/\RecFacts l.row.records h) (λs hs=>⟨hX s hs,hRf s hs⟩) hch w).2 s' hs'
 have G0:Ground q loose [] XP w s (s.heap.nsMap mainGlobals) (s.heap.nsMap builtinsNs) s.heap:=⟨G00.T,G00.B,G00.D,G00.TE,G00.TD,G00.W,G00.X.1,G00.cls,G00.has,G00.apart,G00.once,G00.K⟩;have RF:=G00.X.2;refine⟨s₀,hf,hg0,s,hT,λn hn=>?_,RF.1,RF.2.1,?_⟩
 ·obtain rfl:n=l.row.name:=by split at hn<;>simp_all
  exact pinned_of_view hg G0 hdef hp hk
 have hgens:s.gens=#[]:=Array.eq_empty_of_size_eq_zero (Ec.mp hgens);have G:Ground q loose l.row.records XP w s _ _ s.heap:=RF.ground G0;refine ClaimW.callFrom_of_specG (c:=l.row.toRowW.claim) hz hgens λargs hpre hlay ord hord=>?_
 obtain⟨⟨vs,s₁⟩,hlaid⟩:=En.mp (layAllW_isSome (P:=w.params) (ord:=ord) G.has args l.row.toRowW.args s (pre_splitW hpre).1);have keeps:=layAllW_keeps _ _ _ hlaid;have hal:=layAllW_rest _ _ _ hlaid;obtain⟨as,hrd,hin,hold⟩:=reads_layAllW hord _ _ _ hlaid hlay s₁.heap (λ_ _ e=>e)
 have L:Laid l.row.records w s s₁ args vs as:=⟨⟨ord,hord,hlaid⟩,hrd,hin,hold,keeps,hal.1.trans hgens,hal.2.2.1⟩;have G₁:=G.keeps hXk keeps;obtain⟨fa,o,pm,cd,doc,dV,kV,h1,h2,h3,h4,h5⟩:=G₁.fn hdef;have hi:=ident_freeW hu ha hap;have hwi:l.row.toRowW.claim.within=[]:=List.isEmpty_iff.mp k6;obtain⟨a,vs',ns,rfl,rfl,hobj,hints,hlen⟩:=Att.script_of hn hpre L.well;have tk:0<s₁.toks:=D0 (hY w s y).2 (layAllW_grows _ _ _ hlaid).toks;have key:=call w s s₁ _ _ fa a vs' ns tk G₁ (hYk _ _ _ (hY w s y).1 keeps) (defOf_name hdef▸h1) hobj hints hlen L.gens;refine⟨_,s₁,hlaid,vJ (wpAny_nsGet G₁.T.g ?_)⟩;rw[h1];refine vJ (wpAny_call (codeAny_mono key λr s2 hq=>?_))
 obtain⟨rfl,q2,q3,q4⟩:=hq;have g:GoodWG l.row.toRowW.claim (classAt s.heap) (ExcName.means s.heap) [WData.list (ns.map WData.int)] s₁ (.ok (.ret (.bool true))) s2:=⟨.inl ⟨.bool true,.bool true,[],rfl,λ_=>rfl,.bool true,Att.post_true l _,λ_=>⟨List.Pairwise.nil,λ_ hm=>(nomatch hm)⟩⟩,q2,q3,q4⟩
 have z:=g.laid (c:=l.row.toRowW.claim) hsame hwi hi L;exact DS ⟨_,rfl,z.1,z.2.1,z.2.2,λq=>⟨namesKept_of hT hg _ keeps g.2.1.old,noTable hwr q⟩⟩
end L2
namespace L2
open PySem PySem.Spec PyProof.Rows
theorem bp:∀{l:List (Nat×Nat)}{m f:Nat},l.lookup m=some f->(m,f)∈l
 |[],_,_,h=>by cases h
 |(a,b)::r,m,f,h=>by
  rw[EJ]at h;by_cases e:m=a
  ·subst e;simp at h;subst h;exact DW
  ·have:(m == a)=false:=by simpa using e
   rw[this]at h;exact DT _ (bp h)
theorem ixc{α:Type}{P:Nat->α->Prop}{a:α}{r:List α}(h0:P 0 a)(hr:∀i x,r[i]?=some x->P (i+1) x):∀i x,(a::r)[i]?=some x->P i x
 |0,x,h=>by cases h;exact h0
 |i+1,x,h=>hr i x h
theorem ixn{α:Type}{P:Nat->α->Prop}:∀i x,([]:List α)[i]?=some x->P i x:=λi x h=>by simp at h
theorem us0{P:List Value->Prop}(h:P []):∀us:List Value,us.length=0->P us:=λus e=>(List.eq_nil_of_length_eq_zero e)▸h
theorem usS{n:Nat}{P:List Value->Prop}(h:∀a,∀us:List Value,us.length=n->P (a::us)):∀us:List Value,us.length=n+1->P us:=λus e=>by
 cases us with
 |nil=>cases e
 |cons a r=>exact h a r (Nat.succ.inj e)
structure FB where
 np:Nat
 nl:Nat
 cl:Bool
 body:ISs
 df:List Int:=[]
noncomputable def FB.full(fb:FB)(ds:List D):List D:=ds++(fb.df.drop (ds.length+fb.df.length-fb.np)).map D.int
noncomputable def mR(nl:Nat)(ds:List D):St3:=ds.map some++List.replicate (nl-ds.length) none
def ac(T:List FB)(B:WB):Nat->Nat->List D->MH->VK3->XN->Prop
 |0,_,_,_,_,_=>False
 |n+1,f,ds,M,Q,E=>match T[f]? with
  |none=>False
  |some fb=>(fb.full ds).length=fb.np/\aw {toWB:=B,call:=ac T B n} fb.body {nx:=λ_ M'=>Q .non (kp fb.cl M M'),rt:=λv M'=>Q v (kp fb.cl M M')} (λ_ i M'=>E i (ak M M')) (mR fb.nl (fb.full ds)) M
structure FL where
 name:Str
 qual:Str
 glob:Bool
 cl:Bool
 st:Stmt
 N:List Str
 ps:List Str
 body:ISs
 gn:Str:=name
 df:List Int:=[]
noncomputable def kj(N ps:List Str)(sc:Scope):Bool:=(sc.kind == .function)&&!sc.isCoroutine&&!sc.isGenerator&&decide N.Nodup&&(N.take ps.length == ps)&&
 ps.all (λx=>sc.names.lookup x == some .local||sc.names.lookup x == some .cell)&&sc.names.all (λy=>y.2 != .free)
theorem jx(h:kj N ps sc=true):FnScope N ps sc:=by
 unfold kj at h;simp only[DR,Bool.not_eq_true',Ec,D6,Es,Bool.or_eq_true,bne_iff_ne]at h;obtain⟨⟨⟨⟨⟨⟨h1,h2⟩,h3⟩,h4⟩,h5⟩,h6⟩,h7⟩:=h;exact⟨h1,h2,h3,h4,h5,h6,h7⟩
structure NM where
 exc:List Str
 kln:List Str
 gln:List Str
 xin:List (Nat×Nat)
 sfl:List Nat:=[]
noncomputable def FL.cfg(l:FL)(fns:List (Option Str×Nat))(n:NM)(b:Bool:=true):Cfg:={N:=l.N,sc:=aq l.st,fns:=fns,exc:=n.exc,kln:=n.kln,gln:=n.gln,xin:=n.xin,calm:=b,soft:=!b,sfl:=n.sfl,own:=true,tr:=true,fn:=true}
noncomputable def FL.fb(l:FL):FB:=⟨l.ps.length,l.N.length,l.cl,l.body,l.df⟩
noncomputable def FL.ok(l:FL)(fns:List (Option Str×Nat))(n:NM):Bool:=kj l.N l.ps (aq l.st)&&cH l.body (l.cfg fns n) (ax l.st)
noncomputable def bI(L:List FL):List (Option Str×Nat):=L.map λl=>(if l.glob=true then some l.gn else none,l.ps.length)
structure FunD (K:E7)(x qual:Str)(st:Stmt)(f:Addr)(fd:FuncData):Prop where
 ex:∃(oc:Value) (od:Option Addr) (dV kV doc pm:Value) (an:Option Addr) (cdv ct:Value) (osl:Array (Option Value)),
  fd=PySem.W.fnOf x qual (ba st) (ax st) (aq st) dV kV doc pm an cdv ct/\K.lookup f=some ⟨oc,od,.func fd,osl⟩/\PySem.W.codeIn K cdv qual=true
 kp:PySem.W.keepIn K (.ref f)=true
structure Top (Pm:Params)(K:E7)(mg:Str->Option Value)(L:List FL)(n:NM)(B:WB):Prop where
 ok:∀l∈L,l.ok (bI L) n=true
 fn:∀f l,L[f]?=some l->∃fd,FunD K l.name l.qual l.st (B.fad f) fd/\(l.glob=true->mg l.gn=some (.ref (B.fad f)))/\(l.df=[]->∀us:List Value,us.length=l.ps.length->bindArgs fd ⟨us,[]⟩=pure (l.ps.zip us))/\∃dv,Vals (l.df.map V.int) dv/\∀j,Binds K fd l.ps (dv.drop j)
 exi:∀i,i<B.ne->ExcI K (B.cls i)/\PySem.W.kitOne K (.ref (B.cls i)) (.type "ValueError")=some true/\∀j x,n.exc[j]?=some x->PySem.W.kitOne K (.ref (B.cls i)) (.ref (B.cls j))=some (B.sub i j)
 exc:∀i x,n.exc[i]?=some x->mg x=some (.ref (B.cls i))/\(n.xin.lookup i=none->tG K (B.cls i))/\∀j,j<B.ne->PySem.W.exmOne K (.ref (B.cls j)) (.ref (B.cls i))=some (B.sub j i)
 kok:∀i,i<B.nk->KOk K B B.fad i
 kin:∀i,i<B.nk->∃f,B.ini i=some f
 kfi:∀i f,i<B.nk->B.ini i=some f->f<L.length
 kfm:∀i m f,i<B.nk->B.mth i m=some f->f<L.length
 knm:∀i x,n.kln[i]?=some x->mg x=some (.ref (B.kls i))/\i<B.nk
 glo:∀k x,n.gln[k]?=some x->∃u v,mg x=some u/\RelV v u/\vZ K Pm (B.glo k) v
 bi:∀x∈biNames,mg x=none
 dig:yC K
 xi:∀i f,n.xin.lookup i=some f->B.xin i=some f/\∃fI fd ps,XIni K (B.cls i) fI (fnm f)/\Binds K fd ps []/\∀(P:Program)(w:World)(base:Heap),FnOk P w K mg base (CX1 P w) 1 fI fd ps (gw (cpF f) K (B.cls i) (fnm f))
 xn:∀i f,i<B.ne->B.xin i=some f->NoAttr K (B.cls i) (fnm f)
 oks:∀f l,L[f]?=some l->n.sfl.contains f=true->cH l.body (l.cfg (bI L) n false) (ax l.st)=true
 twn:∀k f,B.tw k=some f->B.fad f=B.fad k
section
variable {w:World}{K:E7}{L:List FL}{B:WB}
noncomputable def spF(K:E7)(cls:Nat->Addr)(l:FL)(t3:List D->MH->VK3->XN->Prop):Sp:=λvs H Q E=>vs.length=l.ps.length/\spX K cls t3 vs H Q E
theorem FB.full_at{fb:FB}{ds:List D}(h:ds.length=fb.np):fb.full ds=ds:=by
 unfold FB.full;rw[List.drop_of_length_le (by omega),List.map_nil,EO]
theorem jF:∀{vs:List V}{us:List Value} (j:Nat),Vals vs us->Vals (vs.drop j) (us.drop j)
 |_,_,0,h=>h
 |_,_,_+1,.nil=>.nil
 |_,_,j+1,.cons _ h=>jF j h
theorem vP{l:FL}(hl:L[f]?=some l){dv:List Value}(hv:Vals (l.df.map V.int) dv)(hb:∀j,Binds K fd l.ps (dv.drop j)):BdT K B.cls fd l.ps (ac (L.map FL.fb) B n f) (spF K B.cls l (ac (L.map FL.fb) B n f)):=by
 rintro vs H Q E ⟨ds,M,Q3,E3,dl,rm,h,back,lk⟩;cases n with
 |zero=>exact h.elim
 |succ n=>
  have hT:(L.map FL.fb)[f]?=some l.fb:=by rw[Ef,hl];rfl
  have h0:=h;simp only[ac,hT]at h0;have e:=h0.1;have hlen:=dl.length;refine⟨(l.df.map V.int).drop (ds.length+l.df.length-l.ps.length),dv.drop (ds.length+l.df.length-l.ps.length),jF _ hv,hb _,?_,?_⟩
  ·have e2:(l.fb.full ds).length=l.ps.length:=e;unfold FB.full at e2;rw[Ew,D5]at e2;rw[Ew,List.length_drop,D5,<-hlen];rw[List.length_drop]at e2;exact e2
  ·refine⟨l.fb.full ds,M,Q3,E3,?_,rm,?_,back,lk⟩
   ·unfold FB.full;rw[<-List.map_drop];exact dl.append DenL.of_int
   ·simp only[ac,hT];rw[FB.full_at e];exact h0
theorem qx(T:Top w.params K mg L nm B):∀(n f:Nat)(l:FL),L[f]?=some l->∀(bq:Bool),(bq=false->nm.sfl.contains f=true)->∀(fd:FuncData),FunD K l.name l.qual l.st (B.fad f) fd->FnOk P w K mg base (CX1 P w bq) (2*n+2) (B.fad f) fd l.ps (spF K B.cls l (ac (L.map FL.fb) B n f)) bq:=by
 intro n
 induction n with
 |zero=>
  intro f l hl bq hbq fd F;exact⟨λvs H Q E h=>h.1,λA outer s H args us vs Q E hr hq e0 hb r ⟨_,_,_,_,_,_,_,h,_⟩=>h.elim⟩
 |succ n ih=>
  intro f l hl bq hbq fd F;have hT:(L.map FL.fb)[f]?=some l.fb:=by rw[Ef,hl];rfl
  have hm:l∈L:=EV hl;have okl:=T.ok l hm;unfold FL.ok at okl;rw[DR]at okl;have S:=jx okl.1;obtain⟨oc,od,dV,kV,doc,pm,an,cdv,ct,osl,rfl,lk,hcd⟩:=F.ex;have un:∀ds M Q E,ac (L.map FL.fb) B (n+1) f ds M Q E->ds.length=l.ps.length->aw {toWB:=B,call:=ac (L.map FL.fb) B n} l.body {nx:=λ_ M'=>Q .non (kp l.cl M M'),rt:=λv M'=>Q v (kp l.cl M M')} (λ_ i M'=>E i (ak M M')) (mR l.N.length ds) M:=λds M Q E h e=>by
   simp only[ac,hT]at h;rw[FB.full_at (fb:=l.fb) e]at h;exact h.2
  have okb:cH l.body (l.cfg (bI L) nm bq) (ax l.st)=true:=by
   cases bq with
   |true=>exact okl.2
   |false=>exact T.oks f l hl (hbq rfl)
  show FnOk P w K mg base (CX1 P w bq) (2*n+3+1) _ _ _ _ bq;refine qH lk hcd S (λvs H Q E h=>?_) λA outer s H vs Q E hr hq hsp=>?_
  ·exact h.1
  ·obtain⟨hle,ds,M,Q3,E3,dl,rm,h,back,lkE⟩:=hsp;have h:=un _ _ _ _ h (by rw[dl.length];exact hle)
   have len:(bI L).length=L.length:=by unfold bI;rw[D5]
   have nb:(!bq)=true->bq=false:=by cases bq<;>simp
   have G:Good (l.cfg (bI L) nm bq) {toWB:=B,call:=ac (L.map FL.fb) B n} (bj (CX1 P w bq) P w K mg base l.N l.qual (aq l.st) (B.fad f) cdv A outer s H E bq) (λ_=>E):=by
    refine⟨rfl,S.nd,rfl,hr.units,(λz=>z),(λz=>⟨nb z,hq (nb z)⟩),λ_ _=>rfl,(λ_ z=>nomatch z),λ_=>⟨Cv,E,rfl,sy,tO,qZ,hr.mono (by omega),wI⟩,λ_=>⟨rfl,rfl,rfl⟩,λz=>⟨2*n+2,⟨λ_=>hr.hd z,hr.dp,hr.un⟩,λg hg=>?_⟩,λg x k hg=>?_,T.kok,T.kin,λi g hi q=>?_,λi m g hi q=>?_,T.knm,T.glo,T.exc,T.exi,(λi f hi=>?_),T.xn,T.bi,T.dig,λpins σ H' s' e s'' I hc=>Aj pins σ H' s' e s'' I hc,⟨2*n+2,⟨(λz=>nomatch z),hr.dp,hr.un⟩,λg hg hs=>?_⟩,T.twn⟩
    ·have hg:g<(bI L).length:=hg;rw[len]at hg;obtain⟨fd2,F2,_,_,dv2,v2,b2⟩:=T.fn g L[g] (by simp[hg])
     exact⟨fd2,_,_,F2.kp,vP (by simp[hg]) v2 b2,ih g L[g] (by simp[hg]) true (λz=>nomatch z) fd2 F2⟩
    ·have hg:(bI L)[g]?=some (some x,k):=hg;unfold bI at hg;rw[Ef]at hg;cases q:L[g]? with
     |none=>rw[q]at hg;cases hg
     |some l2=>
      rw[q]at hg;obtain⟨fd2,F2,m2,_⟩:=T.fn g l2 q;have e:((if l2.glob=true then some l2.gn else none),l2.ps.length)=(some x,k):=D9 hg
      by_cases z:l2.glob=true
      ·rw[DY z]at e;cases e;exact m2 z
      ·rw[DV z]at e;cases e
    ·show g<(bI L).length;rw[len];exact T.kfi i g hi q
    ·show g<(bI L).length;rw[len];exact T.kfm i m g hi q
    ·obtain⟨a,fI,fd3,ps3,x3,b3,F3⟩:=T.xi i f hi;exact⟨a,fI,fd3,ps3,x3,b3,F3 P w base⟩
    ·have hg:g<(bI L).length:=hg;rw[len]at hg;obtain⟨fd2,F2,_,_,dv2,v2,b2⟩:=T.fn g L[g] (by simp[hg])
     exact⟨fd2,_,_,F2.kp,vP (by simp[hg]) v2 b2,ih g L[g] (by simp[hg]) false (λ_=>hs) fd2 F2⟩
   exact⟨_,sSs l.body okb G,mR l.N.length ds,M,_,_,rm,nM dl,λσ3 σ i M' H' t _ rm' q dx xd=>lkE i _ H' t (rm'.sub λ_ _ z=>jE z) q dx xd,h,
    ⟨λσ' H' σ3' M' rm' ds' tm q=>back _ _ _ _ ip (rm'.sub λ_ _ z=>sN z) tm q,λv H' d M' dv rm' tm q=>back _ _ _ _ dv (rm'.sub λ_ _ z=>sN z) tm q,λ_ _ _ _ _ _ _ z=>z.elim,λ_ _ _ _ _ _ _ z=>z.elim⟩⟩
end
noncomputable abbrev scr(ns:List Int):D:=.rol (ns.map D.int)
theorem walkD{l:PySem.W.OpenLaw}{k f:Nat}{q:Program}{loose:List Str}{XP:(Str->Option Value)->Heap->Prop}{YP:World->Heap->Prop}{d:DefRec}{K:Params->E7}{fl:FL}{x:Str}{L:List FL}{nm:NM}{BB:(Nat->Addr)->(Nat->Addr)->(Nat->Addr)->WB}
  (hr:Room (2*k+2) callerA) (hY:∀(w:World)(h:Heap),YP w h->(K w.params).In h) (hf:L[f]?=some fl) (hps:fl.ps=[x]) (hname:fl.gn=d.name) (hgl:fl.glob=true)
  (T:∀(w:World)(mg:Str->Option Value)(h:Heap),(K w.params).In h->h.Ns mainGlobals mg->∃cls kls fad,Top w.params (K w.params) mg L nm (BB cls kls fad))
  (main:∀(cls kls fad:Nat->Addr)(ns:List Int),ns.length<=63->ac (L.map FL.fb) (BB cls kls fad) k f [scr ns] (λ_=>none) (λd _=>d=.bl true) (λ_ _=>False)) (hd0:fl.df=[]:=by rfl) :
  ∀(w:World)(s₀ s₁:Shared)(mg mb:Str->Option Value)(fa:Addr)(a:Addr)(vs:List Value)(ns:List Int),0<s₁.toks->PySem.W.Ground q loose [] XP w s₀ mg mb s₁.heap->YP w s₁.heap->mg d.name=some (.ref fa)->s₁.heap.get? a=some {cls:=.type "list",data:=.seq vs.toArray}->PyProof.Rows.IntsAre vs ns->ns.length<=63->s₁.gens=#[]->
   codeAny (model l.prog w) callerA (.call (.ref fa) ⟨[.ref a],[]⟩) (λr s'=>r=.ok (.ret (.bool true))/\OldK s₁.heap s'.heap/\s'.os=s₁.os/\AllBare s'.gens) s₁:=by
 intro w s₀ s₁ mg mb fa a vs ns htk G Y hmg hobj hints hlen hg;have KX:=hY w _ Y;obtain⟨cls,kls,fad,T⟩:=T w mg _ KX G.T.g;obtain⟨fd,F,m1,b1,_⟩:=T.fn f fl hf;have m1:=m1 hgl;rw[hname,hmg]at m1;have m1:=Value.ref.inj (D9 m1);subst m1;refine q9 (K:=K w.params) (CX:=CX1 l.prog w) (fd:=fd) (x:=x) (sp:=spF (K w.params) (BB cls kls fad).cls fl (ac (L.map FL.fb) (BB cls kls fad) k f)) KX G.T.g G.T.b G.T.builtins G.T.nolimit hg htk hobj hints (Ej hlen (by decide)) hr (λbase kb gb=>by rw[<-hps];exact qx T k f fl hf true (λz=>nomatch z) fd F) (λs u=>?_) (λH hO hS=>?_) λH e s' h=>?_
 ·have hb:=b1 hd0 [u] (by rw[hps];rfl)
  rw[hps]at hb;exact .of_eq hb
 ·have sq:SqF (K w.params) H a (ns.map V.int):=by
   cases hk:(K w.params).lookup a with
   |some ob=>
    have e:=KX a ob hk;rw[hobj]at e;cases e;exact .inr ⟨vs,_,hk,by rw[hints.length];exact Ej hlen (by decide),gm hints⟩
   |none=>
    rcases hS with (h|⟨ob,h⟩)|⟨ob,_,_,h,_⟩
    ·rcases hO a with z|⟨o2,xs,z⟩
     ·rw[h]at z;cases z
     ·rw[h]at z;cases z
    ·exact .inl ⟨ob,h⟩
    ·rw[hk]at h;cases h
  refine⟨by rw[hps];rfl,[scr ns],λ_=>none,λd _=>d=.bl true,λ_ _=>False,.one ⟨a,_,rfl,sq,.of_int⟩,λa o e=>(by cases e),main cls kls fad ns hlen,λv H' d M' dv _ _ q=>?_,λ_ _ _ _ _ h=>h.elim⟩
  subst q;exact dv
 ·obtain⟨_,_,_,_,_,_,_,_,_,_,_,_,_,he⟩:=h;exact he
theorem Fun.bindsE{K:E7}{st:Stmt}{ps:List Str}(F:Fun K x qual st f fd)
  (h:∀(kV doc pm:Value)(an:Option Addr)(cdv ct:Value)(us:List Value),us.length=ps.length->bindArgs (PySem.W.fnOf x qual (ba st) (ax st) (aq st) .none kV doc pm an cdv ct) ⟨us,[]⟩=pure (ps.zip us)):∀us:List Value,us.length=ps.length->bindArgs fd ⟨us,[]⟩=pure (ps.zip us):=by
 obtain⟨oc,od,kV,doc,pm,an,cdv,ct,osl,rfl,lk,hcd⟩:=F.ex;exact h kV doc pm an cdv ct
noncomputable def qM(sl pr b:Str)(sc:Scope)(ap cp:Pos):Bool:=(ap.endLine == cp.line)&&(sc.names.lookup b == some .globalImplicit)&&kj [sl,pr] [sl,pr] sc&&
 !(b == ("__debug__" : Str))&&!(sl == ("__debug__" : Str))&&!(pr == ("__debug__" : Str))&&!(sl == ("__classdict__" : Str))&&!(pr == ("__classdict__" : Str))
theorem uw{P:Program}{w:World}{K:E7}{mg:Str->Option Value}{base:Heap}{fI C D:Addr}{name qual:Str}{params:Arguments}{scope:Scope}{body:List Stmt}{kV doc pm cdv ct oc:Value}{an od:Option Addr}{osl:Array (Option Value)}{b sl pr f tx:Str}{j:Nat}{px ap p1 p2 cp p3 p4 p5 p6 p7 p8 p9:Pos}
  (hbd:body=[.Expr (.Call (.Attribute (.Name b px) "__init__" ap) [.Name sl p1,.Constant (.str tx) j p2] [] cp) p3,.Assign [.Attribute (.Name sl p4) f p5] (.Call (.Name "list" p8) [.Name pr p6] [] p9) p7])
  (h:qM sl pr b scope ap cp=true) (lk:K.lookup fI=some ⟨oc,od,.func (PySem.W.fnOf name qual params body scope .none kV doc pm an cdv ct),osl⟩) (hcd:PySem.W.codeIn K cdv qual=true) (hgl:scope.names.lookup ("list" : Str)=some .globalImplicit) (hml:mg "list"=none) (hm:mg b=some (.ref D)) (hb:BIni K D) (q:XIni K C fI f) :
  FnOk P w K mg base (CX1 P w) 1 fI (PySem.W.fnOf name qual params body scope .none kV doc pm an cdv ct) [sl,pr] (gw true K C f):=by
 subst hbd;unfold qM at h;simp only[DR,Bool.not_eq_true']at h;obtain⟨⟨⟨⟨⟨⟨⟨h7,h8⟩,h9⟩,h10⟩,h11⟩,h12⟩,h13⟩,h14⟩:=h;exact tE lk hcd (jx h9) (Ec.mp h8) hgl hml hm h7 hb q h10 h11 h12 h13 h14
end L2
namespace L2
open PySem
noncomputable def fq(K:E7)(a:Addr):Option FuncData:=match K.lookup a with
 |some ⟨_,_,.func fd,_⟩=>some fd
 |_=>none
noncomputable def fdN(l:FL)(fd:FuncData):FuncData:=PySem.W.fnOf l.name l.qual (ba l.st) (ax l.st) (aq l.st) (if l.df.isEmpty=true then .none else fd.defaults) fd.kwdefaults fd.doc fd.pyModule fd.annotations fd.code fd.closureTuple
noncomputable def fnB(K:E7)(B:WB)(l:FL)(i:Nat):Bool:=(match fq K (B.fad i) with
 |some fd=>PySem.W.codeIn K fd.code l.qual
 |none=>false)&&PySem.W.keepIn K (.ref (B.fad i))&&(!l.glob||PySem.W.nsIn K mainGlobals l.gn == some (some (.ref (B.fad i))))
theorem tZ{K:E7}(h:fq K a=some fd):∃oc od sl,K.lookup a=some ⟨oc,od,.func fd,sl⟩:=by
 unfold fq at h;split at h
 ·rename_i oc od fd' sl e;cases h;exact⟨oc,od,sl,e⟩
 ·cases h
noncomputable def zB(K:E7)(C:Addr):Bool:=PySem.W.hasDictIn K C&&PySem.W.findIn K (.ref C) "__getattribute__" == some (some (.builtin "BaseException.__getattribute__"))&&PySem.W.findIn K (.ref C) "__getattr__" == some none&&PySem.W.findIn K (.ref C) "__class__" == some (some (.builtin "object.__class__"))&&PySem.W.mroIn K C (.type "object") == some true&&PySem.W.mroIn K C (.type "BaseException") == some true&&PySem.W.kitOne K (.ref C) (.type "ValueError") == some true
noncomputable def zd(K:E7):Bool:=PySem.W.specialIn K (.builtin "object.__class__") "__get__" == some (some (.builtin "getset_descriptor.__get__"))&&PySem.W.takesIn K (.builtin "object.__class__") == some true&&PySem.W.nsIn K cStatics "sys.int_max_str_digits" == some none&&biNames.all λx=>PySem.W.nsIn K mainGlobals x == some none
noncomputable def zt(K:E7)(B:WB)(n:NM):Bool:=(List.range B.ne).all (λi=>zB K (B.cls i)&&(List.range n.exc.length).all λj=>PySem.W.kitOne K (.ref (B.cls i)) (.ref (B.cls j)) == some (B.sub i j)&&PySem.W.exmOne K (.ref (B.cls i)) (.ref (B.cls j)) == some (B.sub i j))&&
 n.exc.zipIdx.all λp=>PySem.W.nsIn K mainGlobals p.1 == some (some (.ref (B.cls p.2)))&&((n.xin.lookup p.2).isSome||PySem.W.excIn K (B.cls p.2) bmV "ValueError.__new__")
noncomputable def kB(K:E7)(B:WB)(fT:List (List Nat))(mT:List (List (Nat×Nat)))(iT:List Nat)(i:Nat):Bool:=
 PySem.W.plainGet K (B.kls i) Str.empty&&PySem.W.hasDictIn K (B.kls i)&&PySem.W.plainOver K (B.kls i)&&PySem.W.findIn K (.ref (B.kls i)) "__setattr__" == some (some (.builtin "object.__setattr__"))&&
 (fT.getD i []).all (λf=>PySem.W.findIn K (.ref (B.kls i)) (fnm f) == some none)&&
 (mT.getD i []).all (λp=>PySem.W.findIn K (.ref (B.kls i)) (fnm p.1) == some (some (.ref (B.fad p.2)))&&PySem.W.isFn K (.ref (B.fad p.2))&&PySem.W.keepIn K (.ref (B.fad p.2)))&&
 (match iT[i]? with
  |some f=>PySem.W.makesIn K (B.kls i)&&PySem.W.findIn K (.ref (B.kls i)) "__init__" == some (some (.ref (B.fad f)))&&PySem.W.isFn K (.ref (B.fad f))&&PySem.W.keepIn K (.ref (B.kls i))&&PySem.W.specialIn K (.ref (B.kls i)) "__getattribute__" == some (some (.builtin "type.__getattribute__"))&&PySem.W.readsIn K (B.kls i) (.type "type")&&
   (match PySem.W.findCls K (.ref (B.kls i)) (.type "type") "__init__" with
    |some (.val (.ref g))=>g == B.fad f
    |_=>false)
  |none=>false)&&
 PySem.W.findIn K (.ref (B.kls i)) "__class__" == some (some (.builtin "object.__class__"))&&PySem.W.mroIn K (B.kls i) (.type "object") == some true&&
 (List.range B.nk).all λj=>PySem.W.kitOne K (.ref (B.kls i)) (.ref (B.kls j)) == some (B.ksub i j)
noncomputable def yO(L m:Nat)(mT:List (List (Nat×Nat)))(iT:List Nat):Bool:=iT.length == m&&iT.all (λf=>decide (f<L))&&mT.all λl=>l.all λp=>decide (p.2<L)
theorem f9(h:(List.range n).all p=true)(hi:i<n):p i=true:=Es.mp h i (List.mem_range.mpr hi)
theorem iM{l:List α}(h:l.zipIdx.all p=true)(hx:l[i]?=some x):p (x,i)=true:=by
 refine Es.mp h (x,i) ?_;rw[List.mem_zipIdx_iff_getElem?];exact hx
theorem v7{K:E7}{L:List FL}{B:WB}(f0 f1:Nat){l0 l1:FL}(h0:L[f0]?=some l0)(h1:L[f1]?=some l1)(h:L.zipIdx.all (λp=>p.1.df.isEmpty||p.2 == f0||p.2 == f1)=true)
  (hb:∀fd,fq K (B.fad f0)=some fd->∃dv,Vals (l0.df.map V.int) dv/\∀j,Binds K fd l0.ps (dv.drop j)) (e1:B.fad f1=B.fad f0:=by rfl) (e2:l1.df=l0.df:=by rfl) (e3:l1.ps=l0.ps:=by rfl):∀(f:Nat)(l:FL),L[f]?=some l->l.df≠[]->∀fd,fq K (B.fad f)=some fd->∃dv,Vals (l.df.map V.int) dv/\∀j,Binds K fd l.ps (dv.drop j):=λf l hl z=>by
 have g:=iM h hl;simp only[Bool.or_eq_true,List.isEmpty_iff,Ec]at g;rcases g with (g|g)|g
 ·exact absurd g z
 ·subst g;rw[hl]at h0;cases h0;exact hb
 ·subst g;rw[hl]at h1;cases h1;rw[e1,e2,e3];exact hb
theorem wc{L:List FL}{n:NM}(h:L.zipIdx.all (λp=>!n.sfl.contains p.2||cH p.1.body (p.1.cfg (bI L) n false) (ax p.1.st))=true):∀f l,L[f]?=some l->n.sfl.contains f=true->cH l.body (l.cfg (bI L) n false) (ax l.st)=true:=λf l hl z=>by
 have g:=iM h hl;rw[z]at g;exact g
theorem wB{B:WB}{t:List (Nat×Nat)}(e:∀k,B.tw k=t.lookup k)(h:t.all (λp=>B.fad p.2 == B.fad p.1)=true):∀k f,B.tw k=some f->B.fad f=B.fad k:=λk f q=>by
 rw[e]at q;exact Ec.mp (Es.mp h _ (bp q))
theorem df1{K:E7}{ps:List Str}(h:(fq K a).isSome=true)(h0:∀us:List Value,us.length+1=ps.length->∀S,PySem.W.peek K S (bindArgs ((fq K a).get h) ⟨us,[]⟩)=some (ps.zip (us++[.int i t])))
  (h1:∀us:List Value,us.length=ps.length->∀S,PySem.W.peek K S (bindArgs ((fq K a).get h) ⟨us,[]⟩)=some (ps.zip us)):∀fd,fq K a=some fd->∃dv,Vals ([i].map V.int) dv/\∀j,Binds K fd ps (dv.drop j):=λfd hfd=>by
 have e:(fq K a).get h=fd:=Option.get_of_eq_some _ hfd;rw[e]at h0 h1;refine⟨[.int i t],.cons ⟨t,rfl⟩ .nil,λj s us X hl=>?_⟩
 cases j with
 |zero=>exact PySem.W.kp_binds X (h0 us (by simpa using hl))
 |succ j=>
  simp only[List.drop_succ_cons,List.drop_nil,EO]at hl ⊢;exact PySem.W.kp_binds X (h1 us hl)
theorem Top.of{Pm:Params}{K:E7}{h:Heap}{L:List FL}{n:NM}{B:WB}{fT:List (List Nat)}{mT:List (List (Nat×Nat))}(X:K.In h)(Gn:h.Ns mainGlobals mg)
  (h1:L.all (λl=>l.ok (bI L) n)=true)
  (h2:L.zipIdx.map (λp=>fq K (B.fad p.2))=L.zipIdx.map λp=>(fq K (B.fad p.2)).map (fdN p.1))
  (h3:L.zipIdx.all (λp=>fnB K B p.1 p.2)=true)
  (h4:∀(f:Nat)(l:FL),L[f]?=some l->∀us:List Value,us.length=l.ps.length->∀(kV doc pm:Value)(an:Option Addr)(cdv ct:Value),bindArgs (PySem.W.fnOf l.name l.qual (ba l.st) (ax l.st) (aq l.st) .none kV doc pm an cdv ct) ⟨us,[]⟩=pure (l.ps.zip us))
  (h5:zd K=true) (h6:zt K B n=true)
  (h7:(List.range B.nk).all (kB K B fT mT iT)=true) (h8:yO L.length B.nk mT iT=true)
  (hf:∀i f,B.fok i f=(fT.getD i []).contains f) (hm:∀i m,B.mth i m=(mT.getD i []).lookup m) (hi:∀i,B.ini i=iT[i]?)
  (h9:n.kln.zipIdx.all (λp=>PySem.W.nsIn K mainGlobals p.1 == some (some (.ref (B.kls p.2)))&&decide (p.2<B.nk))=true)
  (glo:∀(k:Nat)(x:Str),n.gln[k]?=some x->∃u v,mg x=some u/\RelV v u/\vZ K Pm (B.glo k) v)
  (xi:∀i f,n.xin.lookup i=some f->B.xin i=some f/\∃fI fd ps,XIni K (B.cls i) fI (fnm f)/\Binds K fd ps []/\∀(P:Program)(w:World)(base:Heap),FnOk P w K mg base (CX1 P w) 1 fI fd ps (gw (cpF f) K (B.cls i) (fnm f)))
  (xn:∀i f,i<B.ne->B.xin i=some f->NoAttr K (B.cls i) (fnm f))
  (hd:∀(f:Nat)(l:FL),L[f]?=some l->l.df≠[]->∀fd,fq K (B.fad f)=some fd->∃dv,Vals (l.df.map V.int) dv/\∀j,Binds K fd l.ps (dv.drop j))
  (oks:∀f l,L[f]?=some l->n.sfl.contains f=true->cH l.body (l.cfg (bI L) n false) (ax l.st)=true:=by exact λ_ _ _ z=>nomatch z) (twn:∀k f,B.tw k=some f->B.fad f=B.fad k:=by exact λ_ _ z=>nomatch z):Top Pm K mg L n B:=by
 unfold zd at h5;simp only[DR,Ec]at h5;obtain⟨⟨⟨o1,o2⟩,o3⟩,o4⟩:=h5;unfold zt at h6;rw[DR]at h6;obtain⟨e1,e2⟩:=h6;unfold yO at h8;simp only[DR,Ec]at h8;obtain⟨⟨t1,t2⟩,t3⟩:=h8;have ki:∀i,i<B.nk->kB K B fT mT iT i=true:=λi hi=>f9 h7 hi
 refine⟨λl hl=>Es.mp h1 l hl,λf l hl=>?_,λi hi=>?_,λi x hx=>?_,λi hi'=>?_,λi hi'=>?_,λi f hi' hf'=>?_,λi m f hi' hf'=>?_,λi x hx=>?_,glo,λx hx=>?_,o3,xi,xn,oks,twn⟩
 ·have g:=iM h3 hl;unfold fnB at g;simp only[DR]at g;obtain⟨⟨g1,g2⟩,g3⟩:=g;have hz:L.zipIdx[f]?=some (l,f):=by
   rw[List.getElem?_zipIdx,hl];simp
  have e:=congrArg (λz:List (Option FuncData)=>z[f]?) h2
  simp only[Ef,hz,Option.map_some,Option.some.injEq]at e;cases hfd:fq K (B.fad f) with
  |none=>rw[hfd]at g1;cases g1
  |some fd=>
   rw[hfd]at e g1;simp only[Option.map_some,Option.some.injEq]at e;obtain⟨oc,od,sl,lk⟩:=tZ hfd;have hb:l.df=[]->∀us:List Value,us.length=l.ps.length->bindArgs fd ⟨us,[]⟩=pure (l.ps.zip us):=λz us hu=>by
    rw[e];unfold fdN;rw[z];exact h4 f l hl us hu _ _ _ _ _ _
   refine⟨fd,⟨⟨oc,od,_,fd.kwdefaults,fd.doc,fd.pyModule,fd.annotations,fd.code,fd.closureTuple,sl,e,lk,g1⟩,g2⟩,λz=>?_,hb,?_⟩
   ·rw[z]at g3;exact PySem.W.mg_of X Gn (Ec.mp (by simpa using g3))
   ·by_cases z:l.df=[]
    ·exact⟨[],by rw[z];exact .nil,λj=>by rw[List.drop_nil];exact .all (hb z)⟩
    ·exact hd f l hl z fd hfd
 ·have g:=f9 e1 hi;rw[DR]at g;obtain⟨g1,g2⟩:=g;unfold zB at g1;simp only[DR,Ec]at g1;obtain⟨⟨⟨⟨⟨⟨a1,a2⟩,a3⟩,a4⟩,a5⟩,a6⟩,a7⟩:=g1;refine⟨⟨a1,a2,a3,a4,o1,o2,a5,a6⟩,a7,λj x hx=>?_⟩
  have hj:j<n.exc.length:=(EM.mp hx).1;have g:=f9 g2 hj;rw[DR,Ec]at g;exact g.1
 ·have g:=iM e2 hx;rw[DR,Ec]at g;refine⟨PySem.W.mg_of X Gn g.1,λz=>?_,λj hj=>?_⟩
  ·have g2:=g.2;rw[show n.xin.lookup (x,i).2=none from z]at g2;have g3:PySem.W.excIn K (B.cls i) bmV "ValueError.__new__"=true:=by simpa using g2
   exact g3
  ·have q:=f9 e1 hj;rw[DR]at q;have hi:i<n.exc.length:=(EM.mp hx).1;have g:=f9 q.2 hi;rw[DR,Ec,Ec]at g;exact g.2
 ·have g:=ki i hi';unfold kB at g;simp only[DR,Ec]at g;obtain⟨⟨⟨⟨⟨⟨⟨⟨⟨a1,a2⟩,a3⟩,a4⟩,a5⟩,a6⟩,a7⟩,a8⟩,a9⟩,a10⟩:=g;have iI:∀f,B.ini i=some f->PySem.W.makesIn K (B.kls i)=true/\PySem.W.findIn K (.ref (B.kls i)) "__init__"=some (some (.ref (B.fad f)))/\PySem.W.isFn K (.ref (B.fad f))=true/\PySem.W.keepIn K (.ref (B.kls i))=true/\PySem.W.specialIn K (.ref (B.kls i)) "__getattribute__"=some (some (.builtin "type.__getattribute__"))/\PySem.W.readsIn K (B.kls i) (.type "type")=true/\PySem.W.findCls K (.ref (B.kls i)) (.type "type") "__init__"=some (.val (.ref (B.fad f))):=λf hf=>by
   rw[hi i]at hf;rw[hf]at a7;simp only[DR,Ec]at a7;obtain⟨⟨⟨⟨⟨⟨b1,b2⟩,b3⟩,b4⟩,b5⟩,b6⟩,b7⟩:=a7;refine⟨b1,b2,b3,b4,b5,b6,?_⟩;split at b7
   ·rename_i g hg;rw[hg,Ec.mp b7]
   ·cases b7
  refine⟨⟨a1,a2,a3,a4⟩,λf hf'=>?_,λm f hm'=>?_,λf hf'=>?_,λf hf'=>?_,⟨a8,o1,o2,a9⟩,λj hj=>?_⟩
  ·rw[hf i f]at hf';exact Ec.mp (Es.mp a5 f (List.contains_iff_mem.mp hf'))
  ·rw[hm i m]at hm';have q:=Es.mp a6 (m,f) (bp hm');simp only[DR,Ec]at q;exact⟨q.1.1,q.1.2,q.2⟩
  ·obtain⟨b1,b2,b3,b4,_⟩:=iI f hf';exact⟨b1,b2,b3,b4⟩
  ·obtain⟨_,_,_,_,b5,b6,b7⟩:=iI f hf';exact⟨b5,b6,b7⟩
  ·exact Ec.mp (f9 a10 hj)
 ·rw[hi i];have:i<iT.length:=by rw[t1];exact hi'
  exact⟨iT[i],Et this⟩
 ·rw[hi i]at hf';exact EZ (Es.mp t2 f (EV hf'))
 ·rw[hm i m]at hf';have q:=bp hf';by_cases z:i<mT.length
  ·rw[E6,Et z]at q;exact EZ (Es.mp (Es.mp t3 _ (E5 z)) _ q)
  ·rw[E6,List.getElem?_eq_none (by omega)]at q
   cases q
 ·have g:=iM h9 hx;rw[DR,Ec]at g;exact⟨PySem.W.mg_of X Gn g.1,EZ g.2⟩
 ·exact PySem.W.mg_none_of X Gn (Ec.mp (Es.mp o4 x hx))
theorem n1{P:List Value->Prop}(h:∀a,P [a]):∀us:List Value,us.length=1->P us:=usS λa=>us0 (h a)
theorem n2{P:List Value->Prop}(h:∀a b,P [a,b]):∀us:List Value,us.length=2->P us:=usS λa=>usS λb=>us0 (h a b)
theorem n3{P:List Value->Prop}(h:∀a b c,P [a,b,c]):∀us:List Value,us.length=3->P us:=usS λa=>usS λb=>usS λc=>us0 (h a b c)
theorem n4{P:List Value->Prop}(h:∀a b c d,P [a,b,c,d]):∀us:List Value,us.length=4->P us:=usS λa=>usS λb=>usS λc=>usS λd=>us0 (h a b c d)
theorem n5{P:List Value->Prop}(h:∀a b c d e,P [a,b,c,d,e]):∀us:List Value,us.length=5->P us:=usS λa=>usS λb=>usS λc=>usS λd=>usS λe=>us0 (h a b c d e)
end L2
namespace L2
noncomputable def oi:Option Int->D
 |none=>.non
 |some i=>.int i
theorem bH{i j:Int}(h1:0<j)(h2:j<10 ^ 250):gF i j=True:=by
 refine eq_true ⟨h1,nE ?_⟩;omega
theorem rE{i j:Int}(h1 : -(10 ^ 240)<i)(h2:i<10 ^ 240)(h3 : -(10 ^ 240)<j)(h4:j<10 ^ 240):gA i j=True:=by
 refine eq_true ⟨nE ?_,nE ?_⟩<;>omega
theorem ng{i j:Int}(h1:0<=j)(h2:j<=1000000)(h3:i.natAbs<2 ^ 64):qD i j=True:=eq_true ⟨h1,h2,h3⟩
theorem CF{α:Type}(a:α)(l:List α):atI (a::l) 0=some a:=by simp[atI,ixN]
theorem Cc{α:Type}(a b:α)(l:List α):atI (a::b::l) 1=some b:=ca (j:=1) rfl
end L2
namespace L2
open PySem
section
variable {W:WC}{σ:St3}
@[simp ↓] theorem BZ:wpE W (.var 0) (some v::σ) M Q E=Q v M:=rfl
@[simp ↓] theorem Ch:wpE W (.var 1) (y0::some v::σ) M Q E=Q v M:=rfl
@[simp ↓] theorem DI:wpE W (.var 2) (y0::y1::some v::σ) M Q E=Q v M:=rfl
@[simp ↓] theorem DC:wpE W (.var 3) (y0::y1::y2::some v::σ) M Q E=Q v M:=rfl
@[simp ↓] theorem Dy:wpE W (.var 4) (y0::y1::y2::y3::some v::σ) M Q E=Q v M:=rfl
@[simp ↓] theorem BV:wpE W (.var 5) (y0::y1::y2::y3::y4::some v::σ) M Q E=Q v M:=rfl
@[simp ↓] theorem DF:wpE W (.var 6) (y0::y1::y2::y3::y4::y5::some v::σ) M Q E=Q v M:=rfl
@[simp ↓] theorem DJ:wpE W (.var 7) (y0::y1::y2::y3::y4::y5::y6::some v::σ) M Q E=Q v M:=rfl
@[simp ↓] theorem DK:wpE W (.var 8) (y0::y1::y2::y3::y4::y5::y6::y7::some v::σ) M Q E=Q v M:=rfl
@[simp ↓] theorem DD:wpE W (.var 9) (y0::y1::y2::y3::y4::y5::y6::y7::y8::some v::σ) M Q E=Q v M:=rfl
@[simp ↓] theorem Dc:wpE W (.var 10) (y0::y1::y2::y3::y4::y5::y6::y7::y8::y9::some v::σ) M Q E=Q v M:=rfl
@[simp ↓] theorem CS:wpE W (.var 11) (y0::y1::y2::y3::y4::y5::y6::y7::y8::y9::y10::some v::σ) M Q E=Q v M:=rfl
@[simp ↓] theorem Dd:wpE W (.var 12) (y0::y1::y2::y3::y4::y5::y6::y7::y8::y9::y10::y11::some v::σ) M Q E=Q v M:=rfl
@[simp ↓] theorem CM:wpE W (.var 13) (y0::y1::y2::y3::y4::y5::y6::y7::y8::y9::y10::y11::y12::some v::σ) M Q E=Q v M:=rfl
@[simp ↓] theorem Dt:wpE W (.con v) σ M Q E=Q v M:=rfl
@[simp ↓] theorem C9{op a b}:wpE W (.bin op a b) σ M Q E=wpE W a σ M (λx M1=>wpE W b σ M1 (λy M2=>kA op x y M2 Q) E) E:=rfl
@[simp ↓] theorem Dm{a}:wpE W (.neg a) σ M Q E=wpE W a σ M (λx M1=>rNeg x M1 Q) E:=rfl
@[simp ↓] theorem CT{fz a b}:wpE W (.cat fz a b) σ M Q E=wpE W a σ M (λx M1=>wpE W b σ M1 (λy M2=>iN fz x y M2 Q) E) E:=rfl
@[simp ↓] theorem Dp{op a b}:wpE W (.cmp op a b) σ M Q E=wpE W a σ M (λx M1=>wpE W b σ M1 (λy M2=>aG op x y M2 Q) E) E:=rfl
@[simp ↓] theorem Df{a b}:wpE W (.and a b) σ M Q E=wpE W a σ M (λx M1=>match x with
  |.bl c=>if c=true then wpE W b σ M1 Q E else Q (.bl false) M1
  |_=>False) E:=rfl
@[simp ↓] theorem C1{a}:wpE W (.not a) σ M Q E=wpE W a σ M (λx M1=>match x with
  |.bl c=>Q (.bl (!c)) M1
  |_=>False) E:=rfl
@[simp ↓] theorem Di{c a b}:wpE W (.ifx c a b) σ M Q E=wpT W c σ M (λk M1=>if k=true then wpE W a σ M1 Q E else wpE W b σ M1 Q E) E:=rfl
@[simp ↓] theorem CN{es}:wpE W (.tup es) σ M Q E=wpA W es σ M (λxs M1=>xs.length<=sizeLine/\Q (.tup xs) M1) E:=rfl
@[simp ↓] theorem CU{fz es}:wpE W (.lst fz es) σ M Q E=wpA W es σ M (λxs M1=>c8 fz xs M1 Q) E:=rfl
@[simp ↓] theorem Dr{e}:wpE W (.frz e) σ M Q E=wpE W e σ M (ck Q) E:=rfl
@[simp ↓] theorem DQ{a b}:wpE W (.ix a b) σ M Q E=wpE W a σ M (λx M1=>wpE W b σ M1 (λy M2=>ar x y M2 Q) E) E:=rfl
@[simp ↓] theorem DH{fz a lo hi}:wpE W (.sl fz a lo hi) σ M Q E=wpE W a σ M (λx M1=>wpO W lo σ M1 (λl M2=>wpO W hi σ M2 (λh M3=>pQ fz x l h M3 Q) E) E) E:=rfl
@[simp ↓] theorem wG{f es}:wpE W (.call f es) σ M Q E=wpA W es σ M (λxs M1=>W.call f xs M1 Q E) E:=rfl
@[simp ↓] theorem DE{b es}:wpE W (.bi b es) σ M Q E=wpA W es σ M (λxs M1=>rBi b xs M1 Q) E:=rfl
@[simp ↓] theorem C3{e t}:wpE W (.isB e t) σ M Q E=wpE W e σ M (λx M1=>iB t x M1 Q) E:=rfl
@[simp ↓] theorem DL{mx dflt e}:wpE W (.mm mx dflt e) σ M Q E=wpE W e σ M (λx M1=>rMM mx dflt x M1 Q) E:=rfl
@[simp ↓] theorem Cu{k v}:wpE W (.dctT k v) σ M Q E=∀p,M p=none->wpE W k σ (put M p (.dt [] [])) (λx M1=>wpE W v σ M1 (λy M2=>fg p x y M2 Q) E) E:=rfl
def nt(W:WC)(tg:ITg)(cond:ITO)(elt:IE)(σc:St3)(Q:VK3):VK3:=λx M1=>dm x M1 λd ks es=>∀φ p,M1 p=none->
   bv (wpG tg) (λσ M Q=>fZ W cond σ M Q (λ_ _=>False)) (λσ M Q=>wpE W elt σ M Q (λ_ _=>False)) (λM=>M d=some (.stl φ)) p (λy M2=>Q y (put M2 d (.dt ks es))) (aj ks es) [] σc (put (put M1 d (.stl φ)) p (.lst []))
@[simp ↓] theorem AW{N js tg o cond elt}:wpE W (.compT N js tg o cond elt) σ M Q E=wpE W o σ M (nt W tg cond elt (ay js σ) Q) E:=rfl
@[simp ↓] theorem CQ{mx e}:wpE W (.mmz mx e) σ M Q E=wpE W e σ M (λx M1=>lz mx x M1 Q) E:=rfl
@[simp ↓] theorem Dq{e f}:wpE W (.fld e f) σ M Q E=wpE W e σ M (λx M1=>lh W.toWB f x M1 Q) E:=rfl
@[simp ↓] theorem A6{i es}:wpE W (.make false i es) σ M Q E=wpA W es σ M (λxs M1=>i<W.nk/\fO (W.ini i) λf=>∀p,M1 p=none->W.call f (.ref p::xs) (put M1 p (.ins i (W.kls i) [] [])) (λv M2=>v=.non/\Q (.ref p) M2) (λi M'=>E i (L2.del M' p))) E:=rfl
@[simp ↓] theorem A8{k e m es}:wpE W (.methS k e m es) σ M Q E=wpE W e σ M (λx M1=>fh W.toWB m x M1 λf=>W.tw k=some f/\wpA W es σ M1 (λxs M2=>W.call k (x::xs) M2 Q E) E) E:=rfl
@[simp ↓] theorem Cm{e m es}:wpE W (.meth e m es) σ M Q E=wpE W e σ M (λx M1=>fh W.toWB m x M1 λf=>wpA W es σ M1 (λxs M2=>W.call f (x::xs) M2 Q E) E) E:=rfl
@[simp ↓] theorem DG{b o es}:wpE W (.bm b o es) σ M Q E=wpE W o σ M (λx M1=>tyB b x M1=true/\wpA W es σ M1 (λxs M2=>rBm b x xs M2 Q) E) E:=rfl
@[simp ↓] theorem BE{fz a}:wpE W (.lrev fz a) σ M Q E=wpE W a σ M (λx M1=>rLr fz x M1 Q) E:=rfl
@[simp] theorem jI:ak M M=M:=by
 funext a;unfold ak;split<;>simp_all
@[simp] theorem mq(h:M p=none):ak M (put M' p o)=ak M M':=by
 funext a;unfold ak put;split
 ·rename_i x e;split
  ·rename_i z;subst z;rw[h]at e;cases e
  ·rfl
 ·rfl
@[simp] theorem rV(h:M p=none):ak M (L2.del M' p)=ak M M':=by
 funext a;unfold ak L2.del;split
 ·rename_i x e;split
  ·rename_i z;subst z;rw[h]at e;cases e
  ·rfl
 ·rfl
@[simp] theorem l6(h:M p=some u):ak M (put M' p o)=put (ak M M') p o:=by
 funext a;unfold ak put;by_cases z:a=p
 ·subst z;simp[h]
 ·simp[z]
@[simp ↓] theorem zL:fO (some f) R=R f:=rfl
@[simp ↓] theorem zn{f n ns d ds}:mL f (n::ns) (d::ds) M Q=if n=f then Q d M else mL f ns ds M Q:=by
 unfold mL;rw[bG];by_cases h:n=f
 ·rw[DY h,DY h]
 ·rw[DV h,DV h]
@[simp] theorem yM:bG f [] ds=none:=by unfold bG;rfl
@[simp] theorem yp:bG f (n::ns) (d::ds)=if n=f then some d else bG f ns ds:=by rw[bG]
@[simp] theorem yN:cD f []=[f]:=rfl
@[simp] theorem yL:cW f y [] ds=[y]:=by unfold cW;rfl
@[simp ↓] theorem Bb{ds lo hi}:pQ true (.rol ds) lo hi M Q=((jo ds lo hi).length<=sizeLine/\Q (.rol (jo ds lo hi)) M):=rfl
@[simp ↓] theorem By{tk}:wpE W (.dnew tk) σ M Q E=∀p,M p=none->Q (.ref p) (put M p (if tk=true then .dt [] [] else .dk [] [])):=rfl
@[simp] theorem xR{x}:tyB .extend x M=isLstM x M:=rfl
@[simp ↓] theorem Dg{i De}:wpH W .nil i De σ M=False:=rfl
@[simp ↓] theorem Ba{c body r i De}:wpH W (.cons c none body r) i De σ M=(i.c<W.ne/\if W.sub i.c c=true then aw W body De (λ_ _ _=>False) σ M else wpH W r i De σ M):=rfl
def i8(W:WC)(tg:ITg)(cond:ITO)(elt:IE)(S:MH->Prop)(p:Addr)(Q:VK3):List D->List D->St3->MH->Prop:=bv (wpG tg) (λσ M Q=>fZ W cond σ M Q (λ_ _=>False)) (λσ M Q=>wpE W elt σ M Q (λ_ _=>False)) S p Q
def jB(W:WC)(tg:ITg)(cond:ITO)(elt:IE)(S:MH->Prop)(Q:VK3)(ds:List D)(σ:St3)(M:MH):Prop:=∀p,M p=none->i8 W tg cond elt S p (eU Q) ds [] σ (put M p (.lst []))
@[simp ↓] theorem AV{N js tg it cond elt}:wpE W (.comp true N js tg it cond elt) σ M Q E=wpI W it σ M (λds S M1=>jB W tg cond elt S Q ds (ay js σ) M1) E:=rfl
@[simp ↓] theorem BW{e}:wpT W (.val e) σ M QB E=wpE W e σ M (λx M1=>match x with
  |.bl k=>QB k M1
  |_=>False) E:=rfl
@[simp ↓] theorem B5{op a b}:wpT W (.cmp op a b) σ M QB E=wpE W a σ M (λx M1=>wpE W b σ M1 (λy M2=>aG op x y M2 λr M3=>match r with
  |.bl k=>QB k M3
  |_=>False) E) E:=rfl
@[simp ↓] theorem BD{a b}:wpT W (.and a b) σ M QB E=wpT W a σ M (λc M1=>if c=true then wpT W b σ M1 QB E else QB false M1) E:=rfl
@[simp ↓] theorem Dn{a b}:wpT W (.or a b) σ M QB E=wpT W a σ M (λc M1=>if c=true then QB true M1 else wpT W b σ M1 QB E) E:=rfl
@[simp ↓] theorem BL{a}:wpT W (.not a) σ M QB E=wpT W a σ M (λc M1=>QB (!c) M1) E:=rfl
@[simp ↓] theorem vU:wpA W .nil σ M QL E=QL [] M:=rfl
@[simp ↓] theorem uf{e r}:wpA W (.cons e r) σ M QL E=wpE W e σ M (λx M1=>wpA W r σ M1 (λxs M2=>QL (x::xs) M2) E) E:=rfl
@[simp ↓] theorem C0:wpO W .no σ M QO E=QO none M:=rfl
@[simp ↓] theorem Cp{e}:wpO W (.yes e) σ M QO E=wpE W e σ M (λx M1=>match x with
  |.int i=>QO (some i) M1
  |_=>False) E:=rfl
@[simp ↓] theorem Bt{e}:fZ W (.yes e) σ M QB E=wpT W e σ M QB E:=rfl
def vO(R:List D->(MH->Prop)->MH->Prop):VK3:=λx M1=>match x with
  |.tup ds=>R ds (λ_=>True) M1
  |.rol ds=>R ds (λ_=>True) M1
  |.ref a=>match M1 a with
   |some (.lst ds)=>R ds (λM=>M a=some (.lst ds)) M1
   |_=>False
  |.str z=>R (gy z) (λ_=>True) M1
  |_=>False
@[simp ↓] theorem AL{ds}:vO R (.rol ds) M=R ds (λ_=>True) M:=rfl
@[simp ↓] theorem Cb{e}:wpI W (.seq e) σ M R E=wpE W e σ M (vO R) E:=rfl
@[simp ↓] theorem A2{a}:wpI W (.rng1 a) σ M R E=wpE W a σ M (λx M1=>match x with
  |.int j=>-(2 ^ 62)<=j/\j<2 ^ 62/\R (rng 0 j.toNat) (λ_=>True) M1
  |_=>False) E:=rfl
@[simp ↓] theorem A3{a b}:wpI W (.rng2 a b) σ M R E=wpE W a σ M (λx M1=>wpE W b σ M1 (λy M2=>match x,y with
  |.int i,.int j=>(-(2 ^ 62)<=i/\i<2 ^ 62/\-(2 ^ 62)<=j/\j<2 ^ 62)/\R (rng i (j-i).toNat) (λ_=>True) M2
  |_,_=>False) E) E:=rfl
end
section
variable {W:WC}{σ:St3}{De:Ends3}{x:Option D}
@[simp ↓] theorem BH:aw W .nil De ES σ M=De.nx σ M:=rfl
@[simp ↓] theorem Bd{s r}:aw W (.cons s r) De ES (x::σ) M=wpS W s {De with nx:=λσ' M'=>aw W r De ES σ' M'} ES (x::σ) M:=rfl
@[simp ↓] theorem CA{e}:wpS W (.set 1 e) De ES (y0::x::σ) M=wpE W e (y0::x::σ) M (λv M1=>De.nx (y0::some v::σ) M1) (ES (y0::x::σ)):=rfl
@[simp ↓] theorem Cf{e}:wpS W (.set 2 e) De ES (y0::y1::x::σ) M=wpE W e (y0::y1::x::σ) M (λv M1=>De.nx (y0::y1::some v::σ) M1) (ES (y0::y1::x::σ)):=rfl
@[simp ↓] theorem Bp{e}:wpS W (.set 3 e) De ES (y0::y1::y2::x::σ) M=wpE W e (y0::y1::y2::x::σ) M (λv M1=>De.nx (y0::y1::y2::some v::σ) M1) (ES (y0::y1::y2::x::σ)):=rfl
@[simp ↓] theorem BA{e}:wpS W (.set 4 e) De ES (y0::y1::y2::y3::x::σ) M=wpE W e (y0::y1::y2::y3::x::σ) M (λv M1=>De.nx (y0::y1::y2::y3::some v::σ) M1) (ES (y0::y1::y2::y3::x::σ)):=rfl
@[simp ↓] theorem CD{e}:wpS W (.set 5 e) De ES (y0::y1::y2::y3::y4::x::σ) M=wpE W e (y0::y1::y2::y3::y4::x::σ) M (λv M1=>De.nx (y0::y1::y2::y3::y4::some v::σ) M1) (ES (y0::y1::y2::y3::y4::x::σ)):=rfl
@[simp ↓] theorem Ct{e}:wpS W (.set 6 e) De ES (y0::y1::y2::y3::y4::y5::x::σ) M=wpE W e (y0::y1::y2::y3::y4::y5::x::σ) M (λv M1=>De.nx (y0::y1::y2::y3::y4::y5::some v::σ) M1) (ES (y0::y1::y2::y3::y4::y5::x::σ)):=rfl
@[simp ↓] theorem B3{e}:wpS W (.set 7 e) De ES (y0::y1::y2::y3::y4::y5::y6::x::σ) M=wpE W e (y0::y1::y2::y3::y4::y5::y6::x::σ) M (λv M1=>De.nx (y0::y1::y2::y3::y4::y5::y6::some v::σ) M1) (ES (y0::y1::y2::y3::y4::y5::y6::x::σ)):=rfl
@[simp ↓] theorem Cd{e}:wpS W (.set 8 e) De ES (y0::y1::y2::y3::y4::y5::y6::y7::x::σ) M=wpE W e (y0::y1::y2::y3::y4::y5::y6::y7::x::σ) M (λv M1=>De.nx (y0::y1::y2::y3::y4::y5::y6::y7::some v::σ) M1) (ES (y0::y1::y2::y3::y4::y5::y6::y7::x::σ)):=rfl
@[simp ↓] theorem BU{e}:wpS W (.set 9 e) De ES (y0::y1::y2::y3::y4::y5::y6::y7::y8::x::σ) M=wpE W e (y0::y1::y2::y3::y4::y5::y6::y7::y8::x::σ) M (λv M1=>De.nx (y0::y1::y2::y3::y4::y5::y6::y7::y8::some v::σ) M1) (ES (y0::y1::y2::y3::y4::y5::y6::y7::y8::x::σ)):=rfl
@[simp ↓] theorem Bj{e}:wpS W (.set 10 e) De ES (y0::y1::y2::y3::y4::y5::y6::y7::y8::y9::x::σ) M=wpE W e (y0::y1::y2::y3::y4::y5::y6::y7::y8::y9::x::σ) M (λv M1=>De.nx (y0::y1::y2::y3::y4::y5::y6::y7::y8::y9::some v::σ) M1) (ES (y0::y1::y2::y3::y4::y5::y6::y7::y8::y9::x::σ)):=rfl
@[simp ↓] theorem Bg{e}:wpS W (.set 11 e) De ES (y0::y1::y2::y3::y4::y5::y6::y7::y8::y9::y10::x::σ) M=wpE W e (y0::y1::y2::y3::y4::y5::y6::y7::y8::y9::y10::x::σ) M (λv M1=>De.nx (y0::y1::y2::y3::y4::y5::y6::y7::y8::y9::y10::some v::σ) M1) (ES (y0::y1::y2::y3::y4::y5::y6::y7::y8::y9::y10::x::σ)):=rfl
@[simp ↓] theorem A9{e}:wpS W (.set 12 e) De ES (y0::y1::y2::y3::y4::y5::y6::y7::y8::y9::y10::y11::x::σ) M=wpE W e (y0::y1::y2::y3::y4::y5::y6::y7::y8::y9::y10::y11::x::σ) M (λv M1=>De.nx (y0::y1::y2::y3::y4::y5::y6::y7::y8::y9::y10::y11::some v::σ) M1) (ES (y0::y1::y2::y3::y4::y5::y6::y7::y8::y9::y10::y11::x::σ)):=rfl
def qO(B:WB)(f:Nat)(y:D)(R:MH->Prop):VK3:=λx M2=>match x with
  |.ref a=>match M2 a with
   |some (.ins i C ns ds)=>(C=B.kls i/\i<B.nk/\B.fok i f=true/\ns.length<1000)/\R (put M2 a (.ins i C (cD f ns) (cW f y ns ds)))
   |_=>False
  |_=>False
def pj(is:List Nat)(σ:St3)(k:St3->MH->Prop):VK3:=λx M1=>match x with
  |.tup ds=>ds.length=is.length/\k ((is.zip ds).foldl (λσ p=>σ.set p.1 (some p.2)) σ) M1
  |_=>False
@[simp ↓] theorem A5{i j a b k}:pj [i,j] σ k (.tup [a,b]) M=k ((σ.set i (some a)).set j (some b)) M:=by
 simp[pj]
@[simp ↓] theorem AY{e}:wpS W (.expr e) De ES σ M=wpE W e σ M (λ_ M1=>De.nx σ M1) (ES σ):=rfl
@[simp ↓] theorem CC{e}:wpS W (.ret e) De ES σ M=wpE W e σ M De.rt (ES σ):=rfl
@[simp ↓] theorem A1:wpS W .retN De ES σ M=De.rt .non M:=rfl
@[simp ↓] theorem AX:wpS W .dead De ES σ M=False:=rfl
@[simp ↓] theorem Be{o f e}:wpS W (.fset o f e) De ES σ M=wpE W e σ M (λy M1=>wpE W o σ M1 (qO W.toWB f y (De.nx σ)) (ES σ)) (ES σ):=rfl
@[simp ↓] theorem zK{o i e}:wpS W (.ixset o i e) De ES σ M=wpE W e σ M (λy M1=>wpE W o σ M1 (λx M2=>wpE W i σ M2 (λk M3=>bo x k y M3 λM4=>De.nx σ M4) (ES σ)) (ES σ)) (ES σ):=rfl
@[simp ↓] theorem CB{c a b}:wpS W (.ifs c a b) De ES σ M=wpT W c σ M (λk M1=>if k=true then aw W a De ES σ M1 else aw W b De ES σ M1) (ES σ):=rfl
def bN(W:WC)(tg:ITg)(body:ISs)(ES:St3->XN)(S:MH->Prop)(De:Ends3):List D->St3->MH->Prop:=bU (wpG tg) (λD σ M=>aw W body D ES σ M) S De
@[simp ↓] theorem Bm{tg it body}:wpS W (.for_ tg it body) De ES σ M=wpI W it σ M (λds S M1=>bN W tg body ES S De ds σ M1) (ES σ):=rfl
theorem be{tg body S}:bN W tg body ES S De [] σ M=(S M/\De.nx σ M):=rfl
theorem aQ{tg body S d r}:bN W tg body ES S De (d::r) σ M=(S M/\wpG tg d σ M λσ2 M2=>aw W body {De with nx:=bN W tg body ES S De r,ct:=bN W tg body ES S De r,bk:=De.nx} ES σ2 M2):=rfl
@[simp ↓] theorem zY{c es}:wpS W (.raise c es) De ES σ M=wpA W es σ M (λxs M1=>xs.length<=sizeLine/\ES σ ⟨c,none⟩ M1) (ES σ):=rfl
@[simp ↓] theorem yK{c e}:wpS W (.raiseI c (.cons e .nil)) De ES σ M=wpE W e σ M (λy M1=>fO (W.xin c) λf=>rXp f y M1 λy'=>ES σ ⟨c,some (f,y')⟩ M1) (ES σ):=rfl
@[simp ↓] theorem Bs{body hs}:wpS W (.try_ body hs) De ES σ M=aw W body De (λσ' i M'=>wpH W hs i De σ' M') σ M:=rfl
def pz(W:WC)(e:IE)(De:Ends3)(E:XN)(σ:St3):VK3:=λx M1=>match x with
  |.ref a=>match M1 a with
   |some (.lst _)=>wpE W e σ M1 (λy M2=>match M2 a with
    |some (.lst ds)=>ds.length<sizeLine/\De.nx σ (put M2 a (.lst (ds++[y])))
    |_=>False) E
   |_=>False
  |_=>False
@[simp ↓] theorem Bu{o e}:wpS W (.app o e) De ES σ M=wpE W o σ M (pz W e De (ES σ) σ) (ES σ):=rfl
def jP(p:Addr)(De:Ends3)(σ:St3):VK3:=λy M2=>match M2 p with
    |some (.lst ds)=>ds.length<sizeLine/\De.nx σ (put M2 p (.lst (ds++[y])))
    |_=>False
@[simp ↓] theorem Bl{e E p ds}:pz W e De E σ (.ref p) (put M p (.lst ds))=wpE W e σ (put M p (.lst ds)) (jP p De σ) E:=by
 unfold pz;simp only[ae];rfl
@[simp ↓] theorem zg{p ds y}:jP p De σ y (put M p (.lst ds))=(ds.length<sizeLine/\De.nx σ (put M p (.lst (ds++[y])))):=by
 unfold jP;simp only[ae,aV]
@[simp ↓] theorem Bh{i d k}:wpG (.name i) d σ M k=k (σ.set i (some d)) M:=rfl
@[simp ↓] theorem BF{is d k}:wpG (.tup is) d σ M k=pj is σ k d M:=rfl
end
section
variable {i j:Int}{x:D}
@[simp ↓] theorem CO:kA .Add (.int i) (.int j) M Q=Q (.int (i+j)) M:=rfl
@[simp ↓] theorem CL:kA .Sub (.int i) (.int j) M Q=Q (.int (i-j)) M:=rfl
@[simp ↓] theorem C4:kA .Mult (.int i) (.int j) M Q=(gA i j/\Q (.int (i*j)) M):=rfl
@[simp ↓] theorem C7:kA .FloorDiv (.int i) (.int j) M Q=(gF i j/\Q (.int (i / j)) M):=rfl
@[simp ↓] theorem Do:kA .Mod (.int i) (.int j) M Q=(0<j/\Q (.int (i % j)) M):=rfl
@[simp ↓] theorem CK:kA .Pow (.int i) (.int j) M Q=(qD i j/\Q (.int (i ^ j.toNat)) M):=rfl
@[simp ↓] theorem CZ:rNeg (.int i) M Q=Q (.int (-i)) M:=rfl
@[simp ↓] theorem c_lt:aG .Lt (.int i) (.int j) M Q=Q (.bl (decide (i<j))) M:=rfl
@[simp ↓] theorem DP:aG .LtE (.int i) (.int j) M Q=Q (.bl (decide (i<=j))) M:=rfl
@[simp ↓] theorem DB:aG .Gt (.int i) (.int j) M Q=Q (.bl (decide (j<i))) M:=rfl
@[simp ↓] theorem Dw:aG .GtE (.int i) (.int j) M Q=Q (.bl (decide (j<=i))) M:=rfl
@[simp ↓] theorem Du:aG .Eq (.int i) (.int j) M Q=Q (.bl (decide (i=j))) M:=by simp[aG,kN,rs,ah,plN,eqD]
@[simp ↓] theorem C8:aG .NotEq (.int i) (.int j) M Q=Q (.bl (!decide (i=j))) M:=by simp[aG,kN,rs,ah,plN,eqD]
@[simp ↓] theorem Dh:aG .Is x .non M Q=Q (.bl x.isN) M:=by simp[aG,pe]
@[simp ↓] theorem CH:aG .IsNot x .non M Q=Q (.bl (!x.isN)) M:=by simp[aG,pe]
@[simp] theorem AZ:(D.int i).isN=false:=rfl
@[simp] theorem A4:D.non.isN=true:=rfl
theorem w6{ds y}(h:M a=some (.lst ds)):ar (.ref a) y M Q=ar (.rol ds) y M Q:=by
 cases y<;>simp[ar,aT,ah,h]
@[simp ↓] theorem wA{ds y}:ar (.ref a) y (put M a (.lst ds)) Q=ar (.rol ds) y (put M a (.lst ds)) Q:=w6 ae
@[simp ↓] theorem zT{ds}:rBi (.list true) [.rol ds] M Q=(ds.length<=sizeLine/\Q (.rol ds) M):=rfl
@[simp ↓] theorem CW{d l}:ar (.rol (d::l)) (.int 0) M Q=Q d M:=by simp[ar,aT,ah,CF]
@[simp ↓] theorem Dv{d e l}:ar (.rol (d::e::l)) (.int 1) M Q=Q e M:=by simp[ar,aT,ah,Cc]
@[simp ↓] theorem Bc{ds}:rBi .len [.rol ds] M Q=Q (.int ds.length) M:=rfl
@[simp ↓] theorem B7:rBi .min [.int i,.int j] M Q=Q (.int (if j<i then j else i)) M:=rfl
@[simp ↓] theorem CJ{ds}:c8 true ds M Q=(ds.length<=sizeLine/\Q (.rol ds) M):=by simp[c8]
@[simp ↓] theorem BN{ds es}:iN true (.rol ds) (.rol es) M Q=((ds++es).length<=sizeLine/\Q (.rol (ds++es)) M):=by simp[iN,ah,c8]
@[simp ↓] theorem CP{ds}:c8 false ds M Q=(ds.length<=sizeLine/\∀p,M p=none->Q (.ref p) (put M p (.lst ds))):=by simp[c8]
@[simp ↓] theorem qK{mx dflt ds}:rMM mx dflt (.rol ds) M Q=(match gD ds with
  |some []=>dflt=true/\Q .non M
  |some (n::ns)=>Q (.int (ns.foldl (mmI mx) n)) M
  |none=>False):=rfl
@[simp ↓] theorem A7{t}:iB t (.int i) M Q=Q (.bl (match t with|.int=>true|_=>false)) M:=rfl
end
section
variable {W:WC}{tg:ITg}{cond:ITO}{elt:IE}{p:Addr}{Q:VK3}{σ:St3}{M:MH}{ys:List D}
@[simp ↓] theorem Bf{ds}:eU Q (.ref p) (put M p (.lst ds))=Q (.rol ds) (L2.del (put M p (.lst ds)) p):=by
 simp only[eU,ae]
def Fm(M:MH):Prop:=∃n,∀p,n<=p->M p=none
theorem Fm.nil:Fm (λ_=>none):=⟨0,λ_ _=>rfl⟩
theorem pv{M:MH}(h:Fm M){p:Prop}:(∀a:Addr,M a=none->p)=p:=propext ⟨λf=>let ⟨n,k⟩:=h;f n (k n (DZ _)),λf _ _=>f⟩
theorem Fm.put{M:MH}(h:Fm M)(p:Addr)(o:DO):Fm (put M p o):=by
 obtain⟨n,h⟩:=h;refine⟨max n (p+1),λq hq=>?_⟩
 rw[af (Nat.ne_of_gt (Nat.lt_of_succ_le (Ej (Nat.le_max_right n (p+1)) hq)))];exact h q (Ej (Nat.le_max_left _ _) hq)
theorem iz{M:MH}(hM:Fm M){P:Addr->Prop}{q:Prop}(h:∀p,M p=none->P p=q):(∀p,M p=none->P p)=q:=by
 rw[<-pv hM (p:=q)];exact forall_congr λp=>implies_congr_ctx rfl λhp=>h p hp
theorem AJ{cs:List Int}(h1 : -(cs.length:Int)<=i)(h2:i<cs.length):∃x,atI (cs.map D.int) i=some (.int x):=by
 unfold atI ixN;rw[D5];by_cases h:0<=i
 ·have hk:i.toNat<cs.length:=by omega
  rw[DY h,DY h2];exact⟨cs[i.toNat],by simp[Et hk]⟩
 ·have hk:(i+cs.length).toNat<cs.length:=by omega
  rw[DV h,DY h1];exact⟨cs[(i+cs.length).toNat],by simp[Et hk]⟩
theorem bS(h:atI ds i=some x):ar (.rol ds) (.int i) M Q=Q x M:=by simp[ar,aT,ah,h]
def Ext(M M':MH):Prop:=Fm M'/\∀a o,M a=some o->M' a=some o
theorem Ext.put{M:MH}(hM:Fm M){p:Addr}(h:M p=none)(o:DO):Ext M (put M p o):=⟨hM.put _ _,λa u e=>by rw[af (λz=>by rw[z,h]at e;cases e)];exact e⟩
section
variable {W:WC}{σ:St3}{M:MH}{Q:VK3}{tg:ITg}{cond:ITO}{elt:IE}{p:Addr}{S:MH->Prop}
theorem pI{ys:List D}(hp:M p=none)(hS:S (put M p (.lst ys))):i8 W tg cond elt S p (eU Q) [] ys σ (put M p (.lst ys))=Q (.rol ys) M:=by
 show (S (put M p (.lst ys))/\eU Q (.ref p) (put M p (.lst ys)))=_;simp[eU,ae,hS,kz hp]
theorem im{d:D}{r ys:List D}:i8 W tg cond elt S p Q (d::r) ys σ M=(S M/\ys.length<sizeLine/\wpG tg d σ M λσ2 M2=>fZ W cond σ2 M2 (λb M3=>if b=true then wpE W elt σ2 M3 (λy M4=>M4 p=some (.lst ys)/\i8 W tg cond elt S p Q r (ys++[y]) σ2 (put M4 p (.lst (ys++[y])))) (λ_ _=>False) else i8 W tg cond elt S p Q r ys σ2 M3) (λ_ _=>False)):=rfl
theorem gq(P:St3->Prop)(st:D->St3)(c:D->Bool)(f:D->D):∀(ds ys:List D)(σ:St3) {M:MH},P σ->Fm M->M p=none->ys.length+ds.length<sizeLine->(∀M',Ext M M'->S M')->
  (∀d∈ds,P (st d)/\∀σ,P σ->∀(M:MH)(k:St3->MH->Prop),wpG tg d σ M k=k (st d) M)->
  (∀d∈ds,∀M',Ext M M'->∀Q:Bool->MH->Prop,fZ W cond (st d) M' Q (λ_ _=>False)=Q (c d) M')->
  (∀d∈ds,c d=true->∀M',Ext M M'->∀Q,wpE W elt (st d) M' Q (λ_ _=>False)=Q (f d) M')->
  i8 W tg cond elt S p Q ds ys σ (put M p (.lst ys))=Q (.ref p) (put M p (.lst (ys++(ds.filter c).map f)))
 |[],ys,σ,M,h0,hM,hp,hl,hS,hg,hc,he=>by
  show (S (put M p (.lst ys))/\Q (.ref p) (put M p (.lst ys)))=_;simp[hS _ (.put hM hp _)]
 |d::ds,ys,σ,M,h0,hM,hp,hl,hS,hg,hc,he=>by
  have hl':ys.length+(ds.length+1)<sizeLine:=hl;obtain⟨g1,g2⟩:=hg d DW;rw[im,g2 σ h0,hc d DW _ (.put hM hp _),eq_true (hS _ (.put hM hp _)),true_and];cases q:c d with
  |true=>
   rw[DY rfl,he d DW q _ (.put hM hp _),ae,aV];rw[gq P st c f ds (ys++[f d]) (st d) g1 hM hp (by rw[Ew,List.length_singleton];omega) hS (λe h=>hg e (DT _ h)) (λe h=>hc e (DT _ h)) (λe h=>he e (DT _ h))]
   simp only[List.filter_cons,q,if_true,D4,List.append_assoc,List.singleton_append,true_and];rw[eq_true (show ys.length<sizeLine by omega),true_and]
  |false=>
   rw[DV D8];rw[gq P st c f ds ys (st d) g1 hM hp (by omega) hS (λe h=>hg e (DT _ h)) (λe h=>hc e (DT _ h)) (λe h=>he e (DT _ h))]
   simp only[List.filter_cons,q,EA,if_false];rw[eq_true (show ys.length<sizeLine by omega),true_and]
theorem je(P:St3->Prop)(st:D->St3)(c:D->Bool)(f:D->D):∀(ds ys:List D)(σ:St3) {M:MH},P σ->Fm M->M p=none->ys.length+ds.length<sizeLine->(∀M',Ext M M'->S M')->
  (∀d∈ds,P (st d)/\∀σ,P σ->∀(M:MH)(k:St3->MH->Prop),wpG tg d σ M k=k (st d) M)->
  (∀d∈ds,∀M',Ext M M'->∀Q:Bool->MH->Prop,fZ W cond (st d) M' Q (λ_ _=>False)=Q (c d) M')->
  (∀d∈ds,c d=true->∀M',Ext M M'->∀Q,wpE W elt (st d) M' Q (λ_ _=>False)=Q (f d) M')->
  i8 W tg cond elt S p (eU Q) ds ys σ (put M p (.lst ys))=Q (.rol (ys++(ds.filter c).map f)) M
 |[],ys,σ,M,h0,hM,hp,hl,hS,hg,hc,he=>by rw[pI hp (hS _ (.put hM hp _))];simp
 |d::ds,ys,σ,M,h0,hM,hp,hl,hS,hg,hc,he=>by
  have hl':ys.length+(ds.length+1)<sizeLine:=hl;obtain⟨g1,g2⟩:=hg d DW;rw[im,g2 σ h0,hc d DW _ (.put hM hp _),eq_true (hS _ (.put hM hp _)),true_and];cases q:c d with
  |true=>
   rw[DY rfl,he d DW q _ (.put hM hp _),ae,aV];rw[je P st c f ds (ys++[f d]) (st d) g1 hM hp (by rw[Ew,List.length_singleton];omega) hS (λe h=>hg e (DT _ h)) (λe h=>hc e (DT _ h)) (λe h=>he e (DT _ h))]
   simp only[List.filter_cons,q,if_true,D4,List.append_assoc,List.singleton_append,true_and];rw[eq_true (show ys.length<sizeLine by omega),true_and]
  |false=>
   rw[DV D8];rw[je P st c f ds ys (st d) g1 hM hp (by omega) hS (λe h=>hg e (DT _ h)) (λe h=>hc e (DT _ h)) (λe h=>he e (DT _ h))]
   simp only[List.filter_cons,q,EA,if_false];rw[eq_true (show ys.length<sizeLine by omega),true_and]
theorem gg{ds:List D}(P:St3->Prop)(st:D->St3)(c:D->Bool)(f:D->D)(h0:P σ)(hM:Fm M)(hl:ds.length<10000)
  (hg:∀d∈ds,P (st d)/\∀σ,P σ->∀(M:MH)(k:St3->MH->Prop),wpG tg d σ M k=k (st d) M)
  (hc:∀d∈ds,∀M',Ext M M'->∀Q:Bool->MH->Prop,fZ W cond (st d) M' Q (λ_ _=>False)=Q (c d) M')
  (he:∀d∈ds,c d=true->∀M',Ext M M'->∀Q,wpE W elt (st d) M' Q (λ_ _=>False)=Q (f d) M') (hS:∀M',Ext M M'->S M':=by exact λ_ _=>trivial) :
  jB W tg cond elt S Q ds σ M=Q (.rol ((ds.filter c).map f)) M:=by
 have hl':([]:List D).length+ds.length<sizeLine:=by rw[List.length_nil,Nat.zero_add];exact Nat.lt_trans hl (by decide)
 exact iz hM λp hp=>by
  rw[je P st c f ds [] σ h0 hM hp hl' hS hg hc he];simp
theorem ku{rest:St3}{x:Option D}{ds:List D}(c:D->Bool)(f:D->D)(hM:Fm M)(hl:ds.length<10000)
  (hc:∀d∈ds,∀M',Ext M M'->∀Q:Bool->MH->Prop,fZ W cond (some d::rest) M' Q (λ_ _=>False)=Q (c d) M')
  (he:∀d∈ds,c d=true->∀M',Ext M M'->∀Q,wpE W elt (some d::rest) M' Q (λ_ _=>False)=Q (f d) M') (hS:∀M',Ext M M'->S M':=by exact λ_ _=>trivial) :
  jB W (.name 0) cond elt S Q ds (x::rest) M=Q (.rol ((ds.filter c).map f)) M:=
 gg (λσ=>∃y,σ=y::rest) (λd=>some d::rest) c f ⟨x,rfl⟩ hM hl (λd _=>⟨⟨_,rfl⟩,λσ ⟨y,e⟩ M k=>by subst e;rfl⟩) hc he hS
theorem fU{rest:St3}{x:Option D}{ds:List D}(f:D->D)(hM:Fm M)(hl:ds.length<10000)
  (he:∀d∈ds,∀M',Ext M M'->∀Q,wpE W elt (some d::rest) M' Q (λ_ _=>False)=Q (f d) M') (hS:∀M',Ext M M'->S M':=by exact λ_ _=>trivial) :
  jB W (.name 0) .no elt S Q ds (x::rest) M=Q (.rol (ds.map f)) M:=by
 rw[ku (λ_=>true) f hM hl (λ_ _ _ _ _=>rfl) (λd hd _=>he d hd) hS]
 rw[List.filter_eq_self.mpr (λ_ _=>rfl)]
end
theorem og(P:St3->Prop)(h0:P σ)(step:∀d∈ds,∀σ,P σ->∀k:St3->MH->Prop,(∀σ',P σ'->k σ' M)->wpG tg d σ M λσ2 M2=>aw W body {De with nx:=k,ct:=k,bk:=De.nx} ES σ2 M2)(done:∀σ,P σ->De.nx σ M) :
  bN W tg body ES (λ_=>True) De ds σ M:=by
 induction ds generalizing σ with
 |nil=>rw[be];exact⟨trivial,done σ h0⟩
 |cons d ds ih=>
  rw[aQ];exact⟨trivial,step d DW σ h0 _ λσ' p=>ih p λe he=>step e (DT _ he)⟩
theorem pk(g:α->D)(f:α->Bool)(xs:List α)(h:∀x∈xs,g x=.bl (f x)):dO (xs.map g)=some (xs.map f):=by
 induction xs with
 |nil=>rfl
 |cons a r ih=>
  rw[D4,h a DW];simp only[dO];rw[ih λx hx=>h x (DT _ hx)]
  rfl
theorem u0(f:α->Bool){xs:List α}(h:∀x∈xs,g x=.bl (f x)):rBi .all [.rol (xs.map g)] M Q=Q (.bl (xs.all f)) M:=by
 simp only[rBi,ah,pk g f xs h];simp[List.all_map,Function.comp_def]
end
section
variable {W:WC}{σ:St3}{M:MH}{Q:VK3}{E:XN}{s:Str}{ds:List D}
end
end L2
namespace L2
open PySem PySem.NumText PyProof.Rows StrLaws
end L2
namespace L2
open PySem PySem.NumText PyProof.Rows StrLaws Builtin Builtin.Str
end L2
namespace HD
open PySem PySem.W PyProof.Rows L2
noncomputable def pw:Program:=PySem.Challenge.pw_driftmeet_k26_roads_and_latest_times
noncomputable def top(i:Nat):Stmt:=PySem.Challenge.pw_driftmeet_k26_roads_and_latest_times.main.body.getD i (.Pass ⟨0,0,0,0⟩)
noncomputable abbrev R(a:Nat):Value:=.ref a
noncomputable abbrev I(i:Nat):Value:=.int i 0
noncomputable abbrev e(P:Params)(s:String)(t:Nat)(v:Value):DictEntry:=⟨PyData.keyHash P s,.str s t,v⟩
noncomputable abbrev co(n:String)(a:Nat)(m:String)(b c d e g h i j:Nat)(k:Bool)(l o q r s:Nat):Data:=.fields #[.str n a,.str m b,.str "/claim/cut.py" c,I d,I e,I g,I h,I i,R j,.bool k,I l,R o,.none,.none,.none,.none,I q,I r,.str "/claim/cut.py" s]
noncomputable abbrev cp(n:String)(a:Nat)(m:String)(b c d e g h i j:Nat)(k:Bool)(l o x y z q r s:Nat):Data:=.fields #[.str n a,.str m b,.str "/claim/cut.py" c,I d,I e,I g,I h,I i,R j,.bool k,I l,R o,.none,R x,R y,R z,I q,I r,.str "/claim/cut.py" s]
noncomputable abbrev v0:Value:=.str "driftmeet.errors" 187
noncomputable abbrev v1:Value:=.type "dict"
noncomputable abbrev v2:Value:=.str "driftmeet.nets" 315
noncomputable abbrev v3:Value:=.type "ValueError"
noncomputable abbrev v4:Value:=.type "object"
noncomputable abbrev v5:Value:=.builtin "ValueError.__new__"
noncomputable abbrev v6:Value:=.type "type"
noncomputable abbrev F:=Params->Obj
noncomputable abbrev fo(n q:String)(s:Stmt)(m:String)(t c:Nat):F:=λ_=>⟨.type "function",none,.func (fnOf n q (ba s) (ax s) (aq s) .none .none .none (.str m t) none (.ref c) .none),#[]⟩
noncomputable abbrev fp(n q:String)(s:Stmt):F:=λ_=>⟨.none,none,.func {fnOf n q (ba s) (ax s) (aq s) .none .none .none .none none .none .none with globals:=0,builtins:=0},#[]⟩
noncomputable abbrev vf(l:Array Value):F:=λ_=>⟨.none,none,.fields l,#[]⟩
noncomputable abbrev tu(l:Array Value):F:=λ_=>⟨.type "tuple",none,.seq l 0,#[]⟩
noncomputable abbrev cd(d:Data):F:=λ_=>⟨.type "code",none,d,#[]⟩
noncomputable abbrev bf(a:String)(b:Nat):F:=λ_=>⟨.type "builtin_function_or_method",none,.fields #[.builtin a,.ref b],#[]⟩
noncomputable abbrev n(o:F)(x y:Params->W.BT):Params->W.BT:=λP=>.node (o P) (x P) (y P)
noncomputable abbrev z:Params->W.BT:=λ_=>.nil
noncomputable abbrev l(o:F):Params->W.BT:=λP=>.node (o P) .nil .nil
noncomputable abbrev x0(a:String)(b:Nat)(c:String)(d:Nat)(f:Nat)(g:Nat)(h:Nat):F:=cd (cp a b c (b+1) (b+2) d f 0 0 3 g true 181 (g+1) (g+2) (g+3) (g+4) h d (h+1))
noncomputable abbrev x1(a:String)(b:Nat):F:=fp a a (top b)
noncomputable abbrev x2(a:String)(b:Nat)(c:String)(d:Nat)(f:Nat):F:=fo a a (top b) c d f
noncomputable abbrev x3(a:String)(b:String)(c:Nat)(d:Nat):F:=fp a b (am (top c) d)
noncomputable abbrev x4(a:String)(b:String)(c:Nat)(d:Nat)(f:String)(g:Nat)(h:Nat):F:=fo a b (am (top c) d) f g h
noncomputable abbrev x5(a:String)(b:Nat)(c:String)(d:String):F:=tu #[(.str a b),(.str c (b+1)),(.str d (b+2))]
noncomputable abbrev x6(a:String)(b:Nat)(c:Nat)(d:Nat):F:=cd (co a b a (b+1) (b+2) c 0 0 0 0 d false 181 (d+1) (b+3) c (b+4))
noncomputable abbrev x7(a:Nat)(b:Nat)(c:String)(d:Nat):F:=λ_=>⟨(.type "frame"),none,.plain,#[some (R a),some (R 3),some (R b),none,some (.str c d),none,some (R 0)]⟩
noncomputable abbrev x8(a:String)(b:Nat)(c:Nat)(d:Nat)(f:Nat):F:=cd (.fields #[(.str a b),(.str a (b+1)),(.str "/claim/cut.py" (b+2)),(I c),(I d),(I 0),(I 0),(I 3),(R f),(.bool true),(I 181),(R (f+1)),.none,.none,.none,(R (f+2)),(I (b+3)),(I c),(.str "/claim/cut.py" (b+4))])
noncomputable abbrev x9(a:Nat):F:=λ_=>⟨(.type "super"),none,(.fields #[(R a),(R a),(R a)]),#[]⟩
noncomputable abbrev x10(a:Nat):F:=bf "object.__init_subclass__" a
noncomputable abbrev x11(a:Nat)(b:String)(c:Nat)(d:Nat):F:=λP=>⟨v1,none,(.dict #[e P "__module__" a v0,e P "__qualname__" (a+2) (.str b (a+1)),e P "__firstlineno__" (a+4) (.int c (a+3)),e P "__static_attributes__" (a+5) (R d)] 4),#[]⟩
noncomputable abbrev x12(a:Nat)(b:Nat)(c:String)(d:Nat)(f:Nat)(g:String)(h:Nat)(i:Nat):F:=λP=>⟨v1,none,(.dict #[e P "__module__" a v0,e P "__firstlineno__" (a+4) (.int b (a+3)),e P c d (R f),e P g (d+2) (R h),e P "__doc__" (d+3) .none] i),#[]⟩
noncomputable abbrev x13(a:Nat)(b:Nat):F:=λ_=>⟨(.type "getset_descriptor"),none,(.fields #[(.str "__weakref__" a),(R b),(.builtin "ExceptionGroup.__weakref__"),.none]),#[]⟩
noncomputable abbrev x14(a:String)(b:Nat)(c:Nat)(d:Nat):F:=λ_=>⟨v6,none,(.cls ⟨a,[(R 24)],[(R b),(R 24),v3,(.type "Exception"),(.type "BaseException"),v4],(b-1),a,true,[],[],false,none,false⟩),#[some (R c),none,some (.str a d),some (.str a (d+8)),some v5,some (.bool true)]⟩
noncomputable def o0:F:=tu #[]
noncomputable def o1:F:=vf #[]
noncomputable def o2:F:=x6 "<module>" 182 1 11
noncomputable def o3:F:=x7 13 3 "__main__" 164
noncomputable def o7:F:=λ_=>⟨(.type "builtin_function_or_method"),none,(.fields #[(.builtin "type.__prepare__"),v6]),#[]⟩
noncomputable def env:Env:={scope:=pw.main.scope,locals:=mainNs,globals:=mainNs,cells:=[],code:=(R 13),frame:=some 14}
noncomputable def bE:List Stmt:=behindTheImports pw
noncomputable def b(i:Nat):Stmt:=bE.getD i (.Pass ⟨0,0,0,0⟩)
noncomputable def cE:Code:=.body bE env
noncomputable def qF:List Frame:=[topFrame ⟨0,0,0,0⟩]
noncomputable def an:Option Value:=(some (R 6))
noncomputable def hA(P:Params):Heap:=⟨⟨[boot_o_0 P,boot_o_1 P,boot_o_2 P,boot_o_3 P,boot_o_4 P,boot_o_5 P,boot_o_6 P,boot_o_7 P,boot_o_8 P,boot_o_9 P,boot_o_10 P,o0 P,o1 P,o2 P,o3 P]⟩,{}⟩
noncomputable def sA(w:World)(os:OsState):Shared:=⟨hA w.params,⟨[]⟩,{},187,os⟩
noncomputable def t0:Params->W.BT:=(n boot_o_0 (n boot_o_1 (n boot_o_3 (l boot_o_7) (l o0)) (n boot_o_5 (l boot_o_9) (l o2))) (n boot_o_2 (n boot_o_4 (l boot_o_8) (l o1)) (n boot_o_6 (l boot_o_10) (l o3))))
noncomputable def s0(w:World)(os:OsState):SharedT:=⟨t0 w.params,15,{},⟨[]⟩,{},187,os⟩
noncomputable def t1:Params->W.BT:=(n boot_o_0 (n boot_o_1 (n (λP=>⟨v1,none,(.dict #[e P "__name__" 165 (.str "law_driftmeet_k26_roads_and_latest_times" 459),e P "__doc__" 166 .none,e P "__package__" 167 .none,e P "__loader__" 168 (.builtin "__main__.__loader__#opaque"),e P "__spec__" 169 .none,e P "__annotations__" 170 (R 6),e P "__builtins__" 171 (R 4),e P "__file__" 173 (.str "/claim/cut.py" 172),e P "__cached__" 174 .none,e P "DriftError" 206 (R 24),e P "NoName" 222 (R 37),e P "Ring" 247 (R 56),e P "refuse_unknown" 257 (R 65),e P "go_on" 271 (R 72),e P "settle" 284 (R 79),e P "way_by" 293 (R 86),e P "spans" 302 (R 93),e P "road" 313 (R 100),e P "road_roads" 314 (R 100),e P "needed_lifts" 322 (R 105),e P "Net" 458 (R 200),e P "_law_cell_at" 468 (R 211),e P "_law_whole" 475 (R 218),e P "_law_mixed" 484 (R 225),e P "_law_name" 493 (R 232),e P "_law_bounds" 499 (R 237),e P "_law_sum" 505 (R 242),e P "_law_keep" 511 (R 247),e P "_law_pair" 528 (R 254),e P "_law_refused" 537 (R 261),e P "_law_refused_too" 546 (R 268),e P "_law_ring" 556 (R 275),e P "law" 562 (R 280)] 33),#[]⟩) (n boot_o_7 (n (tu #[v3]) (n o0 (n (x1 "refuse_unknown" 5) (n o0 (l o0) z) (l o0)) (n o1 (l (x3 "bound" "Net.bound" 14 6)) (l (x1 "_law_mixed" 18)))) (n o0 (n (x2 "settle" 7 "driftmeet.roads" 248 78) (n (x5 "self" 374 "x" "most") (l (tu #[(.str "_law_net" 550),(.str "_law_x" 551),(.str "_law_y" 552),(.str "_law_most" 553)])) z) (l (tu #[(.str "_law_script" 464),(.str "_law_k" 465)]))) (n (x6 "Net" 325 57 109) (l (x4 "times" "Net.times" 14 8 "driftmeet.nets" 315 174)) (l o1)))) (n (x12 196 2 "__static_attributes__" 201 22 "__weakref__" 25 3) (n (x10 37) (n (x0 "go_on" 258 "go_on" 15 4 66 269) (n o1 (l o1) z) (l (λP=>⟨v1,none,(.dict #[e P "__module__" 330 v2,e P "__firstlineno__" 334 (.int 57 333),e P "__init__" 341 (R 119),e P "refuse_ring" 352 (R 126),e P "name" 360 (R 133),e P "put" 370 (R 140),e P "put_round" 379 (R 147),e P "names" 386 (R 154),e P "bound" 395 (R 161),e P "edges" 405 (R 168),e P "times" 414 (R 175),e P "most" 423 (R 182),e P "road" 432 (R 189),e P "latest" 449 (R 197),e P "__static_attributes__" 451 (R 198),e P "__dict__" 453 (R 201),e P "__weakref__" 455 (R 202),e P "__doc__" 456 .none] 4),#[]⟩))) (n (x1 "needed_lifts" 13) (l (x0 "edges" 396 "Net.edges" 95 1 162 403)) (l (x0 "_law_name" 485 "_law_name" 138 2 226 491)))) (n (x12 230 6 "__init__" 242 53 "__static_attributes__" 54 2) (n o0 (n o0 (l (x8 "law" 557 215 1 276)) z) (l o0)) (n (x4 "__init__" "Net.__init__" 14 0 "driftmeet.nets" 315 118) (l o0) (l (x2 "_law_keep" 22 "law_driftmeet_k26_roads_and_latest_times" 459 246)))))) (n o0 (n o1 (n o0 (n o1 (n (x3 "name" "Net.name" 14 2) (l (x1 "_law_refused" 24)) z) (l (x3 "latest" "Net.latest" 14 11))) (n (x0 "road" 303 "road" 42 3 94 311) (l o1) (l o1))) (n (x3 "__init__" "Ring.__init__" 3 0) (n o0 (n (x4 "put_round" "Net.put_round" 14 4 "driftmeet.nets" 315 146) (l (x2 "_law_ring" 26 "law_driftmeet_k26_roads_and_latest_times" 459 274)) z) (l (x2 "_law_cell_at" 16 "law_driftmeet_k26_roads_and_latest_times" 459 210))) (n (tu #[(.str "self" 338)]) (l o0) (l o0)))) (n (x10 24) (n o0 (n (tu #[(.str "edges" 275),(.str "sums" 276),(.str "back" 277),(.str "fallen" 278),(.str "again" 279),(.str "x" 280),(.str "y" 281)]) (n (x0 "put" 361 "Net.put" 73 4 134 368) (l (x0 "_law_refused_too" 538 "_law_refused_too" 200 3 262 544)) z) (l (x9 200))) (n o7 (l (x5 "self" 409 "sums" "x")) (l (x1 "_law_bounds" 20)))) (n o0 (n (x1 "spans" 9) (l o0) (l o0)) (n o0 (l (x3 "road" "Net.road" 14 10)) (l o0)))))) (n boot_o_5 (n boot_o_9 (n (x11 196 "DriftError" 2 22) (n (x6 "NoName" 209 4 31) (n (x2 "refuse_unknown" 5 "driftmeet.roads" 248 64) (n (tu #[(.str "self" 356),(.str "x" 357)]) (l (x5 "_law_net" 532 "_law_x" "_law_y")) z) (l (tu #[(.str "self" 437),(.str "x" 438),(.str "y" 439),(.str "far" 440),(.str "reached" 441),(.str "free" 442),(.str "lifts" 443),(.str "lift" 444),(.str "told" 445),(.str "name" 446)]))) (n o0 (l (x4 "bound" "Net.bound" 14 6 "driftmeet.nets" 315 160)) (l (x2 "_law_mixed" 18 "law_driftmeet_k26_roads_and_latest_times" 459 224)))) (n (tu #[(.str "self" 238),(.str "ring" 239)]) (n o1 (n (x3 "put_round" "Net.put_round" 14 4) (l (x1 "_law_ring" 26)) z) (l (x1 "_law_cell_at" 16))) (n o0 (l o1) (l (x8 "_law_sum" 500 157 4 238))))) (n (x13 202 24) (n o7 (n o0 (n o0 (l o0) z) (l (λ_=>⟨(.type "getset_descriptor"),none,(.fields #[(.str "__dict__" 452),(R 200),(.builtin "function.__dict__"),(.builtin "function.__dict__#set")]),#[]⟩))) (n (x2 "needed_lifts" 13 "driftmeet.nets" 315 104) (l o0) (l o0))) (n (x9 56) (n (x5 "edges" 297 "x" "sums") (l (x0 "names" 380 "Net.names" 87 1 148 384)) (l (x0 "_law_whole" 469 "_law_whole" 132 1 212 473))) (n o1 (l (x5 "self" 427 "x" "y")) (l o1))))) (n o2 (n (x7 20 17 "driftmeet.errors" 187) (n (x14 "NoName" 37 28 207) (n o0 (n (x4 "name" "Net.name" 14 2 "driftmeet.nets" 315 132) (l (x2 "_law_refused" 24 "law_driftmeet_k26_roads_and_latest_times" 459 260)) z) (l (λ_=>⟨(.type "function"),none,(.func (fnOf "latest" "Net.latest" (ba (am (top 14) 11)) (ax (am (top 14) 11)) (aq (am (top 14) 11)) (R 190) .none .none v2 none (R 196) .none)),#[]⟩))) (n o0 (l o0) (l o0))) (n (x4 "__init__" "Ring.__init__" 3 0 "driftmeet.errors" 187 52) (n (x0 "way_by" 285 "way_by" 32 2 80 291) (n o1 (l o1) z) (l o1)) (n (x3 "__init__" "Net.__init__" 14 0) (l (x0 "most" 415 "Net.most" 108 3 176 421)) (l (x1 "_law_keep" 22))))) (n o7 (n (x6 "Ring" 225 6 43) (n (x1 "settle" 7) (n o0 (l o0) z) (l o0)) (n o0 (l (x3 "times" "Net.times" 14 8)) (l (x2 "_law_bounds" 20 "law_driftmeet_k26_roads_and_latest_times" 459 236)))) (n (tu #[(.str "edges" 253),(.str "x" 254)]) (n (x2 "spans" 9 "driftmeet.roads" 248 92) (l (x5 "self" 390 "x" "y")) (l (x5 "_law_cell" 479 "_law_k" "_law_number"))) (n (x0 "refuse_ring" 342 "Net.refuse_ring" 62 4 120 350) (l (x4 "road" "Net.road" 14 10 "driftmeet.nets" 315 188)) (l (x0 "_law_pair" 512 "_law_pair" 174 5 248 526)))))))) (n boot_o_2 (n boot_o_4 (n boot_o_8 (n o7 (n o1 (n (x0 "refuse_unknown" 250 "refuse_unknown" 12 2 59 255) (n o1 (l o1) z) (l o1)) (n (tu #[(.str "edges" 306),(.str "x" 307),(.str "y" 308),(.str "sums" 309),(.str "back" 310)]) (l (x0 "bound" 387 "Net.bound" 90 3 155 393)) (l (x0 "_law_mixed" 476 "_law_mixed" 134 2 219 482)))) (n o1 (n o0 (n o0 (l o0) z) (l o0)) (n (x7 111 108 "driftmeet.nets" 315) (l o0) (l (x1 "_law_sum" 21))))) (n (λ_=>⟨v6,none,(.cls ⟨"DriftError",[v3],[(R 24),v3,(.type "Exception"),(.type "BaseException"),v4],23,"DriftError",true,[],[(R 37),(R 56)],false,none,false⟩),#[some (R 15),none,some (.str "DriftError" 189),some (.str "DriftError" 197),some v5,some (.bool true)]⟩) (n (tu #[(R 24)]) (n (x2 "go_on" 6 "driftmeet.roads" 248 71) (n (tu #[(.str "self" 364),(.str "x" 365),(.str "y" 366),(.str "most" 367)]) (l (x5 "_law_net" 541 "_law_x" "_law_y")) z) (l (λ_=>⟨v6,none,(.cls ⟨"Net",[v4],[(R 200),v4],199,"Net",true,[],[],false,none,false⟩),#[none,none,some (.str "Net" 323),some (.str "Net" 331),some (.builtin "object.__new__"),some (.bool true)]⟩))) (n (x8 "needed_lifts" 317 51 3 101) (l (x4 "edges" "Net.edges" 14 7 "driftmeet.nets" 315 167)) (l (x2 "_law_name" 19 "law_driftmeet_k26_roads_and_latest_times" 459 231)))) (n (x14 "Ring" 56 40 223) (n o1 (n (x3 "names" "Net.names" 14 5) (l (x2 "law" 27 "law_driftmeet_k26_roads_and_latest_times" 459 279)) z) (l (x1 "_law_whole" 17))) (n o0 (l o1) (l o0))))) (n (vf #[(I 2),(I 0),(R 20),(I 4),(I 0),(R 33),(I 6),(I 0),(R 45),(I 12),(I 0),(R 64),(I 15),(I 0),(R 71),(I 24),(I 0),(R 78),(I 32),(I 0),(R 85),(I 37),(I 0),(R 92),(I 42),(I 0),(R 99),(I 51),(I 0),(R 104),(I 57),(I 0),(R 111),(I 128),(I 0),(R 210),(I 132),(I 0),(R 217),(I 134),(I 0),(R 224),(I 138),(I 0),(R 231),(I 147),(I 0),(R 236),(I 157),(I 0),(R 241),(I 167),(I 0),(R 246),(I 174),(I 0),(R 253),(I 194),(I 0),(R 260),(I 200),(I 0),(R 267),(I 206),(I 0),(R 274),(I 215),(I 0),(R 279)]) (n (x6 "DriftError" 191 2 18) (n (λP=>⟨v1,none,(.dict #[e P "__module__" 214 v0,e P "__firstlineno__" 218 (.int 4 217),e P "__static_attributes__" 219 (R 35),e P "__doc__" 220 .none] 2),#[]⟩) (n (tu #[(.str "row" 261),(.str "x" 262),(.str "sums" 263),(.str "back" 264),(.str "fallen" 265),(.str "y" 266),(.str "most" 267),(.str "total" 268)]) (n (x0 "name" 353 "Net.name" 69 2 127 358) (l (x0 "_law_refused" 529 "_law_refused" 194 3 255 535)) z) (l (x0 "latest" 434 "Net.latest" 115 4 191 447))) (n (x2 "road" 10 "driftmeet.roads" 248 99) (l (tu #[(.str "self" 399),(.str "told" 400),(.str "x" 401),(.str "row" 402)])) (l (x5 "_law_cell" 488 "_law_k" "_law_base")))) (n (x0 "__init__" 235 "Ring.__init__" 8 2 47 240) (n (x1 "way_by" 8) (n o0 (l o0) z) (l o0)) (n o0 (l (x3 "most" "Net.most" 14 9)) (l o1)))) (n (tu #[(R 24)]) (n (vf #[(I 8),(I 4),(R 52)]) (n o0 (n (x4 "put" "Net.put" 14 3 "driftmeet.nets" 315 139) (l (x2 "_law_refused_too" 25 "law_driftmeet_k26_roads_and_latest_times" 459 267)) z) (l (x10 200))) (n (λP=>⟨v1,none,(.dict #[e P "__module__" 330 v2,e P "__qualname__" 332 (.str "Net" 331),e P "__firstlineno__" 334 (.int 57 333),e P "__init__" 341 (R 119),e P "refuse_ring" 352 (R 126),e P "name" 360 (R 133),e P "put" 370 (R 140),e P "put_round" 379 (R 147),e P "names" 386 (R 154),e P "bound" 395 (R 161),e P "edges" 405 (R 168),e P "times" 414 (R 175),e P "most" 423 (R 182),e P "road" 432 (R 189),e P "latest" 449 (R 197),e P "__static_attributes__" 451 (R 198)] 16),#[]⟩) (l o0) (l (x8 "_law_bounds" 494 147 2 233)))) (n o1 (n (x0 "spans" 294 "spans" 37 2 87 300) (l o1) (l o1)) (n (x3 "refuse_ring" "Net.refuse_ring" 14 1) (l (x0 "road" 424 "Net.road" 112 3 183 430)) (l (x1 "_law_pair" 23))))))) (n boot_o_6 (n boot_o_10 (n o0 (n (x7 33 30 "driftmeet.errors" 187) (n o0 (n o0 (l o0) z) (l o0)) (n (x1 "road" 10) (l o0) (l o0))) (n o0 (n (x5 "back" 288 "y" "way") (n (x0 "put_round" 371 "Net.put_round" 82 3 141 377) (l (x0 "_law_ring" 547 "_law_ring" 206 3 269 554)) z) (l (x0 "_law_cell_at" 461 "_law_cell_at" 128 2 205 466))) (n o1 (l (x5 "self" 418 "x" "y")) (l (x2 "_law_sum" 21 "law_driftmeet_k26_roads_and_latest_times" 459 241))))) (n (x9 24) (n (λP=>⟨v1,none,(.dict #[e P "__module__" 230 v0,e P "__qualname__" 232 (.str "Ring" 231),e P "__firstlineno__" 234 (.int 6 233),e P "__init__" 242 (R 53),e P "__static_attributes__" 244 (R 54)] 5),#[]⟩) (n o1 (n (x3 "put" "Net.put" 14 3) (l (x1 "_law_refused_too" 25)) z) (l (x13 454 200))) (n o0 (l o1) (l o1))) (n (x10 56) (n o0 (l (x4 "names" "Net.names" 14 5 "driftmeet.nets" 315 153)) (l (x2 "_law_whole" 17 "law_driftmeet_k26_roads_and_latest_times" 459 217))) (n (tu #[(.str "self" 345),(.str "x" 346),(.str "y" 347),(.str "most" 348),(.str "back" 349)]) (l o0) (l (tu #[(.str "_law_net" 515),(.str "_law_called" 516),(.str "_law_drawn" 517),(.str "_law_cell" 518),(.str "_law_far" 519),(.str "_law_x" 520),(.str "_law_y" 521),(.str "_law_most" 522),(.str "_law_way" 523),(.str "_law_times" 524),(.str "_law_good" 525)])))))) (n o3 (n o0 (n (x9 37) (n (x1 "go_on" 6) (n o0 (l o0) z) (l (tu #[(.str "kept" 450)]))) (n o1 (l (x3 "edges" "Net.edges" 14 7)) (l (x1 "_law_name" 19)))) (n (tu #[(.str "ring" 243)]) (n (x2 "way_by" 8 "driftmeet.roads" 248 85) (n (tu #[(.str "self" 383)]) (l (x1 "law" 27)) z) (l (tu #[(.str "_law_found" 472)]))) (n (x0 "__init__" 335 "Net.__init__" 59 1 113 339) (l (x4 "most" "Net.most" 14 9 "driftmeet.nets" 315 181)) (l (x8 "_law_keep" 506 167 3 243))))) (n (x11 214 "NoName" 4 35) (n (x7 45 42 "driftmeet.errors" 187) (n (x0 "settle" 272 "settle" 24 3 73 282) (n o1 (l o1) z) (l o1)) (n (vf #[(I 59),(I 4),(R 118),(I 62),(I 4),(R 125),(I 69),(I 4),(R 132),(I 73),(I 4),(R 139),(I 82),(I 4),(R 146),(I 87),(I 4),(R 153),(I 90),(I 4),(R 160),(I 95),(I 4),(R 167),(I 101),(I 4),(R 174),(I 108),(I 4),(R 181),(I 112),(I 4),(R 188),(I 115),(I 4),(R 196)]) (l (x0 "times" 406 "Net.times" 101 1 169 412)) (l o0))) (n o0 (n o0 (l o0) (l o0)) (n (x4 "refuse_ring" "Net.refuse_ring" 14 1 "driftmeet.nets" 315 125) (l (tu #[(.int 0 433)])) (l (x2 "_law_pair" 23 "law_driftmeet_k26_roads_and_latest_times" 459 253)))))))))
noncomputable def s1(w:World)(os:OsState):SharedT:=⟨t1 w.params,281,{},⟨[]⟩,{},563,os⟩
noncomputable def t2:Params->W.BT:=t1
noncomputable def s2(w:World)(os:OsState):SharedT:=⟨t2 w.params,281,{},⟨[]⟩,{},563,os⟩
theorem pre:∀w:World,(λos=>topGo treeTable pw w 11 an 12 ⟨boot_heap w.params,⟨[]⟩,boot_drawn,boot_toks,os⟩ (topStub pw))=λos=>some (sA w os,⟨denote treeTable cE,cE,⟨0,0,0,0⟩,qF⟩):=λw=>by kernel_rfl
theorem blk:∀w:World,(λos=>segRun treeTable pw w 11 an 1 1 (sA w os) (blockOf bE env cE ⟨0,0,0,0⟩ qF))=λos=>some (.next,(s0 w os).abs,cE,⟨0,0,0,0⟩):=λw=>by kernel_rfl
noncomputable def g0:List Stmt:=[b 0,b 1,b 2,b 3,b 4,b 5,b 6,b 7,b 8,b 9,b 10,b 11,b 12,b 13,b 14,b 15,b 16,b 17,b 18,b 19,b 20,b 21,b 22,b 23,b 24,b 25,b 26,b 27]
theorem p0:∀w:World,(λos=>segRunT treeTable pw w 11 an 1 1865 (s0 w os) (piecesOf g0 env cE ⟨0,0,0,0⟩ qF))=λos=>some (.next,s1 w os,cE,⟨215,0,235,42⟩):=λw=>by kernel_rfl
theorem fin:∀w:World,(λos=>topRun treeTable pw w 11 an 2 (s1 w os).abs (restOf [] env cE ⟨215,0,235,42⟩ qF))=λos=>some (s2 w os).abs:=λw=>by kernel_rfl
theorem AB:bE=g0++([]):=by kernel_rfl
theorem Cs(w:World)(os:OsState):topRun treeTable pw w 11 an (1865+(2)) (s0 w os).abs (restOf (g0++([])) env cE ⟨0,0,0,0⟩ qF)=some (s2 w os).abs:=piece_app (segRun_of (congrFun (p0 w) os)) (congrFun (fin w) os)
theorem run(w:World)(os:OsState):topRun treeTable pw w 11 an (12+(1+(1865+(2)))) ⟨boot_heap w.params,⟨[]⟩,boot_drawn,boot_toks,os⟩ (topStub pw)=some (s2 w os).abs:=go_top (congrFun (pre w) os) (piece_block (congrFun (blk w) os) (by rw[AB];exact Cs w os))
noncomputable def view:Program:={pw with main:={pw.main with body:=[top 27]}}
noncomputable def loose:List Str:=(["DriftError","NoName","Ring","refuse_unknown","go_on","settle","way_by","spans","road","road_roads","needed_lifts","Net","_law_cell_at","_law_whole","_law_mixed","_law_name","_law_bounds","_law_sum","_law_keep","_law_pair","_law_refused","_law_refused_too","_law_ring"]:List String).map Str.ofString
noncomputable def as:List Addr:=[2,3,15,22,23,24,25,28,35,36,37,40,47,49,50,52,53,54,55,56,59,61,62,64,65,66,68,69,71,72,73,75,76,78,79,80,82,83,85,86,87,89,90,92,93,94,96,97,99,100,101,104,105,113,115,116,118,119,120,122,123,125,126,127,129,130,132,133,134,136,137,139,140,141,143,144,146,147,148,150,151,153,154,155,157,158,160,161,162,164,165,167,168,169,171,172,174,175,176,178,179,181,182,183,185,186,188,189,190,191,193,194,196,197,198,199,200,201,202,205,207,208,210,211,212,214,215,217,218,219,221,222,224,225,226,228,229,231,232,233,236,237,238,241,242,243,246,247,248,250,251,253,254,255,257,258,260,261,262,264,265,267,268,269,271,272,274,275,276,279,280]
noncomputable def K(P:Params):Frag:=as.map λa=>(a,((t2 P).get a).getD ⟨.none,none,.plain,#[]⟩)
theorem as_eq:∀P,as=(K P).map (·.1):=λP=>by kernel_rfl
noncomputable def h1(P:Params):Heap:=absHeap (t2 P) 281 {}
noncomputable def f1(w:World)(os:OsState):Shared:=⟨h1 w.params,⟨[]⟩,{},563,os⟩
noncomputable def Xt(s:Shared):Bool:=xlAt view [] s&&recOk (RowW.records PySem.Challenge.rw_driftmeet_k26_roads_and_latest_times.row.toRowW) s
theorem lk1:∀w:World,(λos=>(staticsOk (importedModules pw.main.body) (boot_heap w.params) (h1 w.params)&&namesBound pw (h1 w.params)&&gensDone (f1 w os)&&laidKept (boot_heap w.params) (h1 w.params)))=λ_=>true:=λw=>by kernel_rfl
theorem lk2:∀w:World,(λos=>openSeen view loose (importedModules pw.main.body) Xt true (f1 w os))=λ_=>openGood view loose:=λw=>by kernel_rfl
theorem lk3:∀w:World,(λos=>((Hook.obs (kHook K as as_eq)) (f1 w os),Nat.ble 1 (f1 w os).toks))=λ_=>((Hook.val (kHook K as as_eq)) w,true):=λw=>by kernel_rfl
theorem left:LeftO pw view loose Xt (λs=>(Hook.obs (kHook K as as_eq) s,Nat.ble 1 s.toks)) (λw=>(Hook.val (kHook K as as_eq) w,true)) 3854:=LeftO.of_pieces (boot_open (by kernel_rfl) (by decide) (λs=>by kernel_rfl)) (H₀:=boot_heap) (H₁:=h1) (gs₀:=⟨[]⟩) (m₀:=11) (ann:=an) (M:=12+(1+(1865+(2)))) (λw=>by kernel_rfl) (λw os=>run w os) (by decide) λw=>funext λos=>looks_pair (congrFun (lk1 w) os) (looks_pair (congrFun (lk2 w) os) (congrFun (lk3 w) os))
end HD
namespace G
open PySem L2
noncomputable def top(i:Nat):Stmt:=PySem.Challenge.pw_driftmeet_k26_roads_and_latest_times.main.body.getD i (.Pass ⟨0,0,0,0⟩)
noncomputable abbrev V0:IE:=.var 0
noncomputable abbrev V1:IE:=.var 1
noncomputable abbrev V2:IE:=.var 2
noncomputable abbrev V3:IE:=.var 3
noncomputable abbrev V4:IE:=.var 4
noncomputable abbrev V5:IE:=.var 5
noncomputable abbrev V6:IE:=.var 6
noncomputable abbrev V7:IE:=.var 7
noncomputable abbrev V8:IE:=.var 8
noncomputable abbrev V9:IE:=.var 9
noncomputable abbrev V10:IE:=.var 10
noncomputable abbrev V11:IE:=.var 11
noncomputable abbrev V12:IE:=.var 12
noncomputable abbrev V13:IE:=.var 13
noncomputable abbrev I0:IE:=.con (.int 0)
noncomputable abbrev I1:IE:=.con (.int 1)
noncomputable abbrev I2:IE:=.con (.int 2)
noncomputable abbrev I3:IE:=.con (.int 3)
noncomputable abbrev I4:IE:=.con (.int 4)
noncomputable abbrev I5:IE:=.con (.int 5)
noncomputable abbrev I6:IE:=.con (.int 6)
noncomputable abbrev I7:IE:=.con (.int 7)
noncomputable abbrev Ar1(a0:IE):IA:=.cons a0 .nil
noncomputable abbrev Ar2(a0 a1:IE):IA:=.cons a0 (.cons a1 .nil)
noncomputable abbrev Ar3(a0 a1 a2:IE):IA:=.cons a0 (.cons a1 (.cons a2 .nil))
noncomputable abbrev Ar4(a0 a1 a2 a3:IE):IA:=.cons a0 (.cons a1 (.cons a2 (.cons a3 .nil)))
noncomputable abbrev Ar5(a0 a1 a2 a3 a4:IE):IA:=.cons a0 (.cons a1 (.cons a2 (.cons a3 (.cons a4 .nil))))
noncomputable abbrev S1(a0:IS):ISs:=.cons a0 .nil
noncomputable abbrev S2(a0 a1:IS):ISs:=.cons a0 (.cons a1 .nil)
noncomputable abbrev S3(a0 a1 a2:IS):ISs:=.cons a0 (.cons a1 (.cons a2 .nil))
noncomputable abbrev S4(a0 a1 a2 a3:IS):ISs:=.cons a0 (.cons a1 (.cons a2 (.cons a3 .nil)))
noncomputable abbrev S5(a0 a1 a2 a3 a4:IS):ISs:=.cons a0 (.cons a1 (.cons a2 (.cons a3 (.cons a4 .nil))))
noncomputable abbrev S6(a0 a1 a2 a3 a4 a5:IS):ISs:=.cons a0 (.cons a1 (.cons a2 (.cons a3 (.cons a4 (.cons a5 .nil)))))
noncomputable abbrev S9(a0 a1 a2 a3 a4 a5 a6 a7 a8:IS):ISs:=.cons a0 (.cons a1 (.cons a2 (.cons a3 (.cons a4 (.cons a5 (.cons a6 (.cons a7 (.cons a8 .nil))))))))
noncomputable abbrev S10(a0 a1 a2 a3 a4 a5 a6 a7 a8 a9:IS):ISs:=.cons a0 (.cons a1 (.cons a2 (.cons a3 (.cons a4 (.cons a5 (.cons a6 (.cons a7 (.cons a8 (.cons a9 .nil)))))))))
noncomputable abbrev S14(a0 a1 a2 a3 a4 a5 a6 a7 a8 a9 a10 a11 a12 a13:IS):ISs:=.cons a0 (.cons a1 (.cons a2 (.cons a3 (.cons a4 (.cons a5 (.cons a6 (.cons a7 (.cons a8 (.cons a9 (.cons a10 (.cons a11 (.cons a12 (.cons a13 .nil)))))))))))))
noncomputable abbrev fL(n q:String)(g c:Bool)(s:Stmt)(N:List Str)(k:Nat)(b:ISs):FL:={name:=n,qual:=q,glob:=g,cl:=c,st:=s,N:=N,ps:=N.take k,body:=b}
noncomputable abbrev fl(n:String):=fL n n true
abbrev runF(T:List FB)(B:WB)(n:Nat)(b:ISs)(σ:St3)(M:MH)(Q:VK3)(E:XN):Prop:=aw {toWB:=B,call:=ac T B n} b {nx:=λ_ M'=>Q .non (ak M M'),rt:=λv M'=>Q v (ak M M')} (λ_ i M'=>E i (ak M M')) σ M
noncomputable def aS:ISs:=S1 (.ifs (.cmp .NotIn V1 V0) (S1 (.raise 1 (Ar1 (.con (.str "this name has no row"))))) .nil)
noncomputable def aY:ISs:=S2 (.set 7 (.bin .Add (.ix V2 V1) V6)) (.ifs (.or (.cmp .NotIn V5 V2) (.cmp .Lt V7 (.ix V2 V5))) (S3 (.ixset V2 V5 V7) (.ixset V3 V5 V1) (.app V4 V5)) .nil)
noncomputable def kU:ISs:=S3 (.set 4 (.lst false .nil)) (.forD (.tup [5,6]) V0 aY) (.ret (.frz V4))
noncomputable def dn:ISs:=S1 (.ixset V4 V6 (.con (.bl true)))
noncomputable def cg:ISs:=S1 (.for_ (.name 6) (.seq (.call 1 (Ar4 (.ix V0 V5) V5 V1 V2))) dn)
noncomputable def gP:ISs:=S3 (.set 4 (.dnew true)) (.for_ (.name 5) (.seq V3) cg) (.set 3 (.bi (.list true) (Ar1 V4)))
noncomputable def i4:ISs:=S2 (.set 3 (.bi (.list true) (Ar1 V1))) (.whl (.cmp .Gt (.bi .len (Ar1 V3)) I0) gP)
noncomputable def gH:ISs:=S1 (.app V2 (.ix V0 (.ix V2 (.neg I1))))
noncomputable def iH:ISs:=S3 (.set 2 (.lst false (Ar1 V1))) (.whl (.cmp .In (.ix V2 (.neg I1)) V0) gH) (.ret (.lrev false V2))
noncomputable def kZ:ISs:=S4 (.expr (.call 0 (Ar2 V0 V1))) (.set 2 (.dctT V1 I0)) (.expr (.call 2 (Ar3 V0 V2 (.dnew true)))) (.ret V2)
noncomputable def fP:ISs:=S6 (.expr (.call 0 (Ar2 V0 V1))) (.expr (.call 0 (Ar2 V0 V2))) (.set 3 (.dctT V1 I0)) (.set 4 (.dnew true)) (.expr (.call 2 (Ar3 V0 V3 V4))) (.ret (.ifx (.cmp .In V2 V3) (.call 3 (Ar2 V4 V2)) (.con .non)))
noncomputable def aN:ISs:=S1 (.ifs (.cmp .NotIn V4 V1) (S1 (.expr (.bm .extend V3 (Ar1 (.compT ["y","most","reached","free","x"] [none,none,some 1,some 2,some 4] (.tup [0,1]) V5 (.yes (.cmp .In V0 V2)) (.bin .Sub (.bin .Sub (.ix V2 V0) V1) (.ix V3 V4))))))) .nil)
noncomputable def bV:ISs:=S3 (.set 3 (.lst false .nil)) (.forD (.tup [4,5]) V0 aN) (.ret V3)
noncomputable def cO:ISs:=S1 (.fset V0 245117675 (.dnew true))
noncomputable def aC:ISs:=S3 (.ifs (.or (.cmp .NotIn V1 (.fld V0 245117675)) (.cmp .NotIn V2 (.fld V0 245117675))) (S1 .retN) .nil) (.set 4 (.meth V0 245168109 (Ar2 V2 V1))) (.ifs (.and (.cmp .IsNot V4 (.con .non)) (.cmp .Lt (.bin .Add V4 V3) I0)) (S1 (.raiseI 2 (Ar1 (.meth V0 211318770 (Ar2 V2 V1))))) .nil)
noncomputable def cQ:ISs:=S1 (.ifs (.cmp .NotIn V1 (.fld V0 245117675)) (S1 (.ixset (.fld V0 245117675) V1 (.dnew true))) .nil)
noncomputable def bQ:ISs:=S5 (.ifs (.cmp .Eq V1 V2) (S2 (.expr (.meth V0 7268202314844682992 (Ar2 V1 V3))) .retN) .nil) (.expr (.meth V0 122623138502931931312882 (Ar3 V1 V2 V3))) (.expr (.meth V0 213610734 (Ar1 V1))) (.expr (.meth V0 213610734 (Ar1 V2))) (.ixset (.ix (.fld V0 245117675) V1) V2 (.bi .min (Ar2 V3 (.bm .get (.ix (.fld V0 245117675) V1) (Ar2 V2 V3)))))
noncomputable def aU:ISs:=S2 (.ifs (.cmp .Lt V2 I0) (S1 (.raiseI 2 (Ar1 (.lst true (Ar1 V1))))) .nil) (.expr (.meth V0 213610734 (Ar1 V1)))
noncomputable def dG:ISs:=S1 (.ret (.bi (.list true) (Ar1 (.fld V0 245117675))))
noncomputable def lE:ISs:=S3 .dead .dead .dead
noncomputable def mE:ISs:=S3 .dead .dead .dead
noncomputable def bT:ISs:=S1 (.ixset V1 V2 I0)
noncomputable def db:ISs:=S4 (.set 1 (.dnew true)) (.forK (.name 2) (.fld V0 245117675) bT) (.expr (.call 2 (Ar3 (.fld V0 245117675) V1 (.dnew true)))) (.ret (.frz V1))
noncomputable def eQ:ISs:=S2 (.expr (.call 0 (Ar2 (.fld V0 245117675) V2))) (.ret (.bm .get (.call 4 (Ar2 (.fld V0 245117675) V1)) (Ar1 V2)))
noncomputable def br:ISs:=S1 (.ret (.call 5 (Ar3 (.fld V0 245117675) V1 V2)))
noncomputable def aI:ISs:=S1 (.ixset V8 V9 (.ifx (.cmp .In V9 V4) (.ix V4 V9) (.bin .Add (.ix V5 V9) V7)))
noncomputable def bK:ISs:=S9 (.expr (.call 0 (Ar2 (.fld V0 245117675) V2))) (.set 4 (.call 4 (Ar2 (.fld V0 245117675) V1))) (.set 5 (.meth V0 31083689204 .nil)) (.set 6 (.call 6 (Ar3 (.fld V0 245117675) V4 V5))) (.ifs (.cmp .NotIn V2 V4) (S1 (.app V6 (.bin .Sub V3 (.ix V5 V2)))) .nil) (.set 7 (.mmz true V6)) (.set 8 (.dnew true)) (.forK (.name 9) (.fld V0 245117675) aI) (.ret V8)
noncomputable def bA:ISs:=S2 (.ifs (.cmp .Lt V1 (.bi .len (Ar1 V0))) (S1 (.ret (.ix V0 V1))) .nil) (.ret I0)
noncomputable def dj:ISs:=S1 (.ret (.and (.isB V0 .int) (.not (.isB V0 .bool))))
noncomputable def dh:ISs:=S3 (.set 2 (.bin .Mod (.bin .Add (.bin .Mod V0 (.con (.int 2147483629))) (.bin .Mult (.con (.int 69621)) V1)) (.con (.int 2147483629)))) (.set 2 (.bin .Mod (.bin .Add (.bin .Add (.bin .Add (.bin .Mult V2 V2) (.bin .Mult (.con (.int 48271)) V2)) (.bin .Mult I7 V1)) I1) (.con (.int 2147483629)))) (.ret (.bin .Mod (.bin .Add (.bin .Add (.bin .Add (.bin .Mult V2 V2) (.bin .Mult (.con (.int 16807)) V2)) (.bin .Mult (.con (.int 31)) V1)) I5) (.con (.int 2147483629))))
noncomputable def bw:ISs:=S5 (.set 2 (.bin .Mod (.bin .FloorDiv V0 I4) (.bin .Pow (.con (.int 10)) (.con (.int 20))))) (.ifs (.cmp .Eq (.bin .Mod V0 I4) I1) (S1 (.ret (.tup (Ar2 V2 V1)))) .nil) (.ifs (.cmp .Eq (.bin .Mod V0 I4) I2) (S1 (.ret (.tup (Ar2 (.bin .Mod V1 I3) (.bin .FloorDiv V1 I3))))) .nil) (.ifs (.cmp .Eq (.bin .Mod V0 I4) I3) (S1 (.ret (.tup (Ar2 (.bin .Sub (.neg I1) V1) V2)))) .nil) (.ret (.tup (Ar2 V1 V2)))
noncomputable def aW:ISs:=S4 (.set 6 (.bin .Mod (.call 21 (Ar2 V5 I1)) V2)) (.set 7 (.bin .Mod (.call 21 (Ar2 V5 I2)) V2)) (.set 8 (.ix (.lst true (Ar4 I0 I0 (.bin .Mod (.bin .FloorDiv V5 I5) I5) (.bin .Mod (.bin .FloorDiv V5 I7) (.bin .Pow (.con (.int 10)) (.con (.int 40)))))) (.bin .Mod (.call 21 (Ar2 V5 I3)) I4))) (.app V4 (.tup (Ar3 (.ix V1 V6) (.ix V1 V7) (.bin .Add (.bin .Sub (.ix V3 V7) (.ix V3 V6)) V8))))
noncomputable def cT:ISs:=S5 (.set 2 (.bi .len (Ar1 V1))) (.set 3 (.comp true ["_law_k","_law_script"] [none,some 0] (.name 0) (.rng1 V2) .no (.bin .Mod (.call 19 (Ar2 V1 (.bin .Add I5 V0))) (.bin .Pow (.con (.int 10)) (.con (.int 40)))))) (.set 4 (.lst false .nil)) (.for_ (.name 5) (.seq (.sl true V0 (.yes (.bin .Add I5 V2)) (.yes (.bin .Add (.con (.int 29)) V2)))) aW) (.ret (.frz V4))
noncomputable def cI:ISs:=S3 (.set 6 (.comp true ["_law_one","_law_other","_law_most","_law_way","_law_k"] [none,none,none,some 1,some 5] (.tup [0,1,2]) (.seq V0) (.yes (.and (.cmp .Eq V0 (.ix V3 (.bin .Sub V4 I1))) (.cmp .Eq V1 (.ix V3 V4)))) V2)) (.ifs (.cmp .Eq V6 (.lst true .nil)) (S1 (.ret (.con .non))) .nil) (.set 4 (.bin .Add V4 (.mm false false V6)))
noncomputable def fS:ISs:=S4 (.ifs (.or (.not (.val (.isB V1 .list))) (.or (.cmp .Eq (.bi .len (Ar1 V1)) I0) (.or (.cmp .NotEq (.ix V1 I0) V2) (.cmp .NotEq (.ix V1 (.neg I1)) V3)))) (S1 (.ret (.con .non))) .nil) (.set 4 I0) (.for_ (.name 5) (.rng2 I1 (.bi .len (Ar1 V1))) cI) (.ret V4)
noncomputable def d9:ISs:=S1 (.ifs (.or (.cmp .NotIn V3 V2) (.not (.val (.call 20 (Ar1 (.ix V2 V3)))))) (S1 (.ret (.con (.bl false)))) .nil)
noncomputable def eA:ISs:=S3 (.ifs (.or (.not (.val (.isB V2 .dict))) (.cmp .NotEq (.bi .len (Ar1 V2)) (.bi .len (Ar1 V0)))) (S1 (.ret (.con (.bl false)))) .nil) (.for_ (.name 3) (.seq V0) d9) (.ret (.bi .all (Ar1 (.comp true ["_law_one","_law_other","_law_most","_law_times"] [none,none,none,some 2] (.tup [0,1,2]) (.seq V1) .no (.cmp .LtE (.bin .Sub (.ix V3 V1) (.ix V3 V0)) V2)))))
noncomputable def eR:ISs:=S10 (.set 5 (.ix V1 (.bin .Mod (.call 21 (Ar2 V3 I1)) (.bi .len (Ar1 V1))))) (.set 6 (.ix V1 (.bin .Mod (.call 21 (Ar2 V3 I2)) (.bi .len (Ar1 V1))))) (.set 7 (.meth V0 245168109 (Ar2 V5 V6))) (.set 8 (.meth V0 211318770 (Ar2 V5 V6))) (.ifs (.cmp .Eq (.bin .Mod V3 I3) I0) (S2 (.set 9 (.meth V0 4016813453548 (Ar2 V5 V6))) (.set 4 I0)) (S1 (.set 9 (.meth V0 4016813453548 (Ar3 V5 V6 V4))))) (.ifs (.or (.not (.val (.call 25 (Ar3 V1 V2 V9)))) (.cmp .NotEq (.ix V9 V5) I0)) (S1 (.ret (.con (.bl false)))) .nil) (.ifs (.cmp .Is V7 (.con .non)) (S1 (.set 10 (.and (.cmp .Is V8 (.con .non)) (.cmp .GtE (.ix V9 V6) V4)))) (S1 (.set 10 (.and (.call 20 (Ar1 V7)) (.and (.cmp .Eq (.call 24 (Ar4 V2 V8 V5 V6)) V7) (.cmp .Eq (.ix V9 V6) V7)))))) (.ifs (.and (.cmp .IsNot V7 (.con .non)) (.val V10)) (S1 (.app V8 V5)) .nil) (.expr (.bm .cleard V9 .nil)) (.ret V10)
noncomputable def bB:ISs:=S2 (.try_ (S1 (.expr (.meth V0 211318770 (Ar2 V1 V2)))) (.cons 1 none (S1 (.ret (.call 34 (Ar3 V0 V1 V2)))) .nil)) (.ret (.con (.bl false)))
noncomputable def ft:ISs:=S2 (.try_ (S1 (.expr (.meth V0 4016813453548 (Ar3 V1 V2 I5)))) (.cons 1 none (S1 (.ret (.con (.bl true)))) .nil)) (.ret (.con (.bl false)))
noncomputable def eB:ISs:=S4 (.set 3 (.meth V0 245168109 (Ar2 V1 V2))) (.ifs (.cmp .Is V3 (.con .non)) (S1 (.ret (.con (.bl true)))) .nil) (.try_ (S1 (.expr (.meth V0 1915632 (Ar3 V2 V1 (.bin .Sub (.bin .Sub I0 V3) I1))))) (.cons 2 none (S1 (.ret (.con (.bl true)))) .nil)) (.ret (.con (.bl false)))
noncomputable def da:ISs:=S1 (.expr (.meth V3 213610734 (Ar1 V4)))
noncomputable def dI:ISs:=S1 (.expr (.meth V3 1915632 (Ar3 V6 V7 V8)))
noncomputable def jf:ISs:=S1 (.ifs (.not (.val (.call 26 (Ar5 V3 V2 V5 V13 V12)))) (S1 (.ret (.con (.bl false)))) .nil)
noncomputable def rG:ISs:=S14 (.set 1 (.bin .Add I2 (.bin .Mod (.call 19 (Ar2 V0 I0)) I6))) (.set 2 (.comp true ["_law_k","_law_script"] [none,some 0] (.name 0) (.rng1 V1) .no (.call 22 (Ar2 (.call 19 (Ar2 V1 I1)) V0)))) (.set 3 (.make false 0 .nil)) (.for_ (.name 4) (.seq V2) da) (.set 5 (.call 23 (Ar2 V0 V2))) (.for_ (.tup [6,7,8]) (.seq V5) dI) (.set 9 (.comp true ["_law_k","_law_script"] [none,some 0] (.name 0) (.rng2 I2 I5) .no (.call 19 (Ar2 V1 V0)))) (.set 10 (.ix V2 (.bin .Mod (.ix V9 I1) V1))) (.ifs (.and (.cmp .Eq (.bin .Mod (.bin .FloorDiv (.ix V9 I0) I3) I2) I1) (.not (.val (.call 29 (Ar3 V3 V10 (.ix V2 (.bin .Mod (.ix V9 I2) V1))))))) (S1 (.ret (.con (.bl false)))) .nil) (.set 11 (.call 22 (Ar2 (.call 19 (Ar2 V0 I1)) V1))) (.ifs (.or (.not (.val (.call 27 (Ar3 V3 (.ix V2 I0) V11)))) (.not (.val (.call 27 (Ar3 V3 V11 (.ix V2 (.neg I1))))))) (S1 (.ret (.con (.bl false)))) .nil) (.set 12 (.bin .Sub (.bin .Mod (.bin .FloorDiv (.ix V9 I2) I6) (.bin .Mult I2 (.bin .Pow (.con (.int 10)) (.con (.int 60))))) (.bin .Pow (.con (.int 10)) (.con (.int 60))))) (.for_ (.name 13) (.seq (.cat true V9 (.sl true V9 .no (.yes I1)))) jf) (.ret (.cmp .Eq (.meth V3 31083688174 .nil) V2))
noncomputable def aM:ISs:=S1 (.ifs (.cmp .NotIn V1 V0) (S1 (.raise 1 (Ar1 (.con (.str "this name has no row"))))) .nil)
noncomputable def iY:ISs:=S4 (.expr (.call 31 (Ar2 V0 V1))) .dead .dead .dead
noncomputable def bz:ISs:=S9 (.expr (.call 31 (Ar2 (.fld V0 245117675) V2))) (.set 4 (.call 32 (Ar2 (.fld V0 245117675) V1))) .dead .dead .dead .dead .dead .dead .dead
noncomputable def aH:ISs:=S2 (.try_ (S1 (.expr (.methS 33 V0 4016813453548 (.cons V1 (.cons V2 (.cons I5 .nil)))))) (.cons 1 none (S1 (.ret (.con (.bl true)))) .nil)) (.ret (.con (.bl false)))
noncomputable def fQ:FL:=fl "refuse_unknown" true (top 5) ["edges","x"] 2 aS
noncomputable def uT:FL:=fl "go_on" true (top 6) ["row","x","sums","back","fallen","y","most","total"] 4 kU
noncomputable def sK:FL:=fl "settle" true (top 7) ["edges","sums","back","fallen","again","x","y"] 3 i4
noncomputable def qG:FL:=fl "way_by" false (top 8) ["back","y","way"] 2 iH
noncomputable def ug:FL:=fl "spans" false (top 9) ["edges","x","sums"] 2 kZ
noncomputable def wN:FL:={name:="road",qual:="road",glob:=true,cl:=false,st:=top 10,N:=["edges","x","y","sums","back"],ps:=["edges","x","y"],body:=fP,gn:="road_roads"}
noncomputable def iL:FL:=fl "needed_lifts" false (top 13) ["edges","reached","free","lifts","x","row"] 3 bV
noncomputable def kC:FL:=fL "__init__" "Net.__init__" false false (am (top 14) 0) ["self"] 1 cO
noncomputable def fc:FL:=fL "refuse_ring" "Net.refuse_ring" false true (am (top 14) 1) ["self","x","y","most","back"] 4 aC
noncomputable def m8:FL:=fL "name" "Net.name" false false (am (top 14) 2) ["self","x"] 2 cQ
noncomputable def pC:FL:=fL "put" "Net.put" false false (am (top 14) 3) ["self","x","y","most"] 4 bQ
noncomputable def gT:FL:=fL "put_round" "Net.put_round" false true (am (top 14) 4) ["self","x","most"] 3 aU
noncomputable def lC:FL:=fL "names" "Net.names" false true (am (top 14) 5) ["self"] 1 dG
noncomputable def mi:FL:=fL "bound" "Net.bound" false true (am (top 14) 6) ["self","x","y"] 3 lE
noncomputable def lK:FL:=fL "edges" "Net.edges" false true (am (top 14) 7) ["self","told","x","row"] 1 mE
noncomputable def mn:FL:=fL "times" "Net.times" false true (am (top 14) 8) ["self","sums","x"] 1 db
noncomputable def nR:FL:=fL "most" "Net.most" false true (am (top 14) 9) ["self","x","y"] 3 eQ
noncomputable def mM:FL:=fL "road" "Net.road" false false (am (top 14) 10) ["self","x","y"] 3 br
noncomputable def kF:FL:={name:="latest",qual:="Net.latest",glob:=false,cl:=false,st:=am (top 14) 11,N:=["self","x","y","far","reached","free","lifts","lift","told","name"],ps:=["self","x","y","far"],body:=bK,df:=[0]}
noncomputable def jn:FL:=fl "_law_cell_at" true (top 16) ["_law_script","_law_k"] 2 bA
noncomputable def mh:FL:=fl "_law_whole" true (top 17) ["_law_found"] 1 dj
noncomputable def ml:FL:=fl "_law_mixed" true (top 18) ["_law_cell","_law_k","_law_number"] 2 dh
noncomputable def mZ:FL:=fl "_law_name" true (top 19) ["_law_cell","_law_k","_law_base"] 2 bw
noncomputable def km:FL:=fl "_law_bounds" true (top 20) ["_law_script","_law_called","_law_many","_law_times","_law_drawn","_law_cell","_law_one","_law_other","_law_more"] 2 cT
noncomputable def qf:FL:=fl "_law_sum" true (top 21) ["_law_drawn","_law_way","_law_x","_law_y","_law_found","_law_k","_law_steps"] 4 fS
noncomputable def mK:FL:=fl "_law_keep" true (top 22) ["_law_called","_law_drawn","_law_times","_law_name_here"] 3 eA
noncomputable def mV:FL:=fl "_law_pair" true (top 23) ["_law_net","_law_called","_law_drawn","_law_cell","_law_far","_law_x","_law_y","_law_most","_law_way","_law_times","_law_good"] 5 eR
noncomputable def jm:FL:=fl "_law_refused" true (top 24) ["_law_net","_law_x","_law_y"] 3 bB
noncomputable def eY:FL:=fl "_law_refused_too" true (top 25) ["_law_net","_law_x","_law_y"] 3 ft
noncomputable def mU:FL:=fl "_law_ring" true (top 26) ["_law_net","_law_x","_law_y","_law_most"] 3 eB
noncomputable def l_law:FL:=fl "law" true (top 27) ["_law_script","_law_many","_law_called","_law_net","_law_name_here","_law_drawn","_law_one","_law_other","_law_most","_law_cells","_law_x","_law_stranger","_law_far","_law_cell"] 1 rG
noncomputable def fj:FL:=fl "refuse_unknown" true (top 5) ["edges","x"] 2 aM
noncomputable def rW:FL:=fl "spans" false (top 9) ["edges","x","sums"] 2 iY
noncomputable def jl:FL:={name:="latest",qual:="Net.latest",glob:=false,cl:=false,st:=am (top 14) 11,N:=["self","x","y","far","reached","free","lifts","lift","told","name"],ps:=["self","x","y","far"],body:=bz,df:=[0]}
noncomputable def eK:FL:=fl "_law_refused_too" true (top 25) ["_law_net","_law_x","_law_y"] 3 aH
noncomputable def L:List FL:=[fQ,uT,sK,qG,ug,wN,iL,kC,fc,m8,pC,gT,lC,mi,lK,mn,nR,mM,kF,jn,mh,ml,mZ,km,qf,mK,mV,jm,eY,mU,l_law,fj,rW,jl,eK]
noncomputable def xinT:List (Nat×Nat):=[(2,217822450)]
noncomputable def nm:NM:=⟨["DriftError","NoName","Ring"],["Net"],[],xinT,[31,32,33,34]⟩
noncomputable def xin(i:Nat):Option Nat:=xinT.lookup i
noncomputable def subT:List (List Bool):=[[true,false,false],[true,true,false],[true,false,true]]
noncomputable def sub(i j:Nat):Bool:=(subT.getD i []).getD j false
noncomputable def ksubT:List (List Bool):=[[true]]
noncomputable def ksub(i j:Nat):Bool:=(ksubT.getD i []).getD j false
noncomputable def fokT:List (List Nat):=[[245117675]]
noncomputable def fok(i f:Nat):Bool:=(fokT.getD i []).contains f
noncomputable def mthT:List (List (Nat×Nat)):=[[(27076163554,13),(31083590245,14),(4016813453548,18),(245168109,16),(213610734,9),(31083688174,12),(1915632,10),(7268202314844682992,11),(122623138502931931312882,8),(211318770,17),(31083689204,15)]]
noncomputable def mth(i m:Nat):Option Nat:=(mthT.getD i []).lookup m
noncomputable def z8:List Nat:=[7]
noncomputable def ini(i:Nat):Option Nat:=z8[i]?
noncomputable def gloT:List D:=[]
noncomputable def glo(k:Nat):D:=gloT.getD k .non
noncomputable def twT:List (Nat×Nat):=[(31,0),(32,4),(33,18),(34,28)]
noncomputable def tw(k:Nat):Option Nat:=twT.lookup k
@[simp] theorem vp:tw 33=some 18:=rfl
noncomputable def B(cls kls fad:Nat->Addr):WB:={ne:=3,cls:=cls,sub:=sub,nk:=1,kls:=kls,ksub:=ksub,fok:=fok,mth:=mth,ini:=ini,xin:=xin,glo:=glo,fad:=fad,tw:=tw}
section
variable {cls kls fad:Nat->Addr}
@[simp] theorem Dz:(B cls kls fad).ne=3:=rfl
@[simp] theorem C5:(B cls kls fad).sub=sub:=rfl
@[simp] theorem DM:(B cls kls fad).nk=1:=rfl
@[simp] theorem CV:(B cls kls fad).kls=kls:=rfl
@[simp] theorem Dj:(B cls kls fad).fok=fok:=rfl
@[simp] theorem Db:(B cls kls fad).mth=mth:=rfl
@[simp] theorem C6:(B cls kls fad).ini=ini:=rfl
@[simp] theorem Ds:(B cls kls fad).xin=xin:=rfl
@[simp] theorem Dx:(B cls kls fad).tw=tw:=rfl
end
@[simp] theorem A0:sub 1 1=true:=rfl
@[simp] theorem Bi:sub 2 2=true:=rfl
@[simp] theorem Dl:xin 2=some 217822450:=rfl
@[simp] theorem xV:fok 0 245117675=true:=by decide
@[simp] theorem bL:mth 0 4016813453548=some 18:=by decide
@[simp] theorem eO:mth 0 245168109=some 16:=by decide
@[simp] theorem cR:mth 0 213610734=some 9:=by decide
@[simp] theorem mF:mth 0 31083688174=some 12:=by decide
@[simp] theorem jT:mth 0 1915632=some 10:=by decide
@[simp] theorem cY:mth 0 7268202314844682992=some 11:=by decide
@[simp] theorem cf:mth 0 122623138502931931312882=some 8:=by decide
@[simp] theorem cS:mth 0 211318770=some 17:=by decide
@[simp] theorem mj:mth 0 31083689204=some 15:=by decide
@[simp] theorem CY:ini 0=some 7:=rfl
theorem v8:fnm 217822450=("ring" : Str):=by decide +kernel
noncomputable def T:List FB:=L.map FL.fb
theorem Cw:L.map FL.fb=T:=rfl
section
variable {B:WB}{M:MH}{Q:VK3}{E:XN}{n:Nat}
theorem cz{x0 x1:D}:ac T B (n+1) 0 [x0,x1] M Q E=runF T B n aS [some x0,some x1] M Q E:=propext ⟨λh=>h.2,λh=>⟨rfl,h⟩⟩
theorem uz{x0 x1 x2 x3:D}:ac T B (n+1) 1 [x0,x1,x2,x3] M Q E=runF T B n kU [some x0,some x1,some x2,some x3,none,none,none,none] M Q E:=propext ⟨λh=>h.2,λh=>⟨rfl,h⟩⟩
theorem rL{x0 x1 x2:D}:ac T B (n+1) 2 [x0,x1,x2] M Q E=runF T B n i4 [some x0,some x1,some x2,none,none,none,none] M Q E:=propext ⟨λh=>h.2,λh=>⟨rfl,h⟩⟩
theorem qP{x0 x1:D}:ac T B (n+1) 3 [x0,x1] M Q E=aw {toWB:=B,call:=ac T B n} iH {nx:=λ_ M'=>Q .non M',rt:=λv M'=>Q v M'} (λ_ i M'=>E i (ak M M')) [some x0,some x1,none] M:=propext ⟨λh=>h.2,λh=>⟨rfl,h⟩⟩
theorem vh{x0 x1:D}:ac T B (n+1) 4 [x0,x1] M Q E=aw {toWB:=B,call:=ac T B n} kZ {nx:=λ_ M'=>Q .non M',rt:=λv M'=>Q v M'} (λ_ i M'=>E i (ak M M')) [some x0,some x1,none] M:=propext ⟨λh=>h.2,λh=>⟨rfl,h⟩⟩
theorem kO{x0 x1 x2:D}:ac T B (n+1) 5 [x0,x1,x2] M Q E=aw {toWB:=B,call:=ac T B n} fP {nx:=λ_ M'=>Q .non M',rt:=λv M'=>Q v M'} (λ_ i M'=>E i (ak M M')) [some x0,some x1,some x2,none,none] M:=propext ⟨λh=>h.2,λh=>⟨rfl,h⟩⟩
theorem iV{x0 x1 x2:D}:ac T B (n+1) 6 [x0,x1,x2] M Q E=aw {toWB:=B,call:=ac T B n} bV {nx:=λ_ M'=>Q .non M',rt:=λv M'=>Q v M'} (λ_ i M'=>E i (ak M M')) [some x0,some x1,some x2,none,none,none] M:=propext ⟨λh=>h.2,λh=>⟨rfl,h⟩⟩
theorem ky{x0:D}:ac T B (n+1) 7 [x0] M Q E=aw {toWB:=B,call:=ac T B n} cO {nx:=λ_ M'=>Q .non M',rt:=λv M'=>Q v M'} (λ_ i M'=>E i (ak M M')) [some x0] M:=propext ⟨λh=>h.2,λh=>⟨rfl,h⟩⟩
theorem bZ{x0 x1 x2 x3:D}:ac T B (n+1) 8 [x0,x1,x2,x3] M Q E=runF T B n aC [some x0,some x1,some x2,some x3,none] M Q E:=propext ⟨λh=>h.2,λh=>⟨rfl,h⟩⟩
theorem iS{x0 x1:D}:ac T B (n+1) 9 [x0,x1] M Q E=aw {toWB:=B,call:=ac T B n} cQ {nx:=λ_ M'=>Q .non M',rt:=λv M'=>Q v M'} (λ_ i M'=>E i (ak M M')) [some x0,some x1] M:=propext ⟨λh=>h.2,λh=>⟨rfl,h⟩⟩
theorem dY{x0 x1 x2 x3:D}:ac T B (n+1) 10 [x0,x1,x2,x3] M Q E=aw {toWB:=B,call:=ac T B n} bQ {nx:=λ_ M'=>Q .non M',rt:=λv M'=>Q v M'} (λ_ i M'=>E i (ak M M')) [some x0,some x1,some x2,some x3] M:=propext ⟨λh=>h.2,λh=>⟨rfl,h⟩⟩
theorem cX{x0 x1 x2:D}:ac T B (n+1) 11 [x0,x1,x2] M Q E=runF T B n aU [some x0,some x1,some x2] M Q E:=propext ⟨λh=>h.2,λh=>⟨rfl,h⟩⟩
theorem l7{x0:D}:ac T B (n+1) 12 [x0] M Q E=runF T B n dG [some x0] M Q E:=propext ⟨λh=>h.2,λh=>⟨rfl,h⟩⟩
theorem lI{x0:D}:ac T B (n+1) 15 [x0] M Q E=runF T B n db [some x0,none,none] M Q E:=propext ⟨λh=>h.2,λh=>⟨rfl,h⟩⟩
theorem nU{x0 x1 x2:D}:ac T B (n+1) 16 [x0,x1,x2] M Q E=runF T B n eQ [some x0,some x1,some x2] M Q E:=propext ⟨λh=>h.2,λh=>⟨rfl,h⟩⟩
theorem cM{x0 x1 x2:D}:ac T B (n+1) 17 [x0,x1,x2] M Q E=aw {toWB:=B,call:=ac T B n} br {nx:=λ_ M'=>Q .non M',rt:=λv M'=>Q v M'} (λ_ i M'=>E i (ak M M')) [some x0,some x1,some x2] M:=propext ⟨λh=>h.2,λh=>⟨rfl,h⟩⟩
theorem eV{x0 x1 x2 x3:D}:ac T B (n+1) 18 [x0,x1,x2,x3] M Q E=aw {toWB:=B,call:=ac T B n} bK {nx:=λ_ M'=>Q .non M',rt:=λv M'=>Q v M'} (λ_ i M'=>E i (ak M M')) [some x0,some x1,some x2,some x3,none,none,none,none,none,none] M:=propext ⟨λh=>h.2,λh=>⟨rfl,h⟩⟩
theorem kK{x0 x1 x2:D}:ac T B (n+1) 18 [x0,x1,x2] M Q E=aw {toWB:=B,call:=ac T B n} bK {nx:=λ_ M'=>Q .non M',rt:=λv M'=>Q v M'} (λ_ i M'=>E i (ak M M')) [some x0,some x1,some x2,some (.int 0),none,none,none,none,none,none] M:=propext ⟨λh=>h.2,λh=>⟨rfl,h⟩⟩
theorem ef{x0 x1:D}:ac T B (n+1) 19 [x0,x1] M Q E=runF T B n bA [some x0,some x1] M Q E:=propext ⟨λh=>h.2,λh=>⟨rfl,h⟩⟩
theorem ll{x0:D}:ac T B (n+1) 20 [x0] M Q E=runF T B n dj [some x0] M Q E:=propext ⟨λh=>h.2,λh=>⟨rfl,h⟩⟩
theorem mr{x0 x1:D}:ac T B (n+1) 21 [x0,x1] M Q E=runF T B n dh [some x0,some x1,none] M Q E:=propext ⟨λh=>h.2,λh=>⟨rfl,h⟩⟩
theorem cJ{x0 x1:D}:ac T B (n+1) 22 [x0,x1] M Q E=runF T B n bw [some x0,some x1,none] M Q E:=propext ⟨λh=>h.2,λh=>⟨rfl,h⟩⟩
theorem kS{x0 x1:D}:ac T B (n+1) 23 [x0,x1] M Q E=runF T B n cT [some x0,some x1,none,none,none,none,none,none,none] M Q E:=propext ⟨λh=>h.2,λh=>⟨rfl,h⟩⟩
theorem pZ{x0 x1 x2 x3:D}:ac T B (n+1) 24 [x0,x1,x2,x3] M Q E=runF T B n fS [some x0,some x1,some x2,some x3,none,none,none] M Q E:=propext ⟨λh=>h.2,λh=>⟨rfl,h⟩⟩
theorem mY{x0 x1 x2:D}:ac T B (n+1) 25 [x0,x1,x2] M Q E=runF T B n eA [some x0,some x1,some x2,none] M Q E:=propext ⟨λh=>h.2,λh=>⟨rfl,h⟩⟩
theorem nj{x0 x1 x2 x3 x4:D}:ac T B (n+1) 26 [x0,x1,x2,x3,x4] M Q E=runF T B n eR [some x0,some x1,some x2,some x3,some x4,none,none,none,none,none,none] M Q E:=propext ⟨λh=>h.2,λh=>⟨rfl,h⟩⟩
theorem jp{x0 x1 x2:D}:ac T B (n+1) 27 [x0,x1,x2] M Q E=runF T B n bB [some x0,some x1,some x2] M Q E:=propext ⟨λh=>h.2,λh=>⟨rfl,h⟩⟩
theorem nh{x0 x1 x2:D}:ac T B (n+1) 29 [x0,x1,x2] M Q E=runF T B n eB [some x0,some x1,some x2,none] M Q E:=propext ⟨λh=>h.2,λh=>⟨rfl,h⟩⟩
theorem AG{x0:D}:ac T B (n+1) 30 [x0] M Q E=runF T B n rG [some x0,none,none,none,none,none,none,none,none,none,none,none,none,none] M Q E:=propext ⟨λh=>h.2,λh=>⟨rfl,h⟩⟩
theorem bY{x0 x1:D}:ac T B (n+1) 31 [x0,x1] M Q E=runF T B n aM [some x0,some x1] M Q E:=propext ⟨λh=>h.2,λh=>⟨rfl,h⟩⟩
theorem sD{x0 x1:D}:ac T B (n+1) 32 [x0,x1] M Q E=aw {toWB:=B,call:=ac T B n} iY {nx:=λ_ M'=>Q .non M',rt:=λv M'=>Q v M'} (λ_ i M'=>E i (ak M M')) [some x0,some x1,none] M:=propext ⟨λh=>h.2,λh=>⟨rfl,h⟩⟩
theorem d7{x0 x1 x2 x3:D}:ac T B (n+1) 33 [x0,x1,x2,x3] M Q E=aw {toWB:=B,call:=ac T B n} bz {nx:=λ_ M'=>Q .non M',rt:=λv M'=>Q v M'} (λ_ i M'=>E i (ak M M')) [some x0,some x1,some x2,some x3,none,none,none,none,none,none] M:=propext ⟨λh=>h.2,λh=>⟨rfl,h⟩⟩
theorem bW{x0 x1 x2:D}:ac T B (n+1) 34 [x0,x1,x2] M Q E=runF T B n aH [some x0,some x1,some x2] M Q E:=propext ⟨λh=>h.2,λh=>⟨rfl,h⟩⟩
end
theorem top_mk{P:Params}{h:Heap}{mg:Str->Option Value}(X:(HD.K P).In h)(Gn:h.Ns mainGlobals mg)
  {h2:Addr}{xod2 xan2:Option Addr}{xsl2:Array (Option Value)}{xoc2 xkV2 xdc2 xpm2 xcd2 xct2:Value}
  (x2:cr (HD.K P) 56=true)
  (xi2:PySem.W.findIn (HD.K P) (.ref 56) "__init__"=some (some (.ref h2)))
  (xl2:(HD.K P).lookup h2=some ⟨xoc2,xod2,.func (PySem.W.fnOf "__init__" "Ring.__init__" (ba (am (top 3) 0)) (ax (am (top 3) 0)) (aq (am (top 3) 0)) .none xkV2 xdc2 xpm2 xan2 xcd2 xct2),xsl2⟩)
  {xtx2:Str}{xj2:Nat}{xpx2 xap2 xp12 xp22 xcp2 xp32 xp42 xp52 xp62 xp72 xp82 xp92:Pos}
  (xw2:ax (am (top 3) 0)=[.Expr (.Call (.Attribute (.Name "DriftError" xpx2) "__init__" xap2) [.Name "self" xp12,.Constant (.str xtx2) xj2 xp22] [] xcp2) xp32,.Assign [.Attribute (.Name "self" xp42) "ring" xp52] (.Call (.Name "list" xp82) [.Name "ring" xp62] [] xp92) xp72])
  (xz2:qM "self" "ring" "DriftError" (aq (am (top 3) 0)) xap2 xcp2=true)
  (xd2:PySem.W.codeIn (HD.K P) xcd2 "Ring.__init__"=true)
  (xk2:PySem.W.keepIn (HD.K P) (.ref h2)=true)
  (xt2:PySem.W.typeIn (HD.K P) (.ref h2)=some (.type "function"))
  : ∃cls kls fad,Top P (HD.K P) mg L nm (B cls kls fad):=by
 refine⟨λi=>([24,37,56]:List Nat).getD i 0,λi=>([200]:List Nat).getD i 0,λi=>([65,72,79,86,93,100,105,119,126,133,140,147,154,161,168,175,182,189,197,211,218,225,232,237,242,247,254,261,268,275,280,65,93,197,268]:List Nat).getD i 0,Top.of (fT:=fokT) (mT:=mthT) (iT:=z8) X Gn (by kernel_rfl) (by kernel_rfl) (by kernel_rfl) (ixc (n2 (by intros;rfl)) (ixc (n4 (by intros;rfl)) (ixc (n3 (by intros;rfl)) (ixc (n2 (by intros;rfl)) (ixc (n2 (by intros;rfl)) (ixc (n3 (by intros;rfl)) (ixc (n3 (by intros;rfl)) (ixc (n1 (by intros;rfl)) (ixc (n4 (by intros;rfl)) (ixc (n2 (by intros;rfl)) (ixc (n4 (by intros;rfl)) (ixc (n3 (by intros;rfl)) (ixc (n1 (by intros;rfl)) (ixc (n3 (by intros;rfl)) (ixc (n1 (by intros;rfl)) (ixc (n1 (by intros;rfl)) (ixc (n3 (by intros;rfl)) (ixc (n3 (by intros;rfl)) (ixc (n4 (by intros;rfl)) (ixc (n2 (by intros;rfl)) (ixc (n1 (by intros;rfl)) (ixc (n2 (by intros;rfl)) (ixc (n2 (by intros;rfl)) (ixc (n2 (by intros;rfl)) (ixc (n4 (by intros;rfl)) (ixc (n3 (by intros;rfl)) (ixc (n5 (by intros;rfl)) (ixc (n3 (by intros;rfl)) (ixc (n3 (by intros;rfl)) (ixc (n3 (by intros;rfl)) (ixc (n1 (by intros;rfl)) (ixc (n2 (by intros;rfl)) (ixc (n2 (by intros;rfl)) (ixc (n4 (by intros;rfl)) (ixc (n3 (by intros;rfl)) (ixn)))))))))))))))))))))))))))))))))))) (by kernel_rfl) (by kernel_rfl) (by kernel_rfl) (by kernel_rfl) (λ_ _=>rfl) (λ_ _=>rfl) (λ_=>rfl) (by kernel_rfl) ?_ ?_ ?_ (v7 18 33 rfl rfl (by kernel_rfl) (df1 (i:=0) (t:=433) (by kernel_rfl) (λus hu=>match us,hu with|[_,_,_],_=>λS=>by kernel_rfl) (λus hu=>match us,hu with|[_,_,_,_],_=>λS=>by kernel_rfl))) (wc (by kernel_rfl)) (wB (t:=twT) (λ_=>rfl) (by kernel_rfl))⟩
 ·intro k x hi;simp[nm]at hi
 ·intro i f hx;have hx:=bp (show [(2,217822450)].lookup i=some f from hx);simp only[DX,Prod.mk.injEq,E4,or_false]at hx;rcases hx with ⟨rfl,rfl⟩
  ·refine⟨rfl,h2,_,["self","ring"],?_,.all ((yi (st:=am (top 3) 0) xl2 xd2 xk2).bindsE λ_ _ _ _ _ _=>usS λ_=>usS λ_=>us0 rfl),λP w base=>?_⟩<;>rw[v8]
   ·exact⟨x2,xi2,xt2,by kernel_rfl,by kernel_rfl,by kernel_rfl,by kernel_rfl,by kernel_rfl⟩
   ·exact uw xw2 xz2 xl2 xd2 (by kernel_rfl) (PySem.W.mg_none_of X Gn (by kernel_rfl)) (PySem.W.mg_of X Gn (v:=.ref 24) (by kernel_rfl)) ⟨by kernel_rfl,by kernel_rfl,by kernel_rfl⟩ ⟨x2,xi2,xt2,by kernel_rfl,by kernel_rfl,by kernel_rfl,by kernel_rfl,by kernel_rfl⟩
 ·intro i f hi hx;have hx:=bp (show [(2,217822450)].lookup i=some f from hx);simp only[DX,Prod.mk.injEq,E4,or_false]at hx;rcases hx with ⟨rfl,rfl⟩
  ·show PySem.W.findIn (HD.K P) (.ref 56) (fnm 217822450)=some none
   kernel_rfl
end G
namespace G
open L2
section
noncomputable abbrev Nm:=List Int
noncomputable def lk{α:Type}:List (Nm×α)->Nm->Option α
 |[],_=>none
 |(q,u)::r,k=>if q=k then some u else lk r k
noncomputable def ins{α:Type}:List (Nm×α)->Nm->α->List (Nm×α)
 |[],k,v=>[(k,v)]
 |(q,u)::r,k,v=>if q=k then (q,v)::r else (q,u)::ins r k v
noncomputable abbrev K1{α:Type}(l:List (Nm×α)):List Nm:=l.map Prod.fst
theorem aE{α:Type}{k q:Nm}{v:α}:∀{l:List (Nm×α)},lk (ins l k v) q=if k=q then some v else lk l q
 |[]=>by simp[ins,lk]
 |(a,u)::r=>by
  simp only[ins];by_cases h:a=k
  ·subst h;simp only[if_true,lk];split<;>rfl
  ·simp only[DV h,lk];by_cases h2:a=q
   ·subst h2;rw[DY rfl,DV (Ea h),DY rfl]
   ·rw[DV h2,DV h2];exact aE
theorem kM{α:Type}{k:Nm}{v:α}:∀{l:List (Nm×α)},lk l k=some v->(k,v)∈l
 |[],h=>by cases h
 |(a,u)::r,h=>by
  simp only[lk]at h;split at h
  ·rename_i e;subst e;cases h;exact DW
  ·exact DT _ (kM h)
theorem oM{α:Type}{k:Nm}{v:α}:∀{l:List (Nm×α)},(K1 l).Nodup->(k,v)∈l->lk l k=some v
 |[],_,h=>by cases h
 |(a,u)::r,hn,h=>by
  simp only[K1,D4,EE]at hn;simp only[lk];rcases DX.mp h with e|h
  ·cases e;rw[DY rfl]
  ·rw[DV (λz=>hn.1 (by rw[z];exact EB.mpr ⟨_,h,rfl⟩))]
   exact oM hn.2 h
theorem lk_key{α:Type}{k:Nm}:∀{l:List (Nm×α)},k∈K1 l<->(lk l k).isSome=true
 |[]=>by simp[K1,lk]
 |(a,u)::r=>by
  have ih:=lk_key (k:=k) (l:=r);simp only[K1,D4,DX,lk]at ih ⊢;by_cases h:a=k
  ·simp[h]
  ·rw[DV h,<-ih];simp[Ea h]
theorem nF{α:Type}{k:Nm}{v:α}:∀{l:List (Nm×α)},K1 (ins l k v)=if k∈K1 l then K1 l else K1 l++[k]
 |[]=>by simp[ins,K1]
 |(a,u)::r=>by
  have ih:=nF (k:=k) (v:=v) (l:=r);simp only[ins];by_cases h:a=k
  ·subst h;simp[K1]
  ·rw[DV h];simp only[K1,D4,DX,Ea h,false_or]at ih ⊢;rw[ih];by_cases z:k∈List.map Prod.fst r
   ·rw[DY z,DY z]
   ·rw[DV z,DV z];rfl
theorem m9{α:Type}{k:Nm}{v:α}{l:List (Nm×α)}(h:(K1 l).Nodup):(K1 (ins l k v)).Nodup:=by
 rw[nF];split
 ·exact h
 ·rename_i z;rw[List.nodup_append];exact⟨h,by simp,λa ha b hb=>by rw[Eh.mp hb];exact λe=>z (e▸ha)⟩
theorem dX{α:Type}(f:α->D){k:Nm}:∀{l:List (Nm×α)},getD (K1 l) (l.map λp=>f p.2) k=(lk l k).map f
 |[]=>by simp[K1,getD,lk]
 |(a,u)::r=>by
  have ih:=dX f (k:=k) (l:=r);simp only[K1,D4,getD,lk]at ih ⊢;split
  ·rfl
  ·exact ih
theorem lQ{α:Type}{k:Nm}{v:α}:∀{l:List (Nm×α)},ai (K1 l) k=K1 (ins l k v)
 |[]=>by simp[K1,ai,ins]
 |(a,u)::r=>by
  have ih:=lQ (k:=k) (v:=v) (l:=r);simp only[K1,D4,ai,ins]at ih ⊢;split
  ·simp
  ·simp[ih]
theorem mC{α:Type}(f:α->D){k:Nm}{v:α}:∀{l:List (Nm×α)},aR (K1 l) (l.map λp=>f p.2) k (f v)=(ins l k v).map λp=>f p.2
 |[]=>by simp[K1,aR,ins]
 |(a,u)::r=>by
  have ih:=mC f (k:=k) (v:=v) (l:=r);simp only[K1,D4,aR,ins]at ih ⊢;split
  ·simp
  ·simp[ih]
theorem gB:∀{l k:List Nm},l.Nodup->(∀x∈l,x∈k)->l.length<=k.length
 |[],_,_,_=>Nat.zero_le _
 |a::l,k,hn,hs=>by
  rw[EE]at hn;have h1:a∈k:=hs a DW;have h2:l.length<=(k.erase a).length:=gB hn.2 λx hx=>(List.mem_erase_of_ne (λe:x=a=>hn.1 (by rw[<-e];exact hx))).mpr (hs x (DT _ hx))
  rw[List.length_erase_of_mem h1]at h2;have:0<k.length:=List.length_pos_of_mem h1;simp only[Em];omega
structure Nt where
 ks:List Nm
 row:Nm->List (Nm×Int)
def Ed(N:Nt)(x y:Nm)(w:Int):Prop:=x∈N.ks/\(y,w)∈N.row x
structure WN (N:Nt):Prop where
 nd:N.ks.Nodup
 row:∀x∈N.ks,(K1 (N.row x)).Nodup/\∀e∈N.row x,e.1∈N.ks/\e.1≠x
inductive Wk (N:Nt) (x:Nm):Nm->Int->Prop where
 |nil:Wk N x x 0
 |snoc {y z:Nm}{v w:Int} (h:Wk N x y v) (e:Ed N y z w):Wk N x z (v+w)
def Pot(N:Nt)(p:Nm->Int):Prop:=∀x y w,Ed N x y w->p y-p x<=w
theorem Wk.pot{N:Nt}{p:Nm->Int}{x y:Nm}{v:Int}(hp:Pot N p)(h:Wk N x y v):p y-p x<=v:=by
 induction h with
 |nil=>omega
 |snoc _ e ih=>have:=hp _ _ _ e;omega
def IsD(N:Nt)(x y:Nm):Option Int->Prop
 |some d=>Wk N x y d/\∀v,Wk N x y v->d<=v
 |none=>∀v,¬ Wk N x y v
theorem IsD.uniq{N:Nt}{x y:Nm}{a b:Option Int}(h:IsD N x y a)(g:IsD N x y b):a=b:=by
 cases a with
 |none=>
  cases b with
  |none=>rfl
  |some v=>exact absurd g.1 (h v)
 |some u=>
  cases b with
  |none=>exact absurd h.1 (g u)
  |some v=>have:=h.2 v g.1;have:=g.2 u h.1;congr 1;omega
structure SB where
 S:List (Nm×Int)
 B:List (Nm×Nm)
noncomputable def gS(S:List (Nm×Int))(y:Nm)(t:Int):Bool:=match lk S y with
 |none=>true
 |some v=>decide (t<v)
noncomputable def rl(x:Nm)(st:SB×List Nm)(e:Nm×Int):SB×List Nm:=match lk st.1.S x with
 |none=>st
 |some u=>if gS st.1.S e.1 (u+e.2)=true then (⟨ins st.1.S e.1 (u+e.2),ins st.1.B e.1 x⟩,st.2++[e.1]) else st
noncomputable def goF(x:Nm)(row:List (Nm×Int))(st:SB):SB×List Nm:=row.foldl (rl x) (st,[])
inductive Ends (B:List (Nm×Nm)):Nm->Nat->Prop where
 |nil {y:Nm} (h:lk B y=none):Ends B y 0
 |step {y x:Nm}{m:Nat} (h:lk B y=some x) (e:Ends B x m):Ends B y (m+1)
theorem Ends.fn{B:List (Nm×Nm)}{y:Nm}{m k:Nat}(h:Ends B y m)(g:Ends B y k):m=k:=by
 induction h generalizing k with
 |nil h=>
  cases g with
  |nil=>rfl
  |step h' _=>rw[h]at h';cases h'
 |step h _ ih=>
  cases g with
  |nil h'=>rw[h]at h';cases h'
  |step h' e=>rw[h]at h';cases h';rw[ih e]
theorem Ends.le{B:List (Nm×Nm)}:∀{y:Nm}{m:Nat},Ends B y m->m<=(K1 B).length:=λ{y m} h=>by
 have key:∀{y:Nm}{m:Nat},Ends B y m->∃l:List Nm,l.length=m/\l.Nodup/\(∀z∈l,z∈K1 B)/\∀z∈l,∃k,k<=m/\0<k/\Ends B z k:=by
  intro y m h
  induction h with
  |nil=>exact⟨[],rfl,.nil,(λ_ h=>by cases h),(λ_ h=>by cases h)⟩
  |@step y x m h e ih=>
   obtain⟨l,l1,l2,l3,l4⟩:=ih;have hy:Ends B y (m+1):=.step h e;refine⟨y::l,by simp[l1],EE.mpr ⟨λhm=>?_,l2⟩,λz hz=>?_,λz hz=>?_⟩
   ·obtain⟨k,k1,_,k2⟩:=l4 y hm;have:=hy.fn k2;omega
   ·rcases DX.mp hz with rfl|hz
    ·exact lk_key.mpr (by rw[h];rfl)
    ·exact l3 z hz
   ·rcases DX.mp hz with rfl|hz
    ·exact⟨m+1,DZ _,EL _,hy⟩
    ·obtain⟨k,k1,k0,k2⟩:=l4 z hz;exact⟨k,by omega,k0,k2⟩
 obtain⟨l,l1,l2,l3,_⟩:=key h;rw[<-l1];exact gB l2 l3
def Wx(N:Nt)(X:List Nm)(y:Nm)(v:Int):Prop:=∃x∈X,Wk N x y v
structure J (N:Nt)(X:List Nm)(pend:Nm->Prop)(s:SB):Prop where
 k:∀y v,lk s.S y=some v->y∈N.ks/\Wx N X y v
 nd:(K1 s.S).Nodup
 s0:∀x∈X,∃u,lk s.S x=some u/\u<=0
 pd:∀z,pend z->(lk s.S z).isSome=true
 rel:∀x u,lk s.S x=some u->¬ pend x->∀y w,(y,w)∈N.row x->∃v,lk s.S y=some v/\v<=u+w
 b:∀y x,lk s.B y=some x->∃v u w,lk s.S y=some v/\lk s.S x=some u/\(y,w)∈N.row x/\x∈N.ks/\u+w<=v
 en:∀y,∃m,Ends s.B y m
 bn:(K1 s.B).Nodup
 hb:∀y v,lk s.S y=some v->y∈X\/(lk s.B y).isSome=true
 b0:∀y∈X,(lk s.B y).isSome=true->∃v,lk s.S y=some v/\v<0
theorem tq{B:List (Nm×Nm)}{y x:Nm}(he:∀z,∃m,Ends B z m)(hx:∃m,Ends (ins B y x) x m):∀z,∃m,Ends (ins B y x) z m:=λz=>by
 obtain⟨m,hm⟩:=he z
 induction hm with
 |@nil z h=>
  by_cases e:y=z
  ·subst e;obtain⟨k,hk⟩:=hx;exact⟨k+1,.step (by rw[aE,DY rfl]) hk⟩
  ·exact⟨0,.nil (by rw[aE,DV e];exact h)⟩
 |@step z z' m h _ ih=>
  by_cases e:y=z
  ·subst e;obtain⟨k,hk⟩:=hx;exact⟨k+1,.step (by rw[aE,DY rfl]) hk⟩
  ·obtain⟨k,hk⟩:=ih;exact⟨k+1,.step (by rw[aE,DV e];exact h) hk⟩
variable {N:Nt}{X:List Nm}{p:Nm->Int}
theorem J.low{pend:Nm->Prop}{s:SB}{x y:Nm}{w u:Int}(W:WN N)(hp:Pot N p)(I:J N X pend s)(hx:lk s.S x=some u)(he:(y,w)∈N.row x)(hl:gS s.S y (u+w)=true) :
  J N X (λz=>pend z\/z=y) ⟨ins s.S y (u+w),ins s.B y x⟩:=by
 obtain⟨xk,xw⟩:=I.k x u hx;obtain⟨yk,yx⟩:=(W.row x xk).2 _ he;have wy:Wx N X y (u+w):=by obtain⟨q,hq,xw⟩:=xw;exact⟨q,hq,xw.snoc ⟨xk,he⟩⟩
 have old:∀v,lk s.S y=some v->u+w<v:=λv hv=>by
  unfold gS at hl;rw[hv]at hl;simpa using hl
 have mono:∀z v,lk s.S z=some v->∃v',lk (ins s.S y (u+w)) z=some v'/\v'<=v:=λz v hv=>by
  rw[aE];by_cases e:y=z
  ·subst e;rw[DY rfl];exact⟨_,rfl,by have:=old v hv;omega⟩
  ·rw[DV e];exact⟨v,hv,by omega⟩
 refine⟨λz v hz=>?_,m9 I.nd,?_,λz hz=>?_,λz v hz hnp a c hac=>?_,λz q hzq=>?_,tq I.en ?_,m9 I.bn,λz v hz=>?_,λz hz hB=>?_⟩
 ·rw[aE]at hz;split at hz
  ·rename_i e;subst e;cases hz;exact⟨yk,wy⟩
  ·exact I.k z v hz
 ·intro q hq;obtain⟨v,v1,v2⟩:=I.s0 q hq;obtain⟨v',v3,v4⟩:=mono q v v1;exact⟨v',v3,by omega⟩
 ·rcases hz with hz|rfl
  ·obtain⟨v,hv⟩:=En.mp (I.pd z hz);obtain⟨v',hv',_⟩:=mono z v hv;rw[hv'];rfl
  ·show (lk (ins s.S z (u+w)) z).isSome=true;rw[aE,DY rfl];rfl
 ·have ey:y≠z:=λe=>hnp (.inr e.symm)
  have hz':lk (ins s.S y (u+w)) z=some v:=hz;rw[aE,DV ey]at hz';obtain⟨t,t1,t2⟩:=I.rel z v hz' (λq=>hnp (.inl q)) a c hac
  obtain⟨t',t3,t4⟩:=mono a t t1;exact⟨t',t3,by omega⟩
 ·have hzq':lk (ins s.B y x) z=some q:=hzq;rw[aE]at hzq';split at hzq'
  ·rename_i e;subst e;cases hzq';refine⟨u+w,u,w,by show lk (ins s.S y (u+w)) y=_;rw[aE,DY rfl],?_,he,xk,by omega⟩
   show lk (ins s.S y (u+w)) x=_;rw[aE,DV yx];exact hx
  ·rename_i e;obtain⟨v,r,c,c1,c2,c3,c4,c5⟩:=I.b z q hzq';obtain⟨r',r1,r2⟩:=mono q r c2;refine⟨v,r',c,?_,r1,c3,c4,by omega⟩
   show lk (ins s.S y (u+w)) z=_;rw[aE,DV e];exact c1
 ·-- from x the chain does not come to y
  have key:∀z m,Ends s.B z m->∀v,lk s.S z=some v->(∀t,lk s.S y=some t->v-p z<t-p y)->∃m,Ends (ins s.B y x) z m:=by
   intro z m hm
   induction hm with
   |@nil z h=>
    intro v hv hlt;have e:y≠z:=λe=>by subst e;have:=hlt v hv;omega
    exact⟨0,.nil (by rw[aE,DV e];exact h)⟩
   |@step z z' m h _ ih=>
    intro v hv hlt;have e:y≠z:=λe=>by subst e;have:=hlt v hv;omega
    obtain⟨v1,r,c,c1,c2,c3,c4,c5⟩:=I.b z z' h;rw[hv]at c1;cases c1;have pp:=hp z' z c ⟨c4,c3⟩;obtain⟨k,hk⟩:=ih r c2 λt ht=>by have:=hlt t ht;omega
    exact⟨k+1,.step (by rw[aE,DV e];exact h) hk⟩
  obtain⟨m,hm⟩:=I.en x;refine key x m hm u hx λt ht=>?_
  have h1:=old t ht;have h2:=hp x y w ⟨xk,he⟩;omega
 ·have hz':lk (ins s.S y (u+w)) z=some v:=hz;show z∈X\/(lk (ins s.B y x) z).isSome=true;rw[aE]at hz' ⊢;by_cases e:y=z
  ·right;rw[DY e];rfl
  ·rw[DV e]at hz' ⊢;exact I.hb z v hz'
 ·obtain⟨v,v1,v2⟩:=I.s0 z hz;have hB':(lk (ins s.B y x) z).isSome=true:=hB;show ∃v,lk (ins s.S y (u+w)) z=some v/\v<0;rw[aE]at hB' ⊢;by_cases e:y=z
  ·subst e;rw[DY rfl];exact⟨_,rfl,by have:=old v v1;omega⟩
  ·rw[DV e]at hB' ⊢;exact I.b0 z hz hB'
end
section
variable {N:Nt}{X:List Nm}{p:Nm->Int}
theorem J.mono{P P':Nm->Prop}{s:SB}(I:J N X P s)(h:∀z,P z->P' z)(h':∀z,P' z->(lk s.S z).isSome=true):J N X P' s:=
 ⟨I.k,I.nd,I.s0,h',λx u hx hn=>I.rel x u hx λz=>hn (h x z),I.b,I.en,I.bn,I.hb,I.b0⟩
noncomputable def mx(p:Nm->Int)(X:List Nm):Int:=X.foldr (λx a=>max (p x) a) 0
theorem vq:∀{X:List Nm}{x:Nm},x∈X->p x<=mx p X
 |y::X,x,h=>by
  simp only[mx,List.foldr_cons];rcases DX.mp h with rfl|h
  ·omega
  ·have:=vq h;unfold mx at this;omega
theorem Wx.pot{y:Nm}{v:Int}(hp:Pot N p)(h:Wx N X y v):p y-mx p X<=v:=by
 obtain⟨x,hx,h⟩:=h;have:=h.pot hp;have:=vq (p:=p) hx;omega
theorem Wx.snoc{y z:Nm}{v w:Int}(h:Wx N X y v)(e:Ed N y z w):Wx N X z (v+w):=by
 obtain⟨x,hx,h⟩:=h;exact⟨x,hx,h.snoc e⟩
noncomputable def gI(p:Nm->Int)(X:List Nm):List (Nm×Int)->Nat
 |[]=>0
 |(y,v)::r=>(v-(p y-mx p X)).toNat+gI p X r
theorem jV{y:Nm}{t v:Int}:∀{S:List (Nm×Int)},lk S y=some v->gI p X (ins S y t)+(v-(p y-mx p X)).toNat=gI p X S+(t-(p y-mx p X)).toNat
 |[],h=>by cases h
 |(q,u)::r,h=>by
  simp only[lk]at h;simp only[ins];split at h
  ·rename_i e;subst e;cases h;rw[DY rfl];simp only[gI];omega
  ·rename_i e;rw[DV e];have:=jV (y:=y) (t:=t) (v:=v) (S:=r) h;simp only[gI];omega
theorem ins_len{α:Type}{k:Nm}{v:α}{l:List (Nm×α)}:(ins l k v).length=if k∈K1 l then l.length else l.length+1:=by
 have h:=congrArg List.length (nF (k:=k) (v:=v) (l:=l));simp only[D5]at h;rw[h];split<;>simp
def Lt(N:Nt)(p:Nm->Int)(X:List Nm)(a b:SB):Prop:=Prod.Lex (· < ·) (· < ·) (N.ks.length-a.S.length,gI p X a.S) (N.ks.length-b.S.length,gI p X b.S)
theorem Lt.trans{a b c:SB}(h:Lt N p X a b)(g:Lt N p X b c):Lt N p X a c:=by
 unfold Lt at *
 rw[Prod.lex_def]at *
 simp only at *
 omega
theorem vR{pend:Nm->Prop}{s:SB}{y x:Nm}{t:Int}(hp:Pot N p)(I:J N X pend s)(yk:y∈N.ks)(wy:Wx N X y t)(hl:gS s.S y t=true):Lt N p X ⟨ins s.S y t,ins s.B y x⟩ s:=by
 unfold Lt;rw[Prod.lex_def];simp only;rw[ins_len];cases h:lk s.S y with
 |none=>
  have hn:y∉K1 s.S:=λz=>by rw[lk_key,h]at z;cases z
  rw[DV hn];left;have:(y::K1 s.S).length<=N.ks.length:=gB (EE.mpr ⟨hn,I.nd⟩) λz hz=>by
   rcases DX.mp hz with rfl|hz
   ·exact yk
   ·obtain⟨v,hv⟩:=En.mp (lk_key.mp hz);exact (I.k z v hv).1
  simp only[Em,D5]at this;omega
 |some v=>
  have hm:y∈K1 s.S:=lk_key.mpr (by rw[h];rfl)
  rw[DY hm];right;refine⟨rfl,?_⟩;have e:=jV (p:=p) (X:=X) (t:=t) h;have h1:=wy.pot hp;unfold gS at hl;rw[h]at hl;have hl:t<v:=by simpa using hl
  omega
theorem nv{pend:Nm->Prop}(W:WN N)(hp:Pot N p){x:Nm}{u:Int}(xk:x∈N.ks):∀(post pre:List (Nm×Int)) (s:SB)(fl:List Nm),N.row x=pre++post->J N X (λz=>pend z\/z∈fl) s->lk s.S x=some u->(∀e∈pre,∃v,lk s.S e.1=some v/\v<=u+e.2)->
  J N X (λz=>pend z\/z∈(post.foldl (rl x) (s,fl)).2) (post.foldl (rl x) (s,fl)).1/\lk (post.foldl (rl x) (s,fl)).1.S x=some u/\(∀e∈pre++post,∃v,lk (post.foldl (rl x) (s,fl)).1.S e.1=some v/\v<=u+e.2)/\
  (∀z∈fl,z∈(post.foldl (rl x) (s,fl)).2)/\(post.foldl (rl x) (s,fl)=(s,fl)\/Lt N p X (post.foldl (rl x) (s,fl)).1 s)
 |[],pre,s,fl,_,I,hx,hpre=>⟨I,hx,by simpa using hpre,λz hz=>hz,.inl rfl⟩
 |(y,w)::post,pre,s,fl,e,I,hx,hpre=>by
  have he:(y,w)∈N.row x:=by rw[e];simp
  rw[List.foldl_cons];by_cases hl:gS s.S y (u+w)=true
  ·have hr:rl x (s,fl) (y,w)=(⟨ins s.S y (u+w),ins s.B y x⟩,fl++[y]):=by
    unfold rl;simp only[hx,hl,if_true]
   rw[hr];have I':=I.low W hp hx he hl;have hyx:y≠x:=((W.row x xk).2 _ he).2;have old:∀v,lk s.S y=some v->u+w<v:=λv hv=>by
    unfold gS at hl;rw[hv]at hl;simpa using hl
   obtain⟨a1,a2,a3,a4,a5⟩:=nv W hp xk post (pre++[(y,w)]) _ (fl++[y]) (by rw[e];simp) (I'.mono (P':=λz=>pend z\/z∈fl++[y]) (λz hz=>by
     rcases hz with (h|h)|h
     ·exact .inl h
     ·exact .inr (by simp[h])
     ·exact .inr (by simp[h])) λz hz=>I'.pd z (by
     rcases hz with h|h
     ·exact .inl (.inl h)
     ·rcases Eo.mp h with h|h
      ·exact .inl (.inr h)
      ·exact .inr (Eh.mp h))) (by show lk (ins s.S y (u+w)) x=_;rw[aE,DV hyx];exact hx) (λq hq=>by
     show ∃v,lk (ins s.S y (u+w)) q.1=some v/\_;rw[aE];by_cases ey:y=q.1
     ·rw[DY ey];refine⟨u+w,rfl,?_⟩;rcases Eo.mp hq with h|h
      ·obtain⟨v,v1,v2⟩:=hpre q h;rw[<-ey]at v1;have:=old v v1;omega
      ·rw[Eh.mp h];exact Int.le_refl _
     ·rw[DV ey];rcases Eo.mp hq with h|h
      ·exact hpre q h
      ·rw[Eh.mp h]at ey;exact absurd rfl ey)
   refine⟨a1,a2,by simpa using a3,λz hz=>a4 z (by simp[hz]),.inr ?_⟩
   have l1:Lt N p X ⟨ins s.S y (u+w),ins s.B y x⟩ s:=vR hp I ((W.row x xk).2 _ he).1 (Wx.snoc (I.k x u hx).2 ⟨xk,he⟩) hl;rcases a5 with a5|a5
   ·rw[a5];exact l1
   ·exact a5.trans l1
  ·have hr:rl x (s,fl) (y,w)=(s,fl):=by
    unfold rl;simp only[hx];rw[DV hl]
   rw[hr];obtain⟨a1,a2,a3,a4,a5⟩:=nv W hp xk post (pre++[(y,w)]) s fl (by rw[e];simp) I hx (λq hq=>by
     rcases Eo.mp hq with h|h
     ·exact hpre q h
     ·rw[Eh.mp h];unfold gS at hl;cases hv:lk s.S y with
      |none=>rw[hv]at hl;exact absurd rfl hl
      |some v=>
       rw[hv]at hl;have hl:¬ u+w<v:=by simpa using hl
       exact⟨v,rfl,by omega⟩)
   exact⟨a1,a2,by simpa using a3,a4,a5⟩
theorem put1_mem{k z:Nm}:∀{l:List Nm},z∈ai l k<->z=k\/z∈l
 |[]=>by simp[ai]
 |a::l=>by
  simp only[ai];by_cases h:a=k
  ·subst h;simp
  ·rw[DV h,DX,put1_mem (l:=l),DX];constructor
   ·rintro (h|h|h)
    ·exact .inr (.inl h)
    ·exact .inl h
    ·exact .inr (.inr h)
   ·rintro (h|h|h)
    ·exact .inr (.inl h)
    ·exact .inl h
    ·exact .inr (.inr h)
theorem puts_mem{z:Nm}:∀{fl ag:List Nm},z∈fl.foldl ai ag<->z∈fl\/z∈ag
 |[],ag=>by simp
 |a::fl,ag=>by
  rw[List.foldl_cons,puts_mem (fl:=fl),put1_mem,DX];constructor
  ·rintro (h|h|h)
   ·exact .inl (.inr h)
   ·exact .inl (.inl h)
   ·exact .inr h
  ·rintro ((h|h)|h)
   ·exact .inr (.inl h)
   ·exact .inl h
   ·exact .inr (.inr h)
noncomputable def eJ(N:Nt)(st:SB×List Nm)(x:Nm):SB×List Nm:=((goF x (N.row x) st.1).1,(goF x (N.row x) st.1).2.foldl ai st.2)
theorem lG(W:WN N)(hp:Pot N p){x:Nm}{fs:List Nm}{s:SB}{ag:List Nm}(I:J N X (λz=>z∈x::fs\/z∈ag) s) :
  J N X (λz=>z∈fs\/z∈(eJ N (s,ag) x).2) (eJ N (s,ag) x).1/\(eJ N (s,ag) x=(s,ag)\/Lt N p X (eJ N (s,ag) x).1 s):=by
 obtain⟨u,hu⟩:=En.mp (I.pd x (.inl DW));have xk:=(I.k x u hu).1;obtain⟨a1,a2,a3,_,a5⟩:=nv (pend:=λz=>z∈x::fs\/z∈ag) W hp xk (N.row x) [] s [] rfl (I.mono (λz hz=>.inl hz) λz hz=>I.pd z (by simpa using hz)) hu (λ_ h=>by cases h)
 have hs:eJ N (s,ag) x=(((N.row x).foldl (rl x) (s,[])).1,((N.row x).foldl (rl x) (s,[])).2.foldl ai ag):=rfl;rw[hs];generalize (N.row x).foldl (rl x) (s,[])=r at a1 a2 a3 a5;refine⟨⟨a1.k,a1.nd,a1.s0,λz hz=>a1.pd z ?_,λz v hz hn y w hy=>?_,a1.b,a1.en,a1.bn,a1.hb,a1.b0⟩,?_⟩
 ·rcases hz with h|h
  ·exact .inl (.inl (DT _ h))
  ·rcases puts_mem.mp h with h|h
   ·exact .inr h
   ·exact .inl (.inr h)
 ·by_cases e:z=x
  ·subst e;rw[a2]at hz;cases hz;exact a3 (y,w) (by simpa using hy)
  ·refine a1.rel z v hz (λq=>hn ?_) y w hy
   rcases q with (q|q)|q
   ·rcases DX.mp q with q|q
    ·exact absurd q e
    ·exact .inl q
   ·exact .inr (puts_mem.mpr (.inr q))
   ·exact .inr (puts_mem.mpr (.inl q))
 ·rcases a5 with a5|a5
  ·rw[a5];exact .inl rfl
  ·exact .inr a5
theorem ik(W:WN N)(hp:Pot N p):∀(fs:List Nm)(s:SB)(ag:List Nm),J N X (λz=>z∈fs\/z∈ag) s->
  J N X (λz=>z∈(fs.foldl (eJ N) (s,ag)).2) (fs.foldl (eJ N) (s,ag)).1/\(fs.foldl (eJ N) (s,ag)=(s,ag)\/Lt N p X (fs.foldl (eJ N) (s,ag)).1 s)
 |[],s,ag,I=>⟨I.mono (λz hz=>by simpa using hz) λz hz=>I.pd z (.inr hz),.inl rfl⟩
 |x::fs,s,ag,I=>by
  obtain⟨I',a5⟩:=lG W hp I;rw[List.foldl_cons];generalize eJ N (s,ag) x=r at I' a5;obtain⟨b1,b2⟩:=ik W hp fs r.1 r.2 I';refine⟨b1,?_⟩;rcases a5 with a5|a5
  ·subst a5;exact b2
  ·rcases b2 with b2|b2
   ·right;rw[show fs.foldl (eJ N) r=r from b2];exact a5
   ·exact .inr (b2.trans a5)
noncomputable abbrev stepF(N:Nt)(s:SB)(fs:List Nm):SB×List Nm:=fs.foldl (eJ N) (s,[])
inductive Run (N:Nt):Nat->SB->List Nm->SB->Prop where
 |done (s:SB):Run N 0 s [] s
 |step {m:Nat}{s s':SB}{fs:List Nm} (h:fs≠[]) (r:Run N m (stepF N s fs).1 (stepF N s fs).2 s'):Run N (m+1) s fs s'
theorem ve(W:WN N)(hp:Pot N p):∀(s:SB)(fs:List Nm),J N X (λz=>z∈fs) s->∃m s',Run N m s fs s'/\J N X (λ_=>False) s':=by
 have wf:WellFounded (Lt N p X):=InvImage.wf (λs:SB=>(N.ks.length-s.S.length,gI p X s.S)) (Prod.lex ⟨_,Nat.lt_wfRel.wf⟩ ⟨_,Nat.lt_wfRel.wf⟩).wf
 intro s
 induction s using wf.induction with
 |_ s ih=>
  intro fs I;by_cases hf:fs=[]
  ·subst hf;exact⟨0,s,.done s,I.mono (λz hz=>by cases hz) λz hz=>hz.elim⟩
  ·obtain⟨a1,a2⟩:=ik W hp fs s [] (I.mono (λz hz=>.inl hz) λz hz=>I.pd z (by simpa using hz))
   by_cases hg:(stepF N s fs).2=[]
   ·refine⟨1,(stepF N s fs).1,.step hf ?_,a1.mono (λz hz=>by
      have hz':z∈(stepF N s fs).2:=hz;rw[hg]at hz';cases hz') λz hz=>hz.elim⟩
    rw[hg];exact .done _
   ·rcases a2 with a2|a2
    ·exact absurd (congrArg Prod.snd a2) hg
    ·obtain⟨m,s',r,I'⟩:=ih _ a2 _ a1;exact⟨m+1,s',.step hf r,I'⟩
theorem J.isD{x0:Nm}{s:SB}(I:J N [x0] (λ_=>False) s)(y:Nm):IsD N x0 y (lk s.S y):=by
 have key:∀{z v},Wk N x0 z v->∃u,lk s.S z=some u/\u<=v:=by
  intro z v h
  induction h with
  |nil=>exact I.s0 x0 DW
  |snoc _ e ih=>
   obtain⟨u,u1,u2⟩:=ih;obtain⟨v,v1,v2⟩:=I.rel _ u u1 id _ _ e.2;exact⟨v,v1,by omega⟩
 cases h:lk s.S y with
 |none=>
  intro v hw;obtain⟨u,u1,_⟩:=key hw;rw[h]at u1;cases u1
 |some d=>
  obtain⟨_,q,hq,hw⟩:=I.k y d h;cases Eh.mp hq;refine⟨hw,λv hw=>?_⟩
  obtain⟨u,u1,u2⟩:=key hw;rw[h]at u1;cases u1;exact u2
theorem lf{X:List Nm}{y:Nm}:lk (X.map λx=>(x,(0:Int))) y=if y∈X then some 0 else none:=by
 induction X with
 |nil=>rfl
 |cons q X ih=>
  simp only[D4,lk,ih,DX];by_cases h:q=y
  ·simp[h]
  ·simp[h,Ea h]
theorem J.start(W:WN N)(hn:X.Nodup)(hx:∀x∈X,x∈N.ks):J N X (λz=>z∈X) ⟨X.map λx=>(x,0),[]⟩:=by
 have h:∀y v,lk (X.map λx=>(x,(0:Int))) y=some v->y∈X/\v=0:=λy v h=>by
  rw[lf]at h;split at h
  ·rename_i e;cases h;exact⟨e,rfl⟩
  ·cases h
 refine⟨λy v hv=>?_,by simpa [K1,Function.comp_def] using hn,λx hx=>⟨0,by show lk (X.map λx=>(x,(0:Int))) x=_;rw[lf,DY hx],Int.le_refl _⟩,λz hz=>?_,λx u hu hn=>?_,λy x hb=>?_,λy=>⟨0,.nil rfl⟩,by simp,λy v hv=>.inl (h y v hv).1,λy hy hB=>(by cases (show (none:Option Nm).isSome=true from hB))⟩
 ·obtain⟨h1,rfl⟩:=h y v hv;exact⟨hx y h1,y,h1,.nil⟩
 ·show (lk (X.map λx=>(x,(0:Int))) z).isSome=true
  rw[lf,DY hz];rfl
 ·exact absurd (h x u hu).1 hn
 ·cases (show (none:Option Nm)=some x from hb)
inductive Chn (B:List (Nm×Nm)):Nm->List Nm->Prop where
 |nil {y:Nm} (h:lk B y=none):Chn B y [y]
 |step {y x:Nm}{l:List Nm} (h:lk B y=some x) (e:Chn B x l):Chn B y (y::l)
theorem Chn.ends{B:List (Nm×Nm)}{y:Nm}{l:List Nm}(h:Chn B y l):∃m,l.length=m+1/\Ends B y m:=by
 induction h with
 |nil h=>exact⟨0,rfl,.nil h⟩
 |step h _ ih=>
  obtain⟨m,e,hm⟩:=ih;exact⟨m+1,by rw[Em,e],.step h hm⟩
theorem Chn.len{B:List (Nm×Nm)}{y:Nm}{l:List Nm}(h:Chn B y l):l.length<=B.length+1:=by
 obtain⟨m,e,hm⟩:=h.ends;have:=hm.le;rw[D5]at this;omega
inductive Way (N:Nt):Nm->Nm->Int->List Nm->Prop where
 |nil {y:Nm}:Way N y y 0 [y]
 |step {a x y:Nm}{v w:Int}{l:List Nm} (h:Way N a x v l) (xk:x∈N.ks) (e:(y,w)∈N.row x):Way N a y (v+w) (y::l)
theorem J.way{x0:Nm}{s:SB}(hp:Pot N p)(I:J N [x0] (λ_=>False) s){y:Nm}{l:List Nm}(hc:Chn s.B y l):∀{v:Int},lk s.S y=some v->Way N x0 y v l:=by
 have h0:lk s.S x0=some 0:=by
  obtain⟨u,u1,u2⟩:=I.s0 x0 DW;obtain⟨_,q,hq,hw⟩:=I.k x0 u u1;cases Eh.mp hq;have:=hw.pot hp;rw[u1];congr 1;omega
 have hn:lk s.B x0=none:=by
  cases h:lk s.B x0 with
  |none=>rfl
  |some z=>
   obtain⟨v,v1,v2⟩:=I.b0 x0 DW (by rw[h];rfl)
   rw[h0]at v1;cases v1;omega
 induction hc with
 |@nil y h=>
  intro v hv;rcases I.hb y v hv with z|z
  ·cases Eh.mp z;rw[h0]at hv;cases hv;exact .nil
  ·rw[h]at z;cases z
 |@step y x l h _ ih=>
  intro v hv;obtain⟨v',u,w,h1,h2,h3,h4,h5⟩:=I.b y x h;rw[hv]at h1;cases h1;obtain⟨v',h6,h7⟩:=I.rel x u h2 id y w h3;rw[hv]at h6;cases h6;have e:v=u+w:=by omega
  rw[e];exact .step (ih h2) h4 h3
end
section
variable {N:Nt}{p q:Nm->Int}{x y:Nm}{m:Int}
noncomputable def jj(N:Nt)(x y:Nm)(m:Int):Nt:={N with row:=λz=>if z=x then ins (N.row x) y (min m ((lk (N.row x) y).getD m)) else N.row z}
theorem kI{α:Type}{k:Nm}{v:α}{e:Nm×α}:∀{l:List (Nm×α)},e∈ins l k v->e=(k,v)\/e∈l
 |[],h=>.inl (Eh.mp h)
 |(a,u)::r,h=>by
  simp only[ins]at h;split at h
  ·rename_i z;subst z;rcases DX.mp h with h|h
   ·exact .inl h
   ·exact .inr (DT _ h)
  ·rcases DX.mp h with h|h
   ·exact .inr (by rw[h];exact DW)
   ·rcases kI h with h|h
    ·exact .inl h
    ·exact .inr (DT _ h)
theorem j8{α:Type}{k:Nm}{v:α}:∀{l:List (Nm×α)},(k,v)∈ins l k v
 |[]=>Eh.mpr rfl
 |(a,u)::r=>by
  simp only[ins];split
  ·rename_i z;subst z;exact DW
  ·exact DT _ j8
theorem oI{α:Type}{k:Nm}{v:α}{e:Nm×α}(hk:e.1≠k):∀{l:List (Nm×α)},e∈l->e∈ins l k v
 |(a,u)::r,h=>by
  simp only[ins];rcases DX.mp h with h|h
  ·subst h;rw[DV hk];exact DW
  ·split
   ·exact DT _ h
   ·exact DT _ (oI hk h)
theorem sW(hp:Pot N q)(h:q y-q x<=m):Pot (jj N x y m) q:=λa b w he=>by
 obtain⟨h1,h2⟩:=he;have h2:(b,w)∈(if a=x then ins (N.row x) y (min m ((lk (N.row x) y).getD m)) else N.row a):=h2
 split at h2
 ·rename_i e;subst e;rcases kI h2 with h3|h3
  ·cases h3;cases hl:lk (N.row a) y with
   |none=>simp only[Option.getD_none];omega
   |some v=>
    have:=hp a y v ⟨h1,kM hl⟩;simp only[Option.getD_some];omega
  ·exact hp a b w ⟨h1,h3⟩
 ·exact hp a b w ⟨h1,h2⟩
theorem t6(W:WN N){a b:Nm}{w:Int}(h:Ed N a b w):∃w',w'<=w/\Ed (jj N x y m) a b w':=by
 by_cases e:a=x
 ·subst e;by_cases f:b=y
  ·subst f;refine⟨_,?_,h.1,by show _∈(if a=a then _ else _);rw[DY rfl];exact j8⟩
   rw[oM (W.row a h.1).1 h.2];simp only[Option.getD_some];omega
  ·exact⟨w,Int.le_refl _,h.1,by show _∈(if a=a then _ else _);rw[DY rfl];exact oI f h.2⟩
 ·exact⟨w,Int.le_refl _,h.1,by show _∈(if a=x then _ else _);rw[DV e];exact h.2⟩
theorem ox(W:WN N)(hy:y∈N.ks)(hn:x≠y):WN (jj N x y m):=by
 refine⟨W.nd,λa ha=>?_⟩
 have ha:a∈N.ks:=ha;show (K1 (if a=x then _ else _)).Nodup/\∀e∈(if a=x then _ else _),_
 by_cases e:a=x
 ·subst e;rw[DY rfl];refine⟨m9 (W.row a ha).1,λq hq=>?_⟩
  rcases kI hq with h|h
  ·rw[h];exact⟨hy,Ea hn⟩
  ·exact (W.row a ha).2 q h
 ·rw[DV e];exact W.row a ha
end
section
variable {cls kls fad:Nat->PySem.Addr}{M M0:MH}{Q:VK3}{E:XN}{n:Nat}{a b c d f r:PySem.Addr}{x y:Nm}
noncomputable def nmD(k:Nm):D:=.tup (k.map D.int)
theorem ints_of:∀k:Nm,bX (k.map D.int)=some k
 |[]=>rfl
 |i::k=>by simp[bX,ints_of k]
theorem cj(k:Nm):sP (nmD k)=some k:=ints_of k
noncomputable def dS(S:List (Nm×Int)):DO:=.dt (K1 S) (S.map λp=>.int p.2)
noncomputable def dB(B:List (Nm×Nm)):DO:=.dt (K1 B) (B.map λp=>nmD p.2)
section
variable {α:Type}{l:List (Nm×α)}{g:α->D}{k:Nm}
theorem vo(h:M a=some (.dt (K1 l) (l.map λp=>g p.2))){neg:Bool}:pP neg (nmD k) (.ref a) M Q=Q (.bl (neg ^^ (lk l k).isSome)) M:=by
 have e:=dX g (k:=k) (l:=l);simp only[pP,aT,ah,h,hJ,gV,d5,cj,e];cases lk l k<;>rfl
theorem ib(h:M a=some (.dt (K1 l) (l.map λp=>g p.2))):aG .NotIn (nmD k) (.ref a) M Q=Q (.bl (!(lk l k).isSome)) M:=by
 simp only[aG];rw[vo h];simp
theorem iu(h:M a=some (.dt (K1 l) (l.map λp=>g p.2))):aG .In (nmD k) (.ref a) M Q=Q (.bl (lk l k).isSome) M:=by
 simp only[aG];rw[vo h];simp
theorem cV{v:α}(h:M a=some (.dt (K1 l) (l.map λp=>g p.2)))(hv:lk l k=some v):ar (.ref a) (nmD k) M Q=Q (g v) M:=by
 have e:=dX g (k:=k) (l:=l);rw[hv]at e;simp only[ar,aT,ah,h,hJ,gV,d5,cj,e,Option.map]
theorem gh{v:α}{R:MH->Prop}(h:M a=some (.dt (K1 l) (l.map λp=>g p.2)))(hz:l.length<900):bo (.ref a) (nmD k) (g v) M R=R (put M a (.dt (K1 (ins l k v)) ((ins l k v).map λp=>g p.2))):=by
 have hs:(K1 l).length<PySem.sizeLine:=by rw[D5,PySem.sizeLine_eq];omega
 simp only[bo,h,cj,lQ (v:=v),mC g,hs,true_and]
theorem xC{z:D}(h:M a=some (.dt (K1 l) (l.map λp=>g p.2))):rBm .get (.ref a) [nmD k,z] M Q=Q (((lk l k).map g).getD z) M:=by
 have e:=dX g (k:=k) (l:=l);simp only[rBm,hJ,h,gV,d5,cj,e]
theorem uD(h:M a=some (.dt (K1 l) (l.map λp=>g p.2))):rBm .get (.ref a) [nmD k] M Q=Q (((lk l k).map g).getD .non) M:=by
 have e:=dX g (k:=k) (l:=l);simp only[rBm,hJ,h,gV,d5,cj,e]
theorem vK(h:M a=some (.dt (K1 l) (l.map λp=>g p.2))):tyB .get (.ref a) M=true:=by
 simp only[tyB,gV,d5,h];rfl
end
theorem oq{W:WC}{tg:ITg}{o:IE}{body:ISs}{De:Ends3}{ES:St3->XN}{σ:St3}:wpS W (.forD tg o body) De ES σ M=wpE W o σ M (λx M1=>dm x M1 λd ks es=>∀φ,bN W tg body (λ_ _ _=>False) (λM=>M d=some (.stl φ)) (f8 d φ ks es De) (aj ks es) σ (put M1 d (.stl φ))) (ES σ):=rfl
theorem kX{W:WC}{e:IE}{De:Ends3}{E:XN}{σ:St3}{p:PySem.Addr}{ds:List D}(h:M p=some (.lst ds)):pz W e De E σ (.ref p) M=wpE W e σ M (jP p De σ) E:=by
 unfold pz;simp only[h];rfl
theorem fk{De:Ends3}{σ:St3}{p:PySem.Addr}{ds:List D}{y:D}(h:M p=some (.lst ds)):jP p De σ y M=(ds.length<PySem.sizeLine/\De.nx σ (put M p (.lst (ds++[y])))):=by
 unfold jP;simp only[h]
theorem ka{x y z:DO}(hbf:b≠f):put (put (put M b x) f y) b z=put (put M b z) f y:=by
 funext q;unfold put;by_cases q1:q=b
 ·simp[q1,hbf]
 ·simp[q1]
theorem oS{x y z w:DO}(hab:a≠b)(haf:a≠f):put (put (put (put M a x) b y) f w) a z=put (put (put M a z) b y) f w:=by
 funext q;unfold put;by_cases q1:q=a
 ·simp[q1,hab,haf]
 ·simp[q1]
noncomputable def HG(M0:MH)(a b f:PySem.Addr)(s:SB)(fl:List Nm):MH:=put (put (put M0 a (dS s.S)) b (dB s.B)) f (.lst (fl.map nmD))
noncomputable def eD(e:Nm×Int):D:=.tup [nmD e.1,.int e.2]
theorem i6:∀(l:List (Nm×Int)),aj (K1 l) (l.map λe=>.int e.2)=l.map eD
 |[]=>rfl
 |e::l=>by
  have ih:=i6 l;unfold aj at ih ⊢;simp only[K1,D4,List.zip_cons_cons]at ih ⊢;rw[ih];rfl
theorem oX{W:WC}{φ:PySem.Heap->Prop}(hab:a≠b)(haf:a≠f)(hbf:b≠f)(hda:d≠a)(hdb:d≠b)(hdf:d≠f)(hd:M0 d=some (.stl φ)){De:Ends3}{ES:St3->XN}{R:Prop}{y0:Option D}{u:Int}:∀(post:List (Nm×Int)) (s:SB)(fl:List Nm)(x5 x6 x7:Option D),lk s.S x=some u->(∀e∈post,e.1≠x)->s.S.length+post.length<800->s.B.length+post.length<800->fl.length+post.length<800->
  (∀x5 x6 x7,De.nx [y0,some (nmD x),some (.ref a),some (.ref b),some (.ref f),x5,x6,x7] (HG M0 a b f (post.foldl (rl x) (s,fl)).1 (post.foldl (rl x) (s,fl)).2)=R)->
  bN W (.tup [5,6]) aY ES (λM=>M d=some (.stl φ)) De (post.map eD) [y0,some (nmD x),some (.ref a),some (.ref b),some (.ref f),x5,x6,x7] (HG M0 a b f s fl)=R
 |[],s,fl,x5,x6,x7,_,_,_,_,_,hR=>by
  have:=hR x5 x6 x7;have hS:HG M0 a b f s fl d=some (.stl φ):=by unfold HG;rw[af hdf,af hdb,af hda];exact hd
  simp only[List.foldl_nil]at this;rw[List.map_nil,be];simp[hS,this]
 |(z,w)::post,s,fl,x5,x6,x7,hx,hne,h1,h2,h3,hR=>by
  simp only[Em]at h1 h2 h3;have hS:HG M0 a b f s fl d=some (.stl φ):=by unfold HG;rw[af hdf,af hdb,af hda];exact hd
  have ga:HG M0 a b f s fl a=some (.dt (K1 s.S) (s.S.map λp=>.int p.2)):=by unfold HG;rw[af haf,af hab,ae];rfl
  have gb:HG M0 a b f s fl b=some (.dt (K1 s.B) (s.B.map λp=>nmD p.2)):=by unfold HG;rw[af hbf,ae];rfl
  have zx:z≠x:=hne (z,w) DW;have i1:∀{Q:VK3},ar (.ref a) (nmD x) (HG M0 a b f s fl) Q=Q (.int u) (HG M0 a b f s fl):=λ{Q}=>cV (g:=D.int) ga hx
  have i2:∀{Q:VK3},aG .NotIn (nmD z) (.ref a) (HG M0 a b f s fl) Q=Q (.bl (!(lk s.S z).isSome)) (HG M0 a b f s fl):=λ{Q}=>ib (g:=D.int) ga
  rw[D4,aQ];have ih:=λ(s':SB)(fl':List Nm) (hx':lk s'.S x=some u) (g1:s'.S.length<=s.S.length+1) (g2:s'.B.length<=s.B.length+1) (g3:fl'.length<=fl.length+1) (x5 x6 x7:Option D) (hR':∀x5 x6 x7,De.nx [y0,some (nmD x),some (.ref a),some (.ref b),some (.ref f),x5,x6,x7] (HG M0 a b f (post.foldl (rl x) (s',fl')).1 (post.foldl (rl x) (s',fl')).2)=R)=>oX (W:=W) (y0:=y0) (ES:=ES) hab haf hbf hda hdb hdf hd post s' fl' x5 x6 x7 hx' (λe he=>hne e (DT _ he)) (by omega) (by omega) (by omega) hR'
  generalize bN W (.tup [5,6]) aY ES (λM=>M d=some (.stl φ)) De (post.map eD)=K at ih ⊢
  by_cases hl:gS s.S z (u+w)=true
  ·have hr:rl x (s,fl) (z,w)=(⟨ins s.S z (u+w),ins s.B z x⟩,fl++[z]):=by
    unfold rl;simp only[hx,hl,if_true]
   have lS:(ins s.S z (u+w)).length<=s.S.length+1:=by rw[ins_len];split<;>omega
   have lB:(ins s.B z x).length<=s.B.length+1:=by rw[ins_len];split<;>omega
   have ih':=ih ⟨ins s.S z (u+w),ins s.B z x⟩ (fl++[z]) (by show lk (ins s.S z (u+w)) x=_;rw[aE,DV zx];exact hx) lS lB (by simp) (some (nmD z)) (some (.int w)) (some (.int (u+w))) (λx5 x6 x7=>by
    have:=hR x5 x6 x7;rw[List.foldl_cons,hr]at this;exact this)
   have e1:put (HG M0 a b f s fl) a (.dt (K1 (ins s.S z (u+w))) ((ins s.S z (u+w)).map λp=>.int p.2))=HG M0 a b f ⟨ins s.S z (u+w),s.B⟩ fl:=by
    unfold HG;rw[oS hab haf];rfl
   have gb':HG M0 a b f ⟨ins s.S z (u+w),s.B⟩ fl b=some (.dt (K1 s.B) (s.B.map λp=>nmD p.2)):=by unfold HG;rw[af hbf,ae];rfl
   have e2:put (HG M0 a b f ⟨ins s.S z (u+w),s.B⟩ fl) b (.dt (K1 (ins s.B z x)) ((ins s.B z x).map λp=>nmD p.2))=HG M0 a b f ⟨ins s.S z (u+w),ins s.B z x⟩ fl:=by
    unfold HG;rw[ka hbf];rfl
   have gf:HG M0 a b f ⟨ins s.S z (u+w),ins s.B z x⟩ fl f=some (.lst (fl.map nmD)):=ae;have e3:put (HG M0 a b f ⟨ins s.S z (u+w),ins s.B z x⟩ fl) f (.lst (fl.map nmD++[nmD z]))=HG M0 a b f ⟨ins s.S z (u+w),ins s.B z x⟩ (fl++[z]):=by
    unfold HG;rw[aV];simp
   have s1:∀{R:MH->Prop},bo (.ref a) (nmD z) (.int (u+w)) (HG M0 a b f s fl) R=R (HG M0 a b f ⟨ins s.S z (u+w),s.B⟩ fl):=λ{R}=>by rw[gh (g:=D.int) ga (by omega),e1]
   have s2:∀{R:MH->Prop},bo (.ref b) (nmD z) (nmD x) (HG M0 a b f ⟨ins s.S z (u+w),s.B⟩ fl) R=R (HG M0 a b f ⟨ins s.S z (u+w),ins s.B z x⟩ fl):=λ{R}=>by rw[gh (g:=nmD) gb' (by omega),e2]
   have hsz:fl.length<PySem.sizeLine:=by rw[PySem.sizeLine_eq];omega
   have ap:∀{De:Ends3}{E:XN}{x7:Option D}{y0:Option D}{x6:Option D},pz W (.var 5) De E [y0,some (nmD x),some (.ref a),some (.ref b),some (.ref f),some (nmD z),x6,x7] (.ref f) (HG M0 a b f ⟨ins s.S z (u+w),ins s.B z x⟩ fl)=De.nx [y0,some (nmD x),some (.ref a),some (.ref b),some (.ref f),some (nmD z),x6,x7] (HG M0 a b f ⟨ins s.S z (u+w),ins s.B z x⟩ (fl++[z])):=λ{De E x7 y0 x6}=>by
    rw[kX gf];simp only[BV];rw[fk gf,e3];simp[hsz]
   rw[<-ih'];cases hz:lk s.S z with
   |none=>
    simp[aY,eD,wpG,hS,↓i1,↓i2,hz,↓s1,↓s2,↓ap]
   |some v=>
    have i3:∀{Q:VK3},ar (.ref a) (nmD z) (HG M0 a b f s fl) Q=Q (.int v) (HG M0 a b f s fl):=λ{Q}=>cV (g:=D.int) ga hz
    have hlv:u+w<v:=by unfold gS at hl;rw[hz]at hl;simpa using hl
    simp[aY,eD,wpG,hS,↓i1,↓i2,hz,↓i3,hlv,↓s1,↓s2,↓ap]
  ·have hr:rl x (s,fl) (z,w)=(s,fl):=by
    unfold rl;simp only[hx];rw[DV hl]
   have ih':=ih s fl hx (by omega) (by omega) (by omega) (some (nmD z)) (some (.int w)) (some (.int (u+w))) (λx5 x6 x7=>by
    have:=hR x5 x6 x7;rw[List.foldl_cons,hr]at this;exact this)
   rw[<-ih'];cases hz:lk s.S z with
   |none=>unfold gS at hl;rw[hz]at hl;exact absurd rfl hl
   |some v=>
    have i3:∀{Q:VK3},ar (.ref a) (nmD z) (HG M0 a b f s fl) Q=Q (.int v) (HG M0 a b f s fl):=λ{Q}=>cV (g:=D.int) ga hz
    have hlv:¬ u+w<v:=by unfold gS at hl;rw[hz]at hl;simpa using hl
    simp[aY,eD,wpG,hS,↓i1,↓i2,hz,↓i3,hlv]
end
section
variable {cls kls fad:Nat->PySem.Addr}{M M0:MH}{Q:VK3}{E:XN}{n:Nat}{a b c d f r:PySem.Addr}{x y:Nm}
noncomputable abbrev dR(row:List (Nm×Int)):DO:=.dt (K1 row) (row.map λe=>.int e.2)
theorem qk{φ:PySem.Heap->Prop}{s:SB}(hf:M f=none)(ha:M a=some (dS s.S))(hb:M b=some (dB s.B))(hra:r≠a)(hrb:r≠b)(hrf:r≠f)(hab:a≠b):put (put M f (.lst [])) r (.stl φ)=HG (put M r (.stl φ)) a b f s []:=by
 have haf:a≠f:=λe=>by rw[e,hf]at ha;cases ha
 have hbf:b≠f:=λe=>by rw[e,hf]at hb;cases hb
 funext q;unfold HG put;by_cases q1:q=r
 ·simp[q1,hra,hrb,hrf]
 ·by_cases q2:q=f
  ·simp[q2,Ea hrf]
  ·by_cases q3:q=b
   ·simp[q3,hbf,hb,Ea hrb]
   ·by_cases q4:q=a
    ·simp[q4,haf,ha,Ea hra,hab]
    ·simp[q1,q2,q3,q4]
theorem vS{φ:PySem.Heap->Prop}{s:SB}{o u v:DO}{fl:List Nm}(hf:M f=none)(ha:M a=some u)(hb:M b=some v)(hr:M r=some o)(hra:r≠a)(hrb:r≠b):ak M (L2.del (put (HG (put M r (.stl φ)) a b f s fl) r o) f)=put (put M a (dS s.S)) b (dB s.B):=by
 have haf:a≠f:=λe=>by rw[e,hf]at ha;cases ha
 have hbf:b≠f:=λe=>by rw[e,hf]at hb;cases hb
 have hrf:r≠f:=λe=>by rw[e,hf]at hr;cases hr
 funext q;unfold HG ak L2.del put;by_cases q1:q=r
 ·simp[q1,hra,hrb,hrf,hr]
 ·by_cases q2:q=f
  ·simp[q2,hf,Ea hbf,Ea haf]
  ·by_cases q3:q=b
   ·simp[q3,hbf,hb,Ea hrb]
   ·by_cases q4:q=a
    ·simp[q4,haf,ha,Ea hra,q3]
    ·simp[q1,q2,q3,q4];cases M q<;>rfl
theorem vg{row:List (Nm×Int)}{s:SB}{u:Int}(hM:Fm M)(ha:M a=some (dS s.S))(hb:M b=some (dB s.B))(hr:M r=some (dR row))(hra:r≠a)(hrb:r≠b)(hab:a≠b)(hx:lk s.S x=some u)(hne:∀e∈row,e.1≠x)(h1:s.S.length+row.length<800)(h2:s.B.length+row.length<800) :
  ac T (B cls kls fad) (n+1) 1 [.ref r,nmD x,.ref a,.ref b] M Q E=Q (.rol ((goF x row s).2.map nmD)) (put (put M a (dS (goF x row s).1.S)) b (dB (goF x row s).1.B)):=by
 rw[uz];simp[kU,oq];refine iff_of_eq (iz hM λf hf=>?_)
 have haf:a≠f:=λe=>by rw[e,hf]at ha;cases ha
 have hbf:b≠f:=λe=>by rw[e,hf]at hb;cases hb
 have hrf:r≠f:=λe=>by rw[e,hf]at hr;cases hr
 have hr':put M f (.lst []) r=some (dR row):=by rw[af hrf];exact hr
 unfold dm;simp only[hr',i6];have key:∀φ:PySem.Heap->Prop,(bN {toWB:=B cls kls fad,call:=ac T (B cls kls fad) n} (ITg.tup [5,6]) aY (λx x_1 x_2=>False) (λM=>M r=some (DO.stl φ)) (f8 r φ (K1 row) (row.map λe=>.int e.2) {nx:=λσ' M'=>aw {toWB:=B cls kls fad,call:=ac T (B cls kls fad) n} (ISs.cons (IS.ret (IE.var 4).frz) ISs.nil) {nx:=λx M'=>Q D.non (ak M M'),rt:=λv M'=>Q v (ak M M')} (λx i M'=>E i (ak M M')) σ' M',rt:=λv M'=>Q v (ak M M')}) (row.map eD) [some (D.ref r),some (nmD x),some (D.ref a),some (D.ref b),some (D.ref f),none,none,none] (put (put M f (DO.lst [])) r (DO.stl φ)))=Q (.rol ((goF x row s).2.map nmD)) (put (put M a (dS (goF x row s).1.S)) b (dB (goF x row s).1.B)):=λφ=>by
  rw[qk hf ha hb hra hrb hrf hab];refine oX hab haf hbf hra hrb hrf ae row s [] none none none hx hne h1 h2 (by simp;omega) λx5 x6 x7=>?_
  have g1:HG (put M r (.stl φ)) a b f (goF x row s).1 (goF x row s).2 r=some (.stl φ):=by unfold HG;rw[af hrf,af hrb,af hra,ae]
  have g2:put (HG (put M r (.stl φ)) a b f (goF x row s).1 (goF x row s).2) r (dR row) f=some (.lst ((goF x row s).2.map nmD)):=by rw[af (Ea hrf)];exact ae
  change (HG (put M r (.stl φ)) a b f (goF x row s).1 (goF x row s).2 r=some (.stl φ)/\aw _ _ _ _ _ (put (HG (put M r (.stl φ)) a b f (goF x row s).1 (goF x row s).2) r (dR row)))=_;rw[<-vS (φ:=φ) (s:=(goF x row s).1) (fl:=(goF x row s).2) hf ha hb hr hra hrb];generalize put (HG (put M r (.stl φ)) a b f (goF x row s).1 (goF x row s).2) r (dR row)=M9 at g2 ⊢;simp[g1,ck,g2]
 simp only[key];exact propext ⟨λh=>h (λ_=>True),λh _=>h⟩
end
section
variable {cls kls fad:Nat->PySem.Addr}{M M0:MH}{Q:VK3}{E:XN}{n:Nat}{a b c d f r kd:PySem.Addr}{x y:Nm}{X:List Nm}{N:Nt}{p:Nm->Int}{rp:Nm->PySem.Addr}
theorem oG{k:Nm}:∀{l:List Nm},l.Nodup->(ai l k).Nodup
 |[],_=>by simp[ai]
 |q::l,h=>by
  rw[EE]at h;simp only[ai];split
  ·exact EE.mpr h
  ·rename_i e;refine EE.mpr ⟨λz=>?_,oG h.2⟩
   rcases put1_mem.mp z with z|z
   ·exact e z
   ·exact h.1 z
theorem kl:∀{fl ag:List Nm},ag.Nodup->(fl.foldl ai ag).Nodup
 |[],_,h=>h
 |_::fl,_,h=>kl (fl:=fl) (oG h)
theorem md{k:Nm}:∀{l:List Nm},(ai l k).length<=l.length+1
 |[]=>by simp[ai]
 |q::l=>by
  have:=md (k:=k) (l:=l);simp only[ai];split<;>simp<;>omega
theorem sJ:∀(post:List (Nm×Int)) (s:SB)(fl:List Nm),(post.foldl (rl x) (s,fl)).2.length<=fl.length+post.length
 |[],_,_=>by simp
 |e::post,s,fl=>by
  rw[List.foldl_cons];have h:(rl x (s,fl) e).2.length<=fl.length+1:=by
   unfold rl;cases lk s.S x with
   |none=>simp
   |some u=>simp only[];split<;>simp
  have:=sJ post (rl x (s,fl) e).1 (rl x (s,fl) e).2;rw[show ((rl x (s,fl) e).1,(rl x (s,fl) e).2)=rl x (s,fl) e from rfl]at this;simp only[Em];omega
theorem J.sz{pend:Nm->Prop}{s:SB}(I:J N X pend s):s.S.length<=N.ks.length/\s.B.length<=N.ks.length:=by
 have h1:=gB (k:=N.ks) I.nd λz hz=>by
  obtain⟨v,hv⟩:=En.mp (lk_key.mp hz);exact (I.k z v hv).1
 have h2:=gB (k:=N.ks) I.bn λz hz=>by
  obtain⟨v,hv⟩:=En.mp (lk_key.mp hz);obtain⟨v',_,_,h,_⟩:=I.b z v hv;exact (I.k z v' h).1
 simpa [K1] using And.intro h1 h2
theorem WN.sz(W:WN N)(hx:x∈N.ks):(N.row x).length<=N.ks.length:=by
 have:=gB (k:=N.ks) (W.row x hx).1 λz hz=>by
  obtain⟨e,he,rfl⟩:=EB.mp hz;exact ((W.row x hx).2 e he).1
 simpa [K1] using this
noncomputable def lR(N:Nt)(rp:Nm->PySem.Addr):List (Nm×PySem.Addr):=N.ks.map λz=>(z,rp z)
noncomputable def dK(N:Nt)(rp:Nm->PySem.Addr):DO:=.dt (K1 (lR N rp)) ((lR N rp).map λe=>.ref e.2)
theorem vA{l:List Nm}:lk (l.map λz=>(z,rp z)) x=if x∈l then some (rp x) else none:=by
 induction l with
 |nil=>rfl
 |cons q l ih=>
  simp only[D4,lk,ih,DX];by_cases h:q=x
  ·simp[h]
  ·simp[h,Ea h]
structure Eg (M:MH)(kd:PySem.Addr)(rp:Nm->PySem.Addr)(N:Nt):Prop where
 kd:M kd=some (dK N rp)
 row:∀z∈N.ks,M (rp z)=some (dR (N.row z))
theorem Eg.mono{M':MH}(h:Eg M kd rp N)(hm:∀q o,M q=some o->M' q=some o):Eg M' kd rp N:=⟨hm _ _ h.kd,λz hz=>hm _ _ (h.row z hz)⟩
theorem Eg.ix(h:Eg M kd rp N)(hx:x∈N.ks):ar (.ref kd) (nmD x) M Q=Q (.ref (rp x)) M:=cV (g:=D.ref) h.kd (by unfold lR;rw[vA,DY hx])
noncomputable def dA(ag:List Nm):DO:=.dt ag (ag.map λ_=>.bl true)
theorem oV:∀{ag:List Nm},aR ag (ag.map λ_=>D.bl true) y (.bl true)=(ai ag y).map λ_=>D.bl true
 |[]=>by simp[ai,aR]
 |q::ag=>by
  have ih:=oV (ag:=ag);simp only[D4,ai,aR];split
  ·simp
  ·simp[ih]
theorem xT{ag:List Nm}{R:MH->Prop}(hz:ag.length<900):bo (.ref c) (nmD y) (.bl true) (put M c (dA ag)) R=R (put M c (dA (ai ag y))):=by
 have hs:ag.length<PySem.sizeLine:=by rw[PySem.sizeLine_eq];omega
 simp only[bo,ae,dA,cj,oV,hs,true_and,aV]
theorem nX{W:WC}{De:Ends3}{ES:St3->XN}{R:Prop}{y0 y1 y2 y3 y5:Option D}:∀(fl ag:List Nm)(x6:Option D),ag.length+fl.length<800->(∀x6,De.nx [y0,y1,y2,y3,some (.ref c),y5,x6] (put M c (dA (fl.foldl ai ag)))=R)->
  bN W (.name 6) dn ES (λ_=>True) De (fl.map nmD) [y0,y1,y2,y3,some (.ref c),y5,x6] (put M c (dA ag))=R
 |[],ag,x6,_,hR=>by
  rw[List.map_nil,be];simpa using hR x6
 |z::fl,ag,x6,hz,hR=>by
  have h1:(ai ag z).length<=ag.length+1:=md;simp only[Em]at hz;rw[D4,aQ,<-nX (W:=W) (ES:=ES) fl (ai ag z) (some (nmD z)) (by omega) hR]
  simp[dn,wpG,xT (show ag.length<900 by omega)]
noncomputable def HS(M0:MH)(a b c:PySem.Addr)(s:SB)(ag:List Nm):MH:=put (put (put M0 a (dS s.S)) b (dB s.B)) c (dA ag)
theorem nY{De:Ends3}{ES:St3->XN}{R:Prop}{y3:Option D}(hM:Fm M0)(W:WN N)(hp:Pot N p)(hk:N.ks.length<200)(hab:a≠b)(hac:a≠c)(hbc:b≠c)(ha:kd≠a)(hb:kd≠b)(hc:kd≠c)(hra:∀z∈N.ks,rp z≠a)(hrb:∀z∈N.ks,rp z≠b)(hrc:∀z∈N.ks,rp z≠c)(hE:Eg M0 kd rp N) :
  ∀(fs:List Nm)(s:SB)(ag:List Nm)(x5 x6:Option D),J N X (λz=>z∈fs\/z∈ag) s->ag.Nodup->
  (∀x5 x6,De.nx [some (.ref kd),some (.ref a),some (.ref b),y3,some (.ref c),x5,x6] (HS M0 a b c (fs.foldl (eJ N) (s,ag)).1 (fs.foldl (eJ N) (s,ag)).2)=R)->
  bN {toWB:=B cls kls fad,call:=ac T (B cls kls fad) (n+1)} (.name 5) cg ES (λ_=>True) De (fs.map nmD) [some (.ref kd),some (.ref a),some (.ref b),y3,some (.ref c),x5,x6] (HS M0 a b c s ag)=R
 |[],s,ag,x5,x6,_,_,hR=>by
  rw[List.map_nil,be];simpa using hR x5 x6
 |x::fs,s,ag,x5,x6,I,hn,hR=>by
  obtain⟨u,hu⟩:=En.mp (I.pd x (.inl DW));have xk:=(I.k x u hu).1;have I':=(lG W hp I).1;have z1:=I.sz;have z2:=W.sz xk;have z3:ag.length<=N.ks.length:=gB hn λz hz=>by
   obtain⟨v,hv⟩:=En.mp (I.pd z (.inr hz));exact (I.k z v hv).1
  have z4:(goF x (N.row x) s).2.length<=0+(N.row x).length:=sJ (N.row x) s [];have ga:HS M0 a b c s ag a=some (dS s.S):=by unfold HS;rw[af hac,af hab,ae]
  have gb:HS M0 a b c s ag b=some (dB s.B):=by unfold HS;rw[af hbc,ae]
  have gE:∀q,q≠a->q≠b->q≠c->HS M0 a b c s ag q=M0 q:=λq q1 q2 q3=>by unfold HS;rw[af q3,af q2,af q1]
  have gK:Eg (HS M0 a b c s ag) kd rp N:=⟨by rw[gE _ ha hb hc];exact hE.kd,λz hz=>by rw[gE _ (hra z hz) (hrb z hz) (hrc z hz)];exact hE.row z hz⟩
  have i1:∀{Q:VK3},ar (.ref kd) (nmD x) (HS M0 a b c s ag) Q=Q (.ref (rp x)) (HS M0 a b c s ag):=λ{Q}=>gK.ix xk
  have i2:∀{Q:VK3}{E:XN},ac T (B cls kls fad) (n+1) 1 [.ref (rp x),nmD x,.ref a,.ref b] (HS M0 a b c s ag) Q E=Q (.rol ((goF x (N.row x) s).2.map nmD)) (HS M0 a b c (goF x (N.row x) s).1 ag):=λ{Q E}=>by
   rw[vg (M:=HS M0 a b c s ag) (((hM.put _ _).put _ _).put _ _) ga gb (gK.row x xk) (hra x xk) (hrb x xk) hab hu (λe he=>((W.row x xk).2 e he).2) (by omega) (by omega)]
   unfold HS;rw[oS hab hac,ka hbc]
  have ih:=λx6=>nY (De:=De) (ES:=ES) (R:=R) (y3:=y3) hM W hp hk hab hac hbc ha hb hc hra hrb hrc hE fs _ _ (some (nmD x)) x6 I' (kl hn) (λx5 x6=>by have:=hR x5 x6;rw[List.foldl_cons]at this;exact this)
  rw[D4,aQ];generalize bN {toWB:=B cls kls fad,call:=ac T (B cls kls fad) (n+1)} (.name 5) cg ES (λ_=>True) De (fs.map nmD)=K at ih ⊢
  simp[cg,wpG,↓i1,↓i2];refine iff_of_eq (nX _ ag x6 (by omega) λx6=>?_)
  exact ih x6
end
section
variable {cls kls fad:Nat->PySem.Addr}{M M0:MH}{Q:VK3}{E:XN}{n:Nat}{a b c d f r kd:PySem.Addr}{x y:Nm}{X:List Nm}{N:Nt}{p:Nm->Int}{rp:Nm->PySem.Addr}
theorem sr{W:WC}{cn:IT}{body:ISs}{De:Ends3}{ES:St3->XN}{σ:St3}:wpS W (.whl cn body) De ES σ M=∃P:Nat->St3->MH->Prop,(∃m,P m σ M)/\∀m σ M,P m σ M->wpT W cn σ M (λb M1=>if b=true then aw W body {De with nx:=λσ' M'=>∃m',m' < m/\P m' σ' M',ct:=λσ' M'=>∃m',m' < m/\P m' σ' M',bk:=De.nx} ES σ M1 else De.nx σ M1) (ES σ):=rfl
noncomputable def HB(M0:MH)(a b:PySem.Addr)(s:SB):MH:=put (put M0 a (dS s.S)) b (dB s.B)
theorem yu{s:SB}{ag:List Nm}(hca:c≠a)(hcb:c≠b):HS M0 a b c s ag=HB (put M0 c (dA ag)) a b s:=by
 unfold HS HB;funext q;unfold put;by_cases q1:q=c
 ·simp[q1,hca,hcb]
 ·simp[q1]
theorem tz{s:SB}{u v:DO}(hm:∀q o,M q=some o->M0 q=some o)(ha:M a=some u)(hb:M b=some v):ak M (HB M0 a b s)=HB M a b s:=by
 unfold HB;rw[l6 hb,l6 ha];congr 2;funext q;unfold ak;cases h:M q with
 |none=>rfl
 |some o=>exact hm q o h
theorem uN{l:List Nm}:l.map c6=l.map nmD:=rfl
theorem j6{ks:List Nm}{es:List D}(h:M c=some (.dt ks es)):rBi (.list true) [.ref c] M Q=(ks.length<=PySem.sizeLine/\Q (.rol (ks.map nmD)) M):=by
 simp[rBi,aT,ah,h,d5,c8,uN]
theorem si:∀{fs:List Nm}{st:SB×List Nm},st.2.Nodup->(fs.foldl (eJ N) st).2.Nodup
 |[],_,h=>h
 |_::fs,_,h=>by rw[List.foldl_cons];exact si (kl h)
def PS(M:MH)(kd a b:PySem.Addr)(N:Nt)(X:List Nm)(sf:SB)(m:Nat)(σ:St3)(M':MH):Prop:=∃(s:SB)(fs:List Nm)(x4 x5 x6:Option D)(M1:MH),σ=[some (.ref kd),some (.ref a),some (.ref b),some (.rol (fs.map nmD)),x4,x5,x6]/\M'=HB M1 a b s/\Fm M1/\(∀q o,M q=some o->M1 q=some o)/\J N X (λz=>z∈fs) s/\Run N m s fs sf
theorem fD{s0 sf:SB}{m:Nat}(hM:Fm M)(W:WN N)(hp:Pot N p)(hk:N.ks.length<200)(hab:a≠b)(ha:M a=some (dS s0.S))(hb:M b=some (dB s0.B))(hka:kd≠a)(hkb:kd≠b)(hra:∀z∈N.ks,rp z≠a)(hrb:∀z∈N.ks,rp z≠b)(hE:Eg M kd rp N)(I:J N X (λz=>z∈K1 s0.S) s0)(R:Run N m s0 (K1 s0.S) sf)(hQ:Q .non (HB M a b sf)) :
  ac T (B cls kls fad) (n+2) 2 [.ref kd,.ref a,.ref b] M Q E:=by
 have z0:=I.sz.1;rw[rL];have ha':M a=some (.dt (K1 s0.S) (s0.S.map λp=>.int p.2)):=ha
 have hl:(K1 s0.S).length<=PySem.sizeLine:=by rw[D5,PySem.sizeLine_eq];omega
 simp[i4,j6 ha',sr];refine⟨by simpa using hl,PS M kd a b N X sf,⟨m,s0,K1 s0.S,none,none,none,M,by simp,?_,hM,λ_ _ h=>h,I,R⟩,?_⟩
 ·unfold HB;funext q;unfold put;by_cases q1:q=b
  ·simp[q1,hb]
  ·by_cases q2:q=a
   ·subst q2;simp[q1,ha]
   ·simp[q1,q2]
 ·rintro m σ M' ⟨s,fs,x4,x5,x6,M1,rfl,rfl,hM1,hm,I,R⟩;cases R with
  |done=>
   simp;rw[tz hm ha hb];exact hQ
  |@step m' _ _ _ hne R=>
   have h0:0<fs.length:=List.length_pos_iff.mpr hne;have h1:Fm (HB M1 a b s):=(hM1.put _ _).put _ _;simp[h0,gP];intro c hc;have hcb:c≠b:=λe=>by unfold HB at hc;rw[e,ae]at hc;cases hc
   have hca:c≠a:=λe=>by unfold HB at hc;rw[e,af hab,ae]at hc;cases hc
   have hc0:M1 c=none:=by unfold HB at hc;rw[af hcb,af hca]at hc;exact hc
   have hE1:=hE.mono hm;have hkc:kd≠c:=λe=>by have:=hE1.kd;rw[e,hc0]at this;cases this
   have hrc:∀z∈N.ks,rp z≠c:=λz hz e=>by have:=hE1.row z hz;rw[e,hc0]at this;cases this
   obtain⟨J1,_⟩:=ik W hp fs s [] (I.mono (λz hz=>.inl hz) λz hz=>I.pd z (by simpa using hz))
   have J2:((stepF N s fs).2).Nodup:=si List.nodup_nil;have J3:(stepF N s fs).2.length<=N.ks.length:=gB J2 λz hz=>by
    obtain⟨v,hv⟩:=En.mp (J1.pd z hz);exact (J1.k z v hv).1
   change bN _ _ _ _ _ _ _ _ (HS M1 a b c s []);have hcc:HS M1 a b c (stepF N s fs).1 (stepF N s fs).2 c=some (.dt (stepF N s fs).2 ((stepF N s fs).2.map λ_=>.bl true)):=ae
   have hls:(stepF N s fs).2.length<=PySem.sizeLine:=by rw[PySem.sizeLine_eq];omega
   rw[nY (R:=True) hM1 W hp hk hab (Ea hca) (Ea hcb) hka hkb hkc hra hrb hrc hE1 fs s [] _ _ (I.mono (λz hz=>.inl hz) λz hz=>I.pd z (by simpa using hz)) List.nodup_nil]
   ·trivial
   ·intro x5 x6;refine eq_true ?_;simp[j6 hcc,hls];refine⟨m',Nat.lt_succ_self _,(stepF N s fs).1,(stepF N s fs).2,some (.ref c),x5,x6,put M1 c (dA (stepF N s fs).2),rfl,yu hca hcb,hM1.put _ _,λq o h=>?_,J1,R⟩
    rw[af (λe=>by rw[e]at h;have:=hm _ _ h;rw[hc0]at this;cases this)]
    exact hm q o h
end
section
variable {cls kls fad:Nat->PySem.Addr}{M M0:MH}{Q:VK3}{E:XN}{n:Nat}{a b c d f r kd nn:PySem.Addr}{x y x0:Nm}{N:Nt}{p:Nm->Int}{rp:Nm->PySem.Addr}
theorem Eg.nin(h:Eg M kd rp N):aG .NotIn (nmD x) (.ref kd) M Q=Q (.bl (!decide (x∈N.ks))) M:=by
 rw[ib (g:=D.ref) h.kd];unfold lR;rw[vA];by_cases h:x∈N.ks<;>simp[h]
theorem gO(h:Eg M kd rp N)(hx:x∈N.ks):ac T (B cls kls fad) (n+1) 0 [.ref kd,nmD x] M Q E=Q .non M:=by
 rw[cz];simp[aS,h.nin,hx]
theorem lT(h:Eg M kd rp N)(hx:x∉N.ks):ac T (B cls kls fad) (n+1) 0 [.ref kd,nmD x] M Q E=E ⟨1,none⟩ M:=by
 rw[cz];simp[aS,h.nin,hx,PySem.sizeLine_eq]
theorem eW{s:SB}{u v:DO}(hab:a≠b):HB (put (put M a u) b v) a b s=HB M a b s:=by
 unfold HB;rw[ka hab,aV]
theorem on{s:SB}(ha:M a=none)(hb:M b=none):ak M (HB M a b s)=M:=by
 unfold HB;rw[mq hb,mq ha,jI]
theorem Eg.ne(h:Eg M kd rp N)(ha:M a=none):kd≠a/\∀z∈N.ks,rp z≠a:=
 ⟨λe=>(by have:=h.kd;rw[e,ha]at this;cases this),λz hz e=>(by have:=h.row z hz;rw[e,ha]at this;cases this)⟩
theorem Eg.new{o:DO}(h:Eg M kd rp N)(ha:M a=none):Eg (put M a o) kd rp N:=h.mono λq u hq=>by
 rw[af (λe=>by rw[e,ha]at hq;cases hq)];exact hq
theorem oK(hM:Fm M)(W:WN N)(hp:Pot N p)(hk:N.ks.length<200)(hE:Eg M kd rp N)(hx:x∈N.ks)
  (hQ:∀a b s,M a=none->M b=none->a≠b->J N [x] (λ_=>False) s->Q (.ref a) (HB M a b s)):ac T (B cls kls fad) (n+3) 4 [.ref kd,nmD x] M Q E:=by
 rw[vh];simp[kZ,gO hE hx];intro a ha;simp[fg,cj,aV];refine⟨ae,λb hb=>?_⟩
 have hab:a≠b:=λe=>by rw[<-e,ae]at hb;cases hb
 have hb0:M b=none:=by rwa [af (Ea hab)]at hb
 obtain⟨m,s,R,I⟩:=ve W hp ⟨[(x,0)],[]⟩ [x] (J.start (X:=[x]) W (by simp) (by simpa using hx))
 have e1:=hE.ne ha;have e2:=hE.ne hb0;refine fD (s0:=⟨[(x,0)],[]⟩) ((hM.put _ _).put _ _) W hp hk hab (by rw[af hab,ae];rfl) ae e1.1 e2.1 e1.2 e2.2 ((hE.new ha).new hb) (J.start (X:=[x]) W (by simp) (by simpa using hx)) R ?_
 rw[eW hab];exact hQ a b s ha hb0 hab I
structure NT (kls:Nat->PySem.Addr)(M:MH)(nn kd:PySem.Addr)(rp:Nm->PySem.Addr)(N:Nt):Prop where
 nn:M nn=some (.ins 0 (kls 0) [245117675] [.ref kd])
 eg:Eg M kd rp N
 inj:∀x∈N.ks,∀y∈N.ks,rp x=rp y->x=y
 fm:Fm M
 wn:WN N
 sz:N.ks.length<200
theorem NT.fld(h:NT kls M nn kd rp N):lh (B cls kls fad) 245117675 (.ref nn) M Q=Q (.ref kd) M:=by
 simp[lh,h.nn]
theorem NT.mth{m f:Nat}{R:Nat->Prop}(h:NT kls M nn kd rp N)(hm:G.mth 0 m=some f)(h1:245117675≠m):fh (B cls kls fad) m (.ref nn) M R=R f:=by
 simp[fh,h.nn,hm,h1]
noncomputable def oi(o:Option Int):D:=(o.map D.int).getD .non
theorem nr(h:NT kls M nn kd rp N)(hp:Pot N p)(hx:x∈N.ks)(hy:y∈N.ks)(hQ:∀o,IsD N x y o->Q (oi o) M):ac T (B cls kls fad) (n+4) 16 [.ref nn,nmD x,nmD y] M Q E:=by
 rw[nU];simp[eQ,h.fld,gO h.eg hy];refine oK h.fm h.wn hp h.sz h.eg hx λa b s ha hb hab I=>?_
 have ga:HB M a b s a=some (.dt (K1 s.S) (s.S.map λp=>.int p.2)):=by unfold HB;rw[af hab,ae];rfl
 simp[vK (g:=D.int) ga,uD (g:=D.int) ga,on ha hb];exact hQ _ (I.isD y)
theorem k8{ds:List D}{d:D}:ar (.rol (ds++[d])) (.int (-1)) M Q=Q d M:=by
 refine bS ?_;have h1:(1:Int)<=(ds.length:Int)+1:=by omega
 have h2:(-1+((ds.length:Int)+1)).toNat=ds.length:=by omega
 simp[atI,ixN,h1,h2]
def PW(M:MH)(b:PySem.Addr)(Bk:List (Nm×Nm))(y:Nm)(k:Nat)(m:Nat)(σ:St3)(M':MH):Prop:=∃(w:PySem.Addr)(l:List Nm)(z:Nm),M w=none/\σ=[some (.ref b),some (nmD y),some (.ref w)]/\M'=put M w (.lst (l.map nmD++[nmD z]))/\Ends Bk z m/\l.length+m<=k/\∀r,Chn Bk z r->Chn Bk y (l++r)
theorem Aq{Bk:List (Nm×Nm)}(hM:Fm M)(hb:M b=some (dB Bk))(hl:Bk.length<300){m:Nat}(he:Ends Bk y m)(hQ:∀l w X p,Chn Bk y l->M w=none->M p=none->p≠w->Q (.ref p) (put (put M w X) p (.lst (l.map nmD).reverse))):ac T (B cls kls fad) (n+1) 3 [.ref b,nmD y] M Q E:=by
 rw[qP];have hm:m<301:=by have:=he.le;rw[D5]at this;omega
 simp[iH,sr];refine⟨by rw[PySem.sizeLine_eq];omega,λw hw=>?_⟩
 refine⟨PW M b Bk y m,⟨m,w,[],y,hw,rfl,by simp,he,by simp,λr h=>h⟩,?_⟩
 rintro k σ M' ⟨w,l,z,hw,rfl,rfl,he,hk,hc⟩;have hbw:b≠w:=λe=>by rw[e,hw]at hb;cases hb
 have hb':put M w (.lst (l.map nmD++[nmD z])) b=some (.dt (K1 Bk) (Bk.map λp=>nmD p.2)):=by rw[af hbw];exact hb
 have i1:∀{Q:VK3},ar (.ref w) (.int (-1)) (put M w (.lst (l.map nmD++[nmD z]))) Q=Q (nmD z) (put M w (.lst (l.map nmD++[nmD z]))):=λ{Q}=>by rw[wA,k8]
 have i2:∀{Q:VK3},aG .In (nmD z) (.ref b) (put M w (.lst (l.map nmD++[nmD z]))) Q=Q (.bl (lk Bk z).isSome) (put M w (.lst (l.map nmD++[nmD z]))):=λ{Q}=>iu (g:=nmD) hb'
 have hlen:(l.map nmD++[nmD z]).length<PySem.sizeLine:=by rw[PySem.sizeLine_eq];simp;omega
 cases he with
 |nil h=>
  simp[↓i1,↓i2,h,rLr,ah,ae,c8];refine⟨by rw[PySem.sizeLine_eq];omega,λp hp=>?_⟩
  have hpw:p≠w:=λe=>by rw[e,ae]at hp;cases hp
  rw[af hpw]at hp;simpa using hQ _ w (.lst (l.map nmD++[nmD z])) p (hc _ (.nil h)) hw hp hpw
 |step h e=>
  rename_i x' k';have i3:∀{Q:VK3},ar (.ref b) (nmD z) (put M w (.lst (l.map nmD++[nmD z]))) Q=Q (nmD x') (put M w (.lst (l.map nmD++[nmD z]))):=λ{Q}=>cV (g:=nmD) hb' h
  simp[↓i1,↓i2,h,gH];rw[i3,fk ae];refine⟨hlen,k',Nat.lt_succ_self _,w,l++[z],x',hw,rfl,by simp[aV],e,by simp;omega,λr hr=>by rw[List.append_assoc];exact hc _ (.step h hr)⟩
end
section
variable {cls kls fad:Nat->PySem.Addr}{M M0:MH}{Q:VK3}{E:XN}{n:Nat}{a b c d f r kd nn:PySem.Addr}{x y x0:Nm}{N:Nt}{p:Nm->Int}{rp:Nm->PySem.Addr}
theorem gX:∀{x y:List Int},bM (x.map D.int) (y.map D.int)=decide (x=y)
 |[],[]=>by simp[bM]
 |[],_::_=>by simp[bM]
 |_::_,[]=>by simp[bM]
 |i::x,j::y=>by
  simp only[D4,bM,eqD,gX (x:=x) (y:=y)];by_cases h:i=j<;>simp[h]
theorem lZ:aG .Eq (nmD x) (nmD y) M Q=Q (.bl (decide (x=y))) M:=by
 simp[aG,kN,rs,ah,nmD,plN,eqD,gX]
theorem rT{d:Int}(hM:Fm M)(W:WN N)(hp:Pot N p)(hk:N.ks.length<200)(hE:Eg M kd rp N)(hx:x∈N.ks)(hy:y∈N.ks)(hd:IsD N x y (some d))(hQ:∀l p M',Way N x y d l->l.length<900->(∀q u,M q=some u->M' q=some u)->M p=none->M' p=some (.lst (l.map nmD).reverse)->Fm M'->Q (.ref p) M'):ac T (B cls kls fad) (n+3) 5 [.ref kd,nmD x,nmD y] M Q E:=by
 rw[kO];simp[fP,gO hE hx,gO hE hy];intro a ha;simp[fg,cj,aV];refine⟨ae,λb hb=>?_⟩
 have hab:a≠b:=λe=>by rw[<-e,ae]at hb;cases hb
 have hb0:M b=none:=by rwa [af (Ea hab)]at hb
 obtain⟨m,s,R,I⟩:=ve W hp ⟨[(x,0)],[]⟩ [x] (J.start (X:=[x]) W (by simp) (by simpa using hx))
 have e1:=hE.ne ha;have e2:=hE.ne hb0;refine fD (s0:=⟨[(x,0)],[]⟩) ((hM.put _ _).put _ _) W hp hk hab (by rw[af hab,ae];rfl) ae e1.1 e2.1 e1.2 e2.2 ((hE.new ha).new hb) (J.start (X:=[x]) W (by simp) (by simpa using hx)) R ?_
 rw[eW hab];have ga:HB M a b s a=some (.dt (K1 s.S) (s.S.map λp=>.int p.2)):=by unfold HB;rw[af hab,ae];rfl
 have gb:HB M a b s b=some (dB s.B):=by unfold HB;rw[ae]
 have hs:lk s.S y=some d:=(I.isD y).uniq hd;have z:=I.sz.2;obtain⟨m,hm⟩:=I.en y;simp[iu (g:=D.int) ga,hs];refine Aq ((hM.put _ _).put _ _) gb (by omega) hm λl w X p hc hw hp' hpw=>?_
 have out:∀{q},HB M a b s q=none->M q=none:=λ{q} h=>by
  unfold HB at h
  rwa [af (λe=>by rw[e,ae]at h;cases h),af (λe=>by
   rw[e,ae]at h;cases h)]at h
 refine hQ l p _ (I.way hp hc hs) (by have:=hc.len;omega) (λq u hq=>?_) (out hp') ae ((((hM.put _ _).put _ _).put _ _).put _ _)
 have nq:∀{z},M z=none->q≠z:=λ{z} hz e=>by rw[e,hz]at hq;cases hq
 rw[af (nq (out hp')),af (nq (out hw))];unfold HB;rw[af (nq hb0),af (nq ha)];exact hq
theorem lj{M M':MH}(h:∀q u,M q=some u->M' q=some u):ak M M'=M:=by
 funext q;unfold ak;cases e:M q with
 |none=>simp
 |some u=>simp[h q u e]
theorem Ar{m:Int}(h:NT kls M nn kd rp N)(hp:Pot N p)(hx:x∈N.ks)(hy:y∈N.ks)(hQ:(∀d,IsD N y x (some d)->0<=d+m)->Q .non M)(hE:∀d l,IsD N y x (some d)->d+m<0->Way N y x d l->l.length<900->E ⟨2,some (217822450,.rol (l.map nmD).reverse)⟩ M):ac T (B cls kls fad) (n+5) 8 [.ref nn,nmD x,nmD y,.int m] M Q E:=by
 rw[bZ];simp[aC,h.fld,h.eg.nin,hx,hy,h.mth eO];refine nr h hp hy hx λo ho=>?_
 cases o with
 |none=>
  simp[oi];exact hQ λd hd=>by cases ho.uniq hd
 |some d=>
  by_cases hd:d+m<0
  ·simp[oi,hd,h.mth cS,cM,br,h.fld];refine rT h.fm h.wn hp h.sz h.eg hy hx ho λl p' M' hw hlw ke _ hp' _=>?_
   simp[rXp,cpF,ah,hp',lj ke];simpa using hE d l ho hd hw hlw
  ·simp[oi,hd];refine hQ λd' hd'=>?_
   cases ho.uniq hd';omega
theorem iW(h:NT kls M nn kd rp N)(hx:x∈N.ks):ac T (B cls kls fad) (n+1) 9 [.ref nn,nmD x] M Q E=Q .non M:=by
 rw[iS];simp[cQ,h.fld,h.eg.nin,hx]
theorem NT.add{m:Int}(h:NT kls M nn kd rp N)(hx:x∈N.ks)(hy:y∈N.ks)(hn:x≠y):NT kls (put M (rp x) (dR (ins (N.row x) y (min m ((lk (N.row x) y).getD m))))) nn kd rp (jj N x y m):=by
 have hr:=h.eg.row x hx;have n1:nn≠rp x:=λe=>by have:=h.nn;rw[e,hr]at this;cases this
 have n2:kd≠rp x:=λe=>by
  have:=h.eg.kd;rw[e,hr]at this;unfold dK dR at this;injection this with this
  injection this with t1 t2
  have hl:(lR N rp).length≠0:=by
   unfold lR;rw[D5];have:=List.length_pos_of_mem hx;omega
  cases h1:lR N rp with
  |nil=>rw[h1]at hl;exact hl rfl
  |cons u l=>
   cases h2:N.row x with
   |nil=>rw[h1,h2]at t2;cases t2
   |cons v k=>rw[h1,h2]at t2;simp at t2
 refine⟨by rw[af n1];exact h.nn,⟨by rw[af n2];exact h.eg.kd,λz hz=>?_⟩,h.inj,h.fm.put _ _,ox h.wn hy hn,h.sz⟩
 have hz:z∈N.ks:=hz;show _=some (dR (if z=x then _ else _))
 by_cases e:z=x
 ·subst e;rw[ae,DY rfl]
 ·rw[af (λq=>e (h.inj z hz x hx q)),DV e];exact h.eg.row z hz
noncomputable def nw(N:Nt)(x:Nm):Nt:=if x∈N.ks then N else⟨N.ks++[x],λz=>if z=x then [] else N.row z⟩
theorem dc(h:x∈N.ks):nw N x=N:=DY h
theorem cw(h:x∉N.ks):nw N x=⟨N.ks++[x],λz=>if z=x then [] else N.row z⟩:=DV h
theorem gW{α:Type}{v:α}:∀{l:List (Nm×α)},x∉K1 l->ins l x v=l++[(x,v)]
 |[],_=>rfl
 |(q,u)::l,h=>by
  simp only[K1,D4,DX,not_or]at h;simp only[ins,DV (Ea h.1)];rw[gW (l:=l) h.2];rfl
theorem NT.kr(h:NT kls M nn kd rp N)(hx:x∈N.ks):kd≠rp x:=λe=>by
 have:=h.eg.kd;rw[e,h.eg.row x hx]at this;unfold dK dR at this;injection this with this
 injection this with t1 t2
 have hl:(lR N rp).length≠0:=by
  unfold lR;rw[D5];have:=List.length_pos_of_mem hx;omega
 cases h1:lR N rp with
 |nil=>rw[h1]at hl;exact hl rfl
 |cons u l=>
  cases h2:N.row x with
  |nil=>rw[h1,h2]at t2;cases t2
  |cons v k=>rw[h1,h2]at t2;simp at t2
theorem Ae(W:WN N):WN (nw N x):=by
 by_cases h:x∈N.ks
 ·rw[dc h];exact W
 ·rw[cw h];refine⟨?_,λz hz=>?_⟩
  ·rw[List.nodup_append];exact⟨W.nd,by simp,λa ha b hb=>by rw[Eh.mp hb];exact λe=>h (e▸ha)⟩
  ·by_cases e:z=x
   ·simp only[e,if_true];exact⟨List.nodup_nil,λ_ q=>by cases q⟩
   ·have hz':z∈N.ks:=by
     rcases Eo.mp hz with q|q
     ·exact q
     ·exact absurd (Eh.mp q) e
    simp only[DV e];exact⟨(W.row z hz').1,λa ha=>⟨Ev _ ((W.row z hz').2 a ha).1,((W.row z hz').2 a ha).2⟩⟩
theorem nw_ed{a b:Nm}{w:Int}:Ed (nw N x) a b w<->Ed N a b w:=by
 by_cases h:x∈N.ks
 ·rw[dc h]
 ·rw[cw h];unfold Ed;by_cases e:a=x
  ·subst e;simp[h]
  ·simp[e]
theorem qr:x∈(nw N x).ks:=by
 by_cases h:x∈N.ks
 ·rw[dc h];exact h
 ·rw[cw h];simp
theorem vW{z:Nm}(h:z∈N.ks):z∈(nw N x).ks:=by
 by_cases e:x∈N.ks
 ·rw[dc e];exact h
 ·rw[cw e];simp[h]
theorem mP(h:NT kls M nn kd rp N)(hz:N.ks.length<190)(hQ:∀M' rp',NT kls M' nn kd rp' (nw N x)->Q .non M'):ac T (B cls kls fad) (n+1) 9 [.ref nn,nmD x] M Q E:=by
 by_cases hx:x∈N.ks
 ·rw[iW h hx];exact hQ M rp (by rw[dc hx];exact h)
 rw[iS];simp[cQ,h.fld,h.eg.nin,hx];intro r hr;have n1:nn≠r:=λe=>by have:=h.nn;rw[e,hr]at this;cases this
 have e1:=h.eg.ne hr;have hnn:put M r (.dt [] []) nn=some (.ins 0 (kls 0) [245117675] [.ref kd]):=by rw[af n1];exact h.nn
 have hkd:put M r (.dt [] []) kd=some (.dt (K1 (lR N rp)) ((lR N rp).map λe=>.ref e.2)):=by rw[af e1.1];exact h.eg.kd
 simp[lh,hnn];rw[gh (g:=D.ref) hkd (by unfold lR;rw[D5];omega)]
 have hks:K1 (lR N rp)=N.ks:=by unfold lR;simp[Function.comp_def]
 rw[gW (by rw[hks];exact hx)]
 have hrp:∀z∈N.ks,(if z=x then r else rp z)=rp z:=λz hz=>DV λe:z=x=>hx (by rw[<-e];exact hz)
 refine hQ _ (λz=>if z=x then r else rp z) ⟨?_,⟨?_,?_⟩,?_,((h.fm.put _ _).put _ _),Ae h.wn,?_⟩
 ·rw[af (λe=>by have:=h.nn;rw[e,h.eg.kd]at this;cases this)];exact hnn
 ·rw[ae];have:lR (nw N x) (λz=>if z=x then r else rp z)=lR N rp++[(x,r)]:=by
   rw[cw hx];unfold lR;simp;exact λz hz e=>absurd (e▸hz) hx
  unfold dK;rw[this]
 ·intro z hz;rw[cw hx]at hz ⊢;rcases Eo.mp hz with hz|hz
  ·show put _ kd _ (if z=x then r else rp z)=some (dR (if z=x then [] else N.row z))
   rw[hrp z hz,af (Ea (h.kr hz)),af (e1.2 z hz),DV (λe:z=x=>hx (e▸hz))]
   exact h.eg.row z hz
  ·rw[Eh.mp hz];show put _ kd _ (if x=x then r else rp x)=some (dR (if x=x then [] else N.row x))
   rw[DY rfl,DY rfl,af (Ea e1.1),ae];rfl
 ·rw[cw hx];intro u hu v hv e;rcases Eo.mp hu with hu|hu<;>rcases Eo.mp hv with hv|hv
  ·rw[hrp u hu,hrp v hv]at e;exact h.inj u hu v hv e
  ·rw[hrp u hu,Eh.mp hv,DY rfl]at e;exact absurd e (e1.2 u hu)
  ·rw[hrp v hv,Eh.mp hu,DY rfl]at e;exact absurd e.symm (e1.2 v hv)
  ·rw[Eh.mp hu,Eh.mp hv]
 ·rw[cw hx];show (N.ks++[x]).length<200;simp;omega
theorem ph{m:Int}(h:NT kls M nn kd rp N)(hx:¬ (x∈N.ks/\y∈N.ks)):ac T (B cls kls fad) (n+5) 8 [.ref nn,nmD x,nmD y,.int m] M Q E=Q .non M:=by
 rw[bZ];by_cases h1:x∈N.ks
 ·have h2:y∉N.ks:=λz=>hx ⟨h1,z⟩
  simp[aC,h.fld,h.eg.nin,h1,h2]
 ·simp[aC,h.fld,h.eg.nin,h1]
theorem xD:(nw N x).ks.length<=N.ks.length+1:=by
 by_cases h:x∈N.ks
 ·rw[dc h];omega
 ·rw[cw h];simp
theorem zX{m:Int}(h:NT kls M nn kd rp N)(hp:Pot N p)(hz:N.ks.length<150)(hn:x≠y)(hr:∀d,IsD N y x (some d)->0<=d+m)(hQ:∀M' rp',NT kls M' nn kd rp' (jj (nw (nw N x) y) x y m)->Q .non M'):ac T (B cls kls fad) (n+6) 10 [.ref nn,nmD x,nmD y,.int m] M Q E:=by
 have rr:∀{Q:VK3}{E:XN},Q .non M->ac T (B cls kls fad) (n+5) 8 [.ref nn,nmD x,nmD y,.int m] M Q E:=λ{Q E} hq=>by
  by_cases hxy:x∈N.ks/\y∈N.ks
  ·exact Ar h hp hxy.1 hxy.2 (λ_=>hq) (λd l h1 h2 _ _=>absurd (hr d h1) (by omega))
  ·rw[ph h hxy];exact hq
 rw[dY];simp[bQ,lZ,hn,h.mth cf];refine rr ?_;simp[h.mth cR];refine mP h (by omega) λM1 rp1 h1=>?_
 have l1:=xD (N:=N) (x:=x);rw[h1.mth cR (by decide)]
 refine mP h1 (by omega) λM2 rp2 h2=>?_
 have hx2:x∈(nw (nw N x) y).ks:=vW qr;have hy2:y∈(nw (nw N x) y).ks:=qr;have hr':M2 (rp2 x)=some (.dt (K1 ((nw (nw N x) y).row x)) (((nw (nw N x) y).row x).map λe=>.int e.2)):=h2.eg.row x hx2
 simp[h2.fld,h2.eg.ix hx2,vK (g:=D.int) hr',xC (g:=D.int) hr'];have hz':=h2.wn.sz hx2;have hz2:=h2.sz;have hmin:(if (lk ((nw (nw N x) y).row x) y).getD m<m then (lk ((nw (nw N x) y).row x) y).getD m else m)=min m ((lk ((nw (nw N x) y).row x) y).getD m):=by
  split<;>omega
 rw[hmin,gh (g:=D.int) hr' (by omega)]
 exact hQ _ _ (h2.add hx2 hy2 hn)
end
section
variable {cls kls fad:Nat->PySem.Addr}{M M0:MH}{Q:VK3}{E:XN}{n:Nat}{a b c d f r kd nn:PySem.Addr}{x y x0:Nm}{N:Nt}{p:Nm->Int}{rp:Nm->PySem.Addr}
theorem oP{W:WC}{tg:ITg}{o:IE}{body:ISs}{De:Ends3}{ES:St3->XN}{σ:St3}:wpS W (.forK tg o body) De ES σ M=wpE W o σ M (λx M1=>dm x M1 λd ks es=>∀φ,bN W tg body (λ_ _ _=>False) (λM=>M d=some (.stl φ)) (f8 d φ ks es De) (ks.map c6) σ (put M1 d (.stl φ))) (ES σ):=rfl
noncomputable def zr(l:List Nm):List (Nm×Int):=l.map λx=>(x,0)
theorem kE{l:List Nm}:K1 (zr l)=l:=by unfold zr;simp[Function.comp_def]
theorem jL{W:WC}{φ:PySem.Heap->Prop}(hda:kd≠a)(hd:M0 kd=some (.stl φ)){De:Ends3}{ES:St3->XN}{R:Prop}{y0:Option D}:∀(post pre:List Nm)(x2:Option D),(pre++post).Nodup->(pre++post).length<300->
  (∀x2,De.nx [y0,some (.ref a),x2] (put M0 a (dS (zr (pre++post))))=R)->
  bN W (.name 2) bT ES (λM=>M kd=some (.stl φ)) De (post.map nmD) [y0,some (.ref a),x2] (put M0 a (dS (zr pre)))=R
 |[],pre,x2,_,_,hR=>by
  have hS:put M0 a (dS (zr pre)) kd=some (.stl φ):=by rw[af hda];exact hd
  have:=hR x2;rw[EO]at this;rw[List.map_nil,be];simp[hS,this]
 |z::post,pre,x2,hn,hl,hR=>by
  have hS:put M0 a (dS (zr pre)) kd=some (.stl φ):=by rw[af hda];exact hd
  have hz:z∉K1 (zr pre):=λh=>by
   rw[kE]at h;rw[List.nodup_append]at hn;exact hn.2.2 z h z DW rfl
  have ga:put M0 a (dS (zr pre)) a=some (.dt (K1 (zr pre)) ((zr pre).map λp=>.int p.2)):=ae
  have e1:(pre++[z])++post=pre++z::post:=by simp
  have hlp:(zr pre).length<900:=by unfold zr;rw[D5];rw[Ew]at hl;omega
  have s1:∀{R:MH->Prop},bo (.ref a) (nmD z) (.int 0) (put M0 a (dS (zr pre))) R=R (put M0 a (dS (zr (pre++[z])))):=λ{R}=>by
   rw[gh (g:=D.int) ga hlp,aV,gW hz];unfold zr dS;simp
  rw[D4,aQ,<-jL (W:=W) (ES:=ES) (De:=De) (R:=R) (y0:=y0) hda hd post (pre++[z]) (some (nmD z)) (by rw[e1];exact hn) (by rw[e1];exact hl) (by rw[e1];exact hR)]
  simp[wpG,bT,hS,↓s1]
theorem oW{l:List Nm}:l.map c6=l.map nmD:=rfl
theorem fB:K1 (lR N rp)=N.ks:=by unfold lR;simp[Function.comp_def]
theorem uE(h:NT kls M nn kd rp N)(hp:Pot N p)(hQ:∀s,J N N.ks (λ_=>False) s->Q (.dit (K1 s.S) (s.S.map λp=>.int p.2)) M):ac T (B cls kls fad) (n+3) 15 [.ref nn] M Q E:=by
 rw[lI];simp[db,oP];intro a ha;have e1:=h.eg.ne ha;have n1:nn≠a:=λe=>by have:=h.nn;rw[e,ha]at this;cases this
 have h1:NT kls (put M a (.dt [] [])) nn kd rp N:=⟨by rw[af n1];exact h.nn,h.eg.new ha,h.inj,h.fm.put _ _,h.wn,h.sz⟩
 have hkd:put M a (.dt [] []) kd=some (.dt (K1 (lR N rp)) ((lR N rp).map λe=>.ref e.2)):=h1.eg.kd
 simp[h1.fld];unfold dm;simp only[hkd];intro φ;have hak:a≠kd:=Ea e1.1;have sw:put (put M a (.dt [] [])) kd (.stl φ)=put (put M kd (.stl φ)) a (dS (zr [])):=by
  funext q;unfold put;by_cases q1:q=kd
  ·simp[q1,e1.1]
  ·simp[q1];rfl
 rw[sw,fB,oW];have bk:put (put (put M kd (.stl φ)) a (dS (zr N.ks))) kd (.dt N.ks ((lR N rp).map λe=>.ref e.2))=put M a (dS (zr N.ks)):=by
  have hk:M kd=some (.dt N.ks ((lR N rp).map λe=>.ref e.2)):=by rw[h.eg.kd];unfold dK;rw[fB]
  funext q;unfold put;by_cases q1:q=kd
  ·simp[q1,e1.1,hk]
  ·simp[q1]
 have hsz:=h.sz;rw[jL (R:=True) (M0:=put M kd (.stl φ)) e1.1 ae N.ks [] none (by simpa using h.wn.nd) (by simp;omega)]
 ·trivial
 intro x2;rw[List.nil_append];refine eq_true ?_;change put (put M kd (.stl φ)) a (dS (zr N.ks)) kd=some (.stl φ)/\aw _ _ _ _ _ (put (put (put M kd (.stl φ)) a (dS (zr N.ks))) kd (.dt N.ks ((lR N rp).map λe=>.ref e.2)))
 refine⟨by rw[af e1.1,ae],?_⟩
 rw[bk];have h2:NT kls (put M a (dS (zr N.ks))) nn kd rp N:=⟨by rw[af n1];exact h.nn,h.eg.new ha,h.inj,h.fm.put _ _,h.wn,h.sz⟩
 simp[h2.fld];intro b hb;have hab:a≠b:=λe=>by rw[<-e,ae]at hb;cases hb
 have hb0:M b=none:=by rwa [af (Ea hab)]at hb
 have e2:=h.eg.ne hb0;have I0:=J.start (X:=N.ks) h.wn h.wn.nd (λ_ hx=>hx)
 obtain⟨m,s,R,I⟩:=ve h.wn hp _ _ I0;refine fD (s0:=⟨zr N.ks,[]⟩) (X:=N.ks) ((h.fm.put _ _).put _ _) h.wn hp h.sz hab (by rw[af hab,ae]) ae e1.1 e2.1 e1.2 e2.2 ((h.eg.new ha).new hb) (by rw[kE];exact I0) (by rw[kE];exact R) ?_
 rw[eW hab];have ga:HB M a b s a=some (dS s.S):=by unfold HB;rw[af hab,ae]
 have kp:ak M (L2.del (HB M a b s) a)=M:=by rw[rV ha,on ha hb0]
 simp[ck,ga,dS];rw[kp];exact hQ s I
end
section
variable {cls kls fad:Nat->PySem.Addr}{M M0:MH}{Q:VK3}{E:XN}{n:Nat}{a b c d f r kd nn:PySem.Addr}{x y x0:Nm}{N:Nt}{p:Nm->Int}{rp:Nm->PySem.Addr}
theorem qX:∀(l:List (Nm×PySem.Addr)),aj (K1 l) (l.map λe=>.ref e.2)=l.map λe=>.tup [nmD e.1,.ref e.2]
 |[]=>rfl
 |e::l=>by
  have ih:=qX l;unfold aj at ih ⊢;simp only[K1,D4,List.zip_cons_cons]at ih ⊢;rw[ih];rfl
noncomputable abbrev di(S:List (Nm×Int)):D:=.dit (K1 S) (S.map λp=>.int p.2)
theorem tp{S:List (Nm×Int)}{x:Nm}{v:Int}(hv:lk S x=some v):ar (di S) (nmD x) M Q=Q (.int v) M:=by
 have e:=dX D.int (k:=x) (l:=S);rw[hv]at e;simp only[ar,aT,ah,hJ,gV,d5,cj,e,Option.map]
noncomputable def ups(S row:List (Nm×Int))(f:Int):List Int:=(row.filter λe=>(lk S e.1).isSome).map λe=>(lk S e.1).getD 0-e.2-f
noncomputable def eF(S:List (Nm×Int))(f:Int):D->D
 |.tup [.tup k,.int w]=>match bX k with
  |some k=>.int ((lk S k).getD 0-w-f)
  |none=>.non
 |_=>.non
noncomputable def eC(S:List (Nm×Int)):D->Bool
 |.tup [.tup k,.int w]=>match bX k with
  |some k=>(lk S k).isSome
  |none=>false
 |_=>false
theorem wW{S row:List (Nm×Int)}{f:Int}:((row.map eD).filter (eC S)).map (eF S f)=(ups S row f).map D.int:=by
 unfold ups;rw[List.filter_map,List.map_map,List.map_map];have e1:(eC S∘eD)=λe=>(lk S e.1).isSome:=by funext e;simp[eC,eD,nmD,ints_of]
 have e2:(eF S f∘eD)=(D.int∘λe=>(lk S e.1).getD 0-e.2-f):=by funext e;simp[eF,eD,nmD,ints_of]
 rw[e1,e2]
theorem tj{W:WC}{S F row:List (Nm×Int)}{f:Int}(hM:Fm M)(hr:M r=some (dR row))(ha:M a=some (dS S))(hra:r≠a)(hF:lk F x=some f)(hz:row.length<900)(hQ:∀p,M p=none->Q (.ref p) (put M p (.lst ((ups S row f).map D.int)))) :
  nt W (.tup [0,1]) (.yes (.cmp .In V0 V2)) (.bin .Sub (.bin .Sub (.ix V2 V0) V1) (.ix V3 V4)) [none,none,some (.ref a),some (di F),some (nmD x)] Q (.ref r) M:=by
 unfold nt dm;simp only[hr,dR];intro φ p hp;have hpr:p≠r:=λe=>by rw[e,hr]at hp;cases hp
 rw[i6];have h1:put M r (.stl φ) p=none:=by rw[af hpr];exact hp
 have ga:∀{M'},Ext (put M r (.stl φ)) M'->M' a=some (.dt (K1 S) (S.map λp=>.int p.2)):=λ{M'} hE=>hE.2 _ _ (by rw[af (Ea hra)];exact ha)
 refine (iff_of_eq (gq (S:=λM=>M r=some (.stl φ)) (λσ=>∃x0 x1,σ=[x0,x1,some (.ref a),some (di F),some (nmD x)]) (λd=>match d with
  |.tup [k,w]=>[some k,some w,some (.ref a),some (di F),some (nmD x)]
  |_=>[]) (eC S) (eF S f) (row.map eD) [] _ ⟨none,none,rfl⟩ (hM.put _ _) h1 (by rw[PySem.sizeLine_eq];simp;omega) (λM' hE=>hE.2 _ _ ae) ?_ ?_ ?_)).mpr ?_
 ·intro d hd;obtain⟨e,he,rfl⟩:=EB.mp hd;refine⟨⟨_,_,rfl⟩,?_⟩;rintro σ ⟨x0,x1,rfl⟩ M k;simp[wpG,eD]
 ·intro d hd M' hE Q';obtain⟨e,he,rfl⟩:=EB.mp hd;have i2:∀{Q:VK3},aG .In (nmD e.1) (.ref a) M' Q=Q (.bl (lk S e.1).isSome) M':=λ{Q}=>iu (g:=D.int) (ga hE)
  simp[eD,fZ,↓i2];simp[eC,nmD,ints_of]
 ·intro d hd hc M' hE Q';obtain⟨e,he,rfl⟩:=EB.mp hd;simp only[eC,eD,nmD,ints_of]at hc;obtain⟨v,hv⟩:=En.mp hc;have i1:∀{Q:VK3},ar (.ref a) (nmD e.1) M' Q=Q (.int v) M':=λ{Q}=>cV (g:=D.int) (ga hE) hv
  simp[eD,↓i1,↓tp hF];simp[eF,nmD,ints_of,hv]
 ·rw[List.nil_append,wW];have e:put (put (put M r (.stl φ)) p (.lst ((ups S row f).map D.int))) r (.dt (K1 row) (row.map λe=>.int e.2))=put M p (.lst ((ups S row f).map D.int)):=by
   funext q;unfold put;by_cases q1:q=r
   ·simp[q1,Ea hpr,hr,dR]
   ·simp[q1]
  rw[e];exact hQ p hp
structure LI (M:MH)(kd f:PySem.Addr)(φ:PySem.Heap->Prop)(ls:List Int)(M':MH):Prop where
 fl:M' f=some (.lst (ls.map D.int))
 st:M' kd=some (.stl φ)
 kp:∀q u,M q=some u->q≠kd->M' q=some u
 fm:Fm M'
theorem eP{W:WC}{φ:PySem.Heap->Prop}{S F:List (Nm×Int)}(hk:N.ks.length<200)(hW:WN N)(hE:Eg M kd rp N)(hkr:∀x∈N.ks,kd≠rp x)(ha:M a=some (dS S))(hka:kd≠a)(hra:∀x∈N.ks,rp x≠a)(hf:M f=none)(hF:∀x∈N.ks,∃v,lk F x=some v){De:Ends3}{ES:St3->XN}:∀(post:List Nm)(ls:List Int)(M':MH)(x4 x5:Option D),(∀x∈post,x∈N.ks)->ls.length+200*post.length<=40000->LI M kd f φ ls M'->
  (∀ls' M' x4 x5,LI M kd f φ ls' M'->ls'.length<=40000->(∀l∈ls,l∈ls')->(∀x∈post,lk S x=none->∀v,lk F x=some v->∀e∈N.row x,∀u,lk S e.1=some u->u-e.2-v∈ls')->De.nx [some (.ref kd),some (.ref a),some (di F),some (.ref f),x4,x5] M')->
  bN W (.tup [4,5]) aN ES (λM=>M kd=some (.stl φ)) De (post.map λz=>.tup [nmD z,.ref (rp z)]) [some (.ref kd),some (.ref a),some (di F),some (.ref f),x4,x5] M'
 |[],ls,M',x4,x5,_,hl,I,hR=>by
  rw[List.map_nil,be];exact⟨I.st,hR ls M' x4 x5 I (by omega) (λ_ h=>h) (λ_ h=>by cases h)⟩
 |z::post,ls,M',x4,x5,hs,hl,I,hR=>by
  have hz:=hs z DW;have ga:M' a=some (.dt (K1 S) (S.map λp=>.int p.2)):=I.kp _ _ ha (Ea hka)
  have gr:M' (rp z)=some (dR (N.row z)):=I.kp _ _ (hE.row z hz) (Ea (hkr z hz));rw[D4,aQ];rw[Em]at hl;refine⟨I.st,?_⟩;have i2:∀{Q:VK3},aG .NotIn (nmD z) (.ref a) M' Q=Q (.bl (!(lk S z).isSome)) M':=λ{Q}=>ib (g:=D.int) ga
  cases hS:lk S z with
  |some v=>
   have ih:=λx4 x5=>eP (W:=W) (De:=De) (ES:=ES) hk hW hE hkr ha hka hra hf hF post ls M' x4 x5 (λx h=>hs x (DT _ h)) (by omega) I (λls' M' x4 x5 I' hl' h1 h2=>hR ls' M' x4 x5 I' hl' h1 (λx hx hn=>by
    rcases DX.mp hx with rfl|hx
    ·rw[hS]at hn;cases hn
    ·exact h2 x hx hn))
   simp[wpG,aN,↓i2,hS];exact ih _ _
  |none=>
   obtain⟨v,hv⟩:=hF z hz;simp[wpG,aN,↓i2,hS,ay];have tl:tyB .extend (.ref f) M'=true:=by simp[tyB,isLstM,I.fl]
   refine⟨tl,?_⟩;have hzr:=hW.sz hz;refine tj I.fm gr ga (hra z hz) hv (by omega) λp hp=>?_
   have hpf:f≠p:=λe=>by rw[<-e,I.fl]at hp;cases hp
   have hpk:kd≠p:=λe=>by rw[<-e,I.st]at hp;cases hp
   have gf:put M' p (.lst ((ups S (N.row z) v).map D.int)) f=some (.lst (ls.map D.int)):=by rw[af hpf];exact I.fl
   have hu:(ups S (N.row z) v).length<=200:=by
    unfold ups;rw[D5];have:=List.length_filter_le (λe=>(lk S e.1).isSome) (N.row z)
    omega
   simp only[rBm,gf,ah,ae];refine⟨by rw[PySem.sizeLine_eq];simp;omega,?_⟩
   have hfk:kd≠f:=λe=>by have:=hE.kd;rw[e,hf]at this;cases this
   rw[<-List.map_append];refine eP hk hW hE hkr ha hka hra hf hF post (ls++ups S (N.row z) v) _ _ _ (λx h=>hs x (DT _ h)) (by rw[Ew];omega) ⟨ae,by rw[af hfk,af hpk];exact I.st,λq u hq hqk=>?_,(I.fm.put _ _).put _ _⟩ (λls' M' x4 x5 I' hl' h1 h2=>hR ls' M' x4 x5 I' hl' (λl h=>h1 l (Ev _ h)) (λx hx hn w hw e he u hu'=>by
    rcases DX.mp hx with rfl|hx
    ·rw[hv]at hw;cases hw;refine h1 _ (El _ (EB.mpr ⟨e,List.mem_filter.mpr ⟨he,by rw[hu'];rfl⟩,by rw[hu'];rfl⟩))
    ·exact h2 x hx hn w hw e he u hu'))
   rw[af (λe=>by rw[e,hf]at hq;cases hq),af (λe=>by
    have:=I.kp q u hq hqk;rw[e,hp]at this;cases this)]
   exact I.kp q u hq hqk
theorem uW{S F:List (Nm×Int)}(hM:Fm M)(hk:N.ks.length<200)(hW:WN N)(hE:Eg M kd rp N)(hkr:∀x∈N.ks,kd≠rp x)(ha:M a=some (dS S))(hka:kd≠a)(hra:∀x∈N.ks,rp x≠a)(hF:∀x∈N.ks,∃v,lk F x=some v)
  (hQ:∀(ls:List Int) f M',ls.length<=40000->M f=none->M' f=some (.lst (ls.map D.int))->(∀q u,M q=some u->M' q=some u)->Fm M'->(∀x∈N.ks,lk S x=none->∀v,lk F x=some v->∀e∈N.row x,∀u,lk S e.1=some u->u-e.2-v∈ls)->Q (.ref f) M'):ac T (B cls kls fad) (n+1) 6 [.ref kd,.ref a,di F] M Q E:=by
 rw[iV];simp[bV,oq];intro f hf;have hkf:kd≠f:=(hE.ne hf).1;have hkd:put M f (.lst []) kd=some (.dt (K1 (lR N rp)) ((lR N rp).map λe=>.ref e.2)):=by rw[af hkf];exact hE.kd
 unfold dm;simp only[hkd];intro φ;rw[qX];have el:(lR N rp).map (λe=>D.tup [nmD e.1,.ref e.2])=N.ks.map λz=>.tup [nmD z,.ref (rp z)]:=by unfold lR;rw[List.map_map];rfl
 rw[el];refine eP hk hW hE hkr ha hka hra hf hF N.ks [] _ none none (λ_ h=>h) (by simp;omega) ⟨by rw[af (Ea hkf),ae];rfl,ae,λq u hq hqk=>?_,(hM.put _ _).put _ _⟩ λls M' x4 x5 I hl _ h2=>?_
 ·rw[af hqk,af (λe=>by rw[e,hf]at hq;cases hq)];exact hq
 ·change M' kd=some (.stl φ)/\aw _ _ _ _ _ (put M' kd (.dt (K1 (lR N rp)) ((lR N rp).map λe=>.ref e.2)))
  refine⟨I.st,?_⟩;simp;refine hQ ls f _ hl hf (by rw[af (Ea hkf)];exact I.fl) (λq u hq=>?_) (I.fm.put _ _) h2
  by_cases e:q=kd
  ·subst e;rw[ae];rw[<-hq];exact hE.kd.symm
  ·rw[af e];exact I.kp q u hq e
end
section
variable {cls kls fad:Nat->PySem.Addr}{M M0 M':MH}{Q:VK3}{E:XN}{n:Nat}{a b c d f r kd nn:PySem.Addr}{x y x0:Nm}{N:Nt}{p:Nm->Int}{rp:Nm->PySem.Addr}
def Kp(M M':MH):Prop:=∀q u,M q=some u->M' q=some u
theorem NT.kp(h:NT kls M nn kd rp N)(k:Kp M M')(hM:Fm M'):NT kls M' nn kd rp N:=⟨k _ _ h.nn,h.eg.mono k,h.inj,hM,h.wn,h.sz⟩
theorem Kp.put{o:DO}(k:Kp M M')(h:M a=none):Kp M (put M' a o):=λq u hq=>by
 rw[af (λe=>by rw[e,h]at hq;cases hq)];exact k q u hq
theorem Kp.rfl:Kp M M:=λ_ _ h=>h
theorem Kp.trans(h:Kp M M0)(g:Kp M0 M'):Kp M M':=λq u hq=>g q u (h q u hq)
theorem Kp.none(k:Kp M M')(h:M' a=none):M a=none:=by
 cases e:M a with
 |none=>rfl
 |some u=>rw[k a u e]at h;cases h
noncomputable def mz:List Int->Int
 |[]=>0
 |n::ns=>ns.foldl (mmI true) n
theorem oh:∀(l:List Int)(n:Int),n<=l.foldl (mmI true) n/\∀i∈l,i<=l.foldl (mmI true) n
 |[],n=>⟨Int.le_refl _,λ_ h=>by cases h⟩
 |j::l,n=>by
  obtain⟨h1,h2⟩:=oh l (mmI true n j);have h3:n<=mmI true n j/\j<=mmI true n j:=by unfold mmI;simp only[if_true];split<;>omega
  rw[List.foldl_cons];refine⟨by omega,λi hi=>?_⟩
  rcases DX.mp hi with rfl|hi
  ·omega
  ·exact h2 i hi
theorem vn{i:Int}{l:List Int}(h:i∈l):i<=mz l:=by
 cases l with
 |nil=>cases h
 |cons n l=>
  obtain⟨h1,h2⟩:=oh l n;rcases DX.mp h with rfl|h
  ·exact h1
  ·exact h2 i h
theorem fY:∀{l:List Int},gD (l.map D.int)=some l
 |[]=>rfl
 |i::l=>by rw[D4,gD,fY (l:=l)]
theorem wX{l:List Int}(h:M a=some (.lst (l.map D.int))):lz true (.ref a) M Q=Q (.int (mz l)) M:=by
 simp only[lz,ah,h,fY];cases l<;>rfl
noncomputable def gt(S F:List (Nm×Int))(L:Int)(z:Nm):Int:=match lk S z with
 |some v=>v
 |none=>(lk F z).getD 0+L
noncomputable def tl(g:Nm->Int)(l:List Nm):List (Nm×Int):=l.map λz=>(z,g z)
theorem oF{g:Nm->Int}{l:List Nm}:K1 (tl g l)=l:=by unfold tl;simp[Function.comp_def]
theorem jY{W:WC}{φ:PySem.Heap->Prop}{S F:List (Nm×Int)}{L:Int}(hkq:kd≠c)(hqa:a≠c)(hd:M0 kd=some (.stl φ))(ha:M0 a=some (dS S)){De:Ends3}{ES:St3->XN}{R:Prop}{y0 y1 y2 y3 y6:Option D}:∀(post pre:List Nm)(x9:Option D),(pre++post).Nodup->(pre++post).length<300->(∀z∈post,∃v,lk F z=some v)->
  (∀x9,De.nx [y0,y1,y2,y3,some (.ref a),some (di F),y6,some (.int L),some (.ref c),x9] (put M0 c (dS (tl (gt S F L) (pre++post))))=R)->
  bN W (.name 9) aI ES (λM=>M kd=some (.stl φ)) De (post.map nmD) [y0,y1,y2,y3,some (.ref a),some (di F),y6,some (.int L),some (.ref c),x9] (put M0 c (dS (tl (gt S F L) pre)))=R
 |[],pre,x9,_,_,_,hR=>by
  have hS:put M0 c (dS (tl (gt S F L) pre)) kd=some (.stl φ):=by rw[af hkq];exact hd
  have:=hR x9;rw[EO]at this;rw[List.map_nil,be];simp[hS,this]
 |z::post,pre,x9,hn,hl,hs,hR=>by
  have hS:put M0 c (dS (tl (gt S F L) pre)) kd=some (.stl φ):=by rw[af hkq];exact hd
  have hz:z∉K1 (tl (gt S F L) pre):=λh=>by
   rw[oF]at h;rw[List.nodup_append]at hn;exact hn.2.2 z h z DW rfl
  obtain⟨fv,hfv⟩:=hs z DW;have gc:put M0 c (dS (tl (gt S F L) pre)) c=some (.dt (K1 (tl (gt S F L) pre)) ((tl (gt S F L) pre).map λp=>.int p.2)):=ae
  have ga:put M0 c (dS (tl (gt S F L) pre)) a=some (.dt (K1 S) (S.map λp=>.int p.2)):=by rw[af hqa];exact ha
  have e1:(pre++[z])++post=pre++z::post:=by simp
  have hlp:(tl (gt S F L) pre).length<900:=by unfold tl;rw[D5];rw[Ew]at hl;omega
  have s1:∀{v:Int}{R:MH->Prop},gt S F L z=v->bo (.ref c) (nmD z) (.int v) (put M0 c (dS (tl (gt S F L) pre))) R=R (put M0 c (dS (tl (gt S F L) (pre++[z])))):=λ{v R} hv=>by
   rw[gh (g:=D.int) gc hlp,aV,gW hz];unfold tl dS;simp[hv]
  have i2:∀{Q:VK3},aG .In (nmD z) (.ref a) (put M0 c (dS (tl (gt S F L) pre))) Q=Q (.bl (lk S z).isSome) (put M0 c (dS (tl (gt S F L) pre))):=λ{Q}=>iu (g:=D.int) ga
  rw[D4,aQ,<-jY (W:=W) (ES:=ES) (De:=De) (R:=R) (y0:=y0) (y1:=y1) (y2:=y2) (y3:=y3) (y6:=y6) hkq hqa hd ha post (pre++[z]) (some (nmD z)) (by rw[e1];exact hn) (by rw[e1];exact hl) (λw hw=>hs w (DT _ hw)) (by rw[e1];exact hR)]
  cases hv:lk S z with
  |some v=>
   have i1:∀{Q:VK3},ar (.ref a) (nmD z) (put M0 c (dS (tl (gt S F L) pre))) Q=Q (.int v) (put M0 c (dS (tl (gt S F L) pre))):=λ{Q}=>cV (g:=D.int) ga hv
   have g1:gt S F L z=v:=by unfold gt;rw[hv]
   simp[wpG,aI,hS,↓i1,↓i2,hv,↓s1 g1]
  |none=>
   have g1:gt S F L z=fv+L:=by unfold gt;rw[hv,hfv];rfl
   simp[wpG,aI,hS,↓i2,hv,↓tp hfv,↓s1 g1]
noncomputable def wP:ISs:=.cons (.set 7 (.mmz true V6)) (.cons (.set 8 (.dnew true)) (.cons (.forK (.name 9) (.fld V0 245117675) aI) (.cons (.ret V8) .nil)))
theorem AM:bK=.cons (.expr (.call 0 (Ar2 (.fld V0 245117675) V2))) (.cons (.set 4 (.call 4 (Ar2 (.fld V0 245117675) V1))) (.cons (.set 5 (.meth V0 31083689204 .nil)) (.cons (.set 6 (.call 6 (Ar3 (.fld V0 245117675) V4 V5))) (.cons (.ifs (.cmp .NotIn V2 V4) (S1 (.app V6 (.bin .Sub V3 (.ix V5 V2)))) .nil) wP)))):=rfl
theorem sM{S F:List (Nm×Int)}{ls:List Int}{y1 y2 y3:Option D}{De:Ends3}{ES:St3->XN}{C:Nat->List D->MH->VK3->XN->Prop}(h:NT kls M nn kd rp N)(ga:M a=some (dS S))(gf:M f=some (.lst (ls.map D.int)))(hka:kd≠a)(hF:∀z∈N.ks,∃v,lk F z=some v)
  (hR:∀c,M c=none->De.rt (.ref c) (put M c (dS (tl (gt S F (mz ls)) N.ks)))):aw {toWB:=B cls kls fad,call:=C} wP De ES [some (.ref nn),y1,y2,y3,some (.ref a),some (di F),some (.ref f),none,none,none] M:=by
 simp[wP,wX gf,oP];intro c hc;have e4:=h.eg.ne hc;have nn4:nn≠c:=λe=>by have:=h.nn;rw[e,hc]at this;cases this
 have hac:a≠c:=λe=>by rw[e,hc]at ga;cases ga
 have hC:NT kls (put M c (.dt [] [])) nn kd rp N:=h.kp (Kp.rfl.put hc) (h.fm.put _ _);have hkd:put M c (.dt [] []) kd=some (.dt (K1 (lR N rp)) ((lR N rp).map λe=>.ref e.2)):=hC.eg.kd
 simp[hC.fld];unfold dm;simp only[hkd];intro φ;generalize hg:gt S F (mz ls)=g at hR;have sw:put (put M c (.dt [] [])) kd (.stl φ)=put (put M kd (.stl φ)) c (dS (tl g [])):=by
  funext q;unfold put;by_cases q1:q=kd
  ·simp[q1,e4.1]
  ·simp[q1];rfl
 rw[sw,fB,oW];have bk:put (put (put M kd (.stl φ)) c (dS (tl g N.ks))) kd (.dt N.ks ((lR N rp).map λe=>.ref e.2))=put M c (dS (tl g N.ks)):=by
  have hk:M kd=some (.dt N.ks ((lR N rp).map λe=>.ref e.2)):=by rw[h.eg.kd];unfold dK;rw[fB]
  funext q;unfold put;by_cases q1:q=kd
  ·simp[q1,e4.1,hk]
  ·simp[q1]
 have hsz:=h.sz;subst hg;rw[jY (R:=True) (M0:=put M kd (.stl φ)) (S:=S) (F:=F) e4.1 hac ae (by rw[af (Ea hka)];exact ga) N.ks [] none (by simpa using h.wn.nd) (by simp;omega) hF]
 ·trivial
 intro x9;rw[List.nil_append];refine eq_true ?_;change put (put M kd (.stl φ)) c (dS (tl (gt S F (mz ls)) N.ks)) kd=some (.stl φ)/\aw _ _ _ _ _ (put (put (put M kd (.stl φ)) c (dS (tl (gt S F (mz ls)) N.ks))) kd (.dt N.ks ((lR N rp).map λe=>.ref e.2)))
 refine⟨by rw[af e4.1,ae],?_⟩
 rw[bk];simp;exact hR c hc
theorem xL{S F:List (Nm×Int)}{ls:List Int}(h1:∀a b w,Ed N a b w->∀u,lk S a=some u->∃v,lk S b=some v/\v<=u+w)(h2:∀a b w,Ed N a b w->∃u v,lk F a=some u/\lk F b=some v/\v<=u+w)
  (h3:∀x∈N.ks,lk S x=none->∀v,lk F x=some v->∀e∈N.row x,∀u,lk S e.1=some u->u-e.2-v∈ls):Pot N (gt S F (mz ls)):=λa b w he=>by
 unfold gt;cases ha:lk S a with
 |some u=>
  obtain⟨v,hv,hl⟩:=h1 a b w he u ha;simp only[hv];omega
 |none=>
  obtain⟨u,v,hu,hv,hl⟩:=h2 a b w he;cases hb:lk S b with
  |some t=>
   have:=vn (h3 a he.1 ha u hu (b,w) he.2 t hb);simp only[hu,Option.getD_some];simp only at this;omega
  |none=>
   simp only[hu,hv,Option.getD_some];omega
structure LT (N:Nt)(x y:Nm)(far:Int)(g:Nm->Int):Prop where
 pot:Pot N g
 x0:g x=0
 yd:∀d,IsD N x y (some d)->g y=d
 yn:IsD N x y none->far<=g y
theorem lq{far:Int}(h:NT kls M nn kd rp N)(hp:Pot N p)(hx:x∈N.ks)(hy:y∈N.ks)(hQ:∀g c M',LT N x y far g->Kp M M'->Fm M'->M c=none->M' c=some (dS (tl g N.ks))->Q (.ref c) M'):ac T (B cls kls fad) (n+4) 18 [.ref nn,nmD x,nmD y,.int far] M Q E:=by
 rw[eV,AM];simp[h.fld,gO h.eg hy];refine oK h.fm h.wn hp h.sz h.eg hx λa b s ha hb hab I=>?_
 have e1:=h.eg.ne ha;have ga:HB M a b s a=some (dS s.S):=by unfold HB;rw[af hab,ae]
 have k0:Kp M (HB M a b s):=(Kp.rfl.put ha).put hb;have hB:NT kls (HB M a b s) nn kd rp N:=h.kp k0 ((h.fm.put _ _).put _ _);simp[hB.mth mj];refine uE hB hp λs2 I2=>?_
 simp[hB.fld];have hF:∀z∈N.ks,∃v,lk s2.S z=some v:=λz hz=>by obtain⟨u,hu,_⟩:=I2.s0 z hz;exact⟨u,hu⟩
 refine uW hB.fm hB.sz hB.wn hB.eg (λz hz=>hB.kr hz) ga e1.1 e1.2 hF λls f M1 hl hf gf k1 fm1 hls=>?_
 have h1:NT kls M1 nn kd rp N:=hB.kp k1 fm1;have ga1:M1 a=some (.dt (K1 s.S) (s.S.map λp=>.int p.2)):=k1 _ _ ga
 have hf0:M f=none:=k0.none hf;have P1:∀a b w,Ed N a b w->∀u,lk s.S a=some u->∃v,lk s.S b=some v/\v<=u+w:=λa b w he u hu=>I.rel a u hu (λz=>z) b w he.2
 have P2:∀a b w,Ed N a b w->∃u v,lk s2.S a=some u/\lk s2.S b=some v/\v<=u+w:=λa b w he=>by
  obtain⟨u,hu⟩:=hF a he.1;obtain⟨v,hv,hl⟩:=I2.rel a u hu (λz=>z) b w he.2
  exact⟨u,v,hu,hv,hl⟩
 have x0:lk s.S x=some 0:=by
  have e:=I.isD x;obtain⟨u,hu,hu0⟩:=I.s0 x (by simp)
  rw[hu]at e ⊢;have:=e.1.pot hp;congr 1;omega
 have fin:∀ls':List Int,(∀i∈ls,i∈ls')->(lk s.S y=none->far-(lk s2.S y).getD 0∈ls')->LT N x y far (gt s.S s2.S (mz ls')):=λls' q1 q2=>by
  refine⟨xL P1 P2 (λx hx hn v hv e he u hu=>q1 _ (hls x hx hn v hv e he u hu)),by unfold gt;rw[x0],λd hd=>?_,λhd=>?_⟩
  ·have:=(I.isD y).uniq hd;unfold gt;rw[this]
  ·have e:=(I.isD y).uniq hd;have:=vn (q2 e);unfold gt;rw[e];simp only;omega
 rw[ib (g:=D.int) ga1];obtain⟨fy,hfy⟩:=hF y hy;cases hs:lk s.S y with
 |some v=>
  simp;exact sM h1 ga1 gf e1.1 hF λc hc=>hQ _ c _ (fin ls (λ_ h=>h) (λz=>by rw[hs]at z;cases z)) ((k0.trans k1).put ((k0.trans k1).none hc)) (fm1.put _ _) ((k0.trans k1).none hc) ae
 |none=>
  simp[↓tp hfy,kX gf,fk gf];have haf:a≠f:=λe=>by rw[<-e,ga]at hf;cases hf
  refine⟨by rw[PySem.sizeLine_eq];omega,?_⟩
  have h2:NT kls (put M1 f (.lst (ls.map D.int++[.int (far-fy)]))) nn kd rp N:=h.kp ((k0.trans k1).put hf0) (fm1.put _ _);refine sM (ls:=ls++[far-fy]) h2 (by rw[af haf];exact ga1) (by rw[ae];simp) e1.1 hF λc hc=>?_
  have k2:=(k0.trans k1).put (o:=.lst (ls.map D.int++[.int (far-fy)])) hf0;exact hQ _ c _ (fin (ls++[far-fy]) (λ_ h=>Ev _ h) (λ_=>by rw[hfy];simp)) (k2.put (k2.none hc)) ((fm1.put _ _).put _ _) (k2.none hc) ae
theorem pi(h:NT kls M nn kd rp N)(hp:Pot N p)(hx:x∈N.ks)(hy:y∈N.ks)(hQ:∀g c M',LT N x y 0 g->Kp M M'->Fm M'->M c=none->M' c=some (dS (tl g N.ks))->Q (.ref c) M'):ac T (B cls kls fad) (n+4) 18 [.ref nn,nmD x,nmD y] M Q E:=by
 rw[kK,<-eV];exact lq h hp hx hy hQ
end
section
variable {cls kls fad:Nat->PySem.Addr}{M M0 M':MH}{Q:VK3}{E:XN}{n:Nat}{a b c d f r kd nn:PySem.Addr}{x y x0:Nm}{N:Nt}{p:Nm->Int}{rp:Nm->PySem.Addr}
theorem my(hM:Fm M)(W:WN N)(hp:Pot N p)(hk:N.ks.length<200)(hE:Eg M kd rp N)(hx:x∈N.ks)(hy:y∈N.ks)(hd:IsD N x y none)(hQ:∀M',Kp M M'->Fm M'->Q .non M'):ac T (B cls kls fad) (n+3) 5 [.ref kd,nmD x,nmD y] M Q E:=by
 rw[kO];simp[fP,gO hE hx,gO hE hy];intro a ha;simp[fg,cj,aV];refine⟨ae,λb hb=>?_⟩
 have hab:a≠b:=λe=>by rw[<-e,ae]at hb;cases hb
 have hb0:M b=none:=by rwa [af (Ea hab)]at hb
 obtain⟨m,s,R,I⟩:=ve W hp ⟨[(x,0)],[]⟩ [x] (J.start (X:=[x]) W (by simp) (by simpa using hx))
 have e1:=hE.ne ha;have e2:=hE.ne hb0;refine fD (s0:=⟨[(x,0)],[]⟩) ((hM.put _ _).put _ _) W hp hk hab (by rw[af hab,ae];rfl) ae e1.1 e2.1 e1.2 e2.2 ((hE.new ha).new hb) (J.start (X:=[x]) W (by simp) (by simpa using hx)) R ?_
 rw[eW hab];have ga:HB M a b s a=some (.dt (K1 s.S) (s.S.map λp=>.int p.2)):=by unfold HB;rw[af hab,ae];rfl
 have hs:lk s.S y=none:=(I.isD y).uniq hd;simp[iu (g:=D.int) ga,hs];exact hQ _ ((Kp.rfl.put ha).put hb0) ((hM.put _ _).put _ _)
def RD(M M':MH)(N:Nt)(x y:Nm)(o:Option Int)(v:D):Prop:=match o with
 |none=>v=.non
 |some d=>∃l p,Way N x y d l/\l.length<900/\M p=none/\v=.ref p/\M' p=some (.lst (l.map nmD).reverse)
theorem t5{o:Option Int}(h:NT kls M nn kd rp N)(hp:Pot N p)(hx:x∈N.ks)(hy:y∈N.ks)(ho:IsD N x y o)(hQ:∀v M',RD M M' N x y o v->Kp M M'->Fm M'->Q v M'):ac T (B cls kls fad) (n+4) 17 [.ref nn,nmD x,nmD y] M Q E:=by
 simp[cM,br,h.fld];cases o with
 |none=>exact my h.fm h.wn hp h.sz h.eg hx hy ho λM' k fm=>hQ _ _ rfl k fm
 |some d=>exact rT h.fm h.wn hp h.sz h.eg hx hy ho λl p M' hw hl k hp hp' fm=>hQ _ _ ⟨l,p,hw,hl,hp,rfl,hp'⟩ k fm
theorem w5(h:Eg M kd rp N)(hx:x∈N.ks):ac T (B cls kls fad) (n+1) 31 [.ref kd,nmD x] M Q E=Q .non M:=by
 rw[bY];simp[aM,h.nin,hx]
theorem jw(h:Eg M kd rp N)(hx:x∉N.ks):ac T (B cls kls fad) (n+1) 31 [.ref kd,nmD x] M Q E=E ⟨1,none⟩ M:=by
 rw[bY];simp[aM,h.nin,hx,PySem.sizeLine_eq]
theorem jJ(h:NT kls M nn kd rp N)(hxy:(x∈N.ks/\y∉N.ks)\/(x∉N.ks/\y∈N.ks)):ac T (B cls kls fad) (n+5) 27 [.ref nn,nmD x,nmD y] M Q E=Q (.bl true) M:=by
 rw[jp];rcases hxy with ⟨hx,hy⟩|⟨hx,hy⟩
 ·simp[bB,h.mth cS,cM,br,h.fld,kO,fP,gO h.eg hx,lT h.eg hy,bW,aH,h.mth bL,vp,d7,bz,jw h.eg hy]
 ·simp[bB,h.mth cS,cM,br,h.fld,kO,fP,lT h.eg hx,bW,aH,h.mth bL,vp,d7,bz,w5 h.eg hy,sD,iY,jw h.eg hx]
theorem xg{m:Int}(h:NT kls M nn kd rp N)(hx:x∈N.ks)(hm:0<=m):ac T (B cls kls fad) (n+3) 10 [.ref nn,nmD x,nmD x,.int m] M Q E=Q .non M:=by
 have:¬ m<0:=by omega
 rw[dY];simp[bQ,lZ,h.mth cY,cX,aU,this,h.mth cR,iW h hx]
theorem o9{m:Int}(h:NT kls M nn kd rp N)(hm:m<0):ac T (B cls kls fad) (n+3) 10 [.ref nn,nmD x,nmD x,.int m] M Q E=E ⟨2,some (217822450,.rol [nmD x])⟩ M:=by
 rw[dY];simp[bQ,lZ,h.mth cY,cX,aU,hm,rXp,cpF,ah,PySem.sizeLine_eq]
theorem qJ{m d:Int}(h:NT kls M nn kd rp N)(hp:Pot N p)(hx:x∈N.ks)(hy:y∈N.ks)(hn:x≠y)(hd:IsD N y x (some d))(hm:d+m<0)(hE:∀v,E ⟨2,some (217822450,.rol v)⟩ M):ac T (B cls kls fad) (n+6) 10 [.ref nn,nmD x,nmD y,.int m] M Q E:=by
 rw[dY];simp[bQ,lZ,hn,h.mth cf];refine Ar h hp hx hy (λhd'=>absurd (hd' d hd) (by omega)) (λd' l h1 h2 h3 h4=>?_)
 simpa using hE _
theorem t7(h:NT kls M nn kd rp N)(hp:Pot N p)(hx:x∈N.ks)(hy:y∈N.ks)(hQ:Q (.bl true) M):ac T (B cls kls fad) (n+7) 29 [.ref nn,nmD x,nmD y] M Q E:=by
 rw[nh];simp[eB,h.mth eO];refine nr h hp hx hy λo ho=>?_
 cases o with
 |none=>simpa [oi] using hQ
 |some d=>
  have e:(0:Int)-d-1 = -d-1:=by omega
  simp[oi,h.mth jT,e];by_cases hn:y=x
  ·subst hn;have:0<=d:=by have:=ho.1.pot hp;omega
   rw[o9 h (by omega)]
   simpa using hQ
  ·refine qJ h hp hy hx hn ho (by omega) λv=>?_
   simpa using hQ
end
section
variable {cls kls fad:Nat->PySem.Addr}{M M0 M':MH}{Q:VK3}{E:XN}{n:Nat}{a b c d f r kd nn:PySem.Addr}{x y x0:Nm}{N:Nt}{p:Nm->Int}{rp:Nm->PySem.Addr}
theorem kL(ns:List Int)(k:Nat):∃x:Int,∀{n:Nat}{M:MH}{Q:VK3}{E:XN},ac T (B cls kls fad) (n+1) 19 [scr ns,.int k] M Q E=Q (.int x) M:=by
 by_cases h:k<ns.length
 ·obtain⟨x,hx⟩:=AJ (cs:=ns) (i:=k) (by omega) (by omega)
  refine⟨x,?_⟩;intro n M Q E;have h':(k:Int)<ns.length:=by omega
  simp[ef,bA,scr,bS hx,h]
 ·refine⟨0,?_⟩;intro n M Q E;simp[ef,bA,scr,h]
theorem oy{i:Int}:ac T (B cls kls fad) (n+1) 20 [.int i] M Q E=Q (.bl true) M:=by
 simp[ll,dj]
theorem fJ(c k:Int)(h0:0<=k)(h3:k<=3):∃m:Int,∀{n:Nat}{M:MH}{Q:VK3}{E:XN},ac T (B cls kls fad) (n+1) 21 [.int c,.int k] M Q E=Q (.int m) M:=by
 obtain⟨a,ha,a1,a2⟩:∃a,(c+69621*k) % 2147483629=a/\0<=a/\a<2147483629:=⟨_,rfl,by omega,by omega⟩
 obtain⟨b,hb,b1,b2⟩:∃b,(a*a+48271*a+7*k+1) % 2147483629=b/\0<=b/\b<2147483629:=⟨_,rfl,Int.emod_nonneg _ (by decide),Int.emod_lt_of_pos _ (by decide)⟩
 have c1:∀i:Int,0<=i->i<2147483629->gA i i=True:=λi h1 h2=>rE (by omega) (by omega) (by omega) (by omega)
 have c2:∀i j:Int,0<=i->i<2147483629->0<=j->j<2147483629->gA i j=True:=λi j h1 h2 h3 h4=>rE (by omega) (by omega) (by omega) (by omega)
 refine⟨(b*b+16807*b+31*k+5) % 2147483629,?_⟩;intro n M Q E;simp[mr,dh,bH,ha,hb,c1 a a1 a2,c1 b b1 b2,c2 48271 a (by omega) (by omega) a1 a2,c2 16807 b (by omega) (by omega) b1 b2,c2 69621 k (by omega) (by omega) h0 (by omega),c2 7 k (by omega) (by omega) h0 (by omega),c2 31 k (by omega) (by omega) h0 (by omega)]
theorem t9(c:Int):∃F:Nat->Nm,(∀j k,F j=F k->j=k)/\∀{n:Nat}{M:MH}{Q:VK3}{E:XN}{k:Nat},ac T (B cls kls fad) (n+1) 22 [.int c,.int k] M Q E=Q (nmD (F k)) M:=by
 have hc:c % 4=0\/c % 4=1\/c % 4=2\/c % 4=3:=by omega
 rcases hc with e|e|e|e
 ·refine⟨λk=>[(k:Int),c / 4 % 10 ^ 20],λj k h=>by simp at h;omega,?_⟩
  intro n M Q E k;simp[cJ,bw,bH,ng,e,nmD,PySem.sizeLine_eq]
 ·refine⟨λk=>[c / 4 % 10 ^ 20,(k:Int)],λj k h=>by simp at h;omega,?_⟩
  intro n M Q E k;simp[cJ,bw,bH,ng,e,nmD,PySem.sizeLine_eq]
 ·refine⟨λk=>[(k:Int) % 3,(k:Int) / 3],λj k h=>by simp at h;omega,?_⟩
  intro n M Q E k;simp[cJ,bw,bH,ng,e,nmD,PySem.sizeLine_eq]
 ·refine⟨λk=>[-1-(k:Int),c / 4 % 10 ^ 20],λj k h=>by simp at h;omega,?_⟩
  intro n M Q E k;simp[cJ,bw,bH,ng,e,nmD,PySem.sizeLine_eq]
noncomputable abbrev Br:=Nm×Nm×Int
noncomputable def drD(e:Br):D:=.tup [nmD e.1,nmD e.2.1,.int e.2.2]
noncomputable abbrev dL(dr:List Br):D:=.rol (dr.map drD)
noncomputable abbrev nL(l:List Nm):D:=.rol (l.map nmD)
def Dk(ks:List Nm)(t:Nm->Int)(e:Br):Prop:=e.1∈ks/\e.2.1∈ks/\t e.2.1-t e.1<=e.2.2
theorem eZ{l:List Nm}{i:Nat}{z:Nm}(h:l[i]?=some z):atI (l.map nmD) (i:Int)=some (nmD z):=ca (by simp[h])
theorem fN{l:List Nm}(h:0<l.length)(m:Int):∃i:Nat,∃z,m % (l.length:Int)=i/\l[i]?=some z/\z∈l:=by
 have h1:=Int.emod_nonneg m (show (l.length:Int)≠0 by omega)
 have h2:=Int.emod_lt_of_pos m (show (0:Int)<l.length by omega)
 have h3:(m % (l.length:Int)).toNat<l.length:=by omega
 exact⟨(m % (l.length:Int)).toNat,l[(m % (l.length:Int)).toNat],by omega,Et h3,E5 h3⟩
theorem qB{ks:List Nm}{t:Nm->Int}(hk:0<ks.length)(h8:ks.length<900)(c:Int):∃e,Dk ks t e/\∃u v w:D,∀{n:Nat}{M:MH}{a:PySem.Addr}{acc:List D}{De:Ends3}{ES:St3->XN}{y0 x6 x7 x8:Option D},acc.length<900->
  aw {toWB:=B cls kls fad,call:=ac T (B cls kls fad) (n+1)} aW De ES [y0,some (nL ks),some (.int (ks.length:Int)),some (.rol (ks.map λz=>.int (t z))),some (.ref a),some (.int c),x6,x7,x8] (put M a (.lst acc)) =
  De.nx [y0,some (nL ks),some (.int (ks.length:Int)),some (.rol (ks.map λz=>.int (t z))),some (.ref a),some (.int c),some u,some v,some w] (put M a (.lst (acc++[drD e]))):=by
 obtain⟨m1,h1⟩:=fJ (cls:=cls) (kls:=kls) (fad:=fad) c 1 (by omega) (by omega)
 obtain⟨m2,h2⟩:=fJ (cls:=cls) (kls:=kls) (fad:=fad) c 2 (by omega) (by omega)
 obtain⟨m3,h3⟩:=fJ (cls:=cls) (kls:=kls) (fad:=fad) c 3 (by omega) (by omega)
 obtain⟨i,x,i1,i2,i3⟩:=fN hk m1;obtain⟨j,y,j1,j2,j3⟩:=fN hk m2;obtain⟨w,hw,hw'⟩:∃w:Int,0<=w/\∀{M:MH}{Q:VK3},ar (.rol [.int 0,.int 0,.int (c / 5 % 5),.int (c / 7 % 10000000000000000000000000000000000000000)]) (.int (m3 % 4)) M Q=Q (.int w) M:=by
  have:m3 % 4=0\/m3 % 4=1\/m3 % 4=2\/m3 % 4=3:=by omega
  rcases this with e|e|e|e
  ·exact⟨0,by omega,by intro M Q;rw[e];simp⟩
  ·exact⟨0,by omega,by intro M Q;rw[e];simp⟩
  ·exact⟨c / 5 % 5,by omega,by intro M Q;rw[e];exact bS (ca (j:=2) rfl)⟩
  ·exact⟨c / 7 % 10000000000000000000000000000000000000000,by omega,by intro M Q;rw[e];exact bS (ca (j:=3) rfl)⟩
 refine⟨(x,y,t y-t x+w),⟨i3,j3,by simp only;omega⟩,.int i,.int j,.int w,?_⟩
 intro n M a acc De ES y0 x6 x7 x8 hacc;have g1:∀{M:MH}{Q:VK3},ar (nL ks) (.int (i:Int)) M Q=Q (nmD x) M:=λ{M Q}=>bS (eZ i2)
 have g2:∀{M:MH}{Q:VK3},ar (nL ks) (.int (j:Int)) M Q=Q (nmD y) M:=λ{M Q}=>bS (eZ j2)
 have g3:∀{M:MH}{Q:VK3},ar (.rol (ks.map λz=>.int (t z))) (.int (i:Int)) M Q=Q (.int (t x)) M:=λ{M Q}=>bS (ca (by simp[i2]))
 have g4:∀{M:MH}{Q:VK3},ar (.rol (ks.map λz=>.int (t z))) (.int (j:Int)) M Q=Q (.int (t y)) M:=λ{M Q}=>bS (ca (by simp[j2]))
 have cd:∀m:Int,gF m (ks.length:Int)=True:=λm=>bH (by omega) (by omega)
 simp[aW,h1,h2,h3,cd,i1,j1,hw',bH,ng,↓g1,↓g2,↓g3,↓g4,drD,PySem.sizeLine_eq];exact⟨λh=>h.2.2,λh=>⟨hk,by omega,h⟩⟩
theorem lY{ks:List Nm}{t:Nm->Int}{y0:Option D}(hk:0<ks.length)(h8:ks.length<900):∀(cs:List Int),∃dr:List Br,dr.length=cs.length/\(∀e∈dr,Dk ks t e)/\∀{n:Nat}{M:MH}{a:PySem.Addr}{De:Ends3}{ES:St3->XN}{R:Prop} (acc:List D)(x5 x6 x7 x8:Option D),acc.length+cs.length<900->
  (∀x5 x6 x7 x8,De.nx [y0,some (nL ks),some (.int (ks.length:Int)),some (.rol (ks.map λz=>.int (t z))),some (.ref a),x5,x6,x7,x8] (put M a (.lst (acc++dr.map drD)))=R)->
  bN {toWB:=B cls kls fad,call:=ac T (B cls kls fad) (n+1)} (.name 5) aW ES (λ_=>True) De (cs.map D.int) [y0,some (nL ks),some (.int (ks.length:Int)),some (.rol (ks.map λz=>.int (t z))),some (.ref a),x5,x6,x7,x8] (put M a (.lst acc))=R
 |[]=>⟨[],rfl,λ_ h=>(by cases h),λ{n M a De ES R} acc x5 x6 x7 x8 _ hR=>by
  rw[List.map_nil,be];have:=hR x5 x6 x7 x8;simp only[List.map_nil,EO]at this;simp[this]⟩
 |c::cs=>by
  obtain⟨dr,l1,l2,ih⟩:=lY (y0:=y0) (t:=t) hk h8 cs;obtain⟨e,he,u,v,w,hs⟩:=qB (cls:=cls) (kls:=kls) (fad:=fad) (t:=t) hk h8 c;refine⟨e::dr,by simp[l1],λz hz=>?_,?_⟩
  ·rcases DX.mp hz with rfl|hz
   ·exact he
   ·exact l2 z hz
  ·intro n M a De ES R acc x5 x6 x7 x8 hl hR;rw[Em]at hl;rw[D4,aQ];have:=ih (n:=n) (M:=M) (a:=a) (De:=De) (ES:=ES) (R:=R) (acc++[drD e]) (some (.int c)) (some u) (some v) (some w) (by simp;omega) (λx5 x6 x7 x8=>by
    have:=hR x5 x6 x7 x8;simpa using this)
   rw[<-this];simp[wpG];rw[hs (by omega)]
end
section
variable {cls kls fad:Nat->PySem.Addr}{M M0 M':MH}{Q:VK3}{E:XN}{n:Nat}{a b c d f r kd nn:PySem.Addr}{x y x0:Nm}{N:Nt}{p t:Nm->Int}{rp:Nm->PySem.Addr}{dr:List Br}{ks:List Nm}{m:Int}
theorem zV{F:Nat->Nm}(hF:∀j k,F j=F k->j=k)(f:Nat->Int):∃q:Nm->Int,∀k,q (F k)=f k:=by
 refine⟨λz=>Classical.epsilon λv=>∃k,F k=z/\v=f k,λk=>?_⟩
 obtain⟨j,e1,e2⟩:=Classical.epsilon_spec (p:=λv=>∃j,F j=F k/\v=f j) ⟨_,k,rfl,rfl⟩
 rw[hF _ _ e1]at e2;exact e2
theorem se(ns:List Int)(hl:ns.length<=63){F:Nat->Nm}(hF:∀j k,F j=F k->j=k){H:Nat}(h1:0<H)(h8:H<100):∃(t:Nm->Int)(dr:List Br),dr.length<=63/\(∀e∈dr,Dk ((List.range H).map F) t e)/\∀{n:Nat}{M:MH}{Q:VK3}{E:XN},Fm M->ac T (B cls kls fad) (n+2) 23 [scr ns,nL ((List.range H).map F)] M Q E=Q (dL dr) M:=by
 obtain⟨ce,hce⟩:∃ce:Nat->Int,∀(k n:Nat)(M:MH)(Q:VK3)(E:XN),ac T (B cls kls fad) (n+1) 19 [scr ns,.int k] M Q E=Q (.int (ce k)) M:=
  ⟨λk=>Classical.choose (kL ns k),λk n M Q E=>Classical.choose_spec (kL ns k)⟩
 have hce':∀(k n:Nat)(M:MH)(Q:VK3)(E:XN),ac T (B cls kls fad) (n+1) 19 [scr ns,.int (5+(k:Int))] M Q E=Q (.int (ce (5+k))) M:=λk n M Q E=>by
  have:=hce (5+k) n M Q E;simpa using this
 obtain⟨t,ht⟩:=zV hF λk=>ce (5+k) % 10000000000000000000000000000000000000000
 obtain⟨cs,hcs,hcl⟩:∃cs:List Int,jo (ns.map D.int) (some (5+(H:Int))) (some (29+(H:Int)))=cs.map D.int/\cs.length<=63:=by
  refine⟨_,by unfold jo;rw[<-List.map_drop,<-List.map_take],?_⟩
  rw[List.length_take,List.length_drop];omega
 have hK:((List.range H).map F).length=H:=by simp
 obtain⟨dr,l1,l2,hlp⟩:=lY (cls:=cls) (kls:=kls) (fad:=fad) (y0:=some (scr ns)) (ks:=(List.range H).map F) (t:=t) (by omega) (by omega) cs
 refine⟨t,dr,by omega,l2,?_⟩
 intro n M Q E hM;rw[kS];rw[hK]at hlp;have htm:(rng 0 H).map (λd=>match d with
  |.int i=>D.int (ce (5+i.toNat) % 10000000000000000000000000000000000000000)
  |_=>.non)=((List.range H).map F).map λz=>.int (t z):=by
  unfold rng;rw[List.map_map,List.map_map];apply List.map_congr_left;intro k _;simp[ht]
 have cm:∀{Q:VK3},jB {toWB:=B cls kls fad,call:=ac T (B cls kls fad) (n+1)} (.name 0) .no (.bin .Mod (.call 19 (Ar2 V1 (.bin .Add I5 V0))) (.bin .Pow (.con (.int 10)) (.con (.int 40)))) (λ_=>True) Q (rng 0 H) [none,some (scr ns)] M=Q (.rol (((List.range H).map F).map λz=>.int (t z))) M:=λ{Q}=>by
  rw[fU (λd=>match d with
   |.int i=>D.int (ce (5+i.toNat) % 10000000000000000000000000000000000000000)
   |_=>.non) hM (by rw[dZ];omega) (λd hd M' hE Q'=>by
    obtain⟨k,hk,rfl⟩:=EB.mp hd;simp[hce',bH,ng]),htm]
 simp[cT,ay,↓cm,scr,hcs];have hH:(H:Int)<100:=by omega
 rw[eq_true (show (H:Int)<4611686018427387904 by omega),true_and]
 refine iff_of_eq (iz hM λp hp=>?_)
 rw[eq_true (show cs.length<=PySem.sizeLine by rw[PySem.sizeLine_eq];omega),true_and,<-List.map_map]
 refine hlp [] none none none none (by simp;omega) λx5 x6 x7 x8=>?_
 simp[ck,ae,kz hp]
structure DN (dr:List Br)(N:Nt):Prop where
 ed:∀a b w,Ed N a b w->(a,b,w)∈dr/\∀w',(a,b,w')∈dr->w<=w'
 has:∀a b w,(a,b,w)∈dr->a≠b->∃w',Ed N a b w'
theorem DN.same(C:DN dr N)(W:WN N):DN (dr++[(x,x,m)]) N:=by
 refine⟨λa b w he=>?_,λa b w h hn=>?_⟩
 ·obtain⟨h1,h2⟩:=C.ed a b w he;refine⟨Ev _ h1,λw' h=>?_⟩
  rcases Eo.mp h with h|h
  ·exact h2 w' h
  ·have e:=Eh.mp h;simp only[Prod.mk.injEq]at e;exact absurd (e.2.1.trans e.1.symm) ((W.row a he.1).2 _ he.2).2
 ·rcases Eo.mp h with h|h
  ·exact C.has a b w h hn
  ·have e:=Eh.mp h;simp only[Prod.mk.injEq]at e;exact absurd (e.1.trans e.2.1.symm) hn
theorem DN.add(C:DN dr N)(W:WN N)(hx:x∈N.ks)(hy:y∈N.ks)(hn:x≠y):DN (dr++[(x,y,m)]) (jj N x y m):=by
 have W':=ox (m:=m) W hy hn;have nb:∀w',lk (N.row x) y=none->(x,y,w')∉dr:=λw' hl h=>by
  obtain⟨w,he⟩:=C.has x y w' h hn;rw[oM (W.row x hx).1 he.2]at hl;cases hl
 refine⟨λa b w he=>?_,λa b w h hne=>?_⟩
 ·by_cases ea:a=x
  ·subst ea;have hl:=oM (W'.row a he.1).1 he.2;have hl':lk (ins (N.row a) y (min m ((lk (N.row a) y).getD m))) b=some w:=by
    have e:(jj N a y m).row a=ins (N.row a) y (min m ((lk (N.row a) y).getD m)):=DY rfl;rw[<-e];exact hl
   rw[aE]at hl';by_cases eb:y=b
   ·subst eb;rw[DY rfl]at hl';cases hv:lk (N.row a) y with
    |none=>
     rw[hv]at hl';simp at hl';subst hl';refine⟨by simp,λw' h=>?_⟩
     rcases Eo.mp h with h|h
     ·exact absurd h (nb w' hv)
     ·simp at h;omega
    |some v=>
     rw[hv]at hl';simp at hl';obtain⟨g1,g2⟩:=C.ed a y v ⟨hx,kM hv⟩;refine⟨?_,λw' h=>?_⟩
     ·by_cases hm:m<=v
      ·have:w=m:=by omega
       simp[this]
      ·have:w=v:=by omega
       rw[this];exact Ev _ g1
     ·rcases Eo.mp h with h|h
      ·have:=g2 w' h;omega
      ·simp at h;omega
   ·rw[DV eb]at hl';obtain⟨g1,g2⟩:=C.ed a b w ⟨hx,kM hl'⟩;refine⟨Ev _ g1,λw' h=>?_⟩
    rcases Eo.mp h with h|h
    ·exact g2 w' h
    ·simp at h;exact absurd h.1.symm eb
  ·have he':Ed N a b w:=by
    have e:(jj N x y m).row a=N.row a:=DV ea;exact⟨he.1,e▸he.2⟩
   obtain⟨g1,g2⟩:=C.ed a b w he';refine⟨Ev _ g1,λw' h=>?_⟩
   rcases Eo.mp h with h|h
   ·exact g2 w' h
   ·simp at h;exact absurd h.1 ea
 ·rcases Eo.mp h with h|h
  ·obtain⟨w',he⟩:=C.has a b w h hne;obtain⟨w'',_,he⟩:=t6 (x:=x) (y:=y) (m:=m) W he;exact⟨w'',he⟩
  ·simp at h;obtain⟨rfl,rfl,rfl⟩:=h;have e:(jj N a b w).row a=ins (N.row a) b (min w ((lk (N.row a) b).getD w)):=DY rfl;exact⟨_,hx,by rw[e];exact j8⟩
theorem iA{De:Ends3}{ES:St3->XN}{y0 y1 y2:Option D}{rest:St3}:∀(post pre:List Nm)(x4:Option D)(M:MH)(rp:Nm->PySem.Addr)(N:Nt),(pre++post).Nodup->(pre++post).length<100->N.ks=pre->(∀a b w,¬ Ed N a b w)->NT kls M nn kd rp N->
  (∀x4 M' rp' N',NT kls M' nn kd rp' N'->N'.ks=pre++post->(∀a b w,¬ Ed N' a b w)->De.nx (y0::y1::y2::some (.ref nn)::x4::rest) M')->
  bN {toWB:=B cls kls fad,call:=ac T (B cls kls fad) (n+1)} (.name 4) da ES (λ_=>True) De (post.map nmD) (y0::y1::y2::some (.ref nn)::x4::rest) M
 |[],pre,x4,M,rp,N,_,_,hk,he,h,hQ=>by
  rw[List.map_nil,be];exact⟨trivial,hQ x4 M rp N h (by simp[hk]) he⟩
 |z::post,pre,x4,M,rp,N,hn,hl,hk,he,h,hQ=>by
  have hz:z∉N.ks:=λhz=>by
   rw[hk]at hz;rw[List.nodup_append]at hn;exact hn.2.2 z hz z DW rfl
  have e1:(pre++[z])++post=pre++z::post:=by simp
  rw[D4,aQ];refine⟨trivial,?_⟩;have ih:=λx4 M rp N hk he h=>iA (De:=De) (ES:=ES) (y0:=y0) (y1:=y1) (y2:=y2) (rest:=rest) post (pre++[z]) x4 M rp N (by rw[e1];exact hn) (by rw[e1];exact hl) hk he h (by rw[e1];exact hQ)
  generalize bN {toWB:=B cls kls fad,call:=ac T (B cls kls fad) (n+1)} (.name 4) da ES (λ_=>True) De (post.map nmD)=K at ih ⊢
  simp[wpG,da,h.mth cR];refine mP h (by rw[hk];simp at hl;omega) λM' rp' h'=>?_
  exact ih _ M' rp' _ (by rw[cw hz,hk]) (λa b w q=>he a b w (nw_ed.mp q)) h'
theorem jM{De:Ends3}{ES:St3->XN}{y0 y1 y2 y4 y5:Option D}{rest:St3}(h8:ks.length<100):∀(post pre:List Br)(x6 x7 x8:Option D)(M:MH)(rp:Nm->PySem.Addr)(N:Nt),(∀e∈post,Dk ks t e)->N.ks=ks->Pot N t->NT kls M nn kd rp N->DN pre N->
  (∀x6 x7 x8 M' rp' N',NT kls M' nn kd rp' N'->N'.ks=ks->Pot N' t->DN (pre++post) N'->De.nx (y0::y1::y2::some (.ref nn)::y4::y5::x6::x7::x8::rest) M')->
  bN {toWB:=B cls kls fad,call:=ac T (B cls kls fad) (n+6)} (.tup [6,7,8]) dI ES (λ_=>True) De (post.map drD) (y0::y1::y2::some (.ref nn)::y4::y5::x6::x7::x8::rest) M
 |[],pre,x6,x7,x8,M,rp,N,_,hk,hp,h,C,hQ=>by
  rw[List.map_nil,be];exact⟨trivial,hQ x6 x7 x8 M rp N h hk hp (by simpa using C)⟩
 |(x,y,m)::post,pre,x6,x7,x8,M,rp,N,hd,hk,hp,h,C,hQ=>by
  obtain⟨d1,d2,d3⟩:=hd _ DW;simp only at d1 d2 d3;have hx:x∈N.ks:=by rw[hk];exact d1
  have hy:y∈N.ks:=by rw[hk];exact d2
  have e1:(pre++[(x,y,m)])++post=pre++(x,y,m)::post:=by simp
  rw[D4,aQ];refine⟨trivial,?_⟩;have ih:=λx6 x7 x8 M rp N hk hp h C=>jM (De:=De) (ES:=ES) (y0:=y0) (y1:=y1) (y2:=y2) (y4:=y4) (y5:=y5) (rest:=rest) h8 post (pre++[(x,y,m)]) x6 x7 x8 M rp N (λe he=>hd e (DT _ he)) hk hp h C (by rw[e1];exact hQ)
  generalize bN {toWB:=B cls kls fad,call:=ac T (B cls kls fad) (n+6)} (.tup [6,7,8]) dI ES (λ_=>True) De (post.map drD)=K at ih ⊢
  simp[wpG,pj,dI,drD,h.mth jT];by_cases hn:x=y
  ·subst hn;rw[xg (n:=n+3) h hx (by omega)]
   exact ih _ _ _ M rp N hk hp h (C.same h.wn)
  ·refine zX h hp (by rw[hk];omega) hn (λd hd=>by have:=hd.1.pot hp;omega) λM' rp' h'=>?_
   rw[dc (N:=N) hx,dc hy]at h';exact ih _ _ _ M' rp' (jj N x y m) hk (sW hp d3) h' (C.add h.wn hx hy hn)
end
section
variable {cls kls fad:Nat->PySem.Addr}{M M0 M':MH}{Q:VK3}{E:XN}{n:Nat}{a b c d f r kd nn p:PySem.Addr}{x y x0:Nm}{N:Nt}{t:Nm->Int}{rp:Nm->PySem.Addr}{dr:List Br}{ks:List Nm}{m:Int}
inductive FW (N:Nt):Nm->Nm->Int->List Nm->Prop where
 |nil {y:Nm}:FW N y y 0 []
 |cons {a b c:Nm}{v w:Int}{l:List Nm} (e:Ed N a b w) (h:FW N b c v l):FW N a c (w+v) (b::l)
theorem FW.snoc{a b c:Nm}{v w:Int}{l:List Nm}(h:FW N a b v l)(e:Ed N b c w):FW N a c (v+w) (l++[c]):=by
 induction h with
 |nil=>rw[Int.zero_add];have:=FW.cons e FW.nil;rwa [Int.add_zero]at this
 |cons e1 _ ih=>rw[Int.add_assoc];exact .cons e1 (ih e)
theorem Way.fw{a y:Nm}{v:Int}{l:List Nm}(h:Way N a y v l):∃r,l.reverse=a::r/\FW N a y v r:=by
 induction h with
 |nil=>exact⟨[],rfl,.nil⟩
 |step _ xk e ih=>
  obtain⟨r,h1,h2⟩:=ih;exact⟨r++[_],by rw[List.reverse_cons,h1];rfl,h2.snoc ⟨xk,e⟩⟩
theorem FW.last{a y:Nm}{v:Int}{l:List Nm}(h:FW N a y v l):∃l',a::l=l'++[y]:=by
 induction h with
 |nil=>exact⟨[],rfl⟩
 |cons _ _ ih=>
  obtain⟨l',e⟩:=ih;exact⟨_::l',by rw[e];rfl⟩
theorem ixr{ds:List D}{i:Int}{z:D}(h:M p=some (.lst ds))(hi:atI ds i=some z):ar (.ref p) (.int i) M Q=Q z M:=by
 simp[ar,aT,ah,h,hi]
noncomputable def sF(dr:List Br)(a b:Nm):List Int:=(dr.filter λe=>decide (e.1=a)&&decide (e.2.1=b)).map λe=>e.2.2
noncomputable def sC(a b:Nm):D->Bool
 |.tup [.tup u,.tup v,_]=>decide (bX u=some a)&&decide (bX v=some b)
 |_=>false
noncomputable def sE:D->D
 |.tup [_,_,w]=>w
 |_=>.non
theorem yW{a b:Nm}:((dr.map drD).filter (sC a b)).map sE=(sF dr a b).map D.int:=by
 unfold sF;rw[List.filter_map,List.map_map,List.map_map];have e1:(sC a b∘drD)=λe=>decide (e.1=a)&&decide (e.2.1=b):=by funext e;simp[sC,drD,nmD,ints_of]
 have e2:(sE∘drD)=(D.int∘λe=>e.2.2):=by funext e;simp[sE,drD]
 rw[e1,e2]
theorem oZ:∀(l:List Int)(n:Int),(l.foldl (mmI false) n=n\/l.foldl (mmI false) n∈l)/\l.foldl (mmI false) n<=n/\∀i∈l,l.foldl (mmI false) n<=i
 |[],n=>⟨.inl rfl,Int.le_refl _,λ_ h=>by cases h⟩
 |j::l,n=>by
  obtain⟨h0,h1,h2⟩:=oZ l (mmI false n j);have h3:(mmI false n j=n\/mmI false n j=j)/\mmI false n j<=n/\mmI false n j<=j:=by unfold mmI;simp only[EA,if_false];split<;>omega
  rw[List.foldl_cons];refine⟨?_,by omega,λi hi=>?_⟩
  ·rcases h0 with h0|h0
   ·rw[h0];rcases h3.1 with e|e
    ·exact .inl e
    ·rw[e];exact .inr DW
   ·exact .inr (DT _ h0)
  ·rcases DX.mp hi with rfl|hi
   ·omega
   ·exact h2 i hi
theorem AO{l:List Int}{w:Int}(h1:w∈l)(h2:∀i∈l,w<=i):rMM false false (.rol (l.map D.int)) M Q=Q (.int w) M:=by
 cases l with
 |nil=>cases h1
 |cons n l=>
  obtain⟨g0,g1,g2⟩:=oZ l n;have e:l.foldl (mmI false) n=w:=by
   have a1:l.foldl (mmI false) n<=w:=by
    rcases DX.mp h1 with rfl|h
    ·exact g1
    ·exact g2 w h
   have a2:w<=l.foldl (mmI false) n:=by
    rcases g0 with g|g
    ·rw[g];exact h2 n DW
    ·exact h2 _ (DT _ g)
   omega
  rw[qK,fY];simp only[e]
theorem yo{l:List Int}(h:l≠[]):aG .Eq (.rol (l.map D.int)) (.rol []) M Q=Q (.bl false) M:=by
 cases l with
 |nil=>exact absurd rfl h
 |cons i l=>
  simp[aG,kN,rs,ah,plN,eqD,bM,pl,pls]
theorem sR{W:WC}{ws:List Nm}{i:Nat}{a b:Nm}(hM:Fm M)(hp:M p=some (.lst (ws.map nmD)))(ha:ws[i]?=some a)(hb:ws[i+1]?=some b)(hd:dr.length<900) :
  jB W (.tup [0,1,2]) (.yes (.and (.cmp .Eq V0 (.ix V3 (.bin .Sub V4 I1))) (.cmp .Eq V1 (.ix V3 V4)))) V2 (λ_=>True) Q (dr.map drD) [none,none,none,some (.ref p),some (.int ((i:Int)+1))] M=Q (.rol ((sF dr a b).map D.int)) M:=by
 rw[gg (λσ=>∃x0 x1 x2,σ=[x0,x1,x2,some (.ref p),some (.int ((i:Int)+1))]) (λd=>match d with
  |.tup [u,v,w]=>[some u,some v,some w,some (.ref p),some (.int ((i:Int)+1))]
  |_=>[]) (sC a b) sE ⟨none,none,none,rfl⟩ hM (by simp;omega) (λd hd=>by
   obtain⟨e,he,rfl⟩:=EB.mp hd;refine⟨⟨_,_,_,rfl⟩,?_⟩;rintro σ ⟨x0,x1,x2,rfl⟩ M k;simp[wpG,pj,drD]) (λd hd M' hE Q'=>by
   obtain⟨e,he,rfl⟩:=EB.mp hd;have hp':=hE.2 _ _ hp;have i1:∀{Q:VK3},ar (.ref p) (.int (i:Int)) M' Q=Q (nmD a) M':=λ{Q}=>ixr hp' (eZ ha)
   have i2:∀{Q:VK3},ar (.ref p) (.int ((i:Int)+1)) M' Q=Q (nmD b) M':=λ{Q}=>by
    have:=ixr (Q:=Q) hp' (eZ hb);simpa using this
   have e0:(i:Int)+1-1=i:=by omega
   have ec:sC a b (drD e)=(decide (e.1=a)&&decide (e.2.1=b)):=by simp[sC,drD,nmD,ints_of]
   rw[ec];by_cases q1:e.1=a<;>by_cases q2:e.2.1=b<;>simp[drD,fZ,e0,↓i1,↓i2,lZ,q1,q2]) (λd hd _ M' hE Q'=>by
   obtain⟨e,he,rfl⟩:=EB.mp hd;simp[drD,sE]),yW]
theorem sh{W:WC}{De:Ends3}{ES:St3->XN}{R:Prop}{y2 y3:Option D}{ws:List Nm}(C:DN dr N)(hM:Fm M)(hp:M p=some (.lst (ws.map nmD)))(hd:dr.length<900){a y:Nm}{v:Int}{l:List Nm}(h:FW N a y v l):∀(s:Nat)(f:Int)(x5 x6:Option D),ws.drop s=a::l->
  (∀x5 x6,De.nx [some (dL dr),some (.ref p),y2,y3,some (.int (f+v)),x5,x6] M=R)->
  bN W (.name 5) cI ES (λ_=>True) De ((List.range' s l.length).map λ(k:Nat)=>D.int ((k:Int)+1)) [some (dL dr),some (.ref p),y2,y3,some (.int f),x5,x6] M=R:=by
 induction h with
 |nil=>
  intro s f x5 x6 _ hR;have:=hR x5 x6;rw[Int.add_zero]at this;simp[be,this]
 |@cons a b c v w l e _ ih=>
  intro s f x5 x6 hs hR;have h0:ws[s]?=some a:=by
   have:=congrArg (·[0]?) hs;simpa using this
  have h1:ws[s+1]?=some b:=by
   have:=congrArg (·[1]?) hs;simpa using this
  have h2:ws.drop (s+1)=b::l:=by
   have:=congrArg (List.drop 1) hs;simpa using this
  obtain⟨g1,g2⟩:=C.ed _ _ _ e;have m1:w∈sF dr a b:=EB.mpr ⟨(a,b,w),List.mem_filter.mpr ⟨g1,by simp⟩,rfl⟩
  have m2:∀i∈sF dr a b,w<=i:=λi hi=>by
   obtain⟨z,hz,rfl⟩:=EB.mp hi;obtain⟨z1,z2⟩:=List.mem_filter.mp hz;obtain⟨za,zb,zw⟩:=z;simp at z2;obtain⟨rfl,rfl⟩:=z2;exact g2 _ z1
  have ne:sF dr a b≠[]:=λz=>by rw[z]at m1;cases m1
  rw[Em,List.range'_succ,D4,aQ,<-ih (s+1) (f+w) (some (.int ((s:Int)+1))) (some (.rol ((sF dr a b).map D.int))) h2 (λx5 x6=>by rw[Int.add_assoc];exact hR x5 x6)]
  simp[-qK,wpG,cI,ay,sR hM hp h0 h1 hd,yo ne,↓AO m1 m2]
theorem Ax{v:Int}{l:List Nm}(C:DN dr N)(hM:Fm M)(hp:M p=some (.lst (l.map nmD).reverse))(hd:dr.length<900)(h:Way N x y v l)(hl:l.length<900):ac T (B cls kls fad) (n+1) 24 [dL dr,.ref p,nmD x,nmD y] M Q E=Q (.int v) M:=by
 obtain⟨r,e1,h2⟩:=h.fw;obtain⟨l',e2⟩:=h2.last;have hp':M p=some (.lst ((x::r).map nmD)):=by rw[hp,<-List.map_reverse,e1]
 have hlen:l.length=r.length+1:=by have:=congrArg List.length e1;simpa using this
 have i1:∀{Q:VK3},ar (.ref p) (.int 0) M Q=Q (nmD x) M:=λ{Q}=>ixr hp' (by simp[atI,ixN])
 have i2:∀{Q:VK3},ar (.ref p) (.int (-1)) M Q=Q (nmD y) M:=λ{Q}=>by
  have e:M p=some (.lst (l'.map nmD++[nmD y])):=by rw[hp',e2];simp
  have:=k8 (M:=M) (Q:=Q) (ds:=l'.map nmD) (d:=nmD y);rw[<-this];simp[ar,aT,ah,e]
 have n1:∀{x:Nm}{M:MH}{Q:VK3},aG .NotEq (nmD x) (nmD x) M Q=Q (.bl false) M:=λ{x M Q}=>by
  simp[aG,kN,rs,ah,nmD,plN,eqD,gX]
 have len:∀{Q:VK3},rBi .len [.ref p] M Q=Q (.int ((r.length:Int)+1)) M:=λ{Q}=>by simp[rBi,aT,ah,hp']
 have isl:∀{Q:VK3},iB .list (.ref p) M Q=Q (.bl true) M:=λ{Q}=>by simp[iB,hp']
 have l0:¬ (r.length:Int)+1=0:=by omega
 rw[pZ];simp[fS,↓i1,↓i2,↓n1,↓len,↓isl,l0];have er:rng 1 r.length=(List.range' 0 r.length).map λ(k:Nat)=>D.int ((k:Int)+1):=by
  unfold rng;rw[List.range_eq_range'];apply List.map_congr_left;intro k _;rw[Int.add_comm]
 rw[er];rw[eq_true (show -4611686018427387904<=(r.length:Int)+1/\(r.length:Int)+1<4611686018427387904 by omega),true_and]
 refine iff_of_eq (sh C hM hp' hd h2 0 0 none none rfl λx5 x6=>?_)
 simp
theorem lF{g:Nm->Int}{l:List Nm}{x:Nm}:lk (tl g l) x=if x∈l then some (g x) else none:=by
 unfold tl
 induction l with
 |nil=>rfl
 |cons q l ih=>
  simp only[D4,lk,ih,DX];by_cases h:q=x
  ·simp[h]
  ·simp[h,Ea h]
theorem yh{g:Nm->Int}(hM:Fm M)(hc:M c=some (dS (tl g ks)))(hd:dr.length<900)(hk:∀e∈dr,e.1∈ks/\e.2.1∈ks/\g e.2.1-g e.1<=e.2.2)(hQ:Q (.bl true) M):ac T (B cls kls fad) (n+2) 25 [nL ks,dL dr,.ref c] M Q E:=by
 rw[mY];have hc':M c=some (.dt (K1 (tl g ks)) ((tl g ks).map λp=>.int p.2)):=hc
 have len:∀{Q:VK3},rBi .len [.ref c] M Q=Q (.int (ks.length:Int)) M:=λ{Q}=>by simp[rBi,aT,ah,d5,hc,dS,oF]
 have isd:∀{Q:VK3},iB .dict (.ref c) M Q=Q (.bl true) M:=λ{Q}=>by simp[iB,hc,dS]
 simp[eA,↓len,↓isd,ay];refine og (P:=λσ=>∃x3,σ=[some (nL ks),some (dL dr),some (.ref c),x3]) ⟨none,rfl⟩ ?_ ?_
 ·rintro d hd σ ⟨x3,rfl⟩ k hk';obtain⟨z,hz,rfl⟩:=EB.mp hd;have hv:lk (tl g ks) z=some (g z):=by rw[lF,DY hz]
  simp[wpG,d9,ib (g:=D.int) hc',↓cV (g:=D.int) hc' hv,hv,oy];exact hk' _ ⟨_,rfl⟩
 ·rintro σ ⟨x3,rfl⟩;simp[ay];rw[gg (λσ=>∃x0 x1 x2,σ=[x0,x1,x2,some (.ref c)]) (λd=>match d with
   |.tup [u,v,w]=>[some u,some v,some w,some (.ref c)]
   |_=>[]) (λ_=>true) (λ_=>.bl true) ⟨none,none,none,rfl⟩ hM (by simp;omega) (λd hd=>by
    obtain⟨e,he,rfl⟩:=EB.mp hd;refine⟨⟨_,_,_,rfl⟩,?_⟩;rintro σ ⟨x0,x1,x2,rfl⟩ M k;simp[wpG,pj,drD]) (λ_ _ _ _ _=>rfl) (λd hd _ M' hE Q'=>by
    obtain⟨e,he,rfl⟩:=EB.mp hd;obtain⟨h1,h2,h3⟩:=hk e he;have g1:∀{Q:VK3},ar (.ref c) (nmD e.1) M' Q=Q (.int (g e.1)) M':=λ{Q}=>cV (g:=D.int) (hE.2 _ _ hc') (by rw[lF,DY h1])
    have g2:∀{Q:VK3},ar (.ref c) (nmD e.2.1) M' Q=Q (.int (g e.2.1)) M':=λ{Q}=>cV (g:=D.int) (hE.2 _ _ hc') (by rw[lF,DY h2])
    simp[drD,↓g1,↓g2,h3])]
  rw[u0 (λ_=>true) (λ_ _=>rfl)]
  have e:((dr.map drD).filter λ_=>true).all (λ_=>true)=true:=by simp
  rw[e,jI];exact hQ
end
section
variable {cls kls fad:Nat->PySem.Addr}{M M0 M':MH}{Q:VK3}{E:XN}{n:Nat}{a b c d f r kd nn p:PySem.Addr}{x y x0:Nm}{N:Nt}{t g:Nm->Int}{rp:Nm->PySem.Addr}{dr:List Br}{ks:List Nm}{m far:Int}
theorem DN.keep(C:DN dr N)(hd:∀e∈dr,Dk ks t e)(hg:Pot N g):∀e∈dr,e.1∈ks/\e.2.1∈ks/\g e.2.1-g e.1<=e.2.2:=λ⟨a,b,w⟩ he=>by
 obtain⟨h1,h2,h3⟩:=hd _ he;refine⟨h1,h2,?_⟩;simp only at h3 ⊢;by_cases e:a=b
 ·subst e;omega
 ·obtain⟨w',hw⟩:=C.has a b w he e;have:=(C.ed a b w' hw).2 w he;have:=hg a b w' hw;omega
noncomputable def uR:ISs:=.cons (.ifs (.or (.not (.val (.call 25 (Ar3 V1 V2 V9)))) (.cmp .NotEq (.ix V9 V5) I0)) (S1 (.ret (.con (.bl false)))) .nil) (.cons (.ifs (.cmp .Is V7 (.con .non)) (S1 (.set 10 (.and (.cmp .Is V8 (.con .non)) (.cmp .GtE (.ix V9 V6) V4)))) (S1 (.set 10 (.and (.call 20 (Ar1 V7)) (.and (.cmp .Eq (.call 24 (Ar4 V2 V8 V5 V6)) V7) (.cmp .Eq (.ix V9 V6) V7)))))) (.cons (.ifs (.and (.cmp .IsNot V7 (.con .non)) (.val V10)) (S1 (.app V8 V5)) .nil) (.cons (.expr (.bm .cleard V9 .nil)) (.cons (.ret V10) .nil))))
theorem Ac:eR=.cons (.set 5 (.ix V1 (.bin .Mod (.call 21 (Ar2 V3 I1)) (.bi .len (Ar1 V1))))) (.cons (.set 6 (.ix V1 (.bin .Mod (.call 21 (Ar2 V3 I2)) (.bi .len (Ar1 V1))))) (.cons (.set 7 (.meth V0 245168109 (Ar2 V5 V6))) (.cons (.set 8 (.meth V0 211318770 (Ar2 V5 V6))) (.cons (.ifs (.cmp .Eq (.bin .Mod V3 I3) I0) (S2 (.set 9 (.meth V0 4016813453548 (Ar2 V5 V6))) (.set 4 I0)) (S1 (.set 9 (.meth V0 4016813453548 (Ar3 V5 V6 V4))))) uR)))):=rfl
theorem uM{o:Option Int}{v:D}{y0 y3:Option D}{De:Ends3}{ES:St3->XN}(k:Kp M0 M)(hM:Fm M)(hc0:M0 c=none)(hc:M c=some (dS (tl g ks)))(hx:x∈ks)(hy:y∈ks)(ho:IsD N x y o)(L:LT N x y far g)(hr:RD M0 M N x y o v)(C:DN dr N)(hd:dr.length<900)(hg:∀e∈dr,e.1∈ks/\e.2.1∈ks/\g e.2.1-g e.1<=e.2.2)
  (hQ:∀M',Kp M0 M'->De.rt (.bl true) M'):aw {toWB:=B cls kls fad,call:=ac T (B cls kls fad) (n+2)} uR De ES [y0,some (nL ks),some (dL dr),y3,some (.int far),some (nmD x),some (nmD y),some (oi o),some v,some (.ref c),none] M:=by
 have hc':M c=some (.dt (K1 (tl g ks)) ((tl g ks).map λp=>.int p.2)):=hc
 have vx:lk (tl g ks) x=some 0:=by rw[lF,DY hx,L.x0]
 have vy:lk (tl g ks) y=some (g y):=by rw[lF,DY hy]
 have ix:∀{Q:VK3},ar (.ref c) (nmD x) M Q=Q (.int 0) M:=λ{Q}=>cV (g:=D.int) hc' vx
 have iy:∀{Q:VK3},ar (.ref c) (nmD y) M Q=Q (.int (g y)) M:=λ{Q}=>cV (g:=D.int) hc' vy
 have clr:∀{M:MH}{Q:VK3},M c=some (dS (tl g ks))->(tyB .cleard (.ref c) M=true/\rBm .cleard (.ref c) [] M Q)=Q .non (put M c (.dt [] [])):=λ{M Q} h=>by
  simp[tyB,rBm,gV,d5,h,dS]
 simp[uR];refine yh hM hc hd hg ?_;simp[↓ix];cases o with
 |none=>
  cases (show v=.non from hr);have:=L.yn ho;simp[oi,↓iy,this,clr hc];exact hQ _ (k.put hc0)
 |some d=>
  obtain⟨l,p,hw,hl,hp0,rfl,hp⟩:=hr;have hy':=L.yd d ho;have hcp:c≠p:=λe=>by rw[<-e,hc]at hp;cases hp
  simp[oi,oy,Ax C hM hp hd hw hl,↓iy,hy',kX hp,fk hp];rw[clr (by rw[af hcp];exact hc)]
  exact⟨by rw[PySem.sizeLine_eq];omega,hQ _ ((k.put hp0).put hc0)⟩
theorem yJ{cell:Int}(h:NT kls M nn kd rp N)(hk:N.ks=ks)(h0:0<ks.length)(hp:Pot N t)(C:DN dr N)(hd:dr.length<900)(hdr:∀e∈dr,Dk ks t e)(hQ:Q (.bl true) M):ac T (B cls kls fad) (n+5) 26 [.ref nn,nL ks,dL dr,.int cell,.int far] M Q E:=by
 obtain⟨m1,h1⟩:=fJ (cls:=cls) (kls:=kls) (fad:=fad) cell 1 (by omega) (by omega)
 obtain⟨m2,h2⟩:=fJ (cls:=cls) (kls:=kls) (fad:=fad) cell 2 (by omega) (by omega)
 obtain⟨i,x,i1,i2,i3⟩:=fN h0 m1;obtain⟨j,y,j1,j2,j3⟩:=fN h0 m2;have hx:x∈N.ks:=by rw[hk];exact i3
 have hy:y∈N.ks:=by rw[hk];exact j3
 have g1:∀{M:MH}{Q:VK3},ar (nL ks) (.int (i:Int)) M Q=Q (nmD x) M:=λ{M Q}=>bS (eZ i2)
 have g2:∀{M:MH}{Q:VK3},ar (nL ks) (.int (j:Int)) M Q=Q (nmD y) M:=λ{M Q}=>bS (eZ j2)
 have hsz:=h.sz;rw[hk]at hsz;have cd:∀m:Int,gF m (ks.length:Int)=True:=λm=>bH (by omega) (by omega)
 rw[nj,Ac];simp[h1,h2,cd,i1,j1,↓g1,↓g2,h.mth eO];refine⟨h0,?_⟩;refine nr (n:=n) h hp hx hy λo ho=>?_
 simp[h.mth cS];refine t5 (n:=n) h hp hx hy ho λv M1 hr k1 f1=>?_
 have h':=h.kp k1 f1;have fin:∀{far:Int}{g:Nm->Int}{c:PySem.Addr}{M2:MH},LT N x y far g->Kp M1 M2->Fm M2->M1 c=none->M2 c=some (dS (tl g N.ks))->
   aw {toWB:=B cls kls fad,call:=ac T (B cls kls fad) (n+4)} uR {nx:=λ_ M'=>Q .non (ak M M'),rt:=λv M'=>Q v (ak M M')} (λ_ i M'=>E i (ak M M')) [some (.ref nn),some (nL ks),some (dL dr),some (.int cell),some (.int far),some (nmD x),some (nmD y),some (oi o),some v,some (.ref c),none] M2:=λ{far g c M2} L k2 f2 hc0 hc=>by
  rw[hk]at hc;refine uM (n:=n+2) (M0:=M) (k1.trans k2) f2 (k1.none hc0) hc i3 j3 ho L ?_ C hd (C.keep hdr L.pot) λM' k=>?_
  ·cases o with
   |none=>exact hr
   |some d=>
    obtain⟨l,p,a1,a2,a3,a4,a5⟩:=hr;exact⟨l,p,a1,a2,a3,a4,k2 _ _ a5⟩
  ·show Q (.bl true) (ak M M');rw[lj k];exact hQ
 by_cases h3:cell % 3=0
 ·simp[h3,bH,h'.mth bL];exact pi (n:=n) h' hp hx hy λg c M2 L k2 f2 c0 c1=>fin L k2 f2 c0 c1
 ·simp[h3,bH,h'.mth bL];exact lq (n:=n) h' hp hx hy λg c M2 L k2 f2 c0 c1=>fin L k2 f2 c0 c1
end
section
variable {cls kls fad:Nat->PySem.Addr}{M M0 M':MH}{Q:VK3}{E:XN}{n:Nat}{a b c d f r kd nn p:PySem.Addr}{x y x0:Nm}{N:Nt}{t g:Nm->Int}{rp:Nm->PySem.Addr}{dr:List Br}{ks:List Nm}{m far:Int}
theorem ut{R:MH->Prop}{f:Nat}{y:D}{i:Nat}{C:PySem.Addr}{ns:List Nat}{es:List D}(h:M a=some (.ins i C ns es)):qO (B cls kls fad) f y R (.ref a) M=((C=(B cls kls fad).kls i/\i<(B cls kls fad).nk/\(B cls kls fad).fok i f=true/\ns.length<1000)/\R (put M a (.ins i C (cD f ns) (cW f y ns es)))):=by
 simp[qO,h]
noncomputable def uX:ISs:=.cons (.set 11 (.call 22 (Ar2 (.call 19 (Ar2 V0 I1)) V1))) (.cons (.ifs (.or (.not (.val (.call 27 (Ar3 V3 (.ix V2 I0) V11)))) (.not (.val (.call 27 (Ar3 V3 V11 (.ix V2 (.neg I1))))))) (S1 (.ret (.con (.bl false)))) .nil) (.cons (.set 12 (.bin .Sub (.bin .Mod (.bin .FloorDiv (.ix V9 I2) I6) (.bin .Mult I2 (.bin .Pow (.con (.int 10)) (.con (.int 60))))) (.bin .Pow (.con (.int 10)) (.con (.int 60))))) (.cons (.for_ (.name 13) (.seq (.cat true V9 (.sl true V9 .no (.yes I1)))) jf) (.cons (.ret (.cmp .Eq (.meth V3 31083688174 .nil) V2)) .nil))))
theorem AH:rG=.cons (.set 1 (.bin .Add I2 (.bin .Mod (.call 19 (Ar2 V0 I0)) I6))) (.cons (.set 2 (.comp true ["_law_k","_law_script"] [none,some 0] (.name 0) (.rng1 V1) .no (.call 22 (Ar2 (.call 19 (Ar2 V1 I1)) V0)))) (.cons (.set 3 (.make false 0 .nil)) (.cons (.for_ (.name 4) (.seq V2) da) (.cons (.set 5 (.call 23 (Ar2 V0 V2))) (.cons (.for_ (.tup [6,7,8]) (.seq V5) dI) (.cons (.set 9 (.comp true ["_law_k","_law_script"] [none,some 0] (.name 0) (.rng2 I2 I5) .no (.call 19 (Ar2 V1 V0)))) (.cons (.set 10 (.ix V2 (.bin .Mod (.ix V9 I1) V1))) (.cons (.ifs (.and (.cmp .Eq (.bin .Mod (.bin .FloorDiv (.ix V9 I0) I3) I2) I1) (.not (.val (.call 29 (Ar3 V3 V10 (.ix V2 (.bin .Mod (.ix V9 I2) V1))))))) (S1 (.ret (.con (.bl false)))) .nil) uX)))))))):=rfl
theorem sm:∀{l:List Nm},(l.map nmD).all (plN 8)=true
 |[]=>rfl
 |z::l=>by
  rw[D4,List.all_cons,sm (l:=l)];simp[nmD,plN]
theorem qU:∀{l:List Nm},bM (l.map nmD) (l.map nmD)=true
 |[]=>by simp[bM]
 |z::l=>by
  simp only[D4,bM,qU (l:=l),nmD,eqD,gX];simp
theorem zm:aG .Eq (nL ks) (nL ks) M Q=Q (.bl true) M:=by
 have h7:(ks.map nmD).all (plN 7)=true:=by
  rw[Es];intro d hd;obtain⟨z,_,rfl⟩:=EB.mp hd;simp[nmD,plN]
 simp only[aG,kN,rs,ah,sm,if_true,pl,plN,h7,eqD,qU];simp
theorem c_lt{ns:List Int}{H:Nat}{F:Nat->Nm}{c1 c2 c3 c4:Int}{y4 y6 y7 y8 y10:Option D}{De:Ends3}{ES:St3->XN}(hF:∀j k,F j=F k->j=k)(h1:∀{M:MH}{Q:VK3}{E:XN},ac T (B cls kls fad) 8 19 [scr ns,.int 1] M Q E=Q (.int c1) M)(hn:∀{M:MH}{Q:VK3}{E:XN}{k:Nat},ac T (B cls kls fad) 8 22 [.int c1,.int k] M Q E=Q (nmD (F k)) M)(H2:2<=H)(H7:H<=7)(h:NT kls M nn kd rp N)(hk:N.ks=(List.range H).map F)(hp:Pot N t)(C:DN dr N)(hd:dr.length<900)(hdr:∀e∈dr,Dk ((List.range H).map F) t e)(hQ:De.rt (.bl true) M) :
  aw {toWB:=B cls kls fad,call:=ac T (B cls kls fad) 8} uX De ES [some (scr ns),some (.int H),some (nL ((List.range H).map F)),some (.ref nn),y4,some (dL dr),y6,y7,y8,some (.rol [.int c2,.int c3,.int c4]),y10,none,none,none] M:=by
 have kmem:∀k,F k∈N.ks<->k<H:=λk=>by
  rw[hk,EB];exact⟨λ⟨j,hj,e⟩=>by rw[<-hF _ _ e];exact List.mem_range.mp hj,λh=>⟨k,List.mem_range.mpr h,rfl⟩⟩
 have i0:∀{M:MH}{Q:VK3},ar (nL ((List.range H).map F)) (.int 0) M Q=Q (nmD (F 0)) M:=λ{M Q}=>bS (eZ (i:=0) (by rw[Ef,List.getElem?_range (by omega)];rfl))
 have i9:∀{M:MH}{Q:VK3},ar (nL ((List.range H).map F)) (.int (-1)) M Q=Q (nmD (F (H-1))) M:=λ{M Q}=>by
  have e:((List.range H).map F).map nmD=((List.range (H-1)).map F).map nmD++[nmD (F (H-1))]:=by
   rw[show H=H-1+1 by omega,List.range_succ];simp
  show ar (.rol (((List.range H).map F).map nmD)) _ M Q=_;rw[e,k8]
 have r1:∀{Q:VK3}{E:XN},ac T (B cls kls fad) 8 27 [.ref nn,nmD (F 0),nmD (F H)] M Q E=Q (.bl true) M:=λ{Q E}=>jJ (n:=3) h (.inl ⟨(kmem 0).mpr (by omega),λz=>by have:=(kmem H).mp z;omega⟩)
 have r2:∀{Q:VK3}{E:XN},ac T (B cls kls fad) 8 27 [.ref nn,nmD (F H),nmD (F (H-1))] M Q E=Q (.bl true) M:=λ{Q E}=>jJ (n:=3) h (.inr ⟨λz=>by have:=(kmem H).mp z;omega,(kmem (H-1)).mpr (by omega)⟩)
 have i2:∀{M:MH}{Q:VK3},ar (.rol [.int c2,.int c3,.int c4]) (.int 2) M Q=Q (.int c4) M:=λ{M Q}=>bS (ca (j:=2) rfl)
 have hcut:jo [D.int c2,.int c3,.int c4] none (some 1)=[.int c2]:=rfl;have hm:gA 2 1000000000000000000000000000000000000000000000000000000000000=True:=rE (by omega) (by omega) (by omega) (by omega)
 simp[uX,h1,hn,↓i0,↓i9,↓r1,↓r2,↓i2,bH,ng,hm,hcut,PySem.sizeLine_eq];generalize c4 / 6 % 2000000000000000000000000000000000000000000000000000000000000-1000000000000000000000000000000000000000000000000000000000000=far;refine og (P:=λσ=>∃x13,σ=[some (scr ns),some (.int H),some (nL ((List.range H).map F)),some (.ref nn),y4,some (dL dr),y6,y7,y8,some (.rol [.int c2,.int c3,.int c4]),y10,some (nmD (F H)),some (.int far),x13]) ⟨none,rfl⟩ ?_ ?_
 ·rintro d hd' σ ⟨x13,rfl⟩ k hk';obtain⟨cell,rfl⟩:∃cell,d=.int cell:=by
   simp only[DX,E4,or_false]at hd';rcases hd' with rfl|rfl|rfl|rfl<;>exact⟨_,rfl⟩
  simp[wpG,jf];refine yJ (n:=3) h hk (by simp;omega) hp C hd hdr ?_
  simp;exact hk' _ ⟨_,rfl⟩
 ·rintro σ ⟨x13,rfl⟩;have hkd:M kd=some (.dt ((List.range H).map F) ((lR N rp).map λe=>.ref e.2)):=by rw[h.eg.kd];unfold dK;rw[fB,hk]
  simp[h.mth mF,l7,dG,h.fld,j6 hkd];refine⟨by rw[PySem.sizeLine_eq];omega,?_⟩
  rw[<-List.map_map];show aG .Eq (nL _) (nL _) M De.rt;rw[zm];exact hQ
theorem main(cls kls fad:Nat->PySem.Addr)(ns:List Int)(hl:ns.length<=63):ac (L.map FL.fb) (B cls kls fad) 9 30 [scr ns] (λ_=>none) (λd _=>d=.bl true) (λ_ _=>False):=by
 rw[Cw];simp only[AG,AH];obtain⟨ce,hce⟩:∃ce:Nat->Int,∀(k:Nat) {M:MH}{Q:VK3}{E:XN},ac T (B cls kls fad) 8 19 [scr ns,.int k] M Q E=Q (.int (ce k)) M:=
  ⟨λk=>Classical.choose (kL ns k),λk {M Q E}=>Classical.choose_spec (kL ns k)⟩
 have h0:∀{M:MH}{Q:VK3}{E:XN},ac T (B cls kls fad) 8 19 [scr ns,.int 0] M Q E=Q (.int (ce 0)) M:=hce 0;have h1:∀{M:MH}{Q:VK3}{E:XN},ac T (B cls kls fad) 8 19 [scr ns,.int 1] M Q E=Q (.int (ce 1)) M:=hce 1;obtain⟨F,hF,hn⟩:=t9 (cls:=cls) (kls:=kls) (fad:=fad) (ce 1);have hn':∀{M:MH}{Q:VK3}{E:XN}{k:Nat},ac T (B cls kls fad) 8 22 [.int (ce 1),.int k] M Q E=Q (nmD (F k)) M:=hn;obtain⟨H,hH⟩:∃H:Nat,2+ce 0 % 6=H:=⟨(2+ce 0 % 6).toNat,by omega⟩
 have H2:2<=H:=by omega
 have H7:H<=7:=by omega
 obtain⟨t,dr,d1,d2,hb⟩:=se (cls:=cls) (kls:=kls) (fad:=fad) ns hl hF (H:=H) (by omega) (by omega)
 have hb':∀{M:MH}{Q:VK3}{E:XN},Fm M->ac T (B cls kls fad) 8 23 [scr ns,nL ((List.range H).map F)] M Q E=Q (dL dr) M:=λ{M Q E} hM=>hb (n:=6) hM
 have hmap:(rng 0 H).map (λd=>match d with
  |.int i=>nmD (F i.toNat)
  |_=>.non)=((List.range H).map F).map nmD:=by
  unfold rng;rw[List.map_map,List.map_map];apply List.map_congr_left;intro k _;simp
 simp[h0,bH,hH,ay];rw[fU (λd=>match d with
  |.int i=>nmD (F i.toNat)
  |_=>.non) Fm.nil (by rw[dZ];omega) (λd hd M' hE Q'=>by
   obtain⟨k,hk,rfl⟩:=EB.mp hd;simp[h1,hn']),hmap]
 have knd:((List.range H).map F).Nodup:=by
  rw[List.nodup_iff_pairwise_ne,List.pairwise_map];exact List.nodup_range.imp λh e=>h (hF _ _ e)
 have kln:((List.range H).map F).length=H:=by simp
 have kmem:∀k,F k∈(List.range H).map F<->k<H:=λk=>by
  rw[EB];exact⟨λ⟨j,hj,e⟩=>by rw[<-hF _ _ e];exact List.mem_range.mp hj,λh=>⟨k,List.mem_range.mpr h,rfl⟩⟩
 have kat:∀k,k<H->((List.range H).map F)[k]?=some (F k):=λk hk=>by simp[hk]
 generalize hK:(List.range H).map F=ks at *
 refine⟨by omega,λnn hnn=>?_⟩
 simp[ky,cO];intro kd hkd;have hkn:kd≠nn:=λe=>by rw[e,ae]at hkd;cases hkd
 rw[ut (af (Ea hkn) |>.trans ae)]
 simp;have hN:NT kls (put (put (put (λ_=>none) nn (.ins 0 (kls 0) [] [])) kd (.dt [] [])) nn (.ins 0 (kls 0) [245117675] [.ref kd])) nn kd (λ_=>0) ⟨[],λ_=>[]⟩:=
  ⟨ae,⟨by rw[af hkn,ae];rfl,λz hz=>(by cases hz)⟩,λz hz=>(by cases hz),((Fm.nil.put _ _).put _ _).put _ _,⟨List.nodup_nil,λz hz=>(by cases hz)⟩,by show (0:Nat)<200;omega⟩
 refine iA (n:=7) ks [] none _ _ _ (by simpa using knd) (by simp;omega) rfl (λa b w h=>by cases h.1) hN λx4 M1 rp1 N1 h1' hk1 he1=>?_
 rw[List.nil_append]at hk1;simp[hb' h1'.fm];refine jM (n:=2) (t:=t) (ks:=ks) (by omega) dr [] none none none _ _ _ d2 hk1 (λa b w h=>(he1 _ _ _ h).elim) h1' ⟨λa b w h=>(he1 a b w h).elim,λa b w h=>by cases h⟩ λx6 x7 x8 M2 rp2 N2 h2 hk2 hp2 C2=>?_
 rw[List.nil_append]at C2;have hr3:(rng 2 3).map (λd=>match d with
  |.int i=>D.int (ce i.toNat)
  |_=>.non)=[.int (ce 2),.int (ce 3),.int (ce 4)]:=rfl
 simp[ay];rw[fU (λd=>match d with
  |.int i=>D.int (ce i.toNat)
  |_=>.non) h2.fm (by rw[dZ];omega) (λd hd M' hE Q'=>by
   obtain⟨k,hk,rfl⟩:=EB.mp hd;have e1:(2:Int)+(k:Int)=((2+k:Nat):Int):=by omega
   have e2:(((2+k:Nat):Int)).toNat=2+k:=by omega
   rw[e1];simp only[wG,uf,vU,BZ,Ch,hce,e2]),hr3]
 obtain⟨i,x,i1,i2,i3⟩:=fN (l:=ks) (by omega) (ce 3)
 obtain⟨j,y,j1,j2,j3⟩:=fN (l:=ks) (by omega) (ce 4)
 rw[kln]at i1 j1;have g1:∀{M:MH}{Q:VK3},ar (.rol (ks.map nmD)) (.int (i:Int)) M Q=Q (nmD x) M:=λ{M Q}=>bS (eZ i2)
 have g2:∀{M:MH}{Q:VK3},ar (.rol (ks.map nmD)) (.int (j:Int)) M Q=Q (nmD y) M:=λ{M Q}=>bS (eZ j2)
 have g3:∀{M:MH}{Q:VK3},ar (.rol [.int (ce 2),.int (ce 3),.int (ce 4)]) (.int 2) M Q=Q (.int (ce 4)) M:=λ{M Q}=>bS (ca (j:=2) rfl)
 have cd:∀m:Int,gF m (H:Int)=True:=λm=>bH (by omega) (by omega)
 have fin:∀{y10:Option D},aw {toWB:=B cls kls fad,call:=ac T (B cls kls fad) 8} uX {nx:=λ_ _=>False,rt:=λv _=>v=.bl true} (λ_ _ _=>False) [some (scr ns),some (.int H),some (nL ks),some (.ref nn),x4,some (dL dr),x6,x7,x8,some (.rol [.int (ce 2),.int (ce 3),.int (ce 4)]),y10,none,none,none] M2:=λ{y10}=>by
  subst hK;exact c_lt hF h1 hn' H2 H7 h2 hk2 hp2 C2 (by omega) d2 rfl
 by_cases h3:ce 2 / 3 % 2=1
 ·simp[cd,i1,j1,↓g1,↓g2,↓g3,bH,h3];refine⟨by omega,?_⟩
  refine t7 (n:=1) h2 hp2 (by rw[hk2];exact i3) (by rw[hk2];exact j3) ?_
  simp;exact fin
 ·simp[cd,i1,j1,↓g1,↓g2,↓g3,bH,h3];exact⟨by omega,fin⟩
end
end G
open PySem PySem.W PyProof.Rows
set_option maxRecDepth 100000 in
set_option maxHeartbeats 0 in
theorem PySem.Challenge.cw_driftmeet_k26_roads_and_latest_times_holds : PySem.Challenge.rw_driftmeet_k26_roads_and_latest_times.Holds := by
 w_on
 refine PySem.W.holds_law (by decide +kernel) λsaid=>?_
 refine L2.holdsT (l:=PySem.Challenge.rw_driftmeet_k26_roads_and_latest_times) (q:=HD.view) (loose:=HD.loose) (Xt:=HD.Xt) (XP:=XL HD.view []) (YP:=Hook.says (kHook HD.K HD.as HD.as_eq)) (N:=3854) (n:=63) HD.left (λw s e=>⟨Hook.of (kHook HD.K HD.as HD.as_eq) w s (congrArg Prod.fst e),Nat.le_of_ble_eq_true (congrArg Prod.snd e)⟩) (Hook.keeps (kHook HD.K HD.as HD.as_eq)) (λs e=>xl_of s (Bool.and_eq_true_iff.mp e).1) XL.keeps (by rfl) (by rfl) (by rfl) (λs e=>recFacts_of (Bool.and_eq_true_iff.mp e).2) (by kernel_rfl) (by first|assumption|decide +kernel) (by decide +kernel) ⟨rfl,rfl,rfl,rfl,rfl,by decide +kernel⟩ ?hw rfl rfl ?hc
 (case hw=>w_witness2)
 k_fill
 refine L2.walkD (l:=PySem.Challenge.rw_driftmeet_k26_roads_and_latest_times) (k:=9) (f:=30) (fl:=G.l_law) (x:="_law_script") (L:=G.L) (nm:=G.nm) (BB:=G.B) ⟨λ_=>rfl,by decide,by decide⟩ (λw h Y=>PySem.W.kIn_of Y) rfl rfl rfl rfl ?F (λcls kls fad ns hl=>G.main cls kls fad ns hl)
 case F=>
  intro w mg h KX Gn
  refine' G.top_mk (h2:=53) (xod2:=none) (xan2:=none) (xsl2:=#[]) (xoc2:=.type "function") (xkV2:=.none) (xdc2:=.none) (xpm2:=.str "driftmeet.errors" 187) (xcd2:=.ref 52) (xct2:=.none) KX Gn ?x2 ?xi2 ?xl2 ?xw2 ?xz2 ?xd2 ?xk2 ?xt2
  (case x2=>kernel_rfl)
  (case xi2=>kernel_rfl)
  (case xl2=>kernel_rfl)
  (case xw2=>rfl)
  (case xz2=>kernel_rfl)
  (case xd2=>kernel_rfl)
  (case xk2=>kernel_rfl)
  (case xt2=>kernel_rfl)
  all_goals exact⟨0,0,0,0⟩
