import PyProof.Rows.All
import Wide.All
import OpenK.AllK
import Wide.FinOn
import Lean
import PyProof.EqAt
import PyProof.EqKinds
import PyProof.TupleCall
import PySem.Challenge.RW_driftmeet_k45_surely_before
set_option Elab.async false
set_option linter.all false
set_option bootstrap.genMatcherCode false
set_option genSizeOf false
set_option maxRecDepth 100000
set_option maxHeartbeats 4000000
theorem wz_:PySem.Challenge.rw_driftmeet_k45_surely_before.wellSaid=true:=by decide +kernel
namespace L2
open PySem PySem.Spec PyProof.Rows
abbrev Ko:=PySem.W.Frag
def Je:=@wpAny_bind
def Jf:=@Bool.and_eq_true
def Jg:=@List.mem_cons_of_mem
def Jh:=@wpAny_pure
def Ji:=@if_neg
def Jj:=@Heap.get?_push_of_some
def Jk:=@List.mem_cons_self
def Jl:=@List.mem_cons
def Jm:=@List.map_cons
def Jn:=@Nat.le_refl
def Jo:=@List.length_map
def Jp:=@Heap.get?_push_size
def Jq:=@List.getElem?_map
def Jr:=@if_pos
def Js:=@decide_eq_true_eq
def Jt:=@Heap.lt_size
def Ju:=@Nat.lt_of_lt_of_le
def Jv:=@Ne.symm
def Jw:=@List.length_cons
def Jx:=@List.size_toArray
def Jy:=@Heap.get?_update_other
def Jz:=@List.getElem?_eq_getElem
def JA:=@Option.some.inj
def JB:=@List.mem_singleton
def JD:=@List.mem_append_right
def JE:=@List.all_eq_true
def JF:=@Nat.le_trans
def JG:=@Nat.ne_of_lt
def JH:=@beq_iff_eq
def JI:=@List.mem_append
def JJ:=@List.mem_map
def JK:=@List.length_append
def JL:=@List.getElem?_eq_some_iff
def JM:=@Option.isSome_iff_exists
def JN:=@Bool.false_ne_true
def JO:=@List.nodup_cons
def JP:=@beq_eq_false_iff_ne
def JQ:=@wpAny_newObj_type
def JR:=@List.mem_append_left
def JS:=@Heap.get?_update_self
def JT:=@wpAny_truthy_bool
def JU:=@List.mem_of_getElem?
def JV:=@tupleKind_room_in1
def JW:=@Bool.false_eq_true
def JX:=@wpAny_holding
def JY:=@Nat.lt_irrefl
def JZ:=@List.append_nil
def J0:=@Int.emod_lt_of_pos
def J4:=@Int.eq_ofNat_of_zero_le
def J5:=@List.lookup_cons
def J6:=@List.getElem_mem
def J7:=@Int.emod_nonneg
def J8:=@of_decide_eq_true
def J9:=@decide_eq_false
def Ka:=@wpAny_field
def Kb:=@wpAny_dictEntries
def Kc:=@List.not_mem_nil
def Kd:=@wpAny_call_entry
def Ke:=@Obj.data_mapFields
def Kf:=@List.find?_cons
def Kg:=@Array.getElem?_eq_some_iff
def Kh:=@Int.toNat_natCast
def Ki:=@wpAny_mono
def Kj:=@Nat.le_succ
def Kk:=@Nat.le_add_right
def Kl:=@wpAny_setField
def Km:=@List.getElem?_set_ne
def Kn:=@Bool.and_eq_true_iff
end L2
namespace L2
open PySem PySem.Spec PyProof.Rows
noncomputable abbrev Key:=Sum Int Str
noncomputable def jI:Key->Value->Bool
 |.inl k,v=>Value.isInt k v
 |.inr x,v=>Value.isStrOf x v
noncomputable def Gr(w:World):Key->Int
 |.inl k=>hashInt k
 |.inr x=>hashStr w x
theorem aI:∀{k:Key}{v:Value},jI k v=true->(∃i t,k=Sum.inl i/\v=Value.int i t)\/(∃x t,k=Sum.inr x/\v=Value.str x t)
 |.inl i,v,h=>by
  obtain⟨t,e⟩:=Value.isInt_shape (k:=i) (v:=v) h;exact .inl ⟨i,t,rfl,e⟩
 |.inr x,v,h=>by
  obtain⟨t,e⟩:=Value.isStrOf_shape (x:=x) (v:=v) h;exact .inr ⟨x,t,rfl,e⟩
theorem tq(i:Int)(t:Tok):jI (.inl i) (.int i t)=true:=by simp[jI,Value.isInt]
theorem ua(x:Str)(t:Tok):jI (.inr x) (.str x t)=true:=by simp[jI,Value.isStrOf]
theorem CF(a b:Int):decide ((Sum.inl a:Key)=Sum.inl b)=(a == b):=by grind
theorem B7(a b:Str):decide ((Sum.inr a:Key)=Sum.inr b)=decide (a=b):=by grind
theorem Bi(a:Int)(b:Str):decide ((Sum.inl a:Key)=Sum.inr b)=false:=J9 (λq=>nomatch q)
theorem AI(a:Str)(b:Int):decide ((Sum.inr a:Key)=Sum.inl b)=false:=J9 (λq=>nomatch q)
noncomputable def aD(prog:Program)(w:World):PySem.KeyKind prog w Key where
 is:=jI
 hash:=Gr w
 inj:=λv a b ha hb=>by
  rcases aI ha with ⟨i,t,rfl,rfl⟩|⟨x,t,rfl,rfl⟩
  ·rcases aI hb with ⟨j,u,rfl,e⟩|⟨y,u,rfl,e⟩
   ·injection e with e1 _;rw[e1]
   ·exact nomatch e
  ·rcases aI hb with ⟨j,u,rfl,e⟩|⟨y,u,rfl,e⟩
   ·exact nomatch e
   ·injection e with e1 _;rw[e1]
 byValue:=λk v h=>by
  rcases aI h with ⟨i,t,rfl,rfl⟩|⟨x,t,rfl,rfl⟩<;>rfl
 pyHash:=λhv h=>by
  rcases aI hv with ⟨i,t,rfl,rfl⟩|⟨x,t,rfl,rfl⟩
  ·exact wpAny_pyHash_int h
  ·exact wpAny_pyHash_str h
 eqBool:=λhu hv h=>by
  rcases aI hu with ⟨i,t,rfl,rfl⟩|⟨x,t,rfl,rfl⟩
  ·rcases aI hv with ⟨j,u,rfl,rfl⟩|⟨y,u,rfl,rfl⟩
   ·rw[CF]at h;exact wpAny_eqBool_int h
   ·rw[Bi]at h;exact SeqAt.EqAt.int_str i t y u _ _ _ _ h
  ·rcases aI hv with ⟨j,u,rfl,rfl⟩|⟨y,u,rfl,rfl⟩
   ·rw[AI]at h;exact SeqAt.EqAt.str_int x t j u _ _ _ _ h
   ·rw[B7]at h;exact wpAny_eqBool_str h
 «strs»:=λk x t v h=>by
  rcases aI h with ⟨i,u,rfl,e⟩|⟨y,u,rfl,e⟩
  ·exact nomatch e
  ·injection e with e1 _
   subst e1;cases v<;>rfl
theorem pV(prog:Program)(w:World)(k:Key)(v:Value):(aD prog w).is k v=jI k v:=rfl
theorem ox(prog:Program)(w:World)(i:Int)(t:Tok):(aD prog w).is (.inl i) (.int i t)=true:=tq i t
theorem oK(prog:Program)(w:World)(x:Str)(t:Tok):(aD prog w).is (.inr x) (.str x t)=true:=ua x t
inductive V where
 |i_|bl (b:Bool)|int (i:Int)|str (x:Str)|O2 (b:Array UInt8)|O3 (b:UInt64)|ref (a:Addr)|ty (n:String)
 deriving DecidableEq
def RelV:V->Value->Prop
 |.i_,u=>u=Value.none
 |.bl b,u=>u=Value.bool b
 |.int i,u=>∃t,u=Value.int i t
 |.str x,u=>∃t,u=Value.str x t
 |.O2 b,u=>∃t,u=Value.bytes b t
 |.O3 b,u=>∃t,u=Value.float b t
 |.ref a,u=>u=Value.ref a
 |.ty n,u=>u=Value.type n
abbrev Vals:List V->List Value->Prop:=Paired RelV
theorem Vals.length{xs:List V}{us:List Value}(r:Vals xs us):xs.length=us.length:=Paired.length r
theorem Vals.get:∀{xs:List V}{us:List Value}{i:Nat}{x:V},Vals xs us->xs[i]?=some x->∃u,us[i]?=some u/\RelV x u
 |_,_,_,_,.nil,e=>by simp at e
 |_,_,0,_,.cons r _,e=>by simp at e;subst e;exact⟨_,rfl,r⟩
 |_,_,i+1,x,.cons _ t,e=>by
  obtain⟨u,h1,h2⟩:=Vals.get (i:=i) (x:=x) t (by simpa using e)
  exact⟨u,by simpa using h1,h2⟩
theorem Vals.set(r:RelV x u):∀{xs:List V}{us:List Value} (i:Nat),Vals xs us->Vals (xs.set i x) (us.set i u)
 |_,_,_,.nil=>.nil
 |_,_,0,.cons _ t=>.cons r t
 |_,_,i+1,.cons q t=>.cons q (Vals.set r i t)
theorem Vals.append:∀{xs ys:List V}{us ws:List Value},Vals xs us->Vals ys ws->Vals (xs++ys) (us++ws)
 |_,_,_,_,.nil,s=>s
 |_,_,_,_,.cons r t,s=>.cons r (Vals.append t s)
theorem Vals.take:∀{xs:List V}{us:List Value} (n:Nat),Vals xs us->Vals (xs.take n) (us.take n)
 |_,_,0,_=>.nil
 |_,_,_+1,.nil=>.nil
 |_,_,n+1,.cons r t=>.cons r (Vals.take n t)
theorem Vals.drop:∀{xs:List V}{us:List Value} (n:Nat),Vals xs us->Vals (xs.drop n) (us.drop n)
 |_,_,0,r=>r
 |_,_,_+1,.nil=>.nil
 |_,_,n+1,.cons _ t=>Vals.drop n t
def RelO:Option V->Option Value->Prop
 |some v,some u=>RelV v u
 |none,none=>True
 |_,_=>False
def KV:List (κ×V)->List (κ×Value)->Prop:=Paired λ(p:κ×V) (q:κ×Value)=>p.1=q.1/\RelV p.2 q.2
noncomputable def kV:Key->V
 |.inl i=>.int i
 |.inr x=>.str x
inductive HO where
 |lst (xs:List V)
 |tup (xs:List V)
 |dK (m_:List (Key×V))|dT (m_:List (List Key×V))
 |set (S:Int->Bool) (n:Nat)
 |ins (C dx:Addr) (fs:List (Str×V))
 |own (x:Addr)
 |xd (fs:List (Str×V))
 |met (f x:Addr)
 |rng (lo hi:Int)
 |u_ (o:Obj) (u:HO)
 |My (ps:Array Value)
 |ext (φ:Heap->Prop)
noncomputable abbrev Hp:=Addr->Option HO
noncomputable def upd(H:Hp)(a:Addr)(o:HO):Hp:=λb=>if b=a then some o else H b
theorem ah:upd H a o a=some o:=by unfold upd;rw[Jr rfl]
theorem ai(h:b≠a):upd H a o b=H b:=by unfold upd;rw[Ji h]
theorem dq{H:Hp}{a b:Addr}{o u:HO}(h:H a=some o)(h':H b=some u)(d:o≠u):a≠b:=by
 intro e;subst e;rw[h]at h';exact d (JA h')
theorem aK{H:Hp}{a b:Addr}{o:HO}(h:H a=some o)(h':H b=none):a≠b:=by
 intro e;subst e;rw[h]at h';cases h'
section
variable (P:Program) (w:World)
def ObjOk(H:Hp)(h:Heap)(a:Addr):HO->Prop
 |.lst xs=>xs.length<=sizeLine/\∃(g_:List Value) (n:Nat),Vals xs g_/\h.get? a=some {cls:=.type "list",data:=.seq g_.toArray n}
 |.tup xs=>xs.length<=sizeLine/\∃g_:List Value,Vals xs g_/\IsTup h a g_.toArray
 |.dK m_=>m_.length<=sizeLine/\(a == sysModules)=false/\∃vs,KV m_ vs/\h.DictOf (aD P w) a vs
 |.dT m_=>m_.length<=sizeLine/\(a == sysModules)=false/\∃xs:List (List Key×Addr×Value),
   Paired (λ(p:List Key×V) (q:List Key×Addr×Value)=>p.1=q.1/\H q.2.1=some (.tup (p.1.map kV))/\RelV p.2 q.2.2) m_ xs/\
   ∃o es ep,h.get? a=some o/\o.ExactDict/\o.data=.dict es ep/\es.toList=xs.map (entryOfKey (tupleKind (aD P w)))/\(xs.map (·.1)).Nodup
 |.set S n=>h.SetOf (intKind P w) a S n
 |.ins C dx fs=>H dx=some (.own a)/\fs.length<=1000/\dx≠a/\h.get? a=some (PySem.W.instObj C dx)/\
   ∃mA,h.Ns1 dx mA/\(∀f,RelO (fs.lookup f) (mA f))/\PySem.Within mA (fs.map (·.1))
 |.own _=>∃o,h.get? a=some o
 |.xd fs=>∃mA,h.Ns1 a mA/\∀f,RelO (fs.lookup f) (mA f)
 |.rng lo hi=>∃t u v,h.get? a=some {cls:=.type "range",data:=.fields #[.int lo t,.int hi u,.int 1 v]}
 |.u_ o u=>h.get? a=some o/\ObjOk H h a u
 |.My ps=>h.get? a=some {cls:=.none,data:=.fields ps}
 |.met f x=>h.get? a=some (PySem.W.methodObj (.ref f) (.ref x))
 |.ext φ=>φ h/\(∃o,h.get? a=some o)/\∀h1 h2:Heap,φ h1->(∀o,h1.get? a=some o->h2.get? a=some o)->φ h2
def HOk(H:Hp)(h:Heap):Prop:=∀a o,H a=some o->ObjOk P w H h a o
end
section
variable {P:Program}{w:World}{H H':Hp}{h h':Heap}{a:Addr}{o:HO}
theorem ObjOk.lt(x:ObjOk P w H h a o):a<h.objs.size:=by
 cases o with
 |lst xs=>obtain⟨_,_,_,_,e⟩:=x;exact Jt e
 |tup xs=>obtain⟨_,_,_,p⟩:=x;exact p.lt
 |dK m_=>obtain⟨_,_,_,_,o,_,_,e,_⟩:=x;exact Jt e
 |dT m_=>obtain⟨_,_,_,_,o,_,_,e,_⟩:=x;exact Jt e
 |set S n=>obtain⟨o,_,_,_,e,_⟩:=x;exact Jt e
 |ins C dx fs=>obtain⟨_,_,_,e,_⟩:=x;exact Jt e
 |own y=>obtain⟨_,e⟩:=x;exact Jt e
 |xd fs=>obtain⟨_,⟨_,_,_,e,_⟩,_⟩:=x;exact Jt e
 |rng lo hi=>obtain⟨_,_,_,e⟩:=x;exact Jt e
 |u_ ob u=>obtain⟨e,_⟩:=x;exact Jt e
 |My ps=>exact Jt (show h.get? a=some _ from x)
 |met f y=>exact Jt (show h.get? a=some _ from x)
 |ext φ=>obtain⟨_,⟨_,e⟩,_⟩:=x;exact Jt e
theorem Paired.mapP:∀{Oa:List α}{Ob:List β},Paired F Oa Ob->(∀a b,F a b->G a b)->Paired G Oa Ob
 |_,_,.nil,_=>.nil
 |_,_,.cons r t,f=>.cons (f _ _ r) (Paired.mapP t f)
theorem ObjOk.stay(x:ObjOk P w H h a o)(k:∀b u,(b=a\/H b=some (.own a))->h.get? b=some u->h'.get? b=some u)
  (ho:∀b,H b=some (.own a)->H' b=some (.own a)) (ht:∀b xs,H b=some (.tup xs)->H' b=some (.tup xs)):ObjOk P w H' h' a o:=by
 induction o with
 |lst xs=>obtain⟨z,g_,n,r,e⟩:=x;exact⟨z,g_,n,r,k _ _ (.inl rfl) e⟩
 |tup xs=>obtain⟨z,g_,r,ob,e,c⟩:=x;exact⟨z,g_,r,ob,k _ _ (.inl rfl) e,c⟩
 |dK m_=>obtain⟨z,y,vs,r,ob,es,ep,e,c⟩:=x;exact⟨z,y,vs,r,ob,es,ep,k _ _ (.inl rfl) e,c⟩
 |dT m_=>
  obtain⟨z,y,xs,r,ob,es,ep,e,c⟩:=x;exact⟨z,y,xs,Paired.mapP r λp q z=>⟨z.1,ht _ _ z.2.1,z.2.2⟩,ob,es,ep,k _ _ (.inl rfl) e,c⟩
 |set S n=>obtain⟨ob,es,ep,t,e,c⟩:=x;exact⟨ob,es,ep,t,k _ _ (.inl rfl) e,c⟩
 |ins C dx fs=>
  obtain⟨d,z,ne,e,mA,⟨od,es,ep,e2,c⟩,r⟩:=x;exact⟨ho _ d,z,ne,k _ _ (.inl rfl) e,mA,⟨od,es,ep,k _ _ (.inr d) e2,c⟩,r⟩
 |own y=>obtain⟨ob,e⟩:=x;exact⟨ob,k _ _ (.inl rfl) e⟩
 |xd fs=>obtain⟨mA,⟨od,es,ep,e,c⟩,r⟩:=x;exact⟨mA,⟨od,es,ep,k _ _ (.inl rfl) e,c⟩,r⟩
 |rng lo hi=>obtain⟨t,u,v,e⟩:=x;exact⟨t,u,v,k _ _ (.inl rfl) e⟩
 |u_ ob u ih=>obtain⟨e,q⟩:=x;exact⟨k _ _ (.inl rfl) e,ih q⟩
 |My ps=>
  have e:h.get? a=some {cls:=.none,data:=.fields ps}:=x;show h'.get? a=some {cls:=.none,data:=.fields ps};exact k a _ (.inl rfl) e
 |met f y=>
  have e:h.get? a=some (PySem.W.methodObj (.ref f) (.ref y)):=x;show h'.get? a=some (PySem.W.methodObj (.ref f) (.ref y));exact k a _ (.inl rfl) e
 |ext φ=>obtain⟨p,⟨o,e⟩,st⟩:=x;exact⟨st _ _ p λo q=>k _ _ (.inl rfl) q,⟨o,k _ _ (.inl rfl) e⟩,st⟩
theorem HOk.lt(x:HOk P w H h)(e:H a=some o):a<h.objs.size:=(x a o e).lt
theorem HOk.fresh(x:HOk P w H h)(e:h.objs.size<=a):H a=none:=by
 cases q:H a with
 |none=>rfl
 |some u=>exact absurd (Ju (x.lt q) e) (JY _)
theorem HOk.kept(x:HOk P w H h)(k:∀b u,h.get? b=some u->h'.get? b=some u):HOk P w H h':=λa o e=>
 (x a o e).stay (λb u _ q=>k b u q) (λ_ q=>q) λ_ _ q=>q
theorem HOk.laid(x:HOk P w H h)(k:∀b u,h.get? b=some u->h'.get? b=some u)(hp:h.objs.size<=a)(new:ObjOk P w (upd H a o) h' a o):HOk P w (upd H a o) h':=λb u e=>by
 have hn:=x.fresh hp;by_cases hb:b=a
 ·subst hb;rw[ah]at e;cases e;exact new
 ·rw[ai hb]at e;exact (x b u e).stay (λc v _ q=>k c v q) (λc q=>by rw[ai (aK q hn)];exact q) λc xs q=>by rw[ai (aK q hn)];exact q
end
def Rd(H:Hp)(a:Addr)(u:HO):Prop:=H a=some u\/∃o,H a=some (.u_ o u)
theorem Rd.ok{P:Program}{w:World}{H:Hp}{h:Heap}{a:Addr}{u:HO}(r:Rd H a u)(x:HOk P w H h):ObjOk P w H h a u:=by
 rcases r with r|⟨o,r⟩
 ·exact x a u r
 ·obtain⟨_,q⟩:=x a _ r;exact q
def Mut:Option HO->Prop
 |some (.lst _)=>True
 |some (.dK _)=>True
 |some (.dT _)=>True
 |some (.set _ _)=>True
 |some (.ins _ _ _)=>True
 |some (.ext _)=>True
 |_=>False
section
variable {P:Program}{w:World}{h h':Heap}{x e:Addr}
theorem HOk.write(ok:HOk P w H h)(mu:Mut (H x))(he:e=x\/H e=some (.own x))(k:∀b u,b≠e->h.get? b=some u->h'.get? b=some u)(M9:∃u,h'.get? e=some u)
  (new:ObjOk P w (upd H x o') h' x o'):HOk P w (upd H x o') h':=λb u q=>by
 have Oc:∀c y,H c=some (.own y)->c≠x:=λc y r z=>by subst z;rw[r]at mu;exact mu
 have xI:∀c xs,H c=some (.tup xs)->c≠x:=λc xs r z=>by subst z;rw[r]at mu;exact mu
 by_cases hb:b=x
 ·subst hb;rw[ah]at q;cases q;exact new
 ·rw[ai hb]at q;by_cases Nn:b=e
  ·have q':H b=some (.own x):=by
    rcases he with z|z
    ·exact absurd (Nn.trans z) hb
    ·rw[Nn];exact z
   rw[q]at q';cases q';obtain⟨v,hv⟩:=M9;exact⟨v,by rw[Nn];exact hv⟩
  ·refine (ok b u q).stay (λc v hc r=>k c v ?_ r) (λc r=>by rw[ai (Oc c b r)];exact r) λc xs r=>by rw[ai (xI c xs r)];exact r
   rcases hc with rfl|hc
   ·exact Nn
   ·rintro rfl;rcases he with z|z
    ·exact Oc c b hc z
    ·rw[hc]at z;cases z;exact hb rfl
end
structure Un (fs ex:List Addr)(H H':Hp)(h h':Heap):Prop where
 keep:∀b o,h.get? b=some o->H b=none->b∉fs->b∉ex->h'.get? b=some o
 slot:∀b o,h.get? b=some o->H b=none->b∈fs->b∉ex->∃sl,h'.get? b=some {o with slots:=sl}
 free:∀b o,h.get? b=some o->H b=none->b∉ex->H' b=none
 there:∀b o,h.get? b=some o->b∉ex->∃o',h'.get? b=some o'
 KW:∀b xs,H b=some (.tup xs)->H' b=some (.tup xs)
 KP:∀b o u,H b=some (.u_ o u)->H' b=some (.u_ o u)
 K6:∀b ps,H b=some (.My ps)->∃LL,H' b=some (.My (ps++LL))
section
variable {fs Td ex Te:List Addr}{H H1 H2:Hp}{h h1 h2 h':Heap}{a x e:Addr}{o:HO}
theorem Un.any(u:Un fs ex H H1 h h1)(q:h.get? b=some ob)(n:H b=none)(hx:b∉ex):∃sl,h1.get? b=some {ob with slots:=sl}:=by
 by_cases hb:b∈fs
 ·exact u.slot b ob q n hb hx
 ·exact⟨ob.slots,u.keep b ob q n hb hx⟩
theorem Un.kept(k:∀b u,h.get? b=some u->h'.get? b=some u):Un fs ex H H h h':=
 ⟨λb ob q _ _ _=>k b ob q,λb ob q _ _ _=>⟨ob.slots,k b ob q⟩,λ_ _ _ n _=>n,λb ob q _=>⟨ob,k b ob q⟩,λ_ _ q=>q,λ_ _ _ q=>q,λ_ ps q=>⟨#[],by rw[q];simp⟩⟩
theorem Un.refl:Un fs ex H H h h:=Un.kept λ_ _ q=>q
theorem Un.laid(k:∀b u,h.get? b=some u->h'.get? b=some u)(hp:h.objs.size<=a)(hn:H a=none):Un fs ex H (upd H a o) h h' where
 keep:=λb u q _ _ _=>k b u q
 slot:=λb u q _ _ _=>⟨u.slots,k b u q⟩
 free:=λb u q n _=>by rw[ai (JG (Ju (Jt q) hp))];exact n
 there:=λb u q _=>⟨u,k b u q⟩
 KW:=λb xs q=>by rw[ai (aK q hn)];exact q
 KP:=λb u xs q=>by rw[ai (aK q hn)];exact q
 K6:=λb ps q=>⟨#[],by rw[ai (aK q hn),q];simp⟩
theorem Un.write(mu:Mut (H x))(he:e=x\/H e=some (.own x))(k:∀b u,b≠e->h.get? b=some u->h'.get? b=some u)(M9:∃u,h'.get? e=some u):Un fs ex H (upd H x o) h h':=by
 have hx:∀b,H b=none->b≠x:=λb n z=>by subst z;rw[n]at mu;exact mu
 have hb:∀b,H b=none->b≠e:=λb n z=>by
  subst z;rcases he with r|r
  ·exact hx b n r
  ·rw[n]at r;cases r
 have hm:∀b u,H b=some u->¬ Mut (some u)->b≠x:=λb u q nm z=>by subst z;rw[q]at mu;exact nm mu
 refine⟨λb u q n _ _=>k b u (hb b n) q,λb u q n _ _=>⟨u.slots,k b u (hb b n) q⟩,λb u q n _=>by rw[ai (hx b n)];exact n,λb u q _=>?_,
  λb xs q=>by rw[ai (hm b _ q λz=>z)];exact q,λb u xs q=>by rw[ai (hm b _ q λz=>z)];exact q,λb ps q=>⟨#[],by rw[ai (hm b _ q λz=>z),q];simp⟩⟩
 by_cases Nn:b=e
 ·subst Nn;exact M9
 ·exact⟨u,k b u Nn q⟩
end
noncomputable def trk(h:Heap)(H:Hp):List Addr:=(List.range h.objs.size).filter λa=>(H a).isSome
noncomputable def nS(h:Heap)(H:Hp):Heap:=PySem.W.hideAll h (trk h H)
theorem ue(h:Heap)(H:Hp):(nS h H).objs.size=h.objs.size:=PySem.W.hideAll_size _ _
theorem ve{h:Heap}(e:h.get? b=some o)(n:H b=none):(nS h H).get? b=some o:=
 PySem.W.hideAll_get _ e λhm=>by
  have q:(H b).isSome=true:=(List.mem_filter.mp hm).2;rw[n]at q;simp at q
theorem yT{h:Heap}(e:(nS h H).get? b=some o):h.get? b=some o/\H b=none:=by
 have e':h.get? b=some o:=PySem.W.of_hideAll (trk h H) e;refine⟨e',?_⟩;cases q:H b with
 |none=>rfl
 |some x=>
  have hm:b∈trk h H:=List.mem_filter.mpr ⟨List.mem_range.mpr (Jt e'),by simp[q]⟩
  have z:(nS h H).get? b=none:=PySem.W.hideAll_none (trk h H) hm;rw[z]at e;cases e
noncomputable def yO(g h:Heap)(L:Addr):List (Addr×Obj):=(List.range h.objs.size).filterMap λa=>if a=L\/(g.get? a).isSome=true then none else (h.get? a).map λo=>(a,o)
noncomputable def aT(g h:Heap)(L d:Addr):List (Addr×Obj):=(yO g h L).filter λp=>decide (p.1≠d)
structure Mod (K:Ko)(mg:Str->Option Value)(base:Heap):Prop where
 kin:K.In base
 glob:base.Ns mainGlobals mg
 blt:∃mb,base.Ns builtinsNs mb/\∀x:Str,x≠"__name__"->mb x=bootBuiltins x
 nolimit:base.NoLimit
structure Cx where
 prog:Program
 w:World
 K:Ko
 mg:Str->Option Value
 base:Heap
 A:Around
 N:List Str
 s₀:Shared
 H₀:Hp
 env:Env
 outer:List Env
 stack:List Env
 ex:List Addr
 fn:Str->Bool
 calm:Bool
 pn:List (Addr×Obj)
 xe:Value->Shared->Prop
noncomputable def frs(l:List Env):List Addr:=l.filterMap (·.frame)
noncomputable abbrev Cx.fs(X:Cx):List Addr:=frs X.outer
def Vis(sc:Scope)(x:Str):Prop:=sc.names.lookup x=some .local\/sc.names.lookup x=some .cell\/sc.names.lookup x=some .free
def Loc(sc:Scope)(x:Str):Prop:=sc.names.lookup x=some .local\/sc.names.lookup x=some .cell
def GD(env:Env)(h:Heap)(m:Str->Option Value)(x:Str)(u:Value):Prop:=
 (env.kindOf x=some .local/\m x=some u)\/((env.kindOf x=some .cell\/env.kindOf x=some .free)/\∃c,env.cells.lookup x=some c/\h.IsCell c (some u))
structure Cx.Ok (X:Cx):Prop where
 mod:Mod X.K X.mg X.base
 kind:X.env.scope.kind=.function
 glob:X.env.globals=mainGlobals
 blt:X.env.builtins=builtinsNs
 above:X.s₀.heap.objs.size<=X.env.locals
 inj:∀x y c,X.env.cells.lookup x=some c->X.env.cells.lookup y=some c->x=y
 has:∀x,(X.env.kindOf x=some .cell\/X.env.kindOf x=some .free)->∃c,X.env.cells.lookup x=some c
 cab:∀x c,X.fn x=true->X.env.cells.lookup x=some c->X.s₀.heap.objs.size<=c
 hd:X.calm=true->X.A.handled=none
 frames:X.A.frames=some X.stack
 stk:X.stack=X.outer\/(X.stack=X.env::X.outer/\X.env.frame=some X.env.locals)
 exf:∀b∈X.ex,b≠X.env.locals/\∀x c,X.env.cells.lookup x=some c->c≠b
 bs:∀b o,X.base.get? b=some o->X.s₀.heap.get? b=some o/\X.H₀ b=none
 bsz:X.base.objs.size<=X.s₀.heap.objs.size
 noex:∀b o,X.base.get? b=some o->b∉X.ex
 exfs:∀b∈X.ex,b∉X.fs
 funs:X.s₀.heap.FunFrames X.base X.outer
 frf:∀b∈X.fs,X.H₀ b=none
structure Inv (X:Cx) (a_:List (Addr×Obj)) (Z:List (Option V)) (H:Hp)(s:Shared):Prop where
 ok:X.Ok
 os:s.os=X.s₀.os
 bare:AllBare s.gens
 base:Un X.fs X.ex X.H₀ H X.s₀.heap s.heap
 loc:∃m,s.heap.Ns X.env.locals m/\∀(i:Nat)(x:Str)(v:V),X.N[i]?=some x->Z[i]?=some (some v)->Vis X.env.scope x->∃u,RelV v u/\GD X.env s.heap m x u
 cell:∀x c,X.env.cells.lookup x=some c->∃v,s.heap.IsCell c v
 free:H X.env.locals=none
 freeC:∀x c,X.env.cells.lookup x=some c->H c=none
 pin:∀p∈X.pn++a_,s.heap.get? p.1=some p.2/\H p.1=none/\p.1≠X.env.locals/\p.1∉X.fs/\∀v,p.2.data≠.cell v
 j_:HOk X.prog X.w H s.heap
 len:Z.length=X.N.length
section
variable {X:Cx}{Z:List (Option V)}{s:Shared}{h':Heap}
theorem Cx.Ok.nofr(ok:X.Ok)(e:X.base.get? b=some o):b∉X.fs:=λhb=>by
 have:=(ok.funs.mem hb).1;rw[e]at this;cases this
theorem Inv.bs(I:Inv X a_ Z H s):∀b o,X.base.get? b=some o->s.heap.get? b=some o/\H b=none:=λb o e=>
 ⟨I.base.keep b o (I.ok.bs b o e).1 (I.ok.bs b o e).2 (I.ok.nofr e) (I.ok.noex b o e),I.base.free b o (I.ok.bs b o e).1 (I.ok.bs b o e).2 (I.ok.noex b o e)⟩
theorem Inv.bk(I:Inv X a_ Z H s):∀b o,X.base.get? b=some o->s.heap.get? b=some o:=λb o e=>(I.bs b o e).1
theorem Inv.mod(I:Inv X a_ Z H s):Mod X.K X.mg X.base:=I.ok.mod
theorem Inv.kIn(I:Inv X a_ Z H s):X.K.In s.heap:=I.ok.mod.kin.keeps I.bk
theorem Inv.lt(I:Inv X a_ Z H s):X.env.locals<s.heap.objs.size:=let ⟨_,hn,_⟩:=I.loc;hn.lt
theorem Inv.sz(I:Inv X a_ Z H s):X.s₀.heap.objs.size<=s.heap.objs.size:=JF I.ok.above (Nat.le_of_lt I.lt)
theorem Inv.nofs(I:Inv X a_ Z H s)(h:s.heap.objs.size<=a):a∉X.fs:=λhb=>by
 obtain⟨_,o,ho,_⟩:=I.ok.funs.mem hb;exact absurd (Ju (Jt ho) (JF I.sz h)) (JY _)
theorem Inv.cne(I:Inv X a_ Z H s):∀x c,X.env.cells.lookup x=some c->c≠X.env.locals:=λx c e z=>by
 obtain⟨v,o,ho,hd⟩:=I.cell x c e;obtain⟨m,⟨o',es,ep,Lx,Pr,_⟩,_⟩:=I.loc;rw[z,Lx]at ho;cases ho;rw[Pr]at hd;cases hd
theorem Inv.funs(I:Inv X a_ Z H s):s.heap.FunFrames X.base X.outer:=by
 have all:∀(l:List Env),(∀b∈frs l,b∈X.fs)->X.s₀.heap.FunFrames X.base l->s.heap.FunFrames X.base l:=by
  intro l
  induction l with
  |nil=>intro _ _;trivial
  |cons env r ih=>
   intro hs hl;obtain⟨hk,⟨L,o,hf,hn,ho,hd⟩,hr⟩:=hl;have hL:L∈X.fs:=hs L (by unfold frs;rw[List.filterMap_cons,hf];exact Jk)
   obtain⟨sl,e⟩:=I.base.slot L o ho (I.ok.frf L hL) hL λz=>I.ok.exfs L z hL
   exact⟨hk,⟨L,_,hf,hn,e,hd⟩,ih (λb hb=>hs b (by unfold frs;rw[List.filterMap_cons,hf];exact Jg _ hb)) hr⟩
 exact all X.outer (λ_ hb=>hb) I.ok.funs
theorem Inv.stack(I:Inv X a_ Z H s):s.heap.FunFrames X.base X.stack:=by
 rcases I.ok.stk with e|⟨e,hf⟩
 ·rw[e];exact I.funs
 ·rw[e];obtain⟨m,hn,_⟩:=I.loc;refine .cons (by rw[I.ok.kind];decide) hf hn ?_ I.funs
  exact Heap.get?_none_of_le (JF I.ok.bsz I.ok.above)
theorem Inv.stkSub(I:Inv X a_ Z H s):∀b∈frs X.stack,b∈X.env.locals::X.fs:=λb hb=>by
 rcases I.ok.stk with e|⟨e,hf⟩
 ·rw[e]at hb;exact Jg _ hb
 ·rw[e]at hb;unfold frs at hb;rw[List.filterMap_cons,hf]at hb;exact hb
theorem Inv.stkFree(I:Inv X a_ Z H s):∀b∈frs X.stack,H b=none:=λb hb=>by
 rcases Jl.mp (I.stkSub b hb) with e|hb
 ·rw[e];exact I.free
 ·obtain⟨_,o,ho,_⟩:=I.ok.funs.mem hb;exact I.base.free b o ho (I.ok.frf b hb) λz=>I.ok.exfs b z hb
theorem Inv.step{g':Array GenState}{t':Nat}{d':Drawn}{ch:List Addr}(I:Inv X a_ Z H s)
  (Mz:∀b∈ch,(b∈X.ex\/X.s₀.heap.objs.size<=b)/\b≠X.env.locals/\(∀x c,X.env.cells.lookup x=some c->c≠b)/\∀p∈X.pn++a_,p.1≠b)
  (keep:∀b o,b≠X.env.locals->b∉X.fs->b∉ch->s.heap.get? b=some o->H b=none->h'.get? b=some o)
  (slot:∀b o,b≠X.env.locals->b∈X.fs->b∉ch->s.heap.get? b=some o->H b=none->∃sl,h'.get? b=some {o with slots:=sl}) (free:∀b o,b∉ch->s.heap.get? b=some o->H b=none->H' b=none)
  (there:∀b o,b∉ch->s.heap.get? b=some o->∃o',h'.get? b=some o')
  (KW:∀b xs,H b=some (.tup xs)->H' b=some (.tup xs)) (KP:∀b o u,H b=some (.u_ o u)->H' b=some (.u_ o u)) (K6:∀b ps,H b=some (.My ps)->∃LL,H' b=some (.My (ps++LL)))
  (ns:∀m,s.heap.Ns X.env.locals m->h'.Ns X.env.locals m)(j_:HOk X.prog X.w H' h')(hg:AllBare g') :
  Inv X a_ Z H' {s with heap:=h',gens:=g',drawn:=d',toks:=t'}:=by
 have QJ:∀b o,X.s₀.heap.get? b=some o->b≠X.env.locals:=λb o e=>JG (Ju (Jt e) I.ok.above)
 have M_:∀b o,X.s₀.heap.get? b=some o->b∉X.ex->b∉ch:=λb o e hx hb=>by
  rcases (Mz b hb).1 with z|z
  ·exact hx z
  ·exact absurd (Ju (Jt e) z) (JY _)
 have Nk:∀x c,X.env.cells.lookup x=some c->∀v,s.heap.IsCell c v->h'.IsCell c v:=λx c e v ⟨o,ho,hd⟩=>by
  have Od:c∉ch:=λz=>(Mz c z).2.2.1 x c e rfl
  by_cases hc:c∈X.fs
  ·obtain⟨sl,q⟩:=slot c o (I.cne x c e) hc Od ho (I.freeC x c e);exact⟨_,q,hd⟩
  ·exact⟨o,keep c o (I.cne x c e) hc Od ho (I.freeC x c e),hd⟩
 refine⟨I.ok,I.os,hg,⟨λb o e n hb hx=>?_,λb o e n hb hx=>?_,λb o e n hx=>?_,λb o e hx=>?_,λb xs e=>KW b xs (I.base.KW b xs e),λb o xs e=>KP b o xs (I.base.KP b o xs e),λb ps e=>?_⟩,?_,λx c e=>?_,?_,λx c e=>?_,λp hp=>?_,j_,I.len⟩
 ·exact keep b o (QJ b o e) hb (M_ b o e hx) (I.base.keep b o e n hb hx) (I.base.free b o e n hx)
 ·obtain⟨sl,e1⟩:=I.base.slot b o e n hb hx;obtain⟨RE,e2⟩:=slot b _ (QJ b o e) hb (M_ b o e hx) e1 (I.base.free b o e n hx);exact⟨RE,e2⟩
 ·obtain⟨o',e1⟩:=I.base.there b o e hx;exact free b o' (M_ b o e hx) e1 (I.base.free b o e n hx)
 ·obtain⟨o',e1⟩:=I.base.there b o e hx;exact there b o' (M_ b o e hx) e1
 ·obtain⟨m1,e1⟩:=I.base.K6 b ps e;obtain⟨m2,e2⟩:=K6 b _ e1;exact⟨m1++m2,by rw[e2,Array.append_assoc]⟩
 ·obtain⟨m,hn,hl⟩:=I.loc;refine⟨m,ns m hn,λi x v e1 e2 e3=>?_⟩
  obtain⟨u,r,l⟩:=hl i x v e1 e2 e3;refine⟨u,r,?_⟩;rcases l with l|⟨k,c,e,z⟩
  ·exact .inl l
  ·exact .inr ⟨k,c,e,Nk x c e _ z⟩
 ·obtain⟨v,z⟩:=I.cell x c e;exact⟨v,Nk x c e v z⟩
 ·obtain⟨m,⟨o,_,_,ho,_⟩,_⟩:=I.loc;exact free _ o (λz=>(Mz _ z).2.1 rfl) ho I.free
 ·obtain⟨v,o,ho,hd⟩:=I.cell x c e;exact free c o (λz=>(Mz c z).2.2.1 x c e rfl) ho (I.freeC x c e)
 ·obtain⟨e,n,ne,nf,d⟩:=I.pin p hp;have Od:p.1∉ch:=λz=>(Mz p.1 z).2.2.2 p hp rfl
  exact⟨keep p.1 p.2 ne nf Od e n,free p.1 p.2 Od e n,ne,nf,d⟩
theorem Inv.un{t':Nat}(I:Inv X a_ Z H s)(u:Un X.fs [] H H' s.heap h')(j_:HOk X.prog X.w H' h'):Inv X a_ Z H' {s with heap:=h',toks:=t'}:=by
 obtain⟨m,⟨o,es,ep,ho,r⟩,_⟩:=id I.loc;obtain⟨sl,hL⟩:=u.any ho I.free (by simp)
 exact I.step (g':=s.gens) (d':=s.drawn) (ch:=[]) (λ_ z=>nomatch z) (λb o _ hb _ e n=>u.keep b o e n hb (by simp)) (λb o _ hb _ e n=>u.slot b o e n hb (by simp)) (λb o _ e n=>u.free b o e n (by simp)) (λb o _ e=>u.there b o e (by simp)) u.KW u.KP u.K6 (λm' hm=>by
  obtain⟨o',MJ,Oe,Lx,r'⟩:=hm;rw[ho]at Lx;cases Lx;exact⟨_,MJ,Oe,hL,r'⟩) j_ I.bare
theorem Inv.call{g':Array GenState}{t':Nat}{d':Drawn}{ch:List Addr}(I:Inv X a_ Z H s)(u:Un (frs X.stack) ch H H' s.heap h')(j_:HOk X.prog X.w H' h')(hg:AllBare g')
  (Mz:∀b∈ch,(b∈X.ex\/X.s₀.heap.objs.size<=b)/\b≠X.env.locals/\(∀x c,X.env.cells.lookup x=some c->c≠b)/\∀p∈X.pn++a_,p.1≠b) :
  Inv X a_ Z H' {s with heap:=h',gens:=g',drawn:=d',toks:=t'}:=by
 obtain⟨m,⟨o,es,ep,ho,r⟩,_⟩:=id I.loc;obtain⟨sl,hL⟩:=u.any ho I.free λz=>(Mz _ z).2.1 rfl
 exact I.step (ch:=ch) Mz (λb o hL hb hc e n=>u.keep b o e n (λz=>(Jl.mp (I.stkSub b z)).elim hL hb) hc) (λb o _ _ hc e n=>u.any e n hc) (λb o hc e n=>u.free b o e n hc) (λb o hc e=>u.there b o e hc) u.KW u.KP u.K6 (λm' hm=>by
  obtain⟨o',MJ,Oe,Lx,r'⟩:=hm;rw[ho]at Lx;cases Lx;exact⟨_,MJ,Oe,hL,r'⟩) j_ hg
theorem Inv.turned{t':Nat}{it:Addr}(I:Inv X a_ Z H s)(k:∀b o,b≠it->s.heap.get? b=some o->h'.get? b=some o)(hn:H it=none)(hL:it≠X.env.locals)
  (h1:it∈X.ex\/X.s₀.heap.objs.size<=it) (h2:∀x c,X.env.cells.lookup x=some c->c≠it) (h3:∀p∈X.pn++a_,p.1≠it):Inv X a_ Z H {s with heap:=h',toks:=t'}:=by
 have Na:∀b u,H b=some u->b≠it:=λb u e z=>by rw[z,hn]at e;cases e
 refine I.step (g':=s.gens) (d':=s.drawn) (ch:=[it]) (λb hb=>?_) (λb o _ _ hc e _=>k b o (λz=>hc (by simp[z])) e) (λb o _ _ hc e _=>⟨o.slots,k b o (λz=>hc (by simp[z])) e⟩) (λ_ _ _ _ n=>n)
  (λb o hc e=>⟨o,k b o (λz=>hc (by simp[z])) e⟩) (λ_ _ e=>e) (λ_ _ _ e=>e) (λb ps e=>⟨#[],by rw[e];simp⟩) (λm hm=>?_) (λb u e=>?_) I.bare
 ·have e:b=it:=by simpa using hb
  subst e;exact⟨h1,hL,h2,h3⟩
 ·obtain⟨o,es,ep,ho,r⟩:=hm;exact⟨o,es,ep,k _ o (Jv hL) ho,r⟩
 ·refine (I.j_ b u e).stay (λc v hc q=>k c v ?_ q) (λ_ q=>q) λ_ _ q=>q
  rcases hc with z|z
  ·rw[z];exact Na b u e
  ·exact Na c _ z
theorem Inv.tok(I:Inv X a_ Z H s)(t:Nat):Inv X a_ Z H {s with toks:=t}:=I.un (h':=s.heap) (t':=t) Un.refl I.j_
theorem Inv.kept(I:Inv X a_ Z H s)(k:∀b u,s.heap.get? b=some u->h'.get? b=some u):Inv X a_ Z H {s with heap:=h',toks:=t'}:=I.un (Un.kept k) (I.j_.kept k)
theorem Inv.laid(I:Inv X a_ Z H s)(k:∀b u,s.heap.get? b=some u->h'.get? b=some u)(hp:s.heap.objs.size<=a)(new:ObjOk X.prog X.w (upd H a o) h' a o) :
  Inv X a_ Z (upd H a o) {s with heap:=h',toks:=t'}:=I.un (Un.laid k hp (I.j_.fresh hp)) (I.j_.laid k hp new)
theorem Inv.write(I:Inv X a_ Z H s)(mu:Mut (H x))(he:e=x\/H e=some (.own x))(k:∀b u,b≠e->s.heap.get? b=some u->h'.get? b=some u)(M9:∃u,h'.get? e=some u)
  (new:ObjOk X.prog X.w (upd H x o) h' x o):Inv X a_ Z (upd H x o) {s with heap:=h',toks:=t'}:=I.un (Un.write mu he k M9) (I.j_.write mu he k M9 new)
theorem Inv.pins_of(I:Inv X a_ Z H s)(h:∀p∈Mn,s.heap.get? p.1=some p.2/\H p.1=none/\p.1≠X.env.locals/\p.1∉X.fs/\∀v,p.2.data≠.cell v):Inv X Mn Z H s:=
 ⟨I.ok,I.os,I.bare,I.base,I.loc,I.cell,I.free,I.freeC,λp hp=>(JI.mp hp).elim (λz=>I.pin p (JR _ z)) (h p),I.j_,I.len⟩
theorem ph{N:List Str}(hN:N.Nodup){i j:Nat}{x:Str}(a:N[i]?=some x)(b:N[j]?=some x):i=j:=by
 obtain⟨h1,e1⟩:=JL.mp a;obtain⟨h2,e2⟩:=JL.mp b;exact (List.getElem_inj hN).mp (e1.trans e2.symm)
theorem sZ{M:Model}{A:Around}{E:Value->Shared->Prop}{i:Nat}{x:Str}{v:V}{u:Value}{Q:Unit->Shared->Prop}(I:Inv X a_ Z H s)(hN:X.N.Nodup)(hi:X.N[i]?=some x)(hx:Loc X.env.scope x)(r:RelV v u)
  (h:∀s',Inv X a_ (Z.set i (some v)) H s'->(∃a,Heap.SameBut a s.heap s'.heap/\(a=X.env.locals\/X.env.cells.lookup x=some a))->Q () s') (hf:X.fn x=true\/X.env.scope.names.lookup x=some .local:=by first|exact .inl rfl|exact .inr rfl|assumption):wpAny M A (storeName X.env x u) Q E s:=by
 obtain⟨m,hn,hl⟩:=id I.loc;have Pt:(X.env.scope.kind == .class||(X.env.scope.kind == .module&&X.env.locals != X.env.globals))=false:=by rw[I.ok.kind];rfl
 have Of:i<Z.length:=by rw[I.len];exact (JL.mp hi).1
 have cne:=I.cne;have tracked:∀{a:Addr}{h':Heap},(∃o,s.heap.get? a=some o/\H a=none)->Heap.SameBut a s.heap h'->HOk X.prog X.w H h':=λ{a h'} ha hs b ob e=>by
  obtain⟨_,_,Nb⟩:=ha;refine (I.j_ b ob e).stay (λc w' hc q=>(hs.2 c ?_).trans q) (λ_ q=>q) λ_ _ q=>q
  rintro rfl;rcases hc with rfl|hc
  ·rw[Nb]at e;cases e
  ·rw[Nb]at hc;cases hc
 rcases hx with hk|hk
 ·refine wpAny_storeName_local hk hn (λh' Pu hs=>?_) Pt
  obtain⟨oL,_,_,RF,_⟩:=id hn;refine h _ ⟨I.ok,I.os,I.bare,⟨λb o e n hb hx=>?_,λb o e n hb hx=>?_,I.base.free,λb o e hx=>?_,I.base.KW,I.base.KP,I.base.K6⟩,⟨_,Pu,λj y v' e1 e2 e3=>?_⟩,λy c e=>?_,I.free,I.freeC,λp hp=>?_,tracked ⟨oL,RF,I.free⟩ hs,by simpa using I.len⟩ ⟨_,hs,.inl rfl⟩
  ·exact (hs.2 b (JG (Ju (Jt e) I.ok.above))).trans (I.base.keep b o e n hb hx)
  ·obtain⟨sl,e1⟩:=I.base.slot b o e n hb hx;exact⟨sl,(hs.2 b (JG (Ju (Jt e) I.ok.above))).trans e1⟩
  ·obtain⟨o',e1⟩:=I.base.there b o e hx;exact⟨o',(hs.2 b (JG (Ju (Jt e) I.ok.above))).trans e1⟩
  ·by_cases hj:j=i
   ·subst hj;rw[hi]at e1;cases e1;rw[List.getElem?_set_self Of]at e2;cases e2;exact⟨u,r,.inl ⟨hk,by simp⟩⟩
   ·rw[Km (Jv hj)]at e2;obtain⟨u',r',q⟩:=hl j y v' e1 e2 e3;refine⟨u',r',?_⟩;rcases q with ⟨k,e⟩|⟨k,c,e,z⟩
    ·refine .inl ⟨k,?_⟩;have:y≠x:=λe=>hj (ph hN e1 (e▸hi))
     simp[this,e]
    ·exact .inr ⟨k,c,e,z.sameBut hs (cne y c e)⟩
  ·obtain⟨w',z⟩:=I.cell y c e;exact⟨w',z.sameBut hs (cne y c e)⟩
  ·obtain⟨e,n,ne,nf,d⟩:=I.pin p hp;exact⟨(hs.2 p.1 ne).trans e,n,ne,nf,d⟩
 ·have MA:X.fn x=true:=by
   rcases hf with z|z
   ·exact z
   ·rw[z]at hk;cases hk
  obtain⟨c,hc⟩:=I.ok.has x (.inl hk);obtain⟨w',z⟩:=I.cell x c hc;refine wpAny_storeName_cell I.ok.kind hk hc z (λh' O4 hs=>?_)
  obtain⟨oc,QK,Pw⟩:=id z;refine h {s with heap:=h'} ⟨I.ok,I.os,I.bare,⟨λb o e n hb hx=>?_,λb o e n hb hx=>?_,I.base.free,λb o e hx=>?_,I.base.KW,I.base.KP,I.base.K6⟩,⟨m,hn.sameBut hs (Jv (cne x c hc)),λj y v' e1 e2 e3=>?_⟩,λy c' e=>?_,I.free,I.freeC,λp hp=>?_,tracked ⟨oc,QK,I.freeC x c hc⟩ hs,by simpa using I.len⟩ ⟨c,hs,.inr hc⟩
  ·exact (hs.2 b (JG (Ju (Jt e) (I.ok.cab x c MA hc)))).trans (I.base.keep b o e n hb hx)
  ·obtain⟨sl,e1⟩:=I.base.slot b o e n hb hx;exact⟨sl,(hs.2 b (JG (Ju (Jt e) (I.ok.cab x c MA hc)))).trans e1⟩
  ·obtain⟨o',e1⟩:=I.base.there b o e hx;exact⟨o',(hs.2 b (JG (Ju (Jt e) (I.ok.cab x c MA hc)))).trans e1⟩
  ·by_cases hj:j=i
   ·subst hj;rw[hi]at e1;cases e1;rw[List.getElem?_set_self Of]at e2;cases e2;exact⟨u,r,.inr ⟨.inl hk,c,hc,O4⟩⟩
   ·rw[Km (Jv hj)]at e2;obtain⟨u',r',q⟩:=hl j y v' e1 e2 e3;refine⟨u',r',?_⟩;rcases q with q|⟨k,c',e,z'⟩
    ·exact .inl q
    ·refine .inr ⟨k,c',e,z'.sameBut hs ?_⟩;rintro rfl;exact hj (ph hN e1 (I.ok.inj _ _ _ e hc▸hi))
  ·by_cases O5:c'=c
   ·subst O5;exact⟨_,O4⟩
   ·obtain⟨w2,z2⟩:=I.cell y c' e;exact⟨w2,z2.sameBut hs O5⟩
  ·obtain⟨e,n,ne,nf,d⟩:=I.pin p hp;refine⟨(hs.2 p.1 ?_).trans e,n,ne,nf,d⟩;intro q;rw[q,QK]at e;have q':oc=p.2:=JA e;exact d w' (by rw[<-q'];exact Pw)
theorem oE(I:Inv X a_ Z H s)(hN:X.N.Nodup)(hi:X.N[i]?=some x)(hx:Loc X.env.scope x)(r:RelV v u)
  (h:∀s',Inv X a_ (Z.set i (some v)) H s'->Q () s') (hf:X.fn x=true\/X.env.scope.names.lookup x=some .local:=by first|exact .inl rfl|exact .inr rfl|assumption):wpAny M A (storeName X.env x u) Q E s:=
 sZ I hN hi hx r (λs' I' _=>h s' I') hf
theorem Inv.call'{s':Shared}(I:Inv X a_ Z H s)(ho:s'.os=s.os)(u:Un (frs X.stack) ch H H' s.heap s'.heap)(j_:HOk X.prog X.w H' s'.heap)(hg:AllBare s'.gens)
  (Mz:∀b∈ch,(b∈X.ex\/X.s₀.heap.objs.size<=b)/\b≠X.env.locals/\(∀x c,X.env.cells.lookup x=some c->c≠b)/\∀p∈X.pn++a_,p.1≠b):Inv X a_ Z H' s':=by
 obtain⟨h',g',d',t',o'⟩:=s';have e:o'=s.os:=ho;subst e;exact I.call (g':=g') (t':=t') (d':=d') u j_ hg Mz
end
noncomputable abbrev XK:=Value->Option Addr->Hp->Prop
noncomputable abbrev St:=List (Option V)
noncomputable abbrev VK:=V->Hp->Prop
noncomputable abbrev TE:=St->Hp->VK->Prop
noncomputable abbrev TT:=St->Hp->(Bool->Hp->Prop)->Prop
noncomputable abbrev TA:=St->Hp->(List V->Hp->Prop)->Prop
structure lf where
 nx:St->Hp->Prop
 rt:VK
 bk:St->Hp->Prop:=λ_ _=>False
 ct:St->Hp->Prop:=λ_ _=>False
noncomputable abbrev TS:=lf->St->Hp->Prop
def EP(X:Cx)(a_:List (Addr×Obj))(Z:St)(Q:VK)(u:Value)(s':Shared):Prop:=∃v H',Inv X a_ Z H' s'/\RelV v u/\Q v H'
def TP(X:Cx)(a_:List (Addr×Obj))(Z:St)(Q:Bool->Hp->Prop)(b:Bool)(s':Shared):Prop:=∃H',Inv X a_ Z H' s'/\Q b H'
def AP(X:Cx)(a_:List (Addr×Obj))(Z:St)(Q:List V->Hp->Prop)(us:List Value)(s':Shared):Prop:=∃vs H',Inv X a_ Z H' s'/\Vals vs us/\Q vs H'
def SP(X:Cx)(a_:List (Addr×Obj))(D:lf)(f:Flow)(s':Shared):Prop:=
 match f with
 |.next=>∃l_ H',Inv X a_ l_ H' s'/\D.nx l_ H'
 |.brk=>∃l_ H',Inv X a_ l_ H' s'/\D.bk l_ H'
 |.cont=>∃l_ H',Inv X a_ l_ H' s'/\D.ct l_ H'
 |.ret u=>∃v l_ H',Inv X a_ l_ H' s'/\RelV v u/\D.rt v H'
def PE(X:Cx)(e:Expr)(t:TE):Prop:=
 ∀(a_:List (Addr×Obj)) (s:Shared)(Z:St)(H:Hp)(Q:VK),Inv X a_ Z H s->t Z H Q->wpAny (model X.prog X.w) X.A (eval e X.env) (EP X a_ Z Q) X.xe s
def PT(X:Cx)(e:Expr)(t:TT):Prop:=
 ∀(a_:List (Addr×Obj)) (s:Shared)(Z:St)(H:Hp)(Q:Bool->Hp->Prop),Inv X a_ Z H s->t Z H Q->wpAny (model X.prog X.w) X.A (isTrue e X.env (eval e X.env)) (TP X a_ Z Q) X.xe s
def PW(X:Cx)(e:Expr)(t:TT):Prop:=
 ∀(whole:Sem Value) (a_:List (Addr×Obj)) (s:Shared)(Z:St)(H:Hp)(Q:Bool->Hp->Prop),Inv X a_ Z H s->t Z H Q->wpAny (model X.prog X.w) X.A (isTrue e X.env whole) (TP X a_ Z Q) X.xe s
theorem PW.pt(h:PW X e t):PT X e t:=h _
def PA(X:Cx)(es:List Expr)(t:TA):Prop:=
 ∀(pos:Pos) (a_:List (Addr×Obj)) (s:Shared)(Z:St)(H:Hp)(Q:List V->Hp->Prop),Inv X a_ Z H s->t Z H Q->wpAny (model X.prog X.w) X.A (spliced (backTo pos (starEach es X.env))) (AP X a_ Z Q) X.xe s
def PS(X:Cx)(st:Stmt)(t:TS):Prop:=
 ∀(a_:List (Addr×Obj)) (s:Shared)(Z:St)(H:Hp)(D:lf),Inv X a_ Z H s->t D Z H->wpAny (model X.prog X.w) X.A (exec st X.env) (SP X a_ D) X.xe s
def PSs(X:Cx)(st:List Stmt)(t:TS):Prop:=
 ∀(a_:List (Addr×Obj)) (s:Shared)(Z:St)(H:Hp)(D:lf),Inv X a_ Z H s->t D Z H->wpAny (model X.prog X.w) X.A (execs st X.env) (SP X a_ D) X.xe s
theorem thn{α:Type}{t:Sem α}{Q Q':α->Shared->Prop}{M:Model}{A:Around}{E:Value->Shared->Prop}{s:Shared}(h:wpAny M A t Q E s)(hQ:∀a s,Q a s->Q' a s):wpAny M A t Q' E s:=Ki h hQ λ_ _ x=>x
section
variable {X:Cx}
theorem bin{a b:Expr}{ta tb:TE}(ha:PE X a ta)(hb:PE X b tb){a_:List (Addr×Obj)}{s:Shared}{Z:St}{H:Hp}{R:V->V->Hp->Prop}(I:Inv X a_ Z H s)(h:ta Z H λx H1=>tb Z H1 λy H2=>R x y H2)
  {α:Type}{Q:α->Shared->Prop}{f:Value->Value->Sem α}
  (hf:∀v u s2 x y H2,Inv X a_ Z H2 s2->RelV x v->RelV y u->R x y H2->wpAny (model X.prog X.w) X.A (f v u) Q X.xe s2) :
  wpAny (model X.prog X.w) X.A (eval a X.env) (λv r_=>wpAny (model X.prog X.w) X.A (eval b X.env) (λu Kv=>wpAny (model X.prog X.w) X.A (f v u) Q X.xe Kv) X.xe r_) X.xe s:=by
 refine thn (ha a_ s Z H _ I h) λv s1 ⟨x,H1,I1,r1,q1⟩=>?_
 refine thn (hb a_ s1 Z H1 _ I1 q1) λu s2 ⟨y,H2,I2,r2,q2⟩=>?_
 exact hf v u s2 x y H2 I2 r1 r2 q2
noncomputable def GE(i:Nat):TE:=λZ H Q=>∃v,Z[i]?=some (some v)/\Q v H
noncomputable def tC(v:V):TE:=λ_ H Q=>Q v H
theorem AY(hN:X.N[i]?=some x)(hv:Vis X.env.scope x)(hd:(x == ("__debug__" : Str))=false:=by decide)(MB:(x == ("__classdict__" : Str))=false:=by decide):PE X (.Name x pos) (GE i):=by
 intro a_ s Z H Q I h;obtain⟨v,e,h⟩:=h;obtain⟨m,hn,hl⟩:=I.loc;obtain⟨u,r,l⟩:=hl i x v hN e hv;have fin:EP X a_ Z Q u s:=⟨v,H,I,r,h⟩;rcases l with ⟨hk,hm⟩|⟨hk,c,hc,Nc⟩
 ·exact wpAny_Name (wpAny_loadName_local I.ok.kind hk hn hm fin) hd
 ·rcases hk with hk|hk
  ·exact wpAny_Name (wpAny_loadName_cell I.ok.kind hk hc Nc fin) hd
  ·exact wpAny_Name (wpAny_loadName_free I.ok.kind hk hc Nc fin MB) hd
theorem vM{i j pos}:PE X (.Constant (.int i) j pos) (tC (.int i)):=λ_ _ _ H _ I h=>wpAny_Constant_int ⟨.int i,H,I.tok _,⟨_,rfl⟩,h⟩
theorem D6{b j pos}:PE X (.Constant (.bool b) j pos) (tC (.bl b)):=λ_ _ _ H _ I h=>Constant_bool ⟨.bl b,H,I,rfl,h⟩
theorem Bt{j pos}:PE X (.Constant .none j pos) (tC .i_):=λ_ _ _ H _ I h=>Constant_none ⟨.i_,H,I,rfl,h⟩
theorem AZ{x j pos}:PE X (.Constant (.str x) j pos) (tC (.str x)):=λ_ _ _ H _ I h=>Calls.Constant_str ⟨.str x,H,I.tok _,⟨_,rfl⟩,h⟩
def Gl(X:Cx)(x:Str):Prop:=X.env.kindOf x=some .globalImplicit
theorem ig(I:Inv X a_ Z H s)(hg:Gl X x)(hm:X.mg x=some u)(h:Q u s)
  (hd:(x == ("__debug__" : Str))=false:=by decide):wpAny (model X.prog X.w) X.A (eval (.Name x pos) X.env) Q E s:=
 Calls.Name_function_global I.ok.kind hg (Calls.loadGlobal_global (by rw[I.ok.glob];exact I.mod.glob.keeps I.bk) hm h) hd
theorem fR(I:Inv X a_ Z H s)(hg:Gl X x)(hm:X.mg x=none)(hv:bootBuiltins x=some u)(h:Q u s)
  (hn:x≠"__name__":=by decide) (hd:(x == ("__debug__" : Str))=false:=by decide):wpAny (model X.prog X.w) X.A (eval (.Name x pos) X.env) Q E s:=by
 obtain⟨mb,h1,h2⟩:=I.mod.blt;exact Calls.Name_function_global I.ok.kind hg (Calls.loadGlobal_builtin (by rw[I.ok.glob];exact I.mod.glob.keeps I.bk) hm (by rw[I.ok.blt];exact h1.keeps I.bk) ((h2 x hn).trans hv) h) hd
theorem qR(hg:Gl X x)(hm:X.mg x=some u)(r:RelV v u)(hd:(x == ("__debug__" : Str))=false:=by decide):PE X (.Name x pos) (tC v):=
 λ_ _ _ H _ I h=>ig I hg hm ⟨v,H,I,r,h⟩ hd
theorem yM(hg:Gl X x)(hm:X.mg x=none)(hv:bootBuiltins x=some u)(r:RelV v u)(hn:x≠"__name__":=by decide)(hd:(x == ("__debug__" : Str))=false:=by decide):PE X (.Name x pos) (tC v):=
 λ_ _ _ H _ I h=>fR I hg hm hv ⟨v,H,I,r,h⟩ hn hd
variable {a b:Expr}{ta tb:TE}{pos:Pos}
noncomputable def tB(t:TE):TT:=λZ H Q=>t Z H λx H1=>∃c,x=.bl c/\Q c H1
theorem Bw{e:Expr}(h:PE X e t)(he:∀whole,isTrue e X.env whole=(do let v<-whole;standAt e.pos;holding [v] (truthy v)):=by intro _;rfl):PT X e (tB t):=by
 intro a_ s Z H Q I hw;refine isTrue_plain (thn (h a_ s Z H _ I hw) λv s1 ⟨x,H1,I1,r1,q1⟩=>?_) (he _)
 obtain⟨d,rfl,q⟩:=q1;cases r1;exact JT ⟨H1,I1,q⟩
variable {tA Og:TT}{aT:List Expr}
noncomputable def FR(t u:TT):TT:=λZ H Q=>t Z H λc H1=>if c=true then u Z H1 Q else Q false H1
noncomputable def tOr(t u:TT):TT:=λZ H Q=>t Z H λc H1=>if c=true then Q true H1 else u Z H1 Q
noncomputable def FQ(t:TT):TT:=λZ H Q=>t Z H λc H1=>Q (!c) H1
theorem yc(ha:PT X a tA):PW X (.BoolOp .And [a] pos) tA:=by
 intro wh a_ s Z H Q I h;refine isTrue_and (thn (ha a_ s Z H Q I h) λc s1 e=>?_)
 cases c with
 |true=>exact isTrue_and_nil e
 |false=>exact e
theorem Bq(ha:PT X a tA):PW X (.BoolOp .Or [a] pos) tA:=by
 intro wh a_ s Z H Q I h;refine isTrue_or (thn (ha a_ s Z H Q I h) λc s1 e=>?_)
 cases c with
 |false=>exact isTrue_or_nil e
 |true=>exact e
theorem At(ha:PT X a tA)(hb:PW X (.BoolOp .And (b::aT) pos) Og):PW X (.BoolOp .And (a::b::aT) pos) (FR tA Og):=by
 intro wh a_ s Z H Q I h;refine isTrue_and (thn (ha a_ s Z H _ I h) λc s1 ⟨H1,I1,q1⟩=>?_)
 cases c with
 |true=>exact hb wh a_ s1 Z H1 Q I1 q1
 |false=>exact⟨H1,I1,q1⟩
theorem DU(ha:PT X a tA)(hb:PW X (.BoolOp .Or (b::aT) pos) Og):PW X (.BoolOp .Or (a::b::aT) pos) (tOr tA Og):=by
 intro wh a_ s Z H Q I h;refine isTrue_or (thn (ha a_ s Z H _ I h) λc s1 ⟨H1,I1,q1⟩=>?_)
 cases c with
 |true=>exact⟨H1,I1,q1⟩
 |false=>exact hb wh a_ s1 Z H1 Q I1 q1
theorem AH(ha:PT X a tA):PT X (.UnaryOp .Not a pos) (FQ tA):=by
 intro a_ s Z H Q I h;exact isTrue_not (ha a_ s Z H (λc H1=>Q (!c) H1) I h)
noncomputable def DQ(ta tb:TE):TE:=λZ H Q=>ta Z H λx H1=>∃c,x=.bl c/\if c=true then tb Z H1 Q else Q (.bl false) H1
noncomputable def Hd(ta tb:TE):TE:=λZ H Q=>ta Z H λx H1=>∃c,x=.bl c/\if c=true then Q (.bl true) H1 else tb Z H1 Q
noncomputable def CO(ta:TE):TE:=λZ H Q=>ta Z H λx H1=>∃c,x=.bl c/\Q (.bl (!c)) H1
theorem Bz{op}(h:PE X a t):PE X (.BoolOp op [a] pos) t:=λa_ s Z H Q I hw=>BoolOp_one (h a_ s Z H Q I hw)
theorem Co(ha:PE X a ta)(hb:PE X (.BoolOp .And (b::aT) pos) tb):PE X (.BoolOp .And (a::b::aT) pos) (DQ ta tb):=by
 intro a_ s Z H Q I h;refine BoolOp_and (thn (ha a_ s Z H _ I h) λv s1 ⟨x,H1,I1,r1,q1⟩=>?_)
 obtain⟨c,rfl,q1⟩:=q1;cases r1;refine JT ?_;cases c with
 |true=>exact hb a_ s1 Z H1 Q I1 q1
 |false=>exact⟨.bl false,H1,I1,rfl,q1⟩
theorem EH(ha:PE X a ta)(hb:PE X (.BoolOp .Or (b::aT) pos) tb):PE X (.BoolOp .Or (a::b::aT) pos) (Hd ta tb):=by
 intro a_ s Z H Q I h;refine BoolOp_or (thn (ha a_ s Z H _ I h) λv s1 ⟨x,H1,I1,r1,q1⟩=>?_)
 obtain⟨c,rfl,q1⟩:=q1;cases r1;refine JT ?_;cases c with
 |false=>exact hb a_ s1 Z H1 Q I1 q1
 |true=>exact⟨.bl true,H1,I1,rfl,q1⟩
theorem BX(ha:PE X a ta):PE X (.UnaryOp .Not a pos) (CO ta):=by
 intro a_ s Z H Q I h;refine UnaryOp_ (thn (ha a_ s Z H _ I h) λv s1 ⟨x,H1,I1,r1,q1⟩=>?_)
 obtain⟨c,rfl,q1⟩:=q1;cases r1;exact not_of (JT ⟨.bl (!c),H1,I1,rfl,q1⟩)
noncomputable def tIf(t:TT)(ta tb:TE):TE:=λZ H Q=>t Z H λc H1=>if c=true then ta Z H1 Q else tb Z H1 Q
theorem wQ(hc:PT X c tA)(ha:PE X a ta)(hb:PE X b tb):PE X (.IfExp c a b pos) (tIf tA ta tb):=by
 intro a_ s Z H Q I h;refine wpAny_IfExp (thn (hc a_ s Z H _ I h) λd s1 ⟨H1,I1,q1⟩=>?_)
 cases d with
 |true=>exact ha a_ s1 Z H1 Q I1 q1
 |false=>exact hb a_ s1 Z H1 Q I1 q1
end
def SqL(K:Ko)(H:Hp)(a:Addr)(xs:List V):Prop:=
 Rd H a (.lst xs)\/
  ∃(o:Obj) (g_:Array Value) (n:Nat),K.lookup a=some o/\o.cls=.type "list"/\o.dict=none/\o.data=.seq g_ n/\g_.size<=sizeLine/\Vals xs g_.toList
def SqT(K:Ko)(H:Hp)(a:Addr)(xs:List V):Prop:=
 Rd H a (.tup xs)\/
  ∃(o:Obj) (g_:Array Value) (n:Nat),K.lookup a=some o/\o.cls=.type "tuple"/\o.data=.seq g_ n/\g_.size<=sizeLine/\Vals xs g_.toList
noncomputable def Hi:Value->Option V
 |.none=>some .i_
 |.bool b=>some (.bl b)
 |.int i _=>some (.int i)
 |.str x _=>some (.str x)
 |.bytes b _=>some (.O2 b)
 |.float b _=>some (.O3 b)
 |.ref a=>some (.ref a)
 |.type n=>some (.ty n)
 |_=>none
theorem RelV.abs(r:RelV x u):Hi u=some x:=by
 cases x with
 |i_=>cases r;rfl
 |bl _=>cases r;rfl
 |int _=>obtain⟨t,rfl⟩:=r;rfl
 |str _=>obtain⟨t,rfl⟩:=r;rfl
 |O2 _=>obtain⟨t,rfl⟩:=r;rfl
 |O3 _=>obtain⟨t,rfl⟩:=r;rfl
 |ref _=>cases r;rfl
 |ty _=>cases r;rfl
theorem RelV.inj(r:RelV x u)(q:RelV y u):x=y:=JA (r.abs.symm.trans q.abs)
theorem Vals.inj:∀{xs ys:List V}{us:List Value},Vals xs us->Vals ys us->xs=ys
 |_,_,_,.nil,.nil=>rfl
 |_,_,_,.cons r t,.cons r' t'=>by rw[r.inj r',Vals.inj t t']
section
variable {X:Cx}{s:Shared}{a:Addr}{xs ys:List V}
theorem SqL.of{K:Ko}(h:H a=some (.lst xs)):SqL K H a xs:=.inl (.inl h)
theorem SqT.of{K:Ko}(h:H a=some (.tup xs)):SqT K H a xs:=.inl (.inl h)
theorem Inv.list(I:Inv X a_ Z H s)(h:SqL X.K H a xs):∃g_:List Value,Vals xs g_/\PlainL s.heap a g_.toArray/\xs.length<=sizeLine:=by
 rcases h with h|⟨o,g_,n,hk,hc,hd,hs,hz,r⟩
 ·obtain⟨z,g_,n,r,e⟩:=h.ok I.j_;exact⟨g_,r,⟨_,n,e,rfl,rfl,rfl⟩,z⟩
 ·refine⟨g_.toList,r,⟨o,n,I.kIn a o hk,hc,hd,by simpa using hs⟩,?_⟩
  have e:=r.length;simp only[Array.length_toList]at e;omega
theorem Inv.tuple(I:Inv X a_ Z H s)(h:SqT X.K H a xs):∃g_:List Value,Vals xs g_/\IsTup s.heap a g_.toArray/\xs.length<=sizeLine:=by
 rcases h with h|⟨o,g_,n,hk,hc,hs,hz,r⟩
 ·obtain⟨z,g_,r,p⟩:=h.ok I.j_;exact⟨g_,r,p,z⟩
 ·refine⟨g_.toList,r,⟨o,I.kIn a o hk,hc,n,by simpa using hs⟩,?_⟩
  have e:=r.length;simp only[Array.length_toList]at e;omega
theorem Inv.list_inj(I:Inv X a_ Z H s)(h:SqL X.K H a xs)(h':SqL X.K H a ys):xs=ys:=by
 obtain⟨g_,r,⟨o,n,e,_,_,d⟩,_⟩:=I.list h;obtain⟨its',r',⟨o',n',e',_,_,d'⟩,_⟩:=I.list h';rw[e]at e';cases e';rw[d]at d';injection d' with d1 _
 have:g_=its':=by simpa using congrArg Array.toList d1
 subst this;exact r.inj r'
theorem Inv.tuple_inj(I:Inv X a_ Z H s)(h:SqT X.K H a xs)(h':SqT X.K H a ys):xs=ys:=by
 obtain⟨g_,r,⟨o,e,_,n,d⟩,_⟩:=I.tuple h;obtain⟨its',r',⟨o',e',_,n',d'⟩,_⟩:=I.tuple h';rw[e]at e';cases e';rw[d]at d';injection d' with d1 _
 have:g_=its':=by simpa using congrArg Array.toList d1
 subst this;exact r.inj r'
end
section
variable {X:Cx}{s:Shared}
end
section
variable {X:Cx}{st:Stmt}{aT:List Stmt}{t u:TS}{e:Expr}{te:TE}{pos:Pos}
noncomputable def tNext:TS:=λD Z H=>D.nx Z H
noncomputable def Gg(t u:TS):TS:=λD Z H=>t {D with nx:=u D} Z H
theorem pss_nil:PSs X [] tNext:=λ_ _ Z H _ I h=>wpAny_execs_nil ⟨Z,H,I,h⟩
theorem wY(h1:PS X st t)(h2:PSs X aT u):PSs X (st::aT) (Gg t u):=by
 intro a_ s Z H D I h;refine wpAny_execs_cons (thn (h1 a_ s Z H {D with nx:=u D} I h) λf s1 q=>?_)
 cases f with
 |next=>
  obtain⟨l_,H',I',q⟩:=q;exact h2 a_ s1 l_ H' D I' q
 |ret v=>exact q
 |brk=>exact q
 |cont=>exact q
theorem Inv.quiet(I:Inv X a_ Z H s):interactive X.env=false:=by simp[interactive,I.ok.kind]
noncomputable def Dc(te:TE):TS:=λD Z H=>te Z H λ_ H1=>D.nx Z H1
theorem sv(he:PE X e te)(hs:swapsWith e none pos.line X.env=pure false:=by rfl):PS X (.Expr e pos) (Dc te):=by
 intro a_ s Z H D I h;exact wpAny_Expr_any (thn (he a_ s Z H _ I h) λv s1 ⟨x,H1,I1,r1,q1⟩=>⟨Z,H1,I1,q1⟩) I.quiet hs
noncomputable def G1(te:TE):TS:=λD Z H=>te Z H D.rt
theorem Ck(he:PE X e te):PS X (.Return (some e) pos) (G1 te):=by
 intro a_ s Z H D I h;exact wpAny_Return_some (thn (he a_ s Z H _ I h) λv s1 ⟨x,H1,I1,r1,q1⟩=>⟨x,Z,H1,I1,r1,q1⟩)
noncomputable def tRetN:TS:=λD _ H=>D.rt .i_ H
theorem ps_retN:PS X (.Return none pos) tRetN:=λ_ _ Z H _ I h=>wpAny_Return_none ⟨.i_,Z,H,I,rfl,h⟩
noncomputable def GK(c:TT)(t u:TS):TS:=λD Z H=>c Z H λb H1=>if b=true then t D Z H1 else u D Z H1
theorem En(hc:PT X c tc)(ha:PSs X a t)(hb:PSs X b u):PS X (.If c a b pos) (GK tc t u):=by
 intro a_ s Z H D I h;refine wpAny_If (thn (hc a_ s Z H _ I h) λd s1 ⟨H1,I1,q1⟩=>?_)
 cases d with
 |true=>exact ha a_ s1 Z H1 D I1 q1
 |false=>exact hb a_ s1 Z H1 D I1 q1
end
noncomputable abbrev TG:=V->St->Hp->(St->Hp->Prop)->Prop
noncomputable abbrev TGs:=List V->St->Hp->(St->Hp->Prop)->Prop
def PG(X:Cx)(LM:Expr)(t:TG):Prop:=
 ∀(a_:List (Addr×Obj)) (s:Shared)(Z:St)(H:Hp)(v:V)(u:Value)(Q:St->Hp->Prop),Inv X a_ Z H s->RelV v u->t v Z H Q->
  wpAny (model X.prog X.w) X.A (assign LM X.env u) (λ_ s'=>∃l_ H',Inv X a_ l_ H' s'/\Q l_ H') X.xe s
def PGs(X:Cx)(ts:List Expr)(t:TGs):Prop:=
 ∀(a_:List (Addr×Obj)) (s:Shared)(Z:St)(H:Hp)(vs:List V)(us:List Value)(Q:St->Hp->Prop),Inv X a_ Z H s->Vals vs us->t vs Z H Q->
  wpAny (model X.prog X.w) X.A (assignInOrder ((assignEach ts X.env).map (·.2)) us) (λ_ s'=>∃l_ H',Inv X a_ l_ H' s'/\Q l_ H') X.xe s
noncomputable abbrev TSet:=V->V->V->Hp->(Hp->Prop)->Prop
def Cd(X:Cx)(t:TSet):Prop:=
 ∀(a_:List (Addr×Obj)) (s:Shared)(Z:St)(H:Hp)(o i v:V)(ov iv u:Value)(Q:Hp->Prop),Inv X a_ Z H s->RelV o ov->RelV i iv->RelV v u->t o i v H Q->
  wpAny (model X.prog X.w) X.A (setItem ov iv u) (λ_ s'=>∃H',Inv X a_ Z H' s'/\Q H') X.xe s
section
variable {X:Cx}{pos:Pos}
noncomputable def qY(i:Nat):TG:=λv Z H Q=>Q (Z.set i (some v)) H
theorem jx(hN:X.N.Nodup)(hi:X.N[i]?=some x)(hx:Loc X.env.scope x)(hf:X.fn x=true\/X.env.scope.names.lookup x=some .local:=by first|exact .inl rfl|exact .inr rfl|assumption):PG X (.Name x pos) (qY i):=by
 intro a_ s Z H v u Q I r h;exact wpAny_assign_Name (oE I hN hi hx r (λs' I'=>⟨_,H,I',h⟩) hf)
noncomputable def gNil:TGs:=λvs Z H Q=>vs=[]/\Q Z H
noncomputable def D1(t:TG)(u:TGs):TGs:=λvs Z H Q=>∃v r,vs=v::r/\t v Z H λl_ H'=>u r l_ H' Q
theorem xW:PGs X [] gNil:=by
 intro a_ s Z H vs us Q I r h;obtain⟨e,h⟩:=h;subst e;cases r;exact assignInOrder_nil ⟨Z,H,I,h⟩
theorem uE(h1:PG X e t)(h2:PGs X es u)
  (hs:(assignEach (e::es) X.env).map (·.2)=assign e X.env::(assignEach es X.env).map (·.2):=by rfl):PGs X (e::es) (D1 t u):=by
 intro a_ s Z H vs us Q I r h;obtain⟨v,vr,e1,h⟩:=h;subst e1;cases r with
 |cons r rr=>
  rw[hs];refine assignInOrder_cons (thn (h1 a_ s Z H _ _ _ I r h) λ_ s1 ⟨NU,H1,I1,q1⟩=>?_)
  exact h2 a_ s1 NU H1 _ _ Q I1 rr q1
noncomputable def G5(K:Ko)(n:Nat)(t:TGs):TG:=λv Z H Q=>∃a xs,v=.ref a/\SqT K H a xs/\xs.length=n/\t xs Z H Q
theorem CC(hc:X.calm=true)(h:PGs X es t)
  (hn:(assignEach es X.env).length=n:=by rfl) (K9:(assignEach es X.env).findIdx? (·.1)=none:=by rfl):PG X (.Tuple es k pos) (G5 X.K n t):=by
 intro a_ s Z H v u Q I r hw;obtain⟨a,xs,e1,hq,hl,hw⟩:=hw;subst e1;cases r;obtain⟨g_,rv,ht,hz⟩:=I.tuple hq;refine assign_Tuple_tuple (I.ok.hd hc) ht (by simp[hn,<-hl,rv.length]) K9 λh' hx=>?_
 have I1:Inv X a_ Z H {s with heap:=h'}:=I.kept (t':=s.toks) λb o e=>hx b o (JG (Jt e)) e
 exact h a_ _ Z H xs _ Q I1 (by simpa using rv) hw
noncomputable def GF(to ti:TE)(t:TSet):TG:=λv Z H Q=>to Z H λo H1=>ti Z H1 λi H2=>t o i v H2 λH3=>Q Z H3
theorem zV(ho:PE X o to)(hi:PE X i ti)(hs:Cd X t)
  (ha:∀v,assign (.Subscript o i pos) X.env v=(do
   let ov<-holding [v] (eval o X.env)
   let iv<-holding [v,ov] (eval i X.env)
   standAt pos
   holding [v,ov,iv] (setItem ov iv v)
   release [v,ov,iv] []):=by intro _;rfl):PG X (.Subscript o i pos) (GF to ti t):=by
 intro a_ s Z H v u Q I r h;rw[ha];refine Je (JX (thn (ho a_ s Z H _ I h) λov s1 ⟨x,H1,I1,r1,q1⟩=>?_))
 refine Je (JX (thn (hi a_ s1 Z H1 _ I1 q1) λiv s2 ⟨y,H2,I2,r2,q2⟩=>?_))
 refine Je (wpAny_standAt (Je (JX (thn (hs a_ s2 Z H2 x y v ov iv u _ I2 r1 r2 r q2) λ_ s3 ⟨H3,I3,q3⟩=>?_))))
 exact wpAny_release ⟨Z,H3,I3,q3⟩
noncomputable def Cq(te:TE)(g:TG):TS:=λD Z H=>te Z H λx H1=>g x Z H1 D.nx
theorem vS(he:PE X e te)(hg:PG X tg g)(hs:swapsWithSole [tg] e pos.line X.env=pure false:=by rfl)(hw:swappedStores [tg] e X.env=pure none:=by rfl)
  (h1:(assignEach [tg] X.env).map (·.2)=[assign tg X.env]:=by rfl):PS X (.Assign [tg] e pos) (Cq te g):=by
 intro a_ s Z H D I h;refine wpAny_Assign_stores (thn (he a_ s Z H _ I h) λv s1 ⟨x,H1,I1,r1,q1⟩=>?_) hs hw
 rw[h1];exact thn (hg a_ s1 Z H1 x v _ I1 r1 q1) λ_ s2 q=>q
theorem Cs(hN:X.N.Nodup)(hi:X.N[i]?=some x)(hx:Loc X.env.scope x)(he:PE X e te)(hs:swapsWith e (some (.Name x K2)) pos.line X.env=pure false:=by rfl)(hf:X.fn x=true\/X.env.scope.names.lookup x=some .local:=by first|exact .inl rfl|exact .inr rfl|assumption) :
  PS X (.Assign [.Name x K2] e pos) (Cq te (qY i)):=by
 intro a_ s Z H D I h;refine wpAny_Assign_Name (thn (he a_ s Z H _ I h) λv s1 ⟨y,H1,I1,r1,q1⟩=>?_) hs
 exact oE I1 hN hi hx r1 (λs2 I2=>⟨_,H1,I2,q1⟩) hf
end
section
variable {X:Cx}{pos:Pos}
noncomputable def B2(c:TT)(tb:TS):TS:=λD Z H=>∃W:Nat->St->Hp->Prop,(∃m,W m Z H)/\∀m Z H,W m Z H->
 c Z H λb H1=>if b=true then ∃N:St->Hp->Prop,(∀l_ H',N l_ H'->∃m',m' < m/\W m' l_ H')/\tb {D with nx:=N,ct:=N,bk:=D.nx} Z H1 else D.nx Z H1
theorem ux(hp:PassesOwn (model X.prog X.w) X.A X.env X.xe)(hc:PT X c tc)(hb:PSs X body tb):PS X (.While c body [] pos) (B2 tc tb):=by
 intro a_ s Z H D I h;obtain⟨W,⟨m0,w0⟩,nG⟩:=h;refine wpAny_While (codeAny_whileLoop (λn s'=>∃l_ H',Inv X a_ l_ H' s'/\W n l_ H') ?_ m0 ⟨Z,H,I,w0⟩)
 rintro n s1 ⟨NU,H1,I1,w1⟩;refine wpAny_passesOwn hp (thn (hc a_ s1 NU H1 _ I1 (nG n NU H1 w1)) λb s2 ⟨H2,I2,q2⟩=>?_)
 cases b with
 |true=>
  obtain⟨N,hN,q2⟩:=q2;rw[Jr rfl];refine wpAny_passesOwn hp (thn (hb a_ s2 NU H2 _ I2 q2) λf s3 q3=>?_)
  cases f with
  |next=>
   obtain⟨h_,H3,I3,n3⟩:=q3;obtain⟨m',hm,w3⟩:=hN h_ H3 n3;exact⟨m',hm,h_,H3,I3,w3⟩
  |cont=>
   obtain⟨h_,H3,I3,n3⟩:=q3;obtain⟨m',hm,w3⟩:=hN h_ H3 n3;exact⟨m',hm,h_,H3,I3,w3⟩
  |brk=>exact q3
  |ret v=>exact q3
 |false=>
  rw[Ji JN];exact wpAny_execs_nil ⟨NU,H2,I2,q2⟩
end
structure It where
 go:Nat->Hp->Prop
 yld:Nat->Hp->V->Hp->Prop
 stop:Nat->Hp->Prop
def fx(X:Cx)(a_:List (Addr×Obj))(H:Hp)(b:Addr):Prop:=
 H b=none/\b≠X.env.locals/\b∉X.fs/\(b∈X.ex\/X.s₀.heap.objs.size<=b)/\(∀x c,X.env.cells.lookup x=some c->c≠b)/\∀p∈X.pn++a_,p.1≠b
theorem Inv.fpOk{s:Shared}(I:Inv X a_ Z H s)(hb:s.heap.objs.size<=b)(hn:H' b=none):fx X a_ H' b:=by
 refine⟨hn,Nat.ne_of_gt (Ju I.lt hb),I.nofs hb,.inr (JF I.sz hb),λx c e z=>?_,λp hp z=>?_⟩
 ·obtain⟨v,q⟩:=I.cell x c e;exact absurd (Ju q.lt (by rw[z];exact hb)) (JY _)
 ·exact absurd (Ju (Jt (I.pin p hp).1) (by rw[z];exact hb)) (JY _)
structure Turn (P:Program)(w:World)(K:Ko)(tg:Expr)(J:It)(fp:List Addr)(it:Addr)(tn:Nat->Heap->Prop):Prop where
 mem:it∈fp
 obj:∀i h,tn i h->∀b∈fp,∃o,h.get? b=some o/\∀v,o.data≠.cell v
 keep:∀i h h',tn i h->(∀b∈fp,∀o,h.get? b=some o->h'.get? b=some o)->tn i h'
 item:∀(X:Cx),X.prog=P->X.w=w->X.K=K->X.calm=true->∀(i:Nat) (a_:List (Addr×Obj)) (s:Shared)(Z:St)(H:Hp)(E:Value->Shared->Prop),Inv X a_ Z H s->(∀b∈fp,fx X a_ H b)->tn i s.heap->J.go i H->
  wpAny (model P w) X.A (pyNext (.ref it)) (λr s1=>∃u,r=some u/\
   wpAny (model P w) X.A (letOwnedTupleGo tg (.ref it) u) (λ_ s2=>∃x H',Inv X a_ Z H' s2/\RelV x u/\J.yld i H x H'/\tn (i+1) s2.heap/\∀b∈fp,H' b=none) E s1) E s
 done:∀(X:Cx),X.prog=P->X.w=w->X.K=K->X.calm=true->∀(i:Nat) (a_:List (Addr×Obj)) (s:Shared)(Z:St)(H:Hp)(E:Value->Shared->Prop),Inv X a_ Z H s->(∀b∈fp,fx X a_ H b)->tn i s.heap->J.stop i H->
  wpAny (model P w) X.A (pyNext (.ref it)) (λr s1=>r=none/\Inv X a_ Z H s1) E s
 self:∀(A:Around)(i:Nat)(s:Shared)(Q:Value->Shared->Prop)(E:Value->Shared->Prop),tn i s.heap->Q (.ref it) s->wpAny (model P w) A (pyIter (.ref it)) Q E s
noncomputable abbrev TI:=St->Hp->(It->Hp->Prop)->Prop
def PIE(X:Cx)(a_:List (Addr×Obj))(Z:St)(tg:Expr)(R:It->Hp->Prop)(Px:Value)(s2:Shared):Prop:=
 ∃(it:Addr)(fp:List Addr)(tn:Nat->Heap->Prop)(J:It)(H':Hp),Px=.ref it/\Inv X a_ Z H' s2/\Turn X.prog X.w X.K tg J fp it tn/\tn 0 s2.heap/\(∀b∈fp,fx X a_ H' b)/\R J H'
def PI(X:Cx)(tg iter:Expr)(wi:TI):Prop:=
 ∀(a_:List (Addr×Obj)) (s:Shared)(Z:St)(H:Hp)(R:It->Hp->Prop),Inv X a_ Z H s->wi Z H R->
  wpAny (model X.prog X.w) X.A (eval iter X.env) (λv s1=>wpAny (model X.prog X.w) X.A (pyIter v) (PIE X a_ Z tg R) X.xe s1) X.xe s
theorem uY {s : Shared} {o : Obj} (ho : s.heap.get? it = some o) (hc : o.cls = .type n) (hd : o.data = .fields vs)
    (hn : ["enumerate", "zip", "dict_itemiterator", "dict_reverseitemiterator", "odict_iterator", "itertools.zip_longest", "itertools.pairwise"].contains n = false) (hQ : Q () s) : wpAny M A (letOwnedTupleGo tg (.ref it) u) Q E s := by
  unfold letOwnedTupleGo;cases tg <;> first
    | exact Jh hQ
    | (cases u <;> first
        | exact Jh hQ
        | (refine Je (wpAny_load ho ?_)
           rw [hc, hd];show wpAny M A (if (["enumerate", "zip", "dict_itemiterator", "dict_reverseitemiterator", "odict_iterator", "itertools.zip_longest", "itertools.pairwise"].contains n && vs[0]? == some (rawInt _)) = true then _ else _) Q E s
           rw [Ji (by intro h; rw [hn, Bool.false_and] at h; cases h)]
           exact Jh hQ))
noncomputable def Itl(K:Ko)(a:Addr):It:=
 ⟨λi H=>∃xs x,SqL K H a xs/\xs[i]?=some x,λi H x H'=>H'=H/\∀xs,SqL K H a xs->xs[i]?=some x,λi H=>∃xs,SqL K H a xs/\xs.length<=i⟩
noncomputable def Itt(K:Ko)(a:Addr):It:=
 ⟨λi H=>∃xs x,SqT K H a xs/\xs[i]?=some x,λi H x H'=>H'=H/\∀xs,SqT K H a xs->xs[i]?=some x,λi H=>∃xs,SqT K H a xs/\xs.length<=i⟩
noncomputable def Itr(lo:Int)(n:Nat):It:=⟨λi _=>i<n,λi H x H'=>H'=H/\x=.int (lo+i),λi _=>n<=i⟩
theorem tz{K:Ko}(a it:Addr):Turn P w K tg (Itl K a) [it] it (λi h=>h.IsListIter it a i) where
 mem:=by simp
 obj:=λi h st b hb=>by
  have e:b=it:=by simpa using hb
  subst e;obtain⟨o,e,c,d⟩:=st;exact⟨o,e,λv z=>by rw[d]at z;cases z⟩
 keep:=λi h h' st k=>st.at λo e=>k it (by simp) o e
 item:=by
  intro X hP hw hK hc i a_ s Z H E I hf st hg;subst hP hw hK;obtain⟨xs,x,hq,hx⟩:=hg;obtain⟨g_,rv,p,hz⟩:=I.list hq;obtain⟨u,hu,ru⟩:=rv.get hx;obtain⟨f0,f1,f2,f3,f4,f5⟩:=hf it (by simp)
  refine wpAny_pyNext_list_item st p.isList (x:=u) (by simpa using hu) λh' Nd sb=>?_
  have I1:Inv X a_ Z H {s with heap:=h'}:=I.turned (t':=s.toks) (λb o hb e=>(sb.2 b hb).trans e) f0 f1 f3 f4 f5
  obtain⟨o,e,c,d⟩:=id Nd;exact⟨u,rfl,uY (s:={s with heap:=h'}) e c d (by decide) ⟨x,H,I1,ru,⟨rfl,λys hy=>by rw[I.list_inj hy hq];exact hx⟩,Nd,λb hb=>(hf b hb).1⟩⟩
 done:=by
  intro X hP hw hK hc i a_ s Z H E I hf st hg;subst hP hw hK;obtain⟨xs,hq,hx⟩:=hg;obtain⟨g_,rv,p,hz⟩:=I.list hq;obtain⟨f0,f1,f2,f3,f4,f5⟩:=hf it (by simp)
  have hl:=rv.length;exact wpAny_pyNext_list_end (I.ok.hd hc) st p.isList (by simp;omega) λh' eb=>⟨rfl,I.turned (t':=s.toks) (λb o hb e=>eb b o hb e) f0 f1 f3 f4 f5⟩
 self:=λ_ _ _ _ _ st h=>wpAny_pyIter_listiter st h
theorem qA{K:Ko}(a it:Addr):Turn P w K tg (Itt K a) [it] it (λi h=>h.IsTupleIter it a i) where
 mem:=by simp
 obj:=λi h st b hb=>by
  have e:b=it:=by simpa using hb
  subst e;obtain⟨o,e,c,d⟩:=st;exact⟨o,e,λv z=>by rw[d]at z;cases z⟩
 keep:=λi h h' st k=>st.at λo e=>k it (by simp) o e
 item:=by
  intro X hP hw hK hc i a_ s Z H E I hf st hg;subst hP hw hK;obtain⟨xs,x,hq,hx⟩:=hg;obtain⟨g_,rv,p,hz⟩:=I.tuple hq;obtain⟨u,hu,ru⟩:=rv.get hx;obtain⟨f0,f1,f2,f3,f4,f5⟩:=hf it (by simp)
  refine wpAny_pyNext_tuple_item st (show s.heap.IsTuple a g_.toArray from p) (x:=u) (by simpa using hu) λh' Nd sb=>?_
  have I1:Inv X a_ Z H {s with heap:=h'}:=I.turned (t':=s.toks) (λb o hb e=>(sb.2 b hb).trans e) f0 f1 f3 f4 f5
  obtain⟨o,e,c,d⟩:=id Nd;exact⟨u,rfl,uY (s:={s with heap:=h'}) e c d (by decide) ⟨x,H,I1,ru,⟨rfl,λys hy=>by rw[I.tuple_inj hy hq];exact hx⟩,Nd,λb hb=>(hf b hb).1⟩⟩
 done:=by
  intro X hP hw hK hc i a_ s Z H E I hf st hg;subst hP hw hK;obtain⟨xs,hq,hx⟩:=hg;obtain⟨g_,rv,p,hz⟩:=I.tuple hq;obtain⟨f0,f1,f2,f3,f4,f5⟩:=hf it (by simp)
  have hl:=rv.length;exact wpAny_pyNext_tuple_end (I.ok.hd hc) st (show s.heap.IsTuple a g_.toArray from p) (by simp;omega) λh' eb=>⟨rfl,I.turned (t':=s.toks) (λb o hb e=>eb b o hb e) f0 f1 f3 f4 f5⟩
 self:=λ_ _ _ _ _ st h=>wpAny_pyIter_tupleiter st h
theorem qw{K:Ko}(it:Addr)(lo:Int)(n:Nat):Turn P w K tg (Itr lo n) [it] it (λi h=>IsRangeIter h it (lo+(i:Nat)*1) ((n:Int)-(i:Nat)) 1) where
 mem:=by simp
 obj:=λi h st b hb=>by
  have e:b=it:=by simpa using hb
  subst e;exact⟨_,st,λv z=>by
   have z':Data.fields _=Data.cell v:=z;cases z'⟩
 keep:=λi h h' st k=>k it (by simp) _ st
 item:=by
  intro X hP hw hK hc i a_ s Z H E I hf st hg;subst hP hw hK;obtain⟨f0,f1,f2,f3,f4,f5⟩:=hf it (by simp)
  have W:=Walks.range (prog:=X.prog) (w:=X.w) (I.ok.hd hc) it lo 1 n;refine W.item i s _ _ hg st λv h' tk hv Nd kk=>?_
  obtain⟨t,rfl⟩:=hv;have I1:Inv X a_ Z H {s with heap:=h',toks:=tk}:=I.turned (λb o hb e=>kk b o (by simpa using hb) e) f0 f1 f3 f4 f5
  refine⟨_,rfl,uY (s:={s with heap:=h',toks:=tk}) (n:="range_iterator") Nd rfl rfl (by decide) ⟨.int (lo+i),H,I1,⟨t,?_⟩,⟨rfl,rfl⟩,Nd,λb hb=>(hf b hb).1⟩⟩
  rw[Int.mul_one]
 done:=by
  intro X hP hw hK hc i a_ s Z H E I hf st hg;subst hP hw hK;obtain⟨f0,f1,f2,f3,f4,f5⟩:=hf it (by simp)
  exact wpAny_pyNext_range_end (I.ok.hd hc) st (by have:n<=i:=hg;omega) λh' eb=>⟨rfl,I.turned (t':=s.toks) (λb o hb e=>eb b o hb e) f0 f1 f3 f4 f5⟩
 self:=λ_ _ _ _ _ st h=>wpAny_pyIter_rangeiter st h
section
variable {X:Cx}
theorem vm{s:Shared}{lo:Int}(I:Inv X a_ Z H s)(h1 : -(2 ^ 62)<=lo)(h2:lo<2 ^ 62)(h3 : -(2 ^ 62)<=hi)(h4:hi<2 ^ 62)
  (q:R (Itr lo (hi-lo).toNat) H):wpAny (model X.prog X.w) X.A (pyIter (.ref s.heap.objs.size)) (PIE X a_ Z tg R) E {s with heap:=s.heap.push {cls:=.type "range",data:=.fields #[.int lo t,.int hi u,.int 1 v]},toks:=tk}:=by
 refine wpAny_pyIter_range (IsRange.new ..) (small_one h1 h2 h3 h4) ?_;have I1:Inv X a_ Z H {s with heap:=s.heap.push {cls:=.type "range",data:=.fields #[.int lo t,.int hi u,.int 1 v]},toks:=tk}:=I.kept λb o e=>Jj _ e
 refine⟨(s.heap.push {cls:=.type "range",data:=.fields #[.int lo t,.int hi u,.int 1 v]}).objs.size,[(s.heap.push {cls:=.type "range",data:=.fields #[.int lo t,.int hi u,.int 1 v]}).objs.size],_,_,H,rfl,
  I1.kept (t':=tk) λb o e=>Jj _ e,qw _ lo (hi-lo).toNat,?_,λb hb=>?_,q⟩
 ·have e1:lo+((0:Nat):Int)*1=lo:=by simp
  have e2:(((hi-lo).toNat:Nat):Int)-((0:Nat):Int)=Builtin.Range.rangeSize lo hi 1:=by rw[rangeSize_one];split<;>omega
  show IsRangeIter _ _ (lo+((0:Nat):Int)*1) ((((hi-lo).toNat:Nat):Int)-((0:Nat):Int)) 1;rw[e1,e2];exact Jp _ rfl
 ·have e:b=(s.heap.push {cls:=.type "range",data:=.fields #[.int lo t,.int hi u,.int 1 v]}).objs.size:=by simpa using hb
  subst e;exact I1.fpOk (Jn _) (I1.j_.fresh (Jn _))
noncomputable def EA(ta:TA):TI:=λZ H R=>ta Z H λvs H1=>∃j:Int,vs=[.int j]/\-(2 ^ 62)<=j/\j<2 ^ 62/\R (Itr 0 j.toNat) H1
theorem t8(hg:Gl X "range")(hm:X.mg "range"=none)(ha:PA X [a] ta)(hs:starEach [a] X.env=[(false,eval a X.env)]:=by rfl):PI X tg (.Call (.Name "range" p) [a] [] pos) (EA ta):=by
 intro a_ s Z H R I h;refine Call_ (fR I hg hm boot_range (PyProof.Rows.callWith_type1 (thn (ha pos a_ s Z H _ I h) λus s1 ⟨vs,H1,I1,r1,q1⟩=>?_) hs rfl))
 obtain⟨j,e,q1,q2,q⟩:=q1;subst e;cases r1 with
 |cons r rr=>
  cases rr;obtain⟨t,rfl⟩:=r;exact call_range_1 (vm I1 (by omega) (by omega) q1 q2 (by simpa using q))
noncomputable def Gq(wi:TI)(g:TG)(tb:TS):TS:=λD Z H=>wi Z H λJ H1=>∃W:Nat->Nat->St->Hp->Prop,(∃m,W 0 m Z H1)/\∀i m Z H,W i m Z H->
 (J.stop i H/\D.nx Z H)\/(J.go i H/\∃N:St->Hp->Prop,(∀l_ H',N l_ H'->∃m',m' < m/\W (i+1) m' l_ H')/\∀x H',J.yld i H x H'->g x Z H' λLh H2=>tb {D with nx:=N,ct:=N,bk:=D.nx} Lh H2)
noncomputable def k9(fp:List Addr)(h:Heap):List (Addr×Obj):=fp.filterMap λb=>(h.get? b).map λo=>(b,o)
theorem ef{h:Heap}(hb:b∈fp)(e:h.get? b=some o):(b,o)∈k9 fp h:=List.mem_filterMap.mpr ⟨b,hb,by rw[e];rfl⟩
theorem sX{h:Heap}{p:Addr×Obj}(hp:p∈k9 fp h):p.1∈fp/\h.get? p.1=some p.2:=by
 obtain⟨b,hb,e⟩:=List.mem_filterMap.mp hp;cases q:h.get? b with
 |none=>rw[q]at e;cases e
 |some o=>
  rw[q]at e;have e':(b,o)=p:=JA e;subst e';exact⟨hb,q⟩
theorem Inv.pinned{s:Shared}(I:Inv X a_ Z H s)(hf:∀b∈fp,fx X a_ H b)(ho:∀b∈fp,∃o,s.heap.get? b=some o/\∀v,o.data≠.cell v):Inv X (a_++k9 fp s.heap) Z H s:=
 I.pins_of λp hp=>(JI.mp hp).elim (λz=>I.pin p (JD _ z)) λz=>by
  obtain⟨hb,e⟩:=sX z;obtain⟨f0,f1,f2,_⟩:=hf p.1 hb;obtain⟨o,e',d⟩:=ho p.1 hb;rw[e]at e';cases e';exact⟨e,f0,f1,f2,d⟩
theorem Inv.unpinned(I:Inv X (a_++pl) Z H s):Inv X a_ Z H s:=I.pins_of λp hp=>I.pin p (JD _ (JR _ hp))
theorem pS(hp:PassesOwn (model X.prog X.w) X.A X.env X.xe)(hc:X.calm=true)(hi:PI X tg iter wi)(hg:PG X tg g)(hb:PSs X body tb)
  (hs:∀x,foldedSetIterable iter X.env x=pure x:=by intro _;rfl):PS X (.For tg iter body [] pos) (Gq wi g tb):=by
 intro a_ s Z H D I h;refine wpAny_For (thn (hi a_ s Z H _ I h) λv s1 h1=>thn h1 λPx s2 h2=>?_) hs
 obtain⟨it,fp,tn,J,H2,e,I2,T,O6,f2,W,⟨m0,w0⟩,nG⟩:=h2;subst e;have Np:∀{H':Hp},(∀b∈fp,H' b=none)->∀b∈fp,fx X a_ H' b:=λhn b hb=>⟨hn b hb,(f2 b hb).2⟩
 refine codeAny_forLoop_any (λn s'=>∃i l_ H',Inv X a_ l_ H' s'/\tn i s'.heap/\(∀b∈fp,H' b=none)/\W i n l_ H') ?_ m0 ⟨0,Z,H2,I2,O6,λb hb=>(f2 b hb).1,w0⟩
 rintro n s3 ⟨i,h_,H3,I3,Oh,O7,w3⟩;rcases nG i n h_ H3 w3 with ⟨stop,qn⟩|⟨go,N,hN,step⟩
 ·refine wpAny_passesOwn hp (thn (T.done X rfl rfl rfl hc i a_ s3 h_ H3 X.xe I3 (Np O7) Oh stop) λr s4 ⟨hr,I4⟩=>?_)
  subst hr;exact wpAny_execs_nil ⟨h_,H3,I4,qn⟩
 ·refine wpAny_passesOwn hp (thn (T.item X rfl rfl rfl hc i a_ s3 h_ H3 X.xe I3 (Np O7) Oh go) λr s4 ⟨u,hr,h4⟩=>?_)
  subst hr;refine wpAny_passesOwn hp (thn h4 λ_ s5 ⟨x,H5,I5,r5,y5,Py,RG⟩=>?_)
  have RH:=I5.pinned (Np RG) (T.obj _ _ Py);refine wpAny_passesOwn hp (thn (hg _ s5 h_ H5 x u _ RH r5 (step x H5 y5)) λ_ s6 ⟨LD,H6,I6,q6⟩=>?_)
  refine wpAny_passesOwn hp (thn (hb _ s6 LD H6 _ I6 q6) λf s7 q7=>?_)
  have again:∀{LO:St}{H7:Hp},Inv X (a_++k9 fp s5.heap) LO H7 s7->N LO H7->∃m,m<n/\∃i l_ H',Inv X a_ l_ H' s7/\tn i s7.heap/\(∀b∈fp,H' b=none)/\W i m l_ H':=λ{LO H7} I7 n7=>by
   obtain⟨m',hm,w7⟩:=hN LO H7 n7;refine⟨m',hm,i+1,LO,H7,I7.unpinned,T.keep _ _ _ Py λb hb o e=>(I7.pin (b,o) (JD _ (JD _ (ef hb e)))).1,λb hb=>?_,w7⟩
   obtain⟨o,e,d⟩:=T.obj _ _ Py b hb;exact (I7.pin (b,o) (JD _ (JD _ (ef hb e)))).2.1
  cases f with
  |next=>obtain⟨LO,H7,I7,n7⟩:=q7;exact again I7 n7
  |cont=>obtain⟨LO,H7,I7,n7⟩:=q7;exact again I7 n7
  |brk=>obtain⟨LO,H7,I7,q7⟩:=q7;exact⟨LO,H7,I7.unpinned,q7⟩
  |ret v=>obtain⟨x7,LO,H7,I7,r7,q7⟩:=q7;exact⟨x7,LO,H7,I7.unpinned,r7,q7⟩
end
noncomputable abbrev R2:=V->V->Hp->VK->Prop
def OpR(X:Cx)(f:Value->Value->Sem Value)(r:R2):Prop:=
 ∀(a_:List (Addr×Obj)) (s:Shared)(Z:St)(H:Hp)(x y:V)(v u:Value)(Q:VK),Inv X a_ Z H s->RelV x v->RelV y u->r x y H Q->
  wpAny (model X.prog X.w) X.A (f v u) (EP X a_ Z Q) X.xe s
def UnR(X:Cx)(f:Value->Sem Value)(r:V->Hp->VK->Prop):Prop:=
 ∀(a_:List (Addr×Obj)) (s:Shared)(Z:St)(H:Hp)(x:V)(v:Value)(Q:VK),Inv X a_ Z H s->RelV x v->r x H Q->
  wpAny (model X.prog X.w) X.A (f v) (EP X a_ Z Q) X.xe s
def CallR(X:Cx)(f:Value)(r:List V->Hp->VK->Prop):Prop:=
 ∀(a_:List (Addr×Obj)) (s:Shared)(Z:St)(H:Hp)(xs:List V)(us:List Value)(Q:VK),Inv X a_ Z H s->Vals xs us->r xs H Q->
  wpAny (model X.prog X.w) X.A (call f us) (EP X a_ Z Q) X.xe s
noncomputable def tOp(r:R2)(ta tb:TE):TE:=λZ H Q=>ta Z H λx H1=>tb Z H1 λy H2=>r x y H2 Q
noncomputable def tUn(r:V->Hp->VK->Prop)(ta:TE):TE:=λZ H Q=>ta Z H λx H1=>r x H1 Q
def rI(C:Int->Int->Prop)(g:Int->Int->V):R2:=λx y H Q=>∃i j,x=.int i/\y=.int j/\C i j/\Q (g i j) H
def rI0(g:Int->Int->V):R2:=λx y H Q=>∃i j,x=.int i/\y=.int j/\Q (g i j) H
def rU(g:Int->V):V->Hp->VK->Prop:=λx H Q=>∃i,x=.int i/\Q (g i) H
section
variable {X:Cx}{a b c:Expr}{ta tb tc:TE}{pos:Pos}
theorem BV(ha:PE X a ta)(hb:PE X b tb){a_:List (Addr×Obj)}{s:Shared}{Z:St}{H:Hp}{R:V->V->Hp->Prop}(I:Inv X a_ Z H s)
  (h:ta Z H λx H1=>tb Z H1 λy H2=>R x y H2) {Q:Value->Shared->Prop}{f:Value->Value->Sem Value}
  (hf:∀v u s2 x y H2,Inv X a_ Z H2 s2->RelV x v->RelV y u->R x y H2->wpAny (model X.prog X.w) X.A (f v u) Q X.xe s2) :
  wpAny (model X.prog X.w) X.A (eval a X.env) (λv r_=>wpAny (model X.prog X.w) X.A (eval b X.env) (λu Kv=>wpAny (model X.prog X.w) X.A (f v u) Q X.xe Kv) X.xe r_) X.xe s:=by
 refine thn (ha a_ s Z H _ I h) λv s1 ⟨x,H1,I1,r1,q1⟩=>?_
 refine thn (hb a_ s1 Z H1 _ I1 q1) λu s2 ⟨y,H2,I2,r2,q2⟩=>?_
 exact hf v u s2 x y H2 I2 r1 r2 q2
theorem EL{op:Operator}{r:R2}(ho:OpR X (binaryOp op) r)(ha:PE X a ta)(hb:PE X b tb):PE X (.BinOp a op b pos) (tOp r ta tb):=by
 intro a_ s Z H Q I h;exact wpAny_BinOp (BV ha hb I h λv u s2 x y H2 I2 rx ry q=>ho a_ s2 Z H2 x y v u Q I2 rx ry q)
theorem DB(ho:UnR X (unaryOp op) r)(ha:PE X a ta):PE X (.UnaryOp op a pos) (tUn r ta):=by
 intro a_ s Z H Q I h;exact UnaryOp_ (thn (ha a_ s Z H _ I h) λv s1 ⟨x,H1,I1,r1,q1⟩=>ho a_ s1 Z H1 x v Q I1 r1 q1)
theorem opI{f:Value->Value->Sem Value}{C:Int->Int->Prop}{g:Int->Int->Int}
  (rule:∀(i j:Int)(t u:Tok)(s:Shared)(Q:Value->Shared->Prop)(E:Value->Shared->Prop),C i j->Q (.int (g i j) s.toks) {s with toks:=s.toks+1}->wpAny (model X.prog X.w) X.A (f (.int i t) (.int j u)) Q E s) :
  OpR X f (rI C λi j=>.int (g i j)):=by
 intro a_ s Z H x y v u Q I rx ry h;obtain⟨i,j,rfl,rfl,hc,q⟩:=h;obtain⟨t,rfl⟩:=rx;obtain⟨t',rfl⟩:=ry;exact rule i j t t' s _ _ hc ⟨.int (g i j),H,I.tok _,⟨_,rfl⟩,q⟩
theorem AR{f:Value->Value->Sem Value}{g:Int->Int->Int}
  (rule:∀(i j:Int)(t u:Tok)(s:Shared)(Q:Value->Shared->Prop)(E:Value->Shared->Prop),Q (.int (g i j) s.toks) {s with toks:=s.toks+1}->wpAny (model X.prog X.w) X.A (f (.int i t) (.int j u)) Q E s) :
  OpR X f (rI0 λi j=>.int (g i j)):=by
 intro a_ s Z H x y v u Q I rx ry h;obtain⟨i,j,rfl,rfl,q⟩:=h;obtain⟨t,rfl⟩:=rx;obtain⟨t',rfl⟩:=ry;exact rule i j t t' s _ _ ⟨.int (g i j),H,I.tok _,⟨_,rfl⟩,q⟩
theorem ya{f:Value->Value->Sem Value}{g:Int->Int->Bool}
  (rule:∀(i j:Int)(t u:Tok)(s:Shared)(Q:Value->Shared->Prop)(E:Value->Shared->Prop),Q (.bool (g i j)) s->wpAny (model X.prog X.w) X.A (f (.int i t) (.int j u)) Q E s) :
  OpR X f (rI0 λi j=>.bl (g i j)):=by
 intro a_ s Z H x y v u Q I rx ry h;obtain⟨i,j,rfl,rfl,q⟩:=h;obtain⟨t,rfl⟩:=rx;obtain⟨t',rfl⟩:=ry;exact rule i j t t' s _ _ ⟨.bl (g i j),H,I,rfl,q⟩
def uR(i j:Int):Prop:=0<=j/\j<=1000000/\i.natAbs<2 ^ 64
theorem qP(k:Nat):(0:Int)<=2 ^ k:=by
 rw[two_pow_cast];exact Int.natCast_nonneg _
theorem AG:OpR X (binaryOp .Add) (rI0 λi j=>.int (i+j)):=AR λ_ _ _ _ _ _ _ q=>add_int q
theorem zZ:OpR X (binaryOp .Sub) (rI0 λi j=>.int (i-j)):=AR λ_ _ _ _ _ _ _ q=>sub_int q
theorem Ca:OpR X (binaryOp .Mod) (rI (λ_ j=>0<j) λi j=>.int (i % j)):=opI λi j _ _ _ _ _ hc q=>by
 have h1:(0:Int)<j:=hc;exact mod_int' (by omega) (by rw[Int.fmod_eq_emod_of_nonneg i (by omega)];exact q)
theorem AL:OpR X (binaryOp .Pow) (rI uR λi j=>.int (i ^ j.toNat)):=opI λ_ _ _ _ _ _ _ hc q=>pow_int_small hc.1 hc.2.1 hc.2.2 q
theorem BO:OpR X (binaryOp .RShift) (rI (λ_ j=>0<=j) λi j=>.int (i / 2 ^ j.toNat)):=opI λi j _ _ _ _ _ hc q=>
 rshift_int hc (by rw[Int.fdiv_eq_ediv_of_nonneg i (qP _)];exact q)
theorem B1:OpR X (binaryOp .BitAnd) (rI0 λi j=>.int (Builtin.bitAnd i j)):=AR λ_ _ _ _ _ _ _ q=>and_int q
theorem unI{f:Value->Sem Value}{g:Int->Int}
  (rule:∀(i:Int)(t:Tok)(s:Shared)(Q:Value->Shared->Prop)(E:Value->Shared->Prop),Q (.int (g i) s.toks) {s with toks:=s.toks+1}->wpAny (model X.prog X.w) X.A (f (.int i t)) Q E s) :
  UnR X f (rU λi=>.int (g i)):=by
 intro a_ s Z H x v Q I rx h;obtain⟨i,rfl,q⟩:=h;obtain⟨t,rfl⟩:=rx;exact rule i t s _ _ ⟨.int (g i),H,I.tok _,⟨_,rfl⟩,q⟩
theorem BH:UnR X (unaryOp .USub) (rU λi=>.int (-i)):=unI λ_ _ _ _ _ q=>neg_int q
end
section
variable {X:Cx}{a b c:Expr}{ta tb tc:TE}{pos:Pos}
theorem vW(I:Inv X a_ Z H s)(q:Q (.bl k) H)(e:k=k'):EP X a_ Z Q (.bool k') s:=by
 subst e;exact⟨.bl k,H,I,rfl,q⟩
theorem CU:OpR X (compareOp .Lt) (rI0 λi j=>.bl (decide (i<j))):=ya λ_ _ _ _ _ _ _ q=>lt_int q
theorem DR:OpR X (compareOp .LtE) (rI0 λi j=>.bl (decide (i<=j))):=ya λ_ _ _ _ _ _ _ q=>le_int q
theorem Dn:OpR X (compareOp .Gt) (rI0 λi j=>.bl (decide (j<i))):=ya λ_ _ _ _ _ _ _ q=>gt_int q
theorem EB:OpR X (compareOp .GtE) (rI0 λi j=>.bl (decide (j<=i))):=ya λ_ _ _ _ _ _ _ q=>ge_int q
theorem Bj:OpR X (compareOp .Is) (λx y H Q=>y=.i_/\Q (.bl (decide (x=.i_))) H):=by
 intro a_ s Z H x y v u Q I rx ry h;obtain⟨rfl,q⟩:=h;cases ry;refine is_none_gen (vW I q ?_);cases x<;>first
  |(cases rx;rfl)
  |(obtain⟨t,rfl⟩:=rx;rfl)
theorem xJ:OpR X (compareOp .IsNot) (λx y H Q=>y=.i_/\Q (.bl (!decide (x=.i_))) H):=by
 intro a_ s Z H x y v u Q I rx ry h;obtain⟨rfl,q⟩:=h;cases ry;refine isnot_none_gen (vW I q ?_);cases x<;>first
  |(cases rx;rfl)
  |(obtain⟨t,rfl⟩:=rx;rfl)
theorem yC{op:CmpOp}{r:R2}(ho:OpR X (compareOp op) r)(ha:PE X a ta)(hb:PE X b tb)(hm:behindInMarks op b=false):PE X (.Compare a [op] [b] pos) (tOp r ta tb):=by
 intro a_ s Z H Q I h;exact wpAny_Compare1 (BV ha hb I h λv u s2 x y H2 I2 rx ry q=>ho a_ s2 Z H2 x y v u Q I2 rx ry q) hm
noncomputable def zE(t:TE):TT:=λZ H Q=>t Z H λx H'=>∃k,x=.bl k/\Q k H'
theorem xB(ho:OpR X (compareOp op) r)(ha:PE X a ta)(hb:PE X b tb)(hm:behindInMarks op b=false):PT X (.Compare a [op] [b] pos) (zE (tOp r ta tb)):=by
 intro a_ s Z H Q I h;refine wpAny_isTrue_Compare1 (thn (ha a_ s Z H _ I h) λv s1 ⟨x,H1,I1,r1,q1⟩=>thn (hb a_ s1 Z H1 _ I1 q1) λu s2 ⟨y,H2,I2,r2,q2⟩=>
  thn (ho a_ s2 Z H2 x y v u _ I2 r1 r2 q2) λc s3 ⟨z,H3,I3,r3,k,e,q3⟩=>?_) hm
 subst e;cases r3;exact JT ⟨H3,I3,q3⟩
noncomputable def vU(r r':R2)(ta tb tc:TE):TE:=λZ H Q=>ta Z H λx H1=>tb Z H1 λy H2=>r x y H2 λz H3=>∃k,z=.bl k/\
 (if k=true then tc Z H3 λw' H4=>r' y w' H4 Q else Q (.bl false) H3)
theorem vh(ho:OpR X (compareOp op) r)(Lx:OpR X (compareOp K8) r')(ha:PE X a ta)(hb:PE X b tb)(hc:PE X c tc)
  (hm:lastMarks [op,K8] [b,c]=false:=by with_unfolding_all rfl):PE X (.Compare a [op,K8] [b,c] pos) (vU r r' ta tb tc):=by
 intro a_ s Z H Q I h;refine Compare_chain (thn (ha a_ s Z H _ I h) λv s1 ⟨x,H1,I1,r1,q1⟩=>chain_link (thn (hb a_ s1 Z H1 _ I1 q1) λu s2 ⟨y,H2,I2,r2,q2⟩=>
  thn (ho a_ s2 Z H2 x y v u _ I2 r1 r2 q2) λd s3 ⟨z,H3,I3,r3,k,e,q3⟩=>?_)) hm
 subst e;cases r3;refine JT ?_;cases k with
 |false=>exact ite_ff ⟨.bl false,H3,I3,rfl,q3⟩
 |true=>exact ite_tt (chain_last (thn (hc a_ s3 Z H3 _ I3 q3) λw' s4 ⟨z',H4,I4,r4,q4⟩=>Lx a_ s4 Z H4 y z' u w' Q I4 r2 r4 q4))
theorem wS(ho:OpR X (compareOp op) r)(Lx:OpR X (compareOp K8) r')(ha:PE X a ta)(hb:PE X b tb)(hc:PE X c tc)
  (hm:lastMarks [op,K8] [b,c]=false:=by with_unfolding_all rfl):PT X (.Compare a [op,K8] [b,c] pos) (zE (vU r r' ta tb tc)):=by
 intro a_ s Z H Q I h;refine isTrue_chain (thn (ha a_ s Z H _ I h) λv s1 ⟨x,H1,I1,r1,q1⟩=>test_link (thn (hb a_ s1 Z H1 _ I1 q1) λu s2 ⟨y,H2,I2,r2,q2⟩=>
  thn (ho a_ s2 Z H2 x y v u _ I2 r1 r2 q2) λd s3 ⟨z,H3,I3,r3,k,e,q3⟩=>?_)) hm
 subst e;cases r3;refine JT ?_;cases k with
 |false=>
  obtain⟨k',e',q'⟩:=q3;cases e';exact ite_ff ⟨H3,I3,q'⟩
 |true=>
  refine ite_tt (test_last (thn (hc a_ s3 Z H3 _ I3 q3) λw' s4 ⟨z',H4,I4,r4,q4⟩=>thn (Lx a_ s4 Z H4 y z' u w' _ I4 r2 r4 q4) λd' s5 ⟨z2,H5,I5,r5,k2,e2,q5⟩=>?_))
  subst e2;cases r5;exact JT ⟨H5,I5,q5⟩
theorem kM:(sizeLine:Nat)<2 ^ 63:=by rw[sizeLine_eq];decide
theorem i9(r:Vals [x] us):∃u,us=[u]/\RelV x u:=by
 cases r with
 |cons r1 r2=>cases r2;exact⟨_,rfl,r1⟩
theorem ze(r:Vals [x,y] us):∃u w',us=[u,w']/\RelV x u/\RelV y w':=by
 cases r with
 |cons r1 r2=>
  cases r2 with
  |cons r3 r4=>cases r4;exact⟨_,_,rfl,r1,r3⟩
theorem tF(hc:X.calm=true):CallR X (.builtin "max") (λxs H Q=>∃i j,xs=[.int i,.int j]/\Q (.int (if j > i then j else i)) H):=by
 intro a_ s Z H xs us Q I r h;obtain⟨i,j,rfl,q⟩:=h;obtain⟨u,w',rfl,⟨t,rfl⟩,⟨t',rfl⟩⟩:=ze r;refine max_two_ints (I.ok.hd hc) λh' tk k=>⟨_,H,I.kept k,?_,q⟩
 by_cases hj:j > i
 ·rw[Jr hj,Jr hj];exact⟨_,rfl⟩
 ·rw[Ji hj,Ji hj];exact⟨_,rfl⟩
theorem t5(hc:X.calm=true):CallR X (.builtin "min") (λxs H Q=>∃i j,xs=[.int i,.int j]/\Q (.int (if j<i then j else i)) H):=by
 intro a_ s Z H xs us Q I r h;obtain⟨i,j,rfl,q⟩:=h;obtain⟨u,w',rfl,⟨t,rfl⟩,⟨t',rfl⟩⟩:=ze r;refine min_two_ints (I.ok.hd hc) λh' tk k=>⟨_,H,I.kept k,?_,q⟩
 by_cases hj:j<i
 ·rw[Jr hj,Jr hj];exact⟨_,rfl⟩
 ·rw[Ji hj,Ji hj];exact⟨_,rfl⟩
end
structure ObjM (h:Heap)(x dx C:Addr)(mA:Str->Option Value):Prop where
 obj:h.get? x=some (PySem.W.instObj C dx)
 ns:h.Ns1 dx mA
 ne:dx≠x
theorem tX{h:Heap}(n:h.Ns1 dx mA):∃od,h.get? dx=some od/\∀name,PySem.W.lookIn name od=some (mA name):=by
 obtain⟨o,es,ep,ho,hd,hk,_,hm⟩:=n;refine⟨o,ho,λname=>?_⟩
 have e:=hm name;unfold nsFind findBy at e;rw[<-Array.find?_toList]at e;unfold PySem.W.lookIn;rw[hd];dsimp only;split
 ·rename_i y q;rw[q]at e;exact congrArg some e
 ·rename_i q;rw[q]at e;have a:es.toList.any (·.refKey)=false:=by
   rw[List.any_eq_false];intro y hy;obtain⟨z,t,Pz⟩:=hk y (Array.mem_toList_iff.mp hy);simp[DictEntry.refKey,Pz]
  have a':¬ es.toList.any (·.refKey)=true:=by rw[a];exact JN
  rw[Ji a'];exact congrArg some e
theorem ObjM.look(I:ObjM h x dx C mA):∃od,PySem.W.InstAt h x (PySem.W.instObj C dx) C (some od)/\∀name,PySem.W.lookIn name od=some (mA name):=
 let ⟨od,ho,hl⟩:=tX I.ns
 ⟨od,⟨I.obj,rfl,rfl,ho⟩,hl⟩
section
variable {w:World}{A:Around}{s:Shared}{K:Ko}{x:Addr}
theorem yW(X:K.In s.heap)(I:ObjM s.heap x dx C mA)(hg:PySem.W.plainGet K C name=true)(hh:PySem.W.hasDictIn K C=true)
  (ha:PySem.W.findIn K (.ref C) name=some none) (hv:mA name=some v) (PB:PySem.W.handedIn v=true) (h:Q v {s with toks:=s.toks+1}) :
  wpAny (model prog w) A (getAttr (.ref x) name expr) Q E s:=by
 obtain⟨od,J,hl⟩:=I.look;exact PySem.W.get_value X J (PySem.W.plainGet_of hg).1 (PySem.W.findObj_own hh ha rfl (by rw[hl,hv])) PB h
theorem wP(X:K.In s.heap)(I:ObjM s.heap x dx C mA)(hg:PySem.W.plainGet K C name=true)
  (hf:PySem.W.findIn K (.ref C) name=some (some (.ref f))) (ht:PySem.W.isFn K (.ref f)=true) (hv:mA name=none) (h:Q (.ref f,[.ref x]) s) :
  wpAny (model prog w) A (getMethod (.ref x) name pl) Q E s:=by
 obtain⟨od,J,hl⟩:=I.look;exact PySem.W.method_fn X J (PySem.W.plainGet_of hg).1 (PySem.W.plainGet_of hg).2 hf (JH.mp ht) (by show (PySem.W.lookIn name od).map (·.isSome)=some false;rw[hl,hv];rfl) h
theorem yz{ns:List Str}(X:K.In s.heap)(I:ObjM s.heap x dx C mA)
  (hs:PySem.W.findIn K (.ref C) "__setattr__"=some (some (.builtin "object.__setattr__"))) (hp:PySem.W.plainOver K C=true) (ht:PySem.W.takerIn K C name=some none) (hh:PySem.W.hasDictIn K C=true)
  (hw:PySem.Within mA ns) (hsz:ns.length<=sizeLine)
  (h:∀h',ObjM h' x dx C (λy=>if y=name then some v else mA y)->Heap.SameBut dx s.heap h'->Q () {s with heap:=h',toks:=s.toks+2}) :
  wpAny (model prog w) A (setAttr (.ref x) name v) Q E s:=by
 obtain⟨od,J,hl⟩:=I.look;refine PySem.W.set_plain X J hs (PySem.W.osa_open (s:={s with toks:=s.toks+1}) (r:=none) X J hp ht λb=>?_)
 obtain⟨cd,hc,Pr⟩:=PySem.W.any_some hh;have hx:s.heap.get? x=some ⟨.ref C,some dx,.plain,#[]⟩:=I.obj;refine Je (Jh (Je (Je (wpAny_loadPart hx (Je (PySem.W.Looks.here (s:={s with toks:=s.toks+1}) (PySem.W.looks_clsIn X hc) ?_))))))
 rw[Pr];refine Jh (a:=some dx) (Je (Jh (Je ?_)));refine wpAny_nsSet1 (s:={s with toks:=s.toks+1}) I.ns λh' QM Lp=>?_
 obtain⟨oD,Tf,Tg,RI,RJ,RK⟩:=QM.count (PySem.Within.cons name v hw);refine Je (wpAny_lookBehind RI (by rw[RJ];exact pastItsLine_dict (JF RK (by rw[Jw];omega))) ?_)
 exact Jh (h _ ⟨(Lp.2 _ (Jv I.ne)).trans I.obj,QM,I.ne⟩ Lp)
theorem vH(X:K.In s.heap)(hm:PySem.W.makesIn K C=true)
  (hi:PySem.W.findIn K (.ref C) "__init__"=some (some (.ref f))) (hf:PySem.W.typeIn K (.ref f)=some (.type "function"))
  (h:codeAny (model prog w) (A.under (.builtin "type.__call__" ⟨.ref C::vs,kw⟩)) (.call (.ref f) ⟨.ref (s.heap.objs.size+1)::vs,kw⟩) (PySem.W.InitBack (s.heap.objs.size+1) R)
   {s with heap:=(s.heap.push PySem.W.emptyDict).push (PySem.W.instObj C s.heap.objs.size)}) :
  codeAny (model prog w) A (.call (.ref C) ⟨vs,kw⟩) R s:=by
 obtain⟨hh,g,d,t,os⟩:=s;exact PySem.W.make_core (PySem.W.makes_of X hm) (PySem.W.looks_findIn X hi) (λself=>PySem.W.bind_fn X self hf) (.inl rfl) h
end
noncomputable def dD(f:Str)(v:V):List (Str×V)->List (Str×V)
 |[]=>[(f,v)]
 |(g,x)::r=>if g=f then (g,v)::r else (g,x)::dD f v r
theorem jb(f g:Str)(v:V):∀fs:List (Str×V),(dD f v fs).lookup g=if g=f then some v else fs.lookup g
 |[]=>by
  show List.lookup g [(f,v)]=_;by_cases h:g=f
  ·have hb:(g == f)=true:=JH.mpr h;simp only[List.lookup,hb,Jr h]
  ·have hb:(g == f)=false:=JP.mpr h;simp only[List.lookup,hb,Ji h]
 |(k,x)::r=>by
  have ih:=jb f g v r;rw[show dD f v ((k,x)::r)=(if k=f then (k,v)::r else (k,x)::dD f v r) from rfl]
  by_cases hk:k=f
  ·rw[Jr hk];by_cases h:g=k
   ·have hb:(g == k)=true:=JH.mpr h;simp only[List.lookup,hb,Jr (h.trans hk)]
   ·have hb:(g == k)=false:=JP.mpr h;simp only[List.lookup,hb,Ji (λe:g=f=>h (e.trans hk.symm))]
  ·rw[Ji hk];by_cases h:g=k
   ·have hb:(g == k)=true:=JH.mpr h;simp only[List.lookup,hb,Ji (λe:g=f=>hk (h.symm.trans e))]
   ·have hb:(g == k)=false:=JP.mpr h;simp only[List.lookup,hb];exact ih
theorem iB(f:Str)(v:V):∀fs:List (Str×V),f∈(dD f v fs).map (·.1)/\∀g,g∈fs.map (·.1)->g∈(dD f v fs).map (·.1)
 |[]=>⟨by simp[dD],λg h=>by simp at h⟩
 |(k,x)::r=>by
  obtain⟨i1,i2⟩:=iB f v r;rw[show dD f v ((k,x)::r)=(if k=f then (k,v)::r else (k,x)::dD f v r) from rfl]
  by_cases hk:k=f
  ·rw[Jr hk];subst hk;exact⟨by simp,λg h=>by simpa using h⟩
  ·rw[Ji hk];refine⟨?_,λg h=>?_⟩
   ·rw[Jm];exact Jg _ i1
   ·rw[Jm]at h ⊢;rcases Jl.mp h with e|e
    ·exact Jl.mpr (.inl e)
    ·exact Jg _ (i2 g e)
theorem ji(f:Str)(v:V):∀fs:List (Str×V),(dD f v fs).length<=fs.length+1
 |[]=>by simp[dD]
 |(k,x)::r=>by
  have ih:=ji f v r;rw[show dD f v ((k,x)::r)=(if k=f then (k,v)::r else (k,x)::dD f v r) from rfl]
  by_cases hk:k=f
  ·rw[Jr hk,Jw,Jw];omega
  ·rw[Ji hk,Jw,Jw];omega
theorem RelO.some_of(r:RelO (some v) o):∃u,o=some u/\RelV v u:=by
 cases o with
 |none=>exact (show False from r).elim
 |some u=>exact⟨u,rfl,r⟩
theorem RelO.none_of(r:RelO none o):o=none:=by
 cases o with
 |none=>rfl
 |some u=>exact (show False from r).elim
theorem sW(r:RelV v u):PySem.W.handedIn u=true:=by
 cases v with
 |i_=>cases (show u=Value.none from r);rfl
 |bl b=>cases (show u=Value.bool b from r);rfl
 |int i=>obtain⟨t,e⟩:=(show ∃t,u=Value.int i t from r);cases e;rfl
 |str x=>obtain⟨t,e⟩:=(show ∃t,u=Value.str x t from r);cases e;rfl
 |O2 b=>obtain⟨t,e⟩:=(show ∃t,u=Value.bytes b t from r);cases e;rfl
 |O3 b=>obtain⟨t,e⟩:=(show ∃t,u=Value.float b t from r);cases e;rfl
 |ref a=>cases (show u=Value.ref a from r);rfl
 |ty n=>cases (show u=Value.type n from r);rfl
section
variable {P:Program}{w:World}{h h':Heap}{a:Addr}{fs:List (Str×V)}
theorem xY(j_:HOk P w H h)(e:H a=some (.ins C dx fs)):∃mA,ObjM h a dx C mA/\(∀f,RelO (fs.lookup f) (mA f))/\PySem.Within mA (fs.map (·.1))/\fs.length<=1000/\H dx=some (.own a):=by
 obtain⟨d,z,ne,ob,mA,n,r,q⟩:=(show ObjOk P w H h a (.ins C dx fs) from j_ a _ e);exact⟨mA,⟨ob,n,ne⟩,r,q,z,d⟩
end
structure Cls (K:Ko)(C:Addr):Prop where
 pg:PySem.W.plainGet K C Str.empty=true
 hd:PySem.W.hasDictIn K C=true
 po:PySem.W.plainOver K C=true
 sa:PySem.W.findIn K (.ref C) "__setattr__"=some (some (.builtin "object.__setattr__"))
theorem Cls.get{K:Ko}{C:Addr}(c:Cls K C)(f:Str):PySem.W.plainGet K C f=true:=c.pg
def NoAttr(K:Ko)(C:Addr)(f:Str):Prop:=PySem.W.findIn K (.ref C) f=some none
theorem NoAttr.taker{K:Ko}(n:NoAttr K C f):PySem.W.takerIn K C f=some none:=by
 unfold PySem.W.takerIn;rw[show PySem.W.findIn K (.ref C) f=some none from n];rfl
structure Meth (K:Ko)(C:Addr)(m:Str)(f:Addr):Prop where
 at_:PySem.W.findIn K (.ref C) m=some (some (.ref f))
 fn:PySem.W.isFn K (.ref f)=true
 kp:PySem.W.keepIn K (.ref f)=true
section
variable {X:Cx}{s:Shared}{a:Addr}{fs:List (Str×V)}{A:Around}
theorem qC(I:Inv X a_ Z H s)(e:H a=some (.ins C dx fs))(c:Cls X.K C)(n:NoAttr X.K C f)(hl:fs.length<1000)(ry:RelV y u)
  (h:∀s',Inv X a_ Z (upd H a (.ins C dx (dD f y fs))) s'->Q () s'):wpAny (model X.prog X.w) A (setAttr (.ref a) f u) Q E s:=by
 obtain⟨mA,O,r,wi,_,ho⟩:=xY I.j_ e;have hz:(fs.map (·.1)).length<=sizeLine:=by rw[Jo,sizeLine_eq];omega
 refine yz I.kIn O c.sa c.po n.taker c.hd wi hz λh' O' sb=>h _ ?_
 have hd:∃o,h'.get? dx=some o:=let ⟨o,_,_,e',_⟩:=O'.ns;⟨o,e'⟩
 refine I.write (x:=a) (e:=dx) (by rw[e];exact True.intro) (.inr ho) (λb q hb z=>(sb.2 b hb).trans z) hd ?_
 refine⟨by rw[ai O.ne];exact ho,?_,O.ne,O'.obj,_,O'.ns,λg=>?_,λg hg=>?_⟩
 ·have:=ji f y fs;omega
 ·show RelO ((dD f y fs).lookup g) (if g=f then some u else mA g)
  rw[jb];by_cases q:g=f
  ·rw[Jr q,Jr q];exact ry
  ·rw[Ji q,Ji q];exact r g
 ·by_cases q:g=f
  ·rw[q];exact (iB f y fs).1
  ·refine (iB f y fs).2 g (wi g λz=>hg ?_)
   show (if g=f then some u else mA g)=none
   rw[Ji q];exact z
theorem Inv.made(I:Inv X a_ Z H s):Inv X a_ Z (upd (upd H s.heap.objs.size (.own (s.heap.objs.size+1))) (s.heap.objs.size+1) (.ins C s.heap.objs.size []))
  {s with heap:=(s.heap.push PySem.W.emptyDict).push (PySem.W.instObj C s.heap.objs.size)}:=by
 have e1:(s.heap.push PySem.W.emptyDict).get? s.heap.objs.size=some PySem.W.emptyDict:=Jp s.heap rfl;have e2:((s.heap.push PySem.W.emptyDict).push (PySem.W.instObj C s.heap.objs.size)).get? (s.heap.objs.size+1)=some (PySem.W.instObj C s.heap.objs.size):=by
  have:=Jp (s.heap.push PySem.W.emptyDict) (o:=PySem.W.instObj C s.heap.objs.size) rfl
  rwa [Heap.size_push]at this
 have e3:(s.heap.push PySem.W.emptyDict).Ns s.heap.objs.size (λ_=>none):=⟨PySem.W.emptyDict,#[],_,e1,rfl,(λe he=>absurd he (by simp)),λ_=>rfl⟩
 have I1:=I.laid (a:=s.heap.objs.size) (o:=.own (s.heap.objs.size+1)) (h':=s.heap.push PySem.W.emptyDict) (t':=s.toks) (λb u q=>Jj _ q) (Jn _) ⟨_,e1⟩
 refine I1.laid (a:=s.heap.objs.size+1) (o:=.ins C s.heap.objs.size []) (t':=s.toks) (λb u q=>Jj _ q) (Nat.le_of_eq (Heap.size_push _ _)) ?_
 have ne:s.heap.objs.size≠s.heap.objs.size+1:=JG (Nat.lt_succ_self _);refine⟨by rw[ai ne,ah],Nat.zero_le _,ne,e2,λ_=>none,(Heap.Ns1.of_empty e3).at λo q=>Jj _ q,λ_=>True.intro,λy hy=>absurd rfl hy⟩
theorem yh(hb:attributeBase e f env (eval e env)=eval e env)
  (h:wpAny (model prog w) A (eval e env) (λo r_=>wpAny (model prog w) A (getAttr o f true) Q E r_) E s):wpAny (model prog w) A (eval (.Attribute e f pos) env) Q E s:=
 Attribute_any_ h (by rw[arm_eval_Attribute,hb])
end
noncomputable def Ha(K:Ko)(ta tv:TE)(f:Str):TS:=λD Z H=>tv Z H λy H1=>ta Z H1 λx H2=>∃a C dx fs,x=.ref a/\H2 a=some (.ins C dx fs)/\Cls K C/\NoAttr K C f/\fs.length<1000/\
 D.nx Z (upd H2 a (.ins C dx (dD f y fs)))
section
variable {X:Cx}{o:Expr}{pos:Pos}
theorem A1(ha:PE X o ta)(hv:PE X value tv)(hs:swapsWith value (some (.Attribute o f K2)) pos.line X.env=pure false):PS X (.Assign [.Attribute o f K2] value pos) (Ha X.K ta tv f):=by
 intro a_ s Z H D I h;refine plainObj_wpAny_Assign_Attribute (thn (hv a_ s Z H _ I h) λu s1 ⟨y,H1,I1,ry,q⟩=>thn (ha a_ s1 Z H1 _ I1 q) λov s2 ⟨x,H2,I2,rx,a,C,dx,fs,ex,ea,c,n,l,q2⟩=>?_) hs
 subst ex;obtain rfl:ov=Value.ref a:=rx;exact qC I2 ea c n l ry λs3 I3=>⟨Z,_,I3,q2⟩
end
section
variable {X:Cx}{s:Shared}{A:Around}{c:Value}{b:Bool}
end
structure Room (k:Nat)(A:Around):Prop where
 hd:A.handled=none
 dp:A.depth+3*k+5<recursionLimit
 un:A.units+16*k+200<cLine
theorem Room.mono(r:Room k A)(h:j<=k):Room j A:=⟨r.hd,by have:=r.dp;omega,by have:=r.un;omega⟩
theorem Room.deeper{A:Around}(r:Room (k+1) A)(env:Env):Room k (A.deeper env):=
 ⟨r.hd,by have:=r.dp;show A.depth+1+3*k+5<_;omega,by have:=r.un;show A.units+3+16*k+200<_;omega⟩
theorem qd{A:Around}:(A.under (.builtin "type.__call__" ⟨.ref C::us,kw⟩)).depth=A.depth+1:=by
 first|rfl|simp[Around.under,Code.weight,Code.isCreation,Code.isGuard,Code.isCaller,Code.frames,Code.isFrame,guardIds]
theorem qt{A:Around}:(A.under (.builtin "type.__call__" ⟨.ref C::us,kw⟩)).units=A.units+1:=by
 first|rfl|simp[Around.under,Code.cUnits,Code.frames,Code.isFrame]
theorem Room.make{A:Around}(r:Room (k+1) A)(C:Addr)(us:List Value)(kw:List (Str×Value)):Room k (A.under (.builtin "type.__call__" ⟨.ref C::us,kw⟩)):=
 ⟨r.hd,by have:=r.dp;rw[qd];omega,by have:=r.un;rw[qt];omega⟩
theorem Room.depth{A:Around}(r:Room k A):A.depth<recursionLimit:=by have:=r.dp;omega
theorem Room.units{A:Around}(r:Room k A):A.units+64<cLine:=by have:=r.un;omega
noncomputable def tNil:TA:=λ_ H Q=>Q [] H
noncomputable def zu(ta:TE)(tr:TA):TA:=λZ H Q=>ta Z H λx H1=>tr Z H1 λxs H2=>Q (x::xs) H2
section
variable {X:Cx}{pos:Pos}
theorem pa_nil:PA X [] tNil:=λ_ _ _ _ H Q I h=>Calls.spliced_nil ⟨[],H,I,.nil,h⟩
theorem bV(ha:PE X e te)(hr:PA X es t)(hs:starEach (e::es) X.env=(false,eval e X.env)::starEach es X.env:=by rfl):PA X (e::es) (zu te t):=by
 intro pos a_ s Z H Q I h;rw[hs];show wpAny _ _ (spliced ((false,eval e X.env)::backTo pos (starEach es X.env))) _ _ s;refine Calls.spliced_cons (thn (ha a_ s Z H _ I h) λu s1 ⟨x,H1,I1,r1,q1⟩=>?_)
 exact thn (hr pos a_ s1 Z H1 _ I1 q1) λus s2 ⟨xs,H2,I2,r2,q2⟩=>⟨x::xs,H2,I2,.cons r1 r2,q2⟩
noncomputable def GY(t:TA):TE:=λZ H Q=>t Z H λxs H1=>xs.length<=sizeLine/\∀p,H1 p=none->Q (.ref p) (upd H1 p (.tup xs))
noncomputable def Gv(t:TA):TE:=λZ H Q=>t Z H λxs H1=>xs.length<=sizeLine/\∀p,H1 p=none->Q (.ref p) (upd H1 p (.lst xs))
theorem Bx{x1}(h:PA X es t):PE X (.Tuple es x1 pos) (GY t):=by
 intro a_ s Z H Q I hq;refine wpAny_Tuple_spliced (thn (h pos a_ s Z H _ I hq) λus s1 ⟨xs,H1,I1,r,z,q⟩=>⟨by rw[<-r.length];exact z,?_⟩)
 have hf:H1 s1.heap.objs.size=none:=I1.j_.fresh (Jn _);refine⟨.ref s1.heap.objs.size,upd H1 s1.heap.objs.size (.tup xs),I1.laid (t':=s1.toks) (λb u e=>Jj _ e) (Jn _) ?_,rfl,q _ hf⟩
 exact⟨z,us,r,⟨_,Jp _ rfl,rfl,_,rfl⟩⟩
theorem BR(h:PA X es t):PE X (.List es pos) (Gv t):=by
 intro a_ s Z H Q I hq;refine wpAny_List_spliced (thn (h pos a_ s Z H _ I hq) λus s1 ⟨xs,H1,I1,r,z,q⟩=>⟨by rw[<-r.length];exact z,?_⟩)
 have hf:H1 s1.heap.objs.size=none:=I1.j_.fresh (Jn _);refine⟨.ref s1.heap.objs.size,upd H1 s1.heap.objs.size (.lst xs),I1.laid (t':=s1.toks) (λb u e=>Jj _ e) (Jn _) ?_,rfl,q _ hf⟩
 exact⟨z,us,0,r,Jp _ rfl⟩
end
noncomputable abbrev Sp:=List V->Hp->VK->XK->Prop
noncomputable abbrev CXT:=List Env->Hp->Shared->XK->Value->Shared->Prop
structure Env0 (P:Program)(w:World)(K:Ko)(mg:Str->Option Value)(base:Heap)(A:Around)(outer:List Env)(s:Shared)(H:Hp):Prop where
 frames:A.frames=some outer
 mod:Mod K mg base
 bs:∀b o,base.get? b=some o->s.heap.get? b=some o/\H b=none
 bsz:base.objs.size<=s.heap.objs.size
 funs:s.heap.FunFrames base outer
 frf:∀b∈frs outer,H b=none
 j_:HOk P w H s.heap
 bare:AllBare s.gens
def CE(outer:List Env)(P:Program)(w:World)(H:Hp)(s:Shared)(Q:VK)(u:Value)(s':Shared):Prop:=
 ∃v H',s'.os=s.os/\AllBare s'.gens/\Un (frs outer) [] H H' s.heap s'.heap/\HOk P w H' s'.heap/\RelV v u/\Q v H'
def CR(CX:CXT)(outer:List Env)(P:Program)(w:World)(H:Hp)(s:Shared)(Q:VK)(E:XK)(r:Result)(s':Shared):Prop:=
 match r with
 |.ok (.ret u)=>CE outer P w H s Q u s'
 |.ok _=>False
 |.error e=>CX outer H s E e s'
structure FnOk (P:Program)(w:World)(K:Ko)(mg:Str->Option Value)(base:Heap)(CX:CXT)(k:Nat)(f:Addr)(fd:FuncData)(ps:List Str)(sp:Sp):Prop where
 len:∀vs H Q E,sp vs H Q E->vs.length=ps.length
 run:∀(A:Around)(outer:List Env)(s:Shared)(H:Hp)(args:Args)(us:List Value)(vs:List V)(Q:VK)(E:XK),Room k A->Env0 P w K mg base A outer s H->BindsTo s fd args (ps.zip us)->Vals vs us->sp vs H Q E->
  codeAny (model P w) A (.call (.ref f) args) (CR CX outer P w H s Q E) s
theorem Env0.make{K:Ko}{A:Around}(e:Env0 P w K mg base A outer s H)(C:Addr)(us:List Value)(kw:List (Str×Value)) :
  Env0 P w K mg base (A.under (.builtin "type.__call__" ⟨.ref C::us,kw⟩)) outer s H:=⟨by first|exact e.frames|(simpa [Around.under,Code.envs,Code.isFrame,pushEnvs] using e.frames),e.mod,e.bs,e.bsz,e.funs,e.frf,e.j_,e.bare⟩
section
variable {X:Cx}{s:Shared}
theorem Inv.env0(I:Inv X a_ Z H s):Env0 X.prog X.w X.K X.mg X.base X.A X.stack s H:=
 ⟨I.ok.frames,I.ok.mod,I.bs,JF I.ok.bsz I.sz,I.stack,I.stkFree,I.j_,I.bare⟩
theorem Inv.after(I:Inv X a_ Z H s)(h:CE X.stack X.prog X.w H s Q u s'):EP X a_ Z Q u s':=by
 obtain⟨v,H',os,bare,un,j_,r,q⟩:=h;obtain⟨hh,g,d,t,RL⟩:=s';obtain rfl:RL=s.os:=os;exact⟨v,H',I.call (h':=hh) (g':=g) (d':=d) (t':=t) (ch:=[]) un j_ bare (λb z=>absurd z (by simp)),r,q⟩
end
def Binds(K:Ko)(fd:FuncData)(ps:List Str)(ds:List Value):Prop:=
 ∀(s:Shared)(us:List Value),K.In s.heap->(us++ds).length=ps.length->BindsTo s fd ⟨us,[]⟩ (ps.zip (us++ds))
theorem Binds.all{K:Ko}{ps:List Str}(h:∀us:List Value,us.length=ps.length->bindArgs fd ⟨us,[]⟩=pure (ps.zip us)):Binds K fd ps []:=λs us _ hl=>by
 rw[JZ]at hl ⊢;exact .of_eq (h us hl)
def Be(CX:CXT)(X:Cx)(E:XK):Prop:=∀(a_:List (Addr×Obj)) (Z:St)(H:Hp)(s:Shared)(e:Value)(s':Shared),Inv X a_ Z H s->CX X.stack H s E e s'->X.xe e s'
section
variable {X:Cx}{k:Nat}{ps:List Str}{x:Str}{p pos o_:Pos}{o:Expr}
structure Mk (K:Ko)(C f:Addr):Prop where
 makes:PySem.W.makesIn K C=true
 init:PySem.W.findIn K (.ref C) "__init__"=some (some (.ref f))
 fn:PySem.W.isFn K (.ref f)=true
 kp:PySem.W.keepIn K (.ref C)=true
end
section
variable {X:Cx}{k:Nat}{ps ks:List Str}{x:Str}{p pos o_:Pos}{o:Expr}
end
structure FnScope (N P:List Str)(sc:Scope):Prop where
 kind:sc.kind=.function
 co:sc.isCoroutine=false
 gen:sc.isGenerator=false
 nd:N.Nodup
 pre:N.take P.length=P
 par:∀x∈P,sc.names.lookup x=some .local\/sc.names.lookup x=some .cell
 nofree:∀y∈sc.names,y.2≠.free
theorem lO{kindOf:Str->Option NameKind}{x:Str}:∀{LX:List (Str×Value)}{m:Str->Option Value},(∀v,(x,v)∉LX)->bindL kindOf LX m x=m x
 |[],_,_=>rfl
 |(n,v)::r,m,h=>by
  unfold bindL;rw[lO λw hw=>h w (Jg _ hw)]
  split
  ·have:x≠n:=by rintro rfl;exact h v Jk
   simp[this]
  ·rfl
theorem lJ{kindOf:Str->Option NameKind}{x:Str}:∀{LX:List (Str×Value)}{m:Str->Option Value},(∀v,(x,v)∉LX)->bindC kindOf LX m x=m x
 |[],_,_=>rfl
 |(n,v)::r,m,h=>by
  unfold bindC;rw[lJ λw hw=>h w (Jg _ hw)]
  split
  ·rfl
  ·have:x≠n:=by rintro rfl;exact h v Jk
   simp[this]
theorem ma{kindOf:Str->Option NameKind}{x:Str}{v:Value}:∀{P:List Str}{vs:List Value}{i:Nat}{m:Str->Option Value},P.Nodup->P[i]?=some x->vs[i]?=some v->kindOf x=some .local->
  bindL kindOf (P.zip vs) m x=some v
 |[],_,_,_,_,h,_,_=>by simp at h
 |_::_,[],_,_,_,_,h,_=>by simp at h
 |p::P,w::vs,0,m,nd,h1,h2,hk=>by
  simp at h1 h2;subst h1;subst h2;show bindL kindOf ((p,w)::P.zip vs) m p=_;unfold bindL;rw[lO λv hv=>(JO.mp nd).1 (List.of_mem_zip hv).1,Jr hk]
  simp
 |p::P,w::vs,i+1,m,nd,h1,h2,hk=>by
  show bindL kindOf ((p,w)::P.zip vs) m x=_;unfold bindL;exact ma (i:=i) (JO.mp nd).2 (by simpa using h1) (by simpa using h2) hk
theorem lP{kindOf:Str->Option NameKind}{x:Str}{v:Value}:∀{P:List Str}{vs:List Value}{i:Nat}{m:Str->Option Value},P.Nodup->P[i]?=some x->vs[i]?=some v->kindOf x≠some .local->
  bindC kindOf (P.zip vs) m x=some v
 |[],_,_,_,_,h,_,_=>by simp at h
 |_::_,[],_,_,_,_,h,_=>by simp at h
 |p::P,w::vs,0,m,nd,h1,h2,hk=>by
  simp at h1 h2;subst h1;subst h2;show bindC kindOf ((p,w)::P.zip vs) m p=_;unfold bindC;rw[lJ λv hv=>(JO.mp nd).1 (List.of_mem_zip hv).1,Ji hk]
  simp
 |p::P,w::vs,i+1,m,nd,h1,h2,hk=>by
  show bindC kindOf ((p,w)::P.zip vs) m x=_;unfold bindC;exact lP (i:=i) (JO.mp nd).2 (by simpa using h1) (by simpa using h2) hk
noncomputable def start(N:List Str)(vs:List V):St:=vs.map some++List.replicate (N.length-vs.length) none
noncomputable def dC(CX:CXT)(P:Program)(w:World)(K:Ko)(mg:Str->Option Value)(base:Heap)(N:List Str)(qual:Str)(scope:Scope)(f:Addr)(cd:Value)(A:Around)(outer:List Env)(s:Shared)(H:Hp)(E:XK):Cx where
 prog:=P
 w:=w
 K:=K
 mg:=mg
 base:=base
 A:=A.deeper (envOfC qual scope s.heap.objs.size f cd)
 N:=N
 s₀:=s
 H₀:=H
 env:=envOfC qual scope s.heap.objs.size f cd
 outer:=outer
 stack:=envOfC qual scope s.heap.objs.size f cd::outer
 ex:=[]
 calm:=true
 fn:=λ_=>true
 pn:=[]
 xe:=λe s'=>wpAny (model P w) (A.deeper (envOfC qual scope s.heap.objs.size f cd)) (leaving (envOfC qual scope s.heap.objs.size f cd) e) (λ_ Oi=>CX outer H s E e Oi) (λe' Oi=>CX outer H s E e' Oi) s'
theorem pB{sc:Scope}(h:sc.names.lookup x=some .cell):∃c,(cellsFrom n sc.names []).lookup x=some c:=by
 have q:=PySem.W.cellsFrom_some sc.names n [] (.inl h);exact JM.mp q
theorem tN{K:Ko}{ps:List Str}{scope:Scope}{A:Around}{s:Shared}{vs:List V}
  (S:FnScope N ps scope) (hd:A.handled=none) (e0:Env0 P w K mg base A outer s H) (hl:vs.length=ps.length) (r:Vals vs us)
  (x:InCallC s s.heap.objs.size (bindL (envOfC qual scope s.heap.objs.size f cd).kindOf (ps.zip us) λ_=>none) (cellsFrom (s.heap.objs.size+1) scope.names []) (bindC (envOfC qual scope s.heap.objs.size f cd).kindOf (ps.zip us) λ_=>none) s1) :
  Inv (dC CX P w K mg base N qual scope f cd A outer s H E) [] (start N vs) H s1:=by
 have KY:ps.length<=N.length:=by have:=congrArg List.length S.pre;rw[List.length_take]at this;omega
 obtain⟨h1,tk,rfl,hk⟩:=x.done;have Oj:∀b:Addr,b∉(dC CX P w K mg base N qual scope f cd A outer s H E).ex:=λb z=>absurd (show b∈([]:List Addr) from z) (by simp)
 refine⟨⟨e0.mod,S.kind,rfl,rfl,Jn _,λy z c h1 h2=>?_,λy hy=>?_,λy c _ h=>?_,λ_=>hd,Around.frames_deeper e0.frames,.inr ⟨rfl,rfl⟩,λb z=>absurd z (Oj b),e0.bs,e0.bsz,λb _ _=>Oj b,λb z=>absurd z (Oj b),e0.funs,e0.frf⟩,
  rfl,e0.bare,Un.kept hk,⟨_,x.toInCall.ns,λi y v h1 h2 h3=>?_⟩,λy c h=>⟨_,x.cell y c h⟩,e0.j_.fresh (Jn _),λy c h=>?_,λp hp=>absurd (show p∈([]:List (Addr×Obj)) from hp) (by simp),e0.j_.kept hk,?_⟩
 ·exact name_of_addr x.apart (PySem.mem_of_lookup h1) (PySem.mem_of_lookup h2)
 ·have hy:scope.names.lookup y=some .cell\/scope.names.lookup y=some .free:=hy;rcases hy with hy|hy
  ·exact pB hy
  ·exact absurd rfl (S.nofree _ (PySem.mem_of_lookup hy))
 ·exact Nat.le_of_lt (x.above y c (PySem.mem_of_lookup h))
 ·have hi:i<vs.length:=by
   unfold start at h2;by_cases hi:i<vs.length
   ·exact hi
   ·rw[List.getElem?_append_right (by simpa using hi)]at h2
    rw[List.getElem?_replicate]at h2;split at h2<;>cases h2
  have ha:vs[i]?=some v:=by
   unfold start at h2;rw[List.getElem?_append_left (by simpa using hi),Jq]at h2
   cases e:vs[i]? with
   |none=>rw[e]at h2;cases h2
   |some a=>rw[e]at h2;cases h2;rfl
  obtain⟨u,hu,rv⟩:=r.get ha;have hp:ps[i]?=some y:=by
   rw[<-S.pre,List.getElem?_take_of_lt (by omega)];exact h1
  have QN:ps.Nodup:=by rw[<-S.pre];exact S.nd.sublist (List.take_sublist _ _)
  refine⟨u,rv,?_⟩;rcases S.par y (JU hp) with k|k
  ·exact .inl ⟨k,ma QN hp hu k⟩
  ·obtain⟨c,e⟩:=pB (n:=s.heap.objs.size+1) k;refine .inr ⟨.inl k,c,e,?_⟩;have q:=x.cell y c e;rw[lP QN hp hu (by show scope.names.lookup y≠_;rw[k];decide)]at q
   exact q
 ·exact e0.j_.fresh (Nat.le_of_lt (x.above y c (PySem.mem_of_lookup h)))
 ·unfold start;show _=N.length;rw[JK,Jo,List.length_replicate];omega
theorem EE{CX:CXT}{P:Program}{w:World}{K:Ko}{mg:Str->Option Value}{base:Heap}{k:Nat}{f:Addr}{name qual:Str}{params:Arguments}{body:List Stmt}{scope:Scope}{dV kV doc pm L7 ct oc:Value}{an od:Option Addr}
  {O8:Array (Option Value)}{N ps:List Str}{sp:Sp} (lk:K.lookup f=some ⟨oc,od,.func (PySem.W.fnOf name qual params body scope dV kV doc pm an L7 ct),O8⟩) (MB:PySem.W.codeIn K L7 qual=true) (S:FnScope N ps scope)
  (len:∀vs H Q E,sp vs H Q E->vs.length=ps.length)
  (Ol:∀(A:Around)(outer:List Env)(s:Shared)(H:Hp)(vs:List V)(Q:VK)(E:XK),Room k (A.deeper (envOfC qual scope s.heap.objs.size f L7))->sp vs H Q E->
   ∃t,PSs (dC CX P w K mg base N qual scope f L7 A outer s H E) body t/\t {nx:=λ_ H'=>Q .i_ H',rt:=Q} (start N vs) H) :
  FnOk P w K mg base CX (k+1) f (PySem.W.fnOf name qual params body scope dV kV doc pm an L7 ct) ps sp:=by
 refine⟨len,λA outer s H args us vs Q E hr e0 hb r NV=>?_⟩
 have hl:=len _ _ _ _ NV;have KX:K.In s.heap:=e0.mod.kin.keeps λb o e=>(e0.bs b o e).1
 have Ta:s.heap.NoLimit:=e0.mod.nolimit.keeps λb o e=>(e0.bs b o e).1
 have Om:∀y∈ps.zip us,scope.names.lookup y.1=some .local\/(scope.names.lookup y.1=some .cell/\((cellsFrom (s.heap.objs.size+1) scope.names []).lookup y.1).isSome=true):=λ⟨n,v⟩ hy=>by
  rcases S.par n (List.of_mem_zip hy).1 with q|q
  ·exact .inl q
  ·exact .inr ⟨q,PySem.W.cellsFrom_some _ _ _ (.inl q)⟩
 refine codeAny_call_function hr.depth (KX _ _ lk) rfl S.co S.gen rfl (PySem.W.codeRec_of KX MB) (hb _ _ _ _ ?_);refine wpAny_newFunctionEnv_cells S.kind Om λenv he s1 x=>?_
 subst he;refine⟨Ta.keeps x.toInCall.keep,codeAny_func ?_⟩;obtain⟨t,ht,hq⟩:=Ol A outer s H vs Q E (hr.deeper _) NV;have I:Inv (dC CX P w K mg base N qual scope f L7 A outer s H E) [] (start N vs) H s1:=tN S hr.hd e0 hl r x;refine Ki (ht [] s1 (start N vs) H _ I hq) (λfl s' hs=>?_) λe s' hs=>hs
 have fin:∀{l_:St}{H':Hp}{v:V}{u:Value},Inv (dC CX P w K mg base N qual scope f L7 A outer s H E) [] l_ H' s'->RelV v u->Q v H'->CE outer P w H s Q u s':=
  λ{l_ H' v u} J rv q=>⟨v,H',J.os,J.bare,J.base,J.j_,rv,q⟩
 cases fl with
 |ret u=>
  obtain⟨v,l_,H',J,rv,q⟩:=hs;exact fin J rv q
 |next=>
  obtain⟨l_,H',J,q⟩:=hs;exact fin (v:=V.i_) (u:=Value.none) J rfl q
 |brk=>
  obtain⟨_,_,_,q⟩:=hs;exact False.elim q
 |cont=>
  obtain⟨_,_,_,q⟩:=hs;exact False.elim q
section
variable {X:Cx}{x:Str}{p pos:Pos}{id:String}
noncomputable def tCB(r:List V->Hp->VK->Prop)(t:TA):TE:=λZ H Q=>t Z H λvs H1=>r vs H1 Q
theorem jN(hc:CallR X (.builtin id) r)(hg:Gl X x)(hm:X.mg x=none)(hv:bootBuiltins x=some (.builtin id))(ha:PA X (e::es) t)(hn:x≠"__name__":=by decide)(Ld:(x == ("__debug__" : Str))=false:=by decide)
  (he:starEach (e::es) X.env=(false,eval e X.env)::starEach es X.env:=by rfl) (KY:(backTo pos (starEach es X.env)).any (·.1)=false:=by rfl):PE X (.Call (.Name x p) (e::es) [] pos) (tCB r t):=by
 intro a_ s Z H Q I h;refine wpAny_Call_Name_kw (fR I hg hm hv ?_ hn Ld);exact PyProof.Rows.callWith_builtin1 (thn (ha pos a_ s Z H _ I h) λus s1 ⟨vs,H1,I1,r1,q1⟩=>hc a_ s1 Z H1 vs us Q I1 r1 q1) he KY
theorem tQ(hc:CallR X (.type T) r)(hg:Gl X x)(hm:X.mg x=none)(hv:bootBuiltins x=some (.type T))(ha:PA X (e::es) t)(hn:x≠"__name__":=by decide)(Ld:(x == ("__debug__" : Str))=false:=by decide)
  (he:starEach (e::es) X.env=(false,eval e X.env)::starEach es X.env:=by rfl) (KY:(backTo pos (starEach es X.env)).any (·.1)=false:=by rfl):PE X (.Call (.Name x p) (e::es) [] pos) (tCB r t):=by
 intro a_ s Z H Q I h;refine wpAny_Call_Name_kw (fR I hg hm hv ?_ hn Ld);exact PyProof.Rows.callWith_type1 (thn (ha pos a_ s Z H _ I h) λus s1 ⟨vs,H1,I1,r1,q1⟩=>hc a_ s1 Z H1 vs us Q I1 r1 q1) he KY
end
section
variable [DecidableEq κ]
noncomputable def cT(m_:List (κ×V))(k:κ):Option V:=(m_.find? λkv=>decide (kv.1=k)).map (·.2)
noncomputable def dJ(m_:List (κ×V))(k:κ)(v:V):List (κ×V):=
 if (m_.any λkv=>decide (kv.1=k))=true then m_.map (λkv=>if kv.1=k then (kv.1,v) else kv) else m_++[(k,v)]
theorem fg{p:κ×V}(e:p.1=k):cT (p::r) k=some p.2:=by simp[cT,Kf,e]
theorem dm{p:κ×V}(e:¬ p.1=k):cT (p::r) k=cT r k:=by simp[cT,Kf,e]
theorem pH(k:κ):∀m_:List (κ×V),(m_.any λkv=>decide (kv.1=k))=(cT m_ k).isSome
 |[]=>rfl
 |p::r=>by
  rw[List.any_cons];by_cases e:p.1=k
  ·simp only[fg e,decide_eq_true e,Bool.true_or,Option.isSome_some]
  ·rw[dm e,J9 e,Bool.false_or];exact pH k r
theorem fq(m_:List (κ×V))(k:κ)(v:V):(dJ m_ k v).length<=m_.length+1:=by
 unfold dJ;split
 ·rw[Jo];omega
 ·rw[JK,Jw,List.length_nil];omega
theorem RelO.isSome_eq{o:Option V}{u:Option Value}(r:RelO o u):o.isSome=u.isSome:=by
 cases o with
 |none=>cases u with
  |none=>rfl
  |some _=>exact (show False from r).elim
 |some _=>cases u with
  |none=>exact (show False from r).elim
  |some _=>rfl
theorem RelO.getD{o:Option V}{u:Option Value}(r:RelO o u)(rd:RelV d d'):RelV (o.getD d) (u.getD d'):=by
 cases o with
 |none=>cases u with
  |none=>exact rd
  |some _=>exact (show False from r).elim
 |some _=>cases u with
  |none=>exact (show False from r).elim
  |some _=>exact r
theorem KV.val(r:KV m_ vs)(k:κ):RelO (cT m_ k) (valueAt vs k):=by
 unfold KV at r
 induction r with
 |nil=>exact True.intro
 |@cons p q ps qs h t ih=>
  obtain⟨h1,h2⟩:=h;by_cases e:p.1=k
  ·have e':q.1=k:=h1.symm.trans e;have b:valueAt (q::qs) k=some q.2:=by simp[valueAt,Kf,e']
   rw[fg e,b];exact h2
  ·have e':¬ q.1=k:=λz=>e (h1.trans z)
   have b:valueAt (q::qs) k=valueAt qs k:=by simp[valueAt,Kf,e']
   rw[dm e,b];exact ih
theorem KV.any{m_:List (κ×V)}{vs:List (κ×Value)}(r:KV m_ vs)(k:κ):(m_.any λkv=>decide (kv.1=k))=vs.any λkv=>decide (kv.1=k):=by
 unfold KV at r
 induction r with
 |nil=>rfl
 |cons h t ih=>rw[List.any_cons,List.any_cons,ih,h.1]
theorem KV.repl{m_:List (κ×V)}{vs:List (κ×Value)}(r:KV m_ vs)(k:κ)(ry:RelV y u) :
  KV (m_.map λkv=>if kv.1=k then (kv.1,y) else kv) (vs.map λkv=>if kv.1=k then (kv.1,u) else kv):=by
 unfold KV at r ⊢
 induction r with
 |nil=>exact .nil
 |@cons p q ps qs h t ih=>
  rw[Jm,Jm];refine .cons ?_ ih;obtain⟨h1,h2⟩:=h;by_cases e:p.1=k
  ·rw[Jr e,Jr (h1.symm.trans e)];exact⟨h1,ry⟩
  ·rw[Ji e,Ji (λz=>e (h1.trans z))];exact⟨h1,h2⟩
theorem KV.put(r:KV m_ vs)(k:κ)(ry:RelV y u):KV (dJ m_ k y) (stored vs k u):=by
 unfold dJ stored;rw[r.any k];by_cases e:(vs.any λkv=>decide (kv.1=k))=true
 ·rw[Jr e,Jr e];exact r.repl k ry
 ·rw[Ji e,Ji e];exact Paired.snoc r ⟨rfl,ry⟩
theorem KV.keys{m_:List (κ×V)}{vs:List (κ×Value)}(r:KV m_ vs):m_.map (·.1)=vs.map (·.1):=by
 unfold KV at r
 induction r with
 |nil=>rfl
 |cons h t ih=>rw[Jm,Jm,ih,h.1]
theorem KV.length{m_:List (κ×V)}{vs:List (κ×Value)}(r:KV m_ vs):m_.length=vs.length:=Paired.length r
end
theorem jj(r:RelV (kV k) u):(aD P w).is k u=true:=by
 cases k with
 |inl i=>obtain⟨t,e⟩:=(show ∃t,u=Value.int i t from r);subst e;exact ox P w i t
 |inr x=>obtain⟨t,e⟩:=(show ∃t,u=Value.str x t from r);subst e;exact oK P w x t
theorem lL:∀{ks:List Key}{us:List Value},Vals (ks.map kV) us->ItemsAre (aD P w) ks us
 |[],_,r=>by rw[List.map_nil]at r;cases r;exact .nil
 |k::ks,_,r=>by
  rw[Jm]at r;cases r with
  |cons h t=>exact .cons (jj h) (lL t)
abbrev KT(H:Hp):List (List Key×V)->List (List Key×Addr×Value)->Prop:=Paired λp q=>p.1=q.1/\H q.2.1=some (.tup (p.1.map kV))/\RelV p.2 q.2.2
theorem KT.val(r:KT H m_ xs)(k:List Key):RelO (cT m_ k) ((atKey xs k).map (·.2)):=by
 induction r with
 |nil=>exact True.intro
 |@cons p q ps qs h t ih=>
  obtain⟨h1,_,h2⟩:=h;by_cases e:p.1=k
  ·have e':q.1=k:=h1.symm.trans e;have b:atKey (q::qs) k=some q.2:=by simp[atKey,Kf,e']
   rw[fg e,b];exact h2
  ·have e':¬ q.1=k:=λz=>e (h1.trans z)
   have b:atKey (q::qs) k=atKey qs k:=by simp[atKey,Kf,e']
   rw[dm e,b];exact ih
theorem KT.repl{m_:List (List Key×V)}{xs:List (List Key×Addr×Value)}(r:KT H m_ xs)(k:List Key)(ry:RelV y u) :
  KT H (m_.map λkv=>if kv.1=k then (kv.1,y) else kv) (xs.map (putAt k u)):=by
 induction r with
 |nil=>exact .nil
 |@cons p q ps qs h t ih=>
  rw[Jm,Jm];refine .cons ?_ ih;obtain⟨h1,h2,h3⟩:=h;unfold putAt;by_cases e:p.1=k
  ·rw[Jr e,Jr (h1.symm.trans e)];exact⟨h1,h2,ry⟩
  ·rw[Ji e,Ji (λz=>e (h1.trans z))];exact⟨h1,h2,h3⟩
theorem KT.put(r:KT H m_ xs)(k:List Key)(hb:H b=some (.tup (k.map kV)))(ry:RelV y u) :
  KT H (dJ m_ k y) (storedH xs k b u):=by
 have e:(m_.any λkv=>decide (kv.1=k))=(atKey xs k).isSome:=by
  rw[pH,(r.val k).isSome_eq,Option.isSome_map]
 unfold dJ storedH;rw[e];by_cases q:(atKey xs k).isSome=true
 ·rw[Jr q,Jr q];exact r.repl k ry
 ·rw[Ji q,Ji q];exact Paired.snoc r ⟨rfl,hb,ry⟩
theorem KT.keeps(r:KT H m_ xs)(ht:∀b ys,H b=some (.tup ys)->H' b=some (.tup ys)):KT H' m_ xs:=
 Paired.mapP r λ_ _ z=>⟨z.1,ht _ _ z.2.1,z.2.2⟩
section
variable {w:World}{h:Heap}{a:Addr}
theorem zh(ok:HOk P w H h)(e:Rd H a u):ObjOk P w H h a u:=e.ok ok
theorem jd{m_:List (Key×V)}(ok:HOk P w H h)(e:Rd H a (.dK m_)):m_.length<=sizeLine/\(a == sysModules)=false/\∃vs,KV m_ vs/\h.DictOf (aD P w) a vs:=
 show ObjOk P w H h a (.dK m_) from zh ok e
theorem u8{m_:List (Key×V)}(ok:HOk P w H h)(e:H a=some (.dK m_)):m_.length<=sizeLine/\(a == sysModules)=false/\∃vs,KV m_ vs/\h.DictOf (aD P w) a vs:=jd ok (.inl e)
theorem gm{ks:List Key}(ok:HOk P w H h)(e:H a=some (.tup (ks.map kV))):(tupleKind (aD P w)).is h ks a:=by
 obtain⟨_,g_,r,o,h1,h2,n,h3⟩:=(show ObjOk P w H h a (.tup (ks.map kV)) from ok a _ e);exact⟨o,g_.toArray,n,h1,h2,h3,by simpa using lL r⟩
theorem lV{m_:List (List Key×V)}(ok:HOk P w H h)(e:Rd H a (.dT m_)):m_.length<=sizeLine/\(a == sysModules)=false/\
  ∃xs,KT H m_ xs/\h.DictOfH (tupleKind (aD P w)) a xs:=by
 obtain⟨z,y,xs,r,o,es,ep,h1,h2,h3,h4,h5⟩:=(show ObjOk P w H h a (.dT m_) from zh ok e);refine⟨z,y,xs,r,o,es,ep,h1,h2,h3,h4,λx hx=>?_,h5⟩
 have all:∀{l:List (List Key×V)}{m:List (List Key×Addr×Value)},KT H l m->∀x∈m,(tupleKind (aD P w)).is h x.1 x.2.1:=by
  intro l m q
  induction q with
  |nil=>intro x hx;exact nomatch hx
  |@cons p q ps qs hq t ih=>
   intro x hx;rcases Jl.mp hx with e|hx
   ·subst e;exact gm ok (by rw[<-hq.1];exact hq.2.1)
   ·exact ih x hx
 exact all r x hx
theorem Dj{m_:List (List Key×V)}(ok:HOk P w H h)(e:H a=some (.dT m_)):m_.length<=sizeLine/\(a == sysModules)=false/\
  ∃xs,KT H m_ xs/\h.DictOfH (tupleKind (aD P w)) a xs:=lV ok (.inl e)
end
def DGet(H:Hp)(a:Addr)(y:V)(r:Option V):Prop:=
 (∃m_ k,Rd H a (.dK m_)/\y=kV k/\r=cT m_ k)\/∃m_ k b,Rd H a (.dT m_)/\y=.ref b/\H b=some (.tup (k.map kV))/\r=cT m_ k
def DPut(H:Hp)(a:Addr)(y v:V)(H':Hp):Prop:=
 (∃m_ k,H a=some (.dK m_)/\y=kV k/\m_.length<sizeLine/\H'=upd H a (.dK (dJ m_ k v)))\/
 ∃m_ k b,H a=some (.dT m_)/\y=.ref b/\H b=some (.tup (k.map kV))/\m_.length<sizeLine/\H'=upd H a (.dT (dJ m_ k v))
section
variable {X:Cx}{s:Shared}{a:Addr}{y:V}{o:Option V}{A:Around}
theorem tK(hu:A.units+1<cLine)(I:Inv X a_ Z H s)(g:DGet H a y (some v))(ry:RelV y u)(h:∀w' s',Inv X a_ Z H s'->RelV v w'->Q w' s') :
  wpAny (model X.prog X.w) A (getItem (.ref a) u) Q E s:=by
 rcases g with ⟨m_,k,e,ey,l⟩|⟨m_,k,b,e,ey,eb,l⟩
 ·subst ey;obtain⟨z,hd,vs,rel,dd⟩:=jd I.j_ e;obtain⟨w',hw,KO⟩:=RelO.some_of (v:=v) (o:=valueAt vs k) (by rw[l];exact rel.val k)
  exact wpAny_getItem_of (jj ry) dd.mapOf hw (h w' _ (I.tok _) KO)
 ·subst ey;cases (show u=Value.ref b from ry);obtain⟨z,hd,xs,rel,dd⟩:=lV I.j_ e;obtain⟨w',hw,KO⟩:=RelO.some_of (v:=v) (o:=(atKey xs k).map (·.2)) (by rw[l];exact rel.val k)
  obtain⟨p,hp,PC⟩:=Option.map_eq_some_iff.mp hw;refine wpAny_getItem_heap (JV hu) (gm I.j_ eb) dd hp ?_;rw[PC];exact h w' _ (I.tok _) KO
theorem FV(hu:A.units+1<cLine)(I:Inv X a_ Z H s)(g:DGet H a y o)(ry:RelV y u)(h:∀s',Inv X a_ Z H s'->Q (.bool o.isSome) s') :
  wpAny (model X.prog X.w) A (compareOp .In u (.ref a)) Q E s:=by
 rcases g with ⟨m_,k,e,ey,l⟩|⟨m_,k,b,e,ey,eb,l⟩
 ·subst ey;obtain⟨z,hd,vs,rel,dd⟩:=jd I.j_ e;refine wpAny_in_of (jj ry) hd dd.mapOf ?_;rw[<-(rel.val k).isSome_eq,<-l];exact h _ (I.tok _)
 ·subst ey;cases (show u=Value.ref b from ry);obtain⟨z,hd,xs,rel,dd⟩:=lV I.j_ e;refine wpAny_in_heap (JV hu) (gm I.j_ eb) hd dd ?_;have q:=(rel.val k).isSome_eq;rw[Option.isSome_map]at q;rw[<-q,<-l];exact h _ (I.tok _)
theorem yH(hu:A.units+1<cLine)(I:Inv X a_ Z H s)(g:DGet H a y o)(ry:RelV y u)(h:∀s',Inv X a_ Z H s'->Q (.bool (!o.isSome)) s') :
  wpAny (model X.prog X.w) A (compareOp .NotIn u (.ref a)) Q E s:=by
 rcases g with ⟨m_,k,e,ey,l⟩|⟨m_,k,b,e,ey,eb,l⟩
 ·subst ey;obtain⟨z,hd,vs,rel,dd⟩:=jd I.j_ e;refine wpAny_notIn_of (jj ry) hd dd.mapOf ?_;rw[<-(rel.val k).isSome_eq,<-l];exact h _ (I.tok _)
 ·subst ey;cases (show u=Value.ref b from ry);obtain⟨z,hd,xs,rel,dd⟩:=lV I.j_ e;refine wpAny_notIn_heap (JV hu) (gm I.j_ eb) hd dd ?_;have q:=(rel.val k).isSome_eq;rw[Option.isSome_map]at q;rw[<-q,<-l];exact h _ (I.tok _)
theorem gW{h':Heap}(I:Inv X a_ Z H s)(mu:Mut (H a))(hs:Heap.SameBut a s.heap h')(he:∃q,h'.get? a=some q)(new:ObjOk X.prog X.w (upd H a ob) h' a ob) :
  Inv X a_ Z (upd H a ob) {s with heap:=h',toks:=t'}:=
 I.write (x:=a) (e:=a) mu (.inl rfl) (λb q hb z=>(hs.2 b hb).trans z) he new
theorem wJ{h':Heap}{m_:List (Key×V)}(z:m_.length<=sizeLine)(hd:(a == sysModules)=false)(rel:KV m_ vs)(dd:h'.DictOf (aD P w) a vs) :
  ObjOk P w H' h' a (.dK m_):=⟨z,hd,vs,rel,dd⟩
theorem ug(hu:A.units+1<cLine)(I:Inv X a_ Z H s)(g:DPut H a y v H')(ry:RelV y u)(rv:RelV v r)(h:∀s',Inv X a_ Z H' s'->Q () s') :
  wpAny (model X.prog X.w) A (setItem (.ref a) u r) Q E s:=by
 rcases g with ⟨m_,k,e,ey,l,eH⟩|⟨m_,k,b,e,ey,eb,l,eH⟩
 ·subst ey eH;obtain⟨z,hd,vs,rel,dd⟩:=u8 I.j_ e;have hz:vs.length<=sizeLine:=by rw[<-rel.length];exact z
  have hl:(dJ m_ k v).length<=sizeLine:=by have:=fq m_ k v;omega
  refine wpAny_setItem_pairs (hsz:=hz) (jj ry) dd λh' Mo hs=>h _ ?_
  have he:∃q,h'.get? a=some q:=let ⟨q,_,_,hq,_⟩:=Mo;⟨q,hq⟩
  exact gW I (by rw[e];exact True.intro) hs he (wJ hl hd (rel.put k rv) Mo)
 ·subst ey eH;cases (show u=Value.ref b from ry);obtain⟨z,hd,xs,rel,dd⟩:=Dj I.j_ e;have hz:xs.length<=sizeLine:=by rw[<-Paired.length rel];exact z
  have hl:(dJ m_ k v).length<=sizeLine:=by have:=fq m_ k v;omega
  refine wpAny_setItem_heap (hsz:=hz) (JV hu) (gm I.j_ eb) dd λh' Mo hs=>h _ ?_
  obtain⟨q,es,ep,hq,h2,h3,h4,_,h5⟩:=Mo;refine gW I (by rw[e];exact True.intro) hs ⟨q,hq⟩ ⟨hl,hd,_,(rel.put k eb rv).keeps λc ys ec=>?_,q,es,ep,hq,h2,h3,h4,h5⟩
  rw[ai (dq ec e (λz=>nomatch z))]
  exact ec
end
section
variable {X:Cx}{s:Shared}{a:Addr}{m_:List (Key×V)}{A:Around}
end
section
variable {X:Cx}{o:Expr}{pos:Pos}
end
section
variable {X:Cx}
end
structure M1 (X:Cx)(o:Expr)(m:Str)(o_:Pos)(e:Expr)(p_:Pos):Prop where
 base:attributeBase o m X.env (eval o X.env)=eval o X.env
 few:((backTo p_ (starEach [e] X.env)).all (λx=>!x.1)&&(backToKw p_ (keywordEach [] X.env)).all (λx=>x.1.isSome)
  &&decide (([e]:List Expr).length+([]:List Keyword).length+(if ([]:List Keyword).isEmpty then 0 else 1)<30))=true
 line:(o_.endLine == p_.line)=true
 trees:backTo p_ (starEach [e] X.env)=[(false,eval e X.env)]
structure M2 (X:Cx)(o:Expr)(m:Str)(o_:Pos)(e f:Expr)(p_:Pos):Prop where
 base:attributeBase o m X.env (eval o X.env)=eval o X.env
 few:((backTo p_ (starEach [e,f] X.env)).all (λx=>!x.1)&&(backToKw p_ (keywordEach [] X.env)).all (λx=>x.1.isSome)
  &&decide (([e,f]:List Expr).length+([]:List Keyword).length+(if ([]:List Keyword).isEmpty then 0 else 1)<30))=true
 line:(o_.endLine == p_.line)=true
 trees:backTo p_ (starEach [e,f] X.env)=[(false,eval e X.env),(false,eval f X.env)]
section
variable {X:Cx}{s:Shared}{a:Addr}{y d:V}{o:Option V}{A:Around}
theorem B5(hu:A.units+1<cLine)(I:Inv X a_ Z H s)(g:DGet H a y o)(ry:RelV y u)(h:∀w' s',Inv X a_ Z H s'->RelV (o.getD .i_) w'->Q w' s') :
  wpAny (model X.prog X.w) A (call (.builtin "dict.get") [.ref a,u]) Q E s:=by
 rcases g with ⟨m_,k,e,ey,l⟩|⟨m_,k,b,e,ey,eb,l⟩
 ·subst ey;obtain⟨z,hd,vs,rel,dd⟩:=jd I.j_ e;refine call_meetsIn PySem.F.slot_dict_get dd.typeIs PySem.F.entry_dict_get (PySem.F.args_dict_get_2 _ _) (meets_dict_get (aD X.prog X.w) a (jj ry) hd) ⟨_,dd.mapOf,h _ _ (I.tok _) ?_⟩;rw[l];exact (rel.val k).getD rfl
 ·subst ey;cases (show u=Value.ref b from ry);obtain⟨z,hd,xs,rel,dd⟩:=lV I.j_ e;refine call_meetsIn PySem.F.slot_dict_get dd.typeIs PySem.F.entry_dict_get (PySem.F.args_dict_get_2 _ _) (meetsH_dict_get (tupleKind (aD X.prog X.w)) a b hd) ⟨JV hu,k,xs,gm I.j_ eb,dd,h _ _ (I.tok _) ?_⟩;rw[l];exact (rel.val k).getD rfl
theorem Ct(hu:A.units+1<cLine)(I:Inv X a_ Z H s)(g:DGet H a y o)(ry:RelV y u)(rd:RelV d r)(h:∀w' s',Inv X a_ Z H s'->RelV (o.getD d) w'->Q w' s') :
  wpAny (model X.prog X.w) A (call (.builtin "dict.get") [.ref a,u,r]) Q E s:=by
 rcases g with ⟨m_,k,e,ey,l⟩|⟨m_,k,b,e,ey,eb,l⟩
 ·subst ey;obtain⟨z,hd,vs,rel,dd⟩:=jd I.j_ e;refine call_meetsIn PySem.F.slot_dict_get dd.typeIs PySem.F.entry_dict_get (PySem.F.args_dict_get_3 _ _ _) (meets_dict_get_default (aD X.prog X.w) a (jj ry) hd r) ⟨_,dd.mapOf,h _ _ (I.tok _) ?_⟩;rw[l];exact (rel.val k).getD rd
 ·subst ey;cases (show u=Value.ref b from ry);obtain⟨z,hd,xs,rel,dd⟩:=lV I.j_ e;refine call_meetsIn PySem.F.slot_dict_get dd.typeIs PySem.F.entry_dict_get (PySem.F.args_dict_get_3 _ _ _) (meetsH_dict_get_default (tupleKind (aD X.prog X.w)) a b hd r) ⟨JV hu,k,xs,gm I.j_ eb,dd,h _ _ (I.tok _) ?_⟩;rw[l];exact (rel.val k).getD rd
end
section
variable {X:Cx}{o:Expr}
end
section
variable {X:Cx}{s:Shared}{a:Addr}{m_:List (Key×V)}{A:Around}
end
section
variable {X:Cx}{s:Shared}{a:Addr}{y:V}{A:Around}
end
end L2
namespace HT
open PySem PyProof.Rows
section
open PySem.SeqAt
open PySem.AutoSeq1 (wpAny_loadPart')
open PySem.MeetsSeq PySem.MeetsSeq2 PySem.MeetsSeq3
end
section
variable {w:World}{A:Around}{s:Shared}
theorem cat_tup{vs ws:List Value}(ht:IsTup s.heap t vs.toArray)(hb:IsTup s.heap b ws.toArray)(hv:vs≠[])
  (h1:ws=[]->Q (.ref t) s) (h2:ws≠[]->Q (.ref s.heap.objs.size) {s with heap:=s.heap.push {cls:=.type "tuple",data:=.seq (vs++ws).toArray}})
  (hsz:vs.length+ws.length<=sizeLine):wpAny (model prog w) A (binaryOp .Add (.ref t) (.ref b)) Q E s:=by
 obtain⟨⟨cls,dd,data,sl⟩,ho,hc,n,hd⟩:=id ht;obtain⟨⟨PD,MC,data2,Mj⟩,Nq,hc2,n2,hd2⟩:=id hb;simp only at hc hd hc2 hd2;subst hc hd hc2 hd2;have e:vs.toArray++ws.toArray=(vs++ws).toArray:=by simp
 by_cases hw:ws=[]
 ·exact concat_meets ⟨_,ho,rfl⟩ ⟨_,Nq,rfl⟩ noFill_tuple_add seq_tuple_add PySem.F.slot_tuple_add PySem.F.entry_tuple_add (PySem.F.args_tuple_add_2 _ _)
   (tuple_addW1 t b vs.toArray ws.toArray n n2 dd MC sl Mj (by simpa using hv) (by simp[hw])) ⟨ho,Nq,h1 hw⟩
 ·refine concat_meets ⟨_,ho,rfl⟩ ⟨_,Nq,rfl⟩ noFill_tuple_add seq_tuple_add PySem.F.slot_tuple_add PySem.F.entry_tuple_add (PySem.F.args_tuple_add_2 _ _)
   (tuple_addW2 t b vs.toArray ws.toArray n n2 dd MC sl Mj (by simpa using hv) (by simpa using hw) (by rw[List.size_toArray,List.size_toArray];exact hsz)) ⟨ho,Nq,?_⟩
  rw[e];exact h2 hw
noncomputable def sIx(n d:Nat):Option Int->Nat
 |none=>d
 |some v=>if v<0 then (v+(n:Int)).toNat else min v.toNat n
theorem sIx_none(n d:Nat):sIx n d none=d:=rfl
theorem sIx_nat(n d k:Nat):sIx n d (some (k:Int))=min k n:=by
 show (if (k:Int)<0 then ((k:Int)+(n:Int)).toNat else min (k:Int).toNat n)=min k n
 rw[if_neg (by omega),Int.toNat_natCast]
theorem AB(n d:Nat)(hd:d<=n)(o:Option Int):sIx n d o<=n:=by
 cases o with
 |none=>exact hd
 |some v=>
  show (if v<0 then (v+(n:Int)).toNat else min v.toNat n)<=n
  by_cases hv:v<0
  ·rw[if_pos hv];omega
  ·rw[if_neg hv];exact Nat.min_le_right _ _
theorem rA(v:Int)(n d:Nat):(if v<0 then max (v+(n:Int)) 0 else min v (n:Int))=((sIx n d (some v):Nat):Int):=by
 show (if v<0 then max (v+(n:Int)) 0 else min v (n:Int))=(((if v<0 then (v+(n:Int)).toNat else min v.toNat n):Nat):Int)
 by_cases hv:v<0
 ·simp only[if_pos hv];omega
 ·simp only[if_neg hv];omega
theorem pW(lo hi:Option Int)(n:Nat):Builtin.Slice.sliceAdjust lo hi 1 (n:Int)=(((sIx n 0 lo:Nat):Int),((sIx n n hi:Nat):Int)):=by
 have h1:¬ ((1:Int)<0):=by omega
 unfold Builtin.Slice.sliceAdjust;simp only[h1,if_false];refine Prod.ext ?_ ?_
 ·cases lo with
  |none=>rfl
  |some v=>exact rA v n 0
 ·cases hi with
  |none=>rfl
  |some v=>exact rA v n n
theorem pU(i j:Nat):Builtin.Slice.slicePlaces (i:Int) (j:Int) 1=j-i:=by
 unfold Builtin.Slice.slicePlaces;have h1:(1:Int) > 0:=by omega
 simp only[h1,if_true,Int.ediv_one];split<;>omega
theorem kT(p:IsPart v o)(h:Q o s):wpAny (model prog w) A (Builtin.Slice.slicePartIndex v) Q E s:=by
 cases p with
 |none=>exact slicePart_none h
 |int i t=>exact slicePart_int h
theorem iN{sl:Addr}{vl vu:Value}{lo hi:Option Int}{n:Nat}{Q:Int×Int×Nat->Shared->Prop}(hs:s.heap.IsSliceOf sl vl vu .none)(pl:IsPart vl lo)(pu:IsPart vu hi)
  (h:Q (((sIx n 0 lo:Nat):Int),1,sIx n n hi-sIx n 0 lo) s):wpAny (model prog w) A (Builtin.Slice.sliceApplied (.ref sl) (pure (n:Int))) Q E s:=by
 obtain⟨os,Oo,QP,O9⟩:=id hs;unfold Builtin.Slice.sliceApplied Builtin.Slice.sliceFields;refine wpAny_bind (wpAny_bind (wpAny_field Oo O9 (x:=vl) rfl (wpAny_bind (wpAny_field Oo O9 (x:=vu) rfl (wpAny_bind (wpAny_field Oo O9 (x:=.none) rfl (wpAny_pure ?_)))))));refine wpAny_bind (slicePart_none ?_);show wpAny _ _ (if ((1:Int) == 0)=true then _ else _) _ _ s
 rw[if_neg (by decide)]
 refine wpAny_bind (kT pl (wpAny_bind (kT pu (wpAny_bind (wpAny_pure ?_)))));show wpAny _ _ (match Builtin.Slice.sliceAdjust lo hi 1 (n:Int) with|(lo,hi)=>pure (lo,(1:Int),Builtin.Slice.slicePlaces lo hi 1)) _ _ s
 rw[pW lo hi n];show wpAny _ _ (pure (((sIx n 0 lo:Nat):Int),(1:Int),Builtin.Slice.slicePlaces ((sIx n 0 lo:Nat):Int) ((sIx n n hi:Nat):Int) 1)) _ _ s;rw[pU];exact wpAny_pure h
theorem wo(xs:Array Value)(i k:Nat):((List.range k).filterMap λ(m:Nat)=>xs[((i:Int)+(m:Int)*1).toNat]?).toArray=((xs.toList.drop i).take k).toArray:=by
 have e:(λ(m:Nat)=>xs[((i:Int)+(m:Int)*1).toNat]?)=λm=>xs[i+m]?:=by
  funext m;have:((i:Int)+(m:Int)*1).toNat=i+m:=by omega
  rw[this]
 rw[e];have:=pick_run xs i k;rw[List.filterMap_map]at this;have e2:((λx=>xs[x]?)∘λx=>i+x)=λm=>xs[i+m]?:=rfl
 rw[e2]at this;rw[this]
theorem getItem_tuple_cut{items:Array Value}{lo:Option Int}(ht:IsTup s.heap t items)(hs:s.heap.IsSliceOf sl vl vu .none)(pl:IsPart vl lo)(pu:IsPart vu hi)
  (hw:¬ (sIx items.size 0 lo=0/\sIx items.size items.size hi=items.size))
  (h:Q (.ref s.heap.objs.size) {s with heap:=s.heap.push {cls:=.type "tuple",data:=.seq ((items.toList.drop (sIx items.size 0 lo)).take (sIx items.size items.size hi-sIx items.size 0 lo)).toArray}})
  (hsz:items.size<=sizeLine):wpAny (model prog w) A (getItem (.ref t) (.ref sl)) Q E s:=by
 have L8:sizeOk (.seq ((items.toList.drop (sIx items.size 0 lo)).take (sIx items.size items.size hi-sIx items.size 0 lo)).toArray):=by
  show ((items.toList.drop (sIx items.size 0 lo)).take (sIx items.size items.size hi-sIx items.size 0 lo)).toArray.size<=sizeLine;rw[List.size_toArray,List.length_take,List.length_drop,Array.length_toList];omega
 have hj:sIx items.size items.size hi<=items.size:=AB _ _ (Nat.le_refl _) hi;obtain⟨os,Oo,QP,O9⟩:=id hs;have RM:s.TypeIs (.ref sl) "slice":=⟨os,Oo,QP⟩;unfold getItem
 try with_reducible refine wpAny_holding ?_
 first|refine wpAny_bind (wpAny_pure ?_)|skip
 refine wpAny_bind (wpAny_sequenceKey ht.typeIs (by decide) ?_)
 refine wpAny_bind (wpAny_callSpecial?_slot (name:=Str.ofString "__getitem__") ht.typeIs PyProof.Rows.slot_tuple_getitem
  (wpAny_call_entry PyProof.Rows.slot_tuple_getitem ht.typeIs entry_tuple_getitem ?_ (args_tuple_getitem _ _)))
 show wpAny _ _ (Builtin.Tuple.tupleItemsOf (.ref t) >>=_) _ _ s;refine wpAny_bind (tupleItemsOf_ ht ?_);refine wpAny_bind (wpAny_typeOf RM ?_);rw[if_pos (by decide)]
 refine wpAny_bind (iN hs pl pu ?_);have Nf:¬ ((((sIx items.size 0 lo:Nat):Int) == 0&&(1:Int) == 1&&(sIx items.size items.size hi-sIx items.size 0 lo) == items.size)=true):=by
  intro q;rw[Bool.and_eq_true,Bool.and_eq_true]at q;have q1:((sIx items.size 0 lo:Nat):Int)=0:=eq_of_beq q.1.1;have q2:sIx items.size items.size hi-sIx items.size 0 lo=items.size:=eq_of_beq q.2;exact hw ⟨by omega,by omega⟩
 show wpAny _ _ (if (((sIx items.size 0 lo:Nat):Int) == 0&&(1:Int) == 1&&(sIx items.size items.size hi-sIx items.size 0 lo) == items.size)=true then _ else _) _ _ s
 rw[if_neg Nf,wo]
 first
  |exact wpAny_bind (m:=Builtin.Tuple.tupleExact _) (wpAny_newObj_type (wpAny_pure ⟨_,rfl,wpAny_pure h⟩) L8)
  |exact wpAny_bind (m:=Builtin.Tuple.tupleExact _) (wpAny_newObj_type (wpAny_bind (wpAny_pure (wpAny_pure ⟨_,rfl,wpAny_pure h⟩))) L8)
  |exact wpAny_bind (wpAny_bind (m:=Builtin.Tuple.tupleExact _) (wpAny_newObj_type (wpAny_pure (wpAny_pure ⟨_,rfl,wpAny_pure h⟩)) L8))
  |exact wpAny_bind (wpAny_bind (m:=Builtin.Tuple.tupleExact _) (wpAny_newObj_type (wpAny_pure ⟨_,rfl,wpAny_pure h⟩) L8))
end
end HT
namespace L2
open PySem PySem.Spec PyProof.Rows
noncomputable abbrev TO:=St->Hp->(Option Int->Hp->Prop)->Prop
def PO(X:Cx)(e:Option Expr)(t:TO):Prop:=
 ∀(a_:List (Addr×Obj)) (s:Shared)(Z:St)(H:Hp)(Q:Option Int->Hp->Prop),Inv X a_ Z H s->t Z H Q->
  wpAny (model X.prog X.w) X.A (evalPart e X.env) (λu s'=>∃o H',Inv X a_ Z H' s'/\IsPart u o/\Q o H') X.xe s
noncomputable def tNoPart:TO:=λ_ H Q=>Q none H
noncomputable def CQ(t:TE):TO:=λZ H Q=>t Z H λx H1=>∃i,x=.int i/\Q (some i) H1
theorem qe{ns:List Int}:∀{us:List Value},Vals (ns.map V.int) us->IntsAre us ns:=by
 induction ns with
 |nil=>intro us r;rw[List.map_nil]at r;cases r;exact .nil
 |cons n ns ih=>
  intro us r;rw[Jm]at r;cases r with
  |cons r1 r2=>
   obtain⟨t,e⟩:=r1;subst e;exact .cons n t (ih r2)
section
variable {X:Cx}{lo:Option Expr}
theorem po_none:PO X none tNoPart:=by
 intro a_ s Z H Q I h;rw[evalPart_none];exact Jh ⟨none,H,I,.none,h⟩
theorem xC(h:PE X e te):PO X (some e) (CQ te):=by
 intro a_ s Z H Q I hw;rw[evalPart_some];refine thn (h a_ s Z H _ I hw) λu s1 ⟨x,H1,I1,r1,q1⟩=>?_
 obtain⟨i,rfl,q⟩:=q1;obtain⟨t,rfl⟩:=r1;exact⟨some i,H1,I1,.int i t,q⟩
def SlR(X:Cx)(r:V->Option Int->Option Int->Hp->VK->Prop):Prop:=
 ∀(a_:List (Addr×Obj)) (s:Shared)(Z:St)(H:Hp)(x:V)(v vl vu:Value)(lo hi:Option Int)(sl:Addr)(Q:VK),Inv X a_ Z H s->RelV x v->s.heap.IsSliceOf sl vl vu .none->IsPart vl lo->IsPart vu hi->r x lo hi H Q->
  ∃T id,typeLookup (.type T) "__getitem__"=pure (some (.builtin id))/\s.TypeIs v T/\wpAny (model X.prog X.w) X.A (getItem v (.ref sl)) (EP X a_ Z Q) X.xe s
noncomputable def tSl(r:V->Option Int->Option Int->Hp->VK->Prop)(te:TE)(tl th:TO):TE:=λZ H Q=>te Z H λx H1=>tl Z H1 λl H2=>th Z H2 λu H3=>r x l u H3 Q
theorem vt(hr:SlR X r)(he:PE X e te)(hl:PO X lo tl)(hu:PO X hi th):PE X (.Subscript e (.Slice lo hi none p2) pos) (tSl r te tl th):=by
 intro a_ s Z H Q I h;refine Subscript_ (thn (he a_ s Z H _ I h) λv s1 ⟨x,H1,I1,r1,q1⟩=>?_)
 refine wpAny_Slice (thn (hl a_ s1 Z H1 _ I1 q1) λvl s2 ⟨l,H2,I2,pl,q2⟩=>thn (hu a_ s2 Z H2 _ I2 q2) λvu s3 ⟨u,H3,I3,pu,q3⟩=>?_)
 rw[evalPart_none];refine Jh ?_;have I4:Inv X a_ Z H3 {s3 with heap:=s3.heap.push {cls:=.type "slice",data:=.fields #[vl,vu,.none]}}:=I3.kept (t':=s3.toks) λb ob q=>Jj _ q
 obtain⟨T,id,hT,ht,hg⟩:=hr a_ {s3 with heap:=s3.heap.push {cls:=.type "slice",data:=.fields #[vl,vu,.none]}} Z H3 x v vl vu l u s3.heap.objs.size Q I4 r1 (Heap.IsSliceOf.new ..) pl pu q3
 show wpAny (model X.prog X.w) X.A (subscriptTail e (.Slice lo hi none p2) v (.ref s3.heap.objs.size)) (EP X a_ Z Q) X.xe {s3 with heap:=s3.heap.push {cls:=.type "slice",data:=.fields #[vl,vu,.none]}}
 exact tail_any (ops:=[.ref s3.heap.objs.size,v]) ht hT hg (by with_unfolding_all rfl)
noncomputable def qG(xs:List V)(lo hi:Option Int):List V:=(xs.drop (HT.sIx xs.length 0 lo)).take (HT.sIx xs.length xs.length hi-HT.sIx xs.length 0 lo)
theorem ja(xs:List V)(lo hi:Option Int):(qG xs lo hi).length<=xs.length:=by
 unfold qG;rw[List.length_take,List.length_drop];omega
def GH(K:Ko):V->Option Int->Option Int->Hp->VK->Prop:=λx lo hi H Q=>∃a xs,x=.ref a/\SqT K H a xs/\
 ¬ (HT.sIx xs.length 0 lo=0/\HT.sIx xs.length xs.length hi=xs.length)/\∀p,H p=none->Q (.ref p) (upd H p (.tup (qG xs lo hi)))
theorem Bl:SlR X (GH X.K):=by
 intro a_ s Z H x v vl vu lo hi sl Q I rx hs pl pu h;obtain⟨a,xs,rfl,hx,hw,q⟩:=h;cases rx;obtain⟨g_,r,ht,hz⟩:=I.tuple hx;have Kq:g_.toArray.size=xs.length:=by rw[Jx];exact r.length.symm
 refine⟨"tuple",_,PyProof.Rows.slot_tuple_getitem.lookup,ht.typeIs,?_⟩;refine HT.getItem_tuple_cut ht hs pl pu (by rw[Kq];exact hw) ?_ (by rw[Kq];exact hz)
 rw[Kq];refine⟨.ref s.heap.objs.size,_,I.laid (t':=s.toks) (o:=.tup (qG xs lo hi)) (λb ob q=>Jj _ q) (Jn _) ?_,rfl,q _ (I.j_.fresh (Jn _))⟩
 exact⟨JF (ja xs lo hi) hz,_,(r.drop (HT.sIx xs.length 0 lo)).take (HT.sIx xs.length xs.length hi-HT.sIx xs.length 0 lo),IsTup.new _ _⟩
def EK(K:Ko):R2:=λx y H Q=>∃a b xs ys,x=.ref a/\y=.ref b/\SqT K H a xs/\SqT K H b ys/\xs≠[]/\xs.length+ys.length<=sizeLine/\
 (ys=[]->Q (.ref a) H)/\(ys≠[]->∀p,H p=none->Q (.ref p) (upd H p (.tup (xs++ys))))
theorem Vals.nil_iff(r:Vals xs us):us=[]<->xs=[]:=by
 cases r with
 |nil=>simp
 |cons _ _=>simp
theorem xg:OpR X (binaryOp .Add) (EK X.K):=by
 intro a_ s Z H x y v u Q I rx ry h;obtain⟨a,b,xs,ys,rfl,rfl,ha,hb,hx,hz,q1,q2⟩:=h;cases rx;cases ry;obtain⟨g_,r1,p1,_⟩:=I.tuple ha;obtain⟨s_,r2,p2,_⟩:=I.tuple hb;refine HT.cat_tup p1 p2 (λz=>hx (r1.nil_iff.mp z)) (λz=>⟨.ref a,H,I,rfl,q1 (r2.nil_iff.mp z)⟩) (λz=>?_) (by rw[<-r1.length,<-r2.length];exact hz)
 refine⟨.ref s.heap.objs.size,_,I.laid (t':=s.toks) (o:=.tup (xs++ys)) (λb ob q=>Jj _ q) (Jn _) ?_,rfl,q2 (λw=>z (r2.nil_iff.mpr w)) _ (I.j_.fresh (Jn _))⟩
 exact⟨by rw[JK];exact hz,_,r1.append r2,IsTup.new _ _⟩
end
noncomputable def ixN(n:Nat)(i:Int):Option Nat:=if 0<=i then (if i<n then some i.toNat else none) else if -(n:Int)<=i then some (i+n).toNat else none
noncomputable def atI(xs:List α)(i:Int):Option α:=(ixN xs.length i).bind λj=>xs[j]?
theorem rP(h:ixN n i=some j):seqIndex? i n=some j/\j<n/\-(n:Int)<=i/\i<n:=by
 unfold ixN at h;by_cases h0:0<=i
 ·rw[Jr h0]at h;by_cases h1:i<n
  ·rw[Jr h1]at h;have e:i.toNat=j:=JA h;exact⟨by rw[seqIndex_of h0 h1,e],by omega,by omega,h1⟩
  ·rw[Ji h1]at h;cases h
 ·rw[Ji h0]at h;by_cases h1 : -(n:Int)<=i
  ·rw[Jr h1]at h;have e:(i+n).toNat=j:=JA h;exact⟨by rw[seqIndex_neg (by omega) h1,e],by omega,h1,by omega⟩
  ·rw[Ji h1]at h;cases h
theorem nu{xs:List α}(h:atI xs i=some v):∃j,seqIndex? i xs.length=some j/\xs[j]?=some v/\j<xs.length/\-(xs.length:Int)<=i/\i<xs.length:=by
 unfold atI at h;cases e:ixN xs.length i with
 |none=>rw[e]at h;cases h
 |some j=>
  rw[e]at h;obtain⟨h1,h2,h3,h4⟩:=rP e;exact⟨j,h1,h,h2,h3,h4⟩
theorem bu{α:Type}{xs:List α}{j:Nat}{v:α}(h:xs[j]?=some v):atI xs (j:Int)=some v:=by
 have hj:j<xs.length:=(JL.mp h).1;have e:ixN xs.length (j:Int)=some j:=by
  unfold ixN;rw[Jr (by omega),Jr (by omega)];simp
 unfold atI;rw[e];exact h
def mF(b:Expr):Prop:=∀o i,subscripted b false o i=operate [o,i] (getItem o i)
def IxR(X:Cx)(r:R2):Prop:=
 ∀(value K5:Expr) (a_:List (Addr×Obj)) (s:Shared)(Z:St)(H:Hp)(x y:V)(v u:Value)(Q:VK),Inv X a_ Z H s->RelV x v->RelV y u->r x y H Q->
  subscripted K5 false v u=operate [v,u] (getItem v u)->wpAny (model X.prog X.w) X.A (subscriptTail value K5 v u) (EP X a_ Z Q) X.xe s
def MtR(X:Cx)(id:String)(r:V->List V->Hp->VK->Prop):Prop:=
 ∀(a_:List (Addr×Obj)) (s:Shared)(Z:St)(H:Hp)(x:V)(xs:List V)(v:Value)(us:List Value)(Q:VK),Inv X a_ Z H s->RelV x v->Vals xs us->r x xs H Q->
  wpAny (model X.prog X.w) X.A (call (.builtin id) (v::us)) (EP X a_ Z Q) X.xe s
section
variable {X:Cx}{a:Expr}
theorem IxR.or(h:IxR X r)(h':IxR X r'):IxR X (λx y H Q=>r x y H Q\/r' x y H Q):=by
 intro value K5 a_ s Z H x y v u Q I rx ry q hs;rcases q with q|q
 ·exact h value K5 a_ s Z H x y v u Q I rx ry q hs
 ·exact h' value K5 a_ s Z H x y v u Q I rx ry q hs
theorem DW(hr:IxR X r)(ha:PE X a ta)(hb:PE X b tb)(hs:mF b):PE X (.Subscript a b pos) (tOp r ta tb):=by
 intro a_ s Z H Q I h;exact Subscript_ (BV ha hb I h λv u s2 x y H2 I2 rx ry q=>hr a b a_ s2 Z H2 x y v u Q I2 rx ry q (hs _ _))
def DJ(K:Ko):R2:=λx y H Q=>∃p xs i v,x=.ref p/\y=.int i/\SqL K H p xs/\atI xs i=some v/\Q v H
def Di(K:Ko):R2:=λx y H Q=>∃p xs i v,x=.ref p/\y=.int i/\SqT K H p xs/\atI xs i=some v/\Q v H
def rIxS:R2:=λx y H Q=>∃z i c,x=.str z/\y=.int i/\z.length<=sizeLine/\atI z.cps.toList i=some c/\Q (.str ⟨#[c]⟩) H
theorem ix_list:IxR X (DJ X.K):=by
 intro value K5 a_ s Z H x y v u Q I rx ry h hs;obtain⟨p,xs,i,z,rfl,rfl,hq,he,q⟩:=h;cases rx;obtain⟨t,rfl⟩:=ry;obtain⟨g_,r,pl,hz⟩:=I.list hq;obtain⟨j,h1,h2,h3,h4,h5⟩:=nu he;obtain⟨w,ew,KO⟩:=r.get h2;have hl:=r.length;have hn:=kM;have fin:EP X a_ Z Q w s:=⟨z,H,I,KO,q⟩;by_cases h0:0<=i
 ·have hj:i.toNat=j:=by
   rw[seqIndex_of h0 h5]at h1;exact JA h1
  exact item_listR pl.isList h0 (by omega) (by rw[hj];simpa using ew) fin hs
 ·have hj:(i+(g_.toArray.size:Int)).toNat=j:=by
   rw[seqIndex_neg (by omega) h4]at h1
   rw[Jx,<-hl];exact JA h1
  exact subscriptTail_builtinR (x:=w) pl.isList.typeIs slot_list_getitem.lookup
   (wpAny_getItem_list_neg (Q:=λr s'=>r=w/\EP X a_ Z Q r s') pl.isList (by omega) (by rw[Jx]<;>omega) (by omega) (by rw[hj];simpa using ew) ⟨rfl,fin⟩) hs
theorem ix_tup:IxR X (Di X.K):=by
 intro value K5 a_ s Z H x y v u Q I rx ry h hs;obtain⟨p,xs,i,z,rfl,rfl,hq,he,q⟩:=h;cases rx;obtain⟨t,rfl⟩:=ry;obtain⟨g_,r,pl,hz⟩:=I.tuple hq;obtain⟨j,h1,h2,h3,h4,h5⟩:=nu he;obtain⟨w,ew,KO⟩:=r.get h2;have hl:=r.length;have hn:=kM;have fin:EP X a_ Z Q w s:=⟨z,H,I,KO,q⟩;exact subscriptTail_builtinR (x:=w) pl.typeIs slot_tuple_getitem.lookup
  (getItem_tuple (j:=j) (Q:=λr s'=>r=w/\EP X a_ Z Q r s') pl (by omega) (by omega) (by rw[Jx,<-hl];exact h1) (by simpa using ew) ⟨rfl,fin⟩) hs
theorem AC:IxR X rIxS:=by
 intro value K5 a_ s Z H x y v u Q I rx ry h hs;obtain⟨z,i,c,rfl,rfl,hz,he,q⟩:=h;obtain⟨t,rfl⟩:=rx;obtain⟨t',rfl⟩:=ry;obtain⟨j,h1,h2,h3,h4,h5⟩:=nu he;have hl:z.cps.toList.length=z.length:=by simp[Str.length]
 rw[hl]at h1 h4 h5;have hn:=kM;exact tail_any (typeIs_str s z t) slot_str_getitem.lookup (getItem_str (c:=c) (by
  have e1:decide (i < -(2 ^ 63:Int))=false:=J9 (by omega)
  have e2:decide (i>=2 ^ 63)=false:=J9 (by omega)
  rw[e1,e2,Bool.or_false]) (by rw[h1];simpa using h2) ⟨.str ⟨#[c]⟩,H,I.tok _,⟨_,rfl⟩,q⟩) hs
def rIx(K:Ko):R2:=λx y H Q=>DJ K x y H Q\/Di K x y H Q\/rIxS x y H Q
theorem Ch:IxR X (rIx X.K):=ix_list.or (ix_tup.or AC)
theorem qm(g_:List Value)(n j:Nat)(u:Value):Obj.mapSeq (·.setIfInBounds j u) {cls:=.type "list",data:=.seq g_.toArray n}={cls:=.type "list",data:=.seq (g_.set j u).toArray n}:=by
 simp[Obj.mapSeq]
theorem Inv.lst{s:Shared}(I:Inv X a_ Z H s)(h:H p=some (.lst xs)) :
  ∃(g_:List Value) (n:Nat),Vals xs g_/\s.heap.get? p=some {cls:=.type "list",data:=.seq g_.toArray n}/\xs.length<=sizeLine:=by
 obtain⟨z,g_,n,r,e⟩:=I.j_ p _ h;exact⟨g_,n,r,e,z⟩
theorem Inv.lstUpd{a_:List (Addr×Obj)}{Z:St}{H:Hp}{s:Shared}{p:Addr}{xs ys:List V}{g_ its':List Value}{n n':Nat}{f:Obj->Obj}(I:Inv X a_ Z H s)(h:H p=some (.lst xs))
  (ho:s.heap.get? p=some {cls:=.type "list",data:=.seq g_.toArray n}) (hf:f {cls:=.type "list",data:=.seq g_.toArray n}={cls:=.type "list",data:=.seq its'.toArray n'}) (r:Vals ys its') (hz:ys.length<=sizeLine) (t:Nat) :
  Inv X a_ Z (upd H p (.lst ys)) {s with heap:=s.heap.update p f,toks:=t}:=by
 have e:(s.heap.update p f).get? p=some {cls:=.type "list",data:=.seq its'.toArray n'}:=by
  rw[JS f ho (by rw[hf]<;>rfl),hf]
 refine I.write (x:=p) (e:=p) (by rw[h];trivial) (.inl rfl) (λb u hb q=>(Jy _ _ (Jv hb)).trans q) ⟨_,e⟩ ?_
 exact⟨hz,its',n',r,e⟩
def rSetL:V->V->V->Hp->(Hp->Prop)->Prop:=λo i v H Q=>∃p xs k j,o=.ref p/\i=.int k/\H p=some (.lst xs)/\ixN xs.length k=some j/\Q (upd H p (.lst (xs.set j v)))
theorem v9:Cd X rSetL:=by
 intro a_ s Z H o i v ov iv u Q I ro ri rv h;obtain⟨p,xs,k,j,rfl,rfl,hp,hj,q⟩:=h;cases ro;obtain⟨t,rfl⟩:=ri;obtain⟨g_,n,r,ho,hz⟩:=I.lst hp;obtain⟨h1,h2,h3,h4⟩:=rP hj;have hl:=r.length;have hn:=kM;have I':Inv X a_ Z (upd H p (.lst (xs.set j v))) {s with heap:=s.heap.update p (Obj.mapSeq (·.setIfInBounds j u))}:=
  I.lstUpd hp ho (qm g_ n j u) (r.set rv j) (by rw[List.length_set];exact hz) s.toks
 by_cases h0:0<=k
 ·have hk:k.toNat=j:=by
   rw[seqIndex_of h0 h4]at h1;exact JA h1
  exact PySem.W.ki_setAt ho h0 (by omega) (by rw[Jx,<-hl];exact h4) (by rw[hk];exact⟨_,I',q⟩)
 ·have hk:(k+(g_.toArray.size:Int)).toNat=j:=by
   rw[seqIndex_neg (by omega) h3]at h1
   rw[Jx,<-hl];exact JA h1
  exact PySem.W.ki_setBack ho (by omega) (by rw[Jx,<-hl];exact h3) (by omega) (by rw[hk];exact⟨_,I',q⟩)
theorem nJ(lo hi:Option Int)(n:Nat):(sliceBounds lo hi none n).1=((HT.sIx n 0 lo:Nat):Int)/\(sliceBounds lo hi none n).2.1=((HT.sIx n n hi:Nat):Int)/\(sliceBounds lo hi none n).2.2=1:=by
 refine⟨?_,?_,rfl⟩
 ·cases lo with
  |none=>simp[sliceBounds,HT.sIx]
  |some i=>
   simp only[sliceBounds,HT.sIx,Option.getD_none,show (1:Int) > 0 by decide,if_true]
   by_cases h:i<0
   ·simp only[h,if_true]<;>omega
   ·simp only[h,if_false]<;>omega
 ·cases hi with
  |none=>simp[sliceBounds,HT.sIx]
  |some i=>
   simp only[sliceBounds,HT.sIx,Option.getD_none,show (1:Int) > 0 by decide,if_true]
   by_cases h:i<0
   ·simp only[h,if_true]<;>omega
   ·simp only[h,if_false]<;>omega
theorem lg(g_:List Value)(lo hi:Option Int):slicePick g_.toArray lo hi none=((g_.drop (HT.sIx g_.length 0 lo)).take (HT.sIx g_.length g_.length hi-HT.sIx g_.length 0 lo)).toArray:=by
 obtain⟨h1,h2,h3⟩:=nJ lo hi g_.toArray.size;unfold slicePick;rw[h1,h2,h3];simp only[sliceRange_one,pick_run,Jx]<;>rfl
theorem nB:CallR X (.builtin "len") (λxs H Q=>∃p ys,xs=[.ref p]/\(SqL X.K H p ys\/SqT X.K H p ys)/\Q (.int ys.length) H):=by
 intro a_ s Z H xs us Q I r h;obtain⟨p,ys,rfl,hq,q⟩:=h;obtain⟨u,rfl,rx⟩:=i9 r;cases rx;have hn:=kM;rcases hq with hq|hq
 ·obtain⟨g_,r',pl,hz⟩:=I.list hq;have Kq:=r'.length;exact Calls.call_len_list pl.isList (by simp only[Jx]<;>omega) ⟨.int ys.length,H,I.tok _,⟨s.toks+1,by rw[Jx,Kq]⟩,q⟩
 ·obtain⟨g_,r',pl,hz⟩:=I.tuple hq;have Kq:=r'.length;exact len_tuple pl (by simp only[Jx]<;>omega) ⟨.int ys.length,H,I.tok _,⟨s.toks+1,by rw[Jx,Kq]⟩,q⟩
theorem mN:CallR X (.type "list") (λxs H Q=>∃p ys,xs=[.ref p]/\(SqL X.K H p ys\/SqT X.K H p ys)/\∀l,H l=none->Q (.ref l) (upd H l (.lst ys))):=by
 intro a_ s Z H xs us Q I r h;obtain⟨p,ys,rfl,hq,q⟩:=h;obtain⟨u,rfl,rx⟩:=i9 r;cases rx;have fin:∀(g_:List Value),Vals ys g_->ys.length<=sizeLine->∀(h':Heap)(c':Nat),(∀b o',s.heap.get? b=some o'->h'.get? b=some o')->
   h'.get? s.heap.objs.size=some {cls:=.type "list",dict:=none,data:=.seq g_.toArray c',slots:=#[]}->EP X a_ Z Q (.ref s.heap.objs.size) {s with heap:=h'}:=λg_ r' hz h' c' kp e=>
  ⟨.ref s.heap.objs.size,_,I.laid (t':=s.toks) kp (Jn _) (show ObjOk X.prog X.w _ h' _ (.lst ys) from⟨hz,g_,c',r',e⟩),rfl,q _ (I.j_.fresh (Jn _))⟩
 rcases hq with hq|hq
 ·obtain⟨g_,r',pl,hz⟩:=I.list hq;have Kq:=r'.length;obtain⟨o,ho,hc,n,hd⟩:=pl.isList;exact call_list_seq p (.inl rfl) ho hc hd (λh' c' kp e=>fin g_ r' hz h' c' kp e) (by simp only[Jx]<;>omega)
 ·obtain⟨g_,r',pl,hz⟩:=I.tuple hq;have Kq:=r'.length;obtain⟨o,ho,hc,n,hd⟩:=pl;exact call_list_seq p (.inr rfl) ho hc hd (λh' c' kp e=>fin g_ r' hz h' c' kp e) (by simp only[Jx]<;>omega)
def tyV(K:Ko)(T:String)(x:V)(H:Hp):Prop:=match x with
 |.str _=>T = "str"
 |.int _=>T = "int"
 |.ref p=>(T = "list"/\∃xs,SqL K H p xs)\/(T = "tuple"/\∃o,K.lookup p=some o/\o.cls=.type "tuple"/\o.dict=none)\/
   (T = "dict"/\((∃m_,H p=some (.dK m_))\/∃m_,H p=some (.dT m_)))\/(T = "set"/\∃S n,H p=some (.set S n))
 |_=>False
theorem BL{s:Shared}(I:Inv X a_ Z H s)(r:RelV x v)(ty:tyV X.K T x H) :
  s.TypeIs v T/\∀a,v=.ref a->∃ob,s.heap.get? a=some ob/\ob.dict=none:=by
 cases x with
 |str z=>
  obtain⟨t,rfl⟩:=r;cases (show T = "str" from ty);exact⟨typeIs_str s z t,λ_ e=>nomatch e⟩
 |int i=>
  obtain⟨t,rfl⟩:=r;cases (show T = "int" from ty);exact⟨typeIs_int s i t,λ_ e=>nomatch e⟩
 |ref p=>
  cases r;rcases ty with ⟨rfl,xs,hq⟩|⟨rfl,o,hk,hc,hd⟩|⟨rfl,hk⟩|⟨rfl,S,n,hk⟩
  ·obtain⟨g_,_,pl,_⟩:=I.list hq;refine⟨pl.isList.typeIs,λa e=>?_⟩
   cases e;obtain⟨o,n,e,c,hd,_⟩:=pl;exact⟨o,e,hd⟩
  ·refine⟨⟨o,I.kIn p o hk,hc⟩,λa e=>?_⟩
   cases e;exact⟨o,I.kIn _ o hk,hd⟩
  ·have z:∃o,s.heap.get? p=some o/\o.ExactDict:=by
    rcases hk with ⟨m_,hk⟩|⟨m_,hk⟩
    ·obtain⟨_,_,_,_,o,_,_,e,ex,_⟩:=I.j_ p _ hk;exact⟨o,e,ex⟩
    ·obtain⟨_,_,_,_,o,_,_,e,ex,_⟩:=I.j_ p _ hk;exact⟨o,e,ex⟩
   obtain⟨o,e,ex⟩:=z;refine⟨⟨o,e,ex.1⟩,λa e2=>?_⟩
   cases e2;exact⟨o,e,ex.2.1⟩
  ·obtain⟨o,_,_,_,e,ex,_⟩:=I.j_ p _ hk;refine⟨⟨o,e,ex.1⟩,λa e2=>?_⟩
   cases e2;exact⟨o,e,ex.2.1⟩
 |_=>exact False.elim ty
noncomputable def tBM(K:Ko)(T:String)(r:V->List V->Hp->VK->Prop)(to:TE)(t:TA):TE:=λZ H Q=>to Z H λx H1=>tyV K T x H1/\t Z H1 λxs H2=>r x xs H2 Q
variable {o:Expr}{id:String}
theorem Dx(pa:PlainAttrs T)(slot:Slot T name id)(MK:typeOf (.builtin id)=pure (.type "method_descriptor"))(hm:MtR X id r)(ho:PE X o to)(ha:PA X (e::es) t)
  (w_:attributeBase o name X.env (eval o X.env)=eval o X.env:=by rfl)
  (Nr:((backTo p_ (starEach (e::es) X.env)).all (λx=>!x.1)&&(backToKw p_ (keywordEach [] X.env)).all (λx=>x.1.isSome)
   &&decide ((e::es).length+([]:List Keyword).length+(if ([]:List Keyword).isEmpty then 0 else 1)<30))=true:=by rfl)
  (x_:(o_.endLine == p_.line)=true:=by rfl) (hs:starEach (e::es) X.env=(false,eval e X.env)::starEach es X.env:=by rfl) (La:(backTo p_ (starEach es X.env)).any (·.1)=false:=by rfl) :
  PE X (.Call (.Attribute o name o_) (e::es) [] p_) (tBM X.K T r to t):=by
 intro a_ s Z H Q I h;refine wpAny_Call_method_late w_ Nr x_ rfl (thn (ho a_ s Z H _ I h) λv s1 ⟨x,H1,I1,r1,ty,q1⟩=>?_)
 obtain⟨h1,h2⟩:=BL I1 r1 ty;refine⟨T,id,pa,slot,MK,h1,h2,?_⟩;have hA:=ha p_ a_ s1 Z H1 _ I1 q1;rw[hs]at hA ⊢;refine Calls.callWith_builtin (by show (false||(backTo p_ (starEach es X.env)).any (·.1))=false;rw[La]<;>rfl) (Calls.evalArgs_plain ?_)
 exact thn hA λus s2 ⟨vs,H2,I2,r2,q2⟩=>hm a_ s2 Z H2 x vs v us Q I2 r1 r2 q2
end
def MtM(X:Cx)(id:String)(r:V->List V->Hp->VK->Prop):Prop:=
 ∀(a_:List (Addr×Obj)) (s:Shared)(Z:St)(H:Hp)(x:V)(xs:List V)(v:Value)(us:List Value)(Q:VK),Inv X a_ Z H s->RelV x v->Vals xs us->r x xs H Q->
  wpAny (model X.prog X.w) X.A (call (.builtin id) (v::us)) (EP X a_ Z Q) X.xe s
theorem Vals.one{x:V}{us:List Value}(h:Vals [x] us):∃u,us=[u]/\RelV x u:=by
 cases h with|cons r t=>cases t;exact⟨_,rfl,r⟩
theorem Vals.two{x y:V}{us:List Value}(h:Vals [x,y] us):∃u v,us=[u,v]/\RelV x u/\RelV y v:=by
 cases h with|cons r t=>cases t with|cons q t=>cases t;exact⟨_,_,rfl,r,q⟩
section
variable {X:Cx}{s:Shared}{l:Addr}{xs ys:List V}
theorem Inv.lset{g_ its':List Value}{n:Nat}{f:Array Value->Array Value}{t':Nat}(I:Inv X a_ Z H s)(hH:H l=some (.lst xs))
  (e:s.heap.get? l=some {cls:=.type "list",data:=.seq g_.toArray n}) (hf:f g_.toArray=its'.toArray) (hv:Vals ys its') (hz:ys.length<=sizeLine) :
  Inv X a_ Z (upd H l (.lst ys)) {s with heap:=s.heap.update l (Obj.mapSeq f),toks:=t'}:=by
 have q:=PySem.IsL.update e f;rw[hf]at q;refine I.write (x:=l) (e:=l) (by rw[hH];exact trivial) (.inl rfl) (λb' u hb hu=>(Jy s.heap (Obj.mapSeq f) (Jv hb)).trans hu) ⟨_,q⟩ ?_
 exact⟨hz,its',_,hv,q⟩
theorem Inv.lnew(I:Inv X a_ Z H s)(hv:Vals ys g_)(hz:ys.length<=sizeLine) :
  Inv X a_ Z (upd H s.heap.objs.size (.lst ys)) {s with heap:=s.heap.push {cls:=.type "list",data:=.seq g_.toArray},toks:=t'}:=
 I.laid (λ_ _ q=>Jj _ q) (Jn _) ⟨hz,g_,0,hv,Jp _ rfl⟩
theorem Inv.fresh(I:Inv X a_ Z H s):H s.heap.objs.size=none:=I.j_.fresh (Jn _)
theorem Inv.lstM(I:Inv X a_ Z H s)(hH:H l=some (.lst xs)):xs.length<=sizeLine/\∃(g_:List Value) (n:Nat),Vals xs g_/\xs.length=g_.length/\s.heap.get? l=some {cls:=.type "list",data:=.seq g_.toArray n}:=by
 obtain⟨z,g_,n,r,e⟩:=I.j_ l _ hH;exact⟨z,g_,n,r,r.length,e⟩
theorem wj{n:Nat}(h:n<=sizeLine):Builtin.List.listTooLong n=false:=by
 unfold Builtin.List.listTooLong;exact J9 (by omega)
end
section
variable {X:Cx}
def rAppend:V->List V->Hp->VK->Prop:=λx vs H Q=>∃l xs y,x=.ref l/\vs=[y]/\H l=some (.lst xs)/\xs.length<sizeLine/\Q .i_ (upd H l (.lst (xs++[y])))
theorem mC:MtM X "list.append" rAppend:=by
 intro a_ s Z H x vs v us Q I rx rv h;obtain⟨l,xs,y,rfl,rfl,hH,hz,q⟩:=h;cases rx;obtain⟨u,rfl,ru⟩:=rv.one;obtain⟨z,g_,n,r,hl,e⟩:=I.lstM hH;refine call_meets F.slot_list_append ⟨_,e,rfl⟩ F.entry_list_append (F.args_list_append_2 _ _) (PySem.list_append l g_.toArray n u (by rw[Jx];omega)) ⟨e,?_⟩
 refine⟨.i_,_,I.lset (its':=g_++[u]) hH e (by simp) (r.append (.cons ru .nil)) ?_,rfl,q⟩
 rw[JK,List.length_singleton];omega
end
section
variable {w:World}{A:Around}{s:Shared}
set_option maxRecDepth 100000 in
end
section
variable {X:Cx}
end
end L2
namespace Att
open PySem PySem.W PySem.Calls PyProof.Rows
theorem jq:∀(ns:List Int)(vs:List Value),WellAll P h vs (ns.map WData.int)->IntsAre vs ns:=by
 intro ns
 induction ns with
 |nil=>
  intro vs w;rw[List.map_nil]at w;cases w;exact .nil
 |cons n ns ih=>
  intro vs w;rw[List.map_cons]at w;cases w with
  |cons a b=>
   cases a;exact .cons _ _ (ih _ b)
theorem tj{l:OpenLaw}(hn:l.most=some n){h:Heap}
  (Lu:l.row.toRowW.claim.pre args=true) (PF:WellAll P h OZ args) :
  ∃a vs ns,OZ=[Value.ref a]/\args=[WData.list (ns.map WData.int)]/\h.get? a=some {cls:=.type "list",data:=.seq vs.toArray}/\IntsAre vs ns/\ns.length<=n:=by
 have RN:WShape.hasAll [] args [.list .int]=true:=(pre_splitW Lu).1;have hc:l.pre.holds [] {args:=args}=true:=(pre_splitW Lu).2;obtain⟨d,r,rfl,h1,h2⟩:=hasAllW_cons RN;obtain rfl:=hasAllW_nil h2;obtain⟨xs,rfl,h3⟩:=hasW_list h1;obtain⟨ns,rfl⟩:=items_int h3;have Kq:ns.length<=n:=by
  unfold OpenLaw.pre at hc;have h4:(WTm.not (.lt (.lit (.int (n:Int))) (.len (.arg 0)))).holds [] {args:=[.list (ns.map .int)]}=true:=by
   have h4:=(holds_andW hc).1;rw[hn]at h4;exact h4
  have h5:=condW_of h4 (w_not (w_lt w_lit (w_len_list (w_arg rfl))));rw[List.length_map]at h5;refine Nat.le_of_not_lt λq=>?_
  have q':(n:Int)<((ns.length:Nat):Int):=by omega
  first
   |(rw[decide_eq_true q']at h5;exact absurd h5 (by decide))
   |(simp at h5;omega)
 cases PF with
 |cons w1 w2=>
  cases w2;cases w1 with
  |list ho PH=>exact⟨_,_,ns,rfl,rfl,ho,jq ns _ PH,Kq⟩
theorem tf(l:OpenLaw)(args:List WData):l.row.toRowW.claim.post args (.bool true) args=true:=
 postW_of (r:=l.row.toRowW) (X:=(true == true))
  (show WShape.has [] (.bool true) .bool=true by first|rfl|decide|simp[WShape.has,WShape.arms,WShape.armsAll])
  (show (WTm.eq .res (.lit (.bool true))).value [] {args:=args,res:=some (.bool true),after:=args}=some (.bool (true == true)) from w_eq_bool (w_res rfl) w_lit) rfl
theorem attach_call{l:OpenLaw}{d:DefRec}
  (hn:l.most=some n) (Nu:d.params.defaults=[])
  (call:∀(w:World)(s₀ r_:Shared)(mg mb:Str->Option Value)(fa:Addr)(o:Obj)(pm cd doc:Value)(a:Addr)(vs:List Value)(ns:List Int),
   Ground q loose [] XP w s₀ mg mb r_.heap->YP w r_.heap->
   r_.heap.get? fa=some o->o.data=.func (docDef d.name d.params d.body d.scope pm cd doc)->r_.heap.CodeRec cd d.name->mg d.name=some (.ref fa)->
   r_.heap.get? a=some {cls:=.type "list",data:=.seq vs.toArray}->IntsAre vs ns->ns.length<=n->r_.gens=#[]->
   codeAny (model l.prog w) callerA (.call (.ref fa) ⟨[.ref a],[]⟩) (λr s'=>r=.ok (.ret (.bool true))/\OldK r_.heap s'.heap/\s'.os=r_.os/\AllBare s'.gens) r_) :
  WalkO q loose XP YP l.row.toRowW d [] (λf vs=>PySem.call f vs):=by
 intro w s₀ r_ mg mb G Y fa o pm cd doc dV kV ho hd MB hD PJ hg args OZ as Lu hlay hrd PF hlo;obtain rfl:dV=.none:=Dflts.none hD Nu;obtain rfl:kV=.none:=Dflts.noKw hD;obtain⟨a,vs,ns,rfl,rfl,ML,LY,Kq⟩:=tj hn Lu PF;refine enter_call (codeAny_mono (call w s₀ r_ mg mb fa o pm cd doc a vs ns G Y ho (fd_plain hd) MB PJ ML LY Kq hg) λr s' hq=>?_)
 obtain⟨rfl,h2,h3,h4⟩:=hq;exact⟨.inl ⟨.bool true,.bool true,[],rfl,λ_=>rfl,.bool true,tf l _,λ_=>⟨List.Pairwise.nil,λ_ hm=>(nomatch hm)⟩⟩,h2,h3,h4⟩
section
variable {w:World}{A:Around}{s:Shared}{K:Frag}
end
end Att
namespace L2
open PySem PySem.Spec PyProof.Rows
theorem iC:∀{vs:List Value}{ns:List Int},IntsAre vs ns->Vals (ns.map V.int) vs
 |_,_,.nil=>.nil
 |_,_,.cons n t h=>.cons ⟨t,rfl⟩ (iC h)
def Eu(H:Hp):Prop:=∀b,H b=none\/∃o xs,H b=some (.u_ o (.lst xs))
theorem vA{K:Ko}{r_:Shared}
  (KX:K.In r_.heap)(Mp:r_.heap.Ns mainGlobals mg)(hb:r_.heap.Ns builtinsNs mb) (RO:∀x:Str,x≠"__name__"->mb x=bootBuiltins x) (PK:r_.heap.NoLimit) (hg:r_.gens=#[])
  (ha:r_.heap.get? a=some {cls:=.type "list",data:=.seq vs.toArray}) (hi:IntsAre vs ns) (hl:ns.length<=sizeLine) (hr:Room k callerA)
  (F:∀base:Heap,K.In base->base.Ns mainGlobals mg->FnOk P w K mg base CX k fa fd [x] sp) (Oq:∀(s:Shared)(u:Value),BindsTo s fd ⟨[u],[]⟩ [(x,u)])
  (NV:∀H:Hp,Eu H->SqL K H a (ns.map V.int)->sp [.ref a] H (λv _=>v=.bl true) λ_ _ _=>False)
  (RP:∀H e s',CX [] H r_ (λ_ _ _=>False) e s'->False) :
  codeAny (model P w) callerA (.call (.ref fa) ⟨[.ref a],[]⟩) (λr s'=>r=.ok (.ret (.bool true))/\OldK r_.heap s'.heap/\s'.os=r_.os/\AllBare s'.gens) r_:=by
 have rv:=iC hi;have PL:=hi.length;have core:∀H:Hp,Eu H->SqL K H a (ns.map V.int)->HOk P w H r_.heap->(∀b,H b≠none->b=a)->(H a≠none->K.lookup a=none)->
   codeAny (model P w) callerA (.call (.ref fa) ⟨[.ref a],[]⟩) (λr s'=>r=.ok (.ret (.bool true))/\OldK r_.heap s'.heap/\s'.os=r_.os/\AllBare s'.gens) r_:=by
  intro H hO hS j_ hA hK;have L9:∀{b:Addr}{o:Obj},r_.heap.get? b=some o->H b=none->(nS r_.heap H).get? b=some o:=λe n=>ve e n
  have Oj:∀{b:Addr}{o:Obj}{es:Array DictEntry}{ep:Nat},r_.heap.get? b=some o->o.data=.dict es ep->H b=none:=λ{b o es ep} e d=>by
   cases q:H b with
   |none=>rfl
   |some u=>
    have e':b=a:=hA b (by rw[q];simp)
    subst e';rw[ha]at e;cases e;have d':Data.seq vs.toArray _=Data.dict es ep:=d;cases d'
  have O_:∀{b:Addr}{m:Str->Option Value},r_.heap.Ns b m->(nS r_.heap H).Ns b m:=λ{b m} ⟨o,es,ep,e,d,r⟩=>⟨o,es,ep,L9 e (Oj e d),d,r⟩
  have QQ:K.In (nS r_.heap H):=λb o e=>L9 (KX b o e) (by
   cases q:H b with
   |none=>rfl
   |some u=>
    have e':b=a:=hA b (by rw[q];simp)
    subst e';rw[hK (by rw[q];simp)]at e;cases e)
  have hM:Mod K mg (nS r_.heap H):=⟨QQ,O_ Mp,⟨mb,O_ hb,RO⟩,let ⟨mc,h1,h2⟩:=PK;⟨mc,O_ h1,h2⟩⟩
  have e0:Env0 P w K mg (nS r_.heap H) callerA [] r_ H:=⟨rfl,hM,λb o e=>yT e,Nat.le_of_eq (ue _ _),trivial,λb hb=>absurd (show b∈([]:List Addr) from hb) (by simp),j_,.of_eq hg⟩
  refine codeAny_mono ((F _ QQ (O_ Mp)).run callerA [] r_ H ⟨[.ref a],[]⟩ [.ref a] [.ref a] _ _ hr e0 (Oq r_ (.ref a)) (.cons rfl .nil) (NV H hO hS)) λr s' h=>?_
  cases r with
  |error e=>exact (RP H e s' h).elim
  |ok fl=>
   cases fl with
   |next=>exact False.elim h
   |brk=>exact False.elim h
   |cont=>exact False.elim h
   |ret u=>
    obtain⟨v,H',os,bare,un,PM,r',q⟩:=h;have q':v=.bl true:=q;subst q';obtain rfl:u=Value.bool true:=r';refine⟨rfl,OldK.of_keep λb o e=>?_,os,bare⟩
    cases q:H b with
    |none=>exact un.keep b o e q (by intro z;exact absurd (show b∈([]:List Addr) from z) (by simp)) (by simp)
    |some u=>
     rcases hO b with z|⟨ob,xs,z⟩
     ·rw[q]at z;cases z
     ·have z2:=un.KP b ob _ z;obtain⟨e1,_⟩:=j_ b _ z;obtain⟨e2,_⟩:=PM b _ z2;rw[e]at e1;cases e1;exact e2
 cases hk:K.lookup a with
 |some o=>
  have e:=KX a o hk;rw[ha]at e;cases e;refine core (λ_=>none) (λ_=>.inl rfl) (.inr ⟨_,vs.toArray,_,hk,rfl,rfl,rfl,by rw[Jx,PL];exact hl,by simpa using rv⟩) (λb u z=>by have z':(none:Option HO)=some u:=z;cases z') (λb z=>absurd rfl z) λz=>absurd rfl z
 |none=>
  refine core (λb=>if b=a then some (.u_ {cls:=.type "list",data:=.seq vs.toArray} (.lst (ns.map V.int))) else none) (λb=>?_) (.inl (.inr ⟨{cls:=.type "list",data:=.seq vs.toArray},Jr rfl⟩)) (λb u z=>?_) (λb z=>?_) λ_=>hk
  ·by_cases hb:b=a
   ·exact .inr ⟨_,_,Jr hb⟩
   ·exact .inl (Ji hb)
  ·by_cases hb:b=a
   ·have z':=(Jr hb).symm.trans z;cases z';subst hb;exact⟨ha,by rw[Jo];exact hl,vs,_,rv,ha⟩
   ·have z':=(Ji hb).symm.trans z;cases z'
  ·by_cases hb:b=a
   ·exact hb
   ·exact absurd (Ji hb) z
noncomputable def am(s:Stmt)(j:Nat):Stmt:=match s with
 |.ClassDef _ _ _ body _ _ _ _ _ _ _=>body.getD j (.Pass ⟨0,0,0,0⟩)
 |_=>.Pass ⟨0,0,0,0⟩
noncomputable def d8(s:Stmt):Arguments:=match s with
 |.FunctionDef _ a _ _ _ _ _ _ _ _=>a
 |_=>{posonlyargs:=[],args:=[],vararg:=none,kwonlyargs:=[],kw_defaults:=[],kwarg:=none,defaults:=[]}
noncomputable def cZ(s:Stmt):List Stmt:=match s with
 |.FunctionDef _ _ b _ _ _ _ _ _ _=>b
 |_=>[]
noncomputable def bg(s:Stmt):Scope:=match s with
 |.FunctionDef _ _ _ _ _ _ sc _ _ _=>sc
 |_=>{kind:=.function,names:=[],isGenerator:=false,isCoroutine:=false}
section
variable {K:Ko}
end
section
variable {X:Cx}
end
section
variable {κ:Type} [DecidableEq κ]
end
def DA(h:Heap)(e:Addr)(d:Option Addr):Prop:=∃o,h.get? e=some o/\o.dict=d
theorem j5(f:Array Value->Array Value)(o:Obj):(Obj.mapFields f o).dict=o.dict:=by
 obtain⟨c,d,x,sl⟩:=o;cases x<;>rfl
section
variable {A:Around}{s:Shared}{base:Heap}{env:Env}
theorem rq{oe:Obj}{vs:Array Value}(Mq:A.frames=some (env::outer))(hl:s.heap.FunFrames base (env::outer))(hf:env.frame=some L)(he:s.heap.get? e=some oe)(MM:base.StaysIn s.heap)(Nv:base.get? e=none)
  (hd:oe.data=.fields vs) (hsz:1<vs.size) (h0:vs[0]?=some a0) (k:∀h',Heap.NotedW base (env::outer) e oe.cls a0 (rawInt L) s.heap h'->DA h' e oe.dict->Q () {s with heap:=h'}) :
  wpAny M A (do let fr<-frameOf env;let pl<-entryPlaceOf L hadNext;let t<-EntryCells.newEntry head fr .none (rawInt L) .none pl;setField (.ref e) 1 t) Q E s:=by
 have Tb:e∉(env::outer).filterMap (·.frame):=λz=>by
  obtain⟨_,o,ho,nf⟩:=hl.mem z;cases he.symm.trans ho;exact nf vs hd
 refine Je (wpAny_frameOf_fun Mq hl hf λg1 Ot=>Je (wpAny_entryPlaceOf λpl KY=>?_))
 refine Je (JQ ?_ (KY.sizeOk5 _ _ _ _ _));generalize hT:({cls:=.type "traceback",dict:=none,data:=.fields ([head,.ref L,.none,rawInt L,.none]++(if pl.isEmpty then List.replicate 6 Value.none else pl)).toArray}:Obj)=oT
 have e1:g1.get? e=some oe:=(Ot.2.1 e Tb).trans he;have b1:base.StaysIn g1:=λb o q=>(Ot.2.1 b λz=>by rw[(hl.mem z).1]at q;cases q).trans (MM b o q)
 have e2:(g1.push oT).get? e=some oe:=Jj oT e1;refine Kl e2 hd hsz (k _ ?_ ?_)
 ·have ne:g1.objs.size≠e:=Nat.ne_of_gt (Jt e1);have d3:=Ke hd (·.setIfInBounds 1 (Value.ref g1.objs.size));have e3:=JS (Obj.mapFields (·.setIfInBounds 1 (Value.ref g1.objs.size))) e2 (Obj.isFreed_of_fields d3);have t3:(g1.push oT).get? g1.objs.size=some oT:=Jp g1 (by rw[<-hT];rfl)
  have t4:((g1.push oT).update e (Obj.mapFields (·.setIfInBounds 1 (Value.ref g1.objs.size)))).get? g1.objs.size=some oT:=(Jy _ _ (Jv ne)).trans t3;have stay:∀b o,b≠e->g1.get? b=some o->((g1.push oT).update e (Obj.mapFields (·.setIfInBounds 1 (Value.ref g1.objs.size)))).get? b=some o:=λb o n q=>
   (Jy _ _ (Jv n)).trans (Jj oT q)
  have Nl:∀b o,s.heap.get? b=some o->(∀ws,o.data≠.fields ws)->b≠e:=λb o q nf z=>by
   subst z;cases he.symm.trans q;exact nf vs hd
  refine⟨λb o q=>stay b o (λz=>by rw[z,Nv]at q;cases q) (b1 b o q),hl.of_keeps λb o q nf=>?_,⟨_,_,g1.objs.size,oT,_,e3,⟨Obj.cls_mapFields _ _,?_⟩,d3,by simp[hsz],b1.fresh,ne,t4,by rw[<-hT],?_⟩,λb o q nf=>?_⟩
  ·obtain⟨sl,z⟩:=Ot.2.2 b o q;exact⟨_,stay b _ (Nl b o q nf) z,rfl⟩
  ·rw[Array.getElem?_setIfInBounds_ne (by decide)];exact h0
  ·first|(simp;done)|(rcases KY with rfl|⟨_,_,_,_,_,_,_,rfl⟩<;>simp)
  ·obtain⟨sl,z⟩:=Ot.2.2 b o q;exact⟨sl,stay b _ (Nl b o q nf) z⟩
 ·have d3:=Ke hd (·.setIfInBounds 1 (Value.ref g1.objs.size));exact⟨_,JS (Obj.mapFields (·.setIfInBounds 1 (Value.ref g1.objs.size))) e2 (Obj.isFreed_of_fields d3),j5 _ _⟩
theorem n6(MM:base.StaysIn s.heap)(hl:s.heap.FunFrames base l)(ht:s.heap.TracedAtW base e cls a0 fl)(hd:DA s.heap e d)
  (k:∀h',base.StaysIn h'->h'.FunFrames base l->h'.TracedW base e cls a0->s.heap.UpToSlots h'->DA h' e d->Q () {s with heap:=h'}):wpAny M A (setFlight (.ref e) none) Q E s:=by
 obtain⟨oe,vs,T,oT,ts,he,hc,hv,h1,nT,ne,hT,dT,h3⟩:=ht;obtain⟨RQ,Ou,hd⟩:=hd;cases he.symm.trans Ou;have sz:3<ts.size:=(Kg.mp h3).1;refine Je (Ka he hv h1 ?_);have MN:∀b,b≠T->(s.heap.update T (Obj.mapFields (·.setIfInBounds 3 ((none:Option Addr).elim Value.none λf=>rawInt f)))).get? b=s.heap.get? b:=λb n=>Jy _ _ (Jv n)
 have plain:∀b o,s.heap.get? b=some o->(∀ws,o.data≠.fields ws)->b≠T:=λb o q nf z=>by
  subst z;cases hT.symm.trans q;exact nf ts dT
 have ee:=(MN e (Jv ne)).trans he;refine Kl hT dT sz (k _ (λb o q=>(MN b λz=>by rw[z,nT]at q;cases q).trans (MM b o q)) (hl.of_keeps λb o q nf=>⟨o,(MN b (plain b o q nf)).trans q,rfl⟩) ⟨oe,vs,T,_,_,ee,hc,hv,h1,nT,ne,JS _ hT (Obj.isFreed_of_fields (Ke dT _)),Ke dT _,by simp[sz]⟩
  (λb o q nf=>⟨o.slots,(MN b (plain b o q nf)).trans q⟩) ⟨oe,ee,hd⟩)
theorem AQ(Mq:A.frames=some (env::outer))(hf:env.frame=some L)(fl:Heap.FlyingW base (env::outer) e cls a0 s.heap)(hd:DA s.heap e d)
  (k:∀h',Heap.HeldW base (env::outer) e cls a0 L h'->s.heap.UpToSlots h'->DA h' e d->Q () {s with heap:=h'}):wpAny M A (noteFrame (.ref e) env) Q E s:=by
 obtain⟨MM,Nv,hl,oe,vs,T,oT,ts,he,⟨rfl,h0⟩,hv,h1,nT,ne,hT,dT,h3⟩:=fl;obtain⟨RQ,Ou,rfl⟩:=hd;cases he.symm.trans Ou;unfold noteFrame;simp only[hf];refine Je (Ka he hv h1 ?_);refine Je (Ka hT dT h3 ?_);refine Je (Kl hT dT (Kg.mp h3).1 ?_);have MN:∀b,b≠T->(s.heap.update T (Obj.mapFields (·.setIfInBounds 3 Value.none))).get? b=s.heap.get? b:=λb n=>Jy _ _ (Jv n)
 have plain:∀b o,s.heap.get? b=some o->(∀ws,o.data≠.fields ws)->b≠T:=λb o q nf z=>by
  subst z;cases hT.symm.trans q;exact nf ts dT
 exact rq Mq (hl.of_keeps λb o q nf=>⟨o,(MN b (plain b o q nf)).trans q,rfl⟩) hf ((MN e (Jv ne)).trans he) (λb o q=>(MN b λz=>by rw[z,nT]at q;cases q).trans (MM b o q)) Nv hv (Kg.mp h1).1 h0
  λh' ⟨x1,x2,x3,x4⟩ dd=>k h' ⟨x1,Nv,x2,x3⟩ (λb o q nf=>x4 b o ((MN b (plain b o q nf)).trans q) nf) dd
theorem xq(hh:Heap.HeldW base l e cls a0 L s.heap)(hd:DA s.heap e d)(k:∀h',Heap.FlyingW base l e cls a0 h'->s.heap.UpToSlots h'->DA h' e d->Q () {s with heap:=h'}):wpAny M A (setFlight (.ref e) none) Q E s:=
 n6 hh.1 hh.2.2.1 hh.2.2.2 hd λh' k1 k2 k3 k4 k5=>k h' ⟨k1,hh.2.1,k2,k3⟩ k4 k5
theorem fc{h:Heap}(x:h.FunFrames base (env::outer)):h.FunFrames base outer:=x.2.2
theorem wR(Mq:A.frames=some (env::outer))(hf:env.frame=some L)(fl:Heap.FlyingW base (env::outer) e cls a0 s.heap)(hd:DA s.heap e d)
  (k:∀h',Heap.FlyingW base outer e cls a0 h'->s.heap.UpToSlots h'->DA h' e d->Q () {s with heap:=h'}):wpAny M A (leaving env (.ref e)) Q E s:=by
 refine Je (AQ Mq hf fl hd λh1 x1 u1 d1=>xq x1 d1 λh2 x2 u2 d2=>k h2 ⟨x2.1,x2.2.1,fc x2.2.2.1,x2.2.2.2⟩ (u1.trans u2) d2)
theorem xx{oe:Obj}(Mq:A.frames=some (env::outer))(hf:env.frame=some L)(MM:base.StaysIn s.heap)(hl:s.heap.FunFrames base (env::outer))(he:s.heap.get? e=some oe)(Nv:base.get? e=none)(hv:oe.data=.fields vs)(h0:vs[0]?=some a0)(h1:vs[1]?=some .none)
  (k:∀h',Heap.FlyingW base outer e oe.cls a0 h'->s.heap.UpToSlots h'->DA h' e oe.dict->Q () {s with heap:=h'}):wpAny M A (leaving env (.ref e)) Q E s:=by
 unfold leaving noteFrame;simp only[hf];refine Je (Je (Ka he hv h1 ?_));refine rq Mq hl hf he MM Nv hv (Kg.mp h1).1 h0 λh1 x1 d1=>?_
 exact n6 x1.1 x1.2.1 x1.2.2.1 d1 λh2 k1 k2 k3 k4 k5=>k h2 ⟨k1,Nv,fc k2,k3⟩ (Heap.UpToSlots.trans x1.2.2.2 k4) k5
end
section
variable {h h':Heap}{o:HO}
theorem ObjOk.isAt(x:ObjOk P w H h a o):∃ob,h.get? a=some ob:=by
 cases o with
 |lst xs=>obtain⟨_,_,_,_,e⟩:=x;exact⟨_,e⟩
 |tup xs=>obtain⟨_,_,_,ob,e,_⟩:=x;exact⟨_,e⟩
 |set S n=>obtain⟨ob,_,_,_,e,_⟩:=x;exact⟨_,e⟩
 |ins C dx fs=>obtain⟨_,_,_,e,_⟩:=x;exact⟨_,e⟩
 |own y=>exact x
 |xd fs=>obtain⟨_,⟨ob,_,_,e,_⟩,_⟩:=x;exact⟨_,e⟩
 |rng lo hi=>obtain⟨_,_,_,e⟩:=x;exact⟨_,e⟩
 |u_ ob u=>exact⟨_,x.1⟩
 |My ps=>exact⟨_,x⟩
 |met f y=>exact⟨_,x⟩
 |ext φ=>exact x.2.1
 |_=>obtain⟨_,_,_,_,ob,_,_,e,_⟩:=x;exact⟨_,e⟩
theorem HOk.keptT(x:HOk P w H h)(k:∀b u ob,H b=some u->h.get? b=some ob->h'.get? b=some ob):HOk P w H h':=λa o e=>
 (x a o e).stay (λb u hb q=>hb.elim (λz=>by subst z;exact k _ _ _ e q) (λz=>k _ _ _ z q)) (λ_ q=>q) λ_ _ q=>q
end
def Fly(B:Heap)(l:List Env)(a:Addr)(cls:Value)(h:Heap):Prop:=∃a0,Heap.FlyingW B l a cls a0 h
def Within(B:Heap)(l:List Env)(hs:Heap)(H':Hp)(h':Heap):Prop:=
 ∀b ob,h'.get? b=some ob->(H' b≠none\/((∃o',hs.get? b=some o')/\b∉frs l))->B.get? b=some ob
noncomputable def CX1(P:Program)(w:World):CXT:=λouter H s E e s'=>
 ∃(a:Addr) (cls:Value) (B:Heap) (H':Hp) (dx:Option Addr),e=.ref a/\s'.os=s.os/\AllBare s'.gens/\Un (frs outer) [] H H' s.heap s'.heap/\HOk P w H' s'.heap/\
  (Fly B outer a cls s'.heap/\DA s'.heap a dx)/\H' a=none/\Within B outer s.heap H' s'.heap/\E cls dx H'
theorem Inv.notrk{s:Shared}(I:Inv X a_ Z H s)(hn:s.heap.get? e=none):H e=none:=by
 cases q:H e with
 |none=>rfl
 |some u=>
  obtain⟨ob,z⟩:=(I.j_ e u q).isAt;rw[hn]at z;cases z
theorem Inv.oldNe{X:Cx}(I:Inv X a_ Z H s)(q:X.s₀.heap.get? b=some o)(hb:b∉X.fs):b∉frs X.stack:=λhm=>by
 rcases Jl.mp (I.stkSub b hm) with z|z
 ·have:=Ju (Jt q) I.ok.above;rw[z]at this;exact absurd this (JY _)
 ·exact hb z
section
variable {K:Ko}{s:Shared}
theorem my{s1:Shared}{oe:Obj}{h':Heap}
  (I:Inv (dC (CX1 P w) P w K mg base N qual scope f cd A outer s H E) a_ Z H1 s1) (hk:∀b o,s1.heap.get? b=some o->b≠e->h'.get? b=some o) (RR:∀o,s1.heap.get? e=some o->∃vs,o.data=.fields vs) (QR:H1 e=none) (Nf:s.heap.get? e=none)
  (Pa:h'.get? e=some oe) (hv:oe.data=.fields vs) (RS:vs[0]?=some a0) (RT:vs[1]?=some .none) (he:E oe.cls oe.dict H1) :
  (dC (CX1 P w) P w K mg base N qual scope f cd A outer s H E).xe (.ref e) {s1 with heap:=h'}:=by
 have Mq:((dC (CX1 P w) P w K mg base N qual scope f cd A outer s H E).A).frames=some (envOfC qual scope s.heap.objs.size f cd::outer):=I.ok.frames;have hl:s1.heap.FunFrames base (envOfC qual scope s.heap.objs.size f cd::outer):=I.stack;have LP:∀env∈(envOfC qual scope s.heap.objs.size f cd::outer),∀b,env.frame=some b->b∈e::frs (envOfC qual scope s.heap.objs.size f cd::outer):=λenv he b hb=>Jg _ (List.mem_filterMap.mpr ⟨env,he,hb⟩)
 have hB:∀b o,(PySem.W.hideAll s1.heap (e::frs (envOfC qual scope s.heap.objs.size f cd::outer))).get? b=some o->s1.heap.get? b=some o/\b≠e:=λb o q=>⟨PySem.W.of_hideAll _ q,λz=>by
  subst z;rw[PySem.W.hideAll_none _ Jk]at q;cases q⟩
 have RU:s1.heap.FunFrames (PySem.W.hideAll s1.heap (e::frs (envOfC qual scope s.heap.objs.size f cd::outer))) (envOfC qual scope s.heap.objs.size f cd::outer):=PySem.W.funFrames_hide hl LP;show wpAny _ _ (leaving _ _) _ _ _;refine xx (base:=PySem.W.hideAll s1.heap (e::frs (envOfC qual scope s.heap.objs.size f cd::outer))) Mq rfl (λb o q=>hk b o (hB b o q).1 (hB b o q).2) (RU.of_keeps λb o q nf=>⟨o,hk b o q (λz=>by
  subst z;obtain⟨ws,dw⟩:=RR o q;exact nf ws dw),rfl⟩) Pa (PySem.W.hideAll_none _ Jk) hv RS RT λh2 fl up dd=>?_
 have tB:∀b u ob,H1 b=some u->s1.heap.get? b=some ob->(PySem.W.hideAll s1.heap (e::frs (envOfC qual scope s.heap.objs.size f cd::outer))).get? b=some ob:=λb u ob hb q=>
  PySem.W.hideAll_get _ q λhm=>by
   rcases Jl.mp hm with z|hm
   ·rw[z,QR]at hb;cases hb
   ·have z:=I.stkFree b hm;rw[hb]at z;cases z
 have one:∀b o,s.heap.get? b=some o->b≠e:=λb o q z=>by rw[z,Nf]at q;cases q
 have oB:∀b o ob,s.heap.get? b=some o->b∉frs outer->s1.heap.get? b=some ob->(PySem.W.hideAll s1.heap (e::frs (envOfC qual scope s.heap.objs.size f cd::outer))).get? b=some ob:=λb o ob q hb q1=>
  PySem.W.hideAll_get _ q1 λhm=>(Jl.mp hm).elim (one b o q) (I.oldNe q hb)
 have st:=fl.1;have slot:∀b o,s.heap.get? b=some o->H b=none->b∈frs outer->∃sl,h2.get? b=some {o with slots:=sl}:=λb o q n hb=>by
  obtain⟨sl,e1⟩:=I.base.slot b o q n hb (λz=>nomatch z)
  obtain⟨_,o2,e2,nf⟩:=I.ok.funs.mem hb;have e3:o2=o:=JA (e2.symm.trans q);subst e3;obtain⟨Mj,e4⟩:=up b _ (hk _ _ e1 (one b _ q)) nf;exact⟨Mj,e4⟩
 refine⟨e,oe.cls,_,H1,oe.dict,rfl,I.os,I.bare,⟨λb o q n hb _=>?_,λb o q n hb _=>slot b o q n hb,λb o q n _=>I.base.free b o q n (λz=>nomatch z),λb o q _=>?_,I.base.KW,I.base.KP,I.base.K6⟩,?_,⟨⟨_,fl⟩,dd⟩,QR,λb ob q hb=>?_,he⟩
 ·exact st b o (oB b o o q hb (I.base.keep b o q n hb (λz=>nomatch z)))
 ·by_cases hb:b∈frs outer
  ·obtain⟨sl,z⟩:=slot b o q (I.ok.frf b hb) hb;exact⟨_,z⟩
  ·obtain⟨o',e1⟩:=I.base.there b o q (λz=>nomatch z)
   exact⟨o',st b o' (oB b o o' q hb e1)⟩
 ·exact I.j_.keptT λb u ob hb q=>st b ob (tB b u ob hb q)
 ·rcases hb with hb|⟨⟨o',Lx⟩,hb⟩
  ·cases z:H1 b with
   |none=>exact absurd z hb
   |some u=>
    obtain⟨o1,e1⟩:=(I.j_ b u z).isAt;have e2:=tB b u o1 z e1;have e3:o1=ob:=JA ((st b o1 e2).symm.trans q);rw[<-e3];exact e2
  ·obtain⟨o1,e1⟩:=I.base.there b o' Lx (λz=>nomatch z)
   have e2:=oB b o' o1 Lx hb e1;have e3:o1=ob:=JA ((st b o1 e2).symm.trans q);rw[<-e3];exact e2
theorem tI{s1:Shared}
  (I:Inv (dC (CX1 P w) P w K mg base N qual scope f cd A outer s H E) a_ Z H1 s1) (hx:Heap.MadeExcOf s1.heap h' e cls args)(he:E cls none H1) :
  (dC (CX1 P w) P w K mg base N qual scope f cd A outer s H E).xe (.ref e) {s1 with heap:=h'}:=by
 obtain⟨t,e1,_,_⟩:=hx.there;refine my I (λb o q _=>hx.keeps b o q) (λo q=>by rw[hx.new]at q;cases q) (I.notrk hx.new) ?_ e1 rfl rfl rfl he
 cases q:s.heap.get? e with
 |none=>rfl
 |some o=>
  obtain⟨o1,z⟩:=I.base.there e o q (λz=>nomatch z)
  rw[hx.new]at z;cases z
theorem uT(hE:∀c d H',E' c d H'->E c d H')
  (I:Inv (dC (CX1 P w) P w K mg base N qual scope f cd A outer s H E) a_ Z H1 s1) (hc:CX1 P w (envOfC qual scope s.heap.objs.size f cd::outer) H1 s1 E' e s') :
  (dC (CX1 P w) P w K mg base N qual scope f cd A outer s H E).xe e s':=by
 obtain⟨a,cls,B,H2,dx,rfl,os,bare,un,j_,⟨⟨a0,fl⟩,dd⟩,ha,N_,he⟩:=hc;have Mq:((dC (CX1 P w) P w K mg base N qual scope f cd A outer s H E).A).frames=some (envOfC qual scope s.heap.objs.size f cd::outer):=I.ok.frames;show wpAny _ _ (leaving _ _) _ _ _;refine wR Mq rfl fl dd λh2 QS up MC=>?_
 have st:=QS.1;have nil:∀b:Addr,b∉([]:List Addr):=λb z=>nomatch z
 have slot:∀b o,s.heap.get? b=some o->H b=none->b∈frs outer->∃sl,h2.get? b=some {o with slots:=sl}:=λb o q n hb=>by
  obtain⟨sl,e1⟩:=I.base.slot b o q n hb (nil b);obtain⟨Ot,e2⟩:=un.any e1 (I.base.free b o q n (nil b)) (nil b);obtain⟨_,o2,e3,nf⟩:=I.ok.funs.mem hb;have e4:o2=o:=JA (e3.symm.trans q);subst e4;obtain⟨Mj,e5⟩:=up b _ e2 nf;exact⟨Mj,e5⟩
 have old:∀b o,s.heap.get? b=some o->b∉frs outer->∃ob,s'.heap.get? b=some ob/\B.get? b=some ob:=λb o q hb=>by
  obtain⟨o1,e1⟩:=I.base.there b o q (nil b);obtain⟨o2,e2⟩:=un.there b o1 e1 (nil b);exact⟨o2,e2,N_ b o2 e2 (.inr ⟨⟨o1,e1⟩,I.oldNe q hb⟩)⟩
 refine⟨a,cls,B,H2,dx,rfl,os.trans I.os,bare,⟨λb o q n hb _=>?_,λb o q n hb _=>slot b o q n hb,λb o q n _=>?_,λb o q _=>?_,λb xs q=>un.KW b xs (I.base.KW b xs q),λb o u q=>un.KP b o u (I.base.KP b o u q),λb ps q=>?_⟩,?_,⟨⟨a0,QS⟩,MC⟩,ha,λb ob q hb=>?_,hE _ _ _ he⟩
 ·have e1:=I.base.keep b o q n hb (nil b);have e2:=un.keep b o e1 (I.base.free b o q n (nil b)) (I.oldNe q hb) (nil b);exact st b o (N_ b o e2 (.inr ⟨⟨o,e1⟩,I.oldNe q hb⟩))
 ·obtain⟨o1,e1⟩:=I.base.there b o q (nil b);exact un.free b o1 e1 (I.base.free b o q n (nil b)) (nil b)
 ·by_cases hb:b∈frs outer
  ·obtain⟨sl,z⟩:=slot b o q (I.ok.frf b hb) hb;exact⟨_,z⟩
  ·obtain⟨ob,_,e2⟩:=old b o q hb;exact⟨ob,st b ob e2⟩
 ·obtain⟨m1,e1⟩:=I.base.K6 b ps q;obtain⟨m2,e2⟩:=un.K6 b _ e1;exact⟨m1++m2,by rw[e2,Array.append_assoc]⟩
 ·exact j_.keptT λb u ob hb q=>st b ob (N_ b ob q (.inl (by rw[hb];exact λz=>nomatch z)))
 ·rcases hb with hb|⟨⟨o',Lx⟩,hb⟩
  ·cases z:H2 b with
   |none=>exact absurd z hb
   |some u=>
    obtain⟨o1,e1⟩:=(j_ b u z).isAt;have e2:=N_ b o1 e1 (.inl hb);have e3:o1=ob:=JA ((st b o1 e2).symm.trans q);rw[<-e3];exact e2
  ·obtain⟨o1,e1,e2⟩:=old b o' Lx hb;have e3:o1=ob:=JA ((st b o1 e2).symm.trans q);rw[<-e3];exact e2
theorem DG:Be (CX1 P w) (dC (CX1 P w) P w K mg base N qual scope f cd A outer s H E) E:=λ_ _ _ _ _ _ I h=>uT (λ_ _ _ z=>z) I h
theorem Gm:PassesOwn (model P w) (dC (CX1 P w) P w K mg base N qual scope f cd A outer s H E).A (dC (CX1 P w) P w K mg base N qual scope f cd A outer s H E).env (dC (CX1 P w) P w K mg base N qual scope f cd A outer s H E).xe:=
 PassesOwn.leaving
end
def vN(X:Cx)(E:XK):Prop:=∀(a_:List (Addr×Obj)) (Z:St)(H:Hp)(s:Shared)(e:Addr)(cls:Value)(args:List Value)(h':Heap),Inv X a_ Z H s->Heap.MadeExcOf s.heap h' e cls args->E cls none H->X.xe (.ref e) {s with heap:=h'}
def rJ(X:Cx)(E:XK):Prop:=∀(a_:List (Addr×Obj)) (Z:St)(H:Hp)(s:Shared)(e:Addr)(oe:Obj)(vs:Array Value)(a0:Value),Inv X a_ Z H s->H e=none->X.s₀.heap.get? e=none->s.heap.get? e=some oe->oe.data=.fields vs->vs[0]?=some a0->vs[1]?=some .none->E oe.cls oe.dict H->X.xe (.ref e) s
theorem uN{K:Ko} :
  rJ (dC (CX1 P w) P w K mg base N qual scope f cd A outer s H E) E:=λ_ _ _ s1 e oe vs a0 I ht h0 Pa hv v0 v1 he=>my (h':=s1.heap) I (λ_ _ q _=>q) (λo q=>by
 cases Pa.symm.trans q;exact⟨vs,hv⟩) ht h0 Pa hv v0 v1 he
theorem yR{K:Ko} :
  vN (dC (CX1 P w) P w K mg base N qual scope f cd A outer s H E) E:=λ_ _ _ _ _ _ _ _ I hx he=>tI I hx he
abbrev bmV:List Value:=[.type "ValueError",.type "Exception",.type "BaseException",.type "object"]
def Eo(K:Ko)(C:Addr):Prop:=PySem.W.excIn K C bmV "ValueError.__new__"=true
section
variable {X:Cx}
end
def bF(CX:CXT)(X:Cx)(E:St->XK):Prop:=∀(a_:List (Addr×Obj)) (Z:St)(H:Hp)(s:Shared)(e:Value)(s':Shared),Inv X a_ Z H s->CX X.stack H s (E Z) e s'->X.xe e s'
section
variable {X:Cx}{p:Pos}{o:Expr}
end
section
variable {X:Cx}{Z:St}{s1 s':Shared}{B:Heap}
end
noncomputable def GJ(a:Addr)(cls:Value)(dx:Option Addr):HO:=.ext λh=>∃o vs,h.get? a=some o/\o.cls=cls/\o.data=.fields vs/\o.dict=dx
section
variable {X:Cx}{Z:St}{s:Shared}
end
section
variable {X:Cx}
end
section
variable {X:Cx}{c n:Str}{C:Addr}{b0:Stmt}{Ov:List Stmt}{np PN pos:Pos}{aT:List ExceptHandler}{ts:TS}{tr:lf->St->XK}{i:Nat}
end
end L2
namespace L2
open PySem PySem.Spec PySem.Calls PyProof.Rows
noncomputable def Ci(K:Ko)(C:Addr):Bool:=match K.lookup C with
 |some ⟨.type "type",_,.cls k,sl⟩=>(match k.mro with
  |.ref C2::above=>C2 == C&&!k.hasDel&&PySem.W.tailIn K bmV above&&(match sl.toList with
   |[_,_,_,_,some (.builtin mk),_]=>mk == "ValueError.__new__"
   |_=>false)
  |_=>false)
 |_=>false
section
variable {A:Around}{h:Heap}{os:OsState}{K:Ko}
end
section
variable {pos:Pos}
theorem jB{args:List Expr}(h1:(backTo pos (starEach args env)).any (·.1)=false)(h2:args.length<30):methodCallForm (args.length+([]:List Keyword).length) (backTo pos (starEach args env)) (backToKw pos (keywordEach [] env))=true:=by
 unfold methodCallForm;have a:(backTo pos (starEach args env)).all (!·.1)=true:=by
  rw[JE];intro x hx;have:=List.any_eq_false.mp h1 x hx;simpa using this
 rw[a];have:(backToKw pos (keywordEach [] env)).all (·.1.isSome)=true:=rfl;rw[this];have h3:(backToKw pos (keywordEach ([]:List Keyword) env)).isEmpty=true:=rfl;simp only[h3,if_true,List.length_nil,Bool.true_and,Nat.add_zero,Js];exact h2
theorem iK{o_:Pos}{args:List Expr}(hb:attributeBase o m env (eval o env)=eval o env)
  (hf:methodCallForm (args.length+([]:List Keyword).length) (backTo pos (starEach args env)) (backToKw pos (keywordEach [] env))=true) (hl:(o_.endLine == pos.line)=true) :
  eval (.Call (.Attribute o m o_) args [] pos) env=(do
   let ov<-eval o env
   standAt o_.atName
   let (f,first)<-holding [ov] (getMethod ov m (do return (<-importBound o env).getD true))
   callWith pos f first (backTo pos (starEach args env)) (backToKw pos (keywordEach [] env))):=by
 rw[arm_eval_Call,hb];unfold methodCall calleeOf methodCallPos;simp only[hf,hl];rfl
end
noncomputable def FX(e C:Addr):HO:=.ext λh=>∃t0,h.get? e=some {cls:=.ref C,data:=.fields #[.ref t0,.none,.none,.none,.bool false,.none]}
noncomputable def Ep(e C dx:Addr):HO:=.ext λh=>∃t0,h.get? e=some {cls:=.ref C,dict:=some dx,data:=.fields #[.ref t0,.none,.none,.none,.bool false,.none]}
structure XIni (K:Ko)(C fI:Addr)(f:Str):Prop where
 cl:Ci K C=true
 ini:PySem.W.findIn K (.ref C) "__init__"=some (some (.ref fI))
 fn:PySem.W.typeIn K (.ref fI)=some (.type "function")
 sa:PySem.W.findIn K (.ref C) "__setattr__"=some (some (.builtin "object.__setattr__"))
 at_:PySem.W.findIn K (.ref C) f=some none
 hd:PySem.W.hasDictIn K C=true
 ob:PySem.W.mroIn K C (.type "object")=some true
 kp:PySem.W.keepIn K (.ref C)=true
section
variable {X:Cx}{D:Addr}{o_ pos:Pos}
noncomputable def vB(cp:Bool)(K:Ko)(C:Addr)(f:Str):Sp:=λvs H Q _=>∃a v,vs=[.ref a,v]/\H a=some (FX a C)/\(cp=false->∀dx ob,H dx=none->dx≠a->Q .i_ (upd (upd H a (Ep a C dx)) dx (.u_ ob (.xd [(f,v)]))))/\
 (cp=true->∃p ws,v=.ref p/\SqL K H p ws/\∀q dx ob,H q=none->H dx=none->dx≠a->dx≠q->Q .i_ (upd (upd (upd H q (.lst ws)) a (Ep a C dx)) dx (.u_ ob (.xd [(f,.ref q)]))))
end
end L2
namespace L2
open PySem PySem.Spec PyProof.Rows
noncomputable def aR(names:List (Str×NameKind))(cs:List (Str×Addr))(acc:List (Str×Addr)):List (Str×Addr):=match names with
 |[]=>acc
 |(n,k)::r=>if k=.free then (match cs.lookup n with|some c=>aR r cs ((n,c)::acc)|none=>aR r cs acc) else aR r cs acc
theorem bL{cs:List (Str×Addr)}:∀{names:List (Str×NameKind)}{acc:List (Str×Addr)},(∀p∈acc,cs.lookup p.1=some p.2)->∀p∈aR names cs acc,cs.lookup p.1=some p.2
 |[],_,h,p,hp=>h p hp
 |(n,k)::r,acc,h,p,hp=>by
  unfold aR at hp;split at hp
  ·split at hp
   next c e=>
    refine bL (λq hq=>?_) p hp
    rcases Jl.mp hq with z|z
    ·subst z;exact e
    ·exact h q z
   next=>exact bL h p hp
  ·exact bL h p hp
theorem dO:∀{names:List (Str×NameKind)}{acc:List (Str×Addr)}{p:Str×Addr},p∈acc->p∈aR names cs acc
 |[],_,_,h=>h
 |(n,k)::r,acc,p,h=>by
  unfold aR;split
  ·split
   ·exact dO (Jg _ h)
   ·exact dO h
  ·exact dO h
theorem eu{cs:List (Str×Addr)}(e:cs.lookup x=some c):∀{names:List (Str×NameKind)}{acc:List (Str×Addr)},(x,NameKind.free)∈names->(x,c)∈aR names cs acc
 |(n,k)::r,acc,h=>by
  rcases Jl.mp h with z|z
  ·cases z;unfold aR;rw[Jr rfl,e];exact dO Jk
  ·unfold aR;split
   ·split
    ·exact eu e z
    ·exact eu e z
   ·exact eu e z
theorem eU{l:List (Str×Addr)}(h:(x,c)∈l)(u:∀p∈l,p.1=x->p.2=c):l.lookup x=some c:=by
 induction l with
 |nil=>cases h
 |cons p r ih=>
  obtain⟨n,d⟩:=p;by_cases e:x=n
  ·subst e;rw[J5,beq_self_eq_true];exact congrArg some (u (x,d) Jk rfl)
  ·rw[J5];rw[JP.mpr e];rcases Jl.mp h with z|z
   ·cases z;exact absurd rfl e
   ·exact ih z λq hq=>u q (Jg _ hq)
theorem bH{l:List (Str×Addr)}(h:l.lookup x=some c):(x,c)∈l:=PySem.mem_of_lookup h
theorem oj{cs:List (Str×Addr)}(hm:(x,NameKind.free)∈names)(e:cs.lookup x=some c):(aR names cs []).lookup x=some c:=by
 refine eU (eu e hm) λp hp hx=>?_
 have z:=bL (acc:=[]) (λp hp=>nomatch hp) p hp
 rw[hx,e]at z;exact (JA z).symm
theorem tZ{env:Env}(e:env.cells.lookup n=some c):cellOf env n=pure c:=by
 unfold cellOf;rw[e]
theorem lq{scope:Scope}{env:Env}(h:∀y∈scope.names,y.2=.free->∃c,env.cells.lookup y.1=some c):closureFor scope env=pure (aR scope.names env.cells []):=by
 have go:∀(names:List (Str×NameKind)) (acc:List (Str×Addr)),(∀y∈names,y.2=.free->∃c,env.cells.lookup y.1=some c)->
   (forIn names acc λx r=>match x with
    |(n,k)=>if (k == NameKind.free)=true then do let c<-cellOf env n;pure (ForInStep.yield ((n,c)::r)) else pure (ForInStep.yield r):Sem (List (Str×Addr)))=pure (aR names env.cells acc):=by
  intro names
  induction names with
  |nil=>intro acc _;rfl
  |cons y r ih=>
   intro acc hy;obtain⟨n,k⟩:=y;rw[List.forIn_cons];by_cases hk:k=NameKind.free
   ·subst hk;obtain⟨c,e⟩:=hy (n,.free) Jk rfl;simp only[beq_self_eq_true,if_true];rw[tZ e];show (forIn r ((n,c)::acc) _:Sem _)=_;rw[ih _ λz hz=>hy z (Jg _ hz)]
    conv=>rhs;unfold aR
    simp only[if_true,e]
   ·have hb:(k == NameKind.free)=false:=by simpa using hk
    simp only[hb,JW,if_false];show (forIn r acc _:Sem _)=_;rw[ih _ λz hz=>hy z (Jg _ hz)]
    conv=>rhs;unfold aR
    simp only[hk,if_false]
 have e:=go scope.names [] h;show ((forIn scope.names [] λx r=>match x with
    |(n,k)=>if (k == NameKind.free)=true then do let c<-cellOf env n;pure (ForInStep.yield ((n,c)::r)) else pure (ForInStep.yield r):Sem (List (Str×Addr))) >>=λz=>pure z)=_
 rw[e];rfl
theorem aN:∀(names:List (Str×NameKind)) (n:Nat) (acc:List (Str×Addr)),cellsFrom n names acc=cellsFrom n names []++acc
 |[],_,_=>rfl
 |(x,k)::r,n,acc=>by
  unfold cellsFrom;split
  ·rw[aN r (n+1) ((x,n)::acc),aN r (n+1) [(x,n)],List.append_assoc];rfl
  ·exact aN r n acc
theorem aH:∀{names:List (Str×NameKind)}{n:Nat}{p:Str×Addr},p∈cellsFrom n names []->(p.1,NameKind.cell)∈names/\n<=p.2
 |[],_,_,h=>nomatch h
 |(x,k)::r,n,p,h=>by
  unfold cellsFrom at h;split at h
  ·rename_i hk;rw[aN]at h;rcases JI.mp h with z|z
   ·obtain⟨a,b⟩:=aH z;exact⟨Jg _ a,by omega⟩
   ·obtain rfl:=JB.mp z;exact⟨by rw[show k=NameKind.cell from by simpa using hk];exact Jk,Jn _⟩
  ·obtain⟨a,b⟩:=aH h;exact⟨Jg _ a,b⟩
theorem cH:∀{names:List (Str×NameKind)}{n:Nat}{x:Str},(x,NameKind.cell)∈names->∃c,(x,c)∈cellsFrom n names []
 |(y,k)::r,n,x,h=>by
  rcases Jl.mp h with z|z
  ·cases z;unfold cellsFrom;rw[Jr (by rfl),aN]
   exact⟨n,JD _ Jk⟩
  ·unfold cellsFrom;split
   ·obtain⟨c,e⟩:=cH z (n:=n+1);rw[aN];exact⟨c,JR _ e⟩
   ·exact cH z
theorem dY:∀{l:List (Str×Addr)}{x:Str}{c:Addr},(x,c)∈l->∃c',l.lookup x=some c'
 |(y,d)::r,x,c,h=>by
  rw[J5];cases e:x == y with
  |true=>exact⟨d,rfl⟩
  |false=>
   rcases Jl.mp h with z|z
   ·cases z;simp at e
   ·exact dY z
theorem iM
  (hQ:Q {scope:=scope,locals:=s.heap.objs.size,globals:=globals,cells:=cellsFrom (s.heap.objs.size+1) scope.names []++cl,qual:=qual,func:=none,code:=outer.code,frame:=outer.frame,builtins:=outer.builtins} {s with heap:=pushCells (s.heap.push {cls:=.type "dict",data:=.dict #[]}) scope.names}) :
  wpAny M A (newFunctionEnv scope globals cl [] qual none .none (some outer)) Q E s:=by
 simp only[newFunctionEnv,Option.isSome_some,if_true];refine Je (wpAny_alloc ?_);refine Je (wpAny_layCells _ (λname kind cells=>by cases PQ:kind == NameKind.cell<;>simp[PQ]) _ _ _ _ ?_)
 rw[show ({s with heap:=s.heap.push {cls:=.type "dict",data:=.dict #[]}}:Shared).heap.objs.size=s.heap.objs.size+1 from Heap.size_push ..,aN]
 refine Je ?_;rw[List.forIn_nil];exact Jh (Jh hQ)
noncomputable def c6(N:List Str)(js:List (Option Nat))(sc Ml:Scope)(oN:List Str):Bool:=
 N.length == js.length&&decide N.Nodup&&
 (N.zip js).all (λp=>match p.2 with
  |none=>sc.names.lookup p.1 == some .local||sc.names.lookup p.1 == some .cell
  |some j=>oN[j]? == some p.1&&sc.names.contains (p.1,NameKind.free)&&Ml.names.lookup p.1 == some .cell)&&
 decide (sc.names.map (·.1)).Nodup&&sc.names.all (λy=>(y.2 != .free||Ml.names.lookup y.1 == some .cell)&&(y.2 != .local||sc.names.lookup y.1 == some .local))&&(sc.kind == .function)&&(Ml.kind == .function)
noncomputable def kj(js:List (Option Nat))(Z:St):St:=js.map λo=>o.bind λj=>(Z[j]?).bind id
noncomputable abbrev compCx(X:Cx)(scope:Scope)(C:Addr)(N:List Str)(s2:Shared)(H2:Hp)(fp:List Addr)(a_:List (Addr×Obj)):Cx:=
 {X with env:=compEnvC scope (cellsFrom (C+1) scope.names []++aR scope.names X.env.cells []) C X.env,N:=N,s₀:=s2,H₀:=H2,outer:=X.stack,stack:=X.stack,ex:=fp,fn:=λx=>scope.names.lookup x == some .cell,pn:=X.pn++a_,xe:=λ_ _=>False}
theorem g9{env:Env}(hk:env.scope.kind=.function)(hc:env.kindOf x=some .cell):∀{names:List (Str×NameKind)},(x,NameKind.free)∈names->(∀y∈names,y.1=x->y.2=.free)->
  (names.map λ(n,k)=>if (k == .free&&env.scope.kind == .function&&env.kindOf n == some .cell) then (n,.cell) else (n,k)).lookup x=some NameKind.cell
 |(n,k)::r,hm,hu=>by
  show List.lookup x ((if (k == NameKind.free&&env.scope.kind == .function&&env.kindOf n == some .cell)=true then (n,NameKind.cell) else (n,k))::_)=_
  by_cases e:x=n
  ·subst e;have ek:k=.free:=hu (x,k) Jk rfl;subst ek;simp only[hk,hc,beq_self_eq_true,Bool.and_self,if_true];rw[J5,beq_self_eq_true]
  ·have NW:(x,NameKind.free)∈r:=by
    rcases Jl.mp hm with z|z
    ·cases z;exact absurd rfl e
    ·exact z
   have ih:=g9 hk hc NW λy hy=>hu y (Jg _ hy)
   split
   ·rw[J5,JP.mpr e];exact ih
   ·rw[J5,JP.mpr e];exact ih
structure CompOk (N:List Str) (js:List (Option Nat)) (sc Ml:Scope)(oN:List Str):Prop where
 len:N.length=js.length
 nd:N.Nodup
 own:∀(i:Nat)(x:Str),N[i]?=some x->js[i]?=some none->sc.names.lookup x=some .local\/sc.names.lookup x=some .cell
 fr:∀(i:Nat)(x:Str)(j:Nat),N[i]?=some x->js[i]?=some (some j)->oN[j]?=some x/\(x,NameKind.free)∈sc.names/\Ml.names.lookup x=some .cell
 ndn:(sc.names.map (·.1)).Nodup
 nf:∀y∈sc.names,y.2=.free->Ml.names.lookup y.1=some .cell
 nl:∀y∈sc.names,y.2=.local->sc.names.lookup y.1=some .local
 k1:sc.kind=.function
 k2:Ml.kind=.function
theorem lQ(h:c6 N js sc Ml oN=true):CompOk N js sc Ml oN:=by
 unfold c6 at h;simp only[Jf,JH,Js,JE,Bool.or_eq_true,bne_iff_ne]at h;obtain⟨⟨⟨⟨⟨⟨h1,h2⟩,h3⟩,h4⟩,h5⟩,h6⟩,h7⟩:=h;have zip:∀(i:Nat)(x:Str)(o:Option Nat),N[i]?=some x->js[i]?=some o->(x,o)∈N.zip js:=λi x o e1 e2=>
  JU (by rw[List.getElem?_zip_eq_some];exact⟨e1,e2⟩)
 refine⟨h1,h2,λi x e1 e2=>?_,λi x j e1 e2=>?_,h4,λy hy e=>?_,λy hy e=>?_,h6,h7⟩
 ·have z:=h3 _ (zip i x _ e1 e2);simpa using z
 ·have z:=h3 _ (zip i x _ e1 e2);simp only[Jf,JH]at z;exact⟨z.1.1,List.contains_iff_mem.mp z.1.2,z.2⟩
 ·rcases (h5 y hy).1 with z|z
  ·exact absurd e z
  ·exact z
 ·rcases (h5 y hy).2 with z|z
  ·exact absurd e z
  ·exact z
theorem eK{env:Env}:∀{names:List (Str×NameKind)},
  (names.map λ(n,k)=>if (k == .free&&env.scope.kind == .function&&env.kindOf n == some .cell) then (n,.cell) else (n,k)).lookup x=some k->∃k',(x,k')∈names/\(k'=k\/k'=.free)
 |[],h=>by cases h
 |(n,k0)::r,h=>by
  have h:List.lookup x ((if (k0 == NameKind.free&&env.scope.kind == .function&&env.kindOf n == some .cell)=true then (n,NameKind.cell) else (n,k0))::_)=_:=h
  by_cases e:x=n
  ·subst e;split at h
   next hc=>
    refine⟨k0,Jk,.inr ?_⟩;have:=(Kn.mp (Kn.mp hc).1).1;simpa using this
   next=>
    rw[J5,beq_self_eq_true]at h;exact⟨k0,Jk,.inl (JA h)⟩
  ·have h':List.lookup x (r.map λ(n,k)=>if (k == .free&&env.scope.kind == .function&&env.kindOf n == some .cell) then (n,.cell) else (n,k))=some k:=by
    split at h
    ·rw[J5,JP.mpr e]at h;exact h
    ·rw[J5,JP.mpr e]at h;exact h
   obtain⟨k',m,z⟩:=eK h';exact⟨k',Jg _ m,z⟩
theorem uf(I:Nat->Shared->Prop)
  (nG:∀n s,I n s->wpAny (model prog w) A (pyNext it) (λr s1=>match r with
   |none=>R (.ok .next) s1
   |some v=>wpAny (model prog w) A (letOwnedTupleGo LM it v) (λ_ s2=>wpAny (model prog w) A (assign LM env v) (λ_ s3=>
     wpAny (model prog w) A (forIn ifs true λc r=>if r=true then do let ok<-isTrue c env (eval c env);pure (ForInStep.yield ok) else pure (ForInStep.yield r)) (λok s4=>
      if ok=true then wpAny (model prog w) A (eval D_ env) (λx s5=>wpAny (model prog w) A (call (.builtin "list.append") [acc,x]) (λ_ s6=>∃m,m<n/\I m s6) (λ_ _=>False) s5) (λ_ _=>False) s4
      else ∃m,m<n/\I m s4) (λ_ _=>False) s3) (λ_ _=>False) s2) (λ_ _=>False) s1) (λ_ _=>False) s)
  (n:Nat)(h:I n s):codeAny (model prog w) A (.compLoop (.ListComp D_ [⟨LM,iter,ifs,0⟩] scope pos) 0 it acc env) R s:=by
 have no:∀{α:Type}{t:Sem α}{Q:α->Shared->Prop}{E:Value->Shared->Prop}{z:Shared},wpAny (model prog w) A t Q (λ_ _=>False) z->wpAny (model prog w) A t Q E z:=λh=>wpAny_noRaise h
 refine codeAny_loop rfl I (λn s hI=>?_) n h
 refine wpAny_noted ?_;refine Je (wpAny_standAt (Je (no (Ki (nG n s hI) (λr s1 h1=>?_) λ_ _ z=>z))))
 cases r with
 |none=>exact Jh h1
 |some v=>
  refine Je (no (Ki h1 (λ_ s2 h2=>?_) λ_ _ z=>z))
  refine Je (no (Ki h2 (λ_ s3 h3=>?_) λ_ _ z=>z))
  refine Je (no (Ki h3 (λok s4 h4=>?_) λ_ _ z=>z))
  cases ok with
  |false=>exact Jh ⟨rfl,h4⟩
  |true=>
   refine Je (Je (no (Ki h4 (λx s5 h5=>?_) λ_ _ z=>z)))
   exact Je (no (Ki h5 (λ_ s6 h6=>Jh (Jh ⟨rfl,h6⟩)) λ_ _ z=>z))
def PIf(X:Cx)(ifs:List Expr)(tt:TT):Prop:=∀(a_:List (Addr×Obj)) (s:Shared)(Z:St)(H:Hp)(Q:Bool->Hp->Prop),Inv X a_ Z H s->tt Z H Q->
 wpAny (model X.prog X.w) X.A (forIn ifs true λc r=>if r=true then do let ok<-isTrue c X.env (eval c X.env);pure (ForInStep.yield ok) else pure (ForInStep.yield r)) (TP X a_ Z Q) X.xe s
noncomputable def tYes:TT:=λ_ H Q=>Q true H
theorem yo:PIf X [] tYes:=λa_ s Z H Q I h=>wpAny_tests_nil ⟨H,I,h⟩
theorem xH(h:PT X c t):PIf X [c] t:=λa_ s Z H Q I q=>wpAny_tests_one (h a_ s Z H Q I q)
noncomputable def rY(js:List (Option Nat))(wi:TI)(g:TG)(tt:TT)(te:TE):TE:=λZ H Q=>wi Z H λJ H1=>∀p,H1 p=none->∃W:Nat->Nat->St->Hp->Prop,(∃m,W 0 m (kj js Z) (upd H1 p (.lst [])))/\
 ∀(i:Nat) m Li H,W i m Li H->(J.stop i H/\Q (.ref p) H)\/(J.go i H/\∀x H',J.yld i H x H'->g x Li H' λLh H2=>tt Lh H2 λb H3=>
  if b=true then te Lh H3 λy H4=>∃ys,H4 p=some (.lst ys)/\ys.length<sizeLine/\∃m',m' < m/\W (i+1) m' Lh (upd H4 p (.lst (ys++[y]))) else ∃m',m' < m/\W (i+1) m' Lh H3)
section
variable {X:Cx}
theorem og(j_:c6 N js scope X.env.scope X.N=true)(B_:X.calm=true)(hi:PI X tg iter wi)
  (hg:∀C s2 H2 fp pn,PG (compCx X scope C N s2 H2 fp pn) tg g) (ht:∀C s2 H2 fp pn,PIf (compCx X scope C N s2 H2 fp pn) ifs tt) (he:∀C s2 H2 fp pn,PE (compCx X scope C N s2 H2 fp pn) D_ te)
  (hs:∀x,foldedSetIterable iter X.env x=pure x) (I:Inv X a_ Z H s)(h:rY js wi g tt te Z H Q)
  (fin:∀(D C:Addr)(s5:Shared)(H4:Hp)(m5:Str->Option Value),s5.heap.Ns C m5->fx X a_ H4 C->(∀h',Heap.SameBut C s5.heap h'->Inv X a_ Z H4 {s5 with heap:=h'})->Q (.ref D) H4->compPost (model X.prog X.w) X.A X.xe use Qf (.ref D) C (.ok .next) s5) :
  wpAny (model X.prog X.w) X.A (comprehension (.ListComp D_ [⟨tg,iter,ifs,0⟩] scope pos) scope X.env K2 (newList []) false (eval iter X.env) use) Qf X.xe s:=by
 have O:=lQ j_;have Mr:∀y∈scope.names,y.2=.free->∃c,X.env.cells.lookup y.1=some c:=λy hy e=>I.ok.has y.1 (.inl (O.nf y hy e))
 refine wpAny_comprehension_free rfl hs (lq Mr) O.k1 O.nl (thn (hi a_ s Z H _ I h) λxv s1 h1=>thn h1 λPx s2 h2=>?_)
 obtain⟨it,fp,tn,J,H2,rfl,I2,T,O6,f2,hQ⟩:=h2;refine JQ (iM ?_);have PR:(s2.heap.push {cls:=.type "list",dict:=none,data:=.seq ([]:List Value).toArray}).objs.size=s2.heap.objs.size+1:=Heap.size_push ..;have QT:((s2.heap.push {cls:=.type "list",dict:=none,data:=.seq ([]:List Value).toArray}).push {cls:=.type "dict",data:=.dict #[]}).objs.size=s2.heap.objs.size+1+1:=by rw[Heap.size_push,PR]
 have Mp:(pushCells ((s2.heap.push {cls:=.type "list",dict:=none,data:=.seq ([]:List Value).toArray}).push {cls:=.type "dict",data:=.dict #[]}) scope.names).Ns (s2.heap.objs.size+1) (λ_=>none):=by
  rw[<-PR];exact (Heap.Ns.new _ (.type "dict")).keeps (pushCells_keeps _ _)
 have keep:∀b o,s2.heap.get? b=some o->(pushCells ((s2.heap.push {cls:=.type "list",dict:=none,data:=.seq ([]:List Value).toArray}).push {cls:=.type "dict",data:=.dict #[]}) scope.names).get? b=some o:=λb o e=>
  pushCells_keeps _ _ b o (Jj _ (Jj _ e))
 have QU:(pushCells ((s2.heap.push {cls:=.type "list",dict:=none,data:=.seq ([]:List Value).toArray}).push {cls:=.type "dict",data:=.dict #[]}) scope.names).get? s2.heap.objs.size=some {cls:=.type "list",data:=.seq ([]:List Value).toArray}:=
  pushCells_keeps _ _ _ _ (Jj _ (Jp _ rfl))
 have Pb:=cellsFrom_ok scope.names ((s2.heap.push {cls:=.type "list",dict:=none,data:=.seq ([]:List Value).toArray}).push {cls:=.type "dict",data:=.dict #[]}) (s2.heap.objs.size+1+1) [] ⟨λ_ _ hm=>(nomatch hm),List.Pairwise.nil⟩ (by rw[QT];exact Jn _)
 rw[QT]at Pb;rw[PR];generalize pushCells ((s2.heap.push {cls:=.type "list",dict:=none,data:=.seq ([]:List Value).toArray}).push {cls:=.type "dict",data:=.dict #[]}) scope.names=Ow at Mp keep QU Pb ⊢;have QV:H2 s2.heap.objs.size=none:=I2.j_.fresh (Jn _);have RV:H2 (s2.heap.objs.size+1)=none:=I2.j_.fresh (Kj _);have RW:s2.heap.objs.size+1≠s2.heap.objs.size:=Nat.succ_ne_self _;obtain⟨W,⟨m0,w0⟩,nG⟩:=hQ s2.heap.objs.size QV;have Lj:∀b∈fp,b<s2.heap.objs.size:=λb hb=>by
  obtain⟨o,e,_⟩:=T.obj 0 _ O6 b hb;exact Jt e
 have lk:∀x c,(cellsFrom (s2.heap.objs.size+1+1) scope.names []++aR scope.names X.env.cells []).lookup x=some c->(x,c)∈cellsFrom (s2.heap.objs.size+1+1) scope.names []\/X.env.cells.lookup x=some c:=λx c e=>by
  rcases JI.mp (bH e) with z|z
  ·exact .inl z
  ·exact .inr (bL (acc:=[]) (λp hp=>nomatch hp) _ z)
 have old:∀x c,X.env.cells.lookup x=some c->c<s2.heap.objs.size:=λx c e=>by
  obtain⟨v,o,ho,hd⟩:=I2.cell x c e;exact Jt ho
 have cne:∀b∈fp,∀x c,(cellsFrom (s2.heap.objs.size+1+1) scope.names []++aR scope.names X.env.cells []).lookup x=some c->c≠b:=λb hb x c e=>by
  rcases lk x c e with z|z
  ·have a1:=(aH z).2;exact Nat.ne_of_gt (Ju (Lj b hb) (JF (Kk _ 2) a1))
  ·exact (f2 b hb).2.2.2.2.1 x c z
 let Xc:Cx:=compCx X scope (s2.heap.objs.size+1) N s2 H2 fp a_
 have RX:Xc.Ok:=by
  refine⟨I2.ok.mod,O.k1,I2.ok.glob,I2.ok.blt,Kj _,λx y c e1 e2=>?_,λx hx=>?_,λx c e1 e2=>?_,I2.ok.hd,I2.ok.frames,.inl rfl,λb hb=>?_,I2.bs,JF I2.ok.bsz I2.sz,λb o e hb=>?_,λb hb hm=>?_,I2.stack,I2.stkFree⟩
  ·rcases lk x c e1 with z1|z1<;>rcases lk y c e2 with z2|z2
   ·exact name_of_addr Pb.apart z1 z2
   ·have a1:=(aH z1).2;exact absurd (Ju (old _ _ z2) (JF (Kk _ 2) a1)) (JY _)
   ·have a1:=(aH z2).2;exact absurd (Ju (old _ _ z1) (JF (Kk _ 2) a1)) (JY _)
   ·exact I2.ok.inj x y c z1 z2
  ·have hx:(relabel scope X.env).names.lookup x=some .cell\/(relabel scope X.env).names.lookup x=some .free:=hx;have key:(x,NameKind.free)∈scope.names\/(x,NameKind.cell)∈scope.names:=by
    rcases hx with hx|hx
    ·obtain⟨k',m,z⟩:=eK hx;rcases z with z|z
     ·subst z;exact .inr m
     ·subst z;exact .inl m
    ·obtain⟨k',m,z⟩:=eK hx;rcases z with z|z<;>(subst z;exact .inl m)
   rcases key with key|key
   ·obtain⟨c,e⟩:=Mr _ key rfl;exact dY (JD _ (bH (oj key e)))
   ·obtain⟨c,e⟩:=cH key;exact dY (JR _ e)
  ·have e1:scope.names.lookup x=some .cell:=JH.mp e1;obtain⟨c1,h1⟩:=cH (PySem.mem_of_lookup e1);obtain⟨c2,h2⟩:=dY h1;have e2:(cellsFrom (s2.heap.objs.size+1+1) scope.names []++aR scope.names X.env.cells []).lookup x=some c:=e2;rw[List.lookup_append,h2]at e2;cases e2;have a1:=(aH (bH h2)).2;exact JF (Kk _ 2) a1
  ·exact⟨JG (Nat.lt_succ_of_lt (Lj b hb)),λx c e=>cne b hb x c e⟩
  ·rcases (f2 b hb).2.2.2.1 with z|z
   ·exact I2.ok.noex b o e z
   ·exact absurd (Ju (Jt e) (JF I2.ok.bsz z)) (JY _)
  ·rcases Jl.mp (I2.stkSub b hm) with z|z
   ·exact (f2 b hb).2.1 z
   ·exact (f2 b hb).2.2.1 z
 have I3:Inv Xc [] (kj js Z) (upd H2 s2.heap.objs.size (.lst [])) {s2 with heap:=Ow}:=by
  refine⟨RX,rfl,I2.bare,Un.laid keep (Jn _) QV,⟨_,Mp,λi x v e1 e2 e3=>?_⟩,λx c e=>?_,?_,λx c e=>?_,λp hp=>?_,?_,?_⟩
  ·have e2:(js.map λo=>o.bind λj=>(Z[j]?).bind id)[i]?=some (some v):=e2
   rw[Jq]at e2;cases q:js[i]? with
   |none=>rw[q]at e2;cases e2
   |some o=>
    rw[q]at e2;cases o with
    |none=>cases e2
    |some j=>
     obtain⟨a1,a2,a3⟩:=O.fr i x j e1 q;have hv:Z[j]?=some (some v):=by
      cases z:Z[j]? with
      |none=>rw[Option.map_some,Option.bind_some,z]at e2;cases e2
      |some y=>
       rw[Option.map_some,Option.bind_some,z]at e2;rw[show y=some v from JA e2]
     obtain⟨m,hn,hl⟩:=I2.loc;obtain⟨u,r,l⟩:=hl j x v a1 hv (.inr (.inl a3));refine⟨u,r,?_⟩;rcases l with ⟨k,_⟩|⟨k,c,e,o,ho,hd⟩
     ·rw[show X.env.kindOf x=some .cell from a3]at k;cases k
     ·have only:∀y∈scope.names,y.1=x->y.2=.free:=λy hy PU=>?_
      ·refine .inr ⟨.inl (g9 I2.ok.kind a3 a2 only),c,eU (JD _ (bH (oj a2 e))) (λp hp hx=>?_),o,keep _ _ ho,hd⟩
       rcases JI.mp hp with z|z
       ·have:=only _ (aH z).1 hx;cases this
       ·have z:=bL (acc:=[]) (λp hp=>nomatch hp) p z
        rw[hx,e]at z;exact (JA z).symm
      obtain⟨i1,h1,Pc⟩:=List.mem_iff_getElem.mp hy;obtain⟨i2,h2,Ox⟩:=List.mem_iff_getElem.mp a2;have:i1=i2:=by
       refine (List.getElem_inj (h₀:=by rw[Jo];exact h1) (h₁:=by rw[Jo];exact h2) O.ndn).mp ?_
       rw[List.getElem_map,List.getElem_map,Pc,Ox];exact PU
      subst this;rw[Pc]at Ox;rw[Ox]
  ·rcases lk x c e with z|z
   ·exact⟨none,(Pb.empty x c z).1⟩
   ·obtain⟨v,o,ho,hd⟩:=I2.cell x c z;exact⟨v,o,keep _ _ ho,hd⟩
  ·show upd H2 _ _ (s2.heap.objs.size+1)=none;rw[ai RW];exact RV
  ·rcases lk x c e with z|z
   ·have a1:=(aH z).2;rw[ai (Nat.ne_of_gt (Ju (Nat.lt_add_of_pos_right (by decide:0<2)) a1))]
    exact I2.j_.fresh (JF (Kk _ 2) a1)
   ·have a2:=old _ _ z;rw[ai (JG a2)];exact I2.freeC x c z
  ·have hp:p∈X.pn++a_:=by rw[JZ]at hp;exact hp
   obtain⟨e,n,ne,nf,d⟩:=I2.pin p hp;refine⟨keep _ _ e,by rw[ai (JG (Jt e))];exact n,JG (Nat.lt_succ_of_lt (Jt e)),λhm=>?_,d⟩
   rcases Jl.mp (I2.stkSub _ hm) with z|z
   ·exact ne z
   ·exact nf z
  ·exact I2.j_.laid keep (Jn _) ⟨Nat.zero_le _,[],0,.nil,QU⟩
  ·show (js.map _).length=N.length;rw[Jo,O.len]
 have PV:∀{H':Hp},(∀b∈fp,H' b=none)->∀b∈fp,fx Xc [] H' b:=λ{H'} hn b hb=>by
  refine⟨hn b hb,JG (Nat.lt_succ_of_lt (Lj b hb)),λhm=>?_,.inl hb,λx c e=>cne b hb x c e,λp hp=>(f2 b hb).2.2.2.2.2 p (by rw[JZ]at hp;exact hp)⟩
  rcases Jl.mp (I2.stkSub b hm) with z|z
  ·exact (f2 b hb).2.1 z
  ·exact (f2 b hb).2.2.1 z
 have Oh:tn 0 Ow:=T.keep 0 _ _ O6 λb hb o e=>keep b o e
 have O7:∀b∈fp,(upd H2 s2.heap.objs.size (.lst [])) b=none:=λb hb=>by
  rw[ai (JG (Lj b hb))];exact (f2 b hb).1
 have O0:codeAny (model X.prog X.w) X.A (.compLoop (.ListComp D_ [⟨tg,iter,ifs,0⟩] scope pos) 0 (.ref it) (.ref s2.heap.objs.size) (compEnvC scope (cellsFrom (s2.heap.objs.size+1+1) scope.names []++aR scope.names X.env.cells []) (s2.heap.objs.size+1) X.env))
   (compPost (model X.prog X.w) X.A X.xe use Qf (.ref s2.heap.objs.size) (s2.heap.objs.size+1)) {s2 with heap:=Ow}:=by
  refine uf (λn s'=>∃i Li H',Inv Xc [] Li H' s'/\tn i s'.heap/\(∀b∈fp,H' b=none)/\W i n Li H') ?_ m0 ⟨0,_,_,I3,Oh,O7,w0⟩
  rintro n s4 ⟨i,Li,H4,I4,QW,QX,w4⟩;rcases nG i n Li H4 w4 with ⟨stop,q⟩|⟨go,step⟩
  ·refine thn (T.done Xc rfl rfl rfl B_ i [] s4 Li H4 (λ_ _=>False) I4 (PV QX) QW stop) λr s5 ⟨hr,I5⟩=>?_
   subst hr;obtain⟨m5,RY,_⟩:=I5.loc;have Nw:Un (frs X.stack) fp H2 H4 s2.heap s5.heap:=I5.base;have M_:∀b o,s2.heap.get? b=some o->b≠s2.heap.objs.size+1:=λb o e=>JG (Nat.lt_succ_of_lt (Jt e))
   have fC:H4 (s2.heap.objs.size+1)=none:=I5.free;refine fin _ _ _ H4 m5 RY (I2.fpOk (Kj _) fC) (λh' Ly=>?_) q
   refine I2.call' I5.os ⟨λb o q n hb hx=>(Ly.2 b (M_ b o q)).trans (Nw.keep b o q n hb hx),λb o q n hb hx=>?_,Nw.free,λb o q hx=>?_,Nw.KW,Nw.KP,Nw.K6⟩ ?_ I5.bare (λb hb=>⟨(f2 b hb).2.2.2.1,(f2 b hb).2.1,(f2 b hb).2.2.2.2.1,(f2 b hb).2.2.2.2.2⟩)
   ·obtain⟨sl,z⟩:=Nw.slot b o q n hb hx;exact⟨sl,(Ly.2 b (M_ b o q)).trans z⟩
   ·obtain⟨o',z⟩:=Nw.there b o q hx;exact⟨o',(Ly.2 b (M_ b o q)).trans z⟩
   ·exact I5.j_.keptT λb u ob hb q=>(Ly.2 b λz=>by rw[z,fC]at hb;cases hb).trans q
  ·refine thn (T.item Xc rfl rfl rfl B_ i [] s4 Li H4 (λ_ _=>False) I4 (PV QX) QW go) λr s5 z_=>?_
   obtain⟨u,hr,h5⟩:=z_;subst hr;refine thn h5 λ_ s6 z_=>?_
   obtain⟨x,H6,I6,r6,y6,PX,RZ⟩:=z_;have R0:=I6.pinned (PV RZ) (T.obj _ _ PX);refine thn (hg _ _ _ _ _ _ s6 Li H6 x u _ R0 r6 (step x H6 y6)) λ_ s7 z_=>?_
   obtain⟨LO,H7,I7,q7⟩:=z_;refine thn (ht _ _ _ _ _ _ s7 LO H7 _ I7 q7) λok s8 z_=>?_
   obtain⟨H8,I8,q8⟩:=z_;have b_:∀{H9:Hp}{s9:Shared}{PY:St},Inv Xc ([]++k9 fp s6.heap) PY H9 s9->Inv Xc [] PY H9 s9/\tn (i+1) s9.heap/\∀b∈fp,H9 b=none:=λ{H9 s9 PY} I9=>by
    refine⟨I9.unpinned,T.keep _ _ _ PX λb hb o e=>(I9.pin (b,o) (JD _ (JD _ (ef hb e)))).1,λb hb=>?_⟩
    obtain⟨o,e,d⟩:=T.obj _ _ PX b hb;exact (I9.pin (b,o) (JD _ (JD _ (ef hb e)))).2.1
   cases ok with
   |false=>
    obtain⟨m',hm,w8⟩:=q8;obtain⟨b1,b2,b3⟩:=b_ I8;exact⟨m',hm,i+1,LO,H8,b1,b2,b3,w8⟩
   |true=>
    refine thn (he _ _ _ _ _ _ s8 LO H8 _ I8 q8) λy s9 z_=>?_
    obtain⟨z,H9,I9,r9,ys,e9,hl,m',hm,w9⟩:=z_;refine thn (mC _ s9 LO H9 (.ref s2.heap.objs.size) [z] (.ref s2.heap.objs.size) [y] (λ_ QY=>QY=upd H9 s2.heap.objs.size (.lst (ys++[z]))) I9 rfl (.cons r9 .nil) ⟨_,ys,z,rfl,rfl,e9,hl,rfl⟩) λ_ Th z_=>?_
    obtain⟨_,QY,R1,_,R4⟩:=z_;subst R4;obtain⟨b1,b2,b3⟩:=b_ R1;exact⟨m',hm,i+1,LO,_,b1,b2,b3,w9⟩
 exact codeAny_compStart_list O0 (T.self _ 0 _ _ _ Oh O0)
theorem rG(j_:c6 N js scope X.env.scope X.N=true)(B_:X.calm=true)(hi:PI X tg iter wi)
  (hg:∀C s2 H2 fp pn,PG (compCx X scope C N s2 H2 fp pn) tg g) (ht:∀C s2 H2 fp pn,PIf (compCx X scope C N s2 H2 fp pn) ifs tt) (he:∀C s2 H2 fp pn,PE (compCx X scope C N s2 H2 fp pn) D_ te)
  (hs:∀x,foldedSetIterable iter X.env x=pure x:=by intro _;rfl):PE X (.ListComp D_ [⟨tg,iter,ifs,0⟩] scope pos) (rY js wi g tt te):=λa_ s Z H Q I h=>by
 exact og j_ B_ hi hg ht he hs I h λD C s5 H4 m5 hn _ key q=>⟨m5,hn,λh' Ng=>⟨.ref D,H4,key h' Ng,rfl,q⟩⟩
theorem k7{spos:Pos}(hN:X.N.Nodup)(hy:X.N[i]?=some y)(hl:X.env.scope.names.lookup y=some .local)(j_:c6 N js scope X.env.scope X.N=true)(B_:X.calm=true)(hi:PI X tg iter wi)
  (hg:∀C s2 H2 fp pn,PG (compCx X scope C N s2 H2 fp pn) tg g) (ht:∀C s2 H2 fp pn,PIf (compCx X scope C N s2 H2 fp pn) ifs tt) (he:∀C s2 H2 fp pn,PE (compCx X scope C N s2 H2 fp pn) D_ te)
  (hs:∀x,foldedSetIterable iter X.env x=pure x) (Nx:swapsWith (.ListComp D_ [⟨tg,iter,ifs,0⟩] scope pos) (some (.Name y py)) spos.line X.env=pure true) :
  PS X (.Assign [.Name y py] (.ListComp D_ [⟨tg,iter,ifs,0⟩] scope pos) spos) (Cq (rY js wi g tt te) (qY i)):=by
 intro a_ s Z H D I h;rw[exec_Assign_Name_used _ _ _ _ Nx];refine Je (wpAny_standAt (Je ?_));refine Je (Ki (og j_ B_ hi hg ht he hs I h λDa C s5 H4 m5 hn fp key q=>?_) (λ_ s' hq=>Jh (Jh hq)) λ_ _ z=>z)
 have J:Inv X a_ Z H4 s5:=key s5.heap (Heap.SameBut.refl _ _);obtain⟨oC,es,ep,eC,rC⟩:=id hn;obtain⟨f0,f1,f2,f3,f4,f5⟩:=id fp;have JC:Inv X (a_++[(C,oC)]) Z H4 s5:=J.pins_of λp hp=>by
  rcases JI.mp hp with z|z
  ·exact J.pin p (JD _ z)
  ·have e:p=(C,oC):=by simpa using z
   subst e;exact⟨eC,f0,f1,f2,λv hv=>by
    have z:=rC.1;rw[show oC.data=.cell v from hv]at z;cases z⟩
 refine thn ((jx hN hy (.inl hl) (.inr hl)) _ s5 Z H4 (.ref Da) (.ref Da) (λl_ H'=>H'=H4/\D.nx l_ H') JC rfl ⟨rfl,q⟩) λ_ s6 z_=>?_
 obtain⟨LD,H6,I6,e6,q6⟩:=z_;subst e6;have R5:s6.heap.get? C=some oC:=(I6.pin (C,oC) (JD _ (JD _ (by simp)))).1
 refine⟨m5,hn.at' λo e=>?_,λh' Ly=>⟨LD,H6,?_,q6⟩⟩
 ·rw[eC]at e;cases e;exact R5
 ·exact (Inv.unpinned I6).turned (λb o hb e=>(Ly.2 b hb).trans e) f0 f1 f3 f4 f5
end
end L2
namespace L2
open PySem PySem.Spec PySem.Calls PyProof.Rows PySem.W PySem.Builtin PySem.Builtin.ObjectAttr PySem.Builtin.Getset_descriptor
section
variable {h:Heap}{os:OsState}{o:Obj}{K:Ko}
variable (Ti:findIn K (.ref C) "__getattribute__"=some (some (.builtin "BaseException.__getattribute__"))) (Tj:findIn K (.ref C) "__getattr__"=some none) (QZ:findIn K (.ref C) "__class__"=some (some (.builtin "object.__class__")))
 (hn:specialIn K (.builtin "object.__class__") "__get__"=some (some (.builtin "getset_descriptor.__get__"))) (R6:takesIn K (.builtin "object.__class__")=some true) (hm:mroIn K C (.type "object")=some true) (Tn:mroIn K C (.type "BaseException")=some true)
end
structure ExcI (K:Ko)(C:Addr):Prop where
 hd:PySem.W.hasDictIn K C=true
 ga:findIn K (.ref C) "__getattribute__"=some (some (.builtin "BaseException.__getattribute__"))
 gn:findIn K (.ref C) "__getattr__"=some none
 cl:findIn K (.ref C) "__class__"=some (some (.builtin "object.__class__"))
 n:specialIn K (.builtin "object.__class__") "__get__"=some (some (.builtin "getset_descriptor.__get__"))
 tk:takesIn K (.builtin "object.__class__")=some true
 m:mroIn K C (.type "object")=some true
 mB:mroIn K C (.type "BaseException")=some true
end L2
namespace L2
open PySem PySem.Spec PySem.Calls PyProof.Rows PySem.W PySem.Builtin PySem.Builtin.ObjectAttr
section
variable {h:Heap}{os:OsState}{o:Obj}{K:Ko}
end
end L2
namespace L2
open PySem PySem.Spec PySem.Calls PyProof.Rows PySem.W
section
variable {α β:Type}{n:Nat}{f:Nat->Nat->Bool}{p:Array Nat}
end
section
variable {s:Shared}
end
end L2
namespace L2
open PySem PySem.Spec PySem.Calls PyProof.Rows PySem.W
open AutoSeq1 (wpAny_loadPart')
open MeetsSeq MeetsSeq2 MeetsSeq3
section
variable {A:Around}{s:Shared}
end
end L2
namespace L2
open PySem PySem.Spec PyProof.Rows
section
variable {A:Around}{s:Shared}{St:Nat->Heap->Prop}{xs:Array (Int×Tok)}
theorem oH(W:Walks prog w A.in1 I fp wr n P St)(bt:Nat->Nat->Bool)(LF:CmpOf prog w A.in1 .Gt P bt)(S:Addr)(Lz:S∉fp) :
  ∀(k j:Nat)(s:Shared)(vb:Value)(c:Nat),n-(j+1)=k->j+1<=n->St (j+1) s.heap->P (argBest bt j) vb->s.heap.get? S=some {cls:=.type "list",dict:=none,data:=.seq #[vb,vb] c,slots:=#[]}->
  (∀v h' tk,P (argBest bt (n-1)) v->(∀b o,b∉wr->b≠S->s.heap.get? b=some o->h'.get? b=some o)->R (.ok (.ret v)) {s with heap:=h',toks:=tk})->
  codeAny (model prog w) A (.builtin "max.loop" ⟨[.ref I,.none,.ref S],kw⟩) R s:=by
 have L_:S∉wr:=λh=>Lz (W.sub _ h)
 have C_:(toString "max"++toString ".loop" : String) = "max.loop":=by decide
 intro k
 induction k with
 |zero=>
  intro j s vb c hk hj K9 Ma hS hR;have LP:j+1=n:=by omega
  refine codeAny_builtin F.entry_max_loop ?_;rw[Around.under_plainId F.plain_max_loop _];show wpAny _ A.in1 (seqItems? (.ref S) >>=_) _ _ s;refine Je (wpAny_seqItems hS rfl ?_);show wpAny _ A.in1 (tryCatch (pyNext (.ref I)) _ >>=_) _ _ s;refine Je (wpAny_tryCatch (W.done s _ _ (LP▸K9) λh' tk KA=>?_))
  have Lc:=KA S _ L_ hS;show wpAny _ A.in1 (updateSeq S (λ_=>#[]) >>=_) _ _ _
  refine Je (wpAny_updateSeq Lc rfl (Je (wpAny_letGo (Jh ?_))));exact hR vb _ tk (by rw[<-LP];exact Ma) λb o Ll LA e=>(Jy _ _ (Jv LA)).trans (KA b o Ll e)
 |succ k ih=>
  intro j s vb c hk hj K9 Ma hS hR;have A_:j+1<n:=by omega
  refine codeAny_builtin F.entry_max_loop ?_;rw[Around.under_plainId F.plain_max_loop _];show wpAny _ A.in1 (seqItems? (.ref S) >>=_) _ _ s;refine Je (wpAny_seqItems hS rfl ?_);show wpAny _ A.in1 (tryCatch (pyNext (.ref I)) _ >>=_) _ _ s;refine Je (wpAny_tryCatch (W.item (j+1) s _ _ A_ K9 λv h' tk hP KZ KA=>?_))
  have Lc:=KA S _ L_ hS;show wpAny _ A.in1 (tryCatch (holding [v,v] (richCompare .Gt v vb >>=_)) _ >>=_) _ _ _;refine Je (wpAny_tryCatch (JX (Je (LF (j+1) (argBest bt j) v vb _ _ _ hP Ma ?_))));refine Je (JX (JT (Je (wpAny_letGo (Jh ?_)))));cases hb:bt (j+1) (argBest bt j) with
  |true=>
   simp only[if_true];refine Je (wpAny_updateSeq Lc rfl (Je (wpAny_letGo ?_)));rw[C_];refine Jh ⟨plainId_quiet F.plain_max_loop _,ih (j+1) _ v _ (by omega) A_ (W.frame _ _ _ KZ λb Lm o e=>?_) (by simp only[argBest,hb,if_true];exact hP) (JS _ Lc rfl) λv' LQ KQ LG KR=>?_⟩
   ·exact (Jy _ _ (λh:S=b=>Lz (by rw[h];exact Lm))).trans e
   ·exact hR v' LQ KQ LG λb o Ll LA e=>KR b o Ll LA ((Jy _ _ (Jv LA)).trans (KA b o Ll e))
  |false=>
   simp only[JW,if_false];refine Je (wpAny_letGo ?_);rw[C_];refine Jh ⟨plainId_quiet F.plain_max_loop _,ih (j+1) _ vb c (by omega) A_ KZ (by simp only[argBest,hb,JW,if_false];exact Ma) Lc λv' LQ KQ LG KR=>?_⟩
   exact hR v' LQ KQ LG λb o Ll LA e=>KR b o Ll LA (KA b o Ll e)
theorem wZ(hh:A.handled=none)(hl:s.heap.IsList l (intItems xs))(ha:argsOk "max" ⟨[.ref l],kw⟩)(hb:Builtin.Builtins.bindParams "max" ["key","default"] 0 ⟨[],kw⟩=pure [none,dv])(Lq:dv=none->0<xs.size)
  (h0:xs.size=0->∀d h' tk,dv=some d->(∀b o,s.heap.get? b=some o->h'.get? b=some o)->Q d {s with heap:=h',toks:=tk})
  (h:0<xs.size->∀v h' tk,(intItems xs)[argBest (λi j=>decide (numAt xs i > numAt xs j)) (xs.size-1)]?=some v->(∀b o,s.heap.get? b=some o->h'.get? b=some o)->Q v {s with heap:=h',toks:=tk}) :
  wpAny (model prog w) A (call (.builtin "max") [.ref l] kw) Q E s:=by
 have C_:(toString "max"++toString ".loop" : String) = "max.loop":=by decide
 refine kmk_tree F.kind_max F.plain_max F.entry_max ha ?_;show wpAny _ A.in1 (Builtin.Builtins.bindParams "max" ["key","default"] 0 ⟨[],kw⟩ >>=_) _ _ s;refine Je (wpAny_of_eq hb ?_);refine Je (Jh ?_);refine Je (iter_intList hl λKv e st Oy Oz=>?_)
 refine Je (JQ ?_);have Lz:Kv.heap.objs.size∉[s.heap.objs.size,l]:=λhm=>JY _ (Oy _ hm)
 have W:=Walks.list (prog:=prog) (w:=w) (A:=A.in1) hh s.heap.objs.size l Oz (intItems xs);have L_:Kv.heap.objs.size∉[s.heap.objs.size]:=λh=>Lz (W.sub _ h)
 have hsz:(intItems xs).size=xs.size:=by simp[intItems]
 have LF:=CmpOf.ints_gt (prog:=prog) (w:=w) (A:=A.in1) (numAt xs) (λ_ _=>intItems_at)
 rw[C_];refine Jh ⟨plainId_quiet F.plain_max_loop _,?_⟩;refine codeAny_builtin F.entry_max_loop ?_;rw[Around.under_plainId F.plain_max_loop _];have K9:(λi h=>h.IsListIter s.heap.objs.size l i/\h.IsList l (intItems xs)) 0 (Kv.heap.push {cls:=.type "list",data:=.seq #[]}):=W.frame 0 Kv.heap _ st λb _ o e=>Jj _ e
 have hS:(Kv.heap.push {cls:=.type "list",data:=.seq #[]}).get? Kv.heap.objs.size=some {cls:=.type "list",dict:=none,data:=.seq #[] 0,slots:=#[]}:=Jp _ rfl;show wpAny _ A.in1 (seqItems? (.ref _) >>=_) _ _ _;refine Je (wpAny_seqItems hS rfl ?_);show wpAny _ A.in1 (tryCatch (pyNext (.ref _)) _ >>=_) _ _ _;have kp:∀{h':Heap},(∀b o,b∉[s.heap.objs.size]->(Kv.heap.push {cls:=.type "list",data:=.seq #[]}).get? b=some o->h'.get? b=some o)->∀b o,s.heap.get? b=some o->h'.get? b=some o:=λ{h'} hk=>by
  subst e;exact old_kept λb o hb e=>hk b o hb (Jj _ e)
 by_cases hz:xs.size=0
 ·have KZ:=K9;refine Je (wpAny_tryCatch (W.done _ _ _ (by rw[hsz,hz];exact K9) λh' tk KA=>?_))
  cases dv with
  |none=>exact absurd (Lq rfl) (by omega)
  |some d=>
   show wpAny _ A.in1 (rule _ >>=_) _ _ _;refine Je (wpAny_rule (Jh ?_));have:=h0 hz d h' tk rfl (kp KA);subst e;exact this
 ·have hn:0<xs.size:=by omega
  refine Je (wpAny_tryCatch (W.item 0 _ _ _ (by rw[hsz];exact hn) K9 λv h' tk hP KZ KA=>?_))
  have Lc:=KA _ _ L_ hS;show wpAny _ A.in1 (updateSeq _ (λ_=>#[v,v]) >>=_) _ _ _
  refine Je (wpAny_updateSeq Lc rfl ?_);rw[C_];refine Jh ⟨plainId_quiet F.plain_max_loop _,oH W _ LF _ Lz _ 0 _ v _ rfl (by rw[hsz];exact hn) (W.frame _ _ _ KZ λb Lm o e=>?_) hP (JS _ Lc rfl) λv' LQ KQ LG KR=>?_⟩
  ·exact (Jy _ _ (λh:_=b=>Lz (by rw[h];exact Lm))).trans e
  ·have:=h hn v' LQ KQ (by rw[hsz]at LG;exact LG) (λb o e2=>by
    have A_:b<Kv.heap.objs.size:=by subst e;exact Jt (Jj _ e2)
    refine KR b o (λhm=>?_) (JG A_) ((Jy _ _ (Nat.ne_of_gt A_)).trans (kp KA b o e2))
    rcases Jl.mp hm with e1|hm
    ·exact absurd (e1▸Jt e2) (JY _)
    ·cases hm)
   subst e;exact this
theorem oF(W:Walks prog w A.in1 I fp wr n P St)(bt:Nat->Nat->Bool)(LF:CmpOf prog w A.in1 .Lt P bt)(S:Addr)(Lz:S∉fp) :
  ∀(k j:Nat)(s:Shared)(vb:Value)(c:Nat),n-(j+1)=k->j+1<=n->St (j+1) s.heap->P (argBest bt j) vb->s.heap.get? S=some {cls:=.type "list",dict:=none,data:=.seq #[vb,vb] c,slots:=#[]}->
  (∀v h' tk,P (argBest bt (n-1)) v->(∀b o,b∉wr->b≠S->s.heap.get? b=some o->h'.get? b=some o)->R (.ok (.ret v)) {s with heap:=h',toks:=tk})->
  codeAny (model prog w) A (.builtin "min.loop" ⟨[.ref I,.none,.ref S],kw⟩) R s:=by
 have L_:S∉wr:=λh=>Lz (W.sub _ h)
 have C_:(toString "min"++toString ".loop" : String) = "min.loop":=by decide
 intro k
 induction k with
 |zero=>
  intro j s vb c hk hj K9 Ma hS hR;have LP:j+1=n:=by omega
  refine codeAny_builtin F.entry_min_loop ?_;rw[Around.under_plainId F.plain_min_loop _];show wpAny _ A.in1 (seqItems? (.ref S) >>=_) _ _ s;refine Je (wpAny_seqItems hS rfl ?_);show wpAny _ A.in1 (tryCatch (pyNext (.ref I)) _ >>=_) _ _ s;refine Je (wpAny_tryCatch (W.done s _ _ (LP▸K9) λh' tk KA=>?_))
  have Lc:=KA S _ L_ hS;show wpAny _ A.in1 (updateSeq S (λ_=>#[]) >>=_) _ _ _
  refine Je (wpAny_updateSeq Lc rfl (Je (wpAny_letGo (Jh ?_))));exact hR vb _ tk (by rw[<-LP];exact Ma) λb o Ll LA e=>(Jy _ _ (Jv LA)).trans (KA b o Ll e)
 |succ k ih=>
  intro j s vb c hk hj K9 Ma hS hR;have A_:j+1<n:=by omega
  refine codeAny_builtin F.entry_min_loop ?_;rw[Around.under_plainId F.plain_min_loop _];show wpAny _ A.in1 (seqItems? (.ref S) >>=_) _ _ s;refine Je (wpAny_seqItems hS rfl ?_);show wpAny _ A.in1 (tryCatch (pyNext (.ref I)) _ >>=_) _ _ s;refine Je (wpAny_tryCatch (W.item (j+1) s _ _ A_ K9 λv h' tk hP KZ KA=>?_))
  have Lc:=KA S _ L_ hS;show wpAny _ A.in1 (tryCatch (holding [v,v] (richCompare .Lt v vb >>=_)) _ >>=_) _ _ _;refine Je (wpAny_tryCatch (JX (Je (LF (j+1) (argBest bt j) v vb _ _ _ hP Ma ?_))));refine Je (JX (JT (Je (wpAny_letGo (Jh ?_)))));cases hb:bt (j+1) (argBest bt j) with
  |true=>
   simp only[if_true];refine Je (wpAny_updateSeq Lc rfl (Je (wpAny_letGo ?_)));rw[C_];refine Jh ⟨plainId_quiet F.plain_min_loop _,ih (j+1) _ v _ (by omega) A_ (W.frame _ _ _ KZ λb Lm o e=>?_) (by simp only[argBest,hb,if_true];exact hP) (JS _ Lc rfl) λv' LQ KQ LG KR=>?_⟩
   ·exact (Jy _ _ (λh:S=b=>Lz (by rw[h];exact Lm))).trans e
   ·exact hR v' LQ KQ LG λb o Ll LA e=>KR b o Ll LA ((Jy _ _ (Jv LA)).trans (KA b o Ll e))
  |false=>
   simp only[JW,if_false];refine Je (wpAny_letGo ?_);rw[C_];refine Jh ⟨plainId_quiet F.plain_min_loop _,ih (j+1) _ vb c (by omega) A_ KZ (by simp only[argBest,hb,JW,if_false];exact Ma) Lc λv' LQ KQ LG KR=>?_⟩
   exact hR v' LQ KQ LG λb o Ll LA e=>KR b o Ll LA (KA b o Ll e)
theorem wK(hh:A.handled=none)(hl:s.heap.IsList l (intItems xs))(ha:argsOk "min" ⟨[.ref l],kw⟩)(hb:Builtin.Builtins.bindParams "min" ["key","default"] 0 ⟨[],kw⟩=pure [none,dv])(Lq:dv=none->0<xs.size)
  (h0:xs.size=0->∀d h' tk,dv=some d->(∀b o,s.heap.get? b=some o->h'.get? b=some o)->Q d {s with heap:=h',toks:=tk})
  (h:0<xs.size->∀v h' tk,(intItems xs)[argBest (λi j=>decide (numAt xs i<numAt xs j)) (xs.size-1)]?=some v->(∀b o,s.heap.get? b=some o->h'.get? b=some o)->Q v {s with heap:=h',toks:=tk}) :
  wpAny (model prog w) A (call (.builtin "min") [.ref l] kw) Q E s:=by
 have C_:(toString "min"++toString ".loop" : String) = "min.loop":=by decide
 refine kmk_tree F.kind_min F.plain_min F.entry_min ha ?_;show wpAny _ A.in1 (Builtin.Builtins.bindParams "min" ["key","default"] 0 ⟨[],kw⟩ >>=_) _ _ s;refine Je (wpAny_of_eq hb ?_);refine Je (Jh ?_);refine Je (iter_intList hl λKv e st Oy Oz=>?_)
 refine Je (JQ ?_);have Lz:Kv.heap.objs.size∉[s.heap.objs.size,l]:=λhm=>JY _ (Oy _ hm)
 have W:=Walks.list (prog:=prog) (w:=w) (A:=A.in1) hh s.heap.objs.size l Oz (intItems xs);have L_:Kv.heap.objs.size∉[s.heap.objs.size]:=λh=>Lz (W.sub _ h)
 have hsz:(intItems xs).size=xs.size:=by simp[intItems]
 have LF:=CmpOf.ints_lt (prog:=prog) (w:=w) (A:=A.in1) (numAt xs) (λ_ _=>intItems_at)
 rw[C_];refine Jh ⟨plainId_quiet F.plain_min_loop _,?_⟩;refine codeAny_builtin F.entry_min_loop ?_;rw[Around.under_plainId F.plain_min_loop _];have K9:(λi h=>h.IsListIter s.heap.objs.size l i/\h.IsList l (intItems xs)) 0 (Kv.heap.push {cls:=.type "list",data:=.seq #[]}):=W.frame 0 Kv.heap _ st λb _ o e=>Jj _ e
 have hS:(Kv.heap.push {cls:=.type "list",data:=.seq #[]}).get? Kv.heap.objs.size=some {cls:=.type "list",dict:=none,data:=.seq #[] 0,slots:=#[]}:=Jp _ rfl;show wpAny _ A.in1 (seqItems? (.ref _) >>=_) _ _ _;refine Je (wpAny_seqItems hS rfl ?_);show wpAny _ A.in1 (tryCatch (pyNext (.ref _)) _ >>=_) _ _ _;have kp:∀{h':Heap},(∀b o,b∉[s.heap.objs.size]->(Kv.heap.push {cls:=.type "list",data:=.seq #[]}).get? b=some o->h'.get? b=some o)->∀b o,s.heap.get? b=some o->h'.get? b=some o:=λ{h'} hk=>by
  subst e;exact old_kept λb o hb e=>hk b o hb (Jj _ e)
 by_cases hz:xs.size=0
 ·have KZ:=K9;refine Je (wpAny_tryCatch (W.done _ _ _ (by rw[hsz,hz];exact K9) λh' tk KA=>?_))
  cases dv with
  |none=>exact absurd (Lq rfl) (by omega)
  |some d=>
   show wpAny _ A.in1 (rule _ >>=_) _ _ _;refine Je (wpAny_rule (Jh ?_));have:=h0 hz d h' tk rfl (kp KA);subst e;exact this
 ·have hn:0<xs.size:=by omega
  refine Je (wpAny_tryCatch (W.item 0 _ _ _ (by rw[hsz];exact hn) K9 λv h' tk hP KZ KA=>?_))
  have Lc:=KA _ _ L_ hS;show wpAny _ A.in1 (updateSeq _ (λ_=>#[v,v]) >>=_) _ _ _
  refine Je (wpAny_updateSeq Lc rfl ?_);rw[C_];refine Jh ⟨plainId_quiet F.plain_min_loop _,oF W _ LF _ Lz _ 0 _ v _ rfl (by rw[hsz];exact hn) (W.frame _ _ _ KZ λb Lm o e=>?_) hP (JS _ Lc rfl) λv' LQ KQ LG KR=>?_⟩
  ·exact (Jy _ _ (λh:_=b=>Lz (by rw[h];exact Lm))).trans e
  ·have:=h hn v' LQ KQ (by rw[hsz]at LG;exact LG) (λb o e2=>by
    have A_:b<Kv.heap.objs.size:=by subst e;exact Jt (Jj _ e2)
    refine KR b o (λhm=>?_) (JG A_) ((Jy _ _ (Nat.ne_of_gt A_)).trans (kp KA b o e2))
    rcases Jl.mp hm with e1|hm
    ·exact absurd (e1▸Jt e2) (JY _)
    ·cases hm)
   subst e;exact this
end
end L2
namespace L2
open PySem PySem.Spec PySem.Calls PyProof.Rows PySem.W
open AutoSeq1 (wpAny_loadPart')
noncomputable def lt2(p q:Int×Int):Bool:=if p.1=q.1 then decide (p.2<q.2) else decide (p.1<q.1)
def P2(h:Heap)(v:Value)(p:Int×Int):Prop:=∃a n t u dd sl,v=.ref a/\h.get? a=some {cls:=.type "tuple",dict:=dd,data:=.seq #[.int p.1 t,.int p.2 u] n,slots:=sl}
theorem zW(l b:Addr)(n m:Nat)(p q:Int×Int)(t1 t2 t3 t4:Tok)(dd MC:Option Addr)(sl Mj:Array (Option Value)) :
  Meets (Builtin.«tuple.__lt__» ⟨[.ref l,.ref b],[]⟩)
   (λA R s=>s.heap.get? l=some {cls:=.type "tuple",dict:=dd,data:=.seq #[.int p.1 t1,.int p.2 t2] n,slots:=sl}/\s.heap.get? b=some {cls:=.type "tuple",dict:=MC,data:=.seq #[.int q.1 t3,.int q.2 t4] m,slots:=Mj}/\
    R (.ok (.ret (.bool (lt2 p q)))) s):=by
 intro prog w A R s h;obtain⟨hp,g,d,tk,os⟩:=s;obtain⟨hl,hb,h⟩:=h;have f2:=AutoSeq1.sub_tuple_tuple
 wp_walk using wpAny_loadPart' hl,wpAny_loadPart' hb
 show wpAny _ _ (eqBool (.int p.1 t1) (.int q.1 t3)) _ _ _;refine wpAny_eqBool_int ?_;by_cases e:p.1=q.1
 ·rw[JH.mpr e];unfold lt2 at h;rw[Jr e]at h
  wp_walk
  show wpAny _ _ (eqBool (.int p.2 t2) (.int q.2 t4)) _ _ _;refine wpAny_eqBool_int ?_;by_cases e2:p.2=q.2
  ·rw[JH.mpr e2]
   wp_walk
   rw[e2]at h;simp only[Int.lt_irrefl,decide_false]at h;exact h
  ·rw[JP.mpr e2];simp only[Bool.not_false,if_true];refine Je (wpAny_rule ?_);refine Je (show wpAny _ _ (compareOp .Lt (.int p.2 t2) (.int q.2 t4)) _ _ _ from wpAny_lt_int ?_)
   wp_walk
   exact h
 ·rw[JP.mpr e];unfold lt2 at h;rw[Ji e]at h;simp only[Bool.not_false,if_true];refine Je (wpAny_rule ?_);refine Je (show wpAny _ _ (compareOp .Lt (.int p.1 t1) (.int q.1 t3)) _ _ _ from wpAny_lt_int ?_)
  wp_walk
  exact h
theorem Dd{prog:Program}{w:World}{A:Around}{E:Value->Shared->Prop}{s:Shared}{u v:Value}{p q:Int×Int}{Q:Value->Shared->Prop}(hu:A.units<cLine)(h1:P2 s.heap u p)(h2:P2 s.heap v q)(h:Q (.bool (lt2 p q)) s):wpAny (model prog w) A (richCompare .Lt u v) Q E s:=by
 obtain⟨a,n,t1,t2,dd,sl,rfl,g1⟩:=h1;obtain⟨b,m,t3,t4,MC,Mj,rfl,g2⟩:=h2;exact richCompare_meets_room (op:=.Lt) ⟨_,g1,rfl⟩ ⟨_,g2,rfl⟩ PySem.F.slot_tuple_lt PySem.F.entry_tuple_lt (PySem.F.args_tuple_lt_2 _ _) (zW a b n m p q t1 t2 t3 t4 dd MC sl Mj)
  ⟨g1,g2,show Value.bool (lt2 p q)≠Value.notImplemented/\Q (.bool (lt2 p q)) s from⟨(λx=>nomatch x),h⟩⟩ hu
section
variable {prog:Program}{w:World}{A:Around}{s:Shared}{St:Nat->Heap->Prop}{I l:Addr}{fp wr:List Addr}{n:Nat}{P:Nat->Value->Prop}{R:Result->Shared->Prop}{kw:List (Str×Value)}{Q:Value->Shared->Prop}{E:Value->Shared->Prop}
theorem yw{G:Heap->Prop}(W:Walks prog w A.in1 I fp wr n P St)(bt:Nat->Nat->Bool)(LF:∀i j vi vj (s:Shared)(Q:Value->Shared->Prop)(E:Value->Shared->Prop),G s.heap->P i vi->P j vj->Q (.bool (bt i j)) s->wpAny (model prog w) A.in1 (richCompare .Lt vi vj) Q E s)(S:Addr)(Lz:S∉fp)(hG:∀h h',G h->(∀b o,b∉wr->b≠S->h.get? b=some o->h'.get? b=some o)->G h') :
  ∀(k j:Nat)(s:Shared)(vb:Value)(c:Nat),n-(j+1)=k->j+1<=n->St (j+1) s.heap->G s.heap->P (argBest bt j) vb->s.heap.get? S=some {cls:=.type "list",dict:=none,data:=.seq #[vb,vb] c,slots:=#[]}->
  (∀v h' tk,P (argBest bt (n-1)) v->(∀b o,b∉wr->b≠S->s.heap.get? b=some o->h'.get? b=some o)->R (.ok (.ret v)) {s with heap:=h',toks:=tk})->
  codeAny (model prog w) A (.builtin "min.loop" ⟨[.ref I,.none,.ref S],kw⟩) R s:=by
 have L_:S∉wr:=λh=>Lz (W.sub _ h)
 have C_:(toString "min"++toString ".loop" : String) = "min.loop":=by decide
 intro k
 induction k with
 |zero=>
  intro j s vb c hk hj K9 hg Ma hS hR;have LP:j+1=n:=by omega
  refine codeAny_builtin F.entry_min_loop ?_;rw[Around.under_plainId F.plain_min_loop _];show wpAny _ A.in1 (seqItems? (.ref S) >>=_) _ _ s;refine Je (wpAny_seqItems hS rfl ?_);show wpAny _ A.in1 (tryCatch (pyNext (.ref I)) _ >>=_) _ _ s;refine Je (wpAny_tryCatch (W.done s _ _ (LP▸K9) λh' tk KA=>?_))
  have Lc:=KA S _ L_ hS;show wpAny _ A.in1 (updateSeq S (λ_=>#[]) >>=_) _ _ _
  refine Je (wpAny_updateSeq Lc rfl (Je (wpAny_letGo (Jh ?_))));exact hR vb _ tk (by rw[<-LP];exact Ma) λb o Ll LA e=>(Jy _ _ (Jv LA)).trans (KA b o Ll e)
 |succ k ih=>
  intro j s vb c hk hj K9 hg Ma hS hR;have A_:j+1<n:=by omega
  refine codeAny_builtin F.entry_min_loop ?_;rw[Around.under_plainId F.plain_min_loop _];show wpAny _ A.in1 (seqItems? (.ref S) >>=_) _ _ s;refine Je (wpAny_seqItems hS rfl ?_);show wpAny _ A.in1 (tryCatch (pyNext (.ref I)) _ >>=_) _ _ s;refine Je (wpAny_tryCatch (W.item (j+1) s _ _ A_ K9 λv h' tk hP KZ KA=>?_))
  have Lc:=KA S _ L_ hS;show wpAny _ A.in1 (tryCatch (holding [v,v] (richCompare .Lt v vb >>=_)) _ >>=_) _ _ _;refine Je (wpAny_tryCatch (JX (Je (LF (j+1) (argBest bt j) v vb _ _ _ (hG _ _ hg λb o h1 _ h2=>KA b o h1 h2) hP Ma ?_))))
  refine Je (JX (JT (Je (wpAny_letGo (Jh ?_)))));cases hb:bt (j+1) (argBest bt j) with
  |true=>
   simp only[if_true];refine Je (wpAny_updateSeq Lc rfl (Je (wpAny_letGo ?_)));rw[C_];refine Jh ⟨plainId_quiet F.plain_min_loop _,ih (j+1) _ v _ (by omega) A_ (W.frame _ _ _ KZ λb Lm o e=>?_) (hG _ _ hg λb o h1 h2 h3=>(Jy _ _ (Jv h2)).trans (KA b o h1 h3)) (by simp only[argBest,hb,if_true];exact hP) (JS _ Lc rfl) λv' LQ KQ LG KR=>?_⟩
   ·exact (Jy _ _ (λh:S=b=>Lz (by rw[h];exact Lm))).trans e
   ·exact hR v' LQ KQ LG λb o Ll LA e=>KR b o Ll LA ((Jy _ _ (Jv LA)).trans (KA b o Ll e))
  |false=>
   simp only[JW,if_false];refine Je (wpAny_letGo ?_);rw[C_];refine Jh ⟨plainId_quiet F.plain_min_loop _,ih (j+1) _ vb c (by omega) A_ KZ (hG _ _ hg λb o h1 _ h3=>KA b o h1 h3) (by simp only[argBest,hb,JW,if_false];exact Ma) Lc λv' LQ KQ LG KR=>?_⟩
   exact hR v' LQ KQ LG λb o Ll LA e=>KR b o Ll LA (KA b o Ll e)
theorem xr{items:Array Value}(hl:s.heap.IsList l items)(h:∀s2:Shared,s2={s with heap:=s.heap.push {cls:=.type "list_iterator",data:=.fields #[.ref l,.int 0 0]}}->(s2.heap.IsListIter s.heap.objs.size l 0/\s2.heap.IsList l items)->(∀b∈[s.heap.objs.size,l],b<s2.heap.objs.size)->l≠s.heap.objs.size->Q (.ref s.heap.objs.size) s2):wpAny (model prog w) A (pyIter (.ref l)) Q E s:=by
 have A_:l<s.heap.objs.size:=by obtain⟨_,e,_⟩:=hl;exact Jt e
 refine wpAny_pyIter_list hl (h _ rfl ⟨⟨_,Jp _ rfl,rfl,rfl⟩,hl.push _⟩ (λb hb=>?_) (JG A_))
 have e:(s.heap.push {cls:=.type "list_iterator",data:=.fields #[.ref l,.int 0 0]}).objs.size=s.heap.objs.size+1:=by simp[Heap.push]
 show b<(s.heap.push _).objs.size;rw[e];rcases Jl.mp hb with rfl|hb
 ·omega
 ·rw[JB.mp hb];exact Nat.lt_succ_of_lt A_
theorem zU{items:Array Value}{ps:Nat->Int×Int}(hh:A.handled=none)(hu:A.units+1<cLine)(hl:s.heap.IsList l items)(hn:0<items.size)(hP:∀i v,items[i]?=some v->P2 s.heap v (ps i))
  (h:∀v h' tk,items[argBest (λi j=>lt2 (ps i) (ps j)) (items.size-1)]?=some v->(∀b o,s.heap.get? b=some o->h'.get? b=some o)->Q v {s with heap:=h',toks:=tk}) :
  wpAny (model prog w) A (call (.builtin "min") [.ref l]) Q E s:=by
 have C_:(toString "min"++toString ".loop" : String) = "min.loop":=by decide
 refine kmk_tree F.kind_min F.plain_min F.entry_min (by unfold argsOk;kernel_rfl) ?_
 show wpAny _ A.in1 (Builtin.Builtins.bindParams "min" ["key","default"] 0 ⟨[],[]⟩ >>=_) _ _ s;refine Je (wpAny_of_eq (show Builtin.Builtins.bindParams "min" ["key","default"] 0 ⟨[],[]⟩=pure [none,none] from rfl) ?_);refine Je (Jh ?_);refine Je (xr hl λs2 e st Oy Oz=>?_)
 refine Je (JQ ?_);have Lz:s2.heap.objs.size∉[s.heap.objs.size,l]:=λhm=>JY _ (Oy _ hm)
 have W:=Walks.list (prog:=prog) (w:=w) (A:=A.in1) hh s.heap.objs.size l Oz items;have L_:s2.heap.objs.size∉[s.heap.objs.size]:=λh=>Lz (W.sub _ h)
 have Mi:∀b o,s.heap.get? b=some o->b∉[s.heap.objs.size]/\b≠s2.heap.objs.size:=λb o eb=>by
  have h1:=Jt eb;refine⟨λhm=>?_,?_⟩
  ·rw[JB.mp hm]at h1;exact JY _ h1
  ·subst e;exact JG (Jt (Jj _ eb))
 rw[C_];refine Jh ⟨plainId_quiet F.plain_min_loop _,?_⟩;refine codeAny_builtin F.entry_min_loop ?_;rw[Around.under_plainId F.plain_min_loop _];have K9:(λi h=>h.IsListIter s.heap.objs.size l i/\h.IsList l items) 0 (s2.heap.push {cls:=.type "list",data:=.seq #[]}):=W.frame 0 s2.heap _ st λb _ o e=>Jj _ e
 have hS:(s2.heap.push {cls:=.type "list",data:=.seq #[]}).get? s2.heap.objs.size=some {cls:=.type "list",dict:=none,data:=.seq #[] 0,slots:=#[]}:=Jp _ rfl;show wpAny _ A.in1 (seqItems? (.ref _) >>=_) _ _ _;refine Je (wpAny_seqItems hS rfl ?_);show wpAny _ A.in1 (tryCatch (pyNext (.ref _)) _ >>=_) _ _ _;have kp:∀{h':Heap},(∀b o,b∉[s.heap.objs.size]->(s2.heap.push {cls:=.type "list",data:=.seq #[]}).get? b=some o->h'.get? b=some o)->∀b o,s.heap.get? b=some o->h'.get? b=some o:=λ{h'} hk=>by
  subst e;exact old_kept λb o hb e=>hk b o hb (Jj _ e)
 refine Je (wpAny_tryCatch (W.item 0 _ _ _ hn K9 λv h' tk R7 KZ KA=>?_))
 have Lc:=KA _ _ L_ hS;show wpAny _ A.in1 (updateSeq _ (λ_=>#[v,v]) >>=_) _ _ _
 refine Je (wpAny_updateSeq Lc rfl ?_);rw[C_];refine Jh ⟨plainId_quiet F.plain_min_loop _,yw (G:=λhx=>∀b o,s.heap.get? b=some o->hx.get? b=some o) W (λi j=>lt2 (ps i) (ps j)) (λi j vi vj sx Q' E' hg hi hj hq=>?_) _ Lz (λha hb g k b o eb=>k b o (Mi b o eb).1 (Mi b o eb).2 (g b o eb)) _ 0 _ v _ rfl hn (W.frame _ _ _ KZ λb Lm o e=>?_) (λb o eb=>?_) R7 (JS _ Lc rfl) λv' LQ KQ LG KR=>?_⟩
 ·have up:∀{v i},items[i]?=some v->P2 sx.heap v (ps i):=λ{v i} hv=>by
   obtain⟨a,n,t,u,dd,sl,e1,e2⟩:=hP i v hv;exact⟨a,n,t,u,dd,sl,e1,hg _ _ e2⟩
  exact Dd (by show A.units+1<cLine;exact hu) (up hi) (up hj) hq
 ·exact (Jy _ _ (λh:_=b=>Lz (by rw[h];exact Lm))).trans e
 ·exact (Jy _ _ (Jv (Mi b o eb).2)).trans (kp KA b o eb)
 ·have:=h v' LQ KQ LG (λb o eb=>KR b o (Mi b o eb).1 (Mi b o eb).2 ((Jy _ _ (Jv (Mi b o eb).2)).trans (kp KA b o eb)))
  subst e;exact this
end
end L2
namespace L2
open PySem PySem.Spec PyProof.Rows
inductive D where
 |i_|bl (b:Bool)|int (i:Int)|str (x:Str)|tup (ds:List D)|f_ (ds:List D)|ref (a:Addr)
 |obj (i:Nat) (C:Addr) (ns:List Nat) (ds:List D)|LR (ks:List Key) (ds:List D)|H_ (ks:List (List Int)) (ds:List D)
noncomputable def qo:Nat->Nat->List Nat
 |0,_=>[]
 |k+1,n=>if n=0 then [] else (n % 128)::qo k (n / 128)
noncomputable def fnm(n:Nat):Str:=⟨(qo n n).toArray⟩
noncomputable def yj:List Nat->Nat
 |[]=>0
 |d::r=>d+128*yj r
theorem jO:∀(k n:Nat),n<=k->yj (qo k n)=n
 |0,n,h=>by have:n=0:=Nat.le_zero.mp h;subst this;rfl
 |k+1,n,h=>by
  unfold qo;by_cases z:n=0
  ·rw[Jr z];exact z.symm
  ·rw[Ji z];show n % 128+128*yj (qo k (n / 128))=n;rw[jO k (n / 128) (by omega)]
   omega
theorem mX(h:fnm a=fnm b):a=b:=by
 have e:qo a a=qo b b:=by
  have:=congrArg (λx:Str=>x.cps.toList) h
  simpa [fnm] using this
 have:=congrArg yj e
 rwa [jO a a (Jn _),jO b b (Jn _)]at this
noncomputable def tH(k:List Int):Int:=reduceHash (Builtin.Tuple.tupleHashOf (k.map hashInt))
def ax(a:Addr)(xs:List (List Int×Addr×Value)):Heap->Prop:=λh=>∃o es ep,h.get? a=some o/\o.ExactDict/\o.data=.dict es ep/\es.toList=xs.map λx=>(⟨tH x.1,.ref x.2.1,x.2.2⟩:DictEntry)
structure TabOk (K:Ko)(H:Hp)(a:Addr) (ks:List (List Int)) (xs:List (List Int×Addr×Value)) (vs:List V):Prop where
 kx:xs.map (·.1)=ks
 nd:ks.Nodup
 sz:ks.length<=sizeLine
 no:(a == sysModules)=false
 vx:Vals vs (xs.map (·.2.2))
 at_:∀x∈xs,SqT K H x.2.1 (x.1.map V.int)
def SqM(K:Ko)(a:Addr)(xs:List V):Prop:=∃(g_:List Value) (n:Nat),K.lookup a=some {cls:=.type "list",data:=.seq g_.toArray n}/\g_.length<=sizeLine/\Vals xs g_
def SqF(K:Ko)(H:Hp)(a:Addr)(xs:List V):Prop:=(∃o,H a=some (.u_ o (.lst xs)))\/SqM K a xs
theorem SqM.sq{K:Ko}(h:SqM K a xs):SqL K H a xs:=by
 obtain⟨g_,n,e,z,r⟩:=h;exact .inr ⟨_,g_.toArray,n,e,rfl,rfl,rfl,by simpa using z,by simpa using r⟩
theorem SqF.sq{K:Ko}(h:SqF K H a xs):SqL K H a xs:=by
 rcases h with h|h
 ·exact .inl (.inr h)
 ·exact h.sq
mutual
def Den(K:Ko)(H:Hp):D->V->Prop
 |.i_,v=>v=.i_
 |.bl b,v=>v=.bl b
 |.int i,v=>v=.int i
 |.str x,v=>v=.str x
 |.tup ds,v=>∃p vs,v=.ref p/\SqT K H p vs/\DenL K H ds vs
 |.f_ ds,v=>∃p vs,v=.ref p/\SqF K H p vs/\DenL K H ds vs
 |.ref a,v=>v=.ref a
 |.obj _ C ns ds,v=>∃p vs o dx,v=.ref p/\H p=some (.u_ o (.ins C dx ((ns.map fnm).zip vs)))/\ns.length=vs.length/\DenL K H ds vs
 |.LR ks ds,v=>∃p vs o,v=.ref p/\H p=some (.u_ o (.dK (ks.zip vs)))/\ks.length=vs.length/\DenL K H ds vs
 |.H_ ks ds,v=>∃p vs o xs,v=.ref p/\H p=some (.u_ o (.ext (ax p xs)))/\TabOk K H p ks xs vs/\DenL K H ds vs
def DenL(K:Ko)(H:Hp):List D->List V->Prop
 |[],vs=>vs=[]
 |d::ds,vs=>∃v r,vs=v::r/\Den K H d v/\DenL K H ds r
end
structure TM (K:Ko)(H H':Hp):Prop where
 t:∀p xs,SqT K H p xs->SqT K H' p xs
 f:∀p xs,SqF K H p xs->SqF K H' p xs
 g:∀p o u,H p=some (.u_ o u)->H' p=some (.u_ o u)
theorem TM.refl{K:Ko}(H:Hp):TM K H H:=⟨λ_ _ h=>h,λ_ _ h=>h,λ_ _ _ h=>h⟩
theorem TM.trans{K:Ko}(a:TM K H H1)(b:TM K H1 H2):TM K H H2:=⟨λp xs h=>b.t p xs (a.t p xs h),λp xs h=>b.f p xs (a.f p xs h),λp o u h=>b.g p o u (a.g p o u h)⟩
theorem TM.un{K:Ko}(t:∀b xs,H b=some (.tup xs)->H' b=some (.tup xs))(f:∀b o u,H b=some (.u_ o u)->H' b=some (.u_ o u)):TM K H H':=⟨λq xs h=>by
 rcases h with (h|⟨ob,h⟩)|h
 ·exact .inl (.inl (t _ _ h))
 ·exact .inl (.inr ⟨ob,f _ _ _ h⟩)
 ·exact .inr h,λq xs h=>by
 rcases h with ⟨ob,h⟩|h
 ·exact .inl ⟨ob,f _ _ _ h⟩
 ·exact .inr h,f⟩
theorem TM.new{K:Ko}(hp:H p=none):TM K H (upd H p o):=
 .un (λb xs h=>by rw[ai (aK h hp)];exact h) λb ob u h=>by rw[ai (aK h hp)];exact h
theorem TM.put{K:Ko}(hp:H p=some u)(h1:∀xs,u≠.tup xs)(h2:∀ob v,u≠.u_ ob v):TM K H (upd H p o):=
 .un (λb xs h=>by rw[ai (dq h hp λz=>h1 _ z.symm)];exact h) λb ob u h=>by rw[ai (dq h hp λz=>h2 _ _ z.symm)];exact h
section
variable {K:Ko}
mutual
theorem Den.mono(t:TM K H H'):∀{d:D}{v:V},Den K H d v->Den K H' d v
 |.i_,_,h=>h
 |.bl _,_,h=>h
 |.int _,_,h=>h
 |.str _,_,h=>h
 |.ref _,_,h=>h
 |.tup ds,v,h=>by
  obtain⟨p,vs,e,s,l⟩:=h;exact⟨p,vs,e,t.t _ _ s,DenL.mono t l⟩
 |.f_ ds,v,h=>by
  obtain⟨p,vs,e,s,l⟩:=h;exact⟨p,vs,e,t.f _ _ s,DenL.mono t l⟩
 |.obj i C ns ds,v,h=>by
  obtain⟨p,vs,o,dx,e,s,z,l⟩:=h;exact⟨p,vs,o,dx,e,t.g _ _ _ s,z,DenL.mono t l⟩
 |.LR ks ds,v,h=>by
  obtain⟨p,vs,o,e,s,z,l⟩:=h;exact⟨p,vs,o,e,t.g _ _ _ s,z,DenL.mono t l⟩
 |.H_ ks ds,v,h=>by
  obtain⟨p,vs,o,xs,e,s,z,l⟩:=h;exact⟨p,vs,o,xs,e,t.g _ _ _ s,⟨z.kx,z.nd,z.sz,z.no,z.vx,λx hx=>t.t _ _ (z.at_ x hx)⟩,DenL.mono t l⟩
theorem DenL.mono(t:TM K H H'):∀{ds:List D}{vs:List V},DenL K H ds vs->DenL K H' ds vs
 |[],_,h=>h
 |d::ds,vs,h=>by
  obtain⟨v,r,e,a,b⟩:=h;exact⟨v,r,e,Den.mono t a,DenL.mono t b⟩
end
theorem DenL.length:∀{ds:List D}{vs:List V},DenL K H ds vs->ds.length=vs.length
 |[],_,h=>by cases h;rfl
 |d::ds,vs,h=>by
  obtain⟨v,r,rfl,_,b⟩:=h;rw[Jw,Jw,DenL.length b]
theorem DenL.get:∀{ds:List D}{vs:List V}{i:Nat}{d:D},DenL K H ds vs->ds[i]?=some d->∃v,vs[i]?=some v/\Den K H d v
 |[],_,_,_,_,e=>by simp at e
 |d::ds,vs,0,d',h,e=>by
  obtain⟨v,r,rfl,a,b⟩:=h;simp at e;subst e;exact⟨v,rfl,a⟩
 |d::ds,vs,i+1,d',h,e=>by
  obtain⟨v,r,rfl,a,b⟩:=h;obtain⟨u,e1,e2⟩:=DenL.get b (by simpa using e)
  exact⟨u,by simpa using e1,e2⟩
theorem DenL.get':∀{ds:List D}{vs:List V}{i:Nat}{v:V},DenL K H ds vs->vs[i]?=some v->∃d,ds[i]?=some d/\Den K H d v
 |[],_,_,_,h,e=>by cases h;simp at e
 |d::ds,vs,0,v',h,e=>by
  obtain⟨v,r,rfl,a,b⟩:=h;simp at e;subst e;exact⟨d,rfl,a⟩
 |d::ds,vs,i+1,v',h,e=>by
  obtain⟨v,r,rfl,a,b⟩:=h;obtain⟨u,e1,e2⟩:=DenL.get' b (by simpa using e)
  exact⟨u,by simpa using e1,e2⟩
theorem DenL.append:∀{ds es:List D}{vs ws:List V},DenL K H ds vs->DenL K H es ws->DenL K H (ds++es) (vs++ws)
 |[],_,_,_,h,g=>by cases h;exact g
 |d::ds,_,_,_,h,g=>by
  obtain⟨v,r,rfl,a,b⟩:=h;exact⟨v,r++_,rfl,a,DenL.append b g⟩
theorem DenL.nil:DenL K H [] []:=rfl
theorem DenL.cons(a:Den K H d v)(b:DenL K H ds vs):DenL K H (d::ds) (v::vs):=⟨v,vs,rfl,a,b⟩
theorem DenL.one(a:Den K H d v):DenL K H [d] [v]:=.cons a .nil
theorem DenL.take:∀{ds:List D}{vs:List V} (n:Nat),DenL K H ds vs->DenL K H (ds.take n) (vs.take n)
 |_,_,0,_=>rfl
 |[],_,n+1,h=>by cases h;rfl
 |d::ds,_,n+1,h=>by
  obtain⟨v,r,rfl,a,b⟩:=h;exact⟨v,r.take n,rfl,a,DenL.take n b⟩
theorem DenL.drop:∀{ds:List D}{vs:List V} (n:Nat),DenL K H ds vs->DenL K H (ds.drop n) (vs.drop n)
 |_,_,0,h=>h
 |[],_,n+1,h=>by cases h;rfl
 |d::ds,_,n+1,h=>by
  obtain⟨v,r,rfl,a,b⟩:=h;exact DenL.drop n b
theorem DenL.set(a:Den K H d v):∀{ds:List D}{vs:List V} (i:Nat),DenL K H ds vs->DenL K H (ds.set i d) (vs.set i v)
 |[],_,_,h=>by cases h;rfl
 |_::ds,_,0,h=>by
  obtain⟨_,r,rfl,_,b⟩:=h;exact⟨v,r,rfl,a,b⟩
 |e::ds,_,i+1,h=>by
  obtain⟨u,r,rfl,c,b⟩:=h;exact⟨u,_,rfl,c,DenL.set a i b⟩
theorem DenL.int_of:∀{ns:List Int}{vs:List V},DenL K H (ns.map D.int) vs->vs=ns.map V.int
 |[],_,h=>h
 |n::ns,vs,h=>by
  obtain⟨v,r,rfl,a,b⟩:=h;rw[DenL.int_of b];cases (show v=.int n from a);rfl
theorem DenL.of_int:∀{ns:List Int},DenL K H (ns.map D.int) (ns.map V.int)
 |[]=>rfl
 |n::ns=>⟨.int n,ns.map V.int,rfl,rfl,DenL.of_int⟩
end
structure XE where
 c:Nat
 pl:Option (Nat×D)
def XD(K:Ko)(H:Hp)(i:XE)(dx:Option Addr):Prop:=match i.pl with
 |none=>dx=none
 |some (f,y)=>∃p o v,dx=some p/\H p=some (.u_ o (.xd [(fnm f,v)]))/\Den K H y v
theorem XD.mono{K:Ko}(t:TM K H H')(h:XD K H i dx):XD K H' i dx:=by
 obtain⟨c,pl⟩:=i;cases pl with
 |none=>exact h
 |some q=>
  obtain⟨p,o,v,e,g,d⟩:=h;exact⟨p,o,v,e,t.g _ _ _ g,d.mono t⟩
inductive DO where
 |lst (ds:List D)
 |dk (ks:List Key) (ds:List D)
 |dt (ks:List (List Int)) (ds:List D)
 |ins (i:Nat) (C:Addr) (ns:List Nat) (ds:List D)
 |exc (i:XE) (cls:Value)
 |t_ (φ:Heap->Prop)
noncomputable abbrev MH:=Addr->Option DO
noncomputable def put(M:MH)(a:Addr)(o:DO):MH:=λb=>if b=a then some o else M b
theorem aa:put M a o a=some o:=Jr rfl
theorem ae(h:b≠a):put M a o b=M b:=Ji h
theorem aL:put (put M a o) a u=put M a u:=by
 funext b;unfold put;split<;>rfl
def OD(K:Ko)(H:Hp)(a:Addr):DO->Prop
 |.lst ds=>∃vs,H a=some (.lst vs)/\DenL K H ds vs
 |.dk ks ds=>∃vs,H a=some (.dK (ks.zip vs))/\ks.length=vs.length/\DenL K H ds vs
 |.dt ks ds=>∃vs xs,H a=some (.ext (ax a xs))/\TabOk K H a ks xs vs/\DenL K H ds vs
 |.ins _ C ns ds=>∃dx vs,H a=some (.ins C dx ((ns.map fnm).zip vs))/\ns.length=vs.length/\DenL K H ds vs
 |.exc i cls=>∃dx,H a=some (GJ a cls dx)/\XD K H i dx
 |.t_ φ=>H a=some (.ext φ)
def RelM(K:Ko)(M:MH)(H:Hp):Prop:=∀a o,M a=some o->OD K H a o
noncomputable abbrev St3:=List (Option D)
def DenS(K:Ko)(H:Hp)(h_:St3)(Z:St):Prop:=h_.length=Z.length/\∀(i:Nat)(d:D),h_[i]?=some (some d)->∃v,Z[i]?=some (some v)/\Den K H d v
section
variable {K:Ko}
theorem OD.tracked(h:OD K H a o):∃u,H a=some u:=by
 cases o with
 |dt ks ds=>obtain⟨_,_,e,_⟩:=h;exact⟨_,e⟩
 |ins i C ns ds=>obtain⟨_,_,e,_⟩:=h;exact⟨_,e⟩
 |t_ φ=>exact⟨_,h⟩
 |_=>obtain⟨_,e,_⟩:=h;exact⟨_,e⟩
theorem RelM.fresh(r:RelM K M H)(hp:H p=none):M p=none:=by
 cases e:M p with
 |none=>rfl
 |some o=>
  obtain⟨u,z⟩:=(r p o e).tracked;rw[hp]at z;cases z
theorem OD.stay(t:TM K H H')(e:H' a=H a)(h:OD K H a o):OD K H' a o:=by
 cases o with
 |lst ds=>obtain⟨vs,q,l⟩:=h;exact⟨vs,e.trans q,l.mono t⟩
 |dk ks ds=>obtain⟨vs,q,n,l⟩:=h;exact⟨vs,e.trans q,n,l.mono t⟩
 |dt ks ds=>obtain⟨vs,xs,q,z,l⟩:=h;exact⟨vs,xs,e.trans q,⟨z.kx,z.nd,z.sz,z.no,z.vx,λx hx=>t.t _ _ (z.at_ x hx)⟩,l.mono t⟩
 |ins i C ns ds=>obtain⟨dx,vs,q,n,l⟩:=h;exact⟨dx,vs,e.trans q,n,l.mono t⟩
 |exc i cls=>obtain⟨dx,q,x⟩:=h;exact⟨dx,e.trans q,x.mono t⟩
 |t_ φ=>exact e.trans h
theorem RelM.grow(r:RelM K M H)(hp:H p=none):RelM K M (upd H p o):=λa u e=>by
 obtain⟨x,z⟩:=(r a u e).tracked;exact (r a u e).stay (.new hp) (ai (aK z hp))
theorem RelM.lay(r:RelM K M H)(hp:H p=none)(h:OD K (upd H p o) p u):RelM K (put M p u) (upd H p o):=λa x e=>by
 by_cases ha:a=p
 ·subst ha;rw[aa]at e;cases e;exact h
 ·rw[ae ha]at e;exact r.grow hp a x e
theorem RelM.write(r:RelM K M H)(hp:H p=some w)(h1:∀xs,w≠.tup xs)(h2:∀ob v,w≠.u_ ob v)(h:OD K (upd H p o) p u):RelM K (put M p u) (upd H p o):=λa x e=>by
 by_cases ha:a=p
 ·subst ha;rw[aa]at e;cases e;exact h
 ·rw[ae ha]at e;exact (r a x e).stay (.put hp h1 h2) (ai ha)
def Sub(M' M:MH):Prop:=∀a o,M' a=some o->M a=some o
theorem RelM.sub(r:RelM K M H)(s:Sub M' M):RelM K M' H:=λa o e=>r a o (s a o e)
theorem DenS.mono(t:TM K H H')(h:DenS K H h_ Z):DenS K H' h_ Z:=⟨h.1,λi d e=>let ⟨v,e1,e2⟩:=h.2 i d e;⟨v,e1,e2.mono t⟩⟩
theorem DenS.set{h_:St3}{Z:St}(h:DenS K H h_ Z)(e:Den K H d v):DenS K H (h_.set i (some d)) (Z.set i (some v)):=by
 refine⟨by rw[List.length_set,List.length_set];exact h.1,λj d' q=>?_⟩
 by_cases hj:i=j
 ·subst hj;rw[List.getElem?_set]at q ⊢;rw[Jr rfl]at q ⊢;rw[<-h.1];split at q
  next hl=>
   cases q;exact⟨v,Jr hl,e⟩
  next=>cases q
 ·rw[Km hj]at q ⊢;exact h.2 j d' q
theorem qc{N:List Str}{ds:List D}(h:DenL K H ds vs):DenS K H (ds.map some++List.replicate (N.length-ds.length) none) (start N vs):=by
 have hl:=h.length;refine⟨by unfold start;simp[hl],λi d e=>?_⟩
 by_cases hi:i<ds.length
 ·rw[List.getElem?_append_left (by simpa using hi),Jq]at e
  have e':ds[i]?=some d:=by
   cases q:ds[i]? with
   |none=>rw[q]at e;cases e
   |some x=>rw[q]at e;cases e;rfl
  obtain⟨v,e1,e2⟩:=h.get e';refine⟨v,?_,e2⟩;unfold start;rw[List.getElem?_append_left (by simpa [<-hl] using hi),Jq,e1]
  rfl
 ·rw[List.getElem?_append_right (by simpa using hi),List.getElem?_replicate]at e
  split at e<;>cases e
end
noncomputable abbrev VK3:=D->MH->Prop
noncomputable abbrev TE3:=St3->MH->VK3->Prop
noncomputable abbrev TT3:=St3->MH->(Bool->MH->Prop)->Prop
structure Ends3 where
 nx:St3->MH->Prop
 rt:VK3
 bk:St3->MH->Prop:=λ_ _=>False
 ct:St3->MH->Prop:=λ_ _=>False
noncomputable abbrev TS3:=Ends3->St3->MH->Prop
structure ER (K:Ko)(H:Hp)(D3:Ends3)(D2:lf):Prop where
 nx:∀l_ H' v_ M',RelM K M' H'->DenS K H' v_ l_->TM K H H'->D3.nx v_ M'->D2.nx l_ H'
 rt:∀v H' d M',Den K H' d v->RelM K M' H'->TM K H H'->D3.rt d M'->D2.rt v H'
 bk:∀l_ H' v_ M',RelM K M' H'->DenS K H' v_ l_->TM K H H'->D3.bk v_ M'->D2.bk l_ H'
 ct:∀l_ H' v_ M',RelM K M' H'->DenS K H' v_ l_->TM K H H'->D3.ct v_ M'->D2.ct l_ H'
theorem ER.mono{K:Ko}(r:ER K H D3 D2)(t:TM K H H1):ER K H1 D3 D2:=
 ⟨λa b c d h1 h2 h3 h4=>r.nx a b c d h1 h2 (t.trans h3) h4,λa b c d h1 h2 h3 h4=>r.rt a b c d h1 h2 (t.trans h3) h4,λa b c d h1 h2 h3 h4=>r.bk a b c d h1 h2 (t.trans h3) h4,λa b c d h1 h2 h3 h4=>r.ct a b c d h1 h2 (t.trans h3) h4⟩
section
variable {K:Ko}
theorem bX:Den K H (.int i) (.int i):=rfl
theorem cv{b:Bool}:Den K H (.bl b) (.bl b):=rfl
theorem wu:Den K H .i_ .i_:=rfl
theorem ik:Den K H (.ref a) (.ref a):=rfl
theorem mJ(h:SqT K H p vs)(l:DenL K H ds vs):Den K H (.tup ds) (.ref p):=⟨p,vs,rfl,h,l⟩
end
noncomputable abbrev R3:=D->D->MH->VK3->Prop
abbrev Back(K:Ko)(H:Hp)(Q:VK3)(Q2:VK):Prop:=∀v H' d M',Den K H' d v->RelM K M' H'->TM K H H'->Q d M'->Q2 v H'
def Op3(X:Cx)(f:Value->Value->Sem Value)(r3:R3):Prop:=∃r2,OpR X f r2/\∀(H:Hp)(x y:D)(v u:V)(M:MH)(Q:VK3)(Q2:VK),Den X.K H x v->Den X.K H y u->RelM X.K M H->r3 x y M Q->Back X.K H Q Q2->r2 v u H Q2
def Un3(X:Cx)(f:Value->Sem Value)(r3:D->MH->VK3->Prop):Prop:=∃r2,UnR X f r2/\∀(H:Hp)(x:D)(v:V)(M:MH)(Q:VK3)(Q2:VK),Den X.K H x v->RelM X.K M H->r3 x M Q->Back X.K H Q Q2->r2 v H Q2
def sy(X:Cx)(f:Value)(r3:List D->MH->VK3->Prop):Prop:=∃r2,CallR X f r2/\∀(H:Hp)(xs:List D)(vs:List V)(M:MH)(Q:VK3)(Q2:VK),DenL X.K H xs vs->RelM X.K M H->r3 xs M Q->Back X.K H Q Q2->r2 vs H Q2
noncomputable def c3(d:D):TE3:=λ_ M Q=>Q d M
def rI3(C:Int->Int->Prop)(g:Int->Int->D):R3:=λx y M Q=>∃i j,x=.int i/\y=.int j/\C i j/\Q (g i j) M
section
variable {X:Cx}{a b c e:Expr}{ta tb tc te:TE3}{pos:Pos}
noncomputable def q3(t:TE3):TT3:=λZ M Q=>t Z M λx M1=>∃k,x=.bl k/\Q k M1
variable {tA Og:TT3}{aT:List Expr}
theorem yr{K:Ko}(h:DenL K H ds vs)(e:atI ds i=some d):∃v,atI vs i=some v/\Den K H d v:=by
 unfold atI at e ⊢;rw[<-h.length];cases q:ixN ds.length i with
 |none=>rw[q]at e;cases e
 |some j=>
  rw[q]at e;obtain⟨v,e1,e2⟩:=h.get (show ds[j]?=some d from e);exact⟨v,e1,e2⟩
def Is(M:MH)(x:D)(ds:List D):Prop:=x=.f_ ds\/∃a,x=.ref a/\M a=some (.lst ds)
theorem RelM.list{K:Ko}(rm:RelM K M H)(h:Is M x ds)(dv:Den K H x v):∃p vs,v=.ref p/\SqL K H p vs/\DenL K H ds vs:=by
 rcases h with rfl|⟨a,rfl,h⟩
 ·obtain⟨p,vs,e,s,l⟩:=dv;exact⟨p,vs,e,s.sq,l⟩
 ·obtain⟨vs,e,l⟩:=rm a _ h;exact⟨a,vs,dv,.of e,l⟩
def isIB:V->D->Prop:=λv d=>(∃i,v=.int i/\d=.int i)\/(∃b,v=.bl b/\d=.bl b)
theorem isIB.den{K:Ko}(h:isIB v d):Den K H d v:=by
 rcases h with ⟨i,rfl,rfl⟩|⟨b,rfl,rfl⟩<;>rfl
theorem kZ(h:OpR X f (rI C g))(hg:∀i j,isIB (g i j) (g3 i j)):Op3 X f (rI3 C g3):=
 ⟨_,h,λH x y v u M Q Q2 dx dy rm ⟨i,j,e1,e2,hc,q⟩ k=>by
  subst e1;subst e2;cases (show v=.int i from dx);cases (show u=.int j from dy);exact⟨i,j,rfl,rfl,hc,k _ H _ M (hg i j).den rm (.refl _) q⟩⟩
def mH(g:Int->Int->D):R3:=λx y M Q=>∃i j,x=.int i/\y=.int j/\Q (g i j) M
theorem dU(h:OpR X f (rI0 g))(hg:∀i j,isIB (g i j) (g3 i j)):Op3 X f (mH g3):=
 ⟨_,h,λH x y v u M Q Q2 dx dy rm ⟨i,j,e1,e2,q⟩ k=>by
  subst e1;subst e2;cases (show v=.int i from dx);cases (show u=.int j from dy);exact⟨i,j,rfl,rfl,k _ H _ M (hg i j).den rm (.refl _) q⟩⟩
noncomputable def big:Nat:=2 ^ 4096
theorem qa(h:n<10 ^ 250):n<big:=Ju h (by decide +kernel)
def cA(i j:Int):Prop:=(i.natAbs<big/\j.natAbs<big)
theorem jg{k:Int}(h:k.natAbs<big):Builtin.Int.intBits k<=2 ^ 20:=by
 unfold Builtin.Int.intBits;by_cases h0:k.natAbs=0
 ·have:k=0:=by omega
  subst this;decide
 ·have To:k.natAbs.log2<4096:=(Nat.log2_lt h0).mpr h;split<;>omega
theorem ym:OpR X (binaryOp .Mult) (rI cA λi j=>.int (i*j)):=opI λ_ _ _ _ _ _ _ hc q=>mul_int q (.of_bits (jg hc.1) (jg hc.2))
def l7(_ j:Int):Prop:=0<j/\j.toNat<big
theorem uQ:OpR X (binaryOp .FloorDiv) (rI l7 λi j=>.int (i / j)):=opI λi j _ _ _ _ _ hc q=>by
 have h1:(0:Int)<j:=hc.1;have h2:j.toNat<big:=hc.2;refine floordiv_int (by omega) (by rw[Int.fdiv_eq_ediv_of_nonneg i (by omega)];exact q) (.inl (PyProof.noPylong_of_log2 ?_))
 have h3:j.natAbs<2 ^ 4096:=by
  have e:j.natAbs=j.toNat:=by omega
  rw[e];exact h2
 have h0:j.natAbs≠0:=by omega
 have:=(Nat.log2_lt h0).mpr h3;omega
theorem Ef:Op3 X (binaryOp .Add) (mH λi j=>.int (i+j)):=dU AG λ_ _=>.inl ⟨_,rfl,rfl⟩
theorem CN:Op3 X (binaryOp .Sub) (mH λi j=>.int (i-j)):=dU zZ λ_ _=>.inl ⟨_,rfl,rfl⟩
theorem EM:Op3 X (binaryOp .Mult) (rI3 cA λi j=>.int (i*j)):=kZ ym λ_ _=>.inl ⟨_,rfl,rfl⟩
theorem AK:Op3 X (binaryOp .FloorDiv) (rI3 l7 λi j=>.int (i / j)):=kZ uQ λ_ _=>.inl ⟨_,rfl,rfl⟩
theorem DK:Op3 X (binaryOp .Mod) (rI3 (λ_ j=>0<j) λi j=>.int (i % j)):=kZ Ca λ_ _=>.inl ⟨_,rfl,rfl⟩
theorem C6:Op3 X (binaryOp .Pow) (rI3 uR λi j=>.int (i ^ j.toNat)):=kZ AL λ_ _=>.inl ⟨_,rfl,rfl⟩
theorem CZ:Op3 X (binaryOp .RShift) (rI3 (λ_ j=>0<=j) λi j=>.int (i / 2 ^ j.toNat)):=kZ BO λ_ _=>.inl ⟨_,rfl,rfl⟩
theorem DH:Op3 X (binaryOp .BitAnd) (mH λi j=>.int (Builtin.bitAnd i j)):=dU B1 λ_ _=>.inl ⟨_,rfl,rfl⟩
theorem FW:Op3 X (compareOp .Lt) (mH λi j=>.bl (decide (i<j))):=dU CU λ_ _=>.inr ⟨_,rfl,rfl⟩
theorem Gh:Op3 X (compareOp .LtE) (mH λi j=>.bl (decide (i<=j))):=dU DR λ_ _=>.inr ⟨_,rfl,rfl⟩
theorem G8:Op3 X (compareOp .Gt) (mH λi j=>.bl (decide (j<i))):=dU Dn λ_ _=>.inr ⟨_,rfl,rfl⟩
theorem Gs:Op3 X (compareOp .GtE) (mH λi j=>.bl (decide (j<=i))):=dU EB λ_ _=>.inr ⟨_,rfl,rfl⟩
def rU3(g:Int->Int):D->MH->VK3->Prop:=λx M Q=>∃i,x=.int i/\Q (.int (g i)) M
theorem EO:Un3 X (unaryOp .USub) (rU3 λi=>-i):=⟨_,BH,λH x v M Q Q2 dx rm ⟨i,e,q⟩ k=>by
 subst e;cases (show v=.int i from dx);exact⟨i,rfl,k _ H _ M bX rm (.refl _) q⟩⟩
noncomputable def D.isN:D->Bool
 |.i_=>true
 |_=>false
theorem rR{K:Ko}{d:D}(h:Den K H d v):decide (v=.i_)=d.isN:=by
 cases d with
 |i_=>cases (show v=.i_ from h);rfl
 |bl b=>cases (show v=.bl b from h);rfl
 |int i=>cases (show v=.int i from h);rfl
 |str x=>cases (show v=.str x from h);rfl
 |tup ds=>obtain⟨p,vs,rfl,_⟩:=h;rfl
 |f_ ds=>obtain⟨p,vs,rfl,_⟩:=h;rfl
 |ref a=>cases (show v=.ref a from h);rfl
 |LR ks ds=>obtain⟨p,vs,_,rfl,_⟩:=h;rfl
 |_=>obtain⟨p,vs,_,_,rfl,_⟩:=h;rfl
def rIs3:R3:=λx y M Q=>y=.i_/\Q (.bl x.isN) M
def rIsN3:R3:=λx y M Q=>y=.i_/\Q (.bl (!x.isN)) M
theorem G0:Op3 X (compareOp .Is) rIs3:=⟨_,Bj,λH x y v u M Q Q2 dx dy rm ⟨e,q⟩ k=>by
 subst e;refine⟨dy,?_⟩;rw[rR dx];exact k _ H _ M cv rm (.refl _) q⟩
theorem xp:Op3 X (compareOp .IsNot) rIsN3:=⟨_,xJ,λH x y v u M Q Q2 dx dy rm ⟨e,q⟩ k=>by
 subst e;refine⟨dy,?_⟩;rw[rR dx];exact k _ H _ M cv rm (.refl _) q⟩
variable {id:String}
def rLen3:List D->MH->VK3->Prop:=λxs M Q=>∃x ds,xs=[x]/\(Is M x ds\/x=.tup ds)/\Q (.int ds.length) M
theorem EF:sy X (.builtin "len") rLen3:=⟨_,nB,λH xs vs M Q Q2 dl rm ⟨x,ds,e,h,q⟩ k=>by
 subst e;obtain⟨v,r,rfl,dv,rfl⟩:=dl;rcases h with h|rfl
 ·obtain⟨a,ys,rfl,sq,l⟩:=rm.list h dv;exact⟨a,ys,rfl,.inl sq,by rw[<-l.length];exact k _ H _ M bX rm (.refl _) q⟩
 ·obtain⟨a,ys,rfl,sq,l⟩:=dv;exact⟨a,ys,rfl,.inr sq,by rw[<-l.length];exact k _ H _ M bX rm (.refl _) q⟩⟩
def rMax3:List D->MH->VK3->Prop:=λxs M Q=>∃i j,xs=[.int i,.int j]/\Q (.int (if j > i then j else i)) M
theorem E0(hc:X.calm=true):sy X (.builtin "max") rMax3:=⟨_,tF hc,λH xs vs M Q Q2 dl rm ⟨i,j,e,q⟩ k=>by
 subst e;obtain⟨v,r,rfl,dv,w,r',rfl,dw,rfl⟩:=dl;cases (show v=.int i from dv);cases (show w=.int j from dw);exact⟨i,j,rfl,k _ H _ M bX rm (.refl _) q⟩⟩
def rMin3:List D->MH->VK3->Prop:=λxs M Q=>∃i j,xs=[.int i,.int j]/\Q (.int (if j<i then j else i)) M
theorem Dq(hc:X.calm=true):sy X (.builtin "min") rMin3:=⟨_,t5 hc,λH xs vs M Q Q2 dl rm ⟨i,j,e,q⟩ k=>by
 subst e;obtain⟨v,r,rfl,dv,w,r',rfl,dw,rfl⟩:=dl;cases (show v=.int i from dv);cases (show w=.int j from dw);exact⟨i,j,rfl,k _ H _ M bX rm (.refl _) q⟩⟩
end
abbrev BackS(K:Ko)(H:Hp)(Q:St3->MH->Prop)(Q2:St->Hp->Prop):Prop:=∀l_ H' v_ M',RelM K M' H'->DenS K H' v_ l_->TM K H H'->Q v_ M'->Q2 l_ H'
section
variable {X:Cx}{st:Stmt}{aT:List Stmt}{t u:TS3}{e:Expr}{te:TE3}{pos:Pos}
structure ItOk (K:Ko)(H0:Hp)(J:It)(ds:List D)(S:MH->Prop):Prop where
 go:∀(i:Nat) H M,TM K H0 H->RelM K M H->S M->i<ds.length->J.go i H
 yld:∀(i:Nat) H M x H',TM K H0 H->RelM K M H->S M->i<ds.length->J.yld i H x H'->TM K H H'/\RelM K M H'/\∃d,ds[i]?=some d/\Den K H' d x
 stop:∀H M,TM K H0 H->RelM K M H->S M->J.stop ds.length H
noncomputable def rng(lo:Int)(n:Nat):List D:=(List.range n).map λ(i:Nat)=>D.int (lo+i)
theorem mV(lo:Int)(n:Nat):(rng lo n).length=n:=by unfold rng;rw[Jo,List.length_range]
theorem Bs{lo:Int}(h:i<n):(rng lo n)[i]?=some (.int (lo+i)):=by
 unfold rng;rw[Jq,List.getElem?_range h];rfl
theorem Ag{K:Ko}{lo:Int}:ItOk K H0 (Itr lo n) (rng lo n) (λ_=>True):=by
 refine⟨λi H M _ _ _ hi=>?_,λi H M x H' _ rm _ hi y=>?_,λH M _ _ _=>?_⟩
 ·rw[mV]at hi;exact hi
 ·rw[mV]at hi;obtain⟨e,y⟩:=y;subst e;subst y;exact⟨.refl _,rm,_,Bs hi,rfl⟩
 ·rw[mV];exact Jn _
end
section
variable {K:Ko}
end
section
variable {X:Cx}
end
noncomputable abbrev XN:=XE->MH->Prop
noncomputable def del(M:MH)(a:Addr):MH:=λb=>if b=a then none else M b
theorem ft(h:M a=none):del (put M a o) a=M:=by
 funext b;unfold del put;by_cases e:b=a
 ·subst e;rw[Jr rfl,h]
 ·rw[Ji e,Ji e]
theorem nL(h:del M a b=some o):b≠a/\M b=some o:=by
 unfold del at h;split at h
 ·cases h
 ·exact⟨by assumption,h⟩
noncomputable def aw(M M':MH):MH:=λa=>match M a with
 |some _=>M' a
 |none=>none
theorem mj(h:aw M M' a=some o):M' a=some o:=by
 unfold aw at h;split at h
 ·exact h
 ·cases h
noncomputable def kp(b:Bool)(M M':MH):MH:=if b=true then aw M M' else M'
theorem wB(h:kp b M M' a=some o):M' a=some o:=by
 cases b with
 |true=>exact mj h
 |false=>exact h
inductive BI where
 |len  |max  |min  |list (fz:Bool)  |all  |any
inductive BM where
 |get  |extend  |remove  |Kw
inductive BT where
 |int|bool|str|tuple|list|dict
mutual
inductive IE where
 |var (i:Nat)
 |con (d:D)
 |bin (op:Operator) (a b:IE)
 |neg (a:IE)
 |cat (fz:Bool) (a b:IE)
 |cmp (op:CmpOp) (a b:IE)
 |chain (op K8:CmpOp) (a b c:IE)
 |and (a b:IE)
 |or (a b:IE)
 |not (a:IE)
 |NZ (c:IT) (a b:IE)
 |tup (es:IA)
 |lst (fz:Bool) (es:IA)
 |u_ (e:IE)
 |ix (a b:IE)
 |sl (fz:Bool) (a:IE) (lo hi:IO)
 |call (f:Nat) (es:IA)
 |bi (b:BI) (es:IA)
 |Ms (e:IE) (t:BT)
 |LS (k v:IE)
 |comp (fz:Bool) (N:List Str) (js:List (Option Nat)) (tg:ITg) (it:II) (cond:ITO) (D_:IE)
 |LU (N:List Str) (js:List (Option Nat)) (tg:ITg) (o:IE) (cond:ITO) (D_:IE)
 |N0 (mx:Bool) (e:IE)
 |OA (e:IE)
 |fld (e:IE) (f:Nat)
 |make (fz:Bool) (i:Nat) (es:IA)
 |E_ (e:IE) (m:Nat) (es:IA)
 |ini (i:Nat) (es:IA)
 |glo (k:Nat)
 |bm (b:BM) (o:IE) (es:IA)
 |KJ (tk:Bool)
inductive IT where
 |val (e:IE)
 |cmp (op:CmpOp) (a b:IE)
 |chain (op K8:CmpOp) (a b c:IE)
 |and (a b:IT)
 |or (a b:IT)
 |not (a:IT)
inductive IA where
 |nil|cons (e:IE) (r:IA)
inductive IO where
 |no|yes (e:IE)
inductive ITO where
 |no|yes (e:IT)
inductive II where
 |seq (e:IE)
 |LV (a:IE)
 |enum (a:IE)
 |zip (a b:IE)
 |items (a:IE)
 |dk (a:IE)
inductive ITg where
 |name (i:Nat)|tup (is:List Nat)
end
mutual
inductive IS where
 |set (i:Nat) (e:IE)
 |MO (is:List Nat) (e:IE)
 |expr (e:IE)
 |ret (e:IE)
 |Mc
 |ifs (c:IT) (a b:ISs)
 |Kr (tg:ITg) (it:II) (body:ISs)
 |Pd (c:IT) (body:ISs)
 |app (o e:IE)
 |del (i:Nat)
 |Lb (o:IE) (f:Nat) (e:IE)
 |y_ (o i e:IE)
 |dead
 |L3 (tg:ITg) (o:IE) (body:ISs)
 |Md (tg:ITg) (o:IE) (body:ISs)
inductive ISs where
 |nil|cons (s:IS) (r:ISs)
end
noncomputable def ak(M:MH):D->Option (List D)
 |.f_ ds=>some ds
 |.ref a=>match M a with
  |some (.lst ds)=>some ds
  |_=>none
 |_=>none
noncomputable def az(M:MH):D->Option (List D)
 |.tup ds=>some ds
 |x=>ak M x
noncomputable def res(M:MH)(x:D):D:=match ak M x with
 |some ds=>.f_ ds
 |none=>x
def gk(fz:Bool)(ds:List D)(M:MH)(Q:VK3):Prop:=ds.length<=sizeLine/\if fz=true then Q (.f_ ds) M else ∀p,M p=none->Q (.ref p) (put M p (.lst ds))
noncomputable def plN:Nat->D->Bool
 |_,.ref _=>false
 |n,.tup ds=>match n with
  |0=>false
  |m+1=>ds.all (plN m)
 |n,.f_ ds=>match n with
  |0=>false
  |m+1=>ds.all (plN m)
 |_,.obj _ _ _ _=>false
 |_,.LR _ _=>false
 |_,.H_ _ _=>false
 |_,_=>true
noncomputable abbrev pl(x:D):Bool:=plN 8 x
noncomputable abbrev pls(ds:List D):Bool:=ds.all (plN 8)
mutual
noncomputable def eqD:D->D->Bool
 |.i_,y=>match y with
  |.i_=>true
  |_=>false
 |.bl a,y=>match y with
  |.bl b=>a == b
  |.int b=>decide ((if a=true then (1:Int) else 0)=b)
  |_=>false
 |.int a,y=>match y with
  |.int b=>decide (a=b)
  |.bl b=>decide (a=if b=true then (1:Int) else 0)
  |_=>false
 |.str a,y=>match y with
  |.str b=>decide (a=b)
  |_=>false
 |.tup a,y=>match y with
  |.tup b=>cV a b
  |_=>false
 |.f_ a,y=>match y with
  |.f_ b=>cV a b
  |_=>false
 |.ref _,_=>false
 |.obj _ _ _ _,_=>false
 |.LR _ _,_=>false
 |.H_ _ _,_=>false
noncomputable def cV:List D->List D->Bool
 |[],y=>match y with
  |[]=>true
  |_=>false
 |a::r,y=>match y with
  |b::t=>eqD a b&&cV r t
  |_=>false
end
def rII(C:Int->Int->Prop)(g:Int->Int->D)(x y:D)(M:MH)(Q:VK3):Prop:=match x,y with
 |.int i,.int j=>C i j/\Q (g i j) M
 |_,_=>False
def rI2(g:Int->Int->D)(x y:D)(M:MH)(Q:VK3):Prop:=match x,y with
 |.int i,.int j=>Q (g i j) M
 |_,_=>False
def vc(x y:D)(M:MH)(Q:VK3):Prop:=match x,y with
 |.int i,.int j=>Q (.int (i+j)) M
 |.tup a,.tup b=>a.length+b.length<=sizeLine/\Q (.tup (a++b)) M
 |_,_=>False
def wb(x y:D)(M:MH)(Q:VK3):Prop:=match x,y with
 |.int i,.int j=>cA i j/\Q (.int (i*j)) M
 |_,_=>False
def lI:Operator->D->D->MH->VK3->Prop
 |.Add=>vc
 |.Sub=>rI2 λi j=>.int (i-j)
 |.Mult=>wb
 |.FloorDiv=>rII l7 λi j=>.int (i / j)
 |.Mod=>rII (λ_ j=>0<j) λi j=>.int (i % j)
 |.Pow=>rII uR λi j=>.int (i ^ j.toNat)
 |.RShift=>rII (λ_ j=>0<=j) λi j=>.int (i / 2 ^ j.toNat)
 |.BitAnd=>rI2 λi j=>.int (Builtin.bitAnd i j)
 |_=>λ_ _ _ _=>False
def rNeg(x:D)(M:MH)(Q:VK3):Prop:=match x with
 |.int i=>Q (.int (-i)) M
 |_=>False
def jQ(fz:Bool)(x y:D)(M:MH)(Q:VK3):Prop:=match ak M x,ak M y with
 |some a,some b=>gk fz (a++b) M Q
 |_,_=>match x,y with
  |.tup a,.tup b=>a.length+b.length<=sizeLine/\Q (.tup (a++b)) M
  |_,_=>False
noncomputable def rs(M:MH)(x:D):D:=match ak M x with
 |some ds=>.f_ (if pls ds=true then ds else ds.map (res M))
 |none=>x
def ll(neg:Bool)(x y:D)(M:MH)(Q:VK3):Prop:=pl (rs M x)=true/\pl (rs M y)=true/\Q (.bl (neg ^^ eqD (rs M x) (rs M y))) M
def qH(neg:Bool)(x y:D)(M:MH)(Q:VK3):Prop:=match y with
 |.i_=>Q (.bl (neg ^^ x.isN)) M
 |.bl b=>match x with
  |.bl a=>Q (.bl (neg ^^ (a == b))) M
  |.i_=>Q (.bl neg) M
  |_=>False
 |_=>False
noncomputable def m9:D->Option Key
 |.int i=>some (.inl i)
 |.str s=>some (.inr s)
 |_=>none
noncomputable def bh:List D->Option (List Int)
 |[]=>some []
 |.int i::r=>match bh r with
  |some ns=>some (i::ns)
  |none=>none
 |_::_=>none
noncomputable def gh:D->Option (List Int)
 |.tup es=>bh es
 |_=>none
noncomputable def getD[DecidableEq κ]:List κ->List D->κ->Option D
 |k::ks,d::ds,x=>if k=x then some d else getD ks ds x
 |_,_,_=>none
noncomputable def aj[DecidableEq κ]:List κ->κ->List κ
 |[],x=>[x]
 |k::ks,x=>if k=x then k::ks else k::aj ks x
noncomputable def au[DecidableEq κ]:List κ->List D->κ->D->List D
 |k::ks,d::ds,x,y=>if k=x then y::ds else d::au ks ds x y
 |_,_,_,y=>[y]
noncomputable def cU(M:MH):D->Option (List Key×List D)
 |.LR ks ds=>some (ks,ds)
 |.ref a=>match M a with
  |some (.dk ks ds)=>some (ks,ds)
  |_=>none
 |_=>none
noncomputable def c9(M:MH):D->Option (List (List Int)×List D)
 |.H_ ks ds=>some (ks,ds)
 |.ref a=>match M a with
  |some (.dt ks ds)=>some (ks,ds)
  |_=>none
 |_=>none
noncomputable def dM(M:MH)(x y:D):Option (Option D):=match cU M x with
 |some (ks,ds)=>match m9 y with
  |some k=>some (getD ks ds k)
  |none=>none
 |none=>match c9 M x with
  |some (ks,ds)=>match gh y with
   |some k=>some (getD ks ds k)
   |none=>none
  |none=>none
def lj(neg:Bool)(x y:D)(M:MH)(Q:VK3):Prop:=match az M y with
 |some ds=>pl (res M x)=true/\pls ds=true/\Q (.bl (neg ^^ ds.any λd=>eqD d (res M x))) M
 |none=>match dM M y x with
  |some o=>Q (.bl (neg ^^ o.isSome)) M
  |none=>False
def aC:CmpOp->D->D->MH->VK3->Prop
 |.Eq=>ll false
 |.NotEq=>ll true
 |.Lt=>rI2 λi j=>.bl (decide (i<j))
 |.LtE=>rI2 λi j=>.bl (decide (i<=j))
 |.Gt=>rI2 λi j=>.bl (decide (j<i))
 |.GtE=>rI2 λi j=>.bl (decide (j<=i))
 |.Is=>qH false
 |.IsNot=>qH true
 |.In=>lj false
 |.NotIn=>lj true
def ao(x y:D)(M:MH)(Q:VK3):Prop:=match az M x with
 |some ds=>match y with
  |.int i=>match atI ds i with
   |some d=>Q d M
   |none=>False
  |_=>False
 |none=>match dM M x y with
  |some (some d)=>Q d M
  |some none=>False
  |none=>False
noncomputable def fB(xs:List D)(lo hi:Option Int):List D:=(xs.drop (HT.sIx xs.length 0 lo)).take (HT.sIx xs.length xs.length hi-HT.sIx xs.length 0 lo)
noncomputable def whole(n:Nat)(lo hi:Option Int):Bool:=HT.sIx n 0 lo == 0&&HT.sIx n n hi == n
def nY(fz:Bool)(x:D)(lo hi:Option Int)(M:MH)(Q:VK3):Prop:=match x with
 |.tup ds=>whole ds.length lo hi=false/\Q (.tup (fB ds lo hi)) M
 |x=>match ak M x with
  |some ds=>gk fz (fB ds lo hi) M Q
  |none=>False
noncomputable def fk:List D->Option (List Bool)
 |[]=>some []
 |.bl i::r=>match fk r with
  |some ns=>some (i::ns)
  |none=>none
 |_::_=>none
noncomputable def qi(y:D):List D->Nat->Option Nat
 |[],_=>none
 |d::r,k=>if eqD d y=true then some k else qi y r (k+1)
noncomputable def isLstM(x:D)(M:MH):Bool:=match x with
 |.ref a=>match M a with
  |some (.lst _)=>true
  |_=>false
 |_=>false
noncomputable def zm(n:Nat)(i:Int):Nat:=if i<0 then (i+n).toNat else min i.toNat n
noncomputable def tyB:BM->D->MH->Bool
 |.get,x,M=>(cU M x).isSome||(c9 M x).isSome
 |.extend,x,M=>isLstM x M
 |.remove,x,M=>isLstM x M
 |.Kw,x,M=>(cU M x).isSome||(c9 M x).isSome
def rBm:BM->D->List D->MH->VK3->Prop
 |.get,x,ys,M,Q=>match ys with
  |[y]=>match dM M x y with
   |some o=>Q (o.getD .i_) M
   |none=>False
  |[y,z]=>match dM M x y with
   |some o=>Q (o.getD z) M
   |none=>False
  |_=>False
 |.Kw,x,ys,M,Q=>match x,ys with
  |.ref a,[y,z]=>match M a,m9 y with
   |some (.dk ks ds),some k=>ks.length<sizeLine/\(match getD ks ds k with
    |some d=>Q d M
    |none=>Q z (put M a (.dk (aj ks k) (au ks ds k z))))
   |_,_=>False
  |_,_=>False
 |.remove,x,ys,M,Q=>match x,ys with
  |.ref a,[y]=>match M a with
   |some (.lst ds)=>(pl (res M y)=true/\pls ds=true)/\(match qi (res M y) ds 0 with
    |some k=>Q .i_ (put M a (.lst (ds.eraseIdx k)))
    |none=>False)
   |_=>False
  |_,_=>False
 |.extend,x,ys,M,Q=>match x,ys with
  |.ref a,[y]=>match M a,ak M y with
   |some (.lst ds),some es=>ds.length+es.length<=sizeLine/\Q .i_ (put M a (.lst (ds++es)))
   |_,_=>False
  |_,_=>False
noncomputable def bS(k:List Int):D:=.tup (k.map D.int)
def rBi:BI->List D->MH->VK3->Prop
 |.len,xs,M,Q=>match xs with
  |[x]=>match az M x with
   |some ds=>Q (.int ds.length) M
   |none=>match c9 M x with
    |some (ks,_)=>Q (.int ks.length) M
    |none=>False
  |_=>False
 |.max,xs,M,Q=>match xs with
  |[.int i,.int j]=>Q (.int (if j > i then j else i)) M
  |_=>False
 |.min,xs,M,Q=>match xs with
  |[.int i,.int j]=>Q (.int (if j<i then j else i)) M
  |_=>False
 |.list fz,xs,M,Q=>match xs with
  |[x]=>match az M x with
   |some ds=>gk fz ds M Q
   |none=>match c9 M x with
    |some (ks,_)=>gk fz (ks.map bS) M Q
    |none=>False
  |_=>False
 |.all,xs,M,Q=>match xs with
  |[x]=>match ak M x with
   |some ds=>match fk ds with
    |some bs=>Q (.bl (bs.all id)) M
    |none=>False
   |none=>False
  |_=>False
 |.any,xs,M,Q=>match xs with
  |[x]=>match ak M x with
   |some ds=>match fk ds with
    |some bs=>Q (.bl (bs.any id)) M
    |none=>False
   |none=>False
  |_=>False
def mP(t:BT)(x:D)(M:MH)(Q:VK3):Prop:=match x with
 |.i_=>Q (.bl false) M
 |.bl _=>Q (.bl (match t with|.int=>true|.bool=>true|_=>false)) M
 |.int _=>Q (.bl (match t with|.int=>true|_=>false)) M
 |.str _=>Q (.bl (match t with|.str=>true|_=>false)) M
 |.tup _=>Q (.bl (match t with|.tuple=>true|_=>false)) M
 |.f_ _=>Q (.bl (match t with|.list=>true|_=>false)) M
 |.ref a=>match M a with
  |some (.lst _)=>Q (.bl (match t with|.list=>true|_=>false)) M
  |some (.dk _ _)=>Q (.bl (match t with|.dict=>true|_=>false)) M
  |some (.dt _ _)=>Q (.bl (match t with|.dict=>true|_=>false)) M
  |_=>False
 |.LR _ _=>Q (.bl (match t with|.dict=>true|_=>false)) M
 |.H_ _ _=>Q (.bl (match t with|.dict=>true|_=>false)) M
 |.obj _ _ _ _=>False
noncomputable def ml:List D->Option (List Int)
 |[]=>some []
 |.int i::r=>match ml r with
  |some ns=>some (i::ns)
  |none=>none
 |_::_=>none
noncomputable def mmI(mx:Bool)(a b:Int):Int:=if mx=true then (if b > a then b else a) else (if b<a then b else a)
noncomputable def prD(p:Int×Int):D:=.tup [.int p.1,.int p.2]
noncomputable def tG:List D->Option (List (Int×Int))
 |[]=>some []
 |.tup [.int a,.int b]::r=>match tG r with
  |some ps=>some ((a,b)::ps)
  |none=>none
 |_::_=>none
noncomputable def wG(ps:List (Int×Int)):Int×Int:=ps.getD (argBest (λi j=>lt2 (ps.getD i (0,0)) (ps.getD j (0,0))) (ps.length-1)) (0,0)
def rMp(x:D)(M:MH)(Q:VK3):Prop:=match ak M x with
 |some ds=>match tG ds with
  |some (p::ps)=>Q (prD (wG (p::ps))) M
  |_=>False
 |none=>False
def pG(mx:Bool)(x:D)(M:MH)(Q:VK3):Prop:=match ak M x with
 |some ds=>match ml ds with
  |some []=>Q (.int 0) M
  |some (n::ns)=>Q (.int (ns.foldl (mmI mx) n)) M
  |none=>False
 |none=>False
def fD(p:Addr)(x y:D)(M:MH)(Q:VK3):Prop:=match gh x with
 |some k=>M p=some (.dt [] [])/\Q (.ref p) (put M p (.dt [k] [y]))
 |none=>False
structure WB where
 ne:Nat
 cls:Nat->Addr
 sub:Nat->Nat->Bool
 nk:Nat
 c_:Nat->Addr
 ksub:Nat->Nat->Bool
 fok:Nat->Nat->Bool
 mth:Nat->Nat->Option Nat
 ini:Nat->Option Nat
 xin:Nat->Option Nat
 glo:Nat->D
 e_:Nat->Addr
structure WC extends WB where
 call:Nat->List D->MH->VK3->XN->Prop
noncomputable def bK(f:Nat):List Nat->List D->Option D
 |n::ns,d::ds=>if n=f then some d else bK f ns ds
 |_,_=>none
noncomputable def cC(f:Nat):List Nat->List Nat
 |n::ns=>if n=f then n::ns else n::cC f ns
 |[]=>[f]
noncomputable def cB(f:Nat)(y:D):List Nat->List D->List D
 |n::ns,d::ds=>if n=f then y::ds else d::cB f y ns ds
 |_,_=>[y]
def oQ(f:Nat)(ns:List Nat)(ds:List D)(M:MH)(Q:VK3):Prop:=match bK f ns ds with
 |some d=>Q d M
 |none=>False
def dP(B:WB)(f:Nat)(x:D)(M:MH)(Q:VK3):Prop:=match x with
 |.obj i C ns ds=>(C=B.c_ i/\i<B.nk/\B.fok i f=true)/\oQ f ns ds M Q
 |.ref a=>match M a with
  |some (.ins i C ns ds)=>(C=B.c_ i/\i<B.nk/\B.fok i f=true)/\oQ f ns ds M Q
  |_=>False
 |_=>False
def gu(o:Option Nat)(R:Nat->Prop):Prop:=match o with
 |some f=>R f
 |none=>False
def cG(B:WB)(m:Nat)(x:D)(M:MH)(R:Nat->Prop):Prop:=match x with
 |.obj i C ns ds=>(C=B.c_ i/\i<B.nk/\bK m ns ds=none)/\gu (B.mth i m) R
 |.ref a=>match M a with
  |some (.ins i C ns ds)=>(C=B.c_ i/\i<B.nk/\bK m ns ds=none)/\gu (B.mth i m) R
  |_=>False
 |_=>False
def jL(Q:VK3):VK3:=λx M=>match x with
 |.ref a=>match M a with
  |some (.lst ds)=>Q (.f_ ds) (del M a)
  |_=>False
 |_=>False
def eG:List D->MH->(List D->MH->Prop)->Prop
 |[],M,R=>R [] M
 |d::ds,M,R=>match d with
  |.ref a=>match M a with
   |some (.lst es)=>eG ds (del M a) λr M'=>R (.f_ es::r) M'
   |some (.dk ks es)=>eG ds (del M a) λr M'=>R (.LR ks es::r) M'
   |some (.dt ks es)=>eG ds (del M a) λr M'=>R (.H_ ks es::r) M'
   |_=>eG ds M λr M'=>R (.ref a::r) M'
  |d=>eG ds M λr M'=>R (d::r) M'
def bb(Q:VK3):VK3:=λx M=>match x with
 |.ref a=>match M a with
  |some (.lst ds)=>Q (.f_ ds) (del M a)
  |some (.dk ks ds)=>Q (.LR ks ds) (del M a)
  |some (.dt ks ds)=>Q (.H_ ks ds) (del M a)
  |some (.ins i C ns ds)=>eG ds (del M a) λr M'=>Q (.obj i C ns r) M'
  |_=>False
 |_=>False
def wpG:ITg->D->St3->MH->(St3->MH->Prop)->Prop
 |.name i,d,Z,M,Q=>Q (Z.set i (some d)) M
 |.tup is,d,Z,M,Q=>match d with
  |.tup ds=>ds.length=is.length/\Q ((is.zip ds).foldl (λZ p=>Z.set p.1 (some p.2)) Z) M
  |_=>False
noncomputable def ay(js:List (Option Nat))(Z:St3):St3:=js.map λo=>o.bind λj=>(Z[j]?).bind id
def bM(g:D->St3->MH->(St3->MH->Prop)->Prop)(tt:St3->MH->(Bool->MH->Prop)->Prop)(te:St3->MH->VK3->Prop)(S:MH->Prop)(p:Addr)(Q:VK3):List D->List D->St3->MH->Prop
 |[],_,_,M=>S M/\Q (.ref p) M
 |d::r,ys,Z,M=>S M/\ys.length<sizeLine/\g d Z M λLh M2=>tt Lh M2 λb M3=>if b=true then te Lh M3 λy M4=>M4 p=some (.lst ys)/\bM g tt te S p Q r (ys++[y]) Lh (put M4 p (.lst (ys++[y]))) else bM g tt te S p Q r ys Lh M3
noncomputable def kD:Key->D
 |.inl i=>.int i
 |.inr x=>.str x
noncomputable def f8(ks:List Key)(ds:List D):List D:=(ks.zip ds).map λp=>.tup [kD p.1,p.2]
def aE(x k y:D)(M:MH)(R:MH->Prop):Prop:=match x with
 |.ref a=>match M a,k with
  |some (.lst ds),.int i=>(match ixN ds.length i with
   |some j=>R (put M a (.lst (ds.set j y)))
   |none=>False)
  |some (.dk ks ds),k=>(match m9 k with
   |some q=>ks.length<sizeLine/\R (put M a (.dk (aj ks q) (au ks ds q y)))
   |none=>False)
  |some (.dt ks ds),k=>(match gh k with
   |some q=>ks.length<sizeLine/\R (put M a (.dt (aj ks q) (au ks ds q y)))
   |none=>False)
  |_,_=>False
 |_=>False
noncomputable def cy:Nat->List D->List D
 |_,[]=>[]
 |k,d::r=>.tup [.int k,d]::cy (k+1) r
noncomputable def ar(ks:List (List Int))(ds:List D):List D:=(ks.zip ds).map λp=>.tup [.tup (p.1.map D.int),p.2]
noncomputable def iZ(xs ys:List D):List D:=(xs.zip ys).map λp=>.tup [p.1,p.2]
def rLs(x:D)(M:MH)(k:List D->(MH->Prop)->Prop):Prop:=match x with
 |.f_ xs=>k xs λ_=>True
 |.ref b=>match M b with
  |some (.lst ys)=>k ys λM=>M b=some (.lst ys)
  |_=>False
 |_=>False
noncomputable def cpF(f:Nat):Bool:=f == 217822450
def eW(x:D)(M:MH)(R:Addr->List (List Int)->List D->Prop):Prop:=match x with
 |.ref d=>match M d with
  |some (.dt ks es)=>R d ks es
  |_=>False
 |_=>False
noncomputable def iO(d:Addr)(φ:Heap->Prop)(ks:List (List Int))(es:List D)(D:Ends3):Ends3:=
 ⟨λZ M=>M d=some (.t_ φ)/\D.nx Z (put M d (.dt ks es)),λv M=>M d=some (.t_ φ)/\D.rt v (put M d (.dt ks es)),λZ M=>M d=some (.t_ φ)/\D.bk Z (put M d (.dt ks es)),λZ M=>M d=some (.t_ φ)/\D.ct Z (put M d (.dt ks es))⟩
section
variable (W:WC)
mutual
def wpE:IE->St3->MH->VK3->XN->Prop
 |.var i,Z,M,Q,_=>match Z[i]? with
  |some (some d)=>Q d M
  |_=>False
 |.con d,_,M,Q,_=>Q d M
 |.bin op a b,Z,M,Q,E=>wpE a Z M (λx M1=>wpE b Z M1 (λy M2=>lI op x y M2 Q) E) E
 |.neg a,Z,M,Q,E=>wpE a Z M (λx M1=>rNeg x M1 Q) E
 |.cat fz a b,Z,M,Q,E=>wpE a Z M (λx M1=>wpE b Z M1 (λy M2=>jQ fz x y M2 Q) E) E
 |.cmp op a b,Z,M,Q,E=>wpE a Z M (λx M1=>wpE b Z M1 (λy M2=>aC op x y M2 Q) E) E
 |.chain op K8 a b c,Z,M,Q,E=>wpE a Z M (λx M1=>wpE b Z M1 (λy M2=>aC op x y M2 λr M3=>match r with
  |.bl k=>if k=true then wpE c Z M3 (λz M4=>aC K8 y z M4 Q) E else Q (.bl false) M3
  |_=>False) E) E
 |.and a b,Z,M,Q,E=>wpE a Z M (λx M1=>match x with
  |.bl c=>if c=true then wpE b Z M1 Q E else Q (.bl false) M1
  |_=>False) E
 |.or a b,Z,M,Q,E=>wpE a Z M (λx M1=>match x with
  |.bl c=>if c=true then Q (.bl true) M1 else wpE b Z M1 Q E
  |_=>False) E
 |.not a,Z,M,Q,E=>wpE a Z M (λx M1=>match x with
  |.bl c=>Q (.bl (!c)) M1
  |_=>False) E
 |.NZ c a b,Z,M,Q,E=>wpT c Z M (λk M1=>if k=true then wpE a Z M1 Q E else wpE b Z M1 Q E) E
 |.tup es,Z,M,Q,E=>wpA es Z M (λxs M1=>xs.length<=sizeLine/\Q (.tup xs) M1) E
 |.lst fz es,Z,M,Q,E=>wpA es Z M (λxs M1=>gk fz xs M1 Q) E
 |.u_ e,Z,M,Q,E=>wpE e Z M (bb Q) E
 |.ix a b,Z,M,Q,E=>wpE a Z M (λx M1=>wpE b Z M1 (λy M2=>ao x y M2 Q) E) E
 |.sl fz a lo hi,Z,M,Q,E=>wpE a Z M (λx M1=>wpO lo Z M1 (λl M2=>wpO hi Z M2 (λh M3=>nY fz x l h M3 Q) E) E) E
 |.call f es,Z,M,Q,E=>wpA es Z M (λxs M1=>W.call f xs M1 Q E) E
 |.bi b es,Z,M,Q,E=>wpA es Z M (λxs M1=>rBi b xs M1 Q) E
 |.Ms e t,Z,M,Q,E=>wpE e Z M (λx M1=>mP t x M1 Q) E
 |.LS k v,Z,M,Q,E=>∀p,M p=none->wpE k Z (put M p (.dt [] [])) (λx M1=>wpE v Z M1 (λy M2=>fD p x y M2 Q) E) E
 |.comp fz _ js tg it cond D_,Z,M,Q,E=>wpI it Z M (λds S M1=>∀p,M1 p=none->
   bM (wpG tg) (λZ M Q=>lG cond Z M Q (λ_ _=>False)) (λZ M Q=>wpE D_ Z M Q (λ_ _=>False)) S p (if fz=true then jL Q else Q) ds [] (ay js Z) (put M1 p (.lst []))) E
 |.LU _ js tg o cond D_,Z,M,Q,E=>wpE o Z M (λx M1=>eW x M1 λd ks es=>∀φ p,M1 p=none->
   bM (wpG tg) (λZ M Q=>lG cond Z M Q (λ_ _=>False)) (λZ M Q=>wpE D_ Z M Q (λ_ _=>False)) (λM=>M d=some (.t_ φ)) p (λy M2=>Q y (put M2 d (.dt ks es))) (ar ks es) [] (ay js Z) (put (put M1 d (.t_ φ)) p (.lst []))) E
 |.N0 mx e,Z,M,Q,E=>wpE e Z M (λx M1=>pG mx x M1 Q) E
 |.OA e,Z,M,Q,E=>wpE e Z M (λx M1=>rMp x M1 Q) E
 |.fld e f,Z,M,Q,E=>wpE e Z M (λx M1=>dP W.toWB f x M1 Q) E
 |.make fz i es,Z,M,Q,E=>wpA es Z M (λxs M1=>i<W.nk/\gu (W.ini i) λf=>∀p,M1 p=none->
   W.call f (.ref p::xs) (put M1 p (.ins i (W.c_ i) [] [])) (λv M2=>v=.i_/\if fz=true then bb Q (.ref p) M2 else Q (.ref p) M2) (λi M'=>E i (del M' p))) E
 |.E_ e m es,Z,M,Q,E=>wpE e Z M (λx M1=>cG W.toWB m x M1 λf=>wpA es Z M1 (λxs M2=>W.call f (x::xs) M2 Q E) E) E
 |.ini i es,Z,M,Q,E=>wpA es Z M (λxs M1=>i<W.nk/\gu (W.ini i) λf=>W.call f xs M1 Q E) E
 |.glo k,_,M,Q,_=>Q (W.glo k) M
 |.bm b o es,Z,M,Q,E=>wpE o Z M (λx M1=>tyB b x M1=true/\wpA es Z M1 (λxs M2=>rBm b x xs M2 Q) E) E
 |.KJ tk,_,M,Q,_=>∀p,M p=none->Q (.ref p) (put M p (if tk=true then .dt [] [] else .dk [] []))
def wpT:IT->St3->MH->(Bool->MH->Prop)->XN->Prop
 |.val e,Z,M,Q,E=>wpE e Z M (λx M1=>match x with
  |.bl k=>Q k M1
  |_=>False) E
 |.cmp op a b,Z,M,Q,E=>wpE a Z M (λx M1=>wpE b Z M1 (λy M2=>aC op x y M2 λr M3=>match r with
  |.bl k=>Q k M3
  |_=>False) E) E
 |.chain op K8 a b c,Z,M,Q,E=>wpE a Z M (λx M1=>wpE b Z M1 (λy M2=>aC op x y M2 λr M3=>match r with
  |.bl k=>if k=true then wpE c Z M3 (λz M4=>aC K8 y z M4 λr M5=>match r with
   |.bl k=>Q k M5
   |_=>False) E else Q false M3
  |_=>False) E) E
 |.and a b,Z,M,Q,E=>wpT a Z M (λc M1=>if c=true then wpT b Z M1 Q E else Q false M1) E
 |.or a b,Z,M,Q,E=>wpT a Z M (λc M1=>if c=true then Q true M1 else wpT b Z M1 Q E) E
 |.not a,Z,M,Q,E=>wpT a Z M (λc M1=>Q (!c) M1) E
def wpA:IA->St3->MH->(List D->MH->Prop)->XN->Prop
 |.nil,_,M,Q,_=>Q [] M
 |.cons e r,Z,M,Q,E=>wpE e Z M (λx M1=>wpA r Z M1 (λxs M2=>Q (x::xs) M2) E) E
def wpO:IO->St3->MH->(Option Int->MH->Prop)->XN->Prop
 |.no,_,M,Q,_=>Q none M
 |.yes e,Z,M,Q,E=>wpE e Z M (λx M1=>match x with
  |.int i=>Q (some i) M1
  |_=>False) E
def lG:ITO->St3->MH->(Bool->MH->Prop)->XN->Prop
 |.no,_,M,Q,_=>Q true M
 |.yes e,Z,M,Q,E=>wpT e Z M Q E
def wpI:II->St3->MH->(List D->(MH->Prop)->MH->Prop)->XN->Prop
 |.seq e,Z,M,R,E=>wpE e Z M (λx M1=>match x with
  |.tup ds=>R ds (λ_=>True) M1
  |.f_ ds=>R ds (λ_=>True) M1
  |.ref a=>match M1 a with
   |some (.lst ds)=>R ds (λM=>M a=some (.lst ds)) M1
   |_=>False
  |_=>False) E
 |.enum a,Z,M,R,E=>wpE a Z M (λx M1=>match x with
  |.f_ ds=>R (cy 0 ds) (λ_=>True) M1
  |.ref a=>match M1 a with
   |some (.lst ds)=>R (cy 0 ds) (λM=>M a=some (.lst ds)) M1
   |_=>False
  |_=>False) E
 |.zip a b,Z,M,R,E=>wpE a Z M (λx M1=>wpE b Z M1 (λy M2=>rLs x M2 λxs S=>rLs y M2 λys S'=>R (iZ xs ys) (λM=>S M/\S' M) M2) E) E
 |.items a,Z,M,R,E=>wpE a Z M (λx M1=>match x with
  |.H_ ks ds=>R (ar ks ds) (λ_=>True) M1
  |.LR ks ds=>R (f8 ks ds) (λ_=>True) M1
  |_=>False) E
 |.dk a,Z,M,R,E=>wpE a Z M (λx M1=>match x with
  |.H_ ks ds=>R (ks.map bS) (λ_=>True) M1
  |_=>False) E
 |.LV a,Z,M,R,E=>wpE a Z M (λx M1=>match x with
  |.int j=>-(2 ^ 62)<=j/\j<2 ^ 62/\R (rng 0 j.toNat) (λ_=>True) M1
  |_=>False) E
end
def cM(g:D->St3->MH->(St3->MH->Prop)->Prop)(tb:Ends3->St3->MH->Prop)(S:MH->Prop)(D:Ends3):List L2.D->St3->MH->Prop
 |[],Z,M=>S M/\D.nx Z M
 |d::r,Z,M=>S M/\g d Z M λLh M2=>tb {D with nx:=cM g tb S D r,ct:=cM g tb S D r,bk:=D.nx} Lh M2
mutual
def wpS:IS->Ends3->(St3->XN)->St3->MH->Prop
 |.set i e,D,E,Z,M=>wpE W e Z M (λx M1=>D.nx (Z.set i (some x)) M1) (E Z)
 |.MO is e,D,E,Z,M=>wpE W e Z M (λx M1=>match x with
  |.tup ds=>ds.length=is.length/\D.nx ((is.zip ds).foldl (λZ p=>Z.set p.1 (some p.2)) Z) M1
  |_=>False) (E Z)
 |.expr e,D,E,Z,M=>wpE W e Z M (λ_ M1=>D.nx Z M1) (E Z)
 |.ret e,D,E,Z,M=>wpE W e Z M D.rt (E Z)
 |.Mc,D,_,_,M=>D.rt .i_ M
 |.ifs c a b,D,E,Z,M=>wpT W c Z M (λk M1=>if k=true then aW a D E Z M1 else aW b D E Z M1) (E Z)
 |.Kr tg it body,D,E,Z,M=>wpI W it Z M (λds S M1=>cM (wpG tg) (λD Z M=>aW body D E Z M) S D ds Z M1) (E Z)
 |.Pd c body,D,E,Z,M=>∃P:Nat->St3->MH->Prop,(∃m,P m Z M)/\∀m Z M,P m Z M->wpT W c Z M (λb M1=>if b=true then
   aW body {D with nx:=λl_ M'=>∃m',m' < m/\P m' l_ M',ct:=λl_ M'=>∃m',m' < m/\P m' l_ M',bk:=D.nx} E Z M1 else D.nx Z M1) (E Z)
 |.app o e,D,E,Z,M=>wpE W o Z M (λx M1=>match x with
  |.ref a=>match M1 a with
   |some (.lst _)=>wpE W e Z M1 (λy M2=>match M2 a with
    |some (.lst ds)=>ds.length<sizeLine/\D.nx Z (put M2 a (.lst (ds++[y])))
    |_=>False) (E Z)
   |_=>False
  |_=>False) (E Z)
 |.del i,D,_,Z,M=>match Z[i]? with
  |some (some x)=>bb (λy M'=>D.nx (Z.set i (some y)) M') x M
  |_=>False
 |.Lb o f e,D,E,Z,M=>wpE W e Z M (λy M1=>wpE W o Z M1 (λx M2=>match x with
  |.ref a=>match M2 a with
   |some (.ins i C ns ds)=>(C=W.c_ i/\i<W.nk/\W.fok i f=true/\ns.length<1000)/\D.nx Z (put M2 a (.ins i C (cC f ns) (cB f y ns ds)))
   |_=>False
  |_=>False) (E Z)) (E Z)
 |.y_ o i e,D,E,Z,M=>wpE W e Z M (λy M1=>wpE W o Z M1 (λx M2=>wpE W i Z M2 (λk M3=>aE x k y M3 λM4=>D.nx Z M4) (E Z)) (E Z)) (E Z)
 |.dead,_,_,_,_=>False
 |.Md tg o body,D,E,Z,M=>wpE W o Z M (λx M1=>eW x M1 λd ks es=>∀φ,cM (wpG tg) (λD Z M=>aW body D (λ_ _ _=>False) Z M) (λM=>M d=some (.t_ φ)) (iO d φ ks es D) (ar ks es) Z (put M1 d (.t_ φ))) (E Z)
 |.L3 tg o body,D,E,Z,M=>wpE W o Z M (λx M1=>eW x M1 λd ks es=>∀φ,cM (wpG tg) (λD Z M=>aW body D (λ_ _ _=>False) Z M) (λM=>M d=some (.t_ φ)) (iO d φ ks es D) (ks.map bS) Z (put M1 d (.t_ φ))) (E Z)
def aW:ISs->Ends3->(St3->XN)->St3->MH->Prop
 |.nil,D,_,Z,M=>D.nx Z M
 |.cons s r,D,E,Z,M=>wpS s {D with nx:=λl_ M'=>aW r D E l_ M'} E Z M
end
end
def LkE(K:Ko)(cls:Nat->Addr)(H:Hp)(E3:XN)(E:XK):Prop:=∀i M' H',TM K H H'->RelM K M' H'->E3 i M'->∀dx,XD K H' i dx->E (.ref (cls i.c)) dx H'
def LkS(K:Ko)(cls:Nat->Addr)(H:Hp)(E3:St3->XN)(E2:St->XK):Prop:=∀h_ Z i M' H',TM K H H'->DenS K H' h_ Z->RelM K M' H'->E3 h_ i M'->∀dx,XD K H' i dx->E2 Z (.ref (cls i.c)) dx H'
section
variable {K:Ko}
theorem LkE.mono(h:LkE K cls H E3 E)(t:TM K H H1):LkE K cls H1 E3 E:=λi M' H' t' r q=>h i M' H' (t.trans t') r q
theorem LkS.mono(h:LkS K cls H E3 E2)(t:TM K H H1):LkS K cls H1 E3 E2:=λh_ Z i M' H' t' d r q=>h h_ Z i M' H' (t.trans t') d r q
theorem LkS.at(h:LkS K cls H E3 E2)(ds:DenS K H h_ Z):LkE K cls H (E3 h_) (E2 Z):=λi M' H' t r q=>h h_ Z i M' H' t (ds.mono t) r q
theorem LkE.no:LkE K cls H (λ_ _=>False) E:=λ_ _ _ _ _ h=>h.elim
theorem Back.mono(h:Back K H Q Q2)(t:TM K H H1):Back K H1 Q Q2:=λv H' d M' a b c e=>h v H' d M' a b (t.trans c) e
end
section
variable (K:Ko) (cls:Nat->Addr) (E2:St->XK)
noncomputable def low(t:St3->MH->VK3->XN->Prop):TE:=λZ H Q2=>∃h_ M Q E3,RelM K M H/\DenS K H h_ Z/\LkE K cls H E3 (E2 Z)/\t h_ M Q E3/\Back K H Q Q2
noncomputable def cj(t:St3->MH->(Bool->MH->Prop)->XN->Prop):TT:=λZ H Q2=>∃h_ M Q E3,RelM K M H/\DenS K H h_ Z/\LkE K cls H E3 (E2 Z)/\t h_ M Q E3/\∀b H' M',RelM K M' H'->TM K H H'->Q b M'->Q2 b H'
noncomputable def eF(t:St3->MH->(List D->MH->Prop)->XN->Prop):TA:=λZ H Q2=>∃h_ M Q E3,RelM K M H/\DenS K H h_ Z/\LkE K cls H E3 (E2 Z)/\t h_ M Q E3/\∀vs H' ds M',DenL K H' ds vs->RelM K M' H'->TM K H H'->Q ds M'->Q2 vs H'
noncomputable def t7(t:St3->MH->(Option Int->MH->Prop)->XN->Prop):TO:=λZ H Q2=>∃h_ M Q E3,RelM K M H/\DenS K H h_ Z/\LkE K cls H E3 (E2 Z)/\t h_ M Q E3/\∀o H' M',RelM K M' H'->TM K H H'->Q o M'->Q2 o H'
noncomputable def ly(t:St3->MH->(List D->(MH->Prop)->MH->Prop)->XN->Prop):TI:=λZ H R2=>∃h_ M R E3,RelM K M H/\DenS K H h_ Z/\LkE K cls H E3 (E2 Z)/\t h_ M R E3/\∀J H' ds S M',ItOk K H' J ds S->RelM K M' H'->TM K H H'->R ds S M'->R2 J H'
noncomputable def br(t:Ends3->(St3->XN)->St3->MH->Prop):TS:=λD2 Z H=>∃h_ M D3 E3,RelM K M H/\DenS K H h_ Z/\LkS K cls H E3 E2/\t D3 E3 h_ M/\ER K H D3 D2
noncomputable def nc(t:D->St3->MH->(St3->MH->Prop)->Prop):TG:=λv Z H Q2=>∃d h_ M Q,Den K H d v/\RelM K M H/\DenS K H h_ Z/\t d h_ M Q/\BackS K H Q Q2
end
section
variable {X:Cx}{st:Stmt}
theorem PE.imp(h:PE X e t)(f:∀Z H Q,t' Z H Q->t Z H Q):PE X e t':=λa_ s Z H Q I q=>h a_ s Z H Q I (f Z H Q q)
theorem PT.imp(h:PT X e t)(f:∀Z H Q,t' Z H Q->t Z H Q):PT X e t':=λa_ s Z H Q I q=>h a_ s Z H Q I (f Z H Q q)
theorem PW.imp(h:PW X e t)(f:∀Z H Q,t' Z H Q->t Z H Q):PW X e t':=λwhole a_ s Z H Q I q=>h whole a_ s Z H Q I (f Z H Q q)
theorem PA.imp(h:PA X es t)(f:∀Z H Q,t' Z H Q->t Z H Q):PA X es t':=λpos a_ s Z H Q I q=>h pos a_ s Z H Q I (f Z H Q q)
theorem PO.imp(h:PO X o t)(f:∀Z H Q,t' Z H Q->t Z H Q):PO X o t':=λa_ s Z H Q I q=>h a_ s Z H Q I (f Z H Q q)
theorem PI.imp(h:PI X tg e t)(f:∀Z H Q,t' Z H Q->t Z H Q):PI X tg e t':=λa_ s Z H Q I q=>h a_ s Z H Q I (f Z H Q q)
theorem PS.imp(h:PS X st t)(f:∀D Z H,t' D Z H->t D Z H):PS X st t':=λa_ s Z H D I q=>h a_ s Z H D I (f D Z H q)
theorem PSs.imp(h:PSs X Mm t)(f:∀D Z H,t' D Z H->t D Z H):PSs X Mm t':=λa_ s Z H D I q=>h a_ s Z H D I (f D Z H q)
theorem PG.imp(h:PG X e t)(f:∀v Z H Q,t' v Z H Q->t v Z H Q):PG X e t':=λa_ s Z H v u Q I r q=>h a_ s Z H v u Q I r (f v Z H Q q)
end
section
variable {X:Cx}{s:Shared}
theorem HOk.freeze(x:HOk P w H h)(e:H a=some (.lst xs)):∃o,HOk P w (upd H a (.u_ o (.lst xs))) h:=by
 obtain⟨o,ho⟩:=(x a _ e).isAt;refine⟨o,λb u q=>?_⟩
 have own:∀c y,H c=some (.own y)->(upd H a (.u_ o (.lst xs))) c=some (.own y):=λc y z=>by
  rw[ai (dq z e (λw=>nomatch w))];exact z
 have tup:∀c ys,H c=some (.tup ys)->(upd H a (.u_ o (.lst xs))) c=some (.tup ys):=λc ys z=>by
  rw[ai (dq z e (λw=>nomatch w))];exact z
 by_cases hb:b=a
 ·subst hb;rw[ah]at q;cases q;exact⟨ho,(x b _ e).stay (λ_ _ _ q=>q) (λc z=>own c _ z) λc ys z=>tup c ys z⟩
 ·rw[ai hb]at q;exact (x b u q).stay (λ_ _ _ q=>q) (λc z=>own c _ z) λc ys z=>tup c ys z
theorem Inv.freeze(I:Inv X a_ Z H s)(e:H a=some (.lst xs)):∃o,Inv X a_ Z (upd H a (.u_ o (.lst xs))) s:=by
 obtain⟨o,ok⟩:=I.j_.freeze e;have ne:∀b,H b=none->b≠a:=λb z=>λq=>by rw[q,e]at z;cases z
 refine⟨o,⟨I.ok,I.os,I.bare,⟨I.base.keep,I.base.slot,λb ob q n hx=>?_,I.base.there,λb ys q=>?_,λb ob u q=>?_,λb ps q=>?_⟩,I.loc,I.cell,?_,λx c z=>?_,λp hp=>?_,ok,I.len⟩⟩
 ·have z:=I.base.free b ob q n hx;rw[ai (ne b z)];exact z
 ·have z:=I.base.KW b ys q;rw[ai (dq z e (λw=>nomatch w))];exact z
 ·have z:=I.base.KP b ob u q;rw[ai (dq z e (λw=>nomatch w))];exact z
 ·obtain⟨LL,z⟩:=I.base.K6 b ps q;exact⟨LL,by rw[ai (dq z e (λw=>nomatch w))];exact z⟩
 ·rw[ai (ne _ I.free)];exact I.free
 ·rw[ai (ne _ (I.freeC x c z))];exact I.freeC x c z
 ·obtain⟨p1,p2,p3⟩:=I.pin p hp;exact⟨p1,by rw[ai (ne _ p2)];exact p2,p3⟩
end
section
variable {K:Ko}{xs:List V}
theorem TM.freeze(e:H a=some (.lst xs)):TM K H (upd H a (.u_ o (.lst xs))):=
 .put e (λ_=>λz=>nomatch z) λ_ _=>λz=>nomatch z
theorem RelM.freeze(r:RelM K M H)(e:H a=some (.lst xs)):RelM K (del M a) (upd H a (.u_ o (.lst xs))):=λb u q=>by
 obtain⟨ne,q⟩:=nL q;exact (r b u q).stay (.freeze e) (ai ne)
theorem fP(h:DenL K H ds xs)(e:H a=some (.lst xs)):Den K (upd H a (.u_ o (.lst xs))) (.f_ ds) (.ref a):=⟨a,xs,rfl,.inl ⟨o,ah⟩,h.mono (.freeze e)⟩
end
theorem dE{X:Cx}
  (I:Inv X a_ Z (upd H p (.lst vs)) s) (hp:H p=none) (dl:DenL X.K H ds vs)(rm:RelM X.K M H)(tm:TM X.K H0 H)(h:gk fz ds M Q)(b_:Back X.K H0 Q Q2):EP X a_ Z Q2 (.ref p) s:=by
 obtain⟨_,h⟩:=h;cases fz with
 |true=>
  obtain⟨o,I2⟩:=I.freeze ah;refine⟨.ref p,_,I2,rfl,b_ _ _ _ _ (fP (dl.mono (.new hp)) ah) ?_ (tm.trans ((TM.new hp).trans (.freeze ah))) h⟩;have r2:RelM X.K (put M p (.lst ds)) (upd H p (.lst vs)):=rm.lay hp ⟨vs,ah,dl.mono (.new hp)⟩;have r3:=r2.freeze (o:=o) ah;rw[ft (rm.fresh hp)]at r3;exact r3
 |false=>
  exact⟨.ref p,_,I,rfl,b_ _ _ _ _ ik (rm.lay (u:=.lst ds) hp ⟨vs,ah,dl.mono (.new hp)⟩) (tm.trans (.new hp)) (h p (rm.fresh hp))⟩
def RdL(K:Ko)(H:Hp)(p:Addr)(vs:List V):Prop:=Rd H p (.lst vs)\/SqM K p vs
theorem RdL.sq{K:Ko}(h:RdL K H p vs):SqL K H p vs:=by
 rcases h with h|h
 ·exact .inl h
 ·exact h.sq
theorem SqF.rd{K:Ko}(h:SqF K H p vs):RdL K H p vs:=by
 rcases h with h|h
 ·exact .inl (.inr h)
 ·exact .inr h
theorem bo{K:Ko}(rm:RelM K M H)(h:ak M x=some ds)(dv:Den K H x v):∃p vs,v=.ref p/\RdL K H p vs/\DenL K H ds vs:=by
 cases x with
 |f_ es=>
  cases (show es=ds from JA h);obtain⟨p,vs,e,s,l⟩:=dv;exact⟨p,vs,e,s.rd,l⟩
 |ref a=>
  have h:(match M a with|some (.lst ds)=>some ds|_=>none)=some ds:=h
  split at h
  next es q=>
   cases h;obtain⟨vs,e,l⟩:=rm a _ q;exact⟨a,vs,dv,.inl (.inl e),l⟩
  next=>cases h
 |_=>cases h
theorem iE{K:Ko}(rm:RelM K M H)(h:az M x=some ds)(dv:Den K H x v):∃p vs,v=.ref p/\(SqL K H p vs\/SqT K H p vs)/\DenL K H ds vs:=by
 cases x with
 |tup es=>
  cases (show es=ds from JA h);obtain⟨p,vs,e,s,l⟩:=dv;exact⟨p,vs,e,.inr s,l⟩
 |f_ es=>obtain⟨p,vs,e,s,l⟩:=bo rm (show ak M (.f_ es)=some ds from h) dv;exact⟨p,vs,e,.inl s.sq,l⟩
 |ref a=>obtain⟨p,vs,e,s,l⟩:=bo rm (show ak M (.ref a)=some ds from h) dv;exact⟨p,vs,e,.inl s.sq,l⟩
 |_=>cases h
theorem Inv.rdL{X:Cx}{s:Shared}{xs:List V}(I:Inv X a_ Z H s)(h:RdL X.K H l xs):xs.length<=sizeLine/\∃(g_:List Value) (n:Nat),Vals xs g_/\xs.length=g_.length/\s.heap.get? l=some {cls:=.type "list",data:=.seq g_.toArray n}:=by
 rcases h with h|⟨g_,n,e,z,r⟩
 ·obtain⟨z,g_,n,r,e⟩:=h.ok I.j_;exact⟨z,g_,n,r,r.length,e⟩
 ·exact⟨by rw[r.length];exact z,g_,n,r,r.length,I.kIn _ _ e⟩
noncomputable def va:HO->Bool
 |.lst _=>true
 |.dK _=>true
 |.dT _=>true
 |.ins _ _ _=>true
 |.ext _=>true
 |_=>false
theorem nE(h:va u=true):(∀y,HO.own y≠u)/\(∀xs,HO.tup xs≠u)/\(∀o v,HO.u_ o v≠u)/\∀ps,HO.My ps≠u:=by
 cases u<;>first
  |(cases h;done)
  |exact⟨λ_ z=>(by cases z),λ_ z=>(by cases z),λ_ _ z=>(by cases z),λ_ z=>(by cases z)⟩
section
variable {X:Cx}
theorem HOk.frzU(x:HOk P w H h)(e:H a=some u)(hu:va u=true):∃o,HOk P w (upd H a (.u_ o u)) h:=by
 obtain⟨n1,n2,_,_⟩:=nE hu;obtain⟨o,ho⟩:=(x a _ e).isAt;refine⟨o,λb v q=>?_⟩
 have own:∀c y,H c=some (.own y)->(upd H a (.u_ o u)) c=some (.own y):=λc y z=>by
  rw[ai (dq z e (n1 y))];exact z
 have tup:∀c ys,H c=some (.tup ys)->(upd H a (.u_ o u)) c=some (.tup ys):=λc ys z=>by
  rw[ai (dq z e (n2 ys))];exact z
 by_cases hb:b=a
 ·subst hb;rw[ah]at q;cases q;exact⟨ho,(x b _ e).stay (λ_ _ _ q=>q) (λc z=>own c _ z) λc ys z=>tup c ys z⟩
 ·rw[ai hb]at q;exact (x b v q).stay (λ_ _ _ q=>q) (λc z=>own c _ z) λc ys z=>tup c ys z
theorem Inv.frzU(I:Inv X a_ Z H s)(e:H a=some u)(hu:va u=true):∃o,Inv X a_ Z (upd H a (.u_ o u)) s:=by
 obtain⟨n1,n2,n3,n4⟩:=nE hu;obtain⟨o,ok⟩:=I.j_.frzU e hu;have ne:∀b,H b=none->b≠a:=λb z=>λq=>by rw[q,e]at z;cases z
 refine⟨o,⟨I.ok,I.os,I.bare,⟨I.base.keep,I.base.slot,λb ob q n hx=>?_,I.base.there,λb ys q=>?_,λb ob u q=>?_,λb ps q=>?_⟩,I.loc,I.cell,?_,λx c z=>?_,λp hp=>?_,ok,I.len⟩⟩
 ·have z:=I.base.free b ob q n hx;rw[ai (ne b z)];exact z
 ·have z:=I.base.KW b ys q;rw[ai (dq z e (n2 _))];exact z
 ·have z:=I.base.KP b ob u q;rw[ai (dq z e (n3 _ _))];exact z
 ·obtain⟨LL,z⟩:=I.base.K6 b ps q;exact⟨LL,by rw[ai (dq z e (n4 _))];exact z⟩
 ·rw[ai (ne _ I.free)];exact I.free
 ·rw[ai (ne _ (I.freeC x c z))];exact I.freeC x c z
 ·obtain⟨p1,p2,p3⟩:=I.pin p hp;exact⟨p1,by rw[ai (ne _ p2)];exact p2,p3⟩
end
section
variable {K:Ko}
theorem TM.frzU(e:H a=some u)(hu:va u=true):TM K H (upd H a (.u_ o u)):=by
 obtain⟨_,n2,n3,_⟩:=nE hu;exact .put e (λxs z=>n2 xs z.symm) λob v z=>n3 ob v z.symm
theorem RelM.frzU(r:RelM K M H)(e:H a=some u)(hu:va u=true):RelM K (del M a) (upd H a (.u_ o u)):=λb v q=>by
 obtain⟨ne,q⟩:=nL q;exact (r b v q).stay (.frzU e hu) (ai ne)
end
noncomputable def fzD:DO->D
 |.lst ds=>.f_ ds
 |.dk ks ds=>.LR ks ds
 |.dt ks ds=>.H_ ks ds
 |.ins i C ns ds=>.obj i C ns ds
 |.exc _ _=>.i_
 |.t_ _=>.i_
theorem eQ{X:Cx}(I:Inv X a_ Z H s)(rm:RelM X.K M H)(e:M a=some o)(ho:(∀i c,o≠.exc i c)/\∀φ,o≠.t_ φ) :
  ∃H',Inv X a_ Z H' s/\TM X.K H H'/\RelM X.K (del M a) H'/\Den X.K H' (fzD o) (.ref a):=by
 cases o with
 |lst ds=>
  obtain⟨vs,e1,dl⟩:=rm a _ e;obtain⟨ob,I2⟩:=I.frzU e1 rfl;exact⟨_,I2,.frzU e1 rfl,rm.frzU e1 rfl,a,vs,rfl,.inl ⟨ob,ah⟩,dl.mono (.frzU e1 rfl)⟩
 |dk ks ds=>
  obtain⟨vs,e1,hl,dl⟩:=rm a _ e;obtain⟨ob,I2⟩:=I.frzU e1 rfl;exact⟨_,I2,.frzU e1 rfl,rm.frzU e1 rfl,a,vs,ob,rfl,ah,hl,dl.mono (.frzU e1 rfl)⟩
 |dt ks ds=>
  obtain⟨vs,xs,e1,z,dl⟩:=rm a _ e;obtain⟨ob,I2⟩:=I.frzU e1 rfl;have t:TM X.K H (upd H a (.u_ ob (.ext (ax a xs)))):=.frzU e1 rfl;exact⟨_,I2,t,rm.frzU e1 rfl,a,vs,ob,xs,rfl,ah,⟨z.kx,z.nd,z.sz,z.no,z.vx,λx hx=>t.t _ _ (z.at_ x hx)⟩,dl.mono t⟩
 |ins i C ns ds=>
  obtain⟨dx,vs,e1,hl,dl⟩:=rm a _ e;obtain⟨ob,I2⟩:=I.frzU e1 rfl;exact⟨_,I2,.frzU e1 rfl,rm.frzU e1 rfl,a,vs,ob,dx,rfl,ah,hl,dl.mono (.frzU e1 rfl)⟩
 |exc i c=>exact absurd rfl (ho.1 i c)
 |t_ φ=>exact absurd rfl (ho.2 φ)
theorem ge{X:Cx}:∀{ds:List D}{vs:List V}{H:Hp}{M:MH}{R:List D->MH->Prop},Inv X a_ Z H s->RelM X.K M H->DenL X.K H ds vs->eG ds M R->
  ∃H' M' r,Inv X a_ Z H' s/\TM X.K H H'/\RelM X.K M' H'/\DenL X.K H' r vs/\R r M'
 |[],vs,H,M,R,I,rm,dl,h=>⟨H,M,[],I,.refl _,rm,dl,h⟩
 |d::ds,_,H,M,R,I,rm,dl,h=>by
  obtain⟨v,r,rfl,dv,dl⟩:=dl;have keep:∀(d:D),Den X.K H d v->eG ds M (λr M'=>R (d::r) M')->∃H' M' r',Inv X a_ Z H' s/\TM X.K H H'/\RelM X.K M' H'/\DenL X.K H' r' (v::r)/\R r' M':=λd dv h=>by
   obtain⟨H',M',r',I',t,q_,Nh,q⟩:=ge I rm dl h;exact⟨H',M',d::r',I',t,q_,.cons (dv.mono t) Nh,q⟩
  have fz:∀(a:Addr)(o:DO),v=.ref a->M a=some o->((∀i c,o≠.exc i c)/\∀φ,o≠.t_ φ)->eG ds (del M a) (λr M'=>R (fzD o::r) M')->∃H' M' r',Inv X a_ Z H' s/\TM X.K H H'/\RelM X.K M' H'/\DenL X.K H' r' (v::r)/\R r' M':=λa o e eM ne h=>by
   subst e;obtain⟨H1,I1,t1,n_,d1⟩:=eQ I rm eM ne;obtain⟨H',M',r',I',t,q_,Nh,q⟩:=ge I1 n_ (dl.mono t1) h;exact⟨H',M',_::r',I',t1.trans t,q_,.cons (d1.mono t) Nh,q⟩
  cases d with
  |ref a=>
   simp only[eG]at h;have e:v=.ref a:=dv;split at h
   ·rename_i es q;exact fz a (.lst es) e q ⟨(λ_ _ z=>nomatch z),(λ_ z=>nomatch z)⟩ h
   ·rename_i ks es q;exact fz a (.dk ks es) e q ⟨(λ_ _ z=>nomatch z),(λ_ z=>nomatch z)⟩ h
   ·rename_i ks es q;exact fz a (.dt ks es) e q ⟨(λ_ _ z=>nomatch z),(λ_ z=>nomatch z)⟩ h
   ·exact keep _ dv h
  |_=>exact keep _ dv (by simpa only[eG] using h)
theorem jy{X:Cx}(I:Inv X a_ Z H s)(rm:RelM X.K M H)(dx:Den X.K H x v)(h:bb Q x M) :
  ∃H' M' d,Inv X a_ Z H' s/\TM X.K H H'/\RelM X.K M' H'/\Den X.K H' d v/\Q d M':=by
 unfold bb at h;split at h
 ·rename_i a;cases (show v=.ref a from dx);split at h
  ·rename_i es q;obtain⟨H1,I1,t1,n_,d1⟩:=eQ I rm q ⟨(λ_ _ z=>nomatch z),(λ_ z=>nomatch z)⟩
   exact⟨H1,_,_,I1,t1,n_,d1,h⟩
  ·rename_i ks es q;obtain⟨H1,I1,t1,n_,d1⟩:=eQ I rm q ⟨(λ_ _ z=>nomatch z),(λ_ z=>nomatch z)⟩
   exact⟨H1,_,_,I1,t1,n_,d1,h⟩
  ·rename_i ks es q;obtain⟨H1,I1,t1,n_,d1⟩:=eQ I rm q ⟨(λ_ _ z=>nomatch z),(λ_ z=>nomatch z)⟩
   exact⟨H1,_,_,I1,t1,n_,d1,h⟩
  ·rename_i i C ns es q;obtain⟨H1,I1,t1,n_,d1⟩:=eQ I rm q ⟨(λ_ _ z=>nomatch z),(λ_ z=>nomatch z)⟩
   obtain⟨a',vs,ob,LZ,e',he,hl,dl⟩:=d1;cases e';obtain⟨H2,M2,r,I2,t2,Kt,Lv,q2⟩:=ge I1 n_ dl h;refine⟨H2,M2,.obj i C ns r,I2,t1.trans t2,Kt,?_,q2⟩;exact⟨a,vs,ob,LZ,rfl,t2.g _ _ _ he,hl,Lv⟩
  ·exact h.elim
 ·exact h.elim
end L2
namespace L2
open PySem PySem.Spec PySem.Calls PyProof.Rows
section
variable {X:Cx}{D:Addr}
end
end L2
namespace L2
open PySem PySem.Spec PyProof.Rows
section
variable {X:Cx}
theorem j7:∀{xs ys:List D},cV xs ys=true->xs.length=ys.length
 |[],[],_=>rfl
 |[],_::_,h=>by simp[cV]at h
 |_::_,[],h=>by simp[cV]at h
 |x::xs,y::ys,h=>by
  simp only[cV,Jf]at h;rw[Jw,Jw,j7 h.2]
theorem fU:∀{xs ys:List D},xs.length=ys.length->cV xs ys=(List.range xs.length).all λj=>eqD (xs.getD j .i_) (ys.getD j .i_)
 |[],[],_=>by simp[cV]
 |[],_::_,h=>by simp at h
 |_::_,[],h=>by simp at h
 |x::xs,y::ys,h=>by
  have ih:=fU (by simpa using h)
  simp only[cV,Jw,List.range_succ_eq_map,List.all_cons,List.all_map,ih];rfl
theorem vZ{xs ys:List D}:cV xs ys=((List.range (min xs.length ys.length)).all (λj=>eqD (xs.getD j .i_) (ys.getD j .i_))&&(xs.length == ys.length)):=by
 by_cases h:xs.length=ys.length
 ·rw[fU h,h,Nat.min_self,beq_self_eq_true,Bool.and_true]
 ·have e1:(xs.length == ys.length)=false:=JP.mpr h;rw[e1,Bool.and_false];cases q:cV xs ys with
  |false=>rfl
  |true=>exact absurd (j7 q) h
theorem mU{K:Ko}(I:Inv X a_ Z H s)(hK:K=X.K):∀(n:Nat) {x y:D}{v:V},plN n x=true->plN n y=true->Den K H x v->Den K H y v->x=y:=by
 subst hK;have lists:∀(n:Nat),(∀{x y:D}{v:V},plN n x=true->plN n y=true->Den X.K H x v->Den X.K H y v->x=y)->∀{xs ys:List D}{vs:List V},xs.all (plN n)=true->ys.all (plN n)=true->DenL X.K H xs vs->DenL X.K H ys vs->xs=ys:=by
  intro n ih xs
  induction xs with
  |nil=>
   intro ys vs _ _ h1 h2;cases (show vs=[] from h1);cases ys with
   |nil=>rfl
   |cons y ys=>obtain⟨_,_,e,_⟩:=h2;cases e
  |cons x xs PZ=>
   intro ys vs p1 p2 h1 h2;obtain⟨v,r,rfl,d1,l1⟩:=h1;cases ys with
   |nil=>cases (show v::r=[] from h2)
   |cons y ys=>
    obtain⟨v',r',e,d2,l2⟩:=h2;cases e;simp only[List.all_cons,Jf]at p1 p2;rw[ih p1.1 p2.1 d1 d2,PZ p1.2 p2.2 l1 l2]
 have Ni:∀{p:Addr}{vs ws:List V},SqT X.K H p vs->SqF X.K H p ws->False:=λ{p vs ws} h1 h2=>by
  obtain⟨g_,_,t1,_⟩:=I.tuple h1;obtain⟨z,s_,n2,_,_,e2⟩:=I.rdL h2.rd;obtain⟨o,e1,c1,_⟩:=(show s.heap.IsTuple p g_.toArray from t1);rw[e2]at e1;cases e1;injection c1 with z;exact absurd z (by decide)
 have tt:∀{p:Addr}{vs ws:List V},SqT X.K H p vs->SqT X.K H p ws->vs=ws:=λ{p vs ws} q1 q2=>by
  obtain⟨g_,r1,t1,_⟩:=I.tuple q1;obtain⟨s_,r2,t2,_⟩:=I.tuple q2;obtain⟨o1,e1,c1,n1,f1⟩:=(show s.heap.IsTuple p g_.toArray from t1);obtain⟨o2,e2,c2,n2,f2⟩:=(show s.heap.IsTuple p s_.toArray from t2);rw[e1]at e2;cases e2;rw[f1]at f2;have:g_=s_:=by injection f2 with z;simpa using z
  subst this;exact r1.inj r2
 have ff:∀{p:Addr}{vs ws:List V},SqF X.K H p vs->SqF X.K H p ws->vs=ws:=λ{p vs ws} q1 q2=>by
  obtain⟨_,g_,n1,r1,_,e1⟩:=I.rdL q1.rd;obtain⟨_,s_,n2,r2,_,e2⟩:=I.rdL q2.rd;rw[e1]at e2;have:g_=s_:=by
   have z:=JA e2;injection z with z1 z2 z3 z4
   injection z3 with z5 z6
   simpa using z5
  subst this;exact r1.inj r2
 intro n
 induction n with
 |zero=>
  intro x y v p1 p2 d1 d2;cases x<;>cases y<;>first|(cases p1;done)|(cases p2;done)|(cases (show v=_ from d1);cases (show _=_ from d2)<;>rfl)
 |succ n ih=>
  intro x y v p1 p2 d1 d2;cases x<;>cases y<;>first|(cases p1;done)|(cases p2;done)|(cases (show v=_ from d1);cases (show _=_ from d2)<;>rfl)|(cases (show v=_ from d1);obtain⟨_,_,e,_⟩:=d2;cases e;done)|(obtain⟨_,_,rfl,_⟩:=d1;cases (show _=_ from d2);done)|(obtain⟨p,vs,rfl,q1,l1⟩:=d1;obtain⟨p',LH,e,q2,l2⟩:=d2;cases e;first|exact (Ni q1 q2).elim|exact (Ni q2 q1).elim|(first|cases tt q1 q2|cases ff q1 q2);rw[lists n ih (by simpa [plN] using p1) (by simpa [plN] using p2) l1 l2])
theorem pN:∀(n:Nat) {x:D},plN n x=true->eqD x x=true:=by
 have lists:∀(n:Nat),(∀{x:D},plN n x=true->eqD x x=true)->∀{xs:List D},xs.all (plN n)=true->cV xs xs=true:=by
  intro n ih xs
  induction xs with
  |nil=>intro _;rfl
  |cons x xs PZ=>
   intro h;simp only[List.all_cons,Jf]at h;simp only[cV,Jf];exact⟨ih h.1,PZ h.2⟩
 intro n
 induction n with
 |zero=>exact λ{x} h=>by cases x<;>first|(cases h;done)|simp[eqD]
 |succ n ih=>exact λ{x} h=>by cases x<;>first|(cases h;done)|(simp only[eqD];exact lists n ih (by simpa [plN] using h))|simp[eqD]
theorem oI{K:Ko}(I:Inv X a_ Z H s)(hK:K=X.K)(n:Nat)(p1:plN n x=true)(p2:plN n y=true)(d1:Den K H x v)(d2:Den K H y v):eqD x y=true:=by
 rw[mU I hK n p1 p2 d1 d2];exact pN n p2
theorem A2(a b:Bool):eqD (.bl a) (.bl b)=(a == b):=by simp[eqD]
theorem A6(a:Bool)(b:Int):eqD (.bl a) (.int b)=((if a then 1 else 0) == b):=by simp[eqD];rfl
theorem Aq(a:Int)(b:Bool):eqD (.int a) (.bl b)=(a == (if b then 1 else 0)):=by simp[eqD];rfl
theorem B9(a b:Int):eqD (.int a) (.int b)=(a == b):=by simp[eqD];rfl
theorem AU(a b:Str):eqD (.str a) (.str b)=(a == b):=by simp[eqD];rfl
abbrev Eq3(A:Around)(s:Shared)(v u:Value)(k:Bool):Prop:=SeqAt.RcAt A s v u k/\SeqAt.RcNeAt A s v u (!k)/\SeqAt.EqAt A s v u k
inductive Seen (s:Shared):D->Value->Prop where
 |i_:Seen s .i_ .none
 |bl (b:Bool):Seen s (.bl b) (.bool b)
 |int (i:Int) (t:Tok):Seen s (.int i) (.int i t)
 |str (x:Str) (t:Tok):Seen s (.str x) (.str x t)
 |tup {ds:List D}{p:Addr}{g_:List Value} (h:s.heap.IsTuple p g_.toArray):Seen s (.tup ds) (.ref p)
 |f_ {ds:List D}{p:Addr}{g_:List Value} (h:s.heap.IsList p g_.toArray):Seen s (.f_ ds) (.ref p)
theorem jv{X:Cx}(I:Inv X a_ Z H s)(p:plN n x=true)(d:Den X.K H x v)(r:RelV v v2):Seen s x v2:=by
 cases x with
 |i_=>cases (show v=.i_ from d);cases r;exact .i_
 |bl b=>cases (show v=.bl b from d);cases r;exact .bl b
 |int i=>cases (show v=.int i from d);obtain⟨t,rfl⟩:=r;exact .int i t
 |str i=>cases (show v=.str i from d);obtain⟨t,rfl⟩:=r;exact .str i t
 |tup ds=>
  obtain⟨q,vs,rfl,sq,_⟩:=d;cases r;obtain⟨g_,_,t,_⟩:=I.tuple sq;exact .tup t
 |f_ ds=>
  obtain⟨q,vs,rfl,sq,_⟩:=d;cases r;obtain⟨g_,_,t,_⟩:=I.list sq.sq;exact .f_ t.isList
 |ref a=>simp[plN]at p
 |obj _ _ _ _=>simp[plN]at p
 |LR _ _=>simp[plN]at p
 |H_ _ _=>simp[plN]at p
theorem uv{A:Around}(hx:Seen s x v)(hy:Seen s y u)(hu:A.units<cLine)(seq:∀ds es,(x=.tup ds/\y=.tup es)\/(x=.f_ ds/\y=.f_ es)->Eq3 A s v u (eqD x y)):Eq3 A s v u (eqD x y):=by
 cases hx with
 |i_=>
  cases hy with
  |i_=>exact⟨.none_none,.none_none,.same _⟩
  |bl b=>exact⟨.none_bool b,.none_bool b,.none_bool b⟩
  |int b tb=>exact⟨.none_int b tb,.none_int b tb,.none_int b tb⟩
  |str b tb=>exact⟨.none_str b tb,.none_str b tb,.none_str b tb⟩
  |@tup es p2 s_ h2=>exact⟨.none_tuple h2 hu,.none_tuple h2 hu,.none_tuple h2 hu⟩
  |@f_ es p2 s_ h2=>exact⟨.none_list h2 hu,.none_list h2 hu,.none_list h2 hu⟩
 |bl a=>
  cases hy with
  |i_=>exact⟨.bool_none a,.bool_none a,.bool_none a⟩
  |bl b=>rw[A2];exact⟨.bool_bool a b,.bool_bool a b,.bool_bool a b⟩
  |int b tb=>rw[A6];exact⟨.bool_int a b tb,.bool_int a b tb,.bool_int a b tb⟩
  |str b tb=>exact⟨.bool_str a b tb,.bool_str a b tb,.bool_str a b tb⟩
  |@tup es p2 s_ h2=>exact⟨.bool_tuple a h2 hu,.bool_tuple a h2 hu,.bool_tuple a h2 hu⟩
  |@f_ es p2 s_ h2=>exact⟨.bool_list a h2 hu,.bool_list a h2 hu,.bool_list a h2 hu⟩
 |int a ta=>
  cases hy with
  |i_=>exact⟨.int_none a ta,.int_none a ta,.int_none a ta⟩
  |bl b=>rw[Aq];exact⟨.int_bool a ta b,.int_bool a ta b,.int_bool a ta b⟩
  |int b tb=>rw[B9];exact⟨.int_int a ta b tb,.int_int a ta b tb,.int_int a ta b tb⟩
  |str b tb=>exact⟨.int_str a ta b tb,.int_str a ta b tb,.int_str a ta b tb⟩
  |@tup es p2 s_ h2=>exact⟨.int_tuple a ta h2 hu,.int_tuple a ta h2 hu,.int_tuple a ta h2 hu⟩
  |@f_ es p2 s_ h2=>exact⟨.int_list a ta h2 hu,.int_list a ta h2 hu,.int_list a ta h2 hu⟩
 |str a ta=>
  cases hy with
  |i_=>exact⟨.str_none a ta,.str_none a ta,.str_none a ta⟩
  |bl b=>exact⟨.str_bool a ta b,.str_bool a ta b,.str_bool a ta b⟩
  |int b tb=>exact⟨.str_int a ta b tb,.str_int a ta b tb,.str_int a ta b tb⟩
  |str b tb=>rw[AU];exact⟨.str_str a ta b tb,.str_str a ta b tb,.str_str a ta b tb⟩
  |@tup es p2 s_ h2=>exact⟨.str_tuple a ta h2 hu,.str_tuple a ta h2 hu,.str_tuple a ta h2 hu⟩
  |@f_ es p2 s_ h2=>exact⟨.str_list a ta h2 hu,.str_list a ta h2 hu,.str_list a ta h2 hu⟩
 |@tup ds p g_ h=>
  cases hy with
  |i_=>exact⟨.tuple_none h hu,.tuple_none h hu,.tuple_none h hu⟩
  |bl b=>exact⟨.tuple_bool b h hu,.tuple_bool b h hu,.tuple_bool b h hu⟩
  |int b tb=>exact⟨.tuple_int b tb h hu,.tuple_int b tb h hu,.tuple_int b tb h hu⟩
  |str b tb=>exact⟨.tuple_str b tb h hu,.tuple_str b tb h hu,.tuple_str b tb h hu⟩
  |@tup es p2 s_ h2=>exact seq ds es (.inl ⟨rfl,rfl⟩)
  |@f_ es p2 s_ h2=>exact⟨.tuple_list h h2 hu,.tuple_list h h2 hu,.tuple_list h h2 hu⟩
 |@f_ ds p g_ h=>
  cases hy with
  |i_=>exact⟨.list_none h hu,.list_none h hu,.list_none h hu⟩
  |bl b=>exact⟨.list_bool b h hu,.list_bool b h hu,.list_bool b h hu⟩
  |int b tb=>exact⟨.list_int b tb h hu,.list_int b tb h hu,.list_int b tb h hu⟩
  |str b tb=>exact⟨.list_str b tb h hu,.list_str b tb h hu,.list_str b tb h hu⟩
  |@tup es p2 s_ h2=>exact⟨.list_tuple h h2 hu,.list_tuple h h2 hu,.list_tuple h h2 hu⟩
  |@f_ es p2 s_ h2=>exact seq ds es (.inr ⟨rfl,rfl⟩)
theorem BP{K:Ko}(I:Inv X a_ Z H s)(hK:K=X.K):∀(n:Nat) {A:Around}{x y:D}{v u:V}{v2 u2:Value},plN n x=true->plN n y=true->Den K H x v->Den K H y u->RelV v v2->RelV u u2->A.units+n<cLine->
  Eq3 A s v2 u2 (eqD x y):=by
 subst hK;have items:∀(n:Nat),(∀{A:Around}{x y:D}{v u:V}{v2 u2:Value},plN n x=true->plN n y=true->Den X.K H x v->Den X.K H y u->RelV v v2->RelV u u2->A.units+n<cLine->
   Eq3 A s v2 u2 (eqD x y))->∀{A:Around}{xs ys:List D}{vs us:List V}{g_ s_:List Value},xs.all (plN n)=true->ys.all (plN n)=true->DenL X.K H xs vs->DenL X.K H ys us->Vals vs g_->Vals us s_->A.units+(n+1)<cLine->
   ∀j (h1:j<g_.toArray.size)(h2:j<s_.toArray.size),SeqAt.EqAt A.in1 s g_.toArray[j] s_.toArray[j] (eqD (xs.getD j .i_) (ys.getD j .i_)):=by
  intro n ih A xs ys vs us g_ s_ p1 p2 l1 l2 r1 r2 hu j h1 h2;have h1:j<g_.length:=by simpa using h1
  have h2:j<s_.length:=by simpa using h2
  have hx:j<xs.length:=by rw[l1.length,r1.length];exact h1
  have hy:j<ys.length:=by rw[l2.length,r2.length];exact h2
  obtain⟨v,e1,d1⟩:=l1.get (i:=j) (d:=xs[j]) (by simp)
  obtain⟨u,e2,d2⟩:=l2.get (i:=j) (d:=ys[j]) (by simp)
  obtain⟨v2,e3,rv⟩:=r1.get e1;obtain⟨u2,e4,ru⟩:=r2.get e2;rw[show g_.toArray[j]=v2 by simpa [h1] using e3,show s_.toArray[j]=u2 by simpa [h2] using e4,show xs.getD j .i_=xs[j] by simp[hx],show ys.getD j .i_=ys[j] by simp[hy]]
  exact (ih (JE.mp p1 _ (J6 hx)) (JE.mp p2 _ (J6 hy)) d1 d2 rv ru (by show A.units+1+n<cLine;omega)).2.2
 intro n
 induction n with
 |zero=>
  intro A x y v u v2 u2 p1 p2 d1 d2 r1 r2 hu;refine uv (jv I p1 d1 r1) (jv I p2 d2 r2) (by omega) λds es z=>?_
  rcases z with ⟨rfl,rfl⟩|⟨rfl,rfl⟩<;>cases p1
 |succ n ih=>
  intro A x y v u v2 u2 p1 p2 d1 d2 r1 r2 hu;refine uv (jv I p1 d1 r1) (jv I p2 d2 r2) (by omega) λds es z=>?_
  rcases z with ⟨rfl,rfl⟩|⟨rfl,rfl⟩
  ·obtain⟨p,vs,rfl,q1,l1⟩:=id d1;obtain⟨p',us,rfl,q2,l2⟩:=id d2;cases r1;cases r2;obtain⟨g_,v1,t1,_⟩:=I.tuple q1;obtain⟨s_,v2,t2,_⟩:=I.tuple q2;have he:=items n ih (by simpa [plN] using p1) (by simpa [plN] using p2) l1 l2 v1 v2 hu
   have ee:eqD (.tup ds) (.tup es)=((List.range (min g_.toArray.size s_.toArray.size)).all (λj=>eqD (ds.getD j .i_) (es.getD j .i_))&&g_.toArray.size == s_.toArray.size):=by
    simp only[eqD];rw[vZ,l1.length,v1.length,l2.length,v2.length];rfl
   have rc:=SeqAt.RcAt.tuples t1 t2 (by omega) he
   rw[<-ee]at rc;have rn:=SeqAt.RcNeAt.tuples t1 t2 (by omega) he
   rw[<-ee]at rn;refine⟨rc,rn,?_⟩;by_cases hp:p=p'
   ·subst hp;rw[oI I rfl (n+1) p1 p2 d1 d2];exact .same _
   ·exact .of_refs hp rc
  ·obtain⟨p,vs,rfl,q1,l1⟩:=id d1;obtain⟨p',us,rfl,q2,l2⟩:=id d2;cases r1;cases r2;obtain⟨g_,v1,t1,_⟩:=I.list q1.sq;obtain⟨s_,v2,t2,_⟩:=I.list q2.sq;have he:=items n ih (by simpa [plN] using p1) (by simpa [plN] using p2) l1 l2 v1 v2 hu
   have P0:SeqAt.RcAt A s (.ref p) (.ref p') (eqD (.f_ ds) (.f_ es))/\SeqAt.RcNeAt A s (.ref p) (.ref p') (!eqD (.f_ ds) (.f_ es)):=by
    by_cases hl:g_.toArray.size=s_.toArray.size
    ·have ee:eqD (.f_ ds) (.f_ es)=(List.range g_.toArray.size).all λj=>eqD (ds.getD j .i_) (es.getD j .i_):=by
      have e1:ds.length=es.length:=by rw[l1.length,v1.length,l2.length,v2.length];simpa using hl
      simp only[eqD];rw[fU e1,l1.length,v1.length];rfl
     rw[ee];exact⟨.lists t1.isList t2.isList hl (by omega) he,.lists t1.isList t2.isList hl (by omega) he⟩
    ·have ee:eqD (.f_ ds) (.f_ es)=false:=by
      simp only[eqD];cases q:cV ds es with
      |false=>rfl
      |true=>
       have:=j7 q;rw[l1.length,v1.length,l2.length,v2.length]at this;exact absurd (by simpa using this) hl
     rw[ee];exact⟨.lists_lengths t1.isList t2.isList (by simpa using hl) (by omega),.lists_lengths t1.isList t2.isList (by simpa using hl) (by omega)⟩
   refine⟨P0.1,P0.2,?_⟩;by_cases hp:p=p'
   ·subst hp;rw[oI I rfl (n+1) p1 p2 d1 d2];exact .same _
   ·exact .of_refs hp P0.1
end
def VO(X:Cx)(f:Value->Value->Sem Value)(r:D->D->MH->VK3->Prop):Prop:=
 ∀(a_:List (Addr×Obj)) (s:Shared)(Z:St)(H:Hp)(x y:D)(v u:V)(v2 u2:Value)(M:MH)(Q:VK3)(Q2:VK),Inv X a_ Z H s->RelV v v2->RelV u u2->Den X.K H x v->Den X.K H y u->RelM X.K M H->r x y M Q->Back X.K H Q Q2->
  wpAny (model X.prog X.w) X.A (f v2 u2) (EP X a_ Z Q2) X.xe s
def VU(X:Cx)(f:Value->Sem Value)(r:D->MH->VK3->Prop):Prop:=
 ∀(a_:List (Addr×Obj)) (s:Shared)(Z:St)(H:Hp)(x:D)(v:V)(v2:Value)(M:MH)(Q:VK3)(Q2:VK),Inv X a_ Z H s->RelV v v2->Den X.K H x v->RelM X.K M H->r x M Q->Back X.K H Q Q2->
  wpAny (model X.prog X.w) X.A (f v2) (EP X a_ Z Q2) X.xe s
def VC(X:Cx)(f:Value)(r:List D->MH->VK3->Prop):Prop:=
 ∀(a_:List (Addr×Obj)) (s:Shared)(Z:St)(H:Hp)(xs:List D)(vs:List V)(us:List Value)(M:MH)(Q:VK3)(Q2:VK),Inv X a_ Z H s->Vals vs us->DenL X.K H xs vs->RelM X.K M H->r xs M Q->Back X.K H Q Q2->
  wpAny (model X.prog X.w) X.A (call f us) (EP X a_ Z Q2) X.xe s
section
variable {X:Cx}
theorem VO.of3(h:Op3 X f r):VO X f r:=by
 obtain⟨r2,h2,hl⟩:=h;exact λa_ s Z H x y v u v2 u2 M Q Q2 I rv ru dx dy rm q b_=>h2 a_ s Z H v u v2 u2 Q2 I rv ru (hl H x y v u M Q Q2 dx dy rm q b_)
theorem VU.of3(h:Un3 X f r):VU X f r:=by
 obtain⟨r2,h2,hl⟩:=h;exact λa_ s Z H x v v2 M Q Q2 I rv dx rm q b_=>h2 a_ s Z H v v2 Q2 I rv (hl H x v M Q Q2 dx rm q b_)
theorem VC.of3(h:sy X f r):VC X f r:=by
 obtain⟨r2,h2,hl⟩:=h;exact λa_ s Z H xs vs us M Q Q2 I rv dx rm q b_=>h2 a_ s Z H vs us Q2 I rv (hl H xs vs M Q Q2 dx rm q b_)
theorem VO.imp(h:VO X f r)(g:∀x y M Q,r' x y M Q->r x y M Q):VO X f r':=
 λa_ s Z H x y v u v2 u2 M Q Q2 I rv ru dx dy rm q b_=>h a_ s Z H x y v u v2 u2 M Q Q2 I rv ru dx dy rm (g x y M Q q) b_
theorem VU.imp(h:VU X f r)(g:∀x M Q,r' x M Q->r x M Q):VU X f r':=
 λa_ s Z H x v v2 M Q Q2 I rv dx rm q b_=>h a_ s Z H x v v2 M Q Q2 I rv dx rm (g x M Q q) b_
theorem VC.imp(h:VC X f r)(g:∀x M Q,r' x M Q->r x M Q):VC X f r':=
 λa_ s Z H x v v2 M Q Q2 I rv dx rm q b_=>h a_ s Z H x v v2 M Q Q2 I rv dx rm (g x M Q q) b_
theorem iR(h:rI2 g x y M Q):mH g x y M Q:=by
 unfold rI2 at h;split at h
 ·exact⟨_,_,rfl,rfl,h⟩
 ·exact h.elim
theorem mG(h:rII C g x y M Q):rI3 C g x y M Q:=by
 unfold rII at h;split at h
 ·exact⟨_,_,rfl,rfl,h⟩
 ·exact h.elim
theorem xh{s:Shared}{ws:List Value}(ht:IsTup s.heap t #[])(hb:IsTup s.heap b ws.toArray)(h:Q (.ref b) s):wpAny (model prog w) A (binaryOp .Add (.ref t) (.ref b)) Q E s:=by
 obtain⟨⟨cls,dd,data,sl⟩,ho,hc,n,hd⟩:=id ht;obtain⟨⟨PD,MC,data2,Mj⟩,Nq,hc2,n2,hd2⟩:=id hb;subst hc hd hc2 hd2;exact concat_meets ⟨_,ho,rfl⟩ ⟨_,Nq,rfl⟩ noFill_tuple_add seq_tuple_add PySem.F.slot_tuple_add PySem.F.entry_tuple_add (PySem.F.args_tuple_add_2 _ _) (tuple_addW0 t b #[] ws.toArray n n2 dd MC sl Mj rfl) ⟨ho,Nq,h⟩
theorem rS{a b:List D}(I:Inv X a_ Z H s)(rv:RelV v v2)(ru:RelV u u2)(dx:Den X.K H (.tup a) v)(dy:Den X.K H (.tup b) u)(rm:RelM X.K M H)
  (q:a.length+b.length<=sizeLine/\Q (.tup (a++b)) M) (b_:Back X.K H Q Q2):wpAny (model X.prog X.w) X.A (binaryOp .Add v2 u2) (EP X a_ Z Q2) X.xe s:=by
 obtain⟨p1,vs,rfl,P6,OB⟩:=dx;obtain⟨p2,us,rfl,Ny,Lv⟩:=dy;obtain⟨h2,q⟩:=q;by_cases h1:a=[]
 ·subst h1;cases (show vs=[] from OB);cases rv;cases ru;obtain⟨g_,r1,R8,_⟩:=I.tuple P6;obtain⟨s_,r2,R9,_⟩:=I.tuple Ny;cases r1;exact xh R8 R9 ⟨.ref p2,H,I,rfl,b_ _ _ (.tup b) _ ⟨p2,us,rfl,Ny,Lv⟩ rm (.refl _) q⟩
 refine xg a_ s Z H _ _ v2 u2 Q2 I rv ru ⟨p1,p2,vs,us,rfl,rfl,P6,Ny,λz=>?_,by rw[<-OB.length,<-Lv.length];exact h2,λz=>?_,λ_ p hp=>?_⟩
 ·have:=OB.length;rw[z]at this;cases a with
  |nil=>exact h1 rfl
  |cons _ _=>cases this
 ·have hb:b=[]:=List.length_eq_zero_iff.mp (by rw[Lv.length,z];rfl)
  subst hb;rw[JZ]at q;exact b_ _ _ (.tup a) _ ⟨p1,vs,rfl,P6,OB⟩ rm (.refl _) q
 ·exact b_ _ _ (.tup (a++b)) _ ⟨p,_,rfl,.of ah,(OB.append Lv).mono (.new hp)⟩ (rm.grow hp) (.new hp) q
theorem B4(op:Operator):VO X (binaryOp op) (lI op):=by
 cases op with
 |Add=>
  intro a_ s Z H x y v u v2 u2 M Q Q2 I rv ru dx dy rm q b_;have q':vc x y M Q:=q;unfold vc at q';split at q'
  ·exact VO.of3 Ef a_ s Z H _ _ v u v2 u2 M Q Q2 I rv ru dx dy rm ⟨_,_,rfl,rfl,q'⟩ b_
  ·exact rS I rv ru dx dy rm q' b_
  ·exact q'.elim
 |Sub=>exact (VO.of3 CN).imp λ_ _ _ _ h=>iR h
 |Mult=>
  intro a_ s Z H x y v u v2 u2 M Q Q2 I rv ru dx dy rm q b_;have q':wb x y M Q:=q;unfold wb at q';split at q'
  ·exact VO.of3 EM a_ s Z H _ _ v u v2 u2 M Q Q2 I rv ru dx dy rm ⟨_,_,rfl,rfl,q'⟩ b_
  ·exact q'.elim
 |FloorDiv=>exact (VO.of3 AK).imp λ_ _ _ _ h=>mG h
 |Mod=>exact (VO.of3 DK).imp λ_ _ _ _ h=>mG h
 |Pow=>exact (VO.of3 C6).imp λ_ _ _ _ h=>mG h
 |RShift=>exact (VO.of3 CZ).imp λ_ _ _ _ h=>mG h
 |BitAnd=>exact (VO.of3 DH).imp λ_ _ _ _ h=>iR h
 |_=>exact λa_ s Z H x y v u v2 u2 M Q Q2 I rv ru dx dy rm q b_=>False.elim q
theorem Aw:VU X (unaryOp .USub) rNeg:=(VU.of3 EO).imp λx M Q h=>by
 unfold rNeg at h;split at h
 ·exact⟨_,rfl,h⟩
 ·exact h.elim
theorem Ce(fz:Bool):VO X (binaryOp .Add) (jQ fz):=by
 intro a_ s Z H x y v u v2 u2 M Q Q2 I rv ru dx dy rm q b_;unfold jQ at q;split at q
 next a b ea eb=>
  obtain⟨l,xs,rfl,hH,dl⟩:=bo rm ea dx;obtain⟨b',zs,rfl,hB,Lv⟩:=bo rm eb dy;cases rv;cases ru;obtain⟨z,g_,n,r,hl,e⟩:=I.rdL hH;obtain⟨z2,s_,n2,r2,N2,e2⟩:=I.rdL hB;have Kq:xs.length+zs.length<=sizeLine:=by
   have:=q.1;rw[JK,dl.length,Lv.length]at this;exact this
  refine PySem.P.add_list e e2 ?_ (by rw[Jx,Jx];omega)
  have ea:g_.toArray++s_.toArray=(g_++s_).toArray:=by simp
  rw[ea];exact dE (I.lnew (r.append r2) (by rw[JK];omega)) I.fresh (dl.append Lv) rm (.refl _) q b_
 next=>
  split at q
  ·exact rS I rv ru dx dy rm q b_
  ·exact q.elim
theorem yB{K:Ko}(rm:RelM K M H)(dx:Den K H x v)(hp:pl (res M x)=true) :
  (∃a ds,x=.ref a/\M a=some (.lst ds)/\res M x=.f_ ds)\/(res M x=x):=by
 cases x with
 |ref a=>
  cases e:M a with
  |none=>
   have:res M (.ref a)=.ref a:=by simp[res,ak,e]
   rw[this]at hp;simp[plN]at hp
  |some o=>
   cases o with
   |lst ds=>exact .inl ⟨a,ds,rfl,e,by simp[res,ak,e]⟩
   |_=>
    have:res M (.ref a)=.ref a:=by simp[res,ak,e]
    rw[this]at hp;simp[plN]at hp
 |f_ ds=>exact .inr rfl
 |_=>exact .inr rfl
theorem o9(I:Inv X a_ Z H s)(rm:RelM X.K M H)(dx:Den X.K H x v)(hp:pl (res M x)=true) :
  ∃H',Inv X a_ Z H' s/\TM X.K H H'/\Den X.K H' (res M x) v:=by
 rcases yB rm dx hp with ⟨a,ds,rfl,q,e⟩|e
 ·obtain⟨vs,e1,l⟩:=rm a _ q;obtain⟨o,I2⟩:=I.freeze e1;refine⟨_,I2,.freeze e1,?_⟩;rw[e];cases (show v=.ref a from dx);exact fP l e1
 ·rw[e];exact⟨H,I,.refl _,dx⟩
def nF(K:Ko)(M:MH)(H:Hp):Prop:=∀a ds,M a=some (.lst ds)->∃vs,(H a=some (.lst vs)\/∃o,H a=some (.u_ o (.lst vs)))/\DenL K H ds vs
theorem RelM.z{K:Ko}(rm:RelM K M H):nF K M H:=λa ds q=>by
 obtain⟨vs,e,l⟩:=rm a _ q;exact⟨vs,.inl e,l⟩
theorem EC(I:Inv X a_ Z H s)(rz:nF X.K M H)(q:M a=some (.lst ds)) :
  ∃H',Inv X a_ Z H' s/\TM X.K H H'/\nF X.K M H'/\∃vs,SqF X.K H' a vs/\DenL X.K H' ds vs/\DenL X.K H ds vs:=by
 obtain⟨vs,e|⟨o,e⟩,l⟩:=rz a ds q
 ·obtain⟨o,I2⟩:=I.freeze e;have t:TM X.K H (upd H a (.u_ o (.lst vs))):=.freeze e;refine⟨_,I2,t,λb es qb=>?_,vs,.inl ⟨o,ah⟩,l.mono t,l⟩
  obtain⟨us,e2,l2⟩:=rz b es qb;by_cases hb:b=a
  ·subst hb;rw[q]at qb;cases qb;exact⟨vs,.inr ⟨o,ah⟩,l.mono t⟩
  ·refine⟨us,?_,l2.mono t⟩;rw[ai hb];exact e2
 ·exact⟨H,I,.refl _,rz,vs,.inl ⟨o,e⟩,l,l⟩
theorem Ey(I:Inv X a_ Z H s)(rz:nF X.K M H)(dx:Den X.K H x v) :
  ∃H',Inv X a_ Z H' s/\TM X.K H H'/\nF X.K M H'/\Den X.K H' (res M x) v:=by
 cases x with
 |ref a=>
  cases e:M a with
  |none=>
   have:res M (.ref a)=.ref a:=by simp[res,ak,e]
   rw[this];exact⟨H,I,.refl _,rz,dx⟩
  |some o=>
   cases o with
   |lst ds=>
    obtain⟨H',I2,t,Nz,vs,sq,l,_⟩:=EC I rz e;have:res M (.ref a)=.f_ ds:=by simp[res,ak,e]
    rw[this];exact⟨H',I2,t,Nz,a,vs,dx,sq,l⟩
   |_=>
    have:res M (.ref a)=.ref a:=by simp[res,ak,e]
    rw[this];exact⟨H,I,.refl _,rz,dx⟩
 |f_ ds=>exact⟨H,I,.refl _,rz,dx⟩
 |_=>exact⟨H,I,.refl _,rz,dx⟩
theorem wc:∀{ds:List D}{vs:List V}{H:Hp},Inv X a_ Z H s->nF X.K M H->DenL X.K H ds vs->
  ∃H',Inv X a_ Z H' s/\TM X.K H H'/\nF X.K M H'/\DenL X.K H' (ds.map (res M)) vs
 |[],vs,H,I,rz,dl=>⟨H,I,.refl _,rz,dl⟩
 |d::ds,vs,H,I,rz,dl=>by
  obtain⟨v,r,rfl,dv,dr⟩:=dl;obtain⟨H1,I1,t1,P7,d1⟩:=Ey I rz dv;obtain⟨H2,I2,t2,Nz,d2⟩:=wc I1 P7 (dr.mono t1);exact⟨H2,I2,t1.trans t2,Nz,v,r,rfl,d1.mono t2,d2⟩
theorem zi(I:Inv X a_ Z H s)(rz:nF X.K M H)(dx:Den X.K H x v) :
  ∃H',Inv X a_ Z H' s/\TM X.K H H'/\nF X.K M H'/\Den X.K H' (rs M x) v:=by
 cases x with
 |ref a=>
  cases e:M a with
  |none=>
   have:rs M (.ref a)=.ref a:=by simp[rs,ak,e]
   rw[this];exact⟨H,I,.refl _,rz,dx⟩
  |some o=>
   cases o with
   |lst ds=>
    have:rs M (.ref a)=.f_ (if pls ds=true then ds else ds.map (res M)):=by simp[rs,ak,e]
    rw[this];obtain⟨H',I2,t,Nz,vs,sq,l,_⟩:=EC I rz e;split
    ·exact⟨H',I2,t,Nz,a,vs,dx,sq,l⟩
    ·obtain⟨H3,I3,t3,P8,l3⟩:=wc I2 Nz l;exact⟨H3,I3,t.trans t3,P8,a,vs,dx,t3.f _ _ sq,l3⟩
   |_=>
    have:rs M (.ref a)=.ref a:=by simp[rs,ak,e]
    rw[this];exact⟨H,I,.refl _,rz,dx⟩
 |f_ ds=>
  have:rs M (.f_ ds)=.f_ (if pls ds=true then ds else ds.map (res M)):=by simp[rs,ak]
  rw[this];split
  ·exact⟨H,I,.refl _,rz,dx⟩
  ·obtain⟨p,vs,e,sq,l⟩:=dx;obtain⟨H3,I3,t3,P8,l3⟩:=wc I rz l;exact⟨H3,I3,t3,P8,p,vs,e,t3.f _ _ sq,l3⟩
 |_=>exact⟨H,I,.refl _,rz,dx⟩
theorem Ei(I:Inv X a_ Z H s)(rm:RelM X.K M H)(dx:Den X.K H x v)(dy:Den X.K H y u) :
  ∃H',Inv X a_ Z H' s/\Den X.K H' (rs M x) v/\Den X.K H' (rs M y) u:=by
 obtain⟨H1,I1,t1,P7,d1⟩:=zi I rm.z dx;obtain⟨H2,I2,t2,Nz,d2⟩:=zi I1 P7 (dy.mono t1);exact⟨H2,I2,d1.mono t2,d2⟩
theorem zw(hu:X.A.units+64<cLine)(neg:Bool):VO X (compareOp (if neg=true then .NotEq else .Eq)) (ll neg):=by
 intro a_ s Z H x y v u v2 u2 M Q Q2 I rv ru dx dy rm q b_;obtain⟨h1,h2,q⟩:=q;obtain⟨H',I',d1,d2⟩:=Ei I rm dx dy;obtain⟨rc,rn,_⟩:=BP I' rfl 8 (A:=X.A) h1 h2 d1 d2 rv ru (by omega)
 have fin:=b_ _ _ _ _ (cv) rm (.refl _) q;cases neg with
 |true=>
  refine rn _ _ _ _ ⟨.bl _,H,I,rfl,?_⟩;rw[Bool.true_xor]at fin;exact fin
 |false=>
  refine rc _ _ _ _ ⟨.bl _,H,I,rfl,?_⟩;rw[Bool.false_xor]at fin;exact fin
end
section
variable {K:Ko}
theorem gM[DecidableEq κ]:∀{ks:List κ}{ds:List D}{vs:List V}{k:κ},DenL K H ds vs->ks.length=vs.length->
  (∀d,getD ks ds k=some d->∃v,cT (ks.zip vs) k=some v/\Den K H d v)/\(getD ks ds k=none->cT (ks.zip vs) k=none)
 |[],_,vs,k,_,_=>⟨λd e=>by simp[getD]at e,λ_=>by simp[cT]⟩
 |q::ks,[],vs,k,dl,hl=>by cases (show vs=[] from dl);cases hl
 |q::ks,d0::ds,_,k,dl,hl=>by
  obtain⟨v,r,rfl,dv,dl⟩:=dl;have ih:=gM (k:=k) dl (by simpa using hl)
  by_cases z:q=k
  ·refine⟨λd e=>?_,λe=>?_⟩
   ·simp only[getD,Jr z]at e;cases e;exact⟨v,fg z,dv⟩
   ·simp only[getD,Jr z]at e;cases e
  ·refine⟨λd e=>?_,λe=>?_⟩
   ·simp only[getD,Ji z]at e;obtain⟨w,h1,h2⟩:=ih.1 d e;exact⟨w,(dm z).trans h1,h2⟩
   ·simp only[getD,Ji z]at e;exact (dm z).trans (ih.2 e)
theorem kH(h:m9 y=some k)(d:Den K H y u):u=kV k:=by
 cases y with
 |int i=>cases (show some (Sum.inl i)=some k from h);exact d
 |str x=>cases (show some (Sum.inr x)=some k from h);exact d
 |_=>cases h
theorem mD:∀{es:List D}{vs:List V}{k:List Int},bh es=some k->DenL K H es vs->vs=k.map V.int
 |[],vs,k,h,dl=>by cases (show some []=some k from h);exact dl
 |d::es,_,k,h,dl=>by
  obtain⟨v,r,rfl,dv,dl⟩:=dl;cases d with
  |int i=>
   simp only[bh]at h;split at h
   ·rename_i ns q;cases h;rw[mD q dl];cases (show v=.int i from dv);rfl
   ·cases h
  |_=>cases h
theorem jS{k:List Int}(h:gh y=some k)(d:Den K H y u):∃b,u=.ref b/\SqT K H b (k.map V.int):=by
 cases y with
 |tup es=>
  obtain⟨b,vs,e,sq,dl⟩:=d;refine⟨b,e,?_⟩;rw[<-mD h dl];exact sq
 |_=>cases h
theorem oV{ks:List Key}(h:cU M x=some (ks,ds))(rm:RelM K M H)(d:Den K H x v):∃p vs,v=.ref p/\Rd H p (.dK (ks.zip vs))/\ks.length=vs.length/\DenL K H ds vs:=by
 cases x with
 |LR K0 F_=>
  cases h;obtain⟨p,vs,o,rfl,e,hl,dl⟩:=d;exact⟨p,vs,rfl,.inr ⟨o,e⟩,hl,dl⟩
 |ref a=>
  simp only[cU]at h;split at h
  ·rename_i q;cases h;obtain⟨vs,e,hl,dl⟩:=rm a _ q;exact⟨a,vs,d,.inl e,hl,dl⟩
  ·cases h
 |_=>cases h
theorem gV(h:c9 M x=some (ks,ds))(rm:RelM K M H)(d:Den K H x v):∃p vs xs,v=.ref p/\Rd H p (.ext (ax p xs))/\TabOk K H p ks xs vs/\DenL K H ds vs:=by
 cases x with
 |H_ K0 F_=>
  cases h;obtain⟨p,vs,o,xs,rfl,e,z,dl⟩:=d;exact⟨p,vs,xs,rfl,.inr ⟨o,e⟩,z,dl⟩
 |ref a=>
  simp only[c9]at h;split at h
  ·rename_i q;cases h;obtain⟨vs,xs,e,z,dl⟩:=rm a _ q;exact⟨a,vs,xs,d,.inl e,z,dl⟩
  ·cases h
 |_=>cases h
theorem TabOk.len{ks:List (List Int)}{vs:List V}(z:TabOk K H a ks xs vs):ks.length=vs.length:=by
 rw[<-z.kx,Jo,z.vx.length,Jo]
theorem dH:∀{xs:List (List Int×Addr×Value)}{vs:List V} (k:List Int),Vals vs (xs.map (·.2.2))->RelO (cT ((xs.map (·.1)).zip vs) k) ((atKey xs k).map (·.2))
 |[],vs,k,r=>by cases r;exact True.intro
 |x::xs,vs,k,r=>by
  cases r with
  |@cons v _ vs _ h t=>
   have ih:=dH k t;by_cases e:x.1=k
   ·have b:atKey (x::xs) k=some x.2:=by simp[atKey,e]
    rw[Jm,List.zip_cons_cons,fg e,b];exact h
   ·have b:atKey (x::xs) k=atKey xs k:=by simp[atKey,e]
    rw[Jm,List.zip_cons_cons,dm e,b];exact ih
end
inductive DRd (X:Cx) (H:Hp) (a:Addr) (u:V):Option V->Prop where
 |k {m_:List (Key×V)}{k:Key} (e:Rd H a (.dK m_)) (hu:u=kV k):DRd X H a u (cT m_ k)
 |t {ks:List (List Int)}{xs:List (List Int×Addr×Value)}{vs:List V}{k:List Int}{b:Addr} (e:Rd H a (.ext (ax a xs))) (z:TabOk X.K H a ks xs vs) (hu:u=.ref b) (sq:SqT X.K H b (k.map V.int)):DRd X H a u (cT (ks.zip vs) k)
def OptDen(K:Ko)(H:Hp):Option D->Option V->Prop
 |some d,some v=>Den K H d v
 |none,none=>True
 |_,_=>False
theorem gT{X:Cx}(h:dM M x y=some o)(rm:RelM X.K M H)(dx:Den X.K H x v)(dy:Den X.K H y u):∃a ov,v=.ref a/\DRd X H a u ov/\OptDen X.K H o ov:=by
 unfold dM at h;split at h
 ·rename_i ks ds e;split at h
  ·rename_i k ek;cases h;obtain⟨p,vs,rfl,rd,hl,dl⟩:=oV e rm dx;refine⟨p,_,rfl,.k rd (kH ek dy),?_⟩;have g:=gM (k:=k) dl hl;cases q:getD ks ds k with
   |none=>rw[g.2 q];exact True.intro
   |some d=>obtain⟨w,h1,h2⟩:=g.1 d q;rw[h1];exact h2
  ·cases h
 ·split at h
  ·rename_i ks ds e;split at h
   ·rename_i k ek;cases h;obtain⟨p,vs,xs,rfl,rd,z,dl⟩:=gV e rm dx;obtain⟨b,hb,sq⟩:=jS ek dy;refine⟨p,_,rfl,.t rd z hb sq,?_⟩;have g:=gM (k:=k) dl z.len;cases q:getD ks ds k with
    |none=>rw[g.2 q];exact True.intro
    |some d=>obtain⟨w,h1,h2⟩:=g.1 d q;rw[h1];exact h2
   ·cases h
  ·cases h
section
variable {X:Cx}{s:Shared}{o:Option V}{A:Around}
theorem kR:∀{ks:List Int}{us:List Value},Vals (ks.map V.int) us->ItemsAre (intKind P w) ks us
 |[],_,r=>by rw[List.map_nil]at r;cases r;exact .nil
 |k::ks,_,r=>by
  cases r with
  |cons h t=>
   obtain⟨tk,rfl⟩:=h;exact .cons (by show Value.isInt k (.int k tk)=true;simp[Value.isInt]) (kR t)
theorem eS{k:List Int}(I:Inv X a_ Z H s)(sq:SqT X.K H b (k.map V.int)):(tupleKind (intKind X.prog X.w)).is s.heap k b:=by
 obtain⟨g_,r,⟨o,e,c,n,d⟩,_⟩:=I.tuple sq;exact⟨o,g_.toArray,n,e,c,d,by simpa using kR r⟩
theorem bZ(I:Inv X a_ Z H s)(e:Rd H a (.ext (ax a xs)))(z:TabOk X.K H a ks xs vs):s.heap.DictOfH (tupleKind (intKind X.prog X.w)) a xs:=by
 obtain⟨⟨ob,es,ep,h1,h2,h3,h4⟩,_⟩:=(show ObjOk X.prog X.w H s.heap a (.ext (ax a xs)) from e.ok I.j_);exact⟨ob,es,ep,h1,h2,h3,h4,λx hx=>eS I (z.at_ x hx),by rw[z.kx];exact z.nd⟩
theorem DRd.isDict(I:Inv X a_ Z H s)(g:DRd X H a y o):s.TypeIs (.ref a) "dict":=by
 cases g with
 |k e _=>obtain⟨_,_,vs,_,dd⟩:=jd I.j_ e;exact dd.typeIs
 |t e z _ _=>exact (bZ I e z).typeIs
theorem tO(hu:A.units+1<cLine)(I:Inv X a_ Z H s)(g:DRd X H a y o)(ho:o=some v)(ry:RelV y u)(h:∀w' s',Inv X a_ Z H s'->RelV v w'->Q w' s') :
  wpAny (model X.prog X.w) A (getItem (.ref a) u) Q E s:=by
 cases g with
 |k e hk=>exact tK hu I (.inl ⟨_,_,e,hk,ho.symm⟩) ry h
 |@t ks xs vs k b e z hb sq=>
  subst hb;cases (show u=Value.ref b from ry);have dd:=bZ I e z;have rel:=dH k z.vx;rw[z.kx]at rel;obtain⟨w',hw,KO⟩:=RelO.some_of (by rw[<-ho];exact rel)
  obtain⟨p,hp,PC⟩:=Option.map_eq_some_iff.mp hw;refine wpAny_getItem_heap (JV hu) (eS I sq) dd hp ?_;rw[PC];exact h w' _ (I.tok _) KO
theorem GM(neg:Bool)(hu:A.units+1<cLine)(I:Inv X a_ Z H s)(g:DRd X H a y o)(ry:RelV y u)(h:∀s',Inv X a_ Z H s'->Q (.bool (neg ^^ o.isSome)) s') :
  wpAny (model X.prog X.w) A (compareOp (if neg=true then .NotIn else .In) u (.ref a)) Q E s:=by
 cases g with
 |k e hk=>
  cases neg with
  |true=>exact yH hu I (.inl ⟨_,_,e,hk,rfl⟩) ry λs' I'=>by have:=h s' I';rw[Bool.true_xor]at this;exact this
  |false=>exact FV hu I (.inl ⟨_,_,e,hk,rfl⟩) ry λs' I'=>by have:=h s' I';rw[Bool.false_xor]at this;exact this
 |@t ks xs vs k b e z hb sq=>
  subst hb;cases (show u=Value.ref b from ry);have dd:=bZ I e z;have rel:=dH k z.vx;rw[z.kx]at rel;have q:=rel.isSome_eq;rw[Option.isSome_map]at q;rw[q]at h;cases neg with
  |true=>
   refine wpAny_notIn_heap (JV hu) (eS I sq) z.no dd ?_;have:=h _ (I.tok (s.toks+(tupleKind (intKind X.prog X.w)).draws k));rw[Bool.true_xor]at this;exact this
  |false=>
   refine wpAny_in_heap (JV hu) (eS I sq) z.no dd ?_;have:=h _ (I.tok (s.toks+(tupleKind (intKind X.prog X.w)).draws k));rw[Bool.false_xor]at this;exact this
theorem Ak(hu:A.units+1<cLine)(I:Inv X a_ Z H s)(g:DRd X H a y o)(ry:RelV y u)(h:∀w' s',Inv X a_ Z H s'->RelV (o.getD .i_) w'->Q w' s') :
  wpAny (model X.prog X.w) A (call (.builtin "dict.get") [.ref a,u]) Q E s:=by
 cases g with
 |k e hk=>exact B5 hu I (.inl ⟨_,_,e,hk,rfl⟩) ry h
 |@t ks xs vs k b e z hb sq=>
  subst hb;cases (show u=Value.ref b from ry);have dd:=bZ I e z;have rel:=dH k z.vx;rw[z.kx]at rel;exact call_meetsIn PySem.F.slot_dict_get dd.typeIs PySem.F.entry_dict_get (PySem.F.args_dict_get_2 _ _) (meetsH_dict_get (tupleKind (intKind X.prog X.w)) a b z.no) ⟨JV hu,k,xs,eS I sq,dd,h _ _ (I.tok _) (rel.getD rfl)⟩
theorem Az(hu:A.units+1<cLine)(I:Inv X a_ Z H s)(g:DRd X H a y o)(ry:RelV y u)(rd:RelV d r)(h:∀w' s',Inv X a_ Z H s'->RelV (o.getD d) w'->Q w' s') :
  wpAny (model X.prog X.w) A (call (.builtin "dict.get") [.ref a,u,r]) Q E s:=by
 cases g with
 |k e hk=>exact Ct hu I (.inl ⟨_,_,e,hk,rfl⟩) ry rd h
 |@t ks xs vs k b e z hb sq=>
  subst hb;cases (show u=Value.ref b from ry);have dd:=bZ I e z;have rel:=dH k z.vx;rw[z.kx]at rel;exact call_meetsIn PySem.F.slot_dict_get dd.typeIs PySem.F.entry_dict_get (PySem.F.args_dict_get_3 _ _ _) (meetsH_dict_get_default (tupleKind (intKind X.prog X.w)) a b z.no r) ⟨JV hu,k,xs,eS I sq,dd,h _ _ (I.tok _) (rel.getD rd)⟩
end
section
variable {K:Ko}
theorem ub[DecidableEq κ]{l:List (κ×V)}:dJ ((q,w)::l) k v=if q=k then (q,v)::l.map (λkv=>if kv.1=k then (kv.1,v) else kv) else (q,w)::dJ l k v:=by
 unfold dJ;by_cases e:q=k
 ·simp[e]
 ·by_cases g:(l.any λkv=>decide (kv.1=k))=true
  ·simp[e,g]
  ·simp[e,g]
theorem pc[DecidableEq κ]:∀{ks:List κ}{vs:List V},¬ k∈ks->(ks.zip vs).map (λkv=>if kv.1=k then (kv.1,v) else kv)=ks.zip vs
 |[],_,_=>by simp
 |q::ks,[],_=>by simp
 |q::ks,w::vs,h=>by
  have hq:¬ q=k:=λz=>h (by simp[z])
  have ih:=pc (v:=v) (vs:=vs) λm=>h (Jg _ m)
  simp only[List.zip_cons_cons,Jm,Ji hq,ih]
theorem jR[DecidableEq κ]:∀{ks:List κ}{ds:List D}{vs:List V}{k:κ}{y:D}{v:V},ks.Nodup->DenL K H ds vs->ks.length=vs.length->Den K H y v->
  ∃LH,dJ (ks.zip vs) k v=(aj ks k).zip LH/\(aj ks k).length=LH.length/\DenL K H (au ks ds k y) LH
 |[],ds,vs,k,y,v,_,dl,hl,dy=>by
  cases vs with
  |nil=>exact⟨[v],rfl,rfl,by unfold au;exact .one dy⟩
  |cons _ _=>cases hl
 |q::ks,[],vs,k,y,v,_,dl,hl,dy=>by cases (show vs=[] from dl);cases hl
 |q::ks,d::ds,_,k,y,v,nd,dl,hl,dy=>by
  obtain⟨w,r,rfl,dw,dl⟩:=dl;obtain⟨n1,n2⟩:=JO.mp nd;rw[List.zip_cons_cons,ub];by_cases e:q=k
  ·subst e;rw[Jr rfl,pc n1];refine⟨v::r,?_,?_,?_⟩
   ·simp[aj]
   ·simpa [aj] using hl
   ·simp only[au];exact .cons dy dl
  ·rw[Ji e];obtain⟨LH,h1,h2,h3⟩:=jR (k:=k) n2 dl (by simpa using hl) dy
   refine⟨w::LH,?_,?_,?_⟩
   ·simp[aj,Ji e,h1]
   ·simp[aj,Ji e,h2]
   ·simp only[au,Ji e];exact .cons dw h3
theorem pA{x:List Int×Addr×Value}{xs:List (List Int×Addr×Value)}:storedH (x::xs) k b r=if x.1=k then (x.1,x.2.1,r)::xs.map (putAt k r) else x::storedH xs k b r:=by
 unfold storedH;by_cases e:x.1=k
 ·have b':atKey (x::xs) k=some x.2:=by simp[atKey,e]
  rw[b',Jr e];simp[putAt,e]
 ·have b':atKey (x::xs) k=atKey xs k:=by simp[atKey,e]
  rw[b',Ji e];by_cases g:(atKey xs k).isSome=true
  ·rw[Jr g,Jr g];simp[putAt,e]
  ·rw[Ji g,Ji g];rfl
theorem jE:∀{xs:List (List Int×Addr×Value)},¬ k∈xs.map (·.1)->xs.map (putAt k r)=xs
 |[],_=>rfl
 |x::xs,h=>by
  have hq:¬ x.1=k:=λz=>h (by simp[z])
  rw[Jm,jE λm=>h (Jg _ m)]
  simp[putAt,hq]
theorem gD:∀{xs:List (List Int×Addr×Value)}{ds:List D}{vs:List V}{k:List Int}{b:Addr}{r:Value}{y:D}{v:V},(xs.map (·.1)).Nodup->Vals vs (xs.map (·.2.2))->RelV v r->DenL K H ds vs->Den K H y v->
  ∃LH,(storedH xs k b r).map (·.1)=aj (xs.map (·.1)) k/\Vals LH ((storedH xs k b r).map (·.2.2))/\DenL K H (au (xs.map (·.1)) ds k y) LH/\∀x∈storedH xs k b r,(x.1=k/\x.2.1=b)\/∃x'∈xs,x'.1=x.1/\x'.2.1=x.2.1
 |[],ds,vs,k,b,r,y,v,_,vr,rv,dl,dy=>by
  cases vr;cases ds with
  |cons _ _=>obtain⟨_,_,z,_⟩:=dl;cases z
  |nil=>exact⟨[v],rfl,.cons rv .nil,by unfold au;exact .one dy,λx hx=>.inl (by simp[storedH]at hx;simp[hx])⟩
 |x::xs,ds,vs,k,b,r,y,v,nd,vr,rv,dl,dy=>by
  cases vr with
  |@cons w _ vs _ h t=>
   cases ds with
   |nil=>cases (show w::vs=[] from dl)
   |cons d ds=>
    obtain⟨w',r',e',dw,dl⟩:=dl;cases e';obtain⟨n1,n2⟩:=JO.mp nd;rw[pA];by_cases e:x.1=k
    ·rw[Jr e,jE (by rw[<-e];exact n1)]
     refine⟨v::vs,?_,.cons rv t,?_,λz hz=>?_⟩
     ·simp[aj,e]
     ·simp only[Jm,au,Jr e];exact .cons dy dl
     ·rcases Jl.mp hz with rfl|hz
      ·exact .inr ⟨x,Jk,rfl,rfl⟩
      ·exact .inr ⟨z,Jg _ hz,rfl,rfl⟩
    ·rw[Ji e];obtain⟨LH,h1,h2,h3,h4⟩:=gD n2 t rv dl dy;refine⟨w::LH,?_,.cons h h2,?_,λz hz=>?_⟩
     ·simp only[Jm,aj,Ji e,h1]
     ·simp only[Jm,au,Ji e];exact .cons dw h3
     ·rcases Jl.mp hz with rfl|hz
      ·exact .inr ⟨z,Jk,rfl,rfl⟩
      ·rcases h4 z hz with q|⟨x',Mt,q⟩
       ·exact .inl q
       ·exact .inr ⟨x',Jg _ Mt,q⟩
theorem bc[DecidableEq κ]:∀{ks:List κ}{k:κ},(aj ks k).length<=ks.length+1
 |[],_=>by simp[aj]
 |q::ks,k=>by
  unfold aj;split
  ·simp
  ·have:=bc (ks:=ks) (k:=k);simp only[Jw];omega
theorem putD1_mem[DecidableEq κ]:∀{ks:List κ}{k x:κ},x∈aj ks k<->x∈ks\/x=k
 |[],k,x=>by simp[aj]
 |q::ks,k,x=>by
  unfold aj;split
  ·rename_i e;subst e;simp;intro z;exact .inl z
  ·rw[Jl,putD1_mem,Jl,or_assoc]
theorem eN[DecidableEq κ]:∀{ks:List κ}{k:κ},ks.Nodup->(aj ks k).Nodup
 |[],k,_=>by simp[aj]
 |q::ks,k,h=>by
  obtain⟨n1,n2⟩:=JO.mp h;unfold aj;split
  ·exact h
  ·rename_i e;refine JO.mpr ⟨λm=>?_,eN n2⟩
   rcases putD1_mem.mp m with z|z
   ·exact n1 z
   ·exact e z
end
section
variable {X:Cx}{A:Around}{ks:List Key}
theorem pQ:∀{ks:List κ}{vs:List V},ks.length=vs.length->(ks.zip vs).map (·.1)=ks
 |[],_,_=>by simp
 |q::ks,[],h=>by cases h
 |q::ks,v::vs,h=>by simp[pQ (by simpa using h)]
theorem oO{vs:List V}(I:Inv X a_ Z H s)(e:H a=some (.dK (ks.zip vs)))(hl:ks.length=vs.length):ks.Nodup:=by
 obtain⟨_,_,ws,rel,_,_,_,_,_,_,_,_,nd⟩:=u8 I.j_ e;rw[<-rel.keys,pQ hl]at nd;exact nd
theorem A8{k:Key}{y:D}{v w:V}{R:MH->Prop}{R2:Hp->Prop}(hu:A.units+1<cLine)(I:Inv X a_ Z H s)(rm:RelM X.K M H)(q:M a=some (.dk ks ds))(hk:w=kV k)(KO:RelV w u)(dy:Den X.K H y v)(rv:RelV v r)(hz:ks.length<sizeLine)
  (h:R (put M a (.dk (aj ks k) (au ks ds k y)))) (b_:∀H' M',RelM X.K M' H'->TM X.K H H'->R M'->R2 H'):wpAny (model X.prog X.w) A (setItem (.ref a) u r) (λ_ s'=>∃H',Inv X a_ Z H' s'/\R2 H') E s:=by
 obtain⟨vs,e,hl,dl⟩:=rm a _ q;subst hk;obtain⟨LH,h1,h2,h3⟩:=jR (oO I e hl) dl hl dy;refine ug hu I (.inl ⟨_,k,e,rfl,?_,rfl⟩) KO rv λs' I'=>⟨_,I',?_⟩
 ·rw[List.length_zip,hl,Nat.min_self,<-hl];exact hz
 ·have tw:TM X.K H (upd H a (.dK (dJ (ks.zip vs) k v))):=.put e (λ_ z=>by cases z) λ_ _ z=>by cases z
  exact b_ _ _ (rm.write (u:=.dk (aj ks k) (au ks ds k y)) e (λ_ z=>by cases z) (λ_ _ z=>by cases z) ⟨LH,by rw[ah,h1],h2,h3.mono tw⟩) tw h
theorem z9{kt:List (List Int)}{k:List Int}{y:D}{v:V}{b:Addr}{R:MH->Prop}{R2:Hp->Prop}(hu:A.units+1<cLine)(I:Inv X a_ Z H s)(rm:RelM X.K M H)(q:M a=some (.dt kt ds))(sq:SqT X.K H b (k.map V.int))(dy:Den X.K H y v)(rv:RelV v r)(hz:kt.length<sizeLine)
  (h:R (put M a (.dt (aj kt k) (au kt ds k y)))) (b_:∀H' M',RelM X.K M' H'->TM X.K H H'->R M'->R2 H'):wpAny (model X.prog X.w) A (setItem (.ref a) (.ref b) r) (λ_ s'=>∃H',Inv X a_ Z H' s'/\R2 H') E s:=by
 obtain⟨vs,xs,e,z,dl⟩:=rm a _ q;have dd:=bZ I (.inl e) z;have nd:(xs.map (·.1)).Nodup:=by rw[z.kx];exact z.nd
 obtain⟨LH,h1,h2,h3,h4⟩:=gD nd z.vx rv dl dy;rw[z.kx]at h1 h3;have hsz:xs.length<=sizeLine:=by
  have:=congrArg List.length z.kx;rw[Jo]at this;omega
 refine wpAny_setItem_heap (JV hu) (eS I sq) dd λh' Mo hs=>?_
 obtain⟨ob,es,ep,hq,hx,hd,he,_,_⟩:=Mo;have tw:TM X.K H (upd H a (.ext (ax a (storedH xs k b r)))):=.put e (λ_ z=>by cases z) λ_ _ z=>by cases z
 have tb:ax a (storedH xs k b r) h':=⟨ob,es,ep,hq,hx,hd,he⟩;have I':Inv X a_ Z (upd H a (.ext (ax a (storedH xs k b r)))) {s with heap:=h',toks:=s.toks+(tupleKind (intKind X.prog X.w)).draws k}:=
  gW I (by rw[e];exact True.intro) hs ⟨ob,hq⟩ ⟨tb,⟨ob,hq⟩,λg1 g2 ⟨o1,NA,NB,a1,a2,a3,a4⟩ kk=>⟨o1,NA,NB,kk _ a1,a2,a3,a4⟩⟩
 refine⟨_,I',b_ _ _ (rm.write (u:=.dt (aj kt k) (au kt ds k y)) e (λ_ z=>by cases z) (λ_ _ z=>by cases z) ⟨LH,_,ah,⟨h1,eN z.nd,JF bc hz,z.no,h2,λx Mt=>?_⟩,h3.mono tw⟩) tw h⟩
 rcases h4 x Mt with ⟨q1,q2⟩|⟨x',m,q1,q2⟩
 ·rw[q1,q2];exact tw.t _ _ sq
 ·rw[<-q1,<-q2];exact tw.t _ _ (z.at_ x' m)
end
end L2
namespace L2
open PySem PySem.Spec PyProof.Rows PySem.W
section
variable {A:Around}{s:Shared}{ob:Obj}{es:Array DictEntry}{e:DictEntry}
theorem tV(hn:(d == sysModules)=false):MeetsIn prog w (Builtin.«dict.__len__» ⟨[.ref d],[]⟩) (λ_ R s=>∃ob es ep,s.heap.get? d=some ob/\ob.data=.dict es ep/\R (.ok (.ret (.int es.size s.toks))) {s with toks:=s.toks+1}):=
 .of_wp λA R s ⟨ob,es,ep,ho,hd,q⟩=>by
  show wpAny _ _ (dictSize d >>=_) _ _ s;refine Je (Je (Kb ho hd (Jh ?_)));exact Je (wpAny_pendingCount_other hn (wpAny_ret_mkInt q))
theorem F9(hn:(d == sysModules)=false)(ho:s.heap.get? d=some ob)(hx:ob.ExactDict)(hd:ob.data=.dict es ep)(hz:(es.size:Int)<2 ^ 63)(q:Q (.int es.size (s.toks+1)) {s with toks:=s.toks+1+1}) :
  wpAny (model prog w) A (call (.builtin "len") [.ref d]) Q E s:=by
 have hT:s.TypeIs (.ref d) "dict":=⟨_,ho,hx.1⟩;refine Calls.call_function_entry kind_len plain_len entry_len (args_len1 _) ?_;refine Je (m:=callSpecial? (.ref d) (Str.ofString "__len__")) (wpAny_callSpecial?_slot hT F.slot_dict_len
  (call_meetsIn F.slot_dict_len hT F.entry_dict_len (F.args_dict_len_1 _) (tV hn) ⟨ob,es,ep,ho,hd,?_⟩))
 refine Je (JX (Jh ?_));refine Je (wpAny_letGo ?_);show wpAny _ _ (if ((es.size:Nat):Int)>=2 ^ 63 then _ else _) _ _ _
 rw[Ji (by omega)]
 exact Je (wpAny_mkInt (Jh ⟨_,rfl,q⟩))
theorem uy(hn:(d == sysModules)=false)(ho:s.heap.get? d=some ob)(hx:ob.ExactDict)(hd:ob.data=.dict es ep)
  (hQ:Q (.ref s.heap.objs.size) {s with heap:=s.heap.push {cls:=.type "dict_keyiterator",data:=.fields #[.ref d,.int 0 0,.int es.size 0,.int ep 0]}}):wpAny (model prog w) A (pyIter (.ref d)) Q E s:=by
 have hT:s.TypeIs (.ref d) "dict":=⟨_,ho,hx.1⟩;refine wpAny_pyIter_slot hT F.slot_dict_iter (Kd F.slot_dict_iter hT F.entry_dict_iter ?_ (F.args_dict_iter_1 _));refine Je ?_;refine Je (wpAny_notOrdered_dict hT ?_);refine Jh ?_;show wpAny _ _ (Builtin.Dict.showsAll d >>=_) _ _ s;unfold Builtin.Dict.showsAll;rw[Ji (by rw[hn];exact JN)]
 refine Je (Jh (Je (Kb ho hd (Je (wpAny_dictEpoch ho hd ?_)))));refine Je (JQ (Jh ⟨_,rfl,"dict_keyiterator",_,⟨_,Jp _ rfl,rfl⟩,F.slot_dict_keyiterator_next.lookup,?_⟩));simpa [rawInt] using hQ
theorem kE(J_:s.heap.IsKeyIter it d i es.size ep)(OC:s.heap.get? d=some ob)(OE:ob.data=.dict es ep)(he:es[i]?=some e)
  (hQ:∀h',h'.IsKeyIter it d (i+1) es.size ep->Heap.SameBut it s.heap h'->Q (some e.key) {s with heap:=h'}):wpAny (model prog w) A (pyNext (.ref it)) Q E s:=by
 obtain⟨o,ho,hc,hd⟩:=id J_;refine Je (wpAny_attempt (wpAny_callSpecial?_slot J_.typeIs F.slot_dict_keyiterator_next
  (Kd F.slot_dict_keyiterator_next J_.typeIs F.entry_dict_keyiterator_next ?_ (F.args_dict_keyiterator_next_1 _))))
 refine Je (Jh (Je (Je ?_)))
 first|refine Je (wpAny_typeNameOfWhole_keyiter J_.typeIs (Jh ?_))|refine Je (wpAny_typeNameOf_keyiter J_.typeIs (Jh ?_))
 refine Je (wpAny_fieldsOf ho hd ?_);refine Je (Jh (Je (Kb OC OE ?_)));rw[Ji (by simp)]
 refine Je (Jh (Je (wpAny_dictEpoch OC OE ?_)));rw[Ji (by simp)]
 refine Jh ?_;simp only[Kh,he];refine Je ?_
 first|refine Je (wpAny_typeNameOfWhole_keyiter J_.typeIs (Jh ?_))|refine Je (wpAny_typeNameOf_keyiter J_.typeIs (Jh ?_))
 refine Je (wpAny_isOneOf_keyiter J_.typeIs ?_);show wpAny _ _ (setField (.ref it) 1 (rawInt ((i:Int)+1)) >>=_) _ _ s;refine Je (Kl ho hd (by simp) ?_)
 have Le:(s.heap.update it (Obj.mapFields (·.setIfInBounds 1 (rawInt ((i:Int)+1))))).IsKeyIter it d (i+1) es.size ep:=
  ⟨_,JS _ ho (Obj.isFreed_of_fields (Ke hd _)),(Obj.cls_mapFields ..).trans hc,by rw[Ke hd];simp[rawInt]⟩
 refine Je (JX ?_);refine Je (wpAny_isOneOf_keyiter Le.typeIs ?_);exact Jh (Jh ⟨_,rfl,Jh (hQ _ Le (Heap.SameBut.update ..))⟩)
theorem kO(hh:A.handled=none)(J_:s.heap.IsKeyIter it d i es.size ep)(OC:s.heap.get? d=some ob)(OE:ob.data=.dict es ep)(he:es.size<=i)
  (hQ:∀h',Heap.ExtBut it s.heap h'->Q none {s with heap:=h'}):wpAny (model prog w) A (pyNext (.ref it)) Q E s:=by
 obtain⟨o,ho,hc,hd⟩:=id J_;refine Je (wpAny_attempt (wpAny_callSpecial?_slot J_.typeIs F.slot_dict_keyiterator_next
  (Kd F.slot_dict_keyiterator_next J_.typeIs F.entry_dict_keyiterator_next ?_ (F.args_dict_keyiterator_next_1 _))))
 refine Je (Jh (Je (Je ?_)))
 first|refine Je (wpAny_typeNameOfWhole_keyiter J_.typeIs (Jh ?_))|refine Je (wpAny_typeNameOf_keyiter J_.typeIs (Jh ?_))
 refine Je (wpAny_fieldsOf ho hd ?_);refine Je (Jh (Je (Kb OC OE ?_)));rw[Ji (by simp)]
 refine Je (Jh (Je (wpAny_dictEpoch OC OE ?_)));rw[Ji (by simp)]
 refine Jh ?_;simp only[Kh,Array.getElem?_eq_none he];refine Je ?_
 first|refine Je (wpAny_typeNameOfWhole_keyiter J_.typeIs (Jh ?_))|refine Je (wpAny_typeNameOf_keyiter J_.typeIs (Jh ?_))
 show wpAny _ _ (setField (.ref it) 0 .none >>=_) _ _ s;refine Je (Kl ho hd (by simp) ?_)
 refine Je ?_;refine Je (m:=firstArgMember _ _) (wpAny_of_eq (by first|rfl|(simp only[firstArgMember];rfl)) ?_)
 refine JQ ?_ (by size_fits)
 refine Je (wpAny_handled ?_);rw[show A.in1.handled=none from hh];refine Je (Jh (wpAny_throw ?_));refine Je (wpAny_isInstance ⟨_,Jp _ rfl,rfl⟩ isSubtype_stop ?_);exact Jh (hQ _ (((Heap.SameBut.update ..).extBut.push _).push _))
theorem t9(hh:A.handled=none)(I d:Addr)(Lq:d≠I)(hd:ob.data=.dict es ep) :
  Walks prog w A I [I,d] [I] es.size (λi v=>∃e,es[i]?=some e/\v=e.key) (λi h=>h.IsKeyIter I d i es.size ep/\h.get? d=some ob) where
 sub:=λb hb=>by simp at hb;simp[hb]
 frame:=λ_ _ _ st hk=>⟨st.1.at λo e=>hk I (by simp) o e,hk d (by simp) _ st.2⟩
 item:=λi s Q E hi st hQ=>by
  have he:es[i]?=some es[i]:=by simp
  refine kE st.1 st.2 hd he λh' Le Ng=>?_
  exact hQ _ h' s.toks ⟨_,he,rfl⟩ ⟨Le,Ng.extBut d ob Lq st.2⟩ λb o hb e=>Ng.extBut b o (λh=>hb (by simp[h])) e
 done:=λs Q E st hQ=>kO hh st.1 st.2 hd (Jn _) λh' Ou=>hQ h' s.toks λb o hb e=>Ou b o (λh=>hb (by simp[h])) e
 self:=λ_ _ _ _ st hQ=>wpAny_pyIter_keyiter st.1 hQ
theorem wN(lo:(d == sysModules)=false)(hx:ob.ExactDict)(hd:ob.data=.dict es ep):KdlSrc prog w "dict" d d es.size (λi v=>∃e,es[i]?=some e/\v=e.key) (λh=>h.get? d=some ob) where
 type:=λ_ hm=>⟨_,hm,hx.1⟩
 there:=λ_ hm=>⟨Jt hm,Jt hm⟩
 keep:=λ_ _ hm hk=>hk d (.inl rfl) _ hm
 notList:=by decide
 notTuple:=by decide
 hint:=λ_ _ _ _ hm hq=>kdl_hint_dict ⟨_,hm,hx.1⟩ hq
 iter:=λ_ _ hh hm=>⟨_,_,(λ_ _ hq=>uy lo hm hx hd hq),t9 hh _ d (JG (Jt hm)) hd,⟨⟨_,Jp _ rfl,rfl,rfl⟩,Jj _ hm⟩⟩
end
end L2
namespace L2
open PySem PySem.Spec PyProof.Rows
section
variable {X:Cx}
theorem zj(neg:Bool):VO X (compareOp (if neg=true then .IsNot else .Is)) (qH neg):=by
 intro a_ s Z H x y v u v2 u2 M Q Q2 I rv ru dx dy rm q b_;unfold qH at q;split at q
 ·cases (show u=.i_ from dy);cases neg with
  |true=>exact VO.of3 xp a_ s Z H x .i_ v .i_ v2 u2 M Q Q2 I rv ru dx dy rm ⟨rfl,by rw[Bool.true_xor]at q;exact q⟩ b_
  |false=>exact VO.of3 G0 a_ s Z H x .i_ v .i_ v2 u2 M Q Q2 I rv ru dx dy rm ⟨rfl,by rw[Bool.false_xor]at q;exact q⟩ b_
 ·rename_i b;cases (show u=.bl b from dy);cases ru;have fin:∀k,Q (.bl k) M->EP X a_ Z Q2 (.bool k) s:=λk q=>⟨.bl k,H,I,rfl,b_ _ _ _ _ cv rm (.refl _) q⟩
  split at q
  ·rename_i a;cases (show v=.bl a from dx);cases rv;have e:((Value.bool a == Value.bool b):Bool)=(a == b):=by cases a<;>cases b<;>rfl
   cases neg with
   |true=>exact wpAny_isNot_plain rfl (by rw[e];rw[Bool.true_xor]at q;exact fin _ q)
   |false=>exact wpAny_is_plain rfl (by rw[e];rw[Bool.false_xor]at q;exact fin _ q)
  ·cases (show v=.i_ from dx);cases rv;cases neg with
   |true=>exact wpAny_isNot_other rfl (λz=>nomatch z) (fin _ q)
   |false=>exact wpAny_is_other rfl (λz=>nomatch z) (fin _ q)
  ·exact q.elim
 ·exact q.elim
theorem uq:∀{ds:List D}{us:List β},Paired R ds us->(∀d u,d∈ds->R d u->e u=f d)->us.any e=ds.any f
 |_,_,.nil,_=>rfl
 |d::ds,u::us,.cons r t,h=>by
  rw[List.any_cons,List.any_cons,h d u Jk r,uq t λd u hd=>h d u (Jg _ hd)]
theorem i5{K:Ko}:∀{ds:List D}{vs:List V}{us:List Value},DenL K H ds vs->Vals vs us->Paired (λd u=>∃v,Den K H d v/\RelV v u) ds us
 |[],_,_,h,r=>by cases (show _=[] from h);cases r;exact .nil
 |d::ds,_,_,h,r=>by
  obtain⟨v,r',rfl,dv,dl⟩:=h;cases r with
  |cons r1 r2=>exact .cons ⟨v,dv,r1⟩ (i5 dl r2)
theorem Paired.mem_right:∀{l:List α}{m:List β},Paired R l m->∀b∈m,∃a∈l,R a b
 |_,_,.nil,b,hb=>by cases hb
 |a::l,c::m,.cons r t,b,hb=>by
  rcases Jl.mp hb with rfl|hb
  ·exact⟨a,Jk,r⟩
  ·obtain⟨a',h1,h2⟩:=Paired.mem_right t b hb;exact⟨a',Jg _ h1,h2⟩
theorem zC(hu:X.A.units+64<cLine)(neg:Bool):VO X (compareOp (if neg=true then .NotIn else .In)) (lj neg):=by
 intro a_ s Z H x y v u v2 u2 M Q Q2 I rv ru dx dy rm q b_;unfold lj at q;split at q
 ·rename_i ds R_;obtain⟨p1,p2,q⟩:=q;obtain⟨p,vs,rfl,hq,dl⟩:=iE rm R_ dy;cases ru;obtain⟨H',I',t',d1⟩:=o9 I rm dx p1;have Nh:=dl.mono t';have fin:EP X a_ Z Q2 (.bool (neg ^^ ds.any λd=>eqD d (res M x))) s:=⟨.bl _,H,I,rfl,b_ _ _ _ _ cv rm (.refl _) q⟩
  classical
  have key:∀{g_:List Value},Vals vs g_->∃e:Value->Bool,g_.any e=(ds.any λd=>eqD d (res M x))/\∀w∈g_,SeqAt.EqAt X.A.in1 s w v2 (e w):=λ{g_} r=>by
   have pd:=i5 Nh r
   let e:Value->Bool:=λw=>if h:∃d∈ds,∃v,Den X.K H' d v/\RelV v w then eqD h.choose (res M x) else false
   have he:∀d w,d∈ds->(∃v,Den X.K H' d v/\RelV v w)->e w=eqD d (res M x):=λd w hd ⟨v',dv,KO⟩=>by
    have h:∃d∈ds,∃v,Den X.K H' d v/\RelV v w:=⟨d,hd,v',dv,KO⟩;obtain⟨hm,P9,MD,P_⟩:=h.choose_spec;have:P9=v':=P_.inj KO;subst this;have e1:h.choose=d:=mU I' rfl 8 (JE.mp p2 _ hm) (JE.mp p2 _ hd) MD dv;show (if h:∃d∈ds,∃v,Den X.K H' d v/\RelV v w then eqD h.choose (res M x) else false)=_
    rw[dif_pos h,e1]
   refine⟨e,uq pd he,λw hw=>?_⟩
   obtain⟨d,hd,v',dv,KO⟩:=Paired.mem_right pd w hw;rw[he d w hd ⟨v',dv,KO⟩];exact (BP I' rfl 8 (JE.mp p2 _ hd) p1 dv d1 KO rv (by show X.A.units+1+8<cLine;omega)).2.2
  rcases hq with hq|hq
  ·obtain⟨g_,r,NC,hz⟩:=I.list hq;obtain⟨e,e1,e2⟩:=key r;have ea:g_.toArray.any e=ds.any λd=>eqD d (res M x):=by rw[<-e1];simp
   cases neg with
   |true=>exact SeqAt.notIn_listAt e NC.isList (λw hw=>e2 w (by simpa using hw)) (by rw[ea];rw[Bool.true_xor]at fin;exact fin)
   |false=>exact SeqAt.in_listAt e NC.isList (λw hw=>e2 w (by simpa using hw)) (by rw[ea];rw[Bool.false_xor]at fin;exact fin)
  ·obtain⟨g_,r,NC,hz⟩:=I.tuple hq;obtain⟨e,e1,e2⟩:=key r;have ea:g_.toArray.any e=ds.any λd=>eqD d (res M x):=by rw[<-e1];simp
   cases neg with
   |true=>exact SeqAt.notIn_tupleAt e NC (λw hw=>e2 w (by simpa using hw)) (by rw[ea];rw[Bool.true_xor]at fin;exact fin)
   |false=>exact SeqAt.in_tupleAt e NC (λw hw=>e2 w (by simpa using hw)) (by rw[ea];rw[Bool.false_xor]at fin;exact fin)
 ·split at q
  ·rename_i o e;obtain⟨a,ov,rfl,g,od⟩:=gT e rm dy dx;cases ru;refine GM neg (by omega) I g rv λs' I'=>⟨.bl (neg ^^ ov.isSome),H,I',rfl,b_ _ _ (.bl _) _ cv rm (.refl _) ?_⟩
   have:o.isSome=ov.isSome:=by
    cases o<;>cases ov<;>first|rfl|exact od.elim
   rw[<-this];exact q
  ·exact q.elim
theorem iQ(hu:X.A.units+64<cLine)(op:CmpOp):VO X (compareOp op) (aC op):=by
 cases op with
 |Eq=>exact zw hu false
 |NotEq=>exact zw hu true
 |Lt=>exact (VO.of3 FW).imp λ_ _ _ _ h=>iR h
 |LtE=>exact (VO.of3 Gh).imp λ_ _ _ _ h=>iR h
 |Gt=>exact (VO.of3 G8).imp λ_ _ _ _ h=>iR h
 |GtE=>exact (VO.of3 Gs).imp λ_ _ _ _ h=>iR h
 |Is=>exact zj false
 |IsNot=>exact zj true
 |In=>exact zC hu false
 |NotIn=>exact zC hu true
theorem gS{K:Ko}(h:DenL K H [d] vs):∃v,vs=[v]/\Den K H d v:=by
 obtain⟨v,r,rfl,dv,rfl⟩:=h;exact⟨v,rfl,dv⟩
def rLen0(xs:List D)(M:MH)(Q:VK3):Prop:=match xs with
  |[x]=>match az M x with
   |some ds=>Q (.int ds.length) M
   |none=>False
  |_=>False
theorem xA:VC X (.builtin "len") rLen0:=(VC.of3 EF).imp λxs M Q h=>by
 simp only[rLen0]at h;split at h
 ·rename_i x;split at h
  ·rename_i ds e;refine⟨x,ds,rfl,?_,h⟩;cases x with
   |tup es=>exact .inr (by rw[show es=ds from JA e])
   |f_ es=>exact .inl (.inl (by rw[show es=ds from JA e]))
   |ref a=>
    cases q:M a with
    |none=>simp[az,ak,q]at e
    |some o=>
     cases o with
     |lst es=>exact .inl (.inr ⟨a,rfl,by rw[q];simp[az,ak,q]at e;rw[e]⟩)
     |_=>simp[az,ak,q]at e
   |_=>cases e
  ·exact h.elim
 ·exact h.elim
theorem sH{s:Shared}{ks:List (List Int)}{xs:List (List Int×Addr×Value)}(I:Inv X a_ Z H s)(e:Rd H p (.ext (ax p xs)))(z:TabOk X.K H p ks xs vs) :
  ∃ob es ep,s.heap.get? p=some ob/\ob.ExactDict/\ob.data=.dict es ep/\es.toList=(xs.map λx=>(⟨tH x.1,.ref x.2.1,x.2.2⟩:DictEntry))/\es.size=ks.length:=by
 obtain⟨⟨ob,es,ep,h1,h2,h3,h4⟩,_⟩:=(show ObjOk X.prog X.w H s.heap p (.ext (ax p xs)) from e.ok I.j_);refine⟨ob,es,ep,h1,h2,h3,h4,?_⟩;have:=congrArg List.length h4;have l3:xs.length=ks.length:=by rw[<-z.kx];simp
 simp at this;omega
theorem Av:VC X (.builtin "len") (rBi .len):=by
 intro a_ s Z H xs vs us M Q Q2 I rs dl rm q b_;by_cases h:rLen0 xs M Q
 ·exact xA a_ s Z H xs vs us M Q Q2 I rs dl rm h b_
 ·simp only[rBi]at q;split at q
  ·split at q
   ·rename_i ds e;exact absurd (by simp only[rLen0,e];exact q) h
   ·split at q
    ·rename_i ks ds e;obtain⟨v,rfl,dv⟩:=gS dl;obtain⟨p,ws,ts,rfl,rd,z,_⟩:=gV e rm dv;obtain⟨ob,es,ep,h1,h2,h3,h4,h5⟩:=sH I rd z;obtain⟨u,rfl,rx⟩:=i9 rs;cases rx;refine F9 z.no h1 h2 h3 (by have:=z.sz;have:=sizeLine_eq;omega) ⟨.int es.size,H,I.tok _,⟨_,rfl⟩,?_⟩
     rw[h5];exact b_ _ _ _ _ bX rm (.refl _) q
    ·exact q.elim
  ·exact q.elim
theorem Ay(hc:X.calm=true):VC X (.builtin "max") (rBi .max):=(VC.of3 (E0 hc)).imp λxs M Q h=>by
 simp only[rBi]at h;split at h
 ·exact⟨_,_,rfl,h⟩
 ·exact h.elim
theorem B3(hc:X.calm=true):VC X (.builtin "min") (rBi .min):=(VC.of3 (Dq hc)).imp λxs M Q h=>by
 simp only[rBi]at h;split at h
 ·exact⟨_,_,rfl,h⟩
 ·exact h.elim
theorem lY{K:Ko}:∀ks:List Int,DenL K H (ks.map D.int) (ks.map V.int)
 |[]=>rfl
 |k::r=>⟨_,_,rfl,rfl,lY r⟩
theorem oZ{K:Ko}:∀{ts:List (List Int×Addr×Value)},(∀x∈ts,SqT K H x.2.1 (x.1.map V.int))->DenL K H ((ts.map (·.1)).map bS) (ts.map λx=>V.ref x.2.1)
 |[],_=>rfl
 |x::r,h=>⟨_,_,rfl,mJ (h x Jk) (lY _),oZ λy hy=>h y (Jg _ hy)⟩
theorem l9:∀ts:List (List Int×Addr×Value),Vals (ts.map λx=>V.ref x.2.1) (ts.map λx=>Value.ref x.2.1)
 |[]=>.nil
 |x::r=>.cons rfl (l9 r)
theorem yE(fz:Bool)(hc:X.calm=true):VC X (.type "list") (rBi (.list fz)):=by
 intro a_ s Z H xs vs us M Q Q2 I r dl rm q b_;simp only[rBi]at q;split at q
 ·rename_i x;split at q
  ·rename_i ds e;obtain⟨v,rfl,dv⟩:=gS dl;obtain⟨p,vs,rfl,hq,Lv⟩:=iE rm e dv;refine thn (mN a_ s Z H _ us (λw H'=>∃l,w=.ref l/\H l=none/\H'=upd H l (.lst vs)) I r ⟨p,vs,rfl,hq,λl hl=>⟨l,rfl,hl,rfl⟩⟩) λu s1 z_=>?_
   obtain⟨w,H1,I1,r1,l,e1,hl,e2⟩:=z_;subst e1;subst e2;cases r1;exact dE I1 hl Lv rm (.refl _) q b_
  ·split at q
   ·rename_i ks ds e;obtain⟨v,rfl,dv⟩:=gS dl;obtain⟨p,ws,ts,rfl,rd,z,_⟩:=gV e rm dv;obtain⟨ob,es,ep,h1,h2,h3,h4,h5⟩:=sH I rd z;obtain⟨u,rfl,rx⟩:=i9 r;cases rx;have hz:es.size<=sizeLine:=by have:=z.sz;omega
    refine PySem.W.kdl_call (wN z.no h2 h3) (I.ok.hd hc) h1 hz λh' tk Me c' kp e hi=>?_
    have hp:H s.heap.objs.size=none:=I.j_.fresh (Jn _);have ea:Me.toList=ts.map λx=>Value.ref x.2.1:=by
     refine List.ext_getElem? λj=>?_
     by_cases hj:j<Me.size
     ·have e1:Me[j]?=some Me[j]:=by simp
      obtain⟨en,e2,e3⟩:=hi.2 j _ e1;have e4:es.toList[j]?=some en:=by simpa using e2
      rw[h4,Jq]at e4;cases hx:ts[j]? with
      |none=>rw[hx]at e4;cases e4
      |some x=>
       rw[hx]at e4;cases e4;rw[Array.getElem?_toList,e1,e3,Jq,hx];rfl
     ·have h6:=hi.1;have h7:ts.length=es.size:=by
       have:=congrArg List.length h4;simpa using this.symm
      rw[List.getElem?_eq_none (by simpa using hj),List.getElem?_eq_none (by rw[Jo];omega)]
    have hv:Vals (ts.map λx=>V.ref x.2.1) Me.toList:=by rw[ea];exact l9 ts
    have I1:=I.laid (o:=.lst (ts.map λx=>V.ref x.2.1)) (t':=tk) kp (Jn _) ⟨by rw[hv.length,ea,Jo];have:=z.sz;rw[<-z.kx,Jo]at this;exact this,Me.toList,c',hv,by simpa using e⟩
    exact dE I1 hp (by rw[<-z.kx];exact oZ z.at_) rm (.refl _) q b_
   ·exact q.elim
 ·exact q.elim
end
end L2
namespace L2
open PySem PySem.Spec PyProof.Rows PySem.W
theorem ints_of{K:Ko}:∀{es:List D}{ns:List Int}{vs:List V}{us:List Value},bh es=some ns->DenL K H es vs->Vals vs us->IntsAre us ns
 |[],ns,vs,us,h,dl,r=>by
  cases (show []=ns from JA h);cases (show vs=[] from dl);cases r;exact .nil
 |d::es,ns,vs,us,h,dl,r=>by
  obtain⟨v,ws,rfl,dv,dl⟩:=dl;cases d with
  |int i=>
   cases q:bh es with
   |none=>simp[bh,q]at h
   |some ms=>
    simp[bh,q]at h;subst h;cases (show v=.int i from dv);cases r with
    |cons h1 h2=>
     obtain⟨t,rfl⟩:=h1;exact .cons _ _ (ints_of q dl h2)
  |_=>simp[bh]at h
end L2
namespace L2
open PySem PySem.Spec PyProof.Rows
theorem ex9{α β γ δ:Sort _}{P1 P2 P3 P4 P5:α->β->γ->δ->Prop}{R:Prop}(h:∃a b c d,P1 a b c d/\P2 a b c d/\P3 a b c d/\P4 a b c d/\P5 a b c d)(k:∀a b c d,P1 a b c d->P2 a b c d->P3 a b c d->P4 a b c d->P5 a b c d->R):R:=
 h.elim λa h=>h.elim λb h=>h.elim λc h=>h.elim λd h=>k a b c d h.1 h.2.1 h.2.2.1 h.2.2.2.1 h.2.2.2.2
def FT(K:Ko)(r:D->D->MH->VK3->Prop):R2:=λv u H Q2=>∃x y M Q,Den K H x v/\Den K H y u/\RelM K M H/\r x y M Q/\Back K H Q Q2
def GC(K:Ko)(r:D->MH->VK3->Prop):V->Hp->VK->Prop:=λv H Q2=>∃x M Q,Den K H x v/\RelM K M H/\r x M Q/\Back K H Q Q2
def FZ(K:Ko)(r:List D->MH->VK3->Prop):List V->Hp->VK->Prop:=λvs H Q2=>∃xs M Q,DenL K H xs vs/\RelM K M H/\r xs M Q/\Back K H Q Q2
section
variable {X:Cx}
theorem VO.op{f:Value->Value->Sem Value}{r:D->D->MH->VK3->Prop}(h:VO X f r):OpR X f (FT X.K r):=λa_ s Z H v u v2 u2 Q2 I rv ru ⟨x,y,M,Q,dx,dy,rm,q,b_⟩=>h a_ s Z H x y v u v2 u2 M Q Q2 I rv ru dx dy rm q b_
theorem VU.op{f:Value->Sem Value}{r:D->MH->VK3->Prop}(h:VU X f r):UnR X f (GC X.K r):=λa_ s Z H v v2 Q2 I rv ⟨x,M,Q,dx,rm,q,b_⟩=>h a_ s Z H x v v2 M Q Q2 I rv dx rm q b_
theorem VC.op{f:Value}{r:List D->MH->VK3->Prop}(h:VC X f r):CallR X f (FZ X.K r):=λa_ s Z H vs us Q2 I rv ⟨xs,M,Q,dx,rm,q,b_⟩=>h a_ s Z H xs vs us M Q Q2 I rv dx rm q b_
end
section
variable {K:Ko}
theorem qg{ta tb:St3->MH->VK3->XN->Prop}{R3:D->D->MH->Prop}{R2:V->V->Hp->Prop}(rm:RelM K M H)(ds:DenS K H h_ Z)(lk:LkE K cls H E3 (E2 Z))
  (h:ta h_ M (λx M1=>tb h_ M1 (λy M2=>R3 x y M2) E3) E3) (k:∀v u H' x y M',Den K H' x v->Den K H' y u->RelM K M' H'->TM K H H'->R3 x y M'->R2 v u H') :
  low K cls E2 ta Z H λv H1=>low K cls E2 tb Z H1 λu H2=>R2 v u H2:=
 ⟨h_,M,_,E3,rm,ds,lk,h,λv H1 x M1 dv n_ t1 h1=>⟨h_,M1,_,E3,n_,ds.mono t1,lk.mono t1,h1,λu H2 y M2 du Kt t2 h2=>k v u H2 x y M2 (dv.mono t2) du Kt (t1.trans t2) h2⟩⟩
theorem aY{ta:St3->MH->VK3->XN->Prop}{R3:VK3}{R2:VK}(rm:RelM K M H)(ds:DenS K H h_ Z)(lk:LkE K cls H E3 (E2 Z))(h:ta h_ M R3 E3)(k:∀v H' x M',Den K H' x v->RelM K M' H'->TM K H H'->R3 x M'->R2 v H') :
  low K cls E2 ta Z H R2:=⟨h_,M,R3,E3,rm,ds,lk,h,k⟩
end
section
variable {X:Cx}{cls:Nat->Addr}{E2:St->XK}{a b c e:Expr}{ta tb tc te:St3->MH->VK3->XN->Prop}{pos:Pos}
theorem Dy{i:Nat}{x:Str}(hN:X.N[i]?=some x)(hv:Vis X.env.scope x)(hd:(x == ("__debug__" : Str))=false)(MB:(x == ("__classdict__" : Str))=false) :
  PE X (.Name x pos) (low X.K cls E2 λZ M Q _=>match Z[i]? with|some (some d)=>Q d M|_=>False):=
 (AY hN hv hd MB).imp λZ H Q2 k_=>ex9 k_ λh_ M Q E3 rm ds lk h b_=>by
  split at h
  ·rename_i d e;obtain⟨v,e1,e2⟩:=ds.2 i d e;exact⟨v,e1,b_ _ _ _ _ e2 rm (.refl _) h⟩
  ·exact h.elim
theorem pK{v:V}{d:D}(h:PE X e (tC v))(hd:∀H,Den X.K H d v):PE X e (low X.K cls E2 λ_ M Q _=>Q d M):=
 h.imp λZ H Q2 k_=>ex9 k_ λh_ M Q E3 rm ds lk h b_=>b_ _ _ _ _ (hd H) rm (.refl _) h
theorem CS{op:Operator}{r:D->D->MH->VK3->Prop}(ho:VO X (binaryOp op) r)(ha:PE X a (low X.K cls E2 ta))(hb:PE X b (low X.K cls E2 tb)) :
  PE X (.BinOp a op b pos) (low X.K cls E2 λZ M Q E=>ta Z M (λx M1=>tb Z M1 (λy M2=>r x y M2 Q) E) E):=
 (EL ho.op ha hb).imp λZ H Q2 k_=>ex9 k_ λh_ M Q E3 rm ds lk h b_=>qg rm ds lk h λv u H' x y M' dx dy q_ t q=>⟨x,y,M',Q,dx,dy,q_,q,b_.mono t⟩
theorem Gj{op:UnaryOp}{r:D->MH->VK3->Prop}(ho:VU X (unaryOp op) r)(ha:PE X a (low X.K cls E2 ta)) :
  PE X (.UnaryOp op a pos) (low X.K cls E2 λZ M Q E=>ta Z M (λx M1=>r x M1 Q) E):=
 (DB ho.op ha).imp λZ H Q2 k_=>ex9 k_ λh_ M Q E3 rm ds lk h b_=>aY rm ds lk h λv H' x M' dx q_ t q=>⟨x,M',Q,dx,q_,q,b_.mono t⟩
theorem Eh{op:CmpOp}{r:D->D->MH->VK3->Prop}(ho:VO X (compareOp op) r)(ha:PE X a (low X.K cls E2 ta))(hb:PE X b (low X.K cls E2 tb))(hm:behindInMarks op b=false) :
  PE X (.Compare a [op] [b] pos) (low X.K cls E2 λZ M Q E=>ta Z M (λx M1=>tb Z M1 (λy M2=>r x y M2 Q) E) E):=
 (yC ho.op ha hb hm).imp λZ H Q2 k_=>ex9 k_ λh_ M Q E3 rm ds lk h b_=>qg rm ds lk h λv u H' x y M' dx dy q_ t q=>⟨x,y,M',Q,dx,dy,q_,q,b_.mono t⟩
abbrev boolQ(Q:Bool->MH->Prop):VK3:=λr M=>match r with
 |.bl k=>Q k M
 |_=>False
theorem iU{K:Ko}{H:Hp}{Q:Bool->MH->Prop}{Q2:Bool->Hp->Prop}(k:∀b H' M',RelM K M' H'->TM K H H'->Q b M'->Q2 b H'):Back K H (boolQ Q) λx H1=>∃k,x=.bl k/\Q2 k H1:=λv H' d M' dv rm t q=>by
 unfold boolQ at q;split at q
 ·exact⟨_,dv,k _ _ _ rm t q⟩
 ·exact q.elim
theorem DS{op:CmpOp}{r:D->D->MH->VK3->Prop}(ho:VO X (compareOp op) r)(ha:PE X a (low X.K cls E2 ta))(hb:PE X b (low X.K cls E2 tb))(hm:behindInMarks op b=false) :
  PT X (.Compare a [op] [b] pos) (cj X.K cls E2 λZ M Q E=>ta Z M (λx M1=>tb Z M1 (λy M2=>r x y M2 (boolQ Q)) E) E):=
 (xB ho.op ha hb hm).imp λZ H Q2 k_=>ex9 k_ λh_ M Q E3 rm ds lk h b_=>qg rm ds lk h λv u H' x y M' dx dy q_ t q=>⟨x,y,M',_,dx,dy,q_,q,(iU b_).mono t⟩
theorem EN(ha:PE X a (low X.K cls E2 ta))(he:∀whole,isTrue a X.env whole=(do let v<-whole;standAt a.pos;holding [v] (truthy v))):PT X a (cj X.K cls E2 λZ M Q E=>ta Z M (boolQ Q) E):=
 (Bw ha he).imp λZ H Q2 k_=>ex9 k_ λh_ M Q E3 rm ds lk h b_=>aY rm ds lk h λv H' x M' dx q_ t q=>iU b_ v H' x M' dx q_ t q
variable {tA tB:St3->MH->(Bool->MH->Prop)->XN->Prop}{aT:List Expr}
theorem jh{K:Ko}{Z:St}{H:Hp}{h_:St3}{M:MH}{E3:XN}{R3:Bool->MH->Prop}{R2:Bool->Hp->Prop}(rm:RelM K M H)(ds:DenS K H h_ Z)(lk:LkE K cls H E3 (E2 Z))(h:tA h_ M R3 E3)(k:∀b H' M',RelM K M' H'->TM K H H'->R3 b M'->R2 b H') :
  cj K cls E2 tA Z H R2:=⟨h_,M,R3,E3,rm,ds,lk,h,k⟩
theorem rN(ha:PT X a (cj X.K cls E2 tA)):PW X (.BoolOp .And [a] pos) (cj X.K cls E2 tA):=yc ha
theorem uK(ha:PT X a (cj X.K cls E2 tA)):PW X (.BoolOp .Or [a] pos) (cj X.K cls E2 tA):=Bq ha
theorem sj(ha:PT X a (cj X.K cls E2 tA))(hb:PW X (.BoolOp .And (b::aT) pos) (cj X.K cls E2 tB)) :
  PW X (.BoolOp .And (a::b::aT) pos) (cj X.K cls E2 λZ M Q E=>tA Z M (λc M1=>if c=true then tB Z M1 Q E else Q false M1) E):=
 (At ha hb).imp λZ H Q2 k_=>ex9 k_ λh_ M Q E3 rm ds lk h b_=>jh rm ds lk h λc H' M' q_ t q=>by
  cases c with
  |true=>rw[Jr rfl]at q ⊢;exact jh q_ (ds.mono t) (lk.mono t) q λb H2 M2 r2 t2 q2=>b_ b H2 M2 r2 (t.trans t2) q2
  |false=>rw[Ji JN]at q ⊢;exact b_ _ _ _ q_ t q
theorem yD(ha:PT X a (cj X.K cls E2 tA))(hb:PW X (.BoolOp .Or (b::aT) pos) (cj X.K cls E2 tB)) :
  PW X (.BoolOp .Or (a::b::aT) pos) (cj X.K cls E2 λZ M Q E=>tA Z M (λc M1=>if c=true then Q true M1 else tB Z M1 Q E) E):=
 (DU ha hb).imp λZ H Q2 k_=>ex9 k_ λh_ M Q E3 rm ds lk h b_=>jh rm ds lk h λc H' M' q_ t q=>by
  cases c with
  |true=>rw[Jr rfl]at q ⊢;exact b_ _ _ _ q_ t q
  |false=>rw[Ji JN]at q ⊢;exact jh q_ (ds.mono t) (lk.mono t) q λb H2 M2 r2 t2 q2=>b_ b H2 M2 r2 (t.trans t2) q2
theorem CM(ha:PT X a (cj X.K cls E2 tA)):PT X (.UnaryOp .Not a pos) (cj X.K cls E2 λZ M Q E=>tA Z M (λc M1=>Q (!c) M1) E):=
 (AH ha).imp λZ H Q2 k_=>ex9 k_ λh_ M Q E3 rm ds lk h b_=>jh rm ds lk h λc H' M' q_ t q=>b_ _ _ _ q_ t q
theorem zF(ha:PE X a (low X.K cls E2 ta))(hb:PE X (.BoolOp .And (b::aT) pos) (low X.K cls E2 tb)) :
  PE X (.BoolOp .And (a::b::aT) pos) (low X.K cls E2 λZ M Q E=>ta Z M (λx M1=>match x with|.bl c=>if c=true then tb Z M1 Q E else Q (.bl false) M1|_=>False) E):=
 (Co ha hb).imp λZ H Q2 k_=>ex9 k_ λh_ M Q E3 rm ds lk h b_=>aY rm ds lk h λv H' x M' dx q_ t q=>by
  split at q
  ·rename_i c;cases (show v=.bl c from dx);refine⟨c,rfl,?_⟩;cases c with
   |true=>rw[Jr rfl]at q ⊢;exact aY q_ (ds.mono t) (lk.mono t) q λv2 H2 x2 M2 d2 r2 t2 q2=>b_ v2 H2 x2 M2 d2 r2 (t.trans t2) q2
   |false=>rw[Ji JN]at q ⊢;exact b_ _ _ _ _ cv q_ t q
  ·exact q.elim
theorem ET(ha:PE X a (low X.K cls E2 ta))(hb:PE X (.BoolOp .Or (b::aT) pos) (low X.K cls E2 tb)) :
  PE X (.BoolOp .Or (a::b::aT) pos) (low X.K cls E2 λZ M Q E=>ta Z M (λx M1=>match x with|.bl c=>if c=true then Q (.bl true) M1 else tb Z M1 Q E|_=>False) E):=
 (EH ha hb).imp λZ H Q2 k_=>ex9 k_ λh_ M Q E3 rm ds lk h b_=>aY rm ds lk h λv H' x M' dx q_ t q=>by
  split at q
  ·rename_i c;cases (show v=.bl c from dx);refine⟨c,rfl,?_⟩;cases c with
   |true=>rw[Jr rfl]at q ⊢;exact b_ _ _ _ _ cv q_ t q
   |false=>rw[Ji JN]at q ⊢;exact aY q_ (ds.mono t) (lk.mono t) q λv2 H2 x2 M2 d2 r2 t2 q2=>b_ v2 H2 x2 M2 d2 r2 (t.trans t2) q2
  ·exact q.elim
theorem C8(ha:PE X a (low X.K cls E2 ta)):PE X (.UnaryOp .Not a pos) (low X.K cls E2 λZ M Q E=>ta Z M (λx M1=>match x with|.bl c=>Q (.bl (!c)) M1|_=>False) E):=
 (BX ha).imp λZ H Q2 k_=>ex9 k_ λh_ M Q E3 rm ds lk h b_=>aY rm ds lk h λv H' x M' dx q_ t q=>by
  split at q
  ·rename_i c;cases (show v=.bl c from dx);exact⟨c,rfl,b_ _ _ _ _ cv q_ t q⟩
  ·exact q.elim
theorem Ge(hc:PT X c (cj X.K cls E2 tA))(ha:PE X a (low X.K cls E2 ta))(hb:PE X b (low X.K cls E2 tb)) :
  PE X (.IfExp c a b pos) (low X.K cls E2 λZ M Q E=>tA Z M (λk M1=>if k=true then ta Z M1 Q E else tb Z M1 Q E) E):=
 (wQ hc ha hb).imp λZ H Q2 k_=>ex9 k_ λh_ M Q E3 rm ds lk h b_=>jh rm ds lk h λk H' M' q_ t q=>by
  cases k with
  |true=>rw[Jr rfl]at q ⊢;exact aY q_ (ds.mono t) (lk.mono t) q λv2 H2 x2 M2 d2 r2 t2 q2=>b_ v2 H2 x2 M2 d2 r2 (t.trans t2) q2
  |false=>rw[Ji JN]at q ⊢;exact aY q_ (ds.mono t) (lk.mono t) q λv2 H2 x2 M2 d2 r2 t2 q2=>b_ v2 H2 x2 M2 d2 r2 (t.trans t2) q2
theorem xG{op K8:CmpOp}{r r':D->D->MH->VK3->Prop}(ho:VO X (compareOp op) r)(Lx:VO X (compareOp K8) r')(ha:PE X a (low X.K cls E2 ta))(hb:PE X b (low X.K cls E2 tb))(hc:PE X c (low X.K cls E2 tc))(hm:lastMarks [op,K8] [b,c]=false) :
  PE X (.Compare a [op,K8] [b,c] pos) (low X.K cls E2 λZ M Q E=>ta Z M (λx M1=>tb Z M1 (λy M2=>r x y M2 λz M3=>match z with
   |.bl k=>if k=true then tc Z M3 (λz M4=>r' y z M4 Q) E else Q (.bl false) M3
   |_=>False) E) E):=
 (vh ho.op Lx.op ha hb hc hm).imp λZ H Q2 k_=>ex9 k_ λh_ M Q E3 rm ds lk h b_=>qg rm ds lk h λv u H' x y M' dx dy q_ t q=>⟨x,y,M',_,dx,dy,q_,q,λw H1 z M1 dz n_ t1 q1=>by
  split at q1
  ·rename_i k;refine⟨k,dz,?_⟩;cases k with
   |true=>rw[Jr rfl]at q1 ⊢;exact aY n_ ((ds.mono t).mono t1) ((lk.mono t).mono t1) q1 λv2 H2 x2 M2 d2 r2 t2 q2=>⟨y,x2,M2,Q,(dy.mono t1).mono t2,d2,r2,q2,(b_.mono t).mono (t1.trans t2)⟩
   |false=>rw[Ji JN]at q1 ⊢;exact b_ _ _ _ _ cv n_ (t.trans t1) q1
  ·exact q1.elim⟩
theorem yu{op K8:CmpOp}{r r':D->D->MH->VK3->Prop}(ho:VO X (compareOp op) r)(Lx:VO X (compareOp K8) r')(ha:PE X a (low X.K cls E2 ta))(hb:PE X b (low X.K cls E2 tb))(hc:PE X c (low X.K cls E2 tc))(hm:lastMarks [op,K8] [b,c]=false) :
  PT X (.Compare a [op,K8] [b,c] pos) (cj X.K cls E2 λZ M Q E=>ta Z M (λx M1=>tb Z M1 (λy M2=>r x y M2 λz M3=>match z with
   |.bl k=>if k=true then tc Z M3 (λz M4=>r' y z M4 (boolQ Q)) E else Q false M3
   |_=>False) E) E):=
 (wS ho.op Lx.op ha hb hc hm).imp λZ H Q2 k_=>ex9 k_ λh_ M Q E3 rm ds lk h b_=>qg rm ds lk h λv u H' x y M' dx dy q_ t q=>⟨x,y,M',_,dx,dy,q_,q,λw H1 z M1 dz n_ t1 q1=>by
  split at q1
  ·rename_i k;refine⟨k,dz,?_⟩;cases k with
   |true=>rw[Jr rfl]at q1 ⊢;exact aY n_ ((ds.mono t).mono t1) ((lk.mono t).mono t1) q1 λv2 H2 x2 M2 d2 r2 t2 q2=>⟨y,x2,M2,_,(dy.mono t1).mono t2,d2,r2,q2,((iU b_).mono t).mono (t1.trans t2)⟩
   |false=>rw[Ji JN]at q1 ⊢;exact⟨false,rfl,b_ _ _ _ n_ (t.trans t1) q1⟩
  ·exact q1.elim⟩
variable {es:List Expr}{tr:St3->MH->(List D->MH->Prop)->XN->Prop}
theorem fM{K:Ko}{Z:St}{H:Hp}{h_:St3}{M:MH}{E3:XN}{R3:List D->MH->Prop}{R2:List V->Hp->Prop}(rm:RelM K M H)(ds:DenS K H h_ Z)(lk:LkE K cls H E3 (E2 Z))(h:tr h_ M R3 E3)(k:∀vs H' xs M',DenL K H' xs vs->RelM K M' H'->TM K H H'->R3 xs M'->R2 vs H') :
  eF K cls E2 tr Z H R2:=⟨h_,M,R3,E3,rm,ds,lk,h,k⟩
theorem Ec:PA X [] (eF X.K cls E2 λ_ M Q _=>Q [] M):=pa_nil.imp λZ H Q2 k_=>ex9 k_ λh_ M Q E3 rm ds lk h b_=>b_ _ _ _ _ .nil rm (.refl _) h
theorem BQ(ha:PE X e (low X.K cls E2 te))(hr:PA X es (eF X.K cls E2 tr))(hs:starEach (e::es) X.env=(false,eval e X.env)::starEach es X.env) :
  PA X (e::es) (eF X.K cls E2 λZ M Q E=>te Z M (λx M1=>tr Z M1 (λxs M2=>Q (x::xs) M2) E) E):=
 (bV ha hr hs).imp λZ H Q2 k_=>ex9 k_ λh_ M Q E3 rm ds lk h b_=>aY rm ds lk h λv H1 x M1 dx n_ t1 q1=>fM n_ (ds.mono t1) (lk.mono t1) q1 λvs H2 xs M2 dl Kt t2 q2=>b_ _ _ _ _ (.cons (dx.mono t2) dl) Kt (t1.trans t2) q2
theorem DM{x1}(h:PA X es (eF X.K cls E2 tr)):PE X (.Tuple es x1 pos) (low X.K cls E2 λZ M Q E=>tr Z M (λxs M1=>xs.length<=sizeLine/\Q (.tup xs) M1) E):=
 (Bx h).imp λZ H Q2 k_=>ex9 k_ λh_ M Q E3 rm ds lk h b_=>fM rm ds lk h λvs H' xs M' dl q_ t ⟨z,q⟩=>⟨by rw[<-dl.length];exact z,λp hp=>
  b_ _ _ _ _ (mJ (.of ah) (dl.mono (.new hp))) (q_.grow hp) (t.trans (.new hp)) q⟩
theorem DE{t2:TE}(h:PE X e t2){t:St3->MH->VK3->XN->Prop}{fz:Bool}
  (f:∀Z H h_ M Q E3 (R2:VK),RelM X.K M H->DenS X.K H h_ Z->LkE X.K cls H E3 (E2 Z)->t h_ M Q E3->(∀H' vs ds M' p,H' p=none->DenL X.K H' ds vs->RelM X.K M' H'->TM X.K H H'->gk fz ds M' Q->R2 (.ref p) (upd H' p (.lst vs)))->t2 Z H R2):PE X e (low X.K cls E2 t):=by
 refine λa_ s Z H Q2 I k_=>ex9 k_ λh_ M Q E3 rm ds lk q b_=>?_
 refine thn (h a_ s Z H (λv H1=>∃p H' vs ds M',v=.ref p/\H1=upd H' p (.lst vs)/\H' p=none/\DenL X.K H' ds vs/\RelM X.K M' H'/\TM X.K H H'/\gk fz ds M' Q) I
  (f Z H h_ M Q E3 _ rm ds lk q λH' vs ds M' p hp dl q_ t' n=>⟨p,H',vs,ds,M',rfl,rfl,hp,dl,q_,t',n⟩)) λu s1 ⟨v,H1,I1,r1,p,H',vs,F_,M',e1,e2,hp,dl,q_,t',n⟩=>?_
 subst e1;subst e2;cases r1;exact dE I1 hp dl q_ t' n b_
theorem Ej(h:PA X es (eF X.K cls E2 tr)):PE X (.List es pos) (low X.K cls E2 λZ M Q E=>tr Z M (λxs M1=>gk fz xs M1 Q) E):=
 DE (BR h) λZ H h_ M Q E3 R2 rm ds lk q k=>fM rm ds lk q λvs H' xs M' dl q_ t n=>⟨by rw[<-dl.length];exact n.1,λp hp=>k H' vs xs M' p hp dl q_ t n⟩
theorem Ax(hu:X.A.units+64<cLine):IxR X (λv u H Q2=>∃x y M Q,Den X.K H x v/\Den X.K H y u/\RelM X.K M H/\ao x y M Q/\Back X.K H Q Q2):=by
 intro value K5 a_ s Z H v u v2 u2 Q2 I rv ru ⟨x,y,M,Q,dx,dy,rm,q,b_⟩ hs;unfold ao at q;split at q
 ·rename_i es e;split at q
  ·rename_i i;cases (show u=.int i from dy);split at q
   ·rename_i d e2;obtain⟨p,vs,rfl,hq,dl⟩:=iE rm e dx;obtain⟨w,e4,e5⟩:=yr dl e2;refine Ch value K5 a_ s Z H _ _ v2 u2 Q2 I rv ru ?_ hs;rcases hq with hq|hq
    ·exact .inl ⟨p,vs,i,w,rfl,rfl,hq,e4,b_ _ _ _ _ e5 rm (.refl _) q⟩
    ·exact .inr (.inl ⟨p,vs,i,w,rfl,rfl,hq,e4,b_ _ _ _ _ e5 rm (.refl _) q⟩)
   ·exact q.elim
  ·exact q.elim
 ·split at q
  ·rename_i d e;obtain⟨a,ov,rfl,g,od⟩:=gT e rm dx dy;cases rv;cases ov with
   |none=>exact od.elim
   |some w=>exact tail_any (g.isDict I) PySem.F.slot_dict_getitem.lookup (tO (by omega) I g rfl ru λw' s' I' KO=>⟨w,H,I',KO,b_ _ _ _ _ od rm (.refl _) q⟩) hs
  ·exact q.elim
  ·exact q.elim
theorem Hf(hu:X.A.units+64<cLine)(ha:PE X a (low X.K cls E2 ta))(hb:PE X b (low X.K cls E2 tb))(hs:mF b):PE X (.Subscript a b pos) (low X.K cls E2 λZ M Q E=>ta Z M (λx M1=>tb Z M1 (λy M2=>ao x y M2 Q) E) E):=
 (DW (Ax hu) ha hb hs).imp λZ H Q2 k_=>ex9 k_ λh_ M Q E3 rm ds lk h b_=>qg rm ds lk h λv u H' x y M' dx dy q_ t q=>⟨x,y,M',Q,dx,dy,q_,q,b_.mono t⟩
variable {lo hi:Option Expr}{tl th:St3->MH->(Option Int->MH->Prop)->XN->Prop}{p2:Pos}
theorem G4:PO X none (t7 X.K cls E2 λ_ M Q _=>Q none M):=po_none.imp λZ H Q2 k_=>ex9 k_ λh_ M Q E3 rm ds lk h b_=>b_ _ _ _ rm (.refl _) h
theorem D9(h:PE X e (low X.K cls E2 te)):PO X (some e) (t7 X.K cls E2 λZ M Q E=>te Z M (λx M1=>match x with|.int i=>Q (some i) M1|_=>False) E):=
 (xC h).imp λZ H Q2 k_=>ex9 k_ λh_ M Q E3 rm ds lk h b_=>aY rm ds lk h λv H1 x M1 dx n_ t1 q1=>by
  split at q1
  ·exact⟨_,dx,b_ _ _ _ n_ t1 q1⟩
  ·exact q1.elim
theorem zJ{t:St3->MH->(Option Int->MH->Prop)->XN->Prop}{K:Ko}{Z:St}{H:Hp}{h_:St3}{M:MH}{E3:XN}{R3:Option Int->MH->Prop}{R2:Option Int->Hp->Prop}(rm:RelM K M H)(ds:DenS K H h_ Z)(lk:LkE K cls H E3 (E2 Z))(h:t h_ M R3 E3)(k:∀o H' M',RelM K M' H'->TM K H H'->R3 o M'->R2 o H') :
  t7 K cls E2 t Z H R2:=⟨h_,M,R3,E3,rm,ds,lk,h,k⟩
theorem Es(ha:PE X a (low X.K cls E2 ta))(hb:PE X b (low X.K cls E2 tb)) :
  PE X (.BinOp a .Add b pos) (low X.K cls E2 λZ M Q E=>ta Z M (λx M1=>tb Z M1 (λy M2=>jQ fz x y M2 Q) E) E):=CS (Ce fz) ha hb
theorem C7(h:PE X e (low X.K cls E2 te)):PE X e (low X.K cls E2 λZ M Q E=>te Z M (bb Q) E):=by
 refine λa_ s Z H Q2 I k_=>ex9 k_ λh_ M Q E3 rm ds lk q b_=>?_
 refine thn (h a_ s Z H (λv H1=>∃d M1,Den X.K H1 d v/\RelM X.K M1 H1/\TM X.K H H1/\bb Q d M1) I ⟨h_,M,_,E3,rm,ds,lk,q,λv H' d M' a b c e=>⟨d,M',a,b,c,e⟩⟩) λu s1 z_=>?_
 obtain⟨v,H1,I1,r1,d,M1,dv,n_,t1,q1⟩:=z_;obtain⟨H2,M2,d2,I2,t2,Kt,MD,q2⟩:=jy I1 n_ dv q1;exact⟨v,H2,I2,r1,b_ _ _ _ _ MD Kt (t1.trans t2) q2⟩
theorem Aa(h:PE X e (low X.K cls E2 te)):PE X e (low X.K cls E2 λZ M Q E=>te Z M (jL Q) E):=by
 refine λa_ s Z H Q2 I k_=>ex9 k_ λh_ M Q E3 rm ds lk q b_=>?_
 refine thn (h a_ s Z H (λv H1=>∃d M1,Den X.K H1 d v/\RelM X.K M1 H1/\TM X.K H H1/\jL Q d M1) I ⟨h_,M,_,E3,rm,ds,lk,q,λv H' d M' a b c e=>⟨d,M',a,b,c,e⟩⟩) λu s1 z_=>?_
 obtain⟨v,H1,I1,r1,d,M1,dv,n_,t1,q1⟩:=z_;have q1:bb Q d M1:=by
  unfold jL at q1;split at q1
  ·split at q1
   ·rename_i a F_ e;simp only[bb,e];exact q1
   ·exact q1.elim
  ·exact q1.elim
 obtain⟨H2,M2,d2,I2,t2,Kt,MD,q2⟩:=jy I1 n_ dv q1;exact⟨v,H2,I2,r1,b_ _ _ _ _ MD Kt (t1.trans t2) q2⟩
end
theorem wz{K:Ko}(h:CX1 P w outer H s (λc d H'=>TM K H H'->E c d H') e s'):CX1 P w outer H s E e s':=by
 obtain⟨a,cls,B,H',dx,h1,h2,h3,un,j_,fl,ha,N_,he⟩:=h;exact⟨a,cls,B,H',dx,h1,h2,h3,un,j_,fl,ha,N_,he (.un un.KW un.KP)⟩
section
variable {X:Cx}{cls:Nat->Addr}{E2:St->XK}{k:Nat}{f:Addr}{fd:FuncData}{ps:List Str}{x:Str}{p pos:Pos}{e:Expr}{es:List Expr}{tr:St3->MH->(List D->MH->Prop)->XN->Prop}{t3:List D->MH->VK3->XN->Prop}
noncomputable def spX(K:Ko)(cls:Nat->Addr)(t3:List D->MH->VK3->XN->Prop):Sp:=λvs H Q E=>∃ds M Q3 E3,DenL K H ds vs/\RelM K M H/\t3 ds M Q3 E3/\Back K H Q3 Q/\LkE K cls H E3 E
def BdT(K:Ko)(cls:Nat->Addr)(fd:FuncData)(ps:List Str)(t3:List D->MH->VK3->XN->Prop)(sp:Sp):Prop:=∀vs H Q E,spX K cls t3 vs H Q E->∃ND ds,Vals ND ds/\Binds K fd ps ds/\sp (vs++ND) H Q E
theorem gP(F:FnOk X.prog X.w X.K X.mg X.base (CX1 X.prog X.w) k f fd ps sp)(hr:Room k X.A)(hb:BdT X.K cls fd ps t3 sp)(hx:bF (CX1 X.prog X.w) X E2)
  (I:Inv X a_ Z H s)(r:Vals vs us) (h:spX X.K cls t3 vs H Q (λc d H'=>TM X.K H H'->E2 Z c d H')):wpAny (model X.prog X.w) X.A (call (.ref f) us) (EP X a_ Z Q) X.xe s:=by
 obtain⟨ND,NG,hv,bd,h'⟩:=hb _ _ _ _ h;have r2:Vals (vs++ND) (us++NG):=r.append hv;have hl:(us++NG).length=ps.length:=by rw[<-r2.length];exact F.len _ _ _ _ h'
 refine wpAny_call (codeAny_mono (F.run X.A X.stack s H ⟨us,[]⟩ (us++NG) (vs++ND) Q _ hr I.env0 (bd s us I.kIn hl) r2 h') λz s' hq=>?_)
 match z,hq with
 |.error e,hq=>exact hx a_ Z H s e s' I (wz hq)
 |.ok (.ret u),hq=>exact I.after hq
 |.ok .next,hq=>exact hq.elim
 |.ok .brk,hq=>exact hq.elim
 |.ok .cont,hq=>exact hq.elim
theorem jW{Z:St}{H:Hp}{xs:List D}{vs:List V}{M:MH}{Q:VK3}{Q2:VK}{E3:XN}(dl:DenL X.K H xs vs)(rm:RelM X.K M H)(lk:LkE X.K cls H E3 (E2 Z))(q:t3 xs M Q E3)(b_:Back X.K H Q Q2) :
  spX X.K cls t3 vs H Q2 (λc d H'=>TM X.K H H'->E2 Z c d H'):=
 ⟨xs,M,Q,E3,dl,rm,q,b_,λi M' H' t q_ q dx xd _=>lk i M' H' t q_ q dx xd⟩
theorem BZ(F:FnOk X.prog X.w X.K X.mg X.base (CX1 X.prog X.w) k f fd ps sp)(hr:Room k X.A)(hg:Gl X x)(hm:X.mg x=some (.ref f))(hk:PySem.W.keepIn X.K (.ref f)=true)(hb:BdT X.K cls fd ps t3 sp)(hx:bF (CX1 X.prog X.w) X E2)
  (ha:PA X (e::es) (eF X.K cls E2 tr)) (Ld:(x == ("__debug__" : Str))=false) (he:starEach (e::es) X.env=(false,eval e X.env)::starEach es X.env) (KY:(backTo pos (starEach es X.env)).any (·.1)=false) :
  PE X (.Call (.Name x p) (e::es) [] pos) (low X.K cls E2 λZ M Q E=>tr Z M (λxs M1=>t3 xs M1 Q E) E):=λa_ s Z H Q2 I k_=>ex9 k_ λh_ M Q E3 rm ds lk h b_=>
 wpAny_Call_Name_kw (ig I hg hm (PySem.W.callWith_K I.ok.mod.kin hk (thn (ha pos a_ s Z H _ I (fM rm ds lk h
  λvs H1 xs M1 dl n_ t1 q1=>jW dl n_ (lk.mono t1) q1 (b_.mono t1))) λus s1 ⟨vs,H1,I1,r,q⟩=>⟨I1.kIn,gP F hr hb hx I1 r q⟩) he KY) Ld)
theorem xV(F:FnOk X.prog X.w X.K X.mg X.base (CX1 X.prog X.w) k f fd ps sp)(hr:Room k X.A)(hg:Gl X x)(hm:X.mg x=some (.ref f))(hk:PySem.W.keepIn X.K (.ref f)=true)(hb:BdT X.K cls fd ps t3 sp)(hx:bF (CX1 X.prog X.w) X E2)(Ld:(x == ("__debug__" : Str))=false) :
  PE X (.Call (.Name x p) [] [] pos) (low X.K cls E2 λZ M Q E=>t3 [] M Q E):=λa_ s Z H Q2 I k_=>ex9 k_ λh_ M Q E3 rm ds lk h b_=>
 wpAny_Call_Name_kw (ig I hg hm (PySem.W.callWith_K0 I.kIn hk (gP F hr hb hx I .nil (jW .nil rm lk h b_))) Ld)
theorem gO{id:String}(hc:VC X (.builtin id) r)(hg:Gl X x)(hm:X.mg x=none)(hv:bootBuiltins x=some (.builtin id))(ha:PA X (e::es) (eF X.K cls E2 tr))(hn:x≠"__name__")(Ld:(x == ("__debug__" : Str))=false)
  (he:starEach (e::es) X.env=(false,eval e X.env)::starEach es X.env) (KY:(backTo pos (starEach es X.env)).any (·.1)=false):PE X (.Call (.Name x p) (e::es) [] pos) (low X.K cls E2 λZ M Q E=>tr Z M (λxs M1=>r xs M1 Q) E):=
 (jN hc.op hg hm hv ha hn Ld he KY).imp λZ H Q2 k_=>ex9 k_ λh_ M Q E3 rm ds lk h b_=>fM rm ds lk h λvs H1 xs M1 dl n_ t1 q1=>⟨xs,M1,Q,dl,n_,q1,b_.mono t1⟩
theorem xF(hc:VC X (.type T) r)(hg:Gl X x)(hm:X.mg x=none)(hv:bootBuiltins x=some (.type T))(ha:PA X (e::es) (eF X.K cls E2 tr))(hn:x≠"__name__")(Ld:(x == ("__debug__" : Str))=false)
  (he:starEach (e::es) X.env=(false,eval e X.env)::starEach es X.env) (KY:(backTo pos (starEach es X.env)).any (·.1)=false):PE X (.Call (.Name x p) (e::es) [] pos) (low X.K cls E2 λZ M Q E=>tr Z M (λxs M1=>r xs M1 Q) E):=
 (tQ hc.op hg hm hv ha hn Ld he KY).imp λZ H Q2 k_=>ex9 k_ λh_ M Q E3 rm ds lk h b_=>fM rm ds lk h λvs H1 xs M1 dl n_ t1 q1=>⟨xs,M1,Q,dl,n_,q1,b_.mono t1⟩
noncomputable def cq:BT->String
 |.int=>"int"|.bool=>"bool"|.str=>"str"|.tuple=>"tuple"|.list=>"list"|.dict=>"dict"
theorem Am{a_:List (Addr×Obj)}{Z:St}{H:Hp}{s:Shared}{A:Around}{Ex:Value->Shared->Prop}{t:BT}{x:D}{v:V}{v2:Value}{M:MH}{Q:VK3}{Q2:VK}(I:Inv X a_ Z H s)(rv:RelV v v2)(dx:Den X.K H x v)(rm:RelM X.K M H)(q:mP t x M Q)(b_:Back X.K H Q Q2) :
  wpAny (model X.prog X.w) A (call (.builtin "isinstance") [v2,.type (cq t)]) (EP X a_ Z Q2) Ex s:=by
 have fin:∀b,Q (.bl b) M->∀tk,EP X a_ Z Q2 (.bool b) {s with toks:=tk}:=λb q tk=>⟨.bl b,H,I.tok _,rfl,b_ _ _ _ _ cv rm (.refl _) q⟩
 cases x with
 |i_=>cases (show v=.i_ from dx);cases rv;cases t<;>exact PySem.W.kia_one PySem.W.kitx_none I.kIn True.intro rfl (λz=>nomatch z) (fin _ q)
 |bl b=>cases (show v=.bl b from dx);cases rv;cases t<;>exact PySem.W.kia_one PySem.W.kitx_bool I.kIn True.intro rfl (λz=>nomatch z) (fin _ q)
 |int i=>cases (show v=.int i from dx);obtain⟨tk,rfl⟩:=rv;cases t<;>exact PySem.W.kia_one PySem.W.kitx_int I.kIn True.intro rfl (λz=>nomatch z) (fin _ q)
 |str i=>cases (show v=.str i from dx);obtain⟨tk,rfl⟩:=rv;cases t<;>exact PySem.W.kia_one PySem.W.kitx_str I.kIn True.intro rfl (λz=>nomatch z) (fin _ q)
 |tup ds=>
  obtain⟨a,vs,rfl,sq,_⟩:=dx;cases rv;obtain⟨g_,_,tt,_⟩:=I.tuple sq;obtain⟨o,h1,h2,_⟩:=(show s.heap.IsTuple a g_.toArray from tt);cases t<;>exact PySem.W.kia_one PySem.W.kitx_tuple I.kIn ⟨o,h1,h2⟩ rfl (λz=>nomatch z) (fin _ q)
 |f_ ds=>
  obtain⟨a,vs,rfl,sq,_⟩:=dx;cases rv;obtain⟨_,g_,n,_,_,h1⟩:=I.rdL sq.rd;cases t<;>exact PySem.W.kia_one PySem.W.kitx_list I.kIn ⟨_,h1,rfl⟩ rfl (λz=>nomatch z) (fin _ q)
 |ref a=>
  cases (show v=.ref a from dx);cases rv;simp only[mP]at q;split at q
  ·rename_i ds e;obtain⟨vs,e1,_⟩:=rm a _ e;obtain⟨_,g_,n,_,_,h1⟩:=I.rdL (.inl (.inl e1));cases t<;>exact PySem.W.kia_one PySem.W.kitx_list I.kIn ⟨_,h1,rfl⟩ rfl (λz=>nomatch z) (fin _ q)
  ·rename_i ks ds e;obtain⟨vs,e1,_,_⟩:=rm a _ e;obtain⟨_,_,_,_,o,_,_,h1,h2,_⟩:=I.j_ a _ e1;cases t<;>exact PySem.W.kia_one PySem.W.kitx_dict I.kIn ⟨o,h1,h2.1⟩ rfl (λz=>nomatch z) (fin _ q)
  ·rename_i ks ds e;obtain⟨vs,xs,e1,_⟩:=rm a _ e;obtain⟨⟨o,es,ep,h1,h2,_⟩,_⟩:=(show ObjOk X.prog X.w H s.heap a (.ext (ax a xs)) from I.j_ a _ e1);cases t<;>exact PySem.W.kia_one PySem.W.kitx_dict I.kIn ⟨o,h1,h2.1⟩ rfl (λz=>nomatch z) (fin _ q)
  ·exact q.elim
 |LR ks ds=>
  obtain⟨a,vs,ob,rfl,e1,_⟩:=dx;cases rv;obtain⟨_,_,_,ws,_,p⟩:=(show ObjOk X.prog X.w H s.heap a (.u_ ob (.dK (ks.zip vs))) from I.j_ a _ e1);obtain⟨o,es,ep,h1,h2,_⟩:=p;cases t<;>exact PySem.W.kia_one PySem.W.kitx_dict I.kIn ⟨o,h1,h2.1⟩ rfl (λz=>nomatch z) (fin _ q)
 |H_ ks ds=>
  obtain⟨a,vs,ob,xs,rfl,e1,_⟩:=dx;cases rv;obtain⟨_,⟨o,es,ep,h1,h2,_⟩,_⟩:=(show ObjOk X.prog X.w H s.heap a (.u_ ob (.ext (ax a xs))) from I.j_ a _ e1);cases t<;>exact PySem.W.kia_one PySem.W.kitx_dict I.kIn ⟨o,h1,h2.1⟩ rfl (λz=>nomatch z) (fin _ q)
 |obj i C ns ds=>exact (show False from q).elim
theorem Er(ha:PE X e (low X.K cls E2 te))(hg:Gl X "isinstance")(hm:X.mg "isinstance"=none)(Sa:Gl X (cq t))(Pe:X.mg (cq t)=none)(hs:starEach (e::[.Name (cq t) p2]) X.env=(false,eval e X.env)::starEach [.Name (cq t) p2] X.env) :
  PE X (.Call (.Name "isinstance" p) [e,.Name (cq t) p2] [] pos) (low X.K cls E2 λZ M Q E=>te Z M (λx M1=>mP t x M1 Q) E):=by
 have hT:PE X (.Name (cq t) p2) (tC (.ty (cq t))):=by
  cases t<;>exact yM Sa Pe (by decide +kernel) rfl
 have hc:CallR X (.builtin "isinstance") (λvs H Q2=>∃x v M Q,vs=[v,.ty (cq t)]/\Den X.K H x v/\RelM X.K M H/\mP t x M Q/\Back X.K H Q Q2):=by
  refine λa_ s Z H vs us Q2 I r k_=>ex9 k_ λx v M Q e dx rm q b_=>?_
  subst e;obtain⟨u,w,rfl,ru,rw⟩:=Vals.two r;cases (show w=Value.type (cq t) from rw);exact Am I ru dx rm q b_
 refine (jN hc hg hm (by decide +kernel) (bV ha (bV hT pa_nil (by rfl)) hs) (by decide +kernel) (by decide +kernel) hs (by rfl)).imp λZ H Q2 k_=>ex9 k_ λh_ M Q E3 rm ds lk h b_=>?_
 exact aY rm ds lk h λv H1 x M1 dx n_ t1 q1=>⟨x,v,M1,Q,rfl,dx,n_,q1,b_.mono t1⟩
end
section
variable {X:Cx}
theorem CD{K:Ko}(sq:SqT K H0 p vs)(dl:DenL K H0 ds vs):ItOk K H0 (Itt K p) ds (λ_=>True):=by
 refine⟨λi H M t rm s hi=>?_,λi H M x H' t rm s hi y=>?_,λH M t rm s=>?_⟩
 ·have MP:i<vs.length:=by rw[<-dl.length];exact hi
  exact⟨vs,vs[i],t.t _ _ sq,by simp⟩
 ·obtain⟨e,y⟩:=y;subst e;obtain⟨d,e1,e2⟩:=(dl.mono t).get' (y vs (t.t _ _ sq));exact⟨.refl _,rm,d,e1,e2⟩
 ·exact⟨vs,t.t _ _ sq,by rw[dl.length];exact Jn _⟩
theorem BS{K:Ko}(sq:SqF K H0 p vs)(dl:DenL K H0 ds vs):ItOk K H0 (Itl K p) ds (λ_=>True):=by
 refine⟨λi H M t rm s hi=>?_,λi H M x H' t rm s hi y=>?_,λH M t rm s=>?_⟩
 ·have MP:i<vs.length:=by rw[<-dl.length];exact hi
  exact⟨vs,vs[i],(t.f _ _ sq).sq,by simp⟩
 ·obtain⟨e,y⟩:=y;subst e;obtain⟨d,e1,e2⟩:=(dl.mono t).get' (y vs (t.f _ _ sq).sq);exact⟨.refl _,rm,d,e1,e2⟩
 ·exact⟨vs,(t.f _ _ sq).sq,by rw[dl.length];exact Jn _⟩
theorem Af{K:Ko}:ItOk K H0 (Itl K p) ds (λM=>M p=some (.lst ds)):=by
 refine⟨λi H M t rm s hi=>?_,λi H M x H' t rm s hi y=>?_,λH M t rm s=>?_⟩
 ·obtain⟨vs,e,dl⟩:=rm p _ s;have MP:i<vs.length:=by rw[<-dl.length];exact hi
  exact⟨vs,vs[i],.of e,by simp⟩
 ·obtain⟨vs,e,dl⟩:=rm p _ s;obtain⟨e',y⟩:=y;subst e';obtain⟨d,e1,e2⟩:=dl.get' (y vs (.of e));exact⟨.refl _,rm,d,e1,e2⟩
 ·obtain⟨vs,e,dl⟩:=rm p _ s;exact⟨vs,.of e,by rw[dl.length];exact Jn _⟩
theorem mq(I:Inv X a_ Z H s)(hq:SqL X.K H a xs)(q:R (Itl X.K a) H):wpAny (model X.prog X.w) X.A (pyIter (.ref a)) (PIE X a_ Z tg R) Ex s:=by
 obtain⟨g_,rv,p,hz⟩:=I.list hq;refine wpAny_pyIter_list p.isList ?_;refine⟨s.heap.objs.size,[s.heap.objs.size],_,_,H,rfl,I.kept λb o e=>Jj _ e,tz a _,⟨_,Jp _ rfl,rfl,rfl⟩,λb hb=>?_,q⟩
 have e:b=s.heap.objs.size:=by simpa using hb
 subst e;exact I.fpOk (Jn _) (I.j_.fresh (Jn _))
theorem u7(I:Inv X a_ Z H s)(hq:SqT X.K H a xs)(q:R (Itt X.K a) H):wpAny (model X.prog X.w) X.A (pyIter (.ref a)) (PIE X a_ Z tg R) Ex s:=by
 obtain⟨g_,rv,p,hz⟩:=I.tuple hq;refine wpAny_pyIter_tuple (show s.heap.IsTuple a g_.toArray from p) ?_;refine⟨s.heap.objs.size,[s.heap.objs.size],_,_,H,rfl,I.kept λb o e=>Jj _ e,qA a _,⟨_,Jp _ rfl,rfl,rfl⟩,λb hb=>?_,q⟩
 have e:b=s.heap.objs.size:=by simpa using hb
 subst e;exact I.fpOk (Jn _) (I.j_.fresh (Jn _))
theorem Ev(hl:PE X l (low X.K cls E2 te)):PI X tg l (ly X.K cls E2 λZ M R E=>te Z M (λx M1=>match x with
  |.tup ds=>R ds (λ_=>True) M1
  |.f_ ds=>R ds (λ_=>True) M1
  |.ref a=>match M1 a with
   |some (.lst ds)=>R ds (λM=>M a=some (.lst ds)) M1
   |_=>False
  |_=>False) E):=by
 refine λa_ s Z H R2 I k_=>ex9 k_ λh_ M R E3 rm ds lk h k=>?_
 refine thn (hl a_ s Z H _ I ⟨h_,M,_,E3,rm,ds,lk,h,λv H' d M' a b c e=>(⟨d,M',a,b,c,e⟩:(λv H'=>∃d M',Den X.K H' d v/\RelM X.K M' H'/\TM X.K H H'/\(match d with
  |.tup ds=>R ds (λ_=>True) M'
  |.f_ ds=>R ds (λ_=>True) M'
  |.ref a=>match M' a with
   |some (.lst ds)=>R ds (λM=>M a=some (.lst ds)) M'
   |_=>False
  |_=>False)) v H')⟩) λu s1 ⟨v,H1,I1,r1,d,M1,dv,n_,t1,q1⟩=>?_
 split at q1
 ·obtain⟨p,vs,rfl,sq,dl⟩:=dv;cases r1;exact u7 I1 sq (k _ _ _ _ _ (CD sq dl) n_ t1 q1)
 ·obtain⟨p,vs,rfl,sq,dl⟩:=dv;cases r1;exact mq I1 sq.sq (k _ _ _ _ _ (BS sq dl) n_ t1 q1)
 ·rename_i a;cases (show v=.ref a from dv);cases r1;split at q1
  ·rename_i F_ e;obtain⟨vs,e1,dl⟩:=n_ a _ e;exact mq I1 (.of e1) (k _ _ _ _ _ Af n_ t1 q1)
  ·exact q1.elim
 ·exact q1.elim
theorem GN(hg:Gl X "range")(hm:X.mg "range"=none)(ha:PE X a (low X.K cls E2 ta))(hs:starEach [a] X.env=[(false,eval a X.env)]):PI X tg (.Call (.Name "range" p) [a] [] pos) (ly X.K cls E2 λZ M R E=>ta Z M (λx M1=>match x with
  |.int j=>-(2 ^ 62)<=j/\j<2 ^ 62/\R (rng 0 j.toNat) (λ_=>True) M1
  |_=>False) E):=
 (t8 hg hm (bV ha pa_nil hs) hs).imp λZ H R2 k_=>ex9 k_ λh_ M R E3 rm ds lk h k=>aY rm ds lk h λv H1 x M1 dx n_ t1 q1=>by
  split at q1
  ·rename_i j;cases (show v=.int j from dx);exact⟨j,rfl,q1.1,q1.2.1,k _ _ _ _ _ Ag n_ t1 q1.2.2⟩
  ·exact q1.elim
end
section
variable {X:Cx}
end
section
variable {K:Ko}
theorem gw:∀{ns:List Nat}{ds:List D}{vs:List V}{f:Nat}{d:D},DenL K H ds vs->bK f ns ds=some d->∃v,((ns.map fnm).zip vs).lookup (fnm f)=some v/\Den K H d v
 |[],_,_,_,_,_,e=>by simp[bK]at e
 |n::ns,[],_,_,_,_,e=>by simp[bK]at e
 |n::ns,d0::ds,_,f,d,dl,e=>by
  obtain⟨v,r,rfl,dv,dl⟩:=dl;simp only[bK]at e;by_cases z:n=f
  ·rw[Jr z]at e;cases e;subst z;exact⟨v,by simp,dv⟩
  ·rw[Ji z]at e;obtain⟨u,h1,h2⟩:=gw dl e;refine⟨u,?_,h2⟩;have nb:(fnm f == fnm n)=false:=JP.mpr λq=>z (mX q).symm
   simp[List.lookup,nb,h1]
theorem gi:∀{ns:List Nat}{ds:List D}{vs:List V}{f:Nat},DenL K H ds vs->ns.length=vs.length->bK f ns ds=none->((ns.map fnm).zip vs).lookup (fnm f)=none
 |[],_,_,_,_,_,_=>by simp
 |n::ns,[],vs,_,dl,hl,_=>by cases (show vs=[] from dl);cases hl
 |n::ns,d0::ds,_,f,dl,hl,e=>by
  obtain⟨v,r,rfl,dv,dl⟩:=dl;simp only[bK]at e;by_cases z:n=f
  ·rw[Jr z]at e;cases e
  ·rw[Ji z]at e;have h1:=gi dl (by simpa using hl) e
   have nb:(fnm f == fnm n)=false:=JP.mpr λq=>z (mX q).symm
   simp[List.lookup,nb,h1]
theorem pF:∀{ns:List Nat}{ds:List D}{vs:List V}{f:Nat}{y:D}{u:V},DenL K H ds vs->ns.length=vs.length->Den K H y u->
  ∃ws,dD (fnm f) u ((ns.map fnm).zip vs)=((cC f ns).map fnm).zip ws/\(cC f ns).length=ws.length/\DenL K H (cB f y ns ds) ws
 |[],ds,vs,f,y,u,dl,hl,dy=>by
  cases vs with
  |nil=>exact⟨[u],rfl,rfl,by unfold cB;exact .one dy⟩
  |cons _ _=>cases hl
 |n::ns,[],vs,f,y,u,dl,hl,dy=>by cases (show vs=[] from dl);cases hl
 |n::ns,d::ds,_,f,y,u,dl,hl,dy=>by
  obtain⟨v,r,rfl,dv,dl⟩:=dl;have NH:ns.length=r.length:=by simpa using hl
  by_cases z:n=f
  ·subst z;refine⟨u::r,?_,?_,?_⟩
   ·simp[dD,cC]
   ·simp[cC,NH]
   ·simp only[cB];exact .cons dy dl
  ·obtain⟨ws,h1,h2,h3⟩:=pF dl NH dy;have nf:¬ fnm n=fnm f:=λq=>z (mX q)
   refine⟨v::ws,?_,?_,?_⟩
   ·simp only[Jm,List.zip_cons_cons,dD,Ji nf,cC,Ji z];rw[h1]
   ·simp[cC,Ji z,h2]
   ·simp only[cB,Ji z];exact .cons dv h3
end
theorem vq{fs:List (Str×V)}(j_:HOk P w H h)(e:Rd H a (.ins C dx fs)):∃mA,ObjM h a dx C mA/\(∀f,RelO (fs.lookup f) (mA f))/\H dx=some (.own a):=by
 obtain⟨d,z,ne,ob,mA,n,r,q⟩:=(show ObjOk P w H h a (.ins C dx fs) from e.ok j_);exact⟨mA,⟨ob,n,ne⟩,r,d⟩
section
variable {X:Cx}{fs:List (Str×V)}
theorem vJ(I:Inv X a_ Z H s)(e:Rd H a (.ins C dx fs))(c:Cls X.K C)(n:NoAttr X.K C f)(l:fs.lookup f=some v)
  (h:∀u s',Inv X a_ Z H s'->RelV v u->Q u s'):wpAny (model X.prog X.w) A (getAttr (.ref a) f b) Q E s:=by
 obtain⟨mA,O,r,_⟩:=vq I.j_ e;obtain⟨u,hu,ru⟩:=RelO.some_of (by rw[<-l];exact r f)
 exact yW I.kIn O (c.get f) c.hd n hu (sW ru) (h u _ (I.tok _) ru)
theorem oY{m:Str}{g:Addr}{pl:Sem Bool}{Q:Value×List Value->Shared->Prop}(I:Inv X a_ Z H s)(e:Rd H a (.ins C dx fs))(c:Cls X.K C)(k:Meth X.K C m g)(l:fs.lookup m=none)
  (h:Q (.ref g,[.ref a]) s):wpAny (model X.prog X.w) A (getMethod (.ref a) m pl) Q E s:=by
 obtain⟨mA,O,r,_⟩:=vq I.j_ e;have hn:mA m=none:=RelO.none_of (by rw[<-l];exact r m)
 exact wP I.kIn O (c.get m) k.at_ k.fn hn h
end
structure ClsI (K:Ko)(C f:Addr):Prop where
 ga:PySem.W.specialIn K (.ref C) "__getattribute__"=some (some (.builtin "type.__getattribute__"))
 rd:PySem.W.readsIn K C (.type "type")=true
 at_:PySem.W.findCls K (.ref C) (.type "type") "__init__"=some (.val (.ref f))
structure TyI (K:Ko)(C:Addr):Prop where
 ha:PySem.W.findIn K (.ref C) "__class__"=some (some (.builtin "object.__class__"))
 hn:PySem.W.specialIn K (.builtin "object.__class__") "__get__"=some (some (.builtin "getset_descriptor.__get__"))
 R6:PySem.W.takesIn K (.builtin "object.__class__")=some true
 hm:PySem.W.mroIn K C (.type "object")=some true
structure KOk (K:Ko)(B:WB)(e_:Nat->Addr)(i:Nat):Prop where
 cl:Cls K (B.c_ i)
 na:∀f,B.fok i f=true->NoAttr K (B.c_ i) (fnm f)
 mt:∀m f,B.mth i m=some f->Meth K (B.c_ i) (fnm m) (e_ f)
 mkr:∀f,B.ini i=some f->Mk K (B.c_ i) (e_ f)
 ci:∀f,B.ini i=some f->ClsI K (B.c_ i) (e_ f)
 ty:TyI K (B.c_ i)
 is:∀j,j<B.nk->PySem.W.kitOne K (.ref (B.c_ i)) (.ref (B.c_ j))=some (B.ksub i j)
section
variable {X:Cx}{B:WB}
theorem yt{K:Ko}(hk:∀i,i<B.nk->KOk K B e_ i)(dx:Den K H x v)(rm:RelM K M H)(h:dP B f x M Q) :
  ∃a C dx fs u d,v=.ref a/\Rd H a (.ins C dx fs)/\Cls K C/\NoAttr K C (fnm f)/\fs.lookup (fnm f)=some u/\Den K H d u/\Q d M:=by
 unfold dP at h;split at h
 ·rename_i i C ns ds;obtain⟨p,vs,ob,LZ,rfl,e,hl,dl⟩:=dx;obtain⟨⟨rfl,hi,hf⟩,h⟩:=h;unfold oQ at h;split at h
  ·rename_i d q;obtain⟨u,h1,h2⟩:=gw dl q;exact⟨p,_,LZ,_,u,d,rfl,.inr ⟨ob,e⟩,(hk i hi).cl,(hk i hi).na f hf,h1,h2,h⟩
  ·exact h.elim
 ·rename_i a;split at h
  ·rename_i i C ns ds q;obtain⟨LZ,vs,e,hl,dl⟩:=rm a _ q;obtain⟨⟨rfl,hi,hf⟩,h⟩:=h;unfold oQ at h;split at h
   ·rename_i d q;obtain⟨u,h1,h2⟩:=gw dl q;exact⟨a,_,LZ,_,u,d,dx,.inl e,(hk i hi).cl,(hk i hi).na f hf,h1,h2,h⟩
   ·exact h.elim
  ·exact h.elim
 ·exact h.elim
theorem DX(hk:∀i,i<B.nk->KOk X.K B e_ i)(he:PE X e (low X.K cls E2 te))(hb:attributeBase e (fnm f) X.env (eval e X.env)=eval e X.env):PE X (.Attribute e (fnm f) pos) (low X.K cls E2 λZ M Q E=>te Z M (λx M1=>dP B f x M1 Q) E):=by
 refine λa_ s Z H Q2 I k_=>ex9 k_ λh_ M Q E3 rm ds lk h b_=>?_
 refine yh hb (thn (he a_ s Z H (λv H1=>∃x M1,Den X.K H1 x v/\RelM X.K M1 H1/\TM X.K H H1/\dP B f x M1 Q) I ⟨h_,M,_,E3,rm,ds,lk,h,λv H' d M' a b c e=>⟨d,M',a,b,c,e⟩⟩) λu s1 z_=>?_)
 obtain⟨v,H1,I1,r1,x,M1,dx,n_,t1,q1⟩:=z_;obtain⟨a,C,LZ,fs,u',d,rfl,rd,c,n,l,du,q⟩:=yt hk dx n_ q1;obtain rfl:u=Value.ref a:=r1;exact vJ I1 rd c n l λTp s2 I2 ru=>⟨u',H1,I2,ru,b_ _ _ _ _ du n_ t1 q⟩
end
def sR(X:Cx)(cls:Nat->Addr)(k:Nat)(a:Addr)(t3:List D->MH->VK3->XN->Prop):Prop:=∃fd ps sp,PySem.W.keepIn X.K (.ref a)=true/\BdT X.K cls fd ps t3 sp/\FnOk X.prog X.w X.K X.mg X.base (CX1 X.prog X.w) k a fd ps sp
section
variable {X:Cx}{B:WB}{e_:Nat->Addr}{cls:Nat->Addr}{E2:St->XK}{o e:Expr}{es:List Expr}{to te:St3->MH->VK3->XN->Prop}{tr:St3->MH->(List D->MH->Prop)->XN->Prop}{pos o_ p:Pos}{m k:Nat}
 {Mf:Nat->List D->MH->VK3->XN->Prop}
theorem rj{K:Ko}{H:Hp}{x:D}{v:V}{M:MH}{R:Nat->Prop}(hk:∀i,i<B.nk->KOk K B e_ i)(dx:Den K H x v)(rm:RelM K M H)(h:cG B m x M R) :
  ∃a C dx fs f,v=.ref a/\Rd H a (.ins C dx fs)/\Cls K C/\Meth K C (fnm m) (e_ f)/\fs.lookup (fnm m)=none/\(∃i,i<B.nk/\B.mth i m=some f)/\R f:=by
 unfold cG at h;split at h
 ·rename_i i C ns ds;obtain⟨p,vs,ob,LZ,rfl,e,hl,dl⟩:=dx;obtain⟨⟨rfl,hi,hf⟩,h⟩:=h;unfold gu at h;split at h
  ·rename_i f q;exact⟨p,_,LZ,_,f,rfl,.inr ⟨ob,e⟩,(hk i hi).cl,(hk i hi).mt m f q,gi dl hl hf,⟨i,hi,q⟩,h⟩
  ·exact h.elim
 ·rename_i a;split at h
  ·rename_i i C ns ds q;obtain⟨LZ,vs,e,hl,dl⟩:=rm a _ q;obtain⟨⟨rfl,hi,hf⟩,h⟩:=h;unfold gu at h;split at h
   ·rename_i f q;exact⟨a,_,LZ,_,f,dx,.inl e,(hk i hi).cl,(hk i hi).mt m f q,gi dl hl hf,⟨i,hi,q⟩,h⟩
   ·exact h.elim
  ·exact h.elim
 ·exact h.elim
theorem Bn(hk:∀i,i<B.nk->KOk X.K B e_ i)(hf:∀i m f,i<B.nk->B.mth i m=some f->sR X cls k (e_ f) (Mf f))(hr:Room k X.A)(hx:bF (CX1 X.prog X.w) X E2)
  (ho:PE X o (low X.K cls E2 to)) (ha:PA X (e::es) (eF X.K cls E2 tr)) (hb:attributeBase o (fnm m) X.env (eval o X.env)=eval o X.env) (hl:(o_.endLine == pos.line)=true) (hn:(e::es).length<30)
  (he:starEach (e::es) X.env=(false,eval e X.env)::starEach es X.env) (KY:(backTo pos (starEach es X.env)).any (·.1)=false) :
  PE X (.Call (.Attribute o (fnm m) o_) (e::es) [] pos) (low X.K cls E2 λZ M Q E=>to Z M (λx M1=>cG B m x M1 λf=>tr Z M1 (λxs M2=>Mf f (x::xs) M2 Q E) E) E):=by
 refine λa_ s Z H Q2 I k_=>ex9 k_ λh_ M Q E3 rm ds lk h b_=>?_
 have K9:(backTo pos (starEach (e::es) X.env)).any (·.1)=false:=by
  rw[he];show ((false,_)::backTo pos (starEach es X.env)).any (·.1)=false;rw[List.any_cons,KY];rfl
 refine PySem.W.methodCall_KW (thn (ho a_ s Z H (λv H1=>∃x M1,Den X.K H1 x v/\RelM X.K M1 H1/\TM X.K H H1/\cG B m x M1 λf=>tr h_ M1 (λxs M2=>Mf f (x::xs) M2 Q E3) E3) I ⟨h_,M,_,E3,rm,ds,lk,h,λv H' d M' a b c e=>⟨d,M',a,b,c,e⟩⟩) λu s1 ⟨v,H1,I1,r1,x,M1,dx,n_,t1,q1⟩=>?_) (iK hb (jB K9 hn) hl)
 obtain⟨a,C,LZ,fs,f,rfl,rd,c,mt,l,⟨i,hi,Qa⟩,q⟩:=rj hk dx n_ q1;obtain rfl:u=Value.ref a:=r1;obtain⟨fd,ps,sp,kp,bd,F⟩:=hf i m f hi Qa;refine oY I1 rd c mt l ?_;refine PySem.W.callWith_K I.ok.mod.kin mt.kp (thn (ha pos a_ s1 Z H1 _ I1 (fM n_ (ds.mono t1) (lk.mono t1) q
  λvs H2 xs M2 dl Kt t2 q2=>jW (.cons (dx.mono t2) dl) Kt (lk.mono (t1.trans t2)) q2 (b_.mono (t1.trans t2)))) λus s2 ⟨vs,H2,I2,r,q2⟩=>⟨I2.kIn,?_⟩) he KY
 exact gP (vs:=.ref a::vs) F hr bd hx I2 (.cons rfl r) q2
theorem xP(hk:∀i,i<B.nk->KOk X.K B e_ i)(hf:∀i m f,i<B.nk->B.mth i m=some f->sR X cls k (e_ f) (Mf f))(hr:Room k X.A)(hx:bF (CX1 X.prog X.w) X E2)
  (ho:PE X o (low X.K cls E2 to)) (hb:attributeBase o (fnm m) X.env (eval o X.env)=eval o X.env) (hl:(o_.endLine == pos.line)=true) :
  PE X (.Call (.Attribute o (fnm m) o_) [] [] pos) (low X.K cls E2 λZ M Q E=>to Z M (λx M1=>cG B m x M1 λf=>Mf f [x] M1 Q E) E):=by
 refine λa_ s Z H Q2 I k_=>ex9 k_ λh_ M Q E3 rm ds lk h b_=>?_
 refine PySem.W.methodCall_KW (thn (ho a_ s Z H (λv H1=>∃x M1,Den X.K H1 x v/\RelM X.K M1 H1/\TM X.K H H1/\cG B m x M1 λf=>Mf f [x] M1 Q E3) I ⟨h_,M,_,E3,rm,ds,lk,h,λv H' d M' a b c e=>⟨d,M',a,b,c,e⟩⟩) λu s1 ⟨v,H1,I1,r1,x,M1,dx,n_,t1,q1⟩=>?_) (iK hb (jB (by rfl) (by decide)) hl)
 obtain⟨a,C,LZ,fs,f,rfl,rd,c,mt,l,⟨i,hi,Qa⟩,q⟩:=rj hk dx n_ q1;obtain rfl:u=Value.ref a:=r1;obtain⟨fd,ps,sp,kp,bd,F⟩:=hf i m f hi Qa;refine oY I1 rd c mt l ?_;exact PySem.W.callWith_K0 I1.kIn mt.kp (gP (vs:=[.ref a]) F hr bd hx I1 (.cons rfl .nil) (jW (.one dx) n_ (lk.mono t1) q (b_.mono t1)))
theorem Dh{i f:Nat}{x:Str}{px:Pos}(hg:Gl X x)(hm:X.mg x=some (.ref (B.c_ i)))(Ld:(x == ("__debug__" : Str))=false)(ci:ClsI X.K (B.c_ i) (e_ f))(hf:sR X cls k (e_ f) (Mf f))(hr:Room k X.A)(hx:bF (CX1 X.prog X.w) X E2)
  (ha:PA X (e::es) (eF X.K cls E2 tr)) (hl:(o_.endLine == pos.line)=true) (hn:(e::es).length<30)
  (he:starEach (e::es) X.env=(false,eval e X.env)::starEach es X.env) (KY:(backTo pos (starEach es X.env)).any (·.1)=false) :
  PE X (.Call (.Attribute (.Name x px) "__init__" o_) (e::es) [] pos) (low X.K cls E2 λZ M Q E=>tr Z M (λxs M1=>Mf f xs M1 Q E) E):=by
 refine λa_ s Z H Q2 I k_=>ex9 k_ λh_ M Q E3 rm ds lk h b_=>?_
 have K9:(backTo pos (starEach (e::es) X.env)).any (·.1)=false:=by
  rw[he];show ((false,_)::backTo pos (starEach es X.env)).any (·.1)=false;rw[List.any_cons,KY];rfl
 obtain⟨fd,ps,sp,kp,bd,F⟩:=hf;have hT:PE X (.Name x px) (tC (.ref (B.c_ i))):=qR hg hm rfl Ld;refine PySem.W.methodCall_KW (thn (hT a_ s Z H (λv H1=>v=.ref (B.c_ i)/\H1=H) I ⟨rfl,rfl⟩) λu s1 ⟨v,H1,I1,r1,e1,e2⟩=>?_) (iK (by rfl) (jB K9 hn) hl)
 subst e1 e2;obtain rfl:u=Value.ref (B.c_ i):=r1;refine PySem.W.method_cls I1.kIn ci.ga (PySem.W.cls_value I1.kIn ci.rd ci.at_ rfl ?_);have I2:=I1.tok (s1.toks+1);refine PySem.W.callWith_K I.ok.mod.kin kp (thn (ha pos a_ _ Z H1 _ I2 (fM rm ds lk h
  λvs H2 xs M2 dl Kt t2 q2=>jW dl Kt (lk.mono t2) q2 (b_.mono t2))) λus s2 ⟨vs,H2,I3,r,q2⟩=>⟨I3.kIn,?_⟩) he KY
 exact gP F hr bd hx I3 r q2
theorem lZ(M:Mk X.K C f)(F:FnOk X.prog X.w X.K X.mg X.base (CX1 X.prog X.w) k f fd ps sp)(hr:Room (k+1) X.A)(hb:BdT X.K cls fd ps t3 sp)
  (hx:bF (CX1 X.prog X.w) X E2) (I:Inv X a_ Z H s)(r:Vals vs us)
  (h:∀x dx,H x=none->H dx=none->dx≠x->spX X.K cls t3 (.ref x::vs) (upd (upd H dx (.own x)) x (.ins C dx [])) (λv H2=>v=.i_/\Q (.ref x) H2) (λc d H'=>TM X.K (upd (upd H dx (.own x)) x (.ins C dx [])) H'->E2 Z c d H')) :
  wpAny (model X.prog X.w) X.A (call (.ref C) us) (EP X a_ Z Q) X.xe s:=by
 have hq:=h (s.heap.objs.size+1) s.heap.objs.size (I.j_.fresh (Kj _)) (I.j_.fresh (Jn _)) (JG (Nat.lt_succ_self _));have I2:=Inv.made (C:=C) I;have r2:Vals (V.ref (s.heap.objs.size+1)::vs) (Value.ref (s.heap.objs.size+1)::us):=.cons rfl r;obtain⟨ND,NG,hv,bd,hq⟩:=hb _ _ _ _ hq;have r2:Vals ((V.ref (s.heap.objs.size+1)::vs)++ND) ((Value.ref (s.heap.objs.size+1)::us)++NG):=r2.append hv;have hl:(Value.ref (s.heap.objs.size+1)::us++NG).length=ps.length:=by rw[<-r2.length];exact F.len _ _ _ _ hq
 have L4:=bd _ (Value.ref (s.heap.objs.size+1)::us) I2.kIn hl;refine wpAny_call (vH I.kIn M.makes M.init (JH.mp M.fn) (codeAny_mono (F.run _ X.stack _ _ ⟨Value.ref (s.heap.objs.size+1)::us,[]⟩ (Value.ref (s.heap.objs.size+1)::us++NG) _ _ _ (hr.make C us [])
  (I2.env0.make C us []) L4 r2 hq) λr s' Mu=>?_))
 match r,Mu with
 |.error e,Mu=>exact hx a_ Z _ _ e s' I2 (wz Mu)
 |.ok (.ret u),Mu=>
  obtain⟨v,H',I3,rv,ev,q3⟩:=I2.after Mu;subst ev;exact⟨rv,⟨V.ref (s.heap.objs.size+1),H',I3,rfl,q3⟩⟩
 |.ok .next,Mu=>exact Mu.elim
 |.ok .brk,Mu=>exact Mu.elim
 |.ok .cont,Mu=>exact Mu.elim
theorem TM.made{K:Ko}(hx:H x=none)(hd:H dx=none)(ne:dx≠x):TM K H (upd (upd H dx (.own x)) x (.ins C dx [])):=
 (TM.new hd).trans (.new (by rw[ai (Jv ne)];exact hx))
theorem sk{Z:St}{H:Hp}{xs:List D}{vs:List V}{M:MH}{Q:VK3}{Q2:VK}{E3:XN}{i:Nat}{fz:Bool}{t3:List D->MH->VK3->XN->Prop}(dl:DenL X.K H xs vs)(rm:RelM X.K M H)(lk:LkE X.K cls H E3 (E2 Z))
  (q:∀p,M p=none->t3 (.ref p::xs) (put M p (.ins i (B.c_ i) [] [])) (λv M2=>v=.i_/\if fz=true then bb Q (.ref p) M2 else Q (.ref p) M2) (λj M'=>E3 j (del M' p))) :
  ∀x dx,H x=none->H dx=none->dx≠x->spX X.K cls t3 (.ref x::vs) (upd (upd H dx (.own x)) x (.ins (B.c_ i) dx [])) (λv H2=>v=.i_/\∃M2,RelM X.K M2 H2/\TM X.K H H2/\if fz=true then bb Q (.ref x) M2 else Q (.ref x) M2)
   (λc d H'=>TM X.K (upd (upd H dx (.own x)) x (.ins (B.c_ i) dx [])) H'->E2 Z c d H'):=λx dx hx hd ne=>by
 have t:=TM.made (K:=X.K) (C:=B.c_ i) hx hd ne;have Mt:(upd H dx (.own x)) x=none:=by rw[ai (Jv ne)];exact hx
 have Kt:RelM X.K (put M x (.ins i (B.c_ i) [] [])) (upd (upd H dx (.own x)) x (.ins (B.c_ i) dx [])):=(rm.grow hd).lay Mt ⟨dx,[],ah,rfl,rfl⟩;refine⟨.ref x::xs,_,_,_,.cons rfl (dl.mono t),Kt,q x (rm.fresh hx),λv H' d M' dv q_ t' ⟨e,q'⟩=>?_,λj M' H' t' q_ q' dy xd _=>lk j (del M' x) H' (t.trans t') (q_.sub λb o z=>(nL z).2) q' dy xd⟩
 subst e;exact⟨dv,M',q_,t.trans t',q'⟩
theorem pI(b_:Back X.K H Q Q2)
  (h:EP X a_ Z (λv H2=>∃x,v=.ref x/\∃M2,RelM X.K M2 H2/\TM X.K H H2/\if fz=true then bb Q (.ref x) M2 else Q (.ref x) M2) u s'):EP X a_ Z Q2 u s':=by
 obtain⟨v,H2,I2,r,x,rfl,M2,Kt,t2,q⟩:=h;cases fz with
 |true=>
  obtain⟨H3,M3,d,I3,t3,MQ,dv,q3⟩:=jy I2 Kt ik (show bb Q (.ref x) M2 from q);exact⟨.ref x,H3,I3,r,b_ _ _ _ _ dv MQ (t2.trans t3) q3⟩
 |false=>exact⟨.ref x,H2,I2,r,b_ _ _ _ _ ik Kt t2 q⟩
theorem BJ{i f:Nat}{fz:Bool}{x:Str}(hg:Gl X x)(hm:X.mg x=some (.ref (B.c_ i)))(Ld:(x == ("__debug__" : Str))=false)(mk:Mk X.K (B.c_ i) (e_ f))(hf:sR X cls k (e_ f) (Mf f))(hr:Room (k+1) X.A)(hx:bF (CX1 X.prog X.w) X E2)
  (ha:PA X (e::es) (eF X.K cls E2 tr)) (he:starEach (e::es) X.env=(false,eval e X.env)::starEach es X.env) (KY:(backTo pos (starEach es X.env)).any (·.1)=false) :
  PE X (.Call (.Name x p) (e::es) [] pos) (low X.K cls E2 λZ M Q E=>tr Z M (λxs M1=>∀p,M1 p=none->Mf f (.ref p::xs) (put M1 p (.ins i (B.c_ i) [] [])) (λv M2=>v=.i_/\if fz=true then bb Q (.ref p) M2 else Q (.ref p) M2) (λi M'=>E i (del M' p))) E):=by
 refine λa_ s Z H Q2 I k_=>ex9 k_ λh_ M Q E3 rm ds lk h b_=>?_
 obtain⟨fd,ps,sp,kp,bd,F⟩:=hf;refine wpAny_Call_Name_kw (ig I hg hm ?_ Ld);refine PySem.W.callWith_K I.ok.mod.kin mk.kp (thn (ha pos a_ s Z H (λvs H1=>TM X.K H H1/\∃xs M1,DenL X.K H1 xs vs/\RelM X.K M1 H1/\∀p,M1 p=none->Mf f (.ref p::xs) (put M1 p (.ins i (B.c_ i) [] [])) (λv M2=>v=.i_/\if fz=true then bb Q (.ref p) M2 else Q (.ref p) M2) (λi M'=>E3 i (del M' p))) I
  (fM rm ds lk h λvs H1 xs M1 dl n_ t1 q1=>⟨t1,xs,M1,dl,n_,q1⟩)) λus s1 ⟨vs,H1,I1,r,t1,xs,M1,dl,n_,q1⟩=>⟨I1.kIn,?_⟩) he KY
 refine thn (lZ mk F hr bd hx I1 r λx dx n1 n2 n3=>?_) λu s2 q2=>pI (fz:=fz) (b_.mono t1) q2
 obtain⟨a1,a2,a3,a4,b1,b2,b3,b4,b5⟩:=sk (Q2:=Q2) dl n_ (lk.mono t1) q1 x dx n1 n2 n3;exact⟨a1,a2,a3,a4,b1,b2,b3,λv H' d M' dv q_ t' q'=>by
  obtain⟨e,w⟩:=b4 v H' d M' dv q_ t' q';exact⟨e,x,rfl,w⟩,b5⟩
theorem xl{i f:Nat}{fz:Bool}{x:Str}(hg:Gl X x)(hm:X.mg x=some (.ref (B.c_ i)))(Ld:(x == ("__debug__" : Str))=false)(mk:Mk X.K (B.c_ i) (e_ f))(hf:sR X cls k (e_ f) (Mf f))(hr:Room (k+1) X.A)(hx:bF (CX1 X.prog X.w) X E2) :
  PE X (.Call (.Name x p) [] [] pos) (low X.K cls E2 λZ M Q E=>∀p,M p=none->Mf f [.ref p] (put M p (.ins i (B.c_ i) [] [])) (λv M2=>v=.i_/\if fz=true then bb Q (.ref p) M2 else Q (.ref p) M2) (λi M'=>E i (del M' p))):=by
 refine λa_ s Z H Q2 I k_=>ex9 k_ λh_ M Q E3 rm ds lk h b_=>?_
 obtain⟨fd,ps,sp,kp,bd,F⟩:=hf;refine wpAny_Call_Name_kw (ig I hg hm ?_ Ld);refine PySem.W.callWith_K0 I.kIn mk.kp ?_;refine thn (lZ mk F hr bd hx I .nil λx dx n1 n2 n3=>?_) λu s2 q2=>pI (fz:=fz) b_ q2
 obtain⟨a1,a2,a3,a4,b1,b2,b3,b4,b5⟩:=sk (Q2:=Q2) .nil rm lk h x dx n1 n2 n3;exact⟨a1,a2,a3,a4,b1,b2,b3,λv H' d M' dv q_ t' q'=>by
  obtain⟨e,w⟩:=b4 v H' d M' dv q_ t' q';exact⟨e,x,rfl,w⟩,b5⟩
theorem Ai(hk:∀i,i<B.nk->KOk X.K B e_ i)(ho:PE X o (low X.K cls E2 to))(hv:PE X value (low X.K cls E2 tv))(hs:swapsWith value (some (.Attribute o (fnm f) K2)) pos.line X.env=pure false) :
  PS X (.Assign [.Attribute o (fnm f) K2] value pos) (br X.K cls E2 λD E Z M=>tv Z M (λy M1=>to Z M1 (λx M2=>match x with
  |.ref a=>match M2 a with
   |some (.ins i C ns ds)=>(C=B.c_ i/\i<B.nk/\B.fok i f=true/\ns.length<1000)/\D.nx Z (put M2 a (.ins i C (cC f ns) (cB f y ns ds)))
   |_=>False
  |_=>False) (E Z)) (E Z)):=
 (A1 ho hv hs).imp λD2 Z H k_=>ex9 k_ λh_ M D3 E3 rm ds lk h er=>aY rm ds (lk.at ds) h λv H1 y M1 dy n_ t1 q1=>aY n_ (ds.mono t1) ((lk.at ds).mono t1) q1 λw H2 x M2 dx Kt t2 q2=>by
  split at q2
  ·rename_i a;split at q2
   ·rename_i i C ns es q;obtain⟨LZ,vs,e,hl,dl⟩:=Kt a _ q;obtain⟨⟨rfl,hi,hf,hz⟩,q2⟩:=q2;obtain⟨ws,h1,h2,h3⟩:=pF dl hl (dy.mono t2);refine⟨a,_,LZ,_,dx,e,(hk i hi).cl,(hk i hi).na f hf,?_,?_⟩
    ·rw[List.length_zip,Jo,hl,Nat.min_self,<-hl];exact hz
    ·have tw:TM X.K H2 (upd H2 a (.ins (B.c_ i) LZ (dD (fnm f) v ((ns.map fnm).zip vs)))):=.put e (λ_ z=>by cases z) λ_ _ z=>by cases z
     refine er.nx _ _ h_ _ (Kt.write (u:=.ins i (B.c_ i) (cC f ns) (cB f y ns es)) e (λ_ z=>by cases z) (λ_ _ z=>by cases z) ⟨LZ,ws,by rw[ah,h1],h2,h3.mono tw⟩) (((ds.mono t1).mono t2).mono tw) ((t1.trans t2).trans tw) q2
   ·exact q2.elim
  ·exact q2.elim
theorem Et(hg:Gl X x)(hm:X.mg x=some u)(r:RelV v u)(Ld:(x == ("__debug__" : Str))=false)(hd:∀H,Den X.K H d v):PE X (.Name x pos) (low X.K cls E2 λ_ M Q _=>Q d M):=pK (qR hg hm r Ld) hd
end
def VS(X:Cx)(r:D->Option Int->Option Int->MH->VK3->Prop):Prop:=
 ∀(a_:List (Addr×Obj)) (s:Shared)(Z:St)(H:Hp)(x:D)(v:V)(v2 vl vu:Value)(lo hi:Option Int)(sl:Addr)(M:MH)(Q:VK3)(Q2:VK),Inv X a_ Z H s->RelV v v2->Den X.K H x v->RelM X.K M H->s.heap.IsSliceOf sl vl vu .none->IsPart vl lo->IsPart vu hi->r x lo hi M Q->Back X.K H Q Q2->
  ∃T id,typeLookup (.type T) "__getitem__"=pure (some (.builtin id))/\s.TypeIs v2 T/\wpAny (model X.prog X.w) X.A (getItem v2 (.ref sl)) (EP X a_ Z Q2) X.xe s
section
variable {X:Cx}{lo:Option Expr}
theorem VS.op(h:VS X r):SlR X (λv lo hi H Q2=>∃x M Q,Den X.K H x v/\RelM X.K M H/\r x lo hi M Q/\Back X.K H Q Q2):=by
 intro a_ s Z H v v2 vl vu lo hi sl Q2 I rv hs pl pu ⟨x,M,Q,dx,rm,q,b_⟩;exact h a_ s Z H x v v2 vl vu lo hi sl M Q Q2 I rv dx rm hs pl pu q b_
theorem n8{K:Ko}{lo:Option Int}(dl:DenL K H ds vs):DenL K H (fB ds lo hi) (qG vs lo hi):=by
 unfold fB qG;rw[dl.length];exact (dl.drop _).take _
theorem DT(fz:Bool):VS X (nY fz):=by
 intro a_ s Z H x v v2 vl vu lo hi sl M Q Q2 I rv dx rm hs pl pu q b_;unfold nY at q;split at q
 ·rename_i ds;obtain⟨p,vs,rfl,sq,dl⟩:=dx;obtain⟨hw,q⟩:=q;refine Bl a_ s Z H _ v2 vl vu lo hi sl Q2 I rv hs pl pu ⟨p,vs,rfl,sq,λz=>?_,λp' hp=>?_⟩
  ·unfold whole at hw;rw[dl.length,z.1,z.2]at hw;simp at hw
  ·exact b_ _ _ (.tup (fB ds lo hi)) _ ⟨p',_,rfl,.of ah,(n8 dl).mono (.new hp)⟩ (rm.grow hp) (.new hp) q
 ·split at q
  ·rename_i ds e;obtain⟨p,vs,rfl,hq,dl⟩:=bo rm e dx;cases rv;obtain⟨g_,r,ht,hz⟩:=I.list hq.sq;have Kq:=r.length;refine⟨"list",_,slot_list_getitem.lookup,ht.isList.typeIs,?_⟩;refine wpAny_getItem_list_slice ht.isList hs pl pu .none (by simp) ?_ (by rw[Jx]<;>omega)
   rw[lg,<-Kq];have I2:=I.laid (t':=s.toks) (o:=.lst (qG vs lo hi)) (h':=s.heap.push {cls:=.type "list",data:=.seq ((g_.drop (HT.sIx vs.length 0 lo)).take (HT.sIx vs.length vs.length hi-HT.sIx vs.length 0 lo)).toArray 0}) (λb ob q=>Jj _ q) (Jn _)
    ⟨JF (ja vs lo hi) hz,_,0,(r.drop (HT.sIx vs.length 0 lo)).take (HT.sIx vs.length vs.length hi-HT.sIx vs.length 0 lo),Jp _ rfl⟩
   exact dE I2 (I.j_.fresh (Jn _)) (n8 dl) rm (.refl _) q b_
  ·exact q.elim
theorem F6(ha:PE X a (low X.K cls E2 ta))(hl:PO X lo (t7 X.K cls E2 tl))(hh:PO X hi (t7 X.K cls E2 th)) :
  PE X (.Subscript a (.Slice lo hi none p2) pos) (low X.K cls E2 λZ M Q E=>ta Z M (λx M1=>tl Z M1 (λl M2=>th Z M2 (λh M3=>nY fz x l h M3 Q) E) E) E):=
 (vt (DT fz).op ha hl hh).imp λZ H Q2 k_=>ex9 k_ λh_ M Q E3 rm ds lk h b_=>aY rm ds lk h λv H1 x M1 dx n_ t1 q1=>zJ n_ (ds.mono t1) (lk.mono t1) q1 λl H2 M2 Kt t2 q2=>zJ Kt ((ds.mono t1).mono t2) ((lk.mono t1).mono t2) q2 λh H3 M3 MQ t3 q3=>
  ⟨x,M3,Q,(dx.mono t2).mono t3,MQ,q3,b_.mono ((t1.trans t2).trans t3)⟩
theorem mn{K:Ko}:∀{ds:List D}{bs:List Bool}{vs:List V}{us:List Value},fk ds=some bs->DenL K H ds vs->Vals vs us->LSm.BoolsAre us bs
 |[],bs,vs,us,e,dl,r=>by
  cases (show vs=[] from dl);cases r;cases (show some []=some bs from e);exact .nil
 |d::ds,bs,_,us,e,dl,r=>by
  obtain⟨v,vs,rfl,dv,dl⟩:=dl;cases r with
  |cons ru rt=>
   cases d with
   |bl b=>
    simp only[fk]at e;split at e
    ·rename_i ns q;cases e;cases (show v=.bl b from dv);cases ru;exact .cons b (mn q dl rt)
    ·cases e
   |_=>cases e
theorem zo(al:Bool)(hc:X.calm=true):VC X (.builtin (if al=true then "all" else "any")) (rBi (if al=true then .all else .any)):=by
 intro a_ s Z H xs vs us M Q Q2 I r dl rm q b_;have hh:X.A.handled=none:=I.ok.hd hc;have key:∃x ds bs,xs=[x]/\ak M x=some ds/\fk ds=some bs/\Q (.bl (if al=true then bs.all id else bs.any id)) M:=by
  cases al with
  |true=>
   simp only[if_true,rBi]at q;split at q
   ·split at q
    ·split at q
     ·exact⟨_,_,_,rfl,by assumption,by assumption,q⟩
     ·exact q.elim
    ·exact q.elim
   ·exact q.elim
  |false=>
   simp only[JW,if_false,rBi]at q;split at q
   ·split at q
    ·split at q
     ·exact⟨_,_,_,rfl,by assumption,by assumption,q⟩
     ·exact q.elim
    ·exact q.elim
   ·exact q.elim
 obtain⟨x,ds,bs,rfl,e1,e2,q⟩:=key;obtain⟨v,rfl,dv⟩:=gS dl;obtain⟨u,rfl,ru⟩:=i9 r;obtain⟨p,ws,rfl,hq,Lv⟩:=bo rm e1 dv;cases ru;obtain⟨g_,r2,NC,hz⟩:=I.list hq.sq;have hb:=mn e2 Lv r2;have hl:=NC.isList;have A_:p<s.heap.objs.size:=by obtain⟨_,e,_⟩:=hl;exact Jt e
 have fin:∀h' tk,(∀b o,s.heap.get? b=some o->h'.get? b=some o)->EP X a_ Z Q2 (.bool (if al=true then bs.all id else bs.any id)) {s with heap:=h',toks:=tk}:=λh' tk hk=>
  ⟨.bl _,H,I.kept (t':=tk) hk,rfl,b_ _ _ _ _ cv rm (.refl _) q⟩
 cases al with
 |true=>
  refine call_all_walk (wpAny_pyIter_list hl ?_);refine⟨s.heap.objs.size,[s.heap.objs.size,p],[s.heap.objs.size],g_.toArray.size,_,_,λi=>(bs[i]?).getD true,rfl,Walks.list (A:=X.A.in1) hh _ p (JG A_) g_.toArray,
   ⟨⟨_,Jp _ rfl,rfl,rfl⟩,hl.push _⟩,λi v s' Q' E' hP hQ=>?_,λh' tk hk=>?_⟩
  ·obtain⟨b,e,rfl⟩:=hb.get i v (by simpa using hP)
   simp only[e,Option.getD_some]at hQ;exact JT hQ
  ·have e:((List.range g_.toArray.size).all λi=>(bs[i]?).getD true)=bs.all id:=by
    rw[Jx,hb.length];exact LSm.range_all bs
   rw[e];exact fin h' tk (LSm.kept_iter hk)
 |false=>
  refine call_any_walk (wpAny_pyIter_list hl ?_);refine⟨s.heap.objs.size,[s.heap.objs.size,p],[s.heap.objs.size],g_.toArray.size,_,_,λi=>(bs[i]?).getD false,rfl,Walks.list (A:=X.A.in1) hh _ p (JG A_) g_.toArray,
   ⟨⟨_,Jp _ rfl,rfl,rfl⟩,hl.push _⟩,λi v s' Q' E' hP hQ=>?_,λh' tk hk=>?_⟩
  ·obtain⟨b,e,rfl⟩:=hb.get i v (by simpa using hP)
   simp only[e,Option.getD_some]at hQ;exact JT hQ
  ·have e:((List.range g_.toArray.size).any λi=>(bs[i]?).getD false)=bs.any id:=by
    rw[Jx,hb.length];exact LSm.range_any bs
   rw[e];exact fin h' tk (LSm.kept_iter hk)
end
def TyV(X:Cx)(T:String)(x:V)(H:Hp):Prop:=∀(a_:List (Addr×Obj)) (Z:St)(s:Shared)(v:Value),Inv X a_ Z H s->RelV x v->s.TypeIs v T/\∀a,v=.ref a->∃ob,s.heap.get? a=some ob/\ob.dict=none
section
variable {X:Cx}{o:Expr}{o_ p_ pos:Pos}{id:String}
theorem B0(pa:PlainAttrs T)(slot:Slot T name id)(MK:typeOf (.builtin id)=pure (.type "method_descriptor"))(hm:MtR X id r)(ho:PE X o t2)(ha:PA X (e::es) ta)
  (w_:attributeBase o name X.env (eval o X.env)=eval o X.env)
  (Nr:((backTo p_ (starEach (e::es) X.env)).all (λx=>!x.1)&&(backToKw p_ (keywordEach [] X.env)).all (λx=>x.1.isSome)
   &&decide ((e::es).length+([]:List Keyword).length+(if ([]:List Keyword).isEmpty then 0 else 1)<30))=true)
  (x_:(o_.endLine == p_.line)=true) (hs:starEach (e::es) X.env=(false,eval e X.env)::starEach es X.env) (La:(backTo p_ (starEach es X.env)).any (·.1)=false) :
  PE X (.Call (.Attribute o name o_) (e::es) [] p_) (λZ H Q=>t2 Z H λx H1=>TyV X T x H1/\ta Z H1 λxs H2=>r x xs H2 Q):=by
 intro a_ s Z H Q I h;refine wpAny_Call_method_late w_ Nr x_ rfl (thn (ho a_ s Z H _ I h) λv s1 z_=>?_)
 obtain⟨x,H1,I1,r1,ty,q1⟩:=z_;obtain⟨h1,h2⟩:=ty a_ Z s1 v I1 r1;refine⟨T,id,pa,slot,MK,h1,h2,?_⟩;have hA:=ha p_ a_ s1 Z H1 _ I1 q1;rw[hs]at hA ⊢;refine Calls.callWith_builtin (by show (false||(backTo p_ (starEach es X.env)).any (·.1))=false;rw[La]<;>rfl) (Calls.evalArgs_plain ?_)
 exact thn hA λus s2 ⟨vs,H2,I2,r2,q2⟩=>hm a_ s2 Z H2 x vs v us Q I2 r1 r2 q2
theorem yJ(pa:PlainAttrs T)(slot:Slot T name id)(MK:typeOf (.builtin id)=pure (.type "method_descriptor"))(hm:MtR X id r)(ho:PE X o t2)
  (w_:attributeBase o name X.env (eval o X.env)=eval o X.env) (x_:(o_.endLine == p_.line)=true):PE X (.Call (.Attribute o name o_) [] [] p_) (λZ H Q=>t2 Z H λx H1=>TyV X T x H1/\r x [] H1 Q):=by
 intro a_ s Z H Q I h;refine wpAny_Call_method0_late w_ x_ (thn (ho a_ s Z H _ I h) λv s1 z_=>?_)
 obtain⟨x,H1,I1,r1,ty,q1⟩:=z_;obtain⟨h1,h2⟩:=ty a_ Z s1 v I1 r1;exact⟨T,id,pa,slot,MK,h1,h2,Calls.callWith_builtin rfl (PySem.evalArgs_none (hm a_ s1 Z H1 x [] v [] Q I1 r1 .nil q1))⟩
def VM(X:Cx)(id:String)(r:D->List D->MH->VK3->Prop):Prop:=
 ∀(a_:List (Addr×Obj)) (s:Shared)(Z:St)(H:Hp)(x:D)(xs:List D)(v:V)(vs:List V)(v2:Value)(us:List Value)(M:MH)(Q:VK3)(Q2:VK),Inv X a_ Z H s->RelV v v2->Vals vs us->Den X.K H x v->DenL X.K H xs vs->RelM X.K M H->r x xs M Q->Back X.K H Q Q2->
  wpAny (model X.prog X.w) X.A (call (.builtin id) (v2::us)) (EP X a_ Z Q2) X.xe s
theorem VM.op(h:VM X id r):MtR X id (λv vs H Q2=>∃x xs M Q,Den X.K H x v/\DenL X.K H xs vs/\RelM X.K M H/\r x xs M Q/\Back X.K H Q Q2):=by
 intro a_ s Z H v vs v2 us Q2 I rv rs ⟨x,xs,M,Q,dx,dl,rm,q,b_⟩;exact h a_ s Z H x xs v vs v2 us M Q Q2 I rv rs dx dl rm q b_
def TyD(X:Cx)(T:String)(tb:D->MH->Bool):Prop:=∀(x:D)(v:V)(M:MH)(H:Hp),Den X.K H x v->RelM X.K M H->tb x M=true->TyV X T v H
theorem yI(pa:PlainAttrs T)(slot:Slot T name id)(MK:typeOf (.builtin id)=pure (.type "method_descriptor"))(hm:VM X id r)(ht:TyD X T tb)(ho:PE X o (low X.K cls E2 to))(ha:PA X (e::es) (eF X.K cls E2 tr))
  (w_:attributeBase o name X.env (eval o X.env)=eval o X.env) (hn:(e::es).length<30)
  (x_:(o_.endLine == p_.line)=true) (hs:starEach (e::es) X.env=(false,eval e X.env)::starEach es X.env) (La:(backTo p_ (starEach es X.env)).any (·.1)=false) :
  PE X (.Call (.Attribute o name o_) (e::es) [] p_) (low X.K cls E2 λZ M Q E=>to Z M (λx M1=>tb x M1=true/\tr Z M1 (λxs M2=>r x xs M2 Q) E) E):=by
 have K9:(backTo p_ (starEach (e::es) X.env)).any (·.1)=false:=by
  rw[hs];show ((false,_)::backTo p_ (starEach es X.env)).any (·.1)=false;rw[List.any_cons,La];rfl
 refine (B0 pa slot MK hm.op ho ha w_ (jB K9 hn) x_ hs La).imp λZ H Q2 k_=>ex9 k_ λh_ M Q E3 rm ds lk h b_=>aY rm ds lk h λv H1 x M1 dx n_ t1 q1=>?_
 exact⟨ht x v M1 H1 dx n_ q1.1,fM n_ (ds.mono t1) (lk.mono t1) q1.2 λvs H2 xs M2 dl Kt t2 q2=>⟨x,xs,M2,Q,dx.mono t2,dl,Kt,q2,b_.mono (t1.trans t2)⟩⟩
theorem rf(pa:PlainAttrs T)(slot:Slot T name id)(MK:typeOf (.builtin id)=pure (.type "method_descriptor"))(hm:VM X id r)(ht:TyD X T tb)(ho:PE X o (low X.K cls E2 to))
  (w_:attributeBase o name X.env (eval o X.env)=eval o X.env) (x_:(o_.endLine == p_.line)=true) :
  PE X (.Call (.Attribute o name o_) [] [] p_) (low X.K cls E2 λZ M Q E=>to Z M (λx M1=>tb x M1=true/\r x [] M1 Q) E):=
 (yJ pa slot MK hm.op ho w_ x_).imp λZ H Q2 k_=>ex9 k_ λh_ M Q E3 rm ds lk h b_=>aY rm ds lk h λv H1 x M1 dx n_ t1 q1=>⟨ht x v M1 H1 dx n_ q1.1,x,[],M1,Q,dx,.nil,n_,q1.2,b_.mono t1⟩
theorem za(hb:∀x M,tb x M=true->(ak M x).isSome=true):TyD X "list" tb:=λx v M H dx rm h a_ Z s v2 I rv=>by
 obtain⟨ds,e⟩:=JM.mp (hb x M h);obtain⟨p,vs,rfl,hq,dl⟩:=bo rm e dx;cases rv;obtain⟨g_,_,pl,_⟩:=I.list hq.sq;refine⟨pl.isList.typeIs,λa e=>?_⟩
 cases e;obtain⟨o,n,e,c,hd,_⟩:=pl;exact⟨o,e,hd⟩
theorem sK:∀{ds:List D}{k j:Nat},qi y ds k=some j->k<=j/\(∃d,ds[j-k]?=some d/\eqD d y=true)/\∀m d,m<j-k->ds[m]?=some d->eqD d y=false
 |[],_,_,e=>by cases e
 |d::r,k,j,e=>by
  simp only[qi]at e;by_cases h:eqD d y=true
  ·rw[Jr h]at e;cases e;exact⟨Jn _,⟨d,by simp,h⟩,λm d' hm _=>absurd hm (by omega)⟩
  ·rw[Ji h]at e;obtain⟨h1,⟨d1,h2,h3⟩,h4⟩:=sK e;refine⟨by omega,⟨d1,?_,h3⟩,λm d' hm he=>?_⟩
   ·have:j-k=(j-(k+1))+1:=by omega
    rw[this,List.getElem?_cons_succ];exact h2
   ·cases m with
    |zero=>simp at he;subst he;simpa using h
    |succ m=>exact h4 m d' (by omega) (by simpa using he)
theorem ny:TyD X "dict" (tyB .get):=λx v M H dx rm h a_ Z s v2 I rv=>by
 simp only[tyB,Bool.or_eq_true]at h;rcases h with h|h
 ·obtain⟨⟨ks,ds⟩,e⟩:=JM.mp h;obtain⟨p,vs,rfl,rd,_⟩:=oV e rm dx;cases rv;obtain⟨_,_,ws,_,dd⟩:=jd I.j_ rd;refine⟨dd.typeIs,λb q=>?_⟩
  cases q;obtain⟨ob,_,_,h1,h2,_⟩:=dd;exact⟨ob,h1,h2.2.1⟩
 ·obtain⟨⟨ks,ds⟩,e⟩:=JM.mp h;obtain⟨p,vs,xs,rfl,rd,z,_⟩:=gV e rm dx;cases rv;have dd:=bZ I rd z;refine⟨dd.typeIs,λb q=>?_⟩
  cases q;obtain⟨ob,_,_,h1,h2,_⟩:=dd;exact⟨ob,h1,h2.2.1⟩
theorem OptDen.getD{K:Ko}{o:Option D}{ov:Option V}(h:OptDen K H o ov)(dv:Den K H d v):Den K H (o.getD d) (ov.getD v):=by
 cases o with
 |none=>cases ov with
  |none=>exact dv
  |some _=>exact h.elim
 |some d'=>cases ov with
  |none=>exact h.elim
  |some v'=>exact h
theorem ir{K:Ko}(h:DenL K H (d::ds) vs):∃v ws,vs=v::ws/\Den K H d v/\DenL K H ds ws:=by
 obtain⟨v,r,e,dv,dl⟩:=h;exact⟨v,r,e,dv,dl⟩
theorem vL(hu:X.A.units+64<cLine):VM X "dict.get" (rBm .get):=by
 intro a_ s Z H x xs v vs v2 us M Q Q2 I rv rs dx dl rm q b_;simp only[rBm]at q;split at q
 ·rename_i y;split at q
  ·rename_i o e;obtain⟨yv,rfl,dy⟩:=gS dl;obtain⟨u,rfl,ru⟩:=rs.one;obtain⟨a,ov,rfl,g,od⟩:=gT e rm dx dy;cases rv;exact Ak (by omega) I g ru λw' s' I' KO=>⟨_,H,I',KO,b_ _ _ _ _ (od.getD (show Den X.K H .i_ .i_ from rfl)) rm (.refl _) q⟩
  ·exact q.elim
 ·rename_i y z;split at q
  ·rename_i o e;obtain⟨yv,wv,rfl,dy,dw⟩:=ir dl;obtain⟨zv,rfl,dz⟩:=gS dw;obtain⟨u,w,rfl,ru,KO⟩:=rs.two;obtain⟨a,ov,rfl,g,od⟩:=gT e rm dx dy;cases rv;exact Az (by omega) I g ru KO λw' s' I' KO=>⟨_,H,I',KO,b_ _ _ _ _ (od.getD dz) rm (.refl _) q⟩
  ·exact q.elim
 ·exact q.elim
theorem Cg(hu:X.A.units+64<cLine):Cd X (λo i v H R2=>∃x k y M R,Den X.K H x o/\Den X.K H k i/\Den X.K H y v/\RelM X.K M H/\aE x k y M R/\∀H' M',RelM X.K M' H'->TM X.K H H'->R M'->R2 H'):=by
 intro a_ s Z H o i v ov iv u R2 I ro ri rv ⟨x,k,y,M,R,dx,dk,dy,rm,q,b_⟩;unfold aE at q;split at q
 ·rename_i a;cases (show o=.ref a from dx);split at q
  ·rename_i ds n e;split at q
   ·rename_i j ej;cases (show i=.int n from dk);obtain⟨vs,e1,dl⟩:=rm a _ e;have tw:TM X.K H (upd H a (.lst (vs.set j v))):=.put e1 (λ_ z=>by cases z) λ_ _ z=>by cases z
    refine v9 a_ s Z H _ _ v ov iv u R2 I ro ri rv ⟨a,vs,n,j,rfl,rfl,e1,by rw[<-dl.length];exact ej,?_⟩
    exact b_ _ _ (rm.write (u:=.lst (ds.set j y)) e1 (λ_ z=>by cases z) (λ_ _ z=>by cases z) ⟨_,ah,(dl.set dy j).mono tw⟩) tw q
   ·exact q.elim
  ·rename_i ks ds e;split at q
   ·rename_i k' ek;cases ro;exact A8 (by omega) I rm e (kH ek dk) ri dy rv q.1 q.2 b_
   ·exact q.elim
  ·rename_i ks ds e;split at q
   ·rename_i k' ek;cases ro;obtain⟨b,rfl,sq⟩:=jS ek dk;cases ri;exact z9 (by omega) I rm e sq dy rv q.1 q.2 b_
   ·exact q.elim
  ·exact q.elim
 ·exact q.elim
theorem xT(hu:X.A.units+64<cLine)(ho:PE X o (low X.K cls E2 to))(hi:PE X ixe (low X.K cls E2 ti))(hv:PE X value (low X.K cls E2 tv))
  (ha:∀v,assign (.Subscript o ixe K2) X.env v=(do
   let ov<-holding [v] (eval o X.env)
   let iv<-holding [v,ov] (eval ixe X.env)
   standAt K2
   holding [v,ov,iv] (setItem ov iv v)
   release [v,ov,iv] [])) (hs:swapsWithSole [.Subscript o ixe K2] value pos.line X.env=pure false) (hw:swappedStores [.Subscript o ixe K2] value X.env=pure none) (h1:(assignEach [.Subscript o ixe K2] X.env).map (·.2)=[assign (.Subscript o ixe K2) X.env]) :
  PS X (.Assign [.Subscript o ixe K2] value pos) (br X.K cls E2 λD E Z M=>tv Z M (λy M1=>to Z M1 (λx M2=>ti Z M2 (λk M3=>aE x k y M3 λM4=>D.nx Z M4) (E Z)) (E Z)) (E Z)):=
 (vS hv (zV ho hi (Cg hu) ha) hs hw h1).imp λD2 Z H k_=>ex9 k_ λh_ M D3 E3 rm ds lk h er=>aY rm ds (lk.at ds) h λv H1 y M1 dy n_ t1 q1=>
  aY n_ (ds.mono t1) ((lk.at ds).mono t1) q1 λw H2 x M2 dx Kt t2 q2=>aY Kt ((ds.mono t1).mono t2) (((lk.at ds).mono t1).mono t2) q2 λz H3 k M3 dk MQ t3 q3=>
   ⟨x,k,y,M3,_,dx.mono t3,dk,(dy.mono t2).mono t3,MQ,q3,λH' M' q_ t' q'=>er.nx _ _ h_ M' q_ ((((ds.mono t1).mono t2).mono t3).mono t') (((t1.trans t2).trans t3).trans t') q'⟩
end
end L2
namespace L2
open PySem PySem.Spec PyProof.Rows PySem.W
section
variable {A:Around}{s:Shared} [DecidableEq κ] {knd:HeapKind prog w κ}{xs:List (κ×Addr×Value)}{p:Addr×Value}
end
section
variable {X:Cx}
end
end L2
namespace L2
open PySem PySem.Spec PyProof.Rows
section
variable {X:Cx}
theorem VM.of{id:String}{r3:D->List D->MH->VK3->Prop}{r:V->List V->Hp->VK->Prop}(h:MtM X id r)
  (hr:∀(H:Hp)(x:D)(xs:List D)(v:V)(vs:List V)(M:MH)(Q:VK3)(Q2:VK),Den X.K H x v->DenL X.K H xs vs->RelM X.K M H->r3 x xs M Q->Back X.K H Q Q2->r v vs H Q2):VM X id r3:=
 λa_ s Z H x xs v vs v2 us M Q Q2 I rv rs dx dl rm q b_=>h a_ s Z H v vs v2 us Q2 I rv rs (hr H x xs v vs M Q Q2 dx dl rm q b_)
theorem hZ:TyD X "list" isLstM:=za λx M h=>by
 unfold isLstM at h;split at h
 ·split at h
  ·rename_i e;simp[ak,e]
  ·cases h
 ·cases h
theorem DenL.app{K:Ko}:∀{ds es:List D}{vs ws:List V},DenL K H ds vs->DenL K H es ws->DenL K H (ds++es) (vs++ws)
 |[],es,vs,ws,h,g=>by cases (show vs=[] from h);exact g
 |d::ds,es,vs,ws,h,g=>by
  obtain⟨v,us,rfl,dv,dw⟩:=ir h;exact .cons dv (DenL.app dw g)
noncomputable def Dw(xs:List V)(i:Int)(y:V):List V:=xs.take (zm xs.length i)++y::xs.drop (zm xs.length i)
theorem ins_len{xs:List V}:(Dw xs i y).length=xs.length+1:=by
 unfold Dw;simp;omega
theorem ra{K:Ko}{H:Hp}{M:MH}{a:Addr}{ds es:List D}{vs:List V}(rm:RelM K M H)(e:H a=some (.lst vs))(ws:List V)(h:DenL K H es ws):RelM K (put M a (.lst es)) (upd H a (.lst ws))/\TM K H (upd H a (.lst ws)):=by
 have tw:TM K H (upd H a (.lst ws)):=.put e (λ_ z=>by cases z) λ_ _ z=>by cases z
 exact⟨rm.write (u:=.lst es) e (λ_ z=>by cases z) (λ_ _ z=>by cases z) ⟨_,ah,h.mono tw⟩,tw⟩
def wa:V->List V->Hp->VK->Prop:=λx vs H Q=>∃l b xs zs,x=.ref l/\vs=[.ref b]/\H l=some (.lst xs)/\RdL X.K H b zs/\xs.length+zs.length<=sizeLine/\Q .i_ (upd H l (.lst (xs++zs)))
theorem qy:MtM X "list.extend" (wa (X:=X)):=by
 intro a_ s Z H x vs v us Q I rx rv h;obtain⟨l,b,xs,zs,rfl,rfl,hH,hB,hz,q⟩:=h;cases rx;obtain⟨u,rfl,ru⟩:=rv.one;cases ru;obtain⟨z,g_,n,r,hl,e⟩:=I.lstM hH;obtain⟨z2,s_,n2,r2,N2,e2⟩:=I.rdL hB;have hsz:g_.toArray.size+s_.toArray.size<=sizeLine:=by rw[Jx,Jx];omega
 have OF:¬ (!g_.toArray.isEmpty&&Builtin.List.listTooLong (g_.toArray.size+s_.toArray.size))=true:=by
  rw[wj hsz,Bool.and_false];exact JN
 refine call_meets F.slot_list_extend ⟨_,e,rfl⟩ F.entry_list_extend (F.args_list_extend_2 _ _)
  (AutoSeq1.list_extend_list_list_0 l g_.toArray n b s_.toArray n2 OF (by rw[Jx];omega) (by omega)) ⟨e,e2,?_⟩
 refine⟨.i_,_,I.lset (its':=g_++s_) hH e (by simp) (r.append r2) ?_,rfl,q⟩
 rw[JK];omega
theorem me:VM X "list.extend" (rBm .extend):=VM.of qy λH x xs v vs M Q Q2 dx dl rm q b_=>by
 simp only[rBm]at q;split at q
 ·rename_i a y;split at q
  ·rename_i ds es e e';obtain⟨ws,e1,dw⟩:=rm a _ e;cases (show v=.ref a from dx);obtain⟨yv,rfl,dy⟩:=gS dl;obtain⟨p,us,rfl,hq,du⟩:=bo rm e' dy;obtain⟨r1,t1⟩:=ra (ds:=ds) rm e1 _ (dw.append du);exact⟨a,p,ws,us,rfl,rfl,e1,hq,by rw[<-dw.length,<-du.length];exact q.1,b_ _ _ .i_ _ rfl r1 t1 q.2⟩
  ·exact q.elim
 ·exact q.elim
theorem DenL.erase{K:Ko}{H:Hp}{ds:List D}{vs:List V}(k:Nat)(h:DenL K H ds vs):DenL K H (ds.eraseIdx k) (vs.eraseIdx k):=by
 rw[List.eraseIdx_eq_take_drop_succ,List.eraseIdx_eq_take_drop_succ];exact (h.take _).app (h.drop _)
end
end L2
namespace L2
open PySem PySem.Spec PyProof.Rows SeqAt PySem.MeetsSeq AutoSeq1
theorem rZ(p:Addr)(g_:Array Value)(c:Nat)(x:Value)(f:Value->Bool)(j:Nat)(hj:j<g_.size)(hz:g_.size<=sizeLine)(J_:f g_[j]=true):∀(k i:Nat),j-i=k->i<=j->(∀m (hm:m<g_.size),i<=m->m<j->f g_[m]=false)->
  Meets (Builtin.«list.remove.loop» ⟨[.ref p,x,rawInt i],[]⟩) (λA R s=>s.heap.get? p=some {cls:=.type "list",dict:=none,data:=.seq g_ c,slots:=#[]}/\(∀y,y∈g_->EqAt A.in1 s y x (f y))/\R (.ok (.ret .none)) {s with heap:=s.heap.update p (Obj.mapSeq λxs=>xs.eraseIdxIfInBounds j)})
 |0,i,e,M8,_=>by
  intro prog w A R s q;obtain⟨h1,h2,h3,h4,h5⟩:=s;obtain⟨hg,he,q⟩:=q;obtain rfl:i=j:=by omega
  wp_walk using wpAny_loadPart' hg
  rw[show g_[((i:Nat):Int).toNat]?=some g_[i] by simp]
  refine Je (he _ (Array.getElem_mem hj) prog w _ _ ?_);have z2:(g_.eraseIdxIfInBounds i).size<=sizeLine+1:=JF (size_erased g_ _) (Nat.le_succ_of_le hz)
  wp_walk using (wpAny_updateSeq hg rfl (_hz':=z2)),wpAny_loadPart' hg
  simpa using q
 |k+1,i,e,M8,Nf=>by
  intro prog w A R s q;obtain⟨h1,h2,h3,h4,h5⟩:=s;obtain⟨hg,he,q⟩:=q;have lt:i<g_.size:=by omega
  wp_walk using wpAny_loadPart' hg
  rw[show g_[((i:Nat):Int).toNat]?=some g_[i] by simp]
  refine Je (he _ (Array.getElem_mem lt) prog w _ _ ?_);rw[Nf i lt (Jn _) (by omega)]
  wp_walk
  exact⟨plainId_quiet plain_remove_loop _,codeAny_builtin entry_remove_loop (by
   exact rZ p g_ c x f j hj hz J_ k (i+1) (by omega) (by omega) (λm hm a b=>Nf m hm (by omega) b) prog w A R _ ⟨hg,he,q⟩)⟩
theorem EQ(p:Addr)(g_:Array Value)(c:Nat)(x:Value)(f:Value->Bool)(j:Nat)(hj:j<g_.size)(hz:g_.size<=sizeLine)(J_:f g_[j]=true)(Nf:∀m (hm:m<g_.size),m<j->f g_[m]=false) :
  Meets (Builtin.«list.remove» ⟨[.ref p,x],[]⟩) (λA R s=>s.heap.get? p=some {cls:=.type "list",dict:=none,data:=.seq g_ c,slots:=#[]}/\(∀y,y∈g_->EqAt A.in1 s y x (f y))/\R (.ok (.ret .none)) {s with heap:=s.heap.update p (Obj.mapSeq λxs=>xs.eraseIdxIfInBounds j)}):=by
 intro prog w A R s q;obtain⟨h1,h2,h3,h4,h5⟩:=s;obtain⟨hg,he,q⟩:=q
 wp_walk using wpAny_loadPart' hg
 exact⟨plainId_quiet plain_remove_loop _,codeAny_builtin entry_remove_loop (by
  exact rZ p g_ c x f j hj hz J_ j 0 (by omega) (Nat.zero_le _) (λm hm _ b=>Nf m hm b) prog w A R _ ⟨hg,he,q⟩)⟩
theorem j0:∀{vs:List V}{us:List Value},Vals vs us->∀j,Vals (vs.eraseIdx j) (us.eraseIdx j)
 |_,_,.nil,_=>.nil
 |_,_,.cons _ r,0=>r
 |_,_,.cons h r,j+1=>.cons h (j0 r j)
theorem lU{X:Cx}(hu:X.A.units+64<cLine):VM X "list.remove" (rBm .remove):=by
 intro a_ s Z H x xs v vs v2 us M Q Q2 I rv rs dx dl rm q b_;simp only[rBm]at q;split at q
 ·rename_i p y;split at q
  ·rename_i ds e;obtain⟨⟨p1,p2⟩,q⟩:=q;split at q
   ·rename_i j ej;obtain⟨_,⟨d1,h2,h3⟩,h4⟩:=sK ej;obtain⟨ws,hH,Lv⟩:=rm p _ e;cases (show v=.ref p from dx);cases rv;obtain⟨yv,rfl,dy⟩:=gS dl;obtain⟨u,rfl,ru⟩:=rs.one;obtain⟨z,g_,n,r2,N2,ho⟩:=I.lstM hH;obtain⟨H',I',t',d2⟩:=o9 I rm dy p1;have Nh:=Lv.mono t';have pd:=i5 Nh r2
    classical
    let f:Value->Bool:=λw=>if h:∃d∈ds,∃v,Den X.K H' d v/\RelV v w then eqD h.choose (res M y) else false
    have hf:∀d w,d∈ds->(∃v,Den X.K H' d v/\RelV v w)->f w=eqD d (res M y):=λd w hd ⟨v',dv,KO⟩=>by
     have h:∃d∈ds,∃v,Den X.K H' d v/\RelV v w:=⟨d,hd,v',dv,KO⟩;obtain⟨hm,P9,MD,P_⟩:=h.choose_spec;have:P9=v':=P_.inj KO;subst this;have e1:h.choose=d:=mU I' rfl 8 (JE.mp p2 _ hm) (JE.mp p2 _ hd) MD dv;show (if h:∃d∈ds,∃v,Den X.K H' d v/\RelV v w then eqD h.choose (res M y) else false)=_
     rw[dif_pos h,e1]
    have N3:∀(m:Nat)(hm:m<g_.toArray.size),∃d,ds[m]?=some d/\f g_.toArray[m]=eqD d (res M y):=λm hm=>by
     have NW:m<ds.length:=by rw[Lv.length,N2];simpa using hm
     refine⟨ds[m],by simp,?_⟩
     obtain⟨v',e1,e2⟩:=Nh.get (i:=m) (d:=ds[m]) (by simp)
     obtain⟨w',e3,e4⟩:=r2.get e1;have:g_.toArray[m]=w':=by
      have Pe:m<g_.length:=by simpa using hm
      have:g_[m]?=some g_[m]:=by simp
      rw[this]at e3;simpa using e3
     rw[this];exact hf _ _ (J6 NW) ⟨v',e2,e4⟩
    have hj:j<g_.toArray.size:=by
     have h5:j<ds.length:=(JL.mp (by simpa using h2)).1
     rw[Jx,<-N2,<-Lv.length];exact h5
    have Sb:g_.toArray.size<=sizeLine:=by rw[Jx,<-N2];exact z
    obtain⟨r1,t1⟩:=ra (ds:=ds) rm hH _ (Lv.erase j);refine call_meets PySem.F.slot_list_remove ⟨_,ho,rfl⟩ PySem.F.entry_list_remove (PySem.F.args_list_remove_2 _ _) (EQ p g_.toArray n u f j hj Sb ?_ ?_) ⟨ho,λw hw=>?_,?_⟩
    ·obtain⟨d,e1,e2⟩:=N3 j hj;rw[e2];simp at h2;rw[e1]at h2;cases h2;exact h3
    ·intro m hm A_;obtain⟨d,e1,e2⟩:=N3 m hm;rw[e2];exact h4 m d (by simpa using A_) e1
    ·obtain⟨d,hd,v',dv,KO⟩:=Paired.mem_right pd w (by simpa using hw)
     rw[hf d w hd ⟨v',dv,KO⟩];exact (BP I' rfl 8 (JE.mp p2 _ hd) p1 dv d2 KO ru (by show X.A.units+1+8<cLine;omega)).2.2
    ·refine⟨.i_,_,I.lset hH ho ?_ (j0 r2 j) ?_,rfl,b_ _ _ .i_ _ rfl r1 t1 q⟩
     ·show g_.toArray.eraseIdxIfInBounds j=_;unfold Array.eraseIdxIfInBounds;rw[dif_pos hj];simp
     ·exact JF (by rw[List.length_eraseIdx];split<;>omega) z
   ·exact q.elim
  ·exact q.elim
 ·exact q.elim
end L2
namespace L2
open PySem PySem.Spec PyProof.Rows PySem.W
section
variable {X:Cx}
theorem AE{A:Around}{s:Shared}{m_:List (Key×V)}{k:Key}{d:V}{u r:Value}{Q:Value->Shared->Prop}(I:Inv X a_ Z H s)(e:H a=some (.dK m_))(ry:RelV (kV k) u)(rd:RelV d r)(l:m_.length<sizeLine)
  (h1:∀v,cT m_ k=some v->∀w' s',Inv X a_ Z H s'->RelV v w'->Q w' s') (h2:cT m_ k=none->∀s',Inv X a_ Z (upd H a (.dK (dJ m_ k d))) s'->Q r s') :
  wpAny (model X.prog X.w) A (call (.builtin "dict.setdefault") [.ref a,u,r]) Q E s:=by
 obtain⟨z,hd,vs,rel,dd⟩:=u8 I.j_ e;have hz:vs.length<=sizeLine:=by rw[<-rel.length];exact z
 refine call_meetsIn PySem.F.slot_dict_setdefault dd.typeIs PySem.F.entry_dict_setdefault (PySem.F.args_dict_setdefault_3 _ _ _) (kt_meets_setdefault (aD X.prog X.w) a (jj ry) hd r) ⟨vs,dd,hz,λv hv=>?_,λhv h' Mo hs=>?_⟩
 ·have q:=rel.val k;rw[hv]at q;cases g:cT m_ k with
  |none=>rw[g]at q;exact q.elim
  |some v'=>rw[g]at q;exact h1 v' g v _ (I.tok _) q
 ·have q:=rel.val k;rw[hv]at q;have hl:(dJ m_ k d).length<=sizeLine:=by have:=fq m_ k d;omega
  have he:∃q,h'.get? a=some q:=let ⟨q,_,_,hq,_⟩:=Mo;⟨q,hq⟩
  cases g:cT m_ k with
  |some v'=>rw[g]at q;exact q.elim
  |none=>exact h2 g _ (gW I (by rw[e];exact True.intro) hs he (wJ hl hd (rel.put k rd) Mo))
theorem oq:TyD X "dict" (tyB .Kw):=ny
theorem lK:VM X "dict.setdefault" (rBm .Kw):=by
 intro a_ s Z H x xs v vs v2 us M Q Q2 I rv rs dx dl rm q b_;simp only[rBm]at q;split at q
 ·rename_i a y z;split at q
  ·rename_i ks ds k e ek;obtain⟨hz,q⟩:=q;obtain⟨yv,wv,rfl,dy,dw⟩:=ir dl;obtain⟨zv,rfl,dz⟩:=gS dw;obtain⟨u,w,rfl,ru,KO⟩:=rs.two;cases (show v=.ref a from dx);cases rv;obtain⟨vs,eH,hl,Q0⟩:=rm a _ e;have hk:=kH ek dy;subst hk;have g:=gM (k:=k) Q0 hl;obtain⟨LH,h1,h2,h3⟩:=jR (k:=k) (v:=zv) (oO I eH hl) Q0 hl dz;refine AE I eH ru KO (by rw[List.length_zip,hl,Nat.min_self,<-hl];exact hz) (λv' hv w' s' I' r'=>?_) (λhv s' I'=>?_)
   ·cases q0:getD ks ds k with
    |none=>rw[g.2 q0]at hv;cases hv
    |some d0=>
     obtain⟨w0,h1,h2⟩:=g.1 d0 q0;rw[q0]at q;rw[h1]at hv;cases hv;exact⟨_,H,I',r',b_ _ _ _ _ h2 rm (.refl _) q⟩
   ·cases q0:getD ks ds k with
    |some d0=>obtain⟨w0,h1,h2⟩:=g.1 d0 q0;rw[h1]at hv;cases hv
    |none=>
     rw[q0]at q;have tw:TM X.K H (upd H a (.dK (dJ (ks.zip vs) k zv))):=.put eH (λ_ z=>by cases z) λ_ _ z=>by cases z
     exact⟨_,_,I',KO,b_ _ _ _ _ (dz.mono tw) (rm.write (u:=.dk (aj ks k) (au ks ds k z)) eH (λ_ z=>by cases z) (λ_ _ z=>by cases z) ⟨LH,by rw[ah,h1],h2,h3.mono tw⟩) tw q⟩
  ·exact q.elim
 ·exact q.elim
end
end L2
namespace L2
open PySem PySem.Spec PyProof.Rows PySem.Calls PySem.NumText PySem.W.KIN
end L2
namespace L2
open PySem PySem.Spec PyProof.Rows
def CB(K:Ko):Prop:=PySem.W.nsIn K cStatics "sys.int_max_str_digits"=some none
section
variable {X:Cx}
end
section
variable {X:Cx}{s:Shared}{h':Heap}
theorem Inv.turned2(I:Inv X a_ Z H s)(k:∀b o,b≠it->b≠it'->s.heap.get? b=some o->h'.get? b=some o)(f:fx X a_ H it)(f':fx X a_ H it'):Inv X a_ Z H {s with heap:=h',toks:=t'}:=by
 obtain⟨hn,hL,_,h1,h2,h3⟩:=f;obtain⟨Pu,Q1,_,Ow,Q4,Sd⟩:=f';have Na:∀b u,H b=some u->b≠it:=λb u e z=>by rw[z,hn]at e;cases e
 have OG:∀b u,H b=some u->b≠it':=λb u e z=>by rw[z,Pu]at e;cases e
 have kc:∀b o,b∉[it,it']->s.heap.get? b=some o->h'.get? b=some o:=λb o hc e=>k b o (λz=>hc (by simp[z])) (λz=>hc (by simp[z])) e
 refine I.step (λb hb=>?_) (λb o _ _ hc e _=>kc b o hc e) (λb o _ _ hc e _=>⟨o.slots,kc b o hc e⟩) (λ_ _ _ _ n=>n)
  (λb o hc e=>⟨o,kc b o hc e⟩) (λ_ _ e=>e) (λ_ _ _ e=>e) (λb ps e=>⟨#[],by rw[e];simp⟩) (λm hm=>?_) (λb u e=>?_) I.bare
 ·rcases Jl.mp hb with rfl|hb
  ·exact⟨h1,hL,h2,h3⟩
  ·have e:b=it':=by simpa using hb
   subst e;exact⟨Ow,Q1,Q4,Sd⟩
 ·obtain⟨o,es,ep,ho,r⟩:=hm;exact⟨o,es,ep,k _ o (Jv hL) (Jv Q1) ho,r⟩
 ·refine (I.j_ b u e).stay (λc v hc q=>k c v ?_ ?_ q) (λ_ q=>q) λ_ _ q=>q
  ·rcases hc with z|z
   ·rw[z];exact Na b u e
   ·exact Na c _ z
  ·rcases hc with z|z
   ·rw[z];exact OG b u e
   ·exact OG c _ z
noncomputable def Ite(K:Ko)(a:Addr):It:=
 ⟨λi H=>∃xs x,SqL K H a xs/\xs[i]?=some x,λi H v H'=>∃p,v=.ref p/\H p=none/\∃x,(∀xs,SqL K H a xs->xs[i]?=some x)/\H'=upd H p (.tup [.int i,x]),λi H=>∃xs,SqL K H a xs/\xs.length<=i⟩
theorem tJ{K:Ko}(a e it:Addr)(Lq:e≠it):Turn P w K (.Tuple KI x1 pos) (Ite K a) [e,it] e (λi h=>(∃old,IsEnum h e it i old)/\h.IsListIter it a i) where
 mem:=by simp
 obj:=λi h st b hb=>by
  obtain⟨⟨old,h1⟩,h2⟩:=st;rcases Jl.mp hb with rfl|hb
  ·exact⟨_,h1,λv z=>by
    have z':Data.fields _=Data.cell v:=z;cases z'⟩
  ·have e':b=it:=by simpa using hb
   subst e';obtain⟨o,e1,c,d⟩:=h2;exact⟨o,e1,λv z=>by rw[d]at z;cases z⟩
 keep:=λi h h' st k=>⟨let ⟨old,h1⟩:=st.1;⟨old,k e (by simp) _ h1⟩,st.2.at λo e1=>k it (by simp) o e1⟩
 item:=by
  intro X hP hw hK hc i a_ s Z H E I hf st hg;subst hP hw hK;obtain⟨xs,x,hq,hx⟩:=hg;obtain⟨g_,rv,p,hz⟩:=I.list hq;obtain⟨u,hu,ru⟩:=rv.get hx;obtain⟨⟨old,he⟩,J_⟩:=st;have fe:=hf e (by simp)
  have fi:=hf it (by simp)
  have Se:e<s.heap.objs.size:=Jt he;obtain⟨oi,Sf,_⟩:=id J_;have ME:it<s.heap.objs.size:=Jt Sf;refine wpAny_pyNext_enum_item he J_ p.isList (by simpa using hu) Lq λh' M9 Le ht hsz k=>?_
  have hp:H s.heap.objs.size=none:=I.j_.fresh (Jn _);have I1:Inv X a_ Z (upd H s.heap.objs.size (.tup [.int i,x])) {s with heap:=s.heap.push {cls:=.type "tuple",data:=.seq #[.int i s.toks,u]},toks:=s.toks+1}:=
   I.laid (λb o e1=>Jj _ e1) (Jn _) ⟨by show 2<=sizeLine;decide,[.int i s.toks,u],.cons ⟨_,rfl⟩ (.cons ru .nil),⟨_,Jp _ rfl,rfl,_,rfl⟩⟩
  have Q5:fx X a_ (upd H s.heap.objs.size (.tup [.int i,x])) e:=⟨by rw[ai (JG Se)];exact fe.1,fe.2⟩
  have N4:fx X a_ (upd H s.heap.objs.size (.tup [.int i,x])) it:=⟨by rw[ai (JG ME)];exact fi.1,fi.2⟩
  have I2:Inv X a_ Z (upd H s.heap.objs.size (.tup [.int i,x])) {s with heap:=h',toks:=s.toks+1}:=I1.turned2 (λb o h1 h2 e1=>by
   by_cases hb:b=s.heap.objs.size
   ·subst hb;have e2:(s.heap.push {cls:=.type "tuple",data:=.seq #[.int i s.toks,u]}).get? s.heap.objs.size=some {cls:=.type "tuple",data:=.seq #[.int i s.toks,u]}:=Jp _ rfl;rw[e2]at e1;cases e1;exact ht
   ·exact k b o h1 h2 ((Heap.get?_push_ne _ _ _ hb).symm.trans e1)) Q5 N4
  refine⟨.ref s.heap.objs.size,rfl,wpAny_letOwnedTupleGo_enum M9 λh2 MF Lp=>?_⟩
  obtain⟨f0,f1,f2,f3,f4,f5⟩:=Q5;have I3:Inv X a_ Z (upd H s.heap.objs.size (.tup [.int i,x])) {s with heap:=h2,toks:=s.toks+1}:=I2.turned (λb o hb e1=>(Lp.2 b hb).trans e1) f0 f1 f3 f4 f5
  refine⟨.ref s.heap.objs.size,_,I3,rfl,⟨_,rfl,hp,x,λys hy=>by rw[I.list_inj hy hq];exact hx,rfl⟩,⟨⟨_,MF⟩,?_⟩,λb hb=>?_⟩
  ·exact Le.at λo e1=>(Lp.2 it (Jv Lq)).trans e1
  ·rcases Jl.mp hb with rfl|hb
   ·exact f0
   ·have e':b=it:=by simpa using hb
    subst e';exact N4.1
 done:=by
  intro X hP hw hK hc i a_ s Z H E I hf st hg;subst hP hw hK;obtain⟨xs,hq,hx⟩:=hg;obtain⟨g_,rv,p,hz⟩:=I.list hq;obtain⟨⟨old,he⟩,J_⟩:=st;obtain⟨f0,f1,f2,f3,f4,f5⟩:=hf it (by simp)
  have hl:=rv.length;exact wpAny_pyNext_enum_end (I.ok.hd hc) he J_ p.isList (by simp;omega) λh' eb=>⟨rfl,I.turned (λb o hb e=>eb b o hb e) f0 f1 f3 f4 f5⟩
 self:=λ_ _ _ _ _ st h=>let ⟨⟨_,he⟩,_⟩:=st;wpAny_pyIter_enum he h
theorem iW:∀{ds:List D}{k i:Nat}{d:D},ds[i]?=some d->(cy k ds)[i]?=some (.tup [.int (k+i:Nat),d])
 |[],_,_,_,h=>by simp at h
 |x::r,k,0,d,h=>by
  have e:x=d:=by simpa using h
  subst e;rfl
 |x::r,k,i+1,d,h=>by
  have:=iW (k:=k+1) (by simpa using h)
  rw[show k+1+i=k+(i+1) by omega]at this
  exact this
theorem dL:∀{ds:List D}{k:Nat},(cy k ds).length=ds.length
 |[],_=>rfl
 |x::r,k=>by
  show (cy (k+1) r).length+1=r.length+1;rw[dL]
theorem xX{K:Ko}(sq:SqF K H0 p vs)(dl:DenL K H0 ds vs):ItOk K H0 (Ite K p) (cy 0 ds) (λ_=>True):=by
 have Kq:=dl.length;refine⟨λi H M t rm s hi=>?_,λi H M x H' t rm s hi y=>?_,λH M t rm s=>?_⟩
 ·rw[dL]at hi;exact⟨vs,vs[i],(t.f _ _ sq).sq,by simp⟩
 ·obtain⟨q,rfl,hq,v,hv,rfl⟩:=y;obtain⟨d,e1,e2⟩:=(dl.mono t).get' (hv vs (t.f _ _ sq).sq);refine⟨.new hq,rm.grow hq,.tup [.int i,d],?_,⟨q,[.int i,v],rfl,.inl (.inl ah),⟨_,_,rfl,rfl,_,_,rfl,e2.mono (.new hq),rfl⟩⟩⟩;have:=iW (k:=0) e1;simpa using this
 ·rw[dL];exact⟨vs,(t.f _ _ sq).sq,by omega⟩
theorem we{K:Ko}:ItOk K H0 (Ite K p) (cy 0 ds) (λM=>M p=some (.lst ds)):=by
 refine⟨λi H M t rm s hi=>?_,λi H M x H' t rm s hi y=>?_,λH M t rm s=>?_⟩
 ·obtain⟨vs,e,dl⟩:=rm p _ s;rw[dL]at hi;have MP:i<vs.length:=by rw[<-dl.length];exact hi
  exact⟨vs,vs[i],.of e,by simp⟩
 ·obtain⟨vs,e,dl⟩:=rm p _ s;obtain⟨q,rfl,hq,v,hv,rfl⟩:=y;obtain⟨d,e1,e2⟩:=dl.get' (hv vs (.of e));refine⟨.new hq,rm.grow hq,.tup [.int i,d],?_,⟨q,[.int i,v],rfl,.inl (.inl ah),⟨_,_,rfl,rfl,_,_,rfl,e2.mono (.new hq),rfl⟩⟩⟩;have:=iW (k:=0) e1;simpa using this
 ·obtain⟨vs,e,dl⟩:=rm p _ s;rw[dL];exact⟨vs,.of e,by rw[dl.length];exact Jn _⟩
noncomputable def E1(K:Ko)(ta:TA):TI:=λZ H R=>ta Z H λvs H1=>∃a,vs=[.ref a]/\(∃xs,SqL K H1 a xs)/\R (Ite K a) H1
theorem yL(hg:Gl X "enumerate")(hm:X.mg "enumerate"=none)(ha:PA X [a] ta)(hs:starEach [a] X.env=[(false,eval a X.env)]):PI X (.Tuple KI x1 pt) (.Call (.Name "enumerate" p) [a] [] pos) (E1 X.K ta):=by
 intro a_ s Z H R I h;refine Call_ (fR I hg hm (u:=.type "enumerate") (by decide +kernel) (PyProof.Rows.callWith_type1 (thn (ha pos a_ s Z H _ I h) λus s1 ⟨vs,H1,I1,r1,q1⟩=>?_) hs rfl))
 obtain⟨b,e,⟨xs,hq⟩,q⟩:=q1;subst e;obtain⟨u,rfl,ru⟩:=i9 r1;cases ru;obtain⟨g_,rv,pl,hz⟩:=I1.list hq;refine call_enumerate_list pl.isList λh' he J_ hsz k=>?_
 refine wpAny_pyIter_enum he ?_;refine⟨s1.heap.objs.size+1,[s1.heap.objs.size+1,s1.heap.objs.size],_,_,H1,rfl,I1.kept k,tJ b (s1.heap.objs.size+1) s1.heap.objs.size (Nat.succ_ne_self _),⟨⟨_,he⟩,J_⟩,λc hc=>?_,q⟩
 have M8:s1.heap.objs.size<=c:=by
  rcases Jl.mp hc with rfl|hc
  ·exact Kj _
  ·have e':c=s1.heap.objs.size:=by simpa using hc
   exact Nat.le_of_eq e'.symm
 exact I1.fpOk M8 (I1.j_.fresh M8)
theorem An(hg:Gl X "enumerate")(hm:X.mg "enumerate"=none)(ha:PE X a (low X.K cls E2 ta))(hs:starEach [a] X.env=[(false,eval a X.env)]) :
  PI X (.Tuple KI x1 pt) (.Call (.Name "enumerate" p) [a] [] pos) (ly X.K cls E2 λZ M R E=>ta Z M (λx M1=>match x with
  |.f_ ds=>R (cy 0 ds) (λ_=>True) M1
  |.ref a=>match M1 a with
   |some (.lst ds)=>R (cy 0 ds) (λM=>M a=some (.lst ds)) M1
   |_=>False
  |_=>False) E):=
 (yL hg hm (bV ha pa_nil hs) hs).imp λZ H R2 k_=>ex9 k_ λh_ M R E3 rm ds lk h k=>aY rm ds lk h λv H1 x M1 dx n_ t1 q1=>by
  cases x with
  |f_ es=>
   obtain⟨q,vs,rfl,sq,dl⟩:=dx;exact⟨q,rfl,⟨vs,sq.sq⟩,k _ _ _ _ _ (xX sq dl) n_ t1 q1⟩
  |ref a=>
   cases (show v=.ref a from dx);have q1:(match M1 a with
    |some (.lst ds)=>R (cy 0 ds) (λM=>M a=some (.lst ds)) M1
    |_=>False):=q1
   split at q1
   ·rename_i ds e;obtain⟨vs,eH,dl⟩:=n_ a _ e;exact⟨a,rfl,⟨vs,.of eH⟩,k _ _ _ _ _ we n_ t1 q1⟩
   ·exact q1.elim
  |_=>exact q1.elim
end
section
variable {X:Cx}{s:Shared}{h':Heap}
theorem Inv.turnedL{t':Nat}{ch:List Addr}(I:Inv X a_ Z H s)(k:∀b o,b∉ch->s.heap.get? b=some o->h'.get? b=some o)(f:∀b∈ch,fx X a_ H b):Inv X a_ Z H {s with heap:=h',toks:=t'}:=by
 have Na:∀b u,H b=some u->b∉ch:=λb u e z=>by rw[(f b z).1]at e;cases e
 refine I.step (λb hb=>?_) (λb o _ _ hc e _=>k b o hc e) (λb o _ _ hc e _=>⟨o.slots,k b o hc e⟩) (λ_ _ _ _ n=>n)
  (λb o hc e=>⟨o,k b o hc e⟩) (λ_ _ e=>e) (λ_ _ _ e=>e) (λb ps e=>⟨#[],by rw[e];simp⟩) (λm hm=>?_) (λb u e=>?_) I.bare
 ·obtain⟨hn,hL,_,h1,h2,h3⟩:=f b hb;exact⟨h1,hL,h2,h3⟩
 ·obtain⟨o,es,ep,ho,r⟩:=hm;exact⟨o,es,ep,k _ o (λz=>(f _ z).2.1 rfl) ho,r⟩
 ·refine (I.j_ b u e).stay (λc v hc q=>k c v ?_ q) (λ_ q=>q) λ_ _ q=>q
  rcases hc with z|z
  ·rw[z];exact Na b u e
  ·exact Na c _ z
noncomputable def Itz(K:Ko)(a b:Addr):It:=
 ⟨λi H=>∃xs ys x y,SqL K H a xs/\SqL K H b ys/\xs[i]?=some x/\ys[i]?=some y,λi H v H'=>∃p,v=.ref p/\H p=none/\∃x y,(∀xs,SqL K H a xs->xs[i]?=some x)/\(∀ys,SqL K H b ys->ys[i]?=some y)/\H'=upd H p (.tup [x,y]),λi H=>∃xs ys,SqL K H a xs/\SqL K H b ys/\(xs.length<=i\/ys.length<=i)⟩
theorem uF{P:Program}{w:World}{K:Ko}{KI:List Expr}{x1:Nat}{pos:Pos}(a b z TI TO i1 i2:Addr)(D:ZipApart z TI TO i1 i2 a b):Turn P w K (.Tuple KI x1 pos) (Itz K a b) [z,TI,TO,i1,i2] z (λi h=>IsZip h z TI TO .none/\IsPair h TI (.ref i1) (.ref i2)/\(∃c d,IsPair h TO c d)/\h.IsListIter i1 a i/\h.IsListIter i2 b i) where
 mem:=by simp
 obj:=λi h st c hc=>by
  obtain⟨h1,h2,⟨_,_,h3⟩,h4,h5⟩:=st;simp only[Jl,Kc,or_false]at hc;rcases hc with rfl|rfl|rfl|rfl|rfl
  ·exact⟨_,h1,λv q=>by have q':Data.fields _=Data.cell v:=q;cases q'⟩
  ·exact⟨_,h2,λv q=>by have q':Data.seq _ _=Data.cell v:=q;cases q'⟩
  ·exact⟨_,h3,λv q=>by have q':Data.seq _ _=Data.cell v:=q;cases q'⟩
  ·obtain⟨o,e1,c,d⟩:=h4;exact⟨o,e1,λv q=>by rw[d]at q;cases q⟩
  ·obtain⟨o,e1,c,d⟩:=h5;exact⟨o,e1,λv q=>by rw[d]at q;cases q⟩
 keep:=λi h h' st k=>by
  obtain⟨h1,h2,⟨c,d,h3⟩,h4,h5⟩:=st;exact⟨k z (by simp) _ h1,k TI (by simp) _ h2,⟨c,d,k TO (by simp) _ h3⟩,h4.at λo e1=>k i1 (by simp) o e1,h5.at λo e1=>k i2 (by simp) o e1⟩
 item:=by
  intro X hP hw hK hc i a_ s Z H E I hf st hg;subst hP hw hK;obtain⟨xs,ys,x,y,hq,N5,hx,hy⟩:=hg;obtain⟨g_,rv,p,hz⟩:=I.list hq;obtain⟨s_,Pf,p2,OH⟩:=I.list N5;obtain⟨u,hu,ru⟩:=rv.get hx;obtain⟨u2,Sg,Sh⟩:=Pf.get hy;obtain⟨h1,h2,⟨c,d,h3⟩,h4,h5⟩:=st;have lt:∀{c o},s.heap.get? c=some o->c<s.heap.objs.size:=λe=>Jt e
  refine wpAny_pyNext_zip_item D h1 h2 h3 h4 h5 p.isList p2.isList (by simpa using hu) (by simpa using Sg) λh' a1 a2 a3 a4 a5 a6 k=>?_
  have hp:H s.heap.objs.size=none:=I.j_.fresh (Jn _);have I1:Inv X a_ Z (upd H s.heap.objs.size (.tup [x,y])) {s with heap:=s.heap.push {cls:=.type "tuple",data:=.seq #[u,u2]},toks:=s.toks}:=
   I.laid (λb o e1=>Jj _ e1) (Jn _) ⟨by show 2<=sizeLine;decide,[u,u2],.cons ru (.cons Sh .nil),⟨_,Jp _ rfl,rfl,_,rfl⟩⟩
  have A_:∀b∈[z,TI,TO,i1,i2],b<s.heap.objs.size:=λb hb=>by
   simp only[Jl,Kc,or_false]at hb;rcases hb with rfl|rfl|rfl|rfl|rfl
   ·exact lt h1
   ·exact lt h2
   ·exact lt h3
   ·obtain⟨_,e,_⟩:=h4;exact lt e
   ·obtain⟨_,e,_⟩:=h5;exact lt e
  have L0:∀b∈[z,TI,TO,i1,i2],fx X a_ (upd H s.heap.objs.size (.tup [x,y])) b:=λb hb=>⟨by rw[ai (JG (A_ b hb))];exact (hf b hb).1,(hf b hb).2⟩
  have I2:=I1.turnedL (t':=s.toks) (λb o hb e1=>by
   simp only[Jl,Kc,or_false,not_or]at hb;obtain⟨n1,n2,n3,n4,n5⟩:=hb;by_cases hb:b=s.heap.objs.size
   ·subst hb;have e2:(s.heap.push {cls:=.type "tuple",data:=.seq #[u,u2]}).get? s.heap.objs.size=some {cls:=.type "tuple",data:=.seq #[u,u2]}:=Jp _ rfl;rw[e2]at e1;cases e1;exact a5
   ·exact k b o n1 n3 n4 n5 ((Heap.get?_push_ne _ _ _ hb).symm.trans e1)) L0
  refine⟨.ref s.heap.objs.size,rfl,wpAny_letOwnedTupleGo_zip a1 λQ4 MF Lp=>?_⟩
  have I3:=I2.turnedL (t':=s.toks) (λb o hb e1=>(Lp.2 b (λq=>hb (by simp[q]))).trans e1) L0
  refine⟨.ref s.heap.objs.size,_,I3,rfl,⟨_,rfl,hp,x,y,λSi Qb=>by rw[I.list_inj Qb hq];exact hx,λSi Qb=>by rw[I.list_inj Qb N5];exact hy,rfl⟩,⟨MF,?_,⟨u,u2,?_⟩,?_,?_⟩,λb hb=>(L0 b hb).1⟩
  ·exact (Lp.2 TI D.TIz).trans (k _ _ D.TIz D.TITO D.TIi1 D.TIi2 h2)
  ·exact (Lp.2 TO D.TOz).trans a2
  ·exact a3.at λo e1=>(Lp.2 i1 D.i1z).trans e1
  ·exact a4.at λo e1=>(Lp.2 i2 D.i2z).trans e1
 done:=by
  intro X hP hw hK hc i a_ s Z H E I hf st hg;subst hP hw hK;obtain⟨xs,ys,hq,N5,hx⟩:=hg;obtain⟨g_,rv,p,hz⟩:=I.list hq;obtain⟨s_,Pf,p2,OH⟩:=I.list N5;obtain⟨h1,h2,⟨c,d,h3⟩,h4,h5⟩:=st;have hl:=rv.length;have N2:=Pf.length;refine wpAny_pyNext_zip_end (I.ok.hd hc) D h1 h2 h3 h4 h5 p.isList p2.isList ?_ λh' eb=>⟨rfl,I.turnedL (λb o hb e=>?_) hf⟩
  ·rcases hx with hx|hx
   ·exact .inl (by simp;omega)
   ·exact .inr (by simp;omega)
  ·simp only[Jl,Kc,or_false,not_or]at hb;exact eb b o hb.1 hb.2.2.1 hb.2.2.2.1 hb.2.2.2.2 e
 self:=λ_ _ _ _ _ st h=>wpAny_pyIter_zip st.1 h
def RdQ(K:Ko)(H0:Hp)(p:Addr)(ds:List D)(S:MH->Prop):Prop:=∀H M,TM K H0 H->RelM K M H->S M->∃vs,SqL K H p vs/\DenL K H ds vs
theorem wt{K:Ko}{x:D}{v:V}(dx:Den K H0 x v)(rm:RelM K M H0)(h:rLs x M k):∃p ds S,v=.ref p/\RdQ K H0 p ds S/\S M/\k ds S:=by
 cases x with
 |f_ es=>
  obtain⟨q,vs,rfl,sq,dl⟩:=dx;exact⟨q,es,_,rfl,λH M t _ _=>⟨vs,(t.f _ _ sq).sq,dl.mono t⟩,trivial,h⟩
 |ref b=>
  cases (show v=.ref b from dx);dsimp only[rLs]at h;split at h
  ·rename_i ys e;exact⟨b,ys,_,rfl,λH M t rm s=>let ⟨ws,z,dl⟩:=rm b (.lst ys) s;⟨ws,.of z,dl⟩,e,h⟩
  ·exact h.elim
 |_=>exact h.elim
theorem AN{K:Ko}(h1:RdQ K H0 p ds S)(h2:RdQ K H0 q es S'):ItOk K H0 (Itz K p q) (iZ ds es) (λM=>S M/\S' M):=by
 refine⟨λi H M t rm s hi=>?_,λi H M x H' t rm s hi y=>?_,λH M t rm s=>?_⟩
 all_goals
  obtain⟨vs,sq,dl⟩:=h1 H M t rm s.1;obtain⟨ws,Ny,Lv⟩:=h2 H M t rm s.2;have Kq:=dl.length;have Q6:=Lv.length
 ·simp only[iZ,Jo,List.length_zip]at hi;exact⟨vs,ws,vs[i],ws[i],sq,Ny,by simp,by simp⟩
 ·obtain⟨q,rfl,hq,v,w,hv,hw,rfl⟩:=y;obtain⟨d,e1,e2⟩:=dl.get' (hv vs sq);obtain⟨d',Pc,Ox⟩:=Lv.get' (hw ws Ny);refine⟨.new hq,rm.grow hq,.tup [d,d'],?_,⟨q,[v,w],rfl,.inl (.inl ah),⟨_,_,rfl,e2.mono (.new hq),_,_,rfl,Ox.mono (.new hq),rfl⟩⟩⟩;have ez:(ds.zip es)[i]?=some (d,d'):=List.getElem?_zip_eq_some.mpr ⟨e1,Pc⟩;simp[iZ,ez]
 ·refine⟨vs,ws,sq,Ny,?_⟩;simp only[iZ,Jo,List.length_zip];omega
noncomputable def Gp(K:Ko)(ta:TA):TI:=λZ H R=>ta Z H λvs H1=>∃a b,vs=[.ref a,.ref b]/\(∃xs,SqL K H1 a xs)/\(∃ys,SqL K H1 b ys)/\R (Itz K a b) H1
theorem Cw(hg:Gl X "zip")(hm:X.mg "zip"=none)(ha:PA X [a,b] ta)(hs:starEach [a,b] X.env=[(false,eval a X.env),(false,eval b X.env)])(Lp:starEach [b] X.env=[(false,eval b X.env)]):PI X (.Tuple KI x1 pt) (.Call (.Name "zip" p) [a,b] [] pos) (Gp X.K ta):=by
 intro a_ s Z H R I h;refine Call_ (fR I hg hm (u:=.type "zip") (by decide +kernel) (PyProof.Rows.callWith_type1 (thn (ha pos a_ s Z H _ I h) λus s1 ⟨vs,H1,I1,r1,q1⟩=>?_) (by rw[hs,Lp]) (by rw[Lp];rfl)))
 obtain⟨c,d,e,⟨xs,hq⟩,⟨ys,N5⟩,q⟩:=q1;subst e;obtain⟨u,w,rfl,ru,KO⟩:=r1.two;cases ru;cases KO;obtain⟨g_,rv,pl,hz⟩:=I1.list hq;obtain⟨s_,Pf,Q7,OH⟩:=I1.list N5;have a1:c<s1.heap.objs.size:=by obtain⟨_,_,e,_⟩:=pl;exact Jt e
 have a2:d<s1.heap.objs.size:=by obtain⟨_,_,e,_⟩:=Q7;exact Jt e
 refine call_zip_2 pl.isList Q7.isList λh' h1 h2 h3 h4 h5 _ k=>?_
 refine wpAny_pyIter_zip h1 ?_;refine⟨s1.heap.objs.size+4,[s1.heap.objs.size+4,s1.heap.objs.size+2,s1.heap.objs.size+3,s1.heap.objs.size,s1.heap.objs.size+1],_,_,H1,rfl,I1.kept k,uF c d _ _ _ _ _ (zipApart_new a1 a2),⟨h1,h2,⟨_,_,h3⟩,h4,h5⟩,λb hb=>?_,q⟩
 have M8:s1.heap.objs.size<=b:=by
  simp only[Jl,Kc,or_false]at hb;rcases hb with rfl|rfl|rfl|rfl|rfl<;>first|exact Jn _|exact Kk _ _
 exact I1.fpOk M8 (I1.j_.fresh M8)
theorem C3(hg:Gl X "zip")(hm:X.mg "zip"=none)(ha:PE X a (low X.K cls E2 ta))(hb:PE X b (low X.K cls E2 tb))(hs:starEach [a,b] X.env=[(false,eval a X.env),(false,eval b X.env)])(Lp:starEach [b] X.env=[(false,eval b X.env)]) :
  PI X (.Tuple KI x1 pt) (.Call (.Name "zip" p) [a,b] [] pos) (ly X.K cls E2 λZ M R E=>ta Z M (λx M1=>tb Z M1 (λy M2=>rLs x M2 λxs S=>rLs y M2 λys S'=>R (iZ xs ys) (λM=>S M/\S' M) M2) E) E):=
 (Cw hg hm (bV ha (bV hb pa_nil Lp) (by rw[hs,Lp])) hs Lp).imp λZ H R2 k_=>ex9 k_ λh_ M R E3 rm ds lk h k=>qg rm ds lk h λv w H2 x y M2 dx dy Kt t2 q2=>by
  obtain⟨p,es,S,rfl,r1,s1,q2⟩:=wt dx Kt q2;obtain⟨q,fs,S',rfl,r2,s2,q2⟩:=wt dy Kt q2;exact⟨p,q,rfl,(r1 _ _ (.refl _) Kt s1).imp λ_ z=>z.1,(r2 _ _ (.refl _) Kt s2).imp λ_ z=>z.1,k _ _ _ _ _ (AN r1 r2) Kt t2 q2⟩
end
section
variable {A:Around}{s:Shared}
end
section
variable {prog:Program}{w:World}{A:Around}{E:Value->Shared->Prop}{s:Shared}{z TI TO i1 i2 l1 l2 S:Addr}{xs ys:Array Value}{i:Nat}
end
section
variable {prog:Program}{w:World}{A:Around}{s:Shared}{R:Result->Shared->Prop}{z TI TO i1 i2 l1 l2 S lo:Addr}{xs ys:Array Value}
end
section
variable {prog:Program}{w:World}{A:Around}{E:Value->Shared->Prop}{s:Shared}{R:Result->Shared->Prop}{z TI TO i1 i2 l1 l2 S lo:Addr}{xs ys:Array Value}
end
section
variable {X:Cx}{s:Shared}{h':Heap}
end
section
variable {X:Cx}
end
section
variable {A:Around}{s:Shared}{items:Array Value}
end
theorem kY:∀{ds:List D}{ns:List Int},ml ds=some ns->ds=ns.map D.int
 |[],ns,h=>by cases h;rfl
 |d::r,ns,h=>by
  cases d<;>simp only[ml]at h<;>try cases h
  split at h
  ·rename_i ms e;cases h;rw[kY e];rfl
  ·cases h
theorem oJ:∀(ns:List Int)(n m:Int),m∈n::ns->(∀a,a∈n::ns->a<=m)->ns.foldl (mmI true) n=m
 |[],n,m,h,_=>by simp at h;simp[h]
 |a::ns,n,m,h,hb=>by
  rw[List.foldl_cons];refine oJ ns _ m ?_ λb L4=>?_
  ·have h1:=hb n (by simp)
   have h2:=hb a (by simp)
   unfold mmI;simp only[if_true];rcases Jl.mp h with rfl|h
   ·rw[Ji (by omega)];simp
   ·rcases Jl.mp h with rfl|h
    ·by_cases z:m > n
     ·rw[Jr z];simp
     ·rw[Ji z];have:n=m:=by omega
      simp[this]
    ·exact Jg _ h
  ·rcases Jl.mp L4 with rfl|L4
   ·have h1:=hb n (by simp)
    have h2:=hb a (by simp)
    unfold mmI;simp only[if_true];split<;>assumption
   ·exact hb b (by simp[L4])
theorem oS:∀(ns:List Int)(n m:Int),m∈n::ns->(∀a,a∈n::ns->m<=a)->ns.foldl (mmI false) n=m
 |[],n,m,h,_=>by simp at h;simp[h]
 |a::ns,n,m,h,hb=>by
  rw[List.foldl_cons];refine oS ns _ m ?_ λb L4=>?_
  ·have h1:=hb n (by simp)
   have h2:=hb a (by simp)
   unfold mmI;simp only[JW,if_false];rcases Jl.mp h with rfl|h
   ·rw[Ji (by omega)];simp
   ·rcases Jl.mp h with rfl|h
    ·by_cases z:m<n
     ·rw[Jr z];simp
     ·rw[Ji z];have:n=m:=by omega
      simp[this]
    ·exact Jg _ h
  ·rcases Jl.mp L4 with rfl|L4
   ·have h1:=hb n (by simp)
    have h2:=hb a (by simp)
    unfold mmI;simp only[JW,if_false];split<;>assumption
   ·exact hb b (by simp[L4])
noncomputable def gI(mx:Bool):String:=if mx=true then "max" else "min"
section
variable {X:Cx}
theorem uV(rm:RelM X.K M H)(dx:Den X.K H x v)(e:ak M x=some ds):∃a vs,v=.ref a/\RdL X.K H a vs/\DenL X.K H ds vs:=by
 cases x with
 |f_ es=>
  cases e;obtain⟨a,vs,rfl,sq,dl⟩:=dx;exact⟨a,vs,rfl,sq.rd,dl⟩
 |ref a=>
  cases q:M a with
  |none=>simp[ak,q]at e
  |some o=>
   cases o with
   |lst es=>
    simp[ak,q]at e;subst e;cases (show v=.ref a from dx);obtain⟨vs,e1,dl⟩:=rm a _ q;exact⟨a,vs,rfl,.inl (.inl e1),dl⟩
   |_=>simp[ak,q]at e
 |_=>cases e
theorem CG(mx:Bool)(hc:X.calm=true)
  (I:Inv X a_ Z H s)(rv:RelV v v2)(dx:Den X.K H x v)(rm:RelM X.K M H)(q:pG mx x M Q)(b_:Back X.K H Q Q2) :
  wpAny (model X.prog X.w) X.A (call (.builtin (gI mx)) [v2] [("default",Value.int 0 t0)]) (EP X a_ Z Q2) Ex s:=by
 have hh:=I.ok.hd hc;unfold pG at q;split at q
 ·rename_i ds e1;obtain⟨a,vs,rfl,rd,dl⟩:=uV rm dx e1;cases rv;obtain⟨_,g_,n,r,_,hg⟩:=I.rdL rd;have hl:s.heap.IsList a g_.toArray:=⟨_,hg,rfl,n,rfl⟩;split at q
  ·rename_i e2;have z:=kY e2;subst z;cases (show vs=[] from dl);cases r;have Q8:s.heap.IsList a (intItems #[]):=by simpa [intItems] using hl
   cases mx with
   |true=>exact wZ (kw:=[("default",Value.int 0 t0)]) (dv:=some (.int 0 t0)) hh Q8 (by unfold argsOk;kernel_rfl) rfl (λz=>nomatch z) (λ_ d h' tk ed k=>by cases ed;exact⟨.int 0,H,I.kept k,⟨_,rfl⟩,b_ _ _ _ _ bX rm (.refl _) q⟩) (λz=>absurd z (by decide))
   |false=>exact wK (kw:=[("default",Value.int 0 t0)]) (dv:=some (.int 0 t0)) hh Q8 (by unfold argsOk;kernel_rfl) rfl (λz=>nomatch z) (λ_ d h' tk ed k=>by cases ed;exact⟨.int 0,H,I.kept k,⟨_,rfl⟩,b_ _ _ _ _ bX rm (.refl _) q⟩) (λz=>absurd z (by decide))
  ·rename_i m ns e2;have z:=kY e2;subst z;have zv:=dl.int_of;subst zv;have hi:=qe r;obtain⟨xs,e⟩:=hi.allInts.items;have Mp:m::ns=xs.toList.map (·.1):=by rw[<-hi.numsOf,<-nums_intItems,<-e]
   have hsz:0<xs.size:=by
    have h3:0<(m::ns).length:=by simp
    rw[Mp,Jo,Array.length_toList]at h3;exact h3
   rw[e]at hl;cases mx with
   |true=>
    have fin:0<xs.size->∀v h' tk,(intItems xs)[argBest (λi j=>decide (numAt xs i > numAt xs j)) (xs.size-1)]?=some v->(∀b o,s.heap.get? b=some o->h'.get? b=some o)->EP X a_ Z Q2 v {s with heap:=h',toks:=tk}:=by
     intro _ v h' tk hv k;obtain⟨t,rfl⟩:=intItems_at hv;obtain⟨h1,h2⟩:=argBest_gt (numAt xs) (xs.size-1);refine⟨.int _,H,I.kept k,⟨_,rfl⟩,b_ _ _ _ _ bX rm (.refl _) ?_⟩;rw[<-oJ ns m (numAt xs (argBest (λi j=>decide (numAt xs i > numAt xs j)) (xs.size-1))) ?_ ?_]
     ·exact q
     ·rw[Mp,numAt_eq];exact getD_mem (by rw[Jo,Array.length_toList];omega)
     ·intro b hb;rw[Mp]at hb;obtain⟨j,hj,rfl⟩:=mem_getD hb;rw[Jo,Array.length_toList]at hj;rw[<-numAt_eq];exact h2 j (by omega)
    exact wZ (kw:=[("default",Value.int 0 t0)]) (dv:=some (.int 0 t0)) hh hl (by unfold argsOk;kernel_rfl) rfl (λz=>nomatch z) (λz=>by omega) fin
   |false=>
    have fin:0<xs.size->∀v h' tk,(intItems xs)[argBest (λi j=>decide (numAt xs i<numAt xs j)) (xs.size-1)]?=some v->(∀b o,s.heap.get? b=some o->h'.get? b=some o)->EP X a_ Z Q2 v {s with heap:=h',toks:=tk}:=by
     intro _ v h' tk hv k;obtain⟨t,rfl⟩:=intItems_at hv;obtain⟨h1,h2⟩:=argBest_lt (numAt xs) (xs.size-1);refine⟨.int _,H,I.kept k,⟨_,rfl⟩,b_ _ _ _ _ bX rm (.refl _) ?_⟩;rw[<-oS ns m (numAt xs (argBest (λi j=>decide (numAt xs i<numAt xs j)) (xs.size-1))) ?_ ?_]
     ·exact q
     ·rw[Mp,numAt_eq];exact getD_mem (by rw[Jo,Array.length_toList];omega)
     ·intro b hb;rw[Mp]at hb;obtain⟨j,hj,rfl⟩:=mem_getD hb;rw[Jo,Array.length_toList]at hj;rw[<-numAt_eq];exact h2 j (by omega)
    exact wK (kw:=[("default",Value.int 0 t0)]) (dv:=some (.int 0 t0)) hh hl (by unfold argsOk;kernel_rfl) rfl (λz=>nomatch z) (λz=>by omega) fin
  ·exact q.elim
 ·exact q.elim
theorem EI{te:St3->MH->VK3->XN->Prop}{k1:Nat}{k2 kp:Pos}(mx:Bool)(hc:X.calm=true)(ha:PE X e (low X.K cls E2 te))(hg:Gl X (gI mx))(hm:X.mg (gI mx)=none)(hs:starEach (e::[]) X.env=(false,eval e X.env)::starEach [] X.env) :
  PE X (.Call (.Name (gI mx) p) [e] [⟨some "default",.Constant (.int 0) k1 k2,kp⟩] pos) (low X.K cls E2 λZ M Q E=>te Z M (λx M1=>pG mx x M1 Q) E):=by
 intro a_ s Z H Q2 I h;refine wpAny_Call_Name_kw (fR I hg hm (u:=.builtin (gI mx)) (by cases mx<;>decide +kernel) ?_ (by cases mx<;>decide +kernel) (by cases mx<;>decide +kernel))
 obtain⟨h_,M,Q,E3,rm,ds,lk,h,b_⟩:=h;have hA:zu (low X.K cls E2 te) tNil Z H (λvs H1=>∃x v M1,vs=[v]/\Den X.K H1 x v/\RelM X.K M1 H1/\pG mx x M1 Q/\Back X.K H1 Q Q2):=aY rm ds lk h λv H1 x M1 dx n_ t1 q1=>⟨x,v,M1,rfl,dx,n_,q1,b_.mono t1⟩
 refine callWith_kw (thn ((bV ha pa_nil hs) pos a_ s Z H _ I hA) λus s1 ⟨vs,H1,I1,r1,x,v,M1,ev,dx,n_,q1,OI⟩=>kws_cons ?_) (by rw[hs];rfl) (by rw[hs];rfl)
 subst ev;obtain⟨u,rfl,ru⟩:=i9 r1;refine thn (vM a_ s1 Z H1 (λv H'=>v=.int 0/\H'=H1) I1 ⟨rfl,rfl⟩) λw s2 ⟨wv,H2,I2,rw,e1,e2⟩=>kws_nil ?_
 subst e1;subst e2;obtain⟨t0,rfl⟩:=rw;exact CG mx hc I2 ru dx n_ q1 OI
theorem wT{s:Shared}(I:Inv X a_ Z H s):(s.heap.objs.size == sysModules)=false:=by
 have h:mainGlobals<s.heap.objs.size:=(I.mod.glob.keeps I.bk).lt;have h2:sysModules<mainGlobals:=by decide
 exact JP.mpr (Nat.ne_of_gt (Nat.lt_trans h2 h))
theorem Cb(tk:Bool):PE X (.Dict [] [] pos) (low X.K cls E2 λZ M Q E=>∀p,M p=none->Q (.ref p) (put M p (if tk=true then .dt [] [] else .dk [] []))):=by
 refine λa_ s Z H Q2 I k_=>ex9 k_ λh_ M Q E3 rm ds lk q b_=>?_
 have hp:H s.heap.objs.size=none:=I.j_.fresh (Jn _);have hb:=wT I;have q0:=q s.heap.objs.size (rm.fresh hp);cases tk with
 |false=>
  have OJ:ObjOk X.prog X.w (upd H s.heap.objs.size (.dK [])) (s.heap.push {cls:=.type "dict",data:=.dict #[]}) s.heap.objs.size (.dK []):=⟨Nat.zero_le _,hb,[],.nil,Heap.DictOf.new s.heap⟩;have I1:=I.laid (a:=s.heap.objs.size) (o:=.dK []) (h':=s.heap.push {cls:=.type "dict",data:=.dict #[]}) (t':=s.toks) (λ_ _ q=>Jj _ q) (Jn _) OJ
  have n_:RelM X.K (put M s.heap.objs.size (.dk [] [])) (upd H s.heap.objs.size (.dK [])):=rm.lay hp ⟨[],ah,rfl,rfl⟩;exact wpAny_Dict_empty ⟨.ref s.heap.objs.size,_,I1,rfl,b_ _ _ (.ref s.heap.objs.size) _ rfl n_ (.new hp) q0⟩
 |true=>
  obtain⟨ob,es,ep,hq,hx,hd,he,_,_⟩:=(Heap.DictOfH.new (knd:=tupleKind (intKind X.prog X.w)) s.heap);have tb:ax s.heap.objs.size [] (s.heap.push {cls:=.type "dict",data:=.dict #[]}):=⟨ob,es,ep,hq,hx,hd,he⟩;have OJ:ObjOk X.prog X.w (upd H s.heap.objs.size (.ext (ax s.heap.objs.size []))) (s.heap.push {cls:=.type "dict",data:=.dict #[]}) s.heap.objs.size (.ext (ax s.heap.objs.size [])):=
   ⟨tb,⟨ob,hq⟩,λg1 g2 ⟨o1,NA,NB,a1,a2,a3,a4⟩ kk=>⟨o1,NA,NB,kk _ a1,a2,a3,a4⟩⟩
  have I1:=I.laid (a:=s.heap.objs.size) (o:=.ext (ax s.heap.objs.size [])) (h':=s.heap.push {cls:=.type "dict",data:=.dict #[]}) (t':=s.toks) (λ_ _ q=>Jj _ q) (Jn _) OJ
  have n_:RelM X.K (put M s.heap.objs.size (.dt [] [])) (upd H s.heap.objs.size (.ext (ax s.heap.objs.size []))):=rm.lay hp ⟨[],[],ah,⟨rfl,.nil,Nat.zero_le _,hb,.nil,λx hx=>nomatch hx⟩,rfl⟩
  exact wpAny_Dict_empty ⟨.ref s.heap.objs.size,_,I1,rfl,b_ _ _ (.ref s.heap.objs.size) _ rfl n_ (.new hp) q0⟩
end
section
variable {A:Around}{s:Shared}{ob:Obj}{es:Array DictEntry}{ep:Nat}{d o:Addr}{nm:String}
end
section
variable {X:Cx}
end
theorem qT:∀{ds:List D}{ps:List (Int×Int)},tG ds=some ps->ds=ps.map prD
 |[],ps,h=>by cases h;rfl
 |d::r,ps,h=>by
  unfold tG at h;split at h
  ·rename_i e;cases e
  ·rename_i a b r' e;cases e;split at h
   ·rename_i qs e2;cases h;rw[qT e2];rfl
   ·cases h
  ·cases h
theorem kh(bt:Nat->Nat->Bool):∀k,argBest bt k<=k
 |0=>Jn _
 |k+1=>by
  unfold argBest;split
  ·exact Jn _
  ·exact Nat.le_succ_of_le (kh bt k)
theorem sV{ps:List (Int×Int)}(h:ps≠[]):wG ps∈ps:=by
 have hl:0<ps.length:=List.length_pos_iff.mpr h;unfold wG;have:=kh (λi j=>lt2 (ps.getD i (0,0)) (ps.getD j (0,0))) (ps.length-1)
 rw[List.getD_eq_getElem?_getD,Jz (by omega)]
 exact J6 _
section
variable {X:Cx}{cls:Nat->Addr}{E2:St->XK}{e:Expr}{pos p:Pos}
theorem Ek{a_:List (Addr×Obj)}{Z:St}{H:Hp}{s:Shared}{Ex:Value->Shared->Prop}{x:D}{v:V}{v2:Value}{M:MH}{Q:VK3}{Q2:VK}(hc:X.calm=true)(hu:X.A.units+64<cLine)
  (I:Inv X a_ Z H s)(rv:RelV v v2)(dx:Den X.K H x v)(rm:RelM X.K M H)(q:rMp x M Q)(b_:Back X.K H Q Q2) :
  wpAny (model X.prog X.w) X.A (call (.builtin "min") [v2]) (EP X a_ Z Q2) Ex s:=by
 have hh:=I.ok.hd hc;unfold rMp at q;split at q
 ·rename_i ds e1;obtain⟨a,vs,rfl,rd,dl⟩:=uV rm dx e1;cases rv;obtain⟨_,g_,n,r,Kq,hg⟩:=I.rdL rd;have hl:s.heap.IsList a g_.toArray:=⟨_,hg,rfl,n,rfl⟩;split at q
  ·rename_i p0 ps e2;have el:=qT e2;have ld:ds.length=vs.length:=dl.length;have lp:ds.length=(p0::ps).length:=by rw[el,Jo]
   have at_:∀(i:Nat)(u:Value),g_.toArray[i]?=some u->∃w,Den X.K H (prD ((p0::ps).getD i (0,0))) w/\RelV w u:=λi u hv=>by
    have hv:g_[i]?=some u:=by simpa using hv
    have hi:i<g_.length:=(JL.mp hv).1;have Q9:i<(p0::ps).length:=by omega
    have ed:ds[i]?=some (prD ((p0::ps).getD i (0,0))):=by
     rw[el,Jq,Jz Q9,List.getD_eq_getElem?_getD,Jz Q9];rfl
    obtain⟨w,w1,w2⟩:=dl.get ed;obtain⟨u',u1,u2⟩:=r.get w1;rw[hv]at u1;cases u1;exact⟨w,w2,u2⟩
   refine zU (ps:=λi=>(p0::ps).getD i (0,0)) hh (by omega) hl (by rw[Jx];simp at lp;omega) (λi u hv=>?_) λu h' tk hv k=>?_
   ·obtain⟨w,w2,u2⟩:=at_ i u hv;obtain⟨b,zs,rfl,sq,dz⟩:=w2;cases u2;have ez:=DenL.int_of (ns:=[((p0::ps).getD i (0,0)).1,((p0::ps).getD i (0,0)).2]) dz;subst ez;obtain⟨Tq,r2,⟨⟨c1,dd,da,sl⟩,g2,cc,m,d2⟩,_⟩:=I.tuple sq;subst cc d2;cases r2 with
    |cons h1 r2=>
     cases r2 with
     |cons h2 r2=>
      cases r2;obtain⟨t1,rfl⟩:=h1;obtain⟨t2,rfl⟩:=h2;exact⟨b,m,t1,t2,dd,sl,rfl,g2⟩
   ·have es:g_.toArray.size=(p0::ps).length:=by rw[Jx];omega
    rw[es]at hv;obtain⟨w,w2,u2⟩:=at_ _ u hv;exact⟨w,H,I.kept k,u2,b_ _ _ _ _ w2 rm (.refl _) q⟩
  ·exact q.elim
 ·exact q.elim
theorem Dz{te:St3->MH->VK3->XN->Prop}(hc:X.calm=true)(hu:X.A.units+64<cLine)(ha:PE X e (low X.K cls E2 te))(hg:Gl X "min")(hm:X.mg "min"=none)(hs:starEach (e::[]) X.env=(false,eval e X.env)::starEach [] X.env) :
  PE X (.Call (.Name "min" p) [e] [] pos) (low X.K cls E2 λZ M Q E=>te Z M (λx M1=>rMp x M1 Q) E):=by
 have QZ:CallR X (.builtin "min") (λvs H Q2=>∃x v M Q,vs=[v]/\Den X.K H x v/\RelM X.K M H/\rMp x M Q/\Back X.K H Q Q2):=by
  refine λa_ s Z H vs us Q2 I r k_=>ex9 k_ λx v M Q e dx rm q b_=>?_
  subst e;obtain⟨u,rfl,ru⟩:=i9 r;exact Ek hc hu I ru dx rm q b_
 refine (jN QZ hg hm (by decide +kernel) (bV ha pa_nil hs) (by decide +kernel) (by decide +kernel) hs (by rfl)).imp λZ H Q2 k_=>ex9 k_ λh_ M Q E3 rm ds lk h b_=>?_
 exact aY rm ds lk h λv H1 x M1 dx n_ t1 q1=>⟨x,v,M1,Q,rfl,dx,n_,q1,b_.mono t1⟩
end
noncomputable def isN(i:Int):Expr->Bool
 |.Constant k _ _=>match k with
  |.int j=>decide (j=i)
  |_=>false
 |_=>false
section
variable {X:Cx}
end
section
variable {X:Cx}{A:Around}
theorem A4{kt:List (List Int)}{k:List Int}{y:D}{v:V}{b:Addr}{R:MH->Prop}{R2:Hp->Prop}(hu:A.units+1<cLine)(I:Inv X a_ Z H s)(rm:RelM X.K M H)(q:M a=some (.dt kt ds))(sq:SqT X.K H b (k.map V.int))(dy:Den X.K H y v)(rv:RelV v r)(hz:kt.length<sizeLine)
  (h:R (put M a (.dt (aj kt k) (au kt ds k y)))) (b_:∀H' M',RelM X.K M' H'->TM X.K H H'->R M'->R2 H'):wpAny (model X.prog X.w) A (dictSet a (.ref b) r) (λ_ s'=>∃H',Inv X a_ Z H' s'/\R2 H') E s:=by
 obtain⟨vs,xs,e,z,dl⟩:=rm a _ q;have dd:=bZ I (.inl e) z;have nd:(xs.map (·.1)).Nodup:=by rw[z.kx];exact z.nd
 obtain⟨LH,h1,h2,h3,h4⟩:=gD nd z.vx rv dl dy;rw[z.kx]at h1 h3;have hsz:xs.length<=sizeLine:=by
  have:=congrArg List.length z.kx;rw[Jo]at this;omega
 refine wpAny_dictSet_heap (show A.units<cLine by omega) (eS I sq) dd λh' Mo hs=>?_
 obtain⟨ob,es,ep,hq,hx,hd,he,_,_⟩:=Mo;have tw:TM X.K H (upd H a (.ext (ax a (storedH xs k b r)))):=.put e (λ_ z=>by cases z) λ_ _ z=>by cases z
 have tb:ax a (storedH xs k b r) h':=⟨ob,es,ep,hq,hx,hd,he⟩;have I':Inv X a_ Z (upd H a (.ext (ax a (storedH xs k b r)))) {s with heap:=h',toks:=s.toks+(tupleKind (intKind X.prog X.w)).draws k}:=
  gW I (by rw[e];exact True.intro) hs ⟨ob,hq⟩ ⟨tb,⟨ob,hq⟩,λg1 g2 ⟨o1,NA,NB,a1,a2,a3,a4⟩ kk=>⟨o1,NA,NB,kk _ a1,a2,a3,a4⟩⟩
 refine⟨_,I',b_ _ _ (rm.write (u:=.dt (aj kt k) (au kt ds k y)) e (λ_ z=>by cases z) (λ_ _ z=>by cases z) ⟨LH,_,ah,⟨h1,eN z.nd,JF bc hz,z.no,h2,λx Mt=>?_⟩,h3.mono tw⟩) tw h⟩
 rcases h4 x Mt with ⟨q1,q2⟩|⟨x',m,q1,q2⟩
 ·rw[q1,q2];exact tw.t _ _ sq
 ·rw[<-q1,<-q2];exact tw.t _ _ (z.at_ x' m)
theorem A9(hu:X.A.units+64<cLine)(hk:PE X k (low X.K cls E2 tk))(hv:PE X v (low X.K cls E2 tv)) :
  PE X (.Dict [some k] [v] pos) (low X.K cls E2 λZ M Q E=>∀p,M p=none->tk Z (put M p (.dt [] [])) (λx M1=>tv Z M1 (λy M2=>fD p x y M2 Q) E) E):=by
 refine λa_ s Z H Q2 I k_=>ex9 k_ λh_ M Q E3 rm ds lk q b_=>?_
 have hp:H s.heap.objs.size=none:=I.j_.fresh (Jn _);have hb:=wT I;obtain⟨ob,es,ep,hq,hx,hd,he,_,_⟩:=(Heap.DictOfH.new (knd:=tupleKind (intKind X.prog X.w)) s.heap);have tb:ax s.heap.objs.size [] (s.heap.push {cls:=.type "dict",data:=.dict #[]}):=⟨ob,es,ep,hq,hx,hd,he⟩;have OJ:ObjOk X.prog X.w (upd H s.heap.objs.size (.ext (ax s.heap.objs.size []))) (s.heap.push {cls:=.type "dict",data:=.dict #[]}) s.heap.objs.size (.ext (ax s.heap.objs.size [])):=
  ⟨tb,⟨ob,hq⟩,λg1 g2 ⟨o1,NA,NB,a1,a2,a3,a4⟩ kk=>⟨o1,NA,NB,kk _ a1,a2,a3,a4⟩⟩
 have I1:=I.laid (t':=s.toks) (λ_ _ q=>Jj _ q) (Jn _) OJ
 have n_:RelM X.K (put M s.heap.objs.size (.dt [] [])) (upd H s.heap.objs.size (.ext (ax s.heap.objs.size []))):=rm.lay hp ⟨[],[],ah,⟨rfl,.nil,Nat.zero_le _,hb,.nil,λx hx=>nomatch hx⟩,rfl⟩
 have LW:TM X.K H (upd H s.heap.objs.size (.ext (ax s.heap.objs.size []))):=.new hp;have q0:=q s.heap.objs.size (rm.fresh hp);have hn:=pairTrees_length [some k] [v] X.env pos rfl rfl;rw[arm_eval_Dict,zip_pairTrees [some k] [v] X.env pos rfl rfl,dictDisplay_pairs (pairTrees [some k] [v] X.env pos) (by intro z;rw[z]at hn;cases hn) (by rw[hn];show 1<17;decide)]
 refine Je (wpAny_standAt (Je ?_));refine Je (wpAny_alloc (Je (JX ?_)));refine Je (pairTrees_cons_walk ?_);refine thn (hk a_ _ Z _ (λu H2=>∃x M2,Den X.K H2 x u/\RelM X.K M2 H2/\TM X.K H H2/\tv h_ M2 (λy M3=>fD s.heap.objs.size x y M3 Q) E3) I1
  ⟨h_,_,_,E3,n_,ds.mono LW,lk.mono LW,q0,λu H2 x M2 dx Kt t2 q2=>⟨x,M2,dx,Kt,LW.trans t2,q2⟩⟩) λkv s2 ⟨u,H2,I2,ru,x,M2,dx,Kt,t2,q2⟩=>?_
 refine thn (hv a_ _ Z _ (λv H3=>∃y M3,Den X.K H3 x u/\Den X.K H3 y v/\RelM X.K M3 H3/\TM X.K H H3/\fD s.heap.objs.size x y M3 Q) I2
  ⟨h_,_,_,E3,Kt,ds.mono t2,lk.mono t2,q2,λv H3 y M3 dy MQ t3 q3=>⟨y,M3,dx.mono t3,dy,MQ,t2.trans t3,q3⟩⟩) λvv s3 ⟨v,H3,I3,rv,y,M3,Sj,dy,MQ,t3,q3⟩=>?_
 refine pairTrees_nil_walk ?_;refine JX ?_;unfold fD at q3;split at q3
 ·rename_i kk ek;obtain⟨e,q4⟩:=q3;obtain⟨b,rfl,sq⟩:=jS ek Sj;cases ru;refine Je ?_;rw[List.forIn_cons];refine Je (Je (Ki (A4 (show X.A.units+1<cLine by omega) I3 MQ e sq dy rv (by show 0<sizeLine;decide) q4
   (λH' M' q_ KL qq=>b_ _ _ (.ref s.heap.objs.size) _ rfl q_ (t3.trans KL) qq)) (λ_ s4 ⟨H4,I4,q5⟩=>Jh ?_) λ_ _ z=>z))
  dsimp only;exact Jh (Jh (Jh (Jh ⟨.ref s.heap.objs.size,H4,I4,rfl,q5⟩)))
 ·exact q3.elim
end
section
variable {A:Around}{s:Shared}{ob:Obj}{es:Array DictEntry}
theorem ku(hn:(d == sysModules)=false):MeetsIn prog w (Builtin.«dict.items» ⟨[.ref d],[]⟩) (λ_ R s=>s.TypeIs (.ref d) "dict"/\R (.ok (.ret (.ref s.heap.objs.size))) {s with heap:=s.heap.push {cls:=.type "dict_items",data:=.fields #[.ref d]}}):=
 .of_wp λA R s ⟨ty,q⟩=>by
  refine Je ?_;refine Je (wpAny_notOrdered_dict ty (show wpAny _ _ (pure d) _ _ s from Jh (show wpAny _ _ (Builtin.Dict.showsAll d >>=_) _ _ s from ?_)));unfold Builtin.Dict.showsAll;rw[hn];exact Je (Jh (Je (JQ (Jh ⟨_,rfl,q⟩))))
theorem jM(vw:s.heap.IsItemsView p d)(ho:s.heap.get? d=some ob)(hd:ob.data=.dict es ep)
  (q:Q (.ref s.heap.objs.size) {s with heap:=s.heap.push {cls:=.type "dict_itemiterator",data:=.fields #[.none,.bool false,.ref d,.int 0 0,.int es.size 0,.int ep 0,.none,.none]}}):wpAny (model prog w) A (pyIter (.ref p)) Q E s:=by
 obtain⟨ov,e1,e2,e3⟩:=id vw;refine wpAny_pyIter_slot vw.typeIs F.slot_dict_items_iter (Kd F.slot_dict_items_iter vw.typeIs F.entry_dict_items_iter ?_ (F.args_dict_items_iter_1 _));refine Je (Jh (Je (Je (Ka e1 e3 rfl (Jh (Je (Je (Kb ho hd (Je (wpAny_dictEpoch ho hd ?_))))))))));simp only[show Builtin.Dict_items.ownsTuple "dict_itemiterator"=true by decide,if_true]
 refine JQ (Jh ⟨_,rfl,"dict_itemiterator",_,⟨_,Jp _ rfl,rfl⟩,F.slot_dict_itemiterator_next.lookup,?_⟩) (by simp only[sizeOk,Builtin.Dict_items.ownedTupleFields,Jx,JK,Jw,List.length_nil,sizeLine_eq];omega)
 simpa [rawInt,Builtin.Dict_items.ownedTupleFields] using q
theorem kJ{e:DictEntry}(J_:IsItemIter s.heap it d i es.size ep a1 a2)(ho:s.heap.get? d=some ob)(hd:ob.data=.dict es ep)(he:es[i]?=some e)
  (hQ:∀h',IsItemIterOut h' it d (i+1) es.size ep e.key e.val s.heap.objs.size->h'.get? s.heap.objs.size=some {cls:=.type "tuple",data:=.seq #[e.key,e.val]}->
   (∀b o,b≠it->s.heap.get? b=some o->h'.get? b=some o)->Q (some (.ref s.heap.objs.size)) {s with heap:=h'}):wpAny (model prog w) A (pyNext (.ref it)) Q E s:=by
 obtain⟨hp,g,dr,tk,os⟩:=s;have ty:Shared.TypeIs ⟨hp,g,dr,tk,os⟩ (.ref it) "dict_itemiterator":=⟨_,J_,rfl⟩;refine Je (wpAny_attempt (wpAny_callSpecial?_slot ty F.slot_dict_itemiterator_next (Kd F.slot_dict_itemiterator_next ty F.entry_dict_itemiterator_next ?_ (F.args_dict_itemiterator_next_1 _))));refine Je (Jh (Je (Je ?_)))
 first|refine Je (wpAny_typeNameOfWhole_itemiter ty (Jh (Je (wpAny_fieldsOf J_ rfl ?_))))|refine Je (wpAny_typeNameOf_itemiter ty (Jh (Je (wpAny_fieldsOf J_ rfl ?_))))
 refine Je (Jh (Je (Kb ho hd ?_)));rw[Ji (by simp)]
 refine Je (Jh (Je (wpAny_dictEpoch ho hd ?_)));rw[Ji (by simp)]
 refine Jh ?_;simp only[Kh,he];refine Je ?_
 first|refine Je (wpAny_typeNameOfWhole_itemiter ty (Jh (Je (wpAny_isOneOf_itemiter ty ?_))))|refine Je (wpAny_typeNameOf_itemiter ty (Jh (Je (wpAny_isOneOf_itemiter ty ?_))))
 refine (show wpAny _ _ (setField (.ref it) 3 (rawInt ((i:Int)+1)) >>=_) _ _ ⟨hp,g,dr,tk,os⟩ from ?_);refine Je (wpAny_setField_rec J_ (by simp) λk1 f1 u1=>?_)
 replace f1:IsItemIter k1 it d (i+1) es.size ep a1 a2:=by
  unfold IsItemIter;simpa [rawInt] using f1
 have Q_:Shared.TypeIs ⟨k1,g,dr,tk,os⟩ (.ref it) "dict_itemiterator":=⟨_,f1,rfl⟩;refine Je (JX (Je (wpAny_isOneOf_itemiter Q_ (Je (wpAny_isOneOf_itemiter Q_ ?_)))));refine Je (wpAny_newTuple ?_);have f2:IsItemIter (k1.push {cls:=.type "tuple",data:=.seq #[e.key,e.val]}) it d (i+1) es.size ep a1 a2:=Jj _ f1;generalize Ra:k1.push {cls:=.type "tuple",data:=.seq #[e.key,e.val]}=k2 at f2;have z1:k1.objs.size=hp.objs.size:=u1.1;have lt:it<hp.objs.size:=Jt J_;have t2:k2.get? hp.objs.size=some {cls:=.type "tuple",data:=.seq #[e.key,e.val]}:=by rw[<-Ra,<-z1];exact Jp _ rfl
 have r2:∀b o,b≠it->hp.get? b=some o->k2.get? b=some o:=λb o hb q=>by rw[<-Ra];exact Jj _ (u1.extBut b o hb q)
 rw[z1];refine Je (Je (Ka f2 rfl rfl (Jh ?_)));refine Je (Ka f2 rfl rfl (Je (Ka f2 rfl rfl (Je (wpAny_setField_rec f2 (by simp) λk3 f3 u3=>?_)))))
 refine Je (wpAny_setField_rec f3 (by simp) λk4 f4 u4=>?_)
 refine Je (wpAny_setField_rec f4 (by simp) λk5 f5 u5=>?_)
 refine Je (wpAny_setField_rec f5 (by simp) λk6 f6 u6=>?_)
 have up:∀b o,b≠it->k2.get? b=some o->k6.get? b=some o:=λb o hb q=>u6.extBut b o hb (u5.extBut b o hb (u4.extBut b o hb (u3.extBut b o hb q)))
 exact Je (wpAny_letGo (Jh (Jh ⟨_,rfl,Jh (hQ k6 f6 (up _ _ (Nat.ne_of_gt lt) t2) λb o hb q=>up b o hb (r2 b o hb q))⟩)))
theorem kg(cm:A.handled=none)(J_:IsItemIter s.heap it d i es.size ep a1 a2)(ho:s.heap.get? d=some ob)(hd:ob.data=.dict es ep)(he:es.size<=i)
  (hQ:∀h',Heap.ExtBut it s.heap h'->Q none {s with heap:=h'}):wpAny (model prog w) A (pyNext (.ref it)) Q E s:=by
 have ty:s.TypeIs (.ref it) "dict_itemiterator":=⟨_,J_,rfl⟩;refine Je (wpAny_attempt (wpAny_callSpecial?_slot ty F.slot_dict_itemiterator_next (Kd F.slot_dict_itemiterator_next ty F.entry_dict_itemiterator_next ?_ (F.args_dict_itemiterator_next_1 _))));refine Je (Jh (Je (Je ?_)))
 first|refine Je (wpAny_typeNameOfWhole_itemiter ty (Jh (Je (wpAny_fieldsOf J_ rfl ?_))))|refine Je (wpAny_typeNameOf_itemiter ty (Jh (Je (wpAny_fieldsOf J_ rfl ?_))))
 have nn:¬ ((Value.ref d == Value.none)=true):=JN;refine (show wpAny _ _ (if (Value.ref d == Value.none)=true then _ else _) _ _ s from ?_)
 refine Je (Jh (Je (Kb ho hd ?_)));rw[Ji (by simp)]
 refine Je (Jh (Je (wpAny_dictEpoch ho hd ?_)));rw[Ji (by simp)]
 refine Jh ?_;simp only[if_false,Kh,Array.getElem?_eq_none he];refine Je ?_
 first|refine Je (wpAny_typeNameOfWhole_itemiter ty (Jh ?_))|refine Je (wpAny_typeNameOf_itemiter ty (Jh ?_))
 refine (show wpAny _ _ (setField (.ref it) 2 .none >>=_) _ _ s from Je (Kl J_ rfl (by simp) ?_))
 refine (show wpAny _ _ (newExc (.type "StopIteration") [] >>=_) _ _ _ from Je ?_);refine Je (JQ (Je (wpAny_of_eq (by first|rfl|(simp only[firstArgMember];rfl)) (JQ (Je (wpAny_handled ?_)) (by size_fits)))) (by size_fits))
 rw[show A.in1.handled=none from cm];refine Je (Jh (wpAny_throw ?_));have fin:=λ(h':Heap) (z:Heap.ExtBut it s.heap h')=>hQ h' z
 refine Je (wpAny_isInstance ⟨_,Jp _ rfl,rfl⟩ isSubtype_stop (Jh (fin _ (((Heap.SameBut.update ..).extBut.push _).push _))))
end
def DOb(o:Obj)(ps:List (V×V)):Prop:=∃es ep,o.ExactDict/\o.data=.dict es ep/\es.size=ps.length/\∀(i:Nat) p e,ps[i]?=some p->es[i]?=some e->RelV p.1 e.key/\RelV p.2 e.val
noncomputable def Itd(d:Addr)(o:Obj)(ps:List (V×V)):It:=
 ⟨λi H=>(∃u,H d=some (.u_ o u))/\i<ps.length,λi H v H'=>∃p,v=.ref p/\H p=none/\∃kv,ps[i]?=some kv/\H'=upd H p (.tup [kv.1,kv.2]),λi H=>(∃u,H d=some (.u_ o u))/\ps.length<=i⟩
theorem Inv.frzGet{s:Shared}(I:Inv X a_ Z H s)(e:H d=some (.u_ o u)):s.heap.get? d=some o:=(I.j_ _ _ e).1
theorem qO{K:Ko}(d it:Addr){o:Obj}{ps:List (V×V)}{es:Array DictEntry}(hd:o.data=.dict es ep)(hz:es.size=ps.length)
  (hr:∀(i:Nat) p e,ps[i]?=some p->es[i]?=some e->RelV p.1 e.key/\RelV p.2 e.val) (Lq:d≠it):Turn P w K (.Tuple KI x1 pos) (Itd d o ps) [it] it (λi h=>∃a1 a2,IsItemIter h it d i es.size ep a1 a2) where
 mem:=by simp
 obj:=λi h st b hb=>by
  obtain⟨a1,a2,h1⟩:=st;have e':b=it:=by simpa using hb
  subst e';exact⟨_,h1,λv z=>by
   have z':Data.fields _=Data.cell v:=z;cases z'⟩
 keep:=λi h h' st k=>let ⟨a1,a2,h1⟩:=st;⟨a1,a2,k it (by simp) _ h1⟩
 item:=by
  intro X hP hw hK hc i a_ s Z H E I hf st hg;obtain⟨⟨u,hu⟩,hi⟩:=hg;obtain⟨a1,a2,J_⟩:=st;have fi:=hf it (by simp)
  have ME:it<s.heap.objs.size:=Jt J_;have he:es[i]?=some es[i]:=by simp
  have Mv:ps[i]?=some ps[i]:=by simp
  obtain⟨rk,rv⟩:=hr i _ _ Mv he;refine kJ J_ (I.frzGet hu) hd he λh' Qc ht k=>?_
  have hp:H s.heap.objs.size=none:=I.j_.fresh (Jn _);have I1:Inv X a_ Z (upd H s.heap.objs.size (.tup [ps[i].1,ps[i].2])) {s with heap:=s.heap.push {cls:=.type "tuple",data:=.seq #[es[i].key,es[i].val]},toks:=s.toks}:=
   I.laid (λb o e1=>Jj _ e1) (Jn _) ⟨by show 2<=sizeLine;decide,[es[i].key,es[i].val],.cons rk (.cons rv .nil),⟨_,Jp _ rfl,rfl,_,rfl⟩⟩
  have N4:fx X a_ (upd H s.heap.objs.size (.tup [ps[i].1,ps[i].2])) it:=⟨by rw[ai (JG ME)];exact fi.1,fi.2⟩
  obtain⟨f0,f1,f2,f3,f4,f5⟩:=N4;have I2:Inv X a_ Z (upd H s.heap.objs.size (.tup [ps[i].1,ps[i].2])) {s with heap:=h',toks:=s.toks}:=I1.turned (λb o hb e1=>by
   by_cases L4:b=s.heap.objs.size
   ·subst L4;have e2:(s.heap.push {cls:=.type "tuple",data:=.seq #[es[i].key,es[i].val]}).get? s.heap.objs.size=some {cls:=.type "tuple",data:=.seq #[es[i].key,es[i].val]}:=Jp _ rfl;rw[e2]at e1;cases e1;exact ht
   ·exact k b o hb ((Heap.get?_push_ne _ _ _ L4).symm.trans e1)) f0 f1 f3 f4 f5
  refine⟨.ref s.heap.objs.size,rfl,wpAny_letOwnedTupleGo_items Qc λh2 MF Lp=>?_⟩
  have I3:Inv X a_ Z (upd H s.heap.objs.size (.tup [ps[i].1,ps[i].2])) {s with heap:=h2,toks:=s.toks}:=I2.turned (λb o hb e1=>(Lp.2 b hb).trans e1) f0 f1 f3 f4 f5
  refine⟨.ref s.heap.objs.size,_,I3,rfl,⟨_,rfl,hp,_,Mv,rfl⟩,⟨_,_,MF⟩,λb hb=>?_⟩
  have e':b=it:=by simpa using hb
  subst e';exact f0
 done:=by
  intro X hP hw hK hc i a_ s Z H E I hf st hg;obtain⟨⟨u,hu⟩,hi⟩:=hg;obtain⟨a1,a2,J_⟩:=st;obtain⟨f0,f1,f2,f3,f4,f5⟩:=hf it (by simp)
  exact kg (I.ok.hd hc) J_ (I.frzGet hu) hd (by omega) λh' eb=>⟨rfl,I.turned (λb o hb e=>eb b o hb e) f0 f1 f3 f4 f5⟩
 self:=λ_ _ _ _ _ st h=>let ⟨_,_,J_⟩:=st;PySem.W.kcp_self J_ h
theorem jJ{K:Ko}:∀ks:List Int,DenL K H (ks.map D.int) (ks.map V.int)
 |[]=>rfl
 |k::r=>⟨_,_,rfl,rfl,jJ r⟩
section
variable {X:Cx}{o_ p_:Pos}
noncomputable def prs(xs:List (List Int×Addr×Value))(vs:List V):List (V×V):=(xs.map λx=>V.ref x.2.1).zip vs
theorem rQ{ob:Obj}(I:Inv X a_ Z H s)(e:H d=some (.u_ ob (.ext (ax d xs))))(vx:Vals vs (xs.map (·.2.2))):DOb ob (prs xs vs)/\ob.ExactDict:=by
 obtain⟨h1,⟨o',es,ep,g1,g2,g3,g4⟩,_⟩:=(show ObjOk X.prog X.w H s.heap d (.u_ ob (.ext (ax d xs))) from I.j_ _ _ e);rw[h1]at g1;cases g1;have hl:=vx.length;have hsz:es.size=xs.length:=by
  have:=congrArg List.length g4;simpa using this
 refine⟨⟨es,ep,g2,g3,by simp[prs,hl,hsz],λi p e' hp he=>?_⟩,g2⟩
 obtain⟨a1,a2⟩:=List.getElem?_zip_eq_some.mp hp;rw[Jq]at a1;cases hx:xs[i]? with
 |none=>rw[hx]at a1;cases a1
 |some x=>
  rw[hx]at a1;have MF:es.toList[i]?=some e':=by simpa using he
  rw[g4,Jq,hx]at MF;cases MF;obtain⟨u,hu,ru⟩:=vx.get a2;rw[Jq,hx]at hu;cases hu;have a1:V.ref x.2.1=p.1:=by simpa using a1
  rw[<-a1];exact⟨rfl,ru⟩
theorem BA{ob:Obj}(I:Inv X a_ Z H s)(e:H d=some (.u_ ob (.ext (ax d xs))))(z:TabOk X.K H d ks xs vs):DOb ob (prs xs vs)/\ob.ExactDict:=rQ I e z.vx
def ObD(X:Cx)(d:Addr)(ob:Obj)(u:HO)(ps:List (V×V)):Prop:=∀a_ s Z H,Inv X a_ Z H s->H d=some (.u_ ob u)->DOb ob ps/\(d == sysModules)=false
def Bh(X:Cx)(v:V)(vs:List V)(H:Hp)(Q:VK):Prop:=∃d ob u ps,v=.ref d/\vs=[]/\H d=some (.u_ ob u)/\ObD X d ob u ps/\∀p,H p=none->Q (.ref p) (upd H p (.ext λh=>h.IsItemsView p d))
theorem ut:MtR X "dict.items" (Bh X):=by
 intro a_ s Z H v vs v2 us Q I rv rs ⟨d,ob,u,ps,e1,e2,hH,z,q⟩;subst e1 e2;cases rv;cases rs;have ho:=I.frzGet hH;obtain⟨⟨_,_,xd,_⟩,zn⟩:=z _ _ _ _ I hH;have hc:=xd.1;have hf:H s.heap.objs.size=none:=I.j_.fresh (Jn _);refine call_meetsIn PySem.F.slot_dict_items ⟨_,ho,hc⟩ PySem.F.entry_dict_items (PySem.F.args_dict_items_1 _) (ku zn) ⟨⟨_,ho,hc⟩,?_⟩;have I1:Inv X a_ Z (upd H s.heap.objs.size (.ext λh=>h.IsItemsView s.heap.objs.size d)) {s with heap:=s.heap.push {cls:=.type "dict_items",data:=.fields #[.ref d]},toks:=s.toks}:=
  I.laid (λb o e1=>Jj _ e1) (Jn _) ⟨⟨_,Jp _ rfl,rfl,rfl⟩,⟨_,Jp _ rfl⟩,λh1 h2 ⟨ov,g1,g2,g3⟩ k=>⟨ov,k _ g1,g2,g3⟩⟩
 exact⟨.ref s.heap.objs.size,_,I1,rfl,q _ hf⟩
noncomputable def CA(X:Cx)(t2:TE):TI:=λZ H R=>t2 Z H λv H1=>∃d ob u ps,v=.ref d/\H1 d=some (.u_ ob u)/\ObD X d ob u ps/\∀p,H1 p=none->R (Itd d ob ps) (upd H1 p (.ext λh=>h.IsItemsView p d))
theorem TabOk.grow{K:Ko}(z:TabOk K H d ks xs vs)(t:TM K H H'):TabOk K H' d ks xs vs:=⟨z.kx,z.nd,z.sz,z.no,z.vx,λx hx=>t.t _ _ (z.at_ x hx)⟩
theorem vG(ho:PE X o t2)(w_:attributeBase o "items" X.env (eval o X.env)=eval o X.env)(x_:(o_.endLine == p_.line)=true):PI X (.Tuple KI x1 pt) (.Call (.Attribute o "items" o_) [] [] p_) (CA X t2):=by
 intro a_ s Z H R I h;refine wpAny_Call_method0_late w_ x_ (thn (ho a_ s Z H _ I h) λv s0 ⟨x,H1,I1,r1,d,ob,u,ps,e1,e3,z,q⟩=>?_)
 subst e1;cases r1;obtain⟨⟨_,_,xd,_⟩,_⟩:=z _ _ _ _ I1 e3;refine⟨"dict","dict.items",PySem.F.plainAttrs_dict,PySem.F.slot_dict_items,PySem.F.type_dict_items,⟨_,I1.frzGet e3,xd.1⟩,λa ha=>?_,Calls.callWith_builtin rfl (PySem.evalArgs_none ?_)⟩
 ·cases ha;exact⟨_,I1.frzGet e3,xd.2.1⟩
 refine thn (ut a_ s0 Z H1 (.ref d) [] (.ref d) [] (λv H2=>∃p,v=.ref p/\H1 p=none/\H2=upd H1 p (.ext λh=>h.IsItemsView p d)) I1 rfl .nil ⟨d,ob,u,ps,rfl,rfl,e3,z,λp hp=>⟨p,rfl,hp,rfl⟩⟩) λv2 s1 ⟨v,H2,I2,rv,p,e1,hp,e2⟩=>?_
 have q:=q p hp;have e3:H2 d=some (.u_ ob u):=by rw[e2,ai (aK e3 hp)];exact e3
 have e4:H2 p=some (.ext λh=>h.IsItemsView p d):=by rw[e2,ah]
 rw[<-e2]at q
 ·subst e1;cases rv;obtain⟨⟨es,ep,hx,hd,hz,hr⟩,_⟩:=z _ _ _ _ I2 e3;have hv:=(I2.j_ _ _ e4).1;have ho:=I2.frzGet e3;refine jM hv ho hd ?_;have hf:H2 s1.heap.objs.size=none:=I2.j_.fresh (Jn _);have NI:d<s1.heap.objs.size:=Jt ho;exact⟨s1.heap.objs.size,[s1.heap.objs.size],_,_,H2,rfl,I2.kept (λb o e=>Jj _ e),qO d s1.heap.objs.size hd hz hr (JG NI),⟨_,_,Jp _ rfl⟩,λb hb=>by
   have e':b=s1.heap.objs.size:=by simpa using hb
   subst e';exact I2.fpOk (Jn _) hf,q⟩
theorem uS{K:Ko}(e:H0 d=some (.u_ ob (.ext (ax d xs))))(z:TabOk K H0 d ks xs vs)(dl:DenL K H0 ds vs):ItOk K H0 (Itd d ob (prs xs vs)) (ar ks ds) (λ_=>True):=by
 have l1:=dl.length;have l2:=z.vx.length;have l3:xs.length=ks.length:=by rw[<-z.kx];simp
 have lp:(prs xs vs).length=(ar ks ds).length:=by simp[prs,ar];omega
 refine⟨λi H M t rm s hi=>⟨⟨_,t.g _ _ _ e⟩,by omega⟩,λi H M x H' t rm s hi y=>?_,λH M t rm s=>⟨⟨_,t.g _ _ _ e⟩,by omega⟩⟩
 obtain⟨q,rfl,hq,kv,K3,rfl⟩:=y;obtain⟨a1,a2⟩:=List.getElem?_zip_eq_some.mp K3;rw[Jq]at a1;cases hx:xs[i]? with
 |none=>rw[hx]at a1;cases a1
 |some x=>
  rw[hx]at a1;have a1:V.ref x.2.1=kv.1:=by simpa using a1
  obtain⟨dd,e1,e2⟩:=(dl.mono t).get' a2;have hk:ks[i]?=some x.1:=by rw[<-z.kx,Jq,hx];rfl
  have sq:=t.t _ _ (z.at_ x (JU hx));refine⟨.new hq,rm.grow hq,.tup [.tup (x.1.map D.int),dd],?_,⟨q,[kv.1,kv.2],rfl,.inl (.inl ah),⟨_,_,rfl,?_,_,_,rfl,e2.mono (.new hq),rfl⟩⟩⟩
  ·have ez:(ks.zip ds)[i]?=some (x.1,dd):=List.getElem?_zip_eq_some.mpr ⟨hk,e1⟩;unfold ar;rw[Jq,ez];rfl
  ·rw[<-a1];exact⟨x.2.1,x.1.map V.int,rfl,(TM.new hq).t _ _ sq,jJ _⟩
end
section
variable {X:Cx}
end
theorem ER.upd_nx{K:Ko}(er:ER K H D3 D2)(h:∀l_ H' v_ M',RelM K M' H'->DenS K H' v_ l_->TM K H H'->n3 v_ M'->n2 l_ H'):ER K H {D3 with nx:=n3} {D2 with nx:=n2}:=⟨h,er.rt,er.bk,er.ct⟩
section
variable {X:Cx}{cls:Nat->Addr}{E2:St->XK}{st:Stmt}{aT:List Stmt}{t u:Ends3->(St3->XN)->St3->MH->Prop}{e:Expr}{te:St3->MH->VK3->XN->Prop}{pos:Pos}
theorem D5:PSs X [] (br X.K cls E2 λD _ Z M=>D.nx Z M):=pss_nil.imp λD2 Z H k_=>ex9 k_ λh_ M D3 E3 rm ds lk h er=>er.nx Z H h_ M rm ds (.refl _) h
theorem Al(h1:PS X st (br X.K cls E2 t))(h2:PSs X aT (br X.K cls E2 u)):PSs X (st::aT) (br X.K cls E2 λD E Z M=>t {D with nx:=λl_ M'=>u D E l_ M'} E Z M):=
 (wY h1 h2).imp λD2 Z H k_=>ex9 k_ λh_ M D3 E3 rm ds lk h er=>⟨h_,M,_,E3,rm,ds,lk,h,er.upd_nx λl_ H' v_ M' q_ F_ tm q=>⟨v_,M',D3,E3,q_,F_,lk.mono tm,q,er.mono tm⟩⟩
theorem D7{i:Nat}(h2:PSs X aT (br X.K cls E2 u)):PSs X aT (br X.K cls E2 λD E Z M=>match Z[i]? with
  |some (some x)=>bb (λy M'=>u D E (Z.set i (some y)) M') x M
  |_=>False):=λa_ s Z H D2 I k_=>ex9 k_ λh_ M D3 E3 rm ds lk h er=>by
 dsimp only at h;split at h
 ·rename_i x e;obtain⟨v,e1,dv⟩:=ds.2 i x e;obtain⟨H2,M2,d2,I2,t2,Kt,MD,q2⟩:=jy I rm dv h;refine h2 a_ s Z H2 D2 I2 ⟨_,M2,D3,E3,Kt,?_,lk.mono t2,q2,er.mono t2⟩;have:=(ds.mono t2).set (i:=i) MD;obtain⟨l,e2⟩:=JL.mp e1
  rwa [<-e2,List.set_getElem_self]at this
 ·exact h.elim
theorem Cc:PS X st (br X.K cls E2 λ_ _ _ _=>False):=λ_ _ _ _ _ _ k_=>ex9 k_ λ_ _ _ _ _ _ _ h _=>h.elim
theorem AT(he:PE X e (low X.K cls E2 te))(hs:swapsWith e none pos.line X.env=pure false):PS X (.Expr e pos) (br X.K cls E2 λD E Z M=>te Z M (λ_ M1=>D.nx Z M1) (E Z)):=
 (sv he hs).imp λD2 Z H k_=>ex9 k_ λh_ M D3 E3 rm ds lk h er=>aY rm ds (lk.at ds) h λv H1 x M1 dx n_ t1 q1=>er.nx Z H1 h_ M1 n_ (ds.mono t1) t1 q1
theorem EU(he:PE X e (low X.K cls E2 te)):PS X (.Return (some e) pos) (br X.K cls E2 λD E Z M=>te Z M D.rt (E Z)):=
 (Ck he).imp λD2 Z H k_=>ex9 k_ λh_ M D3 E3 rm ds lk h er=>aY rm ds (lk.at ds) h λv H1 x M1 dx n_ t1 q1=>er.rt v H1 x M1 dx n_ t1 q1
theorem Bc:PS X (.Return none pos) (br X.K cls E2 λD _ _ M=>D.rt .i_ M):=ps_retN.imp λD2 Z H k_=>ex9 k_ λh_ M D3 E3 rm ds lk h er=>er.rt .i_ H .i_ M rfl rm (.refl _) h
theorem GQ(hc:PT X c (cj X.K cls E2 tA))(ha:PSs X a (br X.K cls E2 t))(hb:PSs X b (br X.K cls E2 u)) :
  PS X (.If c a b pos) (br X.K cls E2 λD E Z M=>tA Z M (λk M1=>if k=true then t D E Z M1 else u D E Z M1) (E Z)):=
 (En hc ha hb).imp λD2 Z H k_=>ex9 k_ λh_ M D3 E3 rm ds lk h er=>jh rm ds (lk.at ds) h λk H1 M1 n_ t1 q1=>by
  cases k with
  |true=>rw[Jr rfl]at q1 ⊢;exact⟨h_,M1,D3,E3,n_,ds.mono t1,lk.mono t1,q1,er.mono t1⟩
  |false=>rw[Ji JN]at q1 ⊢;exact⟨h_,M1,D3,E3,n_,ds.mono t1,lk.mono t1,q1,er.mono t1⟩
theorem zl(hN:X.N.Nodup)(hi:X.N[i]?=some x)(hx:Loc X.env.scope x)(he:PE X e (low X.K cls E2 te))(hs:swapsWith e (some (.Name x K2)) pos.line X.env=pure false)(hf:X.fn x=true\/X.env.scope.names.lookup x=some .local) :
  PS X (.Assign [.Name x K2] e pos) (br X.K cls E2 λD E Z M=>te Z M (λx M1=>D.nx (Z.set i (some x)) M1) (E Z)):=
 (Cs hN hi hx he hs hf).imp λD2 Z H k_=>ex9 k_ λh_ M D3 E3 rm ds lk h er=>aY rm ds (lk.at ds) h λv H1 x M1 dx n_ t1 q1=>er.nx _ _ _ _ n_ ((ds.mono t1).set dx) t1 q1
theorem Cj(hN:X.N.Nodup)(hi:X.N[i]?=some x)(hx:Loc X.env.scope x)(hf:X.fn x=true\/X.env.scope.names.lookup x=some .local):PG X (.Name x pos) (nc X.K (wpG (.name i))):=
 (jx hN hi hx hf).imp λv Z H Q2 ⟨d,h_,M,Q,dv,rm,ds,h,b_⟩=>b_ _ _ _ _ rm (ds.set dv) (.refl _) h
noncomputable def bY(N:List Str)(sc:Scope)(fn:Bool):List Nat->List Expr->Bool
 |[],[]=>true
 |i::is,.Name x _::es=>(N[i]? == some x)&&(sc.names.lookup x == some .local||(fn&&sc.names.lookup x == some .cell))&&bY N sc fn is es
 |_,_=>false
noncomputable def kI(is:List Nat)(xs:List α)(Z:List (Option α)):List (Option α):=(is.zip xs).foldl (λZ p=>Z.set p.1 (some p.2)) Z
theorem lM(hN:X.N.Nodup)(MA:fn=true->∀x,X.fn x=true):∀{is:List Nat}{es:List Expr},bY X.N X.env.scope fn is es=true->
  PGs X es (λvs Z H Q=>vs.length=is.length/\Q (kI is vs Z) H)/\(assignEach es X.env).length=is.length/\(assignEach es X.env).findIdx? (·.1)=none
 |[],[],_=>⟨λa_ s Z H vs us Q I r ⟨e,h⟩=>xW a_ s Z H vs us Q I r ⟨List.length_eq_zero_iff.mp e,by cases List.length_eq_zero_iff.mp e;exact h⟩,rfl,rfl⟩
 |[],_::_,h=>by simp[bY]at h
 |i::is,es,h=>by
  unfold bY at h;split at h
  ·rename_i O1;cases O1
  ·rename_i i' Tr x px MJ O1;cases O1;simp only[Jf,JH,Bool.or_eq_true]at h;obtain⟨⟨h1,h2⟩,h3⟩:=h;obtain⟨ih,il,ix⟩:=lM hN MA h3;have hg:PG X (.Name x px) (qY i):=by
    rcases h2 with h2|⟨h2,h4⟩
    ·exact jx hN h1 (.inl h2) (.inr h2)
    ·exact jx hN h1 (.inr h4) (.inl (MA h2 x))
   refine⟨λa_ s Z H vs us Q I r ⟨e,q⟩=>?_,by show (assignEach MJ X.env).length+1=is.length+1;rw[il],?_⟩
   ·cases vs with
    |nil=>cases e
    |cons v vs=>exact uE hg ih rfl a_ s Z H (v::vs) us Q I r ⟨v,vs,rfl,by simpa using e,q⟩
   ·show List.findIdx? (·.1) ((false,assign (.Name x px) X.env)::assignEach MJ X.env)=none;rw[List.findIdx?_cons];simp[ix]
  ·cases h
theorem kC{K:Ko}:∀{is:List Nat}{ds:List D}{vs:List V}{h_:St3}{Z:St},DenL K H ds vs->DenS K H h_ Z->DenS K H (kI is ds h_) (kI is vs Z)
 |[],_,_,_,_,_,h=>by simpa [kI] using h
 |i::is,[],vs,_,_,dl,h=>by cases (show vs=[] from dl);simpa [kI] using h
 |i::is,d::ds,vs,_,_,dl,h=>by
  obtain⟨v,r,rfl,dv,dl⟩:=dl;exact kC (is:=is) dl (h.set dv)
theorem zH(hc:X.calm=true)(hN:X.N.Nodup)(MA:fn=true->∀x,X.fn x=true)(ok:bY X.N X.env.scope fn is es=true):PG X (.Tuple es k pos) (nc X.K (wpG (.tup is))):=by
 obtain⟨h1,h2,h3⟩:=lM hN MA ok;refine (CC hc h1 h2 h3).imp λv Z H Q2 z_=>?_
 obtain⟨d,h_,M,Q,dv,rm,ds,h,b_⟩:=z_;simp only[wpG]at h;split at h
 ·rename_i MJ;obtain⟨p,vs,rfl,sq,dl⟩:=dv;obtain⟨z,q⟩:=h;exact⟨p,vs,rfl,sq,by rw[<-dl.length];exact z,by rw[<-dl.length];exact z,b_ _ _ _ _ rm (kC dl ds) (.refl _) q⟩
 ·exact h.elim
theorem Do{is:List Nat}(hc:X.calm=true)(hN:X.N.Nodup)(MA:fn=true->∀x,X.fn x=true)(ok:bY X.N X.env.scope fn is es=true)(he:PE X e (low X.K cls E2 te))
  (hs:swapsWithSole [.Tuple es k p2] e pos.line X.env=pure false) (hw:swappedStores [.Tuple es k p2] e X.env=pure none) :
  PS X (.Assign [.Tuple es k p2] e pos) (br X.K cls E2 λD E Z M=>te Z M (λx M1=>match x with
  |.tup ds=>ds.length=is.length/\D.nx ((is.zip ds).foldl (λZ p=>Z.set p.1 (some p.2)) Z) M1
  |_=>False) (E Z)):=
 (vS he (zH hc hN MA ok) hs hw (by rfl)).imp λD2 Z H k_=>ex9 k_ λh_ M D3 E3 rm ds lk h er=>aY rm ds (lk.at ds) h λv H1 x M1 dx n_ t1 q1=>
  ⟨x,h_,M1,D3.nx,dx,n_,ds.mono t1,by simp only[wpG];exact q1,λl_ H' v_ M' r' d' t' q'=>er.nx l_ H' v_ M' r' d' (t1.trans t') q'⟩
theorem Dl(hp:PassesOwn (model X.prog X.w) X.A X.env X.xe)(hc:X.calm=true)(hi:PI X tg iter (ly X.K cls E2 wi))(hg:PG X tg (nc X.K g))(hb:PSs X body (br X.K cls E2 t))
  (hs:∀x,foldedSetIterable iter X.env x=pure x):PS X (.For tg iter body [] pos) (br X.K cls E2 λD E Z M=>wi Z M (λds S M1=>cM g (λD Z M=>t D E Z M) S D ds Z M1) (E Z)):=by
 refine (pS hp hc hi hg hb hs).imp λD2 Z H k_=>ex9 k_ λh_ M D3 E3 rm L5 lk h er=>⟨h_,M,_,E3 h_,rm,L5,lk.at L5,h,λJ H1 ds S M1 ok n_ LW hP=>?_⟩
 refine⟨λi m l_ H'=>∃v_ M',m=ds.length-i/\i<=ds.length/\RelM X.K M' H'/\DenS X.K H' v_ l_/\TM X.K H1 H'/\cM g (λD Z M=>t D E3 Z M) S D3 (ds.drop i) v_ M',⟨ds.length,h_,M1,by simp,Nat.zero_le _,n_,L5.mono LW,.refl _,hP⟩,?_⟩
 rintro i m l_ H' ⟨v_,M',rfl,ME,q_,F_,KL,p⟩;by_cases A_:i<ds.length
 ·rw[List.drop_eq_getElem_cons A_]at p;obtain⟨s',p⟩:=p;refine .inr ⟨ok.go i H' M' KL q_ s' A_,λMw H4=>∃KC M4,RelM X.K M4 H4/\DenS X.K H4 KC Mw/\TM X.K H1 H4/\cM g (λD Z M=>t D E3 Z M) S D3 (ds.drop (i+1)) KC M4,?_,?_⟩
  ·rintro Mw H4 ⟨KC,M4,e1,e2,e3,e4⟩;exact⟨ds.length-(i+1),by omega,KC,M4,rfl,A_,e1,e2,e3,e4⟩
  ·intro x H2 y;obtain⟨LJ,Kt,d,hd,dv⟩:=ok.yld i H' M' x H2 KL q_ s' A_ y;rw[Jz A_]at hd;cases hd;refine⟨_,v_,M',_,dv,Kt,F_.mono LJ,p,λPg H5 K7 M5 MR L6 MS q5=>?_⟩
   have Lr:TM X.K H1 H5:=(KL.trans LJ).trans MS;exact⟨K7,M5,_,E3,MR,L6,lk.mono (LW.trans Lr),q5,⟨λLD H6 Ks M6 KN Ln Ky q6=>⟨Ks,M6,KN,Ln,Lr.trans Ky,q6⟩,λv H6 d6 M6 NJ KN Ky q6=>er.rt v H6 d6 M6 NJ KN (LW.trans (Lr.trans Ky)) q6,
    λLD H6 Ks M6 KN Ln Ky q6=>er.nx LD H6 Ks M6 KN Ln (LW.trans (Lr.trans Ky)) q6,λLD H6 Ks M6 KN Ln Ky q6=>⟨Ks,M6,KN,Ln,Lr.trans Ky,q6⟩⟩⟩
 ·have e:i=ds.length:=by omega
  subst e;rw[List.drop_length]at p;exact .inl ⟨ok.stop H' M' KL q_ p.1,er.nx l_ H' v_ M' q_ F_ (LW.trans KL) p.2⟩
theorem xS(hp:PassesOwn (model X.prog X.w) X.A X.env X.xe)(hc:PT X c (cj X.K cls E2 tA))(hb:PSs X body (br X.K cls E2 t)) :
  PS X (.While c body [] pos) (br X.K cls E2 λD E Z M=>∃P:Nat->St3->MH->Prop,(∃m,P m Z M)/\∀m Z M,P m Z M->tA Z M (λb M1=>if b=true then
   t {D with nx:=λl_ M'=>∃m',m' < m/\P m' l_ M',ct:=λl_ M'=>∃m',m' < m/\P m' l_ M',bk:=D.nx} E Z M1 else D.nx Z M1) (E Z)):=by
 refine (ux hp hc hb).imp λD2 Z H k_=>ex9 k_ λh_ M D3 E3 rm ds lk h er=>?_
 obtain⟨P,⟨m0,p0⟩,step⟩:=h;refine⟨λm l_ H'=>∃v_ M',RelM X.K M' H'/\DenS X.K H' v_ l_/\TM X.K H H'/\P m v_ M',⟨m0,h_,M,rm,ds,.refl _,p0⟩,?_⟩
 rintro m l_ H' ⟨v_,M',q_,F_,KL,p⟩;refine jh q_ F_ ((lk.mono KL).at F_) (step m v_ M' p) λb H1 M1 n_ LW q=>?_
 cases b with
 |true=>
  refine⟨λMw H4=>∃KC M4 m',m' < m/\RelM X.K M4 H4/\DenS X.K H4 KC Mw/\TM X.K H H4/\P m' KC M4,?_,?_⟩
  ·rintro Mw H4 ⟨KC,M4,m',hm,e1,e2,e3,e4⟩;exact⟨m',hm,KC,M4,e1,e2,e3,e4⟩
  ·have Lr:=KL.trans LW;exact⟨v_,M1,_,E3,n_,F_.mono LW,lk.mono Lr,q,⟨λLD H6 Ks M6 KN Ln Ky ⟨m',hm,q6⟩=>⟨Ks,M6,m',hm,KN,Ln,Lr.trans Ky,q6⟩,λv H6 d6 M6 NJ KN Ky q6=>er.rt v H6 d6 M6 NJ KN (Lr.trans Ky) q6,
    λLD H6 Ks M6 KN Ln Ky q6=>er.nx LD H6 Ks M6 KN Ln (Lr.trans Ky) q6,λLD H6 Ks M6 KN Ln Ky ⟨m',hm,q6⟩=>⟨Ks,M6,m',hm,KN,Ln,Lr.trans Ky,q6⟩⟩⟩
 |false=>
  exact er.nx l_ H1 v_ M1 n_ (F_.mono LW) (KL.trans LW) q
theorem Ez{o_ p_:Pos}(ho:PE X o (low X.K cls E2 to))(he:PE X e (low X.K cls E2 te))(w_:attributeBase o "append" X.env (eval o X.env)=eval o X.env)
  (x_:(o_.endLine == p_.line)=true) (hs:starEach [e] X.env=[(false,eval e X.env)]) :
  PS X (.Expr (.Call (.Attribute o "append" o_) [e] [] p_) pos) (br X.K cls E2 λD E Z M=>to Z M (λx M1=>match x with
  |.ref a=>match M1 a with
   |some (.lst _)=>te Z M1 (λy M2=>match M2 a with
    |some (.lst ds)=>ds.length<sizeLine/\D.nx Z (put M2 a (.lst (ds++[y])))
    |_=>False) (E Z)
   |_=>False
  |_=>False) (E Z)):=by
 have hm:MtR X "list.append" rAppend:=mC;have h1:=Dx PySem.F.plainAttrs_list PySem.F.slot_list_append PySem.F.type_list_append hm ho (bV he pa_nil hs) w_ (by rw[hs];rfl) x_ hs (by rfl)
 refine (sv h1 (by rfl)).imp λD2 Z H k_=>ex9 k_ λh_ M D3 E3 rm ds lk h er=>?_
 refine aY rm ds (lk.at ds) h λv H1 x M1 dx n_ t1 q1=>?_
 split at q1
 ·rename_i a;cases (show v=.ref a from dx);split at q1
  ·rename_i L5 e0;obtain⟨Sk,f0,_⟩:=n_ a _ e0;refine⟨.inl ⟨rfl,Sk,.of f0⟩,aY n_ (ds.mono t1) ((lk.mono t1).at (ds.mono t1)) q1 λu H2 y M2 dy Kt t2 q2=>?_⟩
   split at q2
   ·rename_i Sl e1;obtain⟨vs,f1,dl⟩:=Kt a _ e1;refine⟨a,vs,u,rfl,rfl,f1,by rw[<-dl.length];exact q2.1,?_⟩
    have tw:TM X.K H2 (upd H2 a (.lst (vs++[u]))):=.put f1 (λ_=>λz=>nomatch z) λ_ _=>λz=>nomatch z
    exact er.nx _ _ _ _ (Kt.write (u:=.lst (Sl++[y])) f1 (λ_=>λz=>nomatch z) (λ_ _=>λz=>nomatch z) ⟨_,ah,(dl.append (.one dy)).mono tw⟩) (((ds.mono t1).mono t2).mono tw) ((t1.trans t2).trans tw) q2.2
   ·exact q2.elim
  ·exact q1.elim
 ·exact q1.elim
end
abbrev no2:St->XK:=λ_ _ _ _=>False
theorem pe{K:Ko}(h:DenS K H h_ Z):DenS K H (ay js h_) (kj js Z):=by
 refine⟨by simp[ay,kj],λi d e=>?_⟩
 unfold ay at e;unfold kj;rw[Jq]at e ⊢;cases q:js[i]? with
 |none=>rw[q]at e;cases e
 |some o=>
  rw[q]at e;cases o with
  |none=>cases e
  |some j=>
   rw[Option.map_some,Option.bind_some]at e;cases z:h_[j]? with
   |none=>rw[z]at e;cases e
   |some y=>
    rw[z]at e;have e:y=some d:=JA e;subst e;obtain⟨v,e1,e2⟩:=h.2 j d z;refine⟨v,?_,e2⟩;rw[Option.map_some,Option.bind_some,e1];rfl
section
variable {X:Cx}
theorem kf(rm:RelM X.K M H)(L5:DenS X.K H h_ Z)(lk:LkE X.K cls H E3 (E2 Z))
  (h:wi h_ M (λds S M1=>∀p,M1 p=none->bM g (λZ M Q=>tt Z M Q (λ_ _=>False)) (λZ M Q=>te Z M Q (λ_ _=>False)) S p Q ds [] (ay js h_) (put M1 p (.lst []))) E3) (b_:Back X.K H Q Q2) :
  rY js (ly X.K cls E2 wi) (nc X.K g) (cj X.K cls no2 tt) (low X.K cls no2 te) Z H Q2:=by
 refine⟨h_,M,_,E3,rm,L5,lk,h,λJ H1 ds S M1 ok n_ LW hP p hp=>?_⟩
 have hP:=hP p (n_.fresh hp);refine⟨λi m Li H'=>∃KD ys M',m=ds.length-i/\i<=ds.length/\RelM X.K M' H'/\DenS X.K H' KD Li/\TM X.K H1 H'/\bM g (λZ M Q=>tt Z M Q (λ_ _=>False)) (λZ M Q=>te Z M Q (λ_ _=>False)) S p Q (ds.drop i) ys KD M',
  ⟨ds.length,_,[],_,by simp,Nat.zero_le _,n_.lay (u:=.lst []) hp ⟨[],ah,.nil⟩,(pe L5).mono (LW.trans (.new hp)),.new hp,hP⟩,?_⟩
 rintro i m Li H' ⟨KD,ys,M',rfl,ME,q_,F_,KL,q⟩;by_cases A_:i<ds.length
 ·rw[List.drop_eq_getElem_cons A_]at q;obtain⟨s',hl,q⟩:=q;refine .inr ⟨ok.go i H' M' KL q_ s' A_,λx H2 y=>?_⟩
  obtain⟨LJ,Kt,d,hd,dv⟩:=ok.yld i H' M' x H2 KL q_ s' A_ y;rw[Jz A_]at hd;cases hd;refine⟨_,KD,M',_,dv,Kt,F_.mono LJ,q,λPg H5 K7 M5 MR L6 MS q5=>?_⟩
  refine⟨K7,M5,_,_,MR,L6,LkE.no,q5,λb H6 M6 KN Ky q6=>?_⟩
  have Lr:TM X.K H1 H6:=((KL.trans LJ).trans MS).trans Ky;cases b with
  |true=>
   dsimp only;refine⟨K7,M6,_,_,KN,L6.mono Ky,LkE.no,q6,λv H7 y M7 dy OK OL ⟨e7,q7⟩=>?_⟩
   obtain⟨vs,f7,dl⟩:=OK p _ e7;have tw:TM X.K H7 (upd H7 p (.lst (vs++[v]))):=.put f7 (λ_=>λz=>nomatch z) λ_ _=>λz=>nomatch z
   exact⟨vs,f7,by rw[<-dl.length];exact hl,ds.length-(i+1),by omega,K7,ys++[y],_,rfl,A_,OK.write (u:=.lst (ys++[y])) f7 (λ_=>λz=>nomatch z) (λ_ _=>λz=>nomatch z) ⟨_,ah,(dl.append (.one dy)).mono tw⟩,((L6.mono Ky).mono OL).mono tw,(Lr.trans OL).trans tw,q7⟩
  |false=>
   dsimp only;exact⟨ds.length-(i+1),by omega,K7,ys,M6,rfl,A_,KN,L6.mono Ky,Lr,q6⟩
 ·have e:i=ds.length:=by omega
  subst e;rw[List.drop_length]at q;exact .inl ⟨ok.stop H' M' KL q_ q.1,b_ _ _ _ _ ik q_ (LW.trans KL) q.2⟩
variable (j_:c6 N js scope X.env.scope X.N=true) (B_:X.calm=true) (hi:PI X tg iter (ly X.K cls E2 wi))
  (hg:∀C s2 H2 fp pn,PG (compCx X scope C N s2 H2 fp pn) tg (nc X.K g)) (ht:∀C s2 H2 fp pn,PIf (compCx X scope C N s2 H2 fp pn) ifs (cj X.K cls no2 tt)) (he:∀C s2 H2 fp pn,PE (compCx X scope C N s2 H2 fp pn) D_ (low X.K cls no2 te))
  (hs:∀x,foldedSetIterable iter X.env x=pure x)
include j_ B_ hi hg ht he hs
theorem si:PE X (.ListComp D_ [⟨tg,iter,ifs,0⟩] scope pos) (low X.K cls E2 λZ M Q E=>wi Z M (λds S M1=>∀p,M1 p=none->bM g (λZ M Q=>tt Z M Q (λ_ _=>False)) (λZ M Q=>te Z M Q (λ_ _=>False)) S p Q ds [] (ay js Z) (put M1 p (.lst []))) E):=
 (rG j_ B_ hi hg ht he hs).imp λZ H Q2 k_=>ex9 k_ λh_ M Q E3 rm ds lk h b_=>kf rm ds lk h b_
theorem Cy(fz:Bool):PE X (.ListComp D_ [⟨tg,iter,ifs,0⟩] scope pos) (low X.K cls E2 λZ M Q E=>wi Z M (λds S M1=>∀p,M1 p=none->bM g (λZ M Q=>tt Z M Q (λ_ _=>False)) (λZ M Q=>te Z M Q (λ_ _=>False)) S p (if fz=true then jL Q else Q) ds [] (ay js Z) (put M1 p (.lst []))) E):=by
 cases fz with
 |false=>exact si j_ B_ hi hg ht he hs
 |true=>exact Aa (si j_ B_ hi hg ht he hs)
theorem qB{spos:Pos}(hN:X.N.Nodup)(hy:X.N[i]?=some y)(hl:X.env.scope.names.lookup y=some .local)(Nx:swapsWith (.ListComp D_ [⟨tg,iter,ifs,0⟩] scope pos) (some (.Name y py)) spos.line X.env=pure true)(fz:Bool) :
  PS X (.Assign [.Name y py] (.ListComp D_ [⟨tg,iter,ifs,0⟩] scope pos) spos) (br X.K cls E2 λD E Z M=>wi Z M (λds S M1=>∀p,M1 p=none->bM g (λZ M Q=>tt Z M Q (λ_ _=>False)) (λZ M Q=>te Z M Q (λ_ _=>False)) S p (if fz=true then jL (λx M1=>D.nx (Z.set i (some x)) M1) else (λx M1=>D.nx (Z.set i (some x)) M1)) ds [] (ay js Z) (put M1 p (.lst []))) (E Z)):=by
 cases fz with
 |false=>exact (k7 hN hy hl j_ B_ hi hg ht he hs Nx).imp λD2 Z H k_=>ex9 k_ λh_ M D3 E3 rm ds lk h er=>kf rm ds (lk.at ds) h λv H1 x M1 dx n_ t1 q1=>er.nx _ _ _ _ n_ ((ds.mono t1).set dx) t1 q1
 |true=>
  refine λa_ s Z H D2 I k_=>ex9 k_ λh_ M D3 E3 rm ds lk h er=>?_
  refine thn (k7 hN hy hl j_ B_ hi hg ht he hs Nx a_ s Z H {D2 with nx:=λl_ H'=>∃x v M1,l_=Z.set i (some v)/\Den X.K H' x v/\RelM X.K M1 H'/\TM X.K H H'/\jL (λx M1=>D3.nx (h_.set i (some x)) M1) x M1} I
   (kf rm ds (lk.at ds) h λv H1 x M1 dx n_ t1 q1=>⟨x,v,M1,rfl,dx,n_,t1,q1⟩)) λfl s1 q=>?_
  cases fl with
  |next=>
   obtain⟨l_,H',I1,x,v,M1,rfl,dx,n_,t1,q1⟩:=q;unfold jL at q1;split at q1
   ·rename_i a;cases (show v=.ref a from dx);split at q1
    ·rename_i es e;obtain⟨vs,e1,dl⟩:=n_ a _ e;obtain⟨o,I2⟩:=I1.freeze e1;exact⟨_,_,I2,er.nx _ _ _ _ (n_.freeze e1) ((ds.mono (t1.trans (.freeze e1))).set (fP dl e1)) (t1.trans (.freeze e1)) q1⟩
    ·exact q1.elim
   ·exact q1.elim
  |brk=>exact q
  |cont=>exact q
  |ret u=>exact q
end
section
variable {X:Cx}{cls:Nat->Addr}{E2:St->XK}{c n:Str}{k j ne:Nat}{sub:Nat->Nat->Bool}{b0:Stmt}{Ov:List Stmt}{np PN pos:Pos}{aT:List ExceptHandler}{tb:Ends3->(St3->XN)->St3->MH->Prop}{tr:XE->Ends3->St3->MH->Prop}
end
section
variable {X:Cx}{s:Shared}{m_:List (Key×V)}{o:Obj}
theorem Inv.rehang(I:Inv X a_ Z H s)(e:H a=some u)(n1:∀xs,u≠.tup xs)(n2:∀ps,u≠.My ps)(n3:∀b,u≠.own b)(n4:∀ob v,u≠.u_ ob v)(ok:ObjOk X.prog X.w H s.heap a u'):Inv X a_ Z (upd H a u') s:=by
 have ne:∀b,H b=none->b≠a:=λb z q=>by rw[q,e]at z;cases z
 have own:∀c b,H c=some (.own b)->c≠a:=λc b z q=>by rw[q,e]at z;cases z;exact n3 _ rfl
 have tup:∀c xs,H c=some (.tup xs)->c≠a:=λc b z q=>by rw[q,e]at z;cases z;exact n1 _ rfl
 refine⟨I.ok,I.os,I.bare,⟨I.base.keep,I.base.slot,λb ob q n hx=>?_,I.base.there,λb ys q=>?_,λb ob v q=>?_,λb ps q=>?_⟩,I.loc,I.cell,?_,λx c z=>?_,λp hp=>?_,λb v q=>?_,I.len⟩
 ·have z:=I.base.free b ob q n hx;rw[ai (ne b z)];exact z
 ·have z:=I.base.KW b ys q;rw[ai (tup _ _ z)];exact z
 ·have z:=I.base.KP b ob v q;rw[ai (λw=>by rw[w,e]at z;cases z;exact n4 _ _ rfl)];exact z
 ·obtain⟨LL,z⟩:=I.base.K6 b ps q;exact⟨LL,by rw[ai (λw=>by rw[w,e]at z;cases z;exact n2 _ rfl)];exact z⟩
 ·rw[ai (ne _ I.free)];exact I.free
 ·rw[ai (ne _ (I.freeC x c z))];exact I.freeC x c z
 ·obtain⟨e1,e2,e3⟩:=I.pin p hp;exact⟨e1,by rw[ai (ne _ e2)];exact e2,e3⟩
 ·by_cases w:b=a
  ·subst w;rw[ah]at q;cases q;exact ok.stay (λ_ _ _ z=>z) (λc z=>by rw[ai (own _ _ z)];exact z) λc xs z=>by rw[ai (tup _ _ z)];exact z
  ·rw[ai w]at q;exact (I.j_ b v q).stay (λ_ _ _ z=>z) (λc z=>by rw[ai (own _ _ z)];exact z) λc xs z=>by rw[ai (tup _ _ z)];exact z
theorem ur{h:Heap}(ok:ObjOk P w H h a (.dK m_))(g:h.get? a=some o):DOb o (m_.map λx=>(kV x.1,x.2))/\o.ExactDict/\(a == sysModules)=false:=by
 obtain⟨z,nm,vs,kv,o',es,ep,g',xd,hd,ko,pr,_⟩:=ok;cases g.symm.trans g';have key:∀{l:List DictEntry}{vs:List (Key×Value)}{m_:List (Key×V)},Pairs (aD P w) l vs->KV m_ vs->l.length=m_.length/\∀(i:Nat) p e,(m_.map λx=>(kV x.1,x.2))[i]?=some p->l[i]?=some e->RelV p.1 e.key/\RelV p.2 e.val:=by
  intro l vs m_ pr
  induction pr generalizing m_ with
  |nil=>
   intro kv;cases kv;exact⟨rfl,λi p e h=>by simp at h⟩
  |@cons e q es qs h1 h2 _ ih=>
   intro kv;cases kv with
   |@cons p _ ps _ hp t=>
    obtain⟨l1,l2⟩:=ih t;refine⟨by rw[Jw,Jw,l1],λi p' e' h3 h4=>?_⟩
    cases i with
    |zero=>
     simp at h3 h4;subst h3 h4;refine⟨?_,by rw[h2];exact hp.2⟩
     rw[pV,<-hp.1]at h1;rcases aI h1 with ⟨i,t,e1,e2⟩|⟨x,t,e1,e2⟩
     ·rw[e1,e2];exact⟨t,rfl⟩
     ·rw[e1,e2];exact⟨t,rfl⟩
    |succ i=>
     rw[Jm,List.getElem?_cons_succ]at h3;rw[List.getElem?_cons_succ]at h4;exact l2 i p' e' h3 h4
 obtain⟨l1,l2⟩:=key pr kv;exact⟨⟨es,ep,xd,hd,by rw[Jo,<-l1,Array.length_toList],λi p e h1 h2=>l2 i p e h1 (by rw[Array.getElem?_toList];exact h2)⟩,xd,nm⟩
end
noncomputable def Itg(G:Hp->Prop)(ps:List (V×V)):It:=
 ⟨λi H=>G H/\i<ps.length,λi H v H'=>∃p,v=.ref p/\H p=none/\∃kv,ps[i]?=some kv/\H'=upd H p (.tup [kv.1,kv.2]),λi H=>G H/\ps.length<=i⟩
theorem oR{K:Ko}(d it:Addr){o:Obj}{ps:List (V×V)}{es:Array DictEntry}(hd:o.data=.dict es ep)(hz:es.size=ps.length)
  (hr:∀(i:Nat) p e,ps[i]?=some p->es[i]?=some e->RelV p.1 e.key/\RelV p.2 e.val) (Lq:d≠it) (hG:∀(X:Cx) (a_:List (Addr×Obj)) (Z:St)(H:Hp)(s:Shared),Inv X a_ Z H s->G H->s.heap.get? d=some o):Turn P w K (.Tuple KI x1 pos) (Itg G ps) [it] it (λi h=>∃a1 a2,IsItemIter h it d i es.size ep a1 a2) where
 mem:=by simp
 obj:=λi h st b hb=>by
  obtain⟨a1,a2,h1⟩:=st;have e':b=it:=by simpa using hb
  subst e';exact⟨_,h1,λv z=>by
   have z':Data.fields _=Data.cell v:=z;cases z'⟩
 keep:=λi h h' st k=>let ⟨a1,a2,h1⟩:=st;⟨a1,a2,k it (by simp) _ h1⟩
 item:=by
  intro X hP hw hK hc i a_ s Z H E I hf st hg;subst hP hw hK;obtain⟨hu,hi⟩:=hg;obtain⟨a1,a2,J_⟩:=st;have fi:=hf it (by simp)
  have ME:it<s.heap.objs.size:=Jt J_;have he:es[i]?=some es[i]:=by simp[show i<es.size by omega]
  have Mv:ps[i]?=some ps[i]:=by simp[hi]
  obtain⟨rk,rv⟩:=hr i _ _ Mv he;refine kJ J_ (hG _ _ _ _ _ I hu) hd he λh' Qc ht k=>?_
  have hp:H s.heap.objs.size=none:=I.j_.fresh (Jn _);have I1:Inv X a_ Z (upd H s.heap.objs.size (.tup [ps[i].1,ps[i].2])) {s with heap:=s.heap.push {cls:=.type "tuple",data:=.seq #[es[i].key,es[i].val]},toks:=s.toks}:=
   I.laid (λb o e1=>Jj _ e1) (Jn _) ⟨by show 2<=sizeLine;decide,[es[i].key,es[i].val],.cons rk (.cons rv .nil),⟨_,Jp _ rfl,rfl,_,rfl⟩⟩
  have N4:fx X a_ (upd H s.heap.objs.size (.tup [ps[i].1,ps[i].2])) it:=⟨by rw[ai (JG ME)];exact fi.1,fi.2⟩
  obtain⟨f0,f1,f2,f3,f4,f5⟩:=N4;have I2:Inv X a_ Z (upd H s.heap.objs.size (.tup [ps[i].1,ps[i].2])) {s with heap:=h',toks:=s.toks}:=I1.turned (t':=s.toks) (λb o hb e1=>by
   by_cases L4:b=s.heap.objs.size
   ·subst L4;have e2:(s.heap.push {cls:=.type "tuple",data:=.seq #[es[i].key,es[i].val]}).get? s.heap.objs.size=some {cls:=.type "tuple",data:=.seq #[es[i].key,es[i].val]}:=Jp _ rfl;rw[e2]at e1;cases e1;exact ht
   ·exact k b o hb ((Heap.get?_push_ne _ _ _ L4).symm.trans e1)) f0 f1 f3 f4 f5
  refine⟨.ref s.heap.objs.size,rfl,wpAny_letOwnedTupleGo_items (s:={s with heap:=h'}) Qc λh2 MF Lp=>?_⟩
  have I3:Inv X a_ Z (upd H s.heap.objs.size (.tup [ps[i].1,ps[i].2])) {s with heap:=h2,toks:=s.toks}:=I2.turned (t':=s.toks) (λb o hb e1=>(Lp.2 b hb).trans e1) f0 f1 f3 f4 f5
  refine⟨.ref s.heap.objs.size,_,I3,rfl,⟨_,rfl,hp,_,Mv,rfl⟩,⟨_,_,MF⟩,λb hb=>?_⟩
  have e':b=it:=by simpa using hb
  subst e';exact f0
 done:=by
  intro X hP hw hK hc i a_ s Z H E I hf st hg;subst hP hw hK;obtain⟨hu,hi⟩:=hg;obtain⟨a1,a2,J_⟩:=st;obtain⟨f0,f1,f2,f3,f4,f5⟩:=hf it (by simp)
  exact kg (I.ok.hd hc) J_ (hG _ _ _ _ _ I hu) hd (by omega) λh' eb=>⟨rfl,I.turned (t':=s.toks) (λb o hb e=>eb b o hb e) f0 f1 f3 f4 f5⟩
 self:=λ_ _ _ _ _ st h=>let ⟨_,_,J_⟩:=st;PySem.W.kcp_self J_ h
section
variable {X:Cx}{o_ p_:Pos}
theorem Cn{K:Ko}(k:Key):Den K H (kD k) (kV k):=by
 cases k<;>rfl
end
end L2
namespace L2
open PySem PySem.Spec PyProof.Rows PySem.W
noncomputable def Itk(d:Addr)(o:Obj)(vs:List V):It:=
 ⟨λi H=>(∃u,H d=some (.u_ o u))/\i<vs.length,λi H v H'=>H'=H/\vs[i]?=some v,λi H=>(∃u,H d=some (.u_ o u))/\vs.length<=i⟩
theorem ul{K:Ko}(d it:Addr){o:Obj}{vs:List V}{es:Array DictEntry}(hd:o.data=.dict es ep)(hz:es.size=vs.length)
  (hr:∀(i:Nat) v e,vs[i]?=some v->es[i]?=some e->RelV v e.key) (Lq:d≠it):Turn P w K tg (Itk d o vs) [it] it (λi h=>h.IsKeyIter it d i es.size ep) where
 mem:=by simp
 obj:=λi h st b hb=>by
  obtain⟨o1,h1,h2,h3⟩:=st;have e':b=it:=by simpa using hb
  subst e';exact⟨_,h1,λv z=>by rw[h3]at z;cases z⟩
 keep:=λi h h' st k=>st.at λo e=>k it (by simp) o e
 item:=by
  intro X hP hw hK hc i a_ s Z H E I hf st hg;subst hP hw hK;obtain⟨⟨u,hu⟩,hi⟩:=hg;have he:es[i]?=some es[i]:=by simp[show i<es.size by omega]
  have Mv:vs[i]?=some vs[i]:=by simp[hi]
  have rk:=hr i _ _ Mv he;obtain⟨f0,f1,f2,f3,f4,f5⟩:=hf it (by simp)
  refine kE st (I.frzGet hu) hd he λh' Le Ng=>?_
  have I2:Inv X a_ Z H {s with heap:=h',toks:=s.toks}:=I.turned (t':=s.toks) (λb o hb e1=>Ng.extBut b o hb e1) f0 f1 f3 f4 f5
  refine⟨_,rfl,letGo_keyiter (s':={s with heap:=h'}) Le ?_⟩
  refine⟨vs[i],H,I2,rk,⟨rfl,Mv⟩,Le,λb hb=>?_⟩
  have e':b=it:=by simpa using hb
  subst e';exact f0
 done:=by
  intro X hP hw hK hc i a_ s Z H E I hf st hg;subst hP hw hK;obtain⟨⟨u,hu⟩,hi⟩:=hg;obtain⟨f0,f1,f2,f3,f4,f5⟩:=hf it (by simp)
  exact kO (I.ok.hd hc) st (I.frzGet hu) hd (by omega) λh' eb=>⟨rfl,I.turned (t':=s.toks) (λb o hb e=>eb b o hb e) f0 f1 f3 f4 f5⟩
 self:=λ_ _ _ _ _ st h=>wpAny_pyIter_keyiter st h
section
variable {X:Cx}{o_ p_:Pos}
theorem xM{K:Ko}{xs:List (List Int×Addr×Value)}{ks:List (List Int)}(e:H0 d=some (.u_ ob (.ext (ax d xs))))(z:TabOk K H0 d ks xs vs):ItOk K H0 (Itk d ob (xs.map λx=>V.ref x.2.1)) (ks.map bS) (λ_=>True):=by
 have l3:xs.length=ks.length:=by rw[<-z.kx];simp
 refine⟨λi H M t rm s hi=>⟨⟨_,t.g _ _ _ e⟩,by simp at hi ⊢;omega⟩,λi H M x H' t rm s hi y=>?_,λH M t rm s=>⟨⟨_,t.g _ _ _ e⟩,by simp;omega⟩⟩
 obtain⟨rfl,hv⟩:=y;rw[Jq]at hv;cases hx:xs[i]? with
 |none=>rw[hx]at hv;cases hv
 |some x'=>
  rw[hx]at hv;cases hv;have hk:ks[i]?=some x'.1:=by rw[<-z.kx,Jq,hx];rfl
  have sq:=t.t _ _ (z.at_ x' (JU hx));exact⟨.refl _,rm,bS x'.1,by rw[Jq,hk];rfl,mJ sq (jJ _)⟩
end
section
variable {X:Cx}{o_ p_:Pos}
theorem ui{K:Ko}{ks:List Key}{vs:List V}(e:H0 d=some (.u_ ob (.dK (ks.zip vs))))(hl:ks.length=vs.length)(dl:DenL K H0 ds vs):ItOk K H0 (Itd d ob ((ks.zip vs).map λx=>(kV x.1,x.2))) (f8 ks ds) (λ_=>True):=by
 have l1:=dl.length;have lp:((ks.zip vs).map λx=>(kV x.1,x.2)).length=(f8 ks ds).length:=by simp[f8];omega
 refine⟨λi H M t rm s hi=>⟨⟨_,t.g _ _ _ e⟩,by omega⟩,λi H M x H' t rm s hi y=>?_,λH M t rm s=>⟨⟨_,t.g _ _ _ e⟩,by omega⟩⟩
 obtain⟨q,rfl,hq,kv,K3,rfl⟩:=y;rw[Jq]at K3;cases hx:(ks.zip vs)[i]? with
 |none=>rw[hx]at K3;cases K3
 |some x=>
  rw[hx]at K3;obtain rfl:(kV x.1,x.2)=kv:=by simpa using K3
  obtain⟨a1,a2⟩:=List.getElem?_zip_eq_some.mp hx;obtain⟨dd,e1,e2⟩:=(dl.mono t).get' a2;refine⟨.new hq,rm.grow hq,.tup [kD x.1,dd],?_,⟨q,[kV x.1,x.2],rfl,.inl (.inl ah),⟨_,_,rfl,Cn _,_,_,rfl,e2.mono (.new hq),rfl⟩⟩⟩;have ez:(ks.zip ds)[i]?=some (x.1,dd):=List.getElem?_zip_eq_some.mpr ⟨a1,e1⟩;unfold f8;rw[Jq,ez];rfl
theorem yl(ho:PE X o (low X.K cls E2 to))(w_:attributeBase o "items" X.env (eval o X.env)=eval o X.env)(x_:(o_.endLine == p_.line)=true) :
  PI X (.Tuple KI x1 pt) (.Call (.Attribute o "items" o_) [] [] p_) (ly X.K cls E2 λZ M R E=>to Z M (λx M1=>match x with
  |.H_ ks ds=>R (ar ks ds) (λ_=>True) M1
  |.LR ks ds=>R (f8 ks ds) (λ_=>True) M1
  |_=>False) E):=
 (vG ho w_ x_).imp λZ H R2 k_=>ex9 k_ λh_ M R E3 rm ds lk h k=>aY rm ds lk h λv H1 x M1 dx n_ t1 q1=>by
  cases x with
  |H_ ks es=>
   obtain⟨d,vs,ob,xs,rfl,e,z,dl⟩:=dx;refine⟨d,ob,_,prs xs vs,rfl,e,λ_ _ _ _ I e=>⟨(rQ I e z.vx).1,z.no⟩,λp hp=>?_⟩
   have t2:TM X.K H1 (upd H1 p (.ext λh=>h.IsItemsView p d)):=.new hp
   exact k _ _ _ _ _ (uS (t2.g _ _ _ e) (z.grow t2) (dl.mono t2)) (n_.grow hp) (t1.trans t2) q1
  |LR ks es=>
   obtain⟨d,vs,ob,rfl,e,hl,dl⟩:=dx;refine⟨d,ob,_,(ks.zip vs).map λx=>(kV x.1,x.2),rfl,e,λ_ _ _ _ I e=>⟨(ur (I.j_ _ _ e).2 (I.j_ _ _ e).1).1,(ur (I.j_ _ _ e).2 (I.j_ _ _ e).1).2.2⟩,λp hp=>?_⟩
   have t2:TM X.K H1 (upd H1 p (.ext λh=>h.IsItemsView p d)):=.new hp
   exact k _ _ _ _ _ (ui (t2.g _ _ _ e) hl (dl.mono t2)) (n_.grow hp) (t1.trans t2) q1
  |_=>exact q1.elim
end
end L2
namespace L2
open PySem PySem.Spec PyProof.Rows
section
variable {X:Cx}{s:Shared}
def dj(o:Obj)(xs:List (List Int×Addr×Value)):Prop:=∃es ep,o.ExactDict/\o.data=.dict es ep/\es.toList=xs.map λx=>(⟨tH x.1,.ref x.2.1,x.2.2⟩:DictEntry)
abbrev phO(a:Addr)(o:Obj):Heap->Prop:=λh=>h.get? a=some o
theorem Inv.stillT(I:Inv X a_ Z H s)(e:H a=some (.ext (ax a xs))):∃o,dj o xs/\Inv X a_ Z (upd H a (.ext (phO a o))) s/\s.heap.get? a=some o:=by
 obtain⟨⟨o,es,ep,g,r1,r2,r3⟩,_⟩:=I.j_ a _ e;exact⟨o,⟨es,ep,r1,r2,r3⟩,I.rehang e (λ_ z=>nomatch z) (λ_ z=>nomatch z) (λ_ z=>nomatch z) (λ_ _ z=>nomatch z) ⟨g,⟨o,g⟩,λh1 h2 k1 k=>k _ k1⟩,g⟩
theorem Inv.movesT(I:Inv X a_ Z H s)(t:dj o xs)(e:H a=some (.ext (phO a o))):Inv X a_ Z (upd H a (.ext (ax a xs))) s:=by
 obtain⟨g,_⟩:=I.j_ a _ e;obtain⟨es,ep,r1,r2,r3⟩:=t;exact I.rehang e (λ_ z=>nomatch z) (λ_ z=>nomatch z) (λ_ z=>nomatch z) (λ_ _ z=>nomatch z) ⟨⟨o,es,ep,g,r1,r2,r3⟩,⟨o,g⟩,λh1 h2 ⟨o',MJ,Oe,q,r⟩ k=>⟨o',MJ,Oe,k _ q,r⟩⟩
end
noncomputable def kP(xs:List (List Int×Addr×Value))(vs:List V):List (V×V):=(xs.zip vs).map λp=>(.ref p.1.2.1,p.2)
noncomputable def yV(X:Cx)(t2:TE):TI:=λZ H R=>t2 Z H λv H1=>∃d xs vs,v=.ref d/\H1 d=some (.ext (ax d xs))/\(d == sysModules)=false/\Vals vs (xs.map (·.2.2))/\∀ob p,dj ob xs->H1 p=none->R (Itg (λH=>H d=some (.ext (phO d ob))) (kP xs vs)) (upd (upd H1 d (.ext (phO d ob))) p (.ext λh=>h.IsItemsView p d))
section
variable {X:Cx}{o_ p_:Pos}
theorem mi(ho:PE X o t2)(w_:attributeBase o "items" X.env (eval o X.env)=eval o X.env)(x_:(o_.endLine == p_.line)=true):PI X (.Tuple KI x1 pt) (.Call (.Attribute o "items" o_) [] [] p_) (yV X t2):=by
 intro a_ s Z H R I h;refine wpAny_Call_method0_late w_ x_ (thn (ho a_ s Z H _ I h) λv s0 ⟨x,H1,I1,r1,d,xs,vs,e1,e3,nm,hv,q⟩=>?_)
 subst e1;cases r1;obtain⟨ob,tb,I2,go⟩:=I1.stillT e3;obtain⟨es,ep,xd,hd,he⟩:=id tb;have l1:es.size=xs.length:=by have:=congrArg List.length he;simpa using this
 have l2:vs.length=xs.length:=by have:=hv.length;simpa using this
 have hz:es.size=(kP xs vs).length:=by simp[kP];omega
 have hr:∀(i:Nat) p e,(kP xs vs)[i]?=some p->es[i]?=some e->RelV p.1 e.key/\RelV p.2 e.val:=λi p e h1 h2=>by
  unfold kP at h1;rw[Jq]at h1;cases hz:(xs.zip vs)[i]? with
  |none=>rw[hz]at h1;cases h1
  |some q=>
   rw[hz]at h1;have h1:(V.ref q.1.2.1,q.2)=p:=by simpa using h1
   obtain⟨a1,a2⟩:=List.getElem?_zip_eq_some.mp hz;have h3:es.toList[i]?=some e:=by simpa using h2
   rw[he,Jq,a1]at h3;cases h3;obtain⟨u,b1,b2⟩:=hv.get a2;rw[Jq,a1]at b1;cases b1;rw[<-h1];exact⟨rfl,b2⟩
 refine⟨"dict","dict.items",PySem.F.plainAttrs_dict,PySem.F.slot_dict_items,PySem.F.type_dict_items,⟨_,go,xd.1⟩,λa ha=>?_,Calls.callWith_builtin rfl (PySem.evalArgs_none ?_)⟩
 ·cases ha;exact⟨_,go,xd.2.1⟩
 have hp:H1 s0.heap.objs.size=none:=I1.j_.fresh (Jn _);have NI:d<s0.heap.objs.size:=Jt go;refine call_meetsIn PySem.F.slot_dict_items ⟨_,go,xd.1⟩ PySem.F.entry_dict_items (PySem.F.args_dict_items_1 _) (ku nm) ⟨⟨_,go,xd.1⟩,?_⟩;have q:=q ob s0.heap.objs.size tb hp;have I3:Inv X a_ Z (upd (upd H1 d (.ext (phO d ob))) s0.heap.objs.size (.ext λh=>h.IsItemsView s0.heap.objs.size d)) {s0 with heap:=s0.heap.push {cls:=.type "dict_items",data:=.fields #[.ref d]},toks:=s0.toks}:=
  I2.laid (λb o e1=>Jj _ e1) (Jn _) ⟨⟨_,Jp _ rfl,rfl,rfl⟩,⟨_,Jp _ rfl⟩,λh1 h2 ⟨ov,g1,g2,g3⟩ k=>⟨ov,k _ g1,g2,g3⟩⟩
 have Tc:(s0.heap.push {cls:=.type "dict_items",data:=.fields #[.ref d]}).get? d=some ob:=Jj _ go;refine jM ⟨_,Jp _ rfl,rfl,rfl⟩ Tc hd ?_;have sz:(s0.heap.push {cls:=.type "dict_items",data:=.fields #[.ref d]}).objs.size=s0.heap.objs.size+1:=Heap.size_push ..;have hf:=I3.j_.fresh (Jn (s0.heap.push {cls:=.type "dict_items",data:=.fields #[.ref d]}).objs.size);refine⟨_,[(s0.heap.push {cls:=.type "dict_items",data:=.fields #[.ref d]}).objs.size],_,_,_,rfl,I3.kept (λb o e=>Jj _ e),oR d (s0.heap.push {cls:=.type "dict_items",data:=.fields #[.ref d]}).objs.size hd hz hr (JG (by rw[sz];exact Nat.lt_succ_of_lt NI)) (λX' Mn l_ H' s' I' hG=>(show ObjOk X'.prog X'.w H' s'.heap d (.ext (phO d ob)) from I'.j_ d _ hG).1),⟨_,_,Jp _ rfl⟩,λb hb=>?_,q⟩
 have e':b=(s0.heap.push {cls:=.type "dict_items",data:=.fields #[.ref d]}).objs.size:=by simpa using hb
 subst e';exact I3.fpOk (Jn _) hf
theorem As(hp:PassesOwn (model X.prog X.w) X.A X.env X.xe)(B_:X.calm=true)(ho:PE X o (low X.K cls E2 to))(w_:attributeBase o "items" X.env (eval o X.env)=eval o X.env)(x_:(o_.endLine == p_.line)=true)(hg:PG X (.Tuple KI x1 pt) (nc X.K g))(hb:PSs X body (br X.K cls E2 t))
  (hs:∀x,foldedSetIterable (.Call (.Attribute o "items" o_) [] [] p_) X.env x=pure x) :
  PS X (.For (.Tuple KI x1 pt) (.Call (.Attribute o "items" o_) [] [] p_) body [] pos) (br X.K cls E2 λD E Z M=>to Z M (λx M1=>eW x M1 λd ks es=>∀φ,cM g (λD Z M=>t D (λ_ _ _=>False) Z M) (λM=>M d=some (.t_ φ)) (iO d φ ks es D) (ar ks es) Z (put M1 d (.t_ φ))) (E Z)):=by
 refine λa_ s Z H D2 I k_=>ex9 k_ λh_ M D3 E3 rm L5 lk h er=>?_
 refine thn (pS hp B_ (mi ho w_ x_) hg hb hs a_ s Z H ⟨λl_ H'=>∃d ob xs,dj ob xs/\H' d=some (.ext (phO d ob))/\D2.nx l_ (upd H' d (.ext (ax d xs))),λv H'=>∃d ob xs,dj ob xs/\H' d=some (.ext (phO d ob))/\D2.rt v (upd H' d (.ext (ax d xs))),λl_ H'=>∃d ob xs,dj ob xs/\H' d=some (.ext (phO d ob))/\D2.bk l_ (upd H' d (.ext (ax d xs))),λl_ H'=>∃d ob xs,dj ob xs/\H' d=some (.ext (phO d ob))/\D2.ct l_ (upd H' d (.ext (ax d xs)))⟩ I ?_) λf s1 hf=>?_
 rotate_left
 ·cases f with
  |next=>
   obtain⟨l_,H',I',d,ob,xs,tb,e,q⟩:=hf;exact⟨l_,_,I'.movesT tb e,q⟩
  |brk=>
   obtain⟨l_,H',I',d,ob,xs,tb,e,q⟩:=hf;exact⟨l_,_,I'.movesT tb e,q⟩
  |cont=>
   obtain⟨l_,H',I',d,ob,xs,tb,e,q⟩:=hf;exact⟨l_,_,I'.movesT tb e,q⟩
  |ret u=>
   obtain⟨v,l_,H',I',r,d,ob,xs,tb,e,q⟩:=hf;exact⟨v,l_,_,I'.movesT tb e,r,q⟩
 refine aY rm L5 (lk.at L5) h λv H1 x M1 dx n_ t1 q1=>?_
 unfold eW at q1;split at q1
 ·rename_i d;cases (show v=.ref d from dx);split at q1
  ·rename_i ks es em;obtain⟨vs,xs,ed,tk,dl⟩:=n_ d _ em;refine⟨d,xs,vs,rfl,ed,tk.no,tk.vx,λob p0 tb MG=>?_⟩
   have np:p0≠d:=λz=>by rw[z,ed]at MG;cases MG
   have tA:TM X.K H1 (upd H1 d (.ext (phO d ob))):=.put ed (λ_ z=>nomatch z) λ_ _ z=>nomatch z
   have tB:TM X.K H1 (upd (upd H1 d (.ext (phO d ob))) p0 (.ext λh=>h.IsItemsView p0 d)):=tA.trans (.new (by rw[ai np];exact MG))
   have OM:RelM X.K (put M1 d (.t_ (phO d ob))) (upd H1 d (.ext (phO d ob))):=n_.write ed (λ_ z=>nomatch z) (λ_ _ z=>nomatch z) ah
   have Qd:=OM.grow (o:=.ext λh=>h.IsItemsView p0 d) (by rw[ai np];exact MG)
   have q1:=q1 (phO d ob);have l1:=dl.length;have lx:xs.length=ks.length:=by rw[<-tk.kx];simp
   have lv:vs.length=xs.length:=by have:=tk.vx.length;simpa using this
   have li:(ar ks es).length=ks.length:=by simp[ar];omega
   have lp:(kP xs vs).length=ks.length:=by simp[kP];omega
   have bk:∀{M':MH}{H':Hp},RelM X.K M' H'->TM X.K H1 H'->M' d=some (.t_ (phO d ob))->H' d=some (.ext (phO d ob))/\RelM X.K (put M' d (.dt ks es)) (upd H' d (.ext (ax d xs)))/\TM X.K H' (upd H' d (.ext (ax d xs))):=λ{M' H'} q_ KL hM=>by
    have e:H' d=some (.ext (phO d ob)):=q_ d _ hM;have LJ:TM X.K H' (upd H' d (.ext (ax d xs))):=.put e (λ_ z=>nomatch z) λ_ _ z=>nomatch z
    refine⟨e,q_.write e (λ_ z=>nomatch z) (λ_ _ z=>nomatch z) ⟨vs,xs,ah,⟨tk.kx,tk.nd,tk.sz,tk.no,tk.vx,λx hx=>LJ.t _ _ (KL.t _ _ (tk.at_ x hx))⟩,dl.mono (KL.trans LJ)⟩,LJ⟩
   have NK:ER X.K (upd (upd H1 d (.ext (phO d ob))) p0 (.ext λh=>h.IsItemsView p0 d)) (iO d (phO d ob) ks es D3) ⟨λl_ H'=>∃d ob xs,dj ob xs/\H' d=some (.ext (phO d ob))/\D2.nx l_ (upd H' d (.ext (ax d xs))),λv H'=>∃d ob xs,dj ob xs/\H' d=some (.ext (phO d ob))/\D2.rt v (upd H' d (.ext (ax d xs))),λl_ H'=>∃d ob xs,dj ob xs/\H' d=some (.ext (phO d ob))/\D2.bk l_ (upd H' d (.ext (ax d xs))),λl_ H'=>∃d ob xs,dj ob xs/\H' d=some (.ext (phO d ob))/\D2.ct l_ (upd H' d (.ext (ax d xs)))⟩:=by
    refine⟨λl_ H' v_ M' r d' tm q=>?_,λv H' d' M' dv r tm q=>?_,λl_ H' v_ M' r d' tm q=>?_,λl_ H' v_ M' r d' tm q=>?_⟩
    ·obtain⟨z1,z2,z3⟩:=bk r (tB.trans tm) q.1;exact⟨d,ob,xs,tb,z1,er.nx _ _ _ _ z2 (d'.mono z3) (t1.trans ((tB.trans tm).trans z3)) q.2⟩
    ·obtain⟨z1,z2,z3⟩:=bk r (tB.trans tm) q.1;exact⟨d,ob,xs,tb,z1,er.rt _ _ _ _ (dv.mono z3) z2 (t1.trans ((tB.trans tm).trans z3)) q.2⟩
    ·obtain⟨z1,z2,z3⟩:=bk r (tB.trans tm) q.1;exact⟨d,ob,xs,tb,z1,er.bk _ _ _ _ z2 (d'.mono z3) (t1.trans ((tB.trans tm).trans z3)) q.2⟩
    ·obtain⟨z1,z2,z3⟩:=bk r (tB.trans tm) q.1;exact⟨d,ob,xs,tb,z1,er.ct _ _ _ _ z2 (d'.mono z3) (t1.trans ((tB.trans tm).trans z3)) q.2⟩
   generalize Rb:upd (upd H1 d (.ext (phO d ob))) p0 (.ext λh=>h.IsItemsView p0 d)=H2 at *
   refine⟨λi m Li H'=>∃KD M',m=(ar ks es).length-i/\i<=(ar ks es).length/\RelM X.K M' H'/\DenS X.K H' KD Li/\TM X.K H2 H'/\cM g (λD Z M=>t D (λ_ _ _=>False) Z M) (λM=>M d=some (.t_ (phO d ob))) (iO d (phO d ob) ks es D3) ((ar ks es).drop i) KD M',
    ⟨_,_,_,rfl,Nat.zero_le _,Qd,L5.mono (t1.trans tB),.refl _,q1⟩,?_⟩
   rintro i m Li H' ⟨KD,M',rfl,ME,q_,F_,KL,q⟩;by_cases A_:i<(ar ks es).length
   ·rw[List.drop_eq_getElem_cons A_]at q;obtain⟨s',q⟩:=q;refine .inr ⟨⟨q_ d _ s',by omega⟩,λMw H4=>∃KC M4,RelM X.K M4 H4/\DenS X.K H4 KC Mw/\TM X.K H2 H4/\cM g (λD Z M=>t D (λ_ _ _=>False) Z M) (λM=>M d=some (.t_ (phO d ob))) (iO d (phO d ob) ks es D3) ((ar ks es).drop (i+1)) KC M4,?_,?_⟩
    ·rintro Mw H4 ⟨KC,M4,e1,e2,e3,e4⟩;exact⟨(ar ks es).length-(i+1),by omega,KC,M4,rfl,A_,e1,e2,e3,e4⟩
    ·intro x H3 y;obtain⟨pp,rfl,MT,kv,K3,rfl⟩:=y;have LJ:TM X.K H' (upd H' pp (.tup [kv.1,kv.2])):=.new MT;unfold kP at K3;rw[Jq]at K3;cases hz:(xs.zip vs)[i]? with
     |none=>rw[hz]at K3;cases K3
     |some kw=>
      rw[hz]at K3;have K3:(V.ref kw.1.2.1,kw.2)=kv:=by simpa using K3
      obtain⟨a1,a2⟩:=List.getElem?_zip_eq_some.mp hz;have Lr:=tB.trans KL;obtain⟨dd,b1,b2⟩:=(dl.mono Lr).get' a2;have hk:ks[i]?=some kw.1.1:=by rw[<-tk.kx,Jq,a1];rfl
      have ei:(ar ks es)[i]=.tup [.tup (kw.1.1.map D.int),dd]:=by
       have:(ar ks es)[i]?=some (.tup [.tup (kw.1.1.map D.int),dd]):=by
        have ez:(ks.zip es)[i]?=some (kw.1.1,dd):=List.getElem?_zip_eq_some.mpr ⟨hk,b1⟩;unfold ar;rw[Jq,ez];rfl
       rw[Jz A_]at this;exact JA this
      have dv:Den X.K (upd H' pp (.tup [kv.1,kv.2])) ((ar ks es)[i]) (.ref pp):=by
       rw[ei,<-K3];exact⟨pp,[.ref kw.1.2.1,kw.2],rfl,.inl (.inl ah),⟨_,_,rfl,⟨kw.1.2.1,kw.1.1.map V.int,rfl,TM.t (.new MT) _ _ (Lr.t _ _ (tk.at_ kw.1 (JU a1))),DenL.of_int⟩,_,_,rfl,b2.mono (.new MT),rfl⟩⟩
      refine⟨_,KD,M',_,dv,q_.grow MT,F_.mono LJ,q,λPg H5 K7 M5 MR L6 MS q5=>?_⟩
      have MU:TM X.K H2 H5:=(KL.trans LJ).trans MS;exact⟨K7,M5,_,_,MR,L6,(λ_ _ _ _ _ _ _ _ h=>h.elim),q5,⟨λLD H6 Ks M6 KN Ln Ky q6=>⟨Ks,M6,KN,Ln,MU.trans Ky,q6⟩,λv H6 d6 M6 NJ KN Ky q6=>NK.rt v H6 d6 M6 NJ KN (MU.trans Ky) q6,
       λLD H6 Ks M6 KN Ln Ky q6=>NK.nx LD H6 Ks M6 KN Ln (MU.trans Ky) q6,λLD H6 Ks M6 KN Ln Ky q6=>⟨Ks,M6,KN,Ln,MU.trans Ky,q6⟩⟩⟩
   ·have e:i=(ar ks es).length:=by omega
    subst e;rw[List.drop_length]at q;exact .inl ⟨⟨q_ d _ q.1,by omega⟩,NK.nx _ _ _ _ q_ F_ KL q.2⟩
  ·exact q1.elim
 ·exact q1.elim
end
end L2
namespace L2
open PySem PySem.Spec PyProof.Rows PySem.W
noncomputable def CP(G:Hp->Prop)(vs:List V):It:=⟨λi H=>G H/\i<vs.length,λi H v H'=>H'=H/\vs[i]?=some v,λi H=>G H/\vs.length<=i⟩
theorem p7{K:Ko}(d it:Addr){o:Obj}{vs:List V}{es:Array DictEntry}(hd:o.data=.dict es ep)(hz:es.size=vs.length)
  (hr:∀(i:Nat) v e,vs[i]?=some v->es[i]?=some e->RelV v e.key) (Lq:d≠it) (hG:∀(X:Cx) (a_:List (Addr×Obj)) (Z:St)(H:Hp)(s:Shared),Inv X a_ Z H s->G H->s.heap.get? d=some o):Turn P w K tg (CP G vs) [it] it (λi h=>h.IsKeyIter it d i es.size ep) where
 mem:=by simp
 obj:=λi h st b hb=>by
  obtain⟨o1,h1,h2,h3⟩:=st;have e':b=it:=by simpa using hb
  subst e';exact⟨_,h1,λv z=>by rw[h3]at z;cases z⟩
 keep:=λi h h' st k=>st.at λo e=>k it (by simp) o e
 item:=by
  intro X hP hw hK hc i a_ s Z H E I hf st hg;subst hP hw hK;obtain⟨hu,hi⟩:=hg;have he:es[i]?=some es[i]:=by simp[show i<es.size by omega]
  have Mv:vs[i]?=some vs[i]:=by simp[hi]
  have rk:=hr i _ _ Mv he;obtain⟨f0,f1,f2,f3,f4,f5⟩:=hf it (by simp)
  refine kE st (hG _ _ _ _ _ I hu) hd he λh' Le Ng=>?_
  have I2:Inv X a_ Z H {s with heap:=h',toks:=s.toks}:=I.turned (t':=s.toks) (λb o hb e1=>Ng.extBut b o hb e1) f0 f1 f3 f4 f5
  refine⟨_,rfl,letGo_keyiter (s':={s with heap:=h'}) Le ?_⟩
  refine⟨vs[i],H,I2,rk,⟨rfl,Mv⟩,Le,λb hb=>?_⟩
  have e':b=it:=by simpa using hb
  subst e';exact f0
 done:=by
  intro X hP hw hK hc i a_ s Z H E I hf st hg;subst hP hw hK;obtain⟨hu,hi⟩:=hg;obtain⟨f0,f1,f2,f3,f4,f5⟩:=hf it (by simp)
  exact kO (I.ok.hd hc) st (hG _ _ _ _ _ I hu) hd (by omega) λh' eb=>⟨rfl,I.turned (t':=s.toks) (λb o hb e=>eb b o hb e) f0 f1 f3 f4 f5⟩
 self:=λ_ _ _ _ _ st h=>wpAny_pyIter_keyiter st h
noncomputable def kvT(xs:List (List Int×Addr×Value)):List V:=xs.map λx=>.ref x.2.1
noncomputable def Ba(X:Cx)(t2:TE):TI:=λZ H R=>t2 Z H λv H1=>∃d xs,v=.ref d/\H1 d=some (.ext (ax d xs))/\(d == sysModules)=false/\∀ob,dj ob xs->R (CP (λH=>H d=some (.ext (phO d ob))) (kvT xs)) (upd H1 d (.ext (phO d ob)))
section
variable {X:Cx}
theorem vd(ho:PE X o t2):PI X tg o (Ba X t2):=by
 intro a_ s Z H R I h;refine thn (ho a_ s Z H _ I h) λv s0 ⟨x,H1,I1,r1,d,xs,e1,e3,nm,q⟩=>?_
 subst e1;cases r1;obtain⟨ob,tb,I2,go⟩:=I1.stillT e3;obtain⟨es,ep,xd,hd,he⟩:=id tb;have l1:es.size=xs.length:=by have:=congrArg List.length he;simpa using this
 have hz:es.size=(kvT xs).length:=by simp[kvT];omega
 have hr:∀(i:Nat) v e,(kvT xs)[i]?=some v->es[i]?=some e->RelV v e.key:=λi v e h1 h2=>by
  unfold kvT at h1;rw[Jq]at h1;cases a1:xs[i]? with
  |none=>rw[a1]at h1;cases h1
  |some q=>
   rw[a1]at h1;cases h1;have h3:es.toList[i]?=some e:=by simpa using h2
   rw[he,Jq,a1]at h3;cases h3;rfl
 have NI:d<s0.heap.objs.size:=Jt go;refine uy nm go xd hd ?_;have hf:=I2.j_.fresh (Jn s0.heap.objs.size);refine⟨_,[s0.heap.objs.size],_,_,_,rfl,I2.kept (t':=s0.toks) (λb o e=>Jj _ e),p7 d s0.heap.objs.size hd hz hr (JG NI) (G:=λH=>H d=some (.ext (phO d ob))) (λX' Mn l_ H' s' I' hG=>(show ObjOk X'.prog X'.w H' s'.heap d (.ext (phO d ob)) from I'.j_ d _ hG).1),⟨_,Jp _ rfl,rfl,rfl⟩,λb hb=>?_,q ob tb⟩
 have e':b=s0.heap.objs.size:=by simpa using hb
 subst e';exact I2.fpOk (Jn _) hf
theorem AO(hp:PassesOwn (model X.prog X.w) X.A X.env X.xe)(B_:X.calm=true)(ho:PE X o (low X.K cls E2 to))(hg:PG X tg (nc X.K g))(hb:PSs X body (br X.K cls E2 t))
  (hs:∀x,foldedSetIterable o X.env x=pure x) :
  PS X (.For tg o body [] pos) (br X.K cls E2 λD E Z M=>to Z M (λx M1=>eW x M1 λd ks es=>∀φ,cM g (λD Z M=>t D (λ_ _ _=>False) Z M) (λM=>M d=some (.t_ φ)) (iO d φ ks es D) (ks.map bS) Z (put M1 d (.t_ φ))) (E Z)):=by
 refine λa_ s Z H D2 I k_=>ex9 k_ λh_ M D3 E3 rm L5 lk h er=>?_
 refine thn (pS hp B_ (vd ho) hg hb hs a_ s Z H ⟨λl_ H'=>∃d ob xs,dj ob xs/\H' d=some (.ext (phO d ob))/\D2.nx l_ (upd H' d (.ext (ax d xs))),λv H'=>∃d ob xs,dj ob xs/\H' d=some (.ext (phO d ob))/\D2.rt v (upd H' d (.ext (ax d xs))),λl_ H'=>∃d ob xs,dj ob xs/\H' d=some (.ext (phO d ob))/\D2.bk l_ (upd H' d (.ext (ax d xs))),λl_ H'=>∃d ob xs,dj ob xs/\H' d=some (.ext (phO d ob))/\D2.ct l_ (upd H' d (.ext (ax d xs)))⟩ I ?_) λf s1 hf=>?_
 rotate_left
 ·cases f with
  |next=>
   obtain⟨l_,H',I',d,ob,xs,tb,e,q⟩:=hf;exact⟨l_,_,I'.movesT tb e,q⟩
  |brk=>
   obtain⟨l_,H',I',d,ob,xs,tb,e,q⟩:=hf;exact⟨l_,_,I'.movesT tb e,q⟩
  |cont=>
   obtain⟨l_,H',I',d,ob,xs,tb,e,q⟩:=hf;exact⟨l_,_,I'.movesT tb e,q⟩
  |ret u=>
   obtain⟨v,l_,H',I',r,d,ob,xs,tb,e,q⟩:=hf;exact⟨v,l_,_,I'.movesT tb e,r,q⟩
 refine aY rm L5 (lk.at L5) h λv H1 x M1 dx n_ t1 q1=>?_
 unfold eW at q1;split at q1
 ·rename_i d;cases (show v=.ref d from dx);split at q1
  ·rename_i ks es em;obtain⟨vs,xs,ed,tk,dl⟩:=n_ d _ em;refine⟨d,xs,rfl,ed,tk.no,λob tb=>?_⟩
   have tA:TM X.K H1 (upd H1 d (.ext (phO d ob))):=.put ed (λ_ z=>nomatch z) λ_ _ z=>nomatch z
   have OM:RelM X.K (put M1 d (.t_ (phO d ob))) (upd H1 d (.ext (phO d ob))):=n_.write (u:=.t_ (phO d ob)) ed (λ_ z=>nomatch z) (λ_ _ z=>nomatch z) ah
   have q1:=q1 (phO d ob);have l1:=dl.length;have lx:xs.length=ks.length:=by rw[<-tk.kx];simp
   have lv:vs.length=xs.length:=by have:=tk.vx.length;simpa using this
   have li:(ks.map bS).length=ks.length:=by simp
   have lp:(kvT xs).length=ks.length:=by simp[kvT];omega
   have bk:∀{M':MH}{H':Hp},RelM X.K M' H'->TM X.K H1 H'->M' d=some (.t_ (phO d ob))->H' d=some (.ext (phO d ob))/\RelM X.K (put M' d (.dt ks es)) (upd H' d (.ext (ax d xs)))/\TM X.K H' (upd H' d (.ext (ax d xs))):=λ{M' H'} q_ KL hM=>by
    have e:H' d=some (.ext (phO d ob)):=q_ d _ hM;have LJ:TM X.K H' (upd H' d (.ext (ax d xs))):=.put e (λ_ z=>nomatch z) λ_ _ z=>nomatch z
    refine⟨e,q_.write e (λ_ z=>nomatch z) (λ_ _ z=>nomatch z) ⟨vs,xs,ah,⟨tk.kx,tk.nd,tk.sz,tk.no,tk.vx,λx hx=>LJ.t _ _ (KL.t _ _ (tk.at_ x hx))⟩,dl.mono (KL.trans LJ)⟩,LJ⟩
   have NK:ER X.K (upd H1 d (.ext (phO d ob))) (iO d (phO d ob) ks es D3) ⟨λl_ H'=>∃d ob xs,dj ob xs/\H' d=some (.ext (phO d ob))/\D2.nx l_ (upd H' d (.ext (ax d xs))),λv H'=>∃d ob xs,dj ob xs/\H' d=some (.ext (phO d ob))/\D2.rt v (upd H' d (.ext (ax d xs))),λl_ H'=>∃d ob xs,dj ob xs/\H' d=some (.ext (phO d ob))/\D2.bk l_ (upd H' d (.ext (ax d xs))),λl_ H'=>∃d ob xs,dj ob xs/\H' d=some (.ext (phO d ob))/\D2.ct l_ (upd H' d (.ext (ax d xs)))⟩:=by
    refine⟨λl_ H' v_ M' r d' tm q=>?_,λv H' d' M' dv r tm q=>?_,λl_ H' v_ M' r d' tm q=>?_,λl_ H' v_ M' r d' tm q=>?_⟩
    ·obtain⟨z1,z2,z3⟩:=bk r (tA.trans tm) q.1;exact⟨d,ob,xs,tb,z1,er.nx _ _ _ _ z2 (d'.mono z3) (t1.trans ((tA.trans tm).trans z3)) q.2⟩
    ·obtain⟨z1,z2,z3⟩:=bk r (tA.trans tm) q.1;exact⟨d,ob,xs,tb,z1,er.rt _ _ _ _ (dv.mono z3) z2 (t1.trans ((tA.trans tm).trans z3)) q.2⟩
    ·obtain⟨z1,z2,z3⟩:=bk r (tA.trans tm) q.1;exact⟨d,ob,xs,tb,z1,er.bk _ _ _ _ z2 (d'.mono z3) (t1.trans ((tA.trans tm).trans z3)) q.2⟩
    ·obtain⟨z1,z2,z3⟩:=bk r (tA.trans tm) q.1;exact⟨d,ob,xs,tb,z1,er.ct _ _ _ _ z2 (d'.mono z3) (t1.trans ((tA.trans tm).trans z3)) q.2⟩
   generalize Rb:upd H1 d (.ext (phO d ob))=H2 at *
   refine⟨λi m Li H'=>∃KD M',m=(ks.map bS).length-i/\i<=(ks.map bS).length/\RelM X.K M' H'/\DenS X.K H' KD Li/\TM X.K H2 H'/\cM g (λD Z M=>t D (λ_ _ _=>False) Z M) (λM=>M d=some (.t_ (phO d ob))) (iO d (phO d ob) ks es D3) ((ks.map bS).drop i) KD M',
    ⟨_,_,_,rfl,Nat.zero_le _,OM,L5.mono (t1.trans tA),.refl _,q1⟩,?_⟩
   rintro i m Li H' ⟨KD,M',rfl,ME,q_,F_,KL,q⟩;by_cases A_:i<(ks.map bS).length
   ·rw[List.drop_eq_getElem_cons A_]at q;obtain⟨s',q⟩:=q;refine .inr ⟨⟨q_ d _ s',by omega⟩,λMw H4=>∃KC M4,RelM X.K M4 H4/\DenS X.K H4 KC Mw/\TM X.K H2 H4/\cM g (λD Z M=>t D (λ_ _ _=>False) Z M) (λM=>M d=some (.t_ (phO d ob))) (iO d (phO d ob) ks es D3) ((ks.map bS).drop (i+1)) KC M4,?_,?_⟩
    ·rintro Mw H4 ⟨KC,M4,e1,e2,e3,e4⟩;exact⟨(ks.map bS).length-(i+1),by omega,KC,M4,rfl,A_,e1,e2,e3,e4⟩
    ·intro x H3 y;obtain⟨rfl,K3⟩:=y;unfold kvT at K3;rw[Jq]at K3;cases a1:xs[i]? with
     |none=>rw[a1]at K3;cases K3
     |some kw=>
      rw[a1]at K3;cases K3;have Lr:=tA.trans KL;have hk:ks[i]?=some kw.1:=by rw[<-tk.kx,Jq,a1];rfl
      have ei:(ks.map bS)[i]=.tup (kw.1.map D.int):=by
       have:(ks.map bS)[i]?=some (.tup (kw.1.map D.int)):=by
        rw[Jq,hk];rfl
       rw[Jz A_]at this;exact JA this
      have dv:Den X.K H3 ((ks.map bS)[i]) (.ref kw.2.1):=by
       rw[ei];exact⟨kw.2.1,kw.1.map V.int,rfl,Lr.t _ _ (tk.at_ kw (JU a1)),DenL.of_int⟩
      refine⟨_,KD,M',_,dv,q_,F_,q,λPg H5 K7 M5 MR L6 MS q5=>?_⟩
      have MU:TM X.K H2 H5:=KL.trans MS;exact⟨K7,M5,_,_,MR,L6,(λ_ _ _ _ _ _ _ _ h=>h.elim),q5,⟨λLD H6 Ks M6 KN Ln Ky q6=>⟨Ks,M6,KN,Ln,MU.trans Ky,q6⟩,λv H6 d6 M6 NJ KN Ky q6=>NK.rt v H6 d6 M6 NJ KN (MU.trans Ky) q6,
       λLD H6 Ks M6 KN Ln Ky q6=>NK.nx LD H6 Ks M6 KN Ln (MU.trans Ky) q6,λLD H6 Ks M6 KN Ln Ky q6=>⟨Ks,M6,KN,Ln,MU.trans Ky,q6⟩⟩⟩
   ·have e:i=(ks.map bS).length:=by omega
    subst e;rw[List.drop_length]at q;exact .inl ⟨⟨q_ d _ q.1,by omega⟩,NK.nx _ _ _ _ q_ F_ KL q.2⟩
  ·exact q1.elim
 ·exact q1.elim
end
end L2
namespace L2
open PySem PySem.Spec PyProof.Rows
section
variable {X:Cx}{cls:Nat->Addr}{E2:St->XK}{tg o:Expr}
theorem Ea{t2:TE}(ho:PE X o t2):PI X tg o (λZ H R=>t2 Z H λv H1=>∃d ob xs ks ws,v=.ref d/\H1 d=some (.u_ ob (.ext (ax d xs)))/\TabOk X.K H1 d ks xs ws/\R (Itk d ob (xs.map λx=>V.ref x.2.1)) H1):=by
 intro a_ s Z H R I h;refine thn (ho a_ s Z H _ I h) λv s1 ⟨x,H2,I2,r1,d,ob,xs,ks,ws,e1,e3,z,q⟩=>?_
 subst e1;cases r1;obtain⟨⟨es,ep,hx,hd,hz,hr⟩,xd⟩:=BA I2 e3 z;have ho:=I2.frzGet e3;refine uy z.no ho xd hd ?_;have hf:H2 s1.heap.objs.size=none:=I2.j_.fresh (Jn _);have NI:d<s1.heap.objs.size:=Jt ho;have l2:=z.vx.length;rw[Jo]at l2;have OH:es.size=((xs.map λx=>V.ref x.2.1)).length:=by rw[hz];simp[prs];omega
 exact⟨s1.heap.objs.size,[s1.heap.objs.size],_,_,H2,rfl,I2.kept (λb o e=>Jj _ e),ul d s1.heap.objs.size hd OH (λi v e hv he=>by
  obtain⟨w,hw⟩:∃w,ws[i]?=some w:=⟨ws[i]'(by have:=(JL.mp hv).1;simp at this;omega),by simp⟩
  exact (hr i (v,w) e (List.getElem?_zip_eq_some.mpr ⟨hv,hw⟩) he).1) (JG NI),⟨_,Jp _ rfl,rfl,rfl⟩,λb hb=>by
  have e':b=s1.heap.objs.size:=by simpa using hb
  subst e';exact I2.fpOk (Jn _) hf,q⟩
theorem Hg{to:St3->MH->VK3->XN->Prop}(ho:PE X o (low X.K cls E2 to)):PI X tg o (ly X.K cls E2 λZ M R E=>to Z M (λx M1=>match x with
  |.H_ ks ds=>R (ks.map bS) (λ_=>True) M1
  |_=>False) E):=
 (Ea ho).imp λZ H R2 k_=>ex9 k_ λh_ M R E3 rm ds lk h k=>aY rm ds lk h λv H1 x M1 dx n_ t1 q1=>by
  cases x with
  |H_ ks es=>
   obtain⟨d,vs,ob,xs,rfl,e,z,dl⟩:=dx;exact⟨d,ob,xs,ks,vs,rfl,e,z,k _ _ _ _ _ (xM e z) n_ t1 q1⟩
  |_=>exact q1.elim
end
section
variable {X:Cx}{o_ p_:Pos}
theorem xt(j_:c6 N js scope X.env.scope X.N=true)(B_:X.calm=true)(ho:PE X o (low X.K cls E2 to))(w_:attributeBase o "items" X.env (eval o X.env)=eval o X.env)(x_:(o_.endLine == p_.line)=true)
  (hg:∀C s2 H2 fp pn,PG (compCx X scope C N s2 H2 fp pn) (.Tuple KI x1 pt) (nc X.K g)) (ht:∀C s2 H2 fp pn,PIf (compCx X scope C N s2 H2 fp pn) ifs (cj X.K cls no2 tt)) (he:∀C s2 H2 fp pn,PE (compCx X scope C N s2 H2 fp pn) D_ (low X.K cls no2 te))
  (hs:∀x,foldedSetIterable (.Call (.Attribute o "items" o_) [] [] p_) X.env x=pure x) :
  PE X (.ListComp D_ [⟨.Tuple KI x1 pt,.Call (.Attribute o "items" o_) [] [] p_,ifs,0⟩] scope pos) (low X.K cls E2 λZ M Q E=>to Z M (λx M1=>eW x M1 λd ks es=>∀φ p,M1 p=none->
   bM g (λZ M Q=>tt Z M Q (λ_ _=>False)) (λZ M Q=>te Z M Q (λ_ _=>False)) (λM=>M d=some (.t_ φ)) p (λy M2=>Q y (put M2 d (.dt ks es))) (ar ks es) [] (ay js Z) (put (put M1 d (.t_ φ)) p (.lst []))) E):=by
 refine λa_ s Z H Q2 I k_=>ex9 k_ λh_ M Q E3 rm ds lk h b_=>?_
 refine thn (rG j_ B_ (mi ho w_ x_) hg ht he hs a_ s Z H (λv H'=>∃d ob xs,dj ob xs/\H' d=some (.ext (phO d ob))/\Q2 v (upd H' d (.ext (ax d xs)))) I ?_) λu s1 ⟨v,H',I',r,d,ob,xs,tb,e,q⟩=>⟨v,_,I'.movesT tb e,r,q⟩
 refine aY rm ds lk h λv H1 x M1 dx n_ t1 q1=>?_
 unfold eW at q1;split at q1
 ·rename_i d;cases (show v=.ref d from dx);split at q1
  ·rename_i ks es em;obtain⟨vs,xs,ed,tk,dl⟩:=n_ d _ em;refine⟨d,xs,vs,rfl,ed,tk.no,tk.vx,λob p0 tb MG p hp=>?_⟩
   have np:p0≠d:=λz=>by rw[z,ed]at MG;cases MG
   have tA:TM X.K H1 (upd H1 d (.ext (phO d ob))):=.put ed (λ_ z=>nomatch z) λ_ _ z=>nomatch z
   have tB:TM X.K H1 (upd (upd H1 d (.ext (phO d ob))) p0 (.ext λh=>h.IsItemsView p0 d)):=tA.trans (.new (by rw[ai np];exact MG))
   have OM:RelM X.K (put M1 d (.t_ (phO d ob))) (upd H1 d (.ext (phO d ob))):=n_.write ed (λ_ z=>nomatch z) (λ_ _ z=>nomatch z) ah
   have Qd:=OM.grow (o:=.ext λh=>h.IsItemsView p0 d) (by rw[ai np];exact MG)
   have MV:p≠d:=λz=>by rw[z,ai (Jv np),ah]at hp;cases hp
   have Sm:H1 p=none:=by
    by_cases w:p=p0
    ·rw[w];exact MG
    ·rw[ai w,ai MV]at hp;exact hp
   have q1:=q1 (phO d ob) p (n_.fresh Sm);generalize Rb:upd (upd H1 d (.ext (phO d ob))) p0 (.ext λh=>h.IsItemsView p0 d)=H2 at *
   generalize Sn:phO d ob=φ at *
   have l1:=dl.length;have lx:xs.length=ks.length:=by rw[<-tk.kx];simp
   have lv:vs.length=xs.length:=by have:=tk.vx.length;simpa using this
   have li:(ar ks es).length=ks.length:=by simp[ar];omega
   have lp:(kP xs vs).length=ks.length:=by simp[kP];omega
   refine⟨λi m Li H'=>∃KD ys M',m=(ar ks es).length-i/\i<=(ar ks es).length/\RelM X.K M' H'/\DenS X.K H' KD Li/\TM X.K H2 H'/\bM g (λZ M Q=>tt Z M Q (λ_ _=>False)) (λZ M Q=>te Z M Q (λ_ _=>False)) (λM=>M d=some (.t_ φ)) p (λy M2=>Q y (put M2 d (.dt ks es))) ((ar ks es).drop i) ys KD M',
    ⟨_,_,[],_,rfl,Nat.zero_le _,Qd.lay (u:=.lst []) hp ⟨[],ah,.nil⟩,(pe ds).mono ((t1.trans tB).trans (.new hp)),.new hp,q1⟩,?_⟩
   rintro i m Li H' ⟨KD,ys,M',rfl,ME,q_,F_,KL,q⟩;by_cases A_:i<(ar ks es).length
   ·rw[List.drop_eq_getElem_cons A_]at q;obtain⟨s',hl,q⟩:=q;refine .inr ⟨⟨q_ d _ s',by omega⟩,λx H3 y=>?_⟩
    obtain⟨pp,rfl,MT,kv,K3,rfl⟩:=y;have LJ:TM X.K H' (upd H' pp (.tup [kv.1,kv.2])):=.new MT;unfold kP at K3;rw[Jq]at K3;cases hz:(xs.zip vs)[i]? with
    |none=>rw[hz]at K3;cases K3
    |some kw=>
     rw[hz]at K3;have K3:(V.ref kw.1.2.1,kw.2)=kv:=by simpa using K3
     obtain⟨a1,a2⟩:=List.getElem?_zip_eq_some.mp hz;have Rc:=tB.trans KL;obtain⟨dd,b1,b2⟩:=(dl.mono Rc).get' a2;have hk:ks[i]?=some kw.1.1:=by rw[<-tk.kx,Jq,a1];rfl
     have ei:(ar ks es)[i]=.tup [.tup (kw.1.1.map D.int),dd]:=by
      have:(ar ks es)[i]?=some (.tup [.tup (kw.1.1.map D.int),dd]):=by
       have ez:(ks.zip es)[i]?=some (kw.1.1,dd):=List.getElem?_zip_eq_some.mpr ⟨hk,b1⟩;unfold ar;rw[Jq,ez];rfl
      rw[Jz A_]at this;exact JA this
     have dv:Den X.K (upd H' pp (.tup [kv.1,kv.2])) ((ar ks es)[i]) (.ref pp):=by
      rw[ei,<-K3];exact⟨pp,[.ref kw.1.2.1,kw.2],rfl,.inl (.inl ah),⟨_,_,rfl,⟨kw.1.2.1,kw.1.1.map V.int,rfl,TM.t (.new MT) _ _ (Rc.t _ _ (tk.at_ kw.1 (JU a1))),DenL.of_int⟩,_,_,rfl,b2.mono (.new MT),rfl⟩⟩
     refine⟨_,KD,M',_,dv,q_.grow MT,F_.mono LJ,q,λPg H5 K7 M5 MR L6 MS q5=>?_⟩
     refine⟨K7,M5,_,_,MR,L6,LkE.no,q5,λb H6 M6 KN Ky q6=>?_⟩
     have Lr:TM X.K H2 H6:=((KL.trans LJ).trans MS).trans Ky;cases b with
     |true=>
      dsimp only;refine⟨K7,M6,_,_,KN,L6.mono Ky,LkE.no,q6,λv H7 y M7 dy OK OL ⟨e7,q7⟩=>?_⟩
      obtain⟨ws,f7,Rf⟩:=OK p _ e7;have tw:TM X.K H7 (upd H7 p (.lst (ws++[v]))):=.put f7 (λ_=>λz=>nomatch z) λ_ _=>λz=>nomatch z
      exact⟨ws,f7,by rw[<-Rf.length];exact hl,(ar ks es).length-(i+1),by omega,K7,ys++[y],_,rfl,A_,OK.write (u:=.lst (ys++[y])) f7 (λ_=>λz=>nomatch z) (λ_ _=>λz=>nomatch z) ⟨_,ah,(Rf.append (.one dy)).mono tw⟩,((L6.mono Ky).mono OL).mono tw,(Lr.trans OL).trans tw,q7⟩
     |false=>
      dsimp only;exact⟨(ar ks es).length-(i+1),by omega,K7,ys,M6,rfl,A_,KN,L6.mono Ky,Lr,q6⟩
   ·have e:i=(ar ks es).length:=by omega
    subst e;rw[List.drop_length]at q;obtain⟨s',q⟩:=q;have Ph:H' d=some (.ext φ):=q_ d _ s';have tC:TM X.K H' (upd H' d (.ext (ax d xs))):=.put Ph (λ_ z=>nomatch z) λ_ _ z=>nomatch z
    refine .inl ⟨⟨Ph,by omega⟩,d,ob,xs,tb,by rw[Sn];exact Ph,?_⟩
    exact b_ _ _ _ _ ik (q_.write (u:=.dt ks es) Ph (λ_ z=>nomatch z) (λ_ _ z=>nomatch z) ⟨vs,xs,ah,⟨tk.kx,tk.nd,tk.sz,tk.no,tk.vx,λx hx=>tC.t _ _ ((tB.trans KL).t _ _ (tk.at_ x hx))⟩,dl.mono ((tB.trans KL).trans tC)⟩) (((t1.trans tB).trans KL).trans tC) q
  ·exact q1.elim
 ·exact q1.elim
end
structure Cfg where
 N:List Str
 sc:Scope
 fns:List (Option Str×Nat)
 exc:List Str
 kln:List Str
 gln:List Str
 xin:List (Nat×Nat)
 calm:Bool
 own:Bool
 tr:Bool
 fn:Bool
 cel:List (Str×NameKind):=[]
noncomputable def glB(c:Cfg)(x:Str):Bool:=c.sc.names.lookup x == some .globalImplicit
noncomputable def Cv(sc:Scope)(x:Str):Bool:=match sc.names.lookup x with
 |some .local=>true
 |some .cell=>true
 |some .free=>true
 |_=>false
noncomputable def xN(c:Cfg)(x:Str):Bool:=c.sc.names.lookup x == some .local||(c.fn&&c.sc.names.lookup x == some .cell)||(c.cel.lookup x == some .cell&&c.sc.names.lookup x == some .cell)
noncomputable def eI:Expr->Bool
 |.Starred ..=>false
 |_=>true
noncomputable def nH:Expr->Bool
 |.Set ..=>false
 |_=>true
noncomputable def mf:Expr->Bool
 |.ListComp ..=>false
 |.SetComp ..=>false
 |.DictComp ..=>false
 |_=>true
noncomputable def xI:Expr->Bool
 |.Tuple ..=>false
 |_=>true
noncomputable def nA:Expr->Bool
 |.Slice ..=>false
 |_=>true
noncomputable def zK:Expr->Bool
 |.Call ..=>false
 |_=>true
noncomputable def kL:Expr->Bool
 |.Call (.Name _ _) [] [] _=>false
 |_=>true
noncomputable def qV:Expr->Bool
 |.UnaryOp ..=>false
 |.BoolOp ..=>false
 |.IfExp ..=>false
 |.Compare ..=>false
 |_=>true
noncomputable def j2:BI->String
 |.len=>"len"|.max=>"max"|.min=>"min"|.list _=>"list"|.all=>"all"|.any=>"any"
noncomputable def kN:BM->String
 |.get=>"get"|.extend=>"extend"|.remove=>"remove"|.Kw=>"setdefault"
noncomputable def biNames:List Str:=["len","abs","max","min","str","list","tuple","isinstance","range","int","bool","dict","ValueError","enumerate","all","any","sum","zip","reversed","sorted"]
noncomputable def DZ(sc Ml:Scope):Scope:={sc with names:=sc.names.map λ(n,k)=>if (k == .free&&Ml.kind == .function&&Ml.names.lookup n == some .cell) then (n,.cell) else (n,k)}
noncomputable def Cfg.comp(c:Cfg)(N:List Str)(sc:Scope):Cfg:={c with N:=N,sc:=DZ sc c.sc,own:=false,tr:=false,fn:=false,cel:=sc.names}
noncomputable def okG(c:Cfg):ITg->Expr->Bool
 |.name i,e=>match e with
  |.Name x _=>(c.N[i]? == some x)&&xN c x
  |_=>false
 |.tup is,e=>match e with
  |.Tuple es _ _=>c.calm&&bY c.N c.sc c.fn is es
  |_=>false
noncomputable def tW:II->Expr->Bool
 |.enum _,e=>match e with
  |.Tuple ..=>true
  |_=>false
 |.zip _ _,e=>match e with
  |.Tuple ..=>true
  |_=>false
 |.items _,e=>match e with
  |.Tuple ..=>true
  |_=>false
 |_,_=>true
mutual
noncomputable def okE:IE->Cfg->Expr->Bool
 |.var i,c,e=>match e with
  |.Name x _=>(c.N[i]? == some x)&&Cv c.sc x&&!(x == ("__debug__" : Str))&&!(x == ("__classdict__" : Str))
  |_=>false
 |.con d,_,e=>match e with
  |.Constant k _ _=>match k,d with
   |.int i,.int j=>decide (i=j)
   |.bool i,.bl j=>decide (i=j)
   |.none,.i_=>true
   |.str i,.str j=>decide (i=j)
   |_,_=>false
  |_=>false
 |.bin op a b,c,e=>match e with
  |.BinOp x K8 y _=>decide (op=K8)&&okE a c x&&okE b c y
  |_=>false
 |.neg a,c,e=>match e with
  |.UnaryOp op x _=>decide (op=.USub)&&okE a c x
  |_=>false
 |.cat _ a b,c,e=>match e with
  |.BinOp x K8 y _=>decide (K8=.Add)&&okE a c x&&okE b c y
  |_=>false
 |.cmp op a b,c,e=>match e with
  |.Compare x [K8] [y] _=>decide (op=K8)&&nH y&&okE a c x&&okE b c y
  |_=>false
 |.chain op1 op2 a b d,c,e=>match e with
  |.Compare x [op1',op2'] [y,z] _=>decide (op1=op1')&&decide (op2=op2')&&nH z&&okE a c x&&okE b c y&&okE d c z
  |_=>false
 |.and a b,c,e=>match e with
  |.BoolOp op (x::y::r) p=>decide (op=.And)&&okE a c x&&(match r with|[]=>okE b c y|_::_=>okE b c (.BoolOp .And (y::r) p))
  |_=>false
 |.or a b,c,e=>match e with
  |.BoolOp op (x::y::r) p=>decide (op=.Or)&&okE a c x&&(match r with|[]=>okE b c y|_::_=>okE b c (.BoolOp .Or (y::r) p))
  |_=>false
 |.not a,c,e=>match e with
  |.UnaryOp op x _=>decide (op=.Not)&&okE a c x
  |_=>false
 |.NZ t a b,c,e=>match e with
  |.IfExp x y z _=>okT t c x&&okE a c y&&okE b c z
  |_=>false
 |.tup es,c,e=>match e with
  |.Tuple xs _ _=>okA es c xs
  |_=>false
 |.lst _ es,c,e=>match e with
  |.List xs _=>okA es c xs
  |_=>false
 |.u_ a,c,e=>okE a c e
 |.ix a b,c,e=>match e with
  |.Subscript x y _=>nA y&&okE a c x&&okE b c y
  |_=>false
 |.sl _ a lo hi,c,e=>match e with
  |.Subscript x (.Slice l h none _) _=>okE a c x&&okO lo c l&&okO hi c h
  |_=>false
 |.call f es,c,e=>match e with
  |.Call (.Name x _) args [] _=>c.calm&&(match c.fns[f]? with|some p=>decide (some x=p.1)|none=>false)&&glB c x&&!(x == ("__debug__" : Str))&&okA es c args
  |_=>false
 |.bi b es,c,e=>match e with
  |.Call (.Name x _) args [] _=>c.calm&&decide (x=(j2 b:Str))&&glB c x&&!args.isEmpty&&okA es c args
  |_=>false
 |.Ms a t,c,e=>match e with
  |.Call (.Name x _) [y,.Name z _] [] _=>decide (x=("isinstance" : Str))&&decide (z=(cq t:Str))&&glB c x&&glB c z&&eI y&&okE a c y
  |_=>false
 |.LS a b,c,e=>match e with
  |.Dict [some x] [y] _=>okE a c x&&okE b c y
  |_=>false
 |.comp _ N js tg it cond D_,c,e=>match e with
  |.ListComp el [⟨Nj,iter,ifs,as⟩] scope _=>c.calm&&decide (as=0)&&tW it Nj&&nH iter&&c6 N js scope c.sc c.N&&okI it c iter&&okG (c.comp N scope) tg Nj&&vX cond (c.comp N scope) ifs&&okE D_ (c.comp N scope) el
  |_=>false
 |.LU N js tg o cond D_,c,e=>match e with
  |.ListComp el [⟨.Tuple KI x1 pt,.Call (.Attribute x m ap) [] [] cp,ifs,as⟩] scope _=>c.calm&&decide (as=0)&&decide (m=("items" : Str))&&kL x&&(ap.endLine == cp.line)&&c6 N js scope c.sc c.N&&okE o c x&&okG (c.comp N scope) tg (.Tuple KI x1 pt)&&vX cond (c.comp N scope) ifs&&okE D_ (c.comp N scope) el
  |_=>false
 |.OA a,c,e=>match e with
  |.Call (.Name x _) [y] [] _=>c.calm&&decide (x=("min" : Str))&&glB c x&&eI y&&okE a c y
  |_=>false
 |.N0 mx a,c,e=>match e with
  |.Call (.Name x _) [y] [⟨some d,.Constant k _ _,_⟩] _=>c.calm&&decide (x=(gI mx:Str))&&glB c x&&eI y&&okE a c y&&decide (d=("default" : Str))&&(match k with|.int i=>decide (i=0)|_=>false)
  |_=>false
 |.fld a f,c,e=>match e with
  |.Attribute x m _=>decide (m=fnm f)&&kL x&&okE a c x
  |_=>false
 |.make _ i es,c,e=>match e with
  |.Call (.Name x _) args [] _=>c.calm&&(c.kln[i]? == some x)&&glB c x&&!(x == ("__debug__" : Str))&&okA es c args
  |_=>false
 |.E_ a m es,c,e=>match e with
  |.Call (.Attribute x n ap) args [] cp=>c.calm&&decide (n=fnm m)&&kL x&&(ap.endLine == cp.line)&&decide (args.length<30)&&okE a c x&&okA es c args
  |_=>false
 |.ini i es,c,e=>match e with
  |.Call (.Attribute (.Name x _) n ap) args [] cp=>c.calm&&decide (n=("__init__" : Str))&&(c.kln[i]? == some x)&&glB c x&&!(x == ("__debug__" : Str))&&(ap.endLine == cp.line)&&decide (args.length<30)&&!args.isEmpty&&okA es c args
  |_=>false
 |.glo k,c,e=>match e with
  |.Name x _=>(c.gln[k]? == some x)&&glB c x&&!(x == ("__debug__" : Str))
  |_=>false
 |.bm b o es,c,e=>match e with
  |.Call (.Attribute x n ap) args [] cp=>c.calm&&decide (n=(kN b:Str))&&kL x&&(ap.endLine == cp.line)&&decide (args.length<30)&&okE o c x&&okA es c args
  |_=>false
 |.KJ _,_,e=>match e with
  |.Dict [] [] _=>true
  |_=>false
noncomputable def okT:IT->Cfg->Expr->Bool
 |.val a,c,e=>qV e&&okE a c e
 |.cmp op a b,c,e=>match e with
  |.Compare x [K8] [y] _=>decide (op=K8)&&nH y&&okE a c x&&okE b c y
  |_=>false
 |.chain op1 op2 a b d,c,e=>match e with
  |.Compare x [op1',op2'] [y,z] _=>decide (op1=op1')&&decide (op2=op2')&&nH z&&okE a c x&&okE b c y&&okE d c z
  |_=>false
 |.and a b,c,e=>match e with
  |.BoolOp op (x::y::r) p=>decide (op=.And)&&okT a c x&&(match r with|[]=>okT b c y|_::_=>okT b c (.BoolOp .And (y::r) p))
  |_=>false
 |.or a b,c,e=>match e with
  |.BoolOp op (x::y::r) p=>decide (op=.Or)&&okT a c x&&(match r with|[]=>okT b c y|_::_=>okT b c (.BoolOp .Or (y::r) p))
  |_=>false
 |.not a,c,e=>match e with
  |.UnaryOp op x _=>decide (op=.Not)&&okT a c x
  |_=>false
noncomputable def okA:IA->Cfg->List Expr->Bool
 |.nil,_,es=>es.isEmpty
 |.cons a r,c,es=>match es with
  |x::xs=>eI x&&okE a c x&&okA r c xs
  |[]=>false
noncomputable def okO:IO->Cfg->Option Expr->Bool
 |.no,_,o=>o.isNone
 |.yes a,c,o=>match o with
  |some x=>okE a c x
  |none=>false
noncomputable def vX:ITO->Cfg->List Expr->Bool
 |.no,_,es=>es.isEmpty
 |.yes t,c,es=>match es with
  |[x]=>okT t c x
  |_=>false
noncomputable def okI:II->Cfg->Expr->Bool
 |.seq a,c,e=>okE a c e
 |.enum a,c,e=>match e with
  |.Call (.Name x _) [y] [] _=>decide (x=("enumerate" : Str))&&glB c x&&eI y&&okE a c y
  |_=>false
 |.zip a b,c,e=>match e with
  |.Call (.Name x _) [y,z] [] _=>decide (x=("zip" : Str))&&glB c x&&eI y&&eI z&&okE a c y&&okE b c z
  |_=>false
 |.items a,c,e=>match e with
  |.Call (.Attribute x n ap) [] [] cp=>decide (n=("items" : Str))&&kL x&&(ap.endLine == cp.line)&&okE a c x
  |_=>false
 |.dk a,c,e=>okE a c e
 |.LV a,c,e=>match e with
  |.Call (.Name x _) [y] [] _=>decide (x=("range" : Str))&&glB c x&&eI y&&okE a c y
  |_=>false
end
noncomputable def swB(c:Cfg)(scope:Scope)(x:Str)(l1 l2:Nat):Bool:=c.sc.kind == .function&&c.sc.names.lookup x == some .local&&l1 == l2&&!(scope.names.any λ(n,k)=>n == x&&(k == .local||k == .cell))
mutual
noncomputable def okS:IS->Cfg->Stmt->Bool
 |.set i a,c,s=>match s with
  |.Assign [.Name x px] e _=>(c.N[i]? == some x)&&xN c x&&okE a c e&&(mf e||match e,a with
   |.ListComp _ _ scope pos,.comp ..=>swB c scope x px.line pos.line||c.sc.names.lookup x == some .cell
   |_,_=>false)
  |_=>false
 |.MO is a,c,s=>match s with
  |.Assign [.Tuple es _ _] e _=>c.calm&&bY c.N c.sc c.fn is es&&xI e&&mf e&&okE a c e
  |_=>false
 |.expr a,c,s=>match s with
  |.Expr e _=>mf e&&okE a c e
  |_=>false
 |.ret a,c,s=>match s with
  |.Return (some e) _=>okE a c e
  |_=>false
 |.Mc,_,s=>match s with
  |.Return none _=>true
  |_=>false
 |.ifs t a b,c,s=>match s with
  |.If x y z _=>okT t c x&&jr a c y&&jr b c z
  |_=>false
 |.Kr tg it body,c,s=>match s with
  |.For Nj iter b [] _=>c.own&&tW it Nj&&c.calm&&nH iter&&okG c tg Nj&&okI it c iter&&jr body c b
  |_=>false
 |.L3 tg o body,c,s=>match s with
  |.For Nj x b [] _=>c.own&&c.calm&&nH x&&okG c tg Nj&&okE o c x&&jr body c b
  |_=>false
 |.Md tg o body,c,s=>match s with
  |.For (.Tuple KI x1 pt) (.Call (.Attribute x n ap) [] [] cp) b [] _=>c.own&&c.calm&&decide (n=("items" : Str))&&kL x&&(ap.endLine == cp.line)&&okG c tg (.Tuple KI x1 pt)&&okE o c x&&jr body c b
  |_=>false
 |.Pd t body,c,s=>match s with
  |.While x b [] _=>c.own&&okT t c x&&jr body c b
  |_=>false
 |.app o a,c,s=>match s with
  |.Expr (.Call (.Attribute x m ap) [y] [] cp) _=>decide (m=("append" : Str))&&zK x&&(ap.endLine == cp.line)&&eI y&&okE o c x&&okE a c y
  |_=>false
 |.del _,_,_=>false
 |.dead,_,_=>true
 |.Lb o f a,c,s=>match s with
  |.Assign [.Attribute x m _] v _=>decide (m=fnm f)&&mf v&&okE o c x&&okE a c v
  |_=>false
 |.y_ o i a,c,s=>match s with
  |.Assign [.Subscript x y _] v _=>nA y&&mf v&&okE o c x&&okE i c y&&okE a c v
  |_=>false
noncomputable def jr:ISs->Cfg->List Stmt->Bool
 |.nil,_,Mm=>Mm.isEmpty
 |.cons s r,c,Mm=>match s with
  |.del _=>jr r c Mm
  |s=>match Mm with
   |st::aT=>okS s c st&&jr r c aT
   |[]=>false
end
structure Good (c:Cfg)(W:WC)(X:Cx)(E2:St->XK):Prop where
 N:X.N=c.N
 nd:c.N.Nodup
 sc:X.env.scope=c.sc
 un:X.A.units+64<cLine
 calm:c.calm=true->X.calm=true
 fnx:c.fn=true->∀x,X.fn x=true
 cel:∀x,c.cel.lookup x=some .cell->X.fn x=true
 own:c.own=true->PassesOwn (model X.prog X.w) X.A X.env X.xe/\∃E,(E2=λ_=>E)/\vN X E/\rJ X E/\Room 2 X.A
 tr:c.tr=true->X.stack=X.env::X.outer/\X.env.frame=some X.env.locals/\X.ex=[]
 fns:c.calm=true->∃k,Room (k+1) X.A/\∀f,f<c.fns.length->sR X W.cls k (W.e_ f) (W.call f)
 fnn:∀f x n,c.fns[f]?=some (some x,n)->X.mg x=some (.ref (W.e_ f))
 kok:∀i,i<W.nk->KOk X.K W.toWB W.e_ i
 kin:∀i,i<W.nk->∃f,W.ini i=some f
 kfi:∀i f,i<W.nk->W.ini i=some f->f<c.fns.length
 kfm:∀i m f,i<W.nk->W.mth i m=some f->f<c.fns.length
 knm:∀i x,c.kln[i]?=some x->X.mg x=some (.ref (W.c_ i))/\i<W.nk
 glo:∀k x,c.gln[k]?=some x->∃u v,X.mg x=some u/\RelV v u/\∀H,Den X.K H (W.glo k) v
 exc:∀i x,c.exc[i]?=some x->X.mg x=some (.ref (W.cls i))/\(c.xin.lookup i=none->Eo X.K (W.cls i))/\∀j,j<W.ne->PySem.W.exmOne X.K (.ref (W.cls j)) (.ref (W.cls i))=some (W.sub j i)
 exi:∀i,i<W.ne->ExcI X.K (W.cls i)/\PySem.W.kitOne X.K (.ref (W.cls i)) (.type "ValueError")=some true/\∀j x,c.exc[j]?=some x->PySem.W.kitOne X.K (.ref (W.cls i)) (.ref (W.cls j))=some (W.sub i j)
 xi:∀i f,c.xin.lookup i=some f->W.xin i=some f/\∃fI fd ps,XIni X.K (W.cls i) fI (fnm f)/\Binds X.K fd ps []/\FnOk X.prog X.w X.K X.mg X.base (CX1 X.prog X.w) 1 fI fd ps (vB (cpF f) X.K (W.cls i) (fnm f))
 xn:∀i f,i<W.ne->W.xin i=some f->NoAttr X.K (W.cls i) (fnm f)
 bi:∀x∈biNames,X.mg x=none
 dig:CB X.K
 pass:bF (CX1 X.prog X.w) X E2
section
variable {c:Cfg}{X:Cx}
theorem Good.gl(G:Good c W X E2)(h:glB c x=true):Gl X x:=by
 show X.env.scope.names.lookup x=_;rw[G.sc];exact JH.mp h
theorem Good.loc(G:Good c W X E2)(h:xN c x=true):Loc X.env.scope x/\(X.fn x=true\/X.env.scope.names.lookup x=some .local):=by
 unfold xN at h;rw[G.sc];simp only[Bool.or_eq_true,Jf,JH]at h;rcases h with (h|⟨h1,h2⟩)|⟨h1,h2⟩
 ·exact⟨.inl h,.inr h⟩
 ·exact⟨.inr h2,.inl (G.fnx h1 x)⟩
 ·exact⟨.inr h2,.inl (G.cel x h1)⟩
theorem Good.vis(G:Good c W X E2)(h:Cv c.sc x=true):Vis X.env.scope x:=by
 rw[G.sc];unfold Cv at h;split at h
 ·exact .inl (by assumption)
 ·exact .inr (.inl (by assumption))
 ·exact .inr (.inr (by assumption))
 ·cases h
theorem Good.at{i:Nat}{x:Str}(G:Good c W X E2)(h:(c.N[i]? == some x)=true):X.N[i]?=some x:=by rw[G.N];exact JH.mp h
theorem Good.ndX(G:Good c W X E2):X.N.Nodup:=by rw[G.N];exact G.nd
theorem Good.names(G:Good c W X E2)(h:bY c.N c.sc c.fn is es=true):bY X.N X.env.scope c.fn is es=true:=by rw[G.N,G.sc];exact h
theorem Ap:bF (CX1 P w) X no2:=λ_ _ _ _ _ _ _ h=>by
 obtain⟨_,_,_,_,_,_,_,_,_,_,_,_,_,he⟩:=h;exact he.elim
theorem Good.comp(G:Good c W X E2){N:List Str}{js:List (Option Nat)}{scope:Scope}(h:c6 N js scope c.sc c.N=true)(C:Addr)(s2:Shared)(H2:Hp)(fp:List Addr)(pn:List (Addr×Obj)):Good (c.comp N scope) W (compCx X scope C N s2 H2 fp pn) no2:=by
 have hc:=lQ h;refine⟨rfl,hc.nd,?_,G.un,G.calm,(λz=>nomatch z),(λx z=>JH.mpr z),(λz=>nomatch z),(λz=>nomatch z),G.fns,G.fnn,G.kok,G.kin,G.kfi,G.kfm,G.knm,G.glo,G.exc,G.exi,G.xi,G.xn,G.bi,G.dig,Ap⟩
 show relabel scope X.env=DZ scope c.sc;rw[<-G.sc];rfl
end
theorem b9(h:eI e=true):starEach (e::es) env=(false,eval e env)::starEach es env:=by
 cases e<;>first|rfl|cases h
theorem qU(h:nH e=true):∀x,foldedSetIterable e env x=pure x:=by
 intro x;cases e<;>first|rfl|cases h
theorem jz(h:nH e=true):behindInMarks op e=false:=by
 cases e<;>first|rfl|cases h
theorem jV(h:mf e=true):swapsWith e t n env=pure false:=by
 cases e<;>first|rfl|cases h
theorem tL{e:Expr}(h:qV e=true):∀whole,isTrue e env whole=(do let v<-whole;standAt e.pos;holding [v] (truthy v)):=by
 intro whole;cases e<;>first|rfl|cases h
theorem xD(h:nA e=true):mF e:=by
 intro o i;cases e<;>first|rfl|cases h
theorem BG{e:Expr}{m:Str}{env:Env}{whole:Sem Value}(h:zK e=true):attributeBase e m env whole=whole:=by
 cases e<;>first|rfl|cases h
theorem c5{e:Expr}{m:Str}{env:Env}{whole:Sem Value}(h:kL e=true):attributeBase e m env whole=whole:=by
 cases e with
 |Call f as ks p=>
  cases f with
  |Name x px=>
   cases as with
   |nil=>
    cases ks with
    |nil=>cases h
    |cons _ _=>rfl
   |cons _ _=>rfl
  |_=>rfl
 |_=>rfl
theorem Ae(h:nA i=true):∀v,assign (.Subscript o i p) env v=(do
   let ov<-holding [v] (eval o env)
   let iv<-holding [v,ov] (eval i env)
   standAt p
   holding [v,ov,iv] (setItem ov iv v)
   release [v,ov,iv] []):=by
 intro v;cases i<;>first|rfl|cases h
theorem vQ(h:xI e=true):swappedStores [.Tuple es k p] e env=pure none:=by
 cases e<;>first|rfl|cases h
theorem d9(pos:Pos):∀{r:IA}{c:Cfg}{es:List Expr}{env:Env},okA r c es=true->(backTo pos (starEach es env)).any (·.1)=false
 |.nil,c,es,env,h=>by
  cases es with
  |nil=>rfl
  |cons _ _=>cases h
 |.cons a r,c,es,env,h=>by
  cases es with
  |nil=>simp[okA]at h
  |cons x xs=>
   simp only[okA,Jf]at h;rw[b9 h.1.1];show (false||(backTo pos (starEach xs env)).any (·.1))=false
   rw[d9 pos h.2];rfl
theorem zS(h:PE X a t):PE X (.BoolOp op [a] pos) t:=Bz h
theorem B6(b:BI):((j2 b:String):Str)∈biNames:=by
 cases b with
 |list fz=>cases fz<;>decide +kernel
 |_=>decide +kernel
theorem Cm(t:BT):((cq t:String):Str)∈biNames:=by cases t<;>decide +kernel
theorem xo{X:Cx}(hu:X.A.units+64<cLine)(hc:X.calm=true)(hd:CB X.K)(hg:Gl X (j2 b:String))(hm:X.mg (j2 b:String)=none)(ha:PA X (e::es) (eF X.K cls E2 tr))
  (he:starEach (e::es) X.env=(false,eval e X.env)::starEach es X.env) (KY:(backTo pos (starEach es X.env)).any (·.1)=false):PE X (.Call (.Name (j2 b:String) p) (e::es) [] pos) (low X.K cls E2 λZ M Q E=>tr Z M (λxs M1=>rBi b xs M1 Q) E):=by
 cases b with
 |len=>exact gO Av hg hm (by decide +kernel) ha (by decide +kernel) (by decide +kernel) he KY
 |max=>exact gO (Ay hc) hg hm (by decide +kernel) ha (by decide +kernel) (by decide +kernel) he KY
 |min=>exact gO (B3 hc) hg hm (by decide +kernel) ha (by decide +kernel) (by decide +kernel) he KY
 |list fz=>exact xF (yE fz hc) hg hm (by cases fz<;>decide +kernel) ha (by cases fz<;>decide +kernel) (by cases fz<;>decide +kernel) he KY
 |all=>exact gO (zo true hc) hg hm (by decide +kernel) ha (by decide +kernel) (by decide +kernel) he KY
 |any=>exact gO (zo false hc) hg hm (by decide +kernel) ha (by decide +kernel) (by decide +kernel) he KY
theorem xz{X:Cx}{o_ pos:Pos}(hu:X.A.units+64<cLine)(ho:PE X o (low X.K cls E2 to))(ha:PA X (e::es) (eF X.K cls E2 tr))
  (hb:attributeBase o (kN b:String) X.env (eval o X.env)=eval o X.env) (hn:(e::es).length<30) (hl:(o_.endLine == pos.line)=true) (he:starEach (e::es) X.env=(false,eval e X.env)::starEach es X.env) (KY:(backTo pos (starEach es X.env)).any (·.1)=false) :
  PE X (.Call (.Attribute o (kN b:String) o_) (e::es) [] pos) (low X.K cls E2 λZ M Q E=>to Z M (λx M1=>tyB b x M1=true/\tr Z M1 (λxs M2=>rBm b x xs M2 Q) E) E):=by
 cases b with
 |get=>exact yI PySem.F.plainAttrs_dict PySem.F.slot_dict_get PySem.F.type_dict_get (vL hu) ny ho ha hb hn hl he KY
 |extend=>exact yI PySem.F.plainAttrs_list PySem.F.slot_list_extend PySem.F.type_list_extend me hZ ho ha hb hn hl he KY
 |remove=>exact yI PySem.F.plainAttrs_list PySem.F.slot_list_remove PySem.F.type_list_remove (lU hu) hZ ho ha hb hn hl he KY
 |Kw=>exact yI PySem.F.plainAttrs_dict PySem.F.slot_dict_setdefault PySem.F.type_dict_setdefault lK oq ho ha hb hn hl he KY
theorem uU{X:Cx}{o_ pos:Pos}(hu:X.A.units+64<cLine)(ho:PE X o (low X.K cls E2 to))
  (hb:attributeBase o (kN b:String) X.env (eval o X.env)=eval o X.env) (hl:(o_.endLine == pos.line)=true) :
  PE X (.Call (.Attribute o (kN b:String) o_) [] [] pos) (low X.K cls E2 λZ M Q E=>to Z M (λx M1=>tyB b x M1=true/\rBm b x [] M1 Q) E):=by
 cases b with
 |get=>exact rf PySem.F.plainAttrs_dict PySem.F.slot_dict_get PySem.F.type_dict_get (vL hu) ny ho hb hl
 |extend=>exact rf PySem.F.plainAttrs_list PySem.F.slot_list_extend PySem.F.type_list_extend me hZ ho hb hl
 |remove=>exact rf PySem.F.plainAttrs_list PySem.F.slot_list_remove PySem.F.type_list_remove (lU hu) hZ ho hb hl
 |Kw=>exact rf PySem.F.plainAttrs_dict PySem.F.slot_dict_setdefault PySem.F.type_dict_setdefault lK oq ho hb hl
theorem eA(h:okA (.cons a r) c es=true):∃x xs,es=x::xs/\eI x=true/\okE a c x=true/\okA r c xs=true:=by
 cases es with
 |nil=>simp[okA]at h
 |cons x xs=>
  simp only[okA,Jf]at h;exact⟨x,xs,rfl,h.1.1,h.1.2,h.2⟩
noncomputable def GU:IT->Bool
 |.and _ _=>true
 |.or _ _=>true
 |_=>false
section
variable {W:WC}
theorem sG:∀(tg:ITg) {c:Cfg}{e:Expr}{X:Cx}{E2:St->XK},okG c tg e=true->Good c W X E2->PG X e (nc X.K (wpG tg))
 |.name i,c,e,X,E2,h,G=>by
  simp only[okG]at h;split at h
  ·simp only[Jf]at h;obtain⟨l1,l2⟩:=G.loc h.2;exact Cj G.ndX (G.at h.1) l1 l2
  ·cases h
 |.tup is,c,e,X,E2,h,G=>by
  simp only[okG]at h;split at h
  ·simp only[Jf]at h;exact zH (G.calm h.1) G.ndX G.fnx (G.names h.2)
  ·cases h
mutual
theorem sE:∀(ie:IE) {c:Cfg}{e:Expr}{X:Cx}{E2:St->XK},okE ie c e=true->Good c W X E2->PE X e (low X.K W.cls E2 (wpE W ie))
 |.var i,c,e,X,E2,h,G=>by
  unfold okE at h;split at h
  ·simp only[Jf,Bool.not_eq_true']at h;exact Dy (G.at h.1.1.1) (G.vis h.1.1.2) h.1.2 h.2
  ·cases h
 |.con d,c,e,X,E2,h,G=>by
  unfold okE at h;split at h
  ·split at h
   ·cases J8 h;exact pK vM λ_=>rfl
   ·cases J8 h;exact pK D6 λ_=>rfl
   ·exact pK Bt λ_=>rfl
   ·cases J8 h;exact pK AZ λ_=>rfl
   ·cases h
  ·cases h
 |.bin op a b,c,e,X,E2,h,G=>by
  unfold okE at h;split at h
  ·simp only[Jf,Js]at h;obtain⟨⟨rfl,h1⟩,h2⟩:=h;exact CS (B4 op) (sE a h1 G) (sE b h2 G)
  ·cases h
 |.neg a,c,e,X,E2,h,G=>by
  unfold okE at h;split at h
  ·simp only[Jf,Js]at h;obtain⟨rfl,h1⟩:=h;exact Gj (ta:=wpE W a) (r:=rNeg) Aw (sE a h1 G)
  ·cases h
 |.cat fz a b,c,e,X,E2,h,G=>by
  unfold okE at h;split at h
  ·simp only[Jf,Js]at h;obtain⟨⟨rfl,h1⟩,h2⟩:=h;exact Es (sE a h1 G) (sE b h2 G)
  ·cases h
 |.cmp op a b,c,e,X,E2,h,G=>by
  unfold okE at h;split at h
  ·simp only[Jf,Js]at h;obtain⟨⟨⟨rfl,h0⟩,h1⟩,h2⟩:=h;exact Eh (iQ G.un op) (sE a h1 G) (sE b h2 G) (jz h0)
  ·cases h
 |.chain op1 op2 a b d,c,e,X,E2,h,G=>by
  unfold okE at h;split at h
  ·simp only[Jf,Js]at h;obtain⟨⟨⟨⟨⟨rfl,rfl⟩,h0⟩,h1⟩,h2⟩,h3⟩:=h;exact xG (iQ G.un op1) (iQ G.un op2) (sE a h1 G) (sE b h2 G) (sE d h3 G) (jz h0)
  ·cases h
 |.and a b,c,e,X,E2,h,G=>by
  unfold okE at h;split at h
  ·rename_i op x y r p;simp only[Jf,Js]at h;obtain⟨⟨rfl,h1⟩,h2⟩:=h;cases r with
   |nil=>exact zF (sE a h1 G) (zS (sE b h2 G))
   |cons z r=>exact zF (sE a h1 G) (sE b h2 G)
  ·cases h
 |.or a b,c,e,X,E2,h,G=>by
  unfold okE at h;split at h
  ·rename_i op x y r p;simp only[Jf,Js]at h;obtain⟨⟨rfl,h1⟩,h2⟩:=h;cases r with
   |nil=>exact ET (sE a h1 G) (zS (sE b h2 G))
   |cons z r=>exact ET (sE a h1 G) (sE b h2 G)
  ·cases h
 |.not a,c,e,X,E2,h,G=>by
  unfold okE at h;split at h
  ·simp only[Jf,Js]at h;obtain⟨rfl,h1⟩:=h;exact C8 (sE a h1 G)
  ·cases h
 |.NZ t a b,c,e,X,E2,h,G=>by
  unfold okE at h;split at h
  ·simp only[Jf]at h;exact Ge (sT t h.1.1 G).1 (sE a h.1.2 G) (sE b h.2 G)
  ·cases h
 |.tup es,c,e,X,E2,h,G=>by
  unfold okE at h;split at h
  ·exact DM (sA es h G)
  ·cases h
 |.lst fz es,c,e,X,E2,h,G=>by
  unfold okE at h;split at h
  ·exact Ej (sA es h G)
  ·cases h
 |.u_ a,c,e,X,E2,h,G=>by
  unfold okE at h;exact C7 (sE a h G)
 |.ix a b,c,e,X,E2,h,G=>by
  unfold okE at h;split at h
  ·simp only[Jf]at h;exact Hf G.un (sE a h.1.2 G) (sE b h.2 G) (xD h.1.1)
  ·cases h
 |.sl fz a lo hi,c,e,X,E2,h,G=>by
  unfold okE at h;split at h
  ·simp only[Jf]at h;exact F6 (sE a h.1.1 G) (sO lo h.1.2 G) (sO hi h.2 G)
  ·cases h
 |.call f es,c,e,X,E2,h,G=>by
  unfold okE at h;split at h
  ·rename_i x px args pos;simp only[Jf,Bool.not_eq_true']at h;obtain⟨⟨⟨⟨h0,h1⟩,h2⟩,h3⟩,h4⟩:=h;split at h1
   ·rename_i p hp;simp only[Js]at h1;obtain⟨p1,p2⟩:=p;cases h1;obtain⟨k,hr,hF⟩:=G.fns h0;obtain⟨fd,ps,Ts,m2,m3,m5⟩:=hF f (JL.mp hp).1;have m1:=G.fnn f x p2 hp;have m4:=hr.mono (Kj k);have hA:=sA es h4 G;cases args with
    |nil=>
     cases es with
     |nil=>exact xV m5 m4 (G.gl h2) m1 m2 m3 G.pass h3
     |cons _ _=>simp[okA]at h4
    |cons z zs=>
     cases es with
     |nil=>simp[okA]at h4
     |cons ea er=>
      obtain⟨_,_,e1,n1,_,n3⟩:=eA h4;cases e1;exact BZ m5 m4 (G.gl h2) m1 m2 m3 G.pass hA h3 (b9 n1) (d9 _ n3)
   ·cases h1
  ·cases h
 |.bi b es,c,e,X,E2,h,G=>by
  unfold okE at h;split at h
  ·rename_i x px args pos;simp only[Jf,Js]at h;obtain⟨⟨⟨⟨h0,rfl⟩,h2⟩,h3⟩,h4⟩:=h;have hA:=sA es h4 G;cases args with
   |nil=>cases h3
   |cons z zs=>
    cases es with
    |nil=>simp[okA]at h4
    |cons ea er=>
     obtain⟨_,_,e1,n1,_,n3⟩:=eA h4;cases e1;exact xo G.un (G.calm h0) G.dig (G.gl h2) (G.bi _ (B6 b)) hA (b9 n1) (d9 _ n3)
  ·cases h
 |.Ms a t,c,e,X,E2,h,G=>by
  unfold okE at h;split at h
  ·simp only[Jf,Js]at h;obtain⟨⟨⟨⟨⟨rfl,rfl⟩,h2⟩,h3⟩,h4⟩,h5⟩:=h;exact Er (sE a h5 G) (G.gl h2) (G.bi _ (by decide +kernel)) (G.gl h3) (G.bi _ (Cm t)) (b9 h4)
  ·cases h
 |.LS a b,c,e,X,E2,h,G=>by
  unfold okE at h;split at h
  ·simp only[Jf]at h;exact A9 G.un (sE a h.1 G) (sE b h.2 G)
  ·cases h
 |.comp fz N js tg it cond D_,c,e,X,E2,h,G=>by
  unfold okE at h;split at h
  ·simp only[Jf,Js]at h;obtain⟨⟨⟨⟨⟨⟨⟨⟨h0,rfl⟩,ht⟩,h1⟩,h2⟩,h3⟩,h4⟩,h5⟩,h6⟩:=h;have j_:=h2;rw[<-G.sc,<-G.N]at j_;exact Cy j_ (G.calm h0) (sI it h3 G ht) (λC s2 H2 fp pn=>sG tg h4 (G.comp h2 C s2 H2 fp pn)) (λC s2 H2 fp pn=>sTO cond h5 (G.comp h2 C s2 H2 fp pn)) (λC s2 H2 fp pn=>sE D_ h6 (G.comp h2 C s2 H2 fp pn)) (qU h1) fz
  ·cases h
 |.LU N js tg o cond D_,c,e,X,E2,h,G=>by
  unfold okE at h;split at h
  ·simp only[Jf,Js]at h;obtain⟨⟨⟨⟨⟨⟨⟨⟨⟨h0,rfl⟩,rfl⟩,h1⟩,hl⟩,h2⟩,h3⟩,h4⟩,h5⟩,h6⟩:=h;have j_:=h2;rw[<-G.sc,<-G.N]at j_;exact xt j_ (G.calm h0) (sE o h3 G) (c5 h1) hl (λC s2 H2 fp pn=>sG tg h4 (G.comp h2 C s2 H2 fp pn)) (λC s2 H2 fp pn=>sTO cond h5 (G.comp h2 C s2 H2 fp pn)) (λC s2 H2 fp pn=>sE D_ h6 (G.comp h2 C s2 H2 fp pn)) (λx=>rfl)
  ·cases h
 |.OA a,c,e,X,E2,h,G=>by
  unfold okE at h;split at h
  ·simp only[Jf,Js]at h;obtain⟨⟨⟨⟨h0,rfl⟩,h1⟩,h2⟩,h3⟩:=h;exact Dz (G.calm h0) G.un (sE a h3 G) (G.gl h1) (G.bi _ (by decide +kernel)) (b9 h2)
  ·cases h
 |.N0 mx a,c,e,X,E2,h,G=>by
  unfold okE at h;split at h
  ·simp only[Jf,Js]at h;obtain⟨⟨⟨⟨⟨⟨h0,rfl⟩,h2⟩,h3⟩,h4⟩,rfl⟩,h6⟩:=h;have hb:X.mg (gI mx:String)=none:=G.bi _ (by cases mx<;>decide +kernel)
   split at h6
   ·simp only[Js]at h6;subst h6;exact EI mx (G.calm h0) (sE a h4 G) (G.gl h2) hb (b9 h3)
   ·cases h6
  ·cases h
 |.fld a f,c,e,X,E2,h,G=>by
  unfold okE at h;split at h
  ·simp only[Jf,Js]at h;obtain⟨⟨rfl,h1⟩,h2⟩:=h;exact DX G.kok (sE a h2 G) (c5 h1)
  ·cases h
 |.make fz i es,c,e,X,E2,h,G=>by
  unfold okE at h;split at h
  ·rename_i x px args pos;simp only[Jf,Bool.not_eq_true']at h;obtain⟨⟨⟨⟨h0,h1⟩,h2⟩,h3⟩,h4⟩:=h;obtain⟨m1,hi⟩:=G.knm i x (JH.mp h1);obtain⟨k,hr,hF⟩:=G.fns h0;have hA:=sA es h4 G;cases q:W.ini i with
   |none=>exact absurd q (by obtain⟨f,hf⟩:=G.kin i hi;rw[hf];exact λz=>nomatch z)
   |some f=>
    have F:=hF f (G.kfi i f hi q);cases args with
    |nil=>
     cases es with
     |nil=>exact (xl (B:=W.toWB) (fz:=fz) (G.gl h2) m1 h3 ((G.kok i hi).mkr f q) F hr G.pass).imp λZ H Q2 k_=>ex9 k_ λh_ M Q E3 rm ds lk hh b_=>⟨h_,M,Q,E3,rm,ds,lk,by simp only[wpE,wpA,q,gu]at hh;exact hh.2,b_⟩
     |cons _ _=>simp[okA]at h4
    |cons z zs=>
     cases es with
     |nil=>simp[okA]at h4
     |cons ea er=>
      obtain⟨_,_,e1,n1,_,n3⟩:=eA h4;cases e1;have Qe:PA X (z::zs) (eF X.K W.cls E2 λZ M Q E=>wpA W (.cons ea er) Z M (λxs M1=>i<W.nk/\Q xs M1) E):=hA.imp λZ H Q2 k_=>ex9 k_ λh_ M Q E3 rm ds lk hh b_=>⟨h_,M,_,E3,rm,ds,lk,hh,λvs H' xs M' a b c d=>b_ vs H' xs M' a b c d.2⟩
      exact (BJ (B:=W.toWB) (fz:=fz) (G.gl h2) m1 h3 ((G.kok i hi).mkr f q) F hr G.pass Qe (b9 n1) (d9 _ n3)).imp λZ H Q2 k_=>ex9 k_ λh_ M Q E3 rm ds lk hh b_=>⟨h_,M,Q,E3,rm,ds,lk,by simp only[wpE,q,gu]at hh;exact hh,b_⟩
  ·cases h
 |.E_ a m es,c,e,X,E2,h,G=>by
  unfold okE at h;split at h
  ·rename_i x n ap args cp;simp only[Jf,Js]at h;obtain⟨⟨⟨⟨⟨⟨h0,rfl⟩,h1⟩,h2⟩,h3⟩,h4⟩,h5⟩:=h;obtain⟨k,hr,hF⟩:=G.fns h0;have hA:=sA es h5 G;cases args with
   |nil=>
    cases es with
    |nil=>exact xP (B:=W.toWB) G.kok (λi m f hi q=>hF f (G.kfm i m f hi q)) (hr.mono (Kj k)) G.pass (sE a h4 G) (c5 h1) h2
    |cons _ _=>simp[okA]at h5
   |cons z zs=>
    cases es with
    |nil=>simp[okA]at h5
    |cons ea er=>
     obtain⟨_,_,e1,n1,_,n3⟩:=eA h5;cases e1;exact Bn (B:=W.toWB) G.kok (λi m f hi q=>hF f (G.kfm i m f hi q)) (hr.mono (Kj k)) G.pass (sE a h4 G) hA (c5 h1) h2 h3 (b9 n1) (d9 _ n3)
  ·cases h
 |.ini i es,c,e,X,E2,h,G=>by
  unfold okE at h;split at h
  ·rename_i x px n ap args cp;simp only[Jf,Js,Bool.not_eq_true']at h;obtain⟨⟨⟨⟨⟨⟨⟨⟨h0,rfl⟩,h1⟩,h2⟩,h3⟩,h4⟩,h5⟩,h6⟩,h7⟩:=h;obtain⟨m1,hi⟩:=G.knm i x (JH.mp h1);obtain⟨k,hr,hF⟩:=G.fns h0;have hA:=sA es h7 G;cases args with
   |nil=>cases h6
   |cons z zs=>
    cases es with
    |nil=>simp[okA]at h7
    |cons ea er=>
     obtain⟨_,_,e1,n1,_,n3⟩:=eA h7;cases e1;cases q:W.ini i with
     |none=>exact absurd q (by obtain⟨f,hf⟩:=G.kin i hi;rw[hf];exact λz=>nomatch z)
     |some f=>
      have Qe:PA X (z::zs) (eF X.K W.cls E2 λZ M Q E=>wpA W (.cons ea er) Z M (λxs M1=>i<W.nk/\Q xs M1) E):=hA.imp λZ H Q2 k_=>ex9 k_ λh_ M Q E3 rm ds lk hh b_=>⟨h_,M,_,E3,rm,ds,lk,hh,λvs H' xs M' a b c d=>b_ vs H' xs M' a b c d.2⟩
      exact (Dh (B:=W.toWB) (G.gl h2) m1 h3 ((G.kok i hi).ci f q) (hF f (G.kfi i f hi q)) (hr.mono (Kj k)) G.pass Qe h4 h5 (b9 n1) (d9 _ n3)).imp λZ H Q2 k_=>ex9 k_ λh_ M Q E3 rm ds lk hh b_=>⟨h_,M,Q,E3,rm,ds,lk,by simp only[wpE,q,gu]at hh;exact hh,b_⟩
  ·cases h
 |.glo k,c,e,X,E2,h,G=>by
  unfold okE at h;split at h
  ·rename_i x px;simp only[Jf,Bool.not_eq_true']at h;obtain⟨u,v,m1,r,hd⟩:=G.glo k x (JH.mp h.1.1);exact Et (G.gl h.1.2) m1 r h.2 hd
  ·cases h
 |.bm b o es,c,e,X,E2,h,G=>by
  unfold okE at h;split at h
  ·rename_i x n ap args cp;simp only[Jf,Js]at h;obtain⟨⟨⟨⟨⟨⟨h0,rfl⟩,h1⟩,h2⟩,h3⟩,h4⟩,h5⟩:=h;have hA:=sA es h5 G;cases args with
   |nil=>
    cases es with
    |nil=>exact uU G.un (sE o h4 G) (c5 h1) h2
    |cons _ _=>simp[okA]at h5
   |cons z zs=>
    cases es with
    |nil=>simp[okA]at h5
    |cons ea er=>
     obtain⟨_,_,e1,n1,_,n3⟩:=eA h5;cases e1;exact xz G.un (sE o h4 G) hA (c5 h1) h3 h2 (b9 n1) (d9 _ n3)
  ·cases h
 |.KJ tk,c,e,X,E2,h,G=>by
  unfold okE at h;split at h
  ·exact Cb tk
  ·cases h
theorem sT:∀(it:IT) {c:Cfg}{e:Expr}{X:Cx}{E2:St->XK},okT it c e=true->Good c W X E2->PT X e (cj X.K W.cls E2 (wpT W it))/\(GU it=true->PW X e (cj X.K W.cls E2 (wpT W it)))
 |.val a,c,e,X,E2,h,G=>by
  unfold okT at h;simp only[Jf]at h;exact⟨EN (sE a h.2 G) (tL h.1),λz=>nomatch z⟩
 |.cmp op a b,c,e,X,E2,h,G=>by
  unfold okT at h;split at h
  ·simp only[Jf,Js]at h;obtain⟨⟨⟨rfl,h0⟩,h1⟩,h2⟩:=h;exact⟨DS (iQ G.un op) (sE a h1 G) (sE b h2 G) (jz h0),λz=>nomatch z⟩
  ·cases h
 |.chain op1 op2 a b d,c,e,X,E2,h,G=>by
  unfold okT at h;split at h
  ·simp only[Jf,Js]at h;obtain⟨⟨⟨⟨⟨rfl,rfl⟩,h0⟩,h1⟩,h2⟩,h3⟩:=h;exact⟨yu (iQ G.un op1) (iQ G.un op2) (sE a h1 G) (sE b h2 G) (sE d h3 G) (jz h0),λz=>nomatch z⟩
  ·cases h
 |.and a b,c,e,X,E2,h,G=>by
  unfold okT at h;split at h
  ·rename_i op x y r p;simp only[Jf,Js]at h;obtain⟨⟨rfl,h1⟩,h2⟩:=h;have hA:=(sT a h1 G).1;cases r with
   |nil=>exact⟨(sj hA (rN (sT b h2 G).1)).pt,λ_=>sj hA (rN (sT b h2 G).1)⟩
   |cons z r=>
    have hB:=(sT b h2 G).2;cases b with
    |and b1 b2=>exact⟨(sj hA (hB rfl)).pt,λ_=>sj hA (hB rfl)⟩
    |val b1=>simp[okT,qV]at h2
    |_=>simp[okT]at h2
  ·cases h
 |.or a b,c,e,X,E2,h,G=>by
  unfold okT at h;split at h
  ·rename_i op x y r p;simp only[Jf,Js]at h;obtain⟨⟨rfl,h1⟩,h2⟩:=h;have hA:=(sT a h1 G).1;cases r with
   |nil=>exact⟨(yD hA (uK (sT b h2 G).1)).pt,λ_=>yD hA (uK (sT b h2 G).1)⟩
   |cons z r=>
    have hB:=(sT b h2 G).2;cases b with
    |or b1 b2=>exact⟨(yD hA (hB rfl)).pt,λ_=>yD hA (hB rfl)⟩
    |val b1=>simp[okT,qV]at h2
    |_=>simp[okT]at h2
  ·cases h
 |.not a,c,e,X,E2,h,G=>by
  unfold okT at h;split at h
  ·simp only[Jf,Js]at h;obtain⟨rfl,h1⟩:=h;exact⟨CM (sT a h1 G).1,λz=>nomatch z⟩
  ·cases h
theorem sA:∀(ia:IA) {c:Cfg}{es:List Expr}{X:Cx}{E2:St->XK},okA ia c es=true->Good c W X E2->PA X es (eF X.K W.cls E2 (wpA W ia))
 |.nil,c,es,X,E2,h,G=>by
  simp only[okA]at h;cases es with
  |nil=>exact Ec
  |cons _ _=>cases h
 |.cons a r,c,es,X,E2,h,G=>by
  obtain⟨x,xs,rfl,h1,h2,h3⟩:=eA h;exact BQ (sE a h2 G) (sA r h3 G) (b9 h1)
theorem sO:∀(io:IO) {c:Cfg}{o:Option Expr}{X:Cx}{E2:St->XK},okO io c o=true->Good c W X E2->PO X o (t7 X.K W.cls E2 (wpO W io))
 |.no,c,o,X,E2,h,G=>by
  simp only[okO]at h;cases o with
  |none=>exact G4
  |some _=>cases h
 |.yes a,c,o,X,E2,h,G=>by
  cases o with
  |none=>simp[okO]at h
  |some x=>
   simp only[okO]at h;exact D9 (sE a h G)
theorem sTO:∀(io:ITO) {c:Cfg}{es:List Expr}{X:Cx}{E2:St->XK},vX io c es=true->Good c W X E2->PIf X es (cj X.K W.cls E2 (lG W io))
 |.no,c,es,X,E2,h,G=>by
  simp only[vX]at h;cases es with
  |nil=>exact λa_ s Z H Q2 I ⟨h_,M,Q,E3,rm,ds,lk,h,b_⟩=>yo a_ s Z H Q2 I (b_ _ _ _ rm (.refl _) h)
  |cons _ _=>cases h
 |.yes t,c,es,X,E2,h,G=>by
  unfold vX at h;split at h
  ·exact xH (sT t h G).1
  ·cases h
theorem sI:∀(ii:II) {c:Cfg}{e:Expr}{X:Cx}{E2:St->XK}{tg:Expr},okI ii c e=true->Good c W X E2->tW ii tg=true->PI X tg e (ly X.K W.cls E2 (wpI W ii))
 |.seq a,c,e,X,E2,tg,h,G,_=>by
  unfold okI at h;exact Ev (sE a h G)
 |.enum a,c,e,X,E2,tg,h,G,ht=>by
  unfold okI at h;split at h
  ·simp only[Jf,Js]at h;obtain⟨⟨⟨rfl,h1⟩,h2⟩,h3⟩:=h;have hA:=sE a h3 G;cases tg<;>first
    |exact An (G.gl h1) (G.bi _ (by decide +kernel)) hA (b9 h2)
    |(simp[tW]at ht)
  ·cases h
 |.zip a b,c,e,X,E2,tg,h,G,ht=>by
  unfold okI at h;split at h
  ·simp only[Jf,Js]at h;obtain⟨⟨⟨⟨⟨rfl,h1⟩,h2⟩,h3⟩,h4⟩,h5⟩:=h;have hA:=sE a h4 G;have hB:=sE b h5 G;cases tg<;>first
    |exact C3 (G.gl h1) (G.bi _ (by decide +kernel)) hA hB (by rw[b9 h2,b9 h3];rfl) (b9 h3)
    |(simp[tW]at ht)
  ·cases h
 |.items a,c,e,X,E2,tg,h,G,ht=>by
  unfold okI at h;split at h
  ·simp only[Jf,Js]at h;obtain⟨⟨⟨rfl,h1⟩,h2⟩,h3⟩:=h;have hA:=sE a h3 G;cases tg<;>first
    |exact yl hA (c5 h1) h2
    |(simp[tW]at ht)
  ·cases h
 |.dk a,c,e,X,E2,tg,h,G,_=>by
  unfold okI at h;exact Hg (sE a h G)
 |.LV a,c,e,X,E2,tg,h,G,_=>by
  unfold okI at h;split at h
  ·simp only[Jf,Js]at h;obtain⟨⟨⟨rfl,h1⟩,h2⟩,h3⟩:=h;exact GN (G.gl h1) (G.bi _ (by decide +kernel)) (sE a h3 G) (b9 h2)
  ·cases h
end
end
theorem wE{X:Cx}(G:Good c W X E2){pos px spos:Pos}(h:swB c scope x px.line pos.line=true) :
  swapsWith (.ListComp el gs scope pos) (some (.Name x px)) spos.line X.env=pure true:=by
 unfold swB at h;simp only[Jf]at h;have h1:X.env.scope.kind=.function:=by rw[G.sc];exact JH.mp h.1.1.1
 have h2:X.env.kindOf x=some .local:=by show X.env.scope.names.lookup x=_;rw[G.sc];exact JH.mp h.1.1.2
 have hb:(X.env.blockKind == .function)=true:=by
  unfold Env.blockKind;rw[h1];rfl
 show (pure (X.env.blockKind == .function&&X.env.kindOf x == some .local&&px.line == pos.line&&!(scope.names.any λ(n,k)=>n == x&&(k == .local||k == .cell))):Sem Bool)=pure true
 rw[hb,h2,h.1.2,h.2];rfl
theorem A5{c:Cfg}{X:Cx}(G:Good c W X E2){spos:Pos}(h:(c.sc.names.lookup x == some .cell)=true) :
  swapsWith (.ListComp el gs scope pos) (some (.Name x px)) spos.line X.env=pure false:=by
 have h2:X.env.kindOf x=some .cell:=by show X.env.scope.names.lookup x=_;rw[G.sc];exact JH.mp h
 show (pure (X.env.blockKind == .function&&X.env.kindOf x == some .local&&px.line == pos.line&&!(scope.names.any λ(n,k)=>n == x&&(k == .local||k == .cell))):Sem Bool)=pure false
 rw[h2,show ((some NameKind.cell:Option NameKind) == some .local)=false from rfl,Bool.and_false];rfl
theorem yG{c:Cfg}(h:swB c scope x a b=true):c.sc.names.lookup x=some .local:=by
 unfold swB at h;simp only[Jf,JH]at h;exact h.1.1.2
section
variable {W:WC}
theorem vk{fz:Bool}{N:List Str}{js:List (Option Nat)}{tg:ITg}{it:II}{cond:ITO}{D_:IE}{c:Cfg}{X:Cx}{E2:St->XK}{i:Nat}{x:Str}{px spos pos:Pos}{el:Expr}{gs:List Comprehension}{scope:Scope}
  (h:okE (.comp fz N js tg it cond D_) c (.ListComp el gs scope pos)=true) (hi:(c.N[i]? == some x)=true) (Nx:swB c scope x px.line pos.line=true) (G:Good c W X E2) :
  PS X (.Assign [.Name x px] (.ListComp el gs scope pos) spos) (br X.K W.cls E2 (wpS W (.set i (.comp fz N js tg it cond D_)))):=by
 have sp:=wE (spos:=spos) (el:=el) (gs:=gs) G Nx;unfold okE at h;split at h
 ·rename_i Tt Nj iter ifs as Qg K2 O1;cases O1;simp only[Jf,Js]at h;obtain⟨⟨⟨⟨⟨⟨⟨⟨h0,rfl⟩,ht⟩,h1⟩,h2⟩,h3⟩,h4⟩,h5⟩,h6⟩:=h;have j_:=h2;rw[<-G.sc,<-G.N]at j_;exact qB j_ (G.calm h0) (sI it h3 G ht) (λC s2 H2 fp pn=>sG tg h4 (G.comp h2 C s2 H2 fp pn)) (λC s2 H2 fp pn=>sTO cond h5 (G.comp h2 C s2 H2 fp pn)) (λC s2 H2 fp pn=>sE D_ h6 (G.comp h2 C s2 H2 fp pn)) (qU h1) G.ndX (G.at hi) (by rw[G.sc];exact yG Nx) sp fz
 ·cases h
mutual
theorem sS:∀(is:IS) {c:Cfg}{s:Stmt}{X:Cx}{E2:St->XK},okS is c s=true->Good c W X E2->PS X s (br X.K W.cls E2 (wpS W is))
 |.set i a,c,s,X,E2,h,G=>by
  unfold okS at h;split at h
  ·simp only[Jf,Bool.or_eq_true]at h;obtain⟨⟨⟨h1,h2⟩,h3⟩,h4⟩:=h;obtain⟨l1,l2⟩:=G.loc h2;rcases h4 with h4|h4
   ·exact zl G.ndX (G.at h1) l1 (sE a h3 G) (jV h4) l2
   ·split at h4
    ·rcases Bool.or_eq_true_iff.mp h4 with h4|h4
     ·exact vk h3 h1 h4 G
     ·exact zl G.ndX (G.at h1) l1 (sE _ h3 G) (A5 G h4) l2
    ·cases h4
  ·cases h
 |.MO is a,c,s,X,E2,h,G=>by
  unfold okS at h;split at h
  ·simp only[Jf]at h;obtain⟨⟨⟨⟨h1,h2⟩,h3⟩,h4⟩,h5⟩:=h;exact Do (G.calm h1) G.ndX G.fnx (G.names h2) (sE a h5 G) (by unfold swapsWithSole;exact jV h4) (vQ h3)
  ·cases h
 |.expr a,c,s,X,E2,h,G=>by
  unfold okS at h;split at h
  ·simp only[Jf]at h;exact AT (sE a h.2 G) (jV h.1)
  ·cases h
 |.ret a,c,s,X,E2,h,G=>by
  unfold okS at h;split at h
  ·exact EU (sE a h G)
  ·cases h
 |.Mc,c,s,X,E2,h,G=>by
  unfold okS at h;split at h
  ·exact Bc
  ·cases h
 |.dead,c,s,X,E2,h,G=>Cc
 |.ifs t a b,c,s,X,E2,h,G=>by
  unfold okS at h;split at h
  ·simp only[Jf]at h;exact GQ (sT t h.1.1 G).1 (sSs a h.1.2 G) (sSs b h.2 G)
  ·cases h
 |.Kr tg it body,c,s,X,E2,h,G=>by
  unfold okS at h;split at h
  ·simp only[Jf]at h;obtain⟨⟨⟨⟨⟨⟨h1,ht⟩,h2⟩,h3⟩,h4⟩,h5⟩,h6⟩:=h;exact Dl (G.own h1).1 (G.calm h2) (sI it h5 G ht) (sG tg h4 G) (sSs body h6 G) (qU h3)
  ·cases h
 |.L3 tg o body,c,s,X,E2,h,G=>by
  unfold okS at h;split at h
  ·simp only[Jf]at h;obtain⟨⟨⟨⟨⟨h1,h2⟩,h3⟩,h4⟩,h5⟩,h6⟩:=h;exact AO (G.own h1).1 (G.calm h2) (sE o h5 G) (sG tg h4 G) (sSs body h6 G) (qU h3)
  ·cases h
 |.Md tg o body,c,s,X,E2,h,G=>by
  unfold okS at h;split at h
  ·simp only[Jf,Js]at h;obtain⟨⟨⟨⟨⟨⟨⟨h1,h2⟩,rfl⟩,h3⟩,h4⟩,h5⟩,h6⟩,h7⟩:=h;exact As (G.own h1).1 (G.calm h2) (sE o h6 G) (c5 h3) h4 (sG tg h5 G) (sSs body h7 G) (λ_=>rfl)
  ·cases h
 |.Pd t body,c,s,X,E2,h,G=>by
  unfold okS at h;split at h
  ·simp only[Jf]at h;exact xS (G.own h.1.1).1 (sT t h.1.2 G).1 (sSs body h.2 G)
  ·cases h
 |.app o a,c,s,X,E2,h,G=>by
  unfold okS at h;split at h
  ·simp only[Jf,Js]at h;obtain⟨⟨⟨⟨⟨rfl,h1⟩,h2⟩,h3⟩,h4⟩,h5⟩:=h;exact Ez (sE o h4 G) (sE a h5 G) (BG h1) h2 (b9 h3)
  ·cases h
 |.del i,c,s,X,E2,h,G=>by
  unfold okS at h;cases h
 |.Lb o f a,c,s,X,E2,h,G=>by
  unfold okS at h;split at h
  ·simp only[Jf,Js]at h;obtain⟨⟨⟨rfl,h1⟩,h2⟩,h3⟩:=h;exact Ai (B:=W.toWB) G.kok (sE o h2 G) (sE a h3 G) (jV h1)
  ·cases h
 |.y_ o i a,c,s,X,E2,h,G=>by
  unfold okS at h;split at h
  ·simp only[Jf]at h;obtain⟨⟨⟨⟨h0,h1⟩,h2⟩,h3⟩,h4⟩:=h;exact xT G.un (sE o h2 G) (sE i h3 G) (sE a h4 G) (Ae h0) (by unfold swapsWithSole;exact jV h1) (by rfl) (by rfl)
  ·cases h
theorem sSs:∀(is:ISs) {c:Cfg}{Mm:List Stmt}{X:Cx}{E2:St->XK},jr is c Mm=true->Good c W X E2->PSs X Mm (br X.K W.cls E2 (aW W is))
 |.nil,c,Mm,X,E2,h,G=>by
  simp only[jr]at h;cases Mm with
  |nil=>exact D5
  |cons _ _=>cases h
 |.cons s r,c,Mm,X,E2,h,G=>by
  unfold jr at h;split at h
  ·exact D7 (sSs r h G)
  ·split at h
   ·simp only[Jf]at h;exact Al (t:=wpS W s) (u:=aW W r) (sS s h.1 G) (sSs r h.2 G)
   ·cases h
end
end
theorem gF:∀{l:List (Nat×Nat)}{m f:Nat},l.lookup m=some f->(m,f)∈l
 |[],_,_,h=>by cases h
 |(a,b)::r,m,f,h=>by
  rw[J5]at h;by_cases e:m=a
  ·subst e;simp at h;subst h;exact Jk
  ·have:(m == a)=false:=by simpa using e
   rw[this]at h;exact Jg _ (gF h)
theorem ixc{α:Type}{P:Nat->α->Prop}{a:α}{r:List α}(h0:P 0 a)(hr:∀i x,r[i]?=some x->P (i+1) x):∀i x,(a::r)[i]?=some x->P i x
 |0,x,h=>by cases h;exact h0
 |i+1,x,h=>hr i x h
theorem ixn{α:Type}{P:Nat->α->Prop}:∀i x,([]:List α)[i]?=some x->P i x:=λi x h=>by simp at h
theorem us0{P:List Value->Prop}(h:P []):∀us:List Value,us.length=0->P us:=λus e=>(List.eq_nil_of_length_eq_zero e)▸h
theorem usS{n:Nat}{P:List Value->Prop}(h:∀a,∀us:List Value,us.length=n->P (a::us)):∀us:List Value,us.length=n+1->P us:=λus e=>by
 cases us with
 |nil=>cases e
 |cons a r=>exact h a r (Nat.succ.inj e)
structure FB where
 np:Nat
 nl:Nat
 cl:Bool
 body:ISs
 df:List Int:=[]
noncomputable def FB.full(fb:FB)(ds:List D):List D:=ds++(fb.df.drop (ds.length+fb.df.length-fb.np)).map D.int
noncomputable def ql(nl:Nat)(ds:List D):St3:=ds.map some++List.replicate (nl-ds.length) none
def ac(T:List FB)(B:WB):Nat->Nat->List D->MH->VK3->XN->Prop
 |0,_,_,_,_,_=>False
 |n+1,f,ds,M,Q,E=>match T[f]? with
  |none=>False
  |some fb=>(fb.full ds).length=fb.np/\aW {toWB:=B,call:=ac T B n} fb.body {nx:=λ_ M'=>Q .i_ (kp fb.cl M M'),rt:=λv M'=>Q v (kp fb.cl M M')} (λ_ i M'=>E i (aw M M')) (ql fb.nl (fb.full ds)) M
structure FL where
 name:Str
 qual:Str
 glob:Bool
 cl:Bool
 st:Stmt
 N:List Str
 ps:List Str
 body:ISs
 gn:Str:=name
 df:List Int:=[]
noncomputable def p6(N ps:List Str)(sc:Scope):Bool:=(sc.kind == .function)&&!sc.isCoroutine&&!sc.isGenerator&&decide N.Nodup&&(N.take ps.length == ps)&&
 ps.all (λx=>sc.names.lookup x == some .local||sc.names.lookup x == some .cell)&&sc.names.all (λy=>y.2 != .free)
theorem uk(h:p6 N ps sc=true):FnScope N ps sc:=by
 unfold p6 at h;simp only[Jf,Bool.not_eq_true',JH,Js,JE,Bool.or_eq_true,bne_iff_ne]at h;obtain⟨⟨⟨⟨⟨⟨h1,h2⟩,h3⟩,h4⟩,h5⟩,h6⟩,h7⟩:=h;exact⟨h1,h2,h3,h4,h5,h6,h7⟩
structure NM where
 exc:List Str
 kln:List Str
 gln:List Str
 xin:List (Nat×Nat)
noncomputable def FL.cfg(l:FL)(fns:List (Option Str×Nat))(n:NM):Cfg:={N:=l.N,sc:=bg l.st,fns:=fns,exc:=n.exc,kln:=n.kln,gln:=n.gln,xin:=n.xin,calm:=true,own:=true,tr:=true,fn:=true}
noncomputable def FL.fb(l:FL):FB:=⟨l.ps.length,l.N.length,l.cl,l.body,l.df⟩
noncomputable def FL.ok(l:FL)(fns:List (Option Str×Nat))(n:NM):Bool:=p6 l.N l.ps (bg l.st)&&jr l.body (l.cfg fns n) (cZ l.st)
noncomputable def fK(L:List FL):List (Option Str×Nat):=L.map λl=>(if l.glob=true then some l.gn else none,l.ps.length)
structure FunD (K:Ko)(x qual:Str)(st:Stmt)(f:Addr)(fd:FuncData):Prop where
 ex:∃(oc:Value) (od:Option Addr) (dV kV doc pm:Value) (an:Option Addr) (L7 ct:Value) (O8:Array (Option Value)),
  fd=PySem.W.fnOf x qual (d8 st) (cZ st) (bg st) dV kV doc pm an L7 ct/\K.lookup f=some ⟨oc,od,.func fd,O8⟩/\PySem.W.codeIn K L7 qual=true
 kp:PySem.W.keepIn K (.ref f)=true
structure Top (K:Ko)(mg:Str->Option Value)(L:List FL)(n:NM)(B:WB):Prop where
 ok:∀l∈L,l.ok (fK L) n=true
 fn:∀f l,L[f]?=some l->∃fd,FunD K l.name l.qual l.st (B.e_ f) fd/\(l.glob=true->mg l.gn=some (.ref (B.e_ f)))/\(l.df=[]->∀us:List Value,us.length=l.ps.length->bindArgs fd ⟨us,[]⟩=pure (l.ps.zip us))/\∃dv,Vals (l.df.map V.int) dv/\∀j,Binds K fd l.ps (dv.drop j)
 exi:∀i,i<B.ne->ExcI K (B.cls i)/\PySem.W.kitOne K (.ref (B.cls i)) (.type "ValueError")=some true/\∀j x,n.exc[j]?=some x->PySem.W.kitOne K (.ref (B.cls i)) (.ref (B.cls j))=some (B.sub i j)
 exc:∀i x,n.exc[i]?=some x->mg x=some (.ref (B.cls i))/\(n.xin.lookup i=none->Eo K (B.cls i))/\∀j,j<B.ne->PySem.W.exmOne K (.ref (B.cls j)) (.ref (B.cls i))=some (B.sub j i)
 kok:∀i,i<B.nk->KOk K B B.e_ i
 kin:∀i,i<B.nk->∃f,B.ini i=some f
 kfi:∀i f,i<B.nk->B.ini i=some f->f<L.length
 kfm:∀i m f,i<B.nk->B.mth i m=some f->f<L.length
 knm:∀i x,n.kln[i]?=some x->mg x=some (.ref (B.c_ i))/\i<B.nk
 glo:∀k x,n.gln[k]?=some x->∃u v,mg x=some u/\RelV v u/\∀H,Den K H (B.glo k) v
 bi:∀x∈biNames,mg x=none
 dig:CB K
 xi:∀i f,n.xin.lookup i=some f->B.xin i=some f/\∃fI fd ps,XIni K (B.cls i) fI (fnm f)/\Binds K fd ps []/\∀(P:Program)(w:World)(base:Heap),FnOk P w K mg base (CX1 P w) 1 fI fd ps (vB (cpF f) K (B.cls i) (fnm f))
 xn:∀i f,i<B.ne->B.xin i=some f->NoAttr K (B.cls i) (fnm f)
section
variable {w:World}{K:Ko}{L:List FL}{B:WB}
noncomputable def spF(K:Ko)(cls:Nat->Addr)(l:FL)(t3:List D->MH->VK3->XN->Prop):Sp:=λvs H Q E=>vs.length=l.ps.length/\spX K cls t3 vs H Q E
theorem FB.full_at{fb:FB}{ds:List D}(h:ds.length=fb.np):fb.full ds=ds:=by
 unfold FB.full;rw[List.drop_of_length_le (by omega),List.map_nil,JZ]
theorem lN:∀{vs:List V}{us:List Value} (j:Nat),Vals vs us->Vals (vs.drop j) (us.drop j)
 |_,_,0,h=>h
 |_,_,_+1,.nil=>.nil
 |_,_,j+1,.cons _ h=>lN j h
theorem EY{l:FL}(hl:L[f]?=some l){dv:List Value}(hv:Vals (l.df.map V.int) dv)(hb:∀j,Binds K fd l.ps (dv.drop j)):BdT K B.cls fd l.ps (ac (L.map FL.fb) B n f) (spF K B.cls l (ac (L.map FL.fb) B n f)):=by
 rintro vs H Q E ⟨ds,M,Q3,E3,dl,rm,h,b_,lk⟩;cases n with
 |zero=>exact h.elim
 |succ n=>
  have hT:(L.map FL.fb)[f]?=some l.fb:=by rw[Jq,hl];rfl
  have h0:=h;simp only[ac,hT]at h0;have e:=h0.1;have Kq:=dl.length;refine⟨(l.df.map V.int).drop (ds.length+l.df.length-l.ps.length),dv.drop (ds.length+l.df.length-l.ps.length),lN _ hv,hb _,?_,?_⟩
  ·have e2:(l.fb.full ds).length=l.ps.length:=e;unfold FB.full at e2;rw[JK,Jo]at e2;rw[JK,List.length_drop,Jo,<-Kq];rw[List.length_drop]at e2;exact e2
  ·refine⟨l.fb.full ds,M,Q3,E3,?_,rm,?_,b_,lk⟩
   ·unfold FB.full;rw[<-List.map_drop];exact dl.append DenL.of_int
   ·simp only[ac,hT];rw[FB.full_at e];exact h0
theorem vP(T:Top K mg L nm B):∀(n f:Nat)(l:FL),L[f]?=some l->∀(fd:FuncData),FunD K l.name l.qual l.st (B.e_ f) fd->FnOk P w K mg base (CX1 P w) (2*n+2) (B.e_ f) fd l.ps (spF K B.cls l (ac (L.map FL.fb) B n f)):=by
 intro n
 induction n with
 |zero=>
  intro f l hl fd F;exact⟨λvs H Q E h=>h.1,λA outer s H args us vs Q E hr e0 hb r ⟨_,_,_,_,_,_,_,h,_⟩=>h.elim⟩
 |succ n ih=>
  intro f l hl fd F;have hT:(L.map FL.fb)[f]?=some l.fb:=by rw[Jq,hl];rfl
  have hm:l∈L:=JU hl;have Pj:=T.ok l hm;unfold FL.ok at Pj;rw[Jf]at Pj;have S:=uk Pj.1;obtain⟨oc,od,dV,kV,doc,pm,an,L7,ct,O8,rfl,lk,MB⟩:=F.ex;have un:∀ds M Q E,ac (L.map FL.fb) B (n+1) f ds M Q E->ds.length=l.ps.length->aW {toWB:=B,call:=ac (L.map FL.fb) B n} l.body {nx:=λ_ M'=>Q .i_ (kp l.cl M M'),rt:=λv M'=>Q v (kp l.cl M M')} (λ_ i M'=>E i (aw M M')) (ql l.N.length ds) M:=λds M Q E h e=>by
   simp only[ac,hT]at h;rw[FB.full_at e]at h;exact h.2
  refine EE lk MB S (λvs H Q E h=>?_) λA outer s H vs Q E hr NV=>?_
  ·exact h.1
  ·obtain⟨M8,ds,M,Q3,E3,dl,rm,h,b_,So⟩:=NV;have h:=un _ _ _ _ h (by rw[dl.length];exact M8)
   have len:(fK L).length=L.length:=by unfold fK;rw[Jo]
   have G:Good (l.cfg (fK L) nm) {toWB:=B,call:=ac (L.map FL.fb) B n} (dC (CX1 P w) P w K mg base l.N l.qual (bg l.st) (B.e_ f) L7 A outer s H E) (λ_=>E):=by
    refine⟨rfl,S.nd,rfl,hr.units,λ_=>rfl,λ_ _=>rfl,(λ_ z=>nomatch z),λ_=>⟨Gm,E,rfl,yR,uN,hr.mono (by omega)⟩,λ_=>⟨rfl,rfl,rfl⟩,λ_=>⟨2*n+2,hr,λg hg=>?_⟩,λg x k hg=>?_,T.kok,T.kin,λi g hi q=>?_,λi m g hi q=>?_,T.knm,T.glo,T.exc,T.exi,(λi f hi=>?_),T.xn,T.bi,T.dig,λa_ Z H' s' e Oi I hc=>DG a_ Z H' s' e Oi I hc⟩
    ·have hg:g<(fK L).length:=hg;obtain⟨Qh,F2,_,_,MD,v2,b2⟩:=T.fn g L[g] (by simp)
     exact⟨Qh,_,_,F2.kp,EY (by simp) v2 b2,ih g L[g] (by simp) Qh F2⟩
    ·have hg:(fK L)[g]?=some (some x,k):=hg;unfold fK at hg;rw[Jq]at hg;cases q:L[g]? with
     |none=>rw[q]at hg;cases hg
     |some l2=>
      rw[q]at hg;obtain⟨Qh,F2,m2,_⟩:=T.fn g l2 q;have e:((if l2.glob=true then some l2.gn else none),l2.ps.length)=(some x,k):=JA hg
      by_cases z:l2.glob=true
      ·rw[Jr z]at e;cases e;exact m2 z
      ·rw[Ji z]at e;cases e
    ·show g<(fK L).length;rw[len];exact T.kfi i g hi q
    ·show g<(fK L).length;rw[len];exact T.kfm i m g hi q
    ·obtain⟨a,fI,Sq,Sr,x3,b3,F3⟩:=T.xi i f hi;exact⟨a,fI,Sq,Sr,x3,b3,F3 P w base⟩
   exact⟨_,sSs l.body Pj.2 G,ql l.N.length ds,M,_,_,rm,qc dl,λh_ Z i M' H' t _ q_ q dx xd=>So i _ H' t (q_.sub λ_ _ z=>mj z) q dx xd,h,
    ⟨λl_ H' v_ M' q_ F_ tm q=>b_ _ _ _ _ wu (q_.sub λ_ _ z=>wB z) tm q,λv H' d M' dv q_ tm q=>b_ _ _ _ _ dv (q_.sub λ_ _ z=>wB z) tm q,λ_ _ _ _ _ _ _ z=>z.elim,λ_ _ _ _ _ _ _ z=>z.elim⟩⟩
end
noncomputable abbrev scr(ns:List Int):D:=.f_ (ns.map D.int)
theorem walkD{l:PySem.W.OpenLaw}{k f:Nat}{q:Program}{loose:List Str}{XP:(Str->Option Value)->Heap->Prop}{YP:World->Heap->Prop}{d:DefRec}{K:Params->Ko}{fl:FL}{x:Str}{L:List FL}{nm:NM}{BB:(Nat->Addr)->(Nat->Addr)->(Nat->Addr)->WB}
  (hn:l.most=some 63) (Nu:d.params.defaults=[]) (hr:Room (2*k+2) callerA) (hY:∀(w:World)(h:Heap),YP w h->(K w.params).In h) (hf:L[f]?=some fl) (Pk:fl.ps=[x]) (C_:fl.gn=d.name) (Ss:fl.glob=true)
  (T:∀(w:World)(mg:Str->Option Value)(h:Heap),(K w.params).In h->h.Ns mainGlobals mg->∃cls c_ e_,Top (K w.params) mg L nm (BB cls c_ e_))
  (main:∀(cls c_ e_:Nat->Addr)(ns:List Int),ns.length<=63->ac (L.map FL.fb) (BB cls c_ e_) k f [scr ns] (λ_=>none) (λd _=>d=.bl true) (λ_ _=>False)) (Su:fl.df=[]:=by rfl) :
  PySem.W.WalkO q loose XP YP l.row.toRowW d [] (λf vs=>PySem.call f vs):=by
 refine Att.attach_call hn Nu λw s₀ r_ mg mb fa o pm cd doc a vs ns G Y ho hd MB PJ ML LY Kq hg=>?_
 have KX:=hY w _ Y;obtain⟨cls,c_,e_,T⟩:=T w mg _ KX G.T.g;obtain⟨fd,F,m1,b1,_⟩:=T.fn f fl hf;have m1:=m1 Ss;rw[C_,PJ]at m1;have m1:=Value.ref.inj (JA m1);subst m1;refine vA KX G.T.g G.T.b G.T.builtins G.T.nolimit hg ML LY (JF Kq (by decide)) hr (λbase kb gb=>by rw[<-Pk];exact vP T k f fl hf fd F) (λs u=>?_) (λH hO hS=>?_) λH e s' h=>?_
 ·have hb:=b1 Su [u] (by rw[Pk];rfl)
  rw[Pk]at hb;exact .of_eq hb
 ·have sq:SqF (K w.params) H a (ns.map V.int):=by
   cases hk:(K w.params).lookup a with
   |some ob=>
    have e:=KX a ob hk;rw[ML]at e;cases e;exact .inr ⟨vs,_,hk,by rw[LY.length];exact JF Kq (by decide),iC LY⟩
   |none=>
    rcases hS with (h|⟨ob,h⟩)|⟨ob,_,_,h,_⟩
    ·rcases hO a with z|⟨o2,xs,z⟩
     ·rw[h]at z;cases z
     ·rw[h]at z;cases z
    ·exact .inl ⟨ob,h⟩
    ·rw[hk]at h;cases h
  refine⟨by rw[Pk];rfl,[scr ns],λ_=>none,λd _=>d=.bl true,λ_ _=>False,.one ⟨a,_,rfl,sq,.of_int⟩,λa o e=>(by cases e),main cls c_ e_ ns Kq,λv H' d M' dv _ _ q=>?_,λ_ _ _ _ _ h=>h.elim⟩
  subst q;exact dv
 ·obtain⟨_,_,_,_,_,_,_,_,_,_,_,_,_,he⟩:=h;exact he
end L2
namespace L2
open PySem
noncomputable def gz(K:Ko)(a:Addr):Option FuncData:=match K.lookup a with
 |some ⟨_,_,.func fd,_⟩=>some fd
 |_=>none
noncomputable def fdN(l:FL)(fd:FuncData):FuncData:=PySem.W.fnOf l.name l.qual (d8 l.st) (cZ l.st) (bg l.st) (if l.df.isEmpty=true then .none else fd.defaults) fd.kwdefaults fd.doc fd.pyModule fd.annotations fd.code fd.closureTuple
noncomputable def fnB(K:Ko)(B:WB)(l:FL)(i:Nat):Bool:=(match gz K (B.e_ i) with
 |some fd=>PySem.W.codeIn K fd.code l.qual
 |none=>false)&&PySem.W.keepIn K (.ref (B.e_ i))&&(!l.glob||PySem.W.nsIn K mainGlobals l.gn == some (some (.ref (B.e_ i))))
theorem xQ{K:Ko}(h:gz K a=some fd):∃oc od sl,K.lookup a=some ⟨oc,od,.func fd,sl⟩:=by
 unfold gz at h;split at h
 ·rename_i oc od Tu sl e;cases h;exact⟨oc,od,sl,e⟩
 ·cases h
noncomputable def Dp(K:Ko)(C:Addr):Bool:=PySem.W.hasDictIn K C&&PySem.W.findIn K (.ref C) "__getattribute__" == some (some (.builtin "BaseException.__getattribute__"))&&PySem.W.findIn K (.ref C) "__getattr__" == some none&&PySem.W.findIn K (.ref C) "__class__" == some (some (.builtin "object.__class__"))&&PySem.W.mroIn K C (.type "object") == some true&&PySem.W.mroIn K C (.type "BaseException") == some true&&PySem.W.kitOne K (.ref C) (.type "ValueError") == some true
noncomputable def C5(K:Ko):Bool:=PySem.W.specialIn K (.builtin "object.__class__") "__get__" == some (some (.builtin "getset_descriptor.__get__"))&&PySem.W.takesIn K (.builtin "object.__class__") == some true&&PySem.W.nsIn K cStatics "sys.int_max_str_digits" == some none&&biNames.all λx=>PySem.W.nsIn K mainGlobals x == some none
noncomputable def DN(K:Ko)(B:WB)(n:NM):Bool:=(List.range B.ne).all (λi=>Dp K (B.cls i)&&(List.range n.exc.length).all λj=>PySem.W.kitOne K (.ref (B.cls i)) (.ref (B.cls j)) == some (B.sub i j)&&PySem.W.exmOne K (.ref (B.cls i)) (.ref (B.cls j)) == some (B.sub i j))&&
 n.exc.zipIdx.all λp=>PySem.W.nsIn K mainGlobals p.1 == some (some (.ref (B.cls p.2)))&&((n.xin.lookup p.2).isSome||PySem.W.excIn K (B.cls p.2) bmV "ValueError.__new__")
noncomputable def kB(K:Ko)(B:WB)(fT:List (List Nat))(mT:List (List (Nat×Nat)))(iT:List Nat)(i:Nat):Bool:=
 PySem.W.plainGet K (B.c_ i) Str.empty&&PySem.W.hasDictIn K (B.c_ i)&&PySem.W.plainOver K (B.c_ i)&&PySem.W.findIn K (.ref (B.c_ i)) "__setattr__" == some (some (.builtin "object.__setattr__"))&&
 (fT.getD i []).all (λf=>PySem.W.findIn K (.ref (B.c_ i)) (fnm f) == some none)&&
 (mT.getD i []).all (λp=>PySem.W.findIn K (.ref (B.c_ i)) (fnm p.1) == some (some (.ref (B.e_ p.2)))&&PySem.W.isFn K (.ref (B.e_ p.2))&&PySem.W.keepIn K (.ref (B.e_ p.2)))&&
 (match iT[i]? with
  |some f=>PySem.W.makesIn K (B.c_ i)&&PySem.W.findIn K (.ref (B.c_ i)) "__init__" == some (some (.ref (B.e_ f)))&&PySem.W.isFn K (.ref (B.e_ f))&&PySem.W.keepIn K (.ref (B.c_ i))&&PySem.W.specialIn K (.ref (B.c_ i)) "__getattribute__" == some (some (.builtin "type.__getattribute__"))&&PySem.W.readsIn K (B.c_ i) (.type "type")&&
   (match PySem.W.findCls K (.ref (B.c_ i)) (.type "type") "__init__" with
    |some (.val (.ref g))=>g == B.e_ f
    |_=>false)
  |none=>false)&&
 PySem.W.findIn K (.ref (B.c_ i)) "__class__" == some (some (.builtin "object.__class__"))&&PySem.W.mroIn K (B.c_ i) (.type "object") == some true&&
 (List.range B.nk).all λj=>PySem.W.kitOne K (.ref (B.c_ i)) (.ref (B.c_ j)) == some (B.ksub i j)
noncomputable def DP(L m:Nat)(mT:List (List (Nat×Nat)))(iT:List Nat):Bool:=iT.length == m&&iT.all (λf=>decide (f<L))&&mT.all λl=>l.all λp=>decide (p.2<L)
theorem iu(h:(List.range n).all p=true)(hi:i<n):p i=true:=JE.mp h i (List.mem_range.mpr hi)
theorem mQ{l:List α}(h:l.zipIdx.all p=true)(hx:l[i]?=some x):p (x,i)=true:=by
 refine JE.mp h (x,i) ?_;rw[List.mem_zipIdx_iff_getElem?];exact hx
theorem zb{K:Ko}{L:List FL}{B:WB}(f0 f1:Nat){l0 l1:FL}(h0:L[f0]?=some l0)(h1:L[f1]?=some l1)(h:L.zipIdx.all (λp=>p.1.df.isEmpty||p.2 == f0||p.2 == f1)=true)
  (hb:∀fd,gz K (B.e_ f0)=some fd->∃dv,Vals (l0.df.map V.int) dv/\∀j,Binds K fd l0.ps (dv.drop j)) (hc:∀fd,gz K (B.e_ f1)=some fd->∃dv,Vals (l1.df.map V.int) dv/\∀j,Binds K fd l1.ps (dv.drop j)):∀(f:Nat)(l:FL),L[f]?=some l->l.df≠[]->∀fd,gz K (B.e_ f)=some fd->∃dv,Vals (l.df.map V.int) dv/\∀j,Binds K fd l.ps (dv.drop j):=λf l hl z=>by
 have g:=mQ h hl;simp only[Bool.or_eq_true,List.isEmpty_iff,JH]at g;rcases g with (g|g)|g
 ·exact absurd g z
 ·subst g;rw[hl]at h0;cases h0;exact hb
 ·subst g;rw[hl]at h1;cases h1;exact hc
theorem df1{K:Ko}{ps:List Str}(h:(gz K a).isSome=true)(h0:∀us:List Value,us.length+1=ps.length->∀S,PySem.W.peek K S (bindArgs ((gz K a).get h) ⟨us,[]⟩)=some (ps.zip (us++[.int i t])))
  (h1:∀us:List Value,us.length=ps.length->∀S,PySem.W.peek K S (bindArgs ((gz K a).get h) ⟨us,[]⟩)=some (ps.zip us)):∀fd,gz K a=some fd->∃dv,Vals ([i].map V.int) dv/\∀j,Binds K fd ps (dv.drop j):=λfd N6=>by
 have e:(gz K a).get h=fd:=Option.get_of_eq_some _ N6;rw[e]at h0 h1;refine⟨[.int i t],.cons ⟨t,rfl⟩ .nil,λj s us X hl=>?_⟩
 cases j with
 |zero=>exact PySem.W.kp_binds X (h0 us (by simpa using hl))
 |succ j=>
  simp only[List.drop_succ_cons,List.drop_nil,JZ]at hl ⊢;exact PySem.W.kp_binds X (h1 us hl)
theorem Top.of{K:Ko}{h:Heap}{L:List FL}{n:NM}{B:WB}{fT:List (List Nat)}{mT:List (List (Nat×Nat))}(X:K.In h)(Gn:h.Ns mainGlobals mg)
  (h1:L.all (λl=>l.ok (fK L) n)=true)
  (h2:L.zipIdx.map (λp=>gz K (B.e_ p.2))=L.zipIdx.map λp=>(gz K (B.e_ p.2)).map (fdN p.1))
  (h3:L.zipIdx.all (λp=>fnB K B p.1 p.2)=true)
  (h4:∀(f:Nat)(l:FL),L[f]?=some l->∀us:List Value,us.length=l.ps.length->∀(kV doc pm:Value)(an:Option Addr)(L7 ct:Value),bindArgs (PySem.W.fnOf l.name l.qual (d8 l.st) (cZ l.st) (bg l.st) .none kV doc pm an L7 ct) ⟨us,[]⟩=pure (l.ps.zip us))
  (h5:C5 K=true) (h6:DN K B n=true)
  (h7:(List.range B.nk).all (kB K B fT mT iT)=true) (h8:DP L.length B.nk mT iT=true)
  (hf:∀i f,B.fok i f=(fT.getD i []).contains f) (hm:∀i m,B.mth i m=(mT.getD i []).lookup m) (hi:∀i,B.ini i=iT[i]?)
  (h9:n.kln.zipIdx.all (λp=>PySem.W.nsIn K mainGlobals p.1 == some (some (.ref (B.c_ p.2)))&&decide (p.2<B.nk))=true)
  (glo:∀(k:Nat)(x:Str),n.gln[k]?=some x->∃u v,mg x=some u/\RelV v u/\∀H,Den K H (B.glo k) v)
  (xi:∀i f,n.xin.lookup i=some f->B.xin i=some f/\∃fI fd ps,XIni K (B.cls i) fI (fnm f)/\Binds K fd ps []/\∀(P:Program)(w:World)(base:Heap),FnOk P w K mg base (CX1 P w) 1 fI fd ps (vB (cpF f) K (B.cls i) (fnm f)))
  (xn:∀i f,i<B.ne->B.xin i=some f->NoAttr K (B.cls i) (fnm f))
  (hd:∀(f:Nat)(l:FL),L[f]?=some l->l.df≠[]->∀fd,gz K (B.e_ f)=some fd->∃dv,Vals (l.df.map V.int) dv/\∀j,Binds K fd l.ps (dv.drop j)):Top K mg L n B:=by
 unfold C5 at h5;simp only[Jf,JH]at h5;obtain⟨⟨⟨o1,o2⟩,o3⟩,o4⟩:=h5;unfold DN at h6;rw[Jf]at h6;obtain⟨e1,e2⟩:=h6;unfold DP at h8;simp only[Jf,JH]at h8;obtain⟨⟨t1,t2⟩,t3⟩:=h8;have ki:∀i,i<B.nk->kB K B fT mT iT i=true:=λi hi=>iu h7 hi
 refine⟨λl hl=>JE.mp h1 l hl,λf l hl=>?_,λi hi=>?_,λi x hx=>?_,λi MP=>?_,λi MP=>?_,λi f MP L0=>?_,λi m f MP L0=>?_,λi x hx=>?_,glo,λx hx=>?_,o3,xi,xn⟩
 ·have g:=mQ h3 hl;unfold fnB at g;simp only[Jf]at g;obtain⟨⟨g1,g2⟩,g3⟩:=g;have hz:L.zipIdx[f]?=some (l,f):=by
   rw[List.getElem?_zipIdx,hl];simp
  have e:=congrArg (λz:List (Option FuncData)=>z[f]?) h2
  simp only[Jq,hz,Option.map_some]at e;cases N6:gz K (B.e_ f) with
  |none=>rw[N6]at g1;cases g1
  |some fd=>
   rw[N6]at e g1;simp only[Option.map_some,Option.some.injEq]at e;obtain⟨oc,od,sl,lk⟩:=xQ N6;have hb:l.df=[]->∀us:List Value,us.length=l.ps.length->bindArgs fd ⟨us,[]⟩=pure (l.ps.zip us):=λz us hu=>by
    rw[e];unfold fdN;rw[z];exact h4 f l hl us hu _ _ _ _ _ _
   refine⟨fd,⟨⟨oc,od,_,fd.kwdefaults,fd.doc,fd.pyModule,fd.annotations,fd.code,fd.closureTuple,sl,e,lk,g1⟩,g2⟩,λz=>?_,hb,?_⟩
   ·rw[z]at g3;exact PySem.W.mg_of X Gn (JH.mp (by simpa using g3))
   ·by_cases z:l.df=[]
    ·exact⟨[],by rw[z];exact .nil,λj=>by rw[List.drop_nil];exact .all (hb z)⟩
    ·exact hd f l hl z fd N6
 ·have g:=iu e1 hi;rw[Jf]at g;obtain⟨g1,g2⟩:=g;unfold Dp at g1;simp only[Jf,JH]at g1;obtain⟨⟨⟨⟨⟨⟨a1,a2⟩,a3⟩,a4⟩,a5⟩,a6⟩,a7⟩:=g1;refine⟨⟨a1,a2,a3,a4,o1,o2,a5,a6⟩,a7,λj x hx=>?_⟩
  have hj:j<n.exc.length:=(JL.mp hx).1;have g:=iu g2 hj;rw[Jf,JH]at g;exact g.1
 ·have g:=mQ e2 hx;rw[Jf,JH]at g;refine⟨PySem.W.mg_of X Gn g.1,λz=>?_,λj hj=>?_⟩
  ·have g2:=g.2;rw[show n.xin.lookup (x,i).2=none from z]at g2;have g3:PySem.W.excIn K (B.cls i) bmV "ValueError.__new__"=true:=by simpa using g2
   exact g3
  ·have q:=iu e1 hj;rw[Jf]at q;have hi:i<n.exc.length:=(JL.mp hx).1;have g:=iu q.2 hi;rw[Jf,JH,JH]at g;exact g.2
 ·have g:=ki i MP;unfold kB at g;simp only[Jf,JH]at g;obtain⟨⟨⟨⟨⟨⟨⟨⟨⟨a1,a2⟩,a3⟩,a4⟩,a5⟩,a6⟩,a7⟩,a8⟩,a9⟩,ON⟩:=g;have iI:∀f,B.ini i=some f->PySem.W.makesIn K (B.c_ i)=true/\PySem.W.findIn K (.ref (B.c_ i)) "__init__"=some (some (.ref (B.e_ f)))/\PySem.W.isFn K (.ref (B.e_ f))=true/\PySem.W.keepIn K (.ref (B.c_ i))=true/\PySem.W.specialIn K (.ref (B.c_ i)) "__getattribute__"=some (some (.builtin "type.__getattribute__"))/\PySem.W.readsIn K (B.c_ i) (.type "type")=true/\PySem.W.findCls K (.ref (B.c_ i)) (.type "type") "__init__"=some (.val (.ref (B.e_ f))):=λf hf=>by
   rw[hi i]at hf;rw[hf]at a7;simp only[Jf,JH]at a7;obtain⟨⟨⟨⟨⟨⟨b1,b2⟩,b3⟩,b4⟩,b5⟩,b6⟩,b7⟩:=a7;refine⟨b1,b2,b3,b4,b5,b6,?_⟩;split at b7
   ·rename_i g hg;rw[hg,JH.mp b7]
   ·cases b7
  refine⟨⟨a1,a2,a3,a4⟩,λf L0=>?_,λm f NW=>?_,λf L0=>?_,λf L0=>?_,⟨a8,o1,o2,a9⟩,λj hj=>?_⟩
  ·rw[hf i f]at L0;exact JH.mp (JE.mp a5 f (List.contains_iff_mem.mp L0))
  ·rw[hm i m]at NW;have q:=JE.mp a6 (m,f) (gF NW);simp only[Jf,JH]at q;exact⟨q.1.1,q.1.2,q.2⟩
  ·obtain⟨b1,b2,b3,b4,_⟩:=iI f L0;exact⟨b1,b2,b3,b4⟩
  ·obtain⟨_,_,_,_,b5,b6,b7⟩:=iI f L0;exact⟨b5,b6,b7⟩
  ·exact JH.mp (iu ON hj)
 ·rw[hi i];have:i<iT.length:=by rw[t1];exact MP
  exact⟨iT[i],Jz this⟩
 ·rw[hi i]at L0;exact J8 (JE.mp t2 f (JU L0))
 ·rw[hm i m]at L0;have q:=gF L0;by_cases z:i<mT.length
  ·rw[List.getD_eq_getElem?_getD,Jz z]at q;exact J8 (JE.mp (JE.mp t3 _ (J6 z)) _ q)
  ·rw[List.getD_eq_getElem?_getD,List.getElem?_eq_none (by omega)]at q
   cases q
 ·have g:=mQ h9 hx;rw[Jf,JH]at g;exact⟨PySem.W.mg_of X Gn g.1,J8 g.2⟩
 ·exact PySem.W.mg_none_of X Gn (JH.mp (JE.mp o4 x hx))
theorem n0{P:List Value->Prop}(h:P []):∀us:List Value,us.length=0->P us:=us0 h
theorem n1{P:List Value->Prop}(h:∀a,P [a]):∀us:List Value,us.length=1->P us:=usS λa=>us0 (h a)
theorem n2{P:List Value->Prop}(h:∀a b,P [a,b]):∀us:List Value,us.length=2->P us:=usS λa=>usS λb=>us0 (h a b)
theorem n3{P:List Value->Prop}(h:∀a b c,P [a,b,c]):∀us:List Value,us.length=3->P us:=usS λa=>usS λb=>usS λc=>us0 (h a b c)
theorem n4{P:List Value->Prop}(h:∀a b c d,P [a,b,c,d]):∀us:List Value,us.length=4->P us:=usS λa=>usS λb=>usS λc=>usS λd=>us0 (h a b c d)
theorem n5{P:List Value->Prop}(h:∀a b c d e,P [a,b,c,d,e]):∀us:List Value,us.length=5->P us:=usS λa=>usS λb=>usS λc=>usS λd=>usS λe=>us0 (h a b c d e)
end L2
namespace L2
noncomputable def oi:Option Int->D
 |none=>.i_
 |some i=>.int i
@[simp] theorem Fe:oi none=.i_:=rfl
@[simp] theorem E7(i:Int):oi (some i)=.int i:=rfl
noncomputable abbrev pr(a b:Option Int):D:=.tup [oi a,oi b]
theorem dN{i j:Int}(h1:0<j)(h2:j<10 ^ 250):l7 i j=True:=by
 refine eq_true ⟨h1,qa ?_⟩;omega
theorem e8{i j:Int}(h1 : -(10 ^ 240)<i)(h2:i<10 ^ 240)(h3 : -(10 ^ 240)<j)(h4:j<10 ^ 240):cA i j=True:=by
 refine eq_true ⟨qa ?_,qa ?_⟩<;>omega
theorem jT{i j:Int}(h1:0<=j)(h2:j<=1000000)(h3:i.natAbs<2 ^ 64):uR i j=True:=eq_true ⟨h1,h2,h3⟩
theorem ud{α:Type}(a:α)(l:List α):atI (a::l) 0=some a:=by simp[atI,ixN]
theorem uh{α:Type}(a b:α)(l:List α):atI (a::b::l) 1=some b:=bu (j:=1) rfl
theorem sN{α:Type}(a b c:α)(l:List α):atI (a::b::c::l) 2=some c:=bu (j:=2) rfl
theorem wV{α:Type}(a b c d:α)(l:List α):atI (a::b::c::d::l) 3=some d:=bu (j:=3) rfl
end L2
namespace L2
open PySem
section
variable {W:WC}{Z:St3}
@[simp ↓] theorem IV:wpE W (.var 0) (some v::Z) M Q E=Q v M:=rfl
@[simp ↓] theorem IJ:wpE W (.var 1) (y0::some v::Z) M Q E=Q v M:=rfl
@[simp ↓] theorem Jb:wpE W (.var 2) (y0::y1::some v::Z) M Q E=Q v M:=rfl
@[simp ↓] theorem IQ:wpE W (.var 3) (y0::y1::y2::some v::Z) M Q E=Q v M:=rfl
@[simp ↓] theorem Jc:wpE W (.var 4) (y0::y1::y2::y3::some v::Z) M Q E=Q v M:=rfl
@[simp ↓] theorem GG:wpE W (.var 5) (y0::y1::y2::y3::y4::some v::Z) M Q E=Q v M:=rfl
@[simp ↓] theorem Ja:wpE W (.var 6) (y0::y1::y2::y3::y4::y5::some v::Z) M Q E=Q v M:=rfl
@[simp ↓] theorem IP:wpE W (.var 7) (y0::y1::y2::y3::y4::y5::y6::some v::Z) M Q E=Q v M:=rfl
@[simp ↓] theorem IY:wpE W (.var 8) (y0::y1::y2::y3::y4::y5::y6::y7::some v::Z) M Q E=Q v M:=rfl
@[simp ↓] theorem IL:wpE W (.var 9) (y0::y1::y2::y3::y4::y5::y6::y7::y8::some v::Z) M Q E=Q v M:=rfl
@[simp ↓] theorem Ia:wpE W (.var 10) (y0::y1::y2::y3::y4::y5::y6::y7::y8::y9::some v::Z) M Q E=Q v M:=rfl
@[simp ↓] theorem HJ:wpE W (.var 11) (y0::y1::y2::y3::y4::y5::y6::y7::y8::y9::I_::some v::Z) M Q E=Q v M:=rfl
@[simp ↓] theorem HV:wpE W (.var 12) (y0::y1::y2::y3::y4::y5::y6::y7::y8::y9::I_::Ku::some v::Z) M Q E=Q v M:=rfl
@[simp ↓] theorem HX:wpE W (.var 13) (y0::y1::y2::y3::y4::y5::y6::y7::y8::y9::I_::Ku::Kx::some v::Z) M Q E=Q v M:=rfl
@[simp ↓] theorem IH:wpE W (.var 14) (y0::y1::y2::y3::y4::y5::y6::y7::y8::y9::I_::Ku::Kx::KG::some v::Z) M Q E=Q v M:=rfl
@[simp ↓] theorem IB:wpE W (.var 15) (y0::y1::y2::y3::y4::y5::y6::y7::y8::y9::I_::Ku::Kx::KG::KH::some v::Z) M Q E=Q v M:=rfl
@[simp ↓] theorem Ix:wpE W (.var 16) (y0::y1::y2::y3::y4::y5::y6::y7::y8::y9::I_::Ku::Kx::KG::KH::K_::some v::Z) M Q E=Q v M:=rfl
@[simp ↓] theorem HQ:wpE W (.var 17) (y0::y1::y2::y3::y4::y5::y6::y7::y8::y9::I_::Ku::Kx::KG::KH::K_::Lf::some v::Z) M Q E=Q v M:=rfl
@[simp ↓] theorem Iq:wpE W (.con v) Z M Q E=Q v M:=rfl
@[simp ↓] theorem Gf{op a b}:wpE W (.bin op a b) Z M Q E=wpE W a Z M (λx M1=>wpE W b Z M1 (λy M2=>lI op x y M2 Q) E) E:=rfl
@[simp ↓] theorem HH{a}:wpE W (.neg a) Z M Q E=wpE W a Z M (λx M1=>rNeg x M1 Q) E:=rfl
@[simp ↓] theorem ID{fz a b}:wpE W (.cat fz a b) Z M Q E=wpE W a Z M (λx M1=>wpE W b Z M1 (λy M2=>jQ fz x y M2 Q) E) E:=rfl
@[simp ↓] theorem Hl{op a b}:wpE W (.cmp op a b) Z M Q E=wpE W a Z M (λx M1=>wpE W b Z M1 (λy M2=>aC op x y M2 Q) E) E:=rfl
@[simp ↓] theorem FH{op K8 a b c}:wpE W (.chain op K8 a b c) Z M Q E=wpE W a Z M (λx M1=>wpE W b Z M1 (λy M2=>aC op x y M2 λr M3=>match r with
  |.bl k=>if k=true then wpE W c Z M3 (λz M4=>aC K8 y z M4 Q) E else Q (.bl false) M3
  |_=>False) E) E:=rfl
@[simp ↓] theorem Ij{a b}:wpE W (.and a b) Z M Q E=wpE W a Z M (λx M1=>match x with
  |.bl c=>if c=true then wpE W b Z M1 Q E else Q (.bl false) M1
  |_=>False) E:=rfl
@[simp ↓] theorem HN{a}:wpE W (.not a) Z M Q E=wpE W a Z M (λx M1=>match x with
  |.bl c=>Q (.bl (!c)) M1
  |_=>False) E:=rfl
@[simp ↓] theorem Ib{c a b}:wpE W (.NZ c a b) Z M Q E=wpT W c Z M (λk M1=>if k=true then wpE W a Z M1 Q E else wpE W b Z M1 Q E) E:=rfl
@[simp ↓] theorem Hz{es}:wpE W (.tup es) Z M Q E=wpA W es Z M (λxs M1=>xs.length<=sizeLine/\Q (.tup xs) M1) E:=rfl
@[simp ↓] theorem Id{fz es}:wpE W (.lst fz es) Z M Q E=wpA W es Z M (λxs M1=>gk fz xs M1 Q) E:=rfl
@[simp ↓] theorem HL{e}:wpE W (.u_ e) Z M Q E=wpE W e Z M (bb Q) E:=rfl
@[simp ↓] theorem IM{a b}:wpE W (.ix a b) Z M Q E=wpE W a Z M (λx M1=>wpE W b Z M1 (λy M2=>ao x y M2 Q) E) E:=rfl
@[simp ↓] theorem Jd{fz a lo hi}:wpE W (.sl fz a lo hi) Z M Q E=wpE W a Z M (λx M1=>wpO W lo Z M1 (λl M2=>wpO W hi Z M2 (λh M3=>nY fz x l h M3 Q) E) E) E:=rfl
@[simp ↓] theorem G7{f es}:wpE W (.call f es) Z M Q E=wpA W es Z M (λxs M1=>W.call f xs M1 Q E) E:=rfl
@[simp ↓] theorem IN{b es}:wpE W (.bi b es) Z M Q E=wpA W es Z M (λxs M1=>rBi b xs M1 Q) E:=rfl
@[simp ↓] theorem Ht{e t}:wpE W (.Ms e t) Z M Q E=wpE W e Z M (λx M1=>mP t x M1 Q) E:=rfl
@[simp ↓] theorem Hc{k v}:wpE W (.LS k v) Z M Q E=∀p,M p=none->wpE W k Z (put M p (.dt [] [])) (λx M1=>wpE W v Z M1 (λy M2=>fD p x y M2 Q) E) E:=rfl
def qD(W:WC)(tg:ITg)(cond:ITO)(D_:IE)(Li:St3)(Q:VK3):VK3:=λx M1=>eW x M1 λd ks es=>∀φ p,M1 p=none->
   bM (wpG tg) (λZ M Q=>lG W cond Z M Q (λ_ _=>False)) (λZ M Q=>wpE W D_ Z M Q (λ_ _=>False)) (λM=>M d=some (.t_ φ)) p (λy M2=>Q y (put M2 d (.dt ks es))) (ar ks es) [] Li (put (put M1 d (.t_ φ)) p (.lst []))
@[simp ↓] theorem Fu{N js tg o cond D_}:wpE W (.LU N js tg o cond D_) Z M Q E=wpE W o Z M (qD W tg cond D_ (ay js Z) Q) E:=rfl
@[simp ↓] theorem Im{e}:wpE W (.OA e) Z M Q E=wpE W e Z M (λx M1=>rMp x M1 Q) E:=rfl
@[simp ↓] theorem Iz{mx e}:wpE W (.N0 mx e) Z M Q E=wpE W e Z M (λx M1=>pG mx x M1 Q) E:=rfl
@[simp ↓] theorem Ho{e f}:wpE W (.fld e f) Z M Q E=wpE W e Z M (λx M1=>dP W.toWB f x M1 Q) E:=rfl
@[simp ↓] theorem Fl{i es}:wpE W (.make true i es) Z M Q E=wpA W es Z M (λxs M1=>i<W.nk/\gu (W.ini i) λf=>∀p,M1 p=none->W.call f (.ref p::xs) (put M1 p (.ins i (W.c_ i) [] [])) (λv M2=>v=.i_/\bb Q (.ref p) M2) (λi M'=>E i (L2.del M' p))) E:=rfl
@[simp ↓] theorem Ft{i es}:wpE W (.make false i es) Z M Q E=wpA W es Z M (λxs M1=>i<W.nk/\gu (W.ini i) λf=>∀p,M1 p=none->W.call f (.ref p::xs) (put M1 p (.ins i (W.c_ i) [] [])) (λv M2=>v=.i_/\Q (.ref p) M2) (λi M'=>E i (L2.del M' p))) E:=rfl
@[simp ↓] theorem Gc{e m es}:wpE W (.E_ e m es) Z M Q E=wpE W e Z M (λx M1=>cG W.toWB m x M1 λf=>wpA W es Z M1 (λxs M2=>W.call f (x::xs) M2 Q E) E) E:=rfl
@[simp ↓] theorem IF{i es}:wpE W (.ini i es) Z M Q E=wpA W es Z M (λxs M1=>i<W.nk/\gu (W.ini i) λf=>W.call f xs M1 Q E) E:=rfl
@[simp ↓] theorem HK{k}:wpE W (.glo k) Z M Q E=Q (W.glo k) M:=rfl
@[simp ↓] theorem IK{b o es}:wpE W (.bm b o es) Z M Q E=wpE W o Z M (λx M1=>tyB b x M1=true/\wpA W es Z M1 (λxs M2=>rBm b x xs M2 Q) E) E:=rfl
@[simp] theorem bP:aw M M=M:=by
 funext a;unfold aw;split<;>simp_all
@[simp] theorem eP(h:M p=none):aw M (put M' p o)=aw M M':=by
 funext a;unfold aw put;split
 ·rename_i x e;split
  ·rename_i z;subst z;rw[h]at e;cases e
  ·rfl
 ·rfl
@[simp] theorem vy(h:M p=none):aw M (L2.del M' p)=aw M M':=by
 funext a;unfold aw L2.del;split
 ·rename_i x e;split
  ·rename_i z;subst z;rw[h]at e;cases e
  ·rfl
 ·rfl
@[simp] theorem jD(h:M p=some u):aw M (put M' p o)=put (aw M M') p o:=by
 funext a;unfold aw put;by_cases z:a=p
 ·subst z;simp[h]
 ·simp[z]
@[simp] theorem Fn:aw (put M p o) (put M' p u)=put (aw M M') p u:=by
 funext a;unfold aw put;by_cases z:a=p
 ·subst z;simp
 ·simp[z]
@[simp ↓] theorem D4:gu (some f) R=R f:=rfl
@[simp ↓] theorem Fa{B:WB}{f i C ns ds}:dP B f (.obj i C ns ds) M Q=((C=B.c_ i/\i<B.nk/\B.fok i f=true)/\oQ f ns ds M Q):=rfl
@[simp ↓] theorem EW{f n ns d ds}:oQ f (n::ns) (d::ds) M Q=if n=f then Q d M else oQ f ns ds M Q:=by
 unfold oQ;rw[bK];by_cases h:n=f
 ·rw[Jr h,Jr h]
 ·rw[Ji h,Ji h]
@[simp ↓] theorem Fg{B:WB}{m i C ns ds}:cG B m (.obj i C ns ds) M R=((C=B.c_ i/\i<B.nk/\bK m ns ds=none)/\gu (B.mth i m) R):=rfl
@[simp ↓] theorem Ff{B:WB}{m i C ns ds}:cG B m (.ref a) (put M a (.ins i C ns ds)) R=((C=B.c_ i/\i<B.nk/\bK m ns ds=none)/\gu (B.mth i m) R):=by
 simp[cG,aa]
@[simp] theorem CI:bK f [] ds=none:=by unfold bK;rfl
@[simp] theorem Cz:bK f (n::ns) (d::ds)=if n=f then some d else bK f ns ds:=by rw[bK]
@[simp] theorem CJ:cC f []=[f]:=rfl
@[simp] theorem AS:cC f (n::ns)=if n=f then n::ns else n::cC f ns:=rfl
@[simp] theorem CH:cB f y [] ds=[y]:=by unfold cB;rfl
@[simp] theorem Ah:cB f y (n::ns) (d::ds)=if n=f then y::ds else d::cB f y ns ds:=by rw[cB]
@[simp ↓] theorem Fs{ds}(h:M a=none):bb Q (.ref a) (put M a (.lst ds))=Q (.f_ ds) M:=by
 simp only[bb,aa,ft h]
@[simp ↓] theorem FC{i C ns ds}(h:M a=none):bb Q (.ref a) (put M a (.ins i C ns ds))=eG ds M (λr M'=>Q (.obj i C ns r) M'):=by
 simp only[bb,aa,ft h]
@[simp ↓] theorem Du:eG [] M R=R [] M:=rfl
@[simp ↓] theorem Dv{i ds}:eG (.int i::ds) M R=eG ds M (λr M'=>R (.int i::r) M'):=rfl
@[simp ↓] theorem CL{i ds}:eG (.tup i::ds) M R=eG ds M (λr M'=>R (.tup i::r) M'):=rfl
@[simp ↓] theorem Fd{fz ds lo hi}:nY fz (.tup ds) lo hi M Q=(whole ds.length lo hi=false/\Q (.tup (fB ds lo hi)) M):=rfl
@[simp ↓] theorem E6{ds lo hi}:nY true (.f_ ds) lo hi M Q=((fB ds lo hi).length<=sizeLine/\Q (.f_ (fB ds lo hi)) M):=rfl
@[simp ↓] theorem Fj{a b}:lI .Add (.tup a) (.tup b) M Q=(a.length+b.length<=sizeLine/\Q (.tup (a++b)) M):=rfl
@[simp ↓] theorem Gb{tk}:wpE W (.KJ tk) Z M Q E=∀p,M p=none->Q (.ref p) (put M p (if tk=true then .dt [] [] else .dk [] [])):=rfl
theorem uX{ks ds}(h:M a=some (.dk ks ds)):tyB .get (.ref a) M=true:=by simp[tyB,cU,h]
theorem su{ks ds}(h:M a=some (.dk ks ds)):rBm .get (.ref a) [.int i,z] M Q=Q ((getD ks ds (.inl i)).getD z) M:=by simp[rBm,dM,cU,h,m9]
theorem jA{ds}(h:M a=some (.lst ds)):isLstM (.ref a) M=true:=by simp[isLstM,h]
@[simp] theorem Bv{x}:tyB .extend x M=isLstM x M:=rfl
theorem oG{ks ds}(h:M a=some (.dk ks ds)):aE (.ref a) (.int i) y M R=(ks.length<sizeLine/\R (put M a (.dk (aj ks (.inl i)) (au ks ds (.inl i) y)))):=by simp[aE,h,m9]
theorem tD{ds}(h:M a=some (.lst ds))(hj:ixN ds.length i=some j):aE (.ref a) (.int i) y M R=R (put M a (.lst (ds.set j y))):=by simp[aE,h,hj]
theorem aS[DecidableEq κ]:∀{ks:List κ}{ds:List D}{k x:κ}{y:D},ks.length=ds.length->getD (aj ks k) (au ks ds k y) x=if k=x then some y else getD ks ds x
 |[],ds,k,x,y,_=>by
  simp only[aj,au];by_cases h:k=x
  ·simp[getD]
  ·cases ds<;>simp[getD]
 |k'::ks,[],k,x,y,h=>by simp at h
 |k'::ks,d::ds,k,x,y,h=>by
  simp only[aj,au];have hl:ks.length=ds.length:=by simpa using h
  by_cases e:k'=k
  ·subst e;by_cases h2:k'=x<;>simp[getD,h2]
  ·simp only[Ji e,getD];by_cases h2:k'=x
   ·subst h2;rw[Jr rfl,Ji (Jv e),Jr rfl]
   ·rw[Ji h2,Ji h2];exact aS hl
theorem bq[DecidableEq κ]:∀{ks:List κ}{ds:List D}{k:κ}{y:D},ks.length=ds.length->(aj ks k).length=(au ks ds k y).length
 |[],ds,k,y,_=>by simp[aj,au]
 |k'::ks,[],k,y,h=>by simp at h
 |k'::ks,d::ds,k,y,h=>by
  have hl:ks.length=ds.length:=by simpa using h
  simp only[aj,au];by_cases e:k'=k
  ·simp[e,hl]
  ·simp only[Ji e,Jw];rw[bq hl]
def o8(W:WC)(tg:ITg)(cond:ITO)(D_:IE)(S:MH->Prop)(p:Addr)(Q:VK3):List D->List D->St3->MH->Prop:=bM (wpG tg) (λZ M Q=>lG W cond Z M Q (λ_ _=>False)) (λZ M Q=>wpE W D_ Z M Q (λ_ _=>False)) S p Q
def jK(W:WC)(tg:ITg)(cond:ITO)(D_:IE)(S:MH->Prop)(Q:VK3)(ds:List D)(Z:St3)(M:MH):Prop:=∀p,M p=none->o8 W tg cond D_ S p (jL Q) ds [] Z (put M p (.lst []))
@[simp ↓] theorem Fx{N js tg it cond D_}:wpE W (.comp true N js tg it cond D_) Z M Q E=wpI W it Z M (λds S M1=>jK W tg cond D_ S Q ds (ay js Z) M1) E:=rfl
@[simp ↓] theorem F8{e}:wpT W (.val e) Z M QB E=wpE W e Z M (λx M1=>match x with
  |.bl k=>QB k M1
  |_=>False) E:=rfl
@[simp ↓] theorem F4{op a b}:wpT W (.cmp op a b) Z M QB E=wpE W a Z M (λx M1=>wpE W b Z M1 (λy M2=>aC op x y M2 λr M3=>match r with
  |.bl k=>QB k M3
  |_=>False) E) E:=rfl
@[simp ↓] theorem F5{a b}:wpT W (.and a b) Z M QB E=wpT W a Z M (λc M1=>if c=true then wpT W b Z M1 QB E else QB false M1) E:=rfl
@[simp ↓] theorem Hx{a b}:wpT W (.or a b) Z M QB E=wpT W a Z M (λc M1=>if c=true then QB true M1 else wpT W b Z M1 QB E) E:=rfl
@[simp ↓] theorem GB{a}:wpT W (.not a) Z M QB E=wpT W a Z M (λc M1=>QB (!c) M1) E:=rfl
@[simp ↓] theorem G6:wpA W .nil Z M QL E=QL [] M:=rfl
@[simp ↓] theorem Fp{e r}:wpA W (.cons e r) Z M QL E=wpE W e Z M (λx M1=>wpA W r Z M1 (λxs M2=>QL (x::xs) M2) E) E:=rfl
@[simp ↓] theorem Hn:wpO W .no Z M QO E=QO none M:=rfl
@[simp ↓] theorem GP{e}:wpO W (.yes e) Z M QO E=wpE W e Z M (λx M1=>match x with
  |.int i=>QO (some i) M1
  |_=>False) E:=rfl
@[simp ↓] theorem GS{e}:lG W (.yes e) Z M QB E=wpT W e Z M QB E:=rfl
def oo(R:List D->(MH->Prop)->MH->Prop):VK3:=λx M1=>match x with
  |.tup ds=>R ds (λ_=>True) M1
  |.f_ ds=>R ds (λ_=>True) M1
  |.ref a=>match M1 a with
   |some (.lst ds)=>R ds (λM=>M a=some (.lst ds)) M1
   |_=>False
  |_=>False
@[simp ↓] theorem DL{ds}:oo R (.tup ds) M=R ds (λ_=>True) M:=rfl
@[simp ↓] theorem uW{ds}:oo R (.f_ ds) M=R ds (λ_=>True) M:=rfl
theorem vC{a ds}(h:M a=some (.lst ds)):oo R (.ref a) M=R ds (λM=>M a=some (.lst ds)) M:=by
 unfold oo;simp only[h]
@[simp ↓] theorem GO{e}:wpI W (.seq e) Z M R E=wpE W e Z M (oo R) E:=rfl
@[simp ↓] theorem Fc{a}:wpI W (.enum a) Z M R E=wpE W a Z M (λx M1=>match x with
  |.f_ ds=>R (cy 0 ds) (λ_=>True) M1
  |.ref a=>match M1 a with
   |some (.lst ds)=>R (cy 0 ds) (λM=>M a=some (.lst ds)) M1
   |_=>False
  |_=>False) E:=rfl
@[simp ↓] theorem DI{a}:wpI W (.items a) Z M R E=wpE W a Z M (λx M1=>match x with
  |.H_ ks ds=>R (ar ks ds) (λ_=>True) M1
  |.LR ks ds=>R (f8 ks ds) (λ_=>True) M1
  |_=>False) E:=rfl
@[simp ↓] theorem HP{a}:wpI W (.dk a) Z M R E=wpE W a Z M (λx M1=>match x with
  |.H_ ks ds=>R (ks.map bS) (λ_=>True) M1
  |_=>False) E:=rfl
@[simp ↓] theorem G9{a b}:wpI W (.zip a b) Z M R E=wpE W a Z M (λx M1=>wpE W b Z M1 (λy M2=>rLs x M2 λxs S=>rLs y M2 λys S'=>R (iZ xs ys) (λM=>S M/\S' M) M2) E) E:=rfl
@[simp] theorem GZ{k}:rLs (.f_ xs) M k=k xs λ_=>True:=rfl
@[simp ↓] theorem FG{a}:wpI W (.LV a) Z M R E=wpE W a Z M (λx M1=>match x with
  |.int j=>-(2 ^ 62)<=j/\j<2 ^ 62/\R (rng 0 j.toNat) (λ_=>True) M1
  |_=>False) E:=rfl
end
section
variable {W:WC}{Z:St3}{De:Ends3}{x:Option D}
@[simp ↓] theorem GI:aW W .nil De ES Z M=De.nx Z M:=rfl
@[simp ↓] theorem E8{s r}:aW W (.cons s r) De ES (x::Z) M=wpS W s {De with nx:=λl_ M'=>aW W r De ES l_ M'} ES (x::Z) M:=rfl
@[simp ↓] theorem F7{e}:wpS W (.set 1 e) De ES (y0::x::Z) M=wpE W e (y0::x::Z) M (λv M1=>De.nx (y0::some v::Z) M1) (ES (y0::x::Z)):=rfl
@[simp ↓] theorem Gu{e}:wpS W (.set 2 e) De ES (y0::y1::x::Z) M=wpE W e (y0::y1::x::Z) M (λv M1=>De.nx (y0::y1::some v::Z) M1) (ES (y0::y1::x::Z)):=rfl
@[simp ↓] theorem GT{e}:wpS W (.set 3 e) De ES (y0::y1::y2::x::Z) M=wpE W e (y0::y1::y2::x::Z) M (λv M1=>De.nx (y0::y1::y2::some v::Z) M1) (ES (y0::y1::y2::x::Z)):=rfl
@[simp ↓] theorem GR{e}:wpS W (.set 4 e) De ES (y0::y1::y2::y3::x::Z) M=wpE W e (y0::y1::y2::y3::x::Z) M (λv M1=>De.nx (y0::y1::y2::y3::some v::Z) M1) (ES (y0::y1::y2::y3::x::Z)):=rfl
@[simp ↓] theorem Hh{e}:wpS W (.set 5 e) De ES (y0::y1::y2::y3::y4::x::Z) M=wpE W e (y0::y1::y2::y3::y4::x::Z) M (λv M1=>De.nx (y0::y1::y2::y3::y4::some v::Z) M1) (ES (y0::y1::y2::y3::y4::x::Z)):=rfl
@[simp ↓] theorem Gy{e}:wpS W (.set 6 e) De ES (y0::y1::y2::y3::y4::y5::x::Z) M=wpE W e (y0::y1::y2::y3::y4::y5::x::Z) M (λv M1=>De.nx (y0::y1::y2::y3::y4::y5::some v::Z) M1) (ES (y0::y1::y2::y3::y4::y5::x::Z)):=rfl
@[simp ↓] theorem Gi{e}:wpS W (.set 7 e) De ES (y0::y1::y2::y3::y4::y5::y6::x::Z) M=wpE W e (y0::y1::y2::y3::y4::y5::y6::x::Z) M (λv M1=>De.nx (y0::y1::y2::y3::y4::y5::y6::some v::Z) M1) (ES (y0::y1::y2::y3::y4::y5::y6::x::Z)):=rfl
@[simp ↓] theorem G3{e}:wpS W (.set 8 e) De ES (y0::y1::y2::y3::y4::y5::y6::y7::x::Z) M=wpE W e (y0::y1::y2::y3::y4::y5::y6::y7::x::Z) M (λv M1=>De.nx (y0::y1::y2::y3::y4::y5::y6::y7::some v::Z) M1) (ES (y0::y1::y2::y3::y4::y5::y6::y7::x::Z)):=rfl
@[simp ↓] theorem GA{e}:wpS W (.set 9 e) De ES (y0::y1::y2::y3::y4::y5::y6::y7::y8::x::Z) M=wpE W e (y0::y1::y2::y3::y4::y5::y6::y7::y8::x::Z) M (λv M1=>De.nx (y0::y1::y2::y3::y4::y5::y6::y7::y8::some v::Z) M1) (ES (y0::y1::y2::y3::y4::y5::y6::y7::y8::x::Z)):=rfl
@[simp ↓] theorem Fh{e}:wpS W (.set 10 e) De ES (y0::y1::y2::y3::y4::y5::y6::y7::y8::y9::x::Z) M=wpE W e (y0::y1::y2::y3::y4::y5::y6::y7::y8::y9::x::Z) M (λv M1=>De.nx (y0::y1::y2::y3::y4::y5::y6::y7::y8::y9::some v::Z) M1) (ES (y0::y1::y2::y3::y4::y5::y6::y7::y8::y9::x::Z)):=rfl
@[simp ↓] theorem FP{e}:wpS W (.set 11 e) De ES (y0::y1::y2::y3::y4::y5::y6::y7::y8::y9::I_::x::Z) M=wpE W e (y0::y1::y2::y3::y4::y5::y6::y7::y8::y9::I_::x::Z) M (λv M1=>De.nx (y0::y1::y2::y3::y4::y5::y6::y7::y8::y9::I_::some v::Z) M1) (ES (y0::y1::y2::y3::y4::y5::y6::y7::y8::y9::I_::x::Z)):=rfl
@[simp ↓] theorem Fb{e}:wpS W (.set 12 e) De ES (y0::y1::y2::y3::y4::y5::y6::y7::y8::y9::I_::Ku::x::Z) M=wpE W e (y0::y1::y2::y3::y4::y5::y6::y7::y8::y9::I_::Ku::x::Z) M (λv M1=>De.nx (y0::y1::y2::y3::y4::y5::y6::y7::y8::y9::I_::Ku::some v::Z) M1) (ES (y0::y1::y2::y3::y4::y5::y6::y7::y8::y9::I_::Ku::x::Z)):=rfl
@[simp ↓] theorem Fq{e}:wpS W (.set 13 e) De ES (y0::y1::y2::y3::y4::y5::y6::y7::y8::y9::I_::Ku::Kx::x::Z) M=wpE W e (y0::y1::y2::y3::y4::y5::y6::y7::y8::y9::I_::Ku::Kx::x::Z) M (λv M1=>De.nx (y0::y1::y2::y3::y4::y5::y6::y7::y8::y9::I_::Ku::Kx::some v::Z) M1) (ES (y0::y1::y2::y3::y4::y5::y6::y7::y8::y9::I_::Ku::Kx::x::Z)):=rfl
@[simp ↓] theorem Fv{e}:wpS W (.set 14 e) De ES (y0::y1::y2::y3::y4::y5::y6::y7::y8::y9::I_::Ku::Kx::KG::x::Z) M=wpE W e (y0::y1::y2::y3::y4::y5::y6::y7::y8::y9::I_::Ku::Kx::KG::x::Z) M (λv M1=>De.nx (y0::y1::y2::y3::y4::y5::y6::y7::y8::y9::I_::Ku::Kx::KG::some v::Z) M1) (ES (y0::y1::y2::y3::y4::y5::y6::y7::y8::y9::I_::Ku::Kx::KG::x::Z)):=rfl
@[simp ↓] theorem Fr{e}:wpS W (.set 15 e) De ES (y0::y1::y2::y3::y4::y5::y6::y7::y8::y9::I_::Ku::Kx::KG::KH::x::Z) M=wpE W e (y0::y1::y2::y3::y4::y5::y6::y7::y8::y9::I_::Ku::Kx::KG::KH::x::Z) M (λv M1=>De.nx (y0::y1::y2::y3::y4::y5::y6::y7::y8::y9::I_::Ku::Kx::KG::KH::some v::Z) M1) (ES (y0::y1::y2::y3::y4::y5::y6::y7::y8::y9::I_::Ku::Kx::KG::KH::x::Z)):=rfl
@[simp ↓] theorem FI{e}:wpS W (.set 16 e) De ES (y0::y1::y2::y3::y4::y5::y6::y7::y8::y9::I_::Ku::Kx::KG::KH::K_::x::Z) M=wpE W e (y0::y1::y2::y3::y4::y5::y6::y7::y8::y9::I_::Ku::Kx::KG::KH::K_::x::Z) M (λv M1=>De.nx (y0::y1::y2::y3::y4::y5::y6::y7::y8::y9::I_::Ku::Kx::KG::KH::K_::some v::Z) M1) (ES (y0::y1::y2::y3::y4::y5::y6::y7::y8::y9::I_::Ku::Kx::KG::KH::K_::x::Z)):=rfl
@[simp ↓] theorem FO{e}:wpS W (.set 17 e) De ES (y0::y1::y2::y3::y4::y5::y6::y7::y8::y9::I_::Ku::Kx::KG::KH::K_::Lf::x::Z) M=wpE W e (y0::y1::y2::y3::y4::y5::y6::y7::y8::y9::I_::Ku::Kx::KG::KH::K_::Lf::x::Z) M (λv M1=>De.nx (y0::y1::y2::y3::y4::y5::y6::y7::y8::y9::I_::Ku::Kx::KG::KH::K_::Lf::some v::Z) M1) (ES (y0::y1::y2::y3::y4::y5::y6::y7::y8::y9::I_::Ku::Kx::KG::KH::K_::Lf::x::Z)):=rfl
def i8(B:WB)(f:Nat)(y:D)(R:MH->Prop):VK3:=λx M2=>match x with
  |.ref a=>match M2 a with
   |some (.ins i C ns ds)=>(C=B.c_ i/\i<B.nk/\B.fok i f=true/\ns.length<1000)/\R (put M2 a (.ins i C (cC f ns) (cB f y ns ds)))
   |_=>False
  |_=>False
@[simp ↓] theorem DD{B:WB}{i C ns ds}:i8 B f y R (.ref a) (put M a (.ins i C ns ds))=((C=B.c_ i/\i<B.nk/\B.fok i f=true/\ns.length<1000)/\R (put M a (.ins i C (cC f ns) (cB f y ns ds)))):=by
 simp[i8,aa,aL]
def jp(is:List Nat)(Z:St3)(k:St3->MH->Prop):VK3:=λx M1=>match x with
  |.tup ds=>ds.length=is.length/\k ((is.zip ds).foldl (λZ p=>Z.set p.1 (some p.2)) Z) M1
  |_=>False
@[simp ↓] theorem FM{i j a b k}:jp [i,j] Z k (.tup [a,b]) M=k ((Z.set i (some a)).set j (some b)) M:=by
 simp[jp]
@[simp ↓] theorem FS{is e}:wpS W (.MO is e) De ES Z M=wpE W e Z M (jp is Z De.nx) (ES Z):=rfl
@[simp ↓] theorem FK{e}:wpS W (.expr e) De ES Z M=wpE W e Z M (λ_ M1=>De.nx Z M1) (ES Z):=rfl
@[simp ↓] theorem GV{e}:wpS W (.ret e) De ES Z M=wpE W e Z M De.rt (ES Z):=rfl
@[simp ↓] theorem Fi:wpS W .Mc De ES Z M=De.rt .i_ M:=rfl
@[simp ↓] theorem FA:wpS W .dead De ES Z M=False:=rfl
@[simp ↓] theorem FJ{o f e}:wpS W (.Lb o f e) De ES Z M=wpE W e Z M (λy M1=>wpE W o Z M1 (i8 W.toWB f y (De.nx Z)) (ES Z)) (ES Z):=rfl
@[simp ↓] theorem E5{o i e}:wpS W (.y_ o i e) De ES Z M=wpE W e Z M (λy M1=>wpE W o Z M1 (λx M2=>wpE W i Z M2 (λk M3=>aE x k y M3 λM4=>De.nx Z M4) (ES Z)) (ES Z)) (ES Z):=rfl
@[simp ↓] theorem FU{c a b}:wpS W (.ifs c a b) De ES Z M=wpT W c Z M (λk M1=>if k=true then aW W a De ES Z M1 else aW W b De ES Z M1) (ES Z):=rfl
def aV(W:WC)(tg:ITg)(body:ISs)(ES:St3->XN)(S:MH->Prop)(De:Ends3):List D->St3->MH->Prop:=cM (wpG tg) (λD Z M=>aW W body D ES Z M) S De
@[simp ↓] theorem Ga{tg it body}:wpS W (.Kr tg it body) De ES Z M=wpI W it Z M (λds S M1=>aV W tg body ES S De ds Z M1) (ES Z):=rfl
theorem aQ{tg body S}:aV W tg body ES S De [] Z M=(S M/\De.nx Z M):=rfl
theorem aA{tg body S d r}:aV W tg body ES S De (d::r) Z M=(S M/\wpG tg d Z M λLh M2=>aW W body {De with nx:=aV W tg body ES S De r,ct:=aV W tg body ES S De r,bk:=De.nx} ES Lh M2):=rfl
def lE(W:WC)(e:IE)(De:Ends3)(E:XN)(Z:St3):VK3:=λx M1=>match x with
  |.ref a=>match M1 a with
   |some (.lst _)=>wpE W e Z M1 (λy M2=>match M2 a with
    |some (.lst ds)=>ds.length<sizeLine/\De.nx Z (put M2 a (.lst (ds++[y])))
    |_=>False) E
   |_=>False
  |_=>False
@[simp ↓] theorem GX{o e}:wpS W (.app o e) De ES Z M=wpE W o Z M (lE W e De (ES Z) Z) (ES Z):=rfl
def b8(p:Addr)(De:Ends3)(Z:St3):VK3:=λy M2=>match M2 p with
    |some (.lst ds)=>ds.length<sizeLine/\De.nx Z (put M2 p (.lst (ds++[y])))
    |_=>False
@[simp ↓] theorem FN{e E p ds}:lE W e De E Z (.ref p) (put M p (.lst ds))=wpE W e Z (put M p (.lst ds)) (b8 p De Z) E:=by
 unfold lE;simp only[aa];rfl
@[simp ↓] theorem CY{p ds y}:b8 p De Z y (put M p (.lst ds))=(ds.length<sizeLine/\De.nx Z (put M p (.lst (ds++[y])))):=by
 unfold b8;simp only[aa,aL]
@[simp ↓] theorem FD{i d k}:wpG (.name i) d Z M k=k (Z.set i (some d)) M:=rfl
@[simp ↓] theorem Gk{is d k}:wpG (.tup is) d Z M k=jp is Z k d M:=rfl
end
section
variable {i j:Int}{x:D}
@[simp ↓] theorem HE:lI .Add (.int i) (.int j) M Q=Q (.int (i+j)) M:=rfl
@[simp ↓] theorem Hq:lI .Sub (.int i) (.int j) M Q=Q (.int (i-j)) M:=rfl
@[simp ↓] theorem HU:lI .Mult (.int i) (.int j) M Q=(cA i j/\Q (.int (i*j)) M):=rfl
@[simp ↓] theorem Ic:lI .FloorDiv (.int i) (.int j) M Q=(l7 i j/\Q (.int (i / j)) M):=rfl
@[simp ↓] theorem Ik:lI .Mod (.int i) (.int j) M Q=(0<j/\Q (.int (i % j)) M):=rfl
@[simp ↓] theorem HY:lI .Pow (.int i) (.int j) M Q=(uR i j/\Q (.int (i ^ j.toNat)) M):=rfl
@[simp ↓] theorem HA:rNeg (.int i) M Q=Q (.int (-i)) M:=rfl
@[simp ↓] theorem IW:aC .Lt (.int i) (.int j) M Q=Q (.bl (decide (i<j))) M:=rfl
@[simp ↓] theorem IR:aC .LtE (.int i) (.int j) M Q=Q (.bl (decide (i<=j))) M:=rfl
@[simp ↓] theorem IU:aC .Gt (.int i) (.int j) M Q=Q (.bl (decide (j<i))) M:=rfl
@[simp ↓] theorem IZ:aC .GtE (.int i) (.int j) M Q=Q (.bl (decide (j<=i))) M:=rfl
@[simp ↓] theorem Hm:aC .Eq (.int i) (.int j) M Q=Q (.bl (decide (i=j))) M:=by simp[aC,ll,rs,ak,plN,eqD]
@[simp ↓] theorem Hu:aC .NotEq (.int i) (.int j) M Q=Q (.bl (!decide (i=j))) M:=by simp[aC,ll,rs,ak,plN,eqD]
@[simp ↓] theorem Ih:aC .Eq (.bl a) (.bl b) M Q=Q (.bl (a == b)) M:=by simp[aC,ll,rs,ak,plN,eqD]
@[simp ↓] theorem Ip:aC .Eq (.str s) (.str t) M Q=Q (.bl (decide (s=t))) M:=by simp[aC,ll,rs,ak,plN,eqD]
@[simp ↓] theorem Ir:aC .Is x .i_ M Q=Q (.bl x.isN) M:=by simp[aC,qH]
@[simp ↓] theorem Gx:aC .IsNot x .i_ M Q=Q (.bl (!x.isN)) M:=by simp[aC,qH]
@[simp ↓] theorem Go:aC .IsNot (.bl a) (.bl b) M Q=Q (.bl (!(a == b))) M:=by simp[aC,qH]
@[simp] theorem Fk:(D.int i).isN=false:=rfl
@[simp] theorem FE:D.i_.isN=true:=rfl
@[simp ↓] theorem HW{d l}:ao (.tup (d::l)) (.int 0) M Q=Q d M:=by simp[ao,az,ud]
@[simp ↓] theorem Hr{d e l}:ao (.tup (d::e::l)) (.int 1) M Q=Q e M:=by simp[ao,az,uh]
@[simp ↓] theorem Ii{d e f l}:ao (.tup (d::e::f::l)) (.int 2) M Q=Q f M:=by simp[ao,az,sN]
@[simp ↓] theorem HM{d e f g l}:ao (.tup (d::e::f::g::l)) (.int 3) M Q=Q g M:=by simp[ao,az,wV]
@[simp ↓] theorem Ig{d e f g h l}:ao (.tup (d::e::f::g::h::l)) (.int 4) M Q=Q h M:=by
 have:atI (d::e::f::g::h::l) 4=some h:=bu (j:=4) rfl;simp[ao,az,this]
theorem qJ{ds y}(h:M a=some (.lst ds)):ao (.ref a) y M Q=ao (.f_ ds) y M Q:=by
 cases y<;>simp[ao,az,ak,h]
@[simp ↓] theorem EJ{ds}:rBi (.list true) [.f_ ds] M Q=(ds.length<=sizeLine/\Q (.f_ ds) M):=rfl
@[simp ↓] theorem HZ{d l}:ao (.f_ (d::l)) (.int 0) M Q=Q d M:=by simp[ao,az,ak,ud]
@[simp ↓] theorem Iy{d e l}:ao (.f_ (d::e::l)) (.int 1) M Q=Q e M:=by simp[ao,az,ak,uh]
@[simp ↓] theorem Iu{d e f l}:ao (.f_ (d::e::f::l)) (.int 2) M Q=Q f M:=by simp[ao,az,ak,sN]
@[simp ↓] theorem Hw{d e f g l}:ao (.f_ (d::e::f::g::l)) (.int 3) M Q=Q g M:=by simp[ao,az,ak,wV]
@[simp ↓] theorem E9{ds}:rBi .len [.tup ds] M Q=Q (.int ds.length) M:=rfl
@[simp ↓] theorem FF{ds}:rBi .len [.f_ ds] M Q=Q (.int ds.length) M:=rfl
@[simp ↓] theorem He:rBi .max [.int i,.int j] M Q=Q (.int (if j > i then j else i)) M:=rfl
@[simp ↓] theorem F1:rBi .min [.int i,.int j] M Q=Q (.int (if j<i then j else i)) M:=rfl
@[simp ↓] theorem Io{ds}:gk true ds M Q=(ds.length<=sizeLine/\Q (.f_ ds) M):=by simp[gk]
@[simp ↓] theorem FY{ds es}:jQ true (.f_ ds) (.f_ es) M Q=((ds++es).length<=sizeLine/\Q (.f_ (ds++es)) M):=by simp[jQ,ak,gk]
@[simp ↓] theorem Ie{ds}:gk false ds M Q=(ds.length<=sizeLine/\∀p,M p=none->Q (.ref p) (put M p (.lst ds))):=by simp[gk]
theorem av(h:n<=1000):(n<=sizeLine)=True:=eq_true (JF h (by decide))
theorem C0(h:n<1000):(n<sizeLine)=True:=eq_true (Ju h (by decide))
@[simp ↓] theorem Fo{t}:mP t (.int i) M Q=Q (.bl (match t with|.int=>true|_=>false)) M:=rfl
@[simp ↓] theorem Fw{t ds}:mP t (.tup ds) M Q=Q (.bl (match t with|.tuple=>true|_=>false)) M:=rfl
@[simp ↓] theorem Fy{t ds}:mP t (.f_ ds) M Q=Q (.bl (match t with|.list=>true|_=>false)) M:=rfl
end
section
variable {W:WC}{tg:ITg}{cond:ITO}{D_:IE}{p:Addr}{Q:VK3}{Z:St3}{M:MH}{ys:List D}
@[simp ↓] theorem Fz{ds}:jL Q (.ref p) (put M p (.lst ds))=Q (.f_ ds) (L2.del (put M p (.lst ds)) p):=by
 simp only[jL,aa]
def Fm(M:MH):Prop:=∃n,∀p,n<=p->M p=none
theorem Fm.nil:Fm (λ_=>none):=⟨0,λ_ _=>rfl⟩
theorem sM{M:MH}(h:Fm M){p:Prop}:(∀a:Addr,M a=none->p)=p:=propext ⟨λf=>let ⟨n,k⟩:=h;f n (k n (Jn _)),λf _ _=>f⟩
theorem Fm.put{M:MH}(h:Fm M)(p:Addr)(o:DO):Fm (put M p o):=by
 obtain⟨n,h⟩:=h;refine⟨max n (p+1),λq hq=>?_⟩
 rw[ae (Nat.ne_of_gt (Nat.lt_of_succ_le (JF (Nat.le_max_right n (p+1)) hq)))];exact h q (JF (Nat.le_max_left _ _) hq)
theorem aF{M:MH}(hM:Fm M){P:Addr->Prop}{q:Prop}(h:∀p,M p=none->P p=q):(∀p,M p=none->P p)=q:=by
 rw[<-sM hM (p:=q)];exact forall_congr λp=>implies_congr_ctx rfl λhp=>h p hp
theorem Db{cs:List Int}(h1 : -(cs.length:Int)<=i)(h2:i<cs.length):∃x,atI (cs.map D.int) i=some (.int x):=by
 unfold atI ixN;rw[Jo];by_cases h:0<=i
 ·have hk:i.toNat<cs.length:=by omega
  rw[Jr h,Jr h2];exact⟨cs[i.toNat],by simp⟩
 ·have hk:(i+cs.length).toNat<cs.length:=by omega
  rw[Ji h,Jr h1];exact⟨cs[(i+cs.length).toNat],by simp⟩
theorem hV(h:atI ds i=some x):ao (.f_ ds) (.int i) M Q=Q x M:=by simp[ao,az,ak,h]
theorem cr(h:put M p o q=none):q≠p/\M q=none:=by
 unfold put at h;split at h
 ·cases h
 ·exact⟨by assumption,h⟩
theorem vT(hp:M p=none)(hq:q≠p):L2.del (put (put M p o) q u) p=put M q u:=by
 funext a;unfold L2.del put;by_cases e:a=p
 ·subst e;simp[Jv hq,hp]
 ·simp[e]
def Ext(M M':MH):Prop:=Fm M'/\∀a o,M a=some o->M' a=some o
theorem Ext.put{M:MH}(hM:Fm M){p:Addr}(h:M p=none)(o:DO):Ext M (put M p o):=⟨hM.put _ _,λa u e=>by rw[ae (λz=>by rw[z,h]at e;cases e)];exact e⟩
section
variable {W:WC}{Z:St3}{M:MH}{Q:VK3}{tg:ITg}{cond:ITO}{D_:IE}{p:Addr}{S:MH->Prop}
theorem qh{d:D}{r ys:List D}:o8 W tg cond D_ S p Q (d::r) ys Z M=(S M/\ys.length<sizeLine/\wpG tg d Z M λLh M2=>lG W cond Lh M2 (λb M3=>if b=true then wpE W D_ Lh M3 (λy M4=>M4 p=some (.lst ys)/\o8 W tg cond D_ S p Q r (ys++[y]) Lh (put M4 p (.lst (ys++[y])))) (λ_ _=>False) else o8 W tg cond D_ S p Q r ys Lh M3) (λ_ _=>False)):=rfl
theorem iP{α:Type}(φ:α->D)(P:St3->Prop)(st:α->St3)(c:α->Bool)(f:α->D):∀(ds:List α)(ys:List D)(Z:St3) {M:MH},P Z->Fm M->M p=none->ys.length+ds.length<sizeLine->(∀M',Ext M M'->S M')->
  (∀d∈ds,P (st d)/\∀Z,P Z->∀(M:MH)(k:St3->MH->Prop),wpG tg (φ d) Z M k=k (st d) M)->
  (∀d∈ds,∀M',Ext M M'->∀Q:Bool->MH->Prop,lG W cond (st d) M' Q (λ_ _=>False)=Q (c d) M')->
  (∀d∈ds,c d=true->∀M',Ext M M'->∀Q,wpE W D_ (st d) M' Q (λ_ _=>False)=Q (f d) M')->
  o8 W tg cond D_ S p Q (ds.map φ) ys Z (put M p (.lst ys))=Q (.ref p) (put M p (.lst (ys++(ds.filter c).map f)))
 |[],ys,Z,M,h0,hM,hp,hl,hS,hg,hc,he=>by
  show (S (put M p (.lst ys))/\Q (.ref p) (put M p (.lst ys)))=_;simp[hS _ (.put hM hp _)]
 |d::ds,ys,Z,M,h0,hM,hp,hl,hS,hg,hc,he=>by
  have NH:ys.length+(ds.length+1)<sizeLine:=hl;obtain⟨g1,g2⟩:=hg d Jk;have ih:=λys hy=>iP φ P st c f ds ys (st d) g1 hM hp hy hS (λe h=>hg e (Jg _ h)) (λe h=>hc e (Jg _ h)) (λe h=>he e (Jg _ h))
  rw[Jm,qh,g2 Z h0,hc d Jk _ (.put hM hp _),eq_true (hS _ (.put hM hp _)),true_and];cases q:c d with
  |true=>
   rw[Jr rfl,he d Jk q _ (.put hM hp _),aa,aL,ih _ (by rw[JK,List.length_singleton];omega)]
   simp only[List.filter_cons,q,if_true,Jm,List.append_assoc,List.singleton_append,true_and];rw[eq_true (show ys.length<sizeLine by omega),true_and]
  |false=>
   rw[Ji JN,ih _ (by omega)]
   simp only[List.filter_cons,q,JW,if_false];rw[eq_true (show ys.length<sizeLine by omega),true_and]
theorem bO{α:Type}{ds:List α}(φ:α->D)(P:St3->Prop)(st:α->St3)(c:α->Bool)(f:α->D)(h0:P Z)(hM:Fm M)(hl:ds.length<10000)
  (hg:∀d∈ds,P (st d)/\∀Z,P Z->∀(M:MH)(k:St3->MH->Prop),wpG tg (φ d) Z M k=k (st d) M)
  (hc:∀d∈ds,∀M',Ext M M'->∀Q:Bool->MH->Prop,lG W cond (st d) M' Q (λ_ _=>False)=Q (c d) M')
  (he:∀d∈ds,c d=true->∀M',Ext M M'->∀Q,wpE W D_ (st d) M' Q (λ_ _=>False)=Q (f d) M') (hS:∀M',Ext M M'->S M':=by exact λ_ _=>trivial) :
  jK W tg cond D_ S Q (ds.map φ) Z M=Q (.f_ ((ds.filter c).map f)) M:=
 aF hM λp hp=>(iP φ P st c f ds [] Z h0 hM hp (by rw[List.length_nil,Nat.zero_add];exact Nat.lt_trans hl (by decide)) hS hg hc he).trans (by simp[aa,ft hp])
theorem gZ{α:Type}{aT:St3}{x:Option D}{ds:List α}(φ:α->D)(c:α->Bool)(f:α->D)(hM:Fm M)(hl:ds.length<10000)
  (hc:∀d∈ds,∀M',Ext M M'->∀Q:Bool->MH->Prop,lG W cond (some (φ d)::aT) M' Q (λ_ _=>False)=Q (c d) M')
  (he:∀d∈ds,c d=true->∀M',Ext M M'->∀Q,wpE W D_ (some (φ d)::aT) M' Q (λ_ _=>False)=Q (f d) M') (hS:∀M',Ext M M'->S M':=by exact λ_ _=>trivial) :
  jK W (.name 0) cond D_ S Q (ds.map φ) (x::aT) M=Q (.f_ ((ds.filter c).map f)) M:=
 bO φ (λZ=>∃y,Z=y::aT) (λd=>some (φ d)::aT) c f ⟨x,rfl⟩ hM hl (λd _=>⟨⟨_,rfl⟩,λZ ⟨y,e⟩ M k=>by subst e;rfl⟩) hc he hS
end
theorem xU(P:St3->Prop)(h0:P Z)(step:∀d∈ds,∀Z,P Z->∀k:St3->MH->Prop,(∀l_,P l_->k l_ M)->wpG tg d Z M λLh M2=>aW W body {De with nx:=k,ct:=k,bk:=De.nx} ES Lh M2)(done:∀Z,P Z->De.nx Z M) :
  aV W tg body ES (λ_=>True) De ds Z M:=by
 induction ds generalizing Z with
 |nil=>rw[aQ];exact⟨trivial,done Z h0⟩
 |cons d ds ih=>
  exact⟨trivial,step d Jk Z h0 _ λl_ p=>ih p λe he=>step e (Jg _ he)⟩
theorem uj(g:α->D)(f:α->Bool)(xs:List α)(h:∀x∈xs,g x=.bl (f x)):fk (xs.map g)=some (xs.map f):=by
 induction xs with
 |nil=>rfl
 |cons a r ih=>
  rw[Jm,h a Jk];simp only[fk];rw[ih λx hx=>h x (Jg _ hx)]
  rfl
theorem rD(f:α->Bool){xs:List α}(h:∀x∈xs,g x=.bl (f x)):rBi .all [.f_ (xs.map g)] M Q=Q (.bl (xs.all f)) M:=by
 simp only[rBi,ak,uj g f xs h];simp[Function.comp_def]
end
end L2
namespace L2
open PySem PySem.NumText PyProof.Rows StrLaws
end L2
namespace HD
open PySem PySem.W PyProof.Rows L2
noncomputable def pw:Program:=PySem.Challenge.pw_driftmeet_k45_surely_before
noncomputable def top(i:Nat):Stmt:=PySem.Challenge.pw_driftmeet_k45_surely_before.main.body.getD i (.Pass ⟨0,0,0,0⟩)
noncomputable abbrev R(a:Nat):Value:=.ref a
noncomputable abbrev I(i:Nat):Value:=.int i 0
noncomputable abbrev e(P:Params)(s:String)(t:Nat)(v:Value):DictEntry:=⟨PyData.keyHash P s,.str s t,v⟩
noncomputable abbrev co(n:String)(a:Nat)(m:String)(b c d e g h i j:Nat)(k:Bool)(l o q r s:Nat):Data:=.fields #[.str n a,.str m b,.str "/claim/cut.py" c,I d,I e,I g,I h,I i,R j,.bool k,I l,R o,.none,.none,.none,.none,I q,I r,.str "/claim/cut.py" s]
noncomputable abbrev cp(n:String)(a:Nat)(m:String)(b c d e g h i j:Nat)(k:Bool)(l o x y z q r s:Nat):Data:=.fields #[.str n a,.str m b,.str "/claim/cut.py" c,I d,I e,I g,I h,I i,R j,.bool k,I l,R o,.none,R x,R y,R z,I q,I r,.str "/claim/cut.py" s]
noncomputable abbrev v0:Value:=.type "dict"
noncomputable abbrev v1:Value:=.type "object"
noncomputable abbrev v2:Value:=.str "driftmeet.errors" 187
noncomputable abbrev v3:Value:=.type "type"
noncomputable abbrev v4:Value:=.builtin "object.__new__"
noncomputable abbrev v5:Value:=.str "driftmeet.nets" 667
noncomputable abbrev v6:Value:=.type "ValueError"
noncomputable abbrev v7:Value:=.str "driftmeet.happenings" 321
noncomputable abbrev v8:Value:=.builtin "ValueError.__new__"
noncomputable abbrev F:=Params->Obj
noncomputable abbrev fo(n q:String)(s:Stmt)(m:String)(t c:Nat):F:=λ_=>⟨.type "function",none,.func (fnOf n q (d8 s) (cZ s) (bg s) .none .none .none (.str m t) none (.ref c) .none),#[]⟩
noncomputable abbrev fp(n q:String)(s:Stmt):F:=λ_=>⟨.none,none,.func {fnOf n q (d8 s) (cZ s) (bg s) .none .none .none .none none .none .none with globals:=0,builtins:=0},#[]⟩
noncomputable abbrev vf(l:Array Value):F:=λ_=>⟨.none,none,.fields l,#[]⟩
noncomputable abbrev tu(l:Array Value):F:=λ_=>⟨.type "tuple",none,.seq l 0,#[]⟩
noncomputable abbrev cd(d:Data):F:=λ_=>⟨.type "code",none,d,#[]⟩
noncomputable abbrev bf(a:String)(b:Nat):F:=λ_=>⟨.type "builtin_function_or_method",none,.fields #[.builtin a,.ref b],#[]⟩
noncomputable abbrev n(o:F)(x y:Params->W.BT):Params->W.BT:=λP=>.node (o P) (x P) (y P)
noncomputable abbrev z:Params->W.BT:=λ_=>.nil
noncomputable abbrev l(o:F):Params->W.BT:=λP=>.node (o P) .nil .nil
noncomputable abbrev x0(a:String)(b:Nat)(c:String)(d:Nat)(f:Nat)(g:Nat)(h:Nat):F:=cd (cp a b c (b+1) (b+2) d f 0 0 3 g true 181 (g+1) (g+2) (g+3) (g+4) h d (h+1))
noncomputable abbrev x1(a:String)(b:Nat):F:=fp a a (top b)
noncomputable abbrev x2(a:String)(b:Nat)(c:String)(d:Nat)(f:Nat):F:=fo a a (top b) c d f
noncomputable abbrev x3(a:String)(b:String)(c:Nat)(d:Nat):F:=fp a b (am (top c) d)
noncomputable abbrev x4(a:String)(b:String)(c:Nat)(d:Nat)(f:String)(g:Nat)(h:Nat):F:=fo a b (am (top c) d) f g h
noncomputable abbrev x6(a:String)(b:Nat)(c:Nat)(d:Nat):F:=cd (co a b a (b+1) (b+2) c 0 0 0 0 d false 181 (d+1) (b+3) c (b+4))
noncomputable abbrev x7(a:Nat)(b:Nat)(c:String)(d:Nat):F:=λ_=>⟨(.type "frame"),none,.plain,#[some (R a),some (R 3),some (R b),none,some (.str c d),none,some (R 0)]⟩
noncomputable abbrev x8(a:String)(b:Nat):F:=tu #[(.str a b)]
noncomputable abbrev x9(a:Nat):F:=λ_=>⟨(.type "super"),none,(.fields #[(R a),(R a),(R a)]),#[]⟩
noncomputable abbrev x10(a:Nat):F:=bf "object.__init_subclass__" a
noncomputable abbrev x11(a:String)(b:Nat)(c:String):F:=tu #[(.str a b),(.str c (b+1))]
noncomputable abbrev x12(a:String)(b:Nat)(c:String)(d:String)(f:String)(g:String):F:=tu #[(.str a b),(.str c (b+1)),(.str d (b+2)),(.str f (b+3)),(.str g (b+4))]
noncomputable abbrev x14(a:String)(b:Nat)(c:Nat)(d:Nat)(f:Nat):F:=cd (.fields #[(.str a b),(.str a (b+1)),(.str "/claim/cut.py" (b+2)),(I c),(I d),(I 0),(I 0),(I 3),(R f),(.bool true),(I 181),(R (f+1)),.none,.none,.none,(R (f+2)),(I (b+3)),(I c),(.str "/claim/cut.py" (b+4))])
noncomputable abbrev x15(a:Nat)(b:String)(c:Nat)(d:Nat):F:=λP=>⟨v0,none,(.dict #[e P "__module__" a v2,e P "__qualname__" (a+2) (.str b (a+1)),e P "__firstlineno__" (a+4) (.int c (a+3)),e P "__static_attributes__" (a+5) (R d)] 4),#[]⟩
noncomputable abbrev x16(a:String)(b:Nat)(c:Nat)(d:Nat):F:=λ_=>⟨v3,none,(.cls ⟨a,[(R 24)],[(R b),(R 24),v6,(.type "Exception"),(.type "BaseException"),v1],(b-1),a,true,[],[],false,none,false⟩),#[some (R c),none,some (.str a d),some (.str a (d+8)),some v8,some (.bool true)]⟩
noncomputable abbrev x17(a:Nat)(b:Nat)(c:Nat):F:=λP=>⟨v0,none,(.dict #[e P "__module__" a v2,e P "__firstlineno__" (a+4) (.int b (a+3)),e P "__static_attributes__" (a+5) (R c),e P "__doc__" (a+6) .none] 2),#[]⟩
noncomputable abbrev x18(a:Nat)(b:Nat)(c:Nat)(d:Nat)(f:String)(g:Nat)(h:Nat)(i:String)(j:Nat)(k:Nat)(m:String)(o:Nat)(p:Nat):F:=λP=>⟨v0,none,(.dict #[e P "__module__" a v7,e P "__firstlineno__" (a+4) (.int b (a+3)),e P "__init__" c (R d),e P f g (R h),e P i j (R k),e P m o (R (k+1)),e P "__doc__" (o+1) .none] p),#[]⟩
noncomputable abbrev x19(a:Nat)(b:Nat):F:=λ_=>⟨(.type "getset_descriptor"),none,(.fields #[(.str "__weakref__" a),(R b),(.builtin "ExceptionGroup.__weakref__"),.none]),#[]⟩
noncomputable abbrev x20(a:Nat)(b:String)(c:Nat)(d:Nat)(f:Nat)(g:Nat)(h:Nat):F:=λP=>⟨v0,none,(.dict #[e P "__module__" a v7,e P "__qualname__" (a+2) (.str b (a+1)),e P "__firstlineno__" (a+4) (.int c (a+3)),e P "__init__" d (R f),e P "row" (d+7) (R (f+7)),e P "own_bounds" g (R (f+14)),e P "__static_attributes__" h (R (f+15))] 7),#[]⟩
noncomputable abbrev x21(a:Nat)(b:Nat)(c:Nat):F:=vf #[(I a),(I 4),(R b),(I c),(I 4),(R (b+7)),(I (c+3)),(I 4),(R (b+14))]
noncomputable abbrev x22(a:String)(b:Nat)(c:Nat):F:=λ_=>⟨v3,none,(.cls ⟨a,[(R 131)],[(R b),(R 131),v1],(b-1),a,true,[],[],false,none,false⟩),#[some (R (b-30)),none,some (.str a c),some (.str a (c+8)),some v4,some (.bool true)]⟩
noncomputable abbrev x23(a:Nat)(b:Nat):F:=λ_=>⟨(.type "getset_descriptor"),none,(.fields #[(.str "__dict__" a),(R b),(.builtin "function.__dict__"),(.builtin "function.__dict__#set")]),#[]⟩
noncomputable abbrev x24(a:String)(b:Nat)(c:String)(d:String)(f:String)(g:String)(h:String)(i:String)(j:String)(k:String)(m:String):F:=tu #[(.str a b),(.str c (b+1)),(.str d (b+2)),(.str f (b+3)),(.str g (b+4)),(.str h (b+5)),(.str i (b+6)),(.str j (b+7)),(.str k (b+8)),(.str m (b+9))]
noncomputable abbrev x25(a:Nat)(b:Nat)(c:String)(d:Nat)(f:Nat)(g:String)(h:Nat)(i:Nat):F:=λP=>⟨v0,none,(.dict #[e P "__module__" a v2,e P "__firstlineno__" (a+4) (.int b (a+3)),e P c d (R f),e P g (d+2) (R h),e P "__doc__" (d+3) .none] i),#[]⟩
noncomputable abbrev x26(a:Nat)(b:String)(c:Nat)(d:String)(f:Nat)(g:Nat)(h:Nat)(i:Nat):F:=λP=>⟨v0,none,(.dict #[e P "__module__" a (.str b c),e P "__qualname__" (a+2) (.str d (a+1)),e P "__firstlineno__" (a+4) (.int f (a+3)),e P "__init__" g (R h),e P "__static_attributes__" i (R (h+1))] 5),#[]⟩
noncomputable abbrev x27(a:String)(b:Nat)(c:Nat):F:=λ_=>⟨v3,none,(.cls ⟨a,[v1],[(R b),v1],(b-1),a,true,[],[],false,none,false⟩),#[none,none,some (.str a c),some (.str a (c+8)),some v4,some (.bool true)]⟩
noncomputable def o0:F:=tu #[]
noncomputable def o1:F:=vf #[]
noncomputable def o2:F:=x6 "<module>" 182 1 11
noncomputable def o3:F:=x7 13 3 "__main__" 164
noncomputable def o7:F:=λ_=>⟨(.type "builtin_function_or_method"),none,(.fields #[(.builtin "type.__prepare__"),v3]),#[]⟩
noncomputable def o16:F:=tu #[(R 24)]
noncomputable def o85:F:=tu #[(R 131)]
noncomputable def env:Env:={scope:=pw.main.scope,locals:=mainNs,globals:=mainNs,cells:=[],code:=(R 13),frame:=some 14}
noncomputable def bE:List Stmt:=behindTheImports pw
noncomputable def b(i:Nat):Stmt:=bE.getD i (.Pass ⟨0,0,0,0⟩)
noncomputable def cE:Code:=.body bE env
noncomputable def qF:List Frame:=[topFrame ⟨0,0,0,0⟩]
noncomputable def an:Option Value:=(some (R 6))
noncomputable def hA(P:Params):Heap:=⟨⟨[boot_o_0 P,boot_o_1 P,boot_o_2 P,boot_o_3 P,boot_o_4 P,boot_o_5 P,boot_o_6 P,boot_o_7 P,boot_o_8 P,boot_o_9 P,boot_o_10 P,o0 P,o1 P,o2 P,o3 P]⟩,{}⟩
noncomputable def sA(w:World)(os:OsState):Shared:=⟨hA w.params,⟨[]⟩,{},187,os⟩
noncomputable def t0:Params->W.BT:=(n boot_o_0 (n boot_o_1 (n boot_o_3 (l boot_o_7) (l o0)) (n boot_o_5 (l boot_o_9) (l o2))) (n boot_o_2 (n boot_o_4 (l boot_o_8) (l o1)) (n boot_o_6 (l boot_o_10) (l o3))))
noncomputable def s0(w:World)(os:OsState):SharedT:=⟨t0 w.params,15,{},⟨[]⟩,{},187,os⟩
noncomputable abbrev nN:List (List String):=[["self","ring"],["thing"],["self","hand","reading"],["self"],["self","world","name"],["self","hand","reading","early","late"],["self","hand","reading","to"],["self","hand","reading","letter"],["self","world","name","way","told"],["row","word"],["counts","hand","ahead"],["log","counts","told","row"],["clock","last","here","ticks"],["world","log","told","readings","here","row","one","last"],["edges","x"],["row","x","sums","back","fallen","y","most","total"],["edges","sums","back","fallen","again","x","y"],["back","y","way"],["edges","x","sums"],["edges","x","y","sums","back"],["self","x","y","most","back"],["self","x"],["self","x","y","most"],["self","x","most"],["self","x","y"],["self","told","x","row"],["self","sums","x"],["world","log","net","name","x","y","most"],["world","log","some","there","name"],["world","log","x","y","net","back"],["world","log","x","y","early"],["short","long"],["least","most"],["self","clocks","ways","short","long","one","other","least","most"],["self","one","other","least","most"],["self","hand"],["self","one","other"],["_law_script","_law_k"],["_law_cell","_law_many","_law_found","_law_number","_law_k"],["_law_xs","_law_size","_law_least"],["_law_cell","_law_xs","_law_hands","_law_size","_law_clocks","_law_ways","_law_one","_law_short","_law_other","_law_ys"],["_law_clock","_law_here","_law_xs","_law_low","_law_high","_law_ticks","_law_first","_law_last"],["_law_here","_law_row_here","_law_moment","_law_way_here"],["_law_world_here","_law_row_here","_law_here","_law_least","_law_most"],["_law_world_here","_law_log","_law_found","_law_seen","_law_row_here","_law_known","_law_here","_law_last","_law_short","_law_long"],["_law_log","_law_many","_law_found","_law_row_here"],["_law_found"],["_law_log","_law_some","_law_xs","_law_k","_law_row_here"],["_law_world_here","_law_made_here","_law_log","_law_moments","_law_pair_here","_law_x","_law_y","_law_found","_law_times","_law_told","_law_here","_law_moment"]]
noncomputable abbrev N(i:Nat):List String:=nN.getD i []
noncomputable abbrev mM:List (String×Nat):=[("driftmeet.errors",187),("driftmeet.wholes",312),("driftmeet.happenings",321),("driftmeet.logs",553),("driftmeet.bounds",574),("driftmeet.roads",600),("driftmeet.nets",667),("driftmeet.histories",811),("driftmeet.known",832),("driftmeet.worlds",880),("law_driftmeet_k45_surely_before",1006)]
noncomputable abbrev M(i:Nat):String×Nat:=mM.getD i ("",0)
noncomputable abbrev st:List String->Nat->List Value
 |[],_=>[]
 |s::r,t=>.str s t::st r (t+1)
noncomputable abbrev yf(n:String)(i t l k a v:Nat)(m:String×Nat):List F:=[o0,o1,tu (st (N v) (t+3)).toArray,o0,x1 n i,x0 n t n l k a (t+3+(N v).length),x2 n i m.1 m.2 (a+5)]
noncomputable abbrev yg(n q:String)(i j t l k a v:Nat)(m:String×Nat):List F:=[o0,o1,tu (st (N v) (t+3)).toArray,o0,x3 n q i j,x0 n t q l k a (t+3+(N v).length),x4 n q i j m.1 m.2 (a+5)]
noncomputable abbrev w4(k:Nat):List Nat->List Value
 |a::b::r=>I a::I k::R b::w4 k r
 |_=>[]
noncomputable abbrev w3(k:Nat)(l:List Nat):F:=vf (w4 k l).toArray
noncomputable abbrev y0(a:Nat)(b:String)(c:Nat)(d:Nat):List F:=[x15 a b c d,o0,o1,x6 b (a-5) c (d-4),x7 (d-2) (d-5) "driftmeet.errors" 187,o0,x17 a c d,x16 b (d+2) (d-7) (a-7),x9 (d+2)]
noncomputable abbrev y1(a:String)(b:Nat)(c:Nat)(d:Nat)(f:Nat)(g:Nat)(h:String)(i:Nat):List F:=[o0,o1,x1 a b,x14 a c d f g,x2 a b h i (g+3)]
noncomputable abbrev y2(a:Nat)(b:Nat)(c:String)(d:Nat)(f:Nat)(g:Nat)(h:Nat)(i:Nat)(j:Nat):List F:=[x9 a,x10 a,o85,o7,x20 b c d f g h i,o0,x21 (d+2) (g-1) j,x6 c (b-5) d (g-10),x7 (g-8) (g-11) "driftmeet.happenings" 321]
noncomputable abbrev y3(a:Nat)(b:Nat)(c:Nat)(d:Nat)(f:Nat)(g:Nat)(h:String):List F:=[x18 a b c d "row" (c+7) (d+7) "own_bounds" f (d+14) "__static_attributes__" g 2,x22 h (d+17) (a-7)]
noncomputable def ev:List F->List F×List F
 |[]=>([],[])
 |o::r=>(o::(ev r).2,(ev r).1)
noncomputable def bl(P:Params):Nat->List F->W.BT
 |0,_=>.nil
 |_,[]=>.nil
 |k+1,o::r=>.node (o P) (bl P k (ev r).1) (bl P k (ev r).2)
noncomputable def t1(P:Params):W.BT:=bl P 11 (List.flatten [[boot_o_0,boot_o_1,boot_o_2,λP=>⟨v0,none,(.dict #[e P "__name__" 165 (.str "law_driftmeet_k45_surely_before" 1006),e P "__doc__" 166 .none,e P "__package__" 167 .none,e P "__loader__" 168 (.builtin "__main__.__loader__#opaque"),e P "__spec__" 169 .none,e P "__annotations__" 170 (R 6),e P "__builtins__" 171 (R 4),e P "__file__" 173 (.str "/claim/cut.py" 172),e P "__cached__" 174 .none,e P "DriftError" 206 (R 24),e P "NoHand" 222 (R 37),e P "NoClock" 238 (R 49),e P "NoWay" 254 (R 61),e P "NoHappening" 270 (R 73),e P "NoName" 286 (R 85),e P "Ring" 311 (R 104),e P "is_whole" 320 (R 113),e P "NOUGHT" 326 (R 114),e P "Happening" 357 (R 131),e P "Look" 398 (R 166),e P "Sight" 443 (R 199),e P "Send" 486 (R 232),e P "Take" 531 (R 265),e P "are_wholes" 537 (R 272),e P "is_letter" 544 (R 279),e P "happening" 552 (R 286),e P "count_on" 563 (R 293),e P "names" 573 (R 300),e P "clock_bounds" 585 (R 307),e P "bounds" 599 (R 314),e P "refuse_unknown" 609 (R 321),e P "go_on" 623 (R 328),e P "settle" 636 (R 335),e P "way_by" 645 (R 342),e P "spans" 654 (R 349),e P "road" 665 (R 356),e P "road_roads" 666 (R 356),e P "needed_lifts" 674 (R 361),e P "Net" 810 (R 456),e P "net_of" 825 (R 467),e P "as_history" 831 (R 472),e P "net_for" 844 (R 479),e P "between" 856 (R 486),e P "latest" 868 (R 494),e P "surely" 879 (R 501),e P "MOST_HANDS" 883 (.int 6 882),e P "refuse_clock" 891 (R 508),e P "refuse_lengths" 899 (R 515),e P "World" 1005 (R 588),e P "_law_cell_at" 1015 (R 599),e P "_law_stream" 1026 (R 606),e P "_law_way" 1035 (R 613),e P "_law_world" 1051 (R 620),e P "_law_made" 1057 (R 625),e P "_law_lag" 1071 (R 632),e P "_law_row" 1077 (R 637),e P "_law_sent" 1087 (R 644),e P "_law_tale" 1093 (R 649),e P "_law_own" 1104 (R 656),e P "_law_due" 1120 (R 663),e P "_law_names" 1130 (R 670),e P "_law_whole" 1137 (R 677),e P "_law_name" 1144 (R 684),e P "_law_fits" 1150 (R 689),e P "_law_pair" 1161 (R 696),e P "_law_right" 1179 (R 703),e P "law" 1185 (R 708)] 67),#[]⟩,boot_o_4,boot_o_5,boot_o_6,boot_o_7,boot_o_8,boot_o_9,boot_o_10,o0,w3 0 [2,20,4,33,6,45,8,57,10,69,12,81,14,93,20,112,24,120,29,141,39,174,51,207,62,240,77,271,79,278,81,285,95,292,99,299,106,306,108,313,120,320,123,327,132,334,140,341,145,348,150,355,159,360,165,367,236,466,244,471,247,478,253,485,257,493,259,500,264,507,269,514,274,521,322,598,326,605,333,612,338,619,352,624,354,631,365,636,374,643,378,648,411,655,420,662,434,669,441,676,443,683,447,688,456,695,463,702,477,707],o2,o3,tu #[v6],o7,x15 196 "DriftError" 2 22,o0,o1,x6 "DriftError" 191 2 18,x7 20 17 "driftmeet.errors" 187,o0,x25 196 2 "__static_attributes__" 201 22 "__weakref__" 25 3,λ_=>⟨v3,none,(.cls ⟨"DriftError",[v6],[(R 24),v6,(.type "Exception"),(.type "BaseException"),v1],23,"DriftError",true,[],[(R 37),(R 49),(R 61),(R 73),(R 85),(R 104)],false,none,false⟩),#[some (R 15),none,some (.str "DriftError" 189),some (.str "DriftError" 197),some v8,some (.bool true)]⟩,x19 202 24,x9 24,x10 24,o16,o7],y0 214 "NoHand" 4 35,[x10 37,o16,o7],y0 230 "NoClock" 6 47,[x10 49,o16,o7],y0 246 "NoWay" 8 59,[x10 61,o16,o7],y0 262 "NoHappening" 10 71,[x10 73,o16,o7],y0 278 "NoName" 12 83,[x10 85,o16,o7,x26 294 "driftmeet.errors" 187 "Ring" 14 306 101 308,o0,vf #[(I 16),(I 4),(R 100)],x6 "Ring" 289 14 91,x7 93 90 "driftmeet.errors" 187],yg "__init__" "Ring.__init__" 7 0 299 16 2 95 0 (M 0),[x8 "ring" 307,x25 294 14 "__init__" 306 101 "__static_attributes__" 102 2,x16 "Ring" 104 88 287,x9 104,x10 104],yf "is_whole" 9 314 20 1 107 1 (M 1),[tu #[(.int (-1) 324),(.int 0 325)],o0,o7,x26 334 "driftmeet.happenings" 321 "Happening" 24 347 128 350,o0,vf #[(I 26),(I 4),(R 127)],x6 "Happening" 329 24 118,x7 120 117 "driftmeet.happenings" 321],yg "__init__" "Happening.__init__" 12 0 339 26 3 122 2 (M 2),[x11 "hand" 348 "reading",x18 334 24 347 128 "__static_attributes__" 350 129 "__dict__" 352 132 "__weakref__" 354 4,λ_=>⟨v3,none,(.cls ⟨"Happening",[v1],[(R 131),v1],130,"Happening",true,[],[(R 166),(R 199),(R 232),(R 265)],false,none,false⟩),#[none,none,some (.str "Happening" 327),some (.str "Happening" 335),some v4,some (.bool true)]⟩,x23 351 131,x19 353 131],y2 131 365 "Look" 29 378 149 394 395 34,yg "__init__" "Look.__init__" 13 0 370 31 3 143 2 (M 2),yg "row" "Look.row" 13 1 379 34 1 150 3 (M 2),yg "own_bounds" "Look.own_bounds" 13 2 386 37 3 157 4 (M 2),[o0],y3 365 29 378 149 394 395 "Look",y2 166 406 "Sight" 39 421 182 437 440 46,yg "__init__" "Sight.__init__" 14 0 411 41 5 176 5 (M 2),yg "row" "Sight.row" 14 1 422 46 1 183 3 (M 2),yg "own_bounds" "Sight.own_bounds" 14 2 429 49 3 190 4 (M 2),[x11 "early" 438 "late"],y3 406 39 421 182 437 440 "Sight",y2 199 451 "Send" 51 465 215 481 483 57,yg "__init__" "Send.__init__" 15 0 456 53 4 209 6 (M 2),yg "row" "Send.row" 15 1 466 57 1 216 3 (M 2),yg "own_bounds" "Send.own_bounds" 15 2 473 60 3 223 4 (M 2),[x8 "to" 482],y3 451 51 465 215 481 483 "Send",y2 232 494 "Take" 62 508 248 526 528 68,yg "__init__" "Take.__init__" 16 0 499 64 4 242 7 (M 2),yg "row" "Take.row" 16 1 509 68 1 249 3 (M 2),yg "own_bounds" "Take.own_bounds" 16 2 516 71 3 256 8 (M 2),[x8 "letter" 527],y3 494 62 508 248 526 528 "Take",[x9 265,x10 265],y1 "are_wholes" 17 532 77 2 268 "driftmeet.happenings" 321,yf "is_letter" 18 538 79 1 273 1 (M 2),yf "happening" 19 545 81 1 280 9 (M 2),yf "count_on" 21 555 95 2 287 10 (M 3),yf "names" 22 564 99 1 294 11 (M 3),yf "clock_bounds" 24 576 106 4 301 12 (M 4),yf "bounds" 25 586 108 2 308 13 (M 4),yf "refuse_unknown" 27 602 120 2 315 14 (M 5),yf "go_on" 28 610 123 4 322 15 (M 5),yf "settle" 29 624 132 3 329 16 (M 5),yf "way_by" 30 637 140 2 336 17 (M 5),yf "spans" 31 646 145 2 343 18 (M 5),yf "road" 32 655 150 3 350 19 (M 5),y1 "needed_lifts" 35 669 159 3 357 "driftmeet.nets" 667,[o0,o7,λP=>⟨v0,none,(.dict #[e P "__module__" 682 v5,e P "__qualname__" 684 (.str "Net" 683),e P "__firstlineno__" 686 (.int 165 685),e P "__init__" 693 (R 375),e P "refuse_ring" 704 (R 382),e P "name" 712 (R 389),e P "put" 722 (R 396),e P "put_round" 731 (R 403),e P "names" 738 (R 410),e P "bound" 747 (R 417),e P "edges" 757 (R 424),e P "times" 766 (R 431),e P "most" 775 (R 438),e P "road" 784 (R 445),e P "latest" 801 (R 453),e P "__static_attributes__" 803 (R 454)] 16),#[]⟩,o0,w3 4 [167,374,170,381,177,388,181,395,190,402,195,409,198,416,203,423,209,430,216,437,220,444,223,452],x6 "Net" 677 165 365,x7 367 364 "driftmeet.nets" 667],yg "__init__" "Net.__init__" 36 0 687 167 1 369 3 (M 6),yg "refuse_ring" "Net.refuse_ring" 36 1 694 170 4 376 20 (M 6),yg "name" "Net.name" 36 2 705 177 2 383 21 (M 6),yg "put" "Net.put" 36 3 713 181 4 390 22 (M 6),yg "put_round" "Net.put_round" 36 4 723 190 3 397 23 (M 6),yg "names" "Net.names" 36 5 732 195 1 404 3 (M 6),yg "bound" "Net.bound" 36 6 739 198 3 411 24 (M 6),yg "edges" "Net.edges" 36 7 748 203 1 418 25 (M 6),yg "times" "Net.times" 36 8 758 209 1 425 26 (M 6),yg "most" "Net.most" 36 9 767 216 3 432 24 (M 6),yg "road" "Net.road" 36 10 776 220 3 439 24 (M 6),[tu #[(.int 0 785)],o0,o1,x24 "self" 789 "x" "y" "far" "reached" "free" "lifts" "lift" "told" "name",o0,x3 "latest" "Net.latest" 36 11,x0 "latest" 786 "Net.latest" 223 4 447 799,λ_=>⟨(.type "function"),none,(.func (fnOf "latest" "Net.latest" (d8 (am (top 36) 11)) (cZ (am (top 36) 11)) (bg (am (top 36) 11)) (R 446) .none .none v5 none (R 452) .none)),#[]⟩,x8 "kept" 802,λP=>⟨v0,none,(.dict #[e P "__module__" 682 v5,e P "__firstlineno__" 686 (.int 165 685),e P "__init__" 693 (R 375),e P "refuse_ring" 704 (R 382),e P "name" 712 (R 389),e P "put" 722 (R 396),e P "put_round" 731 (R 403),e P "names" 738 (R 410),e P "bound" 747 (R 417),e P "edges" 757 (R 424),e P "times" 766 (R 431),e P "most" 775 (R 438),e P "road" 784 (R 445),e P "latest" 801 (R 453),e P "__static_attributes__" 803 (R 454),e P "__dict__" 805 (R 457),e P "__weakref__" 807 (R 458),e P "__doc__" 808 .none] 4),#[]⟩,x27 "Net" 456 675,x23 804 456,x19 806 456,x9 456,x10 456],yf "net_of" 38 813 236 2 461 27 (M 7),y1 "as_history" 39 826 244 2 468 "driftmeet.histories" 811,yf "net_for" 41 834 247 3 473 28 (M 8),yf "between" 42 845 253 4 480 29 (M 8),[tu #[(.int 0 857)],o0,o1,x12 "world" 861 "log" "x" "y" "far",o0,x1 "latest" 43,x0 "latest" 858 "latest" 257 5 488 866,λ_=>⟨(.type "function"),none,(.func (fnOf "latest" "latest" (d8 (top 43)) (cZ (top 43)) (bg (top 43)) (R 487) .none .none (.str "driftmeet.known" 832) none (R 493) .none)),#[]⟩],yf "surely" 44 869 259 4 495 30 (M 8),yf "refuse_clock" 47 884 264 2 502 31 (M 9),yf "refuse_lengths" 48 892 269 2 509 32 (M 9),[o0,o7,λP=>⟨v0,none,(.dict #[e P "__module__" 907 (.str "driftmeet.worlds" 880),e P "__qualname__" 909 (.str "World" 908),e P "__firstlineno__" 911 (.int 274 910),e P "__init__" 926 (R 529),e P "enter_way" 937 (R 536),e P "refuse_hand" 945 (R 543),e P "refuse_pair" 954 (R 550),e P "hands" 961 (R 557),e P "has_hand" 969 (R 564),e P "has_way" 978 (R 571),e P "clock" 986 (R 578),e P "way" 995 (R 585),e P "__static_attributes__" 998 (R 586)] 13),#[]⟩,o0,w3 4 [276,528,286,535,293,542,297,549,303,556,306,563,309,570,312,577,316,584],x6 "World" 902 274 519,x7 521 518 "driftmeet.worlds" 880],yg "__init__" "World.__init__" 49 0 912 276 3 523 33 (M 9),yg "enter_way" "World.enter_way" 49 1 927 286 5 530 34 (M 9),yg "refuse_hand" "World.refuse_hand" 49 2 938 293 2 537 35 (M 9),yg "refuse_pair" "World.refuse_pair" 49 3 946 297 3 544 36 (M 9),yg "hands" "World.hands" 49 4 955 303 1 551 3 (M 9),yg "has_hand" "World.has_hand" 49 5 962 306 2 558 35 (M 9),yg "has_way" "World.has_way" 49 6 970 309 3 565 36 (M 9),yg "clock" "World.clock" 49 7 979 312 2 572 35 (M 9),yg "way" "World.way" 49 8 987 316 3 579 36 (M 9),[x11 "kept_clocks" 996 "kept_ways",λP=>⟨v0,none,(.dict #[e P "__module__" 907 (.str "driftmeet.worlds" 880),e P "__firstlineno__" 911 (.int 274 910),e P "__init__" 926 (R 529),e P "enter_way" 937 (R 536),e P "refuse_hand" 945 (R 543),e P "refuse_pair" 954 (R 550),e P "hands" 961 (R 557),e P "has_hand" 969 (R 564),e P "has_way" 978 (R 571),e P "clock" 986 (R 578),e P "way" 995 (R 585),e P "__static_attributes__" 998 (R 586),e P "__dict__" 1000 (R 589),e P "__weakref__" 1002 (R 590),e P "__doc__" 1003 .none] 4),#[]⟩,x27 "World" 588 900,x23 999 588,x19 1001 588,x9 588,x10 588],yf "_law_cell_at" 51 1008 322 2 593 37 (M 10),yf "_law_stream" 52 1016 326 2 600 38 (M 10),yf "_law_way" 53 1027 333 2 607 39 (M 10),yf "_law_world" 54 1036 338 1 614 40 (M 10),y1 "_law_made" 55 1052 352 1 621 "law_driftmeet_k45_surely_before" 1006,yf "_law_lag" 56 1058 354 5 626 41 (M 10),y1 "_law_row" 57 1072 365 5 633 "law_driftmeet_k45_surely_before" 1006,yf "_law_sent" 58 1078 374 4 638 42 (M 10),y1 "_law_tale" 59 1088 378 3 645 "law_driftmeet_k45_surely_before" 1006,yf "_law_own" 60 1094 411 3 650 43 (M 10),yf "_law_due" 61 1105 420 2 657 44 (M 10),yf "_law_names" 62 1121 434 1 664 45 (M 10),yf "_law_whole" 63 1131 441 1 671 46 (M 10),yf "_law_name" 64 1138 443 1 678 46 (M 10),y1 "_law_fits" 65 1145 447 3 685 "law_driftmeet_k45_surely_before" 1006,yf "_law_pair" 66 1151 456 3 690 47 (M 10),yf "_law_right" 67 1162 463 5 697 48 (M 10),y1 "law" 68 1180 477 1 704 "law_driftmeet_k45_surely_before" 1006])
noncomputable def s1(w:World)(os:OsState):SharedT:=⟨t1 w.params,709,{},⟨[]⟩,{},1186,os⟩
noncomputable def t2:Params->W.BT:=t1
noncomputable def s2(w:World)(os:OsState):SharedT:=⟨t2 w.params,709,{},⟨[]⟩,{},1186,os⟩
theorem pre:∀w:World,(λos=>topGo treeTable pw w 11 an 12 ⟨boot_heap w.params,⟨[]⟩,boot_drawn,boot_toks,os⟩ (topStub pw))=λos=>some (sA w os,⟨denote treeTable cE,cE,⟨0,0,0,0⟩,qF⟩):=λw=>by kernel_rfl
theorem blk:∀w:World,(λos=>segRun treeTable pw w 11 an 1 1 (sA w os) (blockOf bE env cE ⟨0,0,0,0⟩ qF))=λos=>some (.next,(s0 w os).abs,cE,⟨0,0,0,0⟩):=λw=>by kernel_rfl
noncomputable def g0:List Stmt:=[b 0,b 1,b 2,b 3,b 4,b 5,b 6,b 7,b 8,b 9,b 10,b 11,b 12,b 13,b 14,b 15,b 16,b 17,b 18,b 19,b 20,b 21,b 22,b 23,b 24,b 25,b 26,b 27,b 28,b 29,b 30,b 31,b 32,b 33,b 34,b 35,b 36,b 37,b 38,b 39,b 40,b 41,b 42,b 43,b 44,b 45,b 46,b 47,b 48,b 49,b 50,b 51,b 52,b 53,b 54,b 55,b 56,b 57,b 58,b 59,b 60,b 61,b 62,b 63,b 64,b 65,b 66,b 67,b 68]
theorem p0:∀w:World,(λos=>segRunT treeTable pw w 11 an 1 5474 (s0 w os) (piecesOf g0 env cE ⟨0,0,0,0⟩ qF))=λos=>some (.next,s1 w os,cE,⟨477,0,491,130⟩):=λw=>by kernel_rfl
theorem fin:∀w:World,(λos=>topRun treeTable pw w 11 an 2 (s1 w os).abs (restOf [] env cE ⟨477,0,491,130⟩ qF))=λos=>some (s2 w os).abs:=λw=>by kernel_rfl
theorem CK:bE=g0++([]):=by kernel_rfl
theorem G2(w:World)(os:OsState):topRun treeTable pw w 11 an (5474+(2)) (s0 w os).abs (restOf (g0++([])) env cE ⟨0,0,0,0⟩ qF)=some (s2 w os).abs:=piece_app (segRun_of (congrFun (p0 w) os)) (congrFun (fin w) os)
theorem run(w:World)(os:OsState):topRun treeTable pw w 11 an (12+(1+(5474+(2)))) ⟨boot_heap w.params,⟨[]⟩,boot_drawn,boot_toks,os⟩ (topStub pw)=some (s2 w os).abs:=go_top (congrFun (pre w) os) (piece_block (congrFun (blk w) os) (by rw[CK];exact G2 w os))
noncomputable def view:Program:={pw with main:={pw.main with body:=[top 68]}}
noncomputable def loose:List Str:=(["DriftError","NoHand","NoClock","NoWay","NoHappening","NoName","Ring","is_whole","NOUGHT","Happening","Look","Sight","Send","Take","are_wholes","is_letter","happening","count_on","names","clock_bounds","bounds","refuse_unknown","go_on","settle","way_by","spans","road","road_roads","needed_lifts","Net","net_of","as_history","net_for","between","latest","surely","MOST_HANDS","refuse_clock","refuse_lengths","World","_law_cell_at","_law_stream","_law_way","_law_world","_law_made","_law_lag","_law_row","_law_sent","_law_tale","_law_own","_law_due","_law_names","_law_whole","_law_name","_law_fits","_law_pair","_law_right"]:List String).map Str.ofString
noncomputable def rl:Nat->List Nat->List Addr
 |_,[]=>[]
 |p,c::r=>List.range' (p+c / 10) (c % 10)++rl (p+c / 10+c % 10) r
noncomputable def as:List Addr:=rl 0 [22,111,64,21,63,21,63,21,63,21,63,21,63,21,61,12,15,21,12,13,71,12,17,21,61,12,13,12,13,12,15,21,61,12,13,12,13,12,15,21,61,12,13,12,13,12,15,21,61,12,13,12,13,12,15,21,23,12,13,12,13,12,13,12,13,12,13,12,13,12,13,12,13,12,13,12,13,12,13,12,13,22,71,12,13,12,13,12,13,12,13,12,13,12,13,12,13,12,13,12,13,12,13,12,14,12,17,21,12,13,23,12,13,12,14,12,13,12,13,12,13,12,12,71,12,13,12,13,12,13,12,13,12,13,12,13,12,13,12,13,12,17,21,12,13,12,13,12,13,12,13,23,12,13,23,12,13,23,12,13,12,13,12,13,12,12,71,23,12,13,12,13,22]
noncomputable def K(P:Params):Frag:=as.map λa=>(a,((t2 P).get a).getD ⟨.none,none,.plain,#[]⟩)
theorem as_eq:∀P,as=(K P).map (·.1):=λP=>by kernel_rfl
noncomputable def h1(P:Params):Heap:=absHeap (t2 P) 709 {}
noncomputable def f1(w:World)(os:OsState):Shared:=⟨h1 w.params,⟨[]⟩,{},1186,os⟩
noncomputable def Xt(s:Shared):Bool:=xlAt view [] s&&recOk (RowW.records PySem.Challenge.rw_driftmeet_k45_surely_before.row.toRowW) s
theorem lk1:∀w:World,(λos=>(staticsOk (importedModules pw.main.body) (boot_heap w.params) (h1 w.params)&&namesBound pw (h1 w.params)&&gensDone (f1 w os)&&laidKept (boot_heap w.params) (h1 w.params)))=λ_=>true:=λw=>by kernel_rfl
theorem lk2:∀w:World,(λos=>openSeen view loose (importedModules pw.main.body) Xt true (f1 w os))=λ_=>openGood view loose:=λw=>by kernel_rfl
theorem lk3:∀w:World,(λos=>(Hook.obs (kHook K as as_eq)) (f1 w os))=λ_=>(Hook.val (kHook K as as_eq)) w:=λw=>by kernel_rfl
theorem left:LeftO pw view loose Xt (Hook.obs (kHook K as as_eq)) (Hook.val (kHook K as as_eq)) 11072:=LeftO.of_pieces (boot_open (by kernel_rfl) (by decide) (λs=>by kernel_rfl)) (H₀:=boot_heap) (H₁:=h1) (gs₀:=⟨[]⟩) (m₀:=11) (ann:=an) (M:=12+(1+(5474+(2)))) (λw=>by kernel_rfl) (λw os=>run w os) (by decide) λw=>funext λos=>looks_pair (congrFun (lk1 w) os) (looks_pair (congrFun (lk2 w) os) (congrFun (lk3 w) os))
end HD
namespace G
open PySem L2
noncomputable def top(i:Nat):Stmt:=PySem.Challenge.pw_driftmeet_k45_surely_before.main.body.getD i (.Pass ⟨0,0,0,0⟩)
noncomputable abbrev V0:IE:=.var 0
noncomputable abbrev V1:IE:=.var 1
noncomputable abbrev V2:IE:=.var 2
noncomputable abbrev V3:IE:=.var 3
noncomputable abbrev V4:IE:=.var 4
noncomputable abbrev V5:IE:=.var 5
noncomputable abbrev V6:IE:=.var 6
noncomputable abbrev V7:IE:=.var 7
noncomputable abbrev V8:IE:=.var 8
noncomputable abbrev V9:IE:=.var 9
noncomputable abbrev V10:IE:=.var 10
noncomputable abbrev V11:IE:=.var 11
noncomputable abbrev V12:IE:=.var 12
noncomputable abbrev V13:IE:=.var 13
noncomputable abbrev V14:IE:=.var 14
noncomputable abbrev V15:IE:=.var 15
noncomputable abbrev V16:IE:=.var 16
noncomputable abbrev V17:IE:=.var 17
noncomputable abbrev I0:IE:=.con (.int 0)
noncomputable abbrev I1:IE:=.con (.int 1)
noncomputable abbrev I2:IE:=.con (.int 2)
noncomputable abbrev I3:IE:=.con (.int 3)
noncomputable abbrev I4:IE:=.con (.int 4)
noncomputable abbrev I5:IE:=.con (.int 5)
noncomputable abbrev I6:IE:=.con (.int 6)
noncomputable abbrev I7:IE:=.con (.int 7)
noncomputable abbrev I8:IE:=.con (.int 8)
noncomputable abbrev I9:IE:=.con (.int 9)
noncomputable abbrev Ar1(a0:IE):IA:=.cons a0 .nil
noncomputable abbrev Ar2(a0 a1:IE):IA:=.cons a0 (.cons a1 .nil)
noncomputable abbrev Ar3(a0 a1 a2:IE):IA:=.cons a0 (.cons a1 (.cons a2 .nil))
noncomputable abbrev Ar4(a0 a1 a2 a3:IE):IA:=.cons a0 (.cons a1 (.cons a2 (.cons a3 .nil)))
noncomputable abbrev Ar5(a0 a1 a2 a3 a4:IE):IA:=.cons a0 (.cons a1 (.cons a2 (.cons a3 (.cons a4 .nil))))
noncomputable abbrev Ar6(a0 a1 a2 a3 a4 a5:IE):IA:=.cons a0 (.cons a1 (.cons a2 (.cons a3 (.cons a4 (.cons a5 .nil)))))
noncomputable abbrev S1(a0:IS):ISs:=.cons a0 .nil
noncomputable abbrev S2(a0 a1:IS):ISs:=.cons a0 (.cons a1 .nil)
noncomputable abbrev S3(a0 a1 a2:IS):ISs:=.cons a0 (.cons a1 (.cons a2 .nil))
noncomputable abbrev S4(a0 a1 a2 a3:IS):ISs:=.cons a0 (.cons a1 (.cons a2 (.cons a3 .nil)))
noncomputable abbrev S5(a0 a1 a2 a3 a4:IS):ISs:=.cons a0 (.cons a1 (.cons a2 (.cons a3 (.cons a4 .nil))))
noncomputable abbrev S7(a0 a1 a2 a3 a4 a5 a6:IS):ISs:=.cons a0 (.cons a1 (.cons a2 (.cons a3 (.cons a4 (.cons a5 (.cons a6 .nil))))))
noncomputable abbrev S9(a0 a1 a2 a3 a4 a5 a6 a7 a8:IS):ISs:=.cons a0 (.cons a1 (.cons a2 (.cons a3 (.cons a4 (.cons a5 (.cons a6 (.cons a7 (.cons a8 .nil))))))))
noncomputable abbrev S11(a0 a1 a2 a3 a4 a5 a6 a7 a8 a9 ON:IS):ISs:=.cons a0 (.cons a1 (.cons a2 (.cons a3 (.cons a4 (.cons a5 (.cons a6 (.cons a7 (.cons a8 (.cons a9 (.cons ON .nil))))))))))
noncomputable abbrev S12(a0 a1 a2 a3 a4 a5 a6 a7 a8 a9 ON Sv:IS):ISs:=.cons a0 (.cons a1 (.cons a2 (.cons a3 (.cons a4 (.cons a5 (.cons a6 (.cons a7 (.cons a8 (.cons a9 (.cons ON (.cons Sv .nil)))))))))))
noncomputable abbrev fL(n q:String)(g c:Bool)(s:Stmt)(N:List Str)(k:Nat)(b:ISs):FL:={name:=n,qual:=q,glob:=g,cl:=c,st:=s,N:=N,ps:=N.take k,body:=b}
noncomputable abbrev fl(n:String):=fL n n true
abbrev runF(T:List FB)(B:WB)(n:Nat)(b:ISs)(Z:St3)(M:MH)(Q:VK3)(E:XN):Prop:=aW {toWB:=B,call:=ac T B n} b {nx:=λ_ M'=>Q .i_ (aw M M'),rt:=λv M'=>Q v (aw M M')} (λ_ i M'=>E i (aw M M')) Z M
noncomputable def fN:ISs:=S1 (.ret (.and (.Ms V0 .int) (.not (.Ms V0 .bool))))
noncomputable def aB:ISs:=S2 (.Lb V0 211529960 V1) (.Lb V0 456806758904562 V2)
noncomputable def de:ISs:=S1 (.expr (.ini 0 (Ar3 V0 V1 V2)))
noncomputable def qE:ISs:=S1 .dead
noncomputable def bC:ISs:=S1 (.ret (.lst true .nil))
noncomputable def cR:ISs:=S3 (.expr (.ini 0 (Ar3 V0 V1 V2))) (.Lb V0 32709062885 V3) (.Lb V0 213725420 V4)
noncomputable def oM:ISs:=S1 .dead
noncomputable def bj:ISs:=S1 (.ret (.lst true (Ar2 (.tup (Ar3 (.glo 0) V2 (.fld V0 213725420))) (.tup (Ar3 V2 (.glo 0) (.neg (.fld V0 32709062885)))))))
noncomputable def dc:ISs:=S2 (.expr (.ini 0 (Ar3 V0 V1 V2))) (.Lb V0 14324 V3)
noncomputable def pZ:ISs:=S1 .dead
noncomputable def bx:ISs:=S1 (.ret (.lst true .nil))
noncomputable def dg:ISs:=S2 (.expr (.ini 0 (Ar3 V0 V1 V2))) (.Lb V0 3944367338220 V3)
noncomputable def qN:ISs:=S1 .dead
noncomputable def aZ:ISs:=S4 (.set 3 (.E_ V1 1994999 (Ar2 (.ix (.fld V0 3944367338220) I0) (.fld V0 211529960)))) (.set 4 (.lst false (Ar1 (.tup (Ar3 V2 (.fld V0 3944367338220) (.neg (.ix V3 I0))))))) (.ifs (.cmp .IsNot (.ix V3 I1) (.con .i_)) (S1 (.app V4 (.tup (Ar3 (.fld V0 3944367338220) V2 (.ix V3 I1))))) .nil) (.ret (.u_ V4))
noncomputable def d7:ISs:=S1 (.ret (.and (.cmp .Eq (.bi .len (Ar1 V0)) V1) (.bi .all (Ar1 (.comp true ["thing"] [none] (.name 0) (.seq V0) .no (.call 0 (Ar1 V0)))))))
noncomputable def eT:ISs:=S1 (.ret (.and (.Ms V0 .tuple) (.call 14 (Ar2 V0 I2))))
noncomputable def bp:ISs:=S7 (.ifs (.or (.not (.val (.Ms V0 .tuple))) (.cmp .Eq (.bi .len (Ar1 V0)) I0)) (S1 .dead) .nil) (.set 1 (.ix V0 I0)) (.ifs (.and (.cmp .Eq V1 (.con (.str "look"))) (.val (.call 14 (Ar2 (.sl true V0 (.yes I1) .no) I2)))) (S1 (.ret (.make true 1 (Ar2 (.ix V0 I1) (.ix V0 I2))))) .nil) (.ifs (.and (.cmp .Eq V1 (.con (.str "sight"))) (.val (.call 14 (Ar2 (.sl true V0 (.yes I1) .no) I4)))) (S1 (.ret (.make true 2 (Ar4 (.ix V0 I1) (.ix V0 I2) (.ix V0 I3) (.ix V0 I4))))) .nil) (.ifs (.and (.cmp .Eq V1 (.con (.str "send"))) (.val (.call 14 (Ar2 (.sl true V0 (.yes I1) .no) I3)))) (S1 (.ret (.make true 3 (Ar3 (.ix V0 I1) (.ix V0 I2) (.ix V0 I3))))) .nil) (.ifs (.and (.cmp .Eq V1 (.con (.str "take"))) (.and (.val (.call 14 (Ar2 (.sl true V0 (.yes I1) (.yes I3)) I2))) (.and (.cmp .Eq (.bi .len (Ar1 V0)) I4) (.val (.call 15 (Ar1 (.ix V0 I3))))))) (S1 (.ret (.make true 4 (Ar3 (.ix V0 I1) (.ix V0 I2) (.ix V0 I3))))) .nil) .dead
noncomputable def gG:ISs:=S3 (.set 2 (.bm .get V0 (Ar2 V1 I0))) (.y_ V0 V1 (.bin .Add V2 I1)) (.ret (.tup (Ar2 V1 V2)))
noncomputable def d4:ISs:=S1 (.app V2 (.call 17 (Ar2 V1 (.ix V3 I1))))
noncomputable def qX:ISs:=S4 (.set 1 (.KJ false)) (.set 2 (.lst false .nil)) (.Kr (.name 3) (.seq V0) d4) (.ret (.u_ V2))
noncomputable def cL:ISs:=S1 (.ret (.lst true (Ar2 (.tup (Ar3 V1 V2 (.bin .Mult (.ix V0 I1) V3))) (.tup (Ar3 V2 V1 (.bin .Mult (.neg (.ix V0 I0)) V3))))))
noncomputable def c4:ISs:=S5 (.set 6 (.call 16 (Ar1 V5))) (.expr (.bm .extend V2 (Ar1 (.E_ V6 1067955986548848835567 (Ar2 V0 V4))))) (.set 7 (.tup (Ar2 (.ix V4 I0) (.bin .Sub (.ix V4 I1) I1)))) (.ifs (.cmp .In V7 V3) (S1 (.expr (.bm .extend V2 (Ar1 (.call 19 (Ar4 (.E_ V0 28932044387 (Ar1 (.fld V6 211529960))) V7 V4 (.bin .Sub (.fld V6 456806758904562) (.ix V3 V7)))))))) .nil) (.y_ V3 V4 (.fld V6 456806758904562))
noncomputable def jG:ISs:=S4 (.set 2 (.lst false .nil)) (.set 3 (.KJ true)) (.Kr (.tup [4,5]) (.zip (.call 18 (Ar1 V1)) V1) c4) (.ret (.u_ V2))
noncomputable def bN:ISs:=S1 (.ifs (.cmp .NotIn V1 V0) (S1 .dead) .nil)
noncomputable def bR:ISs:=S2 (.set 7 (.bin .Add (.ix V2 V1) V6)) (.ifs (.or (.cmp .NotIn V5 V2) (.cmp .Lt V7 (.ix V2 V5))) (S3 (.y_ V2 V5 V7) (.y_ V3 V5 V1) (.app V4 V5)) .nil)
noncomputable def nI:ISs:=S3 (.set 4 (.lst false .nil)) (.Md (.tup [5,6]) V0 bR) (.ret (.u_ V4))
noncomputable def eL:ISs:=S1 (.y_ V4 V6 (.con (.bl true)))
noncomputable def cX:ISs:=S1 (.Kr (.name 6) (.seq (.call 22 (Ar4 (.ix V0 V5) V5 V1 V2))) eL)
noncomputable def jc:ISs:=S3 (.set 4 (.KJ true)) (.Kr (.name 5) (.seq V3) cX) (.set 3 (.bi (.list true) (Ar1 V4)))
noncomputable def kK:ISs:=S2 (.set 3 (.bi (.list true) (Ar1 V1))) (.Pd (.cmp .Gt (.bi .len (Ar1 V3)) I0) jc)
noncomputable def mY:ISs:=S4 (.expr (.call 21 (Ar2 V0 V1))) (.set 2 (.LS V1 I0)) (.expr (.call 23 (Ar3 V0 V2 (.KJ true)))) (.ret V2)
noncomputable def ba:ISs:=S1 (.ifs (.cmp .NotIn V4 V1) (S1 (.expr (.bm .extend V3 (Ar1 (.LU ["y","most","reached","free","x"] [none,none,some 1,some 2,some 4] (.tup [0,1]) V5 (.yes (.cmp .In V0 V2)) (.bin .Sub (.bin .Sub (.ix V2 V0) V1) (.ix V3 V4))))))) .nil)
noncomputable def cO:ISs:=S3 (.set 3 (.lst false .nil)) (.Md (.tup [4,5]) V0 ba) (.ret V3)
noncomputable def dZ:ISs:=S1 (.Lb V0 245117675 (.KJ true))
noncomputable def bG:ISs:=S3 (.ifs (.or (.cmp .NotIn V1 (.fld V0 245117675)) (.cmp .NotIn V2 (.fld V0 245117675))) (S1 .Mc) .nil) (.set 4 (.E_ V0 245168109 (Ar2 V2 V1))) (.ifs (.and (.cmp .IsNot V4 (.con .i_)) (.cmp .Lt (.bin .Add V4 V3) I0)) (S1 .dead) .nil)
noncomputable def dW:ISs:=S1 (.ifs (.cmp .NotIn V1 (.fld V0 245117675)) (S1 (.y_ (.fld V0 245117675) V1 (.KJ true))) .nil)
noncomputable def iG:ISs:=S5 (.ifs (.cmp .Eq V1 V2) (S2 .dead .Mc) .nil) (.expr (.E_ V0 122623138502931931312882 (Ar3 V1 V2 V3))) (.expr (.E_ V0 213610734 (Ar1 V1))) (.expr (.E_ V0 213610734 (Ar1 V2))) (.y_ (.ix (.fld V0 245117675) V1) V2 (.bi .min (Ar2 V3 (.bm .get (.ix (.fld V0 245117675) V1) (Ar2 V2 V3)))))
noncomputable def jn:ISs:=S2 .dead .dead
noncomputable def oa:ISs:=S1 .dead
noncomputable def oW:ISs:=S3 .dead .dead .dead
noncomputable def pM:ISs:=S3 .dead .dead .dead
noncomputable def cK:ISs:=S1 (.y_ V1 V2 I0)
noncomputable def eJ:ISs:=S4 (.set 1 (.KJ true)) (.L3 (.name 2) (.fld V0 245117675) cK) (.expr (.call 23 (Ar3 (.fld V0 245117675) V1 (.KJ true)))) (.ret (.u_ V1))
noncomputable def gg:ISs:=S2 (.expr (.call 21 (Ar2 (.fld V0 245117675) V2))) (.ret (.bm .get (.call 24 (Ar2 (.fld V0 245117675) V1)) (Ar1 V2)))
noncomputable def qx:ISs:=S1 .dead
noncomputable def aX:ISs:=S1 (.y_ V8 V9 (.NZ (.cmp .In V9 V4) (.ix V4 V9) (.bin .Add (.ix V5 V9) V7)))
noncomputable def eB:ISs:=S9 (.expr (.call 21 (Ar2 (.fld V0 245117675) V2))) (.set 4 (.call 24 (Ar2 (.fld V0 245117675) V1))) (.set 5 (.E_ V0 31083689204 .nil)) (.set 6 (.call 25 (Ar3 (.fld V0 245117675) V4 V5))) (.ifs (.cmp .NotIn V2 V4) (S1 (.app V6 (.bin .Sub V3 (.ix V5 V2)))) .nil) (.set 7 (.N0 true V6)) (.set 8 (.KJ true)) (.L3 (.name 9) (.fld V0 245117675) aX) (.ret (.u_ V8))
noncomputable def eZ:ISs:=S1 (.expr (.E_ V2 213610734 (Ar1 V3)))
noncomputable def eV:ISs:=S1 (.expr (.E_ V2 1915632 (Ar3 V4 V5 V6)))
noncomputable def jP:ISs:=S5 (.set 2 (.make false 5 .nil)) (.expr (.E_ V2 213610734 (Ar1 (.glo 0)))) (.Kr (.name 3) (.seq (.call 18 (Ar1 V1))) eZ) (.Kr (.tup [4,5,6]) (.seq (.call 20 (Ar2 V0 V1))) eV) (.ret V2)
noncomputable def d5:ISs:=S1 (.ret (.comp true ["name","times"] [none,some 1] (.name 0) (.seq (.call 18 (Ar1 V0))) .no (.bin .Sub (.ix V1 V0) (.ix V1 (.glo 0)))))
noncomputable def hU:ISs:=S1 (.ifs (.cmp .NotIn V4 V3) (S1 .dead) .nil)
noncomputable def iH:ISs:=S3 (.set 3 (.cat true (.lst true (Ar1 (.glo 0))) (.call 18 (Ar1 V1)))) (.Kr (.name 4) (.seq V2) hU) (.ret (.call 38 (Ar2 V0 V1)))
noncomputable def iY:ISs:=S3 (.set 4 (.call 40 (Ar3 V0 V1 (.lst true (Ar2 V2 V3))))) (.set 5 (.E_ V4 245168109 (Ar2 V3 V2))) (.ret (.tup (Ar2 (.NZ (.cmp .Is V5 (.con .i_)) (.con .i_) (.neg V5)) (.E_ V4 245168109 (Ar2 V2 V3)))))
noncomputable def kX:ISs:=S1 (.ret (.call 39 (Ar2 V1 (.E_ (.call 40 (Ar3 V0 V1 (.lst true (Ar2 V2 V3)))) 4016813453548 (Ar3 V2 V3 V4)))))
noncomputable def j8:ISs:=S2 (.set 4 (.ix (.call 41 (Ar4 V0 V1 V2 V3)) I0)) (.ret (.and (.cmp .IsNot V4 (.con .i_)) (.cmp .Gt V4 I0)))
noncomputable def cS:ISs:=S2 (.ifs (.cmp .Lt V0 I1) (S1 .dead) .nil) (.ifs (.cmp .Lt V1 V0) (S1 .dead) .nil)
noncomputable def bT:ISs:=S2 (.ifs (.cmp .Lt V0 I0) (S1 .dead) .nil) (.ifs (.and (.cmp .IsNot V1 (.con .i_)) (.cmp .Lt V1 V0)) (S1 .dead) .nil)
noncomputable def bw:ISs:=S1 (.expr (.call 44 (Ar2 V3 V4)))
noncomputable def bA:ISs:=S1 (.expr (.E_ V0 8774101686596482917 (Ar4 V5 V6 V7 V8)))
noncomputable def cQ:ISs:=S5 (.ifs (.or (.cmp .Lt (.bi .len (Ar1 V1)) I1) (.cmp .Gt (.bi .len (Ar1 V1)) (.glo 1))) (S1 .dead) .nil) (.Kr (.tup [3,4]) (.seq V1) bw) (.Lb V0 136762133858116729320171 (.bi (.list false) (Ar1 V1))) (.Lb V0 8355170983792620267 (.KJ true)) (.Kr (.tup [5,6,7,8]) (.seq V2) bA)
noncomputable def bv:ISs:=S4 (.expr (.E_ V0 135562951883986971505394 (Ar2 V1 V2))) (.ifs (.cmp .In (.tup (Ar2 V1 V2)) (.fld V0 8355170983792620267)) (S1 .dead) .nil) (.expr (.call 45 (Ar2 V3 V4))) (.y_ (.fld V0 8355170983792620267) (.tup (Ar2 V1 V2)) (.tup (Ar2 V3 V4)))
noncomputable def aP:ISs:=S1 (.ifs (.not (.val (.E_ V0 56782141471387880 (Ar1 V1)))) (S1 .dead) .nil)
noncomputable def aO:ISs:=S3 (.expr (.E_ V0 119080781550527859766002 (Ar1 V1))) (.expr (.E_ V0 119080781550527859766002 (Ar1 V2))) (.ifs (.cmp .Eq V1 V2) (S1 .dead) .nil)
noncomputable def bW:ISs:=S1 (.ret (.bi .len (Ar1 (.fld V0 136762133858116729320171))))
noncomputable def be:ISs:=S1 (.ret (.chain .LtE .Lt I0 V1 (.E_ V0 31081607400 .nil)))
noncomputable def cg:ISs:=S1 (.ret (.cmp .In (.tup (Ar2 V1 V2)) (.fld V0 8355170983792620267)))
noncomputable def db:ISs:=S2 (.expr (.E_ V0 119080781550527859766002 (Ar1 V1))) (.ret (.ix (.fld V0 136762133858116729320171) V1))
noncomputable def fh:ISs:=S3 (.expr (.E_ V0 135562951883986971505394 (Ar2 V1 V2))) (.ifs (.not (.val (.E_ V0 535528667410664 (Ar2 V1 V2)))) (S1 .dead) .nil) (.ret (.ix (.fld V0 8355170983792620267) (.tup (Ar2 V1 V2))))
noncomputable def bU:ISs:=S2 (.ifs (.cmp .Lt V1 (.bi .len (Ar1 V0))) (S1 (.ret (.ix V0 V1))) .nil) (.ret I0)
noncomputable def cu:ISs:=S2 (.set 3 (.bin .Mod (.bin .Add (.bin .Add (.bin .Mult V3 V3) (.bin .Mult (.con (.int 48271)) V3)) V4) (.bin .Add (.bin .Pow (.con (.int 10)) (.con (.int 40))) (.con (.int 121))))) (.app V2 V3)
noncomputable def dX:ISs:=S4 (.set 2 (.lst false .nil)) (.set 3 (.bin .Add (.bin .Mod V0 (.bin .Add (.bin .Pow (.con (.int 10)) (.con (.int 40))) (.con (.int 121)))) (.con (.int 48271)))) (.Kr (.name 4) (.LV (.bin .Add V1 I4)) cu) (.ret (.sl true V2 (.yes I4) .no))
noncomputable def fu:ISs:=S3 (.set 2 (.ix (.lst true (Ar3 I0 I1 (.bin .Mod (.ix V0 I0) V1))) (.bin .Mod (.ix V0 I1) I3))) (.ifs (.cmp .Eq (.bin .Mod (.bin .FloorDiv (.ix V0 I1) I3) I4) I0) (S1 (.ret (.tup (Ar2 V2 (.con .i_))))) .nil) (.ret (.tup (Ar2 V2 (.bin .Add V2 (.ix (.lst true (Ar3 I0 I1 (.bin .Mod (.ix V0 I2) V1))) (.bin .Mod (.bin .FloorDiv (.ix V0 I1) (.con (.int 12))) I3))))))
noncomputable def bI:ISs:=S2 (.set 9 (.call 56 (Ar2 (.bin .Add (.bin .Add (.bin .Add V0 (.bin .Mult I7 V6)) (.bin .Mult (.con (.int 43)) V8)) I1) I4))) (.ifs (.and (.cmp .NotEq V6 V8) (.cmp .Gt (.bin .Mod (.ix V9 I3) I6) I0)) (S1 (.y_ V5 (.tup (Ar2 V6 V8)) (.call 57 (Ar2 V9 V3)))) .nil)
noncomputable def bB:ISs:=S3 (.set 7 (.bin .Add I1 (.bin .Mod (.bin .FloorDiv (.ix V1 (.bin .Add I2 V6)) I3) V3))) (.app V4 (.tup (Ar2 V7 (.bin .Add V7 (.ix (.lst true (Ar3 I0 I1 (.bin .Mod (.ix V1 (.bin .Sub I7 V6)) V3))) (.bin .Mod (.ix V1 (.bin .Add I2 V6)) I3)))))) (.Kr (.name 8) (.LV V2) bI)
noncomputable def eY:ISs:=S7 (.set 1 (.call 56 (Ar2 V0 I8))) (.set 2 (.ix (.lst true (.cons I1 (.cons I2 (Ar6 I2 I3 I3 I4 I5 I6)))) (.bin .Mod (.ix V1 I0) I8))) (.set 3 (.ix (.lst true (Ar4 I3 (.con (.int 100)) (.bin .Pow (.con (.int 10)) I9) (.bin .Pow (.con (.int 10)) (.con (.int 30))))) (.bin .Mod (.ix V1 I1) I4))) (.set 4 (.lst false .nil)) (.set 5 (.KJ true)) (.Kr (.name 6) (.LV V2) bB) (.ret (.tup (Ar2 (.u_ V4) (.u_ V5))))
noncomputable def fZ:ISs:=S1 (.ret (.make true 6 (Ar2 (.bi (.list true) (Ar1 (.ix V0 I0))) (.comp true ["_law_pair_here","_law_way_here"] [none,none] (.tup [0,1]) (.items (.ix V0 I1)) .no (.bin .Add V0 V1)))))
noncomputable def iX:ISs:=S7 (.set 5 (.ix (.lst true (Ar4 I0 I1 (.bin .Mod (.ix V2 I1) I5) (.bin .Mod (.ix V2 I1) (.bin .Pow (.con (.int 10)) (.con (.int 12)))))) (.bin .Mod (.ix V2 I2) I4))) (.ifs (.and (.cmp .IsNot V3 (.con .i_)) (.cmp .Lt (.bin .Add (.ix V1 I2) (.bin .Mult (.ix V0 I1) V5)) V3)) (S1 (.set 5 (.bin .FloorDiv (.bin .Sub (.bin .Add (.bin .Sub V3 (.ix V1 I2)) (.ix V0 I1)) I1) (.ix V0 I1)))) .nil) (.set 6 (.bin .Add (.ix V1 I2) (.bin .Mult (.ix V0 I0) V5))) (.set 7 (.bin .Add (.ix V1 I2) (.bin .Mult (.ix V0 I1) V5))) (.ifs (.cmp .IsNot V3 (.con .i_)) (S1 (.set 6 (.bi .max (Ar2 V6 V3)))) .nil) (.ifs (.cmp .IsNot V4 (.con .i_)) (S1 (.set 7 (.bi .min (Ar2 V7 V4)))) .nil) (.ret (.tup (Ar3 V5 V6 V7)))
noncomputable def dG:ISs:=S5 (.set 5 (.comp true ["_law_pair_here","_law_hand"] [none,some 0] (.name 0) (.dk V3) (.yes (.cmp .Eq (.ix V0 I0) V1)) (.ix V0 I1))) (.set 6 (.bin .Mod (.bin .FloorDiv (.ix V4 I3) I2) I8)) (.ifs (.or (.cmp .Eq V6 I1) (.cmp .Eq V6 I2)) (S2 (.set 7 (.lst true (Ar4 I0 I1 (.bin .Mod (.ix V4 I0) (.con (.int 100))) (.bin .Mod (.ix V4 I0) (.bin .Pow (.con (.int 10)) (.con (.int 12))))))) (.ret (.tup (Ar5 (.con (.str "sight")) V0 V1 (.bin .Sub V2 (.ix V7 (.bin .Mod (.ix V4 I1) I4))) (.bin .Add V2 (.ix V7 (.bin .Mod (.bin .FloorDiv (.ix V4 I1) I4) I4))))))) .nil) (.ifs (.and (.cmp .Gt V6 I2) (.cmp .NotEq V5 (.lst true .nil))) (S1 (.ret (.tup (Ar4 (.con (.str "send")) V0 V1 (.ix V5 (.bin .Mod (.bin .FloorDiv (.ix V4 I2) I5) (.bi .len (Ar1 V5)))))))) .nil) (.ret (.tup (Ar3 (.con (.str "look")) V0 V1)))
noncomputable def fY:ISs:=S2 (.ifs (.cmp .Is (.ix V3 I1) (.con .i_)) (S1 (.ret (.tup (Ar4 V0 (.ix V1 I3) (.bin .Add V2 (.ix V3 I0)) (.con .i_))))) .nil) (.ret (.tup (Ar4 V0 (.ix V1 I3) (.bin .Add V2 (.ix V3 I0)) (.bin .Add V2 (.ix V3 I1)))))
noncomputable def dh:ISs:=S1 (.app V5 (.tup (Ar3 I0 (.bin .Sub (.bin .Mod V6 (.bin .Pow (.con (.int 10)) (.con (.int 12)))) (.bin .Pow (.con (.int 10)) (.con (.int 11)))) (.bin .Sub (.bin .Mod V1 (.bin .Pow (.con (.int 10)) (.con (.int 12)))) (.bin .Pow (.con (.int 10)) (.con (.int 11)))))))
noncomputable def aJ:ISs:=S12 (.set 10 (.call 56 (Ar2 V9 I4))) (.set 11 (.bin .Mod (.ix V10 I0) (.bi .len (Ar1 V3)))) (.ifs (.cmp .Eq (.bin .Mod (.ix V10 I3) I2) I0) (S1 (.set 11 (.ix (.OA (.comp true ["_law_k","_law_one"] [none,none] (.tup [0,1]) (.enum V5) .no (.tup (Ar2 (.ix V1 I2) V0)))) I1))) .nil) (.set 12 (.con .i_)) (.set 13 (.call 60 (Ar5 (.ix V3 V11) (.ix V5 V11) V10 (.con .i_) (.con .i_)))) (.ifs (.and (.cmp .Gt (.bin .Mod (.bin .FloorDiv (.ix V10 I3) I2) I8) I4) (.cmp .NotEq V7 (.lst true .nil))) (S3 (.set 12 (.ix V7 (.bin .Mod (.bin .FloorDiv (.ix V10 I0) I7) (.bi .len (Ar1 V7))))) (.set 14 (.call 60 (Ar5 (.ix V3 (.ix V12 I1)) (.ix V5 (.ix V12 I1)) V10 (.ix V12 I2) (.ix V12 I3)))) (.ifs (.cmp .Gt (.ix V14 I1) (.ix V14 I2)) (S1 (.set 12 (.con .i_))) (S2 (.set 11 (.ix V12 I1)) (.set 13 V14)))) .nil) (.set 15 (.ix (.lst true (Ar3 (.ix V13 I1) (.ix V13 I2) (.bin .Add (.ix V13 I1) (.bin .Mod (.bin .FloorDiv (.ix V10 I2) I4) (.bin .Add (.bin .Sub (.ix V13 I2) (.ix V13 I1)) I1))))) (.bin .Mod (.bin .FloorDiv (.ix V10 I3) (.con (.int 16))) I3))) (.set 16 (.tup (Ar2 V11 (.ix (.ix V5 V11) I0)))) (.y_ V5 V11 (.tup (Ar3 (.bin .Add (.ix V16 I1) I1) (.bin .Add (.ix (.ix V5 V11) I1) (.ix V13 I0)) V15))) (.set 17 (.call 61 (Ar5 V11 (.ix (.ix V5 V11) I1) V15 V4 V10))) (.ifs (.cmp .IsNot V12 (.con .i_)) (S2 (.expr (.bm .remove V7 (Ar1 V12))) (.set 17 (.tup (Ar4 (.con (.str "take")) V11 (.ix (.ix V5 V11) I1) (.ix V12 I0))))) (S1 (.ifs (.cmp .Eq (.ix V17 I0) (.con (.str "send"))) (S1 (.app V7 (.call 62 (Ar4 V16 V17 V15 (.ix V4 (.tup (Ar2 V11 (.ix V17 I3)))))))) .nil))) (.app V8 (.tup (Ar2 V17 V15)))
noncomputable def fQ:ISs:=S7 (.MO [3,4] V0) (.set 5 (.lst false .nil)) (.Kr (.name 6) (.seq (.call 56 (Ar2 V1 (.bi .len (Ar1 V3))))) dh) (.set 7 (.lst false .nil)) (.set 8 (.lst false .nil)) (.Kr (.name 9) (.seq V2) aJ) (.ret (.u_ V8))
noncomputable def iS:ISs:=S3 (.ifs (.cmp .Eq (.ix V1 I0) (.con (.str "sight"))) (S1 (.ret (.lst true (Ar2 (.tup (Ar3 (.tup (Ar2 (.neg I1) I0)) V2 (.ix V1 I4))) (.tup (Ar3 V2 (.tup (Ar2 (.neg I1) I0)) (.bin .Sub I0 (.ix V1 I3)))))))) .nil) (.ifs (.cmp .Eq (.ix V1 I0) (.con (.str "take"))) (S3 (.MO [3,4] (.ix (.ix V0 I1) (.tup (Ar2 (.ix (.ix V1 I3) I0) (.ix V1 I1))))) (.ifs (.cmp .Is V4 (.con .i_)) (S1 (.ret (.lst true (Ar1 (.tup (Ar3 V2 (.ix V1 I3) (.bin .Sub I0 V3))))))) .nil) (.ret (.lst true (Ar2 (.tup (Ar3 V2 (.ix V1 I3) (.bin .Sub I0 V3))) (.tup (Ar3 (.ix V1 I3) V2 V4)))))) .nil) (.ret (.lst true .nil))
noncomputable def cI:ISs:=S5 (.set 5 (.bm .Kw V3 (Ar2 (.ix V4 I1) (.lst false .nil)))) (.set 6 (.tup (Ar2 (.ix V4 I1) (.bi .len (Ar1 V5))))) (.expr (.bm .extend V2 (Ar1 (.call 64 (Ar3 V0 V4 V6))))) (.ifs (.cmp .NotEq V5 (.lst true .nil)) (S4 (.set 7 (.tup (Ar2 (.ix V4 I1) (.bin .Sub (.bi .len (Ar1 V5)) I1)))) (.MO [8,9] (.ix (.ix V0 I0) (.ix V4 I1))) (.app V2 (.tup (Ar3 V7 V6 (.bin .Mult V9 (.bin .Sub (.ix V4 I2) (.ix V5 (.neg I1))))))) (.app V2 (.tup (Ar3 V6 V7 (.bin .Mult V8 (.bin .Sub (.ix V5 (.neg I1)) (.ix V4 I2))))))) .nil) (.app V5 (.ix V4 I2))
noncomputable def im:ISs:=S4 (.set 2 (.lst false .nil)) (.set 3 (.KJ false)) (.Kr (.name 4) (.seq V1) cI) (.ret (.u_ V2))
noncomputable def bz:ISs:=S2 (.y_ V1 (.ix V3 I1) (.bin .Add (.bm .get V1 (Ar2 (.ix V3 I1) I0)) I1)) (.app V2 (.tup (Ar2 (.ix V3 I1) (.bin .Sub (.ix V1 (.ix V3 I1)) I1))))
noncomputable def jk:ISs:=S4 (.set 1 (.KJ false)) (.set 2 (.lst false .nil)) (.Kr (.name 3) (.seq V0) bz) (.ret (.u_ V2))
noncomputable def eO:ISs:=S1 (.ret (.and (.Ms V0 .int) (.not (.Ms V0 .bool))))
noncomputable def fF:ISs:=S1 (.y_ V3 V4 V5)
noncomputable def gq:ISs:=S5 (.ifs (.or (.not (.val (.Ms V2 .list))) (.cmp .NotEq (.bi .len (Ar1 V2)) (.bi .len (Ar1 V1)))) (S1 (.ret (.con (.bl false)))) .nil) (.ifs (.not (.val (.bi .all (Ar1 (.comp true ["_law_moment"] [none] (.name 0) (.seq V2) .no (.call 67 (Ar1 V0))))))) (S1 (.ret (.con (.bl false)))) .nil) (.set 3 (.LS (.tup (Ar2 (.neg I1) I0)) I0)) (.Kr (.tup [4,5]) (.zip (.call 66 (Ar1 V1)) V2) fF) (.ret (.bi .all (Ar1 (.comp true ["_law_x","_law_y","_law_m","_law_moments"] [none,none,none,some 3] (.tup [0,1,2]) (.seq (.call 65 (Ar2 V0 V1))) .no (.cmp .LtE (.bin .Sub (.ix V3 V1) (.ix V3 V0)) V2)))))
noncomputable def fE:ISs:=S2 (.set 4 (.ix V0 (.bin .Sub (.bin .Sub (.bi .len (Ar1 V0)) I1) V3))) (.ifs (.cmp .Eq (.ix V4 I0) (.con (.str "take"))) (S1 (.ret (.tup (Ar2 (.ix V4 I3) (.ix (.call 66 (Ar1 V0)) (.bin .Sub (.bin .Sub (.bi .len (Ar1 V0)) I1) V3)))))) .nil)
noncomputable def fS:ISs:=S2 (.ifs (.cmp .Eq (.bin .Mod (.ix V2 I2) I2) I1) (S1 (.Kr (.name 3) (.LV (.bi .len (Ar1 V0))) fE)) .nil) (.ret (.tup (Ar2 (.ix V1 (.bin .Mod (.ix V2 I0) (.bi .len (Ar1 V1)))) (.ix V1 (.bin .Mod (.ix V2 I1) (.bi .len (Ar1 V1)))))))
noncomputable def fj:ISs:=S1 (.y_ V9 V10 V11)
noncomputable def ca:ISs:=S9 (.MO [5,6] V4) (.set 7 (.call 43 (Ar4 V1 (.bi (.list true) (Ar1 V2)) V5 V6))) (.ifs (.and (.cmp .IsNot V7 (.con (.bl true))) (.cmp .IsNot V7 (.con (.bl false)))) (S1 (.ret (.con (.bl false)))) .nil) (.ifs (.and (.val V7) (.cmp .GtE (.ix V3 V5) (.ix V3 V6))) (S1 (.ret (.con (.bl false)))) .nil) (.set 8 (.call 42 (Ar4 V1 (.bi (.list true) (Ar1 V2)) V6 V5))) (.ifs (.not (.val (.call 68 (Ar3 V0 V2 V8)))) (S1 (.ret (.con (.bl false)))) .nil) (.set 9 (.LS (.tup (Ar2 (.neg I1) I0)) I0)) (.Kr (.tup [10,11]) (.zip (.call 66 (Ar1 V2)) V8) fj) (.ret (.cmp .Eq V7 (.cmp .Lt (.ix V9 V5) (.ix V9 V6))))
noncomputable def pP:ISs:=S1 (.y_ V5 V6 (.ix V7 I1))
noncomputable def oP:ISs:=S11 (.set 1 (.call 58 (Ar1 (.call 55 (Ar2 V0 I0))))) (.set 2 (.call 63 (Ar3 V1 (.call 55 (Ar2 V0 I1)) (.sl true V0 (.yes I2) (.yes (.con (.int 14))))))) (.set 3 (.comp true ["_law_row_here","_law_moment"] [none,none] (.tup [0,1]) (.seq V2) .no V0)) (.set 4 (.call 59 (Ar1 V1))) (.set 5 (.LS (.tup (Ar2 (.neg I1) I0)) I0)) (.Kr (.tup [6,7]) (.zip (.call 66 (Ar1 V3)) V2) pP) (.set 8 (.call 56 (Ar2 (.bin .Add (.call 55 (Ar2 V0 I0)) (.call 55 (Ar2 V0 I2))) I3))) (.MO [9,10] (.call 69 (Ar3 V3 (.bi (.list true) (Ar1 V5)) V8))) (.ifs (.or (.not (.val (.call 70 (Ar5 V1 V4 V3 V5 (.tup (Ar2 V9 V10)))))) (.cmp .IsNot (.call 43 (Ar4 V4 (.bi (.list true) (Ar1 V3)) V9 V9)) (.con (.bl false)))) (S1 (.ret (.con (.bl false)))) .nil) (.ifs (.not (.val (.call 70 (Ar5 V1 V4 V3 V5 (.tup (Ar2 V10 V9)))))) (S1 (.ret (.con (.bl false)))) .nil) (.ret (.not (.and (.call 43 (Ar4 V4 (.bi (.list true) (Ar1 V3)) V9 V10)) (.call 43 (Ar4 V4 (.bi (.list true) (Ar1 V3)) V10 V9)))))
noncomputable def l_law:FL:=fl "law" true (top 68) ["_law_script","_law_world_here","_law_tale_here","_law_log","_law_made_here","_law_moments","_law_here","_law_one","_law_xs","_law_x","_law_y"] 1 oP
noncomputable def L:List FL:=[fl "is_whole" true (top 9) ["thing"] 1 fN,fL "__init__" "Happening.__init__" false true (am (top 12) 0) ["self","hand","reading"] 3 aB,fL "__init__" "Look.__init__" false true (am (top 13) 0) ["self","hand","reading"] 3 de,fL "row" "Look.row" false true (am (top 13) 1) ["self"] 1 qE,fL "own_bounds" "Look.own_bounds" false true (am (top 13) 2) ["self","world","name"] 3 bC,fL "__init__" "Sight.__init__" false true (am (top 14) 0) ["self","hand","reading","early","late"] 5 cR,fL "row" "Sight.row" false true (am (top 14) 1) ["self"] 1 oM,fL "own_bounds" "Sight.own_bounds" false true (am (top 14) 2) ["self","world","name"] 3 bj,fL "__init__" "Send.__init__" false true (am (top 15) 0) ["self","hand","reading","to"] 4 dc,fL "row" "Send.row" false true (am (top 15) 1) ["self"] 1 pZ,fL "own_bounds" "Send.own_bounds" false true (am (top 15) 2) ["self","world","name"] 3 bx,fL "__init__" "Take.__init__" false true (am (top 16) 0) ["self","hand","reading","letter"] 4 dg,fL "row" "Take.row" false true (am (top 16) 1) ["self"] 1 qN,fL "own_bounds" "Take.own_bounds" false true (am (top 16) 2) ["self","world","name","way","told"] 3 aZ,fl "are_wholes" true (top 17) ["things","number"] 2 d7,fl "is_letter" true (top 18) ["thing"] 1 eT,fl "happening" true (top 19) ["row","word"] 1 bp,fl "count_on" true (top 21) ["counts","hand","ahead"] 2 gG,fl "names" true (top 22) ["log","counts","told","row"] 1 qX,fl "clock_bounds" true (top 24) ["clock","last","here","ticks"] 4 cL,fl "bounds" true (top 25) ["world","log","told","readings","here","row","one","last"] 2 jG,fl "refuse_unknown" true (top 27) ["edges","x"] 2 bN,fl "go_on" true (top 28) ["row","x","sums","back","fallen","y","most","total"] 4 nI,fl "settle" true (top 29) ["edges","sums","back","fallen","again","x","y"] 3 kK,fl "spans" false (top 31) ["edges","x","sums"] 2 mY,fl "needed_lifts" false (top 35) ["edges","reached","free","lifts","x","row"] 3 cO,fL "__init__" "Net.__init__" false false (am (top 36) 0) ["self"] 1 dZ,fL "refuse_ring" "Net.refuse_ring" false true (am (top 36) 1) ["self","x","y","most","back"] 4 bG,fL "name" "Net.name" false false (am (top 36) 2) ["self","x"] 2 dW,fL "put" "Net.put" false false (am (top 36) 3) ["self","x","y","most"] 4 iG,fL "put_round" "Net.put_round" false true (am (top 36) 4) ["self","x","most"] 3 jn,fL "names" "Net.names" false true (am (top 36) 5) ["self"] 1 oa,fL "bound" "Net.bound" false true (am (top 36) 6) ["self","x","y"] 3 oW,fL "edges" "Net.edges" false true (am (top 36) 7) ["self","told","x","row"] 1 pM,fL "times" "Net.times" false true (am (top 36) 8) ["self","sums","x"] 1 eJ,fL "most" "Net.most" false true (am (top 36) 9) ["self","x","y"] 3 gg,fL "road" "Net.road" false true (am (top 36) 10) ["self","x","y"] 3 qx,{name:="latest",qual:="Net.latest",glob:=false,cl:=true,st:=am (top 36) 11,N:=["self","x","y","far","reached","free","lifts","lift","told","name"],ps:=["self","x","y","far"],body:=eB,df:=[0]},fl "net_of" false (top 38) ["world","log","net","name","x","y","most"] 2 jP,fl "as_history" true (top 39) ["log","times"] 2 d5,fl "net_for" false (top 41) ["world","log","some","there","name"] 3 iH,fl "between" true (top 42) ["world","log","x","y","net","back"] 4 iY,{name:="latest",qual:="latest",glob:=true,cl:=true,st:=top 43,N:=["world","log","x","y","far"],ps:=["world","log","x","y","far"],body:=kX,df:=[0]},fl "surely" true (top 44) ["world","log","x","y","early"] 4 j8,fl "refuse_clock" true (top 47) ["short","long"] 2 cS,fl "refuse_lengths" true (top 48) ["least","most"] 2 bT,fL "__init__" "World.__init__" false false (am (top 49) 0) ["self","clocks","ways","short","long","one","other","least","most"] 3 cQ,fL "enter_way" "World.enter_way" false true (am (top 49) 1) ["self","one","other","least","most"] 5 bv,fL "refuse_hand" "World.refuse_hand" false true (am (top 49) 2) ["self","hand"] 2 aP,fL "refuse_pair" "World.refuse_pair" false true (am (top 49) 3) ["self","one","other"] 3 aO,fL "hands" "World.hands" false true (am (top 49) 4) ["self"] 1 bW,fL "has_hand" "World.has_hand" false true (am (top 49) 5) ["self","hand"] 2 be,fL "has_way" "World.has_way" false true (am (top 49) 6) ["self","one","other"] 3 cg,fL "clock" "World.clock" false true (am (top 49) 7) ["self","hand"] 2 db,fL "way" "World.way" false true (am (top 49) 8) ["self","one","other"] 3 fh,fl "_law_cell_at" true (top 51) ["_law_script","_law_k"] 2 bU,fl "_law_stream" true (top 52) ["_law_cell","_law_many","_law_found","_law_number","_law_k"] 2 dX,fl "_law_way" true (top 53) ["_law_xs","_law_size","_law_least"] 2 fu,fl "_law_world" true (top 54) ["_law_cell","_law_xs","_law_hands","_law_size","_law_clocks","_law_ways","_law_one","_law_short","_law_other","_law_ys"] 1 eY,fl "_law_made" true (top 55) ["_law_world_here"] 1 fZ,fl "_law_lag" true (top 56) ["_law_clock","_law_here","_law_xs","_law_low","_law_high","_law_ticks","_law_first","_law_last"] 5 iX,fl "_law_row" true (top 57) ["_law_hand","_law_reading","_law_moment","_law_ways","_law_xs","_law_tos","_law_kind","_law_gaps"] 5 dG,fl "_law_sent" true (top 58) ["_law_here","_law_row_here","_law_moment","_law_way_here"] 4 fY,fl "_law_tale" true (top 59) ["_law_world_here","_law_start","_law_cells","_law_clocks","_law_ways","_law_at","_law_x","_law_sent_here","_law_told","_law_cell","_law_xs","_law_hand","_law_letter","_law_lag_here","_law_near","_law_moment","_law_here","_law_row_here"] 3 fQ,fl "_law_own" true (top 60) ["_law_world_here","_law_row_here","_law_here","_law_least","_law_most"] 3 iS,fl "_law_due" true (top 61) ["_law_world_here","_law_log","_law_found","_law_seen","_law_row_here","_law_known","_law_here","_law_last","_law_short","_law_long"] 2 im,fl "_law_names" true (top 62) ["_law_log","_law_many","_law_found","_law_row_here"] 1 jk,fl "_law_whole" true (top 63) ["_law_found"] 1 eO,fl "_law_fits" true (top 65) ["_law_world_here","_law_log","_law_times","_law_moments","_law_here","_law_moment"] 3 gq,fl "_law_pair" true (top 66) ["_law_log","_law_some","_law_xs","_law_k","_law_row_here"] 3 fS,fl "_law_right" true (top 67) ["_law_world_here","_law_made_here","_law_log","_law_moments","_law_pair_here","_law_x","_law_y","_law_found","_law_times","_law_told","_law_here","_law_moment"] 5 ca,l_law]
noncomputable def xinT:List (Nat×Nat):=[]
noncomputable def nm:NM:=⟨["DriftError"],["Happening","Look","Sight","Send","Take","Net","World"],["NOUGHT","MOST_HANDS"],xinT⟩
noncomputable def xin(i:Nat):Option Nat:=xinT.lookup i
noncomputable def subT:List (List Bool):=[[true]]
noncomputable def sub(i j:Nat):Bool:=(subT.getD i []).getD j false
noncomputable def ksubT:List (List Bool):=[[true,false,false,false,false,false,false],[true,true,false,false,false,false,false],[true,false,true,false,false,false,false],[true,false,false,true,false,false,false],[true,false,false,false,true,false,false],[false,false,false,false,false,true,false],[false,false,false,false,false,false,true]]
noncomputable def ksub(i j:Nat):Bool:=(ksubT.getD i []).getD j false
noncomputable def fokT:List (List Nat):=[[211529960,456806758904562],[211529960,456806758904562],[32709062885,213725420,211529960,456806758904562],[14324,211529960,456806758904562],[3944367338220,211529960,456806758904562],[245117675],[136762133858116729320171,8355170983792620267]]
noncomputable def fok(i f:Nat):Bool:=(fokT.getD i []).contains f
noncomputable def mthT:List (List (Nat×Nat)):=[[],[(1067955986548848835567,4),(1964018,3)],[(1067955986548848835567,7),(1964018,6)],[(1067955986548848835567,10),(1964018,9)],[(1067955986548848835567,13),(1964018,12)],[(27076163554,32),(31083590245,33),(4016813453548,37),(245168109,35),(213610734,28),(31083688174,31),(1915632,29),(7268202314844682992,30),(122623138502931931312882,27),(211318770,36),(31083689204,34)],[(28932044387,53),(8774101686596482917,47),(31081607400,50),(56782141471387880,51),(535528667410664,52),(119080781550527859766002,48),(135562951883986971505394,49),(1994999,54)]]
noncomputable def mth(i m:Nat):Option Nat:=(mthT.getD i []).lookup m
noncomputable def Ds:List Nat:=[1,2,5,8,11,26,46]
noncomputable def ini(i:Nat):Option Nat:=Ds[i]?
noncomputable def gloT:List D:=[.tup [.int (-1),.int 0],.int 6]
noncomputable def glo(k:Nat):D:=gloT.getD k .i_
noncomputable def B(cls c_ e_:Nat->Addr):WB:={ne:=1,cls:=cls,sub:=sub,nk:=7,c_:=c_,ksub:=ksub,fok:=fok,mth:=mth,ini:=ini,xin:=xin,glo:=glo,e_:=e_}
section
variable {cls c_ e_:Nat->Addr}
@[simp] theorem IX:(B cls c_ e_).nk=7:=rfl
@[simp] theorem HR:(B cls c_ e_).c_=c_:=rfl
@[simp] theorem HI:(B cls c_ e_).fok=fok:=rfl
@[simp] theorem Hk:(B cls c_ e_).mth=mth:=rfl
@[simp] theorem IC:(B cls c_ e_).ini=ini:=rfl
@[simp] theorem HF:(B cls c_ e_).glo=glo:=rfl
end
@[simp] theorem Hs:ini 0=some 1:=rfl
@[simp] theorem Au:fok 1 211529960=true:=by decide
@[simp] theorem xf:fok 1 456806758904562=true:=by decide
@[simp] theorem sU:mth 1 1067955986548848835567=some 4:=by decide
@[simp] theorem HC:ini 1=some 2:=rfl
@[simp] theorem zM:fok 2 32709062885=true:=by decide
@[simp] theorem B8:fok 2 213725420=true:=by decide
@[simp] theorem BD:fok 2 211529960=true:=by decide
@[simp] theorem xa:fok 2 456806758904562=true:=by decide
@[simp] theorem sQ:mth 2 1067955986548848835567=some 7:=by decide
@[simp] theorem Hy:ini 2=some 5:=rfl
@[simp] theorem Dk:fok 3 14324=true:=by decide
@[simp] theorem A7:fok 3 211529960=true:=by decide
@[simp] theorem w6:fok 3 456806758904562=true:=by decide
@[simp] theorem tU:mth 3 1067955986548848835567=some 10:=by decide
@[simp] theorem Il:ini 3=some 8:=rfl
@[simp] theorem yP:fok 4 3944367338220=true:=by decide
@[simp] theorem Cl:fok 4 211529960=true:=by decide
@[simp] theorem xc:fok 4 456806758904562=true:=by decide
@[simp] theorem tS:mth 4 1067955986548848835567=some 13:=by decide
@[simp] theorem Hv:ini 4=some 11:=rfl
@[simp] theorem AM:fok 5 245117675=true:=by decide
@[simp] theorem nw:mth 5 4016813453548=some 37:=by decide
@[simp] theorem eE:mth 5 245168109=some 35:=by decide
@[simp] theorem jF:mth 5 213610734=some 28:=by decide
@[simp] theorem sP:mth 5 1915632=some 29:=by decide
@[simp] theorem hJ:mth 5 122623138502931931312882=some 27:=by decide
@[simp] theorem nX:mth 5 31083689204=some 34:=by decide
@[simp] theorem Iw:ini 5=some 26:=rfl
@[simp] theorem rF:fok 6 136762133858116729320171=true:=by decide
@[simp] theorem um:fok 6 8355170983792620267=true:=by decide
@[simp] theorem Iv:ini 6=some 46:=rfl
@[simp] theorem IG:glo 0=.tup [.int (-1),.int 0]:=rfl
@[simp] theorem Hj:glo 1=.int 6:=rfl
noncomputable def T:List FB:=L.map FL.fb
theorem Gw:L.map FL.fb=T:=rfl
abbrev U(B:WB)(n k:Nat)(xs:List D)(b:ISs)(Z:St3):Prop:=∀{M:MH}{Q:VK3}{E:XN},ac T B (n+1) k xs M Q E=runF T B n b Z M Q E
abbrev UM(B:WB)(n k:Nat)(xs:List D)(b:ISs)(Z:St3):Prop:=∀{M:MH}{Q:VK3}{E:XN},ac T B (n+1) k xs M Q E=aW {toWB:=B,call:=ac T B n} b {nx:=λ_ M'=>Q .i_ M',rt:=λv M'=>Q v M'} (λ_ i M'=>E i (aw M M')) Z M
theorem uu{a b c:Prop}(h:a=(b/\c))(hb:b):a=c:=h.trans (propext ⟨λh=>h.2,λh=>⟨hb,h⟩⟩)
section
variable {B:WB}{n:Nat}{x0 x1 x2 x3 x4:D}
theorem pT:U B n 0 [x0] fN [some x0]:=uu rfl rfl
theorem aU:U B n 1 [x0,x1,x2] aB [some x0,some x1,some x2]:=uu rfl rfl
theorem lC:U B n 2 [x0,x1,x2] de [some x0,some x1,some x2]:=uu rfl rfl
theorem gY:U B n 4 [x0,x1,x2] bC [some x0,some x1,some x2]:=uu rfl rfl
theorem j3:U B n 5 [x0,x1,x2,x3,x4] cR [some x0,some x1,some x2,some x3,some x4]:=uu rfl rfl
theorem gB:U B n 7 [x0,x1,x2] bj [some x0,some x1,some x2]:=uu rfl rfl
theorem lu:U B n 8 [x0,x1,x2,x3] dc [some x0,some x1,some x2,some x3]:=uu rfl rfl
theorem ij:U B n 10 [x0,x1,x2] bx [some x0,some x1,some x2]:=uu rfl rfl
theorem lA:U B n 11 [x0,x1,x2,x3] dg [some x0,some x1,some x2,some x3]:=uu rfl rfl
theorem cW:U B n 13 [x0,x1,x2] aZ [some x0,some x1,some x2,none,none]:=uu rfl rfl
theorem m7:U B n 14 [x0,x1] d7 [some x0,some x1]:=uu rfl rfl
theorem oz:U B n 15 [x0] eT [some x0]:=uu rfl rfl
theorem cY:U B n 16 [x0] bp [some x0,none]:=uu rfl rfl
theorem qI:U B n 17 [x0,x1] gG [some x0,some x1,none]:=uu rfl rfl
theorem yK:U B n 18 [x0] qX [some x0,none,none,none]:=uu rfl rfl
theorem kU:U B n 19 [x0,x1,x2,x3] cL [some x0,some x1,some x2,some x3]:=uu rfl rfl
theorem wd:U B n 20 [x0,x1] jG [some x0,some x1,none,none,none,none,none,none]:=uu rfl rfl
theorem iA:U B n 21 [x0,x1] bN [some x0,some x1]:=uu rfl rfl
theorem yb:U B n 22 [x0,x1,x2,x3] nI [some x0,some x1,some x2,some x3,none,none,none,none]:=uu rfl rfl
theorem wM:U B n 23 [x0,x1,x2] kK [some x0,some x1,some x2,none,none,none,none]:=uu rfl rfl
theorem xj:UM B n 24 [x0,x1] mY [some x0,some x1,none]:=uu rfl rfl
theorem kG:UM B n 25 [x0,x1,x2] cO [some x0,some x1,some x2,none,none,none]:=uu rfl rfl
theorem mZ:UM B n 26 [x0] dZ [some x0]:=uu rfl rfl
theorem gU:U B n 27 [x0,x1,x2,x3] bG [some x0,some x1,some x2,some x3,none]:=uu rfl rfl
theorem ky:UM B n 28 [x0,x1] dW [some x0,some x1]:=uu rfl rfl
theorem sY:UM B n 29 [x0,x1,x2,x3] iG [some x0,some x1,some x2,some x3]:=uu rfl rfl
theorem pL:U B n 34 [x0] eJ [some x0,none,none]:=uu rfl rfl
theorem p9:U B n 35 [x0,x1,x2] gg [some x0,some x1,some x2]:=uu rfl rfl
theorem nO:U B n 37 [x0,x1,x2,x3] eB [some x0,some x1,some x2,some x3,none,none,none,none,none,none]:=uu rfl rfl
theorem uz:UM B n 38 [x0,x1] jP [some x0,some x1,none,none,none,none,none]:=uu rfl rfl
theorem m6:U B n 39 [x0,x1] d5 [some x0,some x1]:=uu rfl rfl
theorem tY:UM B n 40 [x0,x1,x2] iH [some x0,some x1,some x2,none,none]:=uu rfl rfl
theorem tE:U B n 41 [x0,x1,x2,x3] iY [some x0,some x1,some x2,some x3,none,none]:=uu rfl rfl
theorem uM:U B n 42 [x0,x1,x2,x3,x4] kX [some x0,some x1,some x2,some x3,some x4]:=uu rfl rfl
theorem vR:U B n 43 [x0,x1,x2,x3] j8 [some x0,some x1,some x2,some x3,none]:=uu rfl rfl
theorem kW:U B n 44 [x0,x1] cS [some x0,some x1]:=uu rfl rfl
theorem iF:U B n 45 [x0,x1] bT [some x0,some x1]:=uu rfl rfl
theorem jY:UM B n 46 [x0,x1,x2] cQ [some x0,some x1,some x2,none,none,none,none,none,none]:=uu rfl rfl
theorem gL:U B n 47 [x0,x1,x2,x3,x4] bv [some x0,some x1,some x2,some x3,some x4]:=uu rfl rfl
theorem cz:U B n 48 [x0,x1] aP [some x0,some x1]:=uu rfl rfl
theorem cx:U B n 49 [x0,x1,x2] aO [some x0,some x1,some x2]:=uu rfl rfl
theorem fG:U B n 50 [x0] bW [some x0]:=uu rfl rfl
theorem dI:U B n 51 [x0,x1] be [some x0,some x1]:=uu rfl rfl
theorem jm:U B n 52 [x0,x1,x2] cg [some x0,some x1,some x2]:=uu rfl rfl
theorem lz:U B n 53 [x0,x1] db [some x0,some x1]:=uu rfl rfl
theorem nV:U B n 54 [x0,x1,x2] fh [some x0,some x1,some x2]:=uu rfl rfl
theorem fJ:U B n 55 [x0,x1] bU [some x0,some x1]:=uu rfl rfl
theorem nQ:U B n 56 [x0,x1] dX [some x0,some x1,none,none,none]:=uu rfl rfl
theorem lW:U B n 57 [x0,x1] fu [some x0,some x1,none]:=uu rfl rfl
theorem pJ:U B n 58 [x0] eY [some x0,none,none,none,none,none,none,none,none,none]:=uu rfl rfl
theorem pX:U B n 59 [x0] fZ [some x0]:=uu rfl rfl
theorem tR:U B n 60 [x0,x1,x2,x3,x4] iX [some x0,some x1,some x2,some x3,some x4,none,none,none]:=uu rfl rfl
theorem iJ:U B n 61 [x0,x1,x2,x3,x4] dG [some x0,some x1,some x2,some x3,some x4,none,none,none]:=uu rfl rfl
theorem qf:U B n 62 [x0,x1,x2,x3] fY [some x0,some x1,some x2,some x3]:=uu rfl rfl
theorem qK:U B n 63 [x0,x1,x2] fQ [some x0,some x1,some x2,none,none,none,none,none,none,none,none,none,none,none,none,none,none,none]:=uu rfl rfl
theorem uc:U B n 64 [x0,x1,x2] iS [some x0,some x1,some x2,none,none]:=uu rfl rfl
theorem tM:U B n 65 [x0,x1] im [some x0,some x1,none,none,none,none,none,none,none,none]:=uu rfl rfl
theorem o5:U B n 66 [x0] jk [some x0,none,none,none]:=uu rfl rfl
theorem n9:U B n 67 [x0] eO [some x0]:=uu rfl rfl
theorem qM:U B n 68 [x0,x1,x2] gq [some x0,some x1,some x2,none,none,none]:=uu rfl rfl
theorem p4:U B n 69 [x0,x1,x2] fS [some x0,some x1,some x2,none,none]:=uu rfl rfl
theorem oX:U B n 70 [x0,x1,x2,x3,x4] ca [some x0,some x1,some x2,some x3,some x4,none,none,none,none,none,none,none]:=uu rfl rfl
theorem C1:U B n 71 [x0] oP [some x0,none,none,none,none,none,none,none,none,none,none]:=uu rfl rfl
end
theorem top_mk{P:Params}{h:Heap}{mg:Str->Option Value}(X:(HD.K P).In h)(Gn:h.Ns mainGlobals mg)
  {q0:Addr}{qn0:Nat}{qt0_0:Tok}{qt0_1:Tok}
  (Qi:PySem.W.nsIn (HD.K P) mainGlobals "NOUGHT"=some (some (.ref q0)))
  (Qj:(HD.K P).lookup q0=some {cls:=.type "tuple",data:=.seq #[.int (-1) qt0_0,.int (0) qt0_1] qn0})
  {qt1:Tok}
  (Qk:PySem.W.nsIn (HD.K P) mainGlobals "MOST_HANDS"=some (some (.int (6) qt1)))
  : ∃cls c_ e_,Top (HD.K P) mg L nm (B cls c_ e_):=by
 refine⟨λi=>([24]:List Nat).getD i 0,λi=>([131,166,199,232,265,456,588]:List Nat).getD i 0,λi=>([113,128,149,156,163,182,189,196,215,222,229,248,255,262,272,279,286,293,300,307,314,321,328,335,349,361,375,382,389,396,403,410,417,424,431,438,445,453,467,472,479,486,494,501,508,515,529,536,543,550,557,564,571,578,585,599,606,613,620,625,632,637,644,649,656,663,670,677,689,696,703,708]:List Nat).getD i 0,Top.of (fT:=fokT) (mT:=mthT) (iT:=Ds) X Gn (by kernel_rfl) (by kernel_rfl) (by kernel_rfl) (by (iterate 72 refine ixc (by first|exact n1 (by intros;rfl)|exact n2 (by intros;rfl)|exact n3 (by intros;rfl)|exact n4 (by intros;rfl)|exact n5 (by intros;rfl)) ?_);exact ixn) (by kernel_rfl) (by kernel_rfl) (by kernel_rfl) (by kernel_rfl) (λ_ _=>rfl) (λ_ _=>rfl) (λ_=>rfl) (by kernel_rfl) ?_ ?_ ?_ (zb 37 42 rfl rfl (by kernel_rfl) (df1 (i:=0) (t:=785) (by kernel_rfl) (λus hu=>match us,hu with|[_,_,_],_=>λS=>by kernel_rfl) (λus hu=>match us,hu with|[_,_,_,_],_=>λS=>by kernel_rfl)) (df1 (i:=0) (t:=857) (by kernel_rfl) (λus hu=>match us,hu with|[_,_,_,_],_=>λS=>by kernel_rfl) (λus hu=>match us,hu with|[_,_,_,_,_],_=>λS=>by kernel_rfl)))⟩
 ·intro k x hi
  match k,hi with
  |0,hi=>cases hi;exact⟨_,.ref q0,PySem.W.mg_of X Gn Qi,rfl,λH=>⟨q0,[.int (-1),.int (0)],rfl,.inr ⟨_,_,qn0,Qj,rfl,rfl,(by show 2<=sizeLine;decide),.cons ⟨_,rfl⟩ (.cons ⟨_,rfl⟩ (.nil))⟩,⟨_,_,rfl,rfl,⟨_,_,rfl,rfl,rfl⟩⟩⟩⟩
  |1,hi=>cases hi;exact⟨_,.int (6),PySem.W.mg_of X Gn Qk,⟨_,rfl⟩,λH=>rfl⟩
  |n+2,hi=>simp[nm]at hi
 ·intro i f hx;cases (show ([]:List (Nat×Nat)).lookup i=some f from hx)
 ·intro i f hi hx;cases (show ([]:List (Nat×Nat)).lookup i=some f from hx)
end G
namespace G
open L2
section
variable {cls c_ e_:Nat->PySem.Addr}{M:MH}{Q:VK3}{E:XN}{n:Nat}{p q d:PySem.Addr}{cl ds:List D}{ks:List (List Int)}
noncomputable abbrev fC:Nat:=136762133858116729320171
noncomputable abbrev fW:Nat:=8355170983792620267
structure Wd (c_:Nat->PySem.Addr)(M:MH)(p q d:PySem.Addr)(cl:List D) (ks:List (List Int)) (ds:List D):Prop where
 ip:M p=some (.ins 6 (c_ 6) [fC,fW] [.ref q,.ref d])
 iq:M q=some (.lst cl)
 id:M d=some (.dt ks ds)
theorem D8(h:Wd c_ M p q d cl ks ds):dP (B cls c_ e_) fC (.ref p) M Q=Q (.ref q) M:=by
 simp[dP,h.ip,fC]
theorem zQ(h:Wd c_ M p q d cl ks ds):dP (B cls c_ e_) fW (.ref p) M Q=Q (.ref d) M:=by
 simp[dP,h.ip,fC,fW]
theorem iV(h:Wd c_ M p q d cl ks ds)(hm:mth 6 m=some f)(h1:fC≠m)(h2:fW≠m):cG (B cls c_ e_) m (.ref p) M R=R f:=by
 simp[cG,h.ip,hm,h1,h2]
theorem xZ(h:Wd c_ M p q d cl ks ds):ac T (B cls c_ e_) (n+1) 50 [.ref p] M Q E=Q (.int cl.length) M:=by
 simp[fG,bW,D8 h];simp[rBi,ak,az,h.iq]
theorem qj(h:Wd c_ M p q d cl ks ds):ac T (B cls c_ e_) (n+2) 51 [.ref p,.int i] M Q E=Q (.bl (decide (0<=i)&&decide (i<cl.length))) M:=by
 simp[dI,be];by_cases h0:0<=i
 ·simp[h0];rw[iV h (f:=50) (by decide) (by decide) (by decide),xZ h]
  simp
 ·simp[h0]
noncomputable def okH(n:Nat)(i:Int):Bool:=decide (0<=i)&&decide (i<n)
theorem fH(h:Wd c_ M p q d cl ks ds)(ho:okH cl.length i=true):ac T (B cls c_ e_) (n+3) 48 [.ref p,.int i] M Q E=Q .i_ M:=by
 simp[cz,aP];rw[iV h (f:=51) (by decide) (by decide) (by decide),qj h]
 unfold okH at ho;rw[ho];simp
theorem lH(h:Wd c_ M p q d cl ks ds)(h1:okH cl.length i=true)(h2:okH cl.length j=true)(h3:i≠j):ac T (B cls c_ e_) (n+4) 49 [.ref p,.int i,.int j] M Q E=Q .i_ M:=by
 simp[cx,aO];rw[iV h (f:=48) (by decide) (by decide) (by decide),fH h h1]
 rw[iV h (f:=48) (by decide) (by decide) (by decide),fH h h2]
 simp[h3]
noncomputable def mW(l:Int)(m:Option Int):Bool:=decide (l<0)||(match m with|some m=>decide (m<l)|none=>false)
theorem t6(hb:mW l m=false):ac T (B cls c_ e_) (n+1) 45 [.int l,oi m] M Q E=Q .i_ M:=by
 simp only[mW,Bool.or_eq_false_iff]at hb;simp only[iF,bT];cases m with
 |none=>simp[hb.1]
 |some m=>
  have h2:¬ m<l:=of_decide_eq_false hb.2;simp[hb.1,h2]
noncomputable def nK(p:Int×Int):Bool:=decide (p.1<1)||decide (p.2<p.1)
theorem yZ(hb:nK (a,b)=false):ac T (B cls c_ e_) (n+1) 44 [.int a,.int b] M Q E=Q .i_ M:=by
 simp only[nK,Bool.or_eq_false_iff]at hb;simp[kW,cS,hb.1,hb.2]
theorem Dm(h:Wd c_ M p q d cl ks ds)(hl:ks.length=ds.length):aC .In (.tup [.int i,.int j]) (.ref d) M Q=Q (.bl (decide ([i,j]∈ks))) M:=by
 have e:(getD ks ds [i,j]).isSome=decide ([i,j]∈ks):=by
  clear h
  induction ks generalizing ds with
  |nil=>cases ds<;>simp[getD]
  |cons k ks ih=>
   cases ds with
   |nil=>simp at hl
   |cons x ds=>
    simp only[getD];by_cases e:k=[i,j]
    ·simp[e]
    ·rw[Ji e,ih (by simpa using hl)]
     simp[Jv e]
 simp[aC,lj,az,ak,h.id,dM,cU,c9,gh,bh,e]
theorem j1:∀{ks:List (List Int)},k∉ks->aj ks k=ks++[k]
 |[],_=>rfl
 |a::ks,h=>by
  have h1:a≠k:=λe=>h (by simp[e])
  have h2:k∉ks:=λe=>h (by simp[e])
  simp[aj,h1,j1 h2]
noncomputable def way(l:Int)(m:Option Int):D:=.tup [.int l,oi m]
theorem yp(h:Wd c_ M p q d cl ks ds)(hl:ks.length=ds.length)(hz:ks.length<1000)(h1:okH cl.length i=true)(h2:okH cl.length j=true)(h3:i≠j)(h4:[i,j]∉ks)(h5:mW l m=false):ac T (B cls c_ e_) (n+5) 47 [.ref p,.int i,.int j,.int l,oi m] M Q E=Q .i_ (put M d (.dt (aj ks [i,j]) (au ks ds [i,j] (way l m)))):=by
 have hs:ks.length<PySem.sizeLine:=Ju hz (by decide)
 simp[gL,bv];rw[iV h (f:=49) (by decide) (by decide) (by decide),lH h h1 h2 h3]
 simp[av];rw[show dP (B cls c_ e_) 8355170983792620267 (.ref p) M _=_ from zQ h];rw[Dm h hl];simp[h4];rw[t6 h5];rw[show dP (B cls c_ e_) 8355170983792620267 (.ref p) M _=_ from zQ h];simp[aE,h.id,gh,bh,hs,way]
noncomputable def cD(p:Int×Int):D:=.tup [.int p.1,.int p.2]
structure Wy where
 i:Int
 j:Int
 l:Int
 m:Option Int
noncomputable def wD(w:Wy):D:=.tup [.int w.i,.int w.j,.int w.l,oi w.m]
theorem dn(h:a≠b):put (put (put M a x) b y) a z=put (put M a z) b y:=by
 funext c;unfold put;by_cases h1:c=a
 ·subst h1;simp[h]
 ·simp[h1]
theorem mw(h:a≠b)(h':a≠c):put (put (put (put M a x) b y) c w) a z=put (put (put M a z) b y) c w:=by
 funext e;unfold put;by_cases h1:e=a
 ·subst h1;simp[h,h']
 ·simp[h1]
theorem mL{ns:List Nat}(h:M p=some (.ins i C ns es)):i8 (B cls c_ e_) f y R (.ref p) M=((C=(B cls c_ e_).c_ i/\i<(B cls c_ e_).nk/\(B cls c_ e_).fok i f=true/\ns.length<1000)/\R (put M p (.ins i C (cC f ns) (cB f y ns es)))):=by
 simp[i8,h]
noncomputable def pr(w:Wy):List Int:=[w.i,w.j]
noncomputable def wv(w:Wy):D:=way w.l w.m
structure Wy.good (n:Nat)(w:Wy):Prop where
 i:okH n w.i=true
 j:okH n w.j=true
 ne:w.i≠w.j
 l:mW w.l w.m=false
theorem k8:∀{ks:List (List Int)}{ds:List D},ks.length=ds.length->k∉ks->au ks ds k v=ds++[v]
 |[],[],_,_=>rfl
 |a::ks,e::ds,hl,h=>by
  have h1:a≠k:=λz=>h (by simp[z])
  have h2:k∉ks:=λz=>h (by simp[z])
  simp[au,h1,k8 (by simpa using hl) h2]
theorem lX{S:MH->Prop}(hS:S M){De:Ends3}{ES:St3->XN}{R:Prop}{x0 x1 x2 x5 x6 x7 x8:Option D}:∀(d_:List (Int×Int)) (x3 x4:Option D),(∀c∈d_,nK c=false)->(∀x y,De.nx [x0,x1,x2,x,y,x5,x6,x7,x8] M=R)->
  aV ⟨(B cls c_ e_),ac T (B cls c_ e_) (n+1)⟩ (.tup [3,4]) bw ES S De (d_.map cD) [x0,x1,x2,x3,x4,x5,x6,x7,x8] M=R
 |[],x3,x4,_,hR=>by simp[aQ,hR,hS]
 |(c1,c2)::r,x3,x4,hc,hR=>by
  have ih:=lX hS (De:=De) (ES:=ES) (R:=R) (x0:=x0) (x1:=x1) (x2:=x2) (x5:=x5) (x6:=x6) (x7:=x7) (x8:=x8) r (some (.int c1)) (some (.int c2)) (λc h=>hc c (Jg _ h)) hR
  have h':=hc (c1,c2) Jk;rw[Jm,aA];simp only[bw,cD]at ih ⊢;rw[<-ih];simp[yZ,h',hS]
theorem j4{S:MH->Prop}{Mb:MH}(hS:∀ks ds,S (put Mb d (.dt ks ds)))(hw:∀ks ds,Wd c_ (put Mb d (.dt ks ds)) p q d cl ks ds){De:Ends3}{ES:St3->XN}{R:Prop}{x1 x2 x3 x4:Option D}:∀(wy:List Wy) (ks:List (List Int)) (ds:List D)(x5 x6 x7 x8:Option D),ks.length=ds.length->ks.length+wy.length<500->
  (∀w∈wy,w.good cl.length)->(wy.map pr).Nodup->(∀w∈wy,pr w∉ks)->(∀x5 x6 x7 x8,De.nx [some (.ref p),x1,x2,x3,x4,x5,x6,x7,x8] (put Mb d (.dt (ks++wy.map pr) (ds++wy.map wv)))=R)->
  aV ⟨(B cls c_ e_),ac T (B cls c_ e_) (n+5)⟩ (.tup [5,6,7,8]) bA ES S De (wy.map wD) [some (.ref p),x1,x2,x3,x4,x5,x6,x7,x8] (put Mb d (.dt ks ds))=R
 |[],ks,ds,x5,x6,x7,x8,hl,hz,hg,hn,hk,hR=>by
  have:=hR x5 x6 x7 x8;simp at this;simp[aQ,this,hS]
 |w::r,ks,ds,x5,x6,x7,x8,hl,hz,hg,hn,hk,hR=>by
  simp only[Jw]at hz;have g:=hg w Jk;have LP:[w.i,w.j]∉ks:=hk w Jk;rw[Jm,JO]at hn;have ih:=j4 hS hw (De:=De) (ES:=ES) (R:=R) (x1:=x1) (x2:=x2) (x3:=x3) (x4:=x4) r (ks++[[w.i,w.j]]) (ds++[way w.l w.m]) (some (.int w.i)) (some (.int w.j)) (some (.int w.l)) (some (oi w.m)) (by simp[hl]) (by simp;omega) (λv hv=>hg v (Jg _ hv)) hn.2 (λv hv=>by
   intro z;rcases JI.mp z with z|z
   ·exact hk v (Jg _ hv) z
   ·exact hn.1 (by rw[show pr w=pr v from (JB.mp z).symm];exact List.mem_map_of_mem hv)) (λa b c e=>by
    have:=hR a b c e;simpa [pr,wv] using this)
  rw[Jm,aA];simp only[bA,wD]at ih ⊢;have h1:okH cl.length w.i=true/\okH cl.length w.j=true/\w.i≠w.j:=⟨g.i,g.j,g.ne⟩;simp[jp,hS];rw[iV (hw ks ds) (f:=47) (by decide) (by decide) (by decide),yp (hw ks ds) hl (by omega) g.i g.j g.ne LP g.l,aL,j1 LP,k8 hl LP]
  simpa using ih
noncomputable def wO(c_:Nat->PySem.Addr)(d_:List (Int×Int))(wy:List Wy):D:=.obj 6 (c_ 6) [fC,fW] [.f_ (d_.map cD),.H_ (wy.map pr) (wy.map wv)]
theorem yQ{d_:List (Int×Int)}{wy:List Wy}(hM:Fm M)(h1:1<=d_.length)(h6:d_.length<=6)(hc:∀c∈d_,nK c=false)(h2:wy.length<400)(Ql:∀w∈wy,w.good d_.length)(hn:(wy.map pr).Nodup) :
  (∀p,M p=none->ac T (B cls c_ e_) (n+6) 46 [.ref p,.f_ (d_.map cD),.f_ (wy.map wD)] (put M p (.ins 6 (c_ 6) [] [])) (λv M2=>v=.i_/\bb Q (.ref p) M2) (λi M'=>E i (del M' p)))=Q (wO c_ d_ wy) M:=by
 refine aF hM λp hp=>?_
 have hz:d_.length<=PySem.sizeLine:=JF (show d_.length<=1000 by omega) (by decide)
 have hB:¬ (d_.length:Int)<1:=by omega
 have hC:¬ (6:Int)<d_.length:=by omega
 have Tv:¬ d_.length<1:=by omega
 have Sw:¬ 6<d_.length:=by omega
 have Lq:¬ d_=[]:=λz=>by simp[z]at h1
 simp[jY,cQ,hB,hC,Sw];refine iff_of_eq (lX trivial d_ none none hc λx y=>?_)
 simp[rBi,az,ak,hz];refine iff_of_eq (aF (hM.put _ _) λq hq=>?_)
 obtain⟨N7,hq⟩:=cr hq;rw[show i8 (B cls c_ e_) 136762133858116729320171 (.ref q) _ (.ref p) (put (put M p (.ins 6 (c_ 6) [] [])) q (.lst (d_.map cD)))=_ from mL (by rw[ae (Jv N7),aa])]
 simp;rw[dn (Jv N7)];refine iff_of_eq (aF ((hM.put _ _).put _ _) λd hd=>?_)
 obtain⟨Rg,hd⟩:=cr hd;obtain⟨NL,hd⟩:=cr hd;rw[show i8 (B cls c_ e_) 8355170983792620267 (.ref d) _ (.ref p) (put (put (put M p (.ins 6 (c_ 6) [136762133858116729320171] [.ref q])) q (.lst (d_.map cD))) d (.dt [] []))=_ from mL (by rw[ae (Jv NL),ae (Jv N7),aa])]
 simp;rw[mw (Jv N7) (Jv NL)];have hw:∀ks ds,Wd c_ (put (put (put M p (.ins 6 (c_ 6) [fC,fW] [.ref q,.ref d])) q (.lst (d_.map cD))) d (.dt ks ds)) p q d (d_.map cD) ks ds:=λks ds=>
  ⟨by rw[ae (Jv NL),ae (Jv N7),aa],by rw[ae (Jv Rg),aa],aa⟩
 refine iff_of_eq (j4 (λks ds=>trivial) hw wy [] [] none none none none rfl (by simp;omega) (by simpa using Ql) hn (λw _ z=>by cases z) λx5 x6 x7 x8=>?_)
 simp only[bb];rw[(hw _ _).ip];simp only[eG];have e1:∀K0 F_,del (put (put (put M p (.ins 6 (c_ 6) [fC,fW] [.ref q,.ref d])) q (.lst (d_.map cD))) d (.dt K0 F_)) p q=some (.lst (d_.map cD)):=λK0 F_=>by
  unfold del;rw[Ji N7];exact (hw K0 F_).iq
 rw[e1];have e2:∀K0 F_,del (del (put (put (put M p (.ins 6 (c_ 6) [fC,fW] [.ref q,.ref d])) q (.lst (d_.map cD))) d (.dt K0 F_)) p) q d=some (.dt K0 F_):=λK0 F_=>by
  unfold del;rw[Ji Rg,Ji NL];exact (hw K0 F_).id
 simp only[e2];have e3:∀K0 F_,del (del (del (put (put (put M p (.ins 6 (c_ 6) [fC,fW] [.ref q,.ref d])) q (.lst (d_.map cD))) d (.dt K0 F_)) p) q) d=M:=λK0 F_=>by
  funext a;unfold del put;by_cases a1:a=d
  ·subst a1;simp[hd]
  ·by_cases a2:a=q
   ·subst a2;simp[hq]
   ·by_cases a3:a=p
    ·subst a3;simp[hp,a2]
    ·simp[a1,a2,a3]
 rw[e3];rfl
theorem qk(ns:List Int)(k:Nat):∃x:Int,∀{n:Nat}{M:MH}{Q:VK3}{E:XN},ac T (B cls c_ e_) (n+1) 55 [scr ns,.int k] M Q E=Q (.int x) M:=by
 by_cases h:k<ns.length
 ·obtain⟨x,hx⟩:=Db (cs:=ns) (i:=k) (by omega) (by omega)
  refine⟨x,?_⟩;intro n M Q E;simp[fJ,bU,hV hx,h]
 ·refine⟨0,?_⟩;intro n M Q E;simp[fJ,bU,h]
theorem jU(lo:Int)(k:Nat):rng lo (k+1)=.int lo::rng (lo+1) k:=by
 simp only[rng,List.range_succ_eq_map,Jm,List.map_map];congr 1
 ·simp
 ·apply List.map_congr_left;intro i _;simp;omega
variable {d_:List (Int×Int)}{wy:List Wy}
theorem o_c:dP (B cls c_ e_) 136762133858116729320171 (wO c_ d_ wy) M Q=Q (.f_ (d_.map cD)) M:=by simp[wO,fW]
theorem o_w:dP (B cls c_ e_) 8355170983792620267 (wO c_ d_ wy) M Q=Q (.H_ (wy.map pr) (wy.map wv)) M:=by simp[wO,fC]
theorem o_m(hm:mth 6 m=some f)(h1:fC≠m)(h2:fW≠m):cG (B cls c_ e_) m (wO c_ d_ wy) M R=R f:=by
 simp[wO,hm,h1,h2]
theorem o1:cG (B cls c_ e_) 31081607400 (wO c_ d_ wy) M R=R 50:=o_m (by decide) (by decide) (by decide)
theorem wp:ac T (B cls c_ e_) (n+1) 50 [wO c_ d_ wy] M Q E=Q (.int d_.length) M:=by
 simp[fG,bW,o_c]
theorem oy:ac T (B cls c_ e_) (n+2) 51 [wO c_ d_ wy,.int i] M Q E=Q (.bl (okH d_.length i)) M:=by
 simp[dI,be,okH];by_cases h0:0<=i
 ·simp[h0,o1,wp]
 ·simp[h0]
theorem jX:ac T (B cls c_ e_) (n+3) 48 [wO c_ d_ wy,.int i] M Q E=if okH d_.length i=true then Q .i_ M else False:=by
 simp[cz,aP];rw[o_m (f:=51) (by decide) (by decide) (by decide),oy]
 cases okH d_.length i<;>simp
theorem vD:∀{wy:List Wy},(getD (wy.map pr) (wy.map wv) k).isSome=decide (k∈wy.map pr)
 |[]=>by simp[getD]
 |w::r=>by
  have ih:=vD (k:=k) (wy:=r);simp only[Jm,getD];by_cases e:pr w=k
  ·simp[e]
  ·rw[Ji e,ih];simp[Jv e]
theorem AF:aC .In (.tup [.int i,.int j]) (.H_ (wy.map pr) (wy.map wv)) M Q=Q (.bl (decide ([i,j]∈wy.map pr))) M:=by
 have e:=vD (k:=[i,j]) (wy:=wy);simp[aC,lj,az,ak,dM,cU,c9,gh,bh,e]
theorem qv:ac T (B cls c_ e_) (n+1) 52 [wO c_ d_ wy,.int i,.int j] M Q E=Q (.bl (decide ([i,j]∈wy.map pr))) M:=by
 simp only[jm,cg];simp[av,↓o_w,↓AF]
end
section
variable {cls c_ e_:Nat->PySem.Addr}{M:MH}{Q:VK3}{E:XN}{n:Nat}{p q:PySem.Addr}{d_:List (Int×Int)}{wy:List Wy}
theorem jH:ac T (B cls c_ e_) (n+1) 0 [.int i] M Q E=Q (.bl true) M:=by
 simp[pT,fN]
theorem Ar{a b:Int}{E:PySem.Addr->XN}(hM:Fm M):(∀p,M p=none->ac T (B cls c_ e_) (n+2) 2 [.ref p,.int a,.int b] (put M p (.ins 1 (c_ 1) [] [])) (λv M2=>v=.i_/\bb Q (.ref p) M2) (E p))=Q (.obj 1 (c_ 1) [211529960,456806758904562] [.int a,.int b]) M:=
 aF hM λp hp=>by simp[lC,de,aU,aB,hp]
theorem xL{a b c d:Int}{E:PySem.Addr->XN}(hM:Fm M):(∀p,M p=none->ac T (B cls c_ e_) (n+2) 5 [.ref p,.int a,.int b,.int c,.int d] (put M p (.ins 2 (c_ 2) [] [])) (λv M2=>v=.i_/\bb Q (.ref p) M2) (E p))=Q (.obj 2 (c_ 2) [211529960,456806758904562,32709062885,213725420] [.int a,.int b,.int c,.int d]) M:=
 aF hM λp hp=>by simp[j3,cR,aU,aB,hp]
theorem By{a b c:Int}{E:PySem.Addr->XN}(hM:Fm M):(∀p,M p=none->ac T (B cls c_ e_) (n+2) 8 [.ref p,.int a,.int b,.int c] (put M p (.ins 3 (c_ 3) [] [])) (λv M2=>v=.i_/\bb Q (.ref p) M2) (E p))=Q (.obj 3 (c_ 3) [211529960,456806758904562,14324] [.int a,.int b,.int c]) M:=
 aF hM λp hp=>by simp[lu,dc,aU,aB,hp]
theorem z8{a b:Int}{c:List D}{E:PySem.Addr->XN}(hM:Fm M):(∀p,M p=none->ac T (B cls c_ e_) (n+2) 11 [.ref p,.int a,.int b,.tup c] (put M p (.ins 4 (c_ 4) [] [])) (λv M2=>v=.i_/\bb Q (.ref p) M2) (E p))=Q (.obj 4 (c_ 4) [211529960,456806758904562,3944367338220] [.int a,.int b,.tup c]) M:=
 aF hM λp hp=>by simp[lA,dg,aU,aB,hp]
inductive Rw where
 |look (h r:Int)|Kz (h r e l:Int)|send (h r t:Int)|take (h r a b:Int)
noncomputable def Rw.d:Rw->D
 |.look h r=>.tup [.str "look",.int h,.int r]
 |.Kz h r e l=>.tup [.str "sight",.int h,.int r,.int e,.int l]
 |.send h r t=>.tup [.str "send",.int h,.int r,.int t]
 |.take h r a b=>.tup [.str "take",.int h,.int r,.tup [.int a,.int b]]
noncomputable def Rw.o(c_:Nat->PySem.Addr):Rw->D
 |.look h r=>.obj 1 (c_ 1) [211529960,456806758904562] [.int h,.int r]
 |.Kz h r e l=>.obj 2 (c_ 2) [211529960,456806758904562,32709062885,213725420] [.int h,.int r,.int e,.int l]
 |.send h r t=>.obj 3 (c_ 3) [211529960,456806758904562,14324] [.int h,.int r,.int t]
 |.take h r a b=>.obj 4 (c_ 4) [211529960,456806758904562,3944367338220] [.int h,.int r,.tup [.int a,.int b]]
theorem qL{ns:List Int}(hM:Fm M)(hl:ns.length<1000):ac T (B cls c_ e_) (n+2) 14 [.tup (ns.map D.int),.int k] M Q E=Q (.bl (decide ((ns.length:Int)=k))) M:=by
 simp[m7,d7];by_cases h:(ns.length:Int)=k
 ·simp[h,ay];rw[gZ D.int (λ_=>true) (λ_=>.bl true) hM (by omega) (λ_ _ _ _ _=>rfl) (λi _ _ M' Tw Q'=>by simp[jH])]
  rw[rD (λ_=>true) (λ_ _=>rfl)]
  have:∀l:List Int,(l.all λ_=>true)=true:=λl=>JE.mpr λ_ _=>rfl
  simp[this]
 ·simp[h]
theorem AJ(hM:Fm M):ac T (B cls c_ e_) (n+2) 14 [.tup [.int a,.int b],.int k] M Q E=Q (.bl (decide (2=k))) M:=qL (ns:=[a,b]) hM (by simp)
theorem Hb(hM:Fm M):ac T (B cls c_ e_) (n+2) 14 [.tup [.int a,.int b,.int c],.int k] M Q E=Q (.bl (decide (3=k))) M:=qL (ns:=[a,b,c]) hM (by simp)
theorem GL(hM:Fm M):ac T (B cls c_ e_) (n+2) 14 [.tup [.int a,.int b,.int c,.int d],.int k] M Q E=Q (.bl (decide (4=k))) M:=qL (ns:=[a,b,c,d]) hM (by simp)
theorem wU(hM:Fm M):ac T (B cls c_ e_) (n+3) 15 [.tup [.int a,.int b]] M Q E=Q (.bl true) M:=by
 simp[oz,eT,AJ hM]
theorem pv(r:Rw)(hM:Fm M):ac T (B cls c_ e_) (n+4) 16 [r.d] M Q E=Q (r.o c_) M:=by
 cases r with
 |look h r=>simp +decide [cY,bp,Rw.d,Rw.o,whole,HT.sIx,fB,AJ hM,Ar hM,ud,uh,sN]
 |Kz h r e l=>simp +decide [cY,bp,Rw.d,Rw.o,whole,HT.sIx,fB,GL hM,xL hM,ud,uh,sN,wV]
 |send h r t=>simp +decide [cY,bp,Rw.d,Rw.o,whole,HT.sIx,fB,Hb hM,By hM,ud,uh,sN,wV]
 |take h r a b=>simp +decide [cY,bp,Rw.d,Rw.o,whole,HT.sIx,fB,AJ hM,wU hM,z8 hM,ud,uh,sN,wV]
end
section
variable {cls c_ e_:Nat->PySem.Addr}{M:MH}{Q:VK3}{E:XN}{n:Nat}{p q a b d:PySem.Addr}{d_:List (Int×Int)}{wy:List Wy}
noncomputable def Rw.h:Rw->Int
 |.look h _=>h
 |.Kz h _ _ _=>h
 |.send h _ _=>h
 |.take h _ _ _=>h
noncomputable def Rw.r:Rw->Int
 |.look _ r=>r
 |.Kz _ r _ _=>r
 |.send _ r _=>r
 |.take _ r _ _=>r
variable {r:Rw}
theorem Cr:dP (B cls c_ e_) 211529960 (r.o c_) M Q=Q (.int r.h) M:=by
 cases r<;>simp[Rw.o,Rw.h]
theorem Cu:dP (B cls c_ e_) 456806758904562 (r.o c_) M Q=Q (.int r.r) M:=by
 cases r<;>simp[Rw.o,Rw.r]
theorem wF:ao r.d (.int 1) M Q=Q (.int r.h) M:=by cases r<;>simp[Rw.d,Rw.h]
theorem C4:ao r.d (.int 2) M Q=Q (.int r.r) M:=by cases r<;>simp[Rw.d,Rw.r]
theorem xK{ks:List Key}(hM:M a=some (.dk ks ds))(hz:ks.length<1000)(hc:(getD ks ds (.inl h)).getD (.int 0)=.int c) :
  ac T (B cls c_ e_) (n+1) 17 [.ref a,.int h] M Q E=Q (.tup [.int h,.int c]) (put M a (.dk (aj ks (.inl h)) (au ks ds (.inl h) (.int (c+1))))):=by
 have hs:ks.length<PySem.sizeLine:=Ju hz (by decide)
 simp[qI,gG,uX hM,su hM,hc,oG hM,hs,jD hM,av]
noncomputable def bump(c:Int->Nat)(h:Int):Int->Nat:=λx=>if x=h then c x+1 else c x
noncomputable def nmF:List Int->(Int->Nat)->List (Int×Nat)
 |[],_=>[]
 |h::hs,c=>(h,c h)::nmF hs (bump c h)
noncomputable def nD(p:Int×Nat):D:=.tup [.int p.1,.int p.2]
theorem oU{ks:List Key}{ds:List D}(hl:ks.length=ds.length)(hc:∀h,(getD ks ds (.inl h)).getD (.int 0)=.int (c h))(x:Int):(getD (aj ks (.inl h)) (au ks ds (.inl h) (.int (c h+1))) (.inl x)).getD (.int 0)=.int (bump c h x):=by
 rw[aS hl];by_cases e:h=x
 ·subst e;simp[bump]
 ·have e2:¬ ((Sum.inl h:Key)=Sum.inl x):=λz=>e (Sum.inl.inj z)
  rw[Ji e2,hc x];simp[bump,Jv e]
theorem fV{a b:PySem.Addr}(G_:a≠b){M0:MH}{De:Ends3}{ES:St3->XN}{R:Prop}{log:Option D}{S:MH->Prop}(hS:∀ks ds acc,S (put (put M0 a (.dk ks ds)) b (.lst acc))):∀(rs:List Rw)(ks:List Key)(ds acc:List D)(c:Int->Nat)(x3:Option D),ks.length=ds.length->ks.length+rs.length<500->acc.length+rs.length<500->(∀h,(getD ks ds (.inl h)).getD (.int 0)=.int (c h))->
  (∀K0 F_ x,De.nx [log,some (.ref a),some (.ref b),x] (put (put M0 a (.dk K0 F_)) b (.lst (acc++(nmF (rs.map Rw.h) c).map nD)))=R)->
  aV ⟨(B cls c_ e_),ac T (B cls c_ e_) (n+1)⟩ (.name 3) d4 ES S De (rs.map Rw.d) [log,some (.ref a),some (.ref b),x3] (put (put M0 a (.dk ks ds)) b (.lst acc))=R
 |[],ks,ds,acc,c,x3,_,_,_,_,hR=>by
  have:=hR ks ds x3;simp[nmF]at this;simp[aQ,this,hS]
 |r::rs,ks,ds,acc,c,x3,hl,h1,h2,hc,hR=>by
  have ha:(put (put M0 a (.dk ks ds)) b (.lst acc)) a=some (.dk ks ds):=by rw[ae G_,aa]
  simp only[Jw]at h1 h2;have hs:acc.length<PySem.sizeLine:=Ju (show acc.length<1000 by omega) (by decide)
  have ih:=fV G_ (M0:=M0) (De:=De) (ES:=ES) (R:=R) (log:=log) hS rs (aj ks (.inl r.h)) (au ks ds (.inl r.h) (.int (c r.h+1))) (acc++[nD (r.h,c r.h)]) (bump c r.h) (some r.d) (bq hl) (by have:=bc (ks:=ks) (k:=(.inl r.h:Key));omega) (by simp;omega) (oU hl hc) (by
    intro K0 F_ x;have:=hR K0 F_ x;simpa [nmF] using this)
  rw[Jm,aA];simp[d4,↓wF,xK (n:=n) ha (by omega) (hc r.h),dn G_,hs,hS]
  simpa [nD,d4] using ih
def Lg(M:MH)(x:D)(ds:List D):Prop:=x=.f_ ds\/∃p,x=.ref p/\M p=some (.lst ds)
theorem jw(rs:List Rw)(hp:Lg M x (rs.map Rw.d))(hl:rs.length<400)(hM:Fm M):ac T (B cls c_ e_) (n+2) 18 [x] M Q E=Q (.f_ ((nmF (rs.map Rw.h) λ_=>0).map nD)) M:=by
 simp only[yK];simp;refine iff_of_eq (aF hM λa ha=>?_)
 simp;refine iff_of_eq (aF (hM.put _ _) λb hb=>?_)
 obtain⟨G_,hb⟩:=cr hb;rcases hp with rfl|⟨p,rfl,hp⟩
 ·rw[uW];refine fV (Jv G_) (λ_ _ _=>trivial) rs [] [] [] _ _ rfl (by simp;omega) (by simp;omega) (λh=>rfl) λK0 F_ x=>?_
  simp[ha,hb,ae G_]
 ·have pa:p≠a:=λz=>by rw[z,ha]at hp;cases hp
  have pb:p≠b:=λz=>by rw[z,hb]at hp;cases hp
  have hw:∀ks ds acc,(put (put M a (.dk ks ds)) b (.lst acc)) p=some (.lst (rs.map Rw.d)):=λks ds acc=>by rw[ae pb,ae pa,hp]
  rw[vC (hw _ _ _)];refine fV (Jv G_) hw rs [] [] [] _ _ rfl (by simp;omega) (by simp;omega) (λh=>rfl) λK0 F_ x=>?_
  simp[ha,hb,ae G_]
end
section
variable {r:Rw}{rs:List Rw}{wy:List Wy}
noncomputable def Rw.s:Rw->PySem.Str
 |.look ..=>"look"
 |.Kz ..=>"sight"
 |.send ..=>"send"
 |.take ..=>"take"
def Rw.may(wy:List Wy):Rw->Prop
 |.send h _ t=>[h,t]∈wy.map pr
 |.take h _ a _=>[a,h]∈wy.map pr
 |_=>True
structure Rw.fine (H:Nat)(wy:List Wy)(r:Rw):Prop where
 h:okH H r.h=true
 w:r.may wy
 b : -(10 ^ 62)<=r.r/\r.r<=10 ^ 62
structure Ent where
 h:Int
 k:Int
 to:Int
 lo:Int
 hi:Option Int
noncomputable def Ent.d(e:Ent):D:=.tup [.tup [.int e.h,.int e.k],.int e.to,.int e.lo,oi e.hi]
noncomputable abbrev A3:=Int×Int×Int
noncomputable def a3D(a:A3):D:=.tup [.int a.1,.int a.2.1,.int a.2.2]
structure TA (H:Nat)(wy:List Wy)(rs:List Rw)(at_:List A3)(sn:List Ent):Prop where
 f:∀r∈rs,r.fine H wy
 la:at_.length=H
 un:∀e∈sn,[e.h,e.to]∈wy.map pr/\0<=e.to/\e.to<H
 lt:∀e∈sn,∃k:Nat,e.h=k/\e.k<(at_.getD k (0,0,0)).1
 nd:(sn.map λe=>(e.h,e.k)).Nodup
theorem cP{l:List α}(hk:k<l.length):(l.set k x).getD j d=if j=k then x else l.getD j d:=by
 rw[List.getD_eq_getElem?_getD,List.getD_eq_getElem?_getD];by_cases e:j=k
 ·subst e;simp[hk]
 ·rw[Km (Jv e),Ji e]
theorem TA.plain{at_:List A3}(T:TA H wy rs at_ sn)(hk:k<H)(hr:r.fine H wy):TA H wy (rs++[r]) (at_.set k ((at_.getD k (0,0,0)).1+1,v,m)) sn:=by
 have NN:k<at_.length:=by rw[T.la];exact hk
 refine⟨λx hx=>?_,by simp[T.la],T.un,λe he=>?_,T.nd⟩
 ·rcases JI.mp hx with z|z
  ·exact T.f x z
  ·rw[JB.mp z];exact hr
 ·obtain⟨j,e1,e2⟩:=T.lt e he;refine⟨j,e1,?_⟩;rw[cP NN];split
  ·rename_i z;rw[z]at e2;simp only;omega
  ·exact e2
theorem TA.send{at_:List A3}{e:Ent}(T:TA H wy rs at_ sn)(hk:k<H)(hr:(Rw.send k v e.to).fine H wy)(h0:0<=e.to)(h1:e.to<H)(eh:e.h=k)(ek:e.k=(at_.getD k (0,0,0)).1) :
  TA H wy (rs++[.send k v e.to]) (at_.set k ((at_.getD k (0,0,0)).1+1,v,m)) (sn++[e]):=by
 have NN:k<at_.length:=by rw[T.la];exact hk
 have P:=T.plain (v:=v) (m:=m) hk hr;refine⟨P.f,P.la,λx hx=>?_,λx hx=>?_,?_⟩
 ·rcases JI.mp hx with z|z
  ·exact P.un x z
  ·rw[JB.mp z];have:[(k:Int),e.to]∈wy.map pr:=hr.w;exact⟨by rw[eh];exact this,h0,h1⟩
 ·rcases JI.mp hx with z|z
  ·exact P.lt x z
  ·rw[JB.mp z];refine⟨k,eh,?_⟩;rw[cP NN,Jr rfl,ek];simp only;omega
 ·rw[List.map_append,List.nodup_append];refine⟨T.nd,by simp,λp hp q hq z=>?_⟩
  obtain⟨x,hx,rfl⟩:=JJ.mp hp;have hq:q=(e.h,e.k):=by simpa using hq
  subst z;have q1:x.h=e.h:=congrArg Prod.fst hq;have q2:x.k=e.k:=congrArg Prod.snd hq;obtain⟨j,e1,e2⟩:=T.lt x hx;have:j=k:=by omega
  subst this;omega
theorem TA.take{at_:List A3}{e:Ent}(T:TA H wy rs at_ (Ls++e::sn2))(hk:k<H)(hr:(Rw.take k v e.h e.k).fine H wy) :
  TA H wy (rs++[.take k v e.h e.k]) (at_.set k ((at_.getD k (0,0,0)).1+1,v,m)) (Ls++sn2):=by
 have P:=T.plain (v:=v) (m:=m) hk hr;have sub:∀x∈Ls++sn2,x∈Ls++e::sn2:=λx hx=>by
  rcases JI.mp hx with z|z
  ·exact JR _ z
  ·exact JD _ (Jg _ z)
 refine⟨P.f,P.la,λx hx=>P.un x (sub x hx),λx hx=>P.lt x (sub x hx),?_⟩
 have nd:=T.nd;rw[List.map_append,Jm,List.nodup_append,JO]at nd;rw[List.map_append,List.nodup_append];exact⟨nd.1,nd.2.1.2,λp hp q hq=>nd.2.2 p hp q (Jg _ hq)⟩
end
section
noncomputable def lw:Nat->Int->Int->List Int
 |0,_,_=>[]
 |k+1,lo,x=>(x*x+48271*x+lo) % 10000000000000000000000000000000000000121::lw k (lo+1) ((x*x+48271*x+lo) % 10000000000000000000000000000000000000121)
theorem nj:∀(k:Nat)(lo x:Int),(lw k lo x).length=k
 |0,_,_=>rfl
 |k+1,lo,x=>by simp[lw,nj k]
theorem nZ{De:Ends3}:∀(k:Nat)(lo x:Int)(acc:List Int)(x4:Option D),0<=x->x<100000000000000000000000000000000000000000->acc.length+k<500->
  (∀y x4,De.nx [x0,x1,some (.ref a),some (.int y),x4] (put M a (.lst ((acc++lw k lo x).map D.int)))=R)->
  aV W (.name 4) cu ES (λ_=>True) De (rng lo k) [x0,x1,some (.ref a),some (.int x),x4] (put M a (.lst (acc.map D.int)))=R
 |0,lo,x,acc,x4,_,_,_,hR=>by
  have:=hR x x4;simp[lw]at this;simp[rng,aQ,this]
 |k+1,lo,x,acc,x4,h0,h1,hl,hR=>by
  have c1:cA x x=True:=e8 (by omega) (by omega) (by omega) (by omega)
  have c2:cA 48271 x=True:=e8 (by omega) (by omega) (by omega) (by omega)
  have hs:acc.length<PySem.sizeLine:=Ju (show acc.length<1000 by omega) (by decide)
  have ih:=nZ (W:=W) (ES:=ES) k (lo+1) ((x*x+48271*x+lo) % 10000000000000000000000000000000000000121) (acc++[(x*x+48271*x+lo) % 10000000000000000000000000000000000000121]) (some (.int lo)) (J7 _ (by decide)) (Int.lt_trans (J0 _ (by decide)) (by decide)) (by simp;omega) (λy x4=>by
   have:=hR y x4;simpa [lw] using this)
  rw[jU,aA];simp only[cu]at ih ⊢;simp[c1,c2,jT,hs];simpa using ih
noncomputable def aM(c:Int)(m:Nat):List Int:=(lw (m+4) 0 (c % 10000000000000000000000000000000000000121+48271)).drop 4
theorem bQ:(aM c m).length=m:=by simp[aM,nj]
theorem eX(hM:Fm M)(hm:m<100):ac T (B cls c_ e_) (n+1) 56 [.int c,.int (m:Nat)] M Q E=Q (.f_ ((aM c m).map D.int)) M:=by
 have hb:(m:Int)+4<4611686018427387904:=by omega
 have Rh : -4611686018427387904<=(m:Int)+4:=by omega
 simp only[nQ,dX];simp;refine iff_of_eq (aF hM λp hp=>?_)
 simp[jT,hb,Rh];refine iff_of_eq (nZ (m+4) 0 _ [] none (by omega) (by omega) (by simp;omega) λy x4=>?_)
 have ln:(lw (m+4) 0 (c % 10000000000000000000000000000000000000121+48271)).length=m+4:=nj _ _ _;have ec:fB ((lw (m+4) 0 (c % 10000000000000000000000000000000000000121+48271)).map D.int) (some 4) none=(aM c m).map D.int:=by
  unfold fB aM;have e4:HT.sIx ((lw (m+4) 0 (c % 10000000000000000000000000000000000000121+48271)).map D.int).length 0 (some 4)=4:=by
   rw[show (4:Int)=((4:Nat):Int) from rfl,HT.sIx_nat,Jo,ln];omega
  rw[e4,HT.sIx_none,Jo,ln,<-List.map_drop,<-List.map_take,List.take_of_length_le (by rw[List.length_drop,ln];omega)]
 have hz:(aM c m).length<=PySem.sizeLine:=by rw[bQ,PySem.sizeLine_eq];omega
 simp[nY,ak,aa,ec,hz,eP hp]
end
section
theorem rL(a b c:Int)(i:Int)(h0:0<=i)(h3:i<3):∃x:Int,(x=a\/x=b\/x=c)/\∀{M:MH}{Q:VK3},ao (.f_ [.int a,.int b,.int c]) (.int i) M Q=Q (.int x) M:=by
 have:i=0\/i=1\/i=2:=by omega
 rcases this with rfl|rfl|rfl
 ·exact⟨a,.inl rfl,by intro M Q;simp⟩
 ·exact⟨b,.inr (.inl rfl),by intro M Q;simp⟩
 ·exact⟨c,.inr (.inr rfl),by intro M Q;simp⟩
theorem aG{l:List Int}(h:k<l.length):ao (.f_ (l.map D.int)) (.int (k:Nat)) M Q=Q (.int (l.getD k 0)) M:=by
 have e:(l.map D.int)[k]?=some (.int (l.getD k 0)):=by
  rw[Jq,Jz h,List.getD_eq_getElem?_getD,Jz h];rfl
 exact hV (bu e)
theorem Dg{xs:List Int}(hl:3<=xs.length)(h0:1<=size)(h1:size<=10 ^ 30):∃(l:Int)(m:Option Int),mW l m=false/\l<=10 ^ 30/\(∀y,m=some y->y<=2*10 ^ 30)/\∀{n:Nat}{M:MH}{Q:VK3}{E:XN},ac T (B cls c_ e_) (n+1) 57 [.f_ (xs.map D.int),.int size] M Q E=Q (way l m) M:=by
 have i0:∀{M:MH}{Q:VK3},ao (.f_ (xs.map D.int)) (.int 0) M Q=Q (.int (xs.getD 0 0)) M:=λ{M Q}=>aG (k:=0) (by omega)
 have i1:∀{M:MH}{Q:VK3},ao (.f_ (xs.map D.int)) (.int 1) M Q=Q (.int (xs.getD 1 0)) M:=λ{M Q}=>aG (k:=1) (by omega)
 have i2:∀{M:MH}{Q:VK3},ao (.f_ (xs.map D.int)) (.int 2) M Q=Q (.int (xs.getD 2 0)) M:=λ{M Q}=>aG (k:=2) (by omega)
 generalize xs.getD 0 0=x0 at i0;generalize xs.getD 1 0=x1 at i1;generalize xs.getD 2 0=x2 at i2;have z:¬ size=0:=by omega
 have zp:0<size:=by omega
 have m0:=J7 x0 z;have m1:=J0 x0 zp;have m2:=J7 x2 z;have m3:=J0 x2 zp;obtain⟨l,Tx,Ri⟩:=rL 0 1 (x0 % size) (x1 % 3) (by omega) (by omega)
 obtain⟨g,Tz,Sx⟩:=rL 0 1 (x2 % size) (x1 / 12 % 3) (by omega) (by omega)
 have l0:0<=l/\l<=10 ^ 30:=by omega
 by_cases h:x1 / 3 % 4=0
 ·refine⟨l,none,by simp[mW,l0.1],l0.2,(λy e=>by cases e),?_⟩
  intro n M Q E;simp only[lW,fu];simp[↓i0,↓i1,z,zp,↓Ri,dN,h,way,av]
 ·refine⟨l,some (l+g),by simp[mW];omega,l0.2,(λy e=>by cases e;omega),?_⟩
  intro n M Q E;simp only[lW,fu];simp[↓i0,↓i1,↓i2,zp,↓Ri,↓Sx,dN,h,way,av]
end
section
theorem sC(a b c d:Int)(i:Int)(h0:0<=i)(h3:i<4):∃x:Int,(x=a\/x=b\/x=c\/x=d)/\∀{M:MH}{Q:VK3},ao (.f_ [.int a,.int b,.int c,.int d]) (.int i) M Q=Q (.int x) M:=by
 have:i=0\/i=1\/i=2\/i=3:=by omega
 rcases this with rfl|rfl|rfl|rfl
 ·exact⟨a,.inl rfl,by intro M Q;simp⟩
 ·exact⟨b,.inr (.inl rfl),by intro M Q;simp⟩
 ·exact⟨c,.inr (.inr (.inl rfl)),by intro M Q;simp⟩
 ·exact⟨d,.inr (.inr (.inr rfl)),by intro M Q;simp⟩
noncomputable def fA(c1 mo t0:Int)(lo:Option Int):Int:=match lo with
 |some l=>if mo+c1*t0<l then (l-mo+c1-1) / c1 else t0
 |none=>t0
noncomputable def fO(c0 mo t:Int)(lo:Option Int):Int:=match lo with
 |some l=>if mo+c0*t<l then l else mo+c0*t
 |none=>mo+c0*t
noncomputable def gC(c1 mo t:Int)(hi:Option Int):Int:=match hi with
 |some l=>if l<mo+c1*t then l else mo+c1*t
 |none=>mo+c1*t
def inB(B:Int)(o:Option Int):Prop:=∀y,o=some y->-B<=y/\y<=B
theorem EG{c1 mo t0 B:Int}{lo:Option Int}(h1:1<=c1)(h2:c1<=10 ^ 31)(t1:0<=t0)(t2:t0<=10 ^ 12)(b1:10 ^ 43<=B)(m1 : -B<=mo)(m2:mo<=B)(hl:inB B lo) :
  0<=fA c1 mo t0 lo/\c1*fA c1 mo t0 lo<=3*B/\fA c1 mo t0 lo<=3*B:=by
 have p0:c1*t0<=10 ^ 31*10 ^ 12:=Int.mul_le_mul h2 t2 t1 (by omega)
 have base:0<=t0/\c1*t0<=3*B/\t0<=3*B:=⟨t1,by omega,by omega⟩
 cases lo with
 |none=>exact base
 |some l=>
  obtain⟨l1,l2⟩:=hl l rfl;unfold fA;simp only;split
  ·rename_i A_;have hp:0<=c1*t0:=Int.mul_nonneg (by omega) t1
   have q0:0<=(l-mo+c1-1) / c1:=Int.ediv_nonneg (by omega) (by omega)
   have q1:c1*((l-mo+c1-1) / c1)<=l-mo+c1-1:=Int.mul_ediv_self_le (by omega)
   have q2:(l-mo+c1-1) / c1<=c1*((l-mo+c1-1) / c1):=by
    have:=Int.mul_le_mul_of_nonneg_right h1 q0;omega
   exact⟨q0,by omega,by omega⟩
  ·exact base
theorem CT{c0 c1 mo t B:Int}{lo hi:Option Int}(h0:1<=c0)(h1:c0<=c1)(t0:0<=t)(ht:c1*t<=3*B)(m1 : -B<=mo)(m2:mo<=B)(hl:inB B lo)(hh:inB B hi) :
  (-B<=fO c0 mo t lo/\fO c0 mo t lo<=4*B)/\(-B<=gC c1 mo t hi/\gC c1 mo t hi<=4*B)/\(lo=none->hi=none->fO c0 mo t lo<=gC c1 mo t hi):=by
 have p0:0<=c0*t:=Int.mul_nonneg (by omega) t0
 have p1:c0*t<=c1*t:=Int.mul_le_mul_of_nonneg_right h1 t0;refine⟨?_,?_,λe1 e2=>?_⟩
 ·cases lo with
  |none=>unfold fO;simp only;omega
  |some l=>obtain⟨l1,l2⟩:=hl l rfl;unfold fO;simp only;split<;>omega
 ·cases hi with
  |none=>unfold gC;simp only;omega
  |some l=>obtain⟨l1,l2⟩:=hh l rfl;unfold gC;simp only;split<;>omega
 ·subst e1 e2;unfold fO gC;simp only;omega
structure LagR (c0 c1 mo t f l:Int)(lo hi:Option Int):Prop where
 f0:mo+c0*t<=f
 l0:l<=mo+c1*t
 fl:∀y,lo=some y->y<=f
 lh:∀y,hi=some y->l<=y
theorem EX{lo:Option Int}:LagR c0 c1 mo t (fO c0 mo t lo) (gC c1 mo t hi) lo hi:=by
 refine⟨?_,?_,λy e=>?_,λy e=>?_⟩
 ·cases lo<;>unfold fO<;>simp only<;>(try split)<;>omega
 ·cases hi<;>unfold gC<;>simp only<;>(try split)<;>omega
 ·subst e;unfold fO;simp only;split<;>omega
 ·subst e;unfold gC;simp only;split<;>omega
theorem DF{c0 c1 cnt rd mo B:Int}{xs:List Int}{lo hi:Option Int}(hx:3<=xs.length)(h0:1<=c0)(h1:c0<=c1)(h2:c1<=10 ^ 31)(b1:10 ^ 43<=B)(b2:B<=10 ^ 60)(m1 : -B<=mo)(m2:mo<=B)(hl:inB B lo)(hh:inB B hi) :
  ∃t f l:Int,0<=t/\t<=3*B/\(-B<=f/\f<=4*B)/\(-B<=l/\l<=4*B)/\(lo=none->hi=none->f<=l)/\LagR c0 c1 mo t f l lo hi/\∀{n:Nat}{M:MH}{Q:VK3}{E:XN},ac T (G.B cls c_ e_) (n+1) 60 [.tup [.int c0,.int c1],.tup [.int cnt,.int rd,.int mo],.f_ (xs.map D.int),oi lo,oi hi] M Q E=Q (.tup [.int t,.int f,.int l]) M:=by
 have i1:∀{M:MH}{Q:VK3},ao (.f_ (xs.map D.int)) (.int 1) M Q=Q (.int (xs.getD 1 0)) M:=λ{M Q}=>aG (k:=1) (by omega)
 have i2:∀{M:MH}{Q:VK3},ao (.f_ (xs.map D.int)) (.int 2) M Q=Q (.int (xs.getD 2 0)) M:=λ{M Q}=>aG (k:=2) (by omega)
 generalize xs.getD 1 0=x1 at i1;generalize xs.getD 2 0=x2 at i2;obtain⟨t0,TF,N8⟩:=sC 0 1 (x1 % 5) (x1 % 1000000000000) (x2 % 4) (by omega) (by omega)
 have t1:0<=t0/\t0<=10 ^ 12:=by omega
 obtain⟨a1,a2,a3⟩:=EG (by omega) h2 t1.1 t1.2 b1 m1 m2 hl
 obtain⟨d1,d2,d3⟩:=CT h0 h1 a1 a2 m1 m2 hl hh;refine⟨_,_,_,a1,a3,d1,d2,d3,EX,?_⟩;intro n M Q E;have k0:cA c1 t0=True:=e8 (by omega) (by omega) (by omega) (by omega)
 have k1:cA c0 (fA c1 mo t0 lo)=True:=e8 (by omega) (by omega) (by omega) (by omega)
 have k2:cA c1 (fA c1 mo t0 lo)=True:=e8 (by omega) (by omega) (by omega) (by omega)
 have z:¬ c1=0:=by omega
 have zp:0<c1:=by omega
 simp only[tR,iX];cases lo with
 |none=>
  cases hi with
  |none=>
   simp only[fA]at k1 k2;simp[↓i1,↓i2,↓N8,jT,k1,k2,D.isN,fA,fO,gC,av]
  |some y=>
   simp only[fA]at k1 k2;by_cases hy:y<mo+c1*t0<;>simp[↓i1,↓i2,↓N8,jT,k1,k2,hy,D.isN,fA,fO,gC,av]
 |some l=>
  by_cases A_:mo+c1*t0<l
  ·simp only[fA,Jr A_]at k1 k2;obtain⟨l1,l2⟩:=hl l rfl;have kd:l7 (l-mo+c1-1) c1=True:=dN zp (by omega)
   cases hi with
   |none=>simp[↓i1,↓i2,↓N8,jT,k0,k1,k2,kd,A_,zp,D.isN,fA,fO,gC,av]
   |some y=>by_cases hy:y<mo+c1*((l-mo+c1-1) / c1)<;>simp[↓i1,↓i2,↓N8,jT,k0,k1,k2,kd,A_,zp,D.isN,fA,fO,gC,av]
  ·simp only[fA,Ji A_]at k1 k2;cases hi with
   |none=>simp[↓i1,↓i2,↓N8,jT,k1,k2,A_,D.isN,fA,fO,gC,av]
   |some y=>by_cases hy:y<mo+c1*t0<;>simp[↓i1,↓i2,↓N8,jT,k1,k2,hy,A_,D.isN,fA,fO,gC,av]
end
section
variable {cls c_ e_:Nat->PySem.Addr}{M:MH}{Q:VK3}{E:XN}{n:Nat}{wy:List Wy}{d_:List (Int×Int)}
theorem zL{l:List Int}{i:Int}(h0:0<=i)(h1:i<l.length):∃x∈l,∀{M:MH}{Q:VK3},ao (.f_ (l.map D.int)) (.int i) M Q=Q (.int x) M:=by
 obtain⟨k,rfl⟩:=J4 h0;have hk:k<l.length:=by omega
 exact⟨l.getD k 0,by rw[List.getD_eq_getElem?_getD,Jz hk];exact J6 hk,aG hk⟩
structure WS (H:Nat)(i j:Nat)(wy:List Wy):Prop where
 nd:(wy.map pr).Nodup
 gd:∀w∈wy,w.good H
 sm:∀w∈wy,w.l<=10 ^ 30/\∀y,w.m=some y->y<=2*10 ^ 30
 lo:∀w∈wy,w.i<i\/(w.i=i/\w.j<j)
theorem WS.skip(W:WS H i j wy):WS H i (j+1) wy:=⟨W.nd,W.gd,W.sm,λw hw=>by rcases W.lo w hw with h|h;exact .inl h;exact .inr ⟨h.1,by omega⟩⟩
theorem WS.row{H i j:Nat}(W:WS H i j wy):WS H (i+1) 0 wy:=⟨W.nd,W.gd,W.sm,λw hw=>.inl (by have:=W.lo w hw;omega)⟩
theorem WS.new(W:WS H i j wy)(hi:i<H)(hj:j<H)(Sy:i≠j)(hl:mW l m=false)(hs:l<=10 ^ 30/\∀y,m=some y->y<=2*10 ^ 30):WS H i (j+1) (wy++[⟨i,j,l,m⟩])/\[(i:Int),(j:Int)]∉wy.map pr:=by
 have hn:[(i:Int),(j:Int)]∉wy.map pr:=λz=>by
  obtain⟨w,hw,e⟩:=JJ.mp z;simp only[pr,List.cons.injEq]at e;rcases W.lo w hw with h|h<;>omega
 have al:∀{P:Wy->Prop},(∀w∈wy,P w)->P ⟨i,j,l,m⟩->∀w∈wy++[⟨i,j,l,m⟩],P w:=λh1 h2 w hw=>by
  rcases JI.mp hw with h|h
  ·exact h1 w h
  ·obtain rfl:=JB.mp h;exact h2
 refine⟨⟨?_,al W.gd ⟨by simp[okH,hi],by simp[okH,hj],λz=>Sy (by have:(i:Int)=j:=z;omega),hl⟩,al W.sm hs,al (λw hw=>?_) (.inr ⟨rfl,by simp;omega⟩)⟩,hn⟩
 ·rw[List.map_append,List.nodup_append];refine⟨W.nd,by simp,λa ha b hb=>?_⟩
  simp only[Jm,List.map_nil,JB]at hb;subst hb;exact λz=>hn (by have:a=[(i:Int),(j:Int)]:=z;rw[<-this];exact ha)
 ·have:=W.lo w hw;omega
theorem kA{ks:List (List Int)}(h:M b=some (.dt ks ds))(hz:ks.length<1000):aE (.ref b) (.tup [.int i,.int j]) y M R=R (put M b (.dt (aj ks [i,j]) (au ks ds [i,j] y))):=by
 have hs:ks.length<PySem.sizeLine:=Ju hz (by decide)
 simp[aE,h,gh,bh,hs]
theorem on{H one:Nat}{size c:Int}{M0:MH}(OO:Fm M0)(s0:1<=size)(s1:size<=10 ^ 30)(hH:H<=6)(ho:one<H){a b:PySem.Addr}{cl:List D}{De:Ends3}{ES:St3->XN}{y1 y2 y7:Option D}:∀(k j:Nat)(wy:List Wy)(x8 x9:Option D),j+k=H->wy.length+k<400->WS H one j wy->
  (∀(LK:List Wy) x8 x9,LK.length<=wy.length+k->WS H (one+1) 0 LK->De.nx [some (.int c),y1,y2,some (.int size),some (.ref a),some (.ref b),some (.int one),y7,x8,x9] (put (put M0 a (.lst cl)) b (.dt (LK.map pr) (LK.map wv))))->
  aV ⟨(B cls c_ e_),ac T (B cls c_ e_) (n+1)⟩ (.name 8) bI ES (λ_=>True) De (rng j k) [some (.int c),y1,y2,some (.int size),some (.ref a),some (.ref b),some (.int one),y7,x8,x9] (put (put M0 a (.lst cl)) b (.dt (wy.map pr) (wy.map wv)))
 |0,j,wy,x8,x9,h1,h2,hW,hR=>by
  show aV _ _ _ _ _ _ [] _ _;rw[aQ];exact⟨trivial,hR wy _ _ (by omega) hW.row⟩
 |k+1,j,wy,x8,x9,h1,h2,hW,hR=>by
  have fm:Fm (put (put M0 a (.lst cl)) b (.dt (wy.map pr) (wy.map wv))):=(OO.put _ _).put _ _;have st:∀{Q:VK3}{E:XN},ac T (B cls c_ e_) (n+1) 56 [.int (c+7*(one:Int)+43*(j:Int)+1),.int 4] (put (put M0 a (.lst cl)) b (.dt (wy.map pr) (wy.map wv))) Q E=Q (.f_ ((aM (c+7*(one:Int)+43*(j:Int)+1) 4).map D.int)) (put (put M0 a (.lst cl)) b (.dt (wy.map pr) (wy.map wv))):=λ{Q E}=>eX (m:=4) fm (by omega)
  have hl:(aM (c+7*(one:Int)+43*(j:Int)+1) 4).length=4:=bQ;generalize aM (c+7*(one:Int)+43*(j:Int)+1) 4=ys at st hl;have i3:∀{M:MH}{Q:VK3},ao (.f_ (ys.map D.int)) (.int 3) M Q=Q (.int (ys.getD 3 0)) M:=λ{M Q}=>aG (k:=3) (by omega)
  generalize ys.getD 3 0=y at i3;obtain⟨l,m,hb,b1,b2,cw⟩:=Dg (cls:=cls) (c_:=c_) (e_:=e_) (xs:=ys) (by omega) s0 s1
  have Sz:∀{M:MH}{Q:VK3}{E:XN},ac T (B cls c_ e_) (n+1) 57 [.f_ (ys.map D.int),.int size] M Q E=Q (way l m) M:=cw;have c7:cA 7 (one:Int)=True:=e8 (by decide) (by decide) (by omega) (by omega)
  have c8:cA 43 (j:Int)=True:=e8 (by decide) (by decide) (by omega) (by omega)
  rw[jU,aA];refine⟨trivial,?_⟩;have nx:=λ(LK:List Wy) (hw:LK.length<=wy.length+1) (Qm:WS H one (j+1) LK) (x8 x9:Option D)=>on OO s0 s1 hH ho (c:=c) (a:=a) (b:=b) (cl:=cl) (De:=De) (ES:=ES) (y1:=y1) (y2:=y2) (y7:=y7) k (j+1) LK x8 x9 (by omega) (by omega) Qm (λw2 a b Rj OP=>hR w2 a b (by omega) OP)
  push_cast at nx
  generalize aV ⟨(B cls c_ e_),ac T (B cls c_ e_) (n+1)⟩ (.name 8) bI ES (λ_=>True) De (rng ((j:Int)+1) k)=K at nx ⊢
  simp only[bI];by_cases c1:one=j
  ·subst c1;simp[c7,c8,↓st];exact nx wy (by omega) hW.skip _ _
  ·have Rk:¬ (one:Int)=(j:Int):=λz=>c1 (by omega)
   by_cases c2:0<y % 6
   ·obtain⟨OP,LP⟩:=hW.new ho (by omega) c1 hb ⟨b1,b2⟩
    have go:∀{R:MH->Prop},aE (.ref b) (.tup [.int one,.int j]) (way l m) (put (put M0 a (.lst cl)) b (.dt (wy.map pr) (wy.map wv))) R=R (put (put M0 a (.lst cl)) b (.dt ((wy++[(⟨one,j,l,m⟩:Wy)]).map pr) ((wy++[(⟨one,j,l,m⟩:Wy)]).map wv))):=λ{R}=>by
     rw[kA aa (by simp;omega),j1 LP,k8 (by simp) LP,aL]
     simp[pr,wv]
    simp[c7,c8,↓st,Rk,↓i3,c2,↓Sz,av,↓go];have:=nx (wy++[⟨one,j,l,m⟩]) (by simp) OP (some (.int j)) (some (.f_ (ys.map D.int)))
    rw[List.map_append,List.map_append]at this;exact this
   ·simp[c7,c8,↓st,Rk,↓i3,c2];exact nx wy (by omega) hW.skip _ _
theorem md{xs:List Int}{c size:Int}{M0:MH}(OO:Fm M0)(hl:xs.length=8)(s0:1<=size)(s1:size<=10 ^ 30){H:Nat}(hH:H<=6){a b:PySem.Addr}(G_:a≠b){De:Ends3}{ES:St3->XN}:∀(k j:Nat) (d_:List (Int×Int)) (wy:List Wy)(x6 x7 x8 x9:Option D),j+k=H->d_.length=j->wy.length<=j*6->(∀c∈d_,nK c=false/\c.2<=10 ^ 31)->WS H j 0 wy->
  (∀(NP:List (Int×Int)) (LK:List Wy) x6 x7 x8 x9,NP.length=H->LK.length<=36->(∀c∈NP,nK c=false/\c.2<=10 ^ 31)->WS H H 0 LK->De.nx [some (.int c),some (.f_ (xs.map D.int)),some (.int H),some (.int size),some (.ref a),some (.ref b),x6,x7,x8,x9] (put (put M0 a (.lst (NP.map cD))) b (.dt (LK.map pr) (LK.map wv))))->
  aV ⟨(B cls c_ e_),ac T (B cls c_ e_) (n+1)⟩ (.name 6) bB ES (λ_=>True) De (rng j k) [some (.int c),some (.f_ (xs.map D.int)),some (.int H),some (.int size),some (.ref a),some (.ref b),x6,x7,x8,x9] (put (put M0 a (.lst (d_.map cD))) b (.dt (wy.map pr) (wy.map wv)))
 |0,j,d_,wy,x6,x7,x8,x9,h1,h2,h3,hc,hW,hR=>by
  show aV _ _ _ _ _ _ [] _ _;rw[aQ];have e:j=H:=by omega
  subst e;exact⟨trivial,hR d_ wy _ _ _ _ h2 (by omega) hc hW⟩
 |k+1,j,d_,wy,x6,x7,x8,x9,h1,h2,h3,hc,hW,hR=>by
  have i2:∀{M:MH}{Q:VK3},ao (.f_ (xs.map D.int)) (.int (2+(j:Int))) M Q=Q (.int (xs.getD (2+j) 0)) M:=λ{M Q}=>by
   have:=aG (M:=M) (Q:=Q) (l:=xs) (k:=2+j) (by omega)
   push_cast at this
   exact this
  have i7:∀{M:MH}{Q:VK3},ao (.f_ (xs.map D.int)) (.int (7-(j:Int))) M Q=Q (.int (xs.getD (7-j) 0)) M:=λ{M Q}=>by
   rw[show (7-(j:Int))=((7-j:Nat):Int) by omega]
   exact aG (by omega)
  generalize xs.getD (2+j) 0=x at i2;generalize xs.getD (7-j) 0=y at i7;have z:¬ size=0:=by omega
  have zp:0<size:=by omega
  have q0:=J7 (x / 3) z;have q1:=J0 (x / 3) zp;have q2:=J7 y z;have q3:=J0 y zp;obtain⟨g,hg,gx⟩:=rL 0 1 (y % size) (x % 3) (by omega) (by omega)
  have hs:d_.length<PySem.sizeLine:=Ju (show d_.length<1000 by omega) (by decide)
  have ha:(put (put M0 a (.lst (d_.map cD))) b (.dt (wy.map pr) (wy.map wv))) a=some (.lst (d_.map cD)):=by rw[ae G_,aa]
  have Qn:(H:Int)<4611686018427387904:=by omega
  have Qo:∀{e:IE}{NQ:Ends3}{E':XN}{Z:St3}{W:WC},lE W e NQ E' Z (.ref a) (put (put M0 a (.lst (d_.map cD))) b (.dt (wy.map pr) (wy.map wv)))=wpE W e Z (put (put M0 a (.lst (d_.map cD))) b (.dt (wy.map pr) (wy.map wv))) (b8 a NQ Z) E':=by
   intro e NQ E' Z W;simp[lE,ha];exact Iff.rfl
  have OQ:∀{y:D}{NQ:Ends3}{Z:St3},b8 a NQ Z y (put (put M0 a (.lst (d_.map cD))) b (.dt (wy.map pr) (wy.map wv)))=(d_.length<PySem.sizeLine/\NQ.nx Z (put (put M0 a (.lst (d_.map cD++[y]))) b (.dt (wy.map pr) (wy.map wv)))):=by
   intro y NQ Z;simp[b8,ha,dn G_]
  rw[jU,aA];refine⟨trivial,?_⟩;have nx:=λ(LK:List Wy) (hw:LK.length<=(j+1)*6) (Qm:WS H (j+1) 0 LK) (x8 x9:Option D)=>md (c:=c) OO hl s0 s1 hH G_ (De:=De) (ES:=ES) k (j+1) (d_++[(1+x / 3 % size,1+x / 3 % size+g)]) LK (some (.int j)) (some (.int (1+x / 3 % size))) x8 x9 (by omega) (by simp;omega) hw (λc O4=>by
   rcases JI.mp O4 with h|h
   ·exact hc c h
   ·obtain rfl:=JB.mp h;exact⟨by simp[nK];omega,by simp only;omega⟩) Qm hR
  push_cast at nx
  generalize aV ⟨(B cls c_ e_),ac T (B cls c_ e_) (n+1)⟩ (.name 6) bB ES (λ_=>True) De (rng ((j:Int)+1) k)=K at nx ⊢
  simp only[bB];simp[↓i2,↓i7,↓gx,z,zp,dN,↓Qo,↓OQ,av,hs,Qn];have key:=on (cls:=cls) (c_:=c_) (e_:=e_) (n:=n) (c:=c) OO s0 s1 hH (one:=j) (by omega) (a:=a) (b:=b) (cl:=(d_++[(1+x / 3 % size,1+x / 3 % size+g)]).map cD) (De:={De with nx:=K,ct:=K,bk:=De.nx}) (ES:=ES) (y1:=some (.f_ (xs.map D.int))) (y2:=some (.int H)) (y7:=some (.int (1+x / 3 % size))) H 0 wy x8 x9 (by omega) (by omega) hW (λLK x8 x9 hw OP=>nx LK (by omega) OP _ _)
  simpa [cD] using key
structure GW (d_:List (Int×Int)) (wy:List Wy):Prop where
 l1:1<=d_.length
 l6:d_.length<=6
 w36:wy.length<=36
 ck:∀c∈d_,nK c=false/\c.2<=10 ^ 31
 nd:(wy.map pr).Nodup
 gd:∀w∈wy,w.good d_.length
 sm:∀w∈wy,w.l<=10 ^ 30/\∀y,w.m=some y->y<=2*10 ^ 30
theorem ye{c:Int}(hM:Fm M)(h:∀(d_:List (Int×Int)) (wy:List Wy),GW d_ wy->Q (.tup [.f_ (d_.map cD),.H_ (wy.map pr) (wy.map wv)]) M):ac T (B cls c_ e_) (n+2) 58 [.int c] M Q E:=by
 have st:∀{M:MH}{Q:VK3}{E:XN},Fm M->ac T (B cls c_ e_) (n+1) 56 [.int c,.int 8] M Q E=Q (.f_ ((aM c 8).map D.int)) M:=λ{M Q E} fm=>eX (m:=8) fm (by omega)
 have hl:(aM c 8).length=8:=bQ;generalize aM c 8=xs at st hl;have i0:∀{M:MH}{Q:VK3},ao (.f_ (xs.map D.int)) (.int 0) M Q=Q (.int (xs.getD 0 0)) M:=λ{M Q}=>aG (k:=0) (by omega)
 have i1:∀{M:MH}{Q:VK3},ao (.f_ (xs.map D.int)) (.int 1) M Q=Q (.int (xs.getD 1 0)) M:=λ{M Q}=>aG (k:=1) (by omega)
 generalize xs.getD 0 0=x0 at i0;generalize xs.getD 1 0=x1 at i1;obtain⟨H0,SA,hx⟩:=zL (l:=[1,2,2,3,3,4,5,6]) (i:=x0 % 8) (by omega) (by simp;omega)
 have Mt:∀{M:MH}{Q:VK3},ao (.f_ [.int 1,.int 2,.int 2,.int 3,.int 3,.int 4,.int 5,.int 6]) (.int (x0 % 8)) M Q=Q (.int H0) M:=hx;obtain⟨size,TH,hz⟩:=sC 3 100 1000000000 1000000000000000000000000000000 (x1 % 4) (by omega) (by omega)
 have TJ:1<=H0/\H0<=6:=by simp at SA;omega
 obtain⟨H,rfl⟩:∃H:Nat,H0=H:=⟨H0.toNat,by omega⟩
 have SD:H<=6:=by omega
 have Qn:(H:Int)<4611686018427387904:=by omega
 simp only[pJ,eY];simp[st hM,↓i0,↓i1,↓Mt,↓hz,jT,av,Qn];intro a ha b hb;obtain⟨OR,hb⟩:=cr hb;refine md hM hl (by omega) (by omega) SD (Jv OR) H 0 [] [] none none none none (by omega) rfl (by simp) (λc hc=>by cases hc) ⟨by simp,λw hw=>(by cases hw),λw hw=>(by cases hw),λw hw=>(by cases hw)⟩ (λd_ wy x6 x7 x8 x9 l1 l2 l3 l4=>?_)
 have e1:(put (put M a (.lst (d_.map cD))) b (.dt (wy.map pr) (wy.map wv))) a=some (.lst (d_.map cD)):=by rw[ae (Jv OR),aa]
 simp[bb,e1,vT ha OR,aa,ft hb,av];exact h d_ wy ⟨by omega,by omega,l2,l3,l4.nd,by rw[l1];exact l4.gd,l4.sm⟩
theorem zT(G:GW d_ wy)(hM:Fm M):ac T (B cls c_ e_) (n+7) 59 [.tup [.f_ (d_.map cD),.H_ (wy.map pr) (wy.map wv)]] M Q E=Q (wO c_ d_ wy) M:=by
 have hz:d_.length<=PySem.sizeLine:=JF (show d_.length<=1000 by have:=G.l6;omega) (by decide)
 have cm:∀{W:WC}{Q:VK3},jK W (.tup [0,1]) .no (.bin .Add (.var 0) (.var 1)) (λ_=>True) Q (ar (wy.map pr) (wy.map wv)) [none,none] M=Q (.f_ (wy.map wD)) M:=λ{W Q}=>by
  rw[show ar (wy.map pr) (wy.map wv)=wy.map λw=>.tup [.tup [.int w.i,.int w.j],wv w] by unfold ar;rw[List.zip_map',List.map_map];rfl,
   bO _ (λZ=>∃a b,Z=[a,b]) (λw=>[some (.tup [.int w.i,.int w.j]),some (wv w)]) (λ_=>true) wD ⟨_,_,rfl⟩ hM (by have:=G.w36;omega) (λw _=>⟨⟨_,_,rfl⟩,λZ ⟨a,b,e⟩ M k=>by
    subst e;simp⟩) (λ_ _ _ _ _=>rfl) (λw _ _ M' hE Q=>by simp[wv,way,wD,av]),List.filter_eq_self.mpr (λ_ _=>rfl)]
 simp only[pX,fZ];simp[ay,↓cm,hz];refine iff_of_eq ((yQ (E:=λi M'=>E i (aw M M')) hM G.l1 G.l6 (λc hc=>(G.ck c hc).1) (by have:=G.w36;omega) G.gd G.nd).trans ?_)
 simp
end
section
variable {wy:List Wy}{d_:List (Int×Int)}
theorem wC:∀{wy:List Wy},(wy.map pr).Nodup->w∈wy->getD (wy.map pr) (wy.map wv) (pr w)=some (wv w)
 |v::r,hn,h=>by
  rw[Jm,JO]at hn;simp only[Jm,getD];rcases Jl.mp h with rfl|h
  ·rw[Jr rfl]
  ·rw[Ji (λz=>hn.1 (by rw[z];exact List.mem_map_of_mem h)),wC hn.2 h]
theorem pY{w:Wy}(hn:(wy.map pr).Nodup)(h:w∈wy):ao (.H_ (wy.map pr) (wy.map wv)) (.tup [.int w.i,.int w.j]) M Q=Q (wv w) M:=by
 have e:=wC hn h;simp only[pr]at e;simp[ao,az,ak,dM,cU,c9,gh,bh,e]
theorem nM{ds:List D}(hx:ak M x=some ds)(h7:ds.all (plN 7)=true)(h8:ds.all (plN 8)=true):aC .NotEq x (.f_ []) M Q=Q (.bl (!ds.isEmpty)) M:=by
 have e:rs M x=.f_ ds:=by unfold rs;rw[hx];simp only[h8,if_true]
 have p:pl (.f_ ds)=true:=h7;have e2:rs M (.f_ [])=.f_ []:=rfl;show ll true x (.f_ []) M Q=_;unfold ll;rw[e,e2,p];cases ds<;>simp[plN,eqD,cV]
noncomputable def lm(wy:List Wy)(h:Int):List Int:=(wy.filter λw=>decide (w.i=h)).map Wy.j
theorem EZ(hM:Fm M)(hl:wy.length<=36):jK W (.name 0) (.yes (.cmp .Eq (.ix (.var 0) (.con (.int 0))) (.var 1))) (.ix (.var 0) (.con (.int 1))) (λ_=>True) Q ((wy.map pr).map bS) [none,some (.int h)] M=Q (.f_ ((lm wy h).map D.int)) M:=by
 rw[List.map_map,gZ (bS∘pr) (λw=>decide (w.i=h)) (λw=>.int w.j) hM (by omega) (λw _ M' hE Q=>by simp[bS,pr]) (λw _ _ M' hE Q=>by simp[bS,pr])]
 unfold lm;rw[List.map_map];rfl
theorem xm(ht:t∈lm wy h):∃w∈wy,w.i=h/\w.j=t:=by
 obtain⟨w,hw,rfl⟩:=JJ.mp ht;obtain⟨h1,h2⟩:=List.mem_filter.mp hw;exact⟨w,h1,J8 h2,rfl⟩
def Rw.sg(m:Int):Rw->Prop
 |.Kz _ _ e l=>e<=m/\m<=l
 |_=>True
theorem Df{h v m:Int}{xs:List Int}(hl:xs.length=4)(hw:wy.length<=36):∃r:Rw,r.h=h/\r.r=v/\r.s≠"take"/\r.may wy/\r.sg m/\
  ∀{n:Nat}{M:MH}{Q:VK3}{E:XN},Fm M->ac T (B cls c_ e_) (n+1) 61 [.int h,.int v,.int m,.H_ (wy.map pr) (wy.map wv),.f_ (xs.map D.int)] M Q E=Q r.d M:=by
 have i0:∀{M:MH}{Q:VK3},ao (.f_ (xs.map D.int)) (.int 0) M Q=Q (.int (xs.getD 0 0)) M:=λ{M Q}=>aG (k:=0) (by omega)
 have i1:∀{M:MH}{Q:VK3},ao (.f_ (xs.map D.int)) (.int 1) M Q=Q (.int (xs.getD 1 0)) M:=λ{M Q}=>aG (k:=1) (by omega)
 have i2:∀{M:MH}{Q:VK3},ao (.f_ (xs.map D.int)) (.int 2) M Q=Q (.int (xs.getD 2 0)) M:=λ{M Q}=>aG (k:=2) (by omega)
 have i3:∀{M:MH}{Q:VK3},ao (.f_ (xs.map D.int)) (.int 3) M Q=Q (.int (xs.getD 3 0)) M:=λ{M Q}=>aG (k:=3) (by omega)
 generalize xs.getD 0 0=x0 at i0;generalize xs.getD 1 0=x1 at i1;generalize xs.getD 2 0=x2 at i2;generalize xs.getD 3 0=x3 at i3;have ct:=λ{W:WC}{M:MH}{Q:VK3} (hM:Fm M)=>EZ (W:=W) (Q:=Q) (h:=h) hM hw
 by_cases k12:x3 / 2 % 8=1\/x3 / 2 % 8=2
 ·obtain⟨g,hg,gx⟩:=sC 0 1 (x0 % 100) (x0 % 1000000000000) (x1 % 4) (by omega) (by omega)
  obtain⟨k,hk,kx⟩:=sC 0 1 (x0 % 100) (x0 % 1000000000000) (x1 / 4 % 4) (by omega) (by omega)
  refine⟨.Kz h v (m-g) (m+k),rfl,rfl,by simp +decide [Rw.s],trivial,⟨by omega,by omega⟩,?_⟩
  intro n M Q E hM;simp only[iJ,dG];rcases k12 with k1|k1<;>simp[-List.map_map,ay,↓ct hM,↓i0,↓i1,↓i3,k1,dN,jT,↓gx,↓kx,Rw.d,av]
 ·obtain⟨k1,k2⟩:=not_or.mp k12;have nn:∀{M:MH}{Q:VK3},aC .NotEq (.f_ ((lm wy h).map D.int)) (.f_ []) M Q=Q (.bl (!((lm wy h).map D.int).isEmpty)) M:=λ{M Q}=>nM rfl (by simp[plN]) (by simp[plN])
  by_cases k3:2<x3 / 2 % 8/\lm wy h≠[]
  ·have lp:0<(lm wy h).length:=List.length_pos_iff.mpr k3.2;have NR:(0:Int)<(lm wy h).length:=by omega
   obtain⟨t,ht,tx⟩:=zL (i:=x2 / 5 % ((lm wy h).length:Int)) (J7 _ (by omega)) (J0 _ NR)
   obtain⟨w,Ql,Rj,SE⟩:=xm ht;refine⟨.send h v t,rfl,rfl,by simp +decide [Rw.s],(show [h,t]∈wy.map pr from JJ.mpr ⟨w,Ql,by simp[pr,Rj,SE]⟩),trivial,?_⟩
   intro n M Q E hM;simp only[iJ,dG];simp[-List.map_map,ay,↓ct hM,↓i2,↓i3,k1,k2,k3.1,k3.2,↓nn,lp,dN,↓tx,Rw.d,av]
  ·refine⟨.look h v,rfl,rfl,by simp +decide [Rw.s],trivial,trivial,?_⟩
   intro n M Q E hM;simp only[iJ,dG];by_cases k4:2<x3 / 2 % 8
   ·have k5:lm wy h=[]:=Classical.byContradiction λz=>k3 ⟨k4,z⟩
    simp[-List.map_map,ay,↓ct hM,↓i3,k1,k2,k5,↓nn,dN,Rw.d,av]
   ·simp[-List.map_map,ay,↓ct hM,↓i3,k1,k2,k4,dN,Rw.d,av]
theorem BK{m:Option Int}:ac T (B cls c_ e_) (n+1) 62 [.tup [.int h,.int k],.tup [.str "send",.int a,.int v,.int t],.int mo,.tup [.int l,oi m]] M Q E=Q (Ent.d ⟨h,k,t,mo+l,m.map (mo+·)⟩) M:=by
 simp only[qf,fY];cases m<;>simp[D.isN,Ent.d,av]
theorem wL:∀{l:List A3}{k0:Nat},cy k0 (l.map a3D)=(l.zipIdx k0).map λp=>.tup [.int p.2,a3D p.1]
 |[],_=>rfl
 |x::r,k0=>by simp only[Jm,cy,List.zipIdx_cons,wL]
theorem r8:∀{l:List α},tG (l.map λa=>prD (f a))=some (l.map f)
 |[]=>rfl
 |x::r=>by simp only[Jm,prD,tG];rw[show (λa=>D.tup [.int (f a).1,.int (f a).2])=λa=>prD (f a) from rfl,r8]
theorem Bf{at_:List A3}(hM:Fm M)(ha:M a=some (.lst (at_.map a3D)))(h0:0<at_.length)(hl:at_.length<=6):∃(k:Nat)(m:Int),k<at_.length/\∀{W:WC}{Q:VK3},jK W (.tup [0,1]) .no (.tup (.cons (.ix (.var 1) (.con (.int 2))) (.cons (.var 0) .nil))) (λM=>M a=some (.lst (at_.map a3D))) (λx M1=>rMp x M1 Q) (cy 0 (at_.map a3D)) [none,none] M=Q (.tup [.int m,.int k]) M:=by
 let f:A3×Nat->Int×Int:=λp=>(p.1.2.2,(p.2:Int))
 have ne:at_.zipIdx.map f≠[]:=by
  cases at_ with
  |nil=>simp at h0
  |cons x r=>simp
 obtain⟨⟨x,k⟩,hp,e⟩:=JJ.mp (sV ne);refine⟨k,x.2.2,(JL.mp (List.mem_zipIdx_iff_getElem?.mp hp)).1,?_⟩;intro W Q;rw[wL,bO _ (λZ=>∃a b,Z=[a,b]) (λp=>[some (.int p.2),some (a3D p.1)]) (λ_=>true) (λp=>prD (f p)) ⟨_,_,rfl⟩ hM (by simp;omega) (λp _=>⟨⟨_,_,rfl⟩,λZ ⟨a,b,e⟩ M k=>by
  subst e;simp⟩) (λ_ _ _ _ _=>rfl) (λp _ _ M' hE Q=>by simp[f,prD,a3D,av]) (λM' hE=>hE.2 _ _ ha),List.filter_eq_self.mpr (λ_ _=>rfl)]
 unfold rMp;simp only[ak,r8];cases h:at_.zipIdx.map f with
 |nil=>exact absurd h ne
 |cons p ps=>rw[h]at e;simp only[<-e];rfl
end
noncomputable abbrev c00:Int->Nat:=λ_=>0
noncomputable abbrev l00:Int->Int:=λ_=>0
noncomputable abbrev k0(d_:List (Int×Int))(k:Nat):Int×Int:=d_.getD k (0,0)
noncomputable abbrev a0(at_:List A3)(k:Nat):A3:=at_.getD k (0,0,0)
section
variable {d_:List (Int×Int)}{wy:List Wy}{r:Rw}
noncomputable def wOf(wy:List Wy)(i j:Int):Wy:=(wy.find? λw=>decide (w.i=i)&&decide (w.j=j)).getD ⟨0,0,0,none⟩
theorem vn(h:[i,j]∈wy.map pr):wOf wy i j∈wy/\(wOf wy i j).i=i/\(wOf wy i j).j=j:=by
 unfold wOf;cases e:wy.find? λw=>decide (w.i=i)&&decide (w.j=j) with
 |none=>
  obtain⟨w,hw,q⟩:=JJ.mp h;simp only[pr,List.cons.injEq]at q;have:=List.find?_eq_none.mp e w hw;simp[q.1,q.2]at this
 |some w=>
  have h1:=List.find?_some e;simp only[Jf,Js]at h1;exact⟨List.mem_of_find?_eq_some e,h1.1,h1.2⟩
theorem wA{w:Wy}:∀{wy:List Wy},(wy.map pr).Nodup->w∈wy->wOf wy w.i w.j=w
 |x::r,nd,h=>by
  rw[Jm,JO]at nd;unfold wOf;rw[Kf];by_cases e:x.i=w.i/\x.j=w.j
  ·simp only[e.1,e.2,Bool.and_true];rcases Jl.mp h with rfl|h
   ·rfl
   ·exact absurd (JJ.mpr ⟨w,h,by simp[pr,e.1,e.2]⟩) nd.1
  ·have:(decide (x.i=w.i)&&decide (x.j=w.j))=false:=by
    rw[Bool.and_eq_false_iff];by_cases e1:x.i=w.i
    ·exact .inr (J9 λe2=>e ⟨e1,e2⟩)
    ·exact .inl (J9 e1)
   rw[this];rcases Jl.mp h with rfl|h
   ·exact absurd ⟨rfl,rfl⟩ e
   ·exact wA nd.2 h
noncomputable def bJ(wy:List Wy)(hd:D):Rw->List D
 |.Kz _ _ e l=>[.tup [.tup [.int (-1),.int 0],hd,.int l],.tup [hd,.tup [.int (-1),.int 0],.int (-e)]]
 |.take h _ a b=>.tup [hd,.tup [.int a,.int b],.int (-(wOf wy a h).l)]::(match (wOf wy a h).m with
  |none=>[]
  |some m=>[.tup [.tup [.int a,.int b],hd,.int m]])
 |_=>[]
noncomputable def nq(c:Int×Int)(h:Int)(k:Nat)(t:Int):List D:=[.tup [.tup [.int h,.int ((k:Int)-1)],.tup [.int h,.int k],.int (c.2*t)],.tup [.tup [.int h,.int k],.tup [.int h,.int ((k:Int)-1)],.int (-c.1*t)]]
noncomputable def nxt(lr:Int->Int)(h v:Int):Int->Int:=λx=>if x=h then v else lr x
noncomputable def gJ(d_:List (Int×Int))(wy:List Wy)(c:Int->Nat)(lr:Int->Int)(r:Rw):List D:=bJ wy (.tup [.int r.h,.int (c r.h)]) r++if 0<c r.h then nq (k0 d_ r.h.toNat) r.h (c r.h) (r.r-lr r.h) else []
noncomputable def bdF(d_:List (Int×Int))(wy:List Wy):(Int->Nat)->(Int->Int)->List Rw->List D
 |_,_,[]=>[]
 |c,lr,r::rs=>gJ d_ wy c lr r++bdF d_ wy (bump c r.h) (nxt lr r.h r.r) rs
noncomputable def cF(c:Int->Nat):List Rw->Int->Nat
 |[]=>c
 |r::rs=>cF (bump c r.h) rs
noncomputable def lF(lr:Int->Int):List Rw->Int->Int
 |[]=>lr
 |r::rs=>lF (nxt lr r.h r.r) rs
theorem se:∀(rs:List Rw)(c:Int->Nat),cF c (rs++[r])=bump (cF c rs) r.h
 |[],c=>rfl
 |x::rs,c=>se rs _
theorem rW:∀(rs:List Rw)(lr:Int->Int),lF lr (rs++[r])=nxt (lF lr rs) r.h r.r
 |[],_=>rfl
 |x::rs,_=>rW rs _
theorem sL:∀(rs:List Rw)(c:Int->Nat)(lr:Int->Int),bdF d_ wy c lr (rs++[r])=bdF d_ wy c lr rs++gJ d_ wy (cF c rs) (lF lr rs) r
 |[],c,lr=>by simp[bdF,cF,lF]
 |x::rs,c,lr=>by
  rw[List.cons_append];unfold bdF;rw[sL rs,List.append_assoc];rfl
noncomputable abbrev Dt:=List (List Int)×List D
noncomputable def dF(c:Int->Nat)(T:Dt):List (Int×Int)->Dt
 |[]=>T
 |p::r=>dF (bump c p.1) (aj T.1 [p.1,(c p.1:Int)],au T.1 T.2 [p.1,(c p.1:Int)] (.int p.2)) r
noncomputable def hB(c:Int->Nat):List (Int×Int)->Int->Nat
 |[]=>c
 |p::r=>hB (bump c p.1) r
theorem rH{p:Int×Int}:∀(l:List (Int×Int)) (c:Int->Nat)(T:Dt),dF c T (l++[p])=(aj (dF c T l).1 [p.1,(hB c l p.1:Int)],au (dF c T l).1 (dF c T l).2 [p.1,(hB c l p.1:Int)] (.int p.2))
 |[],c,T=>rfl
 |x::l,c,T=>rH l _ _
theorem vg:∀(l:List (Int×Int)) (c:Int->Nat)(T:Dt),T.1.length=T.2.length->(dF c T l).1.length=(dF c T l).2.length
 |[],c,T,h=>h
 |x::l,c,T,h=>vg l _ _ (bq h)
noncomputable def ht(p:Rw×Int):Int×Int:=(p.1.h,p.2)
theorem CW:∀(td:List (Rw×Int)) (c:Int->Nat),hB c (td.map ht)=cF c (td.map Prod.fst)
 |[],_=>rfl
 |p::td,c=>CW td _
noncomputable abbrev D0:Dt:=([[-1,0]],[.int 0])
noncomputable def tm(l:List (Int×Int))(a i:Int):Option D:=getD (dF c00 D0 l).1 (dF c00 D0 l).2 [a,i]
theorem xR{p:Int×Int}:tm (l++[p]) a i=if p.1=a/\(hB c00 l p.1:Int)=i then some (.int p.2) else tm l a i:=by
 unfold tm;rw[rH,aS (vg l _ _ rfl)];by_cases h:p.1=a/\(hB c00 l p.1:Int)=i
 ·rw[Jr h,Jr (by rw[h.1,<-h.2,h.1])]
 ·rw[Ji h,Ji (λe=>h ?_)]
  simp only[List.cons.injEq,and_true]at e;exact e
def Old(c:Int->Nat)(a i:Int):Prop:=a<0\/i<c a
theorem Old.bump(o:Old c a i):Old (bump c h) a i:=by
 rcases o with o|o
 ·exact .inl o
 ·unfold G.bump;right;dsimp only;split<;>omega
def lf(T:Int->Int->Option D)(c:Int->Nat)(b:D):Prop:=∃a i a' i' m t t':Int,b=.tup [.tup [.int a,.int i],.tup [.int a',.int i'],.int m]/\T a i=some (.int t)/\T a' i'=some (.int t')/\Old c a i/\Old c a' i'/\¬ (a=a'/\i=i')/\t' - t<=m
def zD(wy:List Wy)(T:Int->Int->Option D)(c:Int->Nat)(mo:Int):Rw->Prop
 |.take h _ a b=>∃ms,T a b=some (.int ms)/\Old c a b/\ms+(wOf wy a h).l<=mo/\∀m,(wOf wy a h).m=some m->mo<=ms+m
 |r=>r.sg mo
theorem BY{T:Int->Int->Option D}{c:Int->Nat}{mo:Int}(h:r.s≠"take")(s:r.sg mo):zD wy T c mo r:=by
 cases r with
 |take=>exact absurd rfl h
 |_=>exact s
structure TC (d_:List (Int×Int)) (wy:List Wy) (td:List (Rw×Int)) (at_:List A3)(sn:List Ent):Prop where
 z:tm (td.map ht) (-1) 0=some (.int 0)
 n:∀k:Nat,k<d_.length->(a0 at_ k).1=cF c00 (td.map Prod.fst) k
 l:∀k:Nat,k<d_.length->0<cF c00 (td.map Prod.fst) k->(a0 at_ k).2.1=lF l00 (td.map Prod.fst) k/\tm (td.map ht) k (cF c00 (td.map Prod.fst) k-1)=some (.int (a0 at_ k).2.2)
 s:∀e∈sn,∃ms,tm (td.map ht) e.h e.k=some (.int ms)/\Old (cF c00 (td.map Prod.fst)) e.h e.k/\e.lo=ms+(wOf wy e.h e.to).l/\e.hi=(wOf wy e.h e.to).m.map (ms+·)
 b:∀b∈bdF d_ wy c00 l00 (td.map Prod.fst),lf (tm (td.map ht)) (cF c00 (td.map Prod.fst)) b
variable {td:List (Rw×Int)}{at_:List A3}{sn:List Ent}
theorem TC.step(C:TC d_ wy td at_ sn)(hl:at_.length=d_.length)(hk:k<d_.length)(eh:r.h=k)(er:r.r=(a0 at_ k).2.1+t)
  (ow:zD wy (tm (td.map ht)) (cF c00 (td.map Prod.fst)) mo r) (ck:(k0 d_ k).1*t<=mo-(a0 at_ k).2.2/\mo-(a0 at_ k).2.2<=(k0 d_ k).2*t)
  (hs:∀e∈KU,e∈sn\/(e.h=k/\e.k=(a0 at_ k).1/\e.lo=mo+(wOf wy e.h e.to).l/\e.hi=(wOf wy e.h e.to).m.map (mo+·))) :
  TC d_ wy (td++[(r,mo)]) (at_.set k ((a0 at_ k).1+1,(a0 at_ k).2.1+t,mo)) KU:=by
 have NN:k<at_.length:=by omega
 have ec:=CW td c00;have e0:(td++[(r,mo)]).map ht=td.map ht++[(r.h,mo)]:=by simp[ht]
 have e1:(td++[(r,mo)]).map Prod.fst=td.map Prod.fst++[r]:=by simp
 have Rl:∀a i,tm ((td++[(r,mo)]).map ht) a i=if (k:Int)=a/\(cF c00 (td.map Prod.fst) k:Int)=i then some (.int mo) else tm (td.map ht) a i:=λa i=>by
  rw[e0,xR,ec];simp only[eh]
 have old:∀{a i},Old (cF c00 (td.map Prod.fst)) a i->tm ((td++[(r,mo)]).map ht) a i=tm (td.map ht) a i:=λ{a i} o=>by
  rw[Rl,Ji];rintro⟨rfl,rfl⟩;rcases o with o|o<;>omega
 have cN:cF c00 ((td++[(r,mo)]).map Prod.fst)=bump (cF c00 (td.map Prod.fst)) k:=by rw[e1,se,eh]
 have self:tm ((td++[(r,mo)]).map ht) k (cF c00 (td.map Prod.fst) k)=some (.int mo):=by rw[Rl,Jr ⟨rfl,rfl⟩]
 have Lo:Old (bump (cF c00 (td.map Prod.fst)) k) k (cF c00 (td.map Prod.fst) k):=.inr (by simp only[bump,if_true];omega)
 have nr:∀{a i:Int},Old (cF c00 (td.map Prod.fst)) a i->a=k->i=cF c00 (td.map Prod.fst) k->False:=λ{a i} o e1 e2=>by
  subst e1;subst e2;rcases o with o|o<;>omega
 have z':tm ((td++[(r,mo)]).map ht) (-1) 0=some (.int 0):=by rw[old (.inl (by decide))];exact C.z
 have up:∀{b},lf (tm (td.map ht)) (cF c00 (td.map Prod.fst)) b->lf (tm ((td++[(r,mo)]).map ht)) (bump (cF c00 (td.map Prod.fst)) k) b:=λ{b} ⟨a,i,a',i',m,x,x',h1,h2,h3,h4,h5,h6⟩=>⟨a,i,a',i',m,x,x',h1,by rw[old h4];exact h2,by rw[old h5];exact h3,h4.bump,h5.bump,h6⟩
 refine⟨z',λj hj=>?_,λj hj hp=>?_,λe he=>?_,λb hb=>?_⟩
 ·rw[cN,a0,cP NN];unfold bump;by_cases e:j=k
  ·subst e;have:=C.n j hj;simp only[if_true];omega
  ·rw[Ji e,Ji (by omega)];exact C.n j hj
 ·rw[cN,e1,rW,eh,er];rw[cN]at hp;unfold bump at hp ⊢;unfold nxt;by_cases e:j=k
  ·subst e;rw[a0,cP NN,Jr rfl];simp only[if_true,true_and];rw[show ((cF c00 (td.map Prod.fst) (j:Int)+1:Nat):Int)-1=cF c00 (td.map Prod.fst) (j:Int) by omega]
   exact self
  ·have ej:¬ (j:Int)=k:=by omega
   rw[Ji ej]at hp;rw[a0,cP NN,Ji e,Ji ej];simp only[Ji ej];obtain⟨q1,q2⟩:=C.l j hj hp;exact⟨q1,by rw[old (.inr (by omega))];exact q2⟩
 ·rw[cN];rcases hs e he with h|⟨h1,h2,h3,h4⟩
  ·obtain⟨ms,q1,q2,q3,q4⟩:=C.s e h;exact⟨ms,by rw[old q2];exact q1,q2.bump,q3,q4⟩
  ·refine⟨mo,?_,?_,h3,h4⟩
   ·rw[h1,h2,C.n k hk];exact self
   ·rw[h1,h2,C.n k hk];exact Lo
 ·rw[cN];rw[e1,sL]at hb;rcases JI.mp hb with h|h
  ·exact up (C.b b h)
  ·unfold gJ at h;rw[eh]at h;rcases JI.mp h with h|h
   ·cases r with
    |look=>cases h
    |send=>cases h
    |Kz a v e l=>
     have ow:e<=mo/\mo<=l:=ow;simp only[bJ,Jl,Kc,or_false]at h;rcases h with rfl|rfl
     ·exact⟨-1,0,_,_,_,0,mo,rfl,z',self,.inl (by decide),Lo,by omega,by omega⟩
     ·exact⟨_,_,-1,0,_,mo,0,rfl,self,z',Lo,.inl (by decide),by omega,by omega⟩
    |take a v x y=>
     obtain⟨ms,q1,q2,q3,q4⟩:=ow;have Rm:=(old q2).trans q1;simp only[bJ,Jl]at h;rcases h with rfl|h
     ·exact⟨_,_,_,_,_,mo,ms,rfl,self,Rm,Lo,q2.bump,λz=>nr q2 z.1.symm z.2.symm,by omega⟩
     ·cases em:(wOf wy x a).m with
      |none=>rw[em]at h;cases h
      |some m=>
       rw[em]at h;have:=q4 m em;rw[JB.mp h];exact⟨_,_,_,_,_,ms,mo,rfl,Rm,self,q2.bump,Lo,λz=>nr q2 z.1 z.2,by omega⟩
   ·split at h
    ·rename_i hp;obtain⟨q1,q2⟩:=C.l k hk hp;have oc:Old (cF c00 (td.map Prod.fst)) k ((cF c00 (td.map Prod.fst) k:Int)-1):=.inr (by omega)
     have Rn:=(old oc).trans q2;have et:r.r-lF l00 (td.map Prod.fst) k=t:=by rw[er,q1];omega
     rw[et,Kh]at h;simp only[nq,Jl,Kc,or_false]at h;rcases h with rfl|rfl
     ·exact⟨_,_,_,_,_,_,mo,rfl,Rn,self,oc.bump,Lo,by omega,ck.2⟩
     ·exact⟨_,_,_,_,_,mo,_,rfl,self,Rn,Lo,oc.bump,by omega,by rw[Int.neg_mul];omega⟩
    ·cases h
end
section
variable {wy:List Wy}{d_:List (Int×Int)}{b:PySem.Addr}{td:List (Rw×Int)}{at_:List A3}{sn:List Ent}
noncomputable def tdD(p:Rw×Int):D:=.tup [p.1.d,.int p.2]
noncomputable def H3(M0:MH)(a b d:PySem.Addr)(at_:List A3)(sn:List Ent)(td:List (Rw×Int)):MH:=put (put (put M0 a (.lst (at_.map a3D))) b (.lst (sn.map Ent.d))) d (.lst (td.map tdD))
structure D3 (a b d:PySem.Addr):Prop where
 ab:a≠b
 ad:a≠d
 bd:b≠d
theorem D3.ga(h:D3 a b d):H3 M0 a b d at_ sn td a=some (.lst (at_.map a3D)):=by unfold H3;rw[ae h.ad,ae h.ab,aa]
theorem D3.gb(h:D3 a b d):H3 M0 a b d at_ sn td b=some (.lst (sn.map Ent.d)):=by unfold H3;rw[ae h.bd,aa]
theorem D3.gd(h:D3 a b d):H3 M0 a b d at_ sn td d=some (.lst (td.map tdD)):=aa
theorem D3.sa(h:D3 a b d){x:List A3}:put (H3 M0 a b d at_ sn td) a (.lst (x.map a3D))=H3 M0 a b d x sn td:=mw h.ab h.ad
theorem D3.sb(h:D3 a b d){x:List Ent}:put (H3 M0 a b d at_ sn td) b (.lst (x.map Ent.d))=H3 M0 a b d at_ x td:=dn h.bd
theorem D3.sd(h:D3 a b d){x:List (Rw×Int)}:put (H3 M0 a b d at_ sn td) d (.lst (x.map tdD))=H3 M0 a b d at_ sn x:=aL
theorem Fm.h3(h:Fm M0):Fm (H3 M0 a b d at_ sn td):=((h.put _ _).put _ _).put _ _
structure TB (H:Nat)(wy:List Wy)(Bd:Int) (td:List (Rw×Int)) (at_:List A3)(sn:List Ent):Prop where
 ta:TA H wy (td.map Prod.fst) at_ sn
 mo:∀x∈at_,(-Bd<=x.2.2/\x.2.2<=Bd)/\(-Bd<=x.2.1/\x.2.1<=Bd)
 sb:∀e∈sn,(-Bd<=e.lo/\e.lo<=Bd)/\inB Bd e.hi
noncomputable def tl:ISs->ISs
 |.cons _ r=>r
 |.nil=>.nil
noncomputable def j9:ISs:=tl (tl (tl (tl (tl (tl aJ)))))
noncomputable def iy:ISs:=tl (tl (tl (tl j9)))
theorem jZ(ha:M a=some (.lst (at_.map a3D)))(h:k<at_.length):ao (.ref a) (.int (k:Nat)) M Q=Q (.tup [.int (a0 at_ k).1,.int (a0 at_ k).2.1,.int (a0 at_ k).2.2]) M:=by
 have e:(at_.map a3D)[k]?=some (a3D (a0 at_ k)):=by
  rw[Jq,Jz h,a0,List.getD_eq_getElem?_getD,Jz h];rfl
 rw[qJ ha];exact hV (bu e)
theorem kF(h:k<at_.length):a0 at_ k∈at_:=by
 rw[a0,List.getD_eq_getElem?_getD,Jz h];exact J6 h
theorem ou{xs:List Int}(hl:xs.length=4)(hw:wy.length<=36)(A:D3 a b d)(hM:Fm M0)(hh:hd<at_.length)(hf:f<=l)
  (k:∀(mo:Int)(r:Rw),f<=mo->mo<=l->r.h=hd->r.r=(a0 at_ hd).2.1+t->r.s≠"take"->r.may wy->r.sg mo->
   aW ⟨(B cls c_ e_),ac T (B cls c_ e_) (n+1)⟩ iy De ES [y0,y1,y2,some (.f_ (d_.map cD)),some (.H_ (wy.map pr) (wy.map wv)),some (.ref a),y6,some (.ref b),some (.ref d),y9,some (.f_ (xs.map D.int)),some (.int hd),some lt,some (.tup [.int t,.int f,.int l]),KH,some (.int mo),some (.tup [.int hd,.int (a0 at_ hd).1]),some r.d] (H3 M0 a b d (at_.set hd ((a0 at_ hd).1+1,(a0 at_ hd).2.1+t,mo)) sn td)) :
  aW ⟨(B cls c_ e_),ac T (B cls c_ e_) (n+1)⟩ j9 De ES [y0,y1,y2,some (.f_ (d_.map cD)),some (.H_ (wy.map pr) (wy.map wv)),some (.ref a),y6,some (.ref b),some (.ref d),y9,some (.f_ (xs.map D.int)),some (.int hd),some lt,some (.tup [.int t,.int f,.int l]),KH,K_,Lf,LC] (H3 M0 a b d at_ sn td):=by
 have i2:∀{M:MH}{Q:VK3},ao (.f_ (xs.map D.int)) (.int 2) M Q=Q (.int (xs.getD 2 0)) M:=λ{M Q}=>aG (k:=2) (by omega)
 have i3:∀{M:MH}{Q:VK3},ao (.f_ (xs.map D.int)) (.int 3) M Q=Q (.int (xs.getD 3 0)) M:=λ{M Q}=>aG (k:=3) (by omega)
 generalize xs.getD 2 0=x2 at i2;generalize xs.getD 3 0=x3 at i3;have p0:0<l-f+1:=by omega
 have m0:=J7 (x2 / 4) (Int.ne_of_gt p0);have m1:=J0 (x2 / 4) p0;obtain⟨mo,TK,mx⟩:=rL f l (f+x2 / 4 % (l-f+1)) (x3 / 16 % 3) (by omega) (by omega)
 obtain⟨r,r1,r2,r3,r4,r5,rx⟩:=Df (cls:=cls) (c_:=c_) (e_:=e_) hl hw;have hs:hd<(at_.set hd ((a0 at_ hd).1+1,(a0 at_ hd).2.1+t,mo)).length:=by simp;exact hh
 have es:a0 (at_.set hd ((a0 at_ hd).1+1,(a0 at_ hd).2.1+t,mo)) hd=((a0 at_ hd).1+1,(a0 at_ hd).2.1+t,mo):=by rw[a0,cP hh,Jr rfl]
 have ib:=λ{Q:VK3}=>jZ (Q:=Q) (A.ga (M0:=M0) (sn:=sn) (td:=td)) hs
 rw[es]at ib;have st:∀{R:MH->Prop},aE (.ref a) (.int (hd:Nat)) (.tup [.int ((a0 at_ hd).1+1),.int ((a0 at_ hd).2.1+t),.int mo]) (H3 M0 a b d at_ sn td) R=R (H3 M0 a b d (at_.set hd ((a0 at_ hd).1+1,(a0 at_ hd).2.1+t,mo)) sn td):=λ{R}=>by
  rw[tD (A.ga) (j:=hd) (by simp[ixN];omega),<-A.sa (x:=at_.set hd ((a0 at_ hd).1+1,(a0 at_ hd).2.1+t,mo)),List.map_set]
  rfl
 have k':=k mo r (by omega) (by omega) r1 r2 r3 r4 r5
 rw[show j9=.cons _ (.cons _ (.cons _ (.cons _ iy))) from rfl];simp[↓i2,↓i3,p0,dN,↓mx,↓jZ (A.ga) hh,↓st,↓ib,↓rx (Fm.h3 hM),av];exact k'
theorem TB.up{k:Nat}{t mo:Int}{H:Nat}{r:Rw}{KU:List Ent}(tb:TB H wy Bd td at_ sn)(hk:k<H)(b0:0<=Bd)(t0:0<=t)(t3:t<=3*Bd)(h1 : -Bd<=mo)(h2:mo<=4*Bd)(ta:TA H wy (td.map Prod.fst++[r]) (at_.set k ((a0 at_ k).1+1,(a0 at_ k).2.1+t,mo)) KU)
  (hs:∀e∈KU,e∈sn\/((-Bd<=e.lo/\e.lo<=5*Bd)/\∀y,e.hi=some y->-Bd<=y/\y<=5*Bd)):TB H wy (5*Bd) (td++[(r,mo)]) (at_.set k ((a0 at_ k).1+1,(a0 at_ k).2.1+t,mo)) KU:=by
 refine⟨by rw[List.map_append];exact ta,λx hx=>?_,λe he=>?_⟩
 ·rcases List.mem_or_eq_of_mem_set hx with h|h
  ·have:=tb.mo x h;omega
  ·have:=(tb.mo _ (kF (by rw[tb.ta.la];exact hk))).2
   rw[h];simp only;omega
 ·rcases hs e he with h|h
  ·obtain⟨c1,c2⟩:=tb.sb e h;exact⟨by omega,λy hy=>by have:=c2 y hy;omega⟩
  ·exact⟨by omega,λy hy=>by have:=h.2 y hy;omega⟩
theorem wg{De:Ends3}{r:Rw}(A:D3 a b d)(hz:td.length<400):b8 d De Z (.tup [r.d,.int mo]) (H3 M0 a b d at_ sn td)=De.nx Z (H3 M0 a b d at_ sn (td++[(r,mo)])):=by
 have hs:td.length<PySem.sizeLine:=Ju (show td.length<1000 by omega) (by decide)
 rw[<-A.sd (td:=td) (x:=td++[(r,mo)])];simp[b8,A.gd,hs,tdD]
theorem fX(h:M p=some (.lst ds)):lE W e De E Z (.ref p) M=wpE W e Z M (b8 p De Z) E:=by
 simp[lE,h];exact Iff.rfl
theorem Gz{r:Rw}:ao r.d (.int 0) M Q=Q (.str r.s) M:=by cases r<;>simp[Rw.d,Rw.s]
theorem Cp{De:Ends3}{e:Ent}(A:D3 a b d)(hz:sn.length<400):b8 b De Z e.d (H3 M0 a b d at_ sn td)=De.nx Z (H3 M0 a b d at_ (sn++[e]) td):=by
 have hs:sn.length<PySem.sizeLine:=Ju (show sn.length<1000 by omega) (by decide)
 rw[<-A.sb (sn:=sn) (x:=sn++[e])];simp[b8,A.gb,hs]
theorem vE{De:Ends3}{r:Rw}(G:GW d_ wy)(A:D3 a b d)(tb:TB d_.length wy Bd td at_ sn)(hh:hd<d_.length)(b0:10 ^ 43<=Bd)(z1:td.length<400)(z2:sn.length<400)(ht:0<=t)(t3:t<=3*Bd)(b1:Bd<=10 ^ 60)(m1 : -Bd<=mo)(m2:mo<=4*Bd)(r1:r.h=hd)(r2:r.r=(a0 at_ hd).2.1+t)(r3:r.s≠"take")(r4:r.may wy)(r5:r.sg mo)(tc:TC d_ wy td at_ sn)(ck:(k0 d_ hd).1*t<=mo-(a0 at_ hd).2.2/\mo-(a0 at_ hd).2.2<=(k0 d_ hd).2*t)
  (k:∀K4 at' KU,K4.length=td.length+1->KU.length<=sn.length+1->TB d_.length wy (5*Bd) K4 at' KU->TC d_ wy K4 at' KU->∀Ku Kx KG KH K_ Lf LC,De.nx [y0,y1,y2,some (.f_ (d_.map cD)),some (.H_ (wy.map pr) (wy.map wv)),some (.ref a),y6,some (.ref b),some (.ref d),y9,I_,Ku,Kx,KG,KH,K_,Lf,LC] (H3 M0 a b d at' KU K4)) :
  aW ⟨(B cls c_ e_),ac T (B cls c_ e_) (n+1)⟩ iy De ES [y0,y1,y2,some (.f_ (d_.map cD)),some (.H_ (wy.map pr) (wy.map wv)),some (.ref a),y6,some (.ref b),some (.ref d),y9,I_,some (.int hd),some .i_,KG,KH,some (.int mo),some (.tup [.int hd,.int (a0 at_ hd).1]),some r.d] (H3 M0 a b d (at_.set hd ((a0 at_ hd).1+1,(a0 at_ hd).2.1+t,mo)) sn td):=by
 have mr:=(tb.mo _ (kF (by rw[tb.ta.la];exact hh))).2
 have MW:r.fine d_.length wy:=⟨by rw[r1];simp[okH,hh],r4,by rw[r2];omega⟩
 have tp:=λ{De:Ends3}{Z:St3}{at_:List A3}{sn:List Ent}=>wg (M0:=M0) (De:=De) (Z:=Z) (r:=r) (mo:=mo) (at_:=at_) (sn:=sn) A z1
 simp only[iy,j9,tl,aJ];by_cases e:r.s = "send"
 ·cases r with
  |send h v to=>
   obtain rfl:h=(hd:Int):=r1;obtain rfl:v=(a0 at_ hd).2.1+t:=r2;have hm:[(hd:Int),to]∈wy.map pr:=r4;obtain⟨w,hw,ew⟩:=JJ.mp hm;simp only[pr,List.cons.injEq,and_true]at ew;have g:=G.gd w hw;have ix:=λ{M:MH}{Q:VK3}=>pY (M:=M) (Q:=Q) G.nd hw
   rw[ew.1,ew.2]at ix;have gj:=g.j;rw[ew.2]at gj;simp only[okH,Jf,Js]at gj;have gl:=g.l;simp only[mW,Bool.or_eq_false_iff,decide_eq_false_iff_not]at gl;obtain⟨l1,l2⟩:=G.sm w hw;have ta:=tb.ta.send (m:=mo) (e:=⟨hd,(a0 at_ hd).1,to,mo+w.l,w.m.map (mo+·)⟩) hh MW gj.1 gj.2 rfl rfl;have:=k (td++[(.send hd ((a0 at_ hd).2.1+t) to,mo)]) _ _ (by simp) (by simp) (tb.up hh (by omega) ht t3 m1 m2 ta λe he=>by
    rcases JI.mp he with z|z
    ·exact .inl z
    ·refine .inr ?_;rw[JB.mp z];refine⟨by simp only;omega,λy hy=>?_⟩
     cases em:w.m with
     |none=>rw[em]at hy;cases hy
     |some q=>
      rw[em]at hy gl;have q1:=l2 q em;have q2:¬ q<w.l:=of_decide_eq_false gl.2;simp only[Option.map,Option.some.injEq]at hy;omega) (tc.step (r:=.send hd ((a0 at_ hd).2.1+t) to) tb.ta.la hh rfl rfl trivial ck λe he=>by
    rcases JI.mp he with z|z
    ·exact .inl z
    ·refine .inr ?_;rw[JB.mp z];have ww:=wA G.nd hw;rw[ew.1,ew.2]at ww;exact⟨rfl,rfl,by simp only[ww],by simp only[ww]⟩)
   simp only[Rw.d]at tp;simp only[wv,way]at ix;simp[-List.getD_eq_getElem?_getD,Rw.d,↓ix,↓BK,↓fX (A.gb),↓Cp A z2,↓fX (A.gd),↓tp,av];exact this _ _ _ _ _ _ _
  |_=>exact absurd e (by simp +decide [Rw.s])
 ·have ta:=tb.ta.plain (v:=(a0 at_ hd).2.1+t) (m:=mo) hh MW;have:=k (td++[(r,mo)]) _ _ (by simp) (by omega) (tb.up hh (by omega) ht t3 m1 m2 ta λe he=>.inl he) (tc.step tb.ta.la hh r1 r2 (BY r3 r5) ck λe he=>.inl he)
  simp[D.isN,↓Gz,e,↓fX (A.gd),↓tp,av];exact this _ _ _ _ _ _ _
theorem Bo{x e:Ent}(h:¬ (x.h=e.h/\x.k=e.k)):eqD x.d e.d=false:=by
 simp only[Ent.d,eqD,cV];by_cases h1:x.h=e.h
 ·have:¬ x.k=e.k:=λz=>h ⟨h1,z⟩
  simp[this]
 ·simp[h1]
theorem km{e:Ent}:plN (k+2) e.d=true:=by
 cases z:e.hi<;>simp[Ent.d,plN,z]
theorem ss{e:Ent}:∀(Ls:List Ent)(k0:Nat),(∀x∈Ls,¬ (x.h=e.h/\x.k=e.k))->qi e.d ((Ls++e::sn2).map Ent.d) k0=some (k0+Ls.length)
 |[],k0,_=>by
  have:eqD e.d e.d=true:=pN 8 km;simp[qi,this]
 |x::r,k0,h=>by
  simp only[List.cons_append,Jm,qi];rw[Bo (h x Jk),Ji JN,ss r (k0+1) λy hy=>h y (Jg _ hy),Jw]
  congr 1;omega
theorem BU{e:Ent}(A:D3 a b d)(h:∀x∈Ls,¬ (x.h=e.h/\x.k=e.k)):rBm .remove (.ref b) [e.d] (H3 M0 a b d at_ (Ls++e::sn2) td) Q=Q .i_ (H3 M0 a b d at_ (Ls++sn2) td):=by
 have e1:res (H3 M0 a b d at_ (Ls++e::sn2) td) e.d=e.d:=rfl;have e2:pls ((Ls++e::sn2).map Ent.d)=true:=JE.mpr λx hx=>by
  obtain⟨y,_,rfl⟩:=JJ.mp hx;exact km
 have e3:=ss (sn2:=sn2) Ls 0 h;have e4:((Ls++e::sn2).map Ent.d).eraseIdx Ls.length=(Ls++sn2).map Ent.d:=by
  rw[List.map_append,Jm,List.eraseIdx_append_of_length_le (by simp)];simp
 rw[Nat.zero_add]at e3;simp only[rBm,A.gb,e1,e2,e3,e4,A.sb];rw[show pl e.d=true from km];simp
theorem en0{e:Ent}:ao e.d (.int 0) M Q=Q (.tup [.int e.h,.int e.k]) M:=by simp[Ent.d]
theorem en1{e:Ent}:ao e.d (.int 1) M Q=Q (.int e.to) M:=by simp[Ent.d]
theorem en2{e:Ent}:ao e.d (.int 2) M Q=Q (.int e.lo) M:=by simp[Ent.d]
theorem en3{e:Ent}:ao e.d (.int 3) M Q=Q (oi e.hi) M:=by simp[Ent.d]
theorem wx{De:Ends3}{e:Ent}(A:D3 a b d)(tb:TB d_.length wy Bd td at_ (Ls++e::sn2))(hh:hd<d_.length)(he:e.to=hd)(b0:0<=Bd)(z1:td.length<400)(ht:0<=t)(t3:t<=3*Bd)(b1:Bd<=10 ^ 60)(m1 : -Bd<=mo)(m2:mo<=4*Bd)(tc:TC d_ wy td at_ (Ls++e::sn2))(ck:(k0 d_ hd).1*t<=mo-(a0 at_ hd).2.2/\mo-(a0 at_ hd).2.2<=(k0 d_ hd).2*t)(f1:e.lo<=mo)(f2:∀y,e.hi=some y->mo<=y)
  (k:∀K4 at' KU,K4.length=td.length+1->KU.length<=(Ls++e::sn2).length+1->TB d_.length wy (5*Bd) K4 at' KU->TC d_ wy K4 at' KU->∀Ku Kx KG KH K_ Lf LC,De.nx [y0,y1,y2,y3,y4,some (.ref a),y6,some (.ref b),some (.ref d),y9,I_,Ku,Kx,KG,KH,K_,Lf,LC] (H3 M0 a b d at' KU K4)) :
  aW ⟨(B cls c_ e_),ac T (B cls c_ e_) (n+1)⟩ iy De ES [y0,y1,y2,y3,y4,some (.ref a),y6,some (.ref b),some (.ref d),y9,I_,some (.int hd),some e.d,KG,KH,some (.int mo),Lf,LC] (H3 M0 a b d (at_.set hd ((a0 at_ hd).1+1,(a0 at_ hd).2.1+t,mo)) (Ls++e::sn2) td):=by
 have hl:hd<at_.length:=by rw[tb.ta.la];exact hh
 have mr:=(tb.mo _ (kF hl)).2;have un:=(tb.ta.un e (by simp)).1
 rw[he]at un;have MW:(Rw.take hd ((a0 at_ hd).2.1+t) e.h e.k).fine d_.length wy:=⟨by simp[okH,Rw.h,hh],un,by simp only[Rw.r];omega⟩
 have nd:=tb.ta.nd;rw[List.map_append,Jm,List.nodup_append]at nd;have hn:∀x∈Ls,¬ (x.h=e.h/\x.k=e.k):=λx hx z=>nd.2.2 (x.h,x.k) (JJ.mpr ⟨x,hx,rfl⟩) (e.h,e.k) (by simp) (by rw[z.1,z.2])
 have ta:=tb.ta.take (m:=mo) hh MW;have fin:=k (td++[(.take hd ((a0 at_ hd).2.1+t) e.h e.k,mo)]) _ _ (by simp) (by simp;omega) (tb.up hh b0 ht t3 m1 m2 ta λx hx=>.inl (by
  rcases JI.mp hx with z|z
  ·exact JR _ z
  ·exact JD _ (Jg _ z))) (tc.step tb.ta.la hh rfl rfl (by
   obtain⟨ms,q1,q2,q3,q4⟩:=tc.s e (by simp)
   rw[he]at q3 q4;refine⟨ms,q1,q2,by omega,λm em=>?_⟩
   rw[em]at q4;exact f2 _ q4) ck λx hx=>.inl (by
  rcases JI.mp hx with z|z
  ·exact JR _ z
  ·exact JD _ (Jg _ z)))
 have hs:hd<(at_.set hd ((a0 at_ hd).1+1,(a0 at_ hd).2.1+t,mo)).length:=by simp;exact hl
 have es:a0 (at_.set hd ((a0 at_ hd).1+1,(a0 at_ hd).2.1+t,mo)) hd=((a0 at_ hd).1+1,(a0 at_ hd).2.1+t,mo):=by rw[a0,cP hl,Jr rfl]
 have ib:=λ{sn:List Ent}{Q:VK3}=>jZ (Q:=Q) (A.ga (M0:=M0) (sn:=sn) (td:=td)) hs
 simp only[es]at ib;have tp:=λ{De:Ends3}{Z:St3}{al:List A3}{sn:List Ent}=>wg (M0:=M0) (De:=De) (Z:=Z) (r:=.take hd ((a0 at_ hd).2.1+t) e.h e.k) (mo:=mo) (at_:=al) (sn:=sn) A z1
 simp only[Rw.d]at tp;simp only[iy,j9,tl,aJ];simp[n0,tyB,jA (A.gb),↓BU A hn,↓ib,↓en0,↓fX (A.gd),↓tp,av];exact fin _ _ _ _ _ _ _
end
section
variable {wy:List Wy}{d_:List (Int×Int)}{b:PySem.Addr}{td:List (Rw×Int)}{at_:List A3}{sn:List Ent}
noncomputable def vV:ISs:=tl (tl (tl aJ))
theorem pi(h:k<d_.length):ao (.f_ (d_.map cD)) (.int (k:Nat)) M Q=Q (.tup [.int (k0 d_ k).1,.int (k0 d_ k).2]) M:=by
 have e:(d_.map cD)[k]?=some (cD (k0 d_ k)):=by
  rw[Jq,Jz h,k0,List.getD_eq_getElem?_getD,Jz h];rfl
 exact hV (bu e)
theorem wI(G:GW d_ wy)(h:k<d_.length):1<=(k0 d_ k).1/\(k0 d_ k).1<=(k0 d_ k).2/\(k0 d_ k).2<=10 ^ 31:=by
 have hm:k0 d_ k∈d_:=by rw[k0,List.getD_eq_getElem?_getD,Jz h];exact J6 h
 obtain⟨h1,h2⟩:=G.ck _ hm;simp only[nK,Bool.or_eq_false_iff,decide_eq_false_iff_not]at h1;exact⟨by omega,by omega,h2⟩
theorem wq{xs:List Int}{lo:Option Int}(hx:3<=xs.length)(G:GW d_ wy)(tb:TB d_.length wy Bd td at_ sn)(h:k<d_.length)(b0:10 ^ 43<=Bd)(b1:Bd<=10 ^ 60)(hl:inB Bd lo)(hh:inB Bd hi) :
  ∃t f l:Int,0<=t/\t<=3*Bd/\(-Bd<=f/\f<=4*Bd)/\(-Bd<=l/\l<=4*Bd)/\(lo=none->hi=none->f<=l)/\LagR (k0 d_ k).1 (k0 d_ k).2 (a0 at_ k).2.2 t f l lo hi/\∀{n:Nat}{M:MH}{Q:VK3}{E:XN},ac T (B cls c_ e_) (n+1) 60 [.tup [.int (k0 d_ k).1,.int (k0 d_ k).2],.tup [.int (a0 at_ k).1,.int (a0 at_ k).2.1,.int (a0 at_ k).2.2],.f_ (xs.map D.int),oi lo,oi hi] M Q E=Q (.tup [.int t,.int f,.int l]) M:=by
 obtain⟨c1,c2,c3⟩:=wI G h;obtain⟨m1,m2⟩:=(tb.mo _ (kF (by rw[tb.ta.la];exact h))).1
 obtain⟨t,f,l,t1,t3,f1,l1,e,lr,cl⟩:=DF hx c1 c2 c3 b0 b1 m1 m2 hl hh;exact⟨t,f,l,t1,t3,f1,l1,e,lr,cl⟩
theorem zB{xs:List Int}{De:Ends3}(hl:xs.length=4)(G:GW d_ wy)(A:D3 a b d)(hM:Fm M0)(tb:TB d_.length wy Bd td at_ sn)(tc:TC d_ wy td at_ sn)(hh:hd<d_.length)(b0:10 ^ 43<=Bd)(b1:Bd<=10 ^ 60)(z1:td.length<400)(z2:sn.length<400)
  (k:∀K4 at' KU,K4.length=td.length+1->KU.length<=sn.length+1->TB d_.length wy (5*Bd) K4 at' KU->TC d_ wy K4 at' KU->∀I_ Ku Kx KG KH K_ Lf LC,De.nx [y0,y1,y2,some (.f_ (d_.map cD)),some (.H_ (wy.map pr) (wy.map wv)),some (.ref a),y6,some (.ref b),some (.ref d),y9,I_,Ku,Kx,KG,KH,K_,Lf,LC] (H3 M0 a b d at' KU K4)) :
  aW ⟨(B cls c_ e_),ac T (B cls c_ e_) (n+1)⟩ vV De ES [y0,y1,y2,some (.f_ (d_.map cD)),some (.H_ (wy.map pr) (wy.map wv)),some (.ref a),y6,some (.ref b),some (.ref d),y9,some (.f_ (xs.map D.int)),some (.int hd),Kx,KG,KH,K_,Lf,LC] (H3 M0 a b d at_ sn td):=by
 have la:=tb.ta.la;have i0:∀{M:MH}{Q:VK3},ao (.f_ (xs.map D.int)) (.int 0) M Q=Q (.int (xs.getD 0 0)) M:=λ{M Q}=>aG (k:=0) (by omega)
 have i3:∀{M:MH}{Q:VK3},ao (.f_ (xs.map D.int)) (.int 3) M Q=Q (.int (xs.getD 3 0)) M:=λ{M Q}=>aG (k:=3) (by omega)
 generalize xs.getD 0 0=x0 at i0;generalize xs.getD 3 0=x3 at i3;obtain⟨t,f,l,t1,t3,f1,l1,fl,lr,cl⟩:=wq (xs:=xs) (lo:=none) (hi:=none) (by omega) G tb hh b0 b1 (λy e=>by cases e) (λy e=>by cases e)
 have fl:=fl rfl rfl;have Pl:∀{M:MH}{Q:VK3}{E:XN},ac T (B cls c_ e_) (n+1) 60 [.tup [.int (k0 d_ hd).1,.int (k0 d_ hd).2],.tup [.int (a0 at_ hd).1,.int (a0 at_ hd).2.1,.int (a0 at_ hd).2.2],.f_ (xs.map D.int),.i_,.i_] M Q E=Q (.tup [.int t,.int f,.int l]) M:=cl;have ic:=λ{M:MH}{Q:VK3}=>pi (M:=M) (Q:=Q) hh
 have ia:=λ{Q:VK3}=>jZ (Q:=Q) (k:=hd) (A.ga (M0:=M0) (at_:=at_) (sn:=sn) (td:=td)) (by omega)
 have plain:∀KH,aW ⟨(B cls c_ e_),ac T (B cls c_ e_) (n+1)⟩ j9 De ES [y0,y1,y2,some (.f_ (d_.map cD)),some (.H_ (wy.map pr) (wy.map wv)),some (.ref a),y6,some (.ref b),some (.ref d),y9,some (.f_ (xs.map D.int)),some (.int hd),some .i_,some (.tup [.int t,.int f,.int l]),KH,K_,Lf,LC] (H3 M0 a b d at_ sn td):=λKH=>
  ou hl G.w36 A hM (by omega) fl λmo r m1 m2 r1 r2 r3 r4 r5=>vE G A tb hh b0 z1 z2 t1 t3 b1 (by omega) (by omega) r1 r2 r3 r4 r5 tc ⟨by have:=lr.f0;omega,by have:=lr.l0;omega⟩ λK4 at' KU h1 h2 h3 h4=>k K4 at' KU h1 h2 h3 h4 _
 have nn:∀{Q:VK3},aC .NotEq (.ref b) (.f_ []) (H3 M0 a b d at_ sn td) Q=Q (.bl (!(sn.map Ent.d).isEmpty)) (H3 M0 a b d at_ sn td):=λ{Q}=>nM (by simp[ak,A.gb]) (JE.mpr λx hx=>by
  obtain⟨y,_,rfl⟩:=JJ.mp hx;exact km) (JE.mpr λx hx=>by
  obtain⟨y,_,rfl⟩:=JJ.mp hx;exact km)
 rw[show vV=.cons _ (.cons _ (.cons _ j9)) from rfl];by_cases c1:4<x3 / 2 % 8
 ·by_cases c2:sn=[]
  ·subst c2;simp[↓ic,↓ia,↓Pl,↓i3,dN,↓nn];exact plain _
  ·have lp:0<sn.length:=List.length_pos_iff.mpr c2;have NR:(0:Int)<sn.length:=by omega
   obtain⟨j,hj⟩:=J4 (J7 (x0 / 7) (Int.ne_of_gt NR));have jl:j<sn.length:=by have:=J0 (x0 / 7) NR;omega
   have lb:∀{Q:VK3},rBi .len [.ref b] (H3 M0 a b d at_ sn td) Q=Q (.int sn.length) (H3 M0 a b d at_ sn td):=λ{Q}=>by simp[rBi,az,ak,A.gb]
   have xb:∀{Q:VK3},ao (.ref b) (.int (j:Nat)) (H3 M0 a b d at_ sn td) Q=Q (sn[j]).d (H3 M0 a b d at_ sn td):=λ{Q}=>by
    rw[qJ A.gb];exact hV (bu (by simp[jl]))
   have hm:sn[j]∈sn:=J6 jl;generalize sn[j]=e at xb hm;obtain⟨_,e0,eH⟩:=tb.ta.un e hm;obtain⟨⟨TL,TN⟩,ein⟩:=tb.sb e hm;obtain⟨g,hg⟩:=J4 e0;have gH:g<d_.length:=by omega
   obtain⟨t',f',l',SF,SG,TQ,TR,_,Pm,cn⟩:=wq (xs:=xs) (lo:=some e.lo) (by omega) G tb gH b0 b1 (λy z=>by cases z;omega) ein
   have Ro:∀{M:MH}{Q:VK3}{E:XN},ac T (B cls c_ e_) (n+1) 60 [.tup [.int (k0 d_ g).1,.int (k0 d_ g).2],.tup [.int (a0 at_ g).1,.int (a0 at_ g).2.1,.int (a0 at_ g).2.2],.f_ (xs.map D.int),.int e.lo,oi e.hi] M Q E=Q (.tup [.int t',.int f',.int l']) M:=cn;have q1:∀{M:MH}{Q:VK3},ao e.d (.int 1) M Q=Q (.int (g:Nat)) M:=λ{M Q}=>by rw[en1,hg]
   have Rp:=λ{Q:VK3}=>jZ (Q:=Q) (k:=g) (A.ga (M0:=M0) (at_:=at_) (sn:=sn) (td:=td)) (by omega)
   by_cases c3:l' < f'
   ·simp[↓ic,↓ia,↓Pl,↓i3,↓i0,dN,c1,↓nn,c2,↓lb,lp,hj,↓xb,↓q1,↓en2,↓en3,↓pi gH,↓Rp,↓Ro,c3];exact plain _
   ·simp[↓ic,↓ia,↓Pl,↓i3,↓i0,dN,c1,↓nn,c2,↓lb,lp,hj,↓xb,↓q1,↓en2,↓en3,↓pi gH,↓Rp,↓Ro,c3];obtain⟨Ls,sn2,rfl⟩:=List.append_of_mem hm;exact ou hl G.w36 A hM (by omega) (by omega) λmo r m1 m2 r1 r2 r3 r4 r5=>wx A tb gH hg (by omega) z1 SF SG b1 (by omega) (by omega) tc ⟨by have:=Pm.f0;omega,by have:=Pm.l0;omega⟩ (by have:=Pm.fl _ rfl;omega) (λy hy=>by have:=Pm.lh y hy;omega) λK4 at' KU h1 h2 h3 h4=>k K4 at' KU h1 h2 h3 h4 _
 ·simp[↓ic,↓ia,↓Pl,↓i3,dN,c1];exact plain _
theorem nG{De:Ends3}(G:GW d_ wy)(A:D3 a b d)(hM:Fm M0)(tb:TB d_.length wy Bd td at_ sn)(tc:TC d_ wy td at_ sn)(b0:10 ^ 43<=Bd)(b1:Bd<=10 ^ 60)(z1:td.length<400)(z2:sn.length<400)
  (k:∀K4 at' KU,K4.length=td.length+1->KU.length<=sn.length+1->TB d_.length wy (5*Bd) K4 at' KU->TC d_ wy K4 at' KU->∀I_ Ku Kx KG KH K_ Lf LC,De.nx [y0,y1,y2,some (.f_ (d_.map cD)),some (.H_ (wy.map pr) (wy.map wv)),some (.ref a),y6,some (.ref b),some (.ref d),some (.int c),I_,Ku,Kx,KG,KH,K_,Lf,LC] (H3 M0 a b d at' KU K4)) :
  aW ⟨(B cls c_ e_),ac T (B cls c_ e_) (n+1)⟩ aJ De ES [y0,y1,y2,some (.f_ (d_.map cD)),some (.H_ (wy.map pr) (wy.map wv)),some (.ref a),y6,some (.ref b),some (.ref d),some (.int c),I_,Ku,Kx,KG,KH,K_,Lf,LC] (H3 M0 a b d at_ sn td):=by
 have fm:Fm (H3 M0 a b d at_ sn td):=Fm.h3 hM;have st:∀{Q:VK3}{E:XN},ac T (B cls c_ e_) (n+1) 56 [.int c,.int 4] (H3 M0 a b d at_ sn td) Q E=Q (.f_ ((aM c 4).map D.int)) (H3 M0 a b d at_ sn td):=λ{Q E}=>eX (m:=4) fm (by omega)
 have hl:(aM c 4).length=4:=bQ;generalize aM c 4=xs at st hl;have i0:∀{M:MH}{Q:VK3},ao (.f_ (xs.map D.int)) (.int 0) M Q=Q (.int (xs.getD 0 0)) M:=λ{M Q}=>aG (k:=0) (by omega)
 have i3:∀{M:MH}{Q:VK3},ao (.f_ (xs.map D.int)) (.int 3) M Q=Q (.int (xs.getD 3 0)) M:=λ{M Q}=>aG (k:=3) (by omega)
 generalize xs.getD 0 0=x0 at i0;generalize xs.getD 3 0=x3 at i3;have la:=tb.ta.la;have l1:=G.l1;have l6:=G.l6;have lp:0<d_.length:=by omega
 have NR:(0:Int)<d_.length:=by omega
 obtain⟨j,hj⟩:=J4 (J7 x0 (Int.ne_of_gt NR));have jl:j<d_.length:=by have:=J0 x0 NR;omega
 rw[show aJ=.cons _ (.cons _ (.cons _ vV)) from rfl];by_cases c1:x3 % 2=0
 ·obtain⟨g,m,hg,cb⟩:=Bf fm A.ga (by omega) (by omega)
  have ga:=A.ga (M0:=M0) (at_:=at_) (sn:=sn) (td:=td);simp[↓st,↓i0,↓i3,lp,hj,c1,ga,ay,↓cb];exact (zB hl G A hM tb tc (by omega) b0 b1 z1 z2 k)
 ·simp[↓st,↓i0,↓i3,lp,hj,c1];exact (zB hl G A hM tb tc jl b0 b1 z1 z2 k)
theorem l5{De:Ends3}(G:GW d_ wy)(A:D3 a b d)(hM:Fm M0):∀(cs:List Int)(Bd:Int) (td:List (Rw×Int)) (at_:List A3)(sn:List Ent)(y9 I_ Ku Kx KG KH K_ Lf LC:Option D),10 ^ 43<=Bd->Bd*5 ^ cs.length<=10 ^ 60->td.length+cs.length<=300->sn.length+cs.length<=300->TB d_.length wy Bd td at_ sn->TC d_ wy td at_ sn->
  (∀(K4:List (Rw×Int)) at' KU,(∀r∈K4.map Prod.fst,r.fine d_.length wy)->TC d_ wy K4 at' KU->K4.length=td.length+cs.length->∀y9 I_ Ku Kx KG KH K_ Lf LC,De.nx [y0,y1,y2,some (.f_ (d_.map cD)),some (.H_ (wy.map pr) (wy.map wv)),some (.ref a),y6,some (.ref b),some (.ref d),y9,I_,Ku,Kx,KG,KH,K_,Lf,LC] (H3 M0 a b d at' KU K4))->
  aV ⟨(B cls c_ e_),ac T (B cls c_ e_) (n+1)⟩ (.name 9) aJ ES (λ_=>True) De (cs.map D.int) [y0,y1,y2,some (.f_ (d_.map cD)),some (.H_ (wy.map pr) (wy.map wv)),some (.ref a),y6,some (.ref b),some (.ref d),y9,I_,Ku,Kx,KG,KH,K_,Lf,LC] (H3 M0 a b d at_ sn td)
 |[],Bd,td,at_,sn,y9,I_,Ku,Kx,KG,KH,K_,Lf,LC,b0,b1,z1,z2,tb,tc,k=>by
  exact⟨trivial,k td at_ sn tb.ta.f tc (by simp) _ _ _ _ _ _ _ _ _⟩
 |c::cs,Bd,td,at_,sn,y9,I_,Ku,Kx,KG,KH,K_,Lf,LC,b0,b1,z1,z2,tb,tc,k=>by
  simp only[Jw]at z1 z2 k b1;have p1:(1:Int)<=5 ^ cs.length:=by have:(0:Int)<5 ^ cs.length:=Int.pow_pos (by decide);omega
  have e5:Bd*5 ^ (cs.length+1)=5*Bd*5 ^ cs.length:=by rw[Int.pow_succ,Int.mul_comm (5 ^ cs.length) 5,<-Int.mul_assoc,Int.mul_comm Bd 5]
  rw[e5]at b1;have b2:5*Bd<=5*Bd*5 ^ cs.length:=by
   have:=Int.mul_le_mul_of_nonneg_left (c:=5*Bd) p1 (by omega)
   rwa [Int.mul_one]at this
  refine⟨trivial,?_⟩;refine nG G A hM tb tc b0 (by omega) (by omega) (by omega) λK4 at' KU h1 h2 h3 h4 I_ Ku Kx KG KH K_ Lf LC=>?_
  exact l5 G A hM cs (5*Bd) K4 at' KU _ _ _ _ _ _ _ _ _ (by omega) b1 (by omega) (by omega) h3 h4 λSH a2 s2 f2 g2 l2=>k SH a2 s2 f2 g2 (by omega)
theorem sF{De:Ends3}{st:Int}:∀(xs:List Int)(at_:List A3)(y6:Option D),at_.length+xs.length<400->
  (∀y6,De.nx (y0::some (.int st)::y2::y3::y4::some (.ref a)::y6::ys) (put M0 a (.lst ((at_++xs.map λx=>(0,x % 1000000000000-100000000000,st % 1000000000000-100000000000)).map a3D))))->
  aV W (.name 6) dh ES (λ_=>True) De (xs.map D.int) (y0::some (.int st)::y2::y3::y4::some (.ref a)::y6::ys) (put M0 a (.lst (at_.map a3D)))
 |[],at_,y6,hl,hR=>by
  have:=hR y6;rw[List.map_nil,JZ]at this;exact⟨trivial,this⟩
 |x::xs,at_,y6,hl,hR=>by
  simp only[Jw]at hl;have hs:at_.length<PySem.sizeLine:=Ju (show at_.length<1000 by omega) (by decide)
  have ih:=sF (W:=W) (ES:=ES) xs (at_++[(0,x % 1000000000000-100000000000,st % 1000000000000-100000000000)]) (some (.int x)) (by simp;omega) (λy6=>by
   have:=hR y6;simpa using this)
  rw[Jm,aA];simp only[dh]at ih ⊢;simp[jT,hs,av];simpa [a3D] using ih
theorem EV(ha:M a=none)(hb:M b=none)(hd:M d=none):aw M (del (H3 M a b d at_ sn td) d)=M:=by
 funext k;unfold aw del H3 put;by_cases k1:k=d
 ·subst k1;simp[hd]
 ·by_cases k2:k=b
  ·subst k2;simp[hb]
  ·by_cases k3:k=a
   ·subst k3;simp[ha]
   ·simp[k1,k2,k3];cases M k<;>rfl
theorem AD{st:Int}{cs:List Int}(G:GW d_ wy)(hM:Fm M)(hl:cs.length<=16)(k:∀td:List (Rw×Int),(∀r∈td.map Prod.fst,r.fine d_.length wy)->(∃at_ sn,TC d_ wy td at_ sn)->td.length<=16->Q (.f_ (td.map tdD)) M) :
  ac T (B cls c_ e_) (n+2) 63 [.tup [.f_ (d_.map cD),.H_ (wy.map pr) (wy.map wv)],.int st,.f_ (cs.map D.int)] M Q E:=by
 have l6:=G.l6;have sm:∀{M:MH}{Q:VK3}{E:XN},Fm M->ac T (B cls c_ e_) (n+1) 56 [.int st,.int (d_.length:Nat)] M Q E=Q (.f_ ((aM st d_.length).map D.int)) M:=λ{M Q E} fm=>eX fm (by omega)
 have sl:(aM st d_.length).length=d_.length:=bQ;generalize aM st d_.length=xs at sm sl;simp only[qK,fQ];simp;intro a ha;simp[sm (hM.put _ _)];refine sF xs [] none (by simp;omega) λy6=>?_
 simp[-List.map_map];intro b hb d hd;obtain⟨OR,hb⟩:=cr hb;obtain⟨Ld,hd⟩:=cr hd;obtain⟨MX,hd⟩:=cr hd;have A:D3 a b d:=⟨Jv OR,Jv MX,Jv Ld⟩;generalize N3:(xs.map λx=>((0:Int),x % 1000000000000-100000000000,st % 1000000000000-100000000000))=at_
 have tb:TB d_.length wy (10 ^ 43) [] at_ []:=by
  have Qp:∀x∈at_,(-(10 ^ 43)<=x.2.2/\x.2.2<=10 ^ 43)/\(-(10 ^ 43)<=x.2.1/\x.2.1<=10 ^ 43):=λx hx=>by
   rw[<-N3]at hx;obtain⟨y,_,rfl⟩:=JJ.mp hx;exact⟨by simp only;omega,by simp only;omega⟩
  have la:at_.length=d_.length:=by rw[<-N3];simp[sl]
  refine⟨⟨λr hr=>(by cases hr),la,λe he=>(by cases he),λe he=>(by cases he),by simp⟩,Qp,λe he=>by cases he⟩
 have tc:TC d_ wy [] at_ []:=⟨rfl,λk hk=>(by
   have hz:∀x∈at_,x.1=0:=λx hx=>by rw[<-N3]at hx;obtain⟨y,_,rfl⟩:=JJ.mp hx;rfl
   exact hz _ (kF (by rw[tb.ta.la];exact hk))),λk hk h=>(by cases h),λe he=>(by cases he),λb hb=>(by cases hb)⟩
 refine l5 G A hM cs (10 ^ 43) [] at_ [] none none none none none none none none none (by omega) ?_ (by simp;omega) (by simp;omega) tb tc λK4 at' KU f g l y9 I_ Ku Kx KG KH K_ Lf LC=>?_
 ·have:(5:Int) ^ cs.length<=5 ^ 16:=by
   have:=Int.ofNat_le.mpr (Nat.pow_le_pow_right (show 5 > 0 by decide) hl)
   exact this
  have:=Int.mul_le_mul_of_nonneg_left (c:=(10:Int) ^ 43) this (by decide)
  exact Int.le_trans this (by decide)
 ·have:=k K4 f ⟨_,_,g⟩ (by simpa [l] using hl)
  simp[bb,A.gd,EV ha hb hd];exact this
end
section
variable {cls c_ e_:Nat->PySem.Addr}{M:MH}{Q:VK3}{E:XN}{n:Nat}{p d:PySem.Addr}{d_:List (Int×Int)}{wy:List Wy}{r:Rw}
theorem cJ(h:okH d_.length i=true):ac T (B cls c_ e_) (n+3) 48 [wO c_ d_ wy,.int i] M Q E=Q .i_ M:=by rw[jX,Jr h]
theorem w5{i:Int}(h:okH d_.length i=true):ac T (B cls c_ e_) (n+4) 53 [wO c_ d_ wy,.int i] M Q E=Q (.tup [.int (k0 d_ i.toNat).1,.int (k0 d_ i.toNat).2]) M:=by
 have om:∀{M:MH}{R:Nat->Prop},cG (B cls c_ e_) 119080781550527859766002 (wO c_ d_ wy) M R=R 48:=λ{M R}=>o_m (by decide) (by decide) (by decide)
 have rh:=λ{M:MH}{Q:VK3}{E:XN}=>cJ (cls:=cls) (c_:=c_) (e_:=e_) (n:=n) (M:=M) (Q:=Q) (E:=E) (wy:=wy) h
 simp only[okH,Jf,Js]at h;obtain⟨k,rfl⟩:=J4 h.1;have ix:=λ{M:MH}{Q:VK3}=>pi (M:=M) (Q:=Q) (d_:=d_) (k:=k) (by omega)
 simp only[lz,db];simp[↓om,↓rh,↓o_c,↓ix]
theorem AV{w:Wy}(hg:w.good d_.length)(hn:(wy.map pr).Nodup)(hk:w∈wy):ac T (B cls c_ e_) (n+5) 54 [wO c_ d_ wy,.int w.i,.int w.j] M Q E=Q (way w.l w.m) M:=by
 have om:∀{M:MH}{R:Nat->Prop},cG (B cls c_ e_) 119080781550527859766002 (wO c_ d_ wy) M R=R 48:=λ{M R}=>o_m (by decide) (by decide) (by decide)
 have op:∀{M:MH}{R:Nat->Prop},cG (B cls c_ e_) 135562951883986971505394 (wO c_ d_ wy) M R=R 49:=λ{M R}=>o_m (by decide) (by decide) (by decide)
 have oh:∀{M:MH}{R:Nat->Prop},cG (B cls c_ e_) 535528667410664 (wO c_ d_ wy) M R=R 52:=λ{M R}=>o_m (by decide) (by decide) (by decide)
 have r1:=λ{M:MH}{Q:VK3}{E:XN}=>cJ (cls:=cls) (c_:=c_) (e_:=e_) (n:=n) (M:=M) (Q:=Q) (E:=E) (wy:=wy) hg.i
 have r2:=λ{M:MH}{Q:VK3}{E:XN}=>cJ (cls:=cls) (c_:=c_) (e_:=e_) (n:=n) (M:=M) (Q:=Q) (E:=E) (wy:=wy) hg.j
 have rp:∀{M:MH}{Q:VK3}{E:XN},ac T (B cls c_ e_) (n+4) 49 [wO c_ d_ wy,.int w.i,.int w.j] M Q E=Q .i_ M:=λ{M Q E}=>by
  simp only[cx,aO];simp[↓om,↓r1,↓r2,hg.ne]
 have hw:=λ{M:MH}{Q:VK3}{E:XN}=>qv (cls:=cls) (c_:=c_) (e_:=e_) (n:=n+3) (M:=M) (Q:=Q) (E:=E) (d_:=d_) (wy:=wy) (i:=w.i) (j:=w.j)
 have hm:[w.i,w.j]∈wy.map pr:=JJ.mpr ⟨w,hk,rfl⟩;have ix:=λ{M:MH}{Q:VK3}=>pY (M:=M) (Q:=Q) hn hk
 simp only[nV,fh];simp[↓op,↓rp,↓oh,↓hw,hm,↓o_w,↓ix,wv,av]
noncomputable abbrev mO:Nat:=1067955986548848835567
theorem Eb(G:GW d_ wy)(hr:r.may wy)(hM:Fm M):cG (B cls c_ e_) mO (r.o c_) M (λf=>ac T (B cls c_ e_) (n+6) f [r.o c_,wO c_ d_ wy,hd] M Q E)=Q (.f_ (bJ wy hd r)) M:=by
 cases r with
 |look a b=>simp[Rw.o,mO,gY,bC,bJ]
 |Kz a b c d=>simp[Rw.o,mO,gB,bj,av,bJ]
 |send a b c=>simp[Rw.o,mO,ij,bx,bJ]
 |take a b c d=>
  obtain⟨w1,w2,w3⟩:=vn (show [c,a]∈wy.map pr from hr);have om:∀{R:Nat->Prop},cG (B cls c_ e_) 1994999 (wO c_ d_ wy) M R=R 54:=λ{R}=>o_m (by decide) (by decide) (by decide)
  have ws:=λ{Q:VK3}{E:XN}=>AV (cls:=cls) (c_:=c_) (e_:=e_) (n:=n) (M:=M) (Q:=Q) (E:=E) (G.gd _ w1) G.nd w1
  rw[w2,w3]at ws;simp only[bJ];cases e:(wOf wy c a).m with
  |none=>
   simp[Rw.o,mO,cW,aZ,↓om,↓ws,way,e,av];exact iff_of_eq (aF hM λp hp=>by simp[hp])
  |some m=>
   simp[Rw.o,mO,cW,aZ,↓om,↓ws,way,e,av];exact iff_of_eq (aF hM λp hp=>by simp[hp,C0])
theorem m8:(bJ wy hd r).length<=2:=by
 cases r with
 |take h v a b=>simp only[bJ];split<;>simp
 |_=>simp[bJ]
theorem mK:(gJ d_ wy c lr r).length<=4:=by
 unfold gJ;have:=m8 (wy:=wy) (r:=r) (hd:=.tup [.int r.h,.int (c r.h)]);split<;>simp[nq]<;>omega
theorem E4(h:M d=some (.dt ks ds)):aC .In (.tup [.int i,.int j]) (.ref d) M Q=Q (.bl (getD ks ds [i,j]).isSome) M:=by
 simp[aC,lj,az,ak,h,dM,cU,c9,gh,bh]
theorem Ew(h:M d=some (.dt ks ds))(hv:getD ks ds [i,j]=some v):ao (.ref d) (.tup [.int i,.int j]) M Q=Q v M:=by
 simp[ao,az,ak,h,dM,cU,c9,gh,bh,hv]
theorem vO{ds es:List D}(MV:p≠d)(hz:ds.length+es.length<1000):rBm .extend (.ref p) [.f_ es] (put (put M p (.lst ds)) d o) Q=Q .i_ (put (put M p (.lst (ds++es))) d o):=by
 have h:(put (put M p (.lst ds)) d o) p=some (.lst ds):=by rw[ae MV,aa]
 have hs:ds.length+es.length<=PySem.sizeLine:=JF (show ds.length+es.length<=1000 by omega) (by decide)
 simp[rBm,h,ak,hs,dn MV]
structure BI (ks:List (List Int)) (ds:List D)(c:Int->Nat)(lr:Int->Int):Prop where
 hl:ks.length=ds.length
 i1:∀h,getD ks ds [h,-1]=none
 i2:∀h,0<c h->getD ks ds [h,(c h:Int)-1]=some (.int (lr h))
 lb:∀h,-(10 ^ 62)<=lr h/\lr h<=10 ^ 62
theorem BI.step(I:BI ks ds c lr)(hv : -(10 ^ 62)<=v/\v<=10 ^ 62):BI (aj ks [h,(c h:Int)]) (au ks ds [h,(c h:Int)] (.int v)) (bump c h) (nxt lr h v):=by
 refine⟨bq I.hl,λx=>?_,λx hx=>?_,λx=>?_⟩
 ·rw[aS I.hl,Ji (λz=>by simp only[List.cons.injEq]at z;omega)];exact I.i1 x
 ·rw[aS I.hl];unfold bump nxt at *
  by_cases e:x=h
  ·subst e;simp
  ·rw[Ji e]at hx ⊢;rw[Ji (λz=>by simp only[List.cons.injEq]at z;exact e z.1.symm),Ji e]
   exact I.i2 x hx
 ·unfold nxt;split
  ·exact hv
  ·exact I.lb x
theorem sD(G:GW d_ wy)(hM:Fm M)(MV:p≠d){S:MH->Prop}(hS:∀acc ks ds,S (put (put M p (.lst acc)) d (.dt ks ds))){De:Ends3}{ES:St3->XN}{x1:Option D}:∀(rows:List Rw)(c:Int->Nat)(lr:Int->Int)(acc:List D) (ks:List (List Int)) (ds:List D)(x4 x5 x6 x7:Option D),BI ks ds c lr->ks.length+rows.length<400->acc.length+4*rows.length<900->(∀r∈rows,r.fine d_.length wy)->
  (∀K0 F_ x4 x5 x6 x7,De.nx [some (wO c_ d_ wy),x1,some (.ref p),some (.ref d),x4,x5,x6,x7] (put (put M p (.lst (acc++bdF d_ wy c lr rows))) d (.dt K0 F_)))->
  aV ⟨(B cls c_ e_),ac T (B cls c_ e_) (n+6)⟩ (.tup [4,5]) c4 ES S De (iZ ((nmF (rows.map Rw.h) c).map nD) (rows.map Rw.d)) [some (wO c_ d_ wy),x1,some (.ref p),some (.ref d),x4,x5,x6,x7] (put (put M p (.lst acc)) d (.dt ks ds))
 |[],c,lr,acc,ks,ds,x4,x5,x6,x7,I,z1,z2,hf,hR=>by
  have:=hR ks ds x4 x5 x6 x7;rw[bdF,JZ]at this;show aV _ _ _ _ _ _ [] _ _;rw[aQ];exact⟨hS _ _ _,this⟩
 |r::rows,c,lr,acc,ks,ds,x4,x5,x6,x7,I,z1,z2,hf,hR=>by
  simp only[Jw]at z1 z2;have f:=hf r Jk;have fm:∀{acc ks ds},Fm (put (put M p (.lst acc)) d (.dt ks ds)):=λ{_ _ _}=>(hM.put _ _).put _ _
  have gp:∀{acc ks ds},(put (put M p (.lst acc)) d (.dt ks ds)) p=some (.lst acc):=λ{_ _ _}=>by rw[ae MV,aa]
  have l1:=m8 (wy:=wy) (r:=r) (hd:=.tup [.int r.h,.int (c r.h)]);have k1:=bc (ks:=ks) (k:=[r.h,(c r.h:Int)]);have ol:=mK (d_:=d_) (wy:=wy) (c:=c) (lr:=lr) (r:=r);have nx:=sD G hM MV hS (De:=De) (ES:=ES) (x1:=x1) rows (bump c r.h) (nxt lr r.h r.r) (acc++gJ d_ wy c lr r) (aj ks [r.h,(c r.h:Int)]) (au ks ds [r.h,(c r.h:Int)] (.int r.r)) (some (.tup [.int r.h,.int (c r.h)])) (some r.d) (some (r.o c_)) (some (.tup [.int r.h,.int ((c r.h:Int)-1)])) (I.step f.b) (by omega) (by rw[JK];omega) (λx hx=>hf x (Jg _ hx)) (λK0 F_ x4 x5 x6 x7=>by
   rw[List.append_assoc];exact hR K0 F_ x4 x5 x6 x7)
  have ch:=λ{acc:List D}{Q:VK3}{E:XN}=>pv (cls:=cls) (c_:=c_) (e_:=e_) (n:=n+2) (Q:=Q) (E:=E) r (fm (acc:=acc) (ks:=ks) (ds:=ds))
  have co:=λ{acc:List D}{Q:VK3}{E:XN}=>Eb (cls:=cls) (c_:=c_) (e_:=e_) (n:=n) (Q:=Q) (E:=E) (hd:=.tup [.int r.h,.int (c r.h)]) G f.w (fm (acc:=acc) (ks:=ks) (ds:=ds))
  have ty:=λ{acc:List D}=>jA (gp (acc:=acc) (ks:=ks) (ds:=ds))
  have oh:=λ{M:MH}{Q:VK3}=>Cr (cls:=cls) (e_:=e_) (c_:=c_) (M:=M) (Q:=Q) (r:=r)
  have or:=λ{M:MH}{Q:VK3}=>Cu (cls:=cls) (e_:=e_) (c_:=c_) (M:=M) (Q:=Q) (r:=r)
  have e1:=λ{Q:VK3}=>vO (M:=M) (Q:=Q) (ds:=acc) (es:=bJ wy (.tup [.int r.h,.int (c r.h)]) r) (o:=.dt ks ds) MV (by omega)
  have ia:=λ{acc:List D}{Q:VK3}=>E4 (Q:=Q) (i:=r.h) (j:=(c r.h:Int)-1) (aa (M:=put M p (.lst acc)) (a:=d) (o:=.dt ks ds))
  have st:∀{acc:List D}{R:MH->Prop},aE (.ref d) (.tup [.int r.h,.int (c r.h)]) (.int r.r) (put (put M p (.lst acc)) d (.dt ks ds)) R=R (put (put M p (.lst acc)) d (.dt (aj ks [r.h,(c r.h:Int)]) (au ks ds [r.h,(c r.h:Int)] (.int r.r)))):=λ{acc R}=>by
   rw[kA aa (by omega),aL]
  show aV _ _ _ _ _ _ (.tup [nD (r.h,c r.h),r.d]::iZ ((nmF (rows.map Rw.h) (bump c r.h)).map nD) (rows.map Rw.d)) _ _;rw[aA];refine⟨hS _ _ _,?_⟩;generalize aV ⟨(B cls c_ e_),ac T (B cls c_ e_) (n+6)⟩ (.tup [4,5]) c4 ES S De (iZ ((nmF (rows.map Rw.h) (bump c r.h)).map nD) (rows.map Rw.d))=K at nx ⊢;simp only[mO]at co;simp only[c4,nD];by_cases c0:0<c r.h
  ·have g2:=I.i2 r.h c0;have ix:=λ{acc:List D}{Q:VK3}=>Ew (Q:=Q) (aa (M:=put M p (.lst acc)) (a:=d) (o:=.dt ks ds)) g2
   have oc:∀{M:MH}{R:Nat->Prop},cG (B cls c_ e_) 28932044387 (wO c_ d_ wy) M R=R 53:=λ{M R}=>o_m (by decide) (by decide) (by decide)
   have cc:=λ{M:MH}{Q:VK3}{E:XN}=>w5 (cls:=cls) (c_:=c_) (e_:=e_) (n:=n+2) (M:=M) (Q:=Q) (E:=E) (d_:=d_) (wy:=wy) f.h
   have lb:=I.lb r.h;have fb:=f.b;have hk:=f.h;simp only[okH,Jf,Js]at hk;obtain⟨q1,q2,q3⟩:=wI (k:=r.h.toNat) G (by omega)
   have m1:cA (k0 d_ r.h.toNat).2 (r.r-lr r.h)=True:=e8 (by omega) (by omega) (by omega) (by omega)
   have m2:cA (-(k0 d_ r.h.toNat).1) (r.r-lr r.h)=True:=e8 (by omega) (by omega) (by omega) (by omega)
   have cb:∀{M:MH}{Q:VK3}{E:XN},ac T (B cls c_ e_) (n+6) 19 [.tup [.int (k0 d_ r.h.toNat).1,.int (k0 d_ r.h.toNat).2],.tup [.int r.h,.int ((c r.h:Int)-1)],.tup [.int r.h,.int (c r.h)],.int (r.r-lr r.h)] M Q E=Q (.f_ (nq (k0 d_ r.h.toNat) r.h (c r.h) (r.r-lr r.h))) M:=λ{M Q E}=>by
    simp only[kU,cL];simp[-List.getD_eq_getElem?_getD,m1,m2,nq,av]
   have e2:=λ{Q:VK3}=>vO (M:=M) (Q:=Q) (ds:=acc++bJ wy (.tup [.int r.h,.int (c r.h)]) r) (es:=nq (k0 d_ r.h.toNat) r.h (c r.h) (r.r-lr r.h)) (o:=.dt ks ds) MV (by rw[JK];simp[nq];omega)
   rw[show gJ d_ wy c lr r=bJ wy (.tup [.int r.h,.int (c r.h)]) r++nq (k0 d_ r.h.toNat) r.h (c r.h) (r.r-lr r.h) by unfold gJ;rw[Jr c0]]at nx
   simp[-List.getD_eq_getElem?_getD,↓ch,↓co,ty,↓e1,↓ia,g2,↓oh,↓or,↓oc,↓cc,↓ix,↓cb,↓e2,↓st,av];simpa [-List.getD_eq_getElem?_getD] using nx
  ·have z0:c r.h=0:=by omega
   have g1:getD ks ds [r.h,(c r.h:Int)-1]=none:=by rw[z0];exact I.i1 r.h
   rw[show gJ d_ wy c lr r=bJ wy (.tup [.int r.h,.int (c r.h)]) r by unfold gJ;rw[Ji c0,JZ]]at nx
   simp[-List.getD_eq_getElem?_getD,↓ch,↓co,ty,↓e1,↓ia,g1,↓oh,↓or,↓st,av];simpa [-List.getD_eq_getElem?_getD] using nx
end
section
variable {p:PySem.Addr}{d_:List (Int×Int)}{wy:List Wy}{r:Rw}
theorem Dr(hp:M p=none)(hd:M d=none):aw M (del (put (put M p o) d u) p)=M:=by
 funext k;unfold aw del put;by_cases k1:k=p
 ·subst k1;simp[hp]
 ·by_cases k2:k=d
  ·subst k2;simp[hd]
  ·simp[k1,k2];cases M k<;>rfl
theorem uJ{rows:List Rw}(G:GW d_ wy)(hM:Fm M)(hl:rows.length<=64)(hf:∀r∈rows,r.fine d_.length wy)
  (k:Q (.f_ (bdF d_ wy c00 l00 rows)) M):ac T (B cls c_ e_) (n+7) 20 [wO c_ d_ wy,.f_ (rows.map Rw.d)] M Q E:=by
 simp only[wd,jG];simp;intro p hp d hd;obtain⟨NL,hd⟩:=cr hd;have fm:Fm (put (put M p (.lst [])) d (.dt [] [])):=(hM.put _ _).put _ _;have I0:BI [] [] c00 l00:=⟨rfl,λh=>rfl,λh z=>(by cases z),λh=>⟨by show -(10 ^ 62)<=(0:Int);decide,by show (0:Int)<=10 ^ 62;decide⟩⟩
 have cn:=λ{Q:VK3}{E:XN}=>jw (cls:=cls) (c_:=c_) (e_:=e_) (n:=n+4) (Q:=Q) (E:=E) rows (.inl rfl) (by omega) fm
 simp[↓cn];exact sD G hM (Jv NL) (λ_ _ _=>trivial) rows c00 l00 [] [] [] _ _ _ _ I0 (by simp;omega) (by simp;omega) hf λK0 F_ x4 x5 x6 x7=>by
  simp[bb,ae (Jv NL),aa,Dr hp hd];exact k
end
section
variable {b:PySem.Addr}{d_:List (Int×Int)}{wy:List Wy}{rows:List Rw}
theorem CV(h:M a=some (.dk ks ds))(hv:getD ks ds (.inl i)=some v):ao (.ref a) (.int i) M Q=Q v M:=by
 simp[ao,az,ak,h,dM,cU,m9,hv]
theorem i6(G_:a≠b){De:Ends3}:∀(rs:List Rw)(ks:List Key)(ds acc:List D)(c:Int->Nat)(x3:Option D),ks.length=ds.length->ks.length+rs.length<500->acc.length+rs.length<500->(∀h,(getD ks ds (.inl h)).getD (.int 0)=.int (c h))->
  (∀K0 F_ x,De.nx [log,some (.ref a),some (.ref b),x] (put (put M0 a (.dk K0 F_)) b (.lst (acc++(nmF (rs.map Rw.h) c).map nD)))=R)->
  aV W (.name 3) bz ES (λ_=>True) De (rs.map Rw.d) [log,some (.ref a),some (.ref b),x3] (put (put M0 a (.dk ks ds)) b (.lst acc))=R
 |[],ks,ds,acc,c,x3,_,_,_,_,hR=>by
  have:=hR ks ds x3;simp[nmF]at this;simp[aQ,this]
 |r::rs,ks,ds,acc,c,x3,hl,h1,h2,hc,hR=>by
  have ga:∀{ks ds},(put (put M0 a (.dk ks ds)) b (.lst acc)) a=some (.dk ks ds):=λ{_ _}=>by rw[ae G_,aa]
  simp only[Jw]at h1 h2;have hs:acc.length<PySem.sizeLine:=Ju (show acc.length<1000 by omega) (by decide)
  have hk:ks.length<PySem.sizeLine:=Ju (show ks.length<1000 by omega) (by decide)
  have ih:=i6 G_ (W:=W) (ES:=ES) rs (aj ks (.inl r.h)) (au ks ds (.inl r.h) (.int (c r.h+1))) (acc++[nD (r.h,c r.h)]) (bump c r.h) (some r.d) (bq hl) (by have:=bc (ks:=ks) (k:=(.inl r.h:Key));omega) (by simp;omega) (oU hl hc) (by
    intro K0 F_ x;have:=hR K0 F_ x;simpa [nmF] using this)
  have i1:=λ{M:MH}{Q:VK3}=>wF (M:=M) (Q:=Q) (r:=r)
  have gv:getD (aj ks (.inl r.h)) (au ks ds (.inl r.h) (.int (c r.h+1))) (.inl r.h)=some (.int (c r.h+1)):=by rw[aS hl,Jr rfl]
  have st:∀{R:MH->Prop},aE (.ref a) (.int r.h) (.int (c r.h+1)) (put (put M0 a (.dk ks ds)) b (.lst acc)) R=R (put (put M0 a (.dk (aj ks (.inl r.h)) (au ks ds (.inl r.h) (.int (c r.h+1))))) b (.lst acc)):=λ{R}=>by
   rw[oG ga,eq_true hk,true_and,dn G_]
  have ix:=λ{Q:VK3}=>CV (Q:=Q) (ga) gv
  rw[Jm,aA];simp[bz,↓i1,uX ga,su ga,hc,↓st,↓ix,hs,av];simpa [nD,bz] using ih
theorem gX(hM:Fm M)(hl:rows.length<400):ac T (B cls c_ e_) (n+1) 66 [.f_ (rows.map Rw.d)] M Q E=Q (.f_ ((nmF (rows.map Rw.h) c00).map nD)) M:=by
 simp only[o5];simp;refine iff_of_eq (aF hM λa ha=>?_)
 simp;refine iff_of_eq (aF (hM.put _ _) λb hb=>?_)
 obtain⟨G_,hb⟩:=cr hb;refine i6 (Jv G_) rows [] [] [] _ _ rfl (by simp;omega) (by simp;omega) (λh=>rfl) λK0 F_ x=>?_
 simp[ha,hb,ae G_]
end
section
variable {d_:List (Int×Int)}{wy:List Wy}{r:Rw}{rows:List Rw}{ts:List Int}
theorem yF:(ts.map D.int).all (plN k)=true:=JE.mpr λx hx=>by
 obtain⟨y,_,rfl⟩:=JJ.mp hx;cases k<;>rfl
theorem BF(ns:List Int):∃cs:List Int,fB (ns.map D.int) (some 2) (some 14)=cs.map D.int/\cs.length<=12:=by
 unfold fB;rw[Jo,<-List.map_drop,<-List.map_take];refine⟨_,rfl,?_⟩;simp[HT.sIx];omega
theorem xO{td:List (Rw×Int)}(hM:Fm M)(hl:td.length<=16):jK W (.tup [0,1]) .no (.var 0) (λ_=>True) Q (td.map tdD) [none,none] M=Q (.f_ ((td.map Prod.fst).map Rw.d)) M:=by
 rw[bO tdD (λZ=>∃a b,Z=[a,b]) (λp=>[some p.1.d,some (.int p.2)]) (λ_=>true) (λp=>p.1.d) ⟨_,_,rfl⟩ hM (by omega) (λp _=>⟨⟨_,_,rfl⟩,λZ ⟨a,b,e⟩ M k=>by
  subst e;simp[tdD,jp]⟩) (λ_ _ _ _ _=>rfl) (λp _ _ M' hE Q=>by simp),List.filter_eq_self.mpr (λ_ _=>rfl),List.map_map]
 rfl
end
section
noncomputable abbrev Nm:=List Int
noncomputable def lk{α:Type}:List (Nm×α)->Nm->Option α
 |[],_=>none
 |(q,u)::r,k=>if q=k then some u else lk r k
noncomputable def ins:List (Nm×α)->Nm->α->List (Nm×α)
 |[],k,v=>[(k,v)]
 |(q,u)::r,k,v=>if q=k then (q,v)::r else (q,u)::ins r k v
noncomputable abbrev K1{α:Type}(l:List (Nm×α)):List Nm:=l.map Prod.fst
theorem eR:∀{l:List (Nm×α)},lk (ins l k v) q=if k=q then some v else lk l q
 |[]=>by simp[ins,lk]
 |(a,u)::r=>by
  simp only[ins];by_cases h:a=k
  ·subst h;simp only[if_true,lk];split<;>rfl
  ·simp only[Ji h,lk];by_cases h2:a=q
   ·subst h2;rw[Jr rfl,Ji (Jv h),Jr rfl]
   ·rw[Ji h2,Ji h2];exact eR
theorem wl:∀{l:List (Nm×α)},lk l k=some v->(k,v)∈l
 |[],h=>by cases h
 |(a,u)::r,h=>by
  simp only[lk]at h;split at h
  ·rename_i e;subst e;cases h;exact Jk
  ·exact Jg _ (wl h)
theorem zg:∀{l:List (Nm×α)},(K1 l).Nodup->(k,v)∈l->lk l k=some v
 |[],_,h=>by cases h
 |(a,u)::r,hn,h=>by
  simp only[Jm,JO]at hn;simp only[lk];rcases Jl.mp h with e|h
  ·cases e;rw[Jr rfl]
  ·rw[Ji (λz=>hn.1 (by rw[z];exact JJ.mpr ⟨_,h,rfl⟩))]
   exact zg hn.2 h
theorem lk_key:∀{l:List (Nm×α)},k∈K1 l<->(lk l k).isSome=true
 |[]=>by simp[lk]
 |(a,u)::r=>by
  have ih:=lk_key (k:=k) (l:=r);simp only[Jm,lk]at ih ⊢;by_cases h:a=k
  ·simp[h]
  ·rw[Ji h,<-ih];simp[Jv h]
theorem ni:∀{l:List (Nm×α)},K1 (ins l k v)=if k∈K1 l then K1 l else K1 l++[k]
 |[]=>by simp[ins]
 |(a,u)::r=>by
  have ih:=ni (k:=k) (v:=v) (l:=r);simp only[ins];by_cases h:a=k
  ·subst h;simp
  ·rw[Ji h];simp only[K1,Jm,Jl,Jv h,false_or]at ih ⊢;rw[ih];by_cases z:k∈List.map Prod.fst r
   ·rw[Jr z,Jr z]
   ·rw[Ji z,Ji z];rfl
theorem p5(h:(K1 l).Nodup):(K1 (ins l k v)).Nodup:=by
 rw[ni];split
 ·exact h
 ·rename_i z;rw[List.nodup_append];exact⟨h,by simp,λa ha b hb=>by rw[JB.mp hb];exact λe=>z (e▸ha)⟩
theorem fw{α:Type}(f:α->D){k:Nm}:∀{l:List (Nm×α)},getD (K1 l) (l.map λp=>f p.2) k=(lk l k).map f
 |[]=>by simp[getD,lk]
 |(a,u)::r=>by
  have ih:=fw f (k:=k) (l:=r);simp only[Jm,getD,lk]at ih ⊢;split
  ·rfl
  ·exact ih
theorem nW:∀{l:List (Nm×α)},aj (K1 l) k=K1 (ins l k v)
 |[]=>by simp[aj,ins]
 |(a,u)::r=>by
  have ih:=nW (k:=k) (v:=v) (l:=r);simp only[Jm,aj,ins]at ih ⊢;split
  ·simp
  ·simp[ih]
theorem pR(f:α->D):∀{l:List (Nm×α)},au (K1 l) (l.map λp=>f p.2) k (f v)=(ins l k v).map λp=>f p.2
 |[]=>by simp[au,ins]
 |(a,u)::r=>by
  have ih:=pR f (k:=k) (v:=v) (l:=r);simp only[Jm,au,ins]at ih ⊢;split
  ·simp
  ·simp[ih]
theorem kS:∀{l k:List Nm},l.Nodup->(∀x∈l,x∈k)->l.length<=k.length
 |[],_,_,_=>Nat.zero_le _
 |a::l,k,hn,hs=>by
  rw[JO]at hn;have h1:a∈k:=hs a Jk;have h2:l.length<=(k.erase a).length:=kS hn.2 λx hx=>(List.mem_erase_of_ne (λe:x=a=>hn.1 (by rw[<-e];exact hx))).mpr (hs x (Jg _ hx))
  rw[List.length_erase_of_mem h1]at h2;have:0<k.length:=List.length_pos_of_mem h1;simp only[Jw];omega
structure Nt where
 ks:List Nm
 row:Nm->List (Nm×Int)
def Ed(N:Nt)(x y:Nm)(w:Int):Prop:=x∈N.ks/\(y,w)∈N.row x
structure WN (N:Nt):Prop where
 nd:N.ks.Nodup
 row:∀x∈N.ks,(K1 (N.row x)).Nodup/\∀e∈N.row x,e.1∈N.ks/\e.1≠x
inductive Wk (N:Nt) (x:Nm):Nm->Int->Prop where
 |nil:Wk N x x 0
 |snoc {y z:Nm}{v w:Int} (h:Wk N x y v) (e:Ed N y z w):Wk N x z (v+w)
def Pot(N:Nt)(p:Nm->Int):Prop:=∀x y w,Ed N x y w->p y-p x<=w
theorem Wk.pot(hp:Pot N p)(h:Wk N x y v):p y-p x<=v:=by
 induction h with
 |nil=>omega
 |snoc _ e ih=>have:=hp _ _ _ e;omega
def IsD(N:Nt)(x y:Nm):Option Int->Prop
 |some d=>Wk N x y d/\∀v,Wk N x y v->d<=v
 |none=>∀v,¬ Wk N x y v
theorem IsD.uniq(h:IsD N x y a)(g:IsD N x y b):a=b:=by
 cases a with
 |none=>
  cases b with
  |none=>rfl
  |some v=>exact absurd g.1 (h v)
 |some u=>
  cases b with
  |none=>exact absurd h.1 (g u)
  |some v=>have:=h.2 v g.1;have:=g.2 u h.1;congr 1;omega
structure SB where
 S:List (Nm×Int)
 B:List (Nm×Nm)
noncomputable def jo(S:List (Nm×Int))(y:Nm)(t:Int):Bool:=match lk S y with
 |none=>true
 |some v=>decide (t<v)
noncomputable def rl(x:Nm)(st:SB×List Nm)(e:Nm×Int):SB×List Nm:=match lk st.1.S x with
 |none=>st
 |some u=>if jo st.1.S e.1 (u+e.2)=true then (⟨ins st.1.S e.1 (u+e.2),ins st.1.B e.1 x⟩,st.2++[e.1]) else st
noncomputable def goF(x:Nm)(row:List (Nm×Int))(st:SB):SB×List Nm:=row.foldl (rl x) (st,[])
def Wx(N:Nt)(X:List Nm)(y:Nm)(v:Int):Prop:=∃x∈X,Wk N x y v
structure J (N:Nt)(X:List Nm)(Lw:Nm->Prop)(s:SB):Prop where
 k:∀y v,lk s.S y=some v->y∈N.ks/\Wx N X y v
 nd:(K1 s.S).Nodup
 s0:∀x∈X,∃u,lk s.S x=some u/\u<=0
 pd:∀z,Lw z->(lk s.S z).isSome=true
 rel:∀x u,lk s.S x=some u->¬ Lw x->∀y w,(y,w)∈N.row x->∃v,lk s.S y=some v/\v<=u+w
 b:∀y∈K1 s.B,y∈N.ks
 bn:(K1 s.B).Nodup
variable {N:Nt}{X:List Nm}{p:Nm->Int}
theorem J.low{s:SB}(W:WN N)(hp:Pot N p)(I:J N X Lw s)(hx:lk s.S x=some u)(he:(y,w)∈N.row x)(hl:jo s.S y (u+w)=true) :
  J N X (λz=>Lw z\/z=y) ⟨ins s.S y (u+w),ins s.B y x⟩:=by
 obtain⟨xk,xw⟩:=I.k x u hx;obtain⟨yk,yx⟩:=(W.row x xk).2 _ he;have wy:Wx N X y (u+w):=by obtain⟨q,hq,xw⟩:=xw;exact⟨q,hq,xw.snoc ⟨xk,he⟩⟩
 have old:∀v,lk s.S y=some v->u+w<v:=λv hv=>by
  unfold jo at hl;rw[hv]at hl;simpa using hl
 have mono:∀z v,lk s.S z=some v->∃v',lk (ins s.S y (u+w)) z=some v'/\v'<=v:=λz v hv=>by
  rw[eR];by_cases e:y=z
  ·subst e;rw[Jr rfl];exact⟨_,rfl,by have:=old v hv;omega⟩
  ·rw[Ji e];exact⟨v,hv,by omega⟩
 refine⟨λz v hz=>?_,p5 I.nd,?_,λz hz=>?_,λz v hz Rq a c NS=>?_,λz hz=>?_,p5 I.bn⟩
 ·rw[eR]at hz;split at hz
  ·rename_i e;subst e;cases hz;exact⟨yk,wy⟩
  ·exact I.k z v hz
 ·intro q hq;obtain⟨v,v1,v2⟩:=I.s0 q hq;obtain⟨v',v3,v4⟩:=mono q v v1;exact⟨v',v3,by omega⟩
 ·rcases hz with hz|rfl
  ·obtain⟨v,hv⟩:=JM.mp (I.pd z hz);obtain⟨v',PB,_⟩:=mono z v hv;rw[PB];rfl
  ·show (lk (ins s.S z (u+w)) z).isSome=true;rw[eR,Jr rfl];rfl
 ·have ey:y≠z:=λe=>Rq (.inr e.symm)
  have MY:lk (ins s.S y (u+w)) z=some v:=hz;rw[eR,Ji ey]at MY;obtain⟨t,t1,t2⟩:=I.rel z v MY (λq=>Rq (.inl q)) a c NS
  obtain⟨t',t3,t4⟩:=mono a t t1;exact⟨t',t3,by omega⟩
 ·rw[ni]at hz;split at hz
  ·exact I.b z hz
  ·rcases JI.mp hz with hz|hz
   ·exact I.b z hz
   ·rw[JB.mp hz];exact yk
end
section
variable {N:Nt}{X:List Nm}{p:Nm->Int}
theorem J.mono{s:SB}(I:J N X P s)(h:∀z,P z->P' z)(h':∀z,P' z->(lk s.S z).isSome=true):J N X P' s:=
 ⟨I.k,I.nd,I.s0,h',λx u hx hn=>I.rel x u hx λz=>hn (h x z),I.b,I.bn⟩
noncomputable def mx(p:Nm->Int)(X:List Nm):Int:=X.foldr (λx a=>max (p x) a) 0
theorem zO:∀{X:List Nm}{x:Nm},x∈X->p x<=mx p X
 |y::X,x,h=>by
  simp only[mx,List.foldr_cons];rcases Jl.mp h with rfl|h
  ·omega
  ·have:=zO h;unfold mx at this;omega
theorem Wx.pot(hp:Pot N p)(h:Wx N X y v):p y-mx p X<=v:=by
 obtain⟨x,hx,h⟩:=h;have:=h.pot hp;have:=zO (p:=p) hx;omega
theorem Wx.snoc(h:Wx N X y v)(e:Ed N y z w):Wx N X z (v+w):=by
 obtain⟨x,hx,h⟩:=h;exact⟨x,hx,h.snoc e⟩
noncomputable def jf(p:Nm->Int)(X:List Nm):List (Nm×Int)->Nat
 |[]=>0
 |(y,v)::r=>(v-(p y-mx p X)).toNat+jf p X r
theorem mm:∀{S:List (Nm×Int)},lk S y=some v->jf p X (ins S y t)+(v-(p y-mx p X)).toNat=jf p X S+(t-(p y-mx p X)).toNat
 |[],h=>by cases h
 |(q,u)::r,h=>by
  simp only[lk]at h;simp only[ins];split at h
  ·rename_i e;subst e;cases h;rw[Jr rfl];simp only[jf];omega
  ·rename_i e;rw[Ji e];have:=mm (y:=y) (t:=t) (v:=v) (S:=r) h;simp only[jf];omega
theorem ins_len{l:List (Nm×α)}:(ins l k v).length=if k∈K1 l then l.length else l.length+1:=by
 have h:=congrArg List.length (ni (k:=k) (v:=v) (l:=l));simp only[Jo]at h;rw[h];split<;>simp
def Lt(N:Nt)(p:Nm->Int)(X:List Nm)(a b:SB):Prop:=Prod.Lex (· < ·) (· < ·) (N.ks.length-a.S.length,jf p X a.S) (N.ks.length-b.S.length,jf p X b.S)
theorem Lt.trans(h:Lt N p X a b)(g:Lt N p X b c):Lt N p X a c:=by
 unfold Lt at *
 omega
theorem Br{s:SB}(hp:Pot N p)(I:J N X Lw s)(yk:y∈N.ks)(wy:Wx N X y t)(hl:jo s.S y t=true):Lt N p X ⟨ins s.S y t,ins s.B y x⟩ s:=by
 unfold Lt;rw[Prod.lex_def];simp only;rw[ins_len];cases h:lk s.S y with
 |none=>
  have hn:y∉K1 s.S:=λz=>by rw[lk_key,h]at z;cases z
  rw[Ji hn];have:(y::K1 s.S).length<=N.ks.length:=kS (JO.mpr ⟨hn,I.nd⟩) λz hz=>by
   rcases Jl.mp hz with rfl|hz
   ·exact yk
   ·obtain⟨v,hv⟩:=JM.mp (lk_key.mp hz);exact (I.k z v hv).1
  simp only[Jw,Jo]at this;omega
 |some v=>
  have hm:y∈K1 s.S:=lk_key.mpr (by rw[h];rfl)
  rw[Jr hm];right;have e:=mm (p:=p) (X:=X) (t:=t) h;have h1:=wy.pot hp;unfold jo at hl;rw[h]at hl;have hl:t<v:=by simpa using hl
  omega
theorem p8{Lw:Nm->Prop}(W:WN N)(hp:Pot N p){x:Nm}{u:Int}(xk:x∈N.ks):∀(post pre:List (Nm×Int)) (s:SB)(fl:List Nm),N.row x=pre++post->J N X (λz=>Lw z\/z∈fl) s->lk s.S x=some u->(∀e∈pre,∃v,lk s.S e.1=some v/\v<=u+e.2)->
  J N X (λz=>Lw z\/z∈(post.foldl (rl x) (s,fl)).2) (post.foldl (rl x) (s,fl)).1/\lk (post.foldl (rl x) (s,fl)).1.S x=some u/\(∀e∈pre++post,∃v,lk (post.foldl (rl x) (s,fl)).1.S e.1=some v/\v<=u+e.2)/\
  (∀z∈fl,z∈(post.foldl (rl x) (s,fl)).2)/\(post.foldl (rl x) (s,fl)=(s,fl)\/Lt N p X (post.foldl (rl x) (s,fl)).1 s)
 |[],pre,s,fl,_,I,hx,Lu=>⟨I,hx,by simpa using Lu,λz hz=>hz,.inl rfl⟩
 |(y,w)::post,pre,s,fl,e,I,hx,Lu=>by
  have he:(y,w)∈N.row x:=by rw[e];simp
  rw[List.foldl_cons];by_cases hl:jo s.S y (u+w)=true
  ·have hr:rl x (s,fl) (y,w)=(⟨ins s.S y (u+w),ins s.B y x⟩,fl++[y]):=by
    unfold rl;simp only[hx,hl,if_true]
   rw[hr];have I':=I.low W hp hx he hl;have PU:y≠x:=((W.row x xk).2 _ he).2;have old:∀v,lk s.S y=some v->u+w<v:=λv hv=>by
    unfold jo at hl;rw[hv]at hl;simpa using hl
   obtain⟨a1,a2,a3,a4,a5⟩:=p8 W hp xk post (pre++[(y,w)]) _ (fl++[y]) (by rw[e];simp) (I'.mono (λz hz=>by
     rcases hz with (h|h)|h
     ·exact .inl h
     ·exact .inr (by simp[h])
     ·exact .inr (by simp[h])) λz hz=>I'.pd z (by
     rcases hz with h|h
     ·exact .inl (.inl h)
     ·rcases JI.mp h with h|h
      ·exact .inl (.inr h)
      ·exact .inr (JB.mp h))) (by show lk (ins s.S y (u+w)) x=_;rw[eR,Ji PU];exact hx) (λq hq=>by
     rw[eR];by_cases ey:y=q.1
     ·rw[Jr ey];refine⟨u+w,rfl,?_⟩;rcases JI.mp hq with h|h
      ·obtain⟨v,v1,v2⟩:=Lu q h;rw[<-ey]at v1;have:=old v v1;omega
      ·rw[JB.mp h];exact Int.le_refl _
     ·rw[Ji ey];rcases JI.mp hq with h|h
      ·exact Lu q h
      ·rw[JB.mp h]at ey;exact absurd rfl ey)
   refine⟨a1,a2,by simpa using a3,λz hz=>a4 z (by simp[hz]),.inr ?_⟩
   have l1:Lt N p X ⟨ins s.S y (u+w),ins s.B y x⟩ s:=Br hp I ((W.row x xk).2 _ he).1 (Wx.snoc (I.k x u hx).2 ⟨xk,he⟩) hl;rcases a5 with a5|a5
   ·rw[a5];exact l1
   ·exact a5.trans l1
  ·have hr:rl x (s,fl) (y,w)=(s,fl):=by
    unfold rl;simp only[hx];rw[Ji hl]
   rw[hr];obtain⟨a1,a2,a3,a4,a5⟩:=p8 W hp xk post (pre++[(y,w)]) s fl (by rw[e];simp) I hx (λq hq=>by
     rcases JI.mp hq with h|h
     ·exact Lu q h
     ·rw[JB.mp h];unfold jo at hl;cases hv:lk s.S y with
      |none=>rw[hv]at hl;exact absurd rfl hl
      |some v=>
       rw[hv]at hl;have hl:¬ u+w<v:=by simpa using hl
       exact⟨v,rfl,by omega⟩)
   exact⟨a1,a2,by simpa using a3,a4,a5⟩
theorem put1_mem:∀{l:List Nm},z∈aj l k<->z=k\/z∈l
 |[]=>by simp[aj]
 |a::l=>by
  simp only[aj];by_cases h:a=k
  ·subst h;simp
  ·rw[Ji h,Jl,put1_mem,Jl];constructor
   ·rintro (h|h|h)
    ·exact .inr (.inl h)
    ·exact .inl h
    ·exact .inr (.inr h)
   ·rintro (h|h|h)
    ·exact .inr (.inl h)
    ·exact .inl h
    ·exact .inr (.inr h)
theorem puts_mem:∀{fl ag:List Nm},z∈fl.foldl aj ag<->z∈fl\/z∈ag
 |[],ag=>by simp
 |a::fl,ag=>by
  rw[List.foldl_cons,puts_mem,put1_mem,Jl];constructor
  ·rintro (h|h|h)
   ·exact .inl (.inr h)
   ·exact .inl (.inl h)
   ·exact .inr h
  ·rintro ((h|h)|h)
   ·exact .inr (.inl h)
   ·exact .inl h
   ·exact .inr (.inr h)
noncomputable def f9(N:Nt)(st:SB×List Nm)(x:Nm):SB×List Nm:=((goF x (N.row x) st.1).1,(goF x (N.row x) st.1).2.foldl aj st.2)
theorem oA(W:WN N)(hp:Pot N p){x:Nm}{fs:List Nm}{s:SB}{ag:List Nm}(I:J N X (λz=>z∈x::fs\/z∈ag) s) :
  J N X (λz=>z∈fs\/z∈(f9 N (s,ag) x).2) (f9 N (s,ag) x).1/\(f9 N (s,ag) x=(s,ag)\/Lt N p X (f9 N (s,ag) x).1 s):=by
 obtain⟨u,hu⟩:=JM.mp (I.pd x (.inl Jk));have xk:=(I.k x u hu).1;obtain⟨a1,a2,a3,_,a5⟩:=p8 W hp xk (N.row x) [] s [] rfl (I.mono (λz hz=>.inl hz) λz hz=>I.pd z (by simpa using hz)) hu (λ_ h=>by cases h)
 have hs:f9 N (s,ag) x=(((N.row x).foldl (rl x) (s,[])).1,((N.row x).foldl (rl x) (s,[])).2.foldl aj ag):=rfl;rw[hs];refine⟨⟨a1.k,a1.nd,a1.s0,λz hz=>a1.pd z ?_,λz v hz hn y w hy=>?_,a1.b,a1.bn⟩,?_⟩
 ·rcases hz with h|h
  ·exact .inl (.inl (Jg _ h))
  ·rcases puts_mem.mp h with h|h
   ·exact .inr h
   ·exact .inl (.inr h)
 ·by_cases e:z=x
  ·subst e;rw[a2]at hz;cases hz;exact a3 (y,w) (by simpa using hy)
  ·refine a1.rel z v hz (λq=>hn ?_) y w hy
   rcases q with (q|q)|q
   ·rcases Jl.mp q with q|q
    ·exact absurd q e
    ·exact .inl q
   ·exact .inr (puts_mem.mpr (.inr q))
   ·exact .inr (puts_mem.mpr (.inl q))
 ·rcases a5 with a5|a5
  ·rw[a5];exact .inl rfl
  ·exact .inr a5
theorem kq(W:WN N)(hp:Pot N p):∀(fs:List Nm)(s:SB)(ag:List Nm),J N X (λz=>z∈fs\/z∈ag) s->
  J N X (λz=>z∈(fs.foldl (f9 N) (s,ag)).2) (fs.foldl (f9 N) (s,ag)).1/\(fs.foldl (f9 N) (s,ag)=(s,ag)\/Lt N p X (fs.foldl (f9 N) (s,ag)).1 s)
 |[],s,ag,I=>⟨I.mono (λz hz=>by simpa using hz) λz hz=>I.pd z (.inr hz),.inl rfl⟩
 |x::fs,s,ag,I=>by
  obtain⟨I',a5⟩:=oA W hp I;rw[List.foldl_cons];generalize f9 N (s,ag) x=r at I' a5;obtain⟨b1,b2⟩:=kq W hp fs r.1 r.2 I';refine⟨b1,?_⟩;rcases a5 with a5|a5
  ·subst a5;exact b2
  ·rcases b2 with b2|b2
   ·right;rw[show fs.foldl (f9 N) r=r from b2];exact a5
   ·exact .inr (b2.trans a5)
noncomputable abbrev stepF(N:Nt)(s:SB)(fs:List Nm):SB×List Nm:=fs.foldl (f9 N) (s,[])
inductive Run (N:Nt):Nat->SB->List Nm->SB->Prop where
 |done (s:SB):Run N 0 s [] s
 |step {m:Nat}{s s':SB}{fs:List Nm} (h:fs≠[]) (r:Run N m (stepF N s fs).1 (stepF N s fs).2 s'):Run N (m+1) s fs s'
theorem Bb(W:WN N)(hp:Pot N p):∀(s:SB)(fs:List Nm),J N X (λz=>z∈fs) s->∃m s',Run N m s fs s'/\J N X (λ_=>False) s':=by
 have wf:WellFounded (Lt N p X):=InvImage.wf (λs:SB=>(N.ks.length-s.S.length,jf p X s.S)) (Prod.lex ⟨_,Nat.lt_wfRel.wf⟩ ⟨_,Nat.lt_wfRel.wf⟩).wf
 intro s
 induction s using wf.induction with
 |_ s ih=>
  intro fs I;by_cases hf:fs=[]
  ·subst hf;exact⟨0,s,.done s,I.mono (λz hz=>by cases hz) λz hz=>hz.elim⟩
  ·obtain⟨a1,a2⟩:=kq W hp fs s [] (I.mono (λz hz=>.inl hz) λz hz=>I.pd z (by simpa using hz))
   by_cases hg:(stepF N s fs).2=[]
   ·refine⟨1,(stepF N s fs).1,.step hf ?_,a1.mono (λz hz=>by
      have MY:z∈(stepF N s fs).2:=hz;rw[hg]at MY;cases MY) λz hz=>hz.elim⟩
    rw[hg];exact .done _
   ·rcases a2 with a2|a2
    ·exact absurd (congrArg Prod.snd a2) hg
    ·obtain⟨m,s',r,I'⟩:=ih _ a2 _ a1;exact⟨m+1,s',.step hf r,I'⟩
theorem J.isD{x0:Nm}{s:SB}(I:J N [x0] (λ_=>False) s)(y:Nm):IsD N x0 y (lk s.S y):=by
 have key:∀{z v},Wk N x0 z v->∃u,lk s.S z=some u/\u<=v:=by
  intro z v h
  induction h with
  |nil=>exact I.s0 x0 Jk
  |snoc _ e ih=>
   obtain⟨u,u1,u2⟩:=ih;obtain⟨v,v1,v2⟩:=I.rel _ u u1 id _ _ e.2;exact⟨v,v1,by omega⟩
 cases h:lk s.S y with
 |none=>
  intro v hw;obtain⟨u,u1,_⟩:=key hw;rw[h]at u1;cases u1
 |some d=>
  obtain⟨_,q,hq,hw⟩:=I.k y d h;cases JB.mp hq;refine⟨hw,λv hw=>?_⟩
  obtain⟨u,u1,u2⟩:=key hw;rw[h]at u1;cases u1;exact u2
theorem mI{X:List Nm}:lk (X.map λx=>(x,(0:Int))) y=if y∈X then some 0 else none:=by
 induction X with
 |nil=>rfl
 |cons q X ih=>
  simp only[Jm,lk,ih];by_cases h:q=y
  ·simp[h]
  ·simp[h,Jv h]
theorem J.start(W:WN N)(hn:X.Nodup)(hx:∀x∈X,x∈N.ks):J N X (λz=>z∈X) ⟨X.map λx=>(x,0),[]⟩:=by
 have h:∀y v,lk (X.map λx=>(x,(0:Int))) y=some v->y∈X/\v=0:=λy v h=>by
  rw[mI]at h;split at h
  ·rename_i e;cases h;exact⟨e,rfl⟩
  ·cases h
 refine⟨λy v hv=>?_,by simpa [K1,Function.comp_def] using hn,λx hx=>⟨0,by show lk (X.map λx=>(x,(0:Int))) x=_;rw[mI,Jr hx],Int.le_refl _⟩,λz hz=>?_,λx u hu hn=>?_,(λy hy=>by cases hy),by simp⟩
 ·obtain⟨h1,rfl⟩:=h y v hv;exact⟨hx y h1,y,h1,.nil⟩
 ·show (lk (X.map λx=>(x,(0:Int))) z).isSome=true
  rw[mI,Jr hz];rfl
 ·exact absurd (h x u hu).1 hn
end
section
variable {N:Nt}{p q:Nm->Int}{x y:Nm}
noncomputable def lD(N:Nt)(x y:Nm)(m:Int):Nt:={N with row:=λz=>if z=x then ins (N.row x) y (min m ((lk (N.row x) y).getD m)) else N.row z}
theorem nh:∀{l:List (Nm×α)},e∈ins l k v->e=(k,v)\/e∈l
 |[],h=>.inl (JB.mp h)
 |(a,u)::r,h=>by
  simp only[ins]at h;split at h
  ·rename_i z;subst z;rcases Jl.mp h with h|h
   ·exact .inl h
   ·exact .inr (Jg _ h)
  ·rcases Jl.mp h with h|h
   ·exact .inr (by rw[h];exact Jk)
   ·rcases nh h with h|h
    ·exact .inl h
    ·exact .inr (Jg _ h)
theorem nC:∀{l:List (Nm×α)},(k,v)∈ins l k v
 |[]=>JB.mpr rfl
 |(a,u)::r=>by
  simp only[ins];split
  ·rename_i z;subst z;exact Jk
  ·exact Jg _ nC
theorem sr{e:Nm×α}(hk:e.1≠k):∀{l:List (Nm×α)},e∈l->e∈ins l k v
 |(a,u)::r,h=>by
  simp only[ins];rcases Jl.mp h with h|h
  ·subst h;rw[Ji hk];exact Jk
  ·split
   ·exact Jg _ h
   ·exact Jg _ (sr hk h)
theorem pE(hp:Pot N q)(h:q y-q x<=m):Pot (lD N x y m) q:=λa b w he=>by
 obtain⟨h1,h2⟩:=he;have h2:(b,w)∈(if a=x then ins (N.row x) y (min m ((lk (N.row x) y).getD m)) else N.row a):=h2
 split at h2
 ·rename_i e;subst e;rcases nh h2 with h3|h3
  ·cases h3;cases hl:lk (N.row a) y with
   |none=>simp only[Option.getD_none];omega
   |some v=>
    have:=hp a y v ⟨h1,wl hl⟩;simp only[Option.getD_some];omega
  ·exact hp a b w ⟨h1,h3⟩
 ·exact hp a b w ⟨h1,h2⟩
theorem yq(W:WN N)(h:Ed N a b w):∃w',w'<=w/\Ed (lD N x y m) a b w':=by
 by_cases e:a=x
 ·subst e;by_cases f:b=y
  ·subst f;refine⟨_,?_,h.1,by show _∈(if a=a then _ else _);rw[Jr rfl];exact nC⟩
   rw[zg (W.row a h.1).1 h.2];simp only[Option.getD_some];omega
  ·exact⟨w,Int.le_refl _,h.1,by show _∈(if a=a then _ else _);rw[Jr rfl];exact sr f h.2⟩
 ·exact⟨w,Int.le_refl _,h.1,by show _∈(if a=x then _ else _);rw[Ji e];exact h.2⟩
theorem xy(W:WN N)(h:Wk N a b v):∃v',v'<=v/\Wk (lD N x y m) a b v':=by
 induction h with
 |nil=>exact⟨0,Int.le_refl _,.nil⟩
 |snoc _ e ih=>
  obtain⟨v',h1,h2⟩:=ih;obtain⟨w',g1,g2⟩:=yq W e;exact⟨v'+w',by omega,h2.snoc g2⟩
theorem vo(hx:x∈N.ks):∃w,w<=m/\Wk (lD N x y m) x y w:=by
 have e:Ed (lD N x y m) x y (min m ((lk (N.row x) y).getD m)):=⟨hx,by show _∈(if x=x then _ else _);rw[Jr rfl];exact nC⟩
 have:=(Wk.nil).snoc e;exact⟨_,by omega,this⟩
theorem ju(W:WN N)(hy:y∈N.ks)(hn:x≠y):WN (lD N x y m):=by
 refine⟨W.nd,λa ha=>?_⟩
 show (K1 (if a=x then _ else _)).Nodup/\∀e∈(if a=x then _ else _),_
 by_cases e:a=x
 ·subst e;rw[Jr rfl];refine⟨p5 (W.row a ha).1,λq hq=>?_⟩
  rcases nh hq with h|h
  ·rw[h];exact⟨hy,Jv hn⟩
  ·exact (W.row a ha).2 q h
 ·rw[Ji e];exact W.row a ha
end
section
variable {cls c_ e_:Nat->PySem.Addr}{M M0:MH}{Q:VK3}{E:XN}{n:Nat}{a b c d f r:PySem.Addr}{x y:Nm}
noncomputable def nmD(k:Nm):D:=.tup (k.map D.int)
theorem ints_of:∀k:Nm,bh (k.map D.int)=some k
 |[]=>rfl
 |i::k=>by simp[bh,ints_of k]
theorem ce(k:Nm):gh (nmD k)=some k:=ints_of k
noncomputable def dS(S:List (Nm×Int)):DO:=.dt (K1 S) (S.map λp=>.int p.2)
noncomputable def dB(B:List (Nm×Nm)):DO:=.dt (K1 B) (B.map λp=>nmD p.2)
section
variable {α:Type}{l:List (Nm×α)}{g:α->D}{k:Nm}
theorem zA(h:M a=some (.dt (K1 l) (l.map λp=>g p.2))){neg:Bool}:lj neg (nmD k) (.ref a) M Q=Q (.bl (neg ^^ (lk l k).isSome)) M:=by
 have e:=fw g (k:=k) (l:=l);simp only[lj,az,ak,h,dM,cU,c9,ce,e];cases lk l k<;>rfl
theorem iL(h:M a=some (.dt (K1 l) (l.map λp=>g p.2))):aC .NotIn (nmD k) (.ref a) M Q=Q (.bl (!(lk l k).isSome)) M:=by
 simp only[aC];rw[zA h];simp
theorem uG(h:M a=some (.dt (K1 l) (l.map λp=>g p.2))):aC .In (nmD k) (.ref a) M Q=Q (.bl (lk l k).isSome) M:=by
 simp only[aC];rw[zA h];simp
theorem je{v:α}(h:M a=some (.dt (K1 l) (l.map λp=>g p.2)))(hv:lk l k=some v):ao (.ref a) (nmD k) M Q=Q (g v) M:=by
 have e:=fw g (k:=k) (l:=l);rw[hv]at e;simp only[ao,az,ak,h,dM,cU,c9,ce,e,Option.map]
theorem i4{v:α}{R:MH->Prop}(h:M a=some (.dt (K1 l) (l.map λp=>g p.2)))(hz:l.length<900):aE (.ref a) (nmD k) (g v) M R=R (put M a (.dt (K1 (ins l k v)) ((ins l k v).map λp=>g p.2))):=by
 have hs:(K1 l).length<PySem.sizeLine:=by rw[Jo,PySem.sizeLine_eq];omega
 simp only[aE,h,ce,nW (v:=v),pR g,hs,true_and]
theorem A0(h:M a=some (.dt (K1 l) (l.map λp=>g p.2))):rBm .get (.ref a) [nmD k,z] M Q=Q (((lk l k).map g).getD z) M:=by
 have e:=fw g (k:=k) (l:=l);simp only[rBm,dM,h,cU,c9,ce,e]
theorem yY(h:M a=some (.dt (K1 l) (l.map λp=>g p.2))):rBm .get (.ref a) [nmD k] M Q=Q (((lk l k).map g).getD .i_) M:=by
 have e:=fw g (k:=k) (l:=l);simp only[rBm,dM,h,cU,c9,ce,e]
theorem zt(h:M a=some (.dt (K1 l) (l.map λp=>g p.2))):tyB .get (.ref a) M=true:=by
 simp only[tyB,cU,c9,h];rfl
end
theorem qW:wpS W (.Md tg o body) De ES Z M=wpE W o Z M (λx M1=>eW x M1 λd ks es=>∀φ,aV W tg body (λ_ _ _=>False) (λM=>M d=some (.t_ φ)) (iO d φ ks es De) (ar ks es) Z (put M1 d (.t_ φ))) (ES Z):=rfl
theorem so(h:M p=some (.lst ds)):lE W e De E Z (.ref p) M=wpE W e Z M (b8 p De Z) E:=by
 unfold lE;simp only[h];rfl
theorem pk{De:Ends3}{Z:St3}{p:PySem.Addr}{ds:List D}{y:D}(h:M p=some (.lst ds)):b8 p De Z y M=(ds.length<PySem.sizeLine/\De.nx Z (put M p (.lst (ds++[y])))):=by
 unfold b8;simp only[h]
theorem nR{x y z:DO}(Lm:b≠f):put (put (put M b x) f y) b z=put (put M b z) f y:=by
 funext q;unfold put;by_cases q1:q=b
 ·simp[q1,Lm]
 ·simp[q1]
theorem rb{x y z w:DO}(G_:a≠b)(Mg:a≠f):put (put (put (put M a x) b y) f w) a z=put (put (put M a z) b y) f w:=by
 funext q;unfold put;by_cases q1:q=a
 ·simp[q1,G_,Mg]
 ·simp[q1]
noncomputable def HG(M0:MH)(a b f:PySem.Addr)(s:SB)(fl:List Nm):MH:=put (put (put M0 a (dS s.S)) b (dB s.B)) f (.lst (fl.map nmD))
noncomputable def eD(e:Nm×Int):D:=.tup [nmD e.1,.int e.2]
theorem j6:∀(l:List (Nm×Int)),ar (K1 l) (l.map λe=>.int e.2)=l.map eD
 |[]=>rfl
 |e::l=>by
  have ih:=j6 l;unfold ar at ih ⊢;simp only[Jm,List.zip_cons_cons]at ih ⊢;rw[ih];rfl
theorem rM{W:WC}{φ:PySem.Heap->Prop}(G_:a≠b)(Mg:a≠f)(Lm:b≠f)(MX:d≠a)(Ld:d≠b)(Nu:d≠f)(hd:M0 d=some (.t_ φ)){De:Ends3}{ES:St3->XN}{R:Prop}{y0:Option D}{u:Int}:∀(post:List (Nm×Int)) (s:SB)(fl:List Nm)(x5 x6 x7:Option D),lk s.S x=some u->(∀e∈post,e.1≠x)->s.S.length+post.length<800->s.B.length+post.length<800->fl.length+post.length<800->
  (∀x5 x6 x7,De.nx [y0,some (nmD x),some (.ref a),some (.ref b),some (.ref f),x5,x6,x7] (HG M0 a b f (post.foldl (rl x) (s,fl)).1 (post.foldl (rl x) (s,fl)).2)=R)->
  aV W (.tup [5,6]) bR ES (λM=>M d=some (.t_ φ)) De (post.map eD) [y0,some (nmD x),some (.ref a),some (.ref b),some (.ref f),x5,x6,x7] (HG M0 a b f s fl)=R
 |[],s,fl,x5,x6,x7,_,_,_,_,_,hR=>by
  have:=hR x5 x6 x7;have hS:HG M0 a b f s fl d=some (.t_ φ):=by unfold HG;rw[ae Nu,ae Ld,ae MX];exact hd
  simp only[List.foldl_nil]at this;rw[List.map_nil,aQ];simp[hS,this]
 |(z,w)::post,s,fl,x5,x6,x7,hx,Lq,h1,h2,h3,hR=>by
  simp only[Jw]at h1 h2 h3;have hS:HG M0 a b f s fl d=some (.t_ φ):=by unfold HG;rw[ae Nu,ae Ld,ae MX];exact hd
  have ga:HG M0 a b f s fl a=some (.dt (K1 s.S) (s.S.map λp=>.int p.2)):=by unfold HG;rw[ae Mg,ae G_,aa];rfl
  have zx:z≠x:=Lq (z,w) Jk;rw[Jm,aA];have ih:=λ(s':SB)(Pn:List Nm) (Mt:lk s'.S x=some u) (g1:s'.S.length<=s.S.length+1) (g2:s'.B.length<=s.B.length+1) (g3:Pn.length<=fl.length+1) (x5 x6 x7:Option D) (SI:∀x5 x6 x7,De.nx [y0,some (nmD x),some (.ref a),some (.ref b),some (.ref f),x5,x6,x7] (HG M0 a b f (post.foldl (rl x) (s',Pn)).1 (post.foldl (rl x) (s',Pn)).2)=R)=>rM (W:=W) (ES:=ES) G_ Mg Lm MX Ld Nu hd post s' Pn x5 x6 x7 Mt (λe he=>Lq e (Jg _ he)) (by omega) (by omega) (by omega) SI
  by_cases hl:jo s.S z (u+w)=true
  ·have hr:rl x (s,fl) (z,w)=(⟨ins s.S z (u+w),ins s.B z x⟩,fl++[z]):=by
    unfold rl;simp only[hx,hl,if_true]
   have lS:(ins s.S z (u+w)).length<=s.S.length+1:=by rw[ins_len];split<;>omega
   have lB:(ins s.B z x).length<=s.B.length+1:=by rw[ins_len];split<;>omega
   have Qq:=ih ⟨ins s.S z (u+w),ins s.B z x⟩ (fl++[z]) (by show lk (ins s.S z (u+w)) x=_;rw[eR,Ji zx];exact hx) lS lB (by simp) (some (nmD z)) (some (.int w)) (some (.int (u+w))) (λx5 x6 x7=>by
    have:=hR x5 x6 x7;rw[List.foldl_cons,hr]at this;exact this)
   have e1:put (HG M0 a b f s fl) a (.dt (K1 (ins s.S z (u+w))) ((ins s.S z (u+w)).map λp=>.int p.2))=HG M0 a b f ⟨ins s.S z (u+w),s.B⟩ fl:=by
    unfold HG;rw[rb G_ Mg];rfl
   have SJ:HG M0 a b f ⟨ins s.S z (u+w),s.B⟩ fl b=some (.dt (K1 s.B) (s.B.map λp=>nmD p.2)):=by unfold HG;rw[ae Lm,aa];rfl
   have e2:put (HG M0 a b f ⟨ins s.S z (u+w),s.B⟩ fl) b (.dt (K1 (ins s.B z x)) ((ins s.B z x).map λp=>nmD p.2))=HG M0 a b f ⟨ins s.S z (u+w),ins s.B z x⟩ fl:=by
    unfold HG;rw[nR Lm];rfl
   have gf:HG M0 a b f ⟨ins s.S z (u+w),ins s.B z x⟩ fl f=some (.lst (fl.map nmD)):=aa;have e3:put (HG M0 a b f ⟨ins s.S z (u+w),ins s.B z x⟩ fl) f (.lst (fl.map nmD++[nmD z]))=HG M0 a b f ⟨ins s.S z (u+w),ins s.B z x⟩ (fl++[z]):=by
    unfold HG;rw[aL];simp
   have s1:∀{R:MH->Prop},aE (.ref a) (nmD z) (.int (u+w)) (HG M0 a b f s fl) R=R (HG M0 a b f ⟨ins s.S z (u+w),s.B⟩ fl):=λ{R}=>by rw[i4 ga (by omega),e1]
   have s2:∀{R:MH->Prop},aE (.ref b) (nmD z) (nmD x) (HG M0 a b f ⟨ins s.S z (u+w),s.B⟩ fl) R=R (HG M0 a b f ⟨ins s.S z (u+w),ins s.B z x⟩ fl):=λ{R}=>by rw[i4 SJ (by omega),e2]
   have hsz:fl.length<PySem.sizeLine:=by rw[PySem.sizeLine_eq];omega
   have ap:∀{De:Ends3}{E:XN}{x7:Option D}{y0:Option D}{x6:Option D},lE W (.var 5) De E [y0,some (nmD x),some (.ref a),some (.ref b),some (.ref f),some (nmD z),x6,x7] (.ref f) (HG M0 a b f ⟨ins s.S z (u+w),ins s.B z x⟩ fl)=De.nx [y0,some (nmD x),some (.ref a),some (.ref b),some (.ref f),some (nmD z),x6,x7] (HG M0 a b f ⟨ins s.S z (u+w),ins s.B z x⟩ (fl++[z])):=λ{De E x7 y0 x6}=>by
    rw[so gf];simp only[GG];rw[pk gf,e3];simp[hsz]
   rw[<-Qq];cases hz:lk s.S z with
   |none=>
    simp[bR,eD,hS,↓je ga hx,↓iL ga,hz,↓s1,↓s2,↓ap]
   |some v=>
    have Qr:u+w<v:=by unfold jo at hl;rw[hz]at hl;simpa using hl
    simp[bR,eD,hS,↓je ga hx,↓iL ga,↓je ga hz,Qr,↓s1,↓s2,↓ap]
  ·have hr:rl x (s,fl) (z,w)=(s,fl):=by
    unfold rl;simp only[hx];rw[Ji hl]
   have Qq:=ih s fl hx (by omega) (by omega) (by omega) (some (nmD z)) (some (.int w)) (some (.int (u+w))) (λx5 x6 x7=>by
    have:=hR x5 x6 x7;rw[List.foldl_cons,hr]at this;exact this)
   rw[<-Qq];cases hz:lk s.S z with
   |none=>unfold jo at hl;rw[hz]at hl;exact absurd rfl hl
   |some v=>
    have Qr:¬ u+w<v:=by unfold jo at hl;rw[hz]at hl;simpa using hl
    simp[bR,eD,hS,↓je ga hx,↓iL ga,hz,↓je ga hz,Qr]
end
section
variable {b r:PySem.Addr}{x y:Nm}
noncomputable abbrev dR(row:List (Nm×Int)):DO:=.dt (K1 row) (row.map λe=>.int e.2)
theorem uL{s:SB}(hf:M f=none)(ha:M a=some (dS s.S))(hb:M b=some (dB s.B))(Lk:r≠a)(L1:r≠b)(MI:r≠f)(G_:a≠b):put (put M f (.lst [])) r (.t_ φ)=HG (put M r (.t_ φ)) a b f s []:=by
 have Mg:a≠f:=λe=>by rw[e,hf]at ha;cases ha
 have Lm:b≠f:=λe=>by rw[e,hf]at hb;cases hb
 funext q;unfold HG put;by_cases q1:q=r
 ·simp[q1,Lk,L1,MI]
 ·by_cases q2:q=f
  ·simp[q2,Jv MI]
  ·by_cases q3:q=b
   ·simp[q3,hb,Jv L1]
   ·by_cases q4:q=a
    ·simp[q4,ha,Jv Lk,G_]
    ·simp[q2,q3,q4]
theorem AA{φ:PySem.Heap->Prop}{s:SB}{o u v:DO}{fl:List Nm}(hf:M f=none)(ha:M a=some u)(hb:M b=some v)(hr:M r=some o)(Lk:r≠a)(L1:r≠b):aw M (L2.del (put (HG (put M r (.t_ φ)) a b f s fl) r o) f)=put (put M a (dS s.S)) b (dB s.B):=by
 have Mg:a≠f:=λe=>by rw[e,hf]at ha;cases ha
 have Lm:b≠f:=λe=>by rw[e,hf]at hb;cases hb
 have MI:r≠f:=λe=>by rw[e,hf]at hr;cases hr
 funext q;unfold HG aw L2.del put;by_cases q1:q=r
 ·simp[q1,Lk,L1,MI,hr]
 ·by_cases q2:q=f
  ·simp[q2,hf,Jv Lm,Jv Mg]
  ·by_cases q3:q=b
   ·simp[q3,Lm,hb,Jv L1]
   ·by_cases q4:q=a
    ·simp[q4,Mg,ha,Jv Lk]
    ·simp[q1,q2,q3,q4];cases M q<;>rfl
theorem yi{row:List (Nm×Int)}{s:SB}{u:Int}(hM:Fm M)(ha:M a=some (dS s.S))(hb:M b=some (dB s.B))(hr:M r=some (dR row))(Lk:r≠a)(L1:r≠b)(G_:a≠b)(hx:lk s.S x=some u)(Lq:∀e∈row,e.1≠x)(h1:s.S.length+row.length<800)(h2:s.B.length+row.length<800) :
  ac T (B cls c_ e_) (n+1) 22 [.ref r,nmD x,.ref a,.ref b] M Q E=Q (.f_ ((goF x row s).2.map nmD)) (put (put M a (dS (goF x row s).1.S)) b (dB (goF x row s).1.B)):=by
 rw[yb];simp[nI,qW];refine iff_of_eq (aF hM λf hf=>?_)
 have Mg:a≠f:=λe=>by rw[e,hf]at ha;cases ha
 have Lm:b≠f:=λe=>by rw[e,hf]at hb;cases hb
 have MI:r≠f:=λe=>by rw[e,hf]at hr;cases hr
 have OS:put M f (.lst []) r=some (dR row):=by rw[ae MI];exact hr
 unfold eW;simp only[OS,j6];have key:∀φ:PySem.Heap->Prop,(aV {toWB:=B cls c_ e_,call:=ac T (B cls c_ e_) n} (ITg.tup [5,6]) bR (λx TU TV=>False) (λM=>M r=some (DO.t_ φ)) (iO r φ (K1 row) (row.map λe=>.int e.2) {nx:=λl_ M'=>aW {toWB:=B cls c_ e_,call:=ac T (B cls c_ e_) n} (ISs.cons (IS.ret (IE.var 4).u_) ISs.nil) {nx:=λx M'=>Q D.i_ (aw M M'),rt:=λv M'=>Q v (aw M M')} (λx i M'=>E i (aw M M')) l_ M',rt:=λv M'=>Q v (aw M M')}) (row.map eD) [some (D.ref r),some (nmD x),some (D.ref a),some (D.ref b),some (D.ref f),none,none,none] (put (put M f (DO.lst [])) r (DO.t_ φ)))=Q (.f_ ((goF x row s).2.map nmD)) (put (put M a (dS (goF x row s).1.S)) b (dB (goF x row s).1.B)):=λφ=>by
  rw[uL hf ha hb Lk L1 MI G_];refine rM G_ Mg Lm Lk L1 MI aa row s [] none none none hx Lq h1 h2 (by simp;omega) λx5 x6 x7=>?_
  have g1:HG (put M r (.t_ φ)) a b f (goF x row s).1 (goF x row s).2 r=some (.t_ φ):=by unfold HG;rw[ae MI,ae L1,ae Lk,aa]
  have g2:put (HG (put M r (.t_ φ)) a b f (goF x row s).1 (goF x row s).2) r (dR row) f=some (.lst ((goF x row s).2.map nmD)):=by rw[ae (Jv MI)];exact aa
  change (HG (put M r (.t_ φ)) a b f (goF x row s).1 (goF x row s).2 r=some (.t_ φ)/\aW _ _ _ _ _ (put (HG (put M r (.t_ φ)) a b f (goF x row s).1 (goF x row s).2) r (dR row)))=_;rw[<-AA (φ:=φ) (fl:=(goF x row s).2) hf ha hb hr Lk L1];simp[g1,bb,g2]
 simp only[key];exact propext ⟨λh=>h (λ_=>True),λh _=>h⟩
end
section
variable {cls c_ e_:Nat->PySem.Addr}{M M0:MH}{Q:VK3}{E:XN}{n:Nat}{a b c d f r kd:PySem.Addr}{x y:Nm}{X:List Nm}{N:Nt}{p:Nm->Int}{rp:Nm->PySem.Addr}
theorem re:∀{l:List Nm},l.Nodup->(aj l k).Nodup
 |[],_=>by simp[aj]
 |q::l,h=>by
  rw[JO]at h;simp only[aj];split
  ·exact JO.mpr h
  ·rename_i e;refine JO.mpr ⟨λz=>?_,re h.2⟩
   rcases put1_mem.mp z with z|z
   ·exact e z
   ·exact h.1 z
theorem nz:∀{fl ag:List Nm},ag.Nodup->(fl.foldl aj ag).Nodup
 |[],_,h=>h
 |_::fl,_,h=>nz (fl:=fl) (re h)
theorem pz:∀{l:List Nm},(aj l k).length<=l.length+1
 |[]=>by simp[aj]
 |q::l=>by
  have:=pz (k:=k) (l:=l);simp only[aj];split<;>simp<;>omega
theorem uo:∀(post:List (Nm×Int)) (s:SB)(fl:List Nm),(post.foldl (rl x) (s,fl)).2.length<=fl.length+post.length
 |[],_,_=>by simp
 |e::post,s,fl=>by
  rw[List.foldl_cons];have h:(rl x (s,fl) e).2.length<=fl.length+1:=by
   unfold rl;cases lk s.S x with
   |none=>simp
   |some u=>simp only[];split<;>simp
  have:=uo post (rl x (s,fl) e).1 (rl x (s,fl) e).2;rw[show ((rl x (s,fl) e).1,(rl x (s,fl) e).2)=rl x (s,fl) e from rfl]at this;simp only[Jw];omega
theorem J.sz{Lw:Nm->Prop}{s:SB}(I:J N X Lw s):s.S.length<=N.ks.length/\s.B.length<=N.ks.length:=by
 have h1:=kS I.nd λz hz=>by
  obtain⟨v,hv⟩:=JM.mp (lk_key.mp hz);exact (I.k z v hv).1
 have h2:=kS I.bn I.b;simpa [K1] using And.intro h1 h2
theorem WN.sz(W:WN N)(hx:x∈N.ks):(N.row x).length<=N.ks.length:=by
 have:=kS (W.row x hx).1 λz hz=>by
  obtain⟨e,he,rfl⟩:=JJ.mp hz;exact ((W.row x hx).2 e he).1
 simpa [K1] using this
noncomputable def lR(N:Nt)(rp:Nm->PySem.Addr):List (Nm×PySem.Addr):=N.ks.map λz=>(z,rp z)
noncomputable def dK(N:Nt)(rp:Nm->PySem.Addr):DO:=.dt (K1 (lR N rp)) ((lR N rp).map λe=>.ref e.2)
theorem uC{l:List Nm}:lk (l.map λz=>(z,rp z)) x=if x∈l then some (rp x) else none:=by
 induction l with
 |nil=>rfl
 |cons q l ih=>
  simp only[Jm,lk,ih];by_cases h:q=x
  ·simp[h]
  ·simp[h,Jv h]
structure Eg (M:MH)(kd:PySem.Addr)(rp:Nm->PySem.Addr)(N:Nt):Prop where
 kd:M kd=some (dK N rp)
 row:∀z∈N.ks,M (rp z)=some (dR (N.row z))
theorem Eg.mono{M':MH}(h:Eg M kd rp N)(hm:∀q o,M q=some o->M' q=some o):Eg M' kd rp N:=⟨hm _ _ h.kd,λz hz=>hm _ _ (h.row z hz)⟩
theorem Eg.ix(h:Eg M kd rp N)(hx:x∈N.ks):ao (.ref kd) (nmD x) M Q=Q (.ref (rp x)) M:=je h.kd (by unfold lR;rw[uC,Jr hx])
noncomputable def dA(ag:List Nm):DO:=.dt ag (ag.map λ_=>.bl true)
theorem sh:∀{ag:List Nm},au ag (ag.map λ_=>D.bl true) y (.bl true)=(aj ag y).map λ_=>D.bl true
 |[]=>by simp[aj,au]
 |q::ag=>by
  have ih:=sh (ag:=ag);simp only[Jm,aj,au];split
  ·simp
  ·simp[ih]
theorem AW{ag:List Nm}(hz:ag.length<900):aE (.ref c) (nmD y) (.bl true) (put M c (dA ag)) R=R (put M c (dA (aj ag y))):=by
 have hs:ag.length<PySem.sizeLine:=by rw[PySem.sizeLine_eq];omega
 simp only[aE,aa,dA,ce,sh,hs,true_and,aL]
theorem rB{De:Ends3}:∀(fl ag:List Nm)(x6:Option D),ag.length+fl.length<800->(∀x6,De.nx [y0,y1,y2,y3,some (.ref c),y5,x6] (put M c (dA (fl.foldl aj ag)))=R)->
  aV W (.name 6) eL ES (λ_=>True) De (fl.map nmD) [y0,y1,y2,y3,some (.ref c),y5,x6] (put M c (dA ag))=R
 |[],ag,x6,_,hR=>by
  rw[List.map_nil,aQ];simpa using hR x6
 |z::fl,ag,x6,hz,hR=>by
  have h1:(aj ag z).length<=ag.length+1:=pz;simp only[Jw]at hz;rw[Jm,aA,<-rB (W:=W) (ES:=ES) fl (aj ag z) (some (nmD z)) (by omega) hR]
  simp[eL,AW (show ag.length<900 by omega)]
noncomputable def HS(M0:MH)(a b c:PySem.Addr)(s:SB)(ag:List Nm):MH:=put (put (put M0 a (dS s.S)) b (dB s.B)) c (dA ag)
theorem q9{De:Ends3}(hM:Fm M0)(W:WN N)(hp:Pot N p)(hk:N.ks.length<200)(G_:a≠b)(NS:a≠c)(Qs:b≠c)(ha:kd≠a)(hb:kd≠b)(hc:kd≠c)(Lk:∀z∈N.ks,rp z≠a)(L1:∀z∈N.ks,rp z≠b)(Po:∀z∈N.ks,rp z≠c)(hE:Eg M0 kd rp N) :
  ∀(fs:List Nm)(s:SB)(ag:List Nm)(x5 x6:Option D),J N X (λz=>z∈fs\/z∈ag) s->ag.Nodup->
  (∀x5 x6,De.nx [some (.ref kd),some (.ref a),some (.ref b),y3,some (.ref c),x5,x6] (HS M0 a b c (fs.foldl (f9 N) (s,ag)).1 (fs.foldl (f9 N) (s,ag)).2)=R)->
  aV {toWB:=B cls c_ e_,call:=ac T (B cls c_ e_) (n+1)} (.name 5) cX ES (λ_=>True) De (fs.map nmD) [some (.ref kd),some (.ref a),some (.ref b),y3,some (.ref c),x5,x6] (HS M0 a b c s ag)=R
 |[],s,ag,x5,x6,_,_,hR=>by
  rw[List.map_nil,aQ];simpa using hR x5 x6
 |x::fs,s,ag,x5,x6,I,hn,hR=>by
  obtain⟨u,hu⟩:=JM.mp (I.pd x (.inl Jk));have xk:=(I.k x u hu).1;have I':=(oA W hp I).1;have z1:=I.sz;have z2:=W.sz xk;have z3:ag.length<=N.ks.length:=kS hn λz hz=>by
   obtain⟨v,hv⟩:=JM.mp (I.pd z (.inr hz));exact (I.k z v hv).1
  have z4:(goF x (N.row x) s).2.length<=0+(N.row x).length:=uo (N.row x) s [];have ga:HS M0 a b c s ag a=some (dS s.S):=by unfold HS;rw[ae NS,ae G_,aa]
  have gb:HS M0 a b c s ag b=some (dB s.B):=by unfold HS;rw[ae Qs,aa]
  have gE:∀q,q≠a->q≠b->q≠c->HS M0 a b c s ag q=M0 q:=λq q1 q2 q3=>by unfold HS;rw[ae q3,ae q2,ae q1]
  have gK:Eg (HS M0 a b c s ag) kd rp N:=⟨by rw[gE _ ha hb hc];exact hE.kd,λz hz=>by rw[gE _ (Lk z hz) (L1 z hz) (Po z hz)];exact hE.row z hz⟩
  have i1:∀{Q:VK3},ao (.ref kd) (nmD x) (HS M0 a b c s ag) Q=Q (.ref (rp x)) (HS M0 a b c s ag):=λ{Q}=>gK.ix xk
  have i2:∀{Q:VK3}{E:XN},ac T (B cls c_ e_) (n+1) 22 [.ref (rp x),nmD x,.ref a,.ref b] (HS M0 a b c s ag) Q E=Q (.f_ ((goF x (N.row x) s).2.map nmD)) (HS M0 a b c (goF x (N.row x) s).1 ag):=λ{Q E}=>by
   rw[yi (M:=HS M0 a b c s ag) (((hM.put _ _).put _ _).put _ _) ga gb (gK.row x xk) (Lk x xk) (L1 x xk) G_ hu (λe he=>((W.row x xk).2 e he).2) (by omega) (by omega)]
   unfold HS;rw[rb G_ NS,nR Qs]
  have ih:=λx6=>q9 (De:=De) (ES:=ES) (R:=R) (y3:=y3) hM W hp hk G_ NS Qs ha hb hc Lk L1 Po hE fs _ _ (some (nmD x)) x6 I' (nz hn) (λx5 x6=>by have:=hR x5 x6;rw[List.foldl_cons]at this;exact this)
  rw[Jm,aA];generalize aV {toWB:=B cls c_ e_,call:=ac T (B cls c_ e_) (n+1)} (.name 5) cX ES (λ_=>True) De (fs.map nmD)=K at ih ⊢
  simp[cX,wpG,↓i1,↓i2];refine iff_of_eq (rB _ ag x6 (by omega) λx6=>?_)
  exact ih x6
end
section
variable {b r:PySem.Addr}{x y:Nm}{N:Nt}{p:Nm->Int}
noncomputable def HB(M0:MH)(a b:PySem.Addr)(s:SB):MH:=put (put M0 a (dS s.S)) b (dB s.B)
theorem Ao(OT:c≠a)(OU:c≠b):HS M0 a b c s ag=HB (put M0 c (dA ag)) a b s:=by
 unfold HS HB;funext q;unfold put;by_cases q1:q=c
 ·simp[q1,OT,OU]
 ·simp[q1]
theorem yA(hm:∀q o,M q=some o->M0 q=some o)(ha:M a=some u)(hb:M b=some v):aw M (HB M0 a b s)=HB M a b s:=by
 unfold HB;rw[jD hb,jD ha];congr 2;funext q;unfold aw;cases h:M q with
 |none=>rfl
 |some o=>exact hm q o h
theorem yN{l:List Nm}:l.map bS=l.map nmD:=rfl
theorem nU{ks:List Nm}(h:M c=some (.dt ks es)):rBi (.list true) [.ref c] M Q=(ks.length<=PySem.sizeLine/\Q (.f_ (ks.map nmD)) M):=by
 simp[rBi,az,ak,h,c9,yN]
theorem vY:∀{fs:List Nm}{st:SB×List Nm},st.2.Nodup->(fs.foldl (f9 N) st).2.Nodup
 |[],_,h=>h
 |_::fs,_,h=>by rw[List.foldl_cons];exact vY (nz h)
def PS(M:MH)(kd a b:PySem.Addr)(N:Nt)(X:List Nm)(sf:SB)(m:Nat)(Z:St3)(M':MH):Prop:=∃(s:SB)(fs:List Nm)(x4 x5 x6:Option D)(M1:MH),Z=[some (.ref kd),some (.ref a),some (.ref b),some (.f_ (fs.map nmD)),x4,x5,x6]/\M'=HB M1 a b s/\Fm M1/\(∀q o,M q=some o->M1 q=some o)/\J N X (λz=>z∈fs) s/\Run N m s fs sf
theorem ot{s0:SB}(hM:Fm M)(W:WN N)(hp:Pot N p)(hk:N.ks.length<200)(G_:a≠b)(ha:M a=some (dS s0.S))(hb:M b=some (dB s0.B))(MZ:kd≠a)(MM:kd≠b)(Lk:∀z∈N.ks,rp z≠a)(L1:∀z∈N.ks,rp z≠b)(hE:Eg M kd rp N)(I:J N X (λz=>z∈K1 s0.S) s0)(R:Run N m s0 (K1 s0.S) sf)(hQ:Q .i_ (HB M a b sf)) :
  ac T (B cls c_ e_) (n+2) 23 [.ref kd,.ref a,.ref b] M Q E:=by
 have z0:=I.sz.1;rw[wM];have SK:M a=some (.dt (K1 s0.S) (s0.S.map λp=>.int p.2)):=ha
 have hl:(K1 s0.S).length<=PySem.sizeLine:=by rw[Jo,PySem.sizeLine_eq];omega
 simp[kK,nU SK];refine⟨by simpa using hl,PS M kd a b N X sf,⟨m,s0,K1 s0.S,none,none,none,M,by simp,?_,hM,λ_ _ h=>h,I,R⟩,?_⟩
 ·unfold HB;funext q;unfold put;by_cases q1:q=b
  ·simp[q1,hb]
  ·by_cases q2:q=a
   ·subst q2;simp[q1,ha]
   ·simp[q1,q2]
 ·rintro m Z M' ⟨s,fs,x4,x5,x6,M1,rfl,rfl,Rr,hm,I,R⟩;cases R with
  |done=>
   simp;rw[yA hm ha hb];exact hQ
  |@step m' _ _ _ Lq R=>
   have h0:0<fs.length:=List.length_pos_iff.mpr Lq;simp[h0,jc];intro c hc;have OU:c≠b:=λe=>by unfold HB at hc;rw[e,aa]at hc;cases hc
   have OT:c≠a:=λe=>by unfold HB at hc;rw[e,ae G_,aa]at hc;cases hc
   have Qt:M1 c=none:=by unfold HB at hc;rw[ae OU,ae OT]at hc;exact hc
   have Qu:=hE.mono hm;have PQ:kd≠c:=λe=>by have:=Qu.kd;rw[e,Qt]at this;cases this
   have Po:∀z∈N.ks,rp z≠c:=λz hz e=>by have:=Qu.row z hz;rw[e,Qt]at this;cases this
   obtain⟨J1,_⟩:=kq W hp fs s [] (I.mono (λz hz=>.inl hz) λz hz=>I.pd z (by simpa using hz))
   have J2:((stepF N s fs).2).Nodup:=vY List.nodup_nil;have J3:(stepF N s fs).2.length<=N.ks.length:=kS J2 λz hz=>by
    obtain⟨v,hv⟩:=JM.mp (J1.pd z hz);exact (J1.k z v hv).1
   change aV _ _ _ _ _ _ _ _ (HS M1 a b c s []);have O5:HS M1 a b c (stepF N s fs).1 (stepF N s fs).2 c=some (.dt (stepF N s fs).2 ((stepF N s fs).2.map λ_=>.bl true)):=aa
   have Qv:(stepF N s fs).2.length<=PySem.sizeLine:=by rw[PySem.sizeLine_eq];omega
   rw[q9 (R:=True) Rr W hp hk G_ (Jv OT) (Jv OU) MZ MM PQ Lk L1 Po Qu fs s [] _ _ (I.mono (λz hz=>.inl hz) λz hz=>I.pd z (by simpa using hz)) List.nodup_nil]
   ·trivial
   ·intro x5 x6;simp[nU O5,Qv];refine⟨m',Nat.lt_succ_self _,(stepF N s fs).1,(stepF N s fs).2,some (.ref c),x5,x6,put M1 c (dA (stepF N s fs).2),rfl,Ao OT OU,Rr.put _ _,λq o h=>?_,J1,R⟩
    rw[ae (λe=>by rw[e]at h;have:=hm _ _ h;rw[Qt]at this;cases this)]
    exact hm q o h
end
section
variable {cls c_ e_:Nat->PySem.Addr}{M M0:MH}{Q:VK3}{E:XN}{n:Nat}{a b c d f r kd nn:PySem.Addr}{x y x0:Nm}{N:Nt}{p:Nm->Int}{rp:Nm->PySem.Addr}
theorem Eg.nin(h:Eg M kd rp N):aC .NotIn (nmD x) (.ref kd) M Q=Q (.bl (!decide (x∈N.ks))) M:=by
 rw[iL h.kd];unfold lR;rw[uC];by_cases h:x∈N.ks<;>simp[h]
theorem vz(h:Eg M kd rp N)(hx:x∈N.ks):ac T (B cls c_ e_) (n+1) 21 [.ref kd,nmD x] M Q E=Q .i_ M:=by
 rw[iA];simp[bN,h.nin,hx]
theorem o6(G_:a≠b):HB (put (put M a u) b v) a b s=HB M a b s:=by
 unfold HB;rw[nR G_,aL]
theorem qZ{s:SB}(ha:M a=none)(hb:M b=none):aw M (HB M a b s)=M:=by
 unfold HB;rw[eP hb,eP ha,bP]
theorem Eg.ne(h:Eg M kd rp N)(ha:M a=none):kd≠a/\∀z∈N.ks,rp z≠a:=
 ⟨λe=>(by have:=h.kd;rw[e,ha]at this;cases this),λz hz e=>(by have:=h.row z hz;rw[e,ha]at this;cases this)⟩
theorem Eg.new{o:DO}(h:Eg M kd rp N)(ha:M a=none):Eg (put M a o) kd rp N:=h.mono λq u hq=>by
 rw[ae (λe=>by rw[e,ha]at hq;cases hq)];exact hq
theorem sJ(hM:Fm M)(W:WN N)(hp:Pot N p)(hk:N.ks.length<200)(hE:Eg M kd rp N)(hx:x∈N.ks)
  (hQ:∀a b s,M a=none->M b=none->a≠b->J N [x] (λ_=>False) s->Q (.ref a) (HB M a b s)):ac T (B cls c_ e_) (n+3) 24 [.ref kd,nmD x] M Q E:=by
 rw[xj];simp[mY,vz hE hx];intro a ha;simp[fD,ce,aL];refine⟨aa,λb hb=>?_⟩
 have G_:a≠b:=λe=>by rw[<-e,aa]at hb;cases hb
 have OV:M b=none:=by rwa [ae (Jv G_)]at hb
 obtain⟨m,s,R,I⟩:=Bb W hp ⟨[(x,0)],[]⟩ [x] (J.start W (by simp) (by simpa using hx))
 have e1:=hE.ne ha;have e2:=hE.ne OV;refine ot ((hM.put _ _).put _ _) W hp hk G_ (by rw[ae G_,aa];rfl) aa e1.1 e2.1 e1.2 e2.2 ((hE.new ha).new hb) (J.start W (by simp) (by simpa using hx)) R ?_
 rw[o6 G_];exact hQ a b s ha OV G_ I
structure NT (c_:Nat->PySem.Addr)(M:MH)(nn kd:PySem.Addr)(rp:Nm->PySem.Addr)(N:Nt):Prop where
 nn:M nn=some (.ins 5 (c_ 5) [245117675] [.ref kd])
 eg:Eg M kd rp N
 inj:∀x∈N.ks,∀y∈N.ks,rp x=rp y->x=y
 fm:Fm M
 wn:WN N
 sz:N.ks.length<200
theorem NT.fld(h:NT c_ M nn kd rp N):dP (B cls c_ e_) 245117675 (.ref nn) M Q=Q (.ref kd) M:=by
 simp[dP,h.nn]
theorem NT.mth{m f:Nat}{R:Nat->Prop}(h:NT c_ M nn kd rp N)(hm:G.mth 5 m=some f)(h1:245117675≠m):cG (B cls c_ e_) m (.ref nn) M R=R f:=by
 simp[cG,h.nn,hm,h1]
theorem Bg{o:Option Int}:(o.map D.int).getD .i_=oi o:=by cases o<;>rfl
theorem uw(h:NT c_ M nn kd rp N)(hp:Pot N p)(hx:x∈N.ks)(hy:y∈N.ks)(hQ:∀o,IsD N x y o->Q (oi o) M):ac T (B cls c_ e_) (n+4) 35 [.ref nn,nmD x,nmD y] M Q E:=by
 rw[p9];simp[gg,h.fld,vz h.eg hy];refine sJ h.fm h.wn hp h.sz h.eg hx λa b s ha hb G_ I=>?_
 have ga:HB M a b s a=some (.dt (K1 s.S) (s.S.map λp=>.int p.2)):=by unfold HB;rw[ae G_,aa];rfl
 simp[zt ga,yY ga,qZ ha hb];rw[Bg];exact hQ _ (I.isD y)
end
section
variable {cls c_ e_:Nat->PySem.Addr}{M M0:MH}{Q:VK3}{E:XN}{n:Nat}{a b c d f r kd nn:PySem.Addr}{x y x0:Nm}{N:Nt}{p:Nm->Int}{rp:Nm->PySem.Addr}
theorem mS:∀{x y:List Int},cV (x.map D.int) (y.map D.int)=decide (x=y)
 |[],[]=>by simp[cV]
 |[],_::_=>by simp[cV]
 |_::_,[]=>by simp[cV]
 |i::x,j::y=>by
  simp only[Jm,cV,eqD,mS];by_cases h:i=j<;>simp
theorem ED:aC .Eq (nmD x) (nmD y) M Q=Q (.bl (decide (x=y))) M:=by
 simp[aC,ll,rs,ak,nmD,plN,eqD,mS]
theorem Gd{m:Int}(h:NT c_ M nn kd rp N)(hp:Pot N p)(hx:x∈N.ks)(hy:y∈N.ks)(hm:p y-p x<=m)(hQ:Q .i_ M):ac T (B cls c_ e_) (n+5) 27 [.ref nn,nmD x,nmD y,.int m] M Q E:=by
 rw[gU];simp[bG,h.fld,h.eg.nin,hx,hy,h.mth eE];refine uw h hp hy hx λo ho=>?_
 cases o with
 |none=>simpa [oi] using hQ
 |some d=>
  have:=ho.1.pot hp;have hd:¬ d+m<0:=by omega
  simpa [oi,hd] using hQ
theorem gy(h:NT c_ M nn kd rp N)(hx:x∈N.ks):ac T (B cls c_ e_) (n+1) 28 [.ref nn,nmD x] M Q E=Q .i_ M:=by
 rw[ky];simp[dW,h.fld,h.eg.nin,hx]
theorem NT.kr(h:NT c_ M nn kd rp N)(hx:x∈N.ks):kd≠rp x:=λe=>by
 have:=h.eg.kd;rw[e,h.eg.row x hx]at this;injection this with this
 injection this with t1 t2
 have hl:(lR N rp).length≠0:=by
  unfold lR;rw[Jo];have:=List.length_pos_of_mem hx;omega
 cases h1:lR N rp with
 |nil=>rw[h1]at hl;exact hl rfl
 |cons u l=>
  cases h2:N.row x with
  |nil=>rw[h1,h2]at t2;cases t2
  |cons v k=>rw[h1,h2]at t2;simp at t2
theorem NT.add{m:Int}(h:NT c_ M nn kd rp N)(hx:x∈N.ks)(hy:y∈N.ks)(hn:x≠y):NT c_ (put M (rp x) (dR (ins (N.row x) y (min m ((lk (N.row x) y).getD m))))) nn kd rp (lD N x y m):=by
 have hr:=h.eg.row x hx;have n1:nn≠rp x:=λe=>by have:=h.nn;rw[e,hr]at this;cases this
 have n2:=h.kr hx;refine⟨by rw[ae n1];exact h.nn,⟨by rw[ae n2];exact h.eg.kd,λz hz=>?_⟩,h.inj,h.fm.put _ _,ju h.wn hy hn,h.sz⟩
 show _=some (dR (if z=x then _ else _))
 by_cases e:z=x
 ·subst e;rw[aa,Jr rfl]
 ·rw[ae (λq=>e (h.inj z hz x hx q)),Ji e];exact h.eg.row z hz
theorem El{m:Int}(h:NT c_ M nn kd rp N)(hp:Pot N p)(hx:x∈N.ks)(hy:y∈N.ks)(hn:x≠y)(hm:p y-p x<=m)(hQ:∀u v,M (rp x)=some v->NT c_ (put M (rp x) u) nn kd rp (lD N x y m)->Q .i_ (put M (rp x) u)):ac T (B cls c_ e_) (n+6) 29 [.ref nn,nmD x,nmD y,.int m] M Q E:=by
 have hr:=h.eg.row x hx;have OS:M (rp x)=some (.dt (K1 (N.row x)) ((N.row x).map λe=>.int e.2)):=hr
 rw[sY];simp[iG,ED,hn,h.mth hJ];refine Gd h hp hx hy hm ?_;simp[h.mth jF,gy h hx,gy h hy,h.fld,h.eg.ix hx,zt OS,A0 OS];have hz:=h.wn.sz hx;have OH:=h.sz;have Qw:(if (lk (N.row x) y).getD m<m then (lk (N.row x) y).getD m else m)=min m ((lk (N.row x) y).getD m):=by
  split<;>omega
 rw[Qw,i4 OS (by omega)]
 exact hQ _ _ hr (h.add hx hy hn)
end
section
variable {cls c_ e_:Nat->PySem.Addr}{M M0:MH}{Q:VK3}{E:XN}{n:Nat}{nn kd:PySem.Addr}{x y:Nm}{N:Nt}{p:Nm->Int}{rp:Nm->PySem.Addr}{W:WC}
noncomputable def dQ(N:Nt)(x:Nm):Nt:=if x∈N.ks then N else⟨N.ks++[x],λz=>if z=x then [] else N.row z⟩
theorem addK_mem:z∈(dQ N x).ks<->z=x\/z∈N.ks:=by
 unfold dQ;split
 ·rename_i h;exact⟨.inr,λe=>e.elim (λe=>e▸h) id⟩
 ·simp[or_comm]
theorem kQ:(dQ N x).ks.length<=N.ks.length+1:=by
 unfold dQ;split<;>simp
theorem rK(h:WN N):WN (dQ N x):=by
 unfold dQ;split
 ·exact h
 ·rename_i hx;refine⟨List.nodup_append.mpr ⟨h.nd,by simp,λa ha b hb=>by rw[JB.mp hb];exact λe=>hx (e▸ha)⟩,λz hz=>?_⟩
  simp only;by_cases e:z=x
  ·rw[Jr e];exact⟨List.nodup_nil,λ_ h=>by cases h⟩
  ·rw[Ji e];have MY:z∈N.ks:=by simpa [e] using hz
   exact⟨(h.row z MY).1,λq hq=>⟨JR _ ((h.row z MY).2 q hq).1,((h.row z MY).2 q hq).2⟩⟩
structure NX (c_:Nat->PySem.Addr)(M0 M:MH)(nn kd:PySem.Addr)(rp:Nm->PySem.Addr)(N:Nt):Prop where
 nt:NT c_ M nn kd rp N
 k0:M0 kd=none
 r0:∀z∈N.ks,M0 (rp z)=none
 kr:∀z∈N.ks,rp z≠kd
 ex:∀q o,M0 q=some o->M q=some o
def NY(c_:Nat->PySem.Addr)(M0 M:MH)(nn:PySem.Addr)(N:Nt):Prop:=∃kd rp,NX c_ M0 M nn kd rp N
theorem iw{a:PySem.Addr}{o:DO}(ex:∀q u,M0 q=some u->M q=some u)(ha:M0 a=none):∀q u,M0 q=some u->put M a o q=some u:=λq u h=>by
 rw[ae (λe=>by rw[e,ha]at h;cases h)];exact ex q u h
theorem none_of{a:PySem.Addr}(ex:∀q u,M0 q=some u->M q=some u)(h:M a=none):M0 a=none:=by
 cases e:M0 a with
 |none=>rfl
 |some u=>rw[ex a u e]at h;cases h
theorem jt:∀{l:List (Nm×α)},k∉K1 l->ins l k v=l++[(k,v)]
 |[],_=>rfl
 |(q,u)::r,h=>by
  simp only[Jm,Jl,not_or]at h;simp only[ins,Ji (Jv h.1),List.cons_append,jt h.2]
theorem uO(h:NY c_ M0 M nn N)(hs:N.ks.length<190)(hQ:∀M',NY c_ M0 M' nn (dQ N x)->Q .i_ M'):ac T (B cls c_ e_) (n+1) 28 [.ref nn,nmD x] M Q E:=by
 obtain⟨kd,rp,h,k0,r0,kr,ex⟩:=h;by_cases hx:x∈N.ks
 ·rw[gy h hx];exact hQ _ ⟨kd,rp,by unfold dQ;rw[Jr hx];exact⟨h,k0,r0,kr,ex⟩⟩
 ·rw[ky];simp[dW,h.fld,h.eg.nin,hx];intro a ha;have na:∀{q u},M q=some u->q≠a:=λ{q u} e z=>by rw[z,ha]at e;cases e
  have up:∀{q u},M q=some u->put M a (.dt [] []) q=some u:=λ{q u} e=>by rw[ae (na e)];exact e
  have h':NT c_ (put M a (.dt [] [])) nn kd rp N:=⟨up h.nn,h.eg.mono λ_ _=>up,h.inj,h.fm.put _ _,h.wn,h.sz⟩
  have hl:x∉K1 (lR N rp):=λe=>by
   rw[lk_key]at e;unfold lR at e;rw[uC,Ji hx]at e;cases e
  have el:ins (lR N rp) x a=lR (dQ N x) λz=>if z=x then a else rp z:=by
   rw[jt hl];unfold lR dQ;rw[Ji hx,List.map_append];simp only[Jm,List.map_nil];congr 1;exact List.map_congr_left λz hz=>by rw[Ji (λe=>hx (e▸hz):z≠x)]
  rw[h'.fld,i4 h'.eg.kd (by unfold lR;rw[Jo];omega),el]
  have nk:nn≠kd:=λe=>by have:=h.nn;rw[e,h.eg.kd]at this;cases this
  have ka:=na h.eg.kd;refine hQ _ ⟨kd,λz=>if z=x then a else rp z,⟨by rw[ae nk];exact h'.nn,⟨aa,λz hz=>?_⟩,λz hz w hw e=>?_,(h.fm.put _ _).put _ _,rK h.wn,Nat.lt_of_le_of_lt kQ (by omega)⟩,k0,λz hz=>?_,λz hz=>?_,iw (iw ex (none_of ex ha)) k0⟩
  ·show put _ kd _ (if z=x then a else rp z)=some (dR ((dQ N x).row z))
   have er:(dQ N x).row z=if z=x then [] else N.row z:=by unfold dQ;rw[Ji hx]
   rw[er];by_cases e:z=x
   ·rw[Jr e,Jr e,ae (Jv ka),aa];rfl
   ·have hz:=(addK_mem.mp hz).resolve_left e;rw[Ji e,Ji e,ae (kr z hz)];exact up (h.eg.row z hz)
  ·by_cases e1:z=x
   ·by_cases e2:w=x
    ·rw[e1,e2]
    ·rw[Jr e1,Ji e2]at e;exact absurd e.symm (na (h.eg.row w ((addK_mem.mp hw).resolve_left e2)))
   ·by_cases e2:w=x
    ·rw[Ji e1,Jr e2]at e;exact absurd e (na (h.eg.row z ((addK_mem.mp hz).resolve_left e1)))
    ·rw[Ji e1,Ji e2]at e;exact h.inj z ((addK_mem.mp hz).resolve_left e1) w ((addK_mem.mp hw).resolve_left e2) e
  ·split
   ·exact none_of ex ha
   ·rename_i e;exact r0 z ((addK_mem.mp hz).resolve_left e)
  ·split
   ·exact Jv ka
   ·rename_i e;exact kr z ((addK_mem.mp hz).resolve_left e)
theorem Ad{m:Int}(h:NY c_ M0 M nn N)(hp:Pot N p)(hx:x∈N.ks)(hy:y∈N.ks)(hn:x≠y)(hm:p y-p x<=m)(hQ:∀M',NY c_ M0 M' nn (lD N x y m)->Q .i_ M'):ac T (B cls c_ e_) (n+6) 29 [.ref nn,nmD x,nmD y,.int m] M Q E:=by
 obtain⟨kd,rp,h,k0,r0,kr,ex⟩:=h;exact El h hp hx hy hn hm λu v hv h'=>hQ _ ⟨kd,rp,h',k0,r0,kr,iw ex (r0 x hx)⟩
noncomputable abbrev Bd:=Nm×Nm×Int
noncomputable def bD(b:Bd):D:=.tup [nmD b.1,nmD b.2.1,.int b.2.2]
noncomputable def pO(N:Nt)(b:Bd):Nt:=lD N b.1 b.2.1 b.2.2
def Bk(p:Nm->Int)(b:Bd):Prop:=p b.2.1-p b.1<=b.2.2
theorem qS{De:Ends3}{ES:St3->XN}{y0 y1:Option D}{ys:List (Option D)}:∀(xs:List Nm)(N:Nt)(M:MH)(x3:Option D),NY c_ M0 M nn N->N.ks.length+xs.length<190->(∀M' x3,NY c_ M0 M' nn (xs.foldl dQ N)->De.nx (y0::y1::some (.ref nn)::x3::ys) M')->
  aV ⟨(B cls c_ e_),ac T (B cls c_ e_) (n+1)⟩ (.name 3) eZ ES (λ_=>True) De (xs.map nmD) (y0::y1::some (.ref nn)::x3::ys) M
 |[],N,M,x3,h,_,hR=>⟨trivial,hR M x3 h⟩
 |x::xs,N,M,x3,h,hl,hR=>by
  simp only[Jw]at hl;have:=kQ (N:=N) (x:=x);obtain⟨kd,rp,h'⟩:=id h;rw[Jm,aA];simp[eZ,h'.nt.mth jF];refine uO h (by omega) λM' h'=>?_
  exact qS xs _ M' _ h' (by omega) hR
theorem pD{De:Ends3}{ES:St3->XN}{y0 y1 y3:Option D}:∀(bs:List Bd)(N:Nt)(M:MH)(x4 x5 x6:Option D),NY c_ M0 M nn N->Pot N p->(∀b∈bs,b.1∈N.ks/\b.2.1∈N.ks/\b.1≠b.2.1/\Bk p b)->(∀M' x4 x5 x6,NY c_ M0 M' nn (bs.foldl pO N)->De.nx [y0,y1,some (.ref nn),y3,x4,x5,x6] M')->
  aV ⟨(B cls c_ e_),ac T (B cls c_ e_) (n+6)⟩ (.tup [4,5,6]) eV ES (λ_=>True) De (bs.map bD) [y0,y1,some (.ref nn),y3,x4,x5,x6] M
 |[],N,M,x4,x5,x6,h,_,_,hR=>⟨trivial,hR M x4 x5 x6 h⟩
 |b::bs,N,M,x4,x5,x6,h,hp,hb,hR=>by
  obtain⟨b1,b2,b3,b4⟩:=hb b Jk;obtain⟨kd,rp,h'⟩:=id h;rw[Jm,aA];simp[eV,bD,jp,h'.nt.mth sP];refine Ad h hp b1 b2 b3 b4 λM' h'=>?_
  exact pD bs _ M' _ _ _ h' (pE hp b4) (λc hc=>hb c (Jg _ hc)) hR
end
section
variable {cls c_ e_:Nat->PySem.Addr}{M M0:MH}{Q:VK3}{E:XN}{n:Nat}{x y:Nm}{N:Nt}{p:Nm->Int}{d_:List (Int×Int)}{wy:List Wy}{rows:List Rw}
theorem fk_mem:∀{xs:List Nm}{N:Nt},z∈(xs.foldl dQ N).ks<->z∈xs\/z∈N.ks
 |[],N=>by simp
 |x::xs,N=>by
  rw[List.foldl_cons,fk_mem,addK_mem,Jl];constructor
  ·rintro (h|h|h)<;>simp[h]
  ·rintro ((h|h)|h)<;>simp[h]
theorem wH:∀{xs:List Nm}{N:Nt},(∀z,N.row z=[])->∀z,(xs.foldl dQ N).row z=[]
 |[],N,h=>h
 |x::xs,N,h=>wH (xs:=xs) λz=>by unfold dQ;split<;>simp[h]
theorem zy:∀{xs:List Nm}{N:Nt},WN N->WN (xs.foldl dQ N)
 |[],_,h=>h
 |x::xs,_,h=>zy (xs:=xs) (rK h)
theorem zz:∀{bs:List Bd}{N:Nt},(bs.foldl pO N).ks=N.ks
 |[],_=>rfl
 |b::bs,N=>zz (bs:=bs) (N:=pO N b)
abbrev BN(N:Nt)(b:Bd):Prop:=b.1∈N.ks/\b.2.1∈N.ks/\b.1≠b.2.1
theorem qQ:∀{bs:List Bd}{N:Nt},Pot N p->(∀b∈bs,Bk p b)->Pot (bs.foldl pO N) p
 |[],_,h,_=>h
 |b::bs,N,h,hb=>qQ (bs:=bs) (pE h (hb b Jk)) λc hc=>hb c (Jg _ hc)
theorem zd:∀{bs:List Bd}{N:Nt}{v:Int},WN N->(∀b∈bs,BN N b)->Wk N x y v->∃w,w<=v/\Wk (bs.foldl pO N) x y w
 |[],_,v,_,_,h=>⟨v,Int.le_refl _,h⟩
 |b::bs,N,v,W,hb,h=>by
  obtain⟨_,b2,b3⟩:=hb b Jk;obtain⟨v1,l1,h1⟩:=xy W h;obtain⟨v2,l2,h2⟩:=zd (ju W b2 b3) (λc hc=>hb c (Jg _ hc)) h1
  exact⟨v2,by omega,h2⟩
theorem uH:∀{bs:List Bd}{N:Nt},WN N->(∀b∈bs,BN N b)->WN (bs.foldl pO N)/\∀b∈bs,∃w,w<=b.2.2/\Wk (bs.foldl pO N) b.1 b.2.1 w
 |[],_,W,_=>⟨W,λ_ h=>by cases h⟩
 |b::bs,N,W,hb=>by
  obtain⟨b1,b2,b3⟩:=hb b Jk;have hs:=λc hc=>hb c (Jg _ hc)
  obtain⟨W',h'⟩:=uH (ju W b2 b3) hs;refine⟨W',λc hc=>?_⟩
  rcases Jl.mp hc with rfl|hc
  ·obtain⟨w,l,h⟩:=vo b1;obtain⟨v,l2,h2⟩:=zd (ju W b2 b3) hs h;exact⟨v,by omega,h2⟩
  ·exact h' c hc
noncomputable abbrev NO:Nm:=[-1,0]
noncomputable def nv(p:Int×Nat):Nm:=[p.1,(p.2:Int)]
noncomputable def KS(rows:List Rw):List Nm:=NO::(nmF (rows.map Rw.h) c00).map nv
def Bp(d_:List (Int×Int))(wy:List Wy)(rows:List Rw)(p:Nm->Int):Prop:=∀d∈bdF d_ wy c00 l00 rows,∃b:Bd,d=bD b/\(b.1∈KS rows/\b.2.1∈KS rows/\b.1≠b.2.1)/\Bk p b
structure LB (d_:List (Int×Int)) (wy:List Wy)(rows:List Rw):Prop where
 g:GW d_ wy
 l:rows.length<=64
 f:∀r∈rows,r.fine d_.length wy
 b:∃p,Bp d_ wy rows p
structure LN (d_:List (Int×Int)) (wy:List Wy)(rows:List Rw)(N:Nt):Prop where
 ks:∀x∈KS rows,x∈N.ks
 wn:WN N
 pt:∃p,Pot N p
 pq:∀q,Bp d_ wy rows q->Pot N q
 wk:∀b,bD b∈bdF d_ wy c00 l00 rows->∃w,w<=b.2.2/\Wk N b.1 b.2.1 w
theorem uZ{P:Bd->Prop}:∀{ds:List D},(∀d∈ds,∃b,d=bD b/\P b)->∃bs:List Bd,ds=bs.map bD/\∀b∈bs,P b
 |[],_=>⟨[],rfl,λ_ h=>by cases h⟩
 |d::ds,h=>by
  obtain⟨b,rfl,hb⟩:=h d Jk;obtain⟨bs,rfl,hs⟩:=uZ λe he=>h e (Jg _ he)
  exact⟨b::bs,rfl,λc hc=>by rcases Jl.mp hc with rfl|hc;exact hb;exact hs c hc⟩
theorem qr(h:nmD x=nmD y):x=y:=by
 have:=congrArg gh h;rw[ce,ce]at this;exact JA this
theorem wX(h:bD a=bD b):a=b:=by
 unfold bD at h;simp only[D.tup.injEq,List.cons.injEq,D.int.injEq,and_true]at h;exact Prod.ext (qr h.1) (Prod.ext (qr h.2.1) h.2.2)
theorem gQ:∀{hs:List Int}{c:Int->Nat},(nmF hs c).length=hs.length
 |[],_=>rfl
 |h::hs,c=>by simp[nmF,gQ]
theorem Cf(L:LB d_ wy rows):∃N,LN d_ wy rows N/\∀{n:Nat}{M:MH}{Q:VK3}{E:XN},Fm M->(∀M' nn,NY c_ M M' nn N->Q (.ref nn) M')->ac T (B cls c_ e_) (n+8) 38 [wO c_ d_ wy,.f_ (rows.map Rw.d)] M Q E:=by
 obtain⟨p,hp⟩:=L.b;obtain⟨bs,eb,hb⟩:=uZ hp
 let N1:=(KS rows).foldl dQ ⟨[],λ_=>[]⟩
 have ks:∀x∈KS rows,x∈N1.ks:=λx hx=>fk_mem.mpr (.inl hx)
 have r0:∀z,N1.row z=[]:=wH λ_=>rfl
 have W1:WN N1:=zy ⟨List.nodup_nil,λ_ h=>by cases h⟩
 have q1:∀q,Pot N1 q:=λq a b w h=>by have:=h.2;rw[r0]at this;cases this
 have bn:∀b∈bs,BN N1 b:=λb h=>⟨ks _ (hb b h).1.1,ks _ (hb b h).1.2.1,(hb b h).1.2.2⟩
 obtain⟨W2,wk⟩:=uH W1 bn;refine⟨bs.foldl pO N1,⟨λx hx=>by rw[zz];exact ks x hx,W2,⟨p,qQ (q1 p) λb h=>(hb b h).2⟩,λq hq=>qQ (q1 q) λb h=>?_,λb h=>?_⟩,λ{n M Q E} hM hQ=>?_⟩
 ·obtain⟨c,e,_,hc⟩:=hq (bD b) (by rw[eb];exact JJ.mpr ⟨b,h,rfl⟩)
  rw[wX e];exact hc
 ·rw[eb]at h;obtain⟨c,hc,e⟩:=JJ.mp h;rw[<-wX e];exact wk c hc
 ·simp only[uz,jP];simp;intro nn hn;simp only[mZ,dZ];simp;intro kd hk;obtain⟨Rt,hk⟩:=cr hk;rw[show i8 (B cls c_ e_) 245117675 (.ref kd) _ (.ref nn) (put (put M nn (.ins 5 (c_ 5) [] [])) kd (.dt [] []))=_ from mL (by rw[ae (Jv Rt),aa])]
  simp;have y0:NY c_ M (put (put (put M nn (.ins 5 (c_ 5) [] [])) kd (.dt [] [])) nn (.ins 5 (c_ 5) [245117675] [.ref kd])) nn ⟨[],λ_=>[]⟩:=⟨kd,λ_=>kd,⟨aa,⟨by rw[ae Rt,aa];rfl,nofun⟩,nofun,((hM.put _ _).put _ _).put _ _,⟨List.nodup_nil,nofun⟩,by decide⟩,hk,nofun,nofun,iw (iw (iw (λ_ _ h=>h) hn) hk) hn⟩
  have hl:=L.l;refine uO (x:=NO) y0 (by decide) λM1 y1=>?_
  obtain⟨_,_,z1⟩:=id y1;rw[jw rows (.inl rfl) (by omega) z1.nt.fm,show (nmF (rows.map Rw.h) λ_=>0).map nD=((nmF (rows.map Rw.h) c00).map nv).map nmD by rw[List.map_map];rfl]
  refine qS ((nmF (rows.map Rw.h) c00).map nv) _ M1 _ y1 (by have:=kQ (N:=⟨[],λ_=>[]⟩) (x:=NO);simp[gQ]at this ⊢;omega) λM2 x3 y2=>?_
  obtain⟨_,_,z2⟩:=id y2;simp;refine uJ L.g z2.nt.fm L.l L.f ?_;rw[eb];exact pD bs N1 M2 _ _ _ y2 (q1 p) (λb h=>⟨(bn b h).1,(bn b h).2.1,(bn b h).2.2,(hb b h).2⟩) λM3 x4 x5 x6 y3=>by simpa using hQ M3 nn y3
end
section
variable {cls c_ e_:Nat->PySem.Addr}{M M0:MH}{Q:VK3}{E:XN}{n:Nat}{x y:Nm}{N:Nt}{p:Nm->Int}{d_:List (Int×Int)}{wy:List Wy}{rows:List Rw}
theorem zq:plN 8 (nmD x)=true:=by
 exact yF
theorem wm{xs:List Nm}(h:x∈xs):aC .NotIn (nmD x) (.f_ (xs.map nmD)) M Q=Q (.bl false) M:=by
 have hp:pls (xs.map nmD)=true:=JE.mpr λd hd=>by
  obtain⟨z,_,rfl⟩:=JJ.mp hd;exact zq
 have ha:((xs.map nmD).any λd=>eqD d (nmD x))=true:=List.any_eq_true.mpr ⟨_,JJ.mpr ⟨x,h,rfl⟩,by simp[nmD,eqD,mS]⟩
 simp only[aC,lj,show az M (.f_ (xs.map nmD))=some (xs.map nmD) from rfl,show res M (nmD x)=nmD x from rfl,hp,show pl (nmD x)=true from zq,ha,true_and];rfl
theorem hX(ex:∀q o,M q=some o->M' q=some o):aw M M'=M:=by
 funext k;unfold aw;cases h:M k with
 |none=>rfl
 |some o=>exact ex k o h
noncomputable def ng(o:Option Int):D:=oi (o.map (- ·))
noncomputable def bt(d:Nm->Nm->Option Int)(x y:Nm):D:=.tup [ng (d y x),oi (d x y)]
theorem Ac(W:WN N)(hp:Pot N p)(hx:x∈N.ks)(y:Nm):∃o,IsD N x y o:=by
 obtain⟨m,s,R,I⟩:=Bb W hp ⟨[(x,0)],[]⟩ [x] (J.start W (by simp) (by simpa using hx))
 exact⟨_,I.isD y⟩
structure BT (d_:List (Int×Int)) (wy:List Wy)(rows:List Rw)(N:Nt)(d:Nm->Nm->Option Int):Prop where
 ln:LN d_ wy rows N
 d:∀x∈KS rows,∀y,IsD N x y (d x y)
abbrev NF(cls c_ e_:Nat->PySem.Addr)(d_:List (Int×Int))(wy:List Wy)(rows:List Rw)(N:Nt):Prop:=∀{n:Nat}{M:MH}{Q:VK3}{E:XN}{x y:Nm},Fm M->x∈KS rows->y∈KS rows->(∀M' nn,NY c_ M M' nn N->Q (.ref nn) M')->ac T (B cls c_ e_) (n+9) 40 [wO c_ d_ wy,.f_ (rows.map Rw.d),.f_ [nmD x,nmD y]] M Q E
theorem Bu(L:LB d_ wy rows):∃N d,BT d_ wy rows N d/\(∀{n:Nat}{M:MH}{Q:VK3}{E:XN}{x y:Nm},Fm M->x∈KS rows->y∈KS rows->Q (bt d x y) M->ac T (B cls c_ e_) (n+10) 41 [wO c_ d_ wy,.f_ (rows.map Rw.d),nmD x,nmD y] M Q E)/\NF cls c_ e_ d_ wy rows N:=by
 obtain⟨N,LN,cn⟩:=Cf L;obtain⟨p,hp⟩:=LN.pt;have h1:∀x y,∃o,x∈KS rows->IsD N x y o:=λx y=>by
  by_cases hx:x∈KS rows
  ·exact (Ac LN.wn hp (LN.ks x hx) y).imp λ_ h _=>h
  ·exact⟨none,λh=>absurd h hx⟩
 obtain⟨d,hd⟩:∃d:Nm->Nm->Option Int,∀x y,x∈KS rows->IsD N x y (d x y):=⟨λx y=>(h1 x y).choose,λx y=>(h1 x y).choose_spec⟩
 have hl:=L.l;have cf:NF cls c_ e_ d_ wy rows N:=λ{n M Q E x y} hM hx hy hQ=>by
  have e:D.tup [.int (-1),.int 0]::(nmF (rows.map Rw.h) c00).map nD=(KS rows).map nmD:=by unfold KS;rw[Jm,List.map_map];rfl
  have z:(KS rows).length<=PySem.sizeLine:=by
   unfold KS;rw[Jw,Jo,gQ,Jo];exact JF (show rows.length+1<=1000 by omega) (by decide)
  simp only[tY,iH];simp[av];rw[jw rows (.inl rfl) (by omega) hM]
  simp[e,z,aA,aQ,hU,wm hx,wm hy];exact cn hM hQ
 refine⟨N,d,⟨LN,λx hx y=>hd x y hx⟩,λ{n M Q E x y} hM hx hy hQ=>?_,cf⟩
 simp only[tE,iY];simp[av];refine cf hM hx hy λM1 nn y1=>?_
 obtain⟨kd,rp,y1⟩:=y1;have cm:∀{x y:Nm}{Q:VK3}{E:XN},x∈KS rows->y∈KS rows->Q (oi (d x y)) M1->ac T (B cls c_ e_) (n+9) 35 [.ref nn,nmD x,nmD y] M1 Q E:=λ{x y Q E} hx hy h=>uw y1.nt hp (LN.ks x hx) (LN.ks y hy) λo ho=>by rw[ho.uniq (hd x y hx)];exact h
 simp[y1.nt.mth eE];refine cm hy hx ?_;unfold bt ng at hQ;cases e:d y x with
 |none=>rw[e]at hQ;simp[D.isN,y1.nt.mth eE];exact cm hx hy (by simpa [oi,hX y1.ex] using hQ)
 |some v=>rw[e]at hQ;simp[D.isN,y1.nt.mth eE];exact cm hx hy (by simpa [oi,hX y1.ex] using hQ)
end
section
variable {r:PySem.Addr}{N:Nt}{p:Nm->Int}
theorem rV:wpS W (.L3 tg o body) De ES Z M=wpE W o Z M (λx M1=>eW x M1 λd ks es=>∀φ,aV W tg body (λ_ _ _=>False) (λM=>M d=some (.t_ φ)) (iO d φ ks es De) (ks.map bS) Z (put M1 d (.t_ φ))) (ES Z):=rfl
noncomputable def zr(l:List Nm):List (Nm×Int):=l.map λx=>(x,0)
theorem mR:K1 (zr l)=l:=by unfold zr;simp[Function.comp_def]
theorem mh(MX:kd≠a)(hd:M0 kd=some (.t_ φ)){De:Ends3}:∀(post pre:List Nm)(x2:Option D),(pre++post).Nodup->(pre++post).length<300->
  (∀x2,De.nx [y0,some (.ref a),x2] (put M0 a (dS (zr (pre++post))))=R)->
  aV W (.name 2) cK ES (λM=>M kd=some (.t_ φ)) De (post.map nmD) [y0,some (.ref a),x2] (put M0 a (dS (zr pre)))=R
 |[],pre,x2,_,_,hR=>by
  have hS:put M0 a (dS (zr pre)) kd=some (.t_ φ):=by rw[ae MX];exact hd
  have:=hR x2;rw[JZ]at this;rw[List.map_nil,aQ];simp[hS,this]
 |z::post,pre,x2,hn,hl,hR=>by
  have hS:put M0 a (dS (zr pre)) kd=some (.t_ φ):=by rw[ae MX];exact hd
  have hz:z∉K1 (zr pre):=λh=>by
   rw[mR]at h;rw[List.nodup_append]at hn;exact hn.2.2 z h z Jk rfl
  have ga:put M0 a (dS (zr pre)) a=some (.dt (K1 (zr pre)) ((zr pre).map λp=>.int p.2)):=aa
  have e1:(pre++[z])++post=pre++z::post:=by simp
  have Qx:(zr pre).length<900:=by unfold zr;rw[Jo];rw[JK]at hl;omega
  have s1:∀{R:MH->Prop},aE (.ref a) (nmD z) (.int 0) (put M0 a (dS (zr pre))) R=R (put M0 a (dS (zr (pre++[z])))):=λ{R}=>by
   rw[i4 ga Qx,aL,jt hz];unfold zr dS;simp
  rw[Jm,aA,<-mh (W:=W) (ES:=ES) (R:=R) MX hd post (pre++[z]) (some (nmD z)) (by rw[e1];exact hn) (by rw[e1];exact hl) (by rw[e1];exact hR)]
  simp[cK,hS,↓s1]
theorem sB{l:List Nm}:l.map bS=l.map nmD:=rfl
theorem jC:K1 (lR N rp)=N.ks:=by unfold lR;simp[Function.comp_def]
theorem yy(h:NT c_ M nn kd rp N)(hp:Pot N p)(hQ:∀s,J N N.ks (λ_=>False) s->Q (.H_ (K1 s.S) (s.S.map λp=>.int p.2)) M):ac T (B cls c_ e_) (n+3) 34 [.ref nn] M Q E:=by
 rw[pL];simp[eJ,rV];intro a ha;have e1:=h.eg.ne ha;have n1:nn≠a:=λe=>by have:=h.nn;rw[e,ha]at this;cases this
 have h1:NT c_ (put M a (.dt [] [])) nn kd rp N:=⟨by rw[ae n1];exact h.nn,h.eg.new ha,h.inj,h.fm.put _ _,h.wn,h.sz⟩
 have OW:put M a (.dt [] []) kd=some (.dt (K1 (lR N rp)) ((lR N rp).map λe=>.ref e.2)):=h1.eg.kd
 simp[h1.fld];unfold eW;simp only[OW];intro φ;have sw:put (put M a (.dt [] [])) kd (.t_ φ)=put (put M kd (.t_ φ)) a (dS (zr [])):=by
  funext q;unfold put;by_cases q1:q=kd
  ·simp[q1,e1.1]
  ·simp[q1];rfl
 rw[sw,jC,sB];have bk:put (put (put M kd (.t_ φ)) a (dS (zr N.ks))) kd (.dt N.ks ((lR N rp).map λe=>.ref e.2))=put M a (dS (zr N.ks)):=by
  have hk:M kd=some (.dt N.ks ((lR N rp).map λe=>.ref e.2)):=by rw[h.eg.kd];unfold dK;rw[jC]
  funext q;unfold put;by_cases q1:q=kd
  ·simp[q1,e1.1,hk]
  ·simp[q1]
 have hsz:=h.sz;rw[mh (R:=True) e1.1 aa N.ks [] none (by simpa using h.wn.nd) (by simp;omega)]
 ·trivial
 intro x2;refine eq_true ?_;change put (put M kd (.t_ φ)) a (dS (zr N.ks)) kd=some (.t_ φ)/\aW _ _ _ _ _ (put (put (put M kd (.t_ φ)) a (dS (zr N.ks))) kd (.dt N.ks ((lR N rp).map λe=>.ref e.2)))
 refine⟨by rw[ae e1.1,aa],?_⟩
 rw[bk];have h2:NT c_ (put M a (dS (zr N.ks))) nn kd rp N:=⟨by rw[ae n1];exact h.nn,h.eg.new ha,h.inj,h.fm.put _ _,h.wn,h.sz⟩
 simp[h2.fld];intro b hb;have G_:a≠b:=λe=>by rw[<-e,aa]at hb;cases hb
 have OV:M b=none:=by rwa [ae (Jv G_)]at hb
 have e2:=h.eg.ne OV;have I0:=J.start h.wn h.wn.nd (λ_ hx=>hx)
 obtain⟨m,s,R,I⟩:=Bb h.wn hp _ _ I0;refine ot (s0:=⟨zr N.ks,[]⟩) ((h.fm.put _ _).put _ _) h.wn hp h.sz G_ (by rw[ae G_,aa]) aa e1.1 e2.1 e1.2 e2.2 ((h.eg.new ha).new hb) (by rw[mR];exact I0) (by rw[mR];exact R) ?_
 rw[o6 G_];have ga:HB M a b s a=some (dS s.S):=by unfold HB;rw[ae G_,aa]
 have kp:aw M (L2.del (HB M a b s) a)=M:=by rw[vy ha,qZ ha OV]
 simp[bb,ga];rw[kp];exact hQ s I
end
section
variable {r:PySem.Addr}{N:Nt}
theorem uD:∀(l:List (Nm×PySem.Addr)),ar (K1 l) (l.map λe=>.ref e.2)=l.map λe=>.tup [nmD e.1,.ref e.2]
 |[]=>rfl
 |e::l=>by
  have ih:=uD l;unfold ar at ih ⊢;simp only[Jm,List.zip_cons_cons]at ih ⊢;rw[ih];rfl
noncomputable abbrev di(S:List (Nm×Int)):D:=.H_ (K1 S) (S.map λp=>.int p.2)
theorem pj(hv:lk S x=some v):ao (di S) (nmD x) M Q=Q (.int v) M:=by
 have e:=fw D.int (k:=x) (l:=S);rw[hv]at e;simp only[ao,az,ak,dM,cU,c9,ce,e,Option.map]
noncomputable def ups(S row:List (Nm×Int))(f:Int):List Int:=(row.filter λe=>(lk S e.1).isSome).map λe=>(lk S e.1).getD 0-e.2-f
theorem vK{row:List (Nm×Int)}(hM:Fm M)(hr:M r=some (dR row))(ha:M a=some (dS S))(Lk:r≠a)(hF:lk F x=some f)(hz:row.length<900)(hQ:∀p,M p=none->Q (.ref p) (put M p (.lst ((ups S row f).map D.int)))) :
  qD W (.tup [0,1]) (.yes (.cmp .In V0 V2)) (.bin .Sub (.bin .Sub (.ix V2 V0) V1) (.ix V3 V4)) [none,none,some (.ref a),some (di F),some (nmD x)] Q (.ref r) M:=by
 unfold qD eW;simp only[hr];intro φ p hp;have Ru:p≠r:=λe=>by rw[e,hr]at hp;cases hp
 rw[j6];have h1:put M r (.t_ φ) p=none:=by rw[ae Ru];exact hp
 have ga:∀{M'},Ext (put M r (.t_ φ)) M'->M' a=some (.dt (K1 S) (S.map λp=>.int p.2)):=λ{M'} hE=>hE.2 _ _ (by rw[ae (Jv Lk)];exact ha)
 refine (iff_of_eq (iP eD (λZ=>∃x0 x1,Z=[x0,x1,some (.ref a),some (di F),some (nmD x)]) (λe=>[some (nmD e.1),some (.int e.2),some (.ref a),some (di F),some (nmD x)]) (λe=>(lk S e.1).isSome) (λe=>.int ((lk S e.1).getD 0-e.2-f)) row [] _ ⟨none,none,rfl⟩ (hM.put _ _) h1 (by rw[PySem.sizeLine_eq];simp;omega) (λM' hE=>hE.2 _ _ aa) (λe he=>⟨⟨_,_,rfl⟩,?_⟩) (λe he M' hE Q'=>?_) (λe he hc M' hE Q'=>?_))).mpr ?_
 ·rintro Z ⟨x0,x1,rfl⟩ M k;simp[eD]
 ·have i2:∀{Q:VK3},aC .In (nmD e.1) (.ref a) M' Q=Q (.bl (lk S e.1).isSome) M':=λ{Q}=>uG (ga hE)
  simp[↓i2]
 ·obtain⟨v,hv⟩:=JM.mp hc;have i1:∀{Q:VK3},ao (.ref a) (nmD e.1) M' Q=Q (.int v) M':=λ{Q}=>je (ga hE) hv
  simp[↓i1,↓pj hF,hv]
 ·rw[List.nil_append,show (row.filter λe=>(lk S e.1).isSome).map (λe=>D.int ((lk S e.1).getD 0-e.2-f))=(ups S row f).map D.int by unfold ups;rw[List.map_map];rfl]
  have e:put (put (put M r (.t_ φ)) p (.lst ((ups S row f).map D.int))) r (.dt (K1 row) (row.map λe=>.int e.2))=put M p (.lst ((ups S row f).map D.int)):=by
   funext q;unfold put;by_cases q1:q=r
   ·simp[q1,Jv Ru,hr]
   ·simp[q1]
  rw[e];exact hQ p hp
structure LI (M:MH)(kd f:PySem.Addr)(φ:PySem.Heap->Prop)(ls:List Int)(M':MH):Prop where
 fl:M' f=some (.lst (ls.map D.int))
 st:M' kd=some (.t_ φ)
 kp:∀q u,M q=some u->q≠kd->M' q=some u
 fm:Fm M'
theorem gA{W:WC}{φ:PySem.Heap->Prop}{S F:List (Nm×Int)}(hk:N.ks.length<200)(hW:WN N)(hE:Eg M kd rp N)(OX:∀x∈N.ks,kd≠rp x)(ha:M a=some (dS S))(MZ:kd≠a)(Lk:∀x∈N.ks,rp x≠a)(hf:M f=none)(hF:∀x∈N.ks,∃v,lk F x=some v){De:Ends3}{ES:St3->XN}:∀(post:List Nm)(ls:List Int)(M':MH)(x4 x5:Option D),(∀x∈post,x∈N.ks)->ls.length+200*post.length<=40000->LI M kd f φ ls M'->
  (∀Mh M' x4 x5,LI M kd f φ Mh M'->Mh.length<=40000->(∀l∈ls,l∈Mh)->(∀x∈post,lk S x=none->∀v,lk F x=some v->∀e∈N.row x,∀u,lk S e.1=some u->u-e.2-v∈Mh)->De.nx [some (.ref kd),some (.ref a),some (di F),some (.ref f),x4,x5] M')->
  aV W (.tup [4,5]) ba ES (λM=>M kd=some (.t_ φ)) De (post.map λz=>.tup [nmD z,.ref (rp z)]) [some (.ref kd),some (.ref a),some (di F),some (.ref f),x4,x5] M'
 |[],ls,M',x4,x5,_,hl,I,hR=>by
  exact⟨I.st,hR ls M' x4 x5 I (by omega) (λ_ h=>h) (λ_ h=>by cases h)⟩
 |z::post,ls,M',x4,x5,hs,hl,I,hR=>by
  have hz:=hs z Jk;have ga:M' a=some (.dt (K1 S) (S.map λp=>.int p.2)):=I.kp _ _ ha (Jv MZ)
  have gr:M' (rp z)=some (dR (N.row z)):=I.kp _ _ (hE.row z hz) (Jv (OX z hz));rw[Jw]at hl;refine⟨I.st,?_⟩;have i2:∀{Q:VK3},aC .NotIn (nmD z) (.ref a) M' Q=Q (.bl (!(lk S z).isSome)) M':=λ{Q}=>iL ga
  cases hS:lk S z with
  |some v=>
   have ih:=λx4 x5=>gA (W:=W) (ES:=ES) hk hW hE OX ha MZ Lk hf hF post ls M' x4 x5 (λx h=>hs x (Jg _ h)) (by omega) I (λMh M' x4 x5 I' NH h1 h2=>hR Mh M' x4 x5 I' NH h1 (λx hx hn=>by
    rcases Jl.mp hx with rfl|hx
    ·rw[hS]at hn;cases hn
    ·exact h2 x hx hn))
   simp[ba,↓i2,hS];exact ih _ _
  |none=>
   obtain⟨v,hv⟩:=hF z hz;simp[ba,↓i2,hS];have tl:tyB .extend (.ref f) M'=true:=by simp[isLstM,I.fl]
   refine⟨tl,?_⟩;have TX:=hW.sz hz;refine vK I.fm gr ga (Lk z hz) hv (by omega) λp hp=>?_
   have SM:f≠p:=λe=>by rw[<-e,I.fl]at hp;cases hp
   have SN:kd≠p:=λe=>by rw[<-e,I.st]at hp;cases hp
   have gf:put M' p (.lst ((ups S (N.row z) v).map D.int)) f=some (.lst (ls.map D.int)):=by rw[ae SM];exact I.fl
   have hu:(ups S (N.row z) v).length<=200:=by
    unfold ups;rw[Jo];have:=List.length_filter_le (λe=>(lk S e.1).isSome) (N.row z)
    omega
   simp only[rBm,gf,ak,aa];refine⟨by rw[PySem.sizeLine_eq];simp;omega,?_⟩
   have SO:kd≠f:=λe=>by have:=hE.kd;rw[e,hf]at this;cases this
   rw[<-List.map_append];refine gA hk hW hE OX ha MZ Lk hf hF post (ls++ups S (N.row z) v) _ _ _ (λx h=>hs x (Jg _ h)) (by rw[JK];omega) ⟨aa,by rw[ae SO,ae SN];exact I.st,λq u hq Pp=>?_,(I.fm.put _ _).put _ _⟩ (λMh M' x4 x5 I' NH h1 h2=>hR Mh M' x4 x5 I' NH (λl h=>h1 l (JR _ h)) (λx hx hn w hw e he u Qy=>by
    rcases Jl.mp hx with rfl|hx
    ·rw[hv]at hw;cases hw;refine h1 _ (JD _ (JJ.mpr ⟨e,List.mem_filter.mpr ⟨he,by rw[Qy];rfl⟩,by rw[Qy];rfl⟩))
    ·exact h2 x hx hn w hw e he u Qy))
   rw[ae (λe=>by rw[e,hf]at hq;cases hq),ae (λe=>by
    have:=I.kp q u hq Pp;rw[e,hp]at this;cases this)]
   exact I.kp q u hq Pp
theorem yX(hM:Fm M)(hk:N.ks.length<200)(hW:WN N)(hE:Eg M kd rp N)(OX:∀x∈N.ks,kd≠rp x)(ha:M a=some (dS S))(MZ:kd≠a)(Lk:∀x∈N.ks,rp x≠a)(hF:∀x∈N.ks,∃v,lk F x=some v)
  (hQ:∀(ls:List Int) f M',ls.length<=40000->M f=none->M' f=some (.lst (ls.map D.int))->(∀q u,M q=some u->M' q=some u)->Fm M'->(∀x∈N.ks,lk S x=none->∀v,lk F x=some v->∀e∈N.row x,∀u,lk S e.1=some u->u-e.2-v∈ls)->Q (.ref f) M'):ac T (B cls c_ e_) (n+1) 25 [.ref kd,.ref a,di F] M Q E:=by
 rw[kG];simp[cO,qW];intro f hf;have Qz:kd≠f:=(hE.ne hf).1;have OW:put M f (.lst []) kd=some (.dt (K1 (lR N rp)) ((lR N rp).map λe=>.ref e.2)):=by rw[ae Qz];exact hE.kd
 unfold eW;simp only[OW];intro φ;rw[uD];have el:(lR N rp).map (λe=>D.tup [nmD e.1,.ref e.2])=N.ks.map λz=>.tup [nmD z,.ref (rp z)]:=by unfold lR;rw[List.map_map];rfl
 rw[el];refine gA hk hW hE OX ha MZ Lk hf hF N.ks [] _ none none (λ_ h=>h) (by simp;omega) ⟨by rw[ae (Jv Qz),aa];rfl,aa,λq u hq Pp=>?_,(hM.put _ _).put _ _⟩ λls M' x4 x5 I hl _ h2=>?_
 ·rw[ae Pp,ae (λe=>by rw[e,hf]at hq;cases hq)];exact hq
 ·change M' kd=some (.t_ φ)/\aW _ _ _ _ _ (put M' kd (.dt (K1 (lR N rp)) ((lR N rp).map λe=>.ref e.2)))
  refine⟨I.st,?_⟩;refine hQ ls f _ hl hf (by rw[ae (Jv Qz)];exact I.fl) (λq u hq=>?_) (I.fm.put _ _) h2
  by_cases e:q=kd
  ·subst e;rw[aa];rw[<-hq];exact hE.kd.symm
  ·rw[ae e];exact I.kp q u hq e
end
section
variable {cls c_ e_:Nat->PySem.Addr}{M M0 M':MH}{Q:VK3}{E:XN}{n:Nat}{a b c d f r kd nn:PySem.Addr}{x y x0:Nm}{N:Nt}{p:Nm->Int}{rp:Nm->PySem.Addr}
def Kp(M M':MH):Prop:=∀q u,M q=some u->M' q=some u
theorem NT.kp(h:NT c_ M nn kd rp N)(k:Kp M M')(hM:Fm M'):NT c_ M' nn kd rp N:=⟨k _ _ h.nn,h.eg.mono k,h.inj,hM,h.wn,h.sz⟩
theorem Kp.put(k:Kp M M')(h:M a=none):Kp M (put M' a o):=λq u hq=>by
 rw[ae (λe=>by rw[e,h]at hq;cases hq)];exact k q u hq
theorem Kp.rfl:Kp M M:=λ_ _ h=>h
theorem Kp.trans(h:Kp M M0)(g:Kp M0 M'):Kp M M':=λq u hq=>g q u (h q u hq)
theorem Kp.none(k:Kp M M')(h:M' a=none):M a=none:=by
 cases e:M a with
 |none=>rfl
 |some u=>rw[k a u e]at h;cases h
noncomputable def mz:List Int->Int
 |[]=>0
 |n::ns=>ns.foldl (mmI true) n
theorem rO:∀(l:List Int)(n:Int),n<=l.foldl (mmI true) n/\∀i∈l,i<=l.foldl (mmI true) n
 |[],n=>⟨Int.le_refl _,λ_ h=>by cases h⟩
 |j::l,n=>by
  obtain⟨h1,h2⟩:=rO l (mmI true n j);have h3:n<=mmI true n j/\j<=mmI true n j:=by unfold mmI;simp only[if_true];split<;>omega
  rw[List.foldl_cons];refine⟨by omega,λi hi=>?_⟩
  rcases Jl.mp hi with rfl|hi
  ·omega
  ·exact h2 i hi
theorem zG(h:i∈l):i<=mz l:=by
 cases l with
 |nil=>cases h
 |cons n l=>
  obtain⟨h1,h2⟩:=rO l n;rcases Jl.mp h with rfl|h
  ·exact h1
  ·exact h2 i h
theorem lT:∀{l:List Int},ml (l.map D.int)=some l
 |[]=>rfl
 |i::l=>by rw[Jm,ml,lT]
theorem zX{l:List Int}(h:M a=some (.lst (l.map D.int))):pG true (.ref a) M Q=Q (.int (mz l)) M:=by
 simp only[pG,ak,h,lT];cases l<;>rfl
noncomputable def gt(S F:List (Nm×Int))(L:Int)(z:Nm):Int:=match lk S z with
 |some v=>v
 |none=>(lk F z).getD 0+L
noncomputable def tlF(g:Nm->Int)(l:List Nm):List (Nm×Int):=l.map λz=>(z,g z)
theorem uB:K1 (tlF g l)=l:=by unfold tlF;simp[Function.comp_def]
theorem mE{W:WC}{φ:PySem.Heap->Prop}{S F:List (Nm×Int)}{L:Int}(QA:kd≠c)(Rv:a≠c)(hd:M0 kd=some (.t_ φ))(ha:M0 a=some (dS S)){De:Ends3}{ES:St3->XN}{R:Prop}{y0 y1 y2 y3 y6:Option D}:∀(post pre:List Nm)(x9:Option D),(pre++post).Nodup->(pre++post).length<300->(∀z∈post,∃v,lk F z=some v)->
  (∀x9,De.nx [y0,y1,y2,y3,some (.ref a),some (di F),y6,some (.int L),some (.ref c),x9] (put M0 c (dS (tlF (gt S F L) (pre++post))))=R)->
  aV W (.name 9) aX ES (λM=>M kd=some (.t_ φ)) De (post.map nmD) [y0,y1,y2,y3,some (.ref a),some (di F),y6,some (.int L),some (.ref c),x9] (put M0 c (dS (tlF (gt S F L) pre)))=R
 |[],pre,x9,_,_,_,hR=>by
  have hS:put M0 c (dS (tlF (gt S F L) pre)) kd=some (.t_ φ):=by rw[ae QA];exact hd
  have:=hR x9;rw[JZ]at this;rw[List.map_nil,aQ];simp[hS,this]
 |z::post,pre,x9,hn,hl,hs,hR=>by
  have hS:put M0 c (dS (tlF (gt S F L) pre)) kd=some (.t_ φ):=by rw[ae QA];exact hd
  have hz:z∉K1 (tlF (gt S F L) pre):=λh=>by
   rw[uB]at h;rw[List.nodup_append]at hn;exact hn.2.2 z h z Jk rfl
  obtain⟨fv,Rx⟩:=hs z Jk;have gc:put M0 c (dS (tlF (gt S F L) pre)) c=some (.dt (K1 (tlF (gt S F L) pre)) ((tlF (gt S F L) pre).map λp=>.int p.2)):=aa
  have ga:put M0 c (dS (tlF (gt S F L) pre)) a=some (.dt (K1 S) (S.map λp=>.int p.2)):=by rw[ae Rv];exact ha
  have e1:(pre++[z])++post=pre++z::post:=by simp
  have Qx:(tlF (gt S F L) pre).length<900:=by unfold tlF;rw[Jo];rw[JK]at hl;omega
  have s1:∀{v:Int}{R:MH->Prop},gt S F L z=v->aE (.ref c) (nmD z) (.int v) (put M0 c (dS (tlF (gt S F L) pre))) R=R (put M0 c (dS (tlF (gt S F L) (pre++[z])))):=λ{v R} hv=>by
   rw[i4 gc Qx,aL,jt hz];unfold tlF dS;simp[hv]
  have i2:∀{Q:VK3},aC .In (nmD z) (.ref a) (put M0 c (dS (tlF (gt S F L) pre))) Q=Q (.bl (lk S z).isSome) (put M0 c (dS (tlF (gt S F L) pre))):=λ{Q}=>uG ga
  rw[Jm,aA,<-mE (W:=W) (ES:=ES) (R:=R) QA Rv hd ha post (pre++[z]) (some (nmD z)) (by rw[e1];exact hn) (by rw[e1];exact hl) (λw hw=>hs w (Jg _ hw)) (by rw[e1];exact hR)]
  cases hv:lk S z with
  |some v=>
   have i1:∀{Q:VK3},ao (.ref a) (nmD z) (put M0 c (dS (tlF (gt S F L) pre))) Q=Q (.int v) (put M0 c (dS (tlF (gt S F L) pre))):=λ{Q}=>je ga hv
   have g1:gt S F L z=v:=by unfold gt;rw[hv]
   simp[aX,hS,↓i1,↓i2,hv,↓s1 g1]
  |none=>
   have g1:gt S F L z=fv+L:=by unfold gt;rw[hv,Rx];rfl
   simp[aX,hS,↓i2,hv,↓pj Rx,↓s1 g1]
noncomputable def Bm:ISs:=.cons (.set 7 (.N0 true V6)) (.cons (.set 8 (.KJ true)) (.cons (.L3 (.name 9) (.fld V0 245117675) aX) (.cons (.ret (.u_ V8)) .nil)))
theorem Em:eB=.cons (.expr (.call 21 (Ar2 (.fld V0 245117675) V2))) (.cons (.set 4 (.call 24 (Ar2 (.fld V0 245117675) V1))) (.cons (.set 5 (.E_ V0 31083689204 .nil)) (.cons (.set 6 (.call 25 (Ar3 (.fld V0 245117675) V4 V5))) (.cons (.ifs (.cmp .NotIn V2 V4) (S1 (.app V6 (.bin .Sub V3 (.ix V5 V2)))) .nil) Bm)))):=rfl
theorem wW{ls:List Int}{De:Ends3}(h:NT c_ M nn kd rp N)(ga:M a=some (dS S))(gf:M f=some (.lst (ls.map D.int)))(MZ:kd≠a)(hF:∀z∈N.ks,∃v,lk F z=some v)
  (hR:De.rt (di (tlF (gt S F (mz ls)) N.ks)) M):aW {toWB:=B cls c_ e_,call:=C} Bm De ES [some (.ref nn),y1,y2,y3,some (.ref a),some (di F),some (.ref f),none,none,none] M:=by
 simp[Bm,zX gf,rV];intro c hc;have e4:=h.eg.ne hc;have NS:a≠c:=λe=>by rw[e,hc]at ga;cases ga
 have hC:NT c_ (put M c (.dt [] [])) nn kd rp N:=h.kp (Kp.rfl.put hc) (h.fm.put _ _);have OW:put M c (.dt [] []) kd=some (.dt (K1 (lR N rp)) ((lR N rp).map λe=>.ref e.2)):=hC.eg.kd
 simp[hC.fld];unfold eW;simp only[OW];intro φ;generalize hg:gt S F (mz ls)=g at hR;have sw:put (put M c (.dt [] [])) kd (.t_ φ)=put (put M kd (.t_ φ)) c (dS (tlF g [])):=by
  funext q;unfold put;by_cases q1:q=kd
  ·simp[q1,e4.1]
  ·simp[q1];rfl
 rw[sw,jC,sB];have bk:put (put (put M kd (.t_ φ)) c (dS (tlF g N.ks))) kd (.dt N.ks ((lR N rp).map λe=>.ref e.2))=put M c (dS (tlF g N.ks)):=by
  have hk:M kd=some (.dt N.ks ((lR N rp).map λe=>.ref e.2)):=by rw[h.eg.kd];unfold dK;rw[jC]
  funext q;unfold put;by_cases q1:q=kd
  ·simp[q1,e4.1,hk]
  ·simp[q1]
 have hsz:=h.sz;subst hg;rw[mE (R:=True) e4.1 NS aa (by rw[ae (Jv MZ)];exact ga) N.ks [] none (by simpa using h.wn.nd) (by simp;omega) hF]
 ·trivial
 intro x9;refine eq_true ?_;change put (put M kd (.t_ φ)) c (dS (tlF (gt S F (mz ls)) N.ks)) kd=some (.t_ φ)/\aW _ _ _ _ _ (put (put (put M kd (.t_ φ)) c (dS (tlF (gt S F (mz ls)) N.ks))) kd (.dt N.ks ((lR N rp).map λe=>.ref e.2)))
 refine⟨by rw[ae e4.1,aa],?_⟩
 rw[bk];simp[bb,ft hc];rw[aa];exact hR
theorem BC(h1:∀a b w,Ed N a b w->∀u,lk S a=some u->∃v,lk S b=some v/\v<=u+w)(h2:∀a b w,Ed N a b w->∃u v,lk F a=some u/\lk F b=some v/\v<=u+w)
  (h3:∀x∈N.ks,lk S x=none->∀v,lk F x=some v->∀e∈N.row x,∀u,lk S e.1=some u->u-e.2-v∈ls):Pot N (gt S F (mz ls)):=λa b w he=>by
 unfold gt;cases ha:lk S a with
 |some u=>
  obtain⟨v,hv,hl⟩:=h1 a b w he u ha;simp only[hv];omega
 |none=>
  obtain⟨u,v,hu,hv,hl⟩:=h2 a b w he;cases hb:lk S b with
  |some t=>
   have:=zG (h3 a he.1 ha u hu (b,w) he.2 t hb);simp only[hu,Option.getD_some];omega
  |none=>
   simp only[hu,hv,Option.getD_some];omega
structure LT (N:Nt)(x y:Nm)(Mx:Int)(g:Nm->Int):Prop where
 pot:Pot N g
 x0:g x=0
 yd:∀d,IsD N x y (some d)->g y=d
 yn:IsD N x y none->Mx<=g y
theorem uA(h:NT c_ M nn kd rp N)(hp:Pot N p)(hx:x∈N.ks)(hy:y∈N.ks)(hQ:∀g,LT N x y Mx g->Q (di (tlF g N.ks)) M):ac T (B cls c_ e_) (n+4) 37 [.ref nn,nmD x,nmD y,.int Mx] M Q E:=by
 rw[nO,Em];simp[h.fld,vz h.eg hy];refine sJ h.fm h.wn hp h.sz h.eg hx λa b s ha hb G_ I=>?_
 have e1:=h.eg.ne ha;have ga:HB M a b s a=some (dS s.S):=by unfold HB;rw[ae G_,aa]
 have k0:Kp M (HB M a b s):=(Kp.rfl.put ha).put hb;have hB:NT c_ (HB M a b s) nn kd rp N:=h.kp k0 ((h.fm.put _ _).put _ _);simp[hB.mth nX];refine yy hB hp λs2 I2=>?_
 simp[hB.fld];have hF:∀z∈N.ks,∃v,lk s2.S z=some v:=λz hz=>by obtain⟨u,hu,_⟩:=I2.s0 z hz;exact⟨u,hu⟩
 refine yX hB.fm hB.sz hB.wn hB.eg (λz hz=>hB.kr hz) ga e1.1 e1.2 hF λls f M1 hl hf gf k1 OY Qv=>?_
 have h1:NT c_ M1 nn kd rp N:=hB.kp k1 OY;have QC:M1 a=some (.dt (K1 s.S) (s.S.map λp=>.int p.2)):=k1 _ _ ga
 have N9:M f=none:=k0.none hf;have P1:∀a b w,Ed N a b w->∀u,lk s.S a=some u->∃v,lk s.S b=some v/\v<=u+w:=λa b w he u hu=>I.rel a u hu (λz=>z) b w he.2
 have P2:∀a b w,Ed N a b w->∃u v,lk s2.S a=some u/\lk s2.S b=some v/\v<=u+w:=λa b w he=>by
  obtain⟨u,hu⟩:=hF a he.1;obtain⟨v,hv,hl⟩:=I2.rel a u hu (λz=>z) b w he.2
  exact⟨u,v,hu,hv,hl⟩
 have x0:lk s.S x=some 0:=by
  have e:=I.isD x;obtain⟨u,hu,TY⟩:=I.s0 x (by simp)
  rw[hu]at e ⊢;have:=e.1.pot hp;congr 1;omega
 have fin:∀Mh:List Int,(∀i∈ls,i∈Mh)->(lk s.S y=none->Mx-(lk s2.S y).getD 0∈Mh)->LT N x y Mx (gt s.S s2.S (mz Mh)):=λMh q1 q2=>by
  refine⟨BC P1 P2 (λx hx hn v hv e he u hu=>q1 _ (Qv x hx hn v hv e he u hu)),by unfold gt;rw[x0],λd hd=>?_,λhd=>?_⟩
  ·have:=(I.isD y).uniq hd;unfold gt;rw[this]
  ·have e:=(I.isD y).uniq hd;have:=zG (q2 e);unfold gt;rw[e];simp only;omega
 rw[iL QC];obtain⟨fy,Ry⟩:=hF y hy;cases hs:lk s.S y with
 |some v=>
  refine wW h1 QC gf e1.1 hF ?_;show Q _ (aw M M1);rw[hX (k0.trans k1)];exact hQ _ (fin ls (λ_ h=>h) (λz=>by rw[hs]at z;cases z))
 |none=>
  simp[↓pj Ry,so gf,pk gf];have Mg:a≠f:=λe=>by rw[<-e,ga]at hf;cases hf
  refine⟨by rw[PySem.sizeLine_eq];omega,?_⟩
  have h2:NT c_ (put M1 f (.lst (ls.map D.int++[.int (Mx-fy)]))) nn kd rp N:=h.kp ((k0.trans k1).put N9) (OY.put _ _);refine wW (ls:=ls++[Mx-fy]) h2 (by rw[ae Mg];exact QC) (by rw[aa];simp) e1.1 hF ?_
  show Q _ (aw M (put M1 f _));rw[hX ((k0.trans k1).put N9)];exact hQ _ (fin (ls++[Mx-fy]) (λ_ h=>JR _ h) (λ_=>by rw[Ry];simp))
end
section
variable {d_:List (Int×Int)}{wy:List Wy}{r:Rw}
theorem z7(hn:(wy.map pr).Nodup)(hr:r.may wy):ac T (B cls c_ e_) (n+1) 64 [.tup [.f_ (d_.map cD),.H_ (wy.map pr) (wy.map wv)],r.d,hd] M Q E=Q (.f_ (bJ wy hd r)) M:=by
 simp only[uc,iS];cases r with
 |look a b=>simp +decide [Rw.d,bJ]
 |Kz a b c d=>simp +decide [Rw.d,av,bJ]
 |send a b c=>simp +decide [Rw.d,bJ]
 |take a b c d=>
  obtain⟨w1,w2,w3⟩:=vn (show [c,a]∈wy.map pr from hr);have ix:=λ{M:MH}{Q:VK3}=>pY (M:=M) (Q:=Q) hn w1
  rw[w2,w3]at ix;simp only[bJ];simp only[wv,way]at ix;cases e:(wOf wy c a).m with
  |none=>rw[e]at ix;simp +decide [Rw.d,↓ix,jp,oi,D.isN,av]
  |some m=>rw[e]at ix;simp +decide [Rw.d,↓ix,jp,oi,D.isN,av]
structure DV (M0 M:MH)(f s:PySem.Addr)(acc:List D)(ks:List Key)(ds:List D)(c:Int->Nat)(lr:Int->Int):Prop where
 fm:Fm M
 old:∀a o,M0 a=some o->M a=some o
 f0:M0 f=none
 s0:M0 s=none
 fs:f≠s
 vf:M f=some (.lst acc)
 vs:M s=some (.dk ks ds)
 hl:ks.length=ds.length
 no:∀h,c h=0->getD ks ds (.inl h)=none
 yes:∀h,0<c h->∃(q:PySem.Addr)(l:List Int),getD ks ds (.inl h)=some (.ref q)/\M q=some (.lst (l.map D.int))/\l.length=c h/\l.getLast?=some (lr h)/\q≠f/\q≠s/\M0 q=none
 one:∀h h' q,getD ks ds (.inl h)=some (.ref q)->getD ks ds (.inl h')=some (.ref q)->h=h'
theorem rE{De:Ends3}{ds:List D}(h:M p=some (.lst ds))(hz:ds.length<1000):b8 p De Z y M=De.nx Z (put M p (.lst (ds++[y]))):=by
 have hs:ds.length<PySem.sizeLine:=Ju hz (by decide)
 simp[b8,h,hs]
theorem vI{ds es:List D}(h:M p=some (.lst ds))(hz:ds.length+es.length<1000):rBm .extend (.ref p) [.f_ es] M Q=Q .i_ (put M p (.lst (ds++es))):=by
 have hs:ds.length+es.length<=PySem.sizeLine:=JF (show ds.length+es.length<=1000 by omega) (by decide)
 simp[rBm,h,ak,hs]
theorem yU{l:List Int}(h:l.getLast?=some v):atI (l.map D.int) (-1)=some (.int v):=by
 have Lq:l≠[]:=λz=>by rw[z]at h;cases h
 have hl:0<l.length:=List.length_pos_iff.mpr Lq;have e:l[l.length-1]?=some v:=by rw[<-List.getLast?_eq_getElem?];exact h
 have e2:ixN (l.map D.int).length (-1)=some (l.length-1):=by
  rw[Jo];unfold ixN;rw[Ji (by decide),Jr (by omega)];congr 1;omega
 unfold atI;rw[e2];simp[e]
theorem uP{acc:List D}{ks:List Key}{De:Ends3}(G:GW d_ wy)(V:DV M0 M f s acc ks ds c lr)(hf:r.fine d_.length wy)(lb:∀h,-(10 ^ 62)<=lr h/\lr h<=10 ^ 62)(z1:ks.length<300)(z2:acc.length<900)(z3:c r.h<900)
  (k:∀M' K0 F_ y5 y6 y7 y8 y9,K0.length<=ks.length+1->DV M0 M' f s (acc++gJ d_ wy c lr r) K0 F_ (bump c r.h) (nxt lr r.h r.r)->De.nx [some (.tup [.f_ (d_.map cD),.H_ (wy.map pr) (wy.map wv)]),x1,some (.ref f),some (.ref s),some r.d,y5,y6,y7,y8,y9] M') :
  aW ⟨(B cls c_ e_),ac T (B cls c_ e_) (n+1)⟩ cI De ES [some (.tup [.f_ (d_.map cD),.H_ (wy.map pr) (wy.map wv)]),x1,some (.ref f),some (.ref s),some r.d,y5,y6,y7,y8,y9] M:=by
 have i1:=λ{M:MH}{Q:VK3}=>wF (M:=M) (Q:=Q) (r:=r)
 have i2:=λ{M:MH}{Q:VK3}=>C4 (M:=M) (Q:=Q) (r:=r)
 have ol:=m8 (wy:=wy) (r:=r) (hd:=.tup [.int r.h,.int (c r.h)]);have lo:=λ{M:MH}{Q:VK3}{E:XN}=>z7 (cls:=cls) (c_:=c_) (e_:=e_) (n:=n) (M:=M) (Q:=Q) (E:=E) (d_:=d_) (hd:=.tup [.int r.h,.int (c r.h)]) G.nd hf.w
 have hz:ks.length<PySem.sizeLine:=Ju (show ks.length<1000 by omega) (by decide)
 have kl:=bc (ks:=ks) (k:=(.inl r.h:Key));simp only[cI];simp[↓i1];refine⟨by simp[tyB,cU,V.vs],λp hp=>?_⟩
 have ps:p≠s:=λz=>by rw[z,V.vs]at hp;cases hp
 have pf:p≠f:=λz=>by rw[z,V.vf]at hp;cases hp
 have gs:(put M p (.lst [])) s=some (.dk ks ds):=by rw[ae (Jv ps)];exact V.vs
 have gf:(put M p (.lst [])) f=some (.lst acc):=by rw[ae (Jv pf)];exact V.vf
 have OY:Fm (put M p (.lst [])):=V.fm.put _ _;have QD:M0 p=none:=by
  cases e:M0 p with
  |none=>rfl
  |some o=>rw[V.old p o e]at hp;cases hp
 by_cases c0:0<c r.h
 ·obtain⟨q,l,g1,g2,g3,g4,g5,g6,g7⟩:=V.yes r.h c0;have qp:q≠p:=λz=>by rw[z,hp]at g2;cases g2
  have sd:∀{Q:VK3},rBm .Kw (.ref s) [.int r.h,.ref p] (put M p (.lst [])) Q=Q (.ref q) (put M p (.lst [])):=λ{Q}=>by simp[rBm,gs,m9,g1,hz]
  have F:∀a,(put (put M p (.lst [])) f (.lst a)) q=some (.lst (l.map D.int)):=λa=>by rw[ae g5,ae qp];exact g2
  have F0:(put M p (.lst [])) q=some (.lst (l.map D.int)):=by rw[ae qp];exact g2
  have le:∀{M:MH}{Q:VK3},M q=some (.lst (l.map D.int))->rBi .len [.ref q] M Q=Q (.int (c r.h:Nat)) M:=λ{M Q} h=>by rw[<-g3];simp[rBi,az,ak,h]
  have SQ:=λ{Q:VK3}=>le (Q:=Q) F0
  have SR:=λ{a:List D}{Q:VK3}=>le (Q:=Q) (F a)
  have ex:=λ{Q:VK3}=>vI (Q:=Q) (es:=bJ wy (.tup [.int r.h,.int (c r.h)]) r) gf (by omega)
  have ne:l.isEmpty=false:=by
   cases l with
   |nil=>rw[<-g3]at c0;simp at c0
   |cons _ _=>rfl
  have nn:∀{a:List D}{Q:VK3},aC .NotEq (.ref q) (.f_ []) (put (put M p (.lst [])) f (.lst a)) Q=Q (.bl true) (put (put M p (.lst [])) f (.lst a)):=λ{a Q}=>by
   rw[nM (ds:=l.map D.int) (by simp[ak,F]) (by simp[plN]) (by simp[plN])];simp[ne]
  have hk:=hf.h;simp only[okH,Jf,Js]at hk;have ic:∀{M:MH}{Q:VK3},ao (.f_ (d_.map cD)) (.int r.h) M Q=Q (.tup [.int (k0 d_ r.h.toNat).1,.int (k0 d_ r.h.toNat).2]) M:=λ{M Q}=>by
   have:=pi (M:=M) (Q:=Q) (d_:=d_) (k:=r.h.toNat) (by omega)
   rwa [Int.toNat_of_nonneg hk.1]at this
  have la:∀{a:List D}{Q:VK3},ao (.ref q) (.int (-1)) (put (put M p (.lst [])) f (.lst a)) Q=Q (.int (lr r.h)) (put (put M p (.lst [])) f (.lst a)):=λ{a Q}=>by
   rw[qJ (F a)];exact hV (yU g4)
  have fb:=hf.b;have TZ:=lb r.h;obtain⟨q1,q2,q3⟩:=wI (k:=r.h.toNat) G (by omega)
  have m1:cA (k0 d_ r.h.toNat).2 (r.r-lr r.h)=True:=e8 (by omega) (by omega) (by omega) (by omega)
  have m2:cA (k0 d_ r.h.toNat).1 (lr r.h-r.r)=True:=e8 (by omega) (by omega) (by omega) (by omega)
  have af:=λ{W:WC}{e:IE}{De:Ends3}{E:XN}{Z:St3}{a:List D}=>fX (W:=W) (e:=e) (De:=De) (E:=E) (Z:=Z) (aa (M:=put M p (.lst [])) (a:=f) (o:=.lst a))
  have SS:∀{De:Ends3}{Z:St3}{y:D}{a:List D},b8 f De Z y (put (put M p (.lst [])) f (.lst a))=(a.length<PySem.sizeLine/\De.nx Z (put (put M p (.lst [])) f (.lst (a++[y])))):=λ{De Z y a}=>by simp[aa]
  have aq:=λ{W:WC}{e:IE}{De:Ends3}{E:XN}{Z:St3}{a:List D}=>fX (W:=W) (e:=e) (De:=De) (E:=E) (Z:=Z) (F a)
  have SU:=λ{De:Ends3}{Z:St3}{y:D}{a:List D}=>rE (De:=De) (Z:=Z) (y:=y) (F a) (by rw[Jo];omega)
  have eo:gJ d_ wy c lr r=bJ wy (.tup [.int r.h,.int (c r.h)]) r++[.tup [.tup [.int r.h,.int ((c r.h:Int)-1)],.tup [.int r.h,.int (c r.h)],.int ((k0 d_ r.h.toNat).2*(r.r-lr r.h))],.tup [.tup [.int r.h,.int (c r.h)],.tup [.int r.h,.int ((c r.h:Int)-1)],.int ((k0 d_ r.h.toNat).1*(lr r.h-r.r))]]:=by
   unfold gJ nq;rw[Jr c0];rw[Int.neg_mul,<-Int.mul_neg,Int.neg_sub]
  rw[eo]at k;simp[-List.getD_eq_getElem?_getD,↓sd,↓i2,↓SQ,↓lo,jA gf,↓ex,↓nn,↓SR,↓ic,m1,m2,↓la,↓SS,↓aq,↓SU,av];refine⟨Ju (show _<1000 by omega) (by decide),Ju (show _<1000 by omega) (by decide),k _ ks ds _ _ _ _ _ (by omega) ⟨(OY.put _ _).put _ _,λa o h=>(by
    have ap:a≠p:=λz=>by rw[z,QD]at h;cases h
    have af:a≠f:=λz=>by rw[z,V.f0]at h;cases h
    have aq:a≠q:=λz=>by rw[z,g7]at h;cases h
    rw[ae aq,ae af,ae ap];exact V.old a o h),V.f0,V.s0,V.fs,by rw[ae (Jv g5),aa],by rw[ae (Jv g6),ae (Jv V.fs)];exact gs,V.hl,λh e=>(by
    unfold bump at e;by_cases z:h=r.h
    ·rw[Jr z]at e;cases e
    ·rw[Ji z]at e;exact V.no h e),λh e=>(by
    unfold bump at e ⊢;by_cases z:h=r.h
    ·subst z;refine⟨q,l++[r.r],g1,by rw[aa,List.map_append];rfl,by simp[g3],by simp[nxt],g5,g6,g7⟩
    ·rw[Ji z]at e;obtain⟨q',l',Rz,QE,SV,SW,RA,SX,SY⟩:=V.yes h e;have S0:q'≠p:=λy=>by rw[y,hp]at QE;cases QE
     have qq:q'≠q:=λy=>z (V.one h r.h q (by rw[<-y];exact Rz) g1)
     refine⟨q',l',Rz,by rw[ae qq,ae RA,ae S0];exact QE,by rw[Ji z];exact SV,by unfold nxt;rw[Ji z];exact SW,RA,SX,SY⟩),V.one⟩⟩
 ·have z0:c r.h=0:=by omega
  have g1:=V.no r.h z0;have sd:∀{Q:VK3},rBm .Kw (.ref s) [.int r.h,.ref p] (put M p (.lst [])) Q=Q (.ref p) (put (put M p (.lst [])) s (.dk (aj ks (.inl r.h)) (au ks ds (.inl r.h) (.ref p)))):=λ{Q}=>by simp[rBm,gs,m9,g1,hz]
  have QF:(put (put M p (.lst [])) s (.dk (aj ks (.inl r.h)) (au ks ds (.inl r.h) (.ref p)))) p=some (.lst []):=by rw[ae ps,aa]
  have QG:(put (put M p (.lst [])) s (.dk (aj ks (.inl r.h)) (au ks ds (.inl r.h) (.ref p)))) f=some (.lst acc):=by rw[ae V.fs];exact gf
  have RB:(put (put M p (.lst [])) s (.dk (aj ks (.inl r.h)) (au ks ds (.inl r.h) (.ref p)))) s=some (.dk (aj ks (.inl r.h)) (au ks ds (.inl r.h) (.ref p))):=aa;have QH:∀a,a≠p->a≠s->(put (put M p (.lst [])) s (.dk (aj ks (.inl r.h)) (au ks ds (.inl r.h) (.ref p)))) a=M a:=λa h1 h2=>by rw[ae h2,ae h1]
  have RC:Fm (put (put M p (.lst [])) s (.dk (aj ks (.inl r.h)) (au ks ds (.inl r.h) (.ref p)))):=OY.put _ _;generalize T1:put (put M p (.lst [])) s (.dk (aj ks (.inl r.h)) (au ks ds (.inl r.h) (.ref p)))=M2 at sd QF QG RB QH RC;have le:∀{Q:VK3},rBi .len [.ref p] M2 Q=Q (.int (c r.h:Nat)) M2:=λ{Q}=>by rw[z0];simp[rBi,az,ak,QF]
  have ex:=λ{Q:VK3}=>vI (Q:=Q) (es:=bJ wy (.tup [.int r.h,.int (c r.h)]) r) QG (by omega)
  have QI:(put M2 f (.lst (acc++bJ wy (.tup [.int r.h,.int (c r.h)]) r))) p=some (.lst []):=by rw[ae pf];exact QF
  have nn:∀{Q:VK3},aC .NotEq (.ref p) (.f_ []) (put M2 f (.lst (acc++bJ wy (.tup [.int r.h,.int (c r.h)]) r))) Q=Q (.bl false) (put M2 f (.lst (acc++bJ wy (.tup [.int r.h,.int (c r.h)]) r))):=λ{Q}=>by
   rw[nM (ds:=[]) (by simp[ak,QI]) rfl rfl];rfl
  have ap:=λ{W:WC}{e:IE}{De:Ends3}{E:XN}{Z:St3}=>fX (W:=W) (e:=e) (De:=De) (E:=E) (Z:=Z) QI
  have S6:=λ{De:Ends3}{Z:St3}{y:D}=>rE (De:=De) (Z:=Z) (y:=y) QI (by simp)
  have eo:gJ d_ wy c lr r=bJ wy (.tup [.int r.h,.int (c r.h)]) r:=by unfold gJ;rw[Ji c0,JZ]
  rw[eo]at k;have fin:=k (put (put M2 f (.lst (acc++bJ wy (.tup [.int r.h,.int (c r.h)]) r))) p (.lst [.int r.r])) (aj ks (.inl r.h)) (au ks ds (.inl r.h) (.ref p)) (some (.ref p)) (some (.tup [.int r.h,.int (c r.h)])) y7 y8 y9 kl ⟨(RC.put _ _).put _ _,λa o h=>(by
    have ap:a≠p:=λz=>by rw[z,QD]at h;cases h
    have af:a≠f:=λz=>by rw[z,V.f0]at h;cases h
    have as:a≠s:=λz=>by rw[z,V.s0]at h;cases h
    rw[ae ap,ae af,QH a ap as];exact V.old a o h),V.f0,V.s0,V.fs,by rw[ae (Jv pf),aa],by rw[ae (Jv ps),ae (Jv V.fs)];exact RB,bq V.hl,λh e=>(by
    unfold bump at e;by_cases z:h=r.h
    ·rw[Jr z]at e;cases e
    ·rw[Ji z]at e;rw[aS V.hl,Ji (λy=>z (Sum.inl.inj y).symm)];exact V.no h e),λh e=>(by
    unfold bump at e ⊢;by_cases z:h=r.h
    ·subst z;refine⟨p,[r.r],by rw[aS V.hl,Jr rfl],aa,by simp[z0],by simp[nxt],pf,ps,QD⟩
    ·rw[Ji z]at e;obtain⟨q,l,g1,g2,g3,g4,g5,g6,g7⟩:=V.yes h e;have qp:q≠p:=λy=>by rw[y,hp]at g2;cases g2
     refine⟨q,l,by rw[aS V.hl,Ji (λy=>z (Sum.inl.inj y).symm)];exact g1,by rw[ae qp,ae g5,QH q qp g6];exact g2,by rw[Ji z];exact g3,by unfold nxt;rw[Ji z];exact g4,g5,g6,g7⟩),λh h' q e1 e2=>(by
    have fresh:∀h,getD ks ds (.inl h)≠some (.ref p):=λh e=>by
     by_cases z:0<c h
     ·obtain⟨q,l,g1,g2,_⟩:=V.yes h z;rw[g1]at e;cases e;rw[hp]at g2;cases g2
     ·rw[V.no h (by omega)]at e;cases e
    rw[aS V.hl]at e1 e2;by_cases z1:(Sum.inl r.h:Key)=.inl h
    ·by_cases z2:(Sum.inl r.h:Key)=.inl h'
     ·exact (Sum.inl.inj z1).symm.trans (Sum.inl.inj z2)
     ·rw[Jr z1]at e1;rw[Ji z2]at e2;cases e1;exact absurd e2 (fresh h')
    ·by_cases z2:(Sum.inl r.h:Key)=.inl h'
     ·rw[Ji z1]at e1;rw[Jr z2]at e2;cases e2;exact absurd e1 (fresh h)
     ·rw[Ji z1]at e1;rw[Ji z2]at e2;exact V.one h h' q e1 e2)⟩
  simp[↓sd,↓i2,↓le,↓lo,jA QG,↓ex,↓nn,↓ap,↓S6,av];exact fin
theorem pC{De:Ends3}(G:GW d_ wy):∀(rows:List Rw)(M:MH)(c:Int->Nat)(lr:Int->Int)(acc:List D)(ks:List Key)(ds:List D)(y4 y5 y6 y7 y8 y9:Option D),DV M0 M f s acc ks ds c lr->(∀r∈rows,r.fine d_.length wy)->(∀h,-(10 ^ 62)<=lr h/\lr h<=10 ^ 62)->ks.length+rows.length<300->acc.length+4*rows.length<900->(∀h,c h+rows.length<900)->
  (∀M' y4 y5 y6 y7 y8 y9,(∀a o,M0 a=some o->M' a=some o)->M' f=some (.lst (acc++bdF d_ wy c lr rows))->De.nx [some (.tup [.f_ (d_.map cD),.H_ (wy.map pr) (wy.map wv)]),x1,some (.ref f),some (.ref s),y4,y5,y6,y7,y8,y9] M')->
  aV ⟨(B cls c_ e_),ac T (B cls c_ e_) (n+1)⟩ (.name 4) cI ES (λ_=>True) De (rows.map Rw.d) [some (.tup [.f_ (d_.map cD),.H_ (wy.map pr) (wy.map wv)]),x1,some (.ref f),some (.ref s),y4,y5,y6,y7,y8,y9] M
 |[],M,c,lr,acc,ks,ds,y4,y5,y6,y7,y8,y9,V,hf,lb,z1,z2,z3,k=>by
  exact⟨trivial,k M _ _ _ _ _ _ V.old (by rw[bdF,JZ];exact V.vf)⟩
 |r::rows,M,c,lr,acc,ks,ds,y4,y5,y6,y7,y8,y9,V,hf,lb,z1,z2,z3,k=>by
  simp only[Jw]at z1 z2 z3;have ol:=mK (d_:=d_) (wy:=wy) (c:=c) (lr:=lr) (r:=r);have f:=hf r Jk;refine⟨trivial,?_⟩;refine uP G V f lb (by omega) (by omega) (by have:=z3 r.h;omega) λM' K0 F_ y5 y6 y7 y8 y9 hk V'=>?_
  exact pC G rows M' _ _ _ _ _ _ _ _ _ _ _ V' (λx hx=>hf x (Jg _ hx)) (λh=>by
   unfold nxt;split
   ·exact f.b
   ·exact lb h) (by omega) (by rw[JK];omega) (λh=>by have:=z3 h;unfold bump;split<;>omega) λM2 y4 y5 y6 y7 y8 y9 o v=>k M2 _ _ _ _ _ _ o (by rw[v,bdF,List.append_assoc])
theorem DC{rows:List Rw}(G:GW d_ wy)(hM:Fm M)(hl:rows.length<=64)(hf:∀r∈rows,r.fine d_.length wy)(k:Q (.f_ (bdF d_ wy c00 l00 rows)) M):ac T (B cls c_ e_) (n+2) 65 [.tup [.f_ (d_.map cD),.H_ (wy.map pr) (wy.map wv)],.f_ (rows.map Rw.d)] M Q E:=by
 simp only[tM,im];simp;intro f N9 s Pq;obtain⟨RD,Pq⟩:=cr Pq;refine pC G rows _ c00 l00 [] [] [] none none none none none none ⟨(hM.put _ _).put _ _,λa o h=>(by
   have af:a≠f:=λz=>by rw[z,N9]at h;cases h
   have as:a≠s:=λz=>by rw[z,Pq]at h;cases h
   rw[ae as,ae af];exact h),N9,Pq,Jv RD,by rw[ae (Jv RD),aa],aa,rfl,λh _=>rfl,λh z=>(by cases z),λh h' q e _=>(by cases e)⟩ hf (λh=>⟨by show -(10 ^ 62)<=(0:Int);decide,by show (0:Int)<=10 ^ 62;decide⟩) (by simp;omega) (by simp;omega) (λh=>by show 0+_<_;omega) λM' y4 y5 y6 y7 y8 y9 o v=>?_
 have ke:aw M (del M' f)=M:=by
  funext a;unfold aw del;cases e:M a with
  |none=>rfl
  |some u=>
   have af:a≠f:=λz=>by rw[z,N9]at e;cases e
   simp[af,o a u e]
 simp[bb,v,ke];exact k
end
section
variable {N:Nt}{d_:List (Int×Int)}{wy:List Wy}{rows:List Rw}
noncomputable def hF(p:Nm->Int)(c:Int->Nat):List Rw->List (Rw×Int)
 |[]=>[]
 |r::rs=>(r,p [r.h,(c r.h:Int)])::hF p (bump c r.h) rs
theorem qz:∀{rows:List Rw}{c:Int->Nat},(hF p c rows).map Prod.fst=rows
 |[],_=>rfl
 |r::rs,c=>by rw[hF,Jm,qz]
noncomputable abbrev iD(q:Rw×Int):D:=.int q.2
theorem zI:∀{rows:List Rw}{c:Int->Nat},(nmF (rows.map Rw.h) c).map (λk=>D.int (p (nv k)))=(hF p c rows).map iD
 |[],_=>rfl
 |r::rs,c=>by rw[hF,Jm,Jm,nmF,Jm,zI];rfl
theorem qu:∀{l:List Nm},x∈l->lk (tlF g l) x=some (g x)
 |z::l,h=>by
  show (if z=x then _ else _)=_
  by_cases e:z=x
  ·rw[Jr e,e]
  ·rw[Ji e];exact qu ((Jl.mp h).resolve_left (Jv e))
noncomputable def mv(g:Nm->Int)(z:Nm):Int:=g z-g NO
noncomputable abbrev hD(p:Nm->Int)(rows:List Rw):D:=.f_ ((hF p c00 rows).map iD)
theorem Ab(hM:Fm M)(hl:rows.length<=64)(hk:∀x∈KS rows,x∈N.ks):ac T (B cls c_ e_) (n+3) 39 [.f_ (rows.map Rw.d),di (tlF g N.ks)] M Q E=Q (hD (mv g) rows) M:=by
 have i0:∀{M:MH}{Q:VK3},ao (di (tlF g N.ks)) (.tup [.int (-1),.int 0]) M Q=Q (.int (g NO)) M:=λ{M Q}=>pj (qu (hk _ Jk))
 simp only[m6,d5];simp;rw[jw rows (.inl rfl) (by omega) hM]
 simp[ay];rw[bO nD (λZ=>∃a,Z=[a,some (di (tlF g N.ks))]) (λk=>[some (nD k),some (di (tlF g N.ks))]) (λ_=>true) (λk=>.int (mv g (nv k))) ⟨_,rfl⟩ hM (by rw[gQ];simp;omega) (λp _=>⟨⟨_,rfl⟩,λZ ⟨a,e⟩ M k=>by subst e;simp⟩) (λ_ _ _ _ _=>rfl) (λk KA _ M' hE Q'=>?_),List.filter_eq_self.mpr (λ_ _=>rfl),zI]
 ·rw[bP]
 have i1:∀{M:MH}{Q:VK3},ao (di (tlF g N.ks)) (nD k) M Q=Q (.int (g (nv k))) M:=λ{M Q}=>pj (qu (hk _ (Jg _ (JJ.mpr ⟨k,KA,rfl⟩))))
 simp[↓i1,↓i0,mv]
theorem zY(cf:NF cls c_ e_ d_ wy rows N)(ln:LN d_ wy rows N)(hM:Fm M)(hl:rows.length<=64)(hx:x∈KS rows)(hy:y∈KS rows)(hQ:∀g,LT N x y Mx g->Q (hD (mv g) rows) M):ac T (B cls c_ e_) (n+10) 42 [wO c_ d_ wy,.f_ (rows.map Rw.d),nmD x,nmD y,.int Mx] M Q E:=by
 obtain⟨p,hp⟩:=ln.pt;simp only[uM,kX];simp[av];refine cf hM hx hy λM1 nn ⟨kd,rp,y1⟩=>?_
 simp[y1.nt.mth nw];refine uA y1.nt hp (ln.ks x hx) (ln.ks y hy) λg hg=>?_
 rw[Ab y1.nt.fm hl ln.ks];simpa [hX y1.ex] using hQ g hg
theorem xE(cf:NF cls c_ e_ d_ wy rows N)(ln:LN d_ wy rows N)(hM:Fm M)(hl:rows.length<=64)(hx:x∈KS rows)(hy:y∈KS rows)(hQ:∀g,LT N x y 0 g->Q (hD (mv g) rows) M):ac T (B cls c_ e_) (n+10) 42 [wO c_ d_ wy,.f_ (rows.map Rw.d),nmD x,nmD y] M Q E:=by
 exact zY cf ln hM hl hx hy hQ
end
section
variable {d_:List (Int×Int)}{wy:List Wy}{rows:List Rw}
theorem gN(F:Option D->Option D->St3)
  (st:∀(q:Rw×Int)(k:D)(u v:Option D)(T T':Dt)(K:St3->MH->Prop),(∀{R:MH->Prop},aE (.ref a) k (.int q.2) (put M a (.dt T.1 T.2)) R=R (put M a (.dt T'.1 T'.2)))->(wpG tg (.tup [k,g q]) (F u v) (put M a (.dt T.1 T.2)) λLh M2=>aW W body {De with nx:=K,ct:=K,bk:=De.nx} ES Lh M2)=K (F (some k) (some (g q))) (put M a (.dt T'.1 T'.2))) :
  ∀(td:List (Rw×Int)) (c:Int->Nat)(T:Dt)(u v:Option D),T.1.length+td.length<500->
  (∀u v,De.nx (F u v) (put M a (.dt (dF c T (td.map ht)).1 (dF c T (td.map ht)).2))=R)->
  aV W tg body ES (λ_=>True) De (iZ ((nmF ((td.map Prod.fst).map Rw.h) c).map nD) (td.map g)) (F u v) (put M a (.dt T.1 T.2))=R
 |[],c,T,u,v,_,hR=>by
  have:=hR u v;simp[dF]at this;simp[iZ,aQ,this]
 |q::td,c,T,u,v,hl,hR=>by
  simp only[Jw]at hl;have k1:=bc (ks:=T.1) (k:=[q.1.h,(c q.1.h:Int)]);have ih:=gN F st td (bump c q.1.h) (aj T.1 [q.1.h,(c q.1.h:Int)],au T.1 T.2 [q.1.h,(c q.1.h:Int)] (.int q.2)) (some (nD (q.1.h,c q.1.h))) (some (g q)) (by simp only;omega) hR
  show aV _ _ _ _ _ _ (.tup [nD (q.1.h,c q.1.h),g q]::iZ ((nmF ((td.map Prod.fst).map Rw.h) (bump c q.1.h)).map nD) (td.map g)) _ _=R;rw[aA,st q (nD (q.1.h,c q.1.h)) u v T (aj T.1 [q.1.h,(c q.1.h:Int)],au T.1 T.2 [q.1.h,(c q.1.h:Int)] (.int q.2)) _ (λ{R}=>by simp only[nD];rw[kA aa (by omega),aL]),ih,true_and]
theorem C9:∀{rows:List Rw}{c:Int->Nat}{T:Dt}{k:Nm},T.1.length=T.2.length->(k∈(nmF (rows.map Rw.h) c).map nv\/getD T.1 T.2 k=some (.int (p k)))->getD (dF c T ((hF p c rows).map ht)).1 (dF c T ((hF p c rows).map ht)).2 k=some (.int (p k))
 |[],c,T,k,hl,h=>h.resolve_left nofun
 |r::rs,c,T,k,hl,h=>by
  refine C9 (rows:=rs) (bq hl) ?_;rcases h with h|h
  ·rcases Jl.mp h with rfl|h
   ·exact .inr (by rw[aS hl];exact Jr rfl)
   ·exact .inl h
  ·refine .inr ?_;rw[aS hl];by_cases e:[r.h,(c r.h:Int)]=k
   ·rw[<-e];exact Jr rfl
   ·exact (Ji e).trans h
noncomputable abbrev hT(p:Nm->Int)(rows:List Rw):Dt:=dF c00 D0 ((hF p c00 rows).map ht)
theorem zN(h0:p NO=0)(ga:M a=some (.dt (hT p rows).1 (hT p rows).2))(hx:x∈KS rows):ao (.ref a) (nmD x) M Q=Q (.int (p x)) M:=by
 have:=C9 (p:=p) (rows:=rows) (c:=c00) (T:=D0) (k:=x) rfl (by
  rcases Jl.mp hx with rfl|h
  ·exact .inr (by rw[h0];rfl)
  ·exact .inl h)
 simp[ao,az,ak,ga,dM,cU,c9,ce,this]
end
section
variable {d_:List (Int×Int)}{wy:List Wy}{rows:List Rw}
theorem rg:∀{rows:List Rw}{c:Int->Nat}{lr:Int->Int},(bdF d_ wy c lr rows).length<=4*rows.length
 |[],_,_=>Jn _
 |r::rs,c,lr=>by
  have:=mK (d_:=d_) (wy:=wy) (c:=c) (lr:=lr) (r:=r);have:=rg (rows:=rs) (c:=bump c r.h) (lr:=nxt lr r.h r.r);rw[bdF,JK,Jw];omega
theorem BE(L:LB d_ wy rows)(hp:∀b,bD b∈bdF d_ wy c00 l00 rows->Bk p b)(h0:p NO=0)(hM:Fm M)(hQ:Q (.bl true) M):ac T (B cls c_ e_) (n+3) 68 [.tup [.f_ (d_.map cD),.H_ (wy.map pr) (wy.map wv)],.f_ (rows.map Rw.d),hD p rows] M Q E:=by
 have hl:=L.l;obtain⟨_,hb⟩:=L.b;obtain⟨bs,eb,hb⟩:=uZ hb;have e:=qz (p:=p) (rows:=rows) (c:=c00);have el:=congrArg List.length e;rw[Jo]at el;have wh:∀{i:Int}{M:MH}{Q:VK3}{E:XN},ac T (B cls c_ e_) (n+2) 67 [.int i] M Q E=Q (.bl true) M:=λ{i M Q E}=>by simp[n9,eO]
 have al:∀{α:Type}{l:List α}{M:MH}{Q:VK3},rBi .all [.f_ (l.map λ_=>.bl true)] M Q=Q (.bl true) M:=λ{α l M Q}=>by rw[rD (λ_=>true) λ_ _=>rfl,JE.mpr λ_ _=>rfl]
 simp only[qM,gq];simp[el,ay];rw[bO iD (λZ=>∃a,Z=[a]) (λq=>[some (iD q)]) (λ_=>true) (λ_=>.bl true) ⟨_,rfl⟩ hM (by omega) (λp _=>⟨⟨_,rfl⟩,λZ ⟨a,e⟩ M k=>by subst e;simp⟩) (λ_ _ _ _ _=>rfl) (λk _ _ M' hE Q'=>by simp[↓wh]),List.filter_eq_self.mpr (λ_ _=>rfl),al]
 simp[fD,bh,au,av];intro a ha;refine⟨aa,?_⟩;rw[aL,gX (hM.put _ _) (by omega)]
 refine of_eq_true ?_;rw[<-congrArg (List.map Rw.h) e];refine gN (λu v=>[some (.tup [.f_ (d_.map cD),.H_ (wy.map pr) (wy.map wv)]),some (.f_ (rows.map Rw.d)),some (hD p rows),some (.ref a),u,v]) (λq k u v T T' K st=>by simp[fF,↓st]) (hF p c00 rows) c00 D0 none none (by simp;omega) λu v=>eq_true ?_
 simp;refine DC L.g (hM.put _ _) L.l L.f ?_;rw[eb];simp[ay];have gx:=λ{M':MH} (hE:Ext (put M a (.dt (hT p rows).1 (hT p rows).2)) M') {z:Nm} (hz:z∈KS rows) {Q:VK3}=>zN (Q:=Q) h0 (hE.2 _ _ aa) hz
 rw[bO bD (λZ=>∃u v w,Z=[u,v,w,some (.ref a)]) (λb=>[some (nmD b.1),some (nmD b.2.1),some (.int b.2.2),some (.ref a)]) (λ_=>true) (λ_=>.bl true) ⟨_,_,_,rfl⟩ (hM.put _ _) ?_ (λb _=>⟨⟨_,_,_,rfl⟩,λZ ⟨u,v,w,e⟩ M k=>by subst e;simp[jp,bD]⟩) (λ_ _ _ _ _=>rfl) (λb h _ M' hE Q'=>?_),List.filter_eq_self.mpr (λ_ _=>rfl),al]
 ·simpa [eP ha] using hQ
 ·have:=rg (d_:=d_) (wy:=wy) (rows:=rows) (c:=c00) (lr:=l00);rw[eb,Jo]at this;omega
 ·have h1:=hp b (by rw[eb];exact JJ.mpr ⟨b,h,rfl⟩)
  obtain⟨⟨q1,q2,_⟩,_⟩:=hb b h;simp[gx hE q1,gx hE q2,show p b.2.1-p b.1<=b.2.2 from h1]
end
section
variable {d_:List (Int×Int)}{wy:List Wy}{rows:List Rw}{td:List (Rw×Int)}
theorem gR:∀{ks:List Nm}{ds:List D},getD ks ds k=some v->k∈ks
 |[],_,h=>by simp[getD]at h
 |q::ks,[],h=>by simp[getD]at h
 |q::ks,e::ds,h=>by
  simp only[getD]at h;split at h
  ·rename_i e;rw[e];exact Jk
  ·exact Jg _ (gR h)
theorem u9:∀{l:List (Int×Int)}{c:Int->Nat}{T:Dt},k∈(dF c T l).1->k∈T.1\/k∈(nmF (l.map Prod.fst) c).map nv
 |[],_,_,h=>.inl h
 |q::l,c,T,h=>by
  rcases u9 (l:=l) h with h|h
  ·rcases put1_mem.mp h with rfl|h
   ·exact .inr Jk
   ·exact .inl h
  ·exact .inr (Jg _ h)
theorem vF:∀{l:List (Int×Int)}{c:Int->Nat}{T:Dt},T.1.length=T.2.length->(∀k∈T.1,∃t:Int,getD T.1 T.2 k=some (.int t))->∀k∈(dF c T l).1,∃t:Int,getD (dF c T l).1 (dF c T l).2 k=some (.int t)
 |[],_,_,_,h=>h
 |q::l,c,T,hl,h=>vF (l:=l) (bq hl) λk hk=>by
  rw[aS hl];by_cases e:[q.1,(c q.1:Int)]=k
  ·exact⟨q.2,by rw[Jr e]⟩
  ·rw[Ji e];exact h k ((put1_mem.mp hk).resolve_left (Jv e))
theorem zR:∀{l:List (Int×Int)}{c:Int->Nat}{T:Dt},(dF c T l).1.length<=T.1.length+l.length
 |[],_,_=>Jn _
 |q::l,c,T=>JF (zR (l:=l)) (by have:=bc (ks:=T.1) (k:=[q.1,(c q.1:Int)]);simp only[Jw];omega)
noncomputable abbrev tT(td:List (Rw×Int)):Dt:=dF c00 D0 (td.map ht)
noncomputable def tv:Option D->Int
 |some (.int t)=>t
 |_=>0
noncomputable def tP(td:List (Rw×Int))(k:Nm):Int:=tv (getD (tT td).1 (tT td).2 k)
theorem Aj(h:k∈(tT td).1):getD (tT td).1 (tT td).2 k=some (.int (tP td k)):=by
 obtain⟨t,e⟩:=vF rfl (λk hk=>⟨0,by rw[JB.mp hk];rfl⟩) k h
 unfold tP;rw[e];rfl
theorem uI(h:k∈(tT td).1):k∈KS (td.map Prod.fst):=by
 rcases u9 h with h|h
 ·rw[JB.mp h];exact Jk
 ·refine Jg _ ?_;rw[List.map_map]at h ⊢;exact h
theorem zP(C:TC d_ wy td at_ sn):Bp d_ wy (td.map Prod.fst) (tP td):=λb hb=>by
 obtain⟨a,i,a',i',m,t,t',e,h1,h2,_,_,ne,h⟩:=C.b b hb;unfold tm at h1 h2;refine⟨([a,i],[a',i'],m),e,⟨uI (gR h1),uI (gR h2),λz=>ne (by simpa using z)⟩,?_⟩
 show tP td [a',i'] - tP td [a,i]<=m;unfold tP tT;rw[h1,h2];exact h
theorem zf{l:List Nm}(h:0<l.length):∃x∈l,∀{M:MH}{Q:VK3},ao (.f_ (l.map nmD)) (.int (i % (l.length:Nat))) M Q=Q (nmD x) M:=by
 have h0:=J7 i (show ((l.length:Nat):Int)≠0 by omega)
 have h1:=J0 i (show (0:Int)<(l.length:Nat) by omega)
 obtain⟨k,e⟩:=J4 h0;rw[e]at h1 ⊢;have hk:k<l.length:=by omega
 refine⟨l[k],J6 hk,λ{M Q}=>hV (bu (by simp[hk]))⟩
theorem yS(ln:LN d_ wy rows N)(h:LT N x y Mx g):∀b,bD b∈bdF d_ wy c00 l00 rows->Bk (mv g) b:=λb hb=>by
 obtain⟨w,hw,k⟩:=ln.wk b hb;have:=k.pot h.pot;unfold Bk mv;omega
theorem vp:∀{l:List (Int×Int)}{c:Int->Nat}{T:Dt},k∈T.1\/k∈(nmF (l.map Prod.fst) c).map nv->k∈(dF c T l).1
 |[],_,_,h=>h.resolve_right nofun
 |q::l,c,T,h=>vp (l:=l) (by
  rcases h with h|h
  ·exact .inl (put1_mem.mpr (.inr h))
  ·rcases Jl.mp h with h|h
   ·exact .inl (put1_mem.mpr (.inl h))
   ·exact .inr h)
theorem Ee(h:k∈KS (td.map Prod.fst)):k∈(tT td).1:=by
 refine vp ?_;rcases Jl.mp h with rfl|h
 ·exact .inl Jk
 ·rw[List.map_map]at h ⊢;exact .inr h
theorem rX:∀{rows:List Rw}{c:Int->Nat}{lr:Int->Int},Rw.take h r a b∈rows->∃x m,D.tup [x,.tup [.int a,.int b],.int m]∈bdF d_ wy c lr rows
 |q::rows,c,lr,hm=>by
  rcases Jl.mp hm with e|hm
  ·subst e;exact⟨_,_,JR _ (JR _ Jk)⟩
  ·obtain⟨x,m,h⟩:=rX hm;exact⟨x,m,JD _ h⟩
theorem xu(h:d∈rng 0 k):∃i:Nat,d=.int i/\i<k:=by
 obtain⟨i,hi,rfl⟩:=JJ.mp h;exact⟨i,by simp,List.mem_range.mp hi⟩
theorem AX{ks:List Nm}{xs:List Int}(L:LB d_ wy rows)(hM:Fm M)(hx:xs.length=3)(kp:0<ks.length)(hk:∀k∈ks,k∈KS rows)(hQ:∀x y,x∈KS rows->y∈KS rows->Q (.tup [nmD x,nmD y]) M):ac T (B cls c_ e_) (n+2) 69 [.f_ (rows.map Rw.d),.f_ (ks.map nmD),.f_ (xs.map D.int)] M Q E:=by
 have i0:∀{M:MH}{Q:VK3},ao (.f_ (xs.map D.int)) (.int 0) M Q=Q (.int (xs.getD 0 0)) M:=λ{M Q}=>aG (k:=0) (by omega)
 have i1:∀{M:MH}{Q:VK3},ao (.f_ (xs.map D.int)) (.int 1) M Q=Q (.int (xs.getD 1 0)) M:=λ{M Q}=>aG (k:=1) (by omega)
 have i2:∀{M:MH}{Q:VK3},ao (.f_ (xs.map D.int)) (.int 2) M Q=Q (.int (xs.getD 2 0)) M:=λ{M Q}=>aG (k:=2) (by omega)
 generalize xs.getD 0 0=u0 at i0;generalize xs.getD 1 0=u1 at i1;generalize xs.getD 2 0=u2 at i2;obtain⟨x,hx,px⟩:=zf (i:=u0) kp;obtain⟨y,hy,py⟩:=zf (i:=u1) kp;have hl:=L.l;obtain⟨p,hp⟩:=L.b;have S8:¬ ks.length=0:=by omega
 have fin:=hQ x y (hk x hx) (hk y hy);have hb:(rows.length:Int)<4611686018427387904:=by omega
 have Rh : -4611686018427387904<=(rows.length:Int):=by omega
 simp only[p4,fS];simp[↓i0,↓i1,↓i2,av,↓px,↓py,kp,hb];by_cases h:u2 % 2=1
 ·simp[h];refine xU (λZ=>∃x3 x4,Z=[some (.f_ (rows.map Rw.d)),some (.f_ (ks.map nmD)),some (.f_ (xs.map D.int)),x3,x4]) ⟨_,_,rfl⟩ (λd hd Z hs k hk=>?_) (λZ hs=>?_)
  ·obtain⟨x3,x4,rfl⟩:=hs;obtain⟨i,rfl,h1⟩:=xu hd;obtain⟨j,ej⟩:=J4 (show 0<=(rows.length:Int)-1-i by omega)
   have hj:j<rows.length:=by omega
   obtain⟨r,e⟩:∃r,rows[j]?=some r:=⟨_,Jz hj⟩;obtain⟨z,e2⟩:∃z,(nmF (rows.map Rw.h) c00)[j]?=some z:=⟨_,Jz (by rw[gQ,Jo];exact hj)⟩
   have hm:=JU e;have Pe:=JU e2;have ix:∀{M:MH}{Q:VK3},ao (.f_ (rows.map Rw.d)) (.int j) M Q=Q r.d M:=λ{M Q}=>hV (bu (by rw[Jq,e];rfl))
   have iz:∀{M:MH}{Q:VK3},ao (.f_ ((nmF (rows.map Rw.h) c00).map nD)) (.int j) M Q=Q (nmD (nv z)) M:=λ{M Q}=>hV (bu (by rw[Jq,e2];rfl))
   have kz:=hk _ ⟨some (.int i),some r.d,rfl⟩;simp[fE,ej,↓ix];cases r with
   |take h r a b=>
    obtain⟨w,m,hw⟩:=rX hm;obtain⟨⟨b1,b2,b3⟩,eb,⟨_,q,_⟩,_⟩:=hp _ hw;have q:[a,b]∈KS rows:=by
     have:nmD b2=nmD [a,b]:=by simp[bD]at eb;exact eb.2.1.symm
     rw[<-qr this];exact q
    have:=hQ [a,b] (nv z) q (Jg _ (JJ.mpr ⟨z,Pe,rfl⟩));simp +decide [Rw.d];rw[gX hM (by omega)]
    simp[↓iz];exact this
   |look=>simpa +decide [Rw.d] using kz
   |Kz=>simpa +decide [Rw.d] using kz
   |send=>simpa +decide [Rw.d] using kz
  ·obtain⟨x3,x4,rfl⟩:=hs;simpa [↓i0,↓i1,av,↓px,↓py,kp,S8,bP] using fin
 ·simpa [h,bP] using fin
noncomputable def sur:Option Int->Bool
 |some v=>decide (v<0)
 |none=>false
abbrev BW(cls c_ e_:Nat->PySem.Addr)(d_:List (Int×Int))(wy:List Wy)(rows:List Rw)(d:Nm->Nm->Option Int):Prop:=∀{n:Nat}{M:MH}{Q:VK3}{E:XN}{x y:Nm},Fm M->x∈KS rows->y∈KS rows->Q (bt d x y) M->ac T (B cls c_ e_) (n+10) 41 [wO c_ d_ wy,.f_ (rows.map Rw.d),nmD x,nmD y] M Q E
theorem g8(cb:BW cls c_ e_ d_ wy rows d)(hM:Fm M)(hx:x∈KS rows)(hy:y∈KS rows)(hQ:Q (.bl (sur (d y x))) M):ac T (B cls c_ e_) (n+11) 43 [wO c_ d_ wy,.f_ (rows.map Rw.d),nmD x,nmD y] M Q E:=by
 simp only[vR,j8];simp;refine cb hM hx hy ?_;simp only[bt];cases e:d y x with
 |none=>rw[e]at hQ;simpa [ng,oi,D.isN,sur,bP] using hQ
 |some v=>
  rw[e]at hQ;by_cases h:v<0
  ·have h':0 < -v:=by omega
   simpa [ng,oi,D.isN,sur,bP,h,h'] using hQ
  ·have h':¬ 0 < -v:=by omega
   simpa [ng,oi,D.isN,sur,bP,h,h'] using hQ
end
section
variable {d_:List (Int×Int)}{wy:List Wy}{rows:List Rw}
theorem nP(b:BT d_ wy rows N d)(hp:Pot N p)(hy:y∈KS rows)(h:sur (d y x)=true):p x<p y:=by
 cases e:d y x with
 |none=>rw[e]at h;cases h
 |some v=>
  rw[e]at h;have h:=J8 h;have:=b.d y hy x;rw[e]at this;have:=this.1.pot hp;omega
theorem DY(b:BT d_ wy rows N d)(hy:y∈KS rows)(h:LT N y x 0 g):decide (mv g x<mv g y)=sur (d y x):=by
 have e:=b.d y hy x;have h0:=h.x0;cases hd:d y x with
 |none=>rw[hd]at e;have:=h.yn e;exact J9 (by unfold mv;omega)
 |some v=>rw[hd]at e;have:=h.yd v e;exact decide_eq_decide.mpr (by unfold mv;omega)
noncomputable abbrev lr:ISs:=tl (tl (tl (tl ca)))
theorem rT(L:LB d_ wy rows)(b:BT d_ wy rows N d)(cb:BW cls c_ e_ d_ wy rows d)(cf:NF cls c_ e_ d_ wy rows N)(hp:Pot N p)(hM:Fm M)(hx:x∈KS rows)(hy:y∈KS rows)(gt:∀{k},k∈KS rows->∀{Q:VK3},ao (.ref a) (nmD k) M Q=Q (.int (p k)) M)(hQ:Q (.bl true) M) :
  ac T (B cls c_ e_) (n+12) 70 [.tup [.f_ (d_.map cD),.H_ (wy.map pr) (wy.map wv)],wO c_ d_ wy,.f_ (rows.map Rw.d),.ref a,.tup [nmD x,nmD y]] M Q E:=by
 have hl:=L.l;have hz:rows.length<=PySem.sizeLine:=JF (show rows.length<=1000 by omega) (by decide)
 have m0:∀{g:Nm->Int},mv g NO=0:=λ{g}=>Int.sub_self _
 rw[oX,show ca=.cons _ (.cons _ (.cons _ (.cons _ lr))) from rfl];simp[jp,hz];refine g8 (n:=n) cb hM hx hy ?_;have aT:∀s:Bool,s=sur (d y x)->aW ⟨(B cls c_ e_),ac T (B cls c_ e_) (n+11)⟩ lr {nx:=λ_ M'=>Q .i_ (aw M M'),rt:=λv M'=>Q v (aw M M')} (λ_ i M'=>E i (aw M M')) [some (.tup [.f_ (d_.map cD),.H_ (wy.map pr) (wy.map wv)]),some (wO c_ d_ wy),some (.f_ (rows.map Rw.d)),some (.ref a),some (.tup [nmD x,nmD y]),some (nmD x),some (nmD y),some (.bl s),none,none,none,none] M:=λs hs=>by
  simp[lr,tl,ca,hz];refine xE (n:=n+1) cf b.ln hM hl hy hx λg h=>?_
  refine BE (n:=n+8) L (yS b.ln h) m0 hM ?_;simp[fD,gh,bh,aj,au,av];intro t ht;refine⟨aa,?_⟩;rw[aL,gX (n:=n+10) (hM.put _ _) (by omega)]
  simp[-List.map_map];have e:=qz (p:=mv g) (rows:=rows) (c:=c00);have el:=congrArg List.length e;rw[Jo]at el;refine of_eq_true ?_;rw[<-congrArg (List.map Rw.h) e];refine gN (λu v=>[some (.tup [.f_ (d_.map cD),.H_ (wy.map pr) (wy.map wv)]),some (wO c_ d_ wy),some (.f_ (rows.map Rw.d)),some (.ref a),some (.tup [nmD x,nmD y]),some (nmD x),some (nmD y),some (.bl s),some (hD (mv g) rows),some (.ref t),u,v]) (λq k u v T T' K st=>by simp[wpG,fj,↓st]) (hF (mv g) c00 rows) c00 D0 none none (by simp[el];omega) λu v=>eq_true ?_
  have gx:=λ{M:MH}{Q:VK3} (ga:M t=some (.dt (hT (mv g) rows).1 (hT (mv g) rows).2)) {z:Nm} (hz:z∈KS rows)=>zN (Q:=Q) m0 ga hz
  simp[gx aa hx,gx aa hy];simpa [hs,DY b hy h,eP ht] using hQ
 cases hs:sur (d y x) with
 |true=>
  have hq:¬ p y<=p x:=by have:=nP b hp hy hs;omega
  simpa [gt hx,gt hy,hq] using aT true hs.symm
 |false=>
  simpa using aT false hs.symm
noncomputable abbrev l8:ISs:=tl (tl (tl (tl (tl (tl (tl oP))))))
theorem zc{De:Ends3}{ks:List Nm}{xs:List Int}(L:LB d_ wy rows)(hp:Bp d_ wy rows p)(hM:Fm M)(sl:xs.length=3)(kp:0<ks.length)(hk:∀k∈ks,k∈KS rows)(ld:∀{Q:VK3},rBi (.list true) [.ref a] M Q=Q (.f_ (ks.map nmD)) M)(gt:∀{k},k∈KS rows->∀{Q:VK3},ao (.ref a) (nmD k) M Q=Q (.int (p k)) M)(hQ:De.rt (.bl true) M) :
  aW ⟨(B cls c_ e_),ac T (B cls c_ e_) (n+12)⟩ l8 De ES [y0,some (.tup [.f_ (d_.map cD),.H_ (wy.map pr) (wy.map wv)]),y2,some (.f_ (rows.map Rw.d)),some (wO c_ d_ wy),some (.ref a),y6,y7,some (.f_ (xs.map D.int)),y9,I_] M:=by
 obtain⟨N,d,b,cb,cf⟩:=Bu (cls:=cls) (c_:=c_) (e_:=e_) L;have hq:=b.ln.pq p hp;have hl:=L.l;have hz:rows.length<=PySem.sizeLine:=JF (show rows.length<=1000 by omega) (by decide)
 simp[l8,tl,oP,↓ld];refine AX (n:=n+10) L hM sl kp hk λx y hx hy=>?_
 have s0:sur (d x x)=false:=by
  cases h:sur (d x x) with
  |false=>rfl
  |true=>have:=nP b hq hx h;omega
 simp[jp,av];refine rT (n:=n) L b cb cf hq hM hx hy gt ?_;simp[hz];refine g8 (n:=n+1) cb hM hx hx ?_;simp[s0,av];refine rT (n:=n) L b cb cf hq hM hy hx gt ?_;simp[hz];refine g8 (n:=n+1) cb hM hx hy ?_;cases h:sur (d y x) with
 |false=>simpa using hQ
 |true=>
  simp[hz];refine g8 (n:=n+1) cb hM hy hx ?_;have h1:=nP b hq hy h;have h2:sur (d x y)=false:=by
   cases h:sur (d x y) with
   |false=>rfl
   |true=>have:=nP b hq hx h;omega
  simpa [h2] using hQ
theorem main(cls c_ e_:Nat->PySem.Addr)(ns:List Int)(hl:ns.length<=63):ac (L.map FL.fb) (B cls c_ e_) 13 71 [scr ns] (λ_=>none) (λd _=>d=.bl true) (λ_ _=>False):=by
 rw[Gw];obtain⟨c0,k0⟩:=qk ns 0;obtain⟨c1,k1⟩:=qk ns 1;obtain⟨c2,k2⟩:=qk ns 2;have k0:∀{M:MH}{Q:VK3}{E:XN},ac T (B cls c_ e_) 12 55 [scr ns,.int 0] M Q E=Q (.int c0) M:=k0;have k1:∀{M:MH}{Q:VK3}{E:XN},ac T (B cls c_ e_) 12 55 [scr ns,.int 1] M Q E=Q (.int c1) M:=k1;have k2:∀{M:MH}{Q:VK3}{E:XN},ac T (B cls c_ e_) 12 55 [scr ns,.int 2] M Q E=Q (.int c2) M:=k2;obtain⟨cs,ec,lc⟩:=BF ns;have hz:cs.length<=PySem.sizeLine:=JF (show cs.length<=1000 by omega) (by decide)
 rw[C1,show oP=.cons _ (.cons _ (.cons _ (.cons _ (.cons _ (.cons _ (.cons _ l8)))))) from rfl];simp[↓k0];refine ye Fm.nil λd_ wy G=>?_
 simp[↓k1,ec,hz];refine AD G Fm.nil (by omega) λtd f ⟨at_,sn,tc⟩ l=>?_
 simp[ay];rw[xO Fm.nil l];have mk:=λ{Q:VK3}{E:XN}=>zT (cls:=cls) (c_:=c_) (e_:=e_) (n:=5) (Q:=Q) (E:=E) G Fm.nil
 simp[-List.map_map,↓mk];intro a;have f0:∀{o:DO},Fm (put (λ_=>none) a o):=Fm.nil.put _ _
 have kn:NO∈(tT td).1:=gR tc.z;have kp:0<(tT td).1.length:=List.length_pos_of_mem kn;have sm:∀{o:DO}{Q:VK3}{E:XN},ac T (B cls c_ e_) 12 56 [.int (c0+c2),.int 3] (put (λ_=>none) a o) Q E=Q (.f_ ((aM (c0+c2) 3).map D.int)) (put (λ_=>none) a o):=λ{o Q E}=>eX f0 (by decide)
 have sl:(aM (c0+c2) 3).length=3:=bQ;generalize aM (c0+c2) 3=xs at sm sl;have gt:∀{k},k∈KS (td.map Prod.fst)->∀{Q:VK3},ao (.ref a) (nmD k) (put (λ_=>none) a (.dt (tT td).1 (tT td).2)) Q=Q (.int (tP td k)) (put (λ_=>none) a (.dt (tT td).1 (tT td).2)):=λ{k} h {Q}=>by simp[ao,az,ak,aa,dM,cU,c9,ce,Aj (Ee h)]
 have ld:=λ{Q:VK3}=>nU (Q:=Q) (aa (M:=λ_=>none) (a:=a) (o:=.dt (tT td).1 (tT td).2))
 have zk:(tT td).1.length<=PySem.sizeLine:=JF zR (JF (show _<=1000 by simp;omega) (by decide))
 have ld:∀{Q:VK3},rBi (.list true) [.ref a] (put (λ_=>none) a (.dt (tT td).1 (tT td).2)) Q=Q (.f_ ((tT td).1.map nmD)) (put (λ_=>none) a (.dt (tT td).1 (tT td).2)):=λ{Q}=>by rw[ld];simp[zk]
 simp[-List.map_map,fD,gh,bh,aL,aa,av,au];rw[gX f0 (by simp;omega)]
 refine of_eq_true (gN (λu v=>[some (scr ns),some (.tup [.f_ (d_.map cD),.H_ (wy.map pr) (wy.map wv)]),some (.f_ (td.map tdD)),some (.f_ ((td.map Prod.fst).map Rw.d)),some (wO c_ d_ wy),some (.ref a),u,v,none,none,none]) (λq k u v T T' K st=>by simp[pP,tdD,↓st]) td c00 D0 none none (by simp;omega) λu v=>eq_true ?_)
 simp[-List.map_map,↓k0,↓k2,↓sm];refine zc (p:=tP td) ⟨G,by simp;omega,f,⟨_,zP tc⟩⟩ (zP tc) f0 sl kp (λ_=>uI) ld gt ?_
 rfl
end
end G
open PySem PySem.W PyProof.Rows
set_option maxRecDepth 100000 in
set_option maxHeartbeats 0 in
theorem PySem.Challenge.cw_driftmeet_k45_surely_before_holds : PySem.Challenge.rw_driftmeet_k45_surely_before.Holds := by
 w_on
 refine PySem.W.holds_law wz_ λS_=>?_
 refine holds_open (q:=HD.view) (loose:=HD.loose) (Xt:=HD.Xt) (XP:=XL HD.view []) (Yf:=Hook.obs (kHook HD.K HD.as HD.as_eq)) (Ya:=Hook.val (kHook HD.K HD.as HD.as_eq)) (YP:=Hook.says (kHook HD.K HD.as HD.as_eq)) (N:=11072) HD.left (Hook.of (kHook HD.K HD.as HD.as_eq)) (Hook.keeps (kHook HD.K HD.as HD.as_eq)) (λs e=>xl_of s (Bool.and_eq_true_iff.mp e).1) XL.keeps (by rfl) (by rfl) (by rfl) (λs e=>recFacts_of (Bool.and_eq_true_iff.mp e).2) (by kernel_rfl) (by first|assumption|decide +kernel) (by decide +kernel) ⟨rfl,rfl,rfl,rfl,rfl,by decide +kernel⟩ ?hw ?hc
 (case hw=>w_witness2)
 k_fill
 refine L2.walkD (l:=PySem.Challenge.rw_driftmeet_k45_surely_before) (k:=13) (f:=71) (fl:=G.l_law) (x:="_law_script") (L:=G.L) (nm:=G.nm) (BB:=G.B) rfl rfl ⟨rfl,by decide,by decide⟩ (λw h Y=>PySem.W.kIn_of Y) rfl rfl rfl rfl ?F (λcls c_ e_ ns hl=>G.main cls c_ e_ ns hl)
 case F=>
  intro w mg h KX Gn
  refine' G.top_mk (q0:=114) (qn0:=0) (qt0_0:=324) (qt0_1:=325) (qt1:=882) KX Gn ?Qi ?Qj ?Qk
  (case Qi=>kernel_rfl)
  (case Qj=>kernel_rfl)
  (case Qk=>kernel_rfl)
  all_goals exact⟨0,0,0,0⟩
