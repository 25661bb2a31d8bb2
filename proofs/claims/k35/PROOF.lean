import PyProof.Rows.All
import Wide.All
import OpenK.AllK
import Wide.FinOn
import Lean
import PyProof.EqAt
import PyProof.EqKinds
import PyProof.TupleCall
import PySem.Challenge.RW_driftmeet_k35_the_net_of_a_log
set_option Elab.async false
set_option linter.all false
set_option bootstrap.genMatcherCode false
set_option genSizeOf false
set_option maxRecDepth 100000
local macro_rules
 |`(command|def $x:declId $s:optDeclSig $v:declVal)=>`(command|noncomputable def $x:declId $s:optDeclSig $v:declVal)
 |`(command|abbrev $x:declId $s:optDeclSig $v:declVal)=>`(command|noncomputable abbrev $x:declId $s:optDeclSig $v:declVal)
set_option maxHeartbeats 4000000
theorem wz_:PySem.Challenge.rw_driftmeet_k35_the_net_of_a_log.wellSaid=true:=by decide +kernel
namespace L2
open PySem PySem.Spec PyProof.Rows
abbrev Lr:=PySem.W.Frag
def Kf:=@wpAny_bind
def Kg:=@Bool.and_eq_true
def Kh:=@wpAny_pure
def Ki:=@List.mem_cons_of_mem
def Kj:=@if_neg
def Kk:=@Heap.get?_push_of_some
def Kl:=@List.mem_cons_self
def Km:=@Nat.le_refl
def Kn:=@List.map_cons
def Ko:=@Heap.get?_push_size
def Kp:=@if_pos
def Kq:=@List.mem_cons
def Kr:=@List.length_map
def Ks:=@decide_eq_true_eq
def Kt:=@List.getElem?_map
def Ku:=@Bool.false_ne_true
def Kv:=@Nat.lt_of_lt_of_le
def Kw:=@Heap.lt_size
def Kx:=@List.size_toArray
def Ky:=@List.length_cons
def Kz:=@Ne.symm
def KA:=@Option.some.inj
def KB:=@Nat.le_trans
def KC:=@List.getElem?_eq_getElem
def KD:=@List.mem_append
def KE:=@List.all_eq_true
def KF:=@List.mem_singleton
def KG:=@beq_iff_eq
def KH:=@Nat.ne_of_lt
def KI:=@List.mem_append_right
def KJ:=@List.mem_map
def KK:=@Heap.get?_update_other
def KL:=@Option.isSome_iff_exists
def KM:=@beq_eq_false_iff_ne
def KN:=@List.nodup_cons
def KO:=@List.length_append
def KP:=@List.getElem?_eq_some_iff
def KQ:=@decide_eq_false
def KR:=@wpAny_truthy_bool
def KU:=@wpAny_newObj_type
def KW:=@List.mem_of_getElem?
def KY:=@Bool.false_eq_true
def KZ:=@List.append_nil
def K0:=@wpAny_holding
def K2:=@List.mem_append_left
def K3:=@Int.emod_lt_of_pos
def K4:=@List.lookup_cons
def K5:=@Nat.lt_irrefl
def K6:=@Heap.get?_update_self
def K7:=@List.getElem_mem
def K8:=@wpAny_call_entry
def K9:=@Int.emod_nonneg
def La:=@tupleKind_room_in1
def Lb:=@wpAny_field
def Lc:=@wpAny_dictEntries
def Ld:=@of_decide_eq_true
def Le:=@Int.eq_ofNat_of_zero_le
def Lf:=@List.not_mem_nil
def Lh:=@wpAny_mono
def Li:=@Obj.data_mapFields
def Lj:=@List.find?_cons
def Lk:=@Array.getElem?_eq_some_iff
def Ll:=@Int.toNat_natCast
def Lm:=@Bool.and_eq_true_iff
def Ln:=@Nat.le_succ
def Lo:=@Nat.le_add_right
def Lp:=@wpAny_setField
def Lq:=@List.getElem?_set_ne
end L2
namespace L2
open PySem PySem.Spec PyProof.Rows
abbrev Key:=Sum Int Str
def jI:Key->Value->Bool
 |.inl k,v=>Value.isInt k v
 |.inr x,v=>Value.isStrOf x v
def Hf(w:World):Key->Int
 |.inl k=>hashInt k
 |.inr x=>hashStr w x
theorem aF:∀{k:Key}{v:Value},jI k v=true->(∃i t,k=Sum.inl i/\v=Value.int i t)\/(∃x t,k=Sum.inr x/\v=Value.str x t)
 |.inl i,v,h=>by
  obtain⟨t,e⟩:=Value.isInt_shape (k:=i) (v:=v) h;exact .inl ⟨i,t,rfl,e⟩
 |.inr x,v,h=>by
  obtain⟨t,e⟩:=Value.isStrOf_shape (x:=x) (v:=v) h;exact .inr ⟨x,t,rfl,e⟩
theorem uq(i:Int)(t:Tok):jI (.inl i) (.int i t)=true:=by simp[jI,Value.isInt]
theorem tW(x:Str)(t:Tok):jI (.inr x) (.str x t)=true:=by simp[jI,Value.isStrOf]
theorem CN(a b:Int):decide ((Sum.inl a:Key)=Sum.inl b)=(a == b):=by
 by_cases e:a=b
 ·subst e;simp
 ·have h:¬ (Sum.inl a:Key)=Sum.inl b:=λq=>e (Sum.inl.inj q)
  rw[KQ h];exact (KM.mpr e).symm
theorem BP(a b:Str):decide ((Sum.inr a:Key)=Sum.inr b)=decide (a=b):=by
 by_cases e:a=b
 ·subst e;simp
 ·have h:¬ (Sum.inr a:Key)=Sum.inr b:=λq=>e (Sum.inr.inj q)
  rw[KQ h,KQ e]
theorem B1(a:Int)(b:Str):decide ((Sum.inl a:Key)=Sum.inr b)=false:=KQ (λq=>nomatch q)
theorem Bf(a:Str)(b:Int):decide ((Sum.inr a:Key)=Sum.inl b)=false:=KQ (λq=>nomatch q)
def aB(prog:Program)(w:World):PySem.KeyKind prog w Key where
 is:=jI
 hash:=Hf w
 inj:=λv a b ha hb=>by
  rcases aF ha with ⟨i,t,rfl,rfl⟩|⟨x,t,rfl,rfl⟩
  ·rcases aF hb with ⟨j,u,rfl,e⟩|⟨y,u,rfl,e⟩
   ·injection e with e1 _;rw[e1]
   ·exact nomatch e
  ·rcases aF hb with ⟨j,u,rfl,e⟩|⟨y,u,rfl,e⟩
   ·exact nomatch e
   ·injection e with e1 _;rw[e1]
 byValue:=λk v h=>by
  rcases aF h with ⟨i,t,rfl,rfl⟩|⟨x,t,rfl,rfl⟩<;>rfl
 pyHash:=λhv h=>by
  rcases aF hv with ⟨i,t,rfl,rfl⟩|⟨x,t,rfl,rfl⟩
  ·exact wpAny_pyHash_int h
  ·exact wpAny_pyHash_str h
 eqBool:=λhu hv h=>by
  rcases aF hu with ⟨i,t,rfl,rfl⟩|⟨x,t,rfl,rfl⟩
  ·rcases aF hv with ⟨j,u,rfl,rfl⟩|⟨y,u,rfl,rfl⟩
   ·rw[CN]at h;exact wpAny_eqBool_int h
   ·rw[B1]at h;exact SeqAt.EqAt.int_str i t y u _ _ _ _ h
  ·rcases aF hv with ⟨j,u,rfl,rfl⟩|⟨y,u,rfl,rfl⟩
   ·rw[Bf]at h;exact SeqAt.EqAt.str_int x t j u _ _ _ _ h
   ·rw[BP]at h;exact wpAny_eqBool_str h
 «strs»:=λk x t v h=>by
  rcases aF h with ⟨i,u,rfl,e⟩|⟨y,u,rfl,e⟩
  ·exact nomatch e
  ·injection e with e1 _
   subst e1;cases v<;>rfl
theorem qv(prog:Program)(w:World)(k:Key)(v:Value):(aB prog w).is k v=jI k v:=rfl
theorem oA(prog:Program)(w:World)(i:Int)(t:Tok):(aB prog w).is (.inl i) (.int i t)=true:=uq i t
theorem pG(prog:Program)(w:World)(x:Str)(t:Tok):(aB prog w).is (.inr x) (.str x t)=true:=tW x t
inductive V where
 |i_|bl (b:Bool)|int (i:Int)|str (x:Str)|PJ (b:Array UInt8)|PK (b:UInt64)|ref (a:Addr)|ty (n:String)
 deriving DecidableEq
def RelV:V->Value->Prop
 |.i_,u=>u=Value.none
 |.bl b,u=>u=Value.bool b
 |.int i,u=>∃t,u=Value.int i t
 |.str x,u=>∃t,u=Value.str x t
 |.PJ b,u=>∃t,u=Value.bytes b t
 |.PK b,u=>∃t,u=Value.float b t
 |.ref a,u=>u=Value.ref a
 |.ty n,u=>u=Value.type n
abbrev Vals:List V->List Value->Prop:=Paired RelV
theorem Vals.length{xs:List V}{us:List Value}(r:Vals xs us):xs.length=us.length:=Paired.length r
theorem Vals.get:∀{xs:List V}{us:List Value}{i:Nat}{x:V},Vals xs us->xs[i]?=some x->∃u,us[i]?=some u/\RelV x u
 |_,_,_,_,.nil,e=>by simp at e
 |_,_,0,_,.cons r _,e=>by simp at e;subst e;exact⟨_,rfl,r⟩
 |_,_,i+1,x,.cons _ t,e=>by
  obtain⟨u,h1,h2⟩:=Vals.get (i:=i) (x:=x) t (by simpa using e)
  exact⟨u,by simpa using h1,h2⟩
theorem Vals.set(r:RelV x u):∀{xs:List V}{us:List Value} (i:Nat),Vals xs us->Vals (xs.set i x) (us.set i u)
 |_,_,_,.nil=>.nil
 |_,_,0,.cons _ t=>.cons r t
 |_,_,i+1,.cons q t=>.cons q (Vals.set r i t)
theorem Vals.append:∀{xs ys:List V}{us ws:List Value},Vals xs us->Vals ys ws->Vals (xs++ys) (us++ws)
 |_,_,_,_,.nil,s=>s
 |_,_,_,_,.cons r t,s=>.cons r (Vals.append t s)
theorem Vals.take:∀{xs:List V}{us:List Value} (n:Nat),Vals xs us->Vals (xs.take n) (us.take n)
 |_,_,0,_=>.nil
 |_,_,_+1,.nil=>.nil
 |_,_,n+1,.cons r t=>.cons r (Vals.take n t)
theorem Vals.drop:∀{xs:List V}{us:List Value} (n:Nat),Vals xs us->Vals (xs.drop n) (us.drop n)
 |_,_,0,r=>r
 |_,_,_+1,.nil=>.nil
 |_,_,n+1,.cons _ t=>Vals.drop n t
def RelO:Option V->Option Value->Prop
 |some v,some u=>RelV v u
 |none,none=>True
 |_,_=>False
def KV:List (κ×V)->List (κ×Value)->Prop:=Paired λ(p:κ×V) (q:κ×Value)=>p.1=q.1/\RelV p.2 q.2
def kV:Key->V
 |.inl i=>.int i
 |.inr x=>.str x
inductive HO where
 |lst (xs:List V)
 |tup (xs:List V)
 |dK (m_:List (Key×V))|dT (m_:List (List Key×V))
 |set (S:Int->Bool) (n:Nat)
 |ins (C dx:Addr) (fs:List (Str×V))
 |own (x:Addr)
 |xd (fs:List (Str×V))
 |met (f x:Addr)
 |rng (lo hi:Int)
 |u_ (o:Obj) (u:HO)
 |Ng (ps:Array Value)
 |ext (φ:Heap->Prop)
abbrev Hp:=Addr->Option HO
def upd(H:Hp)(a:Addr)(o:HO):Hp:=λb=>if b=a then some o else H b
theorem ai:upd H a o a=some o:=by unfold upd;rw[Kp rfl]
theorem ah(h:b≠a):upd H a o b=H b:=by unfold upd;rw[Kj h]
theorem dC{H:Hp}{a b:Addr}{o u:HO}(h:H a=some o)(h':H b=some u)(d:o≠u):a≠b:=by
 intro e;subst e;rw[h]at h';exact d (KA h')
theorem aH{H:Hp}{a b:Addr}{o:HO}(h:H a=some o)(h':H b=none):a≠b:=by
 intro e;subst e;rw[h]at h';cases h'
section
variable (P:Program) (w:World)
def ObjOk(H:Hp)(h:Heap)(a:Addr):HO->Prop
 |.lst xs=>xs.length<=sizeLine/\∃(f_:List Value) (n:Nat),Vals xs f_/\h.get? a=some {cls:=.type "list",data:=.seq f_.toArray n}
 |.tup xs=>xs.length<=sizeLine/\∃f_:List Value,Vals xs f_/\IsTup h a f_.toArray
 |.dK m_=>m_.length<=sizeLine/\(a == sysModules)=false/\∃vs,KV m_ vs/\h.DictOf (aB P w) a vs
 |.dT m_=>m_.length<=sizeLine/\(a == sysModules)=false/\∃xs:List (List Key×Addr×Value),
   Paired (λ(p:List Key×V) (q:List Key×Addr×Value)=>p.1=q.1/\H q.2.1=some (.tup (p.1.map kV))/\RelV p.2 q.2.2) m_ xs/\
   ∃o es ep,h.get? a=some o/\o.ExactDict/\o.data=.dict es ep/\es.toList=xs.map (entryOfKey (tupleKind (aB P w)))/\(xs.map (·.1)).Nodup
 |.set S n=>h.SetOf (intKind P w) a S n
 |.ins C dx fs=>H dx=some (.own a)/\fs.length<=1000/\dx≠a/\h.get? a=some (PySem.W.instObj C dx)/\
   ∃mA,h.Ns1 dx mA/\(∀f,RelO (fs.lookup f) (mA f))/\PySem.Within mA (fs.map (·.1))
 |.own _=>∃o,h.get? a=some o
 |.xd fs=>∃mA,h.Ns1 a mA/\∀f,RelO (fs.lookup f) (mA f)
 |.rng lo hi=>∃t u v,h.get? a=some {cls:=.type "range",data:=.fields #[.int lo t,.int hi u,.int 1 v]}
 |.u_ o u=>h.get? a=some o/\ObjOk H h a u
 |.Ng ps=>h.get? a=some {cls:=.none,data:=.fields ps}
 |.met f x=>h.get? a=some (PySem.W.methodObj (.ref f) (.ref x))
 |.ext φ=>φ h/\(∃o,h.get? a=some o)/\∀h1 h2:Heap,φ h1->(∀o,h1.get? a=some o->h2.get? a=some o)->φ h2
def HOk(H:Hp)(h:Heap):Prop:=∀a o,H a=some o->ObjOk P w H h a o
end
section
variable {P:Program}{w:World}{H H':Hp}{h h':Heap}{a:Addr}{o:HO}
theorem ObjOk.lt(x:ObjOk P w H h a o):a<h.objs.size:=by
 cases o with
 |lst xs=>obtain⟨_,_,_,_,e⟩:=x;exact Kw e
 |tup xs=>obtain⟨_,_,_,p⟩:=x;exact p.lt
 |dK m_=>obtain⟨_,_,_,_,o,_,_,e,_⟩:=x;exact Kw e
 |dT m_=>obtain⟨_,_,_,_,o,_,_,e,_⟩:=x;exact Kw e
 |set S n=>obtain⟨o,_,_,_,e,_⟩:=x;exact Kw e
 |ins C dx fs=>obtain⟨_,_,_,e,_⟩:=x;exact Kw e
 |own y=>obtain⟨_,e⟩:=x;exact Kw e
 |xd fs=>obtain⟨_,⟨_,_,_,e,_⟩,_⟩:=x;exact Kw e
 |rng lo hi=>obtain⟨_,_,_,e⟩:=x;exact Kw e
 |u_ ob u=>obtain⟨e,_⟩:=x;exact Kw e
 |Ng ps=>exact Kw (show h.get? a=some _ from x)
 |met f y=>exact Kw (show h.get? a=some _ from x)
 |ext φ=>obtain⟨_,⟨_,e⟩,_⟩:=x;exact Kw e
theorem Paired.mapP:∀{OR:List α}{OS:List β},Paired F OR OS->(∀a b,F a b->G a b)->Paired G OR OS
 |_,_,.nil,_=>.nil
 |_,_,.cons r t,f=>.cons (f _ _ r) (Paired.mapP t f)
theorem ObjOk.stay(x:ObjOk P w H h a o)(k:∀b u,(b=a\/H b=some (.own a))->h.get? b=some u->h'.get? b=some u)
  (ho:∀b,H b=some (.own a)->H' b=some (.own a)) (ht:∀b xs,H b=some (.tup xs)->H' b=some (.tup xs)):ObjOk P w H' h' a o:=by
 induction o with
 |lst xs=>obtain⟨z,f_,n,r,e⟩:=x;exact⟨z,f_,n,r,k _ _ (.inl rfl) e⟩
 |tup xs=>obtain⟨z,f_,r,ob,e,c⟩:=x;exact⟨z,f_,r,ob,k _ _ (.inl rfl) e,c⟩
 |dK m_=>obtain⟨z,y,vs,r,ob,es,ep,e,c⟩:=x;exact⟨z,y,vs,r,ob,es,ep,k _ _ (.inl rfl) e,c⟩
 |dT m_=>
  obtain⟨z,y,xs,r,ob,es,ep,e,c⟩:=x;exact⟨z,y,xs,Paired.mapP r λp q z=>⟨z.1,ht _ _ z.2.1,z.2.2⟩,ob,es,ep,k _ _ (.inl rfl) e,c⟩
 |set S n=>obtain⟨ob,es,ep,t,e,c⟩:=x;exact⟨ob,es,ep,t,k _ _ (.inl rfl) e,c⟩
 |ins C dx fs=>
  obtain⟨d,z,ne,e,mA,⟨od,es,ep,e2,c⟩,r⟩:=x;exact⟨ho _ d,z,ne,k _ _ (.inl rfl) e,mA,⟨od,es,ep,k _ _ (.inr d) e2,c⟩,r⟩
 |own y=>obtain⟨ob,e⟩:=x;exact⟨ob,k _ _ (.inl rfl) e⟩
 |xd fs=>obtain⟨mA,⟨od,es,ep,e,c⟩,r⟩:=x;exact⟨mA,⟨od,es,ep,k _ _ (.inl rfl) e,c⟩,r⟩
 |rng lo hi=>obtain⟨t,u,v,e⟩:=x;exact⟨t,u,v,k _ _ (.inl rfl) e⟩
 |u_ ob u ih=>obtain⟨e,q⟩:=x;exact⟨k _ _ (.inl rfl) e,ih q⟩
 |Ng ps=>
  have e:h.get? a=some {cls:=.none,data:=.fields ps}:=x;show h'.get? a=some {cls:=.none,data:=.fields ps};exact k a _ (.inl rfl) e
 |met f y=>
  have e:h.get? a=some (PySem.W.methodObj (.ref f) (.ref y)):=x;show h'.get? a=some (PySem.W.methodObj (.ref f) (.ref y));exact k a _ (.inl rfl) e
 |ext φ=>obtain⟨p,⟨o,e⟩,st⟩:=x;exact⟨st _ _ p λo q=>k _ _ (.inl rfl) q,⟨o,k _ _ (.inl rfl) e⟩,st⟩
theorem HOk.lt(x:HOk P w H h)(e:H a=some o):a<h.objs.size:=(x a o e).lt
theorem HOk.fresh(x:HOk P w H h)(e:h.objs.size<=a):H a=none:=by
 cases q:H a with
 |none=>rfl
 |some u=>exact absurd (Kv (x.lt q) e) (K5 _)
theorem HOk.kept(x:HOk P w H h)(k:∀b u,h.get? b=some u->h'.get? b=some u):HOk P w H h':=λa o e=>
 (x a o e).stay (λb u _ q=>k b u q) (λ_ q=>q) λ_ _ q=>q
theorem HOk.laid(x:HOk P w H h)(k:∀b u,h.get? b=some u->h'.get? b=some u)(hp:h.objs.size<=a)(new:ObjOk P w (upd H a o) h' a o):HOk P w (upd H a o) h':=λb u e=>by
 have hn:=x.fresh hp;by_cases hb:b=a
 ·subst hb;rw[ai]at e;cases e;exact new
 ·rw[ah hb]at e;exact (x b u e).stay (λc v _ q=>k c v q) (λc q=>by rw[ah (aH q hn)];exact q) λc xs q=>by rw[ah (aH q hn)];exact q
end
def Rd(H:Hp)(a:Addr)(u:HO):Prop:=H a=some u\/∃o,H a=some (.u_ o u)
theorem Rd.ok{P:Program}{w:World}{H:Hp}{h:Heap}{a:Addr}{u:HO}(r:Rd H a u)(x:HOk P w H h):ObjOk P w H h a u:=by
 rcases r with r|⟨o,r⟩
 ·exact x a u r
 ·obtain⟨_,q⟩:=x a _ r;exact q
def Mut:Option HO->Prop
 |some (.lst _)=>True
 |some (.dK _)=>True
 |some (.dT _)=>True
 |some (.set _ _)=>True
 |some (.ins _ _ _)=>True
 |some (.ext _)=>True
 |_=>False
section
variable {P:Program}{w:World}{h h':Heap}{x e:Addr}
theorem HOk.write(ok:HOk P w H h)(mu:Mut (H x))(he:e=x\/H e=some (.own x))(k:∀b u,b≠e->h.get? b=some u->h'.get? b=some u)(NK:∃u,h'.get? e=some u)
  (new:ObjOk P w (upd H x o') h' x o'):HOk P w (upd H x o') h':=λb u q=>by
 have OT:∀c y,H c=some (.own y)->c≠x:=λc y r z=>by subst z;rw[r]at mu;exact mu
 have yY:∀c xs,H c=some (.tup xs)->c≠x:=λc xs r z=>by subst z;rw[r]at mu;exact mu
 by_cases hb:b=x
 ·subst hb;rw[ai]at q;cases q;exact new
 ·rw[ah hb]at q;by_cases N4:b=e
  ·have q':H b=some (.own x):=by
    rcases he with z|z
    ·exact absurd (N4.trans z) hb
    ·rw[N4];exact z
   rw[q]at q';cases q';obtain⟨v,hv⟩:=NK;exact⟨v,by rw[N4];exact hv⟩
  ·refine (ok b u q).stay (λc v hc r=>k c v ?_ r) (λc r=>by rw[ah (OT c b r)];exact r) λc xs r=>by rw[ah (yY c xs r)];exact r
   rcases hc with rfl|hc
   ·exact N4
   ·rintro rfl;rcases he with z|z
    ·exact OT c b hc z
    ·rw[hc]at z;cases z;exact hb rfl
end
structure Un (fs ex:List Addr)(H H':Hp)(h h':Heap):Prop where
 keep:∀b o,h.get? b=some o->H b=none->b∉fs->b∉ex->h'.get? b=some o
 slot:∀b o,h.get? b=some o->H b=none->b∈fs->b∉ex->∃sl,h'.get? b=some {o with slots:=sl}
 free:∀b o,h.get? b=some o->H b=none->b∉ex->H' b=none
 there:∀b o,h.get? b=some o->b∉ex->∃o',h'.get? b=some o'
 tups:∀b xs,H b=some (.tup xs)->H' b=some (.tup xs)
 LG:∀b o u,H b=some (.u_ o u)->H' b=some (.u_ o u)
 LP:∀b ps,H b=some (.Ng ps)->∃Ml,H' b=some (.Ng (ps++Ml))
section
variable {fs Ub ex Uc:List Addr}{H H1 H2:Hp}{h h1 h2 h':Heap}{a x e:Addr}{o:HO}
theorem Un.any(u:Un fs ex H H1 h h1)(q:h.get? b=some ob)(n:H b=none)(hx:b∉ex):∃sl,h1.get? b=some {ob with slots:=sl}:=by
 by_cases hb:b∈fs
 ·exact u.slot b ob q n hb hx
 ·exact⟨ob.slots,u.keep b ob q n hb hx⟩
theorem Un.kept(k:∀b u,h.get? b=some u->h'.get? b=some u):Un fs ex H H h h':=
 ⟨λb ob q _ _ _=>k b ob q,λb ob q _ _ _=>⟨ob.slots,k b ob q⟩,λ_ _ _ n _=>n,λb ob q _=>⟨ob,k b ob q⟩,λ_ _ q=>q,λ_ _ _ q=>q,λ_ ps q=>⟨#[],by rw[q];simp⟩⟩
theorem Un.refl:Un fs ex H H h h:=Un.kept λ_ _ q=>q
theorem Un.laid(k:∀b u,h.get? b=some u->h'.get? b=some u)(hp:h.objs.size<=a)(hn:H a=none):Un fs ex H (upd H a o) h h' where
 keep:=λb u q _ _ _=>k b u q
 slot:=λb u q _ _ _=>⟨u.slots,k b u q⟩
 free:=λb u q n _=>by rw[ah (KH (Kv (Kw q) hp))];exact n
 there:=λb u q _=>⟨u,k b u q⟩
 tups:=λb xs q=>by rw[ah (aH q hn)];exact q
 LG:=λb u xs q=>by rw[ah (aH q hn)];exact q
 LP:=λb ps q=>⟨#[],by rw[ah (aH q hn),q];simp⟩
theorem Un.write(mu:Mut (H x))(he:e=x\/H e=some (.own x))(k:∀b u,b≠e->h.get? b=some u->h'.get? b=some u)(NK:∃u,h'.get? e=some u):Un fs ex H (upd H x o) h h':=by
 have hx:∀b,H b=none->b≠x:=λb n z=>by subst z;rw[n]at mu;exact mu
 have hb:∀b,H b=none->b≠e:=λb n z=>by
  subst z;rcases he with r|r
  ·exact hx b n r
  ·rw[n]at r;cases r
 have hm:∀b u,H b=some u->¬ Mut (some u)->b≠x:=λb u q nm z=>by subst z;rw[q]at mu;exact nm mu
 refine⟨λb u q n _ _=>k b u (hb b n) q,λb u q n _ _=>⟨u.slots,k b u (hb b n) q⟩,λb u q n _=>by rw[ah (hx b n)];exact n,λb u q _=>?_,
  λb xs q=>by rw[ah (hm b _ q λz=>z)];exact q,λb u xs q=>by rw[ah (hm b _ q λz=>z)];exact q,λb ps q=>⟨#[],by rw[ah (hm b _ q λz=>z),q];simp⟩⟩
 by_cases N4:b=e
 ·subst N4;exact NK
 ·exact⟨u,k b u N4 q⟩
end
def trk(h:Heap)(H:Hp):List Addr:=(List.range h.objs.size).filter λa=>(H a).isSome
def m9(h:Heap)(H:Hp):Heap:=PySem.W.hideAll h (trk h H)
theorem tK(h:Heap)(H:Hp):(m9 h H).objs.size=h.objs.size:=PySem.W.hideAll_size _ _
theorem u8{h:Heap}(e:h.get? b=some o)(n:H b=none):(m9 h H).get? b=some o:=
 PySem.W.hideAll_get _ e λhm=>by
  have q:(H b).isSome=true:=(List.mem_filter.mp hm).2;rw[n]at q;simp at q
theorem zz{h:Heap}(e:(m9 h H).get? b=some o):h.get? b=some o/\H b=none:=by
 have e':h.get? b=some o:=PySem.W.of_hideAll (trk h H) e;refine⟨e',?_⟩;cases q:H b with
 |none=>rfl
 |some x=>
  have hm:b∈trk h H:=List.mem_filter.mpr ⟨List.mem_range.mpr (Kw e'),by simp[q]⟩
  have z:(m9 h H).get? b=none:=PySem.W.hideAll_none (trk h H) hm;rw[z]at e;cases e
def yp(g h:Heap)(L:Addr):List (Addr×Obj):=(List.range h.objs.size).filterMap λa=>if a=L\/(g.get? a).isSome=true then none else (h.get? a).map λo=>(a,o)
def aU(g h:Heap)(L d:Addr):List (Addr×Obj):=(yp g h L).filter λp=>decide (p.1≠d)
structure Mod (K:Lr)(mg:Str->Option Value)(base:Heap):Prop where
 kin:K.In base
 glob:base.Ns mainGlobals mg
 blt:∃mb,base.Ns builtinsNs mb/\∀x:Str,x≠"__name__"->mb x=bootBuiltins x
 nolimit:base.NoLimit
structure Cx where
 prog:Program
 w:World
 K:Lr
 mg:Str->Option Value
 base:Heap
 A:Around
 N:List Str
 s₀:Shared
 H₀:Hp
 env:Env
 outer:List Env
 stack:List Env
 ex:List Addr
 fn:Str->Bool
 calm:Bool
 pn:List (Addr×Obj)
 xe:Value->Shared->Prop
def frs(l:List Env):List Addr:=l.filterMap (·.frame)
abbrev Cx.fs(X:Cx):List Addr:=frs X.outer
def Vis(sc:Scope)(x:Str):Prop:=sc.names.lookup x=some .local\/sc.names.lookup x=some .cell\/sc.names.lookup x=some .free
def Loc(sc:Scope)(x:Str):Prop:=sc.names.lookup x=some .local\/sc.names.lookup x=some .cell
def HV(env:Env)(h:Heap)(m:Str->Option Value)(x:Str)(u:Value):Prop:=
 (env.kindOf x=some .local/\m x=some u)\/((env.kindOf x=some .cell\/env.kindOf x=some .free)/\∃c,env.cells.lookup x=some c/\h.IsCell c (some u))
structure Cx.Ok (X:Cx):Prop where
 mod:Mod X.K X.mg X.base
 kind:X.env.scope.kind=.function
 glob:X.env.globals=mainGlobals
 blt:X.env.builtins=builtinsNs
 above:X.s₀.heap.objs.size<=X.env.locals
 inj:∀x y c,X.env.cells.lookup x=some c->X.env.cells.lookup y=some c->x=y
 has:∀x,(X.env.kindOf x=some .cell\/X.env.kindOf x=some .free)->∃c,X.env.cells.lookup x=some c
 cab:∀x c,X.fn x=true->X.env.cells.lookup x=some c->X.s₀.heap.objs.size<=c
 hd:X.calm=true->X.A.handled=none
 frames:X.A.frames=some X.stack
 stk:X.stack=X.outer\/(X.stack=X.env::X.outer/\X.env.frame=some X.env.locals)
 exf:∀b∈X.ex,b≠X.env.locals/\∀x c,X.env.cells.lookup x=some c->c≠b
 bs:∀b o,X.base.get? b=some o->X.s₀.heap.get? b=some o/\X.H₀ b=none
 bsz:X.base.objs.size<=X.s₀.heap.objs.size
 noex:∀b o,X.base.get? b=some o->b∉X.ex
 exfs:∀b∈X.ex,b∉X.fs
 funs:X.s₀.heap.FunFrames X.base X.outer
 frf:∀b∈X.fs,X.H₀ b=none
structure Inv (X:Cx) (a_:List (Addr×Obj)) (Z:List (Option V)) (H:Hp)(s:Shared):Prop where
 ok:X.Ok
 os:s.os=X.s₀.os
 bare:AllBare s.gens
 base:Un X.fs X.ex X.H₀ H X.s₀.heap s.heap
 loc:∃m,s.heap.Ns X.env.locals m/\∀(i:Nat)(x:Str)(v:V),X.N[i]?=some x->Z[i]?=some (some v)->Vis X.env.scope x->∃u,RelV v u/\HV X.env s.heap m x u
 cell:∀x c,X.env.cells.lookup x=some c->∃v,s.heap.IsCell c v
 free:H X.env.locals=none
 freeC:∀x c,X.env.cells.lookup x=some c->H c=none
 pin:∀p∈X.pn++a_,s.heap.get? p.1=some p.2/\H p.1=none/\p.1≠X.env.locals/\p.1∉X.fs/\∀v,p.2.data≠.cell v
 j_:HOk X.prog X.w H s.heap
 len:Z.length=X.N.length
section
variable {X:Cx}{Z:List (Option V)}{s:Shared}{h':Heap}
theorem Cx.Ok.nofr(ok:X.Ok)(e:X.base.get? b=some o):b∉X.fs:=λhb=>by
 have:=(ok.funs.mem hb).1;rw[e]at this;cases this
theorem Inv.bs(I:Inv X a_ Z H s):∀b o,X.base.get? b=some o->s.heap.get? b=some o/\H b=none:=λb o e=>
 ⟨I.base.keep b o (I.ok.bs b o e).1 (I.ok.bs b o e).2 (I.ok.nofr e) (I.ok.noex b o e),I.base.free b o (I.ok.bs b o e).1 (I.ok.bs b o e).2 (I.ok.noex b o e)⟩
theorem Inv.bk(I:Inv X a_ Z H s):∀b o,X.base.get? b=some o->s.heap.get? b=some o:=λb o e=>(I.bs b o e).1
theorem Inv.mod(I:Inv X a_ Z H s):Mod X.K X.mg X.base:=I.ok.mod
theorem Inv.kIn(I:Inv X a_ Z H s):X.K.In s.heap:=I.ok.mod.kin.keeps I.bk
theorem Inv.lt(I:Inv X a_ Z H s):X.env.locals<s.heap.objs.size:=let ⟨_,hn,_⟩:=I.loc;hn.lt
theorem Inv.sz(I:Inv X a_ Z H s):X.s₀.heap.objs.size<=s.heap.objs.size:=KB I.ok.above (Nat.le_of_lt I.lt)
theorem Inv.nofs(I:Inv X a_ Z H s)(h:s.heap.objs.size<=a):a∉X.fs:=λhb=>by
 obtain⟨_,o,ho,_⟩:=I.ok.funs.mem hb;exact absurd (Kv (Kw ho) (KB I.sz h)) (K5 _)
theorem Inv.cne(I:Inv X a_ Z H s):∀x c,X.env.cells.lookup x=some c->c≠X.env.locals:=λx c e z=>by
 obtain⟨v,o,ho,hd⟩:=I.cell x c e;obtain⟨m,⟨o',es,ep,Md,Qj,_⟩,_⟩:=I.loc;rw[z,Md]at ho;cases ho;rw[Qj]at hd;cases hd
theorem Inv.funs(I:Inv X a_ Z H s):s.heap.FunFrames X.base X.outer:=by
 have all:∀(l:List Env),(∀b∈frs l,b∈X.fs)->X.s₀.heap.FunFrames X.base l->s.heap.FunFrames X.base l:=by
  intro l
  induction l with
  |nil=>intro _ _;trivial
  |cons env r ih=>
   intro hs hl;obtain⟨hk,⟨L,o,hf,hn,ho,hd⟩,hr⟩:=hl;have hL:L∈X.fs:=hs L (by unfold frs;rw[List.filterMap_cons,hf];exact Kl)
   obtain⟨sl,e⟩:=I.base.slot L o ho (I.ok.frf L hL) hL λz=>I.ok.exfs L z hL
   exact⟨hk,⟨L,_,hf,hn,e,hd⟩,ih (λb hb=>hs b (by unfold frs;rw[List.filterMap_cons,hf];exact Ki _ hb)) hr⟩
 exact all X.outer (λ_ hb=>hb) I.ok.funs
theorem Inv.stack(I:Inv X a_ Z H s):s.heap.FunFrames X.base X.stack:=by
 rcases I.ok.stk with e|⟨e,hf⟩
 ·rw[e];exact I.funs
 ·rw[e];obtain⟨m,hn,_⟩:=I.loc;refine .cons (by rw[I.ok.kind];decide) hf hn ?_ I.funs
  exact Heap.get?_none_of_le (KB I.ok.bsz I.ok.above)
theorem Inv.stkSub(I:Inv X a_ Z H s):∀b∈frs X.stack,b∈X.env.locals::X.fs:=λb hb=>by
 rcases I.ok.stk with e|⟨e,hf⟩
 ·rw[e]at hb;exact Ki _ hb
 ·rw[e]at hb;unfold frs at hb;rw[List.filterMap_cons,hf]at hb;exact hb
theorem Inv.stkFree(I:Inv X a_ Z H s):∀b∈frs X.stack,H b=none:=λb hb=>by
 rcases Kq.mp (I.stkSub b hb) with e|hb
 ·rw[e];exact I.free
 ·obtain⟨_,o,ho,_⟩:=I.ok.funs.mem hb;exact I.base.free b o ho (I.ok.frf b hb) λz=>I.ok.exfs b z hb
theorem Inv.step{g':Array GenState}{t':Nat}{d':Drawn}{ch:List Addr}(I:Inv X a_ Z H s)
  (Nh:∀b∈ch,(b∈X.ex\/X.s₀.heap.objs.size<=b)/\b≠X.env.locals/\(∀x c,X.env.cells.lookup x=some c->c≠b)/\∀p∈X.pn++a_,p.1≠b)
  (keep:∀b o,b≠X.env.locals->b∉X.fs->b∉ch->s.heap.get? b=some o->H b=none->h'.get? b=some o)
  (slot:∀b o,b≠X.env.locals->b∈X.fs->b∉ch->s.heap.get? b=some o->H b=none->∃sl,h'.get? b=some {o with slots:=sl}) (free:∀b o,b∉ch->s.heap.get? b=some o->H b=none->H' b=none)
  (there:∀b o,b∉ch->s.heap.get? b=some o->∃o',h'.get? b=some o')
  (tups:∀b xs,H b=some (.tup xs)->H' b=some (.tup xs)) (LG:∀b o u,H b=some (.u_ o u)->H' b=some (.u_ o u)) (LP:∀b ps,H b=some (.Ng ps)->∃Ml,H' b=some (.Ng (ps++Ml)))
  (ns:∀m,s.heap.Ns X.env.locals m->h'.Ns X.env.locals m)(j_:HOk X.prog X.w H' h')(hg:AllBare g') :
  Inv X a_ Z H' {s with heap:=h',gens:=g',drawn:=d',toks:=t'}:=by
 have Rp:∀b o,X.s₀.heap.get? b=some o->b≠X.env.locals:=λb o e=>KH (Kv (Kw e) I.ok.above)
 have NL:∀b o,X.s₀.heap.get? b=some o->b∉X.ex->b∉ch:=λb o e hx hb=>by
  rcases (Nh b hb).1 with z|z
  ·exact hx z
  ·exact absurd (Kv (Kw e) z) (K5 _)
 have N2:∀x c,X.env.cells.lookup x=some c->∀v,s.heap.IsCell c v->h'.IsCell c v:=λx c e v ⟨o,ho,hd⟩=>by
  have OU:c∉ch:=λz=>(Nh c z).2.2.1 x c e rfl
  by_cases hc:c∈X.fs
  ·obtain⟨sl,q⟩:=slot c o (I.cne x c e) hc OU ho (I.freeC x c e);exact⟨_,q,hd⟩
  ·exact⟨o,keep c o (I.cne x c e) hc OU ho (I.freeC x c e),hd⟩
 refine⟨I.ok,I.os,hg,⟨λb o e n hb hx=>?_,λb o e n hb hx=>?_,λb o e n hx=>?_,λb o e hx=>?_,λb xs e=>tups b xs (I.base.tups b xs e),λb o xs e=>LG b o xs (I.base.LG b o xs e),λb ps e=>?_⟩,?_,λx c e=>?_,?_,λx c e=>?_,λp hp=>?_,j_,I.len⟩
 ·exact keep b o (Rp b o e) hb (NL b o e hx) (I.base.keep b o e n hb hx) (I.base.free b o e n hx)
 ·obtain⟨sl,e1⟩:=I.base.slot b o e n hb hx;obtain⟨Sg,e2⟩:=slot b _ (Rp b o e) hb (NL b o e hx) e1 (I.base.free b o e n hx);exact⟨Sg,e2⟩
 ·obtain⟨o',e1⟩:=I.base.there b o e hx;exact free b o' (NL b o e hx) e1 (I.base.free b o e n hx)
 ·obtain⟨o',e1⟩:=I.base.there b o e hx;exact there b o' (NL b o e hx) e1
 ·obtain⟨m1,e1⟩:=I.base.LP b ps e;obtain⟨m2,e2⟩:=LP b _ e1;exact⟨m1++m2,by rw[e2,Array.append_assoc]⟩
 ·obtain⟨m,hn,hl⟩:=I.loc;refine⟨m,ns m hn,λi x v e1 e2 e3=>?_⟩
  obtain⟨u,r,l⟩:=hl i x v e1 e2 e3;refine⟨u,r,?_⟩;rcases l with l|⟨k,c,e,z⟩
  ·exact .inl l
  ·exact .inr ⟨k,c,e,N2 x c e _ z⟩
 ·obtain⟨v,z⟩:=I.cell x c e;exact⟨v,N2 x c e v z⟩
 ·obtain⟨m,⟨o,_,_,ho,_⟩,_⟩:=I.loc;exact free _ o (λz=>(Nh _ z).2.1 rfl) ho I.free
 ·obtain⟨v,o,ho,hd⟩:=I.cell x c e;exact free c o (λz=>(Nh c z).2.2.1 x c e rfl) ho (I.freeC x c e)
 ·obtain⟨e,n,ne,nf,d⟩:=I.pin p hp;have OU:p.1∉ch:=λz=>(Nh p.1 z).2.2.2 p hp rfl
  exact⟨keep p.1 p.2 ne nf OU e n,free p.1 p.2 OU e n,ne,nf,d⟩
theorem Inv.un{t':Nat}(I:Inv X a_ Z H s)(u:Un X.fs [] H H' s.heap h')(j_:HOk X.prog X.w H' h'):Inv X a_ Z H' {s with heap:=h',toks:=t'}:=by
 obtain⟨m,⟨o,es,ep,ho,r⟩,_⟩:=id I.loc;obtain⟨sl,hL⟩:=u.any ho I.free (by simp)
 exact I.step (g':=s.gens) (d':=s.drawn) (ch:=[]) (λ_ z=>nomatch z) (λb o _ hb _ e n=>u.keep b o e n hb (by simp)) (λb o _ hb _ e n=>u.slot b o e n hb (by simp)) (λb o _ e n=>u.free b o e n (by simp)) (λb o _ e=>u.there b o e (by simp)) u.tups u.LG u.LP (λm' hm=>by
  obtain⟨o',Nq,OV,Md,r'⟩:=hm;rw[ho]at Md;cases Md;exact⟨_,Nq,OV,hL,r'⟩) j_ I.bare
theorem Inv.call{g':Array GenState}{t':Nat}{d':Drawn}{ch:List Addr}(I:Inv X a_ Z H s)(u:Un (frs X.stack) ch H H' s.heap h')(j_:HOk X.prog X.w H' h')(hg:AllBare g')
  (Nh:∀b∈ch,(b∈X.ex\/X.s₀.heap.objs.size<=b)/\b≠X.env.locals/\(∀x c,X.env.cells.lookup x=some c->c≠b)/\∀p∈X.pn++a_,p.1≠b) :
  Inv X a_ Z H' {s with heap:=h',gens:=g',drawn:=d',toks:=t'}:=by
 obtain⟨m,⟨o,es,ep,ho,r⟩,_⟩:=id I.loc;obtain⟨sl,hL⟩:=u.any ho I.free λz=>(Nh _ z).2.1 rfl
 exact I.step (ch:=ch) Nh (λb o hL hb hc e n=>u.keep b o e n (λz=>(Kq.mp (I.stkSub b z)).elim hL hb) hc) (λb o _ _ hc e n=>u.any e n hc) (λb o hc e n=>u.free b o e n hc) (λb o hc e=>u.there b o e hc) u.tups u.LG u.LP (λm' hm=>by
  obtain⟨o',Nq,OV,Md,r'⟩:=hm;rw[ho]at Md;cases Md;exact⟨_,Nq,OV,hL,r'⟩) j_ hg
theorem Inv.turned{t':Nat}{it:Addr}(I:Inv X a_ Z H s)(k:∀b o,b≠it->s.heap.get? b=some o->h'.get? b=some o)(hn:H it=none)(hL:it≠X.env.locals)
  (h1:it∈X.ex\/X.s₀.heap.objs.size<=it) (h2:∀x c,X.env.cells.lookup x=some c->c≠it) (h3:∀p∈X.pn++a_,p.1≠it):Inv X a_ Z H {s with heap:=h',toks:=t'}:=by
 have NN:∀b u,H b=some u->b≠it:=λb u e z=>by rw[z,hn]at e;cases e
 refine I.step (g':=s.gens) (d':=s.drawn) (ch:=[it]) (λb hb=>?_) (λb o _ _ hc e _=>k b o (λz=>hc (by simp[z])) e) (λb o _ _ hc e _=>⟨o.slots,k b o (λz=>hc (by simp[z])) e⟩) (λ_ _ _ _ n=>n)
  (λb o hc e=>⟨o,k b o (λz=>hc (by simp[z])) e⟩) (λ_ _ e=>e) (λ_ _ _ e=>e) (λb ps e=>⟨#[],by rw[e];simp⟩) (λm hm=>?_) (λb u e=>?_) I.bare
 ·have e:b=it:=by simpa using hb
  subst e;exact⟨h1,hL,h2,h3⟩
 ·obtain⟨o,es,ep,ho,r⟩:=hm;exact⟨o,es,ep,k _ o (Kz hL) ho,r⟩
 ·refine (I.j_ b u e).stay (λc v hc q=>k c v ?_ q) (λ_ q=>q) λ_ _ q=>q
  rcases hc with z|z
  ·rw[z];exact NN b u e
  ·exact NN c _ z
theorem Inv.tok(I:Inv X a_ Z H s)(t:Nat):Inv X a_ Z H {s with toks:=t}:=I.un (h':=s.heap) (t':=t) Un.refl I.j_
theorem Inv.kept(I:Inv X a_ Z H s)(k:∀b u,s.heap.get? b=some u->h'.get? b=some u):Inv X a_ Z H {s with heap:=h',toks:=t'}:=I.un (Un.kept k) (I.j_.kept k)
theorem Inv.laid(I:Inv X a_ Z H s)(k:∀b u,s.heap.get? b=some u->h'.get? b=some u)(hp:s.heap.objs.size<=a)(new:ObjOk X.prog X.w (upd H a o) h' a o) :
  Inv X a_ Z (upd H a o) {s with heap:=h',toks:=t'}:=I.un (Un.laid k hp (I.j_.fresh hp)) (I.j_.laid k hp new)
theorem Inv.write(I:Inv X a_ Z H s)(mu:Mut (H x))(he:e=x\/H e=some (.own x))(k:∀b u,b≠e->s.heap.get? b=some u->h'.get? b=some u)(NK:∃u,h'.get? e=some u)
  (new:ObjOk X.prog X.w (upd H x o) h' x o):Inv X a_ Z (upd H x o) {s with heap:=h',toks:=t'}:=I.un (Un.write mu he k NK) (I.j_.write mu he k NK new)
theorem Inv.pins_of(I:Inv X a_ Z H s)(h:∀p∈MS,s.heap.get? p.1=some p.2/\H p.1=none/\p.1≠X.env.locals/\p.1∉X.fs/\∀v,p.2.data≠.cell v):Inv X MS Z H s:=
 ⟨I.ok,I.os,I.bare,I.base,I.loc,I.cell,I.free,I.freeC,λp hp=>(KD.mp hp).elim (λz=>I.pin p (K2 _ z)) (h p),I.j_,I.len⟩
theorem oz{N:List Str}(hN:N.Nodup){i j:Nat}{x:Str}(a:N[i]?=some x)(b:N[j]?=some x):i=j:=by
 obtain⟨h1,e1⟩:=KP.mp a;obtain⟨h2,e2⟩:=KP.mp b;exact (List.getElem_inj hN).mp (e1.trans e2.symm)
theorem uF{M:Model}{A:Around}{E:Value->Shared->Prop}{i:Nat}{x:Str}{v:V}{u:Value}{Q:Unit->Shared->Prop}(I:Inv X a_ Z H s)(hN:X.N.Nodup)(hi:X.N[i]?=some x)(hx:Loc X.env.scope x)(r:RelV v u)
  (h:∀s',Inv X a_ (Z.set i (some v)) H s'->(∃a,Heap.SameBut a s.heap s'.heap/\(a=X.env.locals\/X.env.cells.lookup x=some a))->Q () s') (hf:X.fn x=true\/X.env.scope.names.lookup x=some .local:=by first|exact .inl rfl|exact .inr rfl|assumption):wpAny M A (storeName X.env x u) Q E s:=by
 obtain⟨m,hn,hl⟩:=id I.loc;have Qk:(X.env.scope.kind == .class||(X.env.scope.kind == .module&&X.env.locals != X.env.globals))=false:=by rw[I.ok.kind];rfl
 have OW:i<Z.length:=by rw[I.len];exact (KP.mp hi).1
 have cne:=I.cne;have tracked:∀{a:Addr}{h':Heap},(∃o,s.heap.get? a=some o/\H a=none)->Heap.SameBut a s.heap h'->HOk X.prog X.w H h':=λ{a h'} ha hs b ob e=>by
  obtain⟨_,_,NP⟩:=ha;refine (I.j_ b ob e).stay (λc w' hc q=>(hs.2 c ?_).trans q) (λ_ q=>q) λ_ _ q=>q
  rintro rfl;rcases hc with rfl|hc
  ·rw[NP]at e;cases e
  ·rw[NP]at hc;cases hc
 rcases hx with hk|hk
 ·refine wpAny_storeName_local hk hn (λh' Ql hs=>?_) Qk
  obtain⟨oL,_,_,Sh,_⟩:=id hn;refine h _ ⟨I.ok,I.os,I.bare,⟨λb o e n hb hx=>?_,λb o e n hb hx=>?_,I.base.free,λb o e hx=>?_,I.base.tups,I.base.LG,I.base.LP⟩,⟨_,Ql,λj y v' e1 e2 e3=>?_⟩,λy c e=>?_,I.free,I.freeC,λp hp=>?_,tracked ⟨oL,Sh,I.free⟩ hs,by simpa using I.len⟩ ⟨_,hs,.inl rfl⟩
  ·exact (hs.2 b (KH (Kv (Kw e) I.ok.above))).trans (I.base.keep b o e n hb hx)
  ·obtain⟨sl,e1⟩:=I.base.slot b o e n hb hx;exact⟨sl,(hs.2 b (KH (Kv (Kw e) I.ok.above))).trans e1⟩
  ·obtain⟨o',e1⟩:=I.base.there b o e hx;exact⟨o',(hs.2 b (KH (Kv (Kw e) I.ok.above))).trans e1⟩
  ·by_cases hj:j=i
   ·subst hj;rw[hi]at e1;cases e1;rw[List.getElem?_set_self OW]at e2;cases e2;exact⟨u,r,.inl ⟨hk,by simp⟩⟩
   ·rw[Lq (Kz hj)]at e2;obtain⟨u',r',q⟩:=hl j y v' e1 e2 e3;refine⟨u',r',?_⟩;rcases q with ⟨k,e⟩|⟨k,c,e,z⟩
    ·refine .inl ⟨k,?_⟩;have:y≠x:=λe=>hj (oz hN e1 (e▸hi))
     simp[this,e]
    ·exact .inr ⟨k,c,e,z.sameBut hs (cne y c e)⟩
  ·obtain⟨w',z⟩:=I.cell y c e;exact⟨w',z.sameBut hs (cne y c e)⟩
  ·obtain⟨e,n,ne,nf,d⟩:=I.pin p hp;exact⟨(hs.2 p.1 ne).trans e,n,ne,nf,d⟩
 ·have MF:X.fn x=true:=by
   rcases hf with z|z
   ·exact z
   ·rw[z]at hk;cases hk
  obtain⟨c,hc⟩:=I.ok.has x (.inl hk);obtain⟨w',z⟩:=I.cell x c hc;refine wpAny_storeName_cell I.ok.kind hk hc z (λh' PL hs=>?_)
  obtain⟨oc,Rq,Qm⟩:=id z;refine h {s with heap:=h'} ⟨I.ok,I.os,I.bare,⟨λb o e n hb hx=>?_,λb o e n hb hx=>?_,I.base.free,λb o e hx=>?_,I.base.tups,I.base.LG,I.base.LP⟩,⟨m,hn.sameBut hs (Kz (cne x c hc)),λj y v' e1 e2 e3=>?_⟩,λy c' e=>?_,I.free,I.freeC,λp hp=>?_,tracked ⟨oc,Rq,I.freeC x c hc⟩ hs,by simpa using I.len⟩ ⟨c,hs,.inr hc⟩
  ·exact (hs.2 b (KH (Kv (Kw e) (I.ok.cab x c MF hc)))).trans (I.base.keep b o e n hb hx)
  ·obtain⟨sl,e1⟩:=I.base.slot b o e n hb hx;exact⟨sl,(hs.2 b (KH (Kv (Kw e) (I.ok.cab x c MF hc)))).trans e1⟩
  ·obtain⟨o',e1⟩:=I.base.there b o e hx;exact⟨o',(hs.2 b (KH (Kv (Kw e) (I.ok.cab x c MF hc)))).trans e1⟩
  ·by_cases hj:j=i
   ·subst hj;rw[hi]at e1;cases e1;rw[List.getElem?_set_self OW]at e2;cases e2;exact⟨u,r,.inr ⟨.inl hk,c,hc,PL⟩⟩
   ·rw[Lq (Kz hj)]at e2;obtain⟨u',r',q⟩:=hl j y v' e1 e2 e3;refine⟨u',r',?_⟩;rcases q with q|⟨k,c',e,z'⟩
    ·exact .inl q
    ·refine .inr ⟨k,c',e,z'.sameBut hs ?_⟩;rintro rfl;exact hj (oz hN e1 (I.ok.inj _ _ _ e hc▸hi))
  ·by_cases PM:c'=c
   ·subst PM;exact⟨_,PL⟩
   ·obtain⟨w2,z2⟩:=I.cell y c' e;exact⟨w2,z2.sameBut hs PM⟩
  ·obtain⟨e,n,ne,nf,d⟩:=I.pin p hp;refine⟨(hs.2 p.1 ?_).trans e,n,ne,nf,d⟩;intro q;rw[q,Rq]at e;have q':oc=p.2:=KA e;exact d w' (by rw[<-q'];exact Qm)
theorem ph(I:Inv X a_ Z H s)(hN:X.N.Nodup)(hi:X.N[i]?=some x)(hx:Loc X.env.scope x)(r:RelV v u)
  (h:∀s',Inv X a_ (Z.set i (some v)) H s'->Q () s') (hf:X.fn x=true\/X.env.scope.names.lookup x=some .local:=by first|exact .inl rfl|exact .inr rfl|assumption):wpAny M A (storeName X.env x u) Q E s:=
 uF I hN hi hx r (λs' I' _=>h s' I') hf
theorem Inv.call'{s':Shared}(I:Inv X a_ Z H s)(ho:s'.os=s.os)(u:Un (frs X.stack) ch H H' s.heap s'.heap)(j_:HOk X.prog X.w H' s'.heap)(hg:AllBare s'.gens)
  (Nh:∀b∈ch,(b∈X.ex\/X.s₀.heap.objs.size<=b)/\b≠X.env.locals/\(∀x c,X.env.cells.lookup x=some c->c≠b)/\∀p∈X.pn++a_,p.1≠b):Inv X a_ Z H' s':=by
 obtain⟨h',g',d',t',o'⟩:=s';have e:o'=s.os:=ho;subst e;exact I.call (g':=g') (t':=t') (d':=d') u j_ hg Nh
end
abbrev XK:=Value->Option Addr->Hp->Prop
abbrev St:=List (Option V)
abbrev VK:=V->Hp->Prop
abbrev TE:=St->Hp->VK->Prop
abbrev TT:=St->Hp->(Bool->Hp->Prop)->Prop
abbrev TA:=St->Hp->(List V->Hp->Prop)->Prop
structure kh where
 nx:St->Hp->Prop
 rt:VK
 bk:St->Hp->Prop:=λ_ _=>False
 ct:St->Hp->Prop:=λ_ _=>False
abbrev TS:=kh->St->Hp->Prop
def EP(X:Cx)(a_:List (Addr×Obj))(Z:St)(Q:VK)(u:Value)(s':Shared):Prop:=∃v H',Inv X a_ Z H' s'/\RelV v u/\Q v H'
def TP(X:Cx)(a_:List (Addr×Obj))(Z:St)(Q:Bool->Hp->Prop)(b:Bool)(s':Shared):Prop:=∃H',Inv X a_ Z H' s'/\Q b H'
def AP(X:Cx)(a_:List (Addr×Obj))(Z:St)(Q:List V->Hp->Prop)(us:List Value)(s':Shared):Prop:=∃vs H',Inv X a_ Z H' s'/\Vals vs us/\Q vs H'
def SP(X:Cx)(a_:List (Addr×Obj))(D:kh)(f:Flow)(s':Shared):Prop:=
 match f with
 |.next=>∃l_ H',Inv X a_ l_ H' s'/\D.nx l_ H'
 |.brk=>∃l_ H',Inv X a_ l_ H' s'/\D.bk l_ H'
 |.cont=>∃l_ H',Inv X a_ l_ H' s'/\D.ct l_ H'
 |.ret u=>∃v l_ H',Inv X a_ l_ H' s'/\RelV v u/\D.rt v H'
def PE(X:Cx)(e:Expr)(t:TE):Prop:=
 ∀(a_:List (Addr×Obj)) (s:Shared)(Z:St)(H:Hp)(Q:VK),Inv X a_ Z H s->t Z H Q->wpAny (model X.prog X.w) X.A (eval e X.env) (EP X a_ Z Q) X.xe s
def PT(X:Cx)(e:Expr)(t:TT):Prop:=
 ∀(a_:List (Addr×Obj)) (s:Shared)(Z:St)(H:Hp)(Q:Bool->Hp->Prop),Inv X a_ Z H s->t Z H Q->wpAny (model X.prog X.w) X.A (isTrue e X.env (eval e X.env)) (TP X a_ Z Q) X.xe s
def PW(X:Cx)(e:Expr)(t:TT):Prop:=
 ∀(whole:Sem Value) (a_:List (Addr×Obj)) (s:Shared)(Z:St)(H:Hp)(Q:Bool->Hp->Prop),Inv X a_ Z H s->t Z H Q->wpAny (model X.prog X.w) X.A (isTrue e X.env whole) (TP X a_ Z Q) X.xe s
theorem PW.pt(h:PW X e t):PT X e t:=h _
def PA(X:Cx)(es:List Expr)(t:TA):Prop:=
 ∀(pos:Pos) (a_:List (Addr×Obj)) (s:Shared)(Z:St)(H:Hp)(Q:List V->Hp->Prop),Inv X a_ Z H s->t Z H Q->wpAny (model X.prog X.w) X.A (spliced (backTo pos (starEach es X.env))) (AP X a_ Z Q) X.xe s
def PS(X:Cx)(st:Stmt)(t:TS):Prop:=
 ∀(a_:List (Addr×Obj)) (s:Shared)(Z:St)(H:Hp)(D:kh),Inv X a_ Z H s->t D Z H->wpAny (model X.prog X.w) X.A (exec st X.env) (SP X a_ D) X.xe s
def PSs(X:Cx)(st:List Stmt)(t:TS):Prop:=
 ∀(a_:List (Addr×Obj)) (s:Shared)(Z:St)(H:Hp)(D:kh),Inv X a_ Z H s->t D Z H->wpAny (model X.prog X.w) X.A (execs st X.env) (SP X a_ D) X.xe s
theorem thn{α:Type}{t:Sem α}{Q Q':α->Shared->Prop}{M:Model}{A:Around}{E:Value->Shared->Prop}{s:Shared}(h:wpAny M A t Q E s)(hQ:∀a s,Q a s->Q' a s):wpAny M A t Q' E s:=Lh h hQ λ_ _ x=>x
section
variable {X:Cx}
theorem bin{a b:Expr}{ta tb:TE}(ha:PE X a ta)(hb:PE X b tb){a_:List (Addr×Obj)}{s:Shared}{Z:St}{H:Hp}{R:V->V->Hp->Prop}(I:Inv X a_ Z H s)(h:ta Z H λx H1=>tb Z H1 λy H2=>R x y H2)
  {α:Type}{Q:α->Shared->Prop}{f:Value->Value->Sem α}
  (hf:∀v u s2 x y H2,Inv X a_ Z H2 s2->RelV x v->RelV y u->R x y H2->wpAny (model X.prog X.w) X.A (f v u) Q X.xe s2) :
  wpAny (model X.prog X.w) X.A (eval a X.env) (λv r_=>wpAny (model X.prog X.w) X.A (eval b X.env) (λu N5=>wpAny (model X.prog X.w) X.A (f v u) Q X.xe N5) X.xe r_) X.xe s:=by
 refine thn (ha a_ s Z H _ I h) λv s1 ⟨x,H1,I1,r1,q1⟩=>?_
 refine thn (hb a_ s1 Z H1 _ I1 q1) λu s2 ⟨y,H2,I2,r2,q2⟩=>?_
 exact hf v u s2 x y H2 I2 r1 r2 q2
def Ir(i:Nat):TE:=λZ H Q=>∃v,Z[i]?=some (some v)/\Q v H
def tC(v:V):TE:=λ_ H Q=>Q v H
theorem B3(hN:X.N[i]?=some x)(hv:Vis X.env.scope x)(hd:(x == ("__debug__" : Str))=false:=by decide)(Ni:(x == ("__classdict__" : Str))=false:=by decide):PE X (.Name x pos) (Ir i):=by
 intro a_ s Z H Q I h;obtain⟨v,e,h⟩:=h;obtain⟨m,hn,hl⟩:=I.loc;obtain⟨u,r,l⟩:=hl i x v hN e hv;have fin:EP X a_ Z Q u s:=⟨v,H,I,r,h⟩;rcases l with ⟨hk,hm⟩|⟨hk,c,hc,NQ⟩
 ·exact wpAny_Name (wpAny_loadName_local I.ok.kind hk hn hm fin) hd
 ·rcases hk with hk|hk
  ·exact wpAny_Name (wpAny_loadName_cell I.ok.kind hk hc NQ fin) hd
  ·exact wpAny_Name (wpAny_loadName_free I.ok.kind hk hc NQ fin Ni) hd
theorem Ce{i j pos}:PE X (.Constant (.int i) j pos) (tC (.int i)):=λ_ _ _ H _ I h=>wpAny_Constant_int ⟨.int i,H,I.tok _,⟨_,rfl⟩,h⟩
theorem Ev{b j pos}:PE X (.Constant (.bool b) j pos) (tC (.bl b)):=λ_ _ _ H _ I h=>Constant_bool ⟨.bl b,H,I,rfl,h⟩
theorem CJ{j pos}:PE X (.Constant .none j pos) (tC .i_):=λ_ _ _ H _ I h=>Constant_none ⟨.i_,H,I,rfl,h⟩
theorem Cg{x j pos}:PE X (.Constant (.str x) j pos) (tC (.str x)):=λ_ _ _ H _ I h=>Calls.Constant_str ⟨.str x,H,I.tok _,⟨_,rfl⟩,h⟩
def Gl(X:Cx)(x:Str):Prop:=X.env.kindOf x=some .globalImplicit
theorem gZ(I:Inv X a_ Z H s)(hg:Gl X x)(hm:X.mg x=some u)(h:Q u s)
  (hd:(x == ("__debug__" : Str))=false:=by decide):wpAny (model X.prog X.w) X.A (eval (.Name x pos) X.env) Q E s:=
 Calls.Name_function_global I.ok.kind hg (Calls.loadGlobal_global (by rw[I.ok.glob];exact I.mod.glob.keeps I.bk) hm h) hd
theorem iF(I:Inv X a_ Z H s)(hg:Gl X x)(hm:X.mg x=none)(hv:bootBuiltins x=some u)(h:Q u s)
  (hn:x≠"__name__":=by decide) (hd:(x == ("__debug__" : Str))=false:=by decide):wpAny (model X.prog X.w) X.A (eval (.Name x pos) X.env) Q E s:=by
 obtain⟨mb,h1,h2⟩:=I.mod.blt;exact Calls.Name_function_global I.ok.kind hg (Calls.loadGlobal_builtin (by rw[I.ok.glob];exact I.mod.glob.keeps I.bk) hm (by rw[I.ok.blt];exact h1.keeps I.bk) ((h2 x hn).trans hv) h) hd
theorem rK(hg:Gl X x)(hm:X.mg x=some u)(r:RelV v u)(hd:(x == ("__debug__" : Str))=false:=by decide):PE X (.Name x pos) (tC v):=
 λ_ _ _ H _ I h=>gZ I hg hm ⟨v,H,I,r,h⟩ hd
theorem yJ(hg:Gl X x)(hm:X.mg x=none)(hv:bootBuiltins x=some u)(r:RelV v u)(hn:x≠"__name__":=by decide)(hd:(x == ("__debug__" : Str))=false:=by decide):PE X (.Name x pos) (tC v):=
 λ_ _ _ H _ I h=>iF I hg hm hv ⟨v,H,I,r,h⟩ hn hd
variable {a b:Expr}{ta tb:TE}{pos:Pos}
def tB(t:TE):TT:=λZ H Q=>t Z H λx H1=>∃c,x=.bl c/\Q c H1
theorem CZ{e:Expr}(h:PE X e t)(he:∀whole,isTrue e X.env whole=(do let v<-whole;standAt e.pos;holding [v] (truthy v)):=by intro _;rfl):PT X e (tB t):=by
 intro a_ s Z H Q I hw;refine isTrue_plain (thn (h a_ s Z H _ I hw) λv s1 ⟨x,H1,I1,r1,q1⟩=>?_) (he _)
 obtain⟨d,rfl,q⟩:=q1;cases r1;exact KR ⟨H1,I1,q⟩
variable {tA OX:TT}{aU:List Expr}
def G7(t u:TT):TT:=λZ H Q=>t Z H λc H1=>if c=true then u Z H1 Q else Q false H1
def tOr(t u:TT):TT:=λZ H Q=>t Z H λc H1=>if c=true then Q true H1 else u Z H1 Q
def Ha(t:TT):TT:=λZ H Q=>t Z H λc H1=>Q (!c) H1
theorem yt(ha:PT X a tA):PW X (.BoolOp .And [a] pos) tA:=by
 intro wh a_ s Z H Q I h;refine isTrue_and (thn (ha a_ s Z H Q I h) λc s1 e=>?_)
 cases c with
 |true=>exact isTrue_and_nil e
 |false=>exact e
theorem Cv(ha:PT X a tA):PW X (.BoolOp .Or [a] pos) tA:=by
 intro wh a_ s Z H Q I h;refine isTrue_or (thn (ha a_ s Z H Q I h) λc s1 e=>?_)
 cases c with
 |false=>exact isTrue_or_nil e
 |true=>exact e
theorem Bu(ha:PT X a tA)(hb:PW X (.BoolOp .And (b::aU) pos) OX):PW X (.BoolOp .And (a::b::aU) pos) (G7 tA OX):=by
 intro wh a_ s Z H Q I h;refine isTrue_and (thn (ha a_ s Z H _ I h) λc s1 ⟨H1,I1,q1⟩=>?_)
 cases c with
 |true=>exact hb wh a_ s1 Z H1 Q I1 q1
 |false=>exact⟨H1,I1,q1⟩
theorem Fy(ha:PT X a tA)(hb:PW X (.BoolOp .Or (b::aU) pos) OX):PW X (.BoolOp .Or (a::b::aU) pos) (tOr tA OX):=by
 intro wh a_ s Z H Q I h;refine isTrue_or (thn (ha a_ s Z H _ I h) λc s1 ⟨H1,I1,q1⟩=>?_)
 cases c with
 |true=>exact⟨H1,I1,q1⟩
 |false=>exact hb wh a_ s1 Z H1 Q I1 q1
theorem CP(ha:PT X a tA):PT X (.UnaryOp .Not a pos) (Ha tA):=by
 intro a_ s Z H Q I h;exact isTrue_not (ha a_ s Z H (λc H1=>Q (!c) H1) I h)
def Fx(ta tb:TE):TE:=λZ H Q=>ta Z H λx H1=>∃c,x=.bl c/\if c=true then tb Z H1 Q else Q (.bl false) H1
def IF(ta tb:TE):TE:=λZ H Q=>ta Z H λx H1=>∃c,x=.bl c/\if c=true then Q (.bl true) H1 else tb Z H1 Q
def DI(ta:TE):TE:=λZ H Q=>ta Z H λx H1=>∃c,x=.bl c/\Q (.bl (!c)) H1
theorem BF{op}(h:PE X a t):PE X (.BoolOp op [a] pos) t:=λa_ s Z H Q I hw=>BoolOp_one (h a_ s Z H Q I hw)
theorem Ci(ha:PE X a ta)(hb:PE X (.BoolOp .And (b::aU) pos) tb):PE X (.BoolOp .And (a::b::aU) pos) (Fx ta tb):=by
 intro a_ s Z H Q I h;refine BoolOp_and (thn (ha a_ s Z H _ I h) λv s1 ⟨x,H1,I1,r1,q1⟩=>?_)
 obtain⟨c,rfl,q1⟩:=q1;cases r1;refine KR ?_;cases c with
 |true=>exact hb a_ s1 Z H1 Q I1 q1
 |false=>exact⟨.bl false,H1,I1,rfl,q1⟩
theorem DY(ha:PE X a ta)(hb:PE X (.BoolOp .Or (b::aU) pos) tb):PE X (.BoolOp .Or (a::b::aU) pos) (IF ta tb):=by
 intro a_ s Z H Q I h;refine BoolOp_or (thn (ha a_ s Z H _ I h) λv s1 ⟨x,H1,I1,r1,q1⟩=>?_)
 obtain⟨c,rfl,q1⟩:=q1;cases r1;refine KR ?_;cases c with
 |false=>exact hb a_ s1 Z H1 Q I1 q1
 |true=>exact⟨.bl true,H1,I1,rfl,q1⟩
theorem Bb(ha:PE X a ta):PE X (.UnaryOp .Not a pos) (DI ta):=by
 intro a_ s Z H Q I h;refine UnaryOp_ (thn (ha a_ s Z H _ I h) λv s1 ⟨x,H1,I1,r1,q1⟩=>?_)
 obtain⟨c,rfl,q1⟩:=q1;cases r1;exact not_of (KR ⟨.bl (!c),H1,I1,rfl,q1⟩)
end
def SqL(K:Lr)(H:Hp)(a:Addr)(xs:List V):Prop:=
 Rd H a (.lst xs)\/
  ∃(o:Obj) (f_:Array Value) (n:Nat),K.lookup a=some o/\o.cls=.type "list"/\o.dict=none/\o.data=.seq f_ n/\f_.size<=sizeLine/\Vals xs f_.toList
def SqT(K:Lr)(H:Hp)(a:Addr)(xs:List V):Prop:=
 Rd H a (.tup xs)\/
  ∃(o:Obj) (f_:Array Value) (n:Nat),K.lookup a=some o/\o.cls=.type "tuple"/\o.data=.seq f_ n/\f_.size<=sizeLine/\Vals xs f_.toList
def HI:Value->Option V
 |.none=>some .i_
 |.bool b=>some (.bl b)
 |.int i _=>some (.int i)
 |.str x _=>some (.str x)
 |.bytes b _=>some (.PJ b)
 |.float b _=>some (.PK b)
 |.ref a=>some (.ref a)
 |.type n=>some (.ty n)
 |_=>none
theorem RelV.abs(r:RelV x u):HI u=some x:=by
 cases x with
 |i_=>cases r;rfl
 |bl _=>cases r;rfl
 |int _=>obtain⟨t,rfl⟩:=r;rfl
 |str _=>obtain⟨t,rfl⟩:=r;rfl
 |PJ _=>obtain⟨t,rfl⟩:=r;rfl
 |PK _=>obtain⟨t,rfl⟩:=r;rfl
 |ref _=>cases r;rfl
 |ty _=>cases r;rfl
theorem RelV.inj(r:RelV x u)(q:RelV y u):x=y:=KA (r.abs.symm.trans q.abs)
theorem Vals.inj:∀{xs ys:List V}{us:List Value},Vals xs us->Vals ys us->xs=ys
 |_,_,_,.nil,.nil=>rfl
 |_,_,_,.cons r t,.cons r' t'=>by rw[r.inj r',Vals.inj t t']
section
variable {X:Cx}{s:Shared}{a:Addr}{xs ys:List V}
theorem SqL.of{K:Lr}(h:H a=some (.lst xs)):SqL K H a xs:=.inl (.inl h)
theorem SqT.of{K:Lr}(h:H a=some (.tup xs)):SqT K H a xs:=.inl (.inl h)
theorem Inv.list(I:Inv X a_ Z H s)(h:SqL X.K H a xs):∃f_:List Value,Vals xs f_/\PlainL s.heap a f_.toArray/\xs.length<=sizeLine:=by
 rcases h with h|⟨o,f_,n,hk,hc,hd,hs,hz,r⟩
 ·obtain⟨z,f_,n,r,e⟩:=h.ok I.j_;exact⟨f_,r,⟨_,n,e,rfl,rfl,rfl⟩,z⟩
 ·refine⟨f_.toList,r,⟨o,n,I.kIn a o hk,hc,hd,by simpa using hs⟩,?_⟩
  have e:=r.length;simp only[Array.length_toList]at e;omega
theorem Inv.tuple(I:Inv X a_ Z H s)(h:SqT X.K H a xs):∃f_:List Value,Vals xs f_/\IsTup s.heap a f_.toArray/\xs.length<=sizeLine:=by
 rcases h with h|⟨o,f_,n,hk,hc,hs,hz,r⟩
 ·obtain⟨z,f_,r,p⟩:=h.ok I.j_;exact⟨f_,r,p,z⟩
 ·refine⟨f_.toList,r,⟨o,I.kIn a o hk,hc,n,by simpa using hs⟩,?_⟩
  have e:=r.length;simp only[Array.length_toList]at e;omega
theorem Inv.list_inj(I:Inv X a_ Z H s)(h:SqL X.K H a xs)(h':SqL X.K H a ys):xs=ys:=by
 obtain⟨f_,r,⟨o,n,e,_,_,d⟩,_⟩:=I.list h;obtain⟨its',r',⟨o',n',e',_,_,d'⟩,_⟩:=I.list h';rw[e]at e';cases e';rw[d]at d';injection d' with d1 _
 have:f_=its':=by simpa using congrArg Array.toList d1
 subst this;exact r.inj r'
theorem Inv.tuple_inj(I:Inv X a_ Z H s)(h:SqT X.K H a xs)(h':SqT X.K H a ys):xs=ys:=by
 obtain⟨f_,r,⟨o,e,_,n,d⟩,_⟩:=I.tuple h;obtain⟨its',r',⟨o',e',_,n',d'⟩,_⟩:=I.tuple h';rw[e]at e';cases e';rw[d]at d';injection d' with d1 _
 have:f_=its':=by simpa using congrArg Array.toList d1
 subst this;exact r.inj r'
end
section
variable {X:Cx}{s:Shared}
end
section
variable {X:Cx}{st:Stmt}{aU:List Stmt}{t u:TS}{e:Expr}{te:TE}{pos:Pos}
def tNext:TS:=λD Z H=>D.nx Z H
def Ig(t u:TS):TS:=λD Z H=>t {D with nx:=u D} Z H
theorem pss_nil:PSs X [] tNext:=λ_ _ Z H _ I h=>wpAny_execs_nil ⟨Z,H,I,h⟩
theorem uR(h1:PS X st t)(h2:PSs X aU u):PSs X (st::aU) (Ig t u):=by
 intro a_ s Z H D I h;refine wpAny_execs_cons (thn (h1 a_ s Z H {D with nx:=u D} I h) λf s1 q=>?_)
 cases f with
 |next=>
  obtain⟨l_,H',I',q⟩:=q;exact h2 a_ s1 l_ H' D I' q
 |ret v=>exact q
 |brk=>exact q
 |cont=>exact q
theorem Inv.quiet(I:Inv X a_ Z H s):interactive X.env=false:=by simp[interactive,I.ok.kind]
def F4(te:TE):TS:=λD Z H=>te Z H λ_ H1=>D.nx Z H1
theorem sk(he:PE X e te)(hs:swapsWith e none pos.line X.env=pure false:=by rfl):PS X (.Expr e pos) (F4 te):=by
 intro a_ s Z H D I h;exact wpAny_Expr_any (thn (he a_ s Z H _ I h) λv s1 ⟨x,H1,I1,r1,q1⟩=>⟨Z,H1,I1,q1⟩) I.quiet hs
def Ie(te:TE):TS:=λD Z H=>te Z H D.rt
theorem BR(he:PE X e te):PS X (.Return (some e) pos) (Ie te):=by
 intro a_ s Z H D I h;exact wpAny_Return_some (thn (he a_ s Z H _ I h) λv s1 ⟨x,H1,I1,r1,q1⟩=>⟨x,Z,H1,I1,r1,q1⟩)
def tRetN:TS:=λD _ H=>D.rt .i_ H
theorem ps_retN:PS X (.Return none pos) tRetN:=λ_ _ Z H _ I h=>wpAny_Return_none ⟨.i_,Z,H,I,rfl,h⟩
def Hu(c:TT)(t u:TS):TS:=λD Z H=>c Z H λb H1=>if b=true then t D Z H1 else u D Z H1
theorem D5(hc:PT X c tc)(ha:PSs X a t)(hb:PSs X b u):PS X (.If c a b pos) (Hu tc t u):=by
 intro a_ s Z H D I h;refine wpAny_If (thn (hc a_ s Z H _ I h) λd s1 ⟨H1,I1,q1⟩=>?_)
 cases d with
 |true=>exact ha a_ s1 Z H1 D I1 q1
 |false=>exact hb a_ s1 Z H1 D I1 q1
end
abbrev TG:=V->St->Hp->(St->Hp->Prop)->Prop
abbrev TGs:=List V->St->Hp->(St->Hp->Prop)->Prop
def PG(X:Cx)(target:Expr)(t:TG):Prop:=
 ∀(a_:List (Addr×Obj)) (s:Shared)(Z:St)(H:Hp)(v:V)(u:Value)(Q:St->Hp->Prop),Inv X a_ Z H s->RelV v u->t v Z H Q->
  wpAny (model X.prog X.w) X.A (assign target X.env u) (λ_ s'=>∃l_ H',Inv X a_ l_ H' s'/\Q l_ H') X.xe s
def PGs(X:Cx)(ts:List Expr)(t:TGs):Prop:=
 ∀(a_:List (Addr×Obj)) (s:Shared)(Z:St)(H:Hp)(vs:List V)(us:List Value)(Q:St->Hp->Prop),Inv X a_ Z H s->Vals vs us->t vs Z H Q->
  wpAny (model X.prog X.w) X.A (assignInOrder ((assignEach ts X.env).map (·.2)) us) (λ_ s'=>∃l_ H',Inv X a_ l_ H' s'/\Q l_ H') X.xe s
abbrev TSet:=V->V->V->Hp->(Hp->Prop)->Prop
def AA(X:Cx)(t:TSet):Prop:=
 ∀(a_:List (Addr×Obj)) (s:Shared)(Z:St)(H:Hp)(o i v:V)(ov iv u:Value)(Q:Hp->Prop),Inv X a_ Z H s->RelV o ov->RelV i iv->RelV v u->t o i v H Q->
  wpAny (model X.prog X.w) X.A (setItem ov iv u) (λ_ s'=>∃H',Inv X a_ Z H' s'/\Q H') X.xe s
section
variable {X:Cx}{pos:Pos}
def rD(i:Nat):TG:=λv Z H Q=>Q (Z.set i (some v)) H
theorem jr(hN:X.N.Nodup)(hi:X.N[i]?=some x)(hx:Loc X.env.scope x)(hf:X.fn x=true\/X.env.scope.names.lookup x=some .local:=by first|exact .inl rfl|exact .inr rfl|assumption):PG X (.Name x pos) (rD i):=by
 intro a_ s Z H v u Q I r h;exact wpAny_assign_Name (ph I hN hi hx r (λs' I'=>⟨_,H,I',h⟩) hf)
def gNil:TGs:=λvs Z H Q=>vs=[]/\Q Z H
def D4(t:TG)(u:TGs):TGs:=λvs Z H Q=>∃v r,vs=v::r/\t v Z H λl_ H'=>u r l_ H' Q
theorem yl:PGs X [] gNil:=by
 intro a_ s Z H vs us Q I r h;obtain⟨e,h⟩:=h;subst e;cases r;exact assignInOrder_nil ⟨Z,H,I,h⟩
theorem o7(h1:PG X e t)(h2:PGs X es u)
  (hs:(assignEach (e::es) X.env).map (·.2)=assign e X.env::(assignEach es X.env).map (·.2):=by rfl):PGs X (e::es) (D4 t u):=by
 intro a_ s Z H vs us Q I r h;obtain⟨v,vr,e1,h⟩:=h;subst e1;cases r with
 |cons r rr=>
  rw[hs];refine assignInOrder_cons (thn (h1 a_ s Z H _ _ _ I r h) λ_ s1 ⟨OE,H1,I1,q1⟩=>?_)
  exact h2 a_ s1 OE H1 _ _ Q I1 rr q1
def Hh(K:Lr)(n:Nat)(t:TGs):TG:=λv Z H Q=>∃a xs,v=.ref a/\SqT K H a xs/\xs.length=n/\t xs Z H Q
theorem p9(hc:X.calm=true)(h:PGs X es t)
  (hn:(assignEach es X.env).length=n:=by rfl) (MG:(assignEach es X.env).findIdx? (·.1)=none:=by rfl):PG X (.Tuple es k pos) (Hh X.K n t):=by
 intro a_ s Z H v u Q I r hw;obtain⟨a,xs,e1,hq,hl,hw⟩:=hw;subst e1;cases r;obtain⟨f_,rv,ht,hz⟩:=I.tuple hq;refine assign_Tuple_tuple (I.ok.hd hc) ht (by simp[hn,<-hl,rv.length]) MG λh' hx=>?_
 have I1:Inv X a_ Z H {s with heap:=h'}:=I.kept (t':=s.toks) λb o e=>hx b o (KH (Kw e)) e
 exact h a_ _ Z H xs _ Q I1 (by simpa using rv) hw
def HK(to ti:TE)(t:TSet):TG:=λv Z H Q=>to Z H λo H1=>ti Z H1 λi H2=>t o i v H2 λH3=>Q Z H3
theorem AC(ho:PE X o to)(hi:PE X i ti)(hs:AA X t)
  (ha:∀v,assign (.Subscript o i pos) X.env v=(do
   let ov<-holding [v] (eval o X.env)
   let iv<-holding [v,ov] (eval i X.env)
   standAt pos
   holding [v,ov,iv] (setItem ov iv v)
   release [v,ov,iv] []):=by intro _;rfl):PG X (.Subscript o i pos) (HK to ti t):=by
 intro a_ s Z H v u Q I r h;rw[ha];refine Kf (K0 (thn (ho a_ s Z H _ I h) λov s1 ⟨x,H1,I1,r1,q1⟩=>?_))
 refine Kf (K0 (thn (hi a_ s1 Z H1 _ I1 q1) λiv s2 ⟨y,H2,I2,r2,q2⟩=>?_))
 refine Kf (wpAny_standAt (Kf (K0 (thn (hs a_ s2 Z H2 x y v ov iv u _ I2 r1 r2 r q2) λ_ s3 ⟨H3,I3,q3⟩=>?_))))
 exact wpAny_release ⟨Z,H3,I3,q3⟩
def Co(te:TE)(g:TG):TS:=λD Z H=>te Z H λx H1=>g x Z H1 D.nx
theorem vL(he:PE X e te)(hg:PG X tg g)(hs:swapsWithSole [tg] e pos.line X.env=pure false:=by rfl)(hw:swappedStores [tg] e X.env=pure none:=by rfl)
  (h1:(assignEach [tg] X.env).map (·.2)=[assign tg X.env]:=by rfl):PS X (.Assign [tg] e pos) (Co te g):=by
 intro a_ s Z H D I h;refine wpAny_Assign_stores (thn (he a_ s Z H _ I h) λv s1 ⟨x,H1,I1,r1,q1⟩=>?_) hs hw
 rw[h1];exact thn (hg a_ s1 Z H1 x v _ I1 r1 q1) λ_ s2 q=>q
theorem Bl(hN:X.N.Nodup)(hi:X.N[i]?=some x)(hx:Loc X.env.scope x)(he:PE X e te)(hs:swapsWith e (some (.Name x pos')) pos.line X.env=pure false:=by rfl)(hf:X.fn x=true\/X.env.scope.names.lookup x=some .local:=by first|exact .inl rfl|exact .inr rfl|assumption) :
  PS X (.Assign [.Name x pos'] e pos) (Co te (rD i)):=by
 intro a_ s Z H D I h;refine wpAny_Assign_Name (thn (he a_ s Z H _ I h) λv s1 ⟨y,H1,I1,r1,q1⟩=>?_) hs
 exact ph I1 hN hi hx r1 (λs2 I2=>⟨_,H1,I2,q1⟩) hf
end
section
variable {X:Cx}{pos:Pos}
def Dx(c:TT)(tb:TS):TS:=λD Z H=>∃W:Nat->St->Hp->Prop,(∃m,W m Z H)/\∀m Z H,W m Z H->
 c Z H λb H1=>if b=true then ∃N:St->Hp->Prop,(∀l_ H',N l_ H'->∃m',m' < m/\W m' l_ H')/\tb {D with nx:=N,ct:=N,bk:=D.nx} Z H1 else D.nx Z H1
theorem vV(hp:PassesOwn (model X.prog X.w) X.A X.env X.xe)(hc:PT X c tc)(hb:PSs X body tb):PS X (.While c body [] pos) (Dx tc tb):=by
 intro a_ s Z H D I h;obtain⟨W,⟨m0,w0⟩,nQ⟩:=h;refine wpAny_While (codeAny_whileLoop (λn s'=>∃l_ H',Inv X a_ l_ H' s'/\W n l_ H') ?_ m0 ⟨Z,H,I,w0⟩)
 rintro n s1 ⟨OE,H1,I1,w1⟩;refine wpAny_passesOwn hp (thn (hc a_ s1 OE H1 _ I1 (nQ n OE H1 w1)) λb s2 ⟨H2,I2,q2⟩=>?_)
 cases b with
 |true=>
  obtain⟨N,hN,q2⟩:=q2;rw[Kp rfl];refine wpAny_passesOwn hp (thn (hb a_ s2 OE H2 _ I2 q2) λf s3 q3=>?_)
  cases f with
  |next=>
   obtain⟨h_,H3,I3,n3⟩:=q3;obtain⟨m',hm,w3⟩:=hN h_ H3 n3;exact⟨m',hm,h_,H3,I3,w3⟩
  |cont=>
   obtain⟨h_,H3,I3,n3⟩:=q3;obtain⟨m',hm,w3⟩:=hN h_ H3 n3;exact⟨m',hm,h_,H3,I3,w3⟩
  |brk=>exact q3
  |ret v=>exact q3
 |false=>
  rw[Kj Ku];exact wpAny_execs_nil ⟨OE,H2,I2,q2⟩
end
structure It where
 go:Nat->Hp->Prop
 yld:Nat->Hp->V->Hp->Prop
 stop:Nat->Hp->Prop
def fK(X:Cx)(a_:List (Addr×Obj))(H:Hp)(b:Addr):Prop:=
 H b=none/\b≠X.env.locals/\b∉X.fs/\(b∈X.ex\/X.s₀.heap.objs.size<=b)/\(∀x c,X.env.cells.lookup x=some c->c≠b)/\∀p∈X.pn++a_,p.1≠b
theorem Inv.fpOk{s:Shared}(I:Inv X a_ Z H s)(hb:s.heap.objs.size<=b)(hn:H' b=none):fK X a_ H' b:=by
 refine⟨hn,Nat.ne_of_gt (Kv I.lt hb),I.nofs hb,.inr (KB I.sz hb),λx c e z=>?_,λp hp z=>?_⟩
 ·obtain⟨v,q⟩:=I.cell x c e;exact absurd (Kv q.lt (by rw[z];exact hb)) (K5 _)
 ·exact absurd (Kv (Kw (I.pin p hp).1) (by rw[z];exact hb)) (K5 _)
structure Turn (P:Program)(w:World)(K:Lr)(tg:Expr)(J:It)(fp:List Addr)(it:Addr)(tn:Nat->Heap->Prop):Prop where
 mem:it∈fp
 obj:∀i h,tn i h->∀b∈fp,∃o,h.get? b=some o/\∀v,o.data≠.cell v
 keep:∀i h h',tn i h->(∀b∈fp,∀o,h.get? b=some o->h'.get? b=some o)->tn i h'
 item:∀(X:Cx),X.prog=P->X.w=w->X.K=K->X.calm=true->∀(i:Nat) (a_:List (Addr×Obj)) (s:Shared)(Z:St)(H:Hp)(E:Value->Shared->Prop),Inv X a_ Z H s->(∀b∈fp,fK X a_ H b)->tn i s.heap->J.go i H->
  wpAny (model P w) X.A (pyNext (.ref it)) (λr s1=>∃u,r=some u/\
   wpAny (model P w) X.A (letOwnedTupleGo tg (.ref it) u) (λ_ s2=>∃x H',Inv X a_ Z H' s2/\RelV x u/\J.yld i H x H'/\tn (i+1) s2.heap/\∀b∈fp,H' b=none) E s1) E s
 done:∀(X:Cx),X.prog=P->X.w=w->X.K=K->X.calm=true->∀(i:Nat) (a_:List (Addr×Obj)) (s:Shared)(Z:St)(H:Hp)(E:Value->Shared->Prop),Inv X a_ Z H s->(∀b∈fp,fK X a_ H b)->tn i s.heap->J.stop i H->
  wpAny (model P w) X.A (pyNext (.ref it)) (λr s1=>r=none/\Inv X a_ Z H s1) E s
 self:∀(A:Around)(i:Nat)(s:Shared)(Q:Value->Shared->Prop)(E:Value->Shared->Prop),tn i s.heap->Q (.ref it) s->wpAny (model P w) A (pyIter (.ref it)) Q E s
abbrev TI:=St->Hp->(It->Hp->Prop)->Prop
def PIE(X:Cx)(a_:List (Addr×Obj))(Z:St)(tg:Expr)(R:It->Hp->Prop)(Qn:Value)(s2:Shared):Prop:=
 ∃(it:Addr)(fp:List Addr)(tn:Nat->Heap->Prop)(J:It)(H':Hp),Qn=.ref it/\Inv X a_ Z H' s2/\Turn X.prog X.w X.K tg J fp it tn/\tn 0 s2.heap/\(∀b∈fp,fK X a_ H' b)/\R J H'
def PI(X:Cx)(tg iter:Expr)(wi:TI):Prop:=
 ∀(a_:List (Addr×Obj)) (s:Shared)(Z:St)(H:Hp)(R:It->Hp->Prop),Inv X a_ Z H s->wi Z H R->
  wpAny (model X.prog X.w) X.A (eval iter X.env) (λv s1=>wpAny (model X.prog X.w) X.A (pyIter v) (PIE X a_ Z tg R) X.xe s1) X.xe s
theorem uT {s : Shared} {o : Obj} (ho : s.heap.get? it = some o) (hc : o.cls = .type n) (hd : o.data = .fields vs)
    (hn : ["enumerate", "zip", "dict_itemiterator", "dict_reverseitemiterator", "odict_iterator", "itertools.zip_longest", "itertools.pairwise"].contains n = false) (hQ : Q () s) : wpAny M A (letOwnedTupleGo tg (.ref it) u) Q E s := by
  unfold letOwnedTupleGo;cases tg <;> first
    | exact Kh hQ
    | (cases u <;> first
        | exact Kh hQ
        | (refine Kf (wpAny_load ho ?_)
           rw [hc, hd];show wpAny M A (if (["enumerate", "zip", "dict_itemiterator", "dict_reverseitemiterator", "odict_iterator", "itertools.zip_longest", "itertools.pairwise"].contains n && vs[0]? == some (rawInt _)) = true then _ else _) Q E s
           rw [Kj (by intro h; rw [hn, Bool.false_and] at h; cases h)]
           exact Kh hQ))
def Itl(K:Lr)(a:Addr):It:=
 ⟨λi H=>∃xs x,SqL K H a xs/\xs[i]?=some x,λi H x H'=>H'=H/\∀xs,SqL K H a xs->xs[i]?=some x,λi H=>∃xs,SqL K H a xs/\xs.length<=i⟩
def Itt(K:Lr)(a:Addr):It:=
 ⟨λi H=>∃xs x,SqT K H a xs/\xs[i]?=some x,λi H x H'=>H'=H/\∀xs,SqT K H a xs->xs[i]?=some x,λi H=>∃xs,SqT K H a xs/\xs.length<=i⟩
def Itr(lo:Int)(n:Nat):It:=⟨λi _=>i<n,λi H x H'=>H'=H/\x=.int (lo+i),λi _=>n<=i⟩
theorem ue{K:Lr}(a it:Addr):Turn P w K tg (Itl K a) [it] it (λi h=>h.IsListIter it a i) where
 mem:=by simp
 obj:=λi h st b hb=>by
  have e:b=it:=by simpa using hb
  subst e;obtain⟨o,e,c,d⟩:=st;exact⟨o,e,λv z=>by rw[d]at z;cases z⟩
 keep:=λi h h' st k=>st.at λo e=>k it (by simp) o e
 item:=by
  intro X hP hw hK hc i a_ s Z H E I hf st hg;subst hP hw hK;obtain⟨xs,x,hq,hx⟩:=hg;obtain⟨f_,rv,p,hz⟩:=I.list hq;obtain⟨u,hu,ru⟩:=rv.get hx;obtain⟨f0,f1,f2,f3,f4,f5⟩:=hf it (by simp)
  refine wpAny_pyNext_list_item st p.isList (x:=u) (by simpa using hu) λh' MB sb=>?_
  have I1:Inv X a_ Z H {s with heap:=h'}:=I.turned (t':=s.toks) (λb o hb e=>(sb.2 b hb).trans e) f0 f1 f3 f4 f5
  obtain⟨o,e,c,d⟩:=id MB;exact⟨u,rfl,uT (s:={s with heap:=h'}) e c d (by decide) ⟨x,H,I1,ru,⟨rfl,λys hy=>by rw[I.list_inj hy hq];exact hx⟩,MB,λb hb=>(hf b hb).1⟩⟩
 done:=by
  intro X hP hw hK hc i a_ s Z H E I hf st hg;subst hP hw hK;obtain⟨xs,hq,hx⟩:=hg;obtain⟨f_,rv,p,hz⟩:=I.list hq;obtain⟨f0,f1,f2,f3,f4,f5⟩:=hf it (by simp)
  have hl:=rv.length;exact wpAny_pyNext_list_end (I.ok.hd hc) st p.isList (by simp;omega) λh' eb=>⟨rfl,I.turned (t':=s.toks) (λb o hb e=>eb b o hb e) f0 f1 f3 f4 f5⟩
 self:=λ_ _ _ _ _ st h=>wpAny_pyIter_listiter st h
theorem qo{K:Lr}(a it:Addr):Turn P w K tg (Itt K a) [it] it (λi h=>h.IsTupleIter it a i) where
 mem:=by simp
 obj:=λi h st b hb=>by
  have e:b=it:=by simpa using hb
  subst e;obtain⟨o,e,c,d⟩:=st;exact⟨o,e,λv z=>by rw[d]at z;cases z⟩
 keep:=λi h h' st k=>st.at λo e=>k it (by simp) o e
 item:=by
  intro X hP hw hK hc i a_ s Z H E I hf st hg;subst hP hw hK;obtain⟨xs,x,hq,hx⟩:=hg;obtain⟨f_,rv,p,hz⟩:=I.tuple hq;obtain⟨u,hu,ru⟩:=rv.get hx;obtain⟨f0,f1,f2,f3,f4,f5⟩:=hf it (by simp)
  refine wpAny_pyNext_tuple_item st (show s.heap.IsTuple a f_.toArray from p) (x:=u) (by simpa using hu) λh' MB sb=>?_
  have I1:Inv X a_ Z H {s with heap:=h'}:=I.turned (t':=s.toks) (λb o hb e=>(sb.2 b hb).trans e) f0 f1 f3 f4 f5
  obtain⟨o,e,c,d⟩:=id MB;exact⟨u,rfl,uT (s:={s with heap:=h'}) e c d (by decide) ⟨x,H,I1,ru,⟨rfl,λys hy=>by rw[I.tuple_inj hy hq];exact hx⟩,MB,λb hb=>(hf b hb).1⟩⟩
 done:=by
  intro X hP hw hK hc i a_ s Z H E I hf st hg;subst hP hw hK;obtain⟨xs,hq,hx⟩:=hg;obtain⟨f_,rv,p,hz⟩:=I.tuple hq;obtain⟨f0,f1,f2,f3,f4,f5⟩:=hf it (by simp)
  have hl:=rv.length;exact wpAny_pyNext_tuple_end (I.ok.hd hc) st (show s.heap.IsTuple a f_.toArray from p) (by simp;omega) λh' eb=>⟨rfl,I.turned (t':=s.toks) (λb o hb e=>eb b o hb e) f0 f1 f3 f4 f5⟩
 self:=λ_ _ _ _ _ st h=>wpAny_pyIter_tupleiter st h
theorem qD{K:Lr}(it:Addr)(lo:Int)(n:Nat):Turn P w K tg (Itr lo n) [it] it (λi h=>IsRangeIter h it (lo+(i:Nat)*1) ((n:Int)-(i:Nat)) 1) where
 mem:=by simp
 obj:=λi h st b hb=>by
  have e:b=it:=by simpa using hb
  subst e;exact⟨_,st,λv z=>by
   have z':Data.fields _=Data.cell v:=z;cases z'⟩
 keep:=λi h h' st k=>k it (by simp) _ st
 item:=by
  intro X hP hw hK hc i a_ s Z H E I hf st hg;subst hP hw hK;obtain⟨f0,f1,f2,f3,f4,f5⟩:=hf it (by simp)
  have W:=Walks.range (prog:=X.prog) (w:=X.w) (I.ok.hd hc) it lo 1 n;refine W.item i s _ _ hg st λv h' tk hv MB kk=>?_
  obtain⟨t,rfl⟩:=hv;have I1:Inv X a_ Z H {s with heap:=h',toks:=tk}:=I.turned (λb o hb e=>kk b o (by simpa using hb) e) f0 f1 f3 f4 f5
  refine⟨_,rfl,uT (s:={s with heap:=h',toks:=tk}) (n:="range_iterator") MB rfl rfl (by decide) ⟨.int (lo+i),H,I1,⟨t,?_⟩,⟨rfl,rfl⟩,MB,λb hb=>(hf b hb).1⟩⟩
  rw[Int.mul_one]
 done:=by
  intro X hP hw hK hc i a_ s Z H E I hf st hg;subst hP hw hK;obtain⟨f0,f1,f2,f3,f4,f5⟩:=hf it (by simp)
  exact wpAny_pyNext_range_end (I.ok.hd hc) st (by have:n<=i:=hg;omega) λh' eb=>⟨rfl,I.turned (t':=s.toks) (λb o hb e=>eb b o hb e) f0 f1 f3 f4 f5⟩
 self:=λ_ _ _ _ _ st h=>wpAny_pyIter_rangeiter st h
section
variable {X:Cx}
theorem xC{s:Shared}{lo:Int}(I:Inv X a_ Z H s)(h1 : -(2 ^ 62)<=lo)(h2:lo<2 ^ 62)(h3 : -(2 ^ 62)<=hi)(h4:hi<2 ^ 62)
  (q:R (Itr lo (hi-lo).toNat) H):wpAny (model X.prog X.w) X.A (pyIter (.ref s.heap.objs.size)) (PIE X a_ Z tg R) E {s with heap:=s.heap.push {cls:=.type "range",data:=.fields #[.int lo t,.int hi u,.int 1 v]},toks:=tk}:=by
 refine wpAny_pyIter_range (IsRange.new ..) (small_one h1 h2 h3 h4) ?_;have I1:Inv X a_ Z H {s with heap:=s.heap.push {cls:=.type "range",data:=.fields #[.int lo t,.int hi u,.int 1 v]},toks:=tk}:=I.kept λb o e=>Kk _ e
 refine⟨(s.heap.push {cls:=.type "range",data:=.fields #[.int lo t,.int hi u,.int 1 v]}).objs.size,[(s.heap.push {cls:=.type "range",data:=.fields #[.int lo t,.int hi u,.int 1 v]}).objs.size],_,_,H,rfl,
  I1.kept (t':=tk) λb o e=>Kk _ e,qD _ lo (hi-lo).toNat,?_,λb hb=>?_,q⟩
 ·have e1:lo+((0:Nat):Int)*1=lo:=by simp
  have e2:(((hi-lo).toNat:Nat):Int)-((0:Nat):Int)=Builtin.Range.rangeSize lo hi 1:=by rw[rangeSize_one];split<;>omega
  show IsRangeIter _ _ (lo+((0:Nat):Int)*1) ((((hi-lo).toNat:Nat):Int)-((0:Nat):Int)) 1;rw[e1,e2];exact Ko _ rfl
 ·have e:b=(s.heap.push {cls:=.type "range",data:=.fields #[.int lo t,.int hi u,.int 1 v]}).objs.size:=by simpa using hb
  subst e;exact I1.fpOk (Km _) (I1.j_.fresh (Km _))
def Ec(ta:TA):TI:=λZ H R=>ta Z H λvs H1=>∃j:Int,vs=[.int j]/\-(2 ^ 62)<=j/\j<2 ^ 62/\R (Itr 0 j.toNat) H1
theorem um(hg:Gl X "range")(hm:X.mg "range"=none)(ha:PA X [a] ta)(hs:starEach [a] X.env=[(false,eval a X.env)]:=by rfl):PI X tg (.Call (.Name "range" p) [a] [] pos) (Ec ta):=by
 intro a_ s Z H R I h;refine Call_ (iF I hg hm boot_range (PyProof.Rows.callWith_type1 (thn (ha pos a_ s Z H _ I h) λus s1 ⟨vs,H1,I1,r1,q1⟩=>?_) hs rfl))
 obtain⟨j,e,q1,q2,q⟩:=q1;subst e;cases r1 with
 |cons r rr=>
  cases rr;obtain⟨t,rfl⟩:=r;exact call_range_1 (xC I1 (by omega) (by omega) q1 q2 (by simpa using q))
def Ix(wi:TI)(g:TG)(tb:TS):TS:=λD Z H=>wi Z H λJ H1=>∃W:Nat->Nat->St->Hp->Prop,(∃m,W 0 m Z H1)/\∀i m Z H,W i m Z H->
 (J.stop i H/\D.nx Z H)\/(J.go i H/\∃N:St->Hp->Prop,(∀l_ H',N l_ H'->∃m',m' < m/\W (i+1) m' l_ H')/\∀x H',J.yld i H x H'->g x Z H' λL7 H2=>tb {D with nx:=N,ct:=N,bk:=D.nx} L7 H2)
def kC(fp:List Addr)(h:Heap):List (Addr×Obj):=fp.filterMap λb=>(h.get? b).map λo=>(b,o)
theorem d5{h:Heap}(hb:b∈fp)(e:h.get? b=some o):(b,o)∈kC fp h:=List.mem_filterMap.mpr ⟨b,hb,by rw[e];rfl⟩
theorem tZ{h:Heap}{p:Addr×Obj}(hp:p∈kC fp h):p.1∈fp/\h.get? p.1=some p.2:=by
 obtain⟨b,hb,e⟩:=List.mem_filterMap.mp hp;cases q:h.get? b with
 |none=>rw[q]at e;cases e
 |some o=>
  rw[q]at e;have e':(b,o)=p:=KA e;subst e';exact⟨hb,q⟩
theorem Inv.pinned{s:Shared}(I:Inv X a_ Z H s)(hf:∀b∈fp,fK X a_ H b)(ho:∀b∈fp,∃o,s.heap.get? b=some o/\∀v,o.data≠.cell v):Inv X (a_++kC fp s.heap) Z H s:=
 I.pins_of λp hp=>(KD.mp hp).elim (λz=>I.pin p (KI _ z)) λz=>by
  obtain⟨hb,e⟩:=tZ z;obtain⟨f0,f1,f2,_⟩:=hf p.1 hb;obtain⟨o,e',d⟩:=ho p.1 hb;rw[e]at e';cases e';exact⟨e,f0,f1,f2,d⟩
theorem Inv.unpinned(I:Inv X (a_++pl) Z H s):Inv X a_ Z H s:=I.pins_of λp hp=>I.pin p (KI _ (K2 _ hp))
theorem qN(hp:PassesOwn (model X.prog X.w) X.A X.env X.xe)(hc:X.calm=true)(hi:PI X tg iter wi)(hg:PG X tg g)(hb:PSs X body tb)
  (hs:∀x,foldedSetIterable iter X.env x=pure x:=by intro _;rfl):PS X (.For tg iter body [] pos) (Ix wi g tb):=by
 intro a_ s Z H D I h;refine wpAny_For (thn (hi a_ s Z H _ I h) λv s1 h1=>thn h1 λQn s2 h2=>?_) hs
 obtain⟨it,fp,tn,J,H2,e,I2,T,PN,f2,W,⟨m0,w0⟩,nQ⟩:=h2;subst e;have N6:∀{H':Hp},(∀b∈fp,H' b=none)->∀b∈fp,fK X a_ H' b:=λhn b hb=>⟨hn b hb,(f2 b hb).2⟩
 refine codeAny_forLoop_any (λn s'=>∃i l_ H',Inv X a_ l_ H' s'/\tn i s'.heap/\(∀b∈fp,H' b=none)/\W i n l_ H') ?_ m0 ⟨0,Z,H2,I2,PN,λb hb=>(f2 b hb).1,w0⟩
 rintro n s3 ⟨i,h_,H3,I3,OY,PQ,w3⟩;rcases nQ i n h_ H3 w3 with ⟨stop,qn⟩|⟨go,N,hN,step⟩
 ·refine wpAny_passesOwn hp (thn (T.done X rfl rfl rfl hc i a_ s3 h_ H3 X.xe I3 (N6 PQ) OY stop) λr s4 ⟨hr,I4⟩=>?_)
  subst hr;exact wpAny_execs_nil ⟨h_,H3,I4,qn⟩
 ·refine wpAny_passesOwn hp (thn (T.item X rfl rfl rfl hc i a_ s3 h_ H3 X.xe I3 (N6 PQ) OY go) λr s4 ⟨u,hr,h4⟩=>?_)
  subst hr;refine wpAny_passesOwn hp (thn h4 λ_ s5 ⟨x,H5,I5,r5,y5,Qo,Si⟩=>?_)
  have Sj:=I5.pinned (N6 Si) (T.obj _ _ Qo);refine wpAny_passesOwn hp (thn (hg _ s5 h_ H5 x u _ Sj r5 (step x H5 y5)) λ_ s6 ⟨Mh,H6,I6,q6⟩=>?_)
  refine wpAny_passesOwn hp (thn (hb _ s6 Mh H6 _ I6 q6) λf s7 q7=>?_)
  have again:∀{Mn:St}{H7:Hp},Inv X (a_++kC fp s5.heap) Mn H7 s7->N Mn H7->∃m,m<n/\∃i l_ H',Inv X a_ l_ H' s7/\tn i s7.heap/\(∀b∈fp,H' b=none)/\W i m l_ H':=λ{Mn H7} I7 n7=>by
   obtain⟨m',hm,w7⟩:=hN Mn H7 n7;refine⟨m',hm,i+1,Mn,H7,I7.unpinned,T.keep _ _ _ Qo λb hb o e=>(I7.pin (b,o) (KI _ (KI _ (d5 hb e)))).1,λb hb=>?_,w7⟩
   obtain⟨o,e,d⟩:=T.obj _ _ Qo b hb;exact (I7.pin (b,o) (KI _ (KI _ (d5 hb e)))).2.1
  cases f with
  |next=>obtain⟨Mn,H7,I7,n7⟩:=q7;exact again I7 n7
  |cont=>obtain⟨Mn,H7,I7,n7⟩:=q7;exact again I7 n7
  |brk=>obtain⟨Mn,H7,I7,q7⟩:=q7;exact⟨Mn,H7,I7.unpinned,q7⟩
  |ret v=>obtain⟨x7,Mn,H7,I7,r7,q7⟩:=q7;exact⟨x7,Mn,H7,I7.unpinned,r7,q7⟩
end
abbrev R2:=V->V->Hp->VK->Prop
def OpR(X:Cx)(f:Value->Value->Sem Value)(r:R2):Prop:=
 ∀(a_:List (Addr×Obj)) (s:Shared)(Z:St)(H:Hp)(x y:V)(v u:Value)(Q:VK),Inv X a_ Z H s->RelV x v->RelV y u->r x y H Q->
  wpAny (model X.prog X.w) X.A (f v u) (EP X a_ Z Q) X.xe s
def UnR(X:Cx)(f:Value->Sem Value)(r:V->Hp->VK->Prop):Prop:=
 ∀(a_:List (Addr×Obj)) (s:Shared)(Z:St)(H:Hp)(x:V)(v:Value)(Q:VK),Inv X a_ Z H s->RelV x v->r x H Q->
  wpAny (model X.prog X.w) X.A (f v) (EP X a_ Z Q) X.xe s
def CallR(X:Cx)(f:Value)(r:List V->Hp->VK->Prop):Prop:=
 ∀(a_:List (Addr×Obj)) (s:Shared)(Z:St)(H:Hp)(xs:List V)(us:List Value)(Q:VK),Inv X a_ Z H s->Vals xs us->r xs H Q->
  wpAny (model X.prog X.w) X.A (call f us) (EP X a_ Z Q) X.xe s
def tOp(r:R2)(ta tb:TE):TE:=λZ H Q=>ta Z H λx H1=>tb Z H1 λy H2=>r x y H2 Q
def tUn(r:V->Hp->VK->Prop)(ta:TE):TE:=λZ H Q=>ta Z H λx H1=>r x H1 Q
def rI(C:Int->Int->Prop)(g:Int->Int->V):R2:=λx y H Q=>∃i j,x=.int i/\y=.int j/\C i j/\Q (g i j) H
def rI0(g:Int->Int->V):R2:=λx y H Q=>∃i j,x=.int i/\y=.int j/\Q (g i j) H
def rU(g:Int->V):V->Hp->VK->Prop:=λx H Q=>∃i,x=.int i/\Q (g i) H
section
variable {X:Cx}{a b c:Expr}{ta tb tc:TE}{pos:Pos}
theorem CY(ha:PE X a ta)(hb:PE X b tb){a_:List (Addr×Obj)}{s:Shared}{Z:St}{H:Hp}{R:V->V->Hp->Prop}(I:Inv X a_ Z H s)
  (h:ta Z H λx H1=>tb Z H1 λy H2=>R x y H2) {Q:Value->Shared->Prop}{f:Value->Value->Sem Value}
  (hf:∀v u s2 x y H2,Inv X a_ Z H2 s2->RelV x v->RelV y u->R x y H2->wpAny (model X.prog X.w) X.A (f v u) Q X.xe s2) :
  wpAny (model X.prog X.w) X.A (eval a X.env) (λv r_=>wpAny (model X.prog X.w) X.A (eval b X.env) (λu N5=>wpAny (model X.prog X.w) X.A (f v u) Q X.xe N5) X.xe r_) X.xe s:=by
 refine thn (ha a_ s Z H _ I h) λv s1 ⟨x,H1,I1,r1,q1⟩=>?_
 refine thn (hb a_ s1 Z H1 _ I1 q1) λu s2 ⟨y,H2,I2,r2,q2⟩=>?_
 exact hf v u s2 x y H2 I2 r1 r2 q2
theorem Fn{op:Operator}{r:R2}(ho:OpR X (binaryOp op) r)(ha:PE X a ta)(hb:PE X b tb):PE X (.BinOp a op b pos) (tOp r ta tb):=by
 intro a_ s Z H Q I h;exact wpAny_BinOp (CY ha hb I h λv u s2 x y H2 I2 rx ry q=>ho a_ s2 Z H2 x y v u Q I2 rx ry q)
theorem Fq(ho:UnR X (unaryOp op) r)(ha:PE X a ta):PE X (.UnaryOp op a pos) (tUn r ta):=by
 intro a_ s Z H Q I h;exact UnaryOp_ (thn (ha a_ s Z H _ I h) λv s1 ⟨x,H1,I1,r1,q1⟩=>ho a_ s1 Z H1 x v Q I1 r1 q1)
theorem opI{f:Value->Value->Sem Value}{C:Int->Int->Prop}{g:Int->Int->Int}
  (rule:∀(i j:Int)(t u:Tok)(s:Shared)(Q:Value->Shared->Prop)(E:Value->Shared->Prop),C i j->Q (.int (g i j) s.toks) {s with toks:=s.toks+1}->wpAny (model X.prog X.w) X.A (f (.int i t) (.int j u)) Q E s) :
  OpR X f (rI C λi j=>.int (g i j)):=by
 intro a_ s Z H x y v u Q I rx ry h;obtain⟨i,j,rfl,rfl,hc,q⟩:=h;obtain⟨t,rfl⟩:=rx;obtain⟨t',rfl⟩:=ry;exact rule i j t t' s _ _ hc ⟨.int (g i j),H,I.tok _,⟨_,rfl⟩,q⟩
theorem Dw{f:Value->Value->Sem Value}{g:Int->Int->Int}
  (rule:∀(i j:Int)(t u:Tok)(s:Shared)(Q:Value->Shared->Prop)(E:Value->Shared->Prop),Q (.int (g i j) s.toks) {s with toks:=s.toks+1}->wpAny (model X.prog X.w) X.A (f (.int i t) (.int j u)) Q E s) :
  OpR X f (rI0 λi j=>.int (g i j)):=by
 intro a_ s Z H x y v u Q I rx ry h;obtain⟨i,j,rfl,rfl,q⟩:=h;obtain⟨t,rfl⟩:=rx;obtain⟨t',rfl⟩:=ry;exact rule i j t t' s _ _ ⟨.int (g i j),H,I.tok _,⟨_,rfl⟩,q⟩
theorem yu{f:Value->Value->Sem Value}{g:Int->Int->Bool}
  (rule:∀(i j:Int)(t u:Tok)(s:Shared)(Q:Value->Shared->Prop)(E:Value->Shared->Prop),Q (.bool (g i j)) s->wpAny (model X.prog X.w) X.A (f (.int i t) (.int j u)) Q E s) :
  OpR X f (rI0 λi j=>.bl (g i j)):=by
 intro a_ s Z H x y v u Q I rx ry h;obtain⟨i,j,rfl,rfl,q⟩:=h;obtain⟨t,rfl⟩:=rx;obtain⟨t',rfl⟩:=ry;exact rule i j t t' s _ _ ⟨.bl (g i j),H,I,rfl,q⟩
def uO(i j:Int):Prop:=0<=j/\j<=1000000/\i.natAbs<2 ^ 64
theorem qH(k:Nat):(0:Int)<=2 ^ k:=by
 rw[two_pow_cast];exact Int.natCast_nonneg _
theorem Cn:OpR X (binaryOp .Add) (rI0 λi j=>.int (i+j)):=Dw λ_ _ _ _ _ _ _ q=>add_int q
theorem C1:OpR X (binaryOp .Sub) (rI0 λi j=>.int (i-j)):=Dw λ_ _ _ _ _ _ _ q=>sub_int q
theorem CI:OpR X (binaryOp .Mod) (rI (λ_ j=>0<j) λi j=>.int (i % j)):=opI λi j _ _ _ _ _ hc q=>by
 have h1:(0:Int)<j:=hc;exact mod_int' (by omega) (by rw[Int.fmod_eq_emod_of_nonneg i (by omega)];exact q)
theorem BS:OpR X (binaryOp .Pow) (rI uO λi j=>.int (i ^ j.toNat)):=opI λ_ _ _ _ _ _ _ hc q=>pow_int_small hc.1 hc.2.1 hc.2.2 q
theorem BW:OpR X (binaryOp .RShift) (rI (λ_ j=>0<=j) λi j=>.int (i / 2 ^ j.toNat)):=opI λi j _ _ _ _ _ hc q=>
 rshift_int hc (by rw[Int.fdiv_eq_ediv_of_nonneg i (qH _)];exact q)
theorem CD:OpR X (binaryOp .BitAnd) (rI0 λi j=>.int (Builtin.bitAnd i j)):=Dw λ_ _ _ _ _ _ _ q=>and_int q
theorem unI{f:Value->Sem Value}{g:Int->Int}
  (rule:∀(i:Int)(t:Tok)(s:Shared)(Q:Value->Shared->Prop)(E:Value->Shared->Prop),Q (.int (g i) s.toks) {s with toks:=s.toks+1}->wpAny (model X.prog X.w) X.A (f (.int i t)) Q E s) :
  UnR X f (rU λi=>.int (g i)):=by
 intro a_ s Z H x v Q I rx h;obtain⟨i,rfl,q⟩:=h;obtain⟨t,rfl⟩:=rx;exact rule i t s _ _ ⟨.int (g i),H,I.tok _,⟨_,rfl⟩,q⟩
theorem B9:UnR X (unaryOp .USub) (rU λi=>.int (-i)):=unI λ_ _ _ _ _ q=>neg_int q
end
section
variable {X:Cx}{a b c:Expr}{ta tb tc:TE}{pos:Pos}
theorem xg(I:Inv X a_ Z H s)(q:Q (.bl k) H)(e:k=k'):EP X a_ Z Q (.bool k') s:=by
 subst e;exact⟨.bl k,H,I,rfl,q⟩
theorem D1:OpR X (compareOp .Lt) (rI0 λi j=>.bl (decide (i<j))):=yu λ_ _ _ _ _ _ _ q=>lt_int q
theorem D9:OpR X (compareOp .LtE) (rI0 λi j=>.bl (decide (i<=j))):=yu λ_ _ _ _ _ _ _ q=>le_int q
theorem F6:OpR X (compareOp .Gt) (rI0 λi j=>.bl (decide (j<i))):=yu λ_ _ _ _ _ _ _ q=>gt_int q
theorem Fg:OpR X (compareOp .GtE) (rI0 λi j=>.bl (decide (j<=i))):=yu λ_ _ _ _ _ _ _ q=>ge_int q
theorem Cl:OpR X (compareOp .Is) (λx y H Q=>y=.i_/\Q (.bl (decide (x=.i_))) H):=by
 intro a_ s Z H x y v u Q I rx ry h;obtain⟨rfl,q⟩:=h;cases ry;refine is_none_gen (xg I q ?_);cases x<;>first
  |(cases rx;rfl)
  |(obtain⟨t,rfl⟩:=rx;rfl)
theorem ym:OpR X (compareOp .IsNot) (λx y H Q=>y=.i_/\Q (.bl (!decide (x=.i_))) H):=by
 intro a_ s Z H x y v u Q I rx ry h;obtain⟨rfl,q⟩:=h;cases ry;refine isnot_none_gen (xg I q ?_);cases x<;>first
  |(cases rx;rfl)
  |(obtain⟨t,rfl⟩:=rx;rfl)
theorem xS{op:CmpOp}{r:R2}(ho:OpR X (compareOp op) r)(ha:PE X a ta)(hb:PE X b tb)(hm:behindInMarks op b=false):PE X (.Compare a [op] [b] pos) (tOp r ta tb):=by
 intro a_ s Z H Q I h;exact wpAny_Compare1 (CY ha hb I h λv u s2 x y H2 I2 rx ry q=>ho a_ s2 Z H2 x y v u Q I2 rx ry q) hm
def Ao(t:TE):TT:=λZ H Q=>t Z H λx H'=>∃k,x=.bl k/\Q k H'
theorem zg(ho:OpR X (compareOp op) r)(ha:PE X a ta)(hb:PE X b tb)(hm:behindInMarks op b=false):PT X (.Compare a [op] [b] pos) (Ao (tOp r ta tb)):=by
 intro a_ s Z H Q I h;refine wpAny_isTrue_Compare1 (thn (ha a_ s Z H _ I h) λv s1 ⟨x,H1,I1,r1,q1⟩=>thn (hb a_ s1 Z H1 _ I1 q1) λu s2 ⟨y,H2,I2,r2,q2⟩=>
  thn (ho a_ s2 Z H2 x y v u _ I2 r1 r2 q2) λc s3 ⟨z,H3,I3,r3,k,e,q3⟩=>?_) hm
 subst e;cases r3;exact KR ⟨H3,I3,q3⟩
def v9(r r':R2)(ta tb tc:TE):TE:=λZ H Q=>ta Z H λx H1=>tb Z H1 λy H2=>r x y H2 λz H3=>∃k,z=.bl k/\
 (if k=true then tc Z H3 λw' H4=>r' y w' H4 Q else Q (.bl false) H3)
theorem vo(ho:OpR X (compareOp op) r)(Md:OpR X (compareOp LR) r')(ha:PE X a ta)(hb:PE X b tb)(hc:PE X c tc)
  (hm:lastMarks [op,LR] [b,c]=false:=by with_unfolding_all rfl):PE X (.Compare a [op,LR] [b,c] pos) (v9 r r' ta tb tc):=by
 intro a_ s Z H Q I h;refine Compare_chain (thn (ha a_ s Z H _ I h) λv s1 ⟨x,H1,I1,r1,q1⟩=>chain_link (thn (hb a_ s1 Z H1 _ I1 q1) λu s2 ⟨y,H2,I2,r2,q2⟩=>
  thn (ho a_ s2 Z H2 x y v u _ I2 r1 r2 q2) λd s3 ⟨z,H3,I3,r3,k,e,q3⟩=>?_)) hm
 subst e;cases r3;refine KR ?_;cases k with
 |false=>exact ite_ff ⟨.bl false,H3,I3,rfl,q3⟩
 |true=>exact ite_tt (chain_last (thn (hc a_ s3 Z H3 _ I3 q3) λw' s4 ⟨z',H4,I4,r4,q4⟩=>Md a_ s4 Z H4 y z' u w' Q I4 r2 r4 q4))
theorem vY(ho:OpR X (compareOp op) r)(Md:OpR X (compareOp LR) r')(ha:PE X a ta)(hb:PE X b tb)(hc:PE X c tc)
  (hm:lastMarks [op,LR] [b,c]=false:=by with_unfolding_all rfl):PT X (.Compare a [op,LR] [b,c] pos) (Ao (v9 r r' ta tb tc)):=by
 intro a_ s Z H Q I h;refine isTrue_chain (thn (ha a_ s Z H _ I h) λv s1 ⟨x,H1,I1,r1,q1⟩=>test_link (thn (hb a_ s1 Z H1 _ I1 q1) λu s2 ⟨y,H2,I2,r2,q2⟩=>
  thn (ho a_ s2 Z H2 x y v u _ I2 r1 r2 q2) λd s3 ⟨z,H3,I3,r3,k,e,q3⟩=>?_)) hm
 subst e;cases r3;refine KR ?_;cases k with
 |false=>
  obtain⟨k',e',q'⟩:=q3;cases e';exact ite_ff ⟨H3,I3,q'⟩
 |true=>
  refine ite_tt (test_last (thn (hc a_ s3 Z H3 _ I3 q3) λw' s4 ⟨z',H4,I4,r4,q4⟩=>thn (Md a_ s4 Z H4 y z' u w' _ I4 r2 r4 q4) λd' s5 ⟨z2,H5,I5,r5,k2,e2,q5⟩=>?_))
  subst e2;cases r5;exact KR ⟨H5,I5,q5⟩
theorem jA:(sizeLine:Nat)<2 ^ 63:=by rw[sizeLine_eq];decide
theorem gG(r:Vals [x] us):∃u,us=[u]/\RelV x u:=by
 cases r with
 |cons r1 r2=>cases r2;exact⟨_,rfl,r1⟩
theorem Ak(r:Vals [x,y] us):∃u w',us=[u,w']/\RelV x u/\RelV y w':=by
 cases r with
 |cons r1 r2=>
  cases r2 with
  |cons r3 r4=>cases r4;exact⟨_,_,rfl,r1,r3⟩
theorem ui(hc:X.calm=true):CallR X (.builtin "max") (λxs H Q=>∃i j,xs=[.int i,.int j]/\Q (.int (if j > i then j else i)) H):=by
 intro a_ s Z H xs us Q I r h;obtain⟨i,j,rfl,q⟩:=h;obtain⟨u,w',rfl,⟨t,rfl⟩,⟨t',rfl⟩⟩:=Ak r;refine max_two_ints (I.ok.hd hc) λh' tk k=>⟨_,H,I.kept k,?_,q⟩
 by_cases hj:j > i
 ·rw[Kp hj,Kp hj];exact⟨_,rfl⟩
 ·rw[Kj hj,Kj hj];exact⟨_,rfl⟩
theorem uA(hc:X.calm=true):CallR X (.builtin "min") (λxs H Q=>∃i j,xs=[.int i,.int j]/\Q (.int (if j<i then j else i)) H):=by
 intro a_ s Z H xs us Q I r h;obtain⟨i,j,rfl,q⟩:=h;obtain⟨u,w',rfl,⟨t,rfl⟩,⟨t',rfl⟩⟩:=Ak r;refine min_two_ints (I.ok.hd hc) λh' tk k=>⟨_,H,I.kept k,?_,q⟩
 by_cases hj:j<i
 ·rw[Kp hj,Kp hj];exact⟨_,rfl⟩
 ·rw[Kj hj,Kj hj];exact⟨_,rfl⟩
end
structure ObjM (h:Heap)(x dx C:Addr)(mA:Str->Option Value):Prop where
 obj:h.get? x=some (PySem.W.instObj C dx)
 ns:h.Ns1 dx mA
 ne:dx≠x
theorem uD{h:Heap}(n:h.Ns1 dx mA):∃od,h.get? dx=some od/\∀name,PySem.W.lookIn name od=some (mA name):=by
 obtain⟨o,es,ep,ho,hd,hk,_,hm⟩:=n;refine⟨o,ho,λname=>?_⟩
 have e:=hm name;unfold nsFind findBy at e;rw[<-Array.find?_toList]at e;unfold PySem.W.lookIn;rw[hd];dsimp only;split
 ·rename_i y q;rw[q]at e;exact congrArg some e
 ·rename_i q;rw[q]at e;have a:es.toList.any (·.refKey)=false:=by
   rw[List.any_eq_false];intro y hy;obtain⟨z,t,Qp⟩:=hk y (Array.mem_toList_iff.mp hy);simp[DictEntry.refKey,Qp]
  have a':¬ es.toList.any (·.refKey)=true:=by rw[a];exact Ku
  rw[Kj a'];exact congrArg some e
theorem ObjM.look(I:ObjM h x dx C mA):∃od,PySem.W.InstAt h x (PySem.W.instObj C dx) C (some od)/\∀name,PySem.W.lookIn name od=some (mA name):=
 let ⟨od,ho,hl⟩:=uD I.ns
 ⟨od,⟨I.obj,rfl,rfl,ho⟩,hl⟩
section
variable {w:World}{A:Around}{s:Shared}{K:Lr}{x:Addr}
theorem xP(X:K.In s.heap)(I:ObjM s.heap x dx C mA)(hg:PySem.W.plainGet K C name=true)(hh:PySem.W.hasDictIn K C=true)
  (ha:PySem.W.findIn K (.ref C) name=some none) (hv:mA name=some v) (Qq:PySem.W.handedIn v=true) (h:Q v {s with toks:=s.toks+1}) :
  wpAny (model prog w) A (getAttr (.ref x) name expr) Q E s:=by
 obtain⟨od,J,hl⟩:=I.look;exact PySem.W.get_value X J (PySem.W.plainGet_of hg).1 (PySem.W.findObj_own hh ha rfl (by rw[hl,hv])) Qq h
theorem xf(X:K.In s.heap)(I:ObjM s.heap x dx C mA)(hg:PySem.W.plainGet K C name=true)
  (hf:PySem.W.findIn K (.ref C) name=some (some (.ref f))) (ht:PySem.W.isFn K (.ref f)=true) (hv:mA name=none) (h:Q (.ref f,[.ref x]) s) :
  wpAny (model prog w) A (getMethod (.ref x) name pl) Q E s:=by
 obtain⟨od,J,hl⟩:=I.look;exact PySem.W.method_fn X J (PySem.W.plainGet_of hg).1 (PySem.W.plainGet_of hg).2 hf (KG.mp ht) (by show (PySem.W.lookIn name od).map (·.isSome)=some false;rw[hl,hv];rfl) h
theorem yM{ns:List Str}(X:K.In s.heap)(I:ObjM s.heap x dx C mA)
  (hs:PySem.W.findIn K (.ref C) "__setattr__"=some (some (.builtin "object.__setattr__"))) (hp:PySem.W.plainOver K C=true) (ht:PySem.W.takerIn K C name=some none) (hh:PySem.W.hasDictIn K C=true)
  (hw:PySem.Within mA ns) (hsz:ns.length<=sizeLine)
  (h:∀h',ObjM h' x dx C (λy=>if y=name then some v else mA y)->Heap.SameBut dx s.heap h'->Q () {s with heap:=h',toks:=s.toks+2}) :
  wpAny (model prog w) A (setAttr (.ref x) name v) Q E s:=by
 obtain⟨od,J,hl⟩:=I.look;refine PySem.W.set_plain X J hs (PySem.W.osa_open (s:={s with toks:=s.toks+1}) (r:=none) X J hp ht λb=>?_)
 obtain⟨cd,hc,Qj⟩:=PySem.W.any_some hh;have hx:s.heap.get? x=some ⟨.ref C,some dx,.plain,#[]⟩:=I.obj;refine Kf (Kh (Kf (Kf (wpAny_loadPart hx (Kf (PySem.W.Looks.here (s:={s with toks:=s.toks+1}) (PySem.W.looks_clsIn X hc) ?_))))))
 rw[Qj];refine Kh (a:=some dx) (Kf (Kh (Kf ?_)));refine wpAny_nsSet1 (s:={s with toks:=s.toks+1}) I.ns λh' Rr L8=>?_
 obtain⟨oD,Ud,Ue,Sk,Sl,Sm⟩:=Rr.count (PySem.Within.cons name v hw);refine Kf (wpAny_lookBehind Sk (by rw[Sl];exact pastItsLine_dict (KB Sm (by rw[Ky];omega))) ?_)
 exact Kh (h _ ⟨(L8.2 _ (Kz I.ne)).trans I.obj,Rr,I.ne⟩ L8)
theorem xB(X:K.In s.heap)(hm:PySem.W.makesIn K C=true)
  (hi:PySem.W.findIn K (.ref C) "__init__"=some (some (.ref f))) (hf:PySem.W.typeIn K (.ref f)=some (.type "function"))
  (h:codeAny (model prog w) (A.under (.builtin "type.__call__" ⟨.ref C::vs,kw⟩)) (.call (.ref f) ⟨.ref (s.heap.objs.size+1)::vs,kw⟩) (PySem.W.InitBack (s.heap.objs.size+1) R)
   {s with heap:=(s.heap.push PySem.W.emptyDict).push (PySem.W.instObj C s.heap.objs.size)}) :
  codeAny (model prog w) A (.call (.ref C) ⟨vs,kw⟩) R s:=by
 obtain⟨hh,g,d,t,os⟩:=s;exact PySem.W.make_core (PySem.W.makes_of X hm) (PySem.W.looks_findIn X hi) (λself=>PySem.W.bind_fn X self hf) (.inl rfl) h
end
def dE(f:Str)(v:V):List (Str×V)->List (Str×V)
 |[]=>[(f,v)]
 |(g,x)::r=>if g=f then (g,v)::r else (g,x)::dE f v r
theorem i4(f g:Str)(v:V):∀fs:List (Str×V),(dE f v fs).lookup g=if g=f then some v else fs.lookup g
 |[]=>by
  show List.lookup g [(f,v)]=_;by_cases h:g=f
  ·have hb:(g == f)=true:=KG.mpr h;simp only[List.lookup,hb,Kp h]
  ·have hb:(g == f)=false:=KM.mpr h;simp only[List.lookup,hb,Kj h]
 |(k,x)::r=>by
  have ih:=i4 f g v r;rw[show dE f v ((k,x)::r)=(if k=f then (k,v)::r else (k,x)::dE f v r) from rfl]
  by_cases hk:k=f
  ·rw[Kp hk];by_cases h:g=k
   ·have hb:(g == k)=true:=KG.mpr h;simp only[List.lookup,hb,Kp (h.trans hk)]
   ·have hb:(g == k)=false:=KM.mpr h;simp only[List.lookup,hb,Kj (λe:g=f=>h (e.trans hk.symm))]
  ·rw[Kj hk];by_cases h:g=k
   ·have hb:(g == k)=true:=KG.mpr h;simp only[List.lookup,hb,Kj (λe:g=f=>hk (h.symm.trans e))]
   ·have hb:(g == k)=false:=KM.mpr h;simp only[List.lookup,hb];exact ih
theorem im(f:Str)(v:V):∀fs:List (Str×V),f∈(dE f v fs).map (·.1)/\∀g,g∈fs.map (·.1)->g∈(dE f v fs).map (·.1)
 |[]=>⟨by simp[dE],λg h=>by simp at h⟩
 |(k,x)::r=>by
  obtain⟨i1,i2⟩:=im f v r;rw[show dE f v ((k,x)::r)=(if k=f then (k,v)::r else (k,x)::dE f v r) from rfl]
  by_cases hk:k=f
  ·rw[Kp hk];subst hk;exact⟨by simp,λg h=>by simpa using h⟩
  ·rw[Kj hk];refine⟨?_,λg h=>?_⟩
   ·rw[Kn];exact Ki _ i1
   ·rw[Kn]at h ⊢;rcases Kq.mp h with e|e
    ·exact Kq.mpr (.inl e)
    ·exact Ki _ (i2 g e)
theorem iS(f:Str)(v:V):∀fs:List (Str×V),(dE f v fs).length<=fs.length+1
 |[]=>by simp[dE]
 |(k,x)::r=>by
  have ih:=iS f v r;rw[show dE f v ((k,x)::r)=(if k=f then (k,v)::r else (k,x)::dE f v r) from rfl]
  by_cases hk:k=f
  ·rw[Kp hk,Ky,Ky];omega
  ·rw[Kj hk,Ky,Ky];omega
theorem RelO.some_of(r:RelO (some v) o):∃u,o=some u/\RelV v u:=by
 cases o with
 |none=>exact (show False from r).elim
 |some u=>exact⟨u,rfl,r⟩
theorem RelO.none_of(r:RelO none o):o=none:=by
 cases o with
 |none=>rfl
 |some u=>exact (show False from r).elim
theorem tI(r:RelV v u):PySem.W.handedIn u=true:=by
 cases v with
 |i_=>cases (show u=Value.none from r);rfl
 |bl b=>cases (show u=Value.bool b from r);rfl
 |int i=>obtain⟨t,e⟩:=(show ∃t,u=Value.int i t from r);cases e;rfl
 |str x=>obtain⟨t,e⟩:=(show ∃t,u=Value.str x t from r);cases e;rfl
 |PJ b=>obtain⟨t,e⟩:=(show ∃t,u=Value.bytes b t from r);cases e;rfl
 |PK b=>obtain⟨t,e⟩:=(show ∃t,u=Value.float b t from r);cases e;rfl
 |ref a=>cases (show u=Value.ref a from r);rfl
 |ty n=>cases (show u=Value.type n from r);rfl
section
variable {P:Program}{w:World}{h h':Heap}{a:Addr}{fs:List (Str×V)}
theorem zF(j_:HOk P w H h)(e:H a=some (.ins C dx fs)):∃mA,ObjM h a dx C mA/\(∀f,RelO (fs.lookup f) (mA f))/\PySem.Within mA (fs.map (·.1))/\fs.length<=1000/\H dx=some (.own a):=by
 obtain⟨d,z,ne,ob,mA,n,r,q⟩:=(show ObjOk P w H h a (.ins C dx fs) from j_ a _ e);exact⟨mA,⟨ob,n,ne⟩,r,q,z,d⟩
end
structure Cls (K:Lr)(C:Addr):Prop where
 pg:PySem.W.plainGet K C Str.empty=true
 hd:PySem.W.hasDictIn K C=true
 po:PySem.W.plainOver K C=true
 sa:PySem.W.findIn K (.ref C) "__setattr__"=some (some (.builtin "object.__setattr__"))
theorem Cls.get{K:Lr}{C:Addr}(c:Cls K C)(f:Str):PySem.W.plainGet K C f=true:=c.pg
def NoAttr(K:Lr)(C:Addr)(f:Str):Prop:=PySem.W.findIn K (.ref C) f=some none
theorem NoAttr.taker{K:Lr}(n:NoAttr K C f):PySem.W.takerIn K C f=some none:=by
 unfold PySem.W.takerIn;rw[show PySem.W.findIn K (.ref C) f=some none from n];rfl
structure Meth (K:Lr)(C:Addr)(m:Str)(f:Addr):Prop where
 at_:PySem.W.findIn K (.ref C) m=some (some (.ref f))
 fn:PySem.W.isFn K (.ref f)=true
 kp:PySem.W.keepIn K (.ref f)=true
section
variable {X:Cx}{s:Shared}{a:Addr}{fs:List (Str×V)}{A:Around}
theorem qU(I:Inv X a_ Z H s)(e:H a=some (.ins C dx fs))(c:Cls X.K C)(n:NoAttr X.K C f)(hl:fs.length<1000)(ry:RelV y u)
  (h:∀s',Inv X a_ Z (upd H a (.ins C dx (dE f y fs))) s'->Q () s'):wpAny (model X.prog X.w) A (setAttr (.ref a) f u) Q E s:=by
 obtain⟨mA,O,r,wi,_,ho⟩:=zF I.j_ e;have hz:(fs.map (·.1)).length<=sizeLine:=by rw[Kr,sizeLine_eq];omega
 refine yM I.kIn O c.sa c.po n.taker c.hd wi hz λh' O' sb=>h _ ?_
 have hd:∃o,h'.get? dx=some o:=let ⟨o,_,_,e',_⟩:=O'.ns;⟨o,e'⟩
 refine I.write (x:=a) (e:=dx) (by rw[e];exact True.intro) (.inr ho) (λb q hb z=>(sb.2 b hb).trans z) hd ?_
 refine⟨by rw[ah O.ne];exact ho,?_,O.ne,O'.obj,_,O'.ns,λg=>?_,λg hg=>?_⟩
 ·have:=iS f y fs;omega
 ·show RelO ((dE f y fs).lookup g) (if g=f then some u else mA g)
  rw[i4];by_cases q:g=f
  ·rw[Kp q,Kp q];exact ry
  ·rw[Kj q,Kj q];exact r g
 ·by_cases q:g=f
  ·rw[q];exact (im f y fs).1
  ·refine (im f y fs).2 g (wi g λz=>hg ?_)
   show (if g=f then some u else mA g)=none
   rw[Kj q];exact z
theorem Inv.made(I:Inv X a_ Z H s):Inv X a_ Z (upd (upd H s.heap.objs.size (.own (s.heap.objs.size+1))) (s.heap.objs.size+1) (.ins C s.heap.objs.size []))
  {s with heap:=(s.heap.push PySem.W.emptyDict).push (PySem.W.instObj C s.heap.objs.size)}:=by
 have e1:(s.heap.push PySem.W.emptyDict).get? s.heap.objs.size=some PySem.W.emptyDict:=Ko s.heap rfl;have e2:((s.heap.push PySem.W.emptyDict).push (PySem.W.instObj C s.heap.objs.size)).get? (s.heap.objs.size+1)=some (PySem.W.instObj C s.heap.objs.size):=by
  have:=Ko (s.heap.push PySem.W.emptyDict) (o:=PySem.W.instObj C s.heap.objs.size) rfl
  rwa [Heap.size_push]at this
 have e3:(s.heap.push PySem.W.emptyDict).Ns s.heap.objs.size (λ_=>none):=⟨PySem.W.emptyDict,#[],_,e1,rfl,(λe he=>absurd he (by simp)),λ_=>rfl⟩
 have I1:=I.laid (a:=s.heap.objs.size) (o:=.own (s.heap.objs.size+1)) (h':=s.heap.push PySem.W.emptyDict) (t':=s.toks) (λb u q=>Kk _ q) (Km _) ⟨_,e1⟩
 refine I1.laid (a:=s.heap.objs.size+1) (o:=.ins C s.heap.objs.size []) (t':=s.toks) (λb u q=>Kk _ q) (Nat.le_of_eq (Heap.size_push _ _)) ?_
 have ne:s.heap.objs.size≠s.heap.objs.size+1:=KH (Nat.lt_succ_self _);refine⟨by rw[ah ne,ai],Nat.zero_le _,ne,e2,λ_=>none,(Heap.Ns1.of_empty e3).at λo q=>Kk _ q,λ_=>True.intro,λy hy=>absurd rfl hy⟩
theorem yQ(hb:attributeBase e f env (eval e env)=eval e env)
  (h:wpAny (model prog w) A (eval e env) (λo r_=>wpAny (model prog w) A (getAttr o f true) Q E r_) E s):wpAny (model prog w) A (eval (.Attribute e f pos) env) Q E s:=
 Attribute_any_ h (by rw[arm_eval_Attribute,hb])
end
def G2(K:Lr)(ta tv:TE)(f:Str):TS:=λD Z H=>tv Z H λy H1=>ta Z H1 λx H2=>∃a C dx fs,x=.ref a/\H2 a=some (.ins C dx fs)/\Cls K C/\NoAttr K C f/\fs.length<1000/\
 D.nx Z (upd H2 a (.ins C dx (dE f y fs)))
section
variable {X:Cx}{o:Expr}{pos:Pos}
theorem CF(ha:PE X o ta)(hv:PE X value tv)(hs:swapsWith value (some (.Attribute o f pos')) pos.line X.env=pure false):PS X (.Assign [.Attribute o f pos'] value pos) (G2 X.K ta tv f):=by
 intro a_ s Z H D I h;refine plainObj_wpAny_Assign_Attribute (thn (hv a_ s Z H _ I h) λu s1 ⟨y,H1,I1,ry,q⟩=>thn (ha a_ s1 Z H1 _ I1 q) λov s2 ⟨x,H2,I2,rx,a,C,dx,fs,ex,ea,c,n,l,q2⟩=>?_) hs
 subst ex;obtain rfl:ov=Value.ref a:=rx;exact qU I2 ea c n l ry λs3 I3=>⟨Z,_,I3,q2⟩
end
section
variable {X:Cx}{s:Shared}{A:Around}{c:Value}{b:Bool}
end
structure Room (k:Nat)(A:Around):Prop where
 hd:A.handled=none
 dp:A.depth+3*k+5<recursionLimit
 un:A.units+16*k+200<cLine
theorem Room.mono(r:Room k A)(h:j<=k):Room j A:=⟨r.hd,by have:=r.dp;omega,by have:=r.un;omega⟩
theorem Room.deeper{A:Around}(r:Room (k+1) A)(env:Env):Room k (A.deeper env):=
 ⟨r.hd,by have:=r.dp;show A.depth+1+3*k+5<_;omega,by have:=r.un;show A.units+3+16*k+200<_;omega⟩
theorem qQ{A:Around}:(A.under (.builtin "type.__call__" ⟨.ref C::us,kw⟩)).depth=A.depth+1:=by
 first|rfl|simp[Around.under,Code.weight,Code.isCreation,Code.isGuard,Code.isCaller,Code.frames,Code.isFrame,guardIds]
theorem qL{A:Around}:(A.under (.builtin "type.__call__" ⟨.ref C::us,kw⟩)).units=A.units+1:=by
 first|rfl|simp[Around.under,Code.cUnits,Code.frames,Code.isFrame]
theorem Room.make{A:Around}(r:Room (k+1) A)(C:Addr)(us:List Value)(kw:List (Str×Value)):Room k (A.under (.builtin "type.__call__" ⟨.ref C::us,kw⟩)):=
 ⟨r.hd,by have:=r.dp;rw[qQ];omega,by have:=r.un;rw[qL];omega⟩
theorem Room.depth{A:Around}(r:Room k A):A.depth<recursionLimit:=by have:=r.dp;omega
theorem Room.units{A:Around}(r:Room k A):A.units+64<cLine:=by have:=r.un;omega
def tNil:TA:=λ_ H Q=>Q [] H
def Fs(ta:TE)(tr:TA):TA:=λZ H Q=>ta Z H λx H1=>tr Z H1 λxs H2=>Q (x::xs) H2
section
variable {X:Cx}{pos:Pos}
theorem pa_nil:PA X [] tNil:=λ_ _ _ _ H Q I h=>Calls.spliced_nil ⟨[],H,I,.nil,h⟩
theorem cv(ha:PE X e te)(hr:PA X es t)(hs:starEach (e::es) X.env=(false,eval e X.env)::starEach es X.env:=by rfl):PA X (e::es) (Fs te t):=by
 intro pos a_ s Z H Q I h;rw[hs];show wpAny _ _ (spliced ((false,eval e X.env)::backTo pos (starEach es X.env))) _ _ s;refine Calls.spliced_cons (thn (ha a_ s Z H _ I h) λu s1 ⟨x,H1,I1,r1,q1⟩=>?_)
 exact thn (hr pos a_ s1 Z H1 _ I1 q1) λus s2 ⟨xs,H2,I2,r2,q2⟩=>⟨x::xs,H2,I2,.cons r1 r2,q2⟩
def IC(t:TA):TE:=λZ H Q=>t Z H λxs H1=>xs.length<=sizeLine/\∀p,H1 p=none->Q (.ref p) (upd H1 p (.tup xs))
def G5(t:TA):TE:=λZ H Q=>t Z H λxs H1=>xs.length<=sizeLine/\∀p,H1 p=none->Q (.ref p) (upd H1 p (.lst xs))
theorem CV{x1}(h:PA X es t):PE X (.Tuple es x1 pos) (IC t):=by
 intro a_ s Z H Q I hq;refine wpAny_Tuple_spliced (thn (h pos a_ s Z H _ I hq) λus s1 ⟨xs,H1,I1,r,z,q⟩=>⟨by rw[<-r.length];exact z,?_⟩)
 have hf:H1 s1.heap.objs.size=none:=I1.j_.fresh (Km _);refine⟨.ref s1.heap.objs.size,upd H1 s1.heap.objs.size (.tup xs),I1.laid (t':=s1.toks) (λb u e=>Kk _ e) (Km _) ?_,rfl,q _ hf⟩
 exact⟨z,us,r,⟨_,Ko _ rfl,rfl,_,rfl⟩⟩
theorem CH(h:PA X es t):PE X (.List es pos) (G5 t):=by
 intro a_ s Z H Q I hq;refine wpAny_List_spliced (thn (h pos a_ s Z H _ I hq) λus s1 ⟨xs,H1,I1,r,z,q⟩=>⟨by rw[<-r.length];exact z,?_⟩)
 have hf:H1 s1.heap.objs.size=none:=I1.j_.fresh (Km _);refine⟨.ref s1.heap.objs.size,upd H1 s1.heap.objs.size (.lst xs),I1.laid (t':=s1.toks) (λb u e=>Kk _ e) (Km _) ?_,rfl,q _ hf⟩
 exact⟨z,us,0,r,Ko _ rfl⟩
end
abbrev Sp:=List V->Hp->VK->XK->Prop
abbrev CXT:=List Env->Hp->Shared->XK->Value->Shared->Prop
structure Env0 (P:Program)(w:World)(K:Lr)(mg:Str->Option Value)(base:Heap)(A:Around)(outer:List Env)(s:Shared)(H:Hp):Prop where
 frames:A.frames=some outer
 mod:Mod K mg base
 bs:∀b o,base.get? b=some o->s.heap.get? b=some o/\H b=none
 bsz:base.objs.size<=s.heap.objs.size
 funs:s.heap.FunFrames base outer
 frf:∀b∈frs outer,H b=none
 j_:HOk P w H s.heap
 bare:AllBare s.gens
def CE(outer:List Env)(P:Program)(w:World)(H:Hp)(s:Shared)(Q:VK)(u:Value)(s':Shared):Prop:=
 ∃v H',s'.os=s.os/\AllBare s'.gens/\Un (frs outer) [] H H' s.heap s'.heap/\HOk P w H' s'.heap/\RelV v u/\Q v H'
def CR(CX:CXT)(outer:List Env)(P:Program)(w:World)(H:Hp)(s:Shared)(Q:VK)(E:XK)(r:Result)(s':Shared):Prop:=
 match r with
 |.ok (.ret u)=>CE outer P w H s Q u s'
 |.ok _=>False
 |.error e=>CX outer H s E e s'
structure FnOk (P:Program)(w:World)(K:Lr)(mg:Str->Option Value)(base:Heap)(CX:CXT)(k:Nat)(f:Addr)(fd:FuncData)(ps:List Str)(sp:Sp):Prop where
 len:∀vs H Q E,sp vs H Q E->vs.length=ps.length
 run:∀(A:Around)(outer:List Env)(s:Shared)(H:Hp)(args:Args)(us:List Value)(vs:List V)(Q:VK)(E:XK),Room k A->Env0 P w K mg base A outer s H->BindsTo s fd args (ps.zip us)->Vals vs us->sp vs H Q E->
  codeAny (model P w) A (.call (.ref f) args) (CR CX outer P w H s Q E) s
theorem Env0.make{K:Lr}{A:Around}(e:Env0 P w K mg base A outer s H)(C:Addr)(us:List Value)(kw:List (Str×Value)) :
  Env0 P w K mg base (A.under (.builtin "type.__call__" ⟨.ref C::us,kw⟩)) outer s H:=⟨by first|exact e.frames|(simpa [Around.under,Code.envs,Code.isFrame,pushEnvs] using e.frames),e.mod,e.bs,e.bsz,e.funs,e.frf,e.j_,e.bare⟩
section
variable {X:Cx}{s:Shared}
theorem Inv.env0(I:Inv X a_ Z H s):Env0 X.prog X.w X.K X.mg X.base X.A X.stack s H:=
 ⟨I.ok.frames,I.ok.mod,I.bs,KB I.ok.bsz I.sz,I.stack,I.stkFree,I.j_,I.bare⟩
theorem Inv.after(I:Inv X a_ Z H s)(h:CE X.stack X.prog X.w H s Q u s'):EP X a_ Z Q u s':=by
 obtain⟨v,H',os,bare,un,j_,r,q⟩:=h;obtain⟨hh,g,d,t,Sn⟩:=s';obtain rfl:Sn=s.os:=os;exact⟨v,H',I.call (h':=hh) (g':=g) (d':=d) (t':=t) (ch:=[]) un j_ bare (λb z=>absurd z (by simp)),r,q⟩
end
def Binds(K:Lr)(fd:FuncData)(ps:List Str)(ds:List Value):Prop:=
 ∀(s:Shared)(us:List Value),K.In s.heap->(us++ds).length=ps.length->BindsTo s fd ⟨us,[]⟩ (ps.zip (us++ds))
theorem Binds.all{K:Lr}{ps:List Str}(h:∀us:List Value,us.length=ps.length->bindArgs fd ⟨us,[]⟩=pure (ps.zip us)):Binds K fd ps []:=λs us _ hl=>by
 rw[KZ]at hl ⊢;exact .of_eq (h us hl)
def A4(CX:CXT)(X:Cx)(E:XK):Prop:=∀(a_:List (Addr×Obj)) (Z:St)(H:Hp)(s:Shared)(e:Value)(s':Shared),Inv X a_ Z H s->CX X.stack H s E e s'->X.xe e s'
section
variable {X:Cx}{k:Nat}{ps:List Str}{x:Str}{p pos o_:Pos}{o:Expr}
structure Mk (K:Lr)(C f:Addr):Prop where
 makes:PySem.W.makesIn K C=true
 init:PySem.W.findIn K (.ref C) "__init__"=some (some (.ref f))
 fn:PySem.W.isFn K (.ref f)=true
 kp:PySem.W.keepIn K (.ref C)=true
end
section
variable {X:Cx}{k:Nat}{ps ks:List Str}{x:Str}{p pos o_:Pos}{o:Expr}
end
structure FnScope (N P:List Str)(sc:Scope):Prop where
 kind:sc.kind=.function
 co:sc.isCoroutine=false
 gen:sc.isGenerator=false
 nd:N.Nodup
 pre:N.take P.length=P
 par:∀x∈P,sc.names.lookup x=some .local\/sc.names.lookup x=some .cell
 nofree:∀y∈sc.names,y.2≠.free
theorem mv{kindOf:Str->Option NameKind}{x:Str}:∀{Mr:List (Str×Value)}{m:Str->Option Value},(∀v,(x,v)∉Mr)->bindL kindOf Mr m x=m x
 |[],_,_=>rfl
 |(n,v)::r,m,h=>by
  unfold bindL;rw[mv λw hw=>h w (Ki _ hw)]
  split
  ·have:x≠n:=by rintro rfl;exact h v Kl
   simp[this]
  ·rfl
theorem me{kindOf:Str->Option NameKind}{x:Str}:∀{Mr:List (Str×Value)}{m:Str->Option Value},(∀v,(x,v)∉Mr)->bindC kindOf Mr m x=m x
 |[],_,_=>rfl
 |(n,v)::r,m,h=>by
  unfold bindC;rw[me λw hw=>h w (Ki _ hw)]
  split
  ·rfl
  ·have:x≠n:=by rintro rfl;exact h v Kl
   simp[this]
theorem lQ{kindOf:Str->Option NameKind}{x:Str}{v:Value}:∀{P:List Str}{vs:List Value}{i:Nat}{m:Str->Option Value},P.Nodup->P[i]?=some x->vs[i]?=some v->kindOf x=some .local->
  bindL kindOf (P.zip vs) m x=some v
 |[],_,_,_,_,h,_,_=>by simp at h
 |_::_,[],_,_,_,_,h,_=>by simp at h
 |p::P,w::vs,0,m,nd,h1,h2,hk=>by
  simp at h1 h2;subst h1;subst h2;show bindL kindOf ((p,w)::P.zip vs) m p=_;unfold bindL;rw[mv λv hv=>(KN.mp nd).1 (List.of_mem_zip hv).1,Kp hk]
  simp
 |p::P,w::vs,i+1,m,nd,h1,h2,hk=>by
  show bindL kindOf ((p,w)::P.zip vs) m x=_;unfold bindL;exact lQ (i:=i) (KN.mp nd).2 (by simpa using h1) (by simpa using h2) hk
theorem mE{kindOf:Str->Option NameKind}{x:Str}{v:Value}:∀{P:List Str}{vs:List Value}{i:Nat}{m:Str->Option Value},P.Nodup->P[i]?=some x->vs[i]?=some v->kindOf x≠some .local->
  bindC kindOf (P.zip vs) m x=some v
 |[],_,_,_,_,h,_,_=>by simp at h
 |_::_,[],_,_,_,_,h,_=>by simp at h
 |p::P,w::vs,0,m,nd,h1,h2,hk=>by
  simp at h1 h2;subst h1;subst h2;show bindC kindOf ((p,w)::P.zip vs) m p=_;unfold bindC;rw[me λv hv=>(KN.mp nd).1 (List.of_mem_zip hv).1,Kj hk]
  simp
 |p::P,w::vs,i+1,m,nd,h1,h2,hk=>by
  show bindC kindOf ((p,w)::P.zip vs) m x=_;unfold bindC;exact mE (i:=i) (KN.mp nd).2 (by simpa using h1) (by simpa using h2) hk
def start(N:List Str)(vs:List V):St:=vs.map some++List.replicate (N.length-vs.length) none
def dO(CX:CXT)(P:Program)(w:World)(K:Lr)(mg:Str->Option Value)(base:Heap)(N:List Str)(qual:Str)(scope:Scope)(f:Addr)(cd:Value)(A:Around)(outer:List Env)(s:Shared)(H:Hp)(E:XK):Cx where
 prog:=P
 w:=w
 K:=K
 mg:=mg
 base:=base
 A:=A.deeper (envOfC qual scope s.heap.objs.size f cd)
 N:=N
 s₀:=s
 H₀:=H
 env:=envOfC qual scope s.heap.objs.size f cd
 outer:=outer
 stack:=envOfC qual scope s.heap.objs.size f cd::outer
 ex:=[]
 calm:=true
 fn:=λ_=>true
 pn:=[]
 xe:=λe s'=>wpAny (model P w) (A.deeper (envOfC qual scope s.heap.objs.size f cd)) (leaving (envOfC qual scope s.heap.objs.size f cd) e) (λ_ OZ=>CX outer H s E e OZ) (λe' OZ=>CX outer H s E e' OZ) s'
theorem pB{sc:Scope}(h:sc.names.lookup x=some .cell):∃c,(cellsFrom n sc.names []).lookup x=some c:=by
 have q:=PySem.W.cellsFrom_some sc.names n [] (.inl h);exact KL.mp q
theorem tM{K:Lr}{ps:List Str}{scope:Scope}{A:Around}{s:Shared}{vs:List V}
  (S:FnScope N ps scope) (hd:A.handled=none) (e0:Env0 P w K mg base A outer s H) (hl:vs.length=ps.length) (r:Vals vs us)
  (x:InCallC s s.heap.objs.size (bindL (envOfC qual scope s.heap.objs.size f cd).kindOf (ps.zip us) λ_=>none) (cellsFrom (s.heap.objs.size+1) scope.names []) (bindC (envOfC qual scope s.heap.objs.size f cd).kindOf (ps.zip us) λ_=>none) s1) :
  Inv (dO CX P w K mg base N qual scope f cd A outer s H E) [] (start N vs) H s1:=by
 have LJ:ps.length<=N.length:=by have:=congrArg List.length S.pre;rw[List.length_take]at this;omega
 obtain⟨h1,tk,rfl,hk⟩:=x.done;have O0:∀b:Addr,b∉(dO CX P w K mg base N qual scope f cd A outer s H E).ex:=λb z=>absurd (show b∈([]:List Addr) from z) (by simp)
 refine⟨⟨e0.mod,S.kind,rfl,rfl,Km _,λy z c h1 h2=>?_,λy hy=>?_,λy c _ h=>?_,λ_=>hd,Around.frames_deeper e0.frames,.inr ⟨rfl,rfl⟩,λb z=>absurd z (O0 b),e0.bs,e0.bsz,λb _ _=>O0 b,λb z=>absurd z (O0 b),e0.funs,e0.frf⟩,
  rfl,e0.bare,Un.kept hk,⟨_,x.toInCall.ns,λi y v h1 h2 h3=>?_⟩,λy c h=>⟨_,x.cell y c h⟩,e0.j_.fresh (Km _),λy c h=>?_,λp hp=>absurd (show p∈([]:List (Addr×Obj)) from hp) (by simp),e0.j_.kept hk,?_⟩
 ·exact name_of_addr x.apart (PySem.mem_of_lookup h1) (PySem.mem_of_lookup h2)
 ·have hy:scope.names.lookup y=some .cell\/scope.names.lookup y=some .free:=hy;rcases hy with hy|hy
  ·exact pB hy
  ·exact absurd rfl (S.nofree _ (PySem.mem_of_lookup hy))
 ·exact Nat.le_of_lt (x.above y c (PySem.mem_of_lookup h))
 ·have hi:i<vs.length:=by
   unfold start at h2;by_cases hi:i<vs.length
   ·exact hi
   ·rw[List.getElem?_append_right (by simpa using hi)]at h2
    rw[List.getElem?_replicate]at h2;split at h2<;>cases h2
  have ha:vs[i]?=some v:=by
   unfold start at h2;rw[List.getElem?_append_left (by simpa using hi),Kt]at h2
   cases e:vs[i]? with
   |none=>rw[e]at h2;cases h2
   |some a=>rw[e]at h2;cases h2;rfl
  obtain⟨u,hu,rv⟩:=r.get ha;have hp:ps[i]?=some y:=by
   rw[<-S.pre,List.getElem?_take_of_lt (by omega)];exact h1
  have Rt:ps.Nodup:=by rw[<-S.pre];exact S.nd.sublist (List.take_sublist _ _)
  refine⟨u,rv,?_⟩;rcases S.par y (KW hp) with k|k
  ·exact .inl ⟨k,lQ Rt hp hu k⟩
  ·obtain⟨c,e⟩:=pB (n:=s.heap.objs.size+1) k;refine .inr ⟨.inl k,c,e,?_⟩;have q:=x.cell y c e;rw[mE Rt hp hu (by show scope.names.lookup y≠_;rw[k];decide)]at q
   exact q
 ·exact e0.j_.fresh (Nat.le_of_lt (x.above y c (PySem.mem_of_lookup h)))
 ·unfold start;show _=N.length;rw[KO,Kr,List.length_replicate];omega
theorem DR{CX:CXT}{P:Program}{w:World}{K:Lr}{mg:Str->Option Value}{base:Heap}{k:Nat}{f:Addr}{name qual:Str}{params:Arguments}{body:List Stmt}{scope:Scope}{dV kV doc pm MC ct oc:Value}{an od:Option Addr}
  {PR:Array (Option Value)}{N ps:List Str}{sp:Sp} (lk:K.lookup f=some ⟨oc,od,.func (PySem.W.fnOf name qual params body scope dV kV doc pm an MC ct),PR⟩) (Ni:PySem.W.codeIn K MC qual=true) (S:FnScope N ps scope)
  (len:∀vs H Q E,sp vs H Q E->vs.length=ps.length)
  (O1:∀(A:Around)(outer:List Env)(s:Shared)(H:Hp)(vs:List V)(Q:VK)(E:XK),Room k (A.deeper (envOfC qual scope s.heap.objs.size f MC))->sp vs H Q E->
   ∃t,PSs (dO CX P w K mg base N qual scope f MC A outer s H E) body t/\t {nx:=λ_ H'=>Q .i_ H',rt:=Q} (start N vs) H) :
  FnOk P w K mg base CX (k+1) f (PySem.W.fnOf name qual params body scope dV kV doc pm an MC ct) ps sp:=by
 refine⟨len,λA outer s H args us vs Q E hr e0 hb r OF=>?_⟩
 have hl:=len _ _ _ _ OF;have KX:K.In s.heap:=e0.mod.kin.keeps λb o e=>(e0.bs b o e).1
 have T_:s.heap.NoLimit:=e0.mod.nolimit.keeps λb o e=>(e0.bs b o e).1
 have O2:∀y∈ps.zip us,scope.names.lookup y.1=some .local\/(scope.names.lookup y.1=some .cell/\((cellsFrom (s.heap.objs.size+1) scope.names []).lookup y.1).isSome=true):=λ⟨n,v⟩ hy=>by
  rcases S.par n (List.of_mem_zip hy).1 with q|q
  ·exact .inl q
  ·exact .inr ⟨q,PySem.W.cellsFrom_some _ _ _ (.inl q)⟩
 refine codeAny_call_function hr.depth (KX _ _ lk) rfl S.co S.gen rfl (PySem.W.codeRec_of KX Ni) (hb _ _ _ _ ?_);refine wpAny_newFunctionEnv_cells S.kind O2 λenv he s1 x=>?_
 subst he;refine⟨T_.keeps x.toInCall.keep,codeAny_func ?_⟩;obtain⟨t,ht,hq⟩:=O1 A outer s H vs Q E (hr.deeper _) OF;have I:Inv (dO CX P w K mg base N qual scope f MC A outer s H E) [] (start N vs) H s1:=tM S hr.hd e0 hl r x;refine Lh (ht [] s1 (start N vs) H _ I hq) (λfl s' hs=>?_) λe s' hs=>hs
 have fin:∀{l_:St}{H':Hp}{v:V}{u:Value},Inv (dO CX P w K mg base N qual scope f MC A outer s H E) [] l_ H' s'->RelV v u->Q v H'->CE outer P w H s Q u s':=
  λ{l_ H' v u} J rv q=>⟨v,H',J.os,J.bare,J.base,J.j_,rv,q⟩
 cases fl with
 |ret u=>
  obtain⟨v,l_,H',J,rv,q⟩:=hs;exact fin J rv q
 |next=>
  obtain⟨l_,H',J,q⟩:=hs;exact fin (v:=V.i_) (u:=Value.none) J rfl q
 |brk=>
  obtain⟨_,_,_,q⟩:=hs;exact False.elim q
 |cont=>
  obtain⟨_,_,_,q⟩:=hs;exact False.elim q
section
variable {X:Cx}{x:Str}{p pos:Pos}{id:String}
def tCB(r:List V->Hp->VK->Prop)(t:TA):TE:=λZ H Q=>t Z H λvs H1=>r vs H1 Q
theorem kn(hc:CallR X (.builtin id) r)(hg:Gl X x)(hm:X.mg x=none)(hv:bootBuiltins x=some (.builtin id))(ha:PA X (e::es) t)(hn:x≠"__name__":=by decide)(LW:(x == ("__debug__" : Str))=false:=by decide)
  (he:starEach (e::es) X.env=(false,eval e X.env)::starEach es X.env:=by rfl) (LJ:(backTo pos (starEach es X.env)).any (·.1)=false:=by rfl):PE X (.Call (.Name x p) (e::es) [] pos) (tCB r t):=by
 intro a_ s Z H Q I h;refine wpAny_Call_Name_kw (iF I hg hm hv ?_ hn LW);exact PyProof.Rows.callWith_builtin1 (thn (ha pos a_ s Z H _ I h) λus s1 ⟨vs,H1,I1,r1,q1⟩=>hc a_ s1 Z H1 vs us Q I1 r1 q1) he LJ
theorem tY(hc:CallR X (.type T) r)(hg:Gl X x)(hm:X.mg x=none)(hv:bootBuiltins x=some (.type T))(ha:PA X (e::es) t)(hn:x≠"__name__":=by decide)(LW:(x == ("__debug__" : Str))=false:=by decide)
  (he:starEach (e::es) X.env=(false,eval e X.env)::starEach es X.env:=by rfl) (LJ:(backTo pos (starEach es X.env)).any (·.1)=false:=by rfl):PE X (.Call (.Name x p) (e::es) [] pos) (tCB r t):=by
 intro a_ s Z H Q I h;refine wpAny_Call_Name_kw (iF I hg hm hv ?_ hn LW);exact PyProof.Rows.callWith_type1 (thn (ha pos a_ s Z H _ I h) λus s1 ⟨vs,H1,I1,r1,q1⟩=>hc a_ s1 Z H1 vs us Q I1 r1 q1) he LJ
end
section
variable [DecidableEq κ]
def cV(m_:List (κ×V))(k:κ):Option V:=(m_.find? λkv=>decide (kv.1=k)).map (·.2)
def dH(m_:List (κ×V))(k:κ)(v:V):List (κ×V):=
 if (m_.any λkv=>decide (kv.1=k))=true then m_.map (λkv=>if kv.1=k then (kv.1,v) else kv) else m_++[(k,v)]
theorem eZ{p:κ×V}(e:p.1=k):cV (p::r) k=some p.2:=by simp[cV,Lj,e]
theorem dI{p:κ×V}(e:¬ p.1=k):cV (p::r) k=cV r k:=by simp[cV,Lj,e]
theorem oW(k:κ):∀m_:List (κ×V),(m_.any λkv=>decide (kv.1=k))=(cV m_ k).isSome
 |[]=>rfl
 |p::r=>by
  rw[List.any_cons];by_cases e:p.1=k
  ·simp only[eZ e,decide_eq_true e,Bool.true_or,Option.isSome_some]
  ·rw[dI e,KQ e,Bool.false_or];exact oW k r
theorem fA(m_:List (κ×V))(k:κ)(v:V):(dH m_ k v).length<=m_.length+1:=by
 unfold dH;split
 ·rw[Kr];omega
 ·rw[KO,Ky,List.length_nil];omega
theorem RelO.isSome_eq{o:Option V}{u:Option Value}(r:RelO o u):o.isSome=u.isSome:=by
 cases o with
 |none=>cases u with
  |none=>rfl
  |some _=>exact (show False from r).elim
 |some _=>cases u with
  |none=>exact (show False from r).elim
  |some _=>rfl
theorem RelO.getD{o:Option V}{u:Option Value}(r:RelO o u)(rd:RelV d d'):RelV (o.getD d) (u.getD d'):=by
 cases o with
 |none=>cases u with
  |none=>exact rd
  |some _=>exact (show False from r).elim
 |some _=>cases u with
  |none=>exact (show False from r).elim
  |some _=>exact r
theorem KV.val(r:KV m_ vs)(k:κ):RelO (cV m_ k) (valueAt vs k):=by
 unfold KV at r
 induction r with
 |nil=>exact True.intro
 |@cons p q ps qs h t ih=>
  obtain⟨h1,h2⟩:=h;by_cases e:p.1=k
  ·have e':q.1=k:=h1.symm.trans e;have b:valueAt (q::qs) k=some q.2:=by simp[valueAt,Lj,e']
   rw[eZ e,b];exact h2
  ·have e':¬ q.1=k:=λz=>e (h1.trans z)
   have b:valueAt (q::qs) k=valueAt qs k:=by simp[valueAt,Lj,e']
   rw[dI e,b];exact ih
theorem KV.any{m_:List (κ×V)}{vs:List (κ×Value)}(r:KV m_ vs)(k:κ):(m_.any λkv=>decide (kv.1=k))=vs.any λkv=>decide (kv.1=k):=by
 unfold KV at r
 induction r with
 |nil=>rfl
 |cons h t ih=>rw[List.any_cons,List.any_cons,ih,h.1]
theorem KV.repl{m_:List (κ×V)}{vs:List (κ×Value)}(r:KV m_ vs)(k:κ)(ry:RelV y u) :
  KV (m_.map λkv=>if kv.1=k then (kv.1,y) else kv) (vs.map λkv=>if kv.1=k then (kv.1,u) else kv):=by
 unfold KV at r ⊢
 induction r with
 |nil=>exact .nil
 |@cons p q ps qs h t ih=>
  rw[Kn,Kn];refine .cons ?_ ih;obtain⟨h1,h2⟩:=h;by_cases e:p.1=k
  ·rw[Kp e,Kp (h1.symm.trans e)];exact⟨h1,ry⟩
  ·rw[Kj e,Kj (λz=>e (h1.trans z))];exact⟨h1,h2⟩
theorem KV.put(r:KV m_ vs)(k:κ)(ry:RelV y u):KV (dH m_ k y) (stored vs k u):=by
 unfold dH stored;rw[r.any k];by_cases e:(vs.any λkv=>decide (kv.1=k))=true
 ·rw[Kp e,Kp e];exact r.repl k ry
 ·rw[Kj e,Kj e];exact Paired.snoc r ⟨rfl,ry⟩
theorem KV.keys{m_:List (κ×V)}{vs:List (κ×Value)}(r:KV m_ vs):m_.map (·.1)=vs.map (·.1):=by
 unfold KV at r
 induction r with
 |nil=>rfl
 |cons h t ih=>rw[Kn,Kn,ih,h.1]
theorem KV.length{m_:List (κ×V)}{vs:List (κ×Value)}(r:KV m_ vs):m_.length=vs.length:=Paired.length r
end
theorem iQ(r:RelV (kV k) u):(aB P w).is k u=true:=by
 cases k with
 |inl i=>obtain⟨t,e⟩:=(show ∃t,u=Value.int i t from r);subst e;exact oA P w i t
 |inr x=>obtain⟨t,e⟩:=(show ∃t,u=Value.str x t from r);subst e;exact pG P w x t
theorem lV:∀{ks:List Key}{us:List Value},Vals (ks.map kV) us->ItemsAre (aB P w) ks us
 |[],_,r=>by rw[List.map_nil]at r;cases r;exact .nil
 |k::ks,_,r=>by
  rw[Kn]at r;cases r with
  |cons h t=>exact .cons (iQ h) (lV t)
abbrev KT(H:Hp):List (List Key×V)->List (List Key×Addr×Value)->Prop:=Paired λp q=>p.1=q.1/\H q.2.1=some (.tup (p.1.map kV))/\RelV p.2 q.2.2
theorem KT.val(r:KT H m_ xs)(k:List Key):RelO (cV m_ k) ((atKey xs k).map (·.2)):=by
 induction r with
 |nil=>exact True.intro
 |@cons p q ps qs h t ih=>
  obtain⟨h1,_,h2⟩:=h;by_cases e:p.1=k
  ·have e':q.1=k:=h1.symm.trans e;have b:atKey (q::qs) k=some q.2:=by simp[atKey,Lj,e']
   rw[eZ e,b];exact h2
  ·have e':¬ q.1=k:=λz=>e (h1.trans z)
   have b:atKey (q::qs) k=atKey qs k:=by simp[atKey,Lj,e']
   rw[dI e,b];exact ih
theorem KT.repl{m_:List (List Key×V)}{xs:List (List Key×Addr×Value)}(r:KT H m_ xs)(k:List Key)(ry:RelV y u) :
  KT H (m_.map λkv=>if kv.1=k then (kv.1,y) else kv) (xs.map (putAt k u)):=by
 induction r with
 |nil=>exact .nil
 |@cons p q ps qs h t ih=>
  rw[Kn,Kn];refine .cons ?_ ih;obtain⟨h1,h2,h3⟩:=h;unfold putAt;by_cases e:p.1=k
  ·rw[Kp e,Kp (h1.symm.trans e)];exact⟨h1,h2,ry⟩
  ·rw[Kj e,Kj (λz=>e (h1.trans z))];exact⟨h1,h2,h3⟩
theorem KT.put(r:KT H m_ xs)(k:List Key)(hb:H b=some (.tup (k.map kV)))(ry:RelV y u) :
  KT H (dH m_ k y) (storedH xs k b u):=by
 have e:(m_.any λkv=>decide (kv.1=k))=(atKey xs k).isSome:=by
  rw[oW,(r.val k).isSome_eq,Option.isSome_map]
 unfold dH storedH;rw[e];by_cases q:(atKey xs k).isSome=true
 ·rw[Kp q,Kp q];exact r.repl k ry
 ·rw[Kj q,Kj q];exact Paired.snoc r ⟨rfl,hb,ry⟩
theorem KT.keeps(r:KT H m_ xs)(ht:∀b ys,H b=some (.tup ys)->H' b=some (.tup ys)):KT H' m_ xs:=
 Paired.mapP r λ_ _ z=>⟨z.1,ht _ _ z.2.1,z.2.2⟩
section
variable {w:World}{h:Heap}{a:Addr}
theorem Af(ok:HOk P w H h)(e:Rd H a u):ObjOk P w H h a u:=e.ok ok
theorem i5{m_:List (Key×V)}(ok:HOk P w H h)(e:Rd H a (.dK m_)):m_.length<=sizeLine/\(a == sysModules)=false/\∃vs,KV m_ vs/\h.DictOf (aB P w) a vs:=
 show ObjOk P w H h a (.dK m_) from Af ok e
theorem uU{m_:List (Key×V)}(ok:HOk P w H h)(e:H a=some (.dK m_)):m_.length<=sizeLine/\(a == sysModules)=false/\∃vs,KV m_ vs/\h.DictOf (aB P w) a vs:=i5 ok (.inl e)
theorem gw{ks:List Key}(ok:HOk P w H h)(e:H a=some (.tup (ks.map kV))):(tupleKind (aB P w)).is h ks a:=by
 obtain⟨_,f_,r,o,h1,h2,n,h3⟩:=(show ObjOk P w H h a (.tup (ks.map kV)) from ok a _ e);exact⟨o,f_.toArray,n,h1,h2,h3,by simpa using lV r⟩
theorem md{m_:List (List Key×V)}(ok:HOk P w H h)(e:Rd H a (.dT m_)):m_.length<=sizeLine/\(a == sysModules)=false/\
  ∃xs,KT H m_ xs/\h.DictOfH (tupleKind (aB P w)) a xs:=by
 obtain⟨z,y,xs,r,o,es,ep,h1,h2,h3,h4,h5⟩:=(show ObjOk P w H h a (.dT m_) from Af ok e);refine⟨z,y,xs,r,o,es,ep,h1,h2,h3,h4,λx hx=>?_,h5⟩
 have all:∀{l:List (List Key×V)}{m:List (List Key×Addr×Value)},KT H l m->∀x∈m,(tupleKind (aB P w)).is h x.1 x.2.1:=by
  intro l m q
  induction q with
  |nil=>intro x hx;exact nomatch hx
  |@cons p q ps qs hq t ih=>
   intro x hx;rcases Kq.mp hx with e|hx
   ·subst e;exact gw ok (by rw[<-hq.1];exact hq.2.1)
   ·exact ih x hx
 exact all r x hx
theorem D8{m_:List (List Key×V)}(ok:HOk P w H h)(e:H a=some (.dT m_)):m_.length<=sizeLine/\(a == sysModules)=false/\
  ∃xs,KT H m_ xs/\h.DictOfH (tupleKind (aB P w)) a xs:=md ok (.inl e)
end
def DGet(H:Hp)(a:Addr)(y:V)(r:Option V):Prop:=
 (∃m_ k,Rd H a (.dK m_)/\y=kV k/\r=cV m_ k)\/∃m_ k b,Rd H a (.dT m_)/\y=.ref b/\H b=some (.tup (k.map kV))/\r=cV m_ k
def DPut(H:Hp)(a:Addr)(y v:V)(H':Hp):Prop:=
 (∃m_ k,H a=some (.dK m_)/\y=kV k/\m_.length<sizeLine/\H'=upd H a (.dK (dH m_ k v)))\/
 ∃m_ k b,H a=some (.dT m_)/\y=.ref b/\H b=some (.tup (k.map kV))/\m_.length<sizeLine/\H'=upd H a (.dT (dH m_ k v))
section
variable {X:Cx}{s:Shared}{a:Addr}{y:V}{o:Option V}{A:Around}
theorem ua(hu:A.units+1<cLine)(I:Inv X a_ Z H s)(g:DGet H a y (some v))(ry:RelV y u)(h:∀w' s',Inv X a_ Z H s'->RelV v w'->Q w' s') :
  wpAny (model X.prog X.w) A (getItem (.ref a) u) Q E s:=by
 rcases g with ⟨m_,k,e,ey,l⟩|⟨m_,k,b,e,ey,eb,l⟩
 ·subst ey;obtain⟨z,hd,vs,rel,dd⟩:=i5 I.j_ e;obtain⟨w',hw,LF⟩:=RelO.some_of (v:=v) (o:=valueAt vs k) (by rw[l];exact rel.val k)
  exact wpAny_getItem_of (iQ ry) dd.mapOf hw (h w' _ (I.tok _) LF)
 ·subst ey;cases (show u=Value.ref b from ry);obtain⟨z,hd,xs,rel,dd⟩:=md I.j_ e;obtain⟨w',hw,LF⟩:=RelO.some_of (v:=v) (o:=(atKey xs k).map (·.2)) (by rw[l];exact rel.val k)
  obtain⟨p,hp,Qr⟩:=Option.map_eq_some_iff.mp hw;refine wpAny_getItem_heap (La hu) (gw I.j_ eb) dd hp ?_;rw[Qr];exact h w' _ (I.tok _) LF
theorem Hg(hu:A.units+1<cLine)(I:Inv X a_ Z H s)(g:DGet H a y o)(ry:RelV y u)(h:∀s',Inv X a_ Z H s'->Q (.bool o.isSome) s') :
  wpAny (model X.prog X.w) A (compareOp .In u (.ref a)) Q E s:=by
 rcases g with ⟨m_,k,e,ey,l⟩|⟨m_,k,b,e,ey,eb,l⟩
 ·subst ey;obtain⟨z,hd,vs,rel,dd⟩:=i5 I.j_ e;refine wpAny_in_of (iQ ry) hd dd.mapOf ?_;rw[<-(rel.val k).isSome_eq,<-l];exact h _ (I.tok _)
 ·subst ey;cases (show u=Value.ref b from ry);obtain⟨z,hd,xs,rel,dd⟩:=md I.j_ e;refine wpAny_in_heap (La hu) (gw I.j_ eb) hd dd ?_;have q:=(rel.val k).isSome_eq;rw[Option.isSome_map]at q;rw[<-q,<-l];exact h _ (I.tok _)
theorem yW(hu:A.units+1<cLine)(I:Inv X a_ Z H s)(g:DGet H a y o)(ry:RelV y u)(h:∀s',Inv X a_ Z H s'->Q (.bool (!o.isSome)) s') :
  wpAny (model X.prog X.w) A (compareOp .NotIn u (.ref a)) Q E s:=by
 rcases g with ⟨m_,k,e,ey,l⟩|⟨m_,k,b,e,ey,eb,l⟩
 ·subst ey;obtain⟨z,hd,vs,rel,dd⟩:=i5 I.j_ e;refine wpAny_notIn_of (iQ ry) hd dd.mapOf ?_;rw[<-(rel.val k).isSome_eq,<-l];exact h _ (I.tok _)
 ·subst ey;cases (show u=Value.ref b from ry);obtain⟨z,hd,xs,rel,dd⟩:=md I.j_ e;refine wpAny_notIn_heap (La hu) (gw I.j_ eb) hd dd ?_;have q:=(rel.val k).isSome_eq;rw[Option.isSome_map]at q;rw[<-q,<-l];exact h _ (I.tok _)
theorem gR{h':Heap}(I:Inv X a_ Z H s)(mu:Mut (H a))(hs:Heap.SameBut a s.heap h')(he:∃q,h'.get? a=some q)(new:ObjOk X.prog X.w (upd H a ob) h' a ob) :
  Inv X a_ Z (upd H a ob) {s with heap:=h',toks:=t'}:=
 I.write (x:=a) (e:=a) mu (.inl rfl) (λb q hb z=>(hs.2 b hb).trans z) he new
theorem w5{h':Heap}{m_:List (Key×V)}(z:m_.length<=sizeLine)(hd:(a == sysModules)=false)(rel:KV m_ vs)(dd:h'.DictOf (aB P w) a vs) :
  ObjOk P w H' h' a (.dK m_):=⟨z,hd,vs,rel,dd⟩
theorem uE(hu:A.units+1<cLine)(I:Inv X a_ Z H s)(g:DPut H a y v H')(ry:RelV y u)(rv:RelV v r)(h:∀s',Inv X a_ Z H' s'->Q () s') :
  wpAny (model X.prog X.w) A (setItem (.ref a) u r) Q E s:=by
 rcases g with ⟨m_,k,e,ey,l,eH⟩|⟨m_,k,b,e,ey,eb,l,eH⟩
 ·subst ey eH;obtain⟨z,hd,vs,rel,dd⟩:=uU I.j_ e;have hz:vs.length<=sizeLine:=by rw[<-rel.length];exact z
  have hl:(dH m_ k v).length<=sizeLine:=by have:=fA m_ k v;omega
  refine wpAny_setItem_pairs (hsz:=hz) (iQ ry) dd λh' MT hs=>h _ ?_
  have he:∃q,h'.get? a=some q:=let ⟨q,_,_,hq,_⟩:=MT;⟨q,hq⟩
  exact gR I (by rw[e];exact True.intro) hs he (w5 hl hd (rel.put k rv) MT)
 ·subst ey eH;cases (show u=Value.ref b from ry);obtain⟨z,hd,xs,rel,dd⟩:=D8 I.j_ e;have hz:xs.length<=sizeLine:=by rw[<-Paired.length rel];exact z
  have hl:(dH m_ k v).length<=sizeLine:=by have:=fA m_ k v;omega
  refine wpAny_setItem_heap (hsz:=hz) (La hu) (gw I.j_ eb) dd λh' MT hs=>h _ ?_
  obtain⟨q,es,ep,hq,h2,h3,h4,_,h5⟩:=MT;refine gR I (by rw[e];exact True.intro) hs ⟨q,hq⟩ ⟨hl,hd,_,(rel.put k eb rv).keeps λc ys ec=>?_,q,es,ep,hq,h2,h3,h4,h5⟩
  rw[ah (dC ec e (λz=>nomatch z))]
  exact ec
end
section
variable {X:Cx}{s:Shared}{a:Addr}{m_:List (Key×V)}{A:Around}
end
section
variable {X:Cx}{o:Expr}{pos:Pos}
end
section
variable {X:Cx}
end
structure M1 (X:Cx)(o:Expr)(m:Str)(o_:Pos)(e:Expr)(p_:Pos):Prop where
 base:attributeBase o m X.env (eval o X.env)=eval o X.env
 few:((backTo p_ (starEach [e] X.env)).all (λx=>!x.1)&&(backToKw p_ (keywordEach [] X.env)).all (λx=>x.1.isSome)
  &&decide (([e]:List Expr).length+([]:List Keyword).length+(if ([]:List Keyword).isEmpty then 0 else 1)<30))=true
 line:(o_.endLine == p_.line)=true
 trees:backTo p_ (starEach [e] X.env)=[(false,eval e X.env)]
structure M2 (X:Cx)(o:Expr)(m:Str)(o_:Pos)(e f:Expr)(p_:Pos):Prop where
 base:attributeBase o m X.env (eval o X.env)=eval o X.env
 few:((backTo p_ (starEach [e,f] X.env)).all (λx=>!x.1)&&(backToKw p_ (keywordEach [] X.env)).all (λx=>x.1.isSome)
  &&decide (([e,f]:List Expr).length+([]:List Keyword).length+(if ([]:List Keyword).isEmpty then 0 else 1)<30))=true
 line:(o_.endLine == p_.line)=true
 trees:backTo p_ (starEach [e,f] X.env)=[(false,eval e X.env),(false,eval f X.env)]
section
variable {X:Cx}{s:Shared}{a:Addr}{y d:V}{o:Option V}{A:Around}
theorem BA(hu:A.units+1<cLine)(I:Inv X a_ Z H s)(g:DGet H a y o)(ry:RelV y u)(h:∀w' s',Inv X a_ Z H s'->RelV (o.getD .i_) w'->Q w' s') :
  wpAny (model X.prog X.w) A (call (.builtin "dict.get") [.ref a,u]) Q E s:=by
 rcases g with ⟨m_,k,e,ey,l⟩|⟨m_,k,b,e,ey,eb,l⟩
 ·subst ey;obtain⟨z,hd,vs,rel,dd⟩:=i5 I.j_ e;refine call_meetsIn PySem.F.slot_dict_get dd.typeIs PySem.F.entry_dict_get (PySem.F.args_dict_get_2 _ _) (meets_dict_get (aB X.prog X.w) a (iQ ry) hd) ⟨_,dd.mapOf,h _ _ (I.tok _) ?_⟩;rw[l];exact (rel.val k).getD rfl
 ·subst ey;cases (show u=Value.ref b from ry);obtain⟨z,hd,xs,rel,dd⟩:=md I.j_ e;refine call_meetsIn PySem.F.slot_dict_get dd.typeIs PySem.F.entry_dict_get (PySem.F.args_dict_get_2 _ _) (meetsH_dict_get (tupleKind (aB X.prog X.w)) a b hd) ⟨La hu,k,xs,gw I.j_ eb,dd,h _ _ (I.tok _) ?_⟩;rw[l];exact (rel.val k).getD rfl
theorem CM(hu:A.units+1<cLine)(I:Inv X a_ Z H s)(g:DGet H a y o)(ry:RelV y u)(rd:RelV d r)(h:∀w' s',Inv X a_ Z H s'->RelV (o.getD d) w'->Q w' s') :
  wpAny (model X.prog X.w) A (call (.builtin "dict.get") [.ref a,u,r]) Q E s:=by
 rcases g with ⟨m_,k,e,ey,l⟩|⟨m_,k,b,e,ey,eb,l⟩
 ·subst ey;obtain⟨z,hd,vs,rel,dd⟩:=i5 I.j_ e;refine call_meetsIn PySem.F.slot_dict_get dd.typeIs PySem.F.entry_dict_get (PySem.F.args_dict_get_3 _ _ _) (meets_dict_get_default (aB X.prog X.w) a (iQ ry) hd r) ⟨_,dd.mapOf,h _ _ (I.tok _) ?_⟩;rw[l];exact (rel.val k).getD rd
 ·subst ey;cases (show u=Value.ref b from ry);obtain⟨z,hd,xs,rel,dd⟩:=md I.j_ e;refine call_meetsIn PySem.F.slot_dict_get dd.typeIs PySem.F.entry_dict_get (PySem.F.args_dict_get_3 _ _ _) (meetsH_dict_get_default (tupleKind (aB X.prog X.w)) a b hd r) ⟨La hu,k,xs,gw I.j_ eb,dd,h _ _ (I.tok _) ?_⟩;rw[l];exact (rel.val k).getD rd
end
section
variable {X:Cx}{o:Expr}
end
section
variable {X:Cx}{s:Shared}{a:Addr}{m_:List (Key×V)}{A:Around}
end
section
variable {X:Cx}{s:Shared}{a:Addr}{y:V}{A:Around}
end
end L2
namespace HT
open PySem PyProof.Rows
section
open PySem.SeqAt
open PySem.AutoSeq1 (wpAny_loadPart')
open PySem.MeetsSeq PySem.MeetsSeq2 PySem.MeetsSeq3
end
section
variable {w:World}{A:Around}{s:Shared}
theorem cat_tup{vs ws:List Value}(ht:IsTup s.heap t vs.toArray)(hb:IsTup s.heap b ws.toArray)(hv:vs≠[])
  (h1:ws=[]->Q (.ref t) s) (h2:ws≠[]->Q (.ref s.heap.objs.size) {s with heap:=s.heap.push {cls:=.type "tuple",data:=.seq (vs++ws).toArray}})
  (hsz:vs.length+ws.length<=sizeLine):wpAny (model prog w) A (binaryOp .Add (.ref t) (.ref b)) Q E s:=by
 obtain⟨⟨cls,dd,data,sl⟩,ho,hc,n,hd⟩:=id ht;obtain⟨⟨Qs,Nj,data2,MQ⟩,N7,hc2,n2,hd2⟩:=id hb;simp only at hc hd hc2 hd2;subst hc hd hc2 hd2;have e:vs.toArray++ws.toArray=(vs++ws).toArray:=by simp
 by_cases hw:ws=[]
 ·exact concat_meets ⟨_,ho,rfl⟩ ⟨_,N7,rfl⟩ noFill_tuple_add seq_tuple_add PySem.F.slot_tuple_add PySem.F.entry_tuple_add (PySem.F.args_tuple_add_2 _ _)
   (tuple_addW1 t b vs.toArray ws.toArray n n2 dd Nj sl MQ (by simpa using hv) (by simp[hw])) ⟨ho,N7,h1 hw⟩
 ·refine concat_meets ⟨_,ho,rfl⟩ ⟨_,N7,rfl⟩ noFill_tuple_add seq_tuple_add PySem.F.slot_tuple_add PySem.F.entry_tuple_add (PySem.F.args_tuple_add_2 _ _)
   (tuple_addW2 t b vs.toArray ws.toArray n n2 dd Nj sl MQ (by simpa using hv) (by simpa using hw) (by rw[List.size_toArray,List.size_toArray];exact hsz)) ⟨ho,N7,?_⟩
  rw[e];exact h2 hw
def sIx(n d:Nat):Option Int->Nat
 |none=>d
 |some v=>if v<0 then (v+(n:Int)).toNat else min v.toNat n
theorem sIx_none(n d:Nat):sIx n d none=d:=rfl
theorem sIx_nat(n d k:Nat):sIx n d (some (k:Int))=min k n:=by
 show (if (k:Int)<0 then ((k:Int)+(n:Int)).toNat else min (k:Int).toNat n)=min k n
 rw[if_neg (by omega),Int.toNat_natCast]
theorem AQ(n d:Nat)(hd:d<=n)(o:Option Int):sIx n d o<=n:=by
 cases o with
 |none=>exact hd
 |some v=>
  show (if v<0 then (v+(n:Int)).toNat else min v.toNat n)<=n
  by_cases hv:v<0
  ·rw[if_pos hv];omega
  ·rw[if_neg hv];exact Nat.min_le_right _ _
theorem rY(v:Int)(n d:Nat):(if v<0 then max (v+(n:Int)) 0 else min v (n:Int))=((sIx n d (some v):Nat):Int):=by
 show (if v<0 then max (v+(n:Int)) 0 else min v (n:Int))=(((if v<0 then (v+(n:Int)).toNat else min v.toNat n):Nat):Int)
 by_cases hv:v<0
 ·simp only[if_pos hv];omega
 ·simp only[if_neg hv];omega
theorem qr(lo hi:Option Int)(n:Nat):Builtin.Slice.sliceAdjust lo hi 1 (n:Int)=(((sIx n 0 lo:Nat):Int),((sIx n n hi:Nat):Int)):=by
 have h1:¬ ((1:Int)<0):=by omega
 unfold Builtin.Slice.sliceAdjust;simp only[h1,if_false];refine Prod.ext ?_ ?_
 ·cases lo with
  |none=>rfl
  |some v=>exact rY v n 0
 ·cases hi with
  |none=>rfl
  |some v=>exact rY v n n
theorem pZ(i j:Nat):Builtin.Slice.slicePlaces (i:Int) (j:Int) 1=j-i:=by
 unfold Builtin.Slice.slicePlaces;have h1:(1:Int) > 0:=by omega
 simp only[h1,if_true,Int.ediv_one];split<;>omega
theorem kf(p:IsPart v o)(h:Q o s):wpAny (model prog w) A (Builtin.Slice.slicePartIndex v) Q E s:=by
 cases p with
 |none=>exact slicePart_none h
 |int i t=>exact slicePart_int h
theorem ir{sl:Addr}{vl vu:Value}{lo hi:Option Int}{n:Nat}{Q:Int×Int×Nat->Shared->Prop}(hs:s.heap.IsSliceOf sl vl vu .none)(pl:IsPart vl lo)(pu:IsPart vu hi)
  (h:Q (((sIx n 0 lo:Nat):Int),1,sIx n n hi-sIx n 0 lo) s):wpAny (model prog w) A (Builtin.Slice.sliceApplied (.ref sl) (pure (n:Int))) Q E s:=by
 obtain⟨os,O3,Ru,PU⟩:=id hs;unfold Builtin.Slice.sliceApplied Builtin.Slice.sliceFields;refine wpAny_bind (wpAny_bind (wpAny_field O3 PU (x:=vl) rfl (wpAny_bind (wpAny_field O3 PU (x:=vu) rfl (wpAny_bind (wpAny_field O3 PU (x:=.none) rfl (wpAny_pure ?_)))))));refine wpAny_bind (slicePart_none ?_);show wpAny _ _ (if ((1:Int) == 0)=true then _ else _) _ _ s
 rw[if_neg (by decide)]
 refine wpAny_bind (kf pl (wpAny_bind (kf pu (wpAny_bind (wpAny_pure ?_)))));show wpAny _ _ (match Builtin.Slice.sliceAdjust lo hi 1 (n:Int) with|(lo,hi)=>pure (lo,(1:Int),Builtin.Slice.slicePlaces lo hi 1)) _ _ s
 rw[qr lo hi n];show wpAny _ _ (pure (((sIx n 0 lo:Nat):Int),(1:Int),Builtin.Slice.slicePlaces ((sIx n 0 lo:Nat):Int) ((sIx n n hi:Nat):Int) 1)) _ _ s;rw[pZ];exact wpAny_pure h
theorem u7(xs:Array Value)(i k:Nat):((List.range k).filterMap λ(m:Nat)=>xs[((i:Int)+(m:Int)*1).toNat]?).toArray=((xs.toList.drop i).take k).toArray:=by
 have e:(λ(m:Nat)=>xs[((i:Int)+(m:Int)*1).toNat]?)=λm=>xs[i+m]?:=by
  funext m;have:((i:Int)+(m:Int)*1).toNat=i+m:=by omega
  rw[this]
 rw[e];have:=pick_run xs i k;rw[List.filterMap_map]at this;have e2:((λx=>xs[x]?)∘λx=>i+x)=λm=>xs[i+m]?:=rfl
 rw[e2]at this;rw[this]
theorem getItem_tuple_cut{items:Array Value}{lo:Option Int}(ht:IsTup s.heap t items)(hs:s.heap.IsSliceOf sl vl vu .none)(pl:IsPart vl lo)(pu:IsPart vu hi)
  (hw:¬ (sIx items.size 0 lo=0/\sIx items.size items.size hi=items.size))
  (h:Q (.ref s.heap.objs.size) {s with heap:=s.heap.push {cls:=.type "tuple",data:=.seq ((items.toList.drop (sIx items.size 0 lo)).take (sIx items.size items.size hi-sIx items.size 0 lo)).toArray}})
  (hsz:items.size<=sizeLine):wpAny (model prog w) A (getItem (.ref t) (.ref sl)) Q E s:=by
 have MD:sizeOk (.seq ((items.toList.drop (sIx items.size 0 lo)).take (sIx items.size items.size hi-sIx items.size 0 lo)).toArray):=by
  show ((items.toList.drop (sIx items.size 0 lo)).take (sIx items.size items.size hi-sIx items.size 0 lo)).toArray.size<=sizeLine;rw[List.size_toArray,List.length_take,List.length_drop,Array.length_toList];omega
 have hj:sIx items.size items.size hi<=items.size:=AQ _ _ (Nat.le_refl _) hi;obtain⟨os,O3,Ru,PU⟩:=id hs;have So:s.TypeIs (.ref sl) "slice":=⟨os,O3,Ru⟩;unfold getItem
 try with_reducible refine wpAny_holding ?_
 first|refine wpAny_bind (wpAny_pure ?_)|skip
 refine wpAny_bind (wpAny_sequenceKey ht.typeIs (by decide) ?_)
 refine wpAny_bind (wpAny_callSpecial?_slot (name:=Str.ofString "__getitem__") ht.typeIs PyProof.Rows.slot_tuple_getitem
  (wpAny_call_entry PyProof.Rows.slot_tuple_getitem ht.typeIs entry_tuple_getitem ?_ (args_tuple_getitem _ _)))
 show wpAny _ _ (Builtin.Tuple.tupleItemsOf (.ref t) >>=_) _ _ s;refine wpAny_bind (tupleItemsOf_ ht ?_);refine wpAny_bind (wpAny_typeOf So ?_);rw[if_pos (by decide)]
 refine wpAny_bind (ir hs pl pu ?_);have NR:¬ ((((sIx items.size 0 lo:Nat):Int) == 0&&(1:Int) == 1&&(sIx items.size items.size hi-sIx items.size 0 lo) == items.size)=true):=by
  intro q;rw[Bool.and_eq_true,Bool.and_eq_true]at q;have q1:((sIx items.size 0 lo:Nat):Int)=0:=eq_of_beq q.1.1;have q2:sIx items.size items.size hi-sIx items.size 0 lo=items.size:=eq_of_beq q.2;exact hw ⟨by omega,by omega⟩
 show wpAny _ _ (if (((sIx items.size 0 lo:Nat):Int) == 0&&(1:Int) == 1&&(sIx items.size items.size hi-sIx items.size 0 lo) == items.size)=true then _ else _) _ _ s
 rw[if_neg NR,u7]
 first
  |exact wpAny_bind (m:=Builtin.Tuple.tupleExact _) (wpAny_newObj_type (wpAny_pure ⟨_,rfl,wpAny_pure h⟩) MD)
  |exact wpAny_bind (m:=Builtin.Tuple.tupleExact _) (wpAny_newObj_type (wpAny_bind (wpAny_pure (wpAny_pure ⟨_,rfl,wpAny_pure h⟩))) MD)
  |exact wpAny_bind (wpAny_bind (m:=Builtin.Tuple.tupleExact _) (wpAny_newObj_type (wpAny_pure (wpAny_pure ⟨_,rfl,wpAny_pure h⟩)) MD))
  |exact wpAny_bind (wpAny_bind (m:=Builtin.Tuple.tupleExact _) (wpAny_newObj_type (wpAny_pure ⟨_,rfl,wpAny_pure h⟩) MD))
end
end HT
namespace L2
open PySem PySem.Spec PyProof.Rows
abbrev TO:=St->Hp->(Option Int->Hp->Prop)->Prop
def PO(X:Cx)(e:Option Expr)(t:TO):Prop:=
 ∀(a_:List (Addr×Obj)) (s:Shared)(Z:St)(H:Hp)(Q:Option Int->Hp->Prop),Inv X a_ Z H s->t Z H Q->
  wpAny (model X.prog X.w) X.A (evalPart e X.env) (λu s'=>∃o H',Inv X a_ Z H' s'/\IsPart u o/\Q o H') X.xe s
def tNoPart:TO:=λ_ H Q=>Q none H
def EZ(t:TE):TO:=λZ H Q=>t Z H λx H1=>∃i,x=.int i/\Q (some i) H1
section
variable {X:Cx}{lo:Option Expr}
theorem po_none:PO X none tNoPart:=by
 intro a_ s Z H Q I h;rw[evalPart_none];exact Kh ⟨none,H,I,.none,h⟩
theorem zw(h:PE X e te):PO X (some e) (EZ te):=by
 intro a_ s Z H Q I hw;rw[evalPart_some];refine thn (h a_ s Z H _ I hw) λu s1 ⟨x,H1,I1,r1,q1⟩=>?_
 obtain⟨i,rfl,q⟩:=q1;obtain⟨t,rfl⟩:=r1;exact⟨some i,H1,I1,.int i t,q⟩
def SlR(X:Cx)(r:V->Option Int->Option Int->Hp->VK->Prop):Prop:=
 ∀(a_:List (Addr×Obj)) (s:Shared)(Z:St)(H:Hp)(x:V)(v vl vu:Value)(lo hi:Option Int)(sl:Addr)(Q:VK),Inv X a_ Z H s->RelV x v->s.heap.IsSliceOf sl vl vu .none->IsPart vl lo->IsPart vu hi->r x lo hi H Q->
  ∃T id,typeLookup (.type T) "__getitem__"=pure (some (.builtin id))/\s.TypeIs v T/\wpAny (model X.prog X.w) X.A (getItem v (.ref sl)) (EP X a_ Z Q) X.xe s
def tSl(r:V->Option Int->Option Int->Hp->VK->Prop)(te:TE)(tl th:TO):TE:=λZ H Q=>te Z H λx H1=>tl Z H1 λl H2=>th Z H2 λu H3=>r x l u H3 Q
theorem vc(hr:SlR X r)(he:PE X e te)(hl:PO X lo tl)(hu:PO X hi th):PE X (.Subscript e (.Slice lo hi none p2) pos) (tSl r te tl th):=by
 intro a_ s Z H Q I h;refine Subscript_ (thn (he a_ s Z H _ I h) λv s1 ⟨x,H1,I1,r1,q1⟩=>?_)
 refine wpAny_Slice (thn (hl a_ s1 Z H1 _ I1 q1) λvl s2 ⟨l,H2,I2,pl,q2⟩=>thn (hu a_ s2 Z H2 _ I2 q2) λvu s3 ⟨u,H3,I3,pu,q3⟩=>?_)
 rw[evalPart_none];refine Kh ?_;have I4:Inv X a_ Z H3 {s3 with heap:=s3.heap.push {cls:=.type "slice",data:=.fields #[vl,vu,.none]}}:=I3.kept (t':=s3.toks) λb ob q=>Kk _ q
 obtain⟨T,id,hT,ht,hg⟩:=hr a_ {s3 with heap:=s3.heap.push {cls:=.type "slice",data:=.fields #[vl,vu,.none]}} Z H3 x v vl vu l u s3.heap.objs.size Q I4 r1 (Heap.IsSliceOf.new ..) pl pu q3
 show wpAny (model X.prog X.w) X.A (subscriptTail e (.Slice lo hi none p2) v (.ref s3.heap.objs.size)) (EP X a_ Z Q) X.xe {s3 with heap:=s3.heap.push {cls:=.type "slice",data:=.fields #[vl,vu,.none]}}
 exact tail_any (ops:=[.ref s3.heap.objs.size,v]) ht hT hg (by with_unfolding_all rfl)
def p8(xs:List V)(lo hi:Option Int):List V:=(xs.drop (HT.sIx xs.length 0 lo)).take (HT.sIx xs.length xs.length hi-HT.sIx xs.length 0 lo)
theorem iU(xs:List V)(lo hi:Option Int):(p8 xs lo hi).length<=xs.length:=by
 unfold p8;rw[List.length_take,List.length_drop];omega
def G4(K:Lr):V->Option Int->Option Int->Hp->VK->Prop:=λx lo hi H Q=>∃a xs,x=.ref a/\SqT K H a xs/\
 ¬ (HT.sIx xs.length 0 lo=0/\HT.sIx xs.length xs.length hi=xs.length)/\∀p,H p=none->Q (.ref p) (upd H p (.tup (p8 xs lo hi)))
theorem BO:SlR X (G4 X.K):=by
 intro a_ s Z H x v vl vu lo hi sl Q I rx hs pl pu h;obtain⟨a,xs,rfl,hx,hw,q⟩:=h;cases rx;obtain⟨f_,r,ht,hz⟩:=I.tuple hx;have H_:f_.toArray.size=xs.length:=by rw[Kx];exact r.length.symm
 refine⟨"tuple",_,PyProof.Rows.slot_tuple_getitem.lookup,ht.typeIs,?_⟩;refine HT.getItem_tuple_cut ht hs pl pu (by rw[H_];exact hw) ?_ (by rw[H_];exact hz)
 rw[H_];refine⟨.ref s.heap.objs.size,_,I.laid (t':=s.toks) (o:=.tup (p8 xs lo hi)) (λb ob q=>Kk _ q) (Km _) ?_,rfl,q _ (I.j_.fresh (Km _))⟩
 exact⟨KB (iU xs lo hi) hz,_,(r.drop (HT.sIx xs.length 0 lo)).take (HT.sIx xs.length xs.length hi-HT.sIx xs.length 0 lo),IsTup.new _ _⟩
def E9(K:Lr):R2:=λx y H Q=>∃a b xs ys,x=.ref a/\y=.ref b/\SqT K H a xs/\SqT K H b ys/\xs≠[]/\xs.length+ys.length<=sizeLine/\
 (ys=[]->Q (.ref a) H)/\(ys≠[]->∀p,H p=none->Q (.ref p) (upd H p (.tup (xs++ys))))
theorem Vals.nil_iff(r:Vals xs us):us=[]<->xs=[]:=by
 cases r with
 |nil=>simp
 |cons _ _=>simp
theorem yA:OpR X (binaryOp .Add) (E9 X.K):=by
 intro a_ s Z H x y v u Q I rx ry h;obtain⟨a,b,xs,ys,rfl,rfl,ha,hb,hx,hz,q1,q2⟩:=h;cases rx;cases ry;obtain⟨f_,r1,p1,_⟩:=I.tuple ha;obtain⟨s_,r2,p2,_⟩:=I.tuple hb;refine HT.cat_tup p1 p2 (λz=>hx (r1.nil_iff.mp z)) (λz=>⟨.ref a,H,I,rfl,q1 (r2.nil_iff.mp z)⟩) (λz=>?_) (by rw[<-r1.length,<-r2.length];exact hz)
 refine⟨.ref s.heap.objs.size,_,I.laid (t':=s.toks) (o:=.tup (xs++ys)) (λb ob q=>Kk _ q) (Km _) ?_,rfl,q2 (λw=>z (r2.nil_iff.mpr w)) _ (I.j_.fresh (Km _))⟩
 exact⟨by rw[KO];exact hz,_,r1.append r2,IsTup.new _ _⟩
end
def ixN(n:Nat)(i:Int):Option Nat:=if 0<=i then (if i<n then some i.toNat else none) else if -(n:Int)<=i then some (i+n).toNat else none
def atI(xs:List α)(i:Int):Option α:=(ixN xs.length i).bind λj=>xs[j]?
theorem rE(h:ixN n i=some j):seqIndex? i n=some j/\j<n/\-(n:Int)<=i/\i<n:=by
 unfold ixN at h;by_cases h0:0<=i
 ·rw[Kp h0]at h;by_cases h1:i<n
  ·rw[Kp h1]at h;have e:i.toNat=j:=KA h;exact⟨by rw[seqIndex_of h0 h1,e],by omega,by omega,h1⟩
  ·rw[Kj h1]at h;cases h
 ·rw[Kj h0]at h;by_cases h1 : -(n:Int)<=i
  ·rw[Kp h1]at h;have e:(i+n).toNat=j:=KA h;exact⟨by rw[seqIndex_neg (by omega) h1,e],by omega,h1,by omega⟩
  ·rw[Kj h1]at h;cases h
theorem mS{xs:List α}(h:atI xs i=some v):∃j,seqIndex? i xs.length=some j/\xs[j]?=some v/\j<xs.length/\-(xs.length:Int)<=i/\i<xs.length:=by
 unfold atI at h;cases e:ixN xs.length i with
 |none=>rw[e]at h;cases h
 |some j=>
  rw[e]at h;obtain⟨h1,h2,h3,h4⟩:=rE e;exact⟨j,h1,h,h2,h3,h4⟩
theorem cY{α:Type}{xs:List α}{j:Nat}{v:α}(h:xs[j]?=some v):atI xs (j:Int)=some v:=by
 have hj:j<xs.length:=(KP.mp h).1;have e:ixN xs.length (j:Int)=some j:=by
  unfold ixN;rw[Kp (by omega),Kp (by omega)];simp
 unfold atI;rw[e];exact h
theorem vT(xs:List α)(v:α):atI (xs++[v]) (-1)=some v:=by
 have hl:(xs++[v]).length=xs.length+1:=by simp
 have e:ixN (xs++[v]).length (-1)=some xs.length:=by
  unfold ixN;rw[hl,Kj (by decide),Kp (by omega)]
  congr 1;omega
 unfold atI;rw[e];show (xs++[v])[xs.length]?=some v;simp
def m8(b:Expr):Prop:=∀o i,subscripted b false o i=operate [o,i] (getItem o i)
def IxR(X:Cx)(r:R2):Prop:=
 ∀(value LO:Expr) (a_:List (Addr×Obj)) (s:Shared)(Z:St)(H:Hp)(x y:V)(v u:Value)(Q:VK),Inv X a_ Z H s->RelV x v->RelV y u->r x y H Q->
  subscripted LO false v u=operate [v,u] (getItem v u)->wpAny (model X.prog X.w) X.A (subscriptTail value LO v u) (EP X a_ Z Q) X.xe s
def MtR(X:Cx)(id:String)(r:V->List V->Hp->VK->Prop):Prop:=
 ∀(a_:List (Addr×Obj)) (s:Shared)(Z:St)(H:Hp)(x:V)(xs:List V)(v:Value)(us:List Value)(Q:VK),Inv X a_ Z H s->RelV x v->Vals xs us->r x xs H Q->
  wpAny (model X.prog X.w) X.A (call (.builtin id) (v::us)) (EP X a_ Z Q) X.xe s
section
variable {X:Cx}{a:Expr}
theorem IxR.or(h:IxR X r)(h':IxR X r'):IxR X (λx y H Q=>r x y H Q\/r' x y H Q):=by
 intro value LO a_ s Z H x y v u Q I rx ry q hs;rcases q with q|q
 ·exact h value LO a_ s Z H x y v u Q I rx ry q hs
 ·exact h' value LO a_ s Z H x y v u Q I rx ry q hs
theorem Ee(hr:IxR X r)(ha:PE X a ta)(hb:PE X b tb)(hs:m8 b):PE X (.Subscript a b pos) (tOp r ta tb):=by
 intro a_ s Z H Q I h;exact Subscript_ (CY ha hb I h λv u s2 x y H2 I2 rx ry q=>hr a b a_ s2 Z H2 x y v u Q I2 rx ry q (hs _ _))
def En(K:Lr):R2:=λx y H Q=>∃p xs i v,x=.ref p/\y=.int i/\SqL K H p xs/\atI xs i=some v/\Q v H
def Ez(K:Lr):R2:=λx y H Q=>∃p xs i v,x=.ref p/\y=.int i/\SqT K H p xs/\atI xs i=some v/\Q v H
def rIxS:R2:=λx y H Q=>∃z i c,x=.str z/\y=.int i/\z.length<=sizeLine/\atI z.cps.toList i=some c/\Q (.str ⟨#[c]⟩) H
theorem ix_list:IxR X (En X.K):=by
 intro value LO a_ s Z H x y v u Q I rx ry h hs;obtain⟨p,xs,i,z,rfl,rfl,hq,he,q⟩:=h;cases rx;obtain⟨t,rfl⟩:=ry;obtain⟨f_,r,pl,hz⟩:=I.list hq;obtain⟨j,h1,h2,h3,h4,h5⟩:=mS he;obtain⟨w,ew,LF⟩:=r.get h2;have hl:=r.length;have hn:=jA;have fin:EP X a_ Z Q w s:=⟨z,H,I,LF,q⟩;by_cases h0:0<=i
 ·have hj:i.toNat=j:=by
   rw[seqIndex_of h0 h5]at h1;exact KA h1
  exact item_listR pl.isList h0 (by omega) (by rw[hj];simpa using ew) fin hs
 ·have hj:(i+(f_.toArray.size:Int)).toNat=j:=by
   rw[seqIndex_neg (by omega) h4]at h1
   rw[Kx,<-hl];exact KA h1
  exact subscriptTail_builtinR (x:=w) pl.isList.typeIs slot_list_getitem.lookup
   (wpAny_getItem_list_neg (Q:=λr s'=>r=w/\EP X a_ Z Q r s') pl.isList (by omega) (by rw[Kx]<;>omega) (by omega) (by rw[hj];simpa using ew) ⟨rfl,fin⟩) hs
theorem ix_tup:IxR X (Ez X.K):=by
 intro value LO a_ s Z H x y v u Q I rx ry h hs;obtain⟨p,xs,i,z,rfl,rfl,hq,he,q⟩:=h;cases rx;obtain⟨t,rfl⟩:=ry;obtain⟨f_,r,pl,hz⟩:=I.tuple hq;obtain⟨j,h1,h2,h3,h4,h5⟩:=mS he;obtain⟨w,ew,LF⟩:=r.get h2;have hl:=r.length;have hn:=jA;have fin:EP X a_ Z Q w s:=⟨z,H,I,LF,q⟩;exact subscriptTail_builtinR (x:=w) pl.typeIs slot_tuple_getitem.lookup
  (getItem_tuple (j:=j) (Q:=λr s'=>r=w/\EP X a_ Z Q r s') pl (by omega) (by omega) (by rw[Kx,<-hl];exact h1) (by simpa using ew) ⟨rfl,fin⟩) hs
theorem Dr:IxR X rIxS:=by
 intro value LO a_ s Z H x y v u Q I rx ry h hs;obtain⟨z,i,c,rfl,rfl,hz,he,q⟩:=h;obtain⟨t,rfl⟩:=rx;obtain⟨t',rfl⟩:=ry;obtain⟨j,h1,h2,h3,h4,h5⟩:=mS he;have hl:z.cps.toList.length=z.length:=by simp[Str.length]
 rw[hl]at h1 h4 h5;have hn:=jA;exact tail_any (typeIs_str s z t) slot_str_getitem.lookup (getItem_str (c:=c) (by
  have e1:decide (i < -(2 ^ 63:Int))=false:=KQ (by omega)
  have e2:decide (i>=2 ^ 63)=false:=KQ (by omega)
  rw[e1,e2,Bool.or_false]) (by rw[h1];simpa using h2) ⟨.str ⟨#[c]⟩,H,I.tok _,⟨_,rfl⟩,q⟩) hs
def rIx(K:Lr):R2:=λx y H Q=>En K x y H Q\/Ez K x y H Q\/rIxS x y H Q
theorem BQ:IxR X (rIx X.K):=ix_list.or (ix_tup.or Dr)
theorem qW(f_:List Value)(n j:Nat)(u:Value):Obj.mapSeq (·.setIfInBounds j u) {cls:=.type "list",data:=.seq f_.toArray n}={cls:=.type "list",data:=.seq (f_.set j u).toArray n}:=by
 simp[Obj.mapSeq]
theorem Inv.lst{s:Shared}(I:Inv X a_ Z H s)(h:H p=some (.lst xs)) :
  ∃(f_:List Value) (n:Nat),Vals xs f_/\s.heap.get? p=some {cls:=.type "list",data:=.seq f_.toArray n}/\xs.length<=sizeLine:=by
 obtain⟨z,f_,n,r,e⟩:=I.j_ p _ h;exact⟨f_,n,r,e,z⟩
theorem Inv.lstUpd{a_:List (Addr×Obj)}{Z:St}{H:Hp}{s:Shared}{p:Addr}{xs ys:List V}{f_ its':List Value}{n n':Nat}{f:Obj->Obj}(I:Inv X a_ Z H s)(h:H p=some (.lst xs))
  (ho:s.heap.get? p=some {cls:=.type "list",data:=.seq f_.toArray n}) (hf:f {cls:=.type "list",data:=.seq f_.toArray n}={cls:=.type "list",data:=.seq its'.toArray n'}) (r:Vals ys its') (hz:ys.length<=sizeLine) (t:Nat) :
  Inv X a_ Z (upd H p (.lst ys)) {s with heap:=s.heap.update p f,toks:=t}:=by
 have e:(s.heap.update p f).get? p=some {cls:=.type "list",data:=.seq its'.toArray n'}:=by
  rw[K6 f ho (by rw[hf]<;>rfl),hf]
 refine I.write (x:=p) (e:=p) (by rw[h];trivial) (.inl rfl) (λb u hb q=>(KK _ _ (Kz hb)).trans q) ⟨_,e⟩ ?_
 exact⟨hz,its',n',r,e⟩
def rSetL:V->V->V->Hp->(Hp->Prop)->Prop:=λo i v H Q=>∃p xs k j,o=.ref p/\i=.int k/\H p=some (.lst xs)/\ixN xs.length k=some j/\Q (upd H p (.lst (xs.set j v)))
theorem vh:AA X rSetL:=by
 intro a_ s Z H o i v ov iv u Q I ro ri rv h;obtain⟨p,xs,k,j,rfl,rfl,hp,hj,q⟩:=h;cases ro;obtain⟨t,rfl⟩:=ri;obtain⟨f_,n,r,ho,hz⟩:=I.lst hp;obtain⟨h1,h2,h3,h4⟩:=rE hj;have hl:=r.length;have hn:=jA;have I':Inv X a_ Z (upd H p (.lst (xs.set j v))) {s with heap:=s.heap.update p (Obj.mapSeq (·.setIfInBounds j u))}:=
  I.lstUpd hp ho (qW f_ n j u) (r.set rv j) (by rw[List.length_set];exact hz) s.toks
 by_cases h0:0<=k
 ·have hk:k.toNat=j:=by
   rw[seqIndex_of h0 h4]at h1;exact KA h1
  exact PySem.W.ki_setAt ho h0 (by omega) (by rw[Kx,<-hl];exact h4) (by rw[hk];exact⟨_,I',q⟩)
 ·have hk:(k+(f_.toArray.size:Int)).toNat=j:=by
   rw[seqIndex_neg (by omega) h3]at h1
   rw[Kx,<-hl];exact KA h1
  exact PySem.W.ki_setBack ho (by omega) (by rw[Kx,<-hl];exact h3) (by omega) (by rw[hk];exact⟨_,I',q⟩)
theorem mU(lo hi:Option Int)(n:Nat):(sliceBounds lo hi none n).1=((HT.sIx n 0 lo:Nat):Int)/\(sliceBounds lo hi none n).2.1=((HT.sIx n n hi:Nat):Int)/\(sliceBounds lo hi none n).2.2=1:=by
 refine⟨?_,?_,rfl⟩
 ·cases lo with
  |none=>simp[sliceBounds,HT.sIx]
  |some i=>
   simp only[sliceBounds,HT.sIx,Option.getD_none,show (1:Int) > 0 by decide,if_true]
   by_cases h:i<0
   ·simp only[h,if_true]<;>omega
   ·simp only[h,if_false]<;>omega
 ·cases hi with
  |none=>simp[sliceBounds,HT.sIx]
  |some i=>
   simp only[sliceBounds,HT.sIx,Option.getD_none,show (1:Int) > 0 by decide,if_true]
   by_cases h:i<0
   ·simp only[h,if_true]<;>omega
   ·simp only[h,if_false]<;>omega
theorem ly(f_:List Value)(lo hi:Option Int):slicePick f_.toArray lo hi none=((f_.drop (HT.sIx f_.length 0 lo)).take (HT.sIx f_.length f_.length hi-HT.sIx f_.length 0 lo)).toArray:=by
 obtain⟨h1,h2,h3⟩:=mU lo hi f_.toArray.size;unfold slicePick;rw[h1,h2,h3];simp only[sliceRange_one,pick_run,Kx]<;>rfl
theorem nC:CallR X (.builtin "len") (λxs H Q=>∃p ys,xs=[.ref p]/\(SqL X.K H p ys\/SqT X.K H p ys)/\Q (.int ys.length) H):=by
 intro a_ s Z H xs us Q I r h;obtain⟨p,ys,rfl,hq,q⟩:=h;obtain⟨u,rfl,rx⟩:=gG r;cases rx;have hn:=jA;rcases hq with hq|hq
 ·obtain⟨f_,r',pl,hz⟩:=I.list hq;have H_:=r'.length;exact Calls.call_len_list pl.isList (by simp only[Kx]<;>omega) ⟨.int ys.length,H,I.tok _,⟨s.toks+1,by rw[Kx,H_]⟩,q⟩
 ·obtain⟨f_,r',pl,hz⟩:=I.tuple hq;have H_:=r'.length;exact len_tuple pl (by simp only[Kx]<;>omega) ⟨.int ys.length,H,I.tok _,⟨s.toks+1,by rw[Kx,H_]⟩,q⟩
theorem mK:CallR X (.type "list") (λxs H Q=>∃p ys,xs=[.ref p]/\(SqL X.K H p ys\/SqT X.K H p ys)/\∀l,H l=none->Q (.ref l) (upd H l (.lst ys))):=by
 intro a_ s Z H xs us Q I r h;obtain⟨p,ys,rfl,hq,q⟩:=h;obtain⟨u,rfl,rx⟩:=gG r;cases rx;have fin:∀(f_:List Value),Vals ys f_->ys.length<=sizeLine->∀(h':Heap)(c':Nat),(∀b o',s.heap.get? b=some o'->h'.get? b=some o')->
   h'.get? s.heap.objs.size=some {cls:=.type "list",dict:=none,data:=.seq f_.toArray c',slots:=#[]}->EP X a_ Z Q (.ref s.heap.objs.size) {s with heap:=h'}:=λf_ r' hz h' c' kp e=>
  ⟨.ref s.heap.objs.size,_,I.laid (t':=s.toks) kp (Km _) (show ObjOk X.prog X.w _ h' _ (.lst ys) from⟨hz,f_,c',r',e⟩),rfl,q _ (I.j_.fresh (Km _))⟩
 rcases hq with hq|hq
 ·obtain⟨f_,r',pl,hz⟩:=I.list hq;have H_:=r'.length;obtain⟨o,ho,hc,n,hd⟩:=pl.isList;exact call_list_seq p (.inl rfl) ho hc hd (λh' c' kp e=>fin f_ r' hz h' c' kp e) (by simp only[Kx]<;>omega)
 ·obtain⟨f_,r',pl,hz⟩:=I.tuple hq;have H_:=r'.length;obtain⟨o,ho,hc,n,hd⟩:=pl;exact call_list_seq p (.inr rfl) ho hc hd (λh' c' kp e=>fin f_ r' hz h' c' kp e) (by simp only[Kx]<;>omega)
def tyV(K:Lr)(T:String)(x:V)(H:Hp):Prop:=match x with
 |.str _=>T = "str"
 |.int _=>T = "int"
 |.ref p=>(T = "list"/\∃xs,SqL K H p xs)\/(T = "tuple"/\∃o,K.lookup p=some o/\o.cls=.type "tuple"/\o.dict=none)\/
   (T = "dict"/\((∃m_,H p=some (.dK m_))\/∃m_,H p=some (.dT m_)))\/(T = "set"/\∃S n,H p=some (.set S n))
 |_=>False
theorem AH{s:Shared}(I:Inv X a_ Z H s)(r:RelV x v)(ty:tyV X.K T x H) :
  s.TypeIs v T/\∀a,v=.ref a->∃ob,s.heap.get? a=some ob/\ob.dict=none:=by
 cases x with
 |str z=>
  obtain⟨t,rfl⟩:=r;cases (show T = "str" from ty);exact⟨typeIs_str s z t,λ_ e=>nomatch e⟩
 |int i=>
  obtain⟨t,rfl⟩:=r;cases (show T = "int" from ty);exact⟨typeIs_int s i t,λ_ e=>nomatch e⟩
 |ref p=>
  cases r;rcases ty with ⟨rfl,xs,hq⟩|⟨rfl,o,hk,hc,hd⟩|⟨rfl,hk⟩|⟨rfl,S,n,hk⟩
  ·obtain⟨f_,_,pl,_⟩:=I.list hq;refine⟨pl.isList.typeIs,λa e=>?_⟩
   cases e;obtain⟨o,n,e,c,hd,_⟩:=pl;exact⟨o,e,hd⟩
  ·refine⟨⟨o,I.kIn p o hk,hc⟩,λa e=>?_⟩
   cases e;exact⟨o,I.kIn _ o hk,hd⟩
  ·have z:∃o,s.heap.get? p=some o/\o.ExactDict:=by
    rcases hk with ⟨m_,hk⟩|⟨m_,hk⟩
    ·obtain⟨_,_,_,_,o,_,_,e,ex,_⟩:=I.j_ p _ hk;exact⟨o,e,ex⟩
    ·obtain⟨_,_,_,_,o,_,_,e,ex,_⟩:=I.j_ p _ hk;exact⟨o,e,ex⟩
   obtain⟨o,e,ex⟩:=z;refine⟨⟨o,e,ex.1⟩,λa e2=>?_⟩
   cases e2;exact⟨o,e,ex.2.1⟩
  ·obtain⟨o,_,_,_,e,ex,_⟩:=I.j_ p _ hk;refine⟨⟨o,e,ex.1⟩,λa e2=>?_⟩
   cases e2;exact⟨o,e,ex.2.1⟩
 |_=>exact False.elim ty
def tBM(K:Lr)(T:String)(r:V->List V->Hp->VK->Prop)(to:TE)(t:TA):TE:=λZ H Q=>to Z H λx H1=>tyV K T x H1/\t Z H1 λxs H2=>r x xs H2 Q
variable {o:Expr}{id:String}
theorem FC(pa:PlainAttrs T)(slot:Slot T name id)(Nr:typeOf (.builtin id)=pure (.type "method_descriptor"))(hm:MtR X id r)(ho:PE X o to)(ha:PA X (e::es) t)
  (x_:attributeBase o name X.env (eval o X.env)=eval o X.env:=by rfl)
  (N8:((backTo p_ (starEach (e::es) X.env)).all (λx=>!x.1)&&(backToKw p_ (keywordEach [] X.env)).all (λx=>x.1.isSome)
   &&decide ((e::es).length+([]:List Keyword).length+(if ([]:List Keyword).isEmpty then 0 else 1)<30))=true:=by rfl)
  (y_:(o_.endLine == p_.line)=true:=by rfl) (hs:starEach (e::es) X.env=(false,eval e X.env)::starEach es X.env:=by rfl) (LU:(backTo p_ (starEach es X.env)).any (·.1)=false:=by rfl) :
  PE X (.Call (.Attribute o name o_) (e::es) [] p_) (tBM X.K T r to t):=by
 intro a_ s Z H Q I h;refine wpAny_Call_method_late x_ N8 y_ rfl (thn (ho a_ s Z H _ I h) λv s1 ⟨x,H1,I1,r1,ty,q1⟩=>?_)
 obtain⟨h1,h2⟩:=AH I1 r1 ty;refine⟨T,id,pa,slot,Nr,h1,h2,?_⟩;have hA:=ha p_ a_ s1 Z H1 _ I1 q1;rw[hs]at hA ⊢;refine Calls.callWith_builtin (by show (false||(backTo p_ (starEach es X.env)).any (·.1))=false;rw[LU]<;>rfl) (Calls.evalArgs_plain ?_)
 exact thn hA λus s2 ⟨vs,H2,I2,r2,q2⟩=>hm a_ s2 Z H2 x vs v us Q I2 r1 r2 q2
end
def MtM(X:Cx)(id:String)(r:V->List V->Hp->VK->Prop):Prop:=
 ∀(a_:List (Addr×Obj)) (s:Shared)(Z:St)(H:Hp)(x:V)(xs:List V)(v:Value)(us:List Value)(Q:VK),Inv X a_ Z H s->RelV x v->Vals xs us->r x xs H Q->
  wpAny (model X.prog X.w) X.A (call (.builtin id) (v::us)) (EP X a_ Z Q) X.xe s
theorem Vals.one{x:V}{us:List Value}(h:Vals [x] us):∃u,us=[u]/\RelV x u:=by
 cases h with|cons r t=>cases t;exact⟨_,rfl,r⟩
theorem Vals.two{x y:V}{us:List Value}(h:Vals [x,y] us):∃u v,us=[u,v]/\RelV x u/\RelV y v:=by
 cases h with|cons r t=>cases t with|cons q t=>cases t;exact⟨_,_,rfl,r,q⟩
section
variable {X:Cx}{s:Shared}{l:Addr}{xs ys:List V}
theorem Inv.lset{f_ its':List Value}{n:Nat}{f:Array Value->Array Value}{t':Nat}(I:Inv X a_ Z H s)(hH:H l=some (.lst xs))
  (e:s.heap.get? l=some {cls:=.type "list",data:=.seq f_.toArray n}) (hf:f f_.toArray=its'.toArray) (hv:Vals ys its') (hz:ys.length<=sizeLine) :
  Inv X a_ Z (upd H l (.lst ys)) {s with heap:=s.heap.update l (Obj.mapSeq f),toks:=t'}:=by
 have q:=PySem.IsL.update e f;rw[hf]at q;refine I.write (x:=l) (e:=l) (by rw[hH];exact trivial) (.inl rfl) (λb' u hb hu=>(KK s.heap (Obj.mapSeq f) (Kz hb)).trans hu) ⟨_,q⟩ ?_
 exact⟨hz,its',_,hv,q⟩
theorem Inv.lnew(I:Inv X a_ Z H s)(hv:Vals ys f_)(hz:ys.length<=sizeLine) :
  Inv X a_ Z (upd H s.heap.objs.size (.lst ys)) {s with heap:=s.heap.push {cls:=.type "list",data:=.seq f_.toArray},toks:=t'}:=
 I.laid (λ_ _ q=>Kk _ q) (Km _) ⟨hz,f_,0,hv,Ko _ rfl⟩
theorem Inv.fresh(I:Inv X a_ Z H s):H s.heap.objs.size=none:=I.j_.fresh (Km _)
theorem Inv.lstM(I:Inv X a_ Z H s)(hH:H l=some (.lst xs)):xs.length<=sizeLine/\∃(f_:List Value) (n:Nat),Vals xs f_/\xs.length=f_.length/\s.heap.get? l=some {cls:=.type "list",data:=.seq f_.toArray n}:=by
 obtain⟨z,f_,n,r,e⟩:=I.j_ l _ hH;exact⟨z,f_,n,r,r.length,e⟩
theorem wx{n:Nat}(h:n<=sizeLine):Builtin.List.listTooLong n=false:=by
 unfold Builtin.List.listTooLong;exact KQ (by omega)
end
section
variable {X:Cx}
def rAppend:V->List V->Hp->VK->Prop:=λx vs H Q=>∃l xs y,x=.ref l/\vs=[y]/\H l=some (.lst xs)/\xs.length<sizeLine/\Q .i_ (upd H l (.lst (xs++[y])))
theorem lU:MtM X "list.append" rAppend:=by
 intro a_ s Z H x vs v us Q I rx rv h;obtain⟨l,xs,y,rfl,rfl,hH,hz,q⟩:=h;cases rx;obtain⟨u,rfl,ru⟩:=rv.one;obtain⟨z,f_,n,r,hl,e⟩:=I.lstM hH;refine call_meets F.slot_list_append ⟨_,e,rfl⟩ F.entry_list_append (F.args_list_append_2 _ _) (PySem.list_append l f_.toArray n u (by rw[Kx];omega)) ⟨e,?_⟩
 refine⟨.i_,_,I.lset (its':=f_++[u]) hH e (by simp) (r.append (.cons ru .nil)) ?_,rfl,q⟩
 rw[KO,List.length_singleton];omega
end
section
variable {w:World}{A:Around}{s:Shared}
set_option maxRecDepth 100000 in
end
section
variable {X:Cx}
end
end L2
namespace Att
open PySem PySem.W PySem.Calls PyProof.Rows
theorem je:∀(ns:List Int)(vs:List Value),WellAll P h vs (ns.map WData.int)->IntsAre vs ns:=by
 intro ns
 induction ns with
 |nil=>
  intro vs w;rw[List.map_nil]at w;cases w;exact .nil
 |cons n ns ih=>
  intro vs w;rw[List.map_cons]at w;cases w with
  |cons a b=>
   cases a;exact .cons _ _ (ih _ b)
theorem ul{l:OpenLaw}(hn:l.most=some n){h:Heap}
  (Ma:l.row.toRowW.claim.pre args=true) (Qt:WellAll P h PD args) :
  ∃a vs ns,PD=[Value.ref a]/\args=[WData.list (ns.map WData.int)]/\h.get? a=some {cls:=.type "list",data:=.seq vs.toArray}/\IntsAre vs ns/\ns.length<=n:=by
 have Sq:WShape.hasAll [] args [.list .int]=true:=(pre_splitW Ma).1;have hc:l.pre.holds [] {args:=args}=true:=(pre_splitW Ma).2;obtain⟨d,r,rfl,h1,h2⟩:=hasAllW_cons Sq;obtain rfl:=hasAllW_nil h2;obtain⟨xs,rfl,h3⟩:=hasW_list h1;obtain⟨ns,rfl⟩:=items_int h3;have H_:ns.length<=n:=by
  unfold OpenLaw.pre at hc;have h4:(WTm.not (.lt (.lit (.int (n:Int))) (.len (.arg 0)))).holds [] {args:=[.list (ns.map .int)]}=true:=by
   have h4:=(holds_andW hc).1;rw[hn]at h4;exact h4
  have h5:=condW_of h4 (w_not (w_lt w_lit (w_len_list (w_arg rfl))));rw[List.length_map]at h5;refine Nat.le_of_not_lt λq=>?_
  have q':(n:Int)<((ns.length:Nat):Int):=by omega
  first
   |(rw[decide_eq_true q']at h5;exact absurd h5 (by decide))
   |(simp at h5;omega)
 cases Qt with
 |cons w1 w2=>
  cases w2;cases w1 with
  |list ho Qu=>exact⟨_,_,ns,rfl,rfl,ho,je ns _ Qu,H_⟩
theorem t5(l:OpenLaw)(args:List WData):l.row.toRowW.claim.post args (.bool true) args=true:=
 postW_of (r:=l.row.toRowW) (X:=(true == true))
  (show WShape.has [] (.bool true) .bool=true by first|rfl|decide|simp[WShape.has,WShape.arms,WShape.armsAll])
  (show (WTm.eq .res (.lit (.bool true))).value [] {args:=args,res:=some (.bool true),after:=args}=some (.bool (true == true)) from w_eq_bool (w_res rfl) w_lit) rfl
theorem attach_call{l:OpenLaw}{d:DefRec}
  (hn:l.most=some n) (N9:d.params.defaults=[])
  (call:∀(w:World)(s₀ r_:Shared)(mg mb:Str->Option Value)(fa:Addr)(o:Obj)(pm cd doc:Value)(a:Addr)(vs:List Value)(ns:List Int),
   Ground q loose [] XP w s₀ mg mb r_.heap->YP w r_.heap->
   r_.heap.get? fa=some o->o.data=.func (docDef d.name d.params d.body d.scope pm cd doc)->r_.heap.CodeRec cd d.name->mg d.name=some (.ref fa)->
   r_.heap.get? a=some {cls:=.type "list",data:=.seq vs.toArray}->IntsAre vs ns->ns.length<=n->r_.gens=#[]->
   codeAny (model l.prog w) callerA (.call (.ref fa) ⟨[.ref a],[]⟩) (λr s'=>r=.ok (.ret (.bool true))/\OldK r_.heap s'.heap/\s'.os=r_.os/\AllBare s'.gens) r_) :
  WalkO q loose XP YP l.row.toRowW d [] (λf vs=>PySem.call f vs):=by
 intro w s₀ r_ mg mb G Y fa o pm cd doc dV kV ho hd Ni hD Qv hg args PD as Ma hlay hrd Qt hlo;obtain rfl:dV=.none:=Dflts.none hD N9;obtain rfl:kV=.none:=Dflts.noKw hD;obtain⟨a,vs,ns,rfl,rfl,Nu,Ms,H_⟩:=ul hn Ma Qt;refine enter_call (codeAny_mono (call w s₀ r_ mg mb fa o pm cd doc a vs ns G Y ho (fd_plain hd) Ni Qv Nu Ms H_ hg) λr s' hq=>?_)
 obtain⟨rfl,h2,h3,h4⟩:=hq;exact⟨.inl ⟨.bool true,.bool true,[],rfl,λ_=>rfl,.bool true,t5 l _,λ_=>⟨List.Pairwise.nil,λ_ hm=>(nomatch hm)⟩⟩,h2,h3,h4⟩
section
variable {w:World}{A:Around}{s:Shared}{K:Frag}
end
end Att
namespace L2
open PySem PySem.Spec PyProof.Rows
theorem iG:∀{vs:List Value}{ns:List Int},IntsAre vs ns->Vals (ns.map V.int) vs
 |_,_,.nil=>.nil
 |_,_,.cons n t h=>.cons ⟨t,rfl⟩ (iG h)
def DP(H:Hp):Prop:=∀b,H b=none\/∃o xs,H b=some (.u_ o (.lst xs))
theorem wY{K:Lr}{r_:Shared}
  (KX:K.In r_.heap)(O4:r_.heap.Ns mainGlobals mg)(hb:r_.heap.Ns builtinsNs mb) (Sr:∀x:Str,x≠"__name__"->mb x=bootBuiltins x) (Qw:r_.heap.NoLimit) (hg:r_.gens=#[])
  (ha:r_.heap.get? a=some {cls:=.type "list",data:=.seq vs.toArray}) (hi:IntsAre vs ns) (hl:ns.length<=sizeLine) (hr:Room k callerA)
  (F:∀base:Heap,K.In base->base.Ns mainGlobals mg->FnOk P w K mg base CX k fa fd [x] sp) (O5:∀(s:Shared)(u:Value),BindsTo s fd ⟨[u],[]⟩ [(x,u)])
  (OF:∀H:Hp,DP H->SqL K H a (ns.map V.int)->sp [.ref a] H (λv _=>v=.bl true) λ_ _ _=>False)
  (Ss:∀H e s',CX [] H r_ (λ_ _ _=>False) e s'->False) :
  codeAny (model P w) callerA (.call (.ref fa) ⟨[.ref a],[]⟩) (λr s'=>r=.ok (.ret (.bool true))/\OldK r_.heap s'.heap/\s'.os=r_.os/\AllBare s'.gens) r_:=by
 have rv:=iG hi;have Qx:=hi.length;have core:∀H:Hp,DP H->SqL K H a (ns.map V.int)->HOk P w H r_.heap->(∀b,H b≠none->b=a)->(H a≠none->K.lookup a=none)->
   codeAny (model P w) callerA (.call (.ref fa) ⟨[.ref a],[]⟩) (λr s'=>r=.ok (.ret (.bool true))/\OldK r_.heap s'.heap/\s'.os=r_.os/\AllBare s'.gens) r_:=by
  intro H hO hS j_ hA hK;have ME:∀{b:Addr}{o:Obj},r_.heap.get? b=some o->H b=none->(m9 r_.heap H).get? b=some o:=λe n=>u8 e n
  have O0:∀{b:Addr}{o:Obj}{es:Array DictEntry}{ep:Nat},r_.heap.get? b=some o->o.data=.dict es ep->H b=none:=λ{b o es ep} e d=>by
   cases q:H b with
   |none=>rfl
   |some u=>
    have e':b=a:=hA b (by rw[q];simp)
    subst e';rw[ha]at e;cases e;have d':Data.seq vs.toArray _=Data.dict es ep:=d;cases d'
  have PV:∀{b:Addr}{m:Str->Option Value},r_.heap.Ns b m->(m9 r_.heap H).Ns b m:=λ{b m} ⟨o,es,ep,e,d,r⟩=>⟨o,es,ep,ME e (O0 e d),d,r⟩
  have Rv:K.In (m9 r_.heap H):=λb o e=>ME (KX b o e) (by
   cases q:H b with
   |none=>rfl
   |some u=>
    have e':b=a:=hA b (by rw[q];simp)
    subst e';rw[hK (by rw[q];simp)]at e;cases e)
  have hM:Mod K mg (m9 r_.heap H):=⟨Rv,PV O4,⟨mb,PV hb,Sr⟩,let ⟨mc,h1,h2⟩:=Qw;⟨mc,PV h1,h2⟩⟩
  have e0:Env0 P w K mg (m9 r_.heap H) callerA [] r_ H:=⟨rfl,hM,λb o e=>zz e,Nat.le_of_eq (tK _ _),trivial,λb hb=>absurd (show b∈([]:List Addr) from hb) (by simp),j_,.of_eq hg⟩
  refine codeAny_mono ((F _ Rv (PV O4)).run callerA [] r_ H ⟨[.ref a],[]⟩ [.ref a] [.ref a] _ _ hr e0 (O5 r_ (.ref a)) (.cons rfl .nil) (OF H hO hS)) λr s' h=>?_
  cases r with
  |error e=>exact (Ss H e s' h).elim
  |ok fl=>
   cases fl with
   |next=>exact False.elim h
   |brk=>exact False.elim h
   |cont=>exact False.elim h
   |ret u=>
    obtain⟨v,H',os,bare,un,Qy,r',q⟩:=h;have q':v=.bl true:=q;subst q';obtain rfl:u=Value.bool true:=r';refine⟨rfl,OldK.of_keep λb o e=>?_,os,bare⟩
    cases q:H b with
    |none=>exact un.keep b o e q (by intro z;exact absurd (show b∈([]:List Addr) from z) (by simp)) (by simp)
    |some u=>
     rcases hO b with z|⟨ob,xs,z⟩
     ·rw[q]at z;cases z
     ·have z2:=un.LG b ob _ z;obtain⟨e1,_⟩:=j_ b _ z;obtain⟨e2,_⟩:=Qy b _ z2;rw[e]at e1;cases e1;exact e2
 cases hk:K.lookup a with
 |some o=>
  have e:=KX a o hk;rw[ha]at e;cases e;refine core (λ_=>none) (λ_=>.inl rfl) (.inr ⟨_,vs.toArray,_,hk,rfl,rfl,rfl,by rw[Kx,Qx];exact hl,by simpa using rv⟩) (λb u z=>by have z':(none:Option HO)=some u:=z;cases z') (λb z=>absurd rfl z) λz=>absurd rfl z
 |none=>
  refine core (λb=>if b=a then some (.u_ {cls:=.type "list",data:=.seq vs.toArray} (.lst (ns.map V.int))) else none) (λb=>?_) (.inl (.inr ⟨{cls:=.type "list",data:=.seq vs.toArray},Kp rfl⟩)) (λb u z=>?_) (λb z=>?_) λ_=>hk
  ·by_cases hb:b=a
   ·exact .inr ⟨_,_,Kp hb⟩
   ·exact .inl (Kj hb)
  ·by_cases hb:b=a
   ·have z':=(Kp hb).symm.trans z;cases z';subst hb;exact⟨ha,by rw[Kr];exact hl,vs,_,rv,ha⟩
   ·have z':=(Kj hb).symm.trans z;cases z'
  ·by_cases hb:b=a
   ·exact hb
   ·exact absurd (Kj hb) z
def am(s:Stmt)(j:Nat):Stmt:=match s with
 |.ClassDef _ _ _ body _ _ _ _ _ _ _=>body.getD j (.Pass ⟨0,0,0,0⟩)
 |_=>.Pass ⟨0,0,0,0⟩
def fF(s:Stmt):Arguments:=match s with
 |.FunctionDef _ a _ _ _ _ _ _ _ _=>a
 |_=>{posonlyargs:=[],args:=[],vararg:=none,kwonlyargs:=[],kw_defaults:=[],kwarg:=none,defaults:=[]}
def d8(s:Stmt):List Stmt:=match s with
 |.FunctionDef _ _ b _ _ _ _ _ _ _=>b
 |_=>[]
def bF(s:Stmt):Scope:=match s with
 |.FunctionDef _ _ _ _ _ _ sc _ _ _=>sc
 |_=>{kind:=.function,names:=[],isGenerator:=false,isCoroutine:=false}
section
variable {K:Lr}
end
section
variable {X:Cx}
end
section
variable {κ:Type} [DecidableEq κ]
end
def DA(h:Heap)(e:Addr)(d:Option Addr):Prop:=∃o,h.get? e=some o/\o.dict=d
theorem jQ(f:Array Value->Array Value)(o:Obj):(Obj.mapFields f o).dict=o.dict:=by
 obtain⟨c,d,x,sl⟩:=o;cases x<;>rfl
section
variable {A:Around}{s:Shared}{base:Heap}{env:Env}
theorem sK{oe:Obj}{vs:Array Value}(MU:A.frames=some (env::outer))(hl:s.heap.FunFrames base (env::outer))(hf:env.frame=some L)(he:s.heap.get? e=some oe)(Nv:base.StaysIn s.heap)(N_:base.get? e=none)
  (hd:oe.data=.fields vs) (hsz:1<vs.size) (h0:vs[0]?=some a0) (k:∀h',Heap.NotedW base (env::outer) e oe.cls a0 (rawInt L) s.heap h'->DA h' e oe.dict->Q () {s with heap:=h'}) :
  wpAny M A (do let fr<-frameOf env;let pl<-entryPlaceOf L hadNext;let t<-EntryCells.newEntry head fr .none (rawInt L) .none pl;setField (.ref e) 1 t) Q E s:=by
 have PF:e∉(env::outer).filterMap (·.frame):=λz=>by
  obtain⟨_,o,ho,nf⟩:=hl.mem z;cases he.symm.trans ho;exact nf vs hd
 refine Kf (wpAny_frameOf_fun MU hl hf λg1 O6=>Kf (wpAny_entryPlaceOf λpl LJ=>?_))
 refine Kf (KU ?_ (LJ.sizeOk5 _ _ _ _ _));generalize hT:({cls:=.type "traceback",dict:=none,data:=.fields ([head,.ref L,.none,rawInt L,.none]++(if pl.isEmpty then List.replicate 6 Value.none else pl)).toArray}:Obj)=oT
 have e1:g1.get? e=some oe:=(O6.2.1 e PF).trans he;have b1:base.StaysIn g1:=λb o q=>(O6.2.1 b λz=>by rw[(hl.mem z).1]at q;cases q).trans (Nv b o q)
 have e2:(g1.push oT).get? e=some oe:=Kk oT e1;refine Lp e2 hd hsz (k _ ?_ ?_)
 ·have ne:g1.objs.size≠e:=Nat.ne_of_gt (Kw e1);have d3:=Li hd (·.setIfInBounds 1 (Value.ref g1.objs.size));have e3:=K6 (Obj.mapFields (·.setIfInBounds 1 (Value.ref g1.objs.size))) e2 (Obj.isFreed_of_fields d3);have t3:(g1.push oT).get? g1.objs.size=some oT:=Ko g1 (by rw[<-hT];rfl)
  have t4:((g1.push oT).update e (Obj.mapFields (·.setIfInBounds 1 (Value.ref g1.objs.size)))).get? g1.objs.size=some oT:=(KK _ _ (Kz ne)).trans t3;have stay:∀b o,b≠e->g1.get? b=some o->((g1.push oT).update e (Obj.mapFields (·.setIfInBounds 1 (Value.ref g1.objs.size)))).get? b=some o:=λb o n q=>
   (KK _ _ (Kz n)).trans (Kk oT q)
  have N3:∀b o,s.heap.get? b=some o->(∀ws,o.data≠.fields ws)->b≠e:=λb o q nf z=>by
   subst z;cases he.symm.trans q;exact nf vs hd
  refine⟨λb o q=>stay b o (λz=>by rw[z,N_]at q;cases q) (b1 b o q),hl.of_keeps λb o q nf=>?_,⟨_,_,g1.objs.size,oT,_,e3,⟨Obj.cls_mapFields _ _,?_⟩,d3,by simp[hsz],b1.fresh,ne,t4,by rw[<-hT],?_⟩,λb o q nf=>?_⟩
  ·obtain⟨sl,z⟩:=O6.2.2 b o q;exact⟨_,stay b _ (N3 b o q nf) z,rfl⟩
  ·rw[Array.getElem?_setIfInBounds_ne (by decide)];exact h0
  ·first|(simp;done)|(rcases LJ with rfl|⟨_,_,_,_,_,_,_,rfl⟩<;>simp)
  ·obtain⟨sl,z⟩:=O6.2.2 b o q;exact⟨sl,stay b _ (N3 b o q nf) z⟩
 ·have d3:=Li hd (·.setIfInBounds 1 (Value.ref g1.objs.size));exact⟨_,K6 (Obj.mapFields (·.setIfInBounds 1 (Value.ref g1.objs.size))) e2 (Obj.isFreed_of_fields d3),jQ _ _⟩
theorem ox(Nv:base.StaysIn s.heap)(hl:s.heap.FunFrames base l)(ht:s.heap.TracedAtW base e cls a0 fl)(hd:DA s.heap e d)
  (k:∀h',base.StaysIn h'->h'.FunFrames base l->h'.TracedW base e cls a0->s.heap.UpToSlots h'->DA h' e d->Q () {s with heap:=h'}):wpAny M A (setFlight (.ref e) none) Q E s:=by
 obtain⟨oe,vs,T,oT,ts,he,hc,hv,h1,nT,ne,hT,dT,h3⟩:=ht;obtain⟨Su,O7,hd⟩:=hd;cases he.symm.trans O7;have sz:3<ts.size:=(Lk.mp h3).1;refine Kf (Lb he hv h1 ?_);have Nw:∀b,b≠T->(s.heap.update T (Obj.mapFields (·.setIfInBounds 3 ((none:Option Addr).elim Value.none λf=>rawInt f)))).get? b=s.heap.get? b:=λb n=>KK _ _ (Kz n)
 have plain:∀b o,s.heap.get? b=some o->(∀ws,o.data≠.fields ws)->b≠T:=λb o q nf z=>by
  subst z;cases hT.symm.trans q;exact nf ts dT
 have ee:=(Nw e (Kz ne)).trans he;refine Lp hT dT sz (k _ (λb o q=>(Nw b λz=>by rw[z,nT]at q;cases q).trans (Nv b o q)) (hl.of_keeps λb o q nf=>⟨o,(Nw b (plain b o q nf)).trans q,rfl⟩) ⟨oe,vs,T,_,_,ee,hc,hv,h1,nT,ne,K6 _ hT (Obj.isFreed_of_fields (Li dT _)),Li dT _,by simp[sz]⟩
  (λb o q nf=>⟨o.slots,(Nw b (plain b o q nf)).trans q⟩) ⟨oe,ee,hd⟩)
theorem Cq(MU:A.frames=some (env::outer))(hf:env.frame=some L)(fl:Heap.FlyingW base (env::outer) e cls a0 s.heap)(hd:DA s.heap e d)
  (k:∀h',Heap.HeldW base (env::outer) e cls a0 L h'->s.heap.UpToSlots h'->DA h' e d->Q () {s with heap:=h'}):wpAny M A (noteFrame (.ref e) env) Q E s:=by
 obtain⟨Nv,N_,hl,oe,vs,T,oT,ts,he,⟨rfl,h0⟩,hv,h1,nT,ne,hT,dT,h3⟩:=fl;obtain⟨Su,O7,rfl⟩:=hd;cases he.symm.trans O7;unfold noteFrame;simp only[hf];refine Kf (Lb he hv h1 ?_);refine Kf (Lb hT dT h3 ?_);refine Kf (Lp hT dT (Lk.mp h3).1 ?_);have Nw:∀b,b≠T->(s.heap.update T (Obj.mapFields (·.setIfInBounds 3 Value.none))).get? b=s.heap.get? b:=λb n=>KK _ _ (Kz n)
 have plain:∀b o,s.heap.get? b=some o->(∀ws,o.data≠.fields ws)->b≠T:=λb o q nf z=>by
  subst z;cases hT.symm.trans q;exact nf ts dT
 exact sK MU (hl.of_keeps λb o q nf=>⟨o,(Nw b (plain b o q nf)).trans q,rfl⟩) hf ((Nw e (Kz ne)).trans he) (λb o q=>(Nw b λz=>by rw[z,nT]at q;cases q).trans (Nv b o q)) N_ hv (Lk.mp h1).1 h0
  λh' ⟨x1,x2,x3,x4⟩ dd=>k h' ⟨x1,N_,x2,x3⟩ (λb o q nf=>x4 b o ((Nw b (plain b o q nf)).trans q) nf) dd
theorem zq(hh:Heap.HeldW base l e cls a0 L s.heap)(hd:DA s.heap e d)(k:∀h',Heap.FlyingW base l e cls a0 h'->s.heap.UpToSlots h'->DA h' e d->Q () {s with heap:=h'}):wpAny M A (setFlight (.ref e) none) Q E s:=
 ox hh.1 hh.2.2.1 hh.2.2.2 hd λh' k1 k2 k3 k4 k5=>k h' ⟨k1,hh.2.1,k2,k3⟩ k4 k5
theorem eO{h:Heap}(x:h.FunFrames base (env::outer)):h.FunFrames base outer:=x.2.2
theorem wg(MU:A.frames=some (env::outer))(hf:env.frame=some L)(fl:Heap.FlyingW base (env::outer) e cls a0 s.heap)(hd:DA s.heap e d)
  (k:∀h',Heap.FlyingW base outer e cls a0 h'->s.heap.UpToSlots h'->DA h' e d->Q () {s with heap:=h'}):wpAny M A (leaving env (.ref e)) Q E s:=by
 refine Kf (Cq MU hf fl hd λh1 x1 u1 d1=>zq x1 d1 λh2 x2 u2 d2=>k h2 ⟨x2.1,x2.2.1,eO x2.2.2.1,x2.2.2.2⟩ (u1.trans u2) d2)
theorem zB{oe:Obj}(MU:A.frames=some (env::outer))(hf:env.frame=some L)(Nv:base.StaysIn s.heap)(hl:s.heap.FunFrames base (env::outer))(he:s.heap.get? e=some oe)(N_:base.get? e=none)(hv:oe.data=.fields vs)(h0:vs[0]?=some a0)(h1:vs[1]?=some .none)
  (k:∀h',Heap.FlyingW base outer e oe.cls a0 h'->s.heap.UpToSlots h'->DA h' e oe.dict->Q () {s with heap:=h'}):wpAny M A (leaving env (.ref e)) Q E s:=by
 unfold leaving noteFrame;simp only[hf];refine Kf (Kf (Lb he hv h1 ?_));refine sK MU hl hf he Nv N_ hv (Lk.mp h1).1 h0 λh1 x1 d1=>?_
 exact ox x1.1 x1.2.1 x1.2.2.1 d1 λh2 k1 k2 k3 k4 k5=>k h2 ⟨k1,N_,eO k2,k3⟩ (Heap.UpToSlots.trans x1.2.2.2 k4) k5
end
section
variable {h h':Heap}{o:HO}
theorem ObjOk.isAt(x:ObjOk P w H h a o):∃ob,h.get? a=some ob:=by
 cases o with
 |lst xs=>obtain⟨_,_,_,_,e⟩:=x;exact⟨_,e⟩
 |tup xs=>obtain⟨_,_,_,ob,e,_⟩:=x;exact⟨_,e⟩
 |set S n=>obtain⟨ob,_,_,_,e,_⟩:=x;exact⟨_,e⟩
 |ins C dx fs=>obtain⟨_,_,_,e,_⟩:=x;exact⟨_,e⟩
 |own y=>exact x
 |xd fs=>obtain⟨_,⟨ob,_,_,e,_⟩,_⟩:=x;exact⟨_,e⟩
 |rng lo hi=>obtain⟨_,_,_,e⟩:=x;exact⟨_,e⟩
 |u_ ob u=>exact⟨_,x.1⟩
 |Ng ps=>exact⟨_,x⟩
 |met f y=>exact⟨_,x⟩
 |ext φ=>exact x.2.1
 |_=>obtain⟨_,_,_,_,ob,_,_,e,_⟩:=x;exact⟨_,e⟩
theorem HOk.keptT(x:HOk P w H h)(k:∀b u ob,H b=some u->h.get? b=some ob->h'.get? b=some ob):HOk P w H h':=λa o e=>
 (x a o e).stay (λb u hb q=>hb.elim (λz=>by subst z;exact k _ _ _ e q) (λz=>k _ _ _ z q)) (λ_ q=>q) λ_ _ q=>q
end
def Fly(B:Heap)(l:List Env)(a:Addr)(cls:Value)(h:Heap):Prop:=∃a0,Heap.FlyingW B l a cls a0 h
def Within(B:Heap)(l:List Env)(hs:Heap)(H':Hp)(h':Heap):Prop:=
 ∀b ob,h'.get? b=some ob->(H' b≠none\/((∃o',hs.get? b=some o')/\b∉frs l))->B.get? b=some ob
def CX1(P:Program)(w:World):CXT:=λouter H s E e s'=>
 ∃(a:Addr) (cls:Value) (B:Heap) (H':Hp) (dx:Option Addr),e=.ref a/\s'.os=s.os/\AllBare s'.gens/\Un (frs outer) [] H H' s.heap s'.heap/\HOk P w H' s'.heap/\
  (Fly B outer a cls s'.heap/\DA s'.heap a dx)/\H' a=none/\Within B outer s.heap H' s'.heap/\E cls dx H'
theorem Inv.notrk{s:Shared}(I:Inv X a_ Z H s)(hn:s.heap.get? e=none):H e=none:=by
 cases q:H e with
 |none=>rfl
 |some u=>
  obtain⟨ob,z⟩:=(I.j_ e u q).isAt;rw[hn]at z;cases z
theorem Inv.oldNe{X:Cx}(I:Inv X a_ Z H s)(q:X.s₀.heap.get? b=some o)(hb:b∉X.fs):b∉frs X.stack:=λhm=>by
 rcases Kq.mp (I.stkSub b hm) with z|z
 ·have:=Kv (Kw q) I.ok.above;rw[z]at this;exact absurd this (K5 _)
 ·exact hb z
section
variable {K:Lr}{s:Shared}
theorem lI{s1:Shared}{oe:Obj}{h':Heap}
  (I:Inv (dO (CX1 P w) P w K mg base N qual scope f cd A outer s H E) a_ Z H1 s1) (hk:∀b o,s1.heap.get? b=some o->b≠e->h'.get? b=some o) (Sv:∀o,s1.heap.get? e=some o->∃vs,o.data=.fields vs) (Rx:H1 e=none) (NR:s.heap.get? e=none)
  (PX:h'.get? e=some oe) (hv:oe.data=.fields vs) (Sw:vs[0]?=some a0) (Sx:vs[1]?=some .none) (he:E oe.cls oe.dict H1) :
  (dO (CX1 P w) P w K mg base N qual scope f cd A outer s H E).xe (.ref e) {s1 with heap:=h'}:=by
 have MU:((dO (CX1 P w) P w K mg base N qual scope f cd A outer s H E).A).frames=some (envOfC qual scope s.heap.objs.size f cd::outer):=I.ok.frames;have hl:s1.heap.FunFrames base (envOfC qual scope s.heap.objs.size f cd::outer):=I.stack;have MV:∀env∈(envOfC qual scope s.heap.objs.size f cd::outer),∀b,env.frame=some b->b∈e::frs (envOfC qual scope s.heap.objs.size f cd::outer):=λenv he b hb=>Ki _ (List.mem_filterMap.mpr ⟨env,he,hb⟩)
 have hB:∀b o,(PySem.W.hideAll s1.heap (e::frs (envOfC qual scope s.heap.objs.size f cd::outer))).get? b=some o->s1.heap.get? b=some o/\b≠e:=λb o q=>⟨PySem.W.of_hideAll _ q,λz=>by
  subst z;rw[PySem.W.hideAll_none _ Kl]at q;cases q⟩
 have Sy:s1.heap.FunFrames (PySem.W.hideAll s1.heap (e::frs (envOfC qual scope s.heap.objs.size f cd::outer))) (envOfC qual scope s.heap.objs.size f cd::outer):=PySem.W.funFrames_hide hl MV;show wpAny _ _ (leaving _ _) _ _ _;refine zB (base:=PySem.W.hideAll s1.heap (e::frs (envOfC qual scope s.heap.objs.size f cd::outer))) MU rfl (λb o q=>hk b o (hB b o q).1 (hB b o q).2) (Sy.of_keeps λb o q nf=>⟨o,hk b o q (λz=>by
  subst z;obtain⟨ws,dw⟩:=Sv o q;exact nf ws dw),rfl⟩) PX (PySem.W.hideAll_none _ Kl) hv Sw Sx λh2 fl up dd=>?_
 have tB:∀b u ob,H1 b=some u->s1.heap.get? b=some ob->(PySem.W.hideAll s1.heap (e::frs (envOfC qual scope s.heap.objs.size f cd::outer))).get? b=some ob:=λb u ob hb q=>
  PySem.W.hideAll_get _ q λhm=>by
   rcases Kq.mp hm with z|hm
   ·rw[z,Rx]at hb;cases hb
   ·have z:=I.stkFree b hm;rw[hb]at z;cases z
 have one:∀b o,s.heap.get? b=some o->b≠e:=λb o q z=>by rw[z,NR]at q;cases q
 have oB:∀b o ob,s.heap.get? b=some o->b∉frs outer->s1.heap.get? b=some ob->(PySem.W.hideAll s1.heap (e::frs (envOfC qual scope s.heap.objs.size f cd::outer))).get? b=some ob:=λb o ob q hb q1=>
  PySem.W.hideAll_get _ q1 λhm=>(Kq.mp hm).elim (one b o q) (I.oldNe q hb)
 have st:=fl.1;have slot:∀b o,s.heap.get? b=some o->H b=none->b∈frs outer->∃sl,h2.get? b=some {o with slots:=sl}:=λb o q n hb=>by
  obtain⟨sl,e1⟩:=I.base.slot b o q n hb (λz=>nomatch z)
  obtain⟨_,o2,e2,nf⟩:=I.ok.funs.mem hb;have e3:o2=o:=KA (e2.symm.trans q);subst e3;obtain⟨MQ,e4⟩:=up b _ (hk _ _ e1 (one b _ q)) nf;exact⟨MQ,e4⟩
 refine⟨e,oe.cls,_,H1,oe.dict,rfl,I.os,I.bare,⟨λb o q n hb _=>?_,λb o q n hb _=>slot b o q n hb,λb o q n _=>I.base.free b o q n (λz=>nomatch z),λb o q _=>?_,I.base.tups,I.base.LG,I.base.LP⟩,?_,⟨⟨_,fl⟩,dd⟩,Rx,λb ob q hb=>?_,he⟩
 ·exact st b o (oB b o o q hb (I.base.keep b o q n hb (λz=>nomatch z)))
 ·by_cases hb:b∈frs outer
  ·obtain⟨sl,z⟩:=slot b o q (I.ok.frf b hb) hb;exact⟨_,z⟩
  ·obtain⟨o',e1⟩:=I.base.there b o q (λz=>nomatch z)
   exact⟨o',st b o' (oB b o o' q hb e1)⟩
 ·exact I.j_.keptT λb u ob hb q=>st b ob (tB b u ob hb q)
 ·rcases hb with hb|⟨⟨o',Md⟩,hb⟩
  ·cases z:H1 b with
   |none=>exact absurd z hb
   |some u=>
    obtain⟨o1,e1⟩:=(I.j_ b u z).isAt;have e2:=tB b u o1 z e1;have e3:o1=ob:=KA ((st b o1 e2).symm.trans q);rw[<-e3];exact e2
  ·obtain⟨o1,e1⟩:=I.base.there b o' Md (λz=>nomatch z)
   have e2:=oB b o' o1 Md hb e1;have e3:o1=ob:=KA ((st b o1 e2).symm.trans q);rw[<-e3];exact e2
theorem tU{s1:Shared}
  (I:Inv (dO (CX1 P w) P w K mg base N qual scope f cd A outer s H E) a_ Z H1 s1) (hx:Heap.MadeExcOf s1.heap h' e cls args)(he:E cls none H1) :
  (dO (CX1 P w) P w K mg base N qual scope f cd A outer s H E).xe (.ref e) {s1 with heap:=h'}:=by
 obtain⟨t,e1,_,_⟩:=hx.there;refine lI I (λb o q _=>hx.keeps b o q) (λo q=>by rw[hx.new]at q;cases q) (I.notrk hx.new) ?_ e1 rfl rfl rfl he
 cases q:s.heap.get? e with
 |none=>rfl
 |some o=>
  obtain⟨o1,z⟩:=I.base.there e o q (λz=>nomatch z)
  rw[hx.new]at z;cases z
theorem vZ(hE:∀c d H',E' c d H'->E c d H')
  (I:Inv (dO (CX1 P w) P w K mg base N qual scope f cd A outer s H E) a_ Z H1 s1) (hc:CX1 P w (envOfC qual scope s.heap.objs.size f cd::outer) H1 s1 E' e s') :
  (dO (CX1 P w) P w K mg base N qual scope f cd A outer s H E).xe e s':=by
 obtain⟨a,cls,B,H2,dx,rfl,os,bare,un,j_,⟨⟨a0,fl⟩,dd⟩,ha,OQ,he⟩:=hc;have MU:((dO (CX1 P w) P w K mg base N qual scope f cd A outer s H E).A).frames=some (envOfC qual scope s.heap.objs.size f cd::outer):=I.ok.frames;show wpAny _ _ (leaving _ _) _ _ _;refine wg MU rfl fl dd λh2 Ry up Nj=>?_
 have st:=Ry.1;have nil:∀b:Addr,b∉([]:List Addr):=λb z=>nomatch z
 have slot:∀b o,s.heap.get? b=some o->H b=none->b∈frs outer->∃sl,h2.get? b=some {o with slots:=sl}:=λb o q n hb=>by
  obtain⟨sl,e1⟩:=I.base.slot b o q n hb (nil b);obtain⟨O6,e2⟩:=un.any e1 (I.base.free b o q n (nil b)) (nil b);obtain⟨_,o2,e3,nf⟩:=I.ok.funs.mem hb;have e4:o2=o:=KA (e3.symm.trans q);subst e4;obtain⟨MQ,e5⟩:=up b _ e2 nf;exact⟨MQ,e5⟩
 have old:∀b o,s.heap.get? b=some o->b∉frs outer->∃ob,s'.heap.get? b=some ob/\B.get? b=some ob:=λb o q hb=>by
  obtain⟨o1,e1⟩:=I.base.there b o q (nil b);obtain⟨o2,e2⟩:=un.there b o1 e1 (nil b);exact⟨o2,e2,OQ b o2 e2 (.inr ⟨⟨o1,e1⟩,I.oldNe q hb⟩)⟩
 refine⟨a,cls,B,H2,dx,rfl,os.trans I.os,bare,⟨λb o q n hb _=>?_,λb o q n hb _=>slot b o q n hb,λb o q n _=>?_,λb o q _=>?_,λb xs q=>un.tups b xs (I.base.tups b xs q),λb o u q=>un.LG b o u (I.base.LG b o u q),λb ps q=>?_⟩,?_,⟨⟨a0,Ry⟩,Nj⟩,ha,λb ob q hb=>?_,hE _ _ _ he⟩
 ·have e1:=I.base.keep b o q n hb (nil b);have e2:=un.keep b o e1 (I.base.free b o q n (nil b)) (I.oldNe q hb) (nil b);exact st b o (OQ b o e2 (.inr ⟨⟨o,e1⟩,I.oldNe q hb⟩))
 ·obtain⟨o1,e1⟩:=I.base.there b o q (nil b);exact un.free b o1 e1 (I.base.free b o q n (nil b)) (nil b)
 ·by_cases hb:b∈frs outer
  ·obtain⟨sl,z⟩:=slot b o q (I.ok.frf b hb) hb;exact⟨_,z⟩
  ·obtain⟨ob,_,e2⟩:=old b o q hb;exact⟨ob,st b ob e2⟩
 ·obtain⟨m1,e1⟩:=I.base.LP b ps q;obtain⟨m2,e2⟩:=un.LP b _ e1;exact⟨m1++m2,by rw[e2,Array.append_assoc]⟩
 ·exact j_.keptT λb u ob hb q=>st b ob (OQ b ob q (.inl (by rw[hb];exact λz=>nomatch z)))
 ·rcases hb with hb|⟨⟨o',Md⟩,hb⟩
  ·cases z:H2 b with
   |none=>exact absurd z hb
   |some u=>
    obtain⟨o1,e1⟩:=(j_ b u z).isAt;have e2:=OQ b o1 e1 (.inl hb);have e3:o1=ob:=KA ((st b o1 e2).symm.trans q);rw[<-e3];exact e2
  ·obtain⟨o1,e1,e2⟩:=old b o' Md hb;have e3:o1=ob:=KA ((st b o1 e2).symm.trans q);rw[<-e3];exact e2
theorem FG:A4 (CX1 P w) (dO (CX1 P w) P w K mg base N qual scope f cd A outer s H E) E:=λ_ _ _ _ _ _ I h=>vZ (λ_ _ _ z=>z) I h
theorem Hm:PassesOwn (model P w) (dO (CX1 P w) P w K mg base N qual scope f cd A outer s H E).A (dO (CX1 P w) P w K mg base N qual scope f cd A outer s H E).env (dO (CX1 P w) P w K mg base N qual scope f cd A outer s H E).xe:=
 PassesOwn.leaving
end
def vX(X:Cx)(E:XK):Prop:=∀(a_:List (Addr×Obj)) (Z:St)(H:Hp)(s:Shared)(e:Addr)(cls:Value)(args:List Value)(h':Heap),Inv X a_ Z H s->Heap.MadeExcOf s.heap h' e cls args->E cls none H->X.xe (.ref e) {s with heap:=h'}
def rJ(X:Cx)(E:XK):Prop:=∀(a_:List (Addr×Obj)) (Z:St)(H:Hp)(s:Shared)(e:Addr)(oe:Obj)(vs:Array Value)(a0:Value),Inv X a_ Z H s->H e=none->X.s₀.heap.get? e=none->s.heap.get? e=some oe->oe.data=.fields vs->vs[0]?=some a0->vs[1]?=some .none->E oe.cls oe.dict H->X.xe (.ref e) s
theorem vy{K:Lr} :
  rJ (dO (CX1 P w) P w K mg base N qual scope f cd A outer s H E) E:=λ_ _ _ s1 e oe vs a0 I ht h0 PX hv v0 v1 he=>lI (h':=s1.heap) I (λ_ _ q _=>q) (λo q=>by
 cases PX.symm.trans q;exact⟨vs,hv⟩) ht h0 PX hv v0 v1 he
theorem yX{K:Lr} :
  vX (dO (CX1 P w) P w K mg base N qual scope f cd A outer s H E) E:=λ_ _ _ _ _ _ _ _ I hx he=>tU I hx he
abbrev bmV:List Value:=[.type "ValueError",.type "Exception",.type "BaseException",.type "object"]
def E8(K:Lr)(C:Addr):Prop:=PySem.W.excIn K C bmV "ValueError.__new__"=true
section
variable {X:Cx}
end
def br(CX:CXT)(X:Cx)(E:St->XK):Prop:=∀(a_:List (Addr×Obj)) (Z:St)(H:Hp)(s:Shared)(e:Value)(s':Shared),Inv X a_ Z H s->CX X.stack H s (E Z) e s'->X.xe e s'
section
variable {X:Cx}{p:Pos}{o:Expr}
end
section
variable {X:Cx}{Z:St}{s1 s':Shared}{B:Heap}
end
def Ho(a:Addr)(cls:Value)(dx:Option Addr):HO:=.ext λh=>∃o vs,h.get? a=some o/\o.cls=cls/\o.data=.fields vs/\o.dict=dx
section
variable {X:Cx}{Z:St}{s:Shared}
end
section
variable {X:Cx}
end
section
variable {X:Cx}{c n:Str}{C:Addr}{b0:Stmt}{O8:List Stmt}{np Qz pos:Pos}{aU:List ExceptHandler}{ts:TS}{tr:kh->St->XK}{i:Nat}
end
end L2
namespace L2
open PySem PySem.Spec PySem.Calls PyProof.Rows
def CA(K:Lr)(C:Addr):Bool:=match K.lookup C with
 |some ⟨.type "type",_,.cls k,sl⟩=>(match k.mro with
  |.ref C2::above=>C2 == C&&!k.hasDel&&PySem.W.tailIn K bmV above&&(match sl.toList with
   |[_,_,_,_,some (.builtin mk),_]=>mk == "ValueError.__new__"
   |_=>false)
  |_=>false)
 |_=>false
section
variable {A:Around}{h:Heap}{os:OsState}{K:Lr}
end
section
variable {pos:Pos}
theorem jo{args:List Expr}(h1:(backTo pos (starEach args env)).any (·.1)=false)(h2:args.length<30):methodCallForm (args.length+([]:List Keyword).length) (backTo pos (starEach args env)) (backToKw pos (keywordEach [] env))=true:=by
 unfold methodCallForm;have a:(backTo pos (starEach args env)).all (!·.1)=true:=by
  rw[KE];intro x hx;have:=List.any_eq_false.mp h1 x hx;simpa using this
 rw[a];have:(backToKw pos (keywordEach [] env)).all (·.1.isSome)=true:=rfl;rw[this];have h3:(backToKw pos (keywordEach ([]:List Keyword) env)).isEmpty=true:=rfl;simp only[h3,if_true,List.length_nil,Bool.true_and,Nat.add_zero,Ks];exact h2
theorem iE{o_:Pos}{args:List Expr}(hb:attributeBase o m env (eval o env)=eval o env)
  (hf:methodCallForm (args.length+([]:List Keyword).length) (backTo pos (starEach args env)) (backToKw pos (keywordEach [] env))=true) (hl:(o_.endLine == pos.line)=true) :
  eval (.Call (.Attribute o m o_) args [] pos) env=(do
   let ov<-eval o env
   standAt o_.atName
   let (f,first)<-holding [ov] (getMethod ov m (do return (<-importBound o env).getD true))
   callWith pos f first (backTo pos (starEach args env)) (backToKw pos (keywordEach [] env))):=by
 rw[arm_eval_Call,hb];unfold methodCall calleeOf methodCallPos;simp only[hf,hl];rfl
end
def Hn(e C:Addr):HO:=.ext λh=>∃t0,h.get? e=some {cls:=.ref C,data:=.fields #[.ref t0,.none,.none,.none,.bool false,.none]}
def Eb(e C dx:Addr):HO:=.ext λh=>∃t0,h.get? e=some {cls:=.ref C,dict:=some dx,data:=.fields #[.ref t0,.none,.none,.none,.bool false,.none]}
structure XIni (K:Lr)(C fI:Addr)(f:Str):Prop where
 cl:CA K C=true
 ini:PySem.W.findIn K (.ref C) "__init__"=some (some (.ref fI))
 fn:PySem.W.typeIn K (.ref fI)=some (.type "function")
 sa:PySem.W.findIn K (.ref C) "__setattr__"=some (some (.builtin "object.__setattr__"))
 at_:PySem.W.findIn K (.ref C) f=some none
 hd:PySem.W.hasDictIn K C=true
 ob:PySem.W.mroIn K C (.type "object")=some true
 kp:PySem.W.keepIn K (.ref C)=true
section
variable {X:Cx}{D:Addr}{o_ pos:Pos}
def xr(cp:Bool)(K:Lr)(C:Addr)(f:Str):Sp:=λvs H Q _=>∃a v,vs=[.ref a,v]/\H a=some (Hn a C)/\(cp=false->∀dx ob,H dx=none->dx≠a->Q .i_ (upd (upd H a (Eb a C dx)) dx (.u_ ob (.xd [(f,v)]))))/\
 (cp=true->∃p ws,v=.ref p/\SqL K H p ws/\∀q dx ob,H q=none->H dx=none->dx≠a->dx≠q->Q .i_ (upd (upd (upd H q (.lst ws)) a (Eb a C dx)) dx (.u_ ob (.xd [(f,.ref q)]))))
end
end L2
namespace L2
open PySem PySem.Spec PyProof.Rows
def aN(names:List (Str×NameKind))(cs:List (Str×Addr))(acc:List (Str×Addr)):List (Str×Addr):=match names with
 |[]=>acc
 |(n,k)::r=>if k=.free then (match cs.lookup n with|some c=>aN r cs ((n,c)::acc)|none=>aN r cs acc) else aN r cs acc
theorem bN{cs:List (Str×Addr)}:∀{names:List (Str×NameKind)}{acc:List (Str×Addr)},(∀p∈acc,cs.lookup p.1=some p.2)->∀p∈aN names cs acc,cs.lookup p.1=some p.2
 |[],_,h,p,hp=>h p hp
 |(n,k)::r,acc,h,p,hp=>by
  unfold aN at hp;split at hp
  ·split at hp
   next c e=>
    refine bN (λq hq=>?_) p hp
    rcases Kq.mp hq with z|z
    ·subst z;exact e
    ·exact h q z
   next=>exact bN h p hp
  ·exact bN h p hp
theorem dW:∀{names:List (Str×NameKind)}{acc:List (Str×Addr)}{p:Str×Addr},p∈acc->p∈aN names cs acc
 |[],_,_,h=>h
 |(n,k)::r,acc,p,h=>by
  unfold aN;split
  ·split
   ·exact dW (Ki _ h)
   ·exact dW h
  ·exact dW h
theorem eJ{cs:List (Str×Addr)}(e:cs.lookup x=some c):∀{names:List (Str×NameKind)}{acc:List (Str×Addr)},(x,NameKind.free)∈names->(x,c)∈aN names cs acc
 |(n,k)::r,acc,h=>by
  rcases Kq.mp h with z|z
  ·cases z;unfold aN;rw[Kp rfl,e];exact dW Kl
  ·unfold aN;split
   ·split
    ·exact eJ e z
    ·exact eJ e z
   ·exact eJ e z
theorem eW{l:List (Str×Addr)}(h:(x,c)∈l)(u:∀p∈l,p.1=x->p.2=c):l.lookup x=some c:=by
 induction l with
 |nil=>cases h
 |cons p r ih=>
  obtain⟨n,d⟩:=p;by_cases e:x=n
  ·subst e;rw[K4,beq_self_eq_true];exact congrArg some (u (x,d) Kl rfl)
  ·rw[K4];rw[KM.mpr e];rcases Kq.mp h with z|z
   ·cases z;exact absurd rfl e
   ·exact ih z λq hq=>u q (Ki _ hq)
theorem bw{l:List (Str×Addr)}(h:l.lookup x=some c):(x,c)∈l:=PySem.mem_of_lookup h
theorem pI{cs:List (Str×Addr)}(hm:(x,NameKind.free)∈names)(e:cs.lookup x=some c):(aN names cs []).lookup x=some c:=by
 refine eW (eJ e hm) λp hp hx=>?_
 have z:=bN (acc:=[]) (λp hp=>nomatch hp) p hp
 rw[hx,e]at z;exact (KA z).symm
theorem uz{env:Env}(e:env.cells.lookup n=some c):cellOf env n=pure c:=by
 unfold cellOf;rw[e]
theorem ll{scope:Scope}{env:Env}(h:∀y∈scope.names,y.2=.free->∃c,env.cells.lookup y.1=some c):closureFor scope env=pure (aN scope.names env.cells []):=by
 have go:∀(names:List (Str×NameKind)) (acc:List (Str×Addr)),(∀y∈names,y.2=.free->∃c,env.cells.lookup y.1=some c)->
   (forIn names acc λx r=>match x with
    |(n,k)=>if (k == NameKind.free)=true then do let c<-cellOf env n;pure (ForInStep.yield ((n,c)::r)) else pure (ForInStep.yield r):Sem (List (Str×Addr)))=pure (aN names env.cells acc):=by
  intro names
  induction names with
  |nil=>intro acc _;rfl
  |cons y r ih=>
   intro acc hy;obtain⟨n,k⟩:=y;rw[List.forIn_cons];by_cases hk:k=NameKind.free
   ·subst hk;obtain⟨c,e⟩:=hy (n,.free) Kl rfl;simp only[beq_self_eq_true,if_true];rw[uz e];show (forIn r ((n,c)::acc) _:Sem _)=_;rw[ih _ λz hz=>hy z (Ki _ hz)]
    conv=>rhs;unfold aN
    simp only[if_true,e]
   ·have hb:(k == NameKind.free)=false:=by simpa using hk
    simp only[hb,KY,if_false];show (forIn r acc _:Sem _)=_;rw[ih _ λz hz=>hy z (Ki _ hz)]
    conv=>rhs;unfold aN
    simp only[hk,if_false]
 have e:=go scope.names [] h;show ((forIn scope.names [] λx r=>match x with
    |(n,k)=>if (k == NameKind.free)=true then do let c<-cellOf env n;pure (ForInStep.yield ((n,c)::r)) else pure (ForInStep.yield r):Sem (List (Str×Addr))) >>=λz=>pure z)=_
 rw[e];rfl
theorem aJ:∀(names:List (Str×NameKind)) (n:Nat) (acc:List (Str×Addr)),cellsFrom n names acc=cellsFrom n names []++acc
 |[],_,_=>rfl
 |(x,k)::r,n,acc=>by
  unfold cellsFrom;split
  ·rw[aJ r (n+1) ((x,n)::acc),aJ r (n+1) [(x,n)],List.append_assoc];rfl
  ·exact aJ r n acc
theorem aG:∀{names:List (Str×NameKind)}{n:Nat}{p:Str×Addr},p∈cellsFrom n names []->(p.1,NameKind.cell)∈names/\n<=p.2
 |[],_,_,h=>nomatch h
 |(x,k)::r,n,p,h=>by
  unfold cellsFrom at h;split at h
  ·rename_i hk;rw[aJ]at h;rcases KD.mp h with z|z
   ·obtain⟨a,b⟩:=aG z;exact⟨Ki _ a,by omega⟩
   ·obtain rfl:=KF.mp z;exact⟨by rw[show k=NameKind.cell from by simpa using hk];exact Kl,Km _⟩
  ·obtain⟨a,b⟩:=aG h;exact⟨Ki _ a,b⟩
theorem cy:∀{names:List (Str×NameKind)}{n:Nat}{x:Str},(x,NameKind.cell)∈names->∃c,(x,c)∈cellsFrom n names []
 |(y,k)::r,n,x,h=>by
  rcases Kq.mp h with z|z
  ·cases z;unfold cellsFrom;rw[Kp (by rfl),aJ]
   exact⟨n,KI _ Kl⟩
  ·unfold cellsFrom;split
   ·obtain⟨c,e⟩:=cy z (n:=n+1);rw[aJ];exact⟨c,K2 _ e⟩
   ·exact cy z
theorem eB:∀{l:List (Str×Addr)}{x:Str}{c:Addr},(x,c)∈l->∃c',l.lookup x=some c'
 |(y,d)::r,x,c,h=>by
  rw[K4];cases e:x == y with
  |true=>exact⟨d,rfl⟩
  |false=>
   rcases Kq.mp h with z|z
   ·cases z;simp at e
   ·exact eB z
theorem hJ
  (hQ:Q {scope:=scope,locals:=s.heap.objs.size,globals:=globals,cells:=cellsFrom (s.heap.objs.size+1) scope.names []++cl,qual:=qual,func:=none,code:=outer.code,frame:=outer.frame,builtins:=outer.builtins} {s with heap:=pushCells (s.heap.push {cls:=.type "dict",data:=.dict #[]}) scope.names}) :
  wpAny M A (newFunctionEnv scope globals cl [] qual none .none (some outer)) Q E s:=by
 simp only[newFunctionEnv,Option.isSome_some,if_true];refine Kf (wpAny_alloc ?_);refine Kf (wpAny_layCells _ (λname kind cells=>by cases QA:kind == NameKind.cell<;>simp[QA]) _ _ _ _ ?_)
 rw[show ({s with heap:=s.heap.push {cls:=.type "dict",data:=.dict #[]}}:Shared).heap.objs.size=s.heap.objs.size+1 from Heap.size_push ..,aJ]
 refine Kf ?_;rw[List.forIn_nil];exact Kh (Kh hQ)
def dg(N:List Str)(js:List (Option Nat))(sc MR:Scope)(oN:List Str):Bool:=
 N.length == js.length&&decide N.Nodup&&
 (N.zip js).all (λp=>match p.2 with
  |none=>sc.names.lookup p.1 == some .local||sc.names.lookup p.1 == some .cell
  |some j=>oN[j]? == some p.1&&sc.names.contains (p.1,NameKind.free)&&MR.names.lookup p.1 == some .cell)&&
 decide (sc.names.map (·.1)).Nodup&&sc.names.all (λy=>(y.2 != .free||MR.names.lookup y.1 == some .cell)&&(y.2 != .local||sc.names.lookup y.1 == some .local))&&(sc.kind == .function)&&(MR.kind == .function)
def jv(js:List (Option Nat))(Z:St):St:=js.map λo=>o.bind λj=>(Z[j]?).bind id
abbrev compCx(X:Cx)(scope:Scope)(C:Addr)(N:List Str)(s2:Shared)(H2:Hp)(fp:List Addr)(a_:List (Addr×Obj)):Cx:=
 {X with env:=compEnvC scope (cellsFrom (C+1) scope.names []++aN scope.names X.env.cells []) C X.env,N:=N,s₀:=s2,H₀:=H2,outer:=X.stack,stack:=X.stack,ex:=fp,fn:=λx=>scope.names.lookup x == some .cell,pn:=X.pn++a_,xe:=λ_ _=>False}
theorem gQ{env:Env}(hk:env.scope.kind=.function)(hc:env.kindOf x=some .cell):∀{names:List (Str×NameKind)},(x,NameKind.free)∈names->(∀y∈names,y.1=x->y.2=.free)->
  (names.map λ(n,k)=>if (k == .free&&env.scope.kind == .function&&env.kindOf n == some .cell) then (n,.cell) else (n,k)).lookup x=some NameKind.cell
 |(n,k)::r,hm,hu=>by
  show List.lookup x ((if (k == NameKind.free&&env.scope.kind == .function&&env.kindOf n == some .cell)=true then (n,NameKind.cell) else (n,k))::_)=_
  by_cases e:x=n
  ·subst e;have ek:k=.free:=hu (x,k) Kl rfl;subst ek;simp only[hk,hc,beq_self_eq_true,Bool.and_self,if_true];rw[K4,beq_self_eq_true]
  ·have OG:(x,NameKind.free)∈r:=by
    rcases Kq.mp hm with z|z
    ·cases z;exact absurd rfl e
    ·exact z
   have ih:=gQ hk hc OG λy hy=>hu y (Ki _ hy)
   split
   ·rw[K4,KM.mpr e];exact ih
   ·rw[K4,KM.mpr e];exact ih
structure CompOk (N:List Str) (js:List (Option Nat)) (sc MR:Scope)(oN:List Str):Prop where
 len:N.length=js.length
 nd:N.Nodup
 own:∀(i:Nat)(x:Str),N[i]?=some x->js[i]?=some none->sc.names.lookup x=some .local\/sc.names.lookup x=some .cell
 fr:∀(i:Nat)(x:Str)(j:Nat),N[i]?=some x->js[i]?=some (some j)->oN[j]?=some x/\(x,NameKind.free)∈sc.names/\MR.names.lookup x=some .cell
 ndn:(sc.names.map (·.1)).Nodup
 nf:∀y∈sc.names,y.2=.free->MR.names.lookup y.1=some .cell
 nl:∀y∈sc.names,y.2=.local->sc.names.lookup y.1=some .local
 k1:sc.kind=.function
 k2:MR.kind=.function
theorem mq(h:dg N js sc MR oN=true):CompOk N js sc MR oN:=by
 unfold dg at h;simp only[Kg,KG,Ks,KE,Bool.or_eq_true,bne_iff_ne]at h;obtain⟨⟨⟨⟨⟨⟨h1,h2⟩,h3⟩,h4⟩,h5⟩,h6⟩,h7⟩:=h;have zip:∀(i:Nat)(x:Str)(o:Option Nat),N[i]?=some x->js[i]?=some o->(x,o)∈N.zip js:=λi x o e1 e2=>
  KW (by rw[List.getElem?_zip_eq_some];exact⟨e1,e2⟩)
 refine⟨h1,h2,λi x e1 e2=>?_,λi x j e1 e2=>?_,h4,λy hy e=>?_,λy hy e=>?_,h6,h7⟩
 ·have z:=h3 _ (zip i x _ e1 e2);simpa using z
 ·have z:=h3 _ (zip i x _ e1 e2);simp only[Kg,KG]at z;exact⟨z.1.1,List.contains_iff_mem.mp z.1.2,z.2⟩
 ·rcases (h5 y hy).1 with z|z
  ·exact absurd e z
  ·exact z
 ·rcases (h5 y hy).2 with z|z
  ·exact absurd e z
  ·exact z
theorem eU{env:Env}:∀{names:List (Str×NameKind)},
  (names.map λ(n,k)=>if (k == .free&&env.scope.kind == .function&&env.kindOf n == some .cell) then (n,.cell) else (n,k)).lookup x=some k->∃k',(x,k')∈names/\(k'=k\/k'=.free)
 |[],h=>by cases h
 |(n,k0)::r,h=>by
  have h:List.lookup x ((if (k0 == NameKind.free&&env.scope.kind == .function&&env.kindOf n == some .cell)=true then (n,NameKind.cell) else (n,k0))::_)=_:=h
  by_cases e:x=n
  ·subst e;split at h
   next hc=>
    refine⟨k0,Kl,.inr ?_⟩;have:=(Lm.mp (Lm.mp hc).1).1;simpa using this
   next=>
    rw[K4,beq_self_eq_true]at h;exact⟨k0,Kl,.inl (KA h)⟩
  ·have h':List.lookup x (r.map λ(n,k)=>if (k == .free&&env.scope.kind == .function&&env.kindOf n == some .cell) then (n,.cell) else (n,k))=some k:=by
    split at h
    ·rw[K4,KM.mpr e]at h;exact h
    ·rw[K4,KM.mpr e]at h;exact h
   obtain⟨k',m,z⟩:=eU h';exact⟨k',Ki _ m,z⟩
theorem uy(I:Nat->Shared->Prop)
  (nQ:∀n s,I n s->wpAny (model prog w) A (pyNext it) (λr s1=>match r with
   |none=>R (.ok .next) s1
   |some v=>wpAny (model prog w) A (letOwnedTupleGo target it v) (λ_ s2=>wpAny (model prog w) A (assign target env v) (λ_ s3=>
     wpAny (model prog w) A (forIn ifs true λc r=>if r=true then do let ok<-isTrue c env (eval c env);pure (ForInStep.yield ok) else pure (ForInStep.yield r)) (λok s4=>
      if ok=true then wpAny (model prog w) A (eval A_ env) (λx s5=>wpAny (model prog w) A (call (.builtin "list.append") [acc,x]) (λ_ s6=>∃m,m<n/\I m s6) (λ_ _=>False) s5) (λ_ _=>False) s4
      else ∃m,m<n/\I m s4) (λ_ _=>False) s3) (λ_ _=>False) s2) (λ_ _=>False) s1) (λ_ _=>False) s)
  (n:Nat)(h:I n s):codeAny (model prog w) A (.compLoop (.ListComp A_ [⟨target,iter,ifs,0⟩] scope pos) 0 it acc env) R s:=by
 have no:∀{α:Type}{t:Sem α}{Q:α->Shared->Prop}{E:Value->Shared->Prop}{z:Shared},wpAny (model prog w) A t Q (λ_ _=>False) z->wpAny (model prog w) A t Q E z:=λh=>wpAny_noRaise h
 refine codeAny_loop rfl I (λn s hI=>?_) n h
 refine wpAny_noted ?_;refine Kf (wpAny_standAt (Kf (no (Lh (nQ n s hI) (λr s1 h1=>?_) λ_ _ z=>z))))
 cases r with
 |none=>exact Kh h1
 |some v=>
  refine Kf (no (Lh h1 (λ_ s2 h2=>?_) λ_ _ z=>z))
  refine Kf (no (Lh h2 (λ_ s3 h3=>?_) λ_ _ z=>z))
  refine Kf (no (Lh h3 (λok s4 h4=>?_) λ_ _ z=>z))
  cases ok with
  |false=>exact Kh ⟨rfl,h4⟩
  |true=>
   refine Kf (Kf (no (Lh h4 (λx s5 h5=>?_) λ_ _ z=>z)))
   exact Kf (no (Lh h5 (λ_ s6 h6=>Kh (Kh ⟨rfl,h6⟩)) λ_ _ z=>z))
def PIf(X:Cx)(ifs:List Expr)(tt:TT):Prop:=∀(a_:List (Addr×Obj)) (s:Shared)(Z:St)(H:Hp)(Q:Bool->Hp->Prop),Inv X a_ Z H s->tt Z H Q->
 wpAny (model X.prog X.w) X.A (forIn ifs true λc r=>if r=true then do let ok<-isTrue c X.env (eval c X.env);pure (ForInStep.yield ok) else pure (ForInStep.yield r)) (TP X a_ Z Q) X.xe s
def tYes:TT:=λ_ H Q=>Q true H
theorem yw:PIf X [] tYes:=λa_ s Z H Q I h=>wpAny_tests_nil ⟨H,I,h⟩
theorem yK(h:PT X c t):PIf X [c] t:=λa_ s Z H Q I q=>wpAny_tests_one (h a_ s Z H Q I q)
def sW(js:List (Option Nat))(wi:TI)(g:TG)(tt:TT)(te:TE):TE:=λZ H Q=>wi Z H λJ H1=>∀p,H1 p=none->∃W:Nat->Nat->St->Hp->Prop,(∃m,W 0 m (jv js Z) (upd H1 p (.lst [])))/\
 ∀(i:Nat) m L0 H,W i m L0 H->(J.stop i H/\Q (.ref p) H)\/(J.go i H/\∀x H',J.yld i H x H'->g x L0 H' λL7 H2=>tt L7 H2 λb H3=>
  if b=true then te L7 H3 λy H4=>∃ys,H4 p=some (.lst ys)/\ys.length<sizeLine/\∃m',m' < m/\W (i+1) m' L7 (upd H4 p (.lst (ys++[y]))) else ∃m',m' < m/\W (i+1) m' L7 H3)
section
variable {X:Cx}
theorem oq(j_:dg N js scope X.env.scope X.N=true)(B_:X.calm=true)(hi:PI X tg iter wi)
  (hg:∀C s2 H2 fp pn,PG (compCx X scope C N s2 H2 fp pn) tg g) (ht:∀C s2 H2 fp pn,PIf (compCx X scope C N s2 H2 fp pn) ifs tt) (he:∀C s2 H2 fp pn,PE (compCx X scope C N s2 H2 fp pn) A_ te)
  (hs:∀x,foldedSetIterable iter X.env x=pure x) (I:Inv X a_ Z H s)(h:sW js wi g tt te Z H Q)
  (fin:∀(D C:Addr)(s5:Shared)(H4:Hp)(m5:Str->Option Value),s5.heap.Ns C m5->fK X a_ H4 C->(∀h',Heap.SameBut C s5.heap h'->Inv X a_ Z H4 {s5 with heap:=h'})->Q (.ref D) H4->compPost (model X.prog X.w) X.A X.xe use Qf (.ref D) C (.ok .next) s5) :
  wpAny (model X.prog X.w) X.A (comprehension (.ListComp A_ [⟨tg,iter,ifs,0⟩] scope pos) scope X.env pos' (newList []) false (eval iter X.env) use) Qf X.xe s:=by
 have O:=mq j_;have MW:∀y∈scope.names,y.2=.free->∃c,X.env.cells.lookup y.1=some c:=λy hy e=>I.ok.has y.1 (.inl (O.nf y hy e))
 refine wpAny_comprehension_free rfl hs (ll MW) O.k1 O.nl (thn (hi a_ s Z H _ I h) λxv s1 h1=>thn h1 λQn s2 h2=>?_)
 obtain⟨it,fp,tn,J,H2,rfl,I2,T,PN,f2,hQ⟩:=h2;refine KU (hJ ?_);have QC:(s2.heap.push {cls:=.type "list",dict:=none,data:=.seq ([]:List Value).toArray}).objs.size=s2.heap.objs.size+1:=Heap.size_push ..;have Rz:((s2.heap.push {cls:=.type "list",dict:=none,data:=.seq ([]:List Value).toArray}).push {cls:=.type "dict",data:=.dict #[]}).objs.size=s2.heap.objs.size+1+1:=by rw[Heap.size_push,QC]
 have O4:(pushCells ((s2.heap.push {cls:=.type "list",dict:=none,data:=.seq ([]:List Value).toArray}).push {cls:=.type "dict",data:=.dict #[]}) scope.names).Ns (s2.heap.objs.size+1) (λ_=>none):=by
  rw[<-QC];exact (Heap.Ns.new _ (.type "dict")).keeps (pushCells_keeps _ _)
 have keep:∀b o,s2.heap.get? b=some o->(pushCells ((s2.heap.push {cls:=.type "list",dict:=none,data:=.seq ([]:List Value).toArray}).push {cls:=.type "dict",data:=.dict #[]}) scope.names).get? b=some o:=λb o e=>
  pushCells_keeps _ _ b o (Kk _ (Kk _ e))
 have RA:(pushCells ((s2.heap.push {cls:=.type "list",dict:=none,data:=.seq ([]:List Value).toArray}).push {cls:=.type "dict",data:=.dict #[]}) scope.names).get? s2.heap.objs.size=some {cls:=.type "list",data:=.seq ([]:List Value).toArray}:=
  pushCells_keeps _ _ _ _ (Kk _ (Ko _ rfl))
 have PY:=cellsFrom_ok scope.names ((s2.heap.push {cls:=.type "list",dict:=none,data:=.seq ([]:List Value).toArray}).push {cls:=.type "dict",data:=.dict #[]}) (s2.heap.objs.size+1+1) [] ⟨λ_ _ hm=>(nomatch hm),List.Pairwise.nil⟩ (by rw[Rz];exact Km _)
 rw[Rz]at PY;rw[QC];generalize pushCells ((s2.heap.push {cls:=.type "list",dict:=none,data:=.seq ([]:List Value).toArray}).push {cls:=.type "dict",data:=.dict #[]}) scope.names=Nx at O4 keep RA PY ⊢;have RB:H2 s2.heap.objs.size=none:=I2.j_.fresh (Km _);have Sz:H2 (s2.heap.objs.size+1)=none:=I2.j_.fresh (Ln _);have SA:s2.heap.objs.size+1≠s2.heap.objs.size:=Nat.succ_ne_self _;obtain⟨W,⟨m0,w0⟩,nQ⟩:=hQ s2.heap.objs.size RB;have L1:∀b∈fp,b<s2.heap.objs.size:=λb hb=>by
  obtain⟨o,e,_⟩:=T.obj 0 _ PN b hb;exact Kw e
 have lk:∀x c,(cellsFrom (s2.heap.objs.size+1+1) scope.names []++aN scope.names X.env.cells []).lookup x=some c->(x,c)∈cellsFrom (s2.heap.objs.size+1+1) scope.names []\/X.env.cells.lookup x=some c:=λx c e=>by
  rcases KD.mp (bw e) with z|z
  ·exact .inl z
  ·exact .inr (bN (acc:=[]) (λp hp=>nomatch hp) _ z)
 have old:∀x c,X.env.cells.lookup x=some c->c<s2.heap.objs.size:=λx c e=>by
  obtain⟨v,o,ho,hd⟩:=I2.cell x c e;exact Kw ho
 have cne:∀b∈fp,∀x c,(cellsFrom (s2.heap.objs.size+1+1) scope.names []++aN scope.names X.env.cells []).lookup x=some c->c≠b:=λb hb x c e=>by
  rcases lk x c e with z|z
  ·have a1:=(aG z).2;exact Nat.ne_of_gt (Kv (L1 b hb) (KB (Lo _ 2) a1))
  ·exact (f2 b hb).2.2.2.2.1 x c z
 let Xc:Cx:=compCx X scope (s2.heap.objs.size+1) N s2 H2 fp a_
 have SD:Xc.Ok:=by
  refine⟨I2.ok.mod,O.k1,I2.ok.glob,I2.ok.blt,Ln _,λx y c e1 e2=>?_,λx hx=>?_,λx c e1 e2=>?_,I2.ok.hd,I2.ok.frames,.inl rfl,λb hb=>?_,I2.bs,KB I2.ok.bsz I2.sz,λb o e hb=>?_,λb hb hm=>?_,I2.stack,I2.stkFree⟩
  ·rcases lk x c e1 with z1|z1<;>rcases lk y c e2 with z2|z2
   ·exact name_of_addr PY.apart z1 z2
   ·have a1:=(aG z1).2;exact absurd (Kv (old _ _ z2) (KB (Lo _ 2) a1)) (K5 _)
   ·have a1:=(aG z2).2;exact absurd (Kv (old _ _ z1) (KB (Lo _ 2) a1)) (K5 _)
   ·exact I2.ok.inj x y c z1 z2
  ·have hx:(relabel scope X.env).names.lookup x=some .cell\/(relabel scope X.env).names.lookup x=some .free:=hx;have key:(x,NameKind.free)∈scope.names\/(x,NameKind.cell)∈scope.names:=by
    rcases hx with hx|hx
    ·obtain⟨k',m,z⟩:=eU hx;rcases z with z|z
     ·subst z;exact .inr m
     ·subst z;exact .inl m
    ·obtain⟨k',m,z⟩:=eU hx;rcases z with z|z<;>(subst z;exact .inl m)
   rcases key with key|key
   ·obtain⟨c,e⟩:=MW _ key rfl;exact eB (KI _ (bw (pI key e)))
   ·obtain⟨c,e⟩:=cy key;exact eB (K2 _ e)
  ·have e1:scope.names.lookup x=some .cell:=KG.mp e1;obtain⟨c1,h1⟩:=cy (PySem.mem_of_lookup e1);obtain⟨c2,h2⟩:=eB h1;have e2:(cellsFrom (s2.heap.objs.size+1+1) scope.names []++aN scope.names X.env.cells []).lookup x=some c:=e2;rw[List.lookup_append,h2]at e2;cases e2;have a1:=(aG (bw h2)).2;exact KB (Lo _ 2) a1
  ·exact⟨KH (Nat.lt_succ_of_lt (L1 b hb)),λx c e=>cne b hb x c e⟩
  ·rcases (f2 b hb).2.2.2.1 with z|z
   ·exact I2.ok.noex b o e z
   ·exact absurd (Kv (Kw e) (KB I2.ok.bsz z)) (K5 _)
  ·rcases Kq.mp (I2.stkSub b hm) with z|z
   ·exact (f2 b hb).2.1 z
   ·exact (f2 b hb).2.2.1 z
 have I3:Inv Xc [] (jv js Z) (upd H2 s2.heap.objs.size (.lst [])) {s2 with heap:=Nx}:=by
  refine⟨SD,rfl,I2.bare,Un.laid keep (Km _) RB,⟨_,O4,λi x v e1 e2 e3=>?_⟩,λx c e=>?_,?_,λx c e=>?_,λp hp=>?_,?_,?_⟩
  ·have e2:(js.map λo=>o.bind λj=>(Z[j]?).bind id)[i]?=some (some v):=e2
   rw[Kt]at e2;cases q:js[i]? with
   |none=>rw[q]at e2;cases e2
   |some o=>
    rw[q]at e2;cases o with
    |none=>cases e2
    |some j=>
     obtain⟨a1,a2,a3⟩:=O.fr i x j e1 q;have hv:Z[j]?=some (some v):=by
      cases z:Z[j]? with
      |none=>rw[Option.map_some,Option.bind_some,z]at e2;cases e2
      |some y=>
       rw[Option.map_some,Option.bind_some,z]at e2;rw[show y=some v from KA e2]
     obtain⟨m,hn,hl⟩:=I2.loc;obtain⟨u,r,l⟩:=hl j x v a1 hv (.inr (.inl a3));refine⟨u,r,?_⟩;rcases l with ⟨k,_⟩|⟨k,c,e,o,ho,hd⟩
     ·rw[show X.env.kindOf x=some .cell from a3]at k;cases k
     ·have only:∀y∈scope.names,y.1=x->y.2=.free:=λy hy QD=>?_
      ·refine .inr ⟨.inl (gQ I2.ok.kind a3 a2 only),c,eW (KI _ (bw (pI a2 e))) (λp hp hx=>?_),o,keep _ _ ho,hd⟩
       rcases KD.mp hp with z|z
       ·have:=only _ (aG z).1 hx;cases this
       ·have z:=bN (acc:=[]) (λp hp=>nomatch hp) p z
        rw[hx,e]at z;exact (KA z).symm
      obtain⟨i1,h1,PZ⟩:=List.mem_iff_getElem.mp hy;obtain⟨i2,h2,O9⟩:=List.mem_iff_getElem.mp a2;have:i1=i2:=by
       refine (List.getElem_inj (h₀:=by rw[Kr];exact h1) (h₁:=by rw[Kr];exact h2) O.ndn).mp ?_
       rw[List.getElem_map,List.getElem_map,PZ,O9];exact QD
      subst this;rw[PZ]at O9;rw[O9]
  ·rcases lk x c e with z|z
   ·exact⟨none,(PY.empty x c z).1⟩
   ·obtain⟨v,o,ho,hd⟩:=I2.cell x c z;exact⟨v,o,keep _ _ ho,hd⟩
  ·show upd H2 _ _ (s2.heap.objs.size+1)=none;rw[ah SA];exact Sz
  ·rcases lk x c e with z|z
   ·have a1:=(aG z).2;rw[ah (Nat.ne_of_gt (Kv (Nat.lt_add_of_pos_right (by decide:0<2)) a1))]
    exact I2.j_.fresh (KB (Lo _ 2) a1)
   ·have a2:=old _ _ z;rw[ah (KH a2)];exact I2.freeC x c z
  ·have hp:p∈X.pn++a_:=by rw[KZ]at hp;exact hp
   obtain⟨e,n,ne,nf,d⟩:=I2.pin p hp;refine⟨keep _ _ e,by rw[ah (KH (Kw e))];exact n,KH (Nat.lt_succ_of_lt (Kw e)),λhm=>?_,d⟩
   rcases Kq.mp (I2.stkSub _ hm) with z|z
   ·exact ne z
   ·exact nf z
  ·exact I2.j_.laid keep (Km _) ⟨Nat.zero_le _,[],0,.nil,RA⟩
  ·show (js.map _).length=N.length;rw[Kr,O.len]
 have QE:∀{H':Hp},(∀b∈fp,H' b=none)->∀b∈fp,fK Xc [] H' b:=λ{H'} hn b hb=>by
  refine⟨hn b hb,KH (Nat.lt_succ_of_lt (L1 b hb)),λhm=>?_,.inl hb,λx c e=>cne b hb x c e,λp hp=>(f2 b hb).2.2.2.2.2 p (by rw[KZ]at hp;exact hp)⟩
  rcases Kq.mp (I2.stkSub b hm) with z|z
  ·exact (f2 b hb).2.1 z
  ·exact (f2 b hb).2.2.1 z
 have OY:tn 0 Nx:=T.keep 0 _ _ PN λb hb o e=>keep b o e
 have PQ:∀b∈fp,(upd H2 s2.heap.objs.size (.lst [])) b=none:=λb hb=>by
  rw[ah (KH (L1 b hb))];exact (f2 b hb).1
 have PH:codeAny (model X.prog X.w) X.A (.compLoop (.ListComp A_ [⟨tg,iter,ifs,0⟩] scope pos) 0 (.ref it) (.ref s2.heap.objs.size) (compEnvC scope (cellsFrom (s2.heap.objs.size+1+1) scope.names []++aN scope.names X.env.cells []) (s2.heap.objs.size+1) X.env))
   (compPost (model X.prog X.w) X.A X.xe use Qf (.ref s2.heap.objs.size) (s2.heap.objs.size+1)) {s2 with heap:=Nx}:=by
  refine uy (λn s'=>∃i L0 H',Inv Xc [] L0 H' s'/\tn i s'.heap/\(∀b∈fp,H' b=none)/\W i n L0 H') ?_ m0 ⟨0,_,_,I3,OY,PQ,w0⟩
  rintro n s4 ⟨i,L0,H4,I4,RC,RD,w4⟩;rcases nQ i n L0 H4 w4 with ⟨stop,q⟩|⟨go,step⟩
  ·refine thn (T.done Xc rfl rfl rfl B_ i [] s4 L0 H4 (λ_ _=>False) I4 (QE RD) RC stop) λr s5 ⟨hr,I5⟩=>?_
   subst hr;obtain⟨m5,SE,_⟩:=I5.loc;have Oa:Un (frs X.stack) fp H2 H4 s2.heap s5.heap:=I5.base;have NL:∀b o,s2.heap.get? b=some o->b≠s2.heap.objs.size+1:=λb o e=>KH (Nat.lt_succ_of_lt (Kw e))
   have fC:H4 (s2.heap.objs.size+1)=none:=I5.free;refine fin _ _ _ H4 m5 SE (I2.fpOk (Ln _) fC) (λh' Me=>?_) q
   refine I2.call' I5.os ⟨λb o q n hb hx=>(Me.2 b (NL b o q)).trans (Oa.keep b o q n hb hx),λb o q n hb hx=>?_,Oa.free,λb o q hx=>?_,Oa.tups,Oa.LG,Oa.LP⟩ ?_ I5.bare (λb hb=>⟨(f2 b hb).2.2.2.1,(f2 b hb).2.1,(f2 b hb).2.2.2.2.1,(f2 b hb).2.2.2.2.2⟩)
   ·obtain⟨sl,z⟩:=Oa.slot b o q n hb hx;exact⟨sl,(Me.2 b (NL b o q)).trans z⟩
   ·obtain⟨o',z⟩:=Oa.there b o q hx;exact⟨o',(Me.2 b (NL b o q)).trans z⟩
   ·exact I5.j_.keptT λb u ob hb q=>(Me.2 b λz=>by rw[z,fC]at hb;cases hb).trans q
  ·refine thn (T.item Xc rfl rfl rfl B_ i [] s4 L0 H4 (λ_ _=>False) I4 (QE RD) RC go) λr s5 z_=>?_
   obtain⟨u,hr,h5⟩:=z_;subst hr;refine thn h5 λ_ s6 z_=>?_
   obtain⟨x,H6,I6,r6,y6,QF,SF⟩:=z_;have SG:=I6.pinned (QE SF) (T.obj _ _ QF);refine thn (hg _ _ _ _ _ _ s6 L0 H6 x u _ SG r6 (step x H6 y6)) λ_ s7 z_=>?_
   obtain⟨Mn,H7,I7,q7⟩:=z_;refine thn (ht _ _ _ _ _ _ s7 Mn H7 _ I7 q7) λok s8 z_=>?_
   obtain⟨H8,I8,q8⟩:=z_;have b_:∀{H9:Hp}{s9:Shared}{QG:St},Inv Xc ([]++kC fp s6.heap) QG H9 s9->Inv Xc [] QG H9 s9/\tn (i+1) s9.heap/\∀b∈fp,H9 b=none:=λ{H9 s9 QG} I9=>by
    refine⟨I9.unpinned,T.keep _ _ _ QF λb hb o e=>(I9.pin (b,o) (KI _ (KI _ (d5 hb e)))).1,λb hb=>?_⟩
    obtain⟨o,e,d⟩:=T.obj _ _ QF b hb;exact (I9.pin (b,o) (KI _ (KI _ (d5 hb e)))).2.1
   cases ok with
   |false=>
    obtain⟨m',hm,w8⟩:=q8;obtain⟨b1,b2,b3⟩:=b_ I8;exact⟨m',hm,i+1,Mn,H8,b1,b2,b3,w8⟩
   |true=>
    refine thn (he _ _ _ _ _ _ s8 Mn H8 _ I8 q8) λy s9 z_=>?_
    obtain⟨z,H9,I9,r9,ys,e9,hl,m',hm,w9⟩:=z_;refine thn (lU _ s9 Mn H9 (.ref s2.heap.objs.size) [z] (.ref s2.heap.objs.size) [y] (λ_ RE=>RE=upd H9 s2.heap.objs.size (.lst (ys++[z]))) I9 rfl (.cons r9 .nil) ⟨_,ys,z,rfl,rfl,e9,hl,rfl⟩) λ_ Ug z_=>?_
    obtain⟨_,RE,SH,_,SI⟩:=z_;subst SI;obtain⟨b1,b2,b3⟩:=b_ SH;exact⟨m',hm,i+1,Mn,_,b1,b2,b3,w9⟩
 exact codeAny_compStart_list PH (T.self _ 0 _ _ _ OY PH)
theorem rS(j_:dg N js scope X.env.scope X.N=true)(B_:X.calm=true)(hi:PI X tg iter wi)
  (hg:∀C s2 H2 fp pn,PG (compCx X scope C N s2 H2 fp pn) tg g) (ht:∀C s2 H2 fp pn,PIf (compCx X scope C N s2 H2 fp pn) ifs tt) (he:∀C s2 H2 fp pn,PE (compCx X scope C N s2 H2 fp pn) A_ te)
  (hs:∀x,foldedSetIterable iter X.env x=pure x:=by intro _;rfl):PE X (.ListComp A_ [⟨tg,iter,ifs,0⟩] scope pos) (sW js wi g tt te):=λa_ s Z H Q I h=>by
 exact oq j_ B_ hi hg ht he hs I h λD C s5 H4 m5 hn _ key q=>⟨m5,hn,λh' NS=>⟨.ref D,H4,key h' NS,rfl,q⟩⟩
theorem kg{L3:Pos}(hN:X.N.Nodup)(hy:X.N[i]?=some y)(hl:X.env.scope.names.lookup y=some .local)(j_:dg N js scope X.env.scope X.N=true)(B_:X.calm=true)(hi:PI X tg iter wi)
  (hg:∀C s2 H2 fp pn,PG (compCx X scope C N s2 H2 fp pn) tg g) (ht:∀C s2 H2 fp pn,PIf (compCx X scope C N s2 H2 fp pn) ifs tt) (he:∀C s2 H2 fp pn,PE (compCx X scope C N s2 H2 fp pn) A_ te)
  (hs:∀x,foldedSetIterable iter X.env x=pure x) (Ob:swapsWith (.ListComp A_ [⟨tg,iter,ifs,0⟩] scope pos) (some (.Name y py)) L3.line X.env=pure true) :
  PS X (.Assign [.Name y py] (.ListComp A_ [⟨tg,iter,ifs,0⟩] scope pos) L3) (Co (sW js wi g tt te) (rD i)):=by
 intro a_ s Z H D I h;rw[exec_Assign_Name_used _ _ _ _ Ob];refine Kf (wpAny_standAt (Kf ?_));refine Kf (Lh (oq j_ B_ hi hg ht he hs I h λDa C s5 H4 m5 hn fp key q=>?_) (λ_ s' hq=>Kh (Kh hq)) λ_ _ z=>z)
 have J:Inv X a_ Z H4 s5:=key s5.heap (Heap.SameBut.refl _ _);obtain⟨oC,es,ep,eC,rC⟩:=id hn;obtain⟨f0,f1,f2,f3,f4,f5⟩:=id fp;have JC:Inv X (a_++[(C,oC)]) Z H4 s5:=J.pins_of λp hp=>by
  rcases KD.mp hp with z|z
  ·exact J.pin p (KI _ z)
  ·have e:p=(C,oC):=by simpa using z
   subst e;exact⟨eC,f0,f1,f2,λv hv=>by
    have z:=rC.1;rw[show oC.data=.cell v from hv]at z;cases z⟩
 refine thn ((jr hN hy (.inl hl) (.inr hl)) _ s5 Z H4 (.ref Da) (.ref Da) (λl_ H'=>H'=H4/\D.nx l_ H') JC rfl ⟨rfl,q⟩) λ_ s6 z_=>?_
 obtain⟨Mh,H6,I6,e6,q6⟩:=z_;subst e6;have SJ:s6.heap.get? C=some oC:=(I6.pin (C,oC) (KI _ (KI _ (by simp)))).1
 refine⟨m5,hn.at' λo e=>?_,λh' Me=>⟨Mh,H6,?_,q6⟩⟩
 ·rw[eC]at e;cases e;exact SJ
 ·exact (Inv.unpinned I6).turned (λb o hb e=>(Me.2 b hb).trans e) f0 f1 f3 f4 f5
end
end L2
namespace L2
open PySem PySem.Spec PySem.Calls PyProof.Rows PySem.W PySem.Builtin PySem.Builtin.ObjectAttr PySem.Builtin.Getset_descriptor
section
variable {h:Heap}{os:OsState}{o:Obj}{K:Lr}
variable (Uh:findIn K (.ref C) "__getattribute__"=some (some (.builtin "BaseException.__getattribute__"))) (Ui:findIn K (.ref C) "__getattr__"=some none) (RF:findIn K (.ref C) "__class__"=some (some (.builtin "object.__class__")))
 (hn:specialIn K (.builtin "object.__class__") "__get__"=some (some (.builtin "getset_descriptor.__get__"))) (SK:takesIn K (.builtin "object.__class__")=some true) (hm:mroIn K C (.type "object")=some true) (Uj:mroIn K C (.type "BaseException")=some true)
end
structure ExcI (K:Lr)(C:Addr):Prop where
 hd:PySem.W.hasDictIn K C=true
 ga:findIn K (.ref C) "__getattribute__"=some (some (.builtin "BaseException.__getattribute__"))
 gn:findIn K (.ref C) "__getattr__"=some none
 cl:findIn K (.ref C) "__class__"=some (some (.builtin "object.__class__"))
 n:specialIn K (.builtin "object.__class__") "__get__"=some (some (.builtin "getset_descriptor.__get__"))
 tk:takesIn K (.builtin "object.__class__")=some true
 m:mroIn K C (.type "object")=some true
 mB:mroIn K C (.type "BaseException")=some true
end L2
namespace L2
open PySem PySem.Spec PySem.Calls PyProof.Rows PySem.W PySem.Builtin PySem.Builtin.ObjectAttr
section
variable {h:Heap}{os:OsState}{o:Obj}{K:Lr}
end
end L2
namespace L2
open PySem PySem.Spec PySem.Calls PyProof.Rows PySem.W
section
variable {α β:Type}{n:Nat}{f:Nat->Nat->Bool}{p:Array Nat}
def iw(n:Nat)(f:Nat->Nat->Bool)(P:α->Prop):KasT α->Prop
 |.ret a=>P a
 |.ask i j k=>i<n/\j<n/\iw n f P (k (f i j))
theorem cC{g:α->KasT β}{P:β->Prop}:∀{t:KasT α},iw n f (λa=>iw n f P (g a)) t->iw n f P (t.bind g)
 |.ret _,h=>h
 |.ask _ _ _,h=>⟨h.1,h.2.1,cC h.2.2⟩
theorem bo{P P':α->Prop}(hq:∀a,P a->P' a):∀{t:KasT α},iw n f P t->iw n f P' t
 |.ret _,h=>hq _ h
 |.ask _ _ _,h=>⟨h.1,h.2.1,bo hq h.2.2⟩
theorem pi{P:α->Prop}{cmp}{Q:α->Shared->Prop}{s:Shared}(hc:∀i j C,i<n->j<n->C (f i j) s->cmp i j C s)(hq:∀a,P a->Q a s):∀{t:KasT α},iw n f P t->t.kasWp cmp Q s
 |.ret _,h=>hq _ h
 |.ask i j k,h=>hc i j _ h.1 h.2.1 (pi hc hq h.2.2)
structure Ordr (n:Nat)(f:Nat->Nat->Bool):Prop where
 tr:∀{i j k},f i j=true->f j k=true->f i k=true
 as:∀{i j},f i j=true->f j i=false
 tot:∀{i j},i<n->j<n->i≠j->f i j=false->f j i=true
abbrev Pm(n:Nat)(p:Array Nat):Prop:=p.toList.Perm (List.range n)
theorem Pm.sz(h:Pm n p):p.size=n:=by have:=h.length_eq;simpa using this
theorem Pm.lt(h:Pm n p){i:Nat}(hi:i<n):p.getD i 0<n:=by
 have hs:=h.sz;have:p.getD i 0∈p.toList:=by simp[Array.getD,show i<p.size by omega]
 exact List.mem_range.mp (h.mem_iff.mp this)
theorem Pm.inj(h:Pm n p){i j:Nat}(hi:i<n)(hj:j<n)(e:i≠j):p.getD i 0≠p.getD j 0:=λz=>by
 have hs:=h.sz;have nd:p.toList.Nodup:=h.nodup_iff.mpr List.nodup_range;refine e ((List.getElem?_inj (by simpa [hs] using hi) nd).mp ?_)
 simpa [Array.getD,show i<p.size by omega,show j<p.size by omega] using z
abbrev Up(f:Nat->Nat->Bool)(p:Array Nat)(m:Nat):Prop:=∀i j,i<j->j<m->f (p.getD i 0) (p.getD j 0)=true
abbrev Dn(f:Nat->Nat->Bool)(p:Array Nat)(m:Nat):Prop:=∀i j,i<j->j<m->f (p.getD j 0) (p.getD i 0)=true
theorem wc(O:Ordr n f)(hp:Pm n p):∀(u m:Nat),1<=m->m+u=n->Up f p m->iw n f (λm'=>m<=m'/\m'<=n/\Up f p m'/\(m' < n->f (p.getD m' 0) (p.getD (m' - 1) 0)=true)) (kas_asc p u m)
 |0,m,h1,hm,h=>⟨Km _,by omega,h,λz=>by omega⟩
 |u+1,m,h1,hm,h=>by
  refine⟨hp.lt (by omega),hp.lt (by omega),?_⟩
  cases c:f (p.getD m 0) (p.getD (m-1) 0) with
  |true=>exact⟨Km _,by omega,h,λ_=>c⟩
  |false=>
   have c':=O.tot (hp.lt (by omega)) (hp.lt (by omega)) (hp.inj (by omega) (by omega) (by omega)) c
   exact bo (λ_ z=>⟨by omega,z.2⟩) (wc O hp u (m+1) (by omega) (by omega) λi j hi hj=>by
    by_cases e:j<m
    ·exact h i j hi e
    ·obtain rfl:j=m:=by omega
     by_cases e2:i=j-1
     ·rw[e2];exact c'
     ·exact O.tr (h i (j-1) (by omega) (by omega)) c')
theorem vS(O:Ordr n f)(hp:Pm n p):∀(u m:Nat),1<=m->m+u=n->Dn f p m->iw n f (λr=>r.1=p/\m<=r.2.1/\r.2.1<=n/\r.2.2=0/\Dn f p r.2.1) (kas_desc u p m 0)
 |0,m,h1,hm,h=>⟨rfl,Km _,by show m<=n;omega,rfl,h⟩
 |u+1,m,h1,hm,h=>by
  refine⟨hp.lt (by omega),hp.lt (by omega),?_⟩
  cases c:f (p.getD m 0) (p.getD (m-1) 0) with
  |true=>
   exact bo (λ_ z=>⟨z.1,by omega,z.2.2⟩) (vS O hp u (m+1) (by omega) (by omega) λi j hi hj=>by
    by_cases e:j<m
    ·exact h i j hi e
    ·obtain rfl:j=m:=by omega
     by_cases e2:i=j-1
     ·rw[e2];exact c
     ·exact O.tr c (h i (j-1) (by omega) (by omega)))
  |false=>
   have c':=O.tot (hp.lt (by omega)) (hp.lt (by omega)) (hp.inj (by omega) (by omega) (by omega)) c
   refine⟨hp.lt (by omega),hp.lt (by omega),?_⟩
   rw[c'];exact⟨rfl,Km _,by show m<=n;omega,rfl,h⟩
theorem jn{q:Array Nat}{i j:Nat}(h:q[i]?=p[j]?):q.getD i 0=p.getD j 0:=by
 rw[Array.getD_eq_getD_getElem?,Array.getD_eq_getD_getElem?,h]
theorem zd(O:Ordr n f)(hp:Pm n p)(h2:2<=n):iw n f (λr=>1<=r.1/\r.1<=n/\Pm n r.2/\Up f r.2 r.1) (kas_count n p):=by
 refine cC (bo (λm hm=>?_) (wc O hp (n-1) 1 (Km _) (by omega) λi j hi hj=>by omega))
 obtain⟨h1,hn,hu,hl⟩:=hm;by_cases e:m=n
 ·simp only[e,beq_self_eq_true,if_true];exact⟨by show 1<=n;omega,Km _,hp,e▸hu⟩
 ·have e':(m == n)=false:=by simpa using e
  simp only[e',KY,if_false];by_cases e2:m > 1
  ·rw[Kp e2];refine⟨hp.lt (by omega),hp.lt (by omega),?_⟩
   rw[hu 0 (m-1) (by omega) (by omega)]
   exact⟨h1,hn,hp,hu⟩
  ·obtain rfl:m=1:=by omega
   rw[Kj e2];have hl:=hl (by omega)
   refine cC (bo (λr hr=>?_) (vS O hp (n-2) 2 (by omega) (by omega) λi j hi hj=>by
    obtain rfl:i=0:=by omega
    obtain rfl:j=1:=by omega
    exact hl))
   obtain⟨q,m,z⟩:=r;obtain⟨rfl,a1,a2,a3,a4⟩:=hr;simp only at a1 a2 a3 a4;subst a3;simp only[K5,gt_iff_lt,if_false];have hq:Pm n (kas_rev q 0 m):=(mirror_perm q 0 m _).toList.trans hp;have hs:=hp.sz;have ge:∀i,i<m->(kas_rev q 0 m).getD i 0=q.getD (m-1-i) 0:=λi hi=>jn (by
    unfold kas_rev;rw[getElem?_mirror_all (show m<=q.size from hs▸a2),Kp ⟨Nat.zero_le _,hi⟩];congr 1;omega)
   refine cC (bo (λm' hm=>?_) (wc O hq (n-m) m (by omega) (by omega) λi j hi hj=>by
    rw[ge i (by omega),ge j hj]
    exact a4 _ _ (by omega) (by omega)))
   exact⟨by show 1<=m';omega,hm.2.1,hq,hm.2.2.1⟩
theorem nZ(O:Ordr n f)(hp:Pm n p){k:Nat}(hk:k<n)(hu:Up f p k):∀(u l r:Nat),r<=k->l<=r->r-l<=u->(∀i,i<l->f (p.getD i 0) (p.getD k 0)=true)->(∀i,r<=i->i<k->f (p.getD k 0) (p.getD i 0)=true)->
  iw n f (λl'=>l'<=k/\(∀i,i<l'->f (p.getD i 0) (p.getD k 0)=true)/\∀i,l'<=i->i<k->f (p.getD k 0) (p.getD i 0)=true) (kas_place p k u l r)
 |0,l,r,h1,h2,h3,h4,h5=>by
  obtain rfl:l=r:=by omega
  exact⟨h1,h4,h5⟩
 |u+1,l,r,h1,h2,h3,h4,h5=>by
  unfold kas_place;by_cases e:l>=r
  ·rw[Kp e];obtain rfl:l=r:=by omega
   exact⟨h1,h4,h5⟩
  ·rw[Kj e];have hm:(l+r) / 2<k:=by omega
   refine⟨hp.lt hk,hp.lt (by omega),?_⟩
   cases c:f (p.getD k 0) (p.getD ((l+r) / 2) 0) with
   |true=>
    refine nZ O hp hk hu u l _ (by omega) (by omega) (by omega) h4 λi hi SM=>?_
    by_cases e2:i=(l+r) / 2
    ·rw[e2];exact c
    ·exact O.tr c (hu _ _ (by omega) SM)
   |false=>
    have c':=O.tot (hp.lt hk) (hp.lt (by omega)) (hp.inj hk (by omega) (by omega)) c
    refine nZ O hp hk hu u _ r h1 (by omega) (by omega) (λi hi=>?_) h5
    by_cases e2:i=(l+r) / 2
    ·rw[e2];exact c'
    ·exact O.tr (hu _ _ (by omega) hm) c'
theorem Aq(O:Ordr n f):∀(u k:Nat)(p:Array Nat),k+u=n->Pm n p->Up f p k->iw n f (λp=>Pm n p/\Up f p n) (kas_bin u p k)
 |0,k,p,hk,hp,hu=>by
  cases (show k=n by omega);exact⟨hp,hu⟩
 |u+1,k,p,hk,hp,hu=>by
  have hs:=hp.sz;refine cC (bo (λl hl=>?_) (nZ O hp (by omega) hu k 0 k (Km _) (Nat.zero_le _) (by omega) (λi hi=>by omega) λi hi hk=>by omega))
  obtain⟨l1,l2,l3⟩:=hl;refine Aq O u (k+1) _ (by omega) ((bubble_perm p k _).toList.trans hp) λi j hi hj=>?_
  have ge:∀i,i<k+1->((bubble p k (k-l)).getD i 0=p.getD k 0/\i=l)\/((bubble p k (k-l)).getD i 0=p.getD (i-1) 0/\l<i)\/((bubble p k (k-l)).getD i 0=p.getD i 0/\i<l):=λi hi=>by
   have e:=getElem?_bubble (xs:=p) (src:=k) (by omega) (k-l) (by omega) i
   split at e
   ·exact .inl ⟨jn e,by omega⟩
   ·split at e
    ·exact .inr (.inl ⟨jn e,by omega⟩)
    ·exact .inr (.inr ⟨jn e,by omega⟩)
  rcases ge i (by omega) with ⟨e1,g1⟩|⟨e1,g1⟩|⟨e1,g1⟩<;>rcases ge j hj with ⟨e2,g2⟩|⟨e2,g2⟩|⟨e2,g2⟩<;>rw[e1,e2]
  ·omega
  ·exact l3 _ (by omega) (by omega)
  ·omega
  ·omega
  ·exact hu _ _ (by omega) (by omega)
  ·omega
  ·exact l2 _ g1
  ·by_cases z:i=j-1
   ·omega
   ·exact hu _ _ (by omega) (by omega)
  ·exact hu _ _ hi (by omega)
theorem CG(O:Ordr n f)(h2:2<=n):iw n f (λp=>Pm n p/\Up f p n) (kas_sort n):=by
 refine cC (bo (λr hr=>?_) (zd O (p:=(List.range n).toArray) (.refl _) h2))
 obtain⟨a1,a2,a3,a4⟩:=hr;by_cases e:r.1<n
 ·rw[Kp e,show max r.1 1=r.1 by omega]
  exact Aq O _ _ _ (by omega) a3 a4
 ·rw[Kj e];have:r.1=n:=by omega
  exact⟨a3,this▸a4⟩
end
def ltP(p q:Int×Int):Bool:=if p.1=q.1 then decide (p.2<q.2) else decide (p.1<q.1)
abbrev IP:=Int×Int
abbrev atP(ps:List IP)(i:Nat):IP:=ps.getD i (0,0)
theorem C6{a b c:IP}(h1:ltP a b=true)(h2:ltP b c=true):ltP a c=true:=by
 unfold ltP at *
 split at h1<;>split at h2<;>split<;>simp only[Ks]at *<;>omega
theorem vW{a b:IP}(h1:ltP a b=true):ltP b a=false:=by
 unfold ltP at *
 split at h1<;>split<;>simp only[Ks,decide_eq_false_iff_not]at *<;>omega
theorem yc{a b:IP}(hn:a≠b)(h1:ltP a b=false):ltP b a=true:=by
 have:¬ (a.1=b.1/\a.2=b.2):=λz=>hn (Prod.ext z.1 z.2)
 unfold ltP at *
 split at h1<;>split<;>simp only[Ks,decide_eq_false_iff_not]at *<;>omega
theorem CO{ps:List IP}(hd:ps.Nodup){i j:Nat}(hi:i<ps.length)(hj:j<ps.length)(e:atP ps i=atP ps j):i=j:=
 (List.getElem?_inj hi hd).mp (by simpa [hi,hj] using e)
theorem DJ{ps:List IP}(hd:ps.Nodup):Ordr ps.length λi j=>ltP (atP ps i) (atP ps j):=
 ⟨C6,vW,λhi hj e h=>yc (λz=>e (CO hd hi hj z)) h⟩
def rB(h:Heap)(v:Value)(p:IP):Prop:=∃t o m tx ty,v=.ref t/\h.get? t=some o/\o.cls=.type "tuple"/\o.data=.seq #[.int p.1 tx,.int p.2 ty] m
section
variable {s:Shared}
theorem xN{p q:IP}(hu:rB s.heap u p)(hv:rB s.heap v q)(h:Q (ltP p q) s):wpAny (model prog w) A (keyLt' (tuples' true) u v) Q E s:=by
 obtain⟨t,o,m,tx,ty,rfl,g,_,d⟩:=hu;obtain⟨t',o',m',SN,RG,rfl,g',_,d'⟩:=hv;refine kat_lt g d g' d' ?_;show KatLex prog w A true false Q [(.int p.1 tx,.int q.1 SN),(.int p.2 ty,.int q.2 RG)] 0 s;unfold ltP at h;refine kat_cons (wpAny_eqBool_int ?_);by_cases e:p.1=q.1
 ·rw[KG.mpr e];rw[Kp e]at h;refine kat_yes (kat_cons (wpAny_eqBool_int ?_));by_cases e2:p.2=q.2
  ·rw[KG.mpr e2];have:decide (p.2<q.2)=false:=KQ (by omega)
   rw[this]at h;exact kat_yes (kat_nil h)
  ·rw[KM.mpr e2];exact kat_no (kat_one _ _ (show wpAny _ _ (compareOp .Lt (.int p.2 ty) (.int q.2 RG)) _ _ _ from wpAny_lt_int h))
 ·rw[KM.mpr e];rw[Kj e]at h;exact kat_no (oneLt_int h)
def Pv(h:Heap):List Value->List IP->Prop
 |[],ps=>ps=[]
 |v::vs,ps=>∃p r,ps=p::r/\rB h v p/\Pv h vs r
theorem Pv.length:∀{vs:List Value}{ps:List IP},Pv h vs ps->vs.length=ps.length
 |[],_,e=>by rw[show _=[] from e];rfl
 |v::vs,_,e=>by obtain⟨p,r,rfl,_,t⟩:=e;rw[Ky,Ky,t.length]
theorem Pv.get:∀{vs:List Value}{ps:List IP}{i:Nat},Pv h vs ps->i<ps.length->rB h (vs.getD i .none) (ps.getD i (0,0))
 |[],_,i,e,hi=>by rw[e]at hi;simp at hi
 |v::vs,_,0,e,hi=>by obtain⟨p,r,rfl,a,t⟩:=e;simpa using a
 |v::vs,_,i+1,e,hi=>by
  obtain⟨p,r,rfl,a,t⟩:=e;simpa using t.get (i:=i) (by simpa using hi)
theorem Pv.keeps{h h':Heap}(k:∀b o,h.get? b=some o->o.cls=.type "tuple"->h'.get? b=some o):∀{vs:List Value}{ps:List IP},Pv h vs ps->Pv h' vs ps
 |[],_,e=>e
 |v::vs,_,e=>by
  obtain⟨p,r,rfl,⟨t,o,m,tx,ty,e1,g,c,d⟩,z⟩:=e;exact⟨p,r,rfl,⟨t,o,m,tx,ty,e1,k _ _ g c,c,d⟩,z.keeps k⟩
theorem Pv.tups:∀{vs:List Value}{ps:List IP},Pv h vs ps->∃fs,KatTups h vs fs/\fs.length=ps.length/\∀v∈fs,∃x t,v=Value.int x t
 |[],_,e=>by rw[e];exact⟨[],KatTups.nil,rfl,λ_ h=>nomatch h⟩
 |v::vs,_,e=>by
  obtain⟨p,r,rfl,⟨t,o,m,tx,ty,rfl,g,c,d⟩,z⟩:=e;obtain⟨fs,a,b,c'⟩:=z.tups;exact⟨.int p.1 tx::fs,KatTups.cons g c d rfl a,by rw[Ky,Ky,b],λv hv=>(Kq.mp hv).elim (λe=>⟨_,_,e⟩) (c' v)⟩
def cR(vs:List Value)(is:List Nat):List Value:=is.map λi=>vs.getD i .none
def SoI(ps:List IP)(is:List Nat):Prop:=is.Perm (List.range ps.length)/\(is.map (atP ps)).Pairwise λa b=>ltP a b=true
theorem B5{ps:List IP}{p:Array Nat}(h1:Pm ps.length p)(h2:Up (λi j=>ltP (atP ps i) (atP ps j)) p ps.length):SoI ps p.toList:=by
 refine⟨h1,List.pairwise_iff_getElem.mpr λi j hi hj P0=>?_⟩
 have hs:=h1.sz;simp at hi hj;have:=h2 i j P0 (by omega)
 simpa [Array.getD,hi,hj] using this
theorem qy{vs:List Value}{ps:List IP}(ho:s.heap.get? a=some (seqObj "list" vs.toArray n))(hv:Pv s.heap vs ps)(h5:ps.length<64)(hd:ps.Nodup)
  (h:∀is:List Nat,SoI ps is->P (.done (.ret .none)) {s with heap:=sortedHeap s.heap a vs (cR vs is).toArray}):wpAny (model prog w) A (Builtin.«list.sort» ⟨[.ref a],[]⟩) P E s:=by
 have hl:=hv.length;have ha:a<s.heap.objs.size:=Kw ho;rw[list_sort_plain];refine Kf (listItems_at ho rfl (Kf (listUpdate_at ho rfl ?_ (by rw[Kx,sizeLine_eq];omega) (Nat.zero_le _))))
 obtain⟨e1,RH⟩:∃e1,(s.heap.update a (Obj.mapSeq λ_=>(#[]:Array Value))).get? a=some (seqObj "list" #[] e1):=⟨_,get?_update_seq ho λ_=>#[]⟩
 refine Kf (seqEpoch_at RH rfl (Kf (wpAny_newTuple ?_ (by show vs.length<=_;rw[sizeLine_eq];omega))))
 refine Kf (wpAny_newList (K0 ?_) (Nat.zero_le _));show wpAny (model prog w) A _ P E {s with heap:=((s.heap.update a (Obj.mapSeq λ_=>(#[]:Array Value))).push (seqObj "tuple" vs.toArray 0)).push (seqObj "list" #[] 0)}
 dsimp only;have kp:∀b o,s.heap.get? b=some o->o.cls=.type "tuple"->(((s.heap.update a (Obj.mapSeq λ_=>(#[]:Array Value))).push (seqObj "tuple" vs.toArray 0)).push (seqObj "list" #[] 0)).get? b=some o:=λb o g c=>by
  have nb:b≠a:=λz=>by subst z;rw[ho]at g;cases g;exact absurd c (by simp[seqObj])
  exact Kk _ (Kk _ ((KK _ _ (Kz nb)).trans g))
 have O_:(((s.heap.update a (Obj.mapSeq λ_=>(#[]:Array Value))).push (seqObj "tuple" vs.toArray 0)).push (seqObj "list" #[] 0)).get? a=some (seqObj "list" #[] e1):=Kk _ (Kk _ RH)
 have P6:=hv.keeps kp;generalize hH:((s.heap.update a (Obj.mapSeq λ_=>(#[]:Array Value))).push (seqObj "tuple" vs.toArray 0)).push (seqObj "list" #[] 0)=H6 at O_ P6 ⊢
 have hq:∀is,SoI ps is->P (.done (.ret .none)) {s with heap:=H6.update a (Obj.mapSeq λ_=>(cR vs is).toArray)}:=by rw[<-hH];exact h
 have lz:∀is,SoI ps is->(cR vs is).length=ps.length:=λis hi=>by unfold cR;rw[Kr,hi.1.length_eq,List.length_range]
 by_cases h2:vs.toArray.size<2
 ·rw[Kp h2,Kp h2];refine Kf (Kh ?_);rw[StateT.run_pure];refine Kf (Kh ?_);dsimp only;rw[Kx]at h2;have so:SoI ps (List.range ps.length):=⟨.refl _,List.pairwise_iff_getElem.mpr λi j hi hj P0=>by simp at hj;omega⟩
  have PF:(arrOf (SortSt.mk' general' (vs.toArray.zip vs.toArray) #[] 7 none)).map (·.2)=(cR vs (List.range ps.length)).toArray:=by
   show (vs.toArray.zip vs.toArray).map (·.2)=_;unfold cR;cases vs with
   |nil=>
    rw[<-hl];simp
   |cons v r=>
    cases r with
    |nil=>
     rw[<-hl];simp
    |cons v2 r=>exact absurd h2 (by simp)
  rw[PF];refine Kf (seqEpoch_at (s:={s with heap:=H6}) O_ rfl (Kf (listUpdate_at (s:={s with heap:=H6}) O_ rfl ?_ (Nat.zero_le _) (by rw[Kx,lz _ so,sizeLine_eq];omega))))
  simp only[bne_self_eq_false,KY,if_false];exact Kh (hq _ so)
 ·rw[Kj h2,Kj h2];rw[Kx]at h2;obtain⟨fs,ft,fl,QH⟩:=P6.tups;refine Kf (kat_kind (s:={s with heap:=H6}) (T:=.type "int") ft (by omega) (λv hv=>?_) (by decide) ?_)
  ·obtain⟨x,t,rfl⟩:=QH v hv;exact .now
  have Oc:∀(i j:Nat)(C:Bool->Shared->Prop),i<ps.length->j<ps.length->C (ltP (atP ps i) (atP ps j)) {s with heap:=H6}->kas_ask prog w A (tuples' (Value.type "int" != Value.type "tuple")) vs i j C {s with heap:=H6}:=λi j C hi hj q=>
   xN (s:={s with heap:=H6}) (P6.get hi) (P6.get hj) q
  refine Kf (Lh (kat_run (Q:=λMB s'=>∃p:Array Nat,arrOf MB=p.map (kas_item (vs.toArray.zip vs.toArray))/\failedOf MB=none/\SoI ps p.toList/\s'={s with heap:=H6}) (G:=λp s'=>SoI ps p.toList/\s'={s with heap:=H6})
   rfl (by omega) (by omega) (λp' MB s' a1 a2 a3 a4=>⟨p',a2,a3,a4.1,a4.2⟩) ?_) ?_ λ_ _ e=>e)
  ·rw[hl];exact pi Oc (λp hp=>⟨B5 hp.1 hp.2,rfl⟩) (CG (DJ hd) (by omega))
  ·rintro⟨⟨⟩,MB⟩ s' ⟨p,SO,hf,hp,rfl⟩;dsimp only;have PF:(arrOf MB).map (·.2)=(cR vs p.toList).toArray:=kat_snds rfl SO;rw[PF];refine Kf (seqEpoch_at (s:={s with heap:=H6}) O_ rfl (Kf (listUpdate_at (s:={s with heap:=H6}) O_ rfl ?_ (Nat.zero_le _) (by rw[Kx,lz _ hp,sizeLine_eq];omega))))
   rw[hf];simp only[bne_self_eq_false,KY,if_false];exact Kh (hq _ hp)
end
end L2
namespace L2
open PySem PySem.Spec PySem.Calls PyProof.Rows PySem.W
open AutoSeq1 (wpAny_loadPart')
open MeetsSeq MeetsSeq2 MeetsSeq3
section
variable {A:Around}{s:Shared}
end
end L2
namespace L2
open PySem PySem.Spec PyProof.Rows
section
variable {A:Around}{s:Shared}{St:Nat->Heap->Prop}{xs:Array (Int×Tok)}
end
end L2
namespace L2
open PySem PySem.Spec PySem.Calls PyProof.Rows PySem.W
open AutoSeq1 (wpAny_loadPart')
def lt2(p q:Int×Int):Bool:=if p.1=q.1 then decide (p.2<q.2) else decide (p.1<q.1)
def P2(h:Heap)(v:Value)(p:Int×Int):Prop:=∃a n t u dd sl,v=.ref a/\h.get? a=some {cls:=.type "tuple",dict:=dd,data:=.seq #[.int p.1 t,.int p.2 u] n,slots:=sl}
theorem BJ(l b:Addr)(n m:Nat)(p q:Int×Int)(t1 t2 t3 t4:Tok)(dd Nj:Option Addr)(sl MQ:Array (Option Value)) :
  Meets (Builtin.«tuple.__lt__» ⟨[.ref l,.ref b],[]⟩)
   (λA R s=>s.heap.get? l=some {cls:=.type "tuple",dict:=dd,data:=.seq #[.int p.1 t1,.int p.2 t2] n,slots:=sl}/\s.heap.get? b=some {cls:=.type "tuple",dict:=Nj,data:=.seq #[.int q.1 t3,.int q.2 t4] m,slots:=MQ}/\
    R (.ok (.ret (.bool (lt2 p q)))) s):=by
 intro prog w A R s h;obtain⟨hp,g,d,tk,os⟩:=s;obtain⟨hl,hb,h⟩:=h;have f2:=AutoSeq1.sub_tuple_tuple
 wp_walk using wpAny_loadPart' hl,wpAny_loadPart' hb
 show wpAny _ _ (eqBool (.int p.1 t1) (.int q.1 t3)) _ _ _;refine wpAny_eqBool_int ?_;by_cases e:p.1=q.1
 ·rw[KG.mpr e];unfold lt2 at h;rw[Kp e]at h
  wp_walk
  show wpAny _ _ (eqBool (.int p.2 t2) (.int q.2 t4)) _ _ _;refine wpAny_eqBool_int ?_;by_cases e2:p.2=q.2
  ·rw[KG.mpr e2]
   wp_walk
   rw[e2]at h;simp only[Int.lt_irrefl,decide_false]at h;exact h
  ·rw[KM.mpr e2];simp only[Bool.not_false,if_true];refine Kf (wpAny_rule ?_);refine Kf (show wpAny _ _ (compareOp .Lt (.int p.2 t2) (.int q.2 t4)) _ _ _ from wpAny_lt_int ?_)
   wp_walk
   exact h
 ·rw[KM.mpr e];unfold lt2 at h;rw[Kj e]at h;simp only[Bool.not_false,if_true];refine Kf (wpAny_rule ?_);refine Kf (show wpAny _ _ (compareOp .Lt (.int p.1 t1) (.int q.1 t3)) _ _ _ from wpAny_lt_int ?_)
  wp_walk
  exact h
theorem EM{prog:Program}{w:World}{A:Around}{E:Value->Shared->Prop}{s:Shared}{u v:Value}{p q:Int×Int}{Q:Value->Shared->Prop}(hu:A.units<cLine)(h1:P2 s.heap u p)(h2:P2 s.heap v q)(h:Q (.bool (lt2 p q)) s):wpAny (model prog w) A (richCompare .Lt u v) Q E s:=by
 obtain⟨a,n,t1,t2,dd,sl,rfl,g1⟩:=h1;obtain⟨b,m,t3,t4,Nj,MQ,rfl,g2⟩:=h2;exact richCompare_meets_room (op:=.Lt) ⟨_,g1,rfl⟩ ⟨_,g2,rfl⟩ PySem.F.slot_tuple_lt PySem.F.entry_tuple_lt (PySem.F.args_tuple_lt_2 _ _) (BJ a b n m p q t1 t2 t3 t4 dd Nj sl MQ)
  ⟨g1,g2,show Value.bool (lt2 p q)≠Value.notImplemented/\Q (.bool (lt2 p q)) s from⟨(λx=>nomatch x),h⟩⟩ hu
section
variable {prog:Program}{w:World}{A:Around}{s:Shared}{St:Nat->Heap->Prop}{I l:Addr}{fp wr:List Addr}{n:Nat}{P:Nat->Value->Prop}{R:Result->Shared->Prop}{kw:List (Str×Value)}{Q:Value->Shared->Prop}{E:Value->Shared->Prop}
theorem zm{G:Heap->Prop}(W:Walks prog w A.in1 I fp wr n P St)(bt:Nat->Nat->Bool)(Oc:∀i j vi vj (s:Shared)(Q:Value->Shared->Prop)(E:Value->Shared->Prop),G s.heap->P i vi->P j vj->Q (.bool (bt i j)) s->wpAny (model prog w) A.in1 (richCompare .Lt vi vj) Q E s)(S:Addr)(OH:S∉fp)(hG:∀h h',G h->(∀b o,b∉wr->b≠S->h.get? b=some o->h'.get? b=some o)->G h') :
  ∀(k j:Nat)(s:Shared)(vb:Value)(c:Nat),n-(j+1)=k->j+1<=n->St (j+1) s.heap->G s.heap->P (argBest bt j) vb->s.heap.get? S=some {cls:=.type "list",dict:=none,data:=.seq #[vb,vb] c,slots:=#[]}->
  (∀v h' tk,P (argBest bt (n-1)) v->(∀b o,b∉wr->b≠S->s.heap.get? b=some o->h'.get? b=some o)->R (.ok (.ret v)) {s with heap:=h',toks:=tk})->
  codeAny (model prog w) A (.builtin "min.loop" ⟨[.ref I,.none,.ref S],kw⟩) R s:=by
 have P7:S∉wr:=λh=>OH (W.sub _ h)
 have L4:(toString "min"++toString ".loop" : String) = "min.loop":=by decide
 intro k
 induction k with
 |zero=>
  intro j s vb c hk hj MG hg P8 hS hR;have MV:j+1=n:=by omega
  refine codeAny_builtin F.entry_min_loop ?_;rw[Around.under_plainId F.plain_min_loop _];show wpAny _ A.in1 (seqItems? (.ref S) >>=_) _ _ s;refine Kf (wpAny_seqItems hS rfl ?_);show wpAny _ A.in1 (tryCatch (pyNext (.ref I)) _ >>=_) _ _ s;refine Kf (wpAny_tryCatch (W.done s _ _ (MV▸MG) λh' tk MI=>?_))
  have NU:=MI S _ P7 hS;show wpAny _ A.in1 (updateSeq S (λ_=>#[]) >>=_) _ _ _
  refine Kf (wpAny_updateSeq NU rfl (Kf (wpAny_letGo (Kh ?_))));exact hR vb _ tk (by rw[<-MV];exact P8) λb o Od OI e=>(KK _ _ (Kz OI)).trans (MI b o Od e)
 |succ k ih=>
  intro j s vb c hk hj MG hg P8 hS hR;have K_:j+1<n:=by omega
  refine codeAny_builtin F.entry_min_loop ?_;rw[Around.under_plainId F.plain_min_loop _];show wpAny _ A.in1 (seqItems? (.ref S) >>=_) _ _ s;refine Kf (wpAny_seqItems hS rfl ?_);show wpAny _ A.in1 (tryCatch (pyNext (.ref I)) _ >>=_) _ _ s;refine Kf (wpAny_tryCatch (W.item (j+1) s _ _ K_ MG λv h' tk hP Ny MI=>?_))
  have NU:=MI S _ P7 hS;show wpAny _ A.in1 (tryCatch (holding [v,v] (richCompare .Lt v vb >>=_)) _ >>=_) _ _ _;refine Kf (wpAny_tryCatch (K0 (Kf (Oc (j+1) (argBest bt j) v vb _ _ _ (hG _ _ hg λb o h1 _ h2=>MI b o h1 h2) hP P8 ?_))))
  refine Kf (K0 (KR (Kf (wpAny_letGo (Kh ?_)))));cases hb:bt (j+1) (argBest bt j) with
  |true=>
   simp only[if_true];refine Kf (wpAny_updateSeq NU rfl (Kf (wpAny_letGo ?_)));rw[L4];refine Kh ⟨plainId_quiet F.plain_min_loop _,ih (j+1) _ v _ (by omega) K_ (W.frame _ _ _ Ny λb Mx o e=>?_) (hG _ _ hg λb o h1 h2 h3=>(KK _ _ (Kz h2)).trans (MI b o h1 h3)) (by simp only[argBest,hb,if_true];exact hP) (K6 _ NU rfl) λv' Pa MX Pb MY=>?_⟩
   ·exact (KK _ _ (λh:S=b=>OH (by rw[h];exact Mx))).trans e
   ·exact hR v' Pa MX Pb λb o Od OI e=>MY b o Od OI ((KK _ _ (Kz OI)).trans (MI b o Od e))
  |false=>
   simp only[KY,if_false];refine Kf (wpAny_letGo ?_);rw[L4];refine Kh ⟨plainId_quiet F.plain_min_loop _,ih (j+1) _ vb c (by omega) K_ Ny (hG _ _ hg λb o h1 _ h3=>MI b o h1 h3) (by simp only[argBest,hb,KY,if_false];exact P8) NU λv' Pa MX Pb MY=>?_⟩
   exact hR v' Pa MX Pb λb o Od OI e=>MY b o Od OI (MI b o Od e)
theorem xV{items:Array Value}(hl:s.heap.IsList l items)(h:∀s2:Shared,s2={s with heap:=s.heap.push {cls:=.type "list_iterator",data:=.fields #[.ref l,.int 0 0]}}->(s2.heap.IsListIter s.heap.objs.size l 0/\s2.heap.IsList l items)->(∀b∈[s.heap.objs.size,l],b<s2.heap.objs.size)->l≠s.heap.objs.size->Q (.ref s.heap.objs.size) s2):wpAny (model prog w) A (pyIter (.ref l)) Q E s:=by
 have K_:l<s.heap.objs.size:=by obtain⟨_,e,_⟩:=hl;exact Kw e
 refine wpAny_pyIter_list hl (h _ rfl ⟨⟨_,Ko _ rfl,rfl,rfl⟩,hl.push _⟩ (λb hb=>?_) (KH K_))
 have e:(s.heap.push {cls:=.type "list_iterator",data:=.fields #[.ref l,.int 0 0]}).objs.size=s.heap.objs.size+1:=by simp[Heap.push]
 show b<(s.heap.push _).objs.size;rw[e];rcases Kq.mp hb with rfl|hb
 ·omega
 ·rw[KF.mp hb];exact Nat.lt_succ_of_lt K_
theorem Ds{items:Array Value}{ps:Nat->Int×Int}(hh:A.handled=none)(hu:A.units+1<cLine)(hl:s.heap.IsList l items)(hn:0<items.size)(hP:∀i v,items[i]?=some v->P2 s.heap v (ps i))
  (h:∀v h' tk,items[argBest (λi j=>lt2 (ps i) (ps j)) (items.size-1)]?=some v->(∀b o,s.heap.get? b=some o->h'.get? b=some o)->Q v {s with heap:=h',toks:=tk}) :
  wpAny (model prog w) A (call (.builtin "min") [.ref l]) Q E s:=by
 have L4:(toString "min"++toString ".loop" : String) = "min.loop":=by decide
 refine kmk_tree F.kind_min F.plain_min F.entry_min (by unfold argsOk;kernel_rfl) ?_
 show wpAny _ A.in1 (Builtin.Builtins.bindParams "min" ["key","default"] 0 ⟨[],[]⟩ >>=_) _ _ s;refine Kf (wpAny_of_eq (show Builtin.Builtins.bindParams "min" ["key","default"] 0 ⟨[],[]⟩=pure [none,none] from rfl) ?_);refine Kf (Kh ?_);refine Kf (xV hl λs2 e st SQ SR=>?_)
 refine Kf (KU ?_);have OH:s2.heap.objs.size∉[s.heap.objs.size,l]:=λhm=>K5 _ (SQ _ hm)
 have W:=Walks.list (prog:=prog) (w:=w) (A:=A.in1) hh s.heap.objs.size l SR items;have P7:s2.heap.objs.size∉[s.heap.objs.size]:=λh=>OH (W.sub _ h)
 have MP:∀b o,s.heap.get? b=some o->b∉[s.heap.objs.size]/\b≠s2.heap.objs.size:=λb o eb=>by
  have h1:=Kw eb;refine⟨λhm=>?_,?_⟩
  ·rw[KF.mp hm]at h1;exact K5 _ h1
  ·subst e;exact KH (Kw (Kk _ eb))
 rw[L4];refine Kh ⟨plainId_quiet F.plain_min_loop _,?_⟩;refine codeAny_builtin F.entry_min_loop ?_;rw[Around.under_plainId F.plain_min_loop _];have MG:(λi h=>h.IsListIter s.heap.objs.size l i/\h.IsList l items) 0 (s2.heap.push {cls:=.type "list",data:=.seq #[]}):=W.frame 0 s2.heap _ st λb _ o e=>Kk _ e
 have hS:(s2.heap.push {cls:=.type "list",data:=.seq #[]}).get? s2.heap.objs.size=some {cls:=.type "list",dict:=none,data:=.seq #[] 0,slots:=#[]}:=Ko _ rfl;show wpAny _ A.in1 (seqItems? (.ref _) >>=_) _ _ _;refine Kf (wpAny_seqItems hS rfl ?_);show wpAny _ A.in1 (tryCatch (pyNext (.ref _)) _ >>=_) _ _ _;have kp:∀{h':Heap},(∀b o,b∉[s.heap.objs.size]->(s2.heap.push {cls:=.type "list",data:=.seq #[]}).get? b=some o->h'.get? b=some o)->∀b o,s.heap.get? b=some o->h'.get? b=some o:=λ{h'} hk=>by
  subst e;exact old_kept λb o hb e=>hk b o hb (Kk _ e)
 refine Kf (wpAny_tryCatch (W.item 0 _ _ _ hn MG λv h' tk SS Ny MI=>?_))
 have NU:=MI _ _ P7 hS;show wpAny _ A.in1 (updateSeq _ (λ_=>#[v,v]) >>=_) _ _ _
 refine Kf (wpAny_updateSeq NU rfl ?_);rw[L4];refine Kh ⟨plainId_quiet F.plain_min_loop _,zm (G:=λhx=>∀b o,s.heap.get? b=some o->hx.get? b=some o) W (λi j=>lt2 (ps i) (ps j)) (λi j vi vj sx Q' E' hg hi hj hq=>?_) _ OH (λha hb g k b o eb=>k b o (MP b o eb).1 (MP b o eb).2 (g b o eb)) _ 0 _ v _ rfl hn (W.frame _ _ _ Ny λb Mx o e=>?_) (λb o eb=>?_) SS (K6 _ NU rfl) λv' Pa MX Pb MY=>?_⟩
 ·have up:∀{v i},items[i]?=some v->P2 sx.heap v (ps i):=λ{v i} hv=>by
   obtain⟨a,n,t,u,dd,sl,e1,e2⟩:=hP i v hv;exact⟨a,n,t,u,dd,sl,e1,hg _ _ e2⟩
  exact EM (by show A.units+1<cLine;exact hu) (up hi) (up hj) hq
 ·exact (KK _ _ (λh:_=b=>OH (by rw[h];exact Mx))).trans e
 ·exact (KK _ _ (Kz (MP b o eb).2)).trans (kp MI b o eb)
 ·have:=h v' Pa MX Pb (λb o eb=>MY b o (MP b o eb).1 (MP b o eb).2 ((KK _ _ (Kz (MP b o eb).2)).trans (kp MI b o eb)))
  subst e;exact this
end
end L2
namespace L2
open PySem PySem.Spec PyProof.Rows
section
variable {P:Program}{w:World}{h h':Heap}{a b c d:Addr}{A:Around}{E:Value->Shared->Prop}{s:Shared}{k k':List Int}
def IsPP(P:Program)(w:World)(h:Heap)(k:List Int)(a:Addr):Prop:=∃o n p q i j l m,k=[i,j,l,m]/\h.get? a=some o/\o.cls=.type "tuple"/\o.data=.seq #[.ref p,.ref q] n/\(tupleKind (intKind P w)).is h [i,j] p/\(tupleKind (intKind P w)).is h [l,m] q
def ppH:List Int->Int
 |[i,j,l,m]=>reduceHash (Builtin.Tuple.tupleHashOf [reduceHash (Builtin.Tuple.tupleHashOf [hashInt i,hashInt j]),reduceHash (Builtin.Tuple.tupleHashOf [hashInt l,hashInt m])])
 |_=>0
theorem IsPP.ty(x:IsPP P w s.heap k a):s.TypeIs (.ref a) "tuple":=by
 obtain⟨o,n,p,q,i,j,l,m,rfl,e,c,_⟩:=x;exact⟨o,e,c⟩
theorem IsPP.inj(x:IsPP P w h k a)(y:IsPP P w h k' a):k=k':=by
 obtain⟨o,n,p,q,i,j,l,m,rfl,e,_,dt,h1,h2⟩:=x;obtain⟨o',n',p',q',i',j',l',m',rfl,e',_,QI,Nx,OJ⟩:=y;cases e.symm.trans e';cases dt.symm.trans QI;have z1:=(tupleKind (intKind P w)).inj h1 Nx;have z2:=(tupleKind (intKind P w)).inj h2 OJ
 simp_all
theorem IsPP.keeps{o:Obj}{es ep}(x:IsPP P w h k a)(ho:h.get? d=some o)(hd:o.data=.dict es ep)(hs:Heap.SameBut d h h'):IsPP P w h' k a:=by
 obtain⟨o',n,p,q,i,j,l,m,rfl,e,c,dt,h1,h2⟩:=x;refine⟨o',n,p,q,i,j,l,m,rfl,(hs.2 a ?_).trans e,c,dt,(tupleKind (intKind P w)).keeps h1 ho hd hs,(tupleKind (intKind P w)).keeps h2 ho hd hs⟩;rintro rfl;cases e.symm.trans ho;rw[hd]at dt;cases dt
theorem xL{Q:Int->Shared->Prop}(hu:A.units+1<cLine)(x:IsPP P w s.heap k a)(q:Q (ppH k) {s with toks:=s.toks+7}):wpAny (model P w) A (PySem.pyHash (.ref a)) Q E s:=by
 have ty:=x.ty;obtain⟨o,n,p,r,i,j,l,m,rfl,e,c,dt,h1,h2⟩:=x;refine PySem.W.pyHash_slot ty F.slot_tuple_hash F.entry_tuple_hash (F.args_tuple_hash_1 _) (beq_builtin_none _) (.inr (by omega)) ?_
 have hA:A.in1.units<cLine:=hu;show wpAny _ _ (Builtin.Tuple.tupleItemsOf (.ref a) >>=_) _ _ s;refine Kf (wpAny_tupleItemsOf e dt (Kf ?_));rw[<-Array.forIn_toList];simp only[List.forIn_cons,List.forIn_nil];refine Kf (Kf ((tupleKind (intKind P w)).pyHash hA h1 ?_));refine Kf (Kh (Kh ?_));refine Kf (Kf ((tupleKind (intKind P w)).pyHash hA h2 ?_));refine Kf (Kh (Kh ?_));refine Kh ?_;exact Kf (wpAny_mkInt (Kh ⟨_,_,rfl,q⟩))
theorem o9{i j:Int}{Q:Bool->Shared->Prop}(x:(tupleKind (intKind P w)).is s.heap [i,j] a)(q:Q true s):wpAny (model P w) A (eqIsQuiet 7 (.ref a)) Q E s:=by
 obtain⟨o,f_,n,e,c,dt,hi⟩:=x;have ty:s.TypeIs (.ref a) "tuple":=⟨o,e,c⟩;unfold eqIsQuiet;refine Kf (wpAny_specialOf ty F.slot_tuple_eq.lookup ?_);show wpAny _ _ (isInstance (.ref a) (.type "tuple") >>=_) _ _ s;refine Kf (wpAny_isInstance ty isSubtype_tuple_tuple ?_);simp only[Bool.not_true,KY,if_false];refine Kf (wpAny_seqItems e dt (Kf ?_));show wpAny _ _ (forIn f_ _ _) _ _ s;rw[<-Array.forIn_toList];generalize f_.toList=l at hi;cases hi with
 |cons h1 t=>cases t with
  |cons h2 t=>
   cases t;simp only[List.forIn_cons,List.forIn_nil,eqIsQuiet_byValue _ ((intKind P w).byValue _ _ h1),eqIsQuiet_byValue _ ((intKind P w).byValue _ _ h2)];exact Kf (Kf (Kh (Kh (Kf (Kf (Kh (Kh (Kh (Kh q)))))))))
theorem vq{Q:Bool->Shared->Prop}(x:IsPP P w s.heap k a)(q:Q true s):wpAny (model P w) A (eqIsQuiet 8 (.ref a)) Q E s:=by
 have ty:=x.ty;obtain⟨o,n,p,r,i,j,l,m,rfl,e,c,dt,h1,h2⟩:=x;unfold eqIsQuiet;refine Kf (wpAny_specialOf ty F.slot_tuple_eq.lookup ?_);show wpAny _ _ (isInstance (.ref a) (.type "tuple") >>=_) _ _ s;refine Kf (wpAny_isInstance ty isSubtype_tuple_tuple ?_);simp only[Bool.not_true,KY,if_false];refine Kf (wpAny_seqItems e dt (Kf ?_));show wpAny _ _ (forIn #[Value.ref p,Value.ref r] _ _) _ _ s;rw[<-Array.forIn_toList];simp only[List.forIn_cons,List.forIn_nil];refine Kf (Kf (o9 h1 (Kh ?_)));exact Kf (Kf (o9 h2 (Kh (Kh (Kh q)))))
theorem Ea{Q:Bool->Shared->Prop}(hu:A.units+1<cLine)(x:IsPP P w s.heap k a)(y:IsPP P w s.heap k' b)(q:Q (decide (k=k')) s):wpAny (model P w) A (PySem.eqBool (.ref a) (.ref b)) Q E s:=by
 unfold PySem.eqBool
 try with_reducible refine K0 ?_
 show wpAny _ _ (if (Value.ref a == Value.ref b)=true then _ else _) Q E s
 by_cases C_:(Value.ref a == Value.ref b)=true
 ·rw[Kp C_];cases eq_of_beq C_;cases x.inj y;exact Kf (wpAny_rule (Kh (by simpa using q)))
 ·rw[Kj C_];refine Kf (wpAny_richCompare_same_room (op:=.Eq) x.ty y.ty F.slot_tuple_eq (K8 F.slot_tuple_eq x.ty F.entry_tuple_eq ?_ (F.args_tuple_eq_2 _ _)) (by omega))
  have ty:=y.ty;obtain⟨o,n,p,r,i,j,l,m,rfl,e,c,dt,h1,h2⟩:=x;obtain⟨o',n',p',r',i',j',l',m',rfl,e',c',QI,Nx,OJ⟩:=y;show wpAny _ _ (isInstance (.ref b) (.type "tuple") >>=_) _ _ s;refine Kf (wpAny_isInstance ty isSubtype_tuple_tuple ?_);simp only[Bool.not_true,KY,if_false];refine Kf (wpAny_tupleItemsOf e dt ?_);refine Kf (wpAny_tupleItemsOf e' QI ?_);refine Kf ?_;simp only[List.zip_cons_cons,List.zip_nil_left,List.forIn_cons,List.forIn_nil];have hA:A.in1.units<cLine:=hu;refine Kf (Kf ((tupleKind (intKind P w)).eqBool hA h1 Nx ?_));by_cases z:[i,j]=[i',j']
  ·rw[decide_eq_true z];refine Kh ?_;refine Kf (Kf ((tupleKind (intKind P w)).eqBool hA h2 OJ ?_));by_cases z2:[l,m]=[l',m']
   ·rw[decide_eq_true z2];refine Kh (Kh (Kh ⟨_,rfl,nofun,KR ?_⟩));rw[decide_eq_true (by simp_all)]at q
    exact q
   ·rw[KQ z2];refine Kf (Kh (Kh (Kh (Kh ⟨_,rfl,nofun,KR ?_⟩))));rw[KQ (by simp_all)]at q
    exact q
  ·rw[KQ z];refine Kf (Kh (Kh (Kh (Kh ⟨_,rfl,nofun,KR ?_⟩))));rw[KQ (by simp_all)]at q
   exact q
def ppK(P:Program)(w:World):HeapKind P w (List Int) where
 is:=IsPP P w
 hash:=ppH
 draws _:=7
 room A:=A.units+1<cLine
 inj:=λx y=>x.inj y
 keeps:=λx=>x.keeps
 pyHash:=xL
 eqBool:=Ea
 quiet:=vq
end
inductive D where
 |i_|bl (b:Bool)|int (i:Int)|str (x:Str)|tup (ds:List D)|g_ (ds:List D)|ref (a:Addr)
 |obj (i:Nat) (C:Addr) (ns:List Nat) (ds:List D)|Mo (ks:List Key) (ds:List D)|I_ (ks:List (List Int)) (ds:List D)
def qI:Nat->Nat->List Nat
 |0,_=>[]
 |k+1,n=>if n=0 then [] else (n % 128)::qI k (n / 128)
def fnm(n:Nat):Str:=⟨(qI n n).toArray⟩
def yU:List Nat->Nat
 |[]=>0
 |d::r=>d+128*yU r
theorem jJ:∀(k n:Nat),n<=k->yU (qI k n)=n
 |0,n,h=>by have:n=0:=Nat.le_zero.mp h;subst this;rfl
 |k+1,n,h=>by
  unfold qI;by_cases z:n=0
  ·rw[Kp z];exact z.symm
  ·rw[Kj z];show n % 128+128*yU (qI k (n / 128))=n;rw[jJ k (n / 128) (by omega)]
   omega
theorem nL(h:fnm a=fnm b):a=b:=by
 have e:qI a a=qI b b:=by
  have:=congrArg (λx:Str=>x.cps.toList) h
  simpa [fnm] using this
 have:=congrArg yU e
 rwa [jJ a a (Km _),jJ b b (Km _)]at this
def tH(k:List Int):Int:=reduceHash (Builtin.Tuple.tupleHashOf (k.map hashInt))
abbrev kdF(f:Bool)(P:Program)(w:World):HeapKind P w (List Int):=match f with
 |true=>ppK P w
 |false=>tupleKind (intKind P w)
abbrev kH(f:Bool)(k:List Int):Int:=match f with
 |true=>ppH k
 |false=>tH k
abbrev KAt(f:Bool)(K:Lr)(H:Hp)(b:Addr)(k:List Int):Prop:=match f with
 |true=>∃p q i j l m,k=[i,j,l,m]/\SqT K H b [.ref p,.ref q]/\SqT K H p [.int i,.int j]/\SqT K H q [.int l,.int m]
 |false=>SqT K H b (k.map V.int)
def cM(f:Bool)(a:Addr)(xs:List (List Int×Addr×Value)):Heap->Prop:=λh=>∃o es ep,h.get? a=some o/\o.ExactDict/\o.data=.dict es ep/\es.toList=xs.map λx=>(⟨kH f x.1,.ref x.2.1,x.2.2⟩:DictEntry)
structure TabF (f:Bool)(K:Lr)(H:Hp)(a:Addr) (ks:List (List Int)) (xs:List (List Int×Addr×Value)) (vs:List V):Prop where
 kx:xs.map (·.1)=ks
 nd:ks.Nodup
 sz:ks.length<=sizeLine
 no:(a == sysModules)=false
 vx:Vals vs (xs.map (·.2.2))
 at_:∀x∈xs,KAt f K H x.2.1 x.1
abbrev tabT:=cM false
abbrev TabOk:=TabF false
def SqM(K:Lr)(a:Addr)(xs:List V):Prop:=∃(f_:List Value) (n:Nat),K.lookup a=some {cls:=.type "list",data:=.seq f_.toArray n}/\f_.length<=sizeLine/\Vals xs f_
def SqF(K:Lr)(H:Hp)(a:Addr)(xs:List V):Prop:=(∃o,H a=some (.u_ o (.lst xs)))\/SqM K a xs
theorem SqM.sq{K:Lr}(h:SqM K a xs):SqL K H a xs:=by
 obtain⟨f_,n,e,z,r⟩:=h;exact .inr ⟨_,f_.toArray,n,e,rfl,rfl,rfl,by simpa using z,by simpa using r⟩
theorem SqF.sq{K:Lr}(h:SqF K H a xs):SqL K H a xs:=by
 rcases h with h|h
 ·exact .inl (.inr h)
 ·exact h.sq
mutual
def Den(K:Lr)(H:Hp):D->V->Prop
 |.i_,v=>v=.i_
 |.bl b,v=>v=.bl b
 |.int i,v=>v=.int i
 |.str x,v=>v=.str x
 |.tup ds,v=>∃p vs,v=.ref p/\SqT K H p vs/\DenL K H ds vs
 |.g_ ds,v=>∃p vs,v=.ref p/\SqF K H p vs/\DenL K H ds vs
 |.ref a,v=>v=.ref a
 |.obj _ C ns ds,v=>∃p vs o dx,v=.ref p/\H p=some (.u_ o (.ins C dx ((ns.map fnm).zip vs)))/\ns.length=vs.length/\DenL K H ds vs
 |.Mo ks ds,v=>∃p vs o,v=.ref p/\H p=some (.u_ o (.dK (ks.zip vs)))/\ks.length=vs.length/\DenL K H ds vs
 |.I_ ks ds,v=>∃p vs o xs,v=.ref p/\H p=some (.u_ o (.ext (tabT p xs)))/\TabOk K H p ks xs vs/\DenL K H ds vs
def DenL(K:Lr)(H:Hp):List D->List V->Prop
 |[],vs=>vs=[]
 |d::ds,vs=>∃v r,vs=v::r/\Den K H d v/\DenL K H ds r
end
structure TM (K:Lr)(H H':Hp):Prop where
 t:∀p xs,SqT K H p xs->SqT K H' p xs
 f:∀p xs,SqF K H p xs->SqF K H' p xs
 g:∀p o u,H p=some (.u_ o u)->H' p=some (.u_ o u)
theorem TM.refl{K:Lr}(H:Hp):TM K H H:=⟨λ_ _ h=>h,λ_ _ h=>h,λ_ _ _ h=>h⟩
theorem TM.trans{K:Lr}(a:TM K H H1)(b:TM K H1 H2):TM K H H2:=⟨λp xs h=>b.t p xs (a.t p xs h),λp xs h=>b.f p xs (a.f p xs h),λp o u h=>b.g p o u (a.g p o u h)⟩
theorem TM.un{K:Lr}(t:∀b xs,H b=some (.tup xs)->H' b=some (.tup xs))(f:∀b o u,H b=some (.u_ o u)->H' b=some (.u_ o u)):TM K H H':=⟨λq xs h=>by
 rcases h with (h|⟨ob,h⟩)|h
 ·exact .inl (.inl (t _ _ h))
 ·exact .inl (.inr ⟨ob,f _ _ _ h⟩)
 ·exact .inr h,λq xs h=>by
 rcases h with ⟨ob,h⟩|h
 ·exact .inl ⟨ob,f _ _ _ h⟩
 ·exact .inr h,f⟩
theorem TM.new{K:Lr}(hp:H p=none):TM K H (upd H p o):=
 .un (λb xs h=>by rw[ah (aH h hp)];exact h) λb ob u h=>by rw[ah (aH h hp)];exact h
theorem TM.put{K:Lr}(hp:H p=some u)(h1:∀xs,u≠.tup xs)(h2:∀ob v,u≠.u_ ob v):TM K H (upd H p o):=
 .un (λb xs h=>by rw[ah (dC h hp λz=>h1 _ z.symm)];exact h) λb ob u h=>by rw[ah (dC h hp λz=>h2 _ _ z.symm)];exact h
section
variable {K:Lr}
theorem KAt.mono{f:Bool}{k:List Int}{b:Addr}(t:TM K H H')(h:KAt f K H b k):KAt f K H' b k:=by
 cases f with
 |false=>exact t.t _ _ h
 |true=>obtain⟨p,q,i,j,l,m,e,h1,h2,h3⟩:=h;exact⟨p,q,i,j,l,m,e,t.t _ _ h1,t.t _ _ h2,t.t _ _ h3⟩
theorem TabF.mono{f:Bool}{ks:List (List Int)}{xs:List (List Int×Addr×Value)}(z:TabF f K H a ks xs vs)(t:TM K H H'):TabF f K H' a ks xs vs:=⟨z.kx,z.nd,z.sz,z.no,z.vx,λx hx=>KAt.mono t (z.at_ x hx)⟩
mutual
theorem Den.mono(t:TM K H H'):∀{d:D}{v:V},Den K H d v->Den K H' d v
 |.i_,_,h=>h
 |.bl _,_,h=>h
 |.int _,_,h=>h
 |.str _,_,h=>h
 |.ref _,_,h=>h
 |.tup ds,v,h=>by
  obtain⟨p,vs,e,s,l⟩:=h;exact⟨p,vs,e,t.t _ _ s,DenL.mono t l⟩
 |.g_ ds,v,h=>by
  obtain⟨p,vs,e,s,l⟩:=h;exact⟨p,vs,e,t.f _ _ s,DenL.mono t l⟩
 |.obj i C ns ds,v,h=>by
  obtain⟨p,vs,o,dx,e,s,z,l⟩:=h;exact⟨p,vs,o,dx,e,t.g _ _ _ s,z,DenL.mono t l⟩
 |.Mo ks ds,v,h=>by
  obtain⟨p,vs,o,e,s,z,l⟩:=h;exact⟨p,vs,o,e,t.g _ _ _ s,z,DenL.mono t l⟩
 |.I_ ks ds,v,h=>by
  obtain⟨p,vs,o,xs,e,s,z,l⟩:=h;exact⟨p,vs,o,xs,e,t.g _ _ _ s,z.mono t,DenL.mono t l⟩
theorem DenL.mono(t:TM K H H'):∀{ds:List D}{vs:List V},DenL K H ds vs->DenL K H' ds vs
 |[],_,h=>h
 |d::ds,vs,h=>by
  obtain⟨v,r,e,a,b⟩:=h;exact⟨v,r,e,Den.mono t a,DenL.mono t b⟩
end
theorem DenL.length:∀{ds:List D}{vs:List V},DenL K H ds vs->ds.length=vs.length
 |[],_,h=>by cases h;rfl
 |d::ds,vs,h=>by
  obtain⟨v,r,rfl,_,b⟩:=h;rw[Ky,Ky,DenL.length b]
theorem DenL.get:∀{ds:List D}{vs:List V}{i:Nat}{d:D},DenL K H ds vs->ds[i]?=some d->∃v,vs[i]?=some v/\Den K H d v
 |[],_,_,_,_,e=>by simp at e
 |d::ds,vs,0,d',h,e=>by
  obtain⟨v,r,rfl,a,b⟩:=h;simp at e;subst e;exact⟨v,rfl,a⟩
 |d::ds,vs,i+1,d',h,e=>by
  obtain⟨v,r,rfl,a,b⟩:=h;obtain⟨u,e1,e2⟩:=DenL.get b (by simpa using e)
  exact⟨u,by simpa using e1,e2⟩
theorem DenL.get':∀{ds:List D}{vs:List V}{i:Nat}{v:V},DenL K H ds vs->vs[i]?=some v->∃d,ds[i]?=some d/\Den K H d v
 |[],_,_,_,h,e=>by cases h;simp at e
 |d::ds,vs,0,v',h,e=>by
  obtain⟨v,r,rfl,a,b⟩:=h;simp at e;subst e;exact⟨d,rfl,a⟩
 |d::ds,vs,i+1,v',h,e=>by
  obtain⟨v,r,rfl,a,b⟩:=h;obtain⟨u,e1,e2⟩:=DenL.get' b (by simpa using e)
  exact⟨u,by simpa using e1,e2⟩
theorem DenL.append:∀{ds es:List D}{vs ws:List V},DenL K H ds vs->DenL K H es ws->DenL K H (ds++es) (vs++ws)
 |[],_,_,_,h,g=>by cases h;exact g
 |d::ds,_,_,_,h,g=>by
  obtain⟨v,r,rfl,a,b⟩:=h;exact⟨v,r++_,rfl,a,DenL.append b g⟩
theorem DenL.nil:DenL K H [] []:=rfl
theorem DenL.cons(a:Den K H d v)(b:DenL K H ds vs):DenL K H (d::ds) (v::vs):=⟨v,vs,rfl,a,b⟩
theorem DenL.one(a:Den K H d v):DenL K H [d] [v]:=.cons a .nil
theorem DenL.take:∀{ds:List D}{vs:List V} (n:Nat),DenL K H ds vs->DenL K H (ds.take n) (vs.take n)
 |_,_,0,_=>rfl
 |[],_,n+1,h=>by cases h;rfl
 |d::ds,_,n+1,h=>by
  obtain⟨v,r,rfl,a,b⟩:=h;exact⟨v,r.take n,rfl,a,DenL.take n b⟩
theorem DenL.drop:∀{ds:List D}{vs:List V} (n:Nat),DenL K H ds vs->DenL K H (ds.drop n) (vs.drop n)
 |_,_,0,h=>h
 |[],_,n+1,h=>by cases h;rfl
 |d::ds,_,n+1,h=>by
  obtain⟨v,r,rfl,a,b⟩:=h;exact DenL.drop n b
theorem DenL.set(a:Den K H d v):∀{ds:List D}{vs:List V} (i:Nat),DenL K H ds vs->DenL K H (ds.set i d) (vs.set i v)
 |[],_,_,h=>by cases h;rfl
 |_::ds,_,0,h=>by
  obtain⟨_,r,rfl,_,b⟩:=h;exact⟨v,r,rfl,a,b⟩
 |e::ds,_,i+1,h=>by
  obtain⟨u,r,rfl,c,b⟩:=h;exact⟨u,_,rfl,c,DenL.set a i b⟩
theorem DenL.int_of:∀{ns:List Int}{vs:List V},DenL K H (ns.map D.int) vs->vs=ns.map V.int
 |[],_,h=>h
 |n::ns,vs,h=>by
  obtain⟨v,r,rfl,a,b⟩:=h;rw[DenL.int_of b];cases (show v=.int n from a);rfl
theorem DenL.of_int:∀{ns:List Int},DenL K H (ns.map D.int) (ns.map V.int)
 |[]=>rfl
 |n::ns=>⟨.int n,ns.map V.int,rfl,rfl,DenL.of_int⟩
end
structure XE where
 c:Nat
 pl:Option (Nat×D)
def XD(K:Lr)(H:Hp)(i:XE)(dx:Option Addr):Prop:=match i.pl with
 |none=>dx=none
 |some (f,y)=>∃p o v,dx=some p/\H p=some (.u_ o (.xd [(fnm f,v)]))/\Den K H y v
theorem XD.mono{K:Lr}(t:TM K H H')(h:XD K H i dx):XD K H' i dx:=by
 obtain⟨c,pl⟩:=i;cases pl with
 |none=>exact h
 |some q=>
  obtain⟨p,o,v,e,g,d⟩:=h;exact⟨p,o,v,e,t.g _ _ _ g,d.mono t⟩
inductive DO where
 |lst (ds:List D)
 |dk (ks:List Key) (ds:List D)
 |dt (ks:List (List Int)) (ds:List D)
 |dn (ks:List (List Int)) (ds:List D)
 |ins (i:Nat) (C:Addr) (ns:List Nat) (ds:List D)
 |exc (i:XE) (cls:Value)
 |w_ (φ:Heap->Prop)
abbrev MH:=Addr->Option DO
def put(M:MH)(a:Addr)(o:DO):MH:=λb=>if b=a then some o else M b
theorem ac:put M a o a=some o:=Kp rfl
theorem ae(h:b≠a):put M a o b=M b:=Kj h
theorem ba:put (put M a o) a u=put M a u:=by
 funext b;unfold put;split<;>rfl
def OD(K:Lr)(H:Hp)(a:Addr):DO->Prop
 |.lst ds=>∃vs,H a=some (.lst vs)/\DenL K H ds vs
 |.dk ks ds=>∃vs,H a=some (.dK (ks.zip vs))/\ks.length=vs.length/\DenL K H ds vs
 |.dt ks ds=>∃vs xs,H a=some (.ext (tabT a xs))/\TabOk K H a ks xs vs/\DenL K H ds vs
 |.dn ks ds=>∃vs xs,H a=some (.ext (cM true a xs))/\TabF true K H a ks xs vs/\DenL K H ds vs
 |.ins _ C ns ds=>∃dx vs,H a=some (.ins C dx ((ns.map fnm).zip vs))/\ns.length=vs.length/\DenL K H ds vs
 |.exc i cls=>∃dx,H a=some (Ho a cls dx)/\XD K H i dx
 |.w_ φ=>H a=some (.ext φ)
def RelM(K:Lr)(M:MH)(H:Hp):Prop:=∀a o,M a=some o->OD K H a o
abbrev St3:=List (Option D)
def DenS(K:Lr)(H:Hp)(h_:St3)(Z:St):Prop:=h_.length=Z.length/\∀(i:Nat)(d:D),h_[i]?=some (some d)->∃v,Z[i]?=some (some v)/\Den K H d v
section
variable {K:Lr}
theorem OD.tracked(h:OD K H a o):∃u,H a=some u:=by
 cases o with
 |dt ks ds=>obtain⟨_,_,e,_⟩:=h;exact⟨_,e⟩
 |dn ks ds=>obtain⟨_,_,e,_⟩:=h;exact⟨_,e⟩
 |ins i C ns ds=>obtain⟨_,_,e,_⟩:=h;exact⟨_,e⟩
 |w_ φ=>exact⟨_,h⟩
 |_=>obtain⟨_,e,_⟩:=h;exact⟨_,e⟩
theorem RelM.fresh(r:RelM K M H)(hp:H p=none):M p=none:=by
 cases e:M p with
 |none=>rfl
 |some o=>
  obtain⟨u,z⟩:=(r p o e).tracked;rw[hp]at z;cases z
theorem OD.stay(t:TM K H H')(e:H' a=H a)(h:OD K H a o):OD K H' a o:=by
 cases o with
 |lst ds=>obtain⟨vs,q,l⟩:=h;exact⟨vs,e.trans q,l.mono t⟩
 |dk ks ds=>obtain⟨vs,q,n,l⟩:=h;exact⟨vs,e.trans q,n,l.mono t⟩
 |dt ks ds=>obtain⟨vs,xs,q,z,l⟩:=h;exact⟨vs,xs,e.trans q,z.mono t,l.mono t⟩
 |dn ks ds=>obtain⟨vs,xs,q,z,l⟩:=h;exact⟨vs,xs,e.trans q,z.mono t,l.mono t⟩
 |ins i C ns ds=>obtain⟨dx,vs,q,n,l⟩:=h;exact⟨dx,vs,e.trans q,n,l.mono t⟩
 |exc i cls=>obtain⟨dx,q,x⟩:=h;exact⟨dx,e.trans q,x.mono t⟩
 |w_ φ=>exact e.trans h
theorem RelM.grow(r:RelM K M H)(hp:H p=none):RelM K M (upd H p o):=λa u e=>by
 obtain⟨x,z⟩:=(r a u e).tracked;exact (r a u e).stay (.new hp) (ah (aH z hp))
theorem RelM.lay(r:RelM K M H)(hp:H p=none)(h:OD K (upd H p o) p u):RelM K (put M p u) (upd H p o):=λa x e=>by
 by_cases ha:a=p
 ·subst ha;rw[ac]at e;cases e;exact h
 ·rw[ae ha]at e;exact r.grow hp a x e
theorem RelM.write(r:RelM K M H)(hp:H p=some w)(h1:∀xs,w≠.tup xs)(h2:∀ob v,w≠.u_ ob v)(h:OD K (upd H p o) p u):RelM K (put M p u) (upd H p o):=λa x e=>by
 by_cases ha:a=p
 ·subst ha;rw[ac]at e;cases e;exact h
 ·rw[ae ha]at e;exact (r a x e).stay (.put hp h1 h2) (ah ha)
def Sub(M' M:MH):Prop:=∀a o,M' a=some o->M a=some o
theorem RelM.sub(r:RelM K M H)(s:Sub M' M):RelM K M' H:=λa o e=>r a o (s a o e)
theorem DenS.mono(t:TM K H H')(h:DenS K H h_ Z):DenS K H' h_ Z:=⟨h.1,λi d e=>let ⟨v,e1,e2⟩:=h.2 i d e;⟨v,e1,e2.mono t⟩⟩
theorem DenS.set{h_:St3}{Z:St}(h:DenS K H h_ Z)(e:Den K H d v):DenS K H (h_.set i (some d)) (Z.set i (some v)):=by
 refine⟨by rw[List.length_set,List.length_set];exact h.1,λj d' q=>?_⟩
 by_cases hj:i=j
 ·subst hj;rw[List.getElem?_set]at q ⊢;rw[Kp rfl]at q ⊢;rw[<-h.1];split at q
  next hl=>
   cases q;exact⟨v,Kp hl,e⟩
  next=>cases q
 ·rw[Lq hj]at q ⊢;exact h.2 j d' q
theorem pY{N:List Str}{ds:List D}(h:DenL K H ds vs):DenS K H (ds.map some++List.replicate (N.length-ds.length) none) (start N vs):=by
 have hl:=h.length;refine⟨by unfold start;simp[hl],λi d e=>?_⟩
 by_cases hi:i<ds.length
 ·rw[List.getElem?_append_left (by simpa using hi),Kt]at e
  have e':ds[i]?=some d:=by
   cases q:ds[i]? with
   |none=>rw[q]at e;cases e
   |some x=>rw[q]at e;cases e;rfl
  obtain⟨v,e1,e2⟩:=h.get e';refine⟨v,?_,e2⟩;unfold start;rw[List.getElem?_append_left (by simpa [<-hl] using hi),Kt,e1]
  rfl
 ·rw[List.getElem?_append_right (by simpa using hi),List.getElem?_replicate]at e
  split at e<;>cases e
end
abbrev VK3:=D->MH->Prop
abbrev TE3:=St3->MH->VK3->Prop
abbrev TT3:=St3->MH->(Bool->MH->Prop)->Prop
structure Ends3 where
 nx:St3->MH->Prop
 rt:VK3
 bk:St3->MH->Prop:=λ_ _=>False
 ct:St3->MH->Prop:=λ_ _=>False
abbrev TS3:=Ends3->St3->MH->Prop
structure ER (K:Lr)(H:Hp)(D3:Ends3)(D2:kh):Prop where
 nx:∀l_ H' t_ M',RelM K M' H'->DenS K H' t_ l_->TM K H H'->D3.nx t_ M'->D2.nx l_ H'
 rt:∀v H' d M',Den K H' d v->RelM K M' H'->TM K H H'->D3.rt d M'->D2.rt v H'
 bk:∀l_ H' t_ M',RelM K M' H'->DenS K H' t_ l_->TM K H H'->D3.bk t_ M'->D2.bk l_ H'
 ct:∀l_ H' t_ M',RelM K M' H'->DenS K H' t_ l_->TM K H H'->D3.ct t_ M'->D2.ct l_ H'
theorem ER.mono{K:Lr}(r:ER K H D3 D2)(t:TM K H H1):ER K H1 D3 D2:=
 ⟨λa b c d h1 h2 h3 h4=>r.nx a b c d h1 h2 (t.trans h3) h4,λa b c d h1 h2 h3 h4=>r.rt a b c d h1 h2 (t.trans h3) h4,λa b c d h1 h2 h3 h4=>r.bk a b c d h1 h2 (t.trans h3) h4,λa b c d h1 h2 h3 h4=>r.ct a b c d h1 h2 (t.trans h3) h4⟩
section
variable {K:Lr}
theorem d4:Den K H (.int i) (.int i):=rfl
theorem bY{b:Bool}:Den K H (.bl b) (.bl b):=rfl
theorem wz:Den K H .i_ .i_:=rfl
theorem gV:Den K H (.ref a) (.ref a):=rfl
theorem nX(h:SqT K H p vs)(l:DenL K H ds vs):Den K H (.tup ds) (.ref p):=⟨p,vs,rfl,h,l⟩
end
abbrev R3:=D->D->MH->VK3->Prop
abbrev Back(K:Lr)(H:Hp)(Q:VK3)(Q2:VK):Prop:=∀v H' d M',Den K H' d v->RelM K M' H'->TM K H H'->Q d M'->Q2 v H'
def Op3(X:Cx)(f:Value->Value->Sem Value)(r3:R3):Prop:=∃r2,OpR X f r2/\∀(H:Hp)(x y:D)(v u:V)(M:MH)(Q:VK3)(Q2:VK),Den X.K H x v->Den X.K H y u->RelM X.K M H->r3 x y M Q->Back X.K H Q Q2->r2 v u H Q2
def Un3(X:Cx)(f:Value->Sem Value)(r3:D->MH->VK3->Prop):Prop:=∃r2,UnR X f r2/\∀(H:Hp)(x:D)(v:V)(M:MH)(Q:VK3)(Q2:VK),Den X.K H x v->RelM X.K M H->r3 x M Q->Back X.K H Q Q2->r2 v H Q2
def tD(X:Cx)(f:Value)(r3:List D->MH->VK3->Prop):Prop:=∃r2,CallR X f r2/\∀(H:Hp)(xs:List D)(vs:List V)(M:MH)(Q:VK3)(Q2:VK),DenL X.K H xs vs->RelM X.K M H->r3 xs M Q->Back X.K H Q Q2->r2 vs H Q2
def c3(d:D):TE3:=λ_ M Q=>Q d M
def rI3(C:Int->Int->Prop)(g:Int->Int->D):R3:=λx y M Q=>∃i j,x=.int i/\y=.int j/\C i j/\Q (g i j) M
section
variable {X:Cx}{a b c e:Expr}{ta tb tc te:TE3}{pos:Pos}
def q3(t:TE3):TT3:=λZ M Q=>t Z M λx M1=>∃k,x=.bl k/\Q k M1
variable {tA OX:TT3}{aU:List Expr}
theorem zH{K:Lr}(h:DenL K H ds vs)(e:atI ds i=some d):∃v,atI vs i=some v/\Den K H d v:=by
 unfold atI at e ⊢;rw[<-h.length];cases q:ixN ds.length i with
 |none=>rw[q]at e;cases e
 |some j=>
  rw[q]at e;obtain⟨v,e1,e2⟩:=h.get (show ds[j]?=some d from e);exact⟨v,e1,e2⟩
def Is(M:MH)(x:D)(ds:List D):Prop:=x=.g_ ds\/∃a,x=.ref a/\M a=some (.lst ds)
theorem RelM.list{K:Lr}(rm:RelM K M H)(h:Is M x ds)(dv:Den K H x v):∃p vs,v=.ref p/\SqL K H p vs/\DenL K H ds vs:=by
 rcases h with rfl|⟨a,rfl,h⟩
 ·obtain⟨p,vs,e,s,l⟩:=dv;exact⟨p,vs,e,s.sq,l⟩
 ·obtain⟨vs,e,l⟩:=rm a _ h;exact⟨a,vs,dv,.of e,l⟩
def isIB:V->D->Prop:=λv d=>(∃i,v=.int i/\d=.int i)\/(∃b,v=.bl b/\d=.bl b)
theorem isIB.den{K:Lr}(h:isIB v d):Den K H d v:=by
 rcases h with ⟨i,rfl,rfl⟩|⟨b,rfl,rfl⟩<;>rfl
theorem kA(h:OpR X f (rI C g))(hg:∀i j,isIB (g i j) (g3 i j)):Op3 X f (rI3 C g3):=
 ⟨_,h,λH x y v u M Q Q2 dx dy rm ⟨i,j,e1,e2,hc,q⟩ k=>by
  subst e1;subst e2;cases (show v=.int i from dx);cases (show u=.int j from dy);exact⟨i,j,rfl,rfl,hc,k _ H _ M (hg i j).den rm (.refl _) q⟩⟩
def nB(g:Int->Int->D):R3:=λx y M Q=>∃i j,x=.int i/\y=.int j/\Q (g i j) M
theorem eu(h:OpR X f (rI0 g))(hg:∀i j,isIB (g i j) (g3 i j)):Op3 X f (nB g3):=
 ⟨_,h,λH x y v u M Q Q2 dx dy rm ⟨i,j,e1,e2,q⟩ k=>by
  subst e1;subst e2;cases (show v=.int i from dx);cases (show u=.int j from dy);exact⟨i,j,rfl,rfl,k _ H _ M (hg i j).den rm (.refl _) q⟩⟩
def big:Nat:=2 ^ 4096
theorem qY(h:n<10 ^ 250):n<big:=Kv h (by decide +kernel)
def bI(i j:Int):Prop:=(i.natAbs<big/\j.natAbs<big)
theorem ja{k:Int}(h:k.natAbs<big):Builtin.Int.intBits k<=2 ^ 20:=by
 unfold Builtin.Int.intBits;by_cases h0:k.natAbs=0
 ·have:k=0:=by omega
  subst this;decide
 ·have Uk:k.natAbs.log2<4096:=(Nat.log2_lt h0).mpr h;split<;>omega
theorem zI:OpR X (binaryOp .Mult) (rI bI λi j=>.int (i*j)):=opI λ_ _ _ _ _ _ _ hc q=>mul_int q (.of_bits (ja hc.1) (ja hc.2))
def mf(_ j:Int):Prop:=0<j/\j.toNat<big
theorem vp:OpR X (binaryOp .FloorDiv) (rI mf λi j=>.int (i / j)):=opI λi j _ _ _ _ _ hc q=>by
 have h1:(0:Int)<j:=hc.1;have h2:j.toNat<big:=hc.2;refine floordiv_int (by omega) (by rw[Int.fdiv_eq_ediv_of_nonneg i (by omega)];exact q) (.inl (PyProof.noPylong_of_log2 ?_))
 have h3:j.natAbs<2 ^ 4096:=by
  have e:j.natAbs=j.toNat:=by omega
  rw[e];exact h2
 have h0:j.natAbs≠0:=by omega
 have:=(Nat.log2_lt h0).mpr h3;omega
theorem Fe:Op3 X (binaryOp .Add) (nB λi j=>.int (i+j)):=eu Cn λ_ _=>.inl ⟨_,rfl,rfl⟩
theorem Eu:Op3 X (binaryOp .Sub) (nB λi j=>.int (i-j)):=eu C1 λ_ _=>.inl ⟨_,rfl,rfl⟩
theorem FF:Op3 X (binaryOp .Mult) (rI3 bI λi j=>.int (i*j)):=kA zI λ_ _=>.inl ⟨_,rfl,rfl⟩
theorem Bj:Op3 X (binaryOp .FloorDiv) (rI3 mf λi j=>.int (i / j)):=kA vp λ_ _=>.inl ⟨_,rfl,rfl⟩
theorem EF:Op3 X (binaryOp .Mod) (rI3 (λ_ j=>0<j) λi j=>.int (i % j)):=kA CI λ_ _=>.inl ⟨_,rfl,rfl⟩
theorem Ep:Op3 X (binaryOp .Pow) (rI3 uO λi j=>.int (i ^ j.toNat)):=kA BS λ_ _=>.inl ⟨_,rfl,rfl⟩
theorem EU:Op3 X (binaryOp .RShift) (rI3 (λ_ j=>0<=j) λi j=>.int (i / 2 ^ j.toNat)):=kA BW λ_ _=>.inl ⟨_,rfl,rfl⟩
theorem Fv:Op3 X (binaryOp .BitAnd) (nB λi j=>.int (Builtin.bitAnd i j)):=eu CD λ_ _=>.inl ⟨_,rfl,rfl⟩
theorem HN:Op3 X (compareOp .Lt) (nB λi j=>.bl (decide (i<j))):=eu D1 λ_ _=>.inr ⟨_,rfl,rfl⟩
theorem HL:Op3 X (compareOp .LtE) (nB λi j=>.bl (decide (i<=j))):=eu D9 λ_ _=>.inr ⟨_,rfl,rfl⟩
theorem Ia:Op3 X (compareOp .Gt) (nB λi j=>.bl (decide (j<i))):=eu F6 λ_ _=>.inr ⟨_,rfl,rfl⟩
theorem Hs:Op3 X (compareOp .GtE) (nB λi j=>.bl (decide (j<=i))):=eu Fg λ_ _=>.inr ⟨_,rfl,rfl⟩
def rU3(g:Int->Int):D->MH->VK3->Prop:=λx M Q=>∃i,x=.int i/\Q (.int (g i)) M
theorem Ft:Un3 X (unaryOp .USub) (rU3 λi=>-i):=⟨_,B9,λH x v M Q Q2 dx rm ⟨i,e,q⟩ k=>by
 subst e;cases (show v=.int i from dx);exact⟨i,rfl,k _ H _ M d4 rm (.refl _) q⟩⟩
def D.isN:D->Bool
 |.i_=>true
 |_=>false
theorem sQ{K:Lr}{d:D}(h:Den K H d v):decide (v=.i_)=d.isN:=by
 cases d with
 |i_=>cases (show v=.i_ from h);rfl
 |bl b=>cases (show v=.bl b from h);rfl
 |int i=>cases (show v=.int i from h);rfl
 |str x=>cases (show v=.str x from h);rfl
 |tup ds=>obtain⟨p,vs,rfl,_⟩:=h;rfl
 |g_ ds=>obtain⟨p,vs,rfl,_⟩:=h;rfl
 |ref a=>cases (show v=.ref a from h);rfl
 |Mo ks ds=>obtain⟨p,vs,_,rfl,_⟩:=h;rfl
 |_=>obtain⟨p,vs,_,_,rfl,_⟩:=h;rfl
def rIs3:R3:=λx y M Q=>y=.i_/\Q (.bl x.isN) M
def rIsN3:R3:=λx y M Q=>y=.i_/\Q (.bl (!x.isN)) M
theorem Hc:Op3 X (compareOp .Is) rIs3:=⟨_,Cl,λH x y v u M Q Q2 dx dy rm ⟨e,q⟩ k=>by
 subst e;refine⟨dy,?_⟩;rw[sQ dx];exact k _ H _ M bY rm (.refl _) q⟩
theorem xZ:Op3 X (compareOp .IsNot) rIsN3:=⟨_,ym,λH x y v u M Q Q2 dx dy rm ⟨e,q⟩ k=>by
 subst e;refine⟨dy,?_⟩;rw[sQ dx];exact k _ H _ M bY rm (.refl _) q⟩
variable {id:String}
def rLen3:List D->MH->VK3->Prop:=λxs M Q=>∃x ds,xs=[x]/\(Is M x ds\/x=.tup ds)/\Q (.int ds.length) M
theorem DL:tD X (.builtin "len") rLen3:=⟨_,nC,λH xs vs M Q Q2 dl rm ⟨x,ds,e,h,q⟩ k=>by
 subst e;obtain⟨v,r,rfl,dv,rfl⟩:=dl;rcases h with h|rfl
 ·obtain⟨a,ys,rfl,sq,l⟩:=rm.list h dv;exact⟨a,ys,rfl,.inl sq,by rw[<-l.length];exact k _ H _ M d4 rm (.refl _) q⟩
 ·obtain⟨a,ys,rfl,sq,l⟩:=dv;exact⟨a,ys,rfl,.inr sq,by rw[<-l.length];exact k _ H _ M d4 rm (.refl _) q⟩⟩
def rMax3:List D->MH->VK3->Prop:=λxs M Q=>∃i j,xs=[.int i,.int j]/\Q (.int (if j > i then j else i)) M
theorem Ew(hc:X.calm=true):tD X (.builtin "max") rMax3:=⟨_,ui hc,λH xs vs M Q Q2 dl rm ⟨i,j,e,q⟩ k=>by
 subst e;obtain⟨v,r,rfl,dv,w,r',rfl,dw,rfl⟩:=dl;cases (show v=.int i from dv);cases (show w=.int j from dw);exact⟨i,j,rfl,k _ H _ M d4 rm (.refl _) q⟩⟩
def rMin3:List D->MH->VK3->Prop:=λxs M Q=>∃i j,xs=[.int i,.int j]/\Q (.int (if j<i then j else i)) M
theorem DZ(hc:X.calm=true):tD X (.builtin "min") rMin3:=⟨_,uA hc,λH xs vs M Q Q2 dl rm ⟨i,j,e,q⟩ k=>by
 subst e;obtain⟨v,r,rfl,dv,w,r',rfl,dw,rfl⟩:=dl;cases (show v=.int i from dv);cases (show w=.int j from dw);exact⟨i,j,rfl,k _ H _ M d4 rm (.refl _) q⟩⟩
end
abbrev BackS(K:Lr)(H:Hp)(Q:St3->MH->Prop)(Q2:St->Hp->Prop):Prop:=∀l_ H' t_ M',RelM K M' H'->DenS K H' t_ l_->TM K H H'->Q t_ M'->Q2 l_ H'
section
variable {X:Cx}{st:Stmt}{aU:List Stmt}{t u:TS3}{e:Expr}{te:TE3}{pos:Pos}
structure ItOk (K:Lr)(H0:Hp)(J:It)(ds:List D)(S:MH->Prop):Prop where
 go:∀(i:Nat) H M,TM K H0 H->RelM K M H->S M->i<ds.length->J.go i H
 yld:∀(i:Nat) H M x H',TM K H0 H->RelM K M H->S M->i<ds.length->J.yld i H x H'->TM K H H'/\RelM K M H'/\∃d,ds[i]?=some d/\Den K H' d x
 stop:∀H M,TM K H0 H->RelM K M H->S M->J.stop ds.length H
def rng(lo:Int)(n:Nat):List D:=(List.range n).map λ(i:Nat)=>D.int (lo+i)
theorem mL(lo:Int)(n:Nat):(rng lo n).length=n:=by unfold rng;rw[Kr,List.length_range]
theorem Bw{lo:Int}(h:i<n):(rng lo n)[i]?=some (.int (lo+i)):=by
 unfold rng;rw[Kt,List.getElem?_range h];rfl
theorem Db{K:Lr}{lo:Int}:ItOk K H0 (Itr lo n) (rng lo n) (λ_=>True):=by
 refine⟨λi H M _ _ _ hi=>?_,λi H M x H' _ rm _ hi y=>?_,λH M _ _ _=>?_⟩
 ·rw[mL]at hi;exact hi
 ·rw[mL]at hi;obtain⟨e,y⟩:=y;subst e;subst y;exact⟨.refl _,rm,_,Bw hi,rfl⟩
 ·rw[mL];exact Km _
end
section
variable {K:Lr}
end
section
variable {X:Cx}
end
abbrev XN:=XE->MH->Prop
def del(M:MH)(a:Addr):MH:=λb=>if b=a then none else M b
theorem gT(h:M a=none):del (put M a o) a=M:=by
 funext b;unfold del put;by_cases e:b=a
 ·subst e;rw[Kp rfl,h]
 ·rw[Kj e,Kj e]
theorem mY(h:del M a b=some o):b≠a/\M b=some o:=by
 unfold del at h;split at h
 ·cases h
 ·exact⟨by assumption,h⟩
def av(M M':MH):MH:=λa=>match M a with
 |some _=>M' a
 |none=>none
theorem mh(h:av M M' a=some o):M' a=some o:=by
 unfold av at h;split at h
 ·exact h
 ·cases h
def kp(b:Bool)(M M':MH):MH:=if b=true then av M M' else M'
theorem vm(h:kp b M M' a=some o):M' a=some o:=by
 cases b with
 |true=>exact mh h
 |false=>exact h
inductive BI where
 |len  |max  |min  |list (fz:Bool)  |all  |any  |sorted (fz:Bool)
inductive BM where
 |get  |extend  |remove  |Lv
inductive BT where
 |int|bool|str|tuple|list|dict
mutual
inductive IE where
 |var (i:Nat)
 |con (d:D)
 |bin (op:Operator) (a b:IE)
 |neg (a:IE)
 |cat (fz:Bool) (a b:IE)
 |cmp (op:CmpOp) (a b:IE)
 |chain (op LR:CmpOp) (a b c:IE)
 |and (a b:IE)
 |or (a b:IE)
 |not (a:IE)
 |tup (es:IA)
 |lst (fz:Bool) (es:IA)
 |u_ (e:IE)
 |ix (a b:IE)
 |sl (fz:Bool) (a:IE) (lo hi:IO)
 |call (f:Nat) (es:IA)
 |bi (b:BI) (es:IA)
 |MJ (e:IE) (t:BT)
 |MZ (k v:IE)
 |comp (fz:Bool) (N:List Str) (js:List (Option Nat)) (tg:ITg) (it:II) (cond:ITO) (A_:IE)
 |Mp (N:List Str) (js:List (Option Nat)) (tg:ITg) (o:IE) (cond:ITO) (A_:IE)
 |Pc (e:IE)
 |fld (e:IE) (f:Nat)
 |make (fz:Bool) (i:Nat) (es:IA)
 |v_ (e:IE) (m:Nat) (es:IA)
 |ini (i:Nat) (es:IA)
 |glo (k:Nat)
 |bm (b:BM) (o:IE) (es:IA)
 |LH (tk:Option Bool)
inductive IT where
 |val (e:IE)
 |cmp (op:CmpOp) (a b:IE)
 |chain (op LR:CmpOp) (a b c:IE)
 |and (a b:IT)
 |or (a b:IT)
 |not (a:IT)
inductive IA where
 |nil|cons (e:IE) (r:IA)
inductive IO where
 |no|yes (e:IE)
inductive ITO where
 |no|yes (e:IT)
inductive II where
 |seq (e:IE)
 |My (a:IE)
 |enum (a:IE)
 |zip (a b:IE)
 |items (a:IE)
 |dk (a:IE)
inductive ITg where
 |name (i:Nat)|tup (is:List Nat)|MK (is:List Nat) (j:Nat)
end
mutual
inductive IS where
 |set (i:Nat) (e:IE)
 |Oe (is:List Nat) (e:IE)
 |expr (e:IE)
 |ret (e:IE)
 |ML
 |ifs (c:IT) (a b:ISs)
 |Ls (tg:ITg) (it:II) (body:ISs)
 |P9 (c:IT) (body:ISs)
 |app (o e:IE)
 |del (i:Nat)
 |LV (o:IE) (f:Nat) (e:IE)
 |F_ (o i e:IE)
 |dead
 |M8 (tg:ITg) (o:IE) (body:ISs)
 |M9 (tg:ITg) (o:IE) (body:ISs)
inductive ISs where
 |nil|cons (s:IS) (r:ISs)
end
def ak(M:MH):D->Option (List D)
 |.g_ ds=>some ds
 |.ref a=>match M a with
  |some (.lst ds)=>some ds
  |_=>none
 |_=>none
def aA(M:MH):D->Option (List D)
 |.tup ds=>some ds
 |x=>ak M x
def res(M:MH)(x:D):D:=match ak M x with
 |some ds=>.g_ ds
 |none=>x
def fc(fz:Bool)(ds:List D)(M:MH)(Q:VK3):Prop:=ds.length<=sizeLine/\if fz=true then Q (.g_ ds) M else ∀p,M p=none->Q (.ref p) (put M p (.lst ds))
def plN:Nat->D->Bool
 |_,.ref _=>false
 |n,.tup ds=>match n with
  |0=>false
  |m+1=>ds.all (plN m)
 |n,.g_ ds=>match n with
  |0=>false
  |m+1=>ds.all (plN m)
 |_,.obj _ _ _ _=>false
 |_,.Mo _ _=>false
 |_,.I_ _ _=>false
 |_,_=>true
abbrev pl(x:D):Bool:=plN 8 x
abbrev pls(ds:List D):Bool:=ds.all (plN 8)
mutual
noncomputable def eqD:D->D->Bool
 |.i_,y=>match y with
  |.i_=>true
  |_=>false
 |.bl a,y=>match y with
  |.bl b=>a == b
  |.int b=>decide ((if a=true then (1:Int) else 0)=b)
  |_=>false
 |.int a,y=>match y with
  |.int b=>decide (a=b)
  |.bl b=>decide (a=if b=true then (1:Int) else 0)
  |_=>false
 |.str a,y=>match y with
  |.str b=>decide (a=b)
  |_=>false
 |.tup a,y=>match y with
  |.tup b=>bU a b
  |_=>false
 |.g_ a,y=>match y with
  |.g_ b=>bU a b
  |_=>false
 |.ref _,_=>false
 |.obj _ _ _ _,_=>false
 |.Mo _ _,_=>false
 |.I_ _ _,_=>false
noncomputable def bU:List D->List D->Bool
 |[],y=>match y with
  |[]=>true
  |_=>false
 |a::r,y=>match y with
  |b::t=>eqD a b&&bU r t
  |_=>false
end
def rII(C:Int->Int->Prop)(g:Int->Int->D)(x y:D)(M:MH)(Q:VK3):Prop:=match x,y with
 |.int i,.int j=>C i j/\Q (g i j) M
 |_,_=>False
def rI2(g:Int->Int->D)(x y:D)(M:MH)(Q:VK3):Prop:=match x,y with
 |.int i,.int j=>Q (g i j) M
 |_,_=>False
def wJ(x y:D)(M:MH)(Q:VK3):Prop:=match x,y with
 |.int i,.int j=>Q (.int (i+j)) M
 |.tup a,.tup b=>a.length+b.length<=sizeLine/\Q (.tup (a++b)) M
 |_,_=>False
def wE(x y:D)(M:MH)(Q:VK3):Prop:=match x,y with
 |.int i,.int j=>bI i j/\Q (.int (i*j)) M
 |_,_=>False
def lC:Operator->D->D->MH->VK3->Prop
 |.Add=>wJ
 |.Sub=>rI2 λi j=>.int (i-j)
 |.Mult=>wE
 |.FloorDiv=>rII mf λi j=>.int (i / j)
 |.Mod=>rII (λ_ j=>0<j) λi j=>.int (i % j)
 |.Pow=>rII uO λi j=>.int (i ^ j.toNat)
 |.RShift=>rII (λ_ j=>0<=j) λi j=>.int (i / 2 ^ j.toNat)
 |.BitAnd=>rI2 λi j=>.int (Builtin.bitAnd i j)
 |_=>λ_ _ _ _=>False
def rNeg(x:D)(M:MH)(Q:VK3):Prop:=match x with
 |.int i=>Q (.int (-i)) M
 |_=>False
def jO(fz:Bool)(x y:D)(M:MH)(Q:VK3):Prop:=match ak M x,ak M y with
 |some a,some b=>fc fz (a++b) M Q
 |_,_=>match x,y with
  |.tup a,.tup b=>a.length+b.length<=sizeLine/\Q (.tup (a++b)) M
  |_,_=>False
def rs(M:MH)(x:D):D:=match ak M x with
 |some ds=>.g_ (if pls ds=true then ds else ds.map (res M))
 |none=>x
def jd(neg:Bool)(x y:D)(M:MH)(Q:VK3):Prop:=pl (rs M x)=true/\pl (rs M y)=true/\Q (.bl (neg ^^ eqD (rs M x) (rs M y))) M
def uc(neg:Bool)(x y:D)(M:MH)(Q:VK3):Prop:=match y with
 |.i_=>Q (.bl (neg ^^ x.isN)) M
 |.bl b=>match x with
  |.bl a=>Q (.bl (neg ^^ (a == b))) M
  |.i_=>Q (.bl neg) M
  |_=>False
 |_=>False
def mQ:D->Option Key
 |.int i=>some (.inl i)
 |.str s=>some (.inr s)
 |_=>none
def bJ:List D->Option (List Int)
 |[]=>some []
 |.int i::r=>match bJ r with
  |some ns=>some (i::ns)
  |none=>none
 |_::_=>none
def iP:D->Option (List Int)
 |.tup es=>bJ es
 |_=>none
def getD[DecidableEq κ]:List κ->List D->κ->Option D
 |k::ks,d::ds,x=>if k=x then some d else getD ks ds x
 |_,_,_=>none
def aj[DecidableEq κ]:List κ->κ->List κ
 |[],x=>[x]
 |k::ks,x=>if k=x then k::ks else k::aj ks x
def ao[DecidableEq κ]:List κ->List D->κ->D->List D
 |k::ks,d::ds,x,y=>if k=x then y::ds else d::ao ks ds x y
 |_,_,_,y=>[y]
def dh(M:MH):D->Option (List Key×List D)
 |.Mo ks ds=>some (ks,ds)
 |.ref a=>match M a with
  |some (.dk ks ds)=>some (ks,ds)
  |_=>none
 |_=>none
def cU(M:MH):D->Option (List (List Int)×List D)
 |.I_ ks ds=>some (ks,ds)
 |.ref a=>match M a with
  |some (.dt ks ds)=>some (ks,ds)
  |_=>none
 |_=>none
def xx:D->Option (List Int)
 |.tup [.tup [.int i,.int j],.tup [.int l,.int m]]=>some [i,j,l,m]
 |_=>none
def ug:List Int->D
 |[i,j,l,m]=>.tup [.tup [.int i,.int j],.tup [.int l,.int m]]
 |_=>.i_
def oK(M:MH):D->Option (List (List Int)×List D)
 |.ref a=>match M a with
  |some (.dn ks ds)=>some (ks,ds)
  |_=>none
 |_=>none
abbrev dN:Option Bool->DO
 |none=>.dk [] []
 |some false=>.dt [] []
 |some true=>.dn [] []
def dQ(M:MH)(x y:D):Option (Option D):=match dh M x with
 |some (ks,ds)=>match mQ y with
  |some k=>some (getD ks ds k)
  |none=>none
 |none=>match cU M x with
  |some (ks,ds)=>match iP y with
   |some k=>some (getD ks ds k)
   |none=>none
  |none=>match oK M x with
   |some (ks,ds)=>match xx y with
    |some k=>some (getD ks ds k)
    |none=>none
   |none=>none
def nW(neg:Bool)(x y:D)(M:MH)(Q:VK3):Prop:=match aA M y with
 |some ds=>pl (res M x)=true/\pls ds=true/\Q (.bl (neg ^^ ds.any λd=>eqD d (res M x))) M
 |none=>match dQ M y x with
  |some o=>Q (.bl (neg ^^ o.isSome)) M
  |none=>False
def aI:CmpOp->D->D->MH->VK3->Prop
 |.Eq=>jd false
 |.NotEq=>jd true
 |.Lt=>rI2 λi j=>.bl (decide (i<j))
 |.LtE=>rI2 λi j=>.bl (decide (i<=j))
 |.Gt=>rI2 λi j=>.bl (decide (j<i))
 |.GtE=>rI2 λi j=>.bl (decide (j<=i))
 |.Is=>uc false
 |.IsNot=>uc true
 |.In=>nW false
 |.NotIn=>nW true
def ar(x y:D)(M:MH)(Q:VK3):Prop:=match aA M x with
 |some ds=>match y with
  |.int i=>match atI ds i with
   |some d=>Q d M
   |none=>False
  |_=>False
 |none=>match dQ M x y with
  |some (some d)=>Q d M
  |some none=>False
  |none=>False
def dq(xs:List D)(lo hi:Option Int):List D:=(xs.drop (HT.sIx xs.length 0 lo)).take (HT.sIx xs.length xs.length hi-HT.sIx xs.length 0 lo)
def whole(n:Nat)(lo hi:Option Int):Bool:=HT.sIx n 0 lo == 0&&HT.sIx n n hi == n
def oX(fz:Bool)(x:D)(lo hi:Option Int)(M:MH)(Q:VK3):Prop:=match x with
 |.tup ds=>whole ds.length lo hi=false/\Q (.tup (dq ds lo hi)) M
 |x=>match ak M x with
  |some ds=>fc fz (dq ds lo hi) M Q
  |none=>False
def fD:List D->Option (List Bool)
 |[]=>some []
 |.bl i::r=>match fD r with
  |some ns=>some (i::ns)
  |none=>none
 |_::_=>none
def qg(y:D):List D->Nat->Option Nat
 |[],_=>none
 |d::r,k=>if eqD d y=true then some k else qg y r (k+1)
def isLstM(x:D)(M:MH):Bool:=match x with
 |.ref a=>match M a with
  |some (.lst _)=>true
  |_=>false
 |_=>false
def zU(n:Nat)(i:Int):Nat:=if i<0 then (i+n).toNat else min i.toNat n
def tyB:BM->D->MH->Bool
 |.get,x,M=>(dh M x).isSome||(cU M x).isSome||(oK M x).isSome
 |.extend,x,M=>isLstM x M
 |.remove,x,M=>isLstM x M
 |.Lv,x,M=>(dh M x).isSome||(cU M x).isSome||(oK M x).isSome
def rBm:BM->D->List D->MH->VK3->Prop
 |.get,x,ys,M,Q=>match ys with
  |[y]=>match dQ M x y with
   |some o=>Q (o.getD .i_) M
   |none=>False
  |[y,z]=>match dQ M x y with
   |some o=>Q (o.getD z) M
   |none=>False
  |_=>False
 |.Lv,x,ys,M,Q=>match x,ys with
  |.ref a,[y,z]=>match M a,mQ y with
   |some (.dk ks ds),some k=>ks.length<sizeLine/\(match getD ks ds k with
    |some d=>Q d M
    |none=>Q z (put M a (.dk (aj ks k) (ao ks ds k z))))
   |_,_=>False
  |_,_=>False
 |.remove,x,ys,M,Q=>match x,ys with
  |.ref a,[y]=>match M a with
   |some (.lst ds)=>(pl (res M y)=true/\pls ds=true)/\(match qg (res M y) ds 0 with
    |some k=>Q .i_ (put M a (.lst (ds.eraseIdx k)))
    |none=>False)
   |_=>False
  |_,_=>False
 |.extend,x,ys,M,Q=>match x,ys with
  |.ref a,[y]=>match M a,ak M y with
   |some (.lst ds),some es=>ds.length+es.length<=sizeLine/\Q .i_ (put M a (.lst (ds++es)))
   |_,_=>False
  |_,_=>False
def bR(k:List Int):D:=.tup (k.map D.int)
def dY:List D->Option (List IP)
 |[]=>some []
 |.tup [.int a,.int b]::r=>match dY r with
  |some ps=>some ((a,b)::ps)
  |none=>none
 |_::_=>none
def prI(p:IP):D:=.tup [.int p.1,.int p.2]
theorem lW:∀{ds:List D}{ps:List IP},dY ds=some ps->ds=ps.map prI
 |[],ps,h=>by cases (show []=ps from KA h);rfl
 |d::ds,ps,h=>by
  unfold dY at h;split at h
  ·rename_i e;cases e
  ·rename_i e;cases e;split at h
   ·rename_i hp;cases h;rw[lW hp];rfl
   ·cases h
  ·cases h
def rBi:BI->List D->MH->VK3->Prop
 |.len,xs,M,Q=>match xs with
  |[x]=>match aA M x with
   |some ds=>Q (.int ds.length) M
   |none=>match cU M x with
    |some (ks,_)=>Q (.int ks.length) M
    |none=>match oK M x with
     |some (ks,_)=>Q (.int ks.length) M
     |none=>False
  |_=>False
 |.max,xs,M,Q=>match xs with
  |[.int i,.int j]=>Q (.int (if j > i then j else i)) M
  |_=>False
 |.min,xs,M,Q=>match xs with
  |[.int i,.int j]=>Q (.int (if j<i then j else i)) M
  |_=>False
 |.list fz,xs,M,Q=>match xs with
  |[x]=>match aA M x with
   |some ds=>fc fz ds M Q
   |none=>match cU M x with
    |some (ks,_)=>fc fz (ks.map bR) M Q
    |none=>False
  |_=>False
 |.sorted fz,xs,M,Q=>match xs with
  |[x]=>match ak M x with
   |some ds=>match dY ds with
    |some ps=>(ps.length<64/\ps.Nodup)/\∀qs:List IP,qs.Perm ps->qs.Pairwise (λa b=>ltP a b=true)->fc fz (qs.map prI) M Q
    |none=>False
   |none=>False
  |_=>False
 |.all,xs,M,Q=>match xs with
  |[x]=>match ak M x with
   |some ds=>match fD ds with
    |some bs=>Q (.bl (bs.all id)) M
    |none=>False
   |none=>False
  |_=>False
 |.any,xs,M,Q=>match xs with
  |[x]=>match ak M x with
   |some ds=>match fD ds with
    |some bs=>Q (.bl (bs.any id)) M
    |none=>False
   |none=>False
  |_=>False
def lE(t:BT)(x:D)(M:MH)(Q:VK3):Prop:=match x with
 |.i_=>Q (.bl false) M
 |.bl _=>Q (.bl (match t with|.int=>true|.bool=>true|_=>false)) M
 |.int _=>Q (.bl (match t with|.int=>true|_=>false)) M
 |.str _=>Q (.bl (match t with|.str=>true|_=>false)) M
 |.tup _=>Q (.bl (match t with|.tuple=>true|_=>false)) M
 |.g_ _=>Q (.bl (match t with|.list=>true|_=>false)) M
 |.ref a=>match M a with
  |some (.lst _)=>Q (.bl (match t with|.list=>true|_=>false)) M
  |some (.dk _ _)=>Q (.bl (match t with|.dict=>true|_=>false)) M
  |some (.dt _ _)=>Q (.bl (match t with|.dict=>true|_=>false)) M
  |_=>False
 |.Mo _ _=>Q (.bl (match t with|.dict=>true|_=>false)) M
 |.I_ _ _=>Q (.bl (match t with|.dict=>true|_=>false)) M
 |.obj _ _ _ _=>False
def prD(p:Int×Int):D:=.tup [.int p.1,.int p.2]
def tR:List D->Option (List (Int×Int))
 |[]=>some []
 |.tup [.int a,.int b]::r=>match tR r with
  |some ps=>some ((a,b)::ps)
  |none=>none
 |_::_=>none
def vk(ps:List (Int×Int)):Int×Int:=ps.getD (argBest (λi j=>lt2 (ps.getD i (0,0)) (ps.getD j (0,0))) (ps.length-1)) (0,0)
def rMp(x:D)(M:MH)(Q:VK3):Prop:=match ak M x with
 |some ds=>match tR ds with
  |some (p::ps)=>Q (prD (vk (p::ps))) M
  |_=>False
 |none=>False
def jC(p:Addr)(x y:D)(M:MH)(Q:VK3):Prop:=match iP x with
 |some k=>M p=some (.dt [] [])/\Q (.ref p) (put M p (.dt [k] [y]))
 |none=>False
structure WB where
 ne:Nat
 cls:Nat->Addr
 sub:Nat->Nat->Bool
 nk:Nat
 c_:Nat->Addr
 ksub:Nat->Nat->Bool
 fok:Nat->Nat->Bool
 mth:Nat->Nat->Option Nat
 ini:Nat->Option Nat
 xin:Nat->Option Nat
 glo:Nat->D
 e_:Nat->Addr
structure WC extends WB where
 call:Nat->List D->MH->VK3->XN->Prop
def bK(f:Nat):List Nat->List D->Option D
 |n::ns,d::ds=>if n=f then some d else bK f ns ds
 |_,_=>none
def ca(f:Nat):List Nat->List Nat
 |n::ns=>if n=f then n::ns else n::ca f ns
 |[]=>[f]
def ce(f:Nat)(y:D):List Nat->List D->List D
 |n::ns,d::ds=>if n=f then y::ds else d::ce f y ns ds
 |_,_=>[y]
def pj(f:Nat)(ns:List Nat)(ds:List D)(M:MH)(Q:VK3):Prop:=match bK f ns ds with
 |some d=>Q d M
 |none=>False
def d7(B:WB)(f:Nat)(x:D)(M:MH)(Q:VK3):Prop:=match x with
 |.obj i C ns ds=>(C=B.c_ i/\i<B.nk/\B.fok i f=true)/\pj f ns ds M Q
 |.ref a=>match M a with
  |some (.ins i C ns ds)=>(C=B.c_ i/\i<B.nk/\B.fok i f=true)/\pj f ns ds M Q
  |_=>False
 |_=>False
def gc(o:Option Nat)(R:Nat->Prop):Prop:=match o with
 |some f=>R f
 |none=>False
def cr(B:WB)(m:Nat)(x:D)(M:MH)(R:Nat->Prop):Prop:=match x with
 |.obj i C ns ds=>(C=B.c_ i/\i<B.nk/\bK m ns ds=none)/\gc (B.mth i m) R
 |.ref a=>match M a with
  |some (.ins i C ns ds)=>(C=B.c_ i/\i<B.nk/\bK m ns ds=none)/\gc (B.mth i m) R
  |_=>False
 |_=>False
def j9(Q:VK3):VK3:=λx M=>match x with
 |.ref a=>match M a with
  |some (.lst ds)=>Q (.g_ ds) (del M a)
  |_=>False
 |_=>False
def eL:List D->MH->(List D->MH->Prop)->Prop
 |[],M,R=>R [] M
 |d::ds,M,R=>match d with
  |.ref a=>match M a with
   |some (.lst es)=>eL ds (del M a) λr M'=>R (.g_ es::r) M'
   |some (.dk ks es)=>eL ds (del M a) λr M'=>R (.Mo ks es::r) M'
   |some (.dt ks es)=>eL ds (del M a) λr M'=>R (.I_ ks es::r) M'
   |_=>eL ds M λr M'=>R (.ref a::r) M'
  |d=>eL ds M λr M'=>R (d::r) M'
def aY(Q:VK3):VK3:=λx M=>match x with
 |.ref a=>match M a with
  |some (.lst ds)=>Q (.g_ ds) (del M a)
  |some (.dk ks ds)=>Q (.Mo ks ds) (del M a)
  |some (.dt ks ds)=>Q (.I_ ks ds) (del M a)
  |some (.ins i C ns ds)=>eL ds (del M a) λr M'=>Q (.obj i C ns r) M'
  |_=>False
 |_=>False
def wpG:ITg->D->St3->MH->(St3->MH->Prop)->Prop
 |.name i,d,Z,M,Q=>Q (Z.set i (some d)) M
 |.tup is,d,Z,M,Q=>match d with
  |.tup ds=>ds.length=is.length/\Q ((is.zip ds).foldl (λZ p=>Z.set p.1 (some p.2)) Z) M
  |_=>False
 |.MK is j,d,Z,M,Q=>match d with
  |.tup [.tup ds,e]=>ds.length=is.length/\Q (((is.zip ds).foldl (λZ p=>Z.set p.1 (some p.2)) Z).set j (some e)) M
  |_=>False
def ax(js:List (Option Nat))(Z:St3):St3:=js.map λo=>o.bind λj=>(Z[j]?).bind id
def bM(g:D->St3->MH->(St3->MH->Prop)->Prop)(tt:St3->MH->(Bool->MH->Prop)->Prop)(te:St3->MH->VK3->Prop)(S:MH->Prop)(p:Addr)(Q:VK3):List D->List D->St3->MH->Prop
 |[],_,_,M=>S M/\Q (.ref p) M
 |d::r,ys,Z,M=>S M/\ys.length<sizeLine/\g d Z M λL7 M2=>tt L7 M2 λb M3=>if b=true then te L7 M3 λy M4=>M4 p=some (.lst ys)/\bM g tt te S p Q r (ys++[y]) L7 (put M4 p (.lst (ys++[y]))) else bM g tt te S p Q r ys L7 M3
def kD:Key->D
 |.inl i=>.int i
 |.inr x=>.str x
def gz(ks:List Key)(ds:List D):List D:=(ks.zip ds).map λp=>.tup [kD p.1,p.2]
def az(x k y:D)(M:MH)(R:MH->Prop):Prop:=match x with
 |.ref a=>match M a,k with
  |some (.lst ds),.int i=>(match ixN ds.length i with
   |some j=>R (put M a (.lst (ds.set j y)))
   |none=>False)
  |some (.dk ks ds),k=>(match mQ k with
   |some q=>ks.length<sizeLine/\R (put M a (.dk (aj ks q) (ao ks ds q y)))
   |none=>False)
  |some (.dt ks ds),k=>(match iP k with
   |some q=>ks.length<sizeLine/\R (put M a (.dt (aj ks q) (ao ks ds q y)))
   |none=>False)
  |some (.dn ks ds),k=>(match xx k with
   |some q=>ks.length<sizeLine/\R (put M a (.dn (aj ks q) (ao ks ds q y)))
   |none=>False)
  |_,_=>False
 |_=>False
def cj:Nat->List D->List D
 |_,[]=>[]
 |k,d::r=>.tup [.int k,d]::cj (k+1) r
def aw(ks:List (List Int))(ds:List D):List D:=(ks.zip ds).map λp=>.tup [.tup (p.1.map D.int),p.2]
def aT(ks:List (List Int))(ds:List D):List D:=(ks.zip ds).map λp=>.tup [ug p.1,p.2]
def lG(xs ys:List D):List D:=(xs.zip ys).map λp=>.tup [p.1,p.2]
def rLs(x:D)(M:MH)(k:List D->(MH->Prop)->Prop):Prop:=match x with
 |.g_ xs=>k xs λ_=>True
 |.ref b=>match M b with
  |some (.lst ys)=>k ys λM=>M b=some (.lst ys)
  |_=>False
 |_=>False
def cpF(f:Nat):Bool:=f == 217822450
def lA(x:D)(M:MH)(R:Addr->List (List Int)->List D->Prop):Prop:=match x with
 |.ref d=>match M d with
  |some (.dt ks es)=>R d ks es
  |_=>False
 |_=>False
def iC(d:Addr)(φ:Heap->Prop)(ks:List (List Int))(es:List D)(D:Ends3):Ends3:=
 ⟨λZ M=>M d=some (.w_ φ)/\D.nx Z (put M d (.dt ks es)),λv M=>M d=some (.w_ φ)/\D.rt v (put M d (.dt ks es)),λZ M=>M d=some (.w_ φ)/\D.bk Z (put M d (.dt ks es)),λZ M=>M d=some (.w_ φ)/\D.ct Z (put M d (.dt ks es))⟩
def wV(x:D)(M:MH)(R:Addr->List (List Int)->List D->Prop):Prop:=match x with
 |.ref d=>match M d with
  |some (.dn ks es)=>R d ks es
  |_=>False
 |_=>False
def stp(lo k:Int)(n:Nat):List D:=(List.range n).map λ(i:Nat)=>D.int (lo+i*k)
section
variable (W:WC)
mutual
def wpE:IE->St3->MH->VK3->XN->Prop
 |.var i,Z,M,Q,_=>match Z[i]? with
  |some (some d)=>Q d M
  |_=>False
 |.con d,_,M,Q,_=>Q d M
 |.bin op a b,Z,M,Q,E=>wpE a Z M (λx M1=>wpE b Z M1 (λy M2=>lC op x y M2 Q) E) E
 |.neg a,Z,M,Q,E=>wpE a Z M (λx M1=>rNeg x M1 Q) E
 |.cat fz a b,Z,M,Q,E=>wpE a Z M (λx M1=>wpE b Z M1 (λy M2=>jO fz x y M2 Q) E) E
 |.cmp op a b,Z,M,Q,E=>wpE a Z M (λx M1=>wpE b Z M1 (λy M2=>aI op x y M2 Q) E) E
 |.chain op LR a b c,Z,M,Q,E=>wpE a Z M (λx M1=>wpE b Z M1 (λy M2=>aI op x y M2 λr M3=>match r with
  |.bl k=>if k=true then wpE c Z M3 (λz M4=>aI LR y z M4 Q) E else Q (.bl false) M3
  |_=>False) E) E
 |.and a b,Z,M,Q,E=>wpE a Z M (λx M1=>match x with
  |.bl c=>if c=true then wpE b Z M1 Q E else Q (.bl false) M1
  |_=>False) E
 |.or a b,Z,M,Q,E=>wpE a Z M (λx M1=>match x with
  |.bl c=>if c=true then Q (.bl true) M1 else wpE b Z M1 Q E
  |_=>False) E
 |.not a,Z,M,Q,E=>wpE a Z M (λx M1=>match x with
  |.bl c=>Q (.bl (!c)) M1
  |_=>False) E
 |.tup es,Z,M,Q,E=>wpA es Z M (λxs M1=>xs.length<=sizeLine/\Q (.tup xs) M1) E
 |.lst fz es,Z,M,Q,E=>wpA es Z M (λxs M1=>fc fz xs M1 Q) E
 |.u_ e,Z,M,Q,E=>wpE e Z M (aY Q) E
 |.ix a b,Z,M,Q,E=>wpE a Z M (λx M1=>wpE b Z M1 (λy M2=>ar x y M2 Q) E) E
 |.sl fz a lo hi,Z,M,Q,E=>wpE a Z M (λx M1=>wpO lo Z M1 (λl M2=>wpO hi Z M2 (λh M3=>oX fz x l h M3 Q) E) E) E
 |.call f es,Z,M,Q,E=>wpA es Z M (λxs M1=>W.call f xs M1 Q E) E
 |.bi b es,Z,M,Q,E=>wpA es Z M (λxs M1=>rBi b xs M1 Q) E
 |.MJ e t,Z,M,Q,E=>wpE e Z M (λx M1=>lE t x M1 Q) E
 |.MZ k v,Z,M,Q,E=>∀p,M p=none->wpE k Z (put M p (.dt [] [])) (λx M1=>wpE v Z M1 (λy M2=>jC p x y M2 Q) E) E
 |.comp fz _ js tg it cond A_,Z,M,Q,E=>wpI it Z M (λds S M1=>∀p,M1 p=none->
   bM (wpG tg) (λZ M Q=>kY cond Z M Q (λ_ _=>False)) (λZ M Q=>wpE A_ Z M Q (λ_ _=>False)) S p (if fz=true then j9 Q else Q) ds [] (ax js Z) (put M1 p (.lst []))) E
 |.Mp _ js tg o cond A_,Z,M,Q,E=>wpE o Z M (λx M1=>wV x M1 λd ks es=>∀φ p,M1 p=none->
   bM (wpG tg) (λZ M Q=>kY cond Z M Q (λ_ _=>False)) (λZ M Q=>wpE A_ Z M Q (λ_ _=>False)) (λM=>M d=some (.w_ φ)) p (λy M2=>Q y (put M2 d (.dn ks es))) (aT ks es) [] (ax js Z) (put (put M1 d (.w_ φ)) p (.lst []))) E
 |.Pc e,Z,M,Q,E=>wpE e Z M (λx M1=>rMp x M1 Q) E
 |.fld e f,Z,M,Q,E=>wpE e Z M (λx M1=>d7 W.toWB f x M1 Q) E
 |.make fz i es,Z,M,Q,E=>wpA es Z M (λxs M1=>i<W.nk/\gc (W.ini i) λf=>∀p,M1 p=none->
   W.call f (.ref p::xs) (put M1 p (.ins i (W.c_ i) [] [])) (λv M2=>v=.i_/\if fz=true then aY Q (.ref p) M2 else Q (.ref p) M2) (λi M'=>E i (del M' p))) E
 |.v_ e m es,Z,M,Q,E=>wpE e Z M (λx M1=>cr W.toWB m x M1 λf=>wpA es Z M1 (λxs M2=>W.call f (x::xs) M2 Q E) E) E
 |.ini i es,Z,M,Q,E=>wpA es Z M (λxs M1=>i<W.nk/\gc (W.ini i) λf=>W.call f xs M1 Q E) E
 |.glo k,_,M,Q,_=>Q (W.glo k) M
 |.bm b o es,Z,M,Q,E=>wpE o Z M (λx M1=>tyB b x M1=true/\wpA es Z M1 (λxs M2=>rBm b x xs M2 Q) E) E
 |.LH tk,_,M,Q,_=>∀p,M p=none->Q (.ref p) (put M p (dN tk))
def wpT:IT->St3->MH->(Bool->MH->Prop)->XN->Prop
 |.val e,Z,M,Q,E=>wpE e Z M (λx M1=>match x with
  |.bl k=>Q k M1
  |_=>False) E
 |.cmp op a b,Z,M,Q,E=>wpE a Z M (λx M1=>wpE b Z M1 (λy M2=>aI op x y M2 λr M3=>match r with
  |.bl k=>Q k M3
  |_=>False) E) E
 |.chain op LR a b c,Z,M,Q,E=>wpE a Z M (λx M1=>wpE b Z M1 (λy M2=>aI op x y M2 λr M3=>match r with
  |.bl k=>if k=true then wpE c Z M3 (λz M4=>aI LR y z M4 λr M5=>match r with
   |.bl k=>Q k M5
   |_=>False) E else Q false M3
  |_=>False) E) E
 |.and a b,Z,M,Q,E=>wpT a Z M (λc M1=>if c=true then wpT b Z M1 Q E else Q false M1) E
 |.or a b,Z,M,Q,E=>wpT a Z M (λc M1=>if c=true then Q true M1 else wpT b Z M1 Q E) E
 |.not a,Z,M,Q,E=>wpT a Z M (λc M1=>Q (!c) M1) E
def wpA:IA->St3->MH->(List D->MH->Prop)->XN->Prop
 |.nil,_,M,Q,_=>Q [] M
 |.cons e r,Z,M,Q,E=>wpE e Z M (λx M1=>wpA r Z M1 (λxs M2=>Q (x::xs) M2) E) E
def wpO:IO->St3->MH->(Option Int->MH->Prop)->XN->Prop
 |.no,_,M,Q,_=>Q none M
 |.yes e,Z,M,Q,E=>wpE e Z M (λx M1=>match x with
  |.int i=>Q (some i) M1
  |_=>False) E
def kY:ITO->St3->MH->(Bool->MH->Prop)->XN->Prop
 |.no,_,M,Q,_=>Q true M
 |.yes e,Z,M,Q,E=>wpT e Z M Q E
def wpI:II->St3->MH->(List D->(MH->Prop)->MH->Prop)->XN->Prop
 |.seq e,Z,M,R,E=>wpE e Z M (λx M1=>match x with
  |.tup ds=>R ds (λ_=>True) M1
  |.g_ ds=>R ds (λ_=>True) M1
  |.ref a=>match M1 a with
   |some (.lst ds)=>R ds (λM=>M a=some (.lst ds)) M1
   |_=>False
  |_=>False) E
 |.enum a,Z,M,R,E=>wpE a Z M (λx M1=>match x with
  |.g_ ds=>R (cj 0 ds) (λ_=>True) M1
  |.ref a=>match M1 a with
   |some (.lst ds)=>R (cj 0 ds) (λM=>M a=some (.lst ds)) M1
   |_=>False
  |_=>False) E
 |.zip a b,Z,M,R,E=>wpE a Z M (λx M1=>wpE b Z M1 (λy M2=>rLs x M2 λxs S=>rLs y M2 λys S'=>R (lG xs ys) (λM=>S M/\S' M) M2) E) E
 |.items a,Z,M,R,E=>wpE a Z M (λx M1=>match x with
  |.I_ ks ds=>R (aw ks ds) (λ_=>True) M1
  |.Mo ks ds=>R (gz ks ds) (λ_=>True) M1
  |_=>False) E
 |.dk a,Z,M,R,E=>wpE a Z M (λx M1=>match x with
  |.I_ ks ds=>R (ks.map bR) (λ_=>True) M1
  |_=>False) E
 |.My a,Z,M,R,E=>wpE a Z M (λx M1=>match x with
  |.int j=>-(2 ^ 62)<=j/\j<2 ^ 62/\R (rng 0 j.toNat) (λ_=>True) M1
  |_=>False) E
end
def cG(g:D->St3->MH->(St3->MH->Prop)->Prop)(tb:Ends3->St3->MH->Prop)(S:MH->Prop)(D:Ends3):List L2.D->St3->MH->Prop
 |[],Z,M=>S M/\D.nx Z M
 |d::r,Z,M=>S M/\g d Z M λL7 M2=>tb {D with nx:=cG g tb S D r,ct:=cG g tb S D r,bk:=D.nx} L7 M2
mutual
def wpS:IS->Ends3->(St3->XN)->St3->MH->Prop
 |.set i e,D,E,Z,M=>wpE W e Z M (λx M1=>D.nx (Z.set i (some x)) M1) (E Z)
 |.Oe is e,D,E,Z,M=>wpE W e Z M (λx M1=>match x with
  |.tup ds=>ds.length=is.length/\D.nx ((is.zip ds).foldl (λZ p=>Z.set p.1 (some p.2)) Z) M1
  |_=>False) (E Z)
 |.expr e,D,E,Z,M=>wpE W e Z M (λ_ M1=>D.nx Z M1) (E Z)
 |.ret e,D,E,Z,M=>wpE W e Z M D.rt (E Z)
 |.ML,D,_,_,M=>D.rt .i_ M
 |.ifs c a b,D,E,Z,M=>wpT W c Z M (λk M1=>if k=true then aR a D E Z M1 else aR b D E Z M1) (E Z)
 |.Ls tg it body,D,E,Z,M=>wpI W it Z M (λds S M1=>cG (wpG tg) (λD Z M=>aR body D E Z M) S D ds Z M1) (E Z)
 |.P9 c body,D,E,Z,M=>∃P:Nat->St3->MH->Prop,(∃m,P m Z M)/\∀m Z M,P m Z M->wpT W c Z M (λb M1=>if b=true then
   aR body {D with nx:=λl_ M'=>∃m',m' < m/\P m' l_ M',ct:=λl_ M'=>∃m',m' < m/\P m' l_ M',bk:=D.nx} E Z M1 else D.nx Z M1) (E Z)
 |.app o e,D,E,Z,M=>wpE W o Z M (λx M1=>match x with
  |.ref a=>match M1 a with
   |some (.lst _)=>wpE W e Z M1 (λy M2=>match M2 a with
    |some (.lst ds)=>ds.length<sizeLine/\D.nx Z (put M2 a (.lst (ds++[y])))
    |_=>False) (E Z)
   |_=>False
  |_=>False) (E Z)
 |.del i,D,_,Z,M=>match Z[i]? with
  |some (some x)=>aY (λy M'=>D.nx (Z.set i (some y)) M') x M
  |_=>False
 |.LV o f e,D,E,Z,M=>wpE W e Z M (λy M1=>wpE W o Z M1 (λx M2=>match x with
  |.ref a=>match M2 a with
   |some (.ins i C ns ds)=>(C=W.c_ i/\i<W.nk/\W.fok i f=true/\ns.length<1000)/\D.nx Z (put M2 a (.ins i C (ca f ns) (ce f y ns ds)))
   |_=>False
  |_=>False) (E Z)) (E Z)
 |.F_ o i e,D,E,Z,M=>wpE W e Z M (λy M1=>wpE W o Z M1 (λx M2=>wpE W i Z M2 (λk M3=>az x k y M3 λM4=>D.nx Z M4) (E Z)) (E Z)) (E Z)
 |.dead,_,_,_,_=>False
 |.M9 tg o body,D,E,Z,M=>wpE W o Z M (λx M1=>lA x M1 λd ks es=>∀φ,cG (wpG tg) (λD Z M=>aR body D (λ_ _ _=>False) Z M) (λM=>M d=some (.w_ φ)) (iC d φ ks es D) (aw ks es) Z (put M1 d (.w_ φ))) (E Z)
 |.M8 tg o body,D,E,Z,M=>wpE W o Z M (λx M1=>lA x M1 λd ks es=>∀φ,cG (wpG tg) (λD Z M=>aR body D (λ_ _ _=>False) Z M) (λM=>M d=some (.w_ φ)) (iC d φ ks es D) (ks.map bR) Z (put M1 d (.w_ φ))) (E Z)
def aR:ISs->Ends3->(St3->XN)->St3->MH->Prop
 |.nil,D,_,Z,M=>D.nx Z M
 |.cons s r,D,E,Z,M=>wpS s {D with nx:=λl_ M'=>aR r D E l_ M'} E Z M
end
end
def LkE(K:Lr)(cls:Nat->Addr)(H:Hp)(E3:XN)(E:XK):Prop:=∀i M' H',TM K H H'->RelM K M' H'->E3 i M'->∀dx,XD K H' i dx->E (.ref (cls i.c)) dx H'
def LkS(K:Lr)(cls:Nat->Addr)(H:Hp)(E3:St3->XN)(E2:St->XK):Prop:=∀h_ Z i M' H',TM K H H'->DenS K H' h_ Z->RelM K M' H'->E3 h_ i M'->∀dx,XD K H' i dx->E2 Z (.ref (cls i.c)) dx H'
section
variable {K:Lr}
theorem LkE.mono(h:LkE K cls H E3 E)(t:TM K H H1):LkE K cls H1 E3 E:=λi M' H' t' r q=>h i M' H' (t.trans t') r q
theorem LkS.mono(h:LkS K cls H E3 E2)(t:TM K H H1):LkS K cls H1 E3 E2:=λh_ Z i M' H' t' d r q=>h h_ Z i M' H' (t.trans t') d r q
theorem LkS.at(h:LkS K cls H E3 E2)(ds:DenS K H h_ Z):LkE K cls H (E3 h_) (E2 Z):=λi M' H' t r q=>h h_ Z i M' H' t (ds.mono t) r q
theorem LkE.no:LkE K cls H (λ_ _=>False) E:=λ_ _ _ _ _ h=>h.elim
theorem Back.mono(h:Back K H Q Q2)(t:TM K H H1):Back K H1 Q Q2:=λv H' d M' a b c e=>h v H' d M' a b (t.trans c) e
end
section
variable (K:Lr) (cls:Nat->Addr) (E2:St->XK)
def low(t:St3->MH->VK3->XN->Prop):TE:=λZ H Q2=>∃h_ M Q E3,RelM K M H/\DenS K H h_ Z/\LkE K cls H E3 (E2 Z)/\t h_ M Q E3/\Back K H Q Q2
def cu(t:St3->MH->(Bool->MH->Prop)->XN->Prop):TT:=λZ H Q2=>∃h_ M Q E3,RelM K M H/\DenS K H h_ Z/\LkE K cls H E3 (E2 Z)/\t h_ M Q E3/\∀b H' M',RelM K M' H'->TM K H H'->Q b M'->Q2 b H'
def eN(t:St3->MH->(List D->MH->Prop)->XN->Prop):TA:=λZ H Q2=>∃h_ M Q E3,RelM K M H/\DenS K H h_ Z/\LkE K cls H E3 (E2 Z)/\t h_ M Q E3/\∀vs H' ds M',DenL K H' ds vs->RelM K M' H'->TM K H H'->Q ds M'->Q2 vs H'
def uj(t:St3->MH->(Option Int->MH->Prop)->XN->Prop):TO:=λZ H Q2=>∃h_ M Q E3,RelM K M H/\DenS K H h_ Z/\LkE K cls H E3 (E2 Z)/\t h_ M Q E3/\∀o H' M',RelM K M' H'->TM K H H'->Q o M'->Q2 o H'
def lm(t:St3->MH->(List D->(MH->Prop)->MH->Prop)->XN->Prop):TI:=λZ H R2=>∃h_ M R E3,RelM K M H/\DenS K H h_ Z/\LkE K cls H E3 (E2 Z)/\t h_ M R E3/\∀J H' ds S M',ItOk K H' J ds S->RelM K M' H'->TM K H H'->R ds S M'->R2 J H'
def bH(t:Ends3->(St3->XN)->St3->MH->Prop):TS:=λD2 Z H=>∃h_ M D3 E3,RelM K M H/\DenS K H h_ Z/\LkS K cls H E3 E2/\t D3 E3 h_ M/\ER K H D3 D2
def k7(t:D->St3->MH->(St3->MH->Prop)->Prop):TG:=λv Z H Q2=>∃d h_ M Q,Den K H d v/\RelM K M H/\DenS K H h_ Z/\t d h_ M Q/\BackS K H Q Q2
end
section
variable {X:Cx}{st:Stmt}
theorem PE.imp(h:PE X e t)(f:∀Z H Q,t' Z H Q->t Z H Q):PE X e t':=λa_ s Z H Q I q=>h a_ s Z H Q I (f Z H Q q)
theorem PT.imp(h:PT X e t)(f:∀Z H Q,t' Z H Q->t Z H Q):PT X e t':=λa_ s Z H Q I q=>h a_ s Z H Q I (f Z H Q q)
theorem PW.imp(h:PW X e t)(f:∀Z H Q,t' Z H Q->t Z H Q):PW X e t':=λwhole a_ s Z H Q I q=>h whole a_ s Z H Q I (f Z H Q q)
theorem PA.imp(h:PA X es t)(f:∀Z H Q,t' Z H Q->t Z H Q):PA X es t':=λpos a_ s Z H Q I q=>h pos a_ s Z H Q I (f Z H Q q)
theorem PO.imp(h:PO X o t)(f:∀Z H Q,t' Z H Q->t Z H Q):PO X o t':=λa_ s Z H Q I q=>h a_ s Z H Q I (f Z H Q q)
theorem PI.imp(h:PI X tg e t)(f:∀Z H Q,t' Z H Q->t Z H Q):PI X tg e t':=λa_ s Z H Q I q=>h a_ s Z H Q I (f Z H Q q)
theorem PS.imp(h:PS X st t)(f:∀D Z H,t' D Z H->t D Z H):PS X st t':=λa_ s Z H D I q=>h a_ s Z H D I (f D Z H q)
theorem PSs.imp(h:PSs X M_ t)(f:∀D Z H,t' D Z H->t D Z H):PSs X M_ t':=λa_ s Z H D I q=>h a_ s Z H D I (f D Z H q)
theorem PG.imp(h:PG X e t)(f:∀v Z H Q,t' v Z H Q->t v Z H Q):PG X e t':=λa_ s Z H v u Q I r q=>h a_ s Z H v u Q I r (f v Z H Q q)
end
section
variable {X:Cx}{s:Shared}
theorem HOk.freeze(x:HOk P w H h)(e:H a=some (.lst xs)):∃o,HOk P w (upd H a (.u_ o (.lst xs))) h:=by
 obtain⟨o,ho⟩:=(x a _ e).isAt;refine⟨o,λb u q=>?_⟩
 have own:∀c y,H c=some (.own y)->(upd H a (.u_ o (.lst xs))) c=some (.own y):=λc y z=>by
  rw[ah (dC z e (λw=>nomatch w))];exact z
 have tup:∀c ys,H c=some (.tup ys)->(upd H a (.u_ o (.lst xs))) c=some (.tup ys):=λc ys z=>by
  rw[ah (dC z e (λw=>nomatch w))];exact z
 by_cases hb:b=a
 ·subst hb;rw[ai]at q;cases q;exact⟨ho,(x b _ e).stay (λ_ _ _ q=>q) (λc z=>own c _ z) λc ys z=>tup c ys z⟩
 ·rw[ah hb]at q;exact (x b u q).stay (λ_ _ _ q=>q) (λc z=>own c _ z) λc ys z=>tup c ys z
theorem Inv.freeze(I:Inv X a_ Z H s)(e:H a=some (.lst xs)):∃o,Inv X a_ Z (upd H a (.u_ o (.lst xs))) s:=by
 obtain⟨o,ok⟩:=I.j_.freeze e;have ne:∀b,H b=none->b≠a:=λb z=>λq=>by rw[q,e]at z;cases z
 refine⟨o,⟨I.ok,I.os,I.bare,⟨I.base.keep,I.base.slot,λb ob q n hx=>?_,I.base.there,λb ys q=>?_,λb ob u q=>?_,λb ps q=>?_⟩,I.loc,I.cell,?_,λx c z=>?_,λp hp=>?_,ok,I.len⟩⟩
 ·have z:=I.base.free b ob q n hx;rw[ah (ne b z)];exact z
 ·have z:=I.base.tups b ys q;rw[ah (dC z e (λw=>nomatch w))];exact z
 ·have z:=I.base.LG b ob u q;rw[ah (dC z e (λw=>nomatch w))];exact z
 ·obtain⟨Ml,z⟩:=I.base.LP b ps q;exact⟨Ml,by rw[ah (dC z e (λw=>nomatch w))];exact z⟩
 ·rw[ah (ne _ I.free)];exact I.free
 ·rw[ah (ne _ (I.freeC x c z))];exact I.freeC x c z
 ·obtain⟨p1,p2,p3⟩:=I.pin p hp;exact⟨p1,by rw[ah (ne _ p2)];exact p2,p3⟩
end
section
variable {K:Lr}{xs:List V}
theorem TM.freeze(e:H a=some (.lst xs)):TM K H (upd H a (.u_ o (.lst xs))):=
 .put e (λ_=>λz=>nomatch z) λ_ _=>λz=>nomatch z
theorem RelM.freeze(r:RelM K M H)(e:H a=some (.lst xs)):RelM K (del M a) (upd H a (.u_ o (.lst xs))):=λb u q=>by
 obtain⟨ne,q⟩:=mY q;exact (r b u q).stay (.freeze e) (ah ne)
theorem f8(h:DenL K H ds xs)(e:H a=some (.lst xs)):Den K (upd H a (.u_ o (.lst xs))) (.g_ ds) (.ref a):=⟨a,xs,rfl,.inl ⟨o,ai⟩,h.mono (.freeze e)⟩
end
theorem cB{X:Cx}
  (I:Inv X a_ Z (upd H p (.lst vs)) s) (hp:H p=none) (dl:DenL X.K H ds vs)(rm:RelM X.K M H)(tm:TM X.K H0 H)(h:fc fz ds M Q)(b_:Back X.K H0 Q Q2):EP X a_ Z Q2 (.ref p) s:=by
 obtain⟨_,h⟩:=h;cases fz with
 |true=>
  obtain⟨o,I2⟩:=I.freeze ai;refine⟨.ref p,_,I2,rfl,b_ _ _ _ _ (f8 (dl.mono (.new hp)) ai) ?_ (tm.trans ((TM.new hp).trans (.freeze ai))) h⟩;have r2:RelM X.K (put M p (.lst ds)) (upd H p (.lst vs)):=rm.lay hp ⟨vs,ai,dl.mono (.new hp)⟩;have r3:=r2.freeze (o:=o) ai;rw[gT (rm.fresh hp)]at r3;exact r3
 |false=>
  exact⟨.ref p,_,I,rfl,b_ _ _ _ _ gV (rm.lay (u:=.lst ds) hp ⟨vs,ai,dl.mono (.new hp)⟩) (tm.trans (.new hp)) (h p (rm.fresh hp))⟩
def RdL(K:Lr)(H:Hp)(p:Addr)(vs:List V):Prop:=Rd H p (.lst vs)\/SqM K p vs
theorem RdL.sq{K:Lr}(h:RdL K H p vs):SqL K H p vs:=by
 rcases h with h|h
 ·exact .inl h
 ·exact h.sq
theorem SqF.rd{K:Lr}(h:SqF K H p vs):RdL K H p vs:=by
 rcases h with h|h
 ·exact .inl (.inr h)
 ·exact .inr h
theorem aZ{K:Lr}(rm:RelM K M H)(h:ak M x=some ds)(dv:Den K H x v):∃p vs,v=.ref p/\RdL K H p vs/\DenL K H ds vs:=by
 cases x with
 |g_ es=>
  cases (show es=ds from KA h);obtain⟨p,vs,e,s,l⟩:=dv;exact⟨p,vs,e,s.rd,l⟩
 |ref a=>
  have h:(match M a with|some (.lst ds)=>some ds|_=>none)=some ds:=h
  split at h
  next es q=>
   cases h;obtain⟨vs,e,l⟩:=rm a _ q;exact⟨a,vs,dv,.inl (.inl e),l⟩
  next=>cases h
 |_=>cases h
theorem ik{K:Lr}(rm:RelM K M H)(h:aA M x=some ds)(dv:Den K H x v):∃p vs,v=.ref p/\(SqL K H p vs\/SqT K H p vs)/\DenL K H ds vs:=by
 cases x with
 |tup es=>
  cases (show es=ds from KA h);obtain⟨p,vs,e,s,l⟩:=dv;exact⟨p,vs,e,.inr s,l⟩
 |g_ es=>obtain⟨p,vs,e,s,l⟩:=aZ rm (show ak M (.g_ es)=some ds from h) dv;exact⟨p,vs,e,.inl s.sq,l⟩
 |ref a=>obtain⟨p,vs,e,s,l⟩:=aZ rm (show ak M (.ref a)=some ds from h) dv;exact⟨p,vs,e,.inl s.sq,l⟩
 |_=>cases h
theorem Inv.rdL{X:Cx}{s:Shared}{xs:List V}(I:Inv X a_ Z H s)(h:RdL X.K H l xs):xs.length<=sizeLine/\∃(f_:List Value) (n:Nat),Vals xs f_/\xs.length=f_.length/\s.heap.get? l=some {cls:=.type "list",data:=.seq f_.toArray n}:=by
 rcases h with h|⟨f_,n,e,z,r⟩
 ·obtain⟨z,f_,n,r,e⟩:=h.ok I.j_;exact⟨z,f_,n,r,r.length,e⟩
 ·exact⟨by rw[r.length];exact z,f_,n,r,r.length,I.kIn _ _ e⟩
def wb:HO->Bool
 |.lst _=>true
 |.dK _=>true
 |.dT _=>true
 |.ins _ _ _=>true
 |.ext _=>true
 |_=>false
theorem nK(h:wb u=true):(∀y,HO.own y≠u)/\(∀xs,HO.tup xs≠u)/\(∀o v,HO.u_ o v≠u)/\∀ps,HO.Ng ps≠u:=by
 cases u<;>first
  |(cases h;done)
  |exact⟨λ_ z=>(by cases z),λ_ z=>(by cases z),λ_ _ z=>(by cases z),λ_ z=>(by cases z)⟩
section
variable {X:Cx}
theorem HOk.frzU(x:HOk P w H h)(e:H a=some u)(hu:wb u=true):∃o,HOk P w (upd H a (.u_ o u)) h:=by
 obtain⟨n1,n2,_,_⟩:=nK hu;obtain⟨o,ho⟩:=(x a _ e).isAt;refine⟨o,λb v q=>?_⟩
 have own:∀c y,H c=some (.own y)->(upd H a (.u_ o u)) c=some (.own y):=λc y z=>by
  rw[ah (dC z e (n1 y))];exact z
 have tup:∀c ys,H c=some (.tup ys)->(upd H a (.u_ o u)) c=some (.tup ys):=λc ys z=>by
  rw[ah (dC z e (n2 ys))];exact z
 by_cases hb:b=a
 ·subst hb;rw[ai]at q;cases q;exact⟨ho,(x b _ e).stay (λ_ _ _ q=>q) (λc z=>own c _ z) λc ys z=>tup c ys z⟩
 ·rw[ah hb]at q;exact (x b v q).stay (λ_ _ _ q=>q) (λc z=>own c _ z) λc ys z=>tup c ys z
theorem Inv.frzU(I:Inv X a_ Z H s)(e:H a=some u)(hu:wb u=true):∃o,Inv X a_ Z (upd H a (.u_ o u)) s:=by
 obtain⟨n1,n2,n3,n4⟩:=nK hu;obtain⟨o,ok⟩:=I.j_.frzU e hu;have ne:∀b,H b=none->b≠a:=λb z=>λq=>by rw[q,e]at z;cases z
 refine⟨o,⟨I.ok,I.os,I.bare,⟨I.base.keep,I.base.slot,λb ob q n hx=>?_,I.base.there,λb ys q=>?_,λb ob u q=>?_,λb ps q=>?_⟩,I.loc,I.cell,?_,λx c z=>?_,λp hp=>?_,ok,I.len⟩⟩
 ·have z:=I.base.free b ob q n hx;rw[ah (ne b z)];exact z
 ·have z:=I.base.tups b ys q;rw[ah (dC z e (n2 _))];exact z
 ·have z:=I.base.LG b ob u q;rw[ah (dC z e (n3 _ _))];exact z
 ·obtain⟨Ml,z⟩:=I.base.LP b ps q;exact⟨Ml,by rw[ah (dC z e (n4 _))];exact z⟩
 ·rw[ah (ne _ I.free)];exact I.free
 ·rw[ah (ne _ (I.freeC x c z))];exact I.freeC x c z
 ·obtain⟨p1,p2,p3⟩:=I.pin p hp;exact⟨p1,by rw[ah (ne _ p2)];exact p2,p3⟩
end
section
variable {K:Lr}
theorem TM.frzU(e:H a=some u)(hu:wb u=true):TM K H (upd H a (.u_ o u)):=by
 obtain⟨_,n2,n3,_⟩:=nK hu;exact .put e (λxs z=>n2 xs z.symm) λob v z=>n3 ob v z.symm
theorem RelM.frzU(r:RelM K M H)(e:H a=some u)(hu:wb u=true):RelM K (del M a) (upd H a (.u_ o u)):=λb v q=>by
 obtain⟨ne,q⟩:=mY q;exact (r b v q).stay (.frzU e hu) (ah ne)
end
def fzD:DO->D
 |.lst ds=>.g_ ds
 |.dk ks ds=>.Mo ks ds
 |.dt ks ds=>.I_ ks ds
 |.dn ks ds=>.I_ ks ds
 |.ins i C ns ds=>.obj i C ns ds
 |.exc _ _=>.i_
 |.w_ _=>.i_
theorem eP{X:Cx}(I:Inv X a_ Z H s)(rm:RelM X.K M H)(e:M a=some o)(ho:(∀i c,o≠.exc i c)/\(∀φ,o≠.w_ φ)/\∀ks ds,o≠.dn ks ds) :
  ∃H',Inv X a_ Z H' s/\TM X.K H H'/\RelM X.K (del M a) H'/\Den X.K H' (fzD o) (.ref a):=by
 cases o with
 |lst ds=>
  obtain⟨vs,e1,dl⟩:=rm a _ e;obtain⟨ob,I2⟩:=I.frzU e1 rfl;exact⟨_,I2,.frzU e1 rfl,rm.frzU e1 rfl,a,vs,rfl,.inl ⟨ob,ai⟩,dl.mono (.frzU e1 rfl)⟩
 |dk ks ds=>
  obtain⟨vs,e1,hl,dl⟩:=rm a _ e;obtain⟨ob,I2⟩:=I.frzU e1 rfl;exact⟨_,I2,.frzU e1 rfl,rm.frzU e1 rfl,a,vs,ob,rfl,ai,hl,dl.mono (.frzU e1 rfl)⟩
 |dt ks ds=>
  obtain⟨vs,xs,e1,z,dl⟩:=rm a _ e;obtain⟨ob,I2⟩:=I.frzU e1 rfl;have t:TM X.K H (upd H a (.u_ ob (.ext (tabT a xs)))):=.frzU e1 rfl;exact⟨_,I2,t,rm.frzU e1 rfl,a,vs,ob,xs,rfl,ai,z.mono t,dl.mono t⟩
 |ins i C ns ds=>
  obtain⟨dx,vs,e1,hl,dl⟩:=rm a _ e;obtain⟨ob,I2⟩:=I.frzU e1 rfl;exact⟨_,I2,.frzU e1 rfl,rm.frzU e1 rfl,a,vs,ob,dx,rfl,ai,hl,dl.mono (.frzU e1 rfl)⟩
 |exc i c=>exact absurd rfl (ho.1 i c)
 |w_ φ=>exact absurd rfl (ho.2.1 φ)
 |dn ks ds=>exact absurd rfl (ho.2.2 ks ds)
theorem fV{X:Cx}:∀{ds:List D}{vs:List V}{H:Hp}{M:MH}{R:List D->MH->Prop},Inv X a_ Z H s->RelM X.K M H->DenL X.K H ds vs->eL ds M R->
  ∃H' M' r,Inv X a_ Z H' s/\TM X.K H H'/\RelM X.K M' H'/\DenL X.K H' r vs/\R r M'
 |[],vs,H,M,R,I,rm,dl,h=>⟨H,M,[],I,.refl _,rm,dl,h⟩
 |d::ds,_,H,M,R,I,rm,dl,h=>by
  obtain⟨v,r,rfl,dv,dl⟩:=dl;have keep:∀(d:D),Den X.K H d v->eL ds M (λr M'=>R (d::r) M')->∃H' M' r',Inv X a_ Z H' s/\TM X.K H H'/\RelM X.K M' H'/\DenL X.K H' r' (v::r)/\R r' M':=λd dv h=>by
   obtain⟨H',M',r',I',t,q_,NV,q⟩:=fV I rm dl h;exact⟨H',M',d::r',I',t,q_,.cons (dv.mono t) NV,q⟩
  have fz:∀(a:Addr)(o:DO),v=.ref a->M a=some o->((∀i c,o≠.exc i c)/\(∀φ,o≠.w_ φ)/\∀ks ds,o≠.dn ks ds)->eL ds (del M a) (λr M'=>R (fzD o::r) M')->∃H' M' r',Inv X a_ Z H' s/\TM X.K H H'/\RelM X.K M' H'/\DenL X.K H' r' (v::r)/\R r' M':=λa o e eM ne h=>by
   subst e;obtain⟨H1,I1,t1,n_,d1⟩:=eP I rm eM ne;obtain⟨H',M',r',I',t,q_,NV,q⟩:=fV I1 n_ (dl.mono t1) h;exact⟨H',M',_::r',I',t1.trans t,q_,.cons (d1.mono t) NV,q⟩
  cases d with
  |ref a=>
   simp only[eL]at h;have e:v=.ref a:=dv;split at h
   ·rename_i es q;exact fz a (.lst es) e q ⟨nofun,nofun,nofun⟩ h
   ·rename_i ks es q;exact fz a (.dk ks es) e q ⟨nofun,nofun,nofun⟩ h
   ·rename_i ks es q;exact fz a (.dt ks es) e q ⟨nofun,nofun,nofun⟩ h
   ·exact keep _ dv h
  |_=>exact keep _ dv (by simpa only[eL] using h)
theorem nz{X:Cx}(I:Inv X a_ Z H s)(rm:RelM X.K M H)(dx:Den X.K H x v)(h:aY Q x M) :
  ∃H' M' d,Inv X a_ Z H' s/\TM X.K H H'/\RelM X.K M' H'/\Den X.K H' d v/\Q d M':=by
 unfold aY at h;split at h
 ·rename_i a;cases (show v=.ref a from dx);split at h
  ·rename_i es q;obtain⟨H1,I1,t1,n_,d1⟩:=eP I rm q ⟨nofun,nofun,nofun⟩;exact⟨H1,_,_,I1,t1,n_,d1,h⟩
  ·rename_i ks es q;obtain⟨H1,I1,t1,n_,d1⟩:=eP I rm q ⟨nofun,nofun,nofun⟩;exact⟨H1,_,_,I1,t1,n_,d1,h⟩
  ·rename_i ks es q;obtain⟨H1,I1,t1,n_,d1⟩:=eP I rm q ⟨nofun,nofun,nofun⟩;exact⟨H1,_,_,I1,t1,n_,d1,h⟩
  ·rename_i i C ns es q;obtain⟨H1,I1,t1,n_,d1⟩:=eP I rm q ⟨nofun,nofun,nofun⟩;obtain⟨a',vs,ob,Mt,e',he,hl,dl⟩:=d1;cases e';obtain⟨H2,M2,r,I2,t2,Lu,LX,q2⟩:=fV I1 n_ dl h;refine⟨H2,M2,.obj i C ns r,I2,t1.trans t2,Lu,?_,q2⟩;exact⟨a,vs,ob,Mt,rfl,t2.g _ _ _ he,hl,LX⟩
  ·exact h.elim
 ·exact h.elim
end L2
namespace L2
open PySem PySem.Spec PySem.Calls PyProof.Rows
section
variable {X:Cx}{D:Addr}
end
end L2
namespace L2
open PySem PySem.Spec PyProof.Rows
section
variable {X:Cx}
theorem kW:∀{xs ys:List D},bU xs ys=true->xs.length=ys.length
 |[],[],_=>rfl
 |[],_::_,h=>by simp[bU]at h
 |_::_,[],h=>by simp[bU]at h
 |x::xs,y::ys,h=>by
  simp only[bU,Kg]at h;rw[Ky,Ky,kW h.2]
theorem fY:∀{xs ys:List D},xs.length=ys.length->bU xs ys=(List.range xs.length).all λj=>eqD (xs.getD j .i_) (ys.getD j .i_)
 |[],[],_=>by simp[bU]
 |[],_::_,h=>by simp at h
 |_::_,[],h=>by simp at h
 |x::xs,y::ys,h=>by
  have ih:=fY (by simpa using h)
  simp only[bU,Ky,List.range_succ_eq_map,List.all_cons,List.all_map,ih];rfl
theorem wo{xs ys:List D}:bU xs ys=((List.range (min xs.length ys.length)).all (λj=>eqD (xs.getD j .i_) (ys.getD j .i_))&&(xs.length == ys.length)):=by
 by_cases h:xs.length=ys.length
 ·rw[fY h,h,Nat.min_self,beq_self_eq_true,Bool.and_true]
 ·have e1:(xs.length == ys.length)=false:=KM.mpr h;rw[e1,Bool.and_false];cases q:bU xs ys with
  |false=>rfl
  |true=>exact absurd (kW q) h
theorem nU{K:Lr}(I:Inv X a_ Z H s)(hK:K=X.K):∀(n:Nat) {x y:D}{v:V},plN n x=true->plN n y=true->Den K H x v->Den K H y v->x=y:=by
 subst hK;have lists:∀(n:Nat),(∀{x y:D}{v:V},plN n x=true->plN n y=true->Den X.K H x v->Den X.K H y v->x=y)->∀{xs ys:List D}{vs:List V},xs.all (plN n)=true->ys.all (plN n)=true->DenL X.K H xs vs->DenL X.K H ys vs->xs=ys:=by
  intro n ih xs
  induction xs with
  |nil=>
   intro ys vs _ _ h1 h2;cases (show vs=[] from h1);cases ys with
   |nil=>rfl
   |cons y ys=>obtain⟨_,_,e,_⟩:=h2;cases e
  |cons x xs QJ=>
   intro ys vs p1 p2 h1 h2;obtain⟨v,r,rfl,d1,l1⟩:=h1;cases ys with
   |nil=>cases (show v::r=[] from h2)
   |cons y ys=>
    obtain⟨v',r',e,d2,l2⟩:=h2;cases e;simp only[List.all_cons,Kg]at p1 p2;rw[ih p1.1 p2.1 d1 d2,QJ p1.2 p2.2 l1 l2]
 have NW:∀{p:Addr}{vs ws:List V},SqT X.K H p vs->SqF X.K H p ws->False:=λ{p vs ws} h1 h2=>by
  obtain⟨f_,_,t1,_⟩:=I.tuple h1;obtain⟨z,s_,n2,_,_,e2⟩:=I.rdL h2.rd;obtain⟨o,e1,c1,_⟩:=(show s.heap.IsTuple p f_.toArray from t1);rw[e2]at e1;cases e1;injection c1 with z;exact absurd z (by decide)
 have tt:∀{p:Addr}{vs ws:List V},SqT X.K H p vs->SqT X.K H p ws->vs=ws:=λ{p vs ws} q1 q2=>by
  obtain⟨f_,r1,t1,_⟩:=I.tuple q1;obtain⟨s_,r2,t2,_⟩:=I.tuple q2;obtain⟨o1,e1,c1,n1,f1⟩:=(show s.heap.IsTuple p f_.toArray from t1);obtain⟨o2,e2,c2,n2,f2⟩:=(show s.heap.IsTuple p s_.toArray from t2);rw[e1]at e2;cases e2;rw[f1]at f2;have:f_=s_:=by injection f2 with z;simpa using z
  subst this;exact r1.inj r2
 have ff:∀{p:Addr}{vs ws:List V},SqF X.K H p vs->SqF X.K H p ws->vs=ws:=λ{p vs ws} q1 q2=>by
  obtain⟨_,f_,n1,r1,_,e1⟩:=I.rdL q1.rd;obtain⟨_,s_,n2,r2,_,e2⟩:=I.rdL q2.rd;rw[e1]at e2;have:f_=s_:=by
   have z:=KA e2;injection z with z1 z2 z3 z4
   injection z3 with z5 z6
   simpa using z5
  subst this;exact r1.inj r2
 intro n
 induction n with
 |zero=>
  intro x y v p1 p2 d1 d2;cases x<;>cases y<;>first|(cases p1;done)|(cases p2;done)|(cases (show v=_ from d1);cases (show _=_ from d2)<;>rfl)
 |succ n ih=>
  intro x y v p1 p2 d1 d2;cases x<;>cases y<;>first|(cases p1;done)|(cases p2;done)|(cases (show v=_ from d1);cases (show _=_ from d2)<;>rfl)|(cases (show v=_ from d1);obtain⟨_,_,e,_⟩:=d2;cases e;done)|(obtain⟨_,_,rfl,_⟩:=d1;cases (show _=_ from d2);done)|(obtain⟨p,vs,rfl,q1,l1⟩:=d1;obtain⟨p',Mf,e,q2,l2⟩:=d2;cases e;first|exact (NW q1 q2).elim|exact (NW q2 q1).elim|(first|cases tt q1 q2|cases ff q1 q2);rw[lists n ih (by simpa [plN] using p1) (by simpa [plN] using p2) l1 l2])
theorem oa:∀(n:Nat) {x:D},plN n x=true->eqD x x=true:=by
 have lists:∀(n:Nat),(∀{x:D},plN n x=true->eqD x x=true)->∀{xs:List D},xs.all (plN n)=true->bU xs xs=true:=by
  intro n ih xs
  induction xs with
  |nil=>intro _;rfl
  |cons x xs QJ=>
   intro h;simp only[List.all_cons,Kg]at h;simp only[bU,Kg];exact⟨ih h.1,QJ h.2⟩
 intro n
 induction n with
 |zero=>exact λ{x} h=>by cases x<;>first|(cases h;done)|simp[eqD]
 |succ n ih=>exact λ{x} h=>by cases x<;>first|(cases h;done)|(simp only[eqD];exact lists n ih (by simpa [plN] using h))|simp[eqD]
theorem o5{K:Lr}(I:Inv X a_ Z H s)(hK:K=X.K)(n:Nat)(p1:plN n x=true)(p2:plN n y=true)(d1:Den K H x v)(d2:Den K H y v):eqD x y=true:=by
 rw[nU I hK n p1 p2 d1 d2];exact oa n p2
theorem BL(a b:Bool):eqD (.bl a) (.bl b)=(a == b):=by simp[eqD]
theorem Be(a:Bool)(b:Int):eqD (.bl a) (.int b)=((if a then 1 else 0) == b):=by simp[eqD];rfl
theorem Cs(a:Int)(b:Bool):eqD (.int a) (.bl b)=(a == (if b then 1 else 0)):=by simp[eqD];rfl
theorem AO(a b:Int):eqD (.int a) (.int b)=(a == b):=by simp[eqD];rfl
theorem Dh(a b:Str):eqD (.str a) (.str b)=(a == b):=by simp[eqD];rfl
abbrev Eq3(A:Around)(s:Shared)(v u:Value)(k:Bool):Prop:=SeqAt.RcAt A s v u k/\SeqAt.RcNeAt A s v u (!k)/\SeqAt.EqAt A s v u k
inductive Seen (s:Shared):D->Value->Prop where
 |i_:Seen s .i_ .none
 |bl (b:Bool):Seen s (.bl b) (.bool b)
 |int (i:Int) (t:Tok):Seen s (.int i) (.int i t)
 |str (x:Str) (t:Tok):Seen s (.str x) (.str x t)
 |tup {ds:List D}{p:Addr}{f_:List Value} (h:s.heap.IsTuple p f_.toArray):Seen s (.tup ds) (.ref p)
 |g_ {ds:List D}{p:Addr}{f_:List Value} (h:s.heap.IsList p f_.toArray):Seen s (.g_ ds) (.ref p)
theorem jp{X:Cx}(I:Inv X a_ Z H s)(p:plN n x=true)(d:Den X.K H x v)(r:RelV v v2):Seen s x v2:=by
 cases x with
 |i_=>cases (show v=.i_ from d);cases r;exact .i_
 |bl b=>cases (show v=.bl b from d);cases r;exact .bl b
 |int i=>cases (show v=.int i from d);obtain⟨t,rfl⟩:=r;exact .int i t
 |str i=>cases (show v=.str i from d);obtain⟨t,rfl⟩:=r;exact .str i t
 |tup ds=>
  obtain⟨q,vs,rfl,sq,_⟩:=d;cases r;obtain⟨f_,_,t,_⟩:=I.tuple sq;exact .tup t
 |g_ ds=>
  obtain⟨q,vs,rfl,sq,_⟩:=d;cases r;obtain⟨f_,_,t,_⟩:=I.list sq.sq;exact .g_ t.isList
 |ref a=>simp[plN]at p
 |obj _ _ _ _=>simp[plN]at p
 |Mo _ _=>simp[plN]at p
 |I_ _ _=>simp[plN]at p
theorem ve{A:Around}(hx:Seen s x v)(hy:Seen s y u)(hu:A.units<cLine)(seq:∀ds es,(x=.tup ds/\y=.tup es)\/(x=.g_ ds/\y=.g_ es)->Eq3 A s v u (eqD x y)):Eq3 A s v u (eqD x y):=by
 cases hx with
 |i_=>
  cases hy with
  |i_=>exact⟨.none_none,.none_none,.same _⟩
  |bl b=>exact⟨.none_bool b,.none_bool b,.none_bool b⟩
  |int b tb=>exact⟨.none_int b tb,.none_int b tb,.none_int b tb⟩
  |str b tb=>exact⟨.none_str b tb,.none_str b tb,.none_str b tb⟩
  |@tup es p2 s_ h2=>exact⟨.none_tuple h2 hu,.none_tuple h2 hu,.none_tuple h2 hu⟩
  |@g_ es p2 s_ h2=>exact⟨.none_list h2 hu,.none_list h2 hu,.none_list h2 hu⟩
 |bl a=>
  cases hy with
  |i_=>exact⟨.bool_none a,.bool_none a,.bool_none a⟩
  |bl b=>rw[BL];exact⟨.bool_bool a b,.bool_bool a b,.bool_bool a b⟩
  |int b tb=>rw[Be];exact⟨.bool_int a b tb,.bool_int a b tb,.bool_int a b tb⟩
  |str b tb=>exact⟨.bool_str a b tb,.bool_str a b tb,.bool_str a b tb⟩
  |@tup es p2 s_ h2=>exact⟨.bool_tuple a h2 hu,.bool_tuple a h2 hu,.bool_tuple a h2 hu⟩
  |@g_ es p2 s_ h2=>exact⟨.bool_list a h2 hu,.bool_list a h2 hu,.bool_list a h2 hu⟩
 |int a ta=>
  cases hy with
  |i_=>exact⟨.int_none a ta,.int_none a ta,.int_none a ta⟩
  |bl b=>rw[Cs];exact⟨.int_bool a ta b,.int_bool a ta b,.int_bool a ta b⟩
  |int b tb=>rw[AO];exact⟨.int_int a ta b tb,.int_int a ta b tb,.int_int a ta b tb⟩
  |str b tb=>exact⟨.int_str a ta b tb,.int_str a ta b tb,.int_str a ta b tb⟩
  |@tup es p2 s_ h2=>exact⟨.int_tuple a ta h2 hu,.int_tuple a ta h2 hu,.int_tuple a ta h2 hu⟩
  |@g_ es p2 s_ h2=>exact⟨.int_list a ta h2 hu,.int_list a ta h2 hu,.int_list a ta h2 hu⟩
 |str a ta=>
  cases hy with
  |i_=>exact⟨.str_none a ta,.str_none a ta,.str_none a ta⟩
  |bl b=>exact⟨.str_bool a ta b,.str_bool a ta b,.str_bool a ta b⟩
  |int b tb=>exact⟨.str_int a ta b tb,.str_int a ta b tb,.str_int a ta b tb⟩
  |str b tb=>rw[Dh];exact⟨.str_str a ta b tb,.str_str a ta b tb,.str_str a ta b tb⟩
  |@tup es p2 s_ h2=>exact⟨.str_tuple a ta h2 hu,.str_tuple a ta h2 hu,.str_tuple a ta h2 hu⟩
  |@g_ es p2 s_ h2=>exact⟨.str_list a ta h2 hu,.str_list a ta h2 hu,.str_list a ta h2 hu⟩
 |@tup ds p f_ h=>
  cases hy with
  |i_=>exact⟨.tuple_none h hu,.tuple_none h hu,.tuple_none h hu⟩
  |bl b=>exact⟨.tuple_bool b h hu,.tuple_bool b h hu,.tuple_bool b h hu⟩
  |int b tb=>exact⟨.tuple_int b tb h hu,.tuple_int b tb h hu,.tuple_int b tb h hu⟩
  |str b tb=>exact⟨.tuple_str b tb h hu,.tuple_str b tb h hu,.tuple_str b tb h hu⟩
  |@tup es p2 s_ h2=>exact seq ds es (.inl ⟨rfl,rfl⟩)
  |@g_ es p2 s_ h2=>exact⟨.tuple_list h h2 hu,.tuple_list h h2 hu,.tuple_list h h2 hu⟩
 |@g_ ds p f_ h=>
  cases hy with
  |i_=>exact⟨.list_none h hu,.list_none h hu,.list_none h hu⟩
  |bl b=>exact⟨.list_bool b h hu,.list_bool b h hu,.list_bool b h hu⟩
  |int b tb=>exact⟨.list_int b tb h hu,.list_int b tb h hu,.list_int b tb h hu⟩
  |str b tb=>exact⟨.list_str b tb h hu,.list_str b tb h hu,.list_str b tb h hu⟩
  |@tup es p2 s_ h2=>exact⟨.list_tuple h h2 hu,.list_tuple h h2 hu,.list_tuple h h2 hu⟩
  |@g_ es p2 s_ h2=>exact seq ds es (.inr ⟨rfl,rfl⟩)
theorem Cd{K:Lr}(I:Inv X a_ Z H s)(hK:K=X.K):∀(n:Nat) {A:Around}{x y:D}{v u:V}{v2 u2:Value},plN n x=true->plN n y=true->Den K H x v->Den K H y u->RelV v v2->RelV u u2->A.units+n<cLine->
  Eq3 A s v2 u2 (eqD x y):=by
 subst hK;have items:∀(n:Nat),(∀{A:Around}{x y:D}{v u:V}{v2 u2:Value},plN n x=true->plN n y=true->Den X.K H x v->Den X.K H y u->RelV v v2->RelV u u2->A.units+n<cLine->
   Eq3 A s v2 u2 (eqD x y))->∀{A:Around}{xs ys:List D}{vs us:List V}{f_ s_:List Value},xs.all (plN n)=true->ys.all (plN n)=true->DenL X.K H xs vs->DenL X.K H ys us->Vals vs f_->Vals us s_->A.units+(n+1)<cLine->
   ∀j (h1:j<f_.toArray.size)(h2:j<s_.toArray.size),SeqAt.EqAt A.in1 s f_.toArray[j] s_.toArray[j] (eqD (xs.getD j .i_) (ys.getD j .i_)):=by
  intro n ih A xs ys vs us f_ s_ p1 p2 l1 l2 r1 r2 hu j h1 h2;have h1:j<f_.length:=by simpa using h1
  have h2:j<s_.length:=by simpa using h2
  have hx:j<xs.length:=by rw[l1.length,r1.length];exact h1
  have hy:j<ys.length:=by rw[l2.length,r2.length];exact h2
  obtain⟨v,e1,d1⟩:=l1.get (i:=j) (d:=xs[j]) (by simp)
  obtain⟨u,e2,d2⟩:=l2.get (i:=j) (d:=ys[j]) (by simp)
  obtain⟨v2,e3,rv⟩:=r1.get e1;obtain⟨u2,e4,ru⟩:=r2.get e2;rw[show f_.toArray[j]=v2 by simpa [h1] using e3,show s_.toArray[j]=u2 by simpa [h2] using e4,show xs.getD j .i_=xs[j] by simp[hx],show ys.getD j .i_=ys[j] by simp[hy]]
  exact (ih (KE.mp p1 _ (K7 hx)) (KE.mp p2 _ (K7 hy)) d1 d2 rv ru (by show A.units+1+n<cLine;omega)).2.2
 intro n
 induction n with
 |zero=>
  intro A x y v u v2 u2 p1 p2 d1 d2 r1 r2 hu;refine ve (jp I p1 d1 r1) (jp I p2 d2 r2) (by omega) λds es z=>?_
  rcases z with ⟨rfl,rfl⟩|⟨rfl,rfl⟩<;>cases p1
 |succ n ih=>
  intro A x y v u v2 u2 p1 p2 d1 d2 r1 r2 hu;refine ve (jp I p1 d1 r1) (jp I p2 d2 r2) (by omega) λds es z=>?_
  rcases z with ⟨rfl,rfl⟩|⟨rfl,rfl⟩
  ·obtain⟨p,vs,rfl,q1,l1⟩:=id d1;obtain⟨p',us,rfl,q2,l2⟩:=id d2;cases r1;cases r2;obtain⟨f_,v1,t1,_⟩:=I.tuple q1;obtain⟨s_,v2,t2,_⟩:=I.tuple q2;have he:=items n ih (by simpa [plN] using p1) (by simpa [plN] using p2) l1 l2 v1 v2 hu
   have ee:eqD (.tup ds) (.tup es)=((List.range (min f_.toArray.size s_.toArray.size)).all (λj=>eqD (ds.getD j .i_) (es.getD j .i_))&&f_.toArray.size == s_.toArray.size):=by
    simp only[eqD];rw[wo,l1.length,v1.length,l2.length,v2.length];rfl
   have rc:=SeqAt.RcAt.tuples t1 t2 (by omega) he
   rw[<-ee]at rc;have rn:=SeqAt.RcNeAt.tuples t1 t2 (by omega) he
   rw[<-ee]at rn;refine⟨rc,rn,?_⟩;by_cases hp:p=p'
   ·subst hp;rw[o5 I rfl (n+1) p1 p2 d1 d2];exact .same _
   ·exact .of_refs hp rc
  ·obtain⟨p,vs,rfl,q1,l1⟩:=id d1;obtain⟨p',us,rfl,q2,l2⟩:=id d2;cases r1;cases r2;obtain⟨f_,v1,t1,_⟩:=I.list q1.sq;obtain⟨s_,v2,t2,_⟩:=I.list q2.sq;have he:=items n ih (by simpa [plN] using p1) (by simpa [plN] using p2) l1 l2 v1 v2 hu
   have QK:SeqAt.RcAt A s (.ref p) (.ref p') (eqD (.g_ ds) (.g_ es))/\SeqAt.RcNeAt A s (.ref p) (.ref p') (!eqD (.g_ ds) (.g_ es)):=by
    by_cases hl:f_.toArray.size=s_.toArray.size
    ·have ee:eqD (.g_ ds) (.g_ es)=(List.range f_.toArray.size).all λj=>eqD (ds.getD j .i_) (es.getD j .i_):=by
      have e1:ds.length=es.length:=by rw[l1.length,v1.length,l2.length,v2.length];simpa using hl
      simp only[eqD];rw[fY e1,l1.length,v1.length];rfl
     rw[ee];exact⟨.lists t1.isList t2.isList hl (by omega) he,.lists t1.isList t2.isList hl (by omega) he⟩
    ·have ee:eqD (.g_ ds) (.g_ es)=false:=by
      simp only[eqD];cases q:bU ds es with
      |false=>rfl
      |true=>
       have:=kW q;rw[l1.length,v1.length,l2.length,v2.length]at this;exact absurd (by simpa using this) hl
     rw[ee];exact⟨.lists_lengths t1.isList t2.isList (by simpa using hl) (by omega),.lists_lengths t1.isList t2.isList (by simpa using hl) (by omega)⟩
   refine⟨QK.1,QK.2,?_⟩;by_cases hp:p=p'
   ·subst hp;rw[o5 I rfl (n+1) p1 p2 d1 d2];exact .same _
   ·exact .of_refs hp QK.1
end
def VO(X:Cx)(f:Value->Value->Sem Value)(r:D->D->MH->VK3->Prop):Prop:=
 ∀(a_:List (Addr×Obj)) (s:Shared)(Z:St)(H:Hp)(x y:D)(v u:V)(v2 u2:Value)(M:MH)(Q:VK3)(Q2:VK),Inv X a_ Z H s->RelV v v2->RelV u u2->Den X.K H x v->Den X.K H y u->RelM X.K M H->r x y M Q->Back X.K H Q Q2->
  wpAny (model X.prog X.w) X.A (f v2 u2) (EP X a_ Z Q2) X.xe s
def VU(X:Cx)(f:Value->Sem Value)(r:D->MH->VK3->Prop):Prop:=
 ∀(a_:List (Addr×Obj)) (s:Shared)(Z:St)(H:Hp)(x:D)(v:V)(v2:Value)(M:MH)(Q:VK3)(Q2:VK),Inv X a_ Z H s->RelV v v2->Den X.K H x v->RelM X.K M H->r x M Q->Back X.K H Q Q2->
  wpAny (model X.prog X.w) X.A (f v2) (EP X a_ Z Q2) X.xe s
def VC(X:Cx)(f:Value)(r:List D->MH->VK3->Prop):Prop:=
 ∀(a_:List (Addr×Obj)) (s:Shared)(Z:St)(H:Hp)(xs:List D)(vs:List V)(us:List Value)(M:MH)(Q:VK3)(Q2:VK),Inv X a_ Z H s->Vals vs us->DenL X.K H xs vs->RelM X.K M H->r xs M Q->Back X.K H Q Q2->
  wpAny (model X.prog X.w) X.A (call f us) (EP X a_ Z Q2) X.xe s
section
variable {X:Cx}
theorem VO.of3(h:Op3 X f r):VO X f r:=by
 obtain⟨r2,h2,hl⟩:=h;exact λa_ s Z H x y v u v2 u2 M Q Q2 I rv ru dx dy rm q b_=>h2 a_ s Z H v u v2 u2 Q2 I rv ru (hl H x y v u M Q Q2 dx dy rm q b_)
theorem VU.of3(h:Un3 X f r):VU X f r:=by
 obtain⟨r2,h2,hl⟩:=h;exact λa_ s Z H x v v2 M Q Q2 I rv dx rm q b_=>h2 a_ s Z H v v2 Q2 I rv (hl H x v M Q Q2 dx rm q b_)
theorem VC.of3(h:tD X f r):VC X f r:=by
 obtain⟨r2,h2,hl⟩:=h;exact λa_ s Z H xs vs us M Q Q2 I rv dx rm q b_=>h2 a_ s Z H vs us Q2 I rv (hl H xs vs M Q Q2 dx rm q b_)
theorem VO.imp(h:VO X f r)(g:∀x y M Q,r' x y M Q->r x y M Q):VO X f r':=
 λa_ s Z H x y v u v2 u2 M Q Q2 I rv ru dx dy rm q b_=>h a_ s Z H x y v u v2 u2 M Q Q2 I rv ru dx dy rm (g x y M Q q) b_
theorem VU.imp(h:VU X f r)(g:∀x M Q,r' x M Q->r x M Q):VU X f r':=
 λa_ s Z H x v v2 M Q Q2 I rv dx rm q b_=>h a_ s Z H x v v2 M Q Q2 I rv dx rm (g x M Q q) b_
theorem VC.imp(h:VC X f r)(g:∀x M Q,r' x M Q->r x M Q):VC X f r':=
 λa_ s Z H x v v2 M Q Q2 I rv dx rm q b_=>h a_ s Z H x v v2 M Q Q2 I rv dx rm (g x M Q q) b_
theorem iL(h:rI2 g x y M Q):nB g x y M Q:=by
 unfold rI2 at h;split at h
 ·exact⟨_,_,rfl,rfl,h⟩
 ·exact h.elim
theorem nq(h:rII C g x y M Q):rI3 C g x y M Q:=by
 unfold rII at h;split at h
 ·exact⟨_,_,rfl,rfl,h⟩
 ·exact h.elim
theorem zC{s:Shared}{ws:List Value}(ht:IsTup s.heap t #[])(hb:IsTup s.heap b ws.toArray)(h:Q (.ref b) s):wpAny (model prog w) A (binaryOp .Add (.ref t) (.ref b)) Q E s:=by
 obtain⟨⟨cls,dd,data,sl⟩,ho,hc,n,hd⟩:=id ht;obtain⟨⟨Qs,Nj,data2,MQ⟩,N7,hc2,n2,hd2⟩:=id hb;subst hc hd hc2 hd2;exact concat_meets ⟨_,ho,rfl⟩ ⟨_,N7,rfl⟩ noFill_tuple_add seq_tuple_add PySem.F.slot_tuple_add PySem.F.entry_tuple_add (PySem.F.args_tuple_add_2 _ _) (tuple_addW0 t b #[] ws.toArray n n2 dd Nj sl MQ rfl) ⟨ho,N7,h⟩
theorem rM{a b:List D}(I:Inv X a_ Z H s)(rv:RelV v v2)(ru:RelV u u2)(dx:Den X.K H (.tup a) v)(dy:Den X.K H (.tup b) u)(rm:RelM X.K M H)
  (q:a.length+b.length<=sizeLine/\Q (.tup (a++b)) M) (b_:Back X.K H Q Q2):wpAny (model X.prog X.w) X.A (binaryOp .Add v2 u2) (EP X a_ Z Q2) X.xe s:=by
 obtain⟨p1,vs,rfl,Pd,Pe⟩:=dx;obtain⟨p2,us,rfl,Of,LX⟩:=dy;obtain⟨h2,q⟩:=q;by_cases h1:a=[]
 ·subst h1;cases (show vs=[] from Pe);cases rv;cases ru;obtain⟨f_,r1,SU,_⟩:=I.tuple Pd;obtain⟨s_,r2,SV,_⟩:=I.tuple Of;cases r1;exact zC SU SV ⟨.ref p2,H,I,rfl,b_ _ _ (.tup b) _ ⟨p2,us,rfl,Of,LX⟩ rm (.refl _) q⟩
 refine yA a_ s Z H _ _ v2 u2 Q2 I rv ru ⟨p1,p2,vs,us,rfl,rfl,Pd,Of,λz=>?_,by rw[<-Pe.length,<-LX.length];exact h2,λz=>?_,λ_ p hp=>?_⟩
 ·have:=Pe.length;rw[z]at this;cases a with
  |nil=>exact h1 rfl
  |cons _ _=>cases this
 ·have hb:b=[]:=List.length_eq_zero_iff.mp (by rw[LX.length,z];rfl)
  subst hb;rw[KZ]at q;exact b_ _ _ (.tup a) _ ⟨p1,vs,rfl,Pd,Pe⟩ rm (.refl _) q
 ·exact b_ _ _ (.tup (a++b)) _ ⟨p,_,rfl,.of ai,(Pe.append LX).mono (.new hp)⟩ (rm.grow hp) (.new hp) q
theorem Bz(op:Operator):VO X (binaryOp op) (lC op):=by
 cases op with
 |Add=>
  intro a_ s Z H x y v u v2 u2 M Q Q2 I rv ru dx dy rm q b_;have q':wJ x y M Q:=q;unfold wJ at q';split at q'
  ·exact VO.of3 Fe a_ s Z H _ _ v u v2 u2 M Q Q2 I rv ru dx dy rm ⟨_,_,rfl,rfl,q'⟩ b_
  ·exact rM I rv ru dx dy rm q' b_
  ·exact q'.elim
 |Sub=>exact (VO.of3 Eu).imp λ_ _ _ _ h=>iL h
 |Mult=>
  intro a_ s Z H x y v u v2 u2 M Q Q2 I rv ru dx dy rm q b_;have q':wE x y M Q:=q;unfold wE at q';split at q'
  ·exact VO.of3 FF a_ s Z H _ _ v u v2 u2 M Q Q2 I rv ru dx dy rm ⟨_,_,rfl,rfl,q'⟩ b_
  ·exact q'.elim
 |FloorDiv=>exact (VO.of3 Bj).imp λ_ _ _ _ h=>nq h
 |Mod=>exact (VO.of3 EF).imp λ_ _ _ _ h=>nq h
 |Pow=>exact (VO.of3 Ep).imp λ_ _ _ _ h=>nq h
 |RShift=>exact (VO.of3 EU).imp λ_ _ _ _ h=>nq h
 |BitAnd=>exact (VO.of3 Fv).imp λ_ _ _ _ h=>iL h
 |_=>exact λa_ s Z H x y v u v2 u2 M Q Q2 I rv ru dx dy rm q b_=>False.elim q
theorem CW:VU X (unaryOp .USub) rNeg:=(VU.of3 Ft).imp λx M Q h=>by
 unfold rNeg at h;split at h
 ·exact⟨_,rfl,h⟩
 ·exact h.elim
theorem Dj(fz:Bool):VO X (binaryOp .Add) (jO fz):=by
 intro a_ s Z H x y v u v2 u2 M Q Q2 I rv ru dx dy rm q b_;unfold jO at q;split at q
 next a b ea eb=>
  obtain⟨l,xs,rfl,hH,dl⟩:=aZ rm ea dx;obtain⟨b',zs,rfl,hB,LX⟩:=aZ rm eb dy;cases rv;cases ru;obtain⟨z,f_,n,r,hl,e⟩:=I.rdL hH;obtain⟨z2,s_,n2,r2,OK,e2⟩:=I.rdL hB;have H_:xs.length+zs.length<=sizeLine:=by
   have:=q.1;rw[KO,dl.length,LX.length]at this;exact this
  refine PySem.P.add_list e e2 ?_ (by rw[Kx,Kx];omega)
  have ea:f_.toArray++s_.toArray=(f_++s_).toArray:=by simp
  rw[ea];exact cB (I.lnew (r.append r2) (by rw[KO];omega)) I.fresh (dl.append LX) rm (.refl _) q b_
 next=>
  split at q
  ·exact rM I rv ru dx dy rm q b_
  ·exact q.elim
theorem xT{K:Lr}(rm:RelM K M H)(dx:Den K H x v)(hp:pl (res M x)=true) :
  (∃a ds,x=.ref a/\M a=some (.lst ds)/\res M x=.g_ ds)\/(res M x=x):=by
 cases x with
 |ref a=>
  cases e:M a with
  |none=>
   have:res M (.ref a)=.ref a:=by simp[res,ak,e]
   rw[this]at hp;simp[plN]at hp
  |some o=>
   cases o with
   |lst ds=>exact .inl ⟨a,ds,rfl,e,by simp[res,ak,e]⟩
   |_=>
    have:res M (.ref a)=.ref a:=by simp[res,ak,e]
    rw[this]at hp;simp[plN]at hp
 |g_ ds=>exact .inr rfl
 |_=>exact .inr rfl
theorem pT(I:Inv X a_ Z H s)(rm:RelM X.K M H)(dx:Den X.K H x v)(hp:pl (res M x)=true) :
  ∃H',Inv X a_ Z H' s/\TM X.K H H'/\Den X.K H' (res M x) v:=by
 rcases xT rm dx hp with ⟨a,ds,rfl,q,e⟩|e
 ·obtain⟨vs,e1,l⟩:=rm a _ q;obtain⟨o,I2⟩:=I.freeze e1;refine⟨_,I2,.freeze e1,?_⟩;rw[e];cases (show v=.ref a from dx);exact f8 l e1
 ·rw[e];exact⟨H,I,.refl _,dx⟩
def nE(K:Lr)(M:MH)(H:Hp):Prop:=∀a ds,M a=some (.lst ds)->∃vs,(H a=some (.lst vs)\/∃o,H a=some (.u_ o (.lst vs)))/\DenL K H ds vs
theorem RelM.z{K:Lr}(rm:RelM K M H):nE K M H:=λa ds q=>by
 obtain⟨vs,e,l⟩:=rm a _ q;exact⟨vs,.inl e,l⟩
theorem FT(I:Inv X a_ Z H s)(rz:nE X.K M H)(q:M a=some (.lst ds)) :
  ∃H',Inv X a_ Z H' s/\TM X.K H H'/\nE X.K M H'/\∃vs,SqF X.K H' a vs/\DenL X.K H' ds vs/\DenL X.K H ds vs:=by
 obtain⟨vs,e|⟨o,e⟩,l⟩:=rz a ds q
 ·obtain⟨o,I2⟩:=I.freeze e;have t:TM X.K H (upd H a (.u_ o (.lst vs))):=.freeze e;refine⟨_,I2,t,λb es qb=>?_,vs,.inl ⟨o,ai⟩,l.mono t,l⟩
  obtain⟨us,e2,l2⟩:=rz b es qb;by_cases hb:b=a
  ·subst hb;rw[q]at qb;cases qb;exact⟨vs,.inr ⟨o,ai⟩,l.mono t⟩
  ·refine⟨us,?_,l2.mono t⟩;rw[ah hb];exact e2
 ·exact⟨H,I,.refl _,rz,vs,.inl ⟨o,e⟩,l,l⟩
theorem FN(I:Inv X a_ Z H s)(rz:nE X.K M H)(dx:Den X.K H x v) :
  ∃H',Inv X a_ Z H' s/\TM X.K H H'/\nE X.K M H'/\Den X.K H' (res M x) v:=by
 cases x with
 |ref a=>
  cases e:M a with
  |none=>
   have:res M (.ref a)=.ref a:=by simp[res,ak,e]
   rw[this];exact⟨H,I,.refl _,rz,dx⟩
  |some o=>
   cases o with
   |lst ds=>
    obtain⟨H',I2,t,Og,vs,sq,l,_⟩:=FT I rz e;have:res M (.ref a)=.g_ ds:=by simp[res,ak,e]
    rw[this];exact⟨H',I2,t,Og,a,vs,dx,sq,l⟩
   |_=>
    have:res M (.ref a)=.ref a:=by simp[res,ak,e]
    rw[this];exact⟨H,I,.refl _,rz,dx⟩
 |g_ ds=>exact⟨H,I,.refl _,rz,dx⟩
 |_=>exact⟨H,I,.refl _,rz,dx⟩
theorem wK:∀{ds:List D}{vs:List V}{H:Hp},Inv X a_ Z H s->nE X.K M H->DenL X.K H ds vs->
  ∃H',Inv X a_ Z H' s/\TM X.K H H'/\nE X.K M H'/\DenL X.K H' (ds.map (res M)) vs
 |[],vs,H,I,rz,dl=>⟨H,I,.refl _,rz,dl⟩
 |d::ds,vs,H,I,rz,dl=>by
  obtain⟨v,r,rfl,dv,dr⟩:=dl;obtain⟨H1,I1,t1,QM,d1⟩:=FN I rz dv;obtain⟨H2,I2,t2,Og,d2⟩:=wK I1 QM (dr.mono t1);exact⟨H2,I2,t1.trans t2,Og,v,r,rfl,d1.mono t2,d2⟩
theorem zS(I:Inv X a_ Z H s)(rz:nE X.K M H)(dx:Den X.K H x v) :
  ∃H',Inv X a_ Z H' s/\TM X.K H H'/\nE X.K M H'/\Den X.K H' (rs M x) v:=by
 cases x with
 |ref a=>
  cases e:M a with
  |none=>
   have:rs M (.ref a)=.ref a:=by simp[rs,ak,e]
   rw[this];exact⟨H,I,.refl _,rz,dx⟩
  |some o=>
   cases o with
   |lst ds=>
    have:rs M (.ref a)=.g_ (if pls ds=true then ds else ds.map (res M)):=by simp[rs,ak,e]
    rw[this];obtain⟨H',I2,t,Og,vs,sq,l,_⟩:=FT I rz e;split
    ·exact⟨H',I2,t,Og,a,vs,dx,sq,l⟩
    ·obtain⟨H3,I3,t3,QN,l3⟩:=wK I2 Og l;exact⟨H3,I3,t.trans t3,QN,a,vs,dx,t3.f _ _ sq,l3⟩
   |_=>
    have:rs M (.ref a)=.ref a:=by simp[rs,ak,e]
    rw[this];exact⟨H,I,.refl _,rz,dx⟩
 |g_ ds=>
  have:rs M (.g_ ds)=.g_ (if pls ds=true then ds else ds.map (res M)):=by simp[rs,ak]
  rw[this];split
  ·exact⟨H,I,.refl _,rz,dx⟩
  ·obtain⟨p,vs,e,sq,l⟩:=dx;obtain⟨H3,I3,t3,QN,l3⟩:=wK I rz l;exact⟨H3,I3,t3,QN,p,vs,e,t3.f _ _ sq,l3⟩
 |_=>exact⟨H,I,.refl _,rz,dx⟩
theorem FV(I:Inv X a_ Z H s)(rm:RelM X.K M H)(dx:Den X.K H x v)(dy:Den X.K H y u) :
  ∃H',Inv X a_ Z H' s/\Den X.K H' (rs M x) v/\Den X.K H' (rs M y) u:=by
 obtain⟨H1,I1,t1,QM,d1⟩:=zS I rm.z dx;obtain⟨H2,I2,t2,Og,d2⟩:=zS I1 QM (dy.mono t1);exact⟨H2,I2,d1.mono t2,d2⟩
theorem Ap(hu:X.A.units+64<cLine)(neg:Bool):VO X (compareOp (if neg=true then .NotEq else .Eq)) (jd neg):=by
 intro a_ s Z H x y v u v2 u2 M Q Q2 I rv ru dx dy rm q b_;obtain⟨h1,h2,q⟩:=q;obtain⟨H',I',d1,d2⟩:=FV I rm dx dy;obtain⟨rc,rn,_⟩:=Cd I' rfl 8 (A:=X.A) h1 h2 d1 d2 rv ru (by omega)
 have fin:=b_ _ _ _ _ (bY) rm (.refl _) q;cases neg with
 |true=>
  refine rn _ _ _ _ ⟨.bl _,H,I,rfl,?_⟩;rw[Bool.true_xor]at fin;exact fin
 |false=>
  refine rc _ _ _ _ ⟨.bl _,H,I,rfl,?_⟩;rw[Bool.false_xor]at fin;exact fin
end
section
variable {K:Lr}
theorem fv[DecidableEq κ]:∀{ks:List κ}{ds:List D}{vs:List V}{k:κ},DenL K H ds vs->ks.length=vs.length->
  (∀d,getD ks ds k=some d->∃v,cV (ks.zip vs) k=some v/\Den K H d v)/\(getD ks ds k=none->cV (ks.zip vs) k=none)
 |[],_,vs,k,_,_=>⟨λd e=>by simp[getD]at e,λ_=>by simp[cV]⟩
 |q::ks,[],vs,k,dl,hl=>by cases (show vs=[] from dl);cases hl
 |q::ks,d0::ds,_,k,dl,hl=>by
  obtain⟨v,r,rfl,dv,dl⟩:=dl;have ih:=fv (k:=k) dl (by simpa using hl)
  by_cases z:q=k
  ·refine⟨λd e=>?_,λe=>?_⟩
   ·simp only[getD,Kp z]at e;cases e;exact⟨v,eZ z,dv⟩
   ·simp only[getD,Kp z]at e;cases e
  ·refine⟨λd e=>?_,λe=>?_⟩
   ·simp only[getD,Kj z]at e;obtain⟨w,h1,h2⟩:=ih.1 d e;exact⟨w,(dI z).trans h1,h2⟩
   ·simp only[getD,Kj z]at e;exact (dI z).trans (ih.2 e)
theorem kq(h:mQ y=some k)(d:Den K H y u):u=kV k:=by
 cases y with
 |int i=>cases (show some (Sum.inl i)=some k from h);exact d
 |str x=>cases (show some (Sum.inr x)=some k from h);exact d
 |_=>cases h
theorem l9:∀{es:List D}{vs:List V}{k:List Int},bJ es=some k->DenL K H es vs->vs=k.map V.int
 |[],vs,k,h,dl=>by cases (show some []=some k from h);exact dl
 |d::es,_,k,h,dl=>by
  obtain⟨v,r,rfl,dv,dl⟩:=dl;cases d with
  |int i=>
   simp only[bJ]at h;split at h
   ·rename_i ns q;cases h;rw[l9 q dl];cases (show v=.int i from dv);rfl
   ·cases h
  |_=>cases h
theorem jP{k:List Int}(h:iP y=some k)(d:Den K H y u):∃b,u=.ref b/\SqT K H b (k.map V.int):=by
 cases y with
 |tup es=>
  obtain⟨b,vs,e,sq,dl⟩:=d;refine⟨b,e,?_⟩;rw[<-l9 h dl];exact sq
 |_=>cases h
theorem pR{ks:List Key}(h:dh M x=some (ks,ds))(rm:RelM K M H)(d:Den K H x v):∃p vs,v=.ref p/\Rd H p (.dK (ks.zip vs))/\ks.length=vs.length/\DenL K H ds vs:=by
 cases x with
 |Mo LK D_=>
  cases h;obtain⟨p,vs,o,rfl,e,hl,dl⟩:=d;exact⟨p,vs,rfl,.inr ⟨o,e⟩,hl,dl⟩
 |ref a=>
  simp only[dh]at h;split at h
  ·rename_i q;cases h;obtain⟨vs,e,hl,dl⟩:=rm a _ q;exact⟨a,vs,d,.inl e,hl,dl⟩
  ·cases h
 |_=>cases h
theorem gP(h:cU M x=some (ks,ds))(rm:RelM K M H)(d:Den K H x v):∃p vs xs,v=.ref p/\Rd H p (.ext (tabT p xs))/\TabOk K H p ks xs vs/\DenL K H ds vs:=by
 cases x with
 |I_ LK D_=>
  cases h;obtain⟨p,vs,o,xs,rfl,e,z,dl⟩:=d;exact⟨p,vs,xs,rfl,.inr ⟨o,e⟩,z,dl⟩
 |ref a=>
  simp only[cU]at h;split at h
  ·rename_i q;cases h;obtain⟨vs,xs,e,z,dl⟩:=rm a _ q;exact⟨a,vs,xs,d,.inl e,z,dl⟩
  ·cases h
 |_=>cases h
theorem jE(h:oK M x=some (ks,ds))(rm:RelM K M H)(d:Den K H x v):∃p vs xs,v=.ref p/\Rd H p (.ext (cM true p xs))/\TabF true K H p ks xs vs/\DenL K H ds vs:=by
 cases x with
 |ref a=>
  simp only[oK]at h;split at h
  ·rename_i q;cases h;obtain⟨vs,xs,e,z,dl⟩:=rm a _ q;exact⟨a,vs,xs,d,.inl e,z,dl⟩
  ·cases h
 |_=>cases h
theorem pe{k:List Int}(h:xx y=some k)(d:Den K H y u):∃b,u=.ref b/\KAt true K H b k:=by
 unfold xx at h;split at h
 ·cases h;obtain⟨b,vs,rfl,sq,v1,r,rfl,d1,v2,r2,rfl,d2,rfl⟩:=d;obtain⟨p,ws,rfl,s1,_,_,rfl,rfl,_,_,rfl,rfl,rfl⟩:=d1;obtain⟨q,ws,rfl,s2,_,_,rfl,rfl,_,_,rfl,rfl,rfl⟩:=d2;exact⟨b,rfl,p,q,_,_,_,_,rfl,sq,s1,s2⟩
 ·cases h
theorem TabF.len{f:Bool}{ks:List (List Int)}{vs:List V}(z:TabF f K H a ks xs vs):ks.length=vs.length:=by
 rw[<-z.kx,Kr,z.vx.length,Kr]
theorem dL:∀{xs:List (List Int×Addr×Value)}{vs:List V} (k:List Int),Vals vs (xs.map (·.2.2))->RelO (cV ((xs.map (·.1)).zip vs) k) ((atKey xs k).map (·.2))
 |[],vs,k,r=>by cases r;exact True.intro
 |x::xs,vs,k,r=>by
  cases r with
  |@cons v _ vs _ h t=>
   have ih:=dL k t;by_cases e:x.1=k
   ·have b:atKey (x::xs) k=some x.2:=by simp[atKey,e]
    rw[Kn,List.zip_cons_cons,eZ e,b];exact h
   ·have b:atKey (x::xs) k=atKey xs k:=by simp[atKey,e]
    rw[Kn,List.zip_cons_cons,dI e,b];exact ih
end
inductive DRd (X:Cx) (H:Hp) (a:Addr) (u:V):Option V->Prop where
 |k {m_:List (Key×V)}{k:Key} (e:Rd H a (.dK m_)) (hu:u=kV k):DRd X H a u (cV m_ k)
 |t {f:Bool}{ks:List (List Int)}{xs:List (List Int×Addr×Value)}{vs:List V}{k:List Int}{b:Addr} (e:Rd H a (.ext (cM f a xs))) (z:TabF f X.K H a ks xs vs) (hu:u=.ref b) (sq:KAt f X.K H b k):DRd X H a u (cV (ks.zip vs) k)
def OptDen(K:Lr)(H:Hp):Option D->Option V->Prop
 |some d,some v=>Den K H d v
 |none,none=>True
 |_,_=>False
theorem gM{X:Cx}(h:dQ M x y=some o)(rm:RelM X.K M H)(dx:Den X.K H x v)(dy:Den X.K H y u):∃a ov,v=.ref a/\DRd X H a u ov/\OptDen X.K H o ov:=by
 unfold dQ at h;split at h
 ·rename_i ks ds e;split at h
  ·rename_i k ek;cases h;obtain⟨p,vs,rfl,rd,hl,dl⟩:=pR e rm dx;refine⟨p,_,rfl,.k rd (kq ek dy),?_⟩;have g:=fv (k:=k) dl hl;cases q:getD ks ds k with
   |none=>rw[g.2 q];exact True.intro
   |some d=>obtain⟨w,h1,h2⟩:=g.1 d q;rw[h1];exact h2
  ·cases h
 ·split at h
  ·rename_i ks ds e;split at h
   ·rename_i k ek;cases h;obtain⟨p,vs,xs,rfl,rd,z,dl⟩:=gP e rm dx;obtain⟨b,hb,sq⟩:=jP ek dy;refine⟨p,_,rfl,.t rd z hb sq,?_⟩;have g:=fv (k:=k) dl z.len;cases q:getD ks ds k with
    |none=>rw[g.2 q];exact True.intro
    |some d=>obtain⟨w,h1,h2⟩:=g.1 d q;rw[h1];exact h2
   ·cases h
  ·split at h
   ·rename_i ks ds e;split at h
    ·rename_i k ek;cases h;obtain⟨p,vs,xs,rfl,rd,z,dl⟩:=jE e rm dx;obtain⟨b,hb,sq⟩:=pe ek dy;refine⟨p,_,rfl,.t rd z hb sq,?_⟩;have g:=fv (k:=k) dl z.len;cases q:getD ks ds k with
     |none=>rw[g.2 q];exact True.intro
     |some d=>obtain⟨w,h1,h2⟩:=g.1 d q;rw[h1];exact h2
    ·cases h
   ·cases h
section
variable {X:Cx}{s:Shared}{o:Option V}{A:Around}
theorem jL:∀{ks:List Int}{us:List Value},Vals (ks.map V.int) us->ItemsAre (intKind P w) ks us
 |[],_,r=>by rw[List.map_nil]at r;cases r;exact .nil
 |k::ks,_,r=>by
  cases r with
  |cons h t=>
   obtain⟨tk,rfl⟩:=h;exact .cons (by show Value.isInt k (.int k tk)=true;simp[Value.isInt]) (jL t)
theorem nS{k:List Int}(I:Inv X a_ Z H s)(sq:SqT X.K H b (k.map V.int)):(tupleKind (intKind X.prog X.w)).is s.heap k b:=by
 obtain⟨f_,r,⟨o,e,c,n,d⟩,_⟩:=I.tuple sq;exact⟨o,f_.toArray,n,e,c,d,by simpa using jL r⟩
theorem fB{f:Bool}{k:List Int}(I:Inv X a_ Z H s)(sq:KAt f X.K H b k):(kdF f X.prog X.w).is s.heap k b:=by
 cases f with
 |false=>exact nS I sq
 |true=>
  obtain⟨p,q,i,j,l,m,rfl,h1,h2,h3⟩:=sq;obtain⟨f_,r,⟨o,e,c,n,d⟩,_⟩:=I.tuple h1;cases r with
  |cons r1 r=>cases r with
   |cons r2 r=>
    cases r;cases r1;cases r2;exact⟨o,n,p,q,i,j,l,m,rfl,e,c,d,nS (k:=[i,j]) I h2,nS (k:=[l,m]) I h3⟩
theorem fJ{f:Bool}(hu:A.units+2<cLine):(kdF f X.prog X.w).room A.in1:=by
 cases f with
 |false=>exact La (by omega)
 |true=>exact hu
theorem bz{f:Bool}(I:Inv X a_ Z H s)(e:Rd H a (.ext (cM f a xs)))(z:TabF f X.K H a ks xs vs):s.heap.DictOfH (kdF f X.prog X.w) a xs:=by
 obtain⟨⟨ob,es,ep,h1,h2,h3,h4⟩,_⟩:=(show ObjOk X.prog X.w H s.heap a (.ext (cM f a xs)) from e.ok I.j_);exact⟨ob,es,ep,h1,h2,h3,by cases f<;>exact h4,λx hx=>fB I (z.at_ x hx),by rw[z.kx];exact z.nd⟩
theorem DRd.isDict(I:Inv X a_ Z H s)(g:DRd X H a y o):s.TypeIs (.ref a) "dict":=by
 cases g with
 |k e _=>obtain⟨_,_,vs,_,dd⟩:=i5 I.j_ e;exact dd.typeIs
 |t e z _ _=>exact (bz I e z).typeIs
theorem uo(hu:A.units+2<cLine)(I:Inv X a_ Z H s)(g:DRd X H a y o)(ho:o=some v)(ry:RelV y u)(h:∀w' s',Inv X a_ Z H s'->RelV v w'->Q w' s') :
  wpAny (model X.prog X.w) A (getItem (.ref a) u) Q E s:=by
 cases g with
 |k e hk=>exact ua (by omega) I (.inl ⟨_,_,e,hk,ho.symm⟩) ry h
 |@t f ks xs vs k b e z hb sq=>
  subst hb;cases (show u=Value.ref b from ry);have dd:=bz I e z;have rel:=dL k z.vx;rw[z.kx]at rel;obtain⟨w',hw,LF⟩:=RelO.some_of (by rw[<-ho];exact rel)
  obtain⟨p,hp,Qr⟩:=Option.map_eq_some_iff.mp hw;refine wpAny_getItem_heap (fJ hu) (fB I sq) dd hp ?_;rw[Qr];exact h w' _ (I.tok _) LF
theorem Hq(neg:Bool)(hu:A.units+2<cLine)(I:Inv X a_ Z H s)(g:DRd X H a y o)(ry:RelV y u)(h:∀s',Inv X a_ Z H s'->Q (.bool (neg ^^ o.isSome)) s') :
  wpAny (model X.prog X.w) A (compareOp (if neg=true then .NotIn else .In) u (.ref a)) Q E s:=by
 cases g with
 |k e hk=>
  cases neg with
  |true=>exact yW (by omega) I (.inl ⟨_,_,e,hk,rfl⟩) ry λs' I'=>by have:=h s' I';rw[Bool.true_xor]at this;exact this
  |false=>exact Hg (by omega) I (.inl ⟨_,_,e,hk,rfl⟩) ry λs' I'=>by have:=h s' I';rw[Bool.false_xor]at this;exact this
 |@t f ks xs vs k b e z hb sq=>
  subst hb;cases (show u=Value.ref b from ry);have dd:=bz I e z;have rel:=dL k z.vx;rw[z.kx]at rel;have q:=rel.isSome_eq;rw[Option.isSome_map]at q;rw[q]at h;cases neg with
  |true=>
   refine wpAny_notIn_heap (fJ hu) (fB I sq) z.no dd ?_;have:=h _ (I.tok (s.toks+(kdF f X.prog X.w).draws k));rw[Bool.true_xor]at this;exact this
  |false=>
   refine wpAny_in_heap (fJ hu) (fB I sq) z.no dd ?_;have:=h _ (I.tok (s.toks+(kdF f X.prog X.w).draws k));rw[Bool.false_xor]at this;exact this
theorem Cm(hu:A.units+2<cLine)(I:Inv X a_ Z H s)(g:DRd X H a y o)(ry:RelV y u)(h:∀w' s',Inv X a_ Z H s'->RelV (o.getD .i_) w'->Q w' s') :
  wpAny (model X.prog X.w) A (call (.builtin "dict.get") [.ref a,u]) Q E s:=by
 cases g with
 |k e hk=>exact BA (by omega) I (.inl ⟨_,_,e,hk,rfl⟩) ry h
 |@t f ks xs vs k b e z hb sq=>
  subst hb;cases (show u=Value.ref b from ry);have dd:=bz I e z;have rel:=dL k z.vx;rw[z.kx]at rel;exact call_meetsIn PySem.F.slot_dict_get dd.typeIs PySem.F.entry_dict_get (PySem.F.args_dict_get_2 _ _) (meetsH_dict_get (kdF f X.prog X.w) a b z.no) ⟨fJ hu,k,xs,fB I sq,dd,h _ _ (I.tok _) (rel.getD rfl)⟩
theorem Dv(hu:A.units+2<cLine)(I:Inv X a_ Z H s)(g:DRd X H a y o)(ry:RelV y u)(rd:RelV d r)(h:∀w' s',Inv X a_ Z H s'->RelV (o.getD d) w'->Q w' s') :
  wpAny (model X.prog X.w) A (call (.builtin "dict.get") [.ref a,u,r]) Q E s:=by
 cases g with
 |k e hk=>exact CM (by omega) I (.inl ⟨_,_,e,hk,rfl⟩) ry rd h
 |@t f ks xs vs k b e z hb sq=>
  subst hb;cases (show u=Value.ref b from ry);have dd:=bz I e z;have rel:=dL k z.vx;rw[z.kx]at rel;exact call_meetsIn PySem.F.slot_dict_get dd.typeIs PySem.F.entry_dict_get (PySem.F.args_dict_get_3 _ _ _) (meetsH_dict_get_default (kdF f X.prog X.w) a b z.no r) ⟨fJ hu,k,xs,fB I sq,dd,h _ _ (I.tok _) (rel.getD rd)⟩
end
section
variable {K:Lr}
theorem uG[DecidableEq κ]{l:List (κ×V)}:dH ((q,w)::l) k v=if q=k then (q,v)::l.map (λkv=>if kv.1=k then (kv.1,v) else kv) else (q,w)::dH l k v:=by
 unfold dH;by_cases e:q=k
 ·simp[e]
 ·by_cases g:(l.any λkv=>decide (kv.1=k))=true
  ·simp[e,g]
  ·simp[e,g]
theorem ot[DecidableEq κ]:∀{ks:List κ}{vs:List V},¬ k∈ks->(ks.zip vs).map (λkv=>if kv.1=k then (kv.1,v) else kv)=ks.zip vs
 |[],_,_=>by simp
 |q::ks,[],_=>by simp
 |q::ks,w::vs,h=>by
  have hq:¬ q=k:=λz=>h (by simp[z])
  have ih:=ot (v:=v) (vs:=vs) λm=>h (Ki _ m)
  simp only[List.zip_cons_cons,Kn,Kj hq,ih]
theorem km[DecidableEq κ]:∀{ks:List κ}{ds:List D}{vs:List V}{k:κ}{y:D}{v:V},ks.Nodup->DenL K H ds vs->ks.length=vs.length->Den K H y v->
  ∃Mf,dH (ks.zip vs) k v=(aj ks k).zip Mf/\(aj ks k).length=Mf.length/\DenL K H (ao ks ds k y) Mf
 |[],ds,vs,k,y,v,_,dl,hl,dy=>by
  cases vs with
  |nil=>exact⟨[v],rfl,rfl,by unfold ao;exact .one dy⟩
  |cons _ _=>cases hl
 |q::ks,[],vs,k,y,v,_,dl,hl,dy=>by cases (show vs=[] from dl);cases hl
 |q::ks,d::ds,_,k,y,v,nd,dl,hl,dy=>by
  obtain⟨w,r,rfl,dw,dl⟩:=dl;obtain⟨n1,n2⟩:=KN.mp nd;rw[List.zip_cons_cons,uG];by_cases e:q=k
  ·subst e;rw[Kp rfl,ot n1];refine⟨v::r,?_,?_,?_⟩
   ·simp[aj]
   ·simpa [aj] using hl
   ·simp only[ao];exact .cons dy dl
  ·rw[Kj e];obtain⟨Mf,h1,h2,h3⟩:=km (k:=k) n2 dl (by simpa using hl) dy
   refine⟨w::Mf,?_,?_,?_⟩
   ·simp[aj,Kj e,h1]
   ·simp[aj,Kj e,h2]
   ·simp only[ao,Kj e];exact .cons dw h3
theorem pA{x:List Int×Addr×Value}{xs:List (List Int×Addr×Value)}:storedH (x::xs) k b r=if x.1=k then (x.1,x.2.1,r)::xs.map (putAt k r) else x::storedH xs k b r:=by
 unfold storedH;by_cases e:x.1=k
 ·have b':atKey (x::xs) k=some x.2:=by simp[atKey,e]
  rw[b',Kp e];simp[putAt,e]
 ·have b':atKey (x::xs) k=atKey xs k:=by simp[atKey,e]
  rw[b',Kj e];by_cases g:(atKey xs k).isSome=true
  ·rw[Kp g,Kp g];simp[putAt,e]
  ·rw[Kj g,Kj g];rfl
theorem kK:∀{xs:List (List Int×Addr×Value)},¬ k∈xs.map (·.1)->xs.map (putAt k r)=xs
 |[],_=>rfl
 |x::xs,h=>by
  have hq:¬ x.1=k:=λz=>h (by simp[z])
  rw[Kn,kK λm=>h (Ki _ m)]
  simp[putAt,hq]
theorem gB:∀{xs:List (List Int×Addr×Value)}{ds:List D}{vs:List V}{k:List Int}{b:Addr}{r:Value}{y:D}{v:V},(xs.map (·.1)).Nodup->Vals vs (xs.map (·.2.2))->RelV v r->DenL K H ds vs->Den K H y v->
  ∃Mf,(storedH xs k b r).map (·.1)=aj (xs.map (·.1)) k/\Vals Mf ((storedH xs k b r).map (·.2.2))/\DenL K H (ao (xs.map (·.1)) ds k y) Mf/\∀x∈storedH xs k b r,(x.1=k/\x.2.1=b)\/∃x'∈xs,x'.1=x.1/\x'.2.1=x.2.1
 |[],ds,vs,k,b,r,y,v,_,vr,rv,dl,dy=>by
  cases vr;cases ds with
  |cons _ _=>obtain⟨_,_,z,_⟩:=dl;cases z
  |nil=>exact⟨[v],rfl,.cons rv .nil,by unfold ao;exact .one dy,λx hx=>.inl (by simp[storedH]at hx;simp[hx])⟩
 |x::xs,ds,vs,k,b,r,y,v,nd,vr,rv,dl,dy=>by
  cases vr with
  |@cons w _ vs _ h t=>
   cases ds with
   |nil=>cases (show w::vs=[] from dl)
   |cons d ds=>
    obtain⟨w',r',e',dw,dl⟩:=dl;cases e';obtain⟨n1,n2⟩:=KN.mp nd;rw[pA];by_cases e:x.1=k
    ·rw[Kp e,kK (by rw[<-e];exact n1)]
     refine⟨v::vs,?_,.cons rv t,?_,λz hz=>?_⟩
     ·simp[aj,e]
     ·simp only[Kn,ao,Kp e];exact .cons dy dl
     ·rcases Kq.mp hz with rfl|hz
      ·exact .inr ⟨x,Kl,rfl,rfl⟩
      ·exact .inr ⟨z,Ki _ hz,rfl,rfl⟩
    ·rw[Kj e];obtain⟨Mf,h1,h2,h3,h4⟩:=gB n2 t rv dl dy;refine⟨w::Mf,?_,.cons h h2,?_,λz hz=>?_⟩
     ·simp only[Kn,aj,Kj e,h1]
     ·simp only[Kn,ao,Kj e];exact .cons dw h3
     ·rcases Kq.mp hz with rfl|hz
      ·exact .inr ⟨z,Kl,rfl,rfl⟩
      ·rcases h4 z hz with q|⟨x',MM,q⟩
       ·exact .inl q
       ·exact .inr ⟨x',Ki _ MM,q⟩
theorem bO[DecidableEq κ]:∀{ks:List κ}{k:κ},(aj ks k).length<=ks.length+1
 |[],_=>by simp[aj]
 |q::ks,k=>by
  unfold aj;split
  ·simp
  ·have:=bO (ks:=ks) (k:=k);simp only[Ky];omega
theorem putD1_mem[DecidableEq κ]:∀{ks:List κ}{k x:κ},x∈aj ks k<->x∈ks\/x=k
 |[],k,x=>by simp[aj]
 |q::ks,k,x=>by
  unfold aj;split
  ·rename_i e;subst e;simp;intro z;exact .inl z
  ·rw[Kq,putD1_mem,Kq,or_assoc]
theorem fg[DecidableEq κ]:∀{ks:List κ}{k:κ},ks.Nodup->(aj ks k).Nodup
 |[],k,_=>by simp[aj]
 |q::ks,k,h=>by
  obtain⟨n1,n2⟩:=KN.mp h;unfold aj;split
  ·exact h
  ·rename_i e;refine KN.mpr ⟨λm=>?_,fg n2⟩
   rcases putD1_mem.mp m with z|z
   ·exact n1 z
   ·exact e z
end
section
variable {X:Cx}{A:Around}{ks:List Key}
theorem oH:∀{ks:List κ}{vs:List V},ks.length=vs.length->(ks.zip vs).map (·.1)=ks
 |[],_,_=>by simp
 |q::ks,[],h=>by cases h
 |q::ks,v::vs,h=>by simp[oH (by simpa using h)]
theorem og{vs:List V}(I:Inv X a_ Z H s)(e:H a=some (.dK (ks.zip vs)))(hl:ks.length=vs.length):ks.Nodup:=by
 obtain⟨_,_,ws,rel,_,_,_,_,_,_,_,_,nd⟩:=uU I.j_ e;rw[<-rel.keys,oH hl]at nd;exact nd
theorem Dq{k:Key}{y:D}{v w:V}{R:MH->Prop}{R2:Hp->Prop}(hu:A.units+1<cLine)(I:Inv X a_ Z H s)(rm:RelM X.K M H)(q:M a=some (.dk ks ds))(hk:w=kV k)(LF:RelV w u)(dy:Den X.K H y v)(rv:RelV v r)(hz:ks.length<sizeLine)
  (h:R (put M a (.dk (aj ks k) (ao ks ds k y)))) (b_:∀H' M',RelM X.K M' H'->TM X.K H H'->R M'->R2 H'):wpAny (model X.prog X.w) A (setItem (.ref a) u r) (λ_ s'=>∃H',Inv X a_ Z H' s'/\R2 H') E s:=by
 obtain⟨vs,e,hl,dl⟩:=rm a _ q;subst hk;obtain⟨Mf,h1,h2,h3⟩:=km (og I e hl) dl hl dy;refine uE hu I (.inl ⟨_,k,e,rfl,?_,rfl⟩) LF rv λs' I'=>⟨_,I',?_⟩
 ·rw[List.length_zip,hl,Nat.min_self,<-hl];exact hz
 ·have tw:TM X.K H (upd H a (.dK (dH (ks.zip vs) k v))):=.put e (λ_ z=>by cases z) λ_ _ z=>by cases z
  exact b_ _ _ (rm.write (u:=.dk (aj ks k) (ao ks ds k y)) e (λ_ z=>by cases z) (λ_ _ z=>by cases z) ⟨Mf,by rw[ai,h1],h2,h3.mono tw⟩) tw h
abbrev DOf(f:Bool)(ks:List (List Int))(ds:List D):DO:=match f with
 |true=>.dn ks ds
 |false=>.dt ks ds
theorem vU{f:Bool}{kt:List (List Int)}{k:List Int}{y:D}{v:V}{b:Addr}{R:MH->Prop}{R2:Hp->Prop}(hu:A.units+2<cLine)(I:Inv X a_ Z H s)(rm:RelM X.K M H)(q:M a=some (DOf f kt ds))(sq:KAt f X.K H b k)(dy:Den X.K H y v)(rv:RelV v r)(hz:kt.length<sizeLine)
  (h:R (put M a (DOf f (aj kt k) (ao kt ds k y)))) (b_:∀H' M',RelM X.K M' H'->TM X.K H H'->R M'->R2 H'):wpAny (model X.prog X.w) A (setItem (.ref a) (.ref b) r) (λ_ s'=>∃H',Inv X a_ Z H' s'/\R2 H') E s:=by
 obtain⟨vs,xs,e,z,dl⟩:∃vs xs,H a=some (.ext (cM f a xs))/\TabF f X.K H a kt xs vs/\DenL X.K H ds vs:=by cases f<;>exact rm a _ q
 have dd:=bz I (.inl e) z;have nd:(xs.map (·.1)).Nodup:=by rw[z.kx];exact z.nd
 obtain⟨Mf,h1,h2,h3,h4⟩:=gB (k:=k) (b:=b) nd z.vx rv dl dy;rw[z.kx]at h1 h3;have hsz:xs.length<=sizeLine:=by
  have:=congrArg List.length z.kx;rw[Kr]at this;omega
 refine wpAny_setItem_heap (fJ hu) (fB I sq) dd λh' MT hs=>?_
 obtain⟨ob,es,ep,hq,hx,hd,he,_,_⟩:=MT;have tw:TM X.K H (upd H a (.ext (cM f a (storedH xs k b r)))):=.put e (λ_ z=>by cases z) λ_ _ z=>by cases z
 have tb:cM f a (storedH xs k b r) h':=⟨ob,es,ep,hq,hx,hd,by cases f<;>exact he⟩
 have I':Inv X a_ Z (upd H a (.ext (cM f a (storedH xs k b r)))) {s with heap:=h',toks:=s.toks+(kdF f X.prog X.w).draws k}:=
  gR I (by rw[e];exact True.intro) hs ⟨ob,hq⟩ ⟨tb,⟨ob,hq⟩,λg1 g2 ⟨o1,Oh,Oi,a1,a2,a3,a4⟩ kk=>⟨o1,Oh,Oi,kk _ a1,a2,a3,a4⟩⟩
 have ok:TabF f X.K (upd H a (.ext (cM f a (storedH xs k b r)))) a (aj kt k) (storedH xs k b r) Mf:=by
  refine⟨h1,fg z.nd,KB bO hz,z.no,h2,λx MM=>?_⟩
  rcases h4 x MM with ⟨q1,q2⟩|⟨x',m,q1,q2⟩
  ·rw[q1,q2];exact KAt.mono tw sq
  ·rw[<-q1,<-q2];exact KAt.mono tw (z.at_ x' m)
 exact⟨_,I',b_ _ _ (rm.write (u:=DOf f (aj kt k) (ao kt ds k y)) e (λ_ z=>by cases z) (λ_ _ z=>by cases z) (by cases f<;>exact⟨Mf,_,ai,ok,h3.mono tw⟩)) tw h⟩
end
end L2
namespace L2
open PySem PySem.Spec PyProof.Rows PySem.W
section
variable {A:Around}{s:Shared}{ob:Obj}{es:Array DictEntry}{e:DictEntry}
theorem t8(hn:(d == sysModules)=false):MeetsIn prog w (Builtin.«dict.__len__» ⟨[.ref d],[]⟩) (λ_ R s=>∃ob es ep,s.heap.get? d=some ob/\ob.data=.dict es ep/\R (.ok (.ret (.int es.size s.toks))) {s with toks:=s.toks+1}):=
 .of_wp λA R s ⟨ob,es,ep,ho,hd,q⟩=>by
  show wpAny _ _ (dictSize d >>=_) _ _ s;refine Kf (Kf (Lc ho hd (Kh ?_)));exact Kf (wpAny_pendingCount_other hn (wpAny_ret_mkInt q))
theorem DN(hn:(d == sysModules)=false)(ho:s.heap.get? d=some ob)(hx:ob.ExactDict)(hd:ob.data=.dict es ep)(hz:(es.size:Int)<2 ^ 63)(q:Q (.int es.size (s.toks+1)) {s with toks:=s.toks+1+1}) :
  wpAny (model prog w) A (call (.builtin "len") [.ref d]) Q E s:=by
 have hT:s.TypeIs (.ref d) "dict":=⟨_,ho,hx.1⟩;refine Calls.call_function_entry kind_len plain_len entry_len (args_len1 _) ?_;refine Kf (m:=callSpecial? (.ref d) (Str.ofString "__len__")) (wpAny_callSpecial?_slot hT F.slot_dict_len
  (call_meetsIn F.slot_dict_len hT F.entry_dict_len (F.args_dict_len_1 _) (t8 hn) ⟨ob,es,ep,ho,hd,?_⟩))
 refine Kf (K0 (Kh ?_));refine Kf (wpAny_letGo ?_);show wpAny _ _ (if ((es.size:Nat):Int)>=2 ^ 63 then _ else _) _ _ _
 rw[Kj (by omega)]
 exact Kf (wpAny_mkInt (Kh ⟨_,rfl,q⟩))
theorem wa(hn:(d == sysModules)=false)(ho:s.heap.get? d=some ob)(hx:ob.ExactDict)(hd:ob.data=.dict es ep)
  (hQ:Q (.ref s.heap.objs.size) {s with heap:=s.heap.push {cls:=.type "dict_keyiterator",data:=.fields #[.ref d,.int 0 0,.int es.size 0,.int ep 0]}}):wpAny (model prog w) A (pyIter (.ref d)) Q E s:=by
 have hT:s.TypeIs (.ref d) "dict":=⟨_,ho,hx.1⟩;refine wpAny_pyIter_slot hT F.slot_dict_iter (K8 F.slot_dict_iter hT F.entry_dict_iter ?_ (F.args_dict_iter_1 _));refine Kf ?_;refine Kf (wpAny_notOrdered_dict hT ?_);refine Kh ?_;show wpAny _ _ (Builtin.Dict.showsAll d >>=_) _ _ s;unfold Builtin.Dict.showsAll;rw[Kj (by rw[hn];exact Ku)]
 refine Kf (Kh (Kf (Lc ho hd (Kf (wpAny_dictEpoch ho hd ?_)))));refine Kf (KU (Kh ⟨_,rfl,"dict_keyiterator",_,⟨_,Ko _ rfl,rfl⟩,F.slot_dict_keyiterator_next.lookup,?_⟩));simpa [rawInt] using hQ
theorem jN(G_:s.heap.IsKeyIter it d i es.size ep)(Pf:s.heap.get? d=some ob)(Pg:ob.data=.dict es ep)(he:es[i]?=some e)
  (hQ:∀h',h'.IsKeyIter it d (i+1) es.size ep->Heap.SameBut it s.heap h'->Q (some e.key) {s with heap:=h'}):wpAny (model prog w) A (pyNext (.ref it)) Q E s:=by
 obtain⟨o,ho,hc,hd⟩:=id G_;refine Kf (wpAny_attempt (wpAny_callSpecial?_slot G_.typeIs F.slot_dict_keyiterator_next
  (K8 F.slot_dict_keyiterator_next G_.typeIs F.entry_dict_keyiterator_next ?_ (F.args_dict_keyiterator_next_1 _))))
 refine Kf (Kh (Kf (Kf ?_)))
 first|refine Kf (wpAny_typeNameOfWhole_keyiter G_.typeIs (Kh ?_))|refine Kf (wpAny_typeNameOf_keyiter G_.typeIs (Kh ?_))
 refine Kf (wpAny_fieldsOf ho hd ?_);refine Kf (Kh (Kf (Lc Pf Pg ?_)));rw[Kj (by simp)]
 refine Kf (Kh (Kf (wpAny_dictEpoch Pf Pg ?_)));rw[Kj (by simp)]
 refine Kh ?_;simp only[Ll,he];refine Kf ?_
 first|refine Kf (wpAny_typeNameOfWhole_keyiter G_.typeIs (Kh ?_))|refine Kf (wpAny_typeNameOf_keyiter G_.typeIs (Kh ?_))
 refine Kf (wpAny_isOneOf_keyiter G_.typeIs ?_);show wpAny _ _ (setField (.ref it) 1 (rawInt ((i:Int)+1)) >>=_) _ _ s;refine Kf (Lp ho hd (by simp) ?_)
 have LY:(s.heap.update it (Obj.mapFields (·.setIfInBounds 1 (rawInt ((i:Int)+1))))).IsKeyIter it d (i+1) es.size ep:=
  ⟨_,K6 _ ho (Obj.isFreed_of_fields (Li hd _)),(Obj.cls_mapFields ..).trans hc,by rw[Li hd];simp[rawInt]⟩
 refine Kf (K0 ?_);refine Kf (wpAny_isOneOf_keyiter LY.typeIs ?_);exact Kh (Kh ⟨_,rfl,Kh (hQ _ LY (Heap.SameBut.update ..))⟩)
theorem kT(hh:A.handled=none)(G_:s.heap.IsKeyIter it d i es.size ep)(Pf:s.heap.get? d=some ob)(Pg:ob.data=.dict es ep)(he:es.size<=i)
  (hQ:∀h',Heap.ExtBut it s.heap h'->Q none {s with heap:=h'}):wpAny (model prog w) A (pyNext (.ref it)) Q E s:=by
 obtain⟨o,ho,hc,hd⟩:=id G_;refine Kf (wpAny_attempt (wpAny_callSpecial?_slot G_.typeIs F.slot_dict_keyiterator_next
  (K8 F.slot_dict_keyiterator_next G_.typeIs F.entry_dict_keyiterator_next ?_ (F.args_dict_keyiterator_next_1 _))))
 refine Kf (Kh (Kf (Kf ?_)))
 first|refine Kf (wpAny_typeNameOfWhole_keyiter G_.typeIs (Kh ?_))|refine Kf (wpAny_typeNameOf_keyiter G_.typeIs (Kh ?_))
 refine Kf (wpAny_fieldsOf ho hd ?_);refine Kf (Kh (Kf (Lc Pf Pg ?_)));rw[Kj (by simp)]
 refine Kf (Kh (Kf (wpAny_dictEpoch Pf Pg ?_)));rw[Kj (by simp)]
 refine Kh ?_;simp only[Ll,Array.getElem?_eq_none he];refine Kf ?_
 first|refine Kf (wpAny_typeNameOfWhole_keyiter G_.typeIs (Kh ?_))|refine Kf (wpAny_typeNameOf_keyiter G_.typeIs (Kh ?_))
 show wpAny _ _ (setField (.ref it) 0 .none >>=_) _ _ s;refine Kf (Lp ho hd (by simp) ?_)
 refine Kf ?_;refine Kf (m:=firstArgMember _ _) (wpAny_of_eq (by first|rfl|(simp only[firstArgMember];rfl)) ?_)
 refine KU ?_ (by size_fits)
 refine Kf (wpAny_handled ?_);rw[show A.in1.handled=none from hh];refine Kf (Kh (wpAny_throw ?_));refine Kf (wpAny_isInstance ⟨_,Ko _ rfl,rfl⟩ isSubtype_stop ?_);exact Kh (hQ _ (((Heap.SameBut.update ..).extBut.push _).push _))
theorem ux(hh:A.handled=none)(I d:Addr)(Mm:d≠I)(hd:ob.data=.dict es ep) :
  Walks prog w A I [I,d] [I] es.size (λi v=>∃e,es[i]?=some e/\v=e.key) (λi h=>h.IsKeyIter I d i es.size ep/\h.get? d=some ob) where
 sub:=λb hb=>by simp at hb;simp[hb]
 frame:=λ_ _ _ st hk=>⟨st.1.at λo e=>hk I (by simp) o e,hk d (by simp) _ st.2⟩
 item:=λi s Q E hi st hQ=>by
  have he:es[i]?=some es[i]:=by simp
  refine jN st.1 st.2 hd he λh' LY NS=>?_
  exact hQ _ h' s.toks ⟨_,he,rfl⟩ ⟨LY,NS.extBut d ob Mm st.2⟩ λb o hb e=>NS.extBut b o (λh=>hb (by simp[h])) e
 done:=λs Q E st hQ=>kT hh st.1 st.2 hd (Km _) λh' O7=>hQ h' s.toks λb o hb e=>O7 b o (λh=>hb (by simp[h])) e
 self:=λ_ _ _ _ st hQ=>wpAny_pyIter_keyiter st.1 hQ
theorem wQ(lo:(d == sysModules)=false)(hx:ob.ExactDict)(hd:ob.data=.dict es ep):KdlSrc prog w "dict" d d es.size (λi v=>∃e,es[i]?=some e/\v=e.key) (λh=>h.get? d=some ob) where
 type:=λ_ hm=>⟨_,hm,hx.1⟩
 there:=λ_ hm=>⟨Kw hm,Kw hm⟩
 keep:=λ_ _ hm hk=>hk d (.inl rfl) _ hm
 notList:=by decide
 notTuple:=by decide
 hint:=λ_ _ _ _ hm hq=>kdl_hint_dict ⟨_,hm,hx.1⟩ hq
 iter:=λ_ _ hh hm=>⟨_,_,(λ_ _ hq=>wa lo hm hx hd hq),ux hh _ d (KH (Kw hm)) hd,⟨⟨_,Ko _ rfl,rfl,rfl⟩,Kk _ hm⟩⟩
end
end L2
namespace L2
open PySem PySem.Spec PyProof.Rows
section
variable {X:Cx}
theorem zV(neg:Bool):VO X (compareOp (if neg=true then .IsNot else .Is)) (uc neg):=by
 intro a_ s Z H x y v u v2 u2 M Q Q2 I rv ru dx dy rm q b_;unfold uc at q;split at q
 ·cases (show u=.i_ from dy);cases neg with
  |true=>exact VO.of3 xZ a_ s Z H x .i_ v .i_ v2 u2 M Q Q2 I rv ru dx dy rm ⟨rfl,by rw[Bool.true_xor]at q;exact q⟩ b_
  |false=>exact VO.of3 Hc a_ s Z H x .i_ v .i_ v2 u2 M Q Q2 I rv ru dx dy rm ⟨rfl,by rw[Bool.false_xor]at q;exact q⟩ b_
 ·rename_i b;cases (show u=.bl b from dy);cases ru;have fin:∀k,Q (.bl k) M->EP X a_ Z Q2 (.bool k) s:=λk q=>⟨.bl k,H,I,rfl,b_ _ _ _ _ bY rm (.refl _) q⟩
  split at q
  ·rename_i a;cases (show v=.bl a from dx);cases rv;have e:((Value.bool a == Value.bool b):Bool)=(a == b):=by cases a<;>cases b<;>rfl
   cases neg with
   |true=>exact wpAny_isNot_plain rfl (by rw[e];rw[Bool.true_xor]at q;exact fin _ q)
   |false=>exact wpAny_is_plain rfl (by rw[e];rw[Bool.false_xor]at q;exact fin _ q)
  ·cases (show v=.i_ from dx);cases rv;cases neg with
   |true=>exact wpAny_isNot_other rfl (λz=>nomatch z) (fin _ q)
   |false=>exact wpAny_is_other rfl (λz=>nomatch z) (fin _ q)
  ·exact q.elim
 ·exact q.elim
theorem wU:∀{ds:List D}{us:List β},Paired R ds us->(∀d u,d∈ds->R d u->e u=f d)->us.any e=ds.any f
 |_,_,.nil,_=>rfl
 |d::ds,u::us,.cons r t,h=>by
  rw[List.any_cons,List.any_cons,h d u Kl r,wU t λd u hd=>h d u (Ki _ hd)]
theorem iM{K:Lr}:∀{ds:List D}{vs:List V}{us:List Value},DenL K H ds vs->Vals vs us->Paired (λd u=>∃v,Den K H d v/\RelV v u) ds us
 |[],_,_,h,r=>by cases (show _=[] from h);cases r;exact .nil
 |d::ds,_,_,h,r=>by
  obtain⟨v,r',rfl,dv,dl⟩:=h;cases r with
  |cons r1 r2=>exact .cons ⟨v,dv,r1⟩ (iM dl r2)
theorem Paired.mem_right:∀{l:List α}{m:List β},Paired R l m->∀b∈m,∃a∈l,R a b
 |_,_,.nil,b,hb=>by cases hb
 |a::l,c::m,.cons r t,b,hb=>by
  rcases Kq.mp hb with rfl|hb
  ·exact⟨a,Kl,r⟩
  ·obtain⟨a',h1,h2⟩:=Paired.mem_right t b hb;exact⟨a',Ki _ h1,h2⟩
theorem Ar(hu:X.A.units+64<cLine)(neg:Bool):VO X (compareOp (if neg=true then .NotIn else .In)) (nW neg):=by
 intro a_ s Z H x y v u v2 u2 M Q Q2 I rv ru dx dy rm q b_;unfold nW at q;split at q
 ·rename_i ds SW;obtain⟨p1,p2,q⟩:=q;obtain⟨p,vs,rfl,hq,dl⟩:=ik rm SW dy;cases ru;obtain⟨H',I',t',d1⟩:=pT I rm dx p1;have NV:=dl.mono t';have fin:EP X a_ Z Q2 (.bool (neg ^^ ds.any λd=>eqD d (res M x))) s:=⟨.bl _,H,I,rfl,b_ _ _ _ _ bY rm (.refl _) q⟩
  classical
  have key:∀{f_:List Value},Vals vs f_->∃e:Value->Bool,f_.any e=(ds.any λd=>eqD d (res M x))/\∀w∈f_,SeqAt.EqAt X.A.in1 s w v2 (e w):=λ{f_} r=>by
   have pd:=iM NV r
   let e:Value->Bool:=λw=>if h:∃d∈ds,∃v,Den X.K H' d v/\RelV v w then eqD h.choose (res M x) else false
   have he:∀d w,d∈ds->(∃v,Den X.K H' d v/\RelV v w)->e w=eqD d (res M x):=λd w hd ⟨v',dv,LF⟩=>by
    have h:∃d∈ds,∃v,Den X.K H' d v/\RelV v w:=⟨d,hd,v',dv,LF⟩;obtain⟨hm,QP,NZ,QQ⟩:=h.choose_spec;have:QP=v':=QQ.inj LF;subst this;have e1:h.choose=d:=nU I' rfl 8 (KE.mp p2 _ hm) (KE.mp p2 _ hd) NZ dv;show (if h:∃d∈ds,∃v,Den X.K H' d v/\RelV v w then eqD h.choose (res M x) else false)=_
    rw[dif_pos h,e1]
   refine⟨e,wU pd he,λw hw=>?_⟩
   obtain⟨d,hd,v',dv,LF⟩:=Paired.mem_right pd w hw;rw[he d w hd ⟨v',dv,LF⟩];exact (Cd I' rfl 8 (KE.mp p2 _ hd) p1 dv d1 LF rv (by show X.A.units+1+8<cLine;omega)).2.2
  rcases hq with hq|hq
  ·obtain⟨f_,r,Oj,hz⟩:=I.list hq;obtain⟨e,e1,e2⟩:=key r;have ea:f_.toArray.any e=ds.any λd=>eqD d (res M x):=by rw[<-e1];simp
   cases neg with
   |true=>exact SeqAt.notIn_listAt e Oj.isList (λw hw=>e2 w (by simpa using hw)) (by rw[ea];rw[Bool.true_xor]at fin;exact fin)
   |false=>exact SeqAt.in_listAt e Oj.isList (λw hw=>e2 w (by simpa using hw)) (by rw[ea];rw[Bool.false_xor]at fin;exact fin)
  ·obtain⟨f_,r,Oj,hz⟩:=I.tuple hq;obtain⟨e,e1,e2⟩:=key r;have ea:f_.toArray.any e=ds.any λd=>eqD d (res M x):=by rw[<-e1];simp
   cases neg with
   |true=>exact SeqAt.notIn_tupleAt e Oj (λw hw=>e2 w (by simpa using hw)) (by rw[ea];rw[Bool.true_xor]at fin;exact fin)
   |false=>exact SeqAt.in_tupleAt e Oj (λw hw=>e2 w (by simpa using hw)) (by rw[ea];rw[Bool.false_xor]at fin;exact fin)
 ·split at q
  ·rename_i o e;obtain⟨a,ov,rfl,g,od⟩:=gM e rm dy dx;cases ru;refine Hq neg (by omega) I g rv λs' I'=>⟨.bl (neg ^^ ov.isSome),H,I',rfl,b_ _ _ (.bl _) _ bY rm (.refl _) ?_⟩
   have:o.isSome=ov.isSome:=by
    cases o<;>cases ov<;>first|rfl|exact od.elim
   rw[<-this];exact q
  ·exact q.elim
theorem iO(hu:X.A.units+64<cLine)(op:CmpOp):VO X (compareOp op) (aI op):=by
 cases op with
 |Eq=>exact Ap hu false
 |NotEq=>exact Ap hu true
 |Lt=>exact (VO.of3 HN).imp λ_ _ _ _ h=>iL h
 |LtE=>exact (VO.of3 HL).imp λ_ _ _ _ h=>iL h
 |Gt=>exact (VO.of3 Ia).imp λ_ _ _ _ h=>iL h
 |GtE=>exact (VO.of3 Hs).imp λ_ _ _ _ h=>iL h
 |Is=>exact zV false
 |IsNot=>exact zV true
 |In=>exact Ar hu false
 |NotIn=>exact Ar hu true
theorem eQ{K:Lr}(h:DenL K H [d] vs):∃v,vs=[v]/\Den K H d v:=by
 obtain⟨v,r,rfl,dv,rfl⟩:=h;exact⟨v,rfl,dv⟩
def rLen0(xs:List D)(M:MH)(Q:VK3):Prop:=match xs with
  |[x]=>match aA M x with
   |some ds=>Q (.int ds.length) M
   |none=>False
  |_=>False
theorem yd:VC X (.builtin "len") rLen0:=(VC.of3 DL).imp λxs M Q h=>by
 simp only[rLen0]at h;split at h
 ·rename_i x;split at h
  ·rename_i ds e;refine⟨x,ds,rfl,?_,h⟩;cases x with
   |tup es=>exact .inr (by rw[show es=ds from KA e])
   |g_ es=>exact .inl (.inl (by rw[show es=ds from KA e]))
   |ref a=>
    cases q:M a with
    |none=>simp[aA,ak,q]at e
    |some o=>
     cases o with
     |lst es=>exact .inl (.inr ⟨a,rfl,by rw[q];simp[aA,ak,q]at e;rw[e]⟩)
     |_=>simp[aA,ak,q]at e
   |_=>cases e
  ·exact h.elim
 ·exact h.elim
theorem mR{f:Bool}{s:Shared}{ks:List (List Int)}{xs:List (List Int×Addr×Value)}(I:Inv X a_ Z H s)(e:Rd H p (.ext (cM f p xs)))(z:TabF f X.K H p ks xs vs) :
  ∃ob es ep,s.heap.get? p=some ob/\ob.ExactDict/\ob.data=.dict es ep/\es.toList=(xs.map λx=>(⟨kH f x.1,.ref x.2.1,x.2.2⟩:DictEntry))/\es.size=ks.length:=by
 obtain⟨⟨ob,es,ep,h1,h2,h3,h4⟩,_⟩:=(show ObjOk X.prog X.w H s.heap p (.ext (cM f p xs)) from e.ok I.j_);refine⟨ob,es,ep,h1,h2,h3,h4,?_⟩;have:=congrArg List.length h4;have l3:xs.length=ks.length:=by rw[<-z.kx];simp
 simp at this;omega
theorem Br:VC X (.builtin "len") (rBi .len):=by
 intro a_ s Z H xs vs us M Q Q2 I rs dl rm q b_;by_cases h:rLen0 xs M Q
 ·exact yd a_ s Z H xs vs us M Q Q2 I rs dl rm h b_
 ·simp only[rBi]at q;split at q
  ·split at q
   ·rename_i ds e;exact absurd (by simp only[rLen0,e];exact q) h
   ·split at q
    ·rename_i ks ds e;obtain⟨v,rfl,dv⟩:=eQ dl;obtain⟨p,ws,ts,rfl,rd,z,_⟩:=gP e rm dv;obtain⟨ob,es,ep,h1,h2,h3,h4,h5⟩:=mR I rd z;obtain⟨u,rfl,rx⟩:=gG rs;cases rx;refine DN z.no h1 h2 h3 (by have:=z.sz;have:=sizeLine_eq;omega) ⟨.int es.size,H,I.tok _,⟨_,rfl⟩,?_⟩
     rw[h5];exact b_ _ _ _ _ d4 rm (.refl _) q
    ·split at q
     ·rename_i ks ds e;obtain⟨v,rfl,dv⟩:=eQ dl;obtain⟨p,ws,ts,rfl,rd,z,_⟩:=jE e rm dv;obtain⟨ob,es,ep,h1,h2,h3,h4,h5⟩:=mR I rd z;obtain⟨u,rfl,rx⟩:=gG rs;cases rx;refine DN z.no h1 h2 h3 (by have:=z.sz;have:=sizeLine_eq;omega) ⟨.int es.size,H,I.tok _,⟨_,rfl⟩,?_⟩
      rw[h5];exact b_ _ _ _ _ d4 rm (.refl _) q
     ·exact q.elim
  ·exact q.elim
theorem Dl(hc:X.calm=true):VC X (.builtin "max") (rBi .max):=(VC.of3 (Ew hc)).imp λxs M Q h=>by
 simp only[rBi]at h;split at h
 ·exact⟨_,_,rfl,h⟩
 ·exact h.elim
theorem Cf(hc:X.calm=true):VC X (.builtin "min") (rBi .min):=(VC.of3 (DZ hc)).imp λxs M Q h=>by
 simp only[rBi]at h;split at h
 ·exact⟨_,_,rfl,h⟩
 ·exact h.elim
theorem ma{K:Lr}:∀ks:List Int,DenL K H (ks.map D.int) (ks.map V.int)
 |[]=>rfl
 |k::r=>⟨_,_,rfl,rfl,ma r⟩
theorem o6{K:Lr}:∀{ts:List (List Int×Addr×Value)},(∀x∈ts,SqT K H x.2.1 (x.1.map V.int))->DenL K H ((ts.map (·.1)).map bR) (ts.map λx=>V.ref x.2.1)
 |[],_=>rfl
 |x::r,h=>⟨_,_,rfl,nX (h x Kl) (ma _),o6 λy hy=>h y (Ki _ hy)⟩
theorem mC:∀ts:List (List Int×Addr×Value),Vals (ts.map λx=>V.ref x.2.1) (ts.map λx=>Value.ref x.2.1)
 |[]=>.nil
 |x::r=>.cons rfl (mC r)
theorem yH(fz:Bool)(hc:X.calm=true):VC X (.type "list") (rBi (.list fz)):=by
 intro a_ s Z H xs vs us M Q Q2 I r dl rm q b_;simp only[rBi]at q;split at q
 ·rename_i x;split at q
  ·rename_i ds e;obtain⟨v,rfl,dv⟩:=eQ dl;obtain⟨p,vs,rfl,hq,LX⟩:=ik rm e dv;refine thn (mK a_ s Z H _ us (λw H'=>∃l,w=.ref l/\H l=none/\H'=upd H l (.lst vs)) I r ⟨p,vs,rfl,hq,λl hl=>⟨l,rfl,hl,rfl⟩⟩) λu s1 z_=>?_
   obtain⟨w,H1,I1,r1,l,e1,hl,e2⟩:=z_;subst e1;subst e2;cases r1;exact cB I1 hl LX rm (.refl _) q b_
  ·split at q
   ·rename_i ks ds e;obtain⟨v,rfl,dv⟩:=eQ dl;obtain⟨p,ws,ts,rfl,rd,z,_⟩:=gP e rm dv;obtain⟨ob,es,ep,h1,h2,h3,h4,h5⟩:=mR I rd z;obtain⟨u,rfl,rx⟩:=gG r;cases rx;have hz:es.size<=sizeLine:=by have:=z.sz;omega
    refine PySem.W.kdl_call (wQ z.no h2 h3) (I.ok.hd hc) h1 hz λh' tk MN c' kp e hi=>?_
    have hp:H s.heap.objs.size=none:=I.j_.fresh (Km _);have ea:MN.toList=ts.map λx=>Value.ref x.2.1:=by
     refine List.ext_getElem? λj=>?_
     by_cases hj:j<MN.size
     ·have e1:MN[j]?=some MN[j]:=by simp
      obtain⟨en,e2,e3⟩:=hi.2 j _ e1;have e4:es.toList[j]?=some en:=by simpa using e2
      rw[h4,Kt]at e4;cases hx:ts[j]? with
      |none=>rw[hx]at e4;cases e4
      |some x=>
       rw[hx]at e4;cases e4;rw[Array.getElem?_toList,e1,e3,Kt,hx];rfl
     ·have h6:=hi.1;have h7:ts.length=es.size:=by
       have:=congrArg List.length h4;simpa using this.symm
      rw[List.getElem?_eq_none (by simpa using hj),List.getElem?_eq_none (by rw[Kr];omega)]
    have hv:Vals (ts.map λx=>V.ref x.2.1) MN.toList:=by rw[ea];exact mC ts
    have I1:=I.laid (o:=.lst (ts.map λx=>V.ref x.2.1)) (t':=tk) kp (Km _) ⟨by rw[hv.length,ea,Kr];have:=z.sz;rw[<-z.kx,Kr]at this;exact this,MN.toList,c',hv,by simpa using e⟩
    exact cB I1 hp (by rw[<-z.kx];exact o6 z.at_) rm (.refl _) q b_
   ·exact q.elim
 ·exact q.elim
end
end L2
namespace L2
open PySem PySem.Spec PyProof.Rows PySem.W
theorem uk{s:Shared}{vs:List Value}{ps:List IP}(hl:s.heap.IsList l vs.toArray)(hv:Pv s.heap vs ps)(h5:ps.length<64)(hd:ps.Nodup)
  (h:∀is h' a c,SoI ps is->s.heap.objs.size<=a->(∀b o,s.heap.get? b=some o->h'.get? b=some o)->h'.get? a=some (seqObj "list" (cR vs is).toArray c)->Q (.ref a) {s with heap:=h'}):wpAny (model prog w) A (call (.builtin "sorted") [.ref l]) Q E s:=by
 have hz:=hv.length;refine Calls.call_function_entry kind_sorted plain_sorted entry_sorted (args_sorted1 _) ?_;unfold Builtin.«sorted»;refine Kf (m:=checkCount "sorted" 1 1 _) (Kh (Kf (collect_list hl (Kf (wpAny_newList ?_ (by rw[sizeLine_eq];omega))) (by rw[sizeLine_eq];omega))))
 have sz:((s.heap.push (seqObj "list" #[] 0)).update s.heap.objs.size (Obj.mapSeq (·++vs.toArray))).objs.size=s.heap.objs.size+1:=by rw[Heap.size_update,size_push']
 have k1:∀b o,s.heap.get? b=some o->((s.heap.push (seqObj "list" #[] 0)).update s.heap.objs.size (Obj.mapSeq (·++vs.toArray))).get? b=some o:=λb o q=>
  (Heap.get?_update_ne _ _ _ _ (KH (Kw q))).trans (Kk _ q)
 generalize (s.heap.push (seqObj "list" #[] 0)).update s.heap.objs.size (Obj.mapSeq (·++vs.toArray))=H1 at sz k1 ⊢;have k2:∀b o,s.heap.get? b=some o->(H1.push (seqObj "list" vs.toArray 0)).get? b=some o:=λb o q=>Kk _ (k1 b o q)
 have ho:(H1.push (seqObj "list" vs.toArray 0)).get? H1.objs.size=some (seqObj "list" vs.toArray 0):=Ko _ rfl;show wpAny _ _ _ _ _ {s with heap:=H1.push (seqObj "list" vs.toArray 0)}
 refine Kf (K0 (K8 slot_list_sort ⟨_,ho,rfl⟩ entry_list_sort ?_ (args_list_sort _)));refine qy (s:={s with heap:=H1.push (seqObj "list" vs.toArray 0)}) ho (hv.keeps λb o g _=>k2 b o g) h5 hd λis so=>?_
 refine⟨_,rfl,Kh ⟨_,rfl,?_⟩⟩;have nb:∀b o,s.heap.get? b=some o->b≠H1.objs.size:=λb o g=>by rw[sz];exact KH (Nat.lt_succ_of_lt (Kw g))
 obtain⟨c,g⟩:∃c,(sortedHeap (H1.push (seqObj "list" vs.toArray 0)) H1.objs.size vs (cR vs is).toArray).get? H1.objs.size=some (seqObj "list" (cR vs is).toArray c):=by
  obtain⟨e1,g1⟩:∃e1,((H1.push (seqObj "list" vs.toArray 0)).update H1.objs.size (Obj.mapSeq λ_=>(#[]:Array Value))).get? H1.objs.size=some (seqObj "list" #[] e1):=⟨_,get?_update_seq ho λ_=>#[]⟩
  exact⟨_,get?_update_seq (Kk _ (Kk _ g1)) λ_=>(cR vs is).toArray⟩
 refine h is _ _ c so (by rw[sz];omega) (λb o q=>?_) g
 unfold sortedHeap;rw[KK _ _ (Kz (nb b o q))];exact Kk _ (Kk _ ((KK _ _ (Kz (nb b o q))).trans (k2 b o q)))
theorem EB{X:Cx}{s:Shared}(I:Inv X a_ Z H s):∀{ds:List D}{vs:List V}{us:List Value}{ps:List IP},dY ds=some ps->DenL X.K H ds vs->Vals vs us->Pv s.heap us ps/\ds.length=ps.length:=by
 intro ds
 induction ds with
 |nil=>
  intro vs us ps h dl r;cases (show []=ps from KA h);cases dl;cases r;exact⟨rfl,rfl⟩
 |cons d ds ih=>
  intro vs us ps h dl r;unfold dY at h;split at h
  ·rename_i e;cases e
  ·rename_i a b D_ e;cases e;split at h
   ·rename_i SX hp;cases h;obtain⟨v,rs,rfl,dv,dl⟩:=dl;cases r with
    |cons rv r=>
     obtain⟨p1,p2⟩:=ih hp dl r;obtain⟨t,ws,rfl,sq,dw⟩:=dv;obtain⟨v1,r1,rfl,d1,v2,r2,rfl,d2,e3⟩:=dw;cases (show r2=[] from e3);cases (show v1=.int a from d1);cases (show v2=.int b from d2);cases rv;obtain⟨f_,ri,⟨o,g,c,n,hd⟩,_⟩:=I.tuple sq;cases ri with
     |@cons _ u1 _ _ q1 ri=>
     cases ri with
     |@cons _ u2 _ _ q2 ri=>
     cases ri;obtain⟨t1,rfl⟩:=q1;obtain⟨t2,rfl⟩:=q2;exact⟨⟨(a,b),SX,rfl,⟨t,o,n,t1,t2,rfl,g,c,hd⟩,p1⟩,by rw[Ky,Ky,p2]⟩
   ·cases h
  ·cases h
theorem mw{vs:List V}{us:List Value}(r:Vals vs us):∀(is:List Nat),(∀i∈is,i<vs.length)->Vals (is.map λi=>vs.getD i .i_) (is.map λi=>us.getD i .none)
 |[],_=>.nil
 |i::is,h=>by
  refine .cons ?_ (mw r is λj hj=>h j (Ki _ hj))
  have hi:=h i Kl;have e:vs[i]?=some (vs.getD i .i_):=by simp[hi]
  obtain⟨u,hu,ru⟩:=r.get e;have:us.getD i .none=u:=by rw[List.getD_eq_getElem?_getD,hu];rfl
  show RelV (vs.getD i .i_) (us.getD i .none);rw[this];exact ru
theorem oG{K:Lr}{ds:List D}{vs:List V}(dl:DenL K H ds vs):∀(is:List Nat),(∀i∈is,i<ds.length)->DenL K H (is.map λi=>ds.getD i .i_) (is.map λi=>vs.getD i .i_)
 |[],_=>rfl
 |i::is,h=>by
  refine .cons ?_ (oG dl is λj hj=>h j (Ki _ hj))
  have hi:=h i Kl;have e:ds[i]?=some (ds.getD i .i_):=by simp[hi]
  obtain⟨v,hv,dv⟩:=dl.get e;have:vs.getD i .i_=v:=by rw[List.getD_eq_getElem?_getD,hv];rfl
  show Den K H (ds.getD i .i_) (vs.getD i .i_);rw[this];exact dv
theorem wd{ps:List IP}{is:List Nat}(h:SoI ps is):(is.map (atP ps)).Perm ps:=by
 have e:(List.range ps.length).map (atP ps)=ps:=List.ext_getElem (by simp) λi h1 h2=>by simp[h2]
 have:=h.1.map (atP ps)
 rwa [e]at this
theorem ut(fz:Bool):VC X (.builtin "sorted") (rBi (.sorted fz)):=by
 intro a_ s Z H xs vs us M Q Q2 I r dl rm q b_;simp only[rBi]at q;split at q
 ·rename_i x;split at q
  ·rename_i ds e;split at q
   ·rename_i ps hp;obtain⟨⟨h5,hd⟩,q⟩:=q;obtain⟨v,rfl,dv⟩:=eQ dl;obtain⟨p,ws,rfl,hq,LX⟩:=aZ rm e dv;obtain⟨u,rfl,ru⟩:=gG r;cases ru;obtain⟨_,f_,n,ri,_,g⟩:=I.rdL hq;obtain⟨pv,lz⟩:=EB I hp LX ri;refine uk (vs:=f_) ⟨_,g,rfl,_,rfl⟩ pv h5 hd λis h' a c so ha k g'=>?_
    have hn:H a=none:=I.j_.fresh ha;have li:∀i∈is,i<ds.length:=λi hi=>by rw[lz];exact List.mem_range.mp (so.1.mem_iff.mp hi)
    have vr:=mw ri is (λi hi=>by rw[<-LX.length];exact li i hi)
    have I1:Inv X a_ Z (upd H a (.lst (is.map λi=>ws.getD i .i_))) {s with heap:=h',toks:=s.toks}:=I.laid (o:=.lst (is.map λi=>ws.getD i .i_)) k ha ⟨by rw[Kr,so.1.length_eq,List.length_range,sizeLine_eq];omega,_,_,vr,g'⟩
    have dp:=oG LX is li;rw[show (is.map λi=>ds.getD i .i_)=(is.map (atP ps)).map prI from by
     rw[lW hp,List.map_map];refine List.map_congr_left λi hi=>?_
     have:i<ps.length:=by rw[<-lz];exact li i hi
     simp[this]]at dp
    exact cB I1 hn dp rm (.refl _) (q _ (wd so) so.2) b_
   ·exact q.elim
  ·exact q.elim
 ·exact q.elim
theorem ints_of{K:Lr}:∀{es:List D}{ns:List Int}{vs:List V}{us:List Value},bJ es=some ns->DenL K H es vs->Vals vs us->IntsAre us ns
 |[],ns,vs,us,h,dl,r=>by
  cases (show []=ns from KA h);cases (show vs=[] from dl);cases r;exact .nil
 |d::es,ns,vs,us,h,dl,r=>by
  obtain⟨v,ws,rfl,dv,dl⟩:=dl;cases d with
  |int i=>
   cases q:bJ es with
   |none=>simp[bJ,q]at h
   |some ms=>
    simp[bJ,q]at h;subst h;cases (show v=.int i from dv);cases r with
    |cons h1 h2=>
     obtain⟨t,rfl⟩:=h1;exact .cons _ _ (ints_of q dl h2)
  |_=>simp[bJ]at h
end L2
namespace L2
open PySem PySem.Spec PyProof.Rows
theorem ex9{α β γ δ:Sort _}{P1 P2 P3 P4 P5:α->β->γ->δ->Prop}{R:Prop}(h:∃a b c d,P1 a b c d/\P2 a b c d/\P3 a b c d/\P4 a b c d/\P5 a b c d)(k:∀a b c d,P1 a b c d->P2 a b c d->P3 a b c d->P4 a b c d->P5 a b c d->R):R:=
 h.elim λa h=>h.elim λb h=>h.elim λc h=>h.elim λd h=>k a b c d h.1 h.2.1 h.2.2.1 h.2.2.2.1 h.2.2.2.2
def Hl(K:Lr)(r:D->D->MH->VK3->Prop):R2:=λv u H Q2=>∃x y M Q,Den K H x v/\Den K H y u/\RelM K M H/\r x y M Q/\Back K H Q Q2
def GY(K:Lr)(r:D->MH->VK3->Prop):V->Hp->VK->Prop:=λv H Q2=>∃x M Q,Den K H x v/\RelM K M H/\r x M Q/\Back K H Q Q2
def Ih(K:Lr)(r:List D->MH->VK3->Prop):List V->Hp->VK->Prop:=λvs H Q2=>∃xs M Q,DenL K H xs vs/\RelM K M H/\r xs M Q/\Back K H Q Q2
section
variable {X:Cx}
theorem VO.op{f:Value->Value->Sem Value}{r:D->D->MH->VK3->Prop}(h:VO X f r):OpR X f (Hl X.K r):=λa_ s Z H v u v2 u2 Q2 I rv ru ⟨x,y,M,Q,dx,dy,rm,q,b_⟩=>h a_ s Z H x y v u v2 u2 M Q Q2 I rv ru dx dy rm q b_
theorem VU.op{f:Value->Sem Value}{r:D->MH->VK3->Prop}(h:VU X f r):UnR X f (GY X.K r):=λa_ s Z H v v2 Q2 I rv ⟨x,M,Q,dx,rm,q,b_⟩=>h a_ s Z H x v v2 M Q Q2 I rv dx rm q b_
theorem VC.op{f:Value}{r:List D->MH->VK3->Prop}(h:VC X f r):CallR X f (Ih X.K r):=λa_ s Z H vs us Q2 I rv ⟨xs,M,Q,dx,rm,q,b_⟩=>h a_ s Z H xs vs us M Q Q2 I rv dx rm q b_
end
section
variable {K:Lr}
theorem qw{ta tb:St3->MH->VK3->XN->Prop}{R3:D->D->MH->Prop}{R2:V->V->Hp->Prop}(rm:RelM K M H)(ds:DenS K H h_ Z)(lk:LkE K cls H E3 (E2 Z))
  (h:ta h_ M (λx M1=>tb h_ M1 (λy M2=>R3 x y M2) E3) E3) (k:∀v u H' x y M',Den K H' x v->Den K H' y u->RelM K M' H'->TM K H H'->R3 x y M'->R2 v u H') :
  low K cls E2 ta Z H λv H1=>low K cls E2 tb Z H1 λu H2=>R2 v u H2:=
 ⟨h_,M,_,E3,rm,ds,lk,h,λv H1 x M1 dv n_ t1 h1=>⟨h_,M1,_,E3,n_,ds.mono t1,lk.mono t1,h1,λu H2 y M2 du Lu t2 h2=>k v u H2 x y M2 (dv.mono t2) du Lu (t1.trans t2) h2⟩⟩
theorem bc{ta:St3->MH->VK3->XN->Prop}{R3:VK3}{R2:VK}(rm:RelM K M H)(ds:DenS K H h_ Z)(lk:LkE K cls H E3 (E2 Z))(h:ta h_ M R3 E3)(k:∀v H' x M',Den K H' x v->RelM K M' H'->TM K H H'->R3 x M'->R2 v H') :
  low K cls E2 ta Z H R2:=⟨h_,M,R3,E3,rm,ds,lk,h,k⟩
end
section
variable {X:Cx}{cls:Nat->Addr}{E2:St->XK}{a b c e:Expr}{ta tb tc te:St3->MH->VK3->XN->Prop}{pos:Pos}
theorem EA{i:Nat}{x:Str}(hN:X.N[i]?=some x)(hv:Vis X.env.scope x)(hd:(x == ("__debug__" : Str))=false)(Ni:(x == ("__classdict__" : Str))=false) :
  PE X (.Name x pos) (low X.K cls E2 λZ M Q _=>match Z[i]? with|some (some d)=>Q d M|_=>False):=
 (B3 hN hv hd Ni).imp λZ H Q2 k_=>ex9 k_ λh_ M Q E3 rm ds lk h b_=>by
  split at h
  ·rename_i d e;obtain⟨v,e1,e2⟩:=ds.2 i d e;exact⟨v,e1,b_ _ _ _ _ e2 rm (.refl _) h⟩
  ·exact h.elim
theorem ou{v:V}{d:D}(h:PE X e (tC v))(hd:∀H,Den X.K H d v):PE X e (low X.K cls E2 λ_ M Q _=>Q d M):=
 h.imp λZ H Q2 k_=>ex9 k_ λh_ M Q E3 rm ds lk h b_=>b_ _ _ _ _ (hd H) rm (.refl _) h
theorem FZ{op:Operator}{r:D->D->MH->VK3->Prop}(ho:VO X (binaryOp op) r)(ha:PE X a (low X.K cls E2 ta))(hb:PE X b (low X.K cls E2 tb)) :
  PE X (.BinOp a op b pos) (low X.K cls E2 λZ M Q E=>ta Z M (λx M1=>tb Z M1 (λy M2=>r x y M2 Q) E) E):=
 (Fn ho.op ha hb).imp λZ H Q2 k_=>ex9 k_ λh_ M Q E3 rm ds lk h b_=>qw rm ds lk h λv u H' x y M' dx dy q_ t q=>⟨x,y,M',Q,dx,dy,q_,q,b_.mono t⟩
theorem Id{op:UnaryOp}{r:D->MH->VK3->Prop}(ho:VU X (unaryOp op) r)(ha:PE X a (low X.K cls E2 ta)) :
  PE X (.UnaryOp op a pos) (low X.K cls E2 λZ M Q E=>ta Z M (λx M1=>r x M1 Q) E):=
 (Fq ho.op ha).imp λZ H Q2 k_=>ex9 k_ λh_ M Q E3 rm ds lk h b_=>bc rm ds lk h λv H' x M' dx q_ t q=>⟨x,M',Q,dx,q_,q,b_.mono t⟩
theorem DW{op:CmpOp}{r:D->D->MH->VK3->Prop}(ho:VO X (compareOp op) r)(ha:PE X a (low X.K cls E2 ta))(hb:PE X b (low X.K cls E2 tb))(hm:behindInMarks op b=false) :
  PE X (.Compare a [op] [b] pos) (low X.K cls E2 λZ M Q E=>ta Z M (λx M1=>tb Z M1 (λy M2=>r x y M2 Q) E) E):=
 (xS ho.op ha hb hm).imp λZ H Q2 k_=>ex9 k_ λh_ M Q E3 rm ds lk h b_=>qw rm ds lk h λv u H' x y M' dx dy q_ t q=>⟨x,y,M',Q,dx,dy,q_,q,b_.mono t⟩
abbrev boolQ(Q:Bool->MH->Prop):VK3:=λr M=>match r with
 |.bl k=>Q k M
 |_=>False
theorem iz{K:Lr}{H:Hp}{Q:Bool->MH->Prop}{Q2:Bool->Hp->Prop}(k:∀b H' M',RelM K M' H'->TM K H H'->Q b M'->Q2 b H'):Back K H (boolQ Q) λx H1=>∃k,x=.bl k/\Q2 k H1:=λv H' d M' dv rm t q=>by
 unfold boolQ at q;split at q
 ·exact⟨_,dv,k _ _ _ rm t q⟩
 ·exact q.elim
theorem EK{op:CmpOp}{r:D->D->MH->VK3->Prop}(ho:VO X (compareOp op) r)(ha:PE X a (low X.K cls E2 ta))(hb:PE X b (low X.K cls E2 tb))(hm:behindInMarks op b=false) :
  PT X (.Compare a [op] [b] pos) (cu X.K cls E2 λZ M Q E=>ta Z M (λx M1=>tb Z M1 (λy M2=>r x y M2 (boolQ Q)) E) E):=
 (zg ho.op ha hb hm).imp λZ H Q2 k_=>ex9 k_ λh_ M Q E3 rm ds lk h b_=>qw rm ds lk h λv u H' x y M' dx dy q_ t q=>⟨x,y,M',_,dx,dy,q_,q,(iz b_).mono t⟩
theorem FI(ha:PE X a (low X.K cls E2 ta))(he:∀whole,isTrue a X.env whole=(do let v<-whole;standAt a.pos;holding [v] (truthy v))):PT X a (cu X.K cls E2 λZ M Q E=>ta Z M (boolQ Q) E):=
 (CZ ha he).imp λZ H Q2 k_=>ex9 k_ λh_ M Q E3 rm ds lk h b_=>bc rm ds lk h λv H' x M' dx q_ t q=>iz b_ v H' x M' dx q_ t q
variable {tA tB:St3->MH->(Bool->MH->Prop)->XN->Prop}{aU:List Expr}
theorem jx{K:Lr}{Z:St}{H:Hp}{h_:St3}{M:MH}{E3:XN}{R3:Bool->MH->Prop}{R2:Bool->Hp->Prop}(rm:RelM K M H)(ds:DenS K H h_ Z)(lk:LkE K cls H E3 (E2 Z))(h:tA h_ M R3 E3)(k:∀b H' M',RelM K M' H'->TM K H H'->R3 b M'->R2 b H') :
  cu K cls E2 tA Z H R2:=⟨h_,M,R3,E3,rm,ds,lk,h,k⟩
theorem sy(ha:PT X a (cu X.K cls E2 tA)):PW X (.BoolOp .And [a] pos) (cu X.K cls E2 tA):=yt ha
theorem vF(ha:PT X a (cu X.K cls E2 tA)):PW X (.BoolOp .Or [a] pos) (cu X.K cls E2 tA):=Cv ha
theorem sM(ha:PT X a (cu X.K cls E2 tA))(hb:PW X (.BoolOp .And (b::aU) pos) (cu X.K cls E2 tB)) :
  PW X (.BoolOp .And (a::b::aU) pos) (cu X.K cls E2 λZ M Q E=>tA Z M (λc M1=>if c=true then tB Z M1 Q E else Q false M1) E):=
 (Bu ha hb).imp λZ H Q2 k_=>ex9 k_ λh_ M Q E3 rm ds lk h b_=>jx rm ds lk h λc H' M' q_ t q=>by
  cases c with
  |true=>rw[Kp rfl]at q ⊢;exact jx q_ (ds.mono t) (lk.mono t) q λb H2 M2 r2 t2 q2=>b_ b H2 M2 r2 (t.trans t2) q2
  |false=>rw[Kj Ku]at q ⊢;exact b_ _ _ _ q_ t q
theorem yj(ha:PT X a (cu X.K cls E2 tA))(hb:PW X (.BoolOp .Or (b::aU) pos) (cu X.K cls E2 tB)) :
  PW X (.BoolOp .Or (a::b::aU) pos) (cu X.K cls E2 λZ M Q E=>tA Z M (λc M1=>if c=true then Q true M1 else tB Z M1 Q E) E):=
 (Fy ha hb).imp λZ H Q2 k_=>ex9 k_ λh_ M Q E3 rm ds lk h b_=>jx rm ds lk h λc H' M' q_ t q=>by
  cases c with
  |true=>rw[Kp rfl]at q ⊢;exact b_ _ _ _ q_ t q
  |false=>rw[Kj Ku]at q ⊢;exact jx q_ (ds.mono t) (lk.mono t) q λb H2 M2 r2 t2 q2=>b_ b H2 M2 r2 (t.trans t2) q2
theorem ET(ha:PT X a (cu X.K cls E2 tA)):PT X (.UnaryOp .Not a pos) (cu X.K cls E2 λZ M Q E=>tA Z M (λc M1=>Q (!c) M1) E):=
 (CP ha).imp λZ H Q2 k_=>ex9 k_ λh_ M Q E3 rm ds lk h b_=>jx rm ds lk h λc H' M' q_ t q=>b_ _ _ _ q_ t q
theorem As(ha:PE X a (low X.K cls E2 ta))(hb:PE X (.BoolOp .And (b::aU) pos) (low X.K cls E2 tb)) :
  PE X (.BoolOp .And (a::b::aU) pos) (low X.K cls E2 λZ M Q E=>ta Z M (λx M1=>match x with|.bl c=>if c=true then tb Z M1 Q E else Q (.bl false) M1|_=>False) E):=
 (Ci ha hb).imp λZ H Q2 k_=>ex9 k_ λh_ M Q E3 rm ds lk h b_=>bc rm ds lk h λv H' x M' dx q_ t q=>by
  split at q
  ·rename_i c;cases (show v=.bl c from dx);refine⟨c,rfl,?_⟩;cases c with
   |true=>rw[Kp rfl]at q ⊢;exact bc q_ (ds.mono t) (lk.mono t) q λv2 H2 x2 M2 d2 r2 t2 q2=>b_ v2 H2 x2 M2 d2 r2 (t.trans t2) q2
   |false=>rw[Kj Ku]at q ⊢;exact b_ _ _ _ _ bY q_ t q
  ·exact q.elim
theorem DC(ha:PE X a (low X.K cls E2 ta))(hb:PE X (.BoolOp .Or (b::aU) pos) (low X.K cls E2 tb)) :
  PE X (.BoolOp .Or (a::b::aU) pos) (low X.K cls E2 λZ M Q E=>ta Z M (λx M1=>match x with|.bl c=>if c=true then Q (.bl true) M1 else tb Z M1 Q E|_=>False) E):=
 (DY ha hb).imp λZ H Q2 k_=>ex9 k_ λh_ M Q E3 rm ds lk h b_=>bc rm ds lk h λv H' x M' dx q_ t q=>by
  split at q
  ·rename_i c;cases (show v=.bl c from dx);refine⟨c,rfl,?_⟩;cases c with
   |true=>rw[Kp rfl]at q ⊢;exact b_ _ _ _ _ bY q_ t q
   |false=>rw[Kj Ku]at q ⊢;exact bc q_ (ds.mono t) (lk.mono t) q λv2 H2 x2 M2 d2 r2 t2 q2=>b_ v2 H2 x2 M2 d2 r2 (t.trans t2) q2
  ·exact q.elim
theorem Eh(ha:PE X a (low X.K cls E2 ta)):PE X (.UnaryOp .Not a pos) (low X.K cls E2 λZ M Q E=>ta Z M (λx M1=>match x with|.bl c=>Q (.bl (!c)) M1|_=>False) E):=
 (Bb ha).imp λZ H Q2 k_=>ex9 k_ λh_ M Q E3 rm ds lk h b_=>bc rm ds lk h λv H' x M' dx q_ t q=>by
  split at q
  ·rename_i c;cases (show v=.bl c from dx);exact⟨c,rfl,b_ _ _ _ _ bY q_ t q⟩
  ·exact q.elim
theorem zL{op LR:CmpOp}{r r':D->D->MH->VK3->Prop}(ho:VO X (compareOp op) r)(Md:VO X (compareOp LR) r')(ha:PE X a (low X.K cls E2 ta))(hb:PE X b (low X.K cls E2 tb))(hc:PE X c (low X.K cls E2 tc))(hm:lastMarks [op,LR] [b,c]=false) :
  PE X (.Compare a [op,LR] [b,c] pos) (low X.K cls E2 λZ M Q E=>ta Z M (λx M1=>tb Z M1 (λy M2=>r x y M2 λz M3=>match z with
   |.bl k=>if k=true then tc Z M3 (λz M4=>r' y z M4 Q) E else Q (.bl false) M3
   |_=>False) E) E):=
 (vo ho.op Md.op ha hb hc hm).imp λZ H Q2 k_=>ex9 k_ λh_ M Q E3 rm ds lk h b_=>qw rm ds lk h λv u H' x y M' dx dy q_ t q=>⟨x,y,M',_,dx,dy,q_,q,λw H1 z M1 dz n_ t1 q1=>by
  split at q1
  ·rename_i k;refine⟨k,dz,?_⟩;cases k with
   |true=>rw[Kp rfl]at q1 ⊢;exact bc n_ ((ds.mono t).mono t1) ((lk.mono t).mono t1) q1 λv2 H2 x2 M2 d2 r2 t2 q2=>⟨y,x2,M2,Q,(dy.mono t1).mono t2,d2,r2,q2,(b_.mono t).mono (t1.trans t2)⟩
   |false=>rw[Kj Ku]at q1 ⊢;exact b_ _ _ _ _ bY n_ (t.trans t1) q1
  ·exact q1.elim⟩
theorem zE{op LR:CmpOp}{r r':D->D->MH->VK3->Prop}(ho:VO X (compareOp op) r)(Md:VO X (compareOp LR) r')(ha:PE X a (low X.K cls E2 ta))(hb:PE X b (low X.K cls E2 tb))(hc:PE X c (low X.K cls E2 tc))(hm:lastMarks [op,LR] [b,c]=false) :
  PT X (.Compare a [op,LR] [b,c] pos) (cu X.K cls E2 λZ M Q E=>ta Z M (λx M1=>tb Z M1 (λy M2=>r x y M2 λz M3=>match z with
   |.bl k=>if k=true then tc Z M3 (λz M4=>r' y z M4 (boolQ Q)) E else Q false M3
   |_=>False) E) E):=
 (vY ho.op Md.op ha hb hc hm).imp λZ H Q2 k_=>ex9 k_ λh_ M Q E3 rm ds lk h b_=>qw rm ds lk h λv u H' x y M' dx dy q_ t q=>⟨x,y,M',_,dx,dy,q_,q,λw H1 z M1 dz n_ t1 q1=>by
  split at q1
  ·rename_i k;refine⟨k,dz,?_⟩;cases k with
   |true=>rw[Kp rfl]at q1 ⊢;exact bc n_ ((ds.mono t).mono t1) ((lk.mono t).mono t1) q1 λv2 H2 x2 M2 d2 r2 t2 q2=>⟨y,x2,M2,_,(dy.mono t1).mono t2,d2,r2,q2,((iz b_).mono t).mono (t1.trans t2)⟩
   |false=>rw[Kj Ku]at q1 ⊢;exact⟨false,rfl,b_ _ _ _ n_ (t.trans t1) q1⟩
  ·exact q1.elim⟩
variable {es:List Expr}{tr:St3->MH->(List D->MH->Prop)->XN->Prop}
theorem fS{K:Lr}{Z:St}{H:Hp}{h_:St3}{M:MH}{E3:XN}{R3:List D->MH->Prop}{R2:List V->Hp->Prop}(rm:RelM K M H)(ds:DenS K H h_ Z)(lk:LkE K cls H E3 (E2 Z))(h:tr h_ M R3 E3)(k:∀vs H' xs M',DenL K H' xs vs->RelM K M' H'->TM K H H'->R3 xs M'->R2 vs H') :
  eN K cls E2 tr Z H R2:=⟨h_,M,R3,E3,rm,ds,lk,h,k⟩
theorem Fj:PA X [] (eN X.K cls E2 λ_ M Q _=>Q [] M):=pa_nil.imp λZ H Q2 k_=>ex9 k_ λh_ M Q E3 rm ds lk h b_=>b_ _ _ _ _ .nil rm (.refl _) h
theorem A7(ha:PE X e (low X.K cls E2 te))(hr:PA X es (eN X.K cls E2 tr))(hs:starEach (e::es) X.env=(false,eval e X.env)::starEach es X.env) :
  PA X (e::es) (eN X.K cls E2 λZ M Q E=>te Z M (λx M1=>tr Z M1 (λxs M2=>Q (x::xs) M2) E) E):=
 (cv ha hr hs).imp λZ H Q2 k_=>ex9 k_ λh_ M Q E3 rm ds lk h b_=>bc rm ds lk h λv H1 x M1 dx n_ t1 q1=>fS n_ (ds.mono t1) (lk.mono t1) q1 λvs H2 xs M2 dl Lu t2 q2=>b_ _ _ _ _ (.cons (dx.mono t2) dl) Lu (t1.trans t2) q2
theorem Ek{x1}(h:PA X es (eN X.K cls E2 tr)):PE X (.Tuple es x1 pos) (low X.K cls E2 λZ M Q E=>tr Z M (λxs M1=>xs.length<=sizeLine/\Q (.tup xs) M1) E):=
 (CV h).imp λZ H Q2 k_=>ex9 k_ λh_ M Q E3 rm ds lk h b_=>fS rm ds lk h λvs H' xs M' dl q_ t ⟨z,q⟩=>⟨by rw[<-dl.length];exact z,λp hp=>
  b_ _ _ _ _ (nX (.of ai) (dl.mono (.new hp))) (q_.grow hp) (t.trans (.new hp)) q⟩
theorem FU{t2:TE}(h:PE X e t2){t:St3->MH->VK3->XN->Prop}{fz:Bool}
  (f:∀Z H h_ M Q E3 (R2:VK),RelM X.K M H->DenS X.K H h_ Z->LkE X.K cls H E3 (E2 Z)->t h_ M Q E3->(∀H' vs ds M' p,H' p=none->DenL X.K H' ds vs->RelM X.K M' H'->TM X.K H H'->fc fz ds M' Q->R2 (.ref p) (upd H' p (.lst vs)))->t2 Z H R2):PE X e (low X.K cls E2 t):=by
 refine λa_ s Z H Q2 I k_=>ex9 k_ λh_ M Q E3 rm ds lk q b_=>?_
 refine thn (h a_ s Z H (λv H1=>∃p H' vs ds M',v=.ref p/\H1=upd H' p (.lst vs)/\H' p=none/\DenL X.K H' ds vs/\RelM X.K M' H'/\TM X.K H H'/\fc fz ds M' Q) I
  (f Z H h_ M Q E3 _ rm ds lk q λH' vs ds M' p hp dl q_ t' n=>⟨p,H',vs,ds,M',rfl,rfl,hp,dl,q_,t',n⟩)) λu s1 ⟨v,H1,I1,r1,p,H',vs,D_,M',e1,e2,hp,dl,q_,t',n⟩=>?_
 subst e1;subst e2;cases r1;exact cB I1 hp dl q_ t' n b_
theorem FW(h:PA X es (eN X.K cls E2 tr)):PE X (.List es pos) (low X.K cls E2 λZ M Q E=>tr Z M (λxs M1=>fc fz xs M1 Q) E):=
 FU (CH h) λZ H h_ M Q E3 R2 rm ds lk q k=>fS rm ds lk q λvs H' xs M' dl q_ t n=>⟨by rw[<-dl.length];exact n.1,λp hp=>k H' vs xs M' p hp dl q_ t n⟩
theorem CS(hu:X.A.units+64<cLine):IxR X (λv u H Q2=>∃x y M Q,Den X.K H x v/\Den X.K H y u/\RelM X.K M H/\ar x y M Q/\Back X.K H Q Q2):=by
 intro value LO a_ s Z H v u v2 u2 Q2 I rv ru ⟨x,y,M,Q,dx,dy,rm,q,b_⟩ hs;unfold ar at q;split at q
 ·rename_i es e;split at q
  ·rename_i i;cases (show u=.int i from dy);split at q
   ·rename_i d e2;obtain⟨p,vs,rfl,hq,dl⟩:=ik rm e dx;obtain⟨w,e4,e5⟩:=zH dl e2;refine BQ value LO a_ s Z H _ _ v2 u2 Q2 I rv ru ?_ hs;rcases hq with hq|hq
    ·exact .inl ⟨p,vs,i,w,rfl,rfl,hq,e4,b_ _ _ _ _ e5 rm (.refl _) q⟩
    ·exact .inr (.inl ⟨p,vs,i,w,rfl,rfl,hq,e4,b_ _ _ _ _ e5 rm (.refl _) q⟩)
   ·exact q.elim
  ·exact q.elim
 ·split at q
  ·rename_i d e;obtain⟨a,ov,rfl,g,od⟩:=gM e rm dx dy;cases rv;cases ov with
   |none=>exact od.elim
   |some w=>exact tail_any (g.isDict I) PySem.F.slot_dict_getitem.lookup (uo (by omega) I g rfl ru λw' s' I' LF=>⟨w,H,I',LF,b_ _ _ _ _ od rm (.refl _) q⟩) hs
  ·exact q.elim
  ·exact q.elim
theorem Hb(hu:X.A.units+64<cLine)(ha:PE X a (low X.K cls E2 ta))(hb:PE X b (low X.K cls E2 tb))(hs:m8 b):PE X (.Subscript a b pos) (low X.K cls E2 λZ M Q E=>ta Z M (λx M1=>tb Z M1 (λy M2=>ar x y M2 Q) E) E):=
 (Ee (CS hu) ha hb hs).imp λZ H Q2 k_=>ex9 k_ λh_ M Q E3 rm ds lk h b_=>qw rm ds lk h λv u H' x y M' dx dy q_ t q=>⟨x,y,M',Q,dx,dy,q_,q,b_.mono t⟩
variable {lo hi:Option Expr}{tl th:St3->MH->(Option Int->MH->Prop)->XN->Prop}{p2:Pos}
theorem Hy:PO X none (uj X.K cls E2 λ_ M Q _=>Q none M):=po_none.imp λZ H Q2 k_=>ex9 k_ λh_ M Q E3 rm ds lk h b_=>b_ _ _ _ rm (.refl _) h
theorem DG(h:PE X e (low X.K cls E2 te)):PO X (some e) (uj X.K cls E2 λZ M Q E=>te Z M (λx M1=>match x with|.int i=>Q (some i) M1|_=>False) E):=
 (zw h).imp λZ H Q2 k_=>ex9 k_ λh_ M Q E3 rm ds lk h b_=>bc rm ds lk h λv H1 x M1 dx n_ t1 q1=>by
  split at q1
  ·exact⟨_,dx,b_ _ _ _ n_ t1 q1⟩
  ·exact q1.elim
theorem zP{t:St3->MH->(Option Int->MH->Prop)->XN->Prop}{K:Lr}{Z:St}{H:Hp}{h_:St3}{M:MH}{E3:XN}{R3:Option Int->MH->Prop}{R2:Option Int->Hp->Prop}(rm:RelM K M H)(ds:DenS K H h_ Z)(lk:LkE K cls H E3 (E2 Z))(h:t h_ M R3 E3)(k:∀o H' M',RelM K M' H'->TM K H H'->R3 o M'->R2 o H') :
  uj K cls E2 t Z H R2:=⟨h_,M,R3,E3,rm,ds,lk,h,k⟩
theorem FX(ha:PE X a (low X.K cls E2 ta))(hb:PE X b (low X.K cls E2 tb)) :
  PE X (.BinOp a .Add b pos) (low X.K cls E2 λZ M Q E=>ta Z M (λx M1=>tb Z M1 (λy M2=>jO fz x y M2 Q) E) E):=FZ (Dj fz) ha hb
theorem FH(h:PE X e (low X.K cls E2 te)):PE X e (low X.K cls E2 λZ M Q E=>te Z M (aY Q) E):=by
 refine λa_ s Z H Q2 I k_=>ex9 k_ λh_ M Q E3 rm ds lk q b_=>?_
 refine thn (h a_ s Z H (λv H1=>∃d M1,Den X.K H1 d v/\RelM X.K M1 H1/\TM X.K H H1/\aY Q d M1) I ⟨h_,M,_,E3,rm,ds,lk,q,λv H' d M' a b c e=>⟨d,M',a,b,c,e⟩⟩) λu s1 z_=>?_
 obtain⟨v,H1,I1,r1,d,M1,dv,n_,t1,q1⟩:=z_;obtain⟨H2,M2,d2,I2,t2,Lu,NZ,q2⟩:=nz I1 n_ dv q1;exact⟨v,H2,I2,r1,b_ _ _ _ _ NZ Lu (t1.trans t2) q2⟩
theorem CL(h:PE X e (low X.K cls E2 te)):PE X e (low X.K cls E2 λZ M Q E=>te Z M (j9 Q) E):=by
 refine λa_ s Z H Q2 I k_=>ex9 k_ λh_ M Q E3 rm ds lk q b_=>?_
 refine thn (h a_ s Z H (λv H1=>∃d M1,Den X.K H1 d v/\RelM X.K M1 H1/\TM X.K H H1/\j9 Q d M1) I ⟨h_,M,_,E3,rm,ds,lk,q,λv H' d M' a b c e=>⟨d,M',a,b,c,e⟩⟩) λu s1 z_=>?_
 obtain⟨v,H1,I1,r1,d,M1,dv,n_,t1,q1⟩:=z_;have q1:aY Q d M1:=by
  unfold j9 at q1;split at q1
  ·split at q1
   ·rename_i a D_ e;simp only[aY,e];exact q1
   ·exact q1.elim
  ·exact q1.elim
 obtain⟨H2,M2,d2,I2,t2,Lu,NZ,q2⟩:=nz I1 n_ dv q1;exact⟨v,H2,I2,r1,b_ _ _ _ _ NZ Lu (t1.trans t2) q2⟩
end
theorem w6{K:Lr}(h:CX1 P w outer H s (λc d H'=>TM K H H'->E c d H') e s'):CX1 P w outer H s E e s':=by
 obtain⟨a,cls,B,H',dx,h1,h2,h3,un,j_,fl,ha,OQ,he⟩:=h;exact⟨a,cls,B,H',dx,h1,h2,h3,un,j_,fl,ha,OQ,he (.un un.tups un.LG)⟩
section
variable {X:Cx}{cls:Nat->Addr}{E2:St->XK}{k:Nat}{f:Addr}{fd:FuncData}{ps:List Str}{x:Str}{p pos:Pos}{e:Expr}{es:List Expr}{tr:St3->MH->(List D->MH->Prop)->XN->Prop}{t3:List D->MH->VK3->XN->Prop}
def spX(K:Lr)(cls:Nat->Addr)(t3:List D->MH->VK3->XN->Prop):Sp:=λvs H Q E=>∃ds M Q3 E3,DenL K H ds vs/\RelM K M H/\t3 ds M Q3 E3/\Back K H Q3 Q/\LkE K cls H E3 E
def BdT(K:Lr)(cls:Nat->Addr)(fd:FuncData)(ps:List Str)(t3:List D->MH->VK3->XN->Prop)(sp:Sp):Prop:=∀vs H Q E,spX K cls t3 vs H Q E->∃Ol ds,Vals Ol ds/\Binds K fd ps ds/\sp (vs++Ol) H Q E
theorem gO(F:FnOk X.prog X.w X.K X.mg X.base (CX1 X.prog X.w) k f fd ps sp)(hr:Room k X.A)(hb:BdT X.K cls fd ps t3 sp)(hx:br (CX1 X.prog X.w) X E2)
  (I:Inv X a_ Z H s)(r:Vals vs us) (h:spX X.K cls t3 vs H Q (λc d H'=>TM X.K H H'->E2 Z c d H')):wpAny (model X.prog X.w) X.A (call (.ref f) us) (EP X a_ Z Q) X.xe s:=by
 obtain⟨Ol,Om,hv,bd,h'⟩:=hb _ _ _ _ h;have r2:Vals (vs++Ol) (us++Om):=r.append hv;have hl:(us++Om).length=ps.length:=by rw[<-r2.length];exact F.len _ _ _ _ h'
 refine wpAny_call (codeAny_mono (F.run X.A X.stack s H ⟨us,[]⟩ (us++Om) (vs++Ol) Q _ hr I.env0 (bd s us I.kIn hl) r2 h') λz s' hq=>?_)
 match z,hq with
 |.error e,hq=>exact hx a_ Z H s e s' I (w6 hq)
 |.ok (.ret u),hq=>exact I.after hq
 |.ok .next,hq=>exact hq.elim
 |.ok .brk,hq=>exact hq.elim
 |.ok .cont,hq=>exact hq.elim
theorem j7{Z:St}{H:Hp}{xs:List D}{vs:List V}{M:MH}{Q:VK3}{Q2:VK}{E3:XN}(dl:DenL X.K H xs vs)(rm:RelM X.K M H)(lk:LkE X.K cls H E3 (E2 Z))(q:t3 xs M Q E3)(b_:Back X.K H Q Q2) :
  spX X.K cls t3 vs H Q2 (λc d H'=>TM X.K H H'->E2 Z c d H'):=
 ⟨xs,M,Q,E3,dl,rm,q,b_,λi M' H' t q_ q dx xd _=>lk i M' H' t q_ q dx xd⟩
theorem Ca(F:FnOk X.prog X.w X.K X.mg X.base (CX1 X.prog X.w) k f fd ps sp)(hr:Room k X.A)(hg:Gl X x)(hm:X.mg x=some (.ref f))(hk:PySem.W.keepIn X.K (.ref f)=true)(hb:BdT X.K cls fd ps t3 sp)(hx:br (CX1 X.prog X.w) X E2)
  (ha:PA X (e::es) (eN X.K cls E2 tr)) (LW:(x == ("__debug__" : Str))=false) (he:starEach (e::es) X.env=(false,eval e X.env)::starEach es X.env) (LJ:(backTo pos (starEach es X.env)).any (·.1)=false) :
  PE X (.Call (.Name x p) (e::es) [] pos) (low X.K cls E2 λZ M Q E=>tr Z M (λxs M1=>t3 xs M1 Q E) E):=λa_ s Z H Q2 I k_=>ex9 k_ λh_ M Q E3 rm ds lk h b_=>
 wpAny_Call_Name_kw (gZ I hg hm (PySem.W.callWith_K I.ok.mod.kin hk (thn (ha pos a_ s Z H _ I (fS rm ds lk h
  λvs H1 xs M1 dl n_ t1 q1=>j7 dl n_ (lk.mono t1) q1 (b_.mono t1))) λus s1 ⟨vs,H1,I1,r,q⟩=>⟨I1.kIn,gO F hr hb hx I1 r q⟩) he LJ) LW)
theorem yo(F:FnOk X.prog X.w X.K X.mg X.base (CX1 X.prog X.w) k f fd ps sp)(hr:Room k X.A)(hg:Gl X x)(hm:X.mg x=some (.ref f))(hk:PySem.W.keepIn X.K (.ref f)=true)(hb:BdT X.K cls fd ps t3 sp)(hx:br (CX1 X.prog X.w) X E2)(LW:(x == ("__debug__" : Str))=false) :
  PE X (.Call (.Name x p) [] [] pos) (low X.K cls E2 λZ M Q E=>t3 [] M Q E):=λa_ s Z H Q2 I k_=>ex9 k_ λh_ M Q E3 rm ds lk h b_=>
 wpAny_Call_Name_kw (gZ I hg hm (PySem.W.callWith_K0 I.kIn hk (gO F hr hb hx I .nil (j7 .nil rm lk h b_))) LW)
theorem fG{id:String}(hc:VC X (.builtin id) r)(hg:Gl X x)(hm:X.mg x=none)(hv:bootBuiltins x=some (.builtin id))(ha:PA X (e::es) (eN X.K cls E2 tr))(hn:x≠"__name__")(LW:(x == ("__debug__" : Str))=false)
  (he:starEach (e::es) X.env=(false,eval e X.env)::starEach es X.env) (LJ:(backTo pos (starEach es X.env)).any (·.1)=false):PE X (.Call (.Name x p) (e::es) [] pos) (low X.K cls E2 λZ M Q E=>tr Z M (λxs M1=>r xs M1 Q) E):=
 (kn hc.op hg hm hv ha hn LW he LJ).imp λZ H Q2 k_=>ex9 k_ λh_ M Q E3 rm ds lk h b_=>fS rm ds lk h λvs H1 xs M1 dl n_ t1 q1=>⟨xs,M1,Q,dl,n_,q1,b_.mono t1⟩
theorem zf(hc:VC X (.type T) r)(hg:Gl X x)(hm:X.mg x=none)(hv:bootBuiltins x=some (.type T))(ha:PA X (e::es) (eN X.K cls E2 tr))(hn:x≠"__name__")(LW:(x == ("__debug__" : Str))=false)
  (he:starEach (e::es) X.env=(false,eval e X.env)::starEach es X.env) (LJ:(backTo pos (starEach es X.env)).any (·.1)=false):PE X (.Call (.Name x p) (e::es) [] pos) (low X.K cls E2 λZ M Q E=>tr Z M (λxs M1=>r xs M1 Q) E):=
 (tY hc.op hg hm hv ha hn LW he LJ).imp λZ H Q2 k_=>ex9 k_ λh_ M Q E3 rm ds lk h b_=>fS rm ds lk h λvs H1 xs M1 dl n_ t1 q1=>⟨xs,M1,Q,dl,n_,q1,b_.mono t1⟩
def b9:BT->String
 |.int=>"int"|.bool=>"bool"|.str=>"str"|.tuple=>"tuple"|.list=>"list"|.dict=>"dict"
theorem Bt{a_:List (Addr×Obj)}{Z:St}{H:Hp}{s:Shared}{A:Around}{Ex:Value->Shared->Prop}{t:BT}{x:D}{v:V}{v2:Value}{M:MH}{Q:VK3}{Q2:VK}(I:Inv X a_ Z H s)(rv:RelV v v2)(dx:Den X.K H x v)(rm:RelM X.K M H)(q:lE t x M Q)(b_:Back X.K H Q Q2) :
  wpAny (model X.prog X.w) A (call (.builtin "isinstance") [v2,.type (b9 t)]) (EP X a_ Z Q2) Ex s:=by
 have fin:∀b,Q (.bl b) M->∀tk,EP X a_ Z Q2 (.bool b) {s with toks:=tk}:=λb q tk=>⟨.bl b,H,I.tok _,rfl,b_ _ _ _ _ bY rm (.refl _) q⟩
 cases x with
 |i_=>cases (show v=.i_ from dx);cases rv;cases t<;>exact PySem.W.kia_one PySem.W.kitx_none I.kIn True.intro rfl (λz=>nomatch z) (fin _ q)
 |bl b=>cases (show v=.bl b from dx);cases rv;cases t<;>exact PySem.W.kia_one PySem.W.kitx_bool I.kIn True.intro rfl (λz=>nomatch z) (fin _ q)
 |int i=>cases (show v=.int i from dx);obtain⟨tk,rfl⟩:=rv;cases t<;>exact PySem.W.kia_one PySem.W.kitx_int I.kIn True.intro rfl (λz=>nomatch z) (fin _ q)
 |str i=>cases (show v=.str i from dx);obtain⟨tk,rfl⟩:=rv;cases t<;>exact PySem.W.kia_one PySem.W.kitx_str I.kIn True.intro rfl (λz=>nomatch z) (fin _ q)
 |tup ds=>
  obtain⟨a,vs,rfl,sq,_⟩:=dx;cases rv;obtain⟨f_,_,tt,_⟩:=I.tuple sq;obtain⟨o,h1,h2,_⟩:=(show s.heap.IsTuple a f_.toArray from tt);cases t<;>exact PySem.W.kia_one PySem.W.kitx_tuple I.kIn ⟨o,h1,h2⟩ rfl (λz=>nomatch z) (fin _ q)
 |g_ ds=>
  obtain⟨a,vs,rfl,sq,_⟩:=dx;cases rv;obtain⟨_,f_,n,_,_,h1⟩:=I.rdL sq.rd;cases t<;>exact PySem.W.kia_one PySem.W.kitx_list I.kIn ⟨_,h1,rfl⟩ rfl (λz=>nomatch z) (fin _ q)
 |ref a=>
  cases (show v=.ref a from dx);cases rv;simp only[lE]at q;split at q
  ·rename_i ds e;obtain⟨vs,e1,_⟩:=rm a _ e;obtain⟨_,f_,n,_,_,h1⟩:=I.rdL (.inl (.inl e1));cases t<;>exact PySem.W.kia_one PySem.W.kitx_list I.kIn ⟨_,h1,rfl⟩ rfl (λz=>nomatch z) (fin _ q)
  ·rename_i ks ds e;obtain⟨vs,e1,_,_⟩:=rm a _ e;obtain⟨_,_,_,_,o,_,_,h1,h2,_⟩:=I.j_ a _ e1;cases t<;>exact PySem.W.kia_one PySem.W.kitx_dict I.kIn ⟨o,h1,h2.1⟩ rfl (λz=>nomatch z) (fin _ q)
  ·rename_i ks ds e;obtain⟨vs,xs,e1,_⟩:=rm a _ e;obtain⟨⟨o,es,ep,h1,h2,_⟩,_⟩:=(show ObjOk X.prog X.w H s.heap a (.ext (tabT a xs)) from I.j_ a _ e1);cases t<;>exact PySem.W.kia_one PySem.W.kitx_dict I.kIn ⟨o,h1,h2.1⟩ rfl (λz=>nomatch z) (fin _ q)
  ·exact q.elim
 |Mo ks ds=>
  obtain⟨a,vs,ob,rfl,e1,_⟩:=dx;cases rv;obtain⟨_,_,_,ws,_,p⟩:=(show ObjOk X.prog X.w H s.heap a (.u_ ob (.dK (ks.zip vs))) from I.j_ a _ e1);obtain⟨o,es,ep,h1,h2,_⟩:=p;cases t<;>exact PySem.W.kia_one PySem.W.kitx_dict I.kIn ⟨o,h1,h2.1⟩ rfl (λz=>nomatch z) (fin _ q)
 |I_ ks ds=>
  obtain⟨a,vs,ob,xs,rfl,e1,_⟩:=dx;cases rv;obtain⟨_,⟨o,es,ep,h1,h2,_⟩,_⟩:=(show ObjOk X.prog X.w H s.heap a (.u_ ob (.ext (tabT a xs))) from I.j_ a _ e1);cases t<;>exact PySem.W.kia_one PySem.W.kitx_dict I.kIn ⟨o,h1,h2.1⟩ rfl (λz=>nomatch z) (fin _ q)
 |obj i C ns ds=>exact (show False from q).elim
theorem E6(ha:PE X e (low X.K cls E2 te))(hg:Gl X "isinstance")(hm:X.mg "isinstance"=none)(SY:Gl X (b9 t))(RI:X.mg (b9 t)=none)(hs:starEach (e::[.Name (b9 t) p2]) X.env=(false,eval e X.env)::starEach [.Name (b9 t) p2] X.env) :
  PE X (.Call (.Name "isinstance" p) [e,.Name (b9 t) p2] [] pos) (low X.K cls E2 λZ M Q E=>te Z M (λx M1=>lE t x M1 Q) E):=by
 have hT:PE X (.Name (b9 t) p2) (tC (.ty (b9 t))):=by
  cases t<;>exact yJ SY RI (by decide +kernel) rfl
 have hc:CallR X (.builtin "isinstance") (λvs H Q2=>∃x v M Q,vs=[v,.ty (b9 t)]/\Den X.K H x v/\RelM X.K M H/\lE t x M Q/\Back X.K H Q Q2):=by
  refine λa_ s Z H vs us Q2 I r k_=>ex9 k_ λx v M Q e dx rm q b_=>?_
  subst e;obtain⟨u,w,rfl,ru,rw⟩:=Vals.two r;cases (show w=Value.type (b9 t) from rw);exact Bt I ru dx rm q b_
 refine (kn hc hg hm (by decide +kernel) (cv ha (cv hT pa_nil (by rfl)) hs) (by decide +kernel) (by decide +kernel) hs (by rfl)).imp λZ H Q2 k_=>ex9 k_ λh_ M Q E3 rm ds lk h b_=>?_
 exact bc rm ds lk h λv H1 x M1 dx n_ t1 q1=>⟨x,v,M1,Q,rfl,dx,n_,q1,b_.mono t1⟩
end
section
variable {X:Cx}
theorem Cy{K:Lr}(sq:SqT K H0 p vs)(dl:DenL K H0 ds vs):ItOk K H0 (Itt K p) ds (λ_=>True):=by
 refine⟨λi H M t rm s hi=>?_,λi H M x H' t rm s hi y=>?_,λH M t rm s=>?_⟩
 ·have Nz:i<vs.length:=by rw[<-dl.length];exact hi
  exact⟨vs,vs[i],t.t _ _ sq,by simp⟩
 ·obtain⟨e,y⟩:=y;subst e;obtain⟨d,e1,e2⟩:=(dl.mono t).get' (y vs (t.t _ _ sq));exact⟨.refl _,rm,d,e1,e2⟩
 ·exact⟨vs,t.t _ _ sq,by rw[dl.length];exact Km _⟩
theorem Bm{K:Lr}(sq:SqF K H0 p vs)(dl:DenL K H0 ds vs):ItOk K H0 (Itl K p) ds (λ_=>True):=by
 refine⟨λi H M t rm s hi=>?_,λi H M x H' t rm s hi y=>?_,λH M t rm s=>?_⟩
 ·have Nz:i<vs.length:=by rw[<-dl.length];exact hi
  exact⟨vs,vs[i],(t.f _ _ sq).sq,by simp⟩
 ·obtain⟨e,y⟩:=y;subst e;obtain⟨d,e1,e2⟩:=(dl.mono t).get' (y vs (t.f _ _ sq).sq);exact⟨.refl _,rm,d,e1,e2⟩
 ·exact⟨vs,(t.f _ _ sq).sq,by rw[dl.length];exact Km _⟩
theorem CQ{K:Lr}:ItOk K H0 (Itl K p) ds (λM=>M p=some (.lst ds)):=by
 refine⟨λi H M t rm s hi=>?_,λi H M x H' t rm s hi y=>?_,λH M t rm s=>?_⟩
 ·obtain⟨vs,e,dl⟩:=rm p _ s;have Nz:i<vs.length:=by rw[<-dl.length];exact hi
  exact⟨vs,vs[i],.of e,by simp⟩
 ·obtain⟨vs,e,dl⟩:=rm p _ s;obtain⟨e',y⟩:=y;subst e';obtain⟨d,e1,e2⟩:=dl.get' (y vs (.of e));exact⟨.refl _,rm,d,e1,e2⟩
 ·obtain⟨vs,e,dl⟩:=rm p _ s;exact⟨vs,.of e,by rw[dl.length];exact Km _⟩
theorem mF(I:Inv X a_ Z H s)(hq:SqL X.K H a xs)(q:R (Itl X.K a) H):wpAny (model X.prog X.w) X.A (pyIter (.ref a)) (PIE X a_ Z tg R) Ex s:=by
 obtain⟨f_,rv,p,hz⟩:=I.list hq;refine wpAny_pyIter_list p.isList ?_;refine⟨s.heap.objs.size,[s.heap.objs.size],_,_,H,rfl,I.kept λb o e=>Kk _ e,ue a _,⟨_,Ko _ rfl,rfl,rfl⟩,λb hb=>?_,q⟩
 have e:b=s.heap.objs.size:=by simpa using hb
 subst e;exact I.fpOk (Km _) (I.j_.fresh (Km _))
theorem wZ(I:Inv X a_ Z H s)(hq:SqT X.K H a xs)(q:R (Itt X.K a) H):wpAny (model X.prog X.w) X.A (pyIter (.ref a)) (PIE X a_ Z tg R) Ex s:=by
 obtain⟨f_,rv,p,hz⟩:=I.tuple hq;refine wpAny_pyIter_tuple (show s.heap.IsTuple a f_.toArray from p) ?_;refine⟨s.heap.objs.size,[s.heap.objs.size],_,_,H,rfl,I.kept λb o e=>Kk _ e,qo a _,⟨_,Ko _ rfl,rfl,rfl⟩,λb hb=>?_,q⟩
 have e:b=s.heap.objs.size:=by simpa using hb
 subst e;exact I.fpOk (Km _) (I.j_.fresh (Km _))
theorem E4(hl:PE X l (low X.K cls E2 te)):PI X tg l (lm X.K cls E2 λZ M R E=>te Z M (λx M1=>match x with
  |.tup ds=>R ds (λ_=>True) M1
  |.g_ ds=>R ds (λ_=>True) M1
  |.ref a=>match M1 a with
   |some (.lst ds)=>R ds (λM=>M a=some (.lst ds)) M1
   |_=>False
  |_=>False) E):=by
 refine λa_ s Z H R2 I k_=>ex9 k_ λh_ M R E3 rm ds lk h k=>?_
 refine thn (hl a_ s Z H _ I ⟨h_,M,_,E3,rm,ds,lk,h,λv H' d M' a b c e=>(⟨d,M',a,b,c,e⟩:(λv H'=>∃d M',Den X.K H' d v/\RelM X.K M' H'/\TM X.K H H'/\(match d with
  |.tup ds=>R ds (λ_=>True) M'
  |.g_ ds=>R ds (λ_=>True) M'
  |.ref a=>match M' a with
   |some (.lst ds)=>R ds (λM=>M a=some (.lst ds)) M'
   |_=>False
  |_=>False)) v H')⟩) λu s1 ⟨v,H1,I1,r1,d,M1,dv,n_,t1,q1⟩=>?_
 split at q1
 ·obtain⟨p,vs,rfl,sq,dl⟩:=dv;cases r1;exact wZ I1 sq (k _ _ _ _ _ (Cy sq dl) n_ t1 q1)
 ·obtain⟨p,vs,rfl,sq,dl⟩:=dv;cases r1;exact mF I1 sq.sq (k _ _ _ _ _ (Bm sq dl) n_ t1 q1)
 ·rename_i a;cases (show v=.ref a from dv);cases r1;split at q1
  ·rename_i D_ e;obtain⟨vs,e1,dl⟩:=n_ a _ e;exact mF I1 (.of e1) (k _ _ _ _ _ CQ n_ t1 q1)
  ·exact q1.elim
 ·exact q1.elim
theorem Ik(hg:Gl X "range")(hm:X.mg "range"=none)(ha:PE X a (low X.K cls E2 ta))(hs:starEach [a] X.env=[(false,eval a X.env)]):PI X tg (.Call (.Name "range" p) [a] [] pos) (lm X.K cls E2 λZ M R E=>ta Z M (λx M1=>match x with
  |.int j=>-(2 ^ 62)<=j/\j<2 ^ 62/\R (rng 0 j.toNat) (λ_=>True) M1
  |_=>False) E):=
 (um hg hm (cv ha pa_nil hs) hs).imp λZ H R2 k_=>ex9 k_ λh_ M R E3 rm ds lk h k=>bc rm ds lk h λv H1 x M1 dx n_ t1 q1=>by
  split at q1
  ·rename_i j;cases (show v=.int j from dx);exact⟨j,rfl,q1.1,q1.2.1,k _ _ _ _ _ Db n_ t1 q1.2.2⟩
  ·exact q1.elim
end
section
variable {X:Cx}
end
section
variable {K:Lr}
theorem gr:∀{ns:List Nat}{ds:List D}{vs:List V}{f:Nat}{d:D},DenL K H ds vs->bK f ns ds=some d->∃v,((ns.map fnm).zip vs).lookup (fnm f)=some v/\Den K H d v
 |[],_,_,_,_,_,e=>by simp[bK]at e
 |n::ns,[],_,_,_,_,e=>by simp[bK]at e
 |n::ns,d0::ds,_,f,d,dl,e=>by
  obtain⟨v,r,rfl,dv,dl⟩:=dl;simp only[bK]at e;by_cases z:n=f
  ·rw[Kp z]at e;cases e;subst z;exact⟨v,by simp,dv⟩
  ·rw[Kj z]at e;obtain⟨u,h1,h2⟩:=gr dl e;refine⟨u,?_,h2⟩;have nb:(fnm f == fnm n)=false:=KM.mpr λq=>z (nL q).symm
   simp[List.lookup,nb,h1]
theorem gq:∀{ns:List Nat}{ds:List D}{vs:List V}{f:Nat},DenL K H ds vs->ns.length=vs.length->bK f ns ds=none->((ns.map fnm).zip vs).lookup (fnm f)=none
 |[],_,_,_,_,_,_=>by simp
 |n::ns,[],vs,_,dl,hl,_=>by cases (show vs=[] from dl);cases hl
 |n::ns,d0::ds,_,f,dl,hl,e=>by
  obtain⟨v,r,rfl,dv,dl⟩:=dl;simp only[bK]at e;by_cases z:n=f
  ·rw[Kp z]at e;cases e
  ·rw[Kj z]at e;have h1:=gq dl (by simpa using hl) e
   have nb:(fnm f == fnm n)=false:=KM.mpr λq=>z (nL q).symm
   simp[List.lookup,nb,h1]
theorem pO:∀{ns:List Nat}{ds:List D}{vs:List V}{f:Nat}{y:D}{u:V},DenL K H ds vs->ns.length=vs.length->Den K H y u->
  ∃ws,dE (fnm f) u ((ns.map fnm).zip vs)=((ca f ns).map fnm).zip ws/\(ca f ns).length=ws.length/\DenL K H (ce f y ns ds) ws
 |[],ds,vs,f,y,u,dl,hl,dy=>by
  cases vs with
  |nil=>exact⟨[u],rfl,rfl,by unfold ce;exact .one dy⟩
  |cons _ _=>cases hl
 |n::ns,[],vs,f,y,u,dl,hl,dy=>by cases (show vs=[] from dl);cases hl
 |n::ns,d::ds,_,f,y,u,dl,hl,dy=>by
  obtain⟨v,r,rfl,dv,dl⟩:=dl;have QR:ns.length=r.length:=by simpa using hl
  by_cases z:n=f
  ·subst z;refine⟨u::r,?_,?_,?_⟩
   ·simp[dE,ca]
   ·simp[ca,QR]
   ·simp only[ce];exact .cons dy dl
  ·obtain⟨ws,h1,h2,h3⟩:=pO dl QR dy;have nf:¬ fnm n=fnm f:=λq=>z (nL q)
   refine⟨v::ws,?_,?_,?_⟩
   ·simp only[Kn,List.zip_cons_cons,dE,Kj nf,ca,Kj z];rw[h1]
   ·simp[ca,Kj z,h2]
   ·simp only[ce,Kj z];exact .cons dv h3
end
theorem xG{fs:List (Str×V)}(j_:HOk P w H h)(e:Rd H a (.ins C dx fs)):∃mA,ObjM h a dx C mA/\(∀f,RelO (fs.lookup f) (mA f))/\H dx=some (.own a):=by
 obtain⟨d,z,ne,ob,mA,n,r,q⟩:=(show ObjOk P w H h a (.ins C dx fs) from e.ok j_);exact⟨mA,⟨ob,n,ne⟩,r,d⟩
section
variable {X:Cx}{fs:List (Str×V)}
theorem wk(I:Inv X a_ Z H s)(e:Rd H a (.ins C dx fs))(c:Cls X.K C)(n:NoAttr X.K C f)(l:fs.lookup f=some v)
  (h:∀u s',Inv X a_ Z H s'->RelV v u->Q u s'):wpAny (model X.prog X.w) A (getAttr (.ref a) f b) Q E s:=by
 obtain⟨mA,O,r,_⟩:=xG I.j_ e;obtain⟨u,hu,ru⟩:=RelO.some_of (by rw[<-l];exact r f)
 exact xP I.kIn O (c.get f) c.hd n hu (tI ru) (h u _ (I.tok _) ru)
theorem oO{m:Str}{g:Addr}{pl:Sem Bool}{Q:Value×List Value->Shared->Prop}(I:Inv X a_ Z H s)(e:Rd H a (.ins C dx fs))(c:Cls X.K C)(k:Meth X.K C m g)(l:fs.lookup m=none)
  (h:Q (.ref g,[.ref a]) s):wpAny (model X.prog X.w) A (getMethod (.ref a) m pl) Q E s:=by
 obtain⟨mA,O,r,_⟩:=xG I.j_ e;have hn:mA m=none:=RelO.none_of (by rw[<-l];exact r m)
 exact xf I.kIn O (c.get m) k.at_ k.fn hn h
end
structure ClsI (K:Lr)(C f:Addr):Prop where
 ga:PySem.W.specialIn K (.ref C) "__getattribute__"=some (some (.builtin "type.__getattribute__"))
 rd:PySem.W.readsIn K C (.type "type")=true
 at_:PySem.W.findCls K (.ref C) (.type "type") "__init__"=some (.val (.ref f))
structure TyI (K:Lr)(C:Addr):Prop where
 ha:PySem.W.findIn K (.ref C) "__class__"=some (some (.builtin "object.__class__"))
 hn:PySem.W.specialIn K (.builtin "object.__class__") "__get__"=some (some (.builtin "getset_descriptor.__get__"))
 SK:PySem.W.takesIn K (.builtin "object.__class__")=some true
 hm:PySem.W.mroIn K C (.type "object")=some true
structure KOk (K:Lr)(B:WB)(e_:Nat->Addr)(i:Nat):Prop where
 cl:Cls K (B.c_ i)
 na:∀f,B.fok i f=true->NoAttr K (B.c_ i) (fnm f)
 mt:∀m f,B.mth i m=some f->Meth K (B.c_ i) (fnm m) (e_ f)
 mkr:∀f,B.ini i=some f->Mk K (B.c_ i) (e_ f)
 ci:∀f,B.ini i=some f->ClsI K (B.c_ i) (e_ f)
 ty:TyI K (B.c_ i)
 is:∀j,j<B.nk->PySem.W.kitOne K (.ref (B.c_ i)) (.ref (B.c_ j))=some (B.ksub i j)
section
variable {X:Cx}{B:WB}
theorem yP{K:Lr}(hk:∀i,i<B.nk->KOk K B e_ i)(dx:Den K H x v)(rm:RelM K M H)(h:d7 B f x M Q) :
  ∃a C dx fs u d,v=.ref a/\Rd H a (.ins C dx fs)/\Cls K C/\NoAttr K C (fnm f)/\fs.lookup (fnm f)=some u/\Den K H d u/\Q d M:=by
 unfold d7 at h;split at h
 ·rename_i i C ns ds;obtain⟨p,vs,ob,Mt,rfl,e,hl,dl⟩:=dx;obtain⟨⟨rfl,hi,hf⟩,h⟩:=h;unfold pj at h;split at h
  ·rename_i d q;obtain⟨u,h1,h2⟩:=gr dl q;exact⟨p,_,Mt,_,u,d,rfl,.inr ⟨ob,e⟩,(hk i hi).cl,(hk i hi).na f hf,h1,h2,h⟩
  ·exact h.elim
 ·rename_i a;split at h
  ·rename_i i C ns ds q;obtain⟨Mt,vs,e,hl,dl⟩:=rm a _ q;obtain⟨⟨rfl,hi,hf⟩,h⟩:=h;unfold pj at h;split at h
   ·rename_i d q;obtain⟨u,h1,h2⟩:=gr dl q;exact⟨a,_,Mt,_,u,d,dx,.inl e,(hk i hi).cl,(hk i hi).na f hf,h1,h2,h⟩
   ·exact h.elim
  ·exact h.elim
 ·exact h.elim
theorem Ff(hk:∀i,i<B.nk->KOk X.K B e_ i)(he:PE X e (low X.K cls E2 te))(hb:attributeBase e (fnm f) X.env (eval e X.env)=eval e X.env):PE X (.Attribute e (fnm f) pos) (low X.K cls E2 λZ M Q E=>te Z M (λx M1=>d7 B f x M1 Q) E):=by
 refine λa_ s Z H Q2 I k_=>ex9 k_ λh_ M Q E3 rm ds lk h b_=>?_
 refine yQ hb (thn (he a_ s Z H (λv H1=>∃x M1,Den X.K H1 x v/\RelM X.K M1 H1/\TM X.K H H1/\d7 B f x M1 Q) I ⟨h_,M,_,E3,rm,ds,lk,h,λv H' d M' a b c e=>⟨d,M',a,b,c,e⟩⟩) λu s1 z_=>?_)
 obtain⟨v,H1,I1,r1,x,M1,dx,n_,t1,q1⟩:=z_;obtain⟨a,C,Mt,fs,u',d,rfl,rd,c,n,l,du,q⟩:=yP hk dx n_ q1;obtain rfl:u=Value.ref a:=r1;exact wk I1 rd c n l λUl s2 I2 ru=>⟨u',H1,I2,ru,b_ _ _ _ _ du n_ t1 q⟩
end
def ud(X:Cx)(cls:Nat->Addr)(k:Nat)(a:Addr)(t3:List D->MH->VK3->XN->Prop):Prop:=∃fd ps sp,PySem.W.keepIn X.K (.ref a)=true/\BdT X.K cls fd ps t3 sp/\FnOk X.prog X.w X.K X.mg X.base (CX1 X.prog X.w) k a fd ps sp
section
variable {X:Cx}{B:WB}{e_:Nat->Addr}{cls:Nat->Addr}{E2:St->XK}{o e:Expr}{es:List Expr}{to te:St3->MH->VK3->XN->Prop}{tr:St3->MH->(List D->MH->Prop)->XN->Prop}{pos o_ p:Pos}{m k:Nat}
 {MO:Nat->List D->MH->VK3->XN->Prop}
theorem rR{K:Lr}{H:Hp}{x:D}{v:V}{M:MH}{R:Nat->Prop}(hk:∀i,i<B.nk->KOk K B e_ i)(dx:Den K H x v)(rm:RelM K M H)(h:cr B m x M R) :
  ∃a C dx fs f,v=.ref a/\Rd H a (.ins C dx fs)/\Cls K C/\Meth K C (fnm m) (e_ f)/\fs.lookup (fnm m)=none/\(∃i,i<B.nk/\B.mth i m=some f)/\R f:=by
 unfold cr at h;split at h
 ·rename_i i C ns ds;obtain⟨p,vs,ob,Mt,rfl,e,hl,dl⟩:=dx;obtain⟨⟨rfl,hi,hf⟩,h⟩:=h;unfold gc at h;split at h
  ·rename_i f q;exact⟨p,_,Mt,_,f,rfl,.inr ⟨ob,e⟩,(hk i hi).cl,(hk i hi).mt m f q,gq dl hl hf,⟨i,hi,q⟩,h⟩
  ·exact h.elim
 ·rename_i a;split at h
  ·rename_i i C ns ds q;obtain⟨Mt,vs,e,hl,dl⟩:=rm a _ q;obtain⟨⟨rfl,hi,hf⟩,h⟩:=h;unfold gc at h;split at h
   ·rename_i f q;exact⟨a,_,Mt,_,f,dx,.inl e,(hk i hi).cl,(hk i hi).mt m f q,gq dl hl hf,⟨i,hi,q⟩,h⟩
   ·exact h.elim
  ·exact h.elim
 ·exact h.elim
theorem CC(hk:∀i,i<B.nk->KOk X.K B e_ i)(hf:∀i m f,i<B.nk->B.mth i m=some f->ud X cls k (e_ f) (MO f))(hr:Room k X.A)(hx:br (CX1 X.prog X.w) X E2)
  (ho:PE X o (low X.K cls E2 to)) (ha:PA X (e::es) (eN X.K cls E2 tr)) (hb:attributeBase o (fnm m) X.env (eval o X.env)=eval o X.env) (hl:(o_.endLine == pos.line)=true) (hn:(e::es).length<30)
  (he:starEach (e::es) X.env=(false,eval e X.env)::starEach es X.env) (LJ:(backTo pos (starEach es X.env)).any (·.1)=false) :
  PE X (.Call (.Attribute o (fnm m) o_) (e::es) [] pos) (low X.K cls E2 λZ M Q E=>to Z M (λx M1=>cr B m x M1 λf=>tr Z M1 (λxs M2=>MO f (x::xs) M2 Q E) E) E):=by
 refine λa_ s Z H Q2 I k_=>ex9 k_ λh_ M Q E3 rm ds lk h b_=>?_
 have MG:(backTo pos (starEach (e::es) X.env)).any (·.1)=false:=by
  rw[he];show ((false,_)::backTo pos (starEach es X.env)).any (·.1)=false;rw[List.any_cons,LJ];rfl
 refine PySem.W.methodCall_KW (thn (ho a_ s Z H (λv H1=>∃x M1,Den X.K H1 x v/\RelM X.K M1 H1/\TM X.K H H1/\cr B m x M1 λf=>tr h_ M1 (λxs M2=>MO f (x::xs) M2 Q E3) E3) I ⟨h_,M,_,E3,rm,ds,lk,h,λv H' d M' a b c e=>⟨d,M',a,b,c,e⟩⟩) λu s1 ⟨v,H1,I1,r1,x,M1,dx,n_,t1,q1⟩=>?_) (iE hb (jo MG hn) hl)
 obtain⟨a,C,Mt,fs,f,rfl,rd,c,mt,l,⟨i,hi,QS⟩,q⟩:=rR hk dx n_ q1;obtain rfl:u=Value.ref a:=r1;obtain⟨fd,ps,sp,kp,bd,F⟩:=hf i m f hi QS;refine oO I1 rd c mt l ?_;refine PySem.W.callWith_K I.ok.mod.kin mt.kp (thn (ha pos a_ s1 Z H1 _ I1 (fS n_ (ds.mono t1) (lk.mono t1) q
  λvs H2 xs M2 dl Lu t2 q2=>j7 (.cons (dx.mono t2) dl) Lu (lk.mono (t1.trans t2)) q2 (b_.mono (t1.trans t2)))) λus s2 ⟨vs,H2,I2,r,q2⟩=>⟨I2.kIn,?_⟩) he LJ
 exact gO (vs:=.ref a::vs) F hr bd hx I2 (.cons rfl r) q2
theorem xX(hk:∀i,i<B.nk->KOk X.K B e_ i)(hf:∀i m f,i<B.nk->B.mth i m=some f->ud X cls k (e_ f) (MO f))(hr:Room k X.A)(hx:br (CX1 X.prog X.w) X E2)
  (ho:PE X o (low X.K cls E2 to)) (hb:attributeBase o (fnm m) X.env (eval o X.env)=eval o X.env) (hl:(o_.endLine == pos.line)=true) :
  PE X (.Call (.Attribute o (fnm m) o_) [] [] pos) (low X.K cls E2 λZ M Q E=>to Z M (λx M1=>cr B m x M1 λf=>MO f [x] M1 Q E) E):=by
 refine λa_ s Z H Q2 I k_=>ex9 k_ λh_ M Q E3 rm ds lk h b_=>?_
 refine PySem.W.methodCall_KW (thn (ho a_ s Z H (λv H1=>∃x M1,Den X.K H1 x v/\RelM X.K M1 H1/\TM X.K H H1/\cr B m x M1 λf=>MO f [x] M1 Q E3) I ⟨h_,M,_,E3,rm,ds,lk,h,λv H' d M' a b c e=>⟨d,M',a,b,c,e⟩⟩) λu s1 ⟨v,H1,I1,r1,x,M1,dx,n_,t1,q1⟩=>?_) (iE hb (jo (by rfl) (by decide)) hl)
 obtain⟨a,C,Mt,fs,f,rfl,rd,c,mt,l,⟨i,hi,QS⟩,q⟩:=rR hk dx n_ q1;obtain rfl:u=Value.ref a:=r1;obtain⟨fd,ps,sp,kp,bd,F⟩:=hf i m f hi QS;refine oO I1 rd c mt l ?_;exact PySem.W.callWith_K0 I1.kIn mt.kp (gO (vs:=[.ref a]) F hr bd hx I1 (.cons rfl .nil) (j7 (.one dx) n_ (lk.mono t1) q (b_.mono t1)))
theorem EY{i f:Nat}{x:Str}{px:Pos}(hg:Gl X x)(hm:X.mg x=some (.ref (B.c_ i)))(LW:(x == ("__debug__" : Str))=false)(ci:ClsI X.K (B.c_ i) (e_ f))(hf:ud X cls k (e_ f) (MO f))(hr:Room k X.A)(hx:br (CX1 X.prog X.w) X E2)
  (ha:PA X (e::es) (eN X.K cls E2 tr)) (hl:(o_.endLine == pos.line)=true) (hn:(e::es).length<30)
  (he:starEach (e::es) X.env=(false,eval e X.env)::starEach es X.env) (LJ:(backTo pos (starEach es X.env)).any (·.1)=false) :
  PE X (.Call (.Attribute (.Name x px) "__init__" o_) (e::es) [] pos) (low X.K cls E2 λZ M Q E=>tr Z M (λxs M1=>MO f xs M1 Q E) E):=by
 refine λa_ s Z H Q2 I k_=>ex9 k_ λh_ M Q E3 rm ds lk h b_=>?_
 have MG:(backTo pos (starEach (e::es) X.env)).any (·.1)=false:=by
  rw[he];show ((false,_)::backTo pos (starEach es X.env)).any (·.1)=false;rw[List.any_cons,LJ];rfl
 obtain⟨fd,ps,sp,kp,bd,F⟩:=hf;have hT:PE X (.Name x px) (tC (.ref (B.c_ i))):=rK hg hm rfl LW;refine PySem.W.methodCall_KW (thn (hT a_ s Z H (λv H1=>v=.ref (B.c_ i)/\H1=H) I ⟨rfl,rfl⟩) λu s1 ⟨v,H1,I1,r1,e1,e2⟩=>?_) (iE (by rfl) (jo MG hn) hl)
 subst e1 e2;obtain rfl:u=Value.ref (B.c_ i):=r1;refine PySem.W.method_cls I1.kIn ci.ga (PySem.W.cls_value I1.kIn ci.rd ci.at_ rfl ?_);have I2:=I1.tok (s1.toks+1);refine PySem.W.callWith_K I.ok.mod.kin kp (thn (ha pos a_ _ Z H1 _ I2 (fS rm ds lk h
  λvs H2 xs M2 dl Lu t2 q2=>j7 dl Lu (lk.mono t2) q2 (b_.mono t2))) λus s2 ⟨vs,H2,I3,r,q2⟩=>⟨I3.kIn,?_⟩) he LJ
 exact gO F hr bd hx I3 r q2
theorem lN(M:Mk X.K C f)(F:FnOk X.prog X.w X.K X.mg X.base (CX1 X.prog X.w) k f fd ps sp)(hr:Room (k+1) X.A)(hb:BdT X.K cls fd ps t3 sp)
  (hx:br (CX1 X.prog X.w) X E2) (I:Inv X a_ Z H s)(r:Vals vs us)
  (h:∀x dx,H x=none->H dx=none->dx≠x->spX X.K cls t3 (.ref x::vs) (upd (upd H dx (.own x)) x (.ins C dx [])) (λv H2=>v=.i_/\Q (.ref x) H2) (λc d H'=>TM X.K (upd (upd H dx (.own x)) x (.ins C dx [])) H'->E2 Z c d H')) :
  wpAny (model X.prog X.w) X.A (call (.ref C) us) (EP X a_ Z Q) X.xe s:=by
 have hq:=h (s.heap.objs.size+1) s.heap.objs.size (I.j_.fresh (Ln _)) (I.j_.fresh (Km _)) (KH (Nat.lt_succ_self _));have I2:=Inv.made (C:=C) I;have r2:Vals (V.ref (s.heap.objs.size+1)::vs) (Value.ref (s.heap.objs.size+1)::us):=.cons rfl r;obtain⟨Ol,Om,hv,bd,hq⟩:=hb _ _ _ _ hq;have r2:Vals ((V.ref (s.heap.objs.size+1)::vs)++Ol) ((Value.ref (s.heap.objs.size+1)::us)++Om):=r2.append hv;have hl:(Value.ref (s.heap.objs.size+1)::us++Om).length=ps.length:=by rw[<-r2.length];exact F.len _ _ _ _ hq
 have Oo:=bd _ (Value.ref (s.heap.objs.size+1)::us) I2.kIn hl;refine wpAny_call (xB I.kIn M.makes M.init (KG.mp M.fn) (codeAny_mono (F.run _ X.stack _ _ ⟨Value.ref (s.heap.objs.size+1)::us,[]⟩ (Value.ref (s.heap.objs.size+1)::us++Om) _ _ _ (hr.make C us [])
  (I2.env0.make C us []) Oo r2 hq) λr s' Na=>?_))
 match r,Na with
 |.error e,Na=>exact hx a_ Z _ _ e s' I2 (w6 Na)
 |.ok (.ret u),Na=>
  obtain⟨v,H',I3,rv,ev,q3⟩:=I2.after Na;subst ev;exact⟨rv,⟨V.ref (s.heap.objs.size+1),H',I3,rfl,q3⟩⟩
 |.ok .next,Na=>exact Na.elim
 |.ok .brk,Na=>exact Na.elim
 |.ok .cont,Na=>exact Na.elim
theorem TM.made{K:Lr}(hx:H x=none)(hd:H dx=none)(ne:dx≠x):TM K H (upd (upd H dx (.own x)) x (.ins C dx [])):=
 (TM.new hd).trans (.new (by rw[ah (Kz ne)];exact hx))
theorem sV{Z:St}{H:Hp}{xs:List D}{vs:List V}{M:MH}{Q:VK3}{Q2:VK}{E3:XN}{i:Nat}{fz:Bool}{t3:List D->MH->VK3->XN->Prop}(dl:DenL X.K H xs vs)(rm:RelM X.K M H)(lk:LkE X.K cls H E3 (E2 Z))
  (q:∀p,M p=none->t3 (.ref p::xs) (put M p (.ins i (B.c_ i) [] [])) (λv M2=>v=.i_/\if fz=true then aY Q (.ref p) M2 else Q (.ref p) M2) (λj M'=>E3 j (del M' p))) :
  ∀x dx,H x=none->H dx=none->dx≠x->spX X.K cls t3 (.ref x::vs) (upd (upd H dx (.own x)) x (.ins (B.c_ i) dx [])) (λv H2=>v=.i_/\∃M2,RelM X.K M2 H2/\TM X.K H H2/\if fz=true then aY Q (.ref x) M2 else Q (.ref x) M2)
   (λc d H'=>TM X.K (upd (upd H dx (.own x)) x (.ins (B.c_ i) dx [])) H'->E2 Z c d H'):=λx dx hx hd ne=>by
 have t:=TM.made (K:=X.K) (C:=B.c_ i) hx hd ne;have MM:(upd H dx (.own x)) x=none:=by rw[ah (Kz ne)];exact hx
 have Lu:RelM X.K (put M x (.ins i (B.c_ i) [] [])) (upd (upd H dx (.own x)) x (.ins (B.c_ i) dx [])):=(rm.grow hd).lay MM ⟨dx,[],ai,rfl,rfl⟩;refine⟨.ref x::xs,_,_,_,.cons rfl (dl.mono t),Lu,q x (rm.fresh hx),λv H' d M' dv q_ t' ⟨e,q'⟩=>?_,λj M' H' t' q_ q' dy xd _=>lk j (del M' x) H' (t.trans t') (q_.sub λb o z=>(mY z).2) q' dy xd⟩
 subst e;exact⟨dv,M',q_,t.trans t',q'⟩
theorem oQ(b_:Back X.K H Q Q2)
  (h:EP X a_ Z (λv H2=>∃x,v=.ref x/\∃M2,RelM X.K M2 H2/\TM X.K H H2/\if fz=true then aY Q (.ref x) M2 else Q (.ref x) M2) u s'):EP X a_ Z Q2 u s':=by
 obtain⟨v,H2,I2,r,x,rfl,M2,Lu,t2,q⟩:=h;cases fz with
 |true=>
  obtain⟨H3,M3,d,I3,t3,NA,dv,q3⟩:=nz I2 Lu gV (show aY Q (.ref x) M2 from q);exact⟨.ref x,H3,I3,r,b_ _ _ _ _ dv NA (t2.trans t3) q3⟩
 |false=>exact⟨.ref x,H2,I2,r,b_ _ _ _ _ gV Lu t2 q⟩
theorem AK{i f:Nat}{fz:Bool}{x:Str}(hg:Gl X x)(hm:X.mg x=some (.ref (B.c_ i)))(LW:(x == ("__debug__" : Str))=false)(mk:Mk X.K (B.c_ i) (e_ f))(hf:ud X cls k (e_ f) (MO f))(hr:Room (k+1) X.A)(hx:br (CX1 X.prog X.w) X E2)
  (ha:PA X (e::es) (eN X.K cls E2 tr)) (he:starEach (e::es) X.env=(false,eval e X.env)::starEach es X.env) (LJ:(backTo pos (starEach es X.env)).any (·.1)=false) :
  PE X (.Call (.Name x p) (e::es) [] pos) (low X.K cls E2 λZ M Q E=>tr Z M (λxs M1=>∀p,M1 p=none->MO f (.ref p::xs) (put M1 p (.ins i (B.c_ i) [] [])) (λv M2=>v=.i_/\if fz=true then aY Q (.ref p) M2 else Q (.ref p) M2) (λi M'=>E i (del M' p))) E):=by
 refine λa_ s Z H Q2 I k_=>ex9 k_ λh_ M Q E3 rm ds lk h b_=>?_
 obtain⟨fd,ps,sp,kp,bd,F⟩:=hf;refine wpAny_Call_Name_kw (gZ I hg hm ?_ LW);refine PySem.W.callWith_K I.ok.mod.kin mk.kp (thn (ha pos a_ s Z H (λvs H1=>TM X.K H H1/\∃xs M1,DenL X.K H1 xs vs/\RelM X.K M1 H1/\∀p,M1 p=none->MO f (.ref p::xs) (put M1 p (.ins i (B.c_ i) [] [])) (λv M2=>v=.i_/\if fz=true then aY Q (.ref p) M2 else Q (.ref p) M2) (λi M'=>E3 i (del M' p))) I
  (fS rm ds lk h λvs H1 xs M1 dl n_ t1 q1=>⟨t1,xs,M1,dl,n_,q1⟩)) λus s1 ⟨vs,H1,I1,r,t1,xs,M1,dl,n_,q1⟩=>⟨I1.kIn,?_⟩) he LJ
 refine thn (lN mk F hr bd hx I1 r λx dx n1 n2 n3=>?_) λu s2 q2=>oQ (fz:=fz) (b_.mono t1) q2
 obtain⟨a1,a2,a3,a4,b1,b2,b3,b4,b5⟩:=sV (Q2:=Q2) dl n_ (lk.mono t1) q1 x dx n1 n2 n3;exact⟨a1,a2,a3,a4,b1,b2,b3,λv H' d M' dv q_ t' q'=>by
  obtain⟨e,w⟩:=b4 v H' d M' dv q_ t' q';exact⟨e,x,rfl,w⟩,b5⟩
theorem zO{i f:Nat}{fz:Bool}{x:Str}(hg:Gl X x)(hm:X.mg x=some (.ref (B.c_ i)))(LW:(x == ("__debug__" : Str))=false)(mk:Mk X.K (B.c_ i) (e_ f))(hf:ud X cls k (e_ f) (MO f))(hr:Room (k+1) X.A)(hx:br (CX1 X.prog X.w) X E2) :
  PE X (.Call (.Name x p) [] [] pos) (low X.K cls E2 λZ M Q E=>∀p,M p=none->MO f [.ref p] (put M p (.ins i (B.c_ i) [] [])) (λv M2=>v=.i_/\if fz=true then aY Q (.ref p) M2 else Q (.ref p) M2) (λi M'=>E i (del M' p))):=by
 refine λa_ s Z H Q2 I k_=>ex9 k_ λh_ M Q E3 rm ds lk h b_=>?_
 obtain⟨fd,ps,sp,kp,bd,F⟩:=hf;refine wpAny_Call_Name_kw (gZ I hg hm ?_ LW);refine PySem.W.callWith_K0 I.kIn mk.kp ?_;refine thn (lN mk F hr bd hx I .nil λx dx n1 n2 n3=>?_) λu s2 q2=>oQ (fz:=fz) b_ q2
 obtain⟨a1,a2,a3,a4,b1,b2,b3,b4,b5⟩:=sV (Q2:=Q2) .nil rm lk h x dx n1 n2 n3;exact⟨a1,a2,a3,a4,b1,b2,b3,λv H' d M' dv q_ t' q'=>by
  obtain⟨e,w⟩:=b4 v H' d M' dv q_ t' q';exact⟨e,x,rfl,w⟩,b5⟩
theorem Bq(hk:∀i,i<B.nk->KOk X.K B e_ i)(ho:PE X o (low X.K cls E2 to))(hv:PE X value (low X.K cls E2 tv))(hs:swapsWith value (some (.Attribute o (fnm f) pos')) pos.line X.env=pure false) :
  PS X (.Assign [.Attribute o (fnm f) pos'] value pos) (bH X.K cls E2 λD E Z M=>tv Z M (λy M1=>to Z M1 (λx M2=>match x with
  |.ref a=>match M2 a with
   |some (.ins i C ns ds)=>(C=B.c_ i/\i<B.nk/\B.fok i f=true/\ns.length<1000)/\D.nx Z (put M2 a (.ins i C (ca f ns) (ce f y ns ds)))
   |_=>False
  |_=>False) (E Z)) (E Z)):=
 (CF ho hv hs).imp λD2 Z H k_=>ex9 k_ λh_ M D3 E3 rm ds lk h er=>bc rm ds (lk.at ds) h λv H1 y M1 dy n_ t1 q1=>bc n_ (ds.mono t1) ((lk.at ds).mono t1) q1 λw H2 x M2 dx Lu t2 q2=>by
  split at q2
  ·rename_i a;split at q2
   ·rename_i i C ns es q;obtain⟨Mt,vs,e,hl,dl⟩:=Lu a _ q;obtain⟨⟨rfl,hi,hf,hz⟩,q2⟩:=q2;obtain⟨ws,h1,h2,h3⟩:=pO dl hl (dy.mono t2);refine⟨a,_,Mt,_,dx,e,(hk i hi).cl,(hk i hi).na f hf,?_,?_⟩
    ·rw[List.length_zip,Kr,hl,Nat.min_self,<-hl];exact hz
    ·have tw:TM X.K H2 (upd H2 a (.ins (B.c_ i) Mt (dE (fnm f) v ((ns.map fnm).zip vs)))):=.put e (λ_ z=>by cases z) λ_ _ z=>by cases z
     refine er.nx _ _ h_ _ (Lu.write (u:=.ins i (B.c_ i) (ca f ns) (ce f y ns es)) e (λ_ z=>by cases z) (λ_ _ z=>by cases z) ⟨Mt,ws,by rw[ai,h1],h2,h3.mono tw⟩) (((ds.mono t1).mono t2).mono tw) ((t1.trans t2).trans tw) q2
   ·exact q2.elim
  ·exact q2.elim
theorem FE(hg:Gl X x)(hm:X.mg x=some u)(r:RelV v u)(LW:(x == ("__debug__" : Str))=false)(hd:∀H,Den X.K H d v):PE X (.Name x pos) (low X.K cls E2 λ_ M Q _=>Q d M):=ou (rK hg hm r LW) hd
end
def VS(X:Cx)(r:D->Option Int->Option Int->MH->VK3->Prop):Prop:=
 ∀(a_:List (Addr×Obj)) (s:Shared)(Z:St)(H:Hp)(x:D)(v:V)(v2 vl vu:Value)(lo hi:Option Int)(sl:Addr)(M:MH)(Q:VK3)(Q2:VK),Inv X a_ Z H s->RelV v v2->Den X.K H x v->RelM X.K M H->s.heap.IsSliceOf sl vl vu .none->IsPart vl lo->IsPart vu hi->r x lo hi M Q->Back X.K H Q Q2->
  ∃T id,typeLookup (.type T) "__getitem__"=pure (some (.builtin id))/\s.TypeIs v2 T/\wpAny (model X.prog X.w) X.A (getItem v2 (.ref sl)) (EP X a_ Z Q2) X.xe s
section
variable {X:Cx}{lo:Option Expr}
theorem VS.op(h:VS X r):SlR X (λv lo hi H Q2=>∃x M Q,Den X.K H x v/\RelM X.K M H/\r x lo hi M Q/\Back X.K H Q Q2):=by
 intro a_ s Z H v v2 vl vu lo hi sl Q2 I rv hs pl pu ⟨x,M,Q,dx,rm,q,b_⟩;exact h a_ s Z H x v v2 vl vu lo hi sl M Q Q2 I rv dx rm hs pl pu q b_
theorem oZ{K:Lr}{lo:Option Int}(dl:DenL K H ds vs):DenL K H (dq ds lo hi) (p8 vs lo hi):=by
 unfold dq p8;rw[dl.length];exact (dl.drop _).take _
theorem Fc(fz:Bool):VS X (oX fz):=by
 intro a_ s Z H x v v2 vl vu lo hi sl M Q Q2 I rv dx rm hs pl pu q b_;unfold oX at q;split at q
 ·rename_i ds;obtain⟨p,vs,rfl,sq,dl⟩:=dx;obtain⟨hw,q⟩:=q;refine BO a_ s Z H _ v2 vl vu lo hi sl Q2 I rv hs pl pu ⟨p,vs,rfl,sq,λz=>?_,λp' hp=>?_⟩
  ·unfold whole at hw;rw[dl.length,z.1,z.2]at hw;simp at hw
  ·exact b_ _ _ (.tup (dq ds lo hi)) _ ⟨p',_,rfl,.of ai,(oZ dl).mono (.new hp)⟩ (rm.grow hp) (.new hp) q
 ·split at q
  ·rename_i ds e;obtain⟨p,vs,rfl,hq,dl⟩:=aZ rm e dx;cases rv;obtain⟨f_,r,ht,hz⟩:=I.list hq.sq;have H_:=r.length;refine⟨"list",_,slot_list_getitem.lookup,ht.isList.typeIs,?_⟩;refine wpAny_getItem_list_slice ht.isList hs pl pu .none (by simp) ?_ (by rw[Kx]<;>omega)
   rw[ly,<-H_];have I2:=I.laid (t':=s.toks) (o:=.lst (p8 vs lo hi)) (h':=s.heap.push {cls:=.type "list",data:=.seq ((f_.drop (HT.sIx vs.length 0 lo)).take (HT.sIx vs.length vs.length hi-HT.sIx vs.length 0 lo)).toArray 0}) (λb ob q=>Kk _ q) (Km _)
    ⟨KB (iU vs lo hi) hz,_,0,(r.drop (HT.sIx vs.length 0 lo)).take (HT.sIx vs.length vs.length hi-HT.sIx vs.length 0 lo),Ko _ rfl⟩
   exact cB I2 (I.j_.fresh (Km _)) (oZ dl) rm (.refl _) q b_
  ·exact q.elim
theorem Hd(ha:PE X a (low X.K cls E2 ta))(hl:PO X lo (uj X.K cls E2 tl))(hh:PO X hi (uj X.K cls E2 th)) :
  PE X (.Subscript a (.Slice lo hi none p2) pos) (low X.K cls E2 λZ M Q E=>ta Z M (λx M1=>tl Z M1 (λl M2=>th Z M2 (λh M3=>oX fz x l h M3 Q) E) E) E):=
 (vc (Fc fz).op ha hl hh).imp λZ H Q2 k_=>ex9 k_ λh_ M Q E3 rm ds lk h b_=>bc rm ds lk h λv H1 x M1 dx n_ t1 q1=>zP n_ (ds.mono t1) (lk.mono t1) q1 λl H2 M2 Lu t2 q2=>zP Lu ((ds.mono t1).mono t2) ((lk.mono t1).mono t2) q2 λh H3 M3 NA t3 q3=>
  ⟨x,M3,Q,(dx.mono t2).mono t3,NA,q3,b_.mono ((t1.trans t2).trans t3)⟩
theorem lX{K:Lr}:∀{ds:List D}{bs:List Bool}{vs:List V}{us:List Value},fD ds=some bs->DenL K H ds vs->Vals vs us->LSm.BoolsAre us bs
 |[],bs,vs,us,e,dl,r=>by
  cases (show vs=[] from dl);cases r;cases (show some []=some bs from e);exact .nil
 |d::ds,bs,_,us,e,dl,r=>by
  obtain⟨v,vs,rfl,dv,dl⟩:=dl;cases r with
  |cons ru rt=>
   cases d with
   |bl b=>
    simp only[fD]at e;split at e
    ·rename_i ns q;cases e;cases (show v=.bl b from dv);cases ru;exact .cons b (lX q dl rt)
    ·cases e
   |_=>cases e
theorem Au(al:Bool)(hc:X.calm=true):VC X (.builtin (if al=true then "all" else "any")) (rBi (if al=true then .all else .any)):=by
 intro a_ s Z H xs vs us M Q Q2 I r dl rm q b_;have hh:X.A.handled=none:=I.ok.hd hc;have key:∃x ds bs,xs=[x]/\ak M x=some ds/\fD ds=some bs/\Q (.bl (if al=true then bs.all id else bs.any id)) M:=by
  cases al with
  |true=>
   simp only[if_true,rBi]at q;split at q
   ·split at q
    ·split at q
     ·exact⟨_,_,_,rfl,by assumption,by assumption,q⟩
     ·exact q.elim
    ·exact q.elim
   ·exact q.elim
  |false=>
   simp only[KY,if_false,rBi]at q;split at q
   ·split at q
    ·split at q
     ·exact⟨_,_,_,rfl,by assumption,by assumption,q⟩
     ·exact q.elim
    ·exact q.elim
   ·exact q.elim
 obtain⟨x,ds,bs,rfl,e1,e2,q⟩:=key;obtain⟨v,rfl,dv⟩:=eQ dl;obtain⟨u,rfl,ru⟩:=gG r;obtain⟨p,ws,rfl,hq,LX⟩:=aZ rm e1 dv;cases ru;obtain⟨f_,r2,Oj,hz⟩:=I.list hq.sq;have hb:=lX e2 LX r2;have hl:=Oj.isList;have K_:p<s.heap.objs.size:=by obtain⟨_,e,_⟩:=hl;exact Kw e
 have fin:∀h' tk,(∀b o,s.heap.get? b=some o->h'.get? b=some o)->EP X a_ Z Q2 (.bool (if al=true then bs.all id else bs.any id)) {s with heap:=h',toks:=tk}:=λh' tk hk=>
  ⟨.bl _,H,I.kept (t':=tk) hk,rfl,b_ _ _ _ _ bY rm (.refl _) q⟩
 cases al with
 |true=>
  refine call_all_walk (wpAny_pyIter_list hl ?_);refine⟨s.heap.objs.size,[s.heap.objs.size,p],[s.heap.objs.size],f_.toArray.size,_,_,λi=>(bs[i]?).getD true,rfl,Walks.list (A:=X.A.in1) hh _ p (KH K_) f_.toArray,
   ⟨⟨_,Ko _ rfl,rfl,rfl⟩,hl.push _⟩,λi v s' Q' E' hP hQ=>?_,λh' tk hk=>?_⟩
  ·obtain⟨b,e,rfl⟩:=hb.get i v (by simpa using hP)
   simp only[e,Option.getD_some]at hQ;exact KR hQ
  ·have e:((List.range f_.toArray.size).all λi=>(bs[i]?).getD true)=bs.all id:=by
    rw[Kx,hb.length];exact LSm.range_all bs
   rw[e];exact fin h' tk (LSm.kept_iter hk)
 |false=>
  refine call_any_walk (wpAny_pyIter_list hl ?_);refine⟨s.heap.objs.size,[s.heap.objs.size,p],[s.heap.objs.size],f_.toArray.size,_,_,λi=>(bs[i]?).getD false,rfl,Walks.list (A:=X.A.in1) hh _ p (KH K_) f_.toArray,
   ⟨⟨_,Ko _ rfl,rfl,rfl⟩,hl.push _⟩,λi v s' Q' E' hP hQ=>?_,λh' tk hk=>?_⟩
  ·obtain⟨b,e,rfl⟩:=hb.get i v (by simpa using hP)
   simp only[e,Option.getD_some]at hQ;exact KR hQ
  ·have e:((List.range f_.toArray.size).any λi=>(bs[i]?).getD false)=bs.any id:=by
    rw[Kx,hb.length];exact LSm.range_any bs
   rw[e];exact fin h' tk (LSm.kept_iter hk)
end
def TyV(X:Cx)(T:String)(x:V)(H:Hp):Prop:=∀(a_:List (Addr×Obj)) (Z:St)(s:Shared)(v:Value),Inv X a_ Z H s->RelV x v->s.TypeIs v T/\∀a,v=.ref a->∃ob,s.heap.get? a=some ob/\ob.dict=none
section
variable {X:Cx}{o:Expr}{o_ p_ pos:Pos}{id:String}
theorem Cu(pa:PlainAttrs T)(slot:Slot T name id)(Nr:typeOf (.builtin id)=pure (.type "method_descriptor"))(hm:MtR X id r)(ho:PE X o t2)(ha:PA X (e::es) ta)
  (x_:attributeBase o name X.env (eval o X.env)=eval o X.env)
  (N8:((backTo p_ (starEach (e::es) X.env)).all (λx=>!x.1)&&(backToKw p_ (keywordEach [] X.env)).all (λx=>x.1.isSome)
   &&decide ((e::es).length+([]:List Keyword).length+(if ([]:List Keyword).isEmpty then 0 else 1)<30))=true)
  (y_:(o_.endLine == p_.line)=true) (hs:starEach (e::es) X.env=(false,eval e X.env)::starEach es X.env) (LU:(backTo p_ (starEach es X.env)).any (·.1)=false) :
  PE X (.Call (.Attribute o name o_) (e::es) [] p_) (λZ H Q=>t2 Z H λx H1=>TyV X T x H1/\ta Z H1 λxs H2=>r x xs H2 Q):=by
 intro a_ s Z H Q I h;refine wpAny_Call_method_late x_ N8 y_ rfl (thn (ho a_ s Z H _ I h) λv s1 z_=>?_)
 obtain⟨x,H1,I1,r1,ty,q1⟩:=z_;obtain⟨h1,h2⟩:=ty a_ Z s1 v I1 r1;refine⟨T,id,pa,slot,Nr,h1,h2,?_⟩;have hA:=ha p_ a_ s1 Z H1 _ I1 q1;rw[hs]at hA ⊢;refine Calls.callWith_builtin (by show (false||(backTo p_ (starEach es X.env)).any (·.1))=false;rw[LU]<;>rfl) (Calls.evalArgs_plain ?_)
 exact thn hA λus s2 ⟨vs,H2,I2,r2,q2⟩=>hm a_ s2 Z H2 x vs v us Q I2 r1 r2 q2
theorem zJ(pa:PlainAttrs T)(slot:Slot T name id)(Nr:typeOf (.builtin id)=pure (.type "method_descriptor"))(hm:MtR X id r)(ho:PE X o t2)
  (x_:attributeBase o name X.env (eval o X.env)=eval o X.env) (y_:(o_.endLine == p_.line)=true):PE X (.Call (.Attribute o name o_) [] [] p_) (λZ H Q=>t2 Z H λx H1=>TyV X T x H1/\r x [] H1 Q):=by
 intro a_ s Z H Q I h;refine wpAny_Call_method0_late x_ y_ (thn (ho a_ s Z H _ I h) λv s1 z_=>?_)
 obtain⟨x,H1,I1,r1,ty,q1⟩:=z_;obtain⟨h1,h2⟩:=ty a_ Z s1 v I1 r1;exact⟨T,id,pa,slot,Nr,h1,h2,Calls.callWith_builtin rfl (PySem.evalArgs_none (hm a_ s1 Z H1 x [] v [] Q I1 r1 .nil q1))⟩
def VM(X:Cx)(id:String)(r:D->List D->MH->VK3->Prop):Prop:=
 ∀(a_:List (Addr×Obj)) (s:Shared)(Z:St)(H:Hp)(x:D)(xs:List D)(v:V)(vs:List V)(v2:Value)(us:List Value)(M:MH)(Q:VK3)(Q2:VK),Inv X a_ Z H s->RelV v v2->Vals vs us->Den X.K H x v->DenL X.K H xs vs->RelM X.K M H->r x xs M Q->Back X.K H Q Q2->
  wpAny (model X.prog X.w) X.A (call (.builtin id) (v2::us)) (EP X a_ Z Q2) X.xe s
theorem VM.op(h:VM X id r):MtR X id (λv vs H Q2=>∃x xs M Q,Den X.K H x v/\DenL X.K H xs vs/\RelM X.K M H/\r x xs M Q/\Back X.K H Q Q2):=by
 intro a_ s Z H v vs v2 us Q2 I rv rs ⟨x,xs,M,Q,dx,dl,rm,q,b_⟩;exact h a_ s Z H x xs v vs v2 us M Q Q2 I rv rs dx dl rm q b_
def TyD(X:Cx)(T:String)(tb:D->MH->Bool):Prop:=∀(x:D)(v:V)(M:MH)(H:Hp),Den X.K H x v->RelM X.K M H->tb x M=true->TyV X T v H
theorem xY(pa:PlainAttrs T)(slot:Slot T name id)(Nr:typeOf (.builtin id)=pure (.type "method_descriptor"))(hm:VM X id r)(ht:TyD X T tb)(ho:PE X o (low X.K cls E2 to))(ha:PA X (e::es) (eN X.K cls E2 tr))
  (x_:attributeBase o name X.env (eval o X.env)=eval o X.env) (hn:(e::es).length<30)
  (y_:(o_.endLine == p_.line)=true) (hs:starEach (e::es) X.env=(false,eval e X.env)::starEach es X.env) (LU:(backTo p_ (starEach es X.env)).any (·.1)=false) :
  PE X (.Call (.Attribute o name o_) (e::es) [] p_) (low X.K cls E2 λZ M Q E=>to Z M (λx M1=>tb x M1=true/\tr Z M1 (λxs M2=>r x xs M2 Q) E) E):=by
 have MG:(backTo p_ (starEach (e::es) X.env)).any (·.1)=false:=by
  rw[hs];show ((false,_)::backTo p_ (starEach es X.env)).any (·.1)=false;rw[List.any_cons,LU];rfl
 refine (Cu pa slot Nr hm.op ho ha x_ (jo MG hn) y_ hs LU).imp λZ H Q2 k_=>ex9 k_ λh_ M Q E3 rm ds lk h b_=>bc rm ds lk h λv H1 x M1 dx n_ t1 q1=>?_
 exact⟨ht x v M1 H1 dx n_ q1.1,fS n_ (ds.mono t1) (lk.mono t1) q1.2 λvs H2 xs M2 dl Lu t2 q2=>⟨x,xs,M2,Q,dx.mono t2,dl,Lu,q2,b_.mono (t1.trans t2)⟩⟩
theorem rj(pa:PlainAttrs T)(slot:Slot T name id)(Nr:typeOf (.builtin id)=pure (.type "method_descriptor"))(hm:VM X id r)(ht:TyD X T tb)(ho:PE X o (low X.K cls E2 to))
  (x_:attributeBase o name X.env (eval o X.env)=eval o X.env) (y_:(o_.endLine == p_.line)=true) :
  PE X (.Call (.Attribute o name o_) [] [] p_) (low X.K cls E2 λZ M Q E=>to Z M (λx M1=>tb x M1=true/\r x [] M1 Q) E):=
 (zJ pa slot Nr hm.op ho x_ y_).imp λZ H Q2 k_=>ex9 k_ λh_ M Q E3 rm ds lk h b_=>bc rm ds lk h λv H1 x M1 dx n_ t1 q1=>⟨ht x v M1 H1 dx n_ q1.1,x,[],M1,Q,dx,.nil,n_,q1.2,b_.mono t1⟩
theorem yi(hb:∀x M,tb x M=true->(ak M x).isSome=true):TyD X "list" tb:=λx v M H dx rm h a_ Z s v2 I rv=>by
 obtain⟨ds,e⟩:=KL.mp (hb x M h);obtain⟨p,vs,rfl,hq,dl⟩:=aZ rm e dx;cases rv;obtain⟨f_,_,pl,_⟩:=I.list hq.sq;refine⟨pl.isList.typeIs,λa e=>?_⟩
 cases e;obtain⟨o,n,e,c,hd,_⟩:=pl;exact⟨o,e,hd⟩
theorem tE:∀{ds:List D}{k j:Nat},qg y ds k=some j->k<=j/\(∃d,ds[j-k]?=some d/\eqD d y=true)/\∀m d,m<j-k->ds[m]?=some d->eqD d y=false
 |[],_,_,e=>by cases e
 |d::r,k,j,e=>by
  simp only[qg]at e;by_cases h:eqD d y=true
  ·rw[Kp h]at e;cases e;exact⟨Km _,⟨d,by simp,h⟩,λm d' hm _=>absurd hm (by omega)⟩
  ·rw[Kj h]at e;obtain⟨h1,⟨d1,h2,h3⟩,h4⟩:=tE e;refine⟨by omega,⟨d1,?_,h3⟩,λm d' hm he=>?_⟩
   ·have:j-k=(j-(k+1))+1:=by omega
    rw[this,List.getElem?_cons_succ];exact h2
   ·cases m with
    |zero=>simp at he;subst he;simpa using h
    |succ m=>exact h4 m d' (by omega) (by simpa using he)
theorem nV:TyD X "dict" (tyB .get):=λx v M H dx rm h a_ Z s v2 I rv=>by
 simp only[tyB,Bool.or_eq_true]at h;rcases h with (h|h)|h
 ·obtain⟨⟨ks,ds⟩,e⟩:=KL.mp h;obtain⟨p,vs,rfl,rd,_⟩:=pR e rm dx;cases rv;obtain⟨_,_,ws,_,dd⟩:=i5 I.j_ rd;refine⟨dd.typeIs,λb q=>?_⟩
  cases q;obtain⟨ob,_,_,h1,h2,_⟩:=dd;exact⟨ob,h1,h2.2.1⟩
 ·obtain⟨⟨ks,ds⟩,e⟩:=KL.mp h;obtain⟨p,vs,xs,rfl,rd,z,_⟩:=gP e rm dx;cases rv;have dd:=bz I rd z;refine⟨dd.typeIs,λb q=>?_⟩
  cases q;obtain⟨ob,_,_,h1,h2,_⟩:=dd;exact⟨ob,h1,h2.2.1⟩
 ·obtain⟨⟨ks,ds⟩,e⟩:=KL.mp h;obtain⟨p,vs,xs,rfl,rd,z,_⟩:=jE e rm dx;cases rv;have dd:=bz I rd z;refine⟨dd.typeIs,λb q=>?_⟩
  cases q;obtain⟨ob,_,_,h1,h2,_⟩:=dd;exact⟨ob,h1,h2.2.1⟩
theorem OptDen.getD{K:Lr}{o:Option D}{ov:Option V}(h:OptDen K H o ov)(dv:Den K H d v):Den K H (o.getD d) (ov.getD v):=by
 cases o with
 |none=>cases ov with
  |none=>exact dv
  |some _=>exact h.elim
 |some d'=>cases ov with
  |none=>exact h.elim
  |some v'=>exact h
theorem iH{K:Lr}(h:DenL K H (d::ds) vs):∃v ws,vs=v::ws/\Den K H d v/\DenL K H ds ws:=by
 obtain⟨v,r,e,dv,dl⟩:=h;exact⟨v,r,e,dv,dl⟩
theorem vd(hu:X.A.units+64<cLine):VM X "dict.get" (rBm .get):=by
 intro a_ s Z H x xs v vs v2 us M Q Q2 I rv rs dx dl rm q b_;simp only[rBm]at q;split at q
 ·rename_i y;split at q
  ·rename_i o e;obtain⟨yv,rfl,dy⟩:=eQ dl;obtain⟨u,rfl,ru⟩:=rs.one;obtain⟨a,ov,rfl,g,od⟩:=gM e rm dx dy;cases rv;exact Cm (by omega) I g ru λw' s' I' LF=>⟨_,H,I',LF,b_ _ _ _ _ (od.getD (show Den X.K H .i_ .i_ from rfl)) rm (.refl _) q⟩
  ·exact q.elim
 ·rename_i y z;split at q
  ·rename_i o e;obtain⟨yv,wv,rfl,dy,dw⟩:=iH dl;obtain⟨zv,rfl,dz⟩:=eQ dw;obtain⟨u,w,rfl,ru,LF⟩:=rs.two;obtain⟨a,ov,rfl,g,od⟩:=gM e rm dx dy;cases rv;exact Dv (by omega) I g ru LF λw' s' I' LF=>⟨_,H,I',LF,b_ _ _ _ _ (od.getD dz) rm (.refl _) q⟩
  ·exact q.elim
 ·exact q.elim
theorem Ba(hu:X.A.units+64<cLine):AA X (λo i v H R2=>∃x k y M R,Den X.K H x o/\Den X.K H k i/\Den X.K H y v/\RelM X.K M H/\az x k y M R/\∀H' M',RelM X.K M' H'->TM X.K H H'->R M'->R2 H'):=by
 intro a_ s Z H o i v ov iv u R2 I ro ri rv ⟨x,k,y,M,R,dx,dk,dy,rm,q,b_⟩;unfold az at q;split at q
 ·rename_i a;cases (show o=.ref a from dx);split at q
  ·rename_i ds n e;split at q
   ·rename_i j ej;cases (show i=.int n from dk);obtain⟨vs,e1,dl⟩:=rm a _ e;have tw:TM X.K H (upd H a (.lst (vs.set j v))):=.put e1 (λ_ z=>by cases z) λ_ _ z=>by cases z
    refine vh a_ s Z H _ _ v ov iv u R2 I ro ri rv ⟨a,vs,n,j,rfl,rfl,e1,by rw[<-dl.length];exact ej,?_⟩
    exact b_ _ _ (rm.write (u:=.lst (ds.set j y)) e1 (λ_ z=>by cases z) (λ_ _ z=>by cases z) ⟨_,ai,(dl.set dy j).mono tw⟩) tw q
   ·exact q.elim
  ·rename_i ks ds e;split at q
   ·rename_i k' ek;cases ro;exact Dq (by omega) I rm e (kq ek dk) ri dy rv q.1 q.2 b_
   ·exact q.elim
  ·rename_i ks ds e;split at q
   ·rename_i k' ek;cases ro;obtain⟨b,rfl,sq⟩:=jP ek dk;cases ri;exact vU (f:=false) (by omega) I rm e sq dy rv q.1 q.2 b_
   ·exact q.elim
  ·rename_i ks ds e;split at q
   ·rename_i k' ek;cases ro;obtain⟨b,rfl,sq⟩:=pe ek dk;cases ri;exact vU (f:=true) (by omega) I rm e sq dy rv q.1 q.2 b_
   ·exact q.elim
  ·exact q.elim
 ·exact q.elim
theorem yq(hu:X.A.units+64<cLine)(ho:PE X o (low X.K cls E2 to))(hi:PE X ixe (low X.K cls E2 ti))(hv:PE X value (low X.K cls E2 tv))
  (ha:∀v,assign (.Subscript o ixe pos') X.env v=(do
   let ov<-holding [v] (eval o X.env)
   let iv<-holding [v,ov] (eval ixe X.env)
   standAt pos'
   holding [v,ov,iv] (setItem ov iv v)
   release [v,ov,iv] [])) (hs:swapsWithSole [.Subscript o ixe pos'] value pos.line X.env=pure false) (hw:swappedStores [.Subscript o ixe pos'] value X.env=pure none) (h1:(assignEach [.Subscript o ixe pos'] X.env).map (·.2)=[assign (.Subscript o ixe pos') X.env]) :
  PS X (.Assign [.Subscript o ixe pos'] value pos) (bH X.K cls E2 λD E Z M=>tv Z M (λy M1=>to Z M1 (λx M2=>ti Z M2 (λk M3=>az x k y M3 λM4=>D.nx Z M4) (E Z)) (E Z)) (E Z)):=
 (vL hv (AC ho hi (Ba hu) ha) hs hw h1).imp λD2 Z H k_=>ex9 k_ λh_ M D3 E3 rm ds lk h er=>bc rm ds (lk.at ds) h λv H1 y M1 dy n_ t1 q1=>
  bc n_ (ds.mono t1) ((lk.at ds).mono t1) q1 λw H2 x M2 dx Lu t2 q2=>bc Lu ((ds.mono t1).mono t2) (((lk.at ds).mono t1).mono t2) q2 λz H3 k M3 dk NA t3 q3=>
   ⟨x,k,y,M3,_,dx.mono t3,dk,(dy.mono t2).mono t3,NA,q3,λH' M' q_ t' q'=>er.nx _ _ h_ M' q_ ((((ds.mono t1).mono t2).mono t3).mono t') (((t1.trans t2).trans t3).trans t') q'⟩
end
end L2
namespace L2
open PySem PySem.Spec PyProof.Rows PySem.W
section
variable {A:Around}{s:Shared} [DecidableEq κ] {knd:HeapKind prog w κ}{xs:List (κ×Addr×Value)}{p:Addr×Value}
end
section
variable {X:Cx}
end
end L2
namespace L2
open PySem PySem.Spec PyProof.Rows
section
variable {X:Cx}
theorem VM.of{id:String}{r3:D->List D->MH->VK3->Prop}{r:V->List V->Hp->VK->Prop}(h:MtM X id r)
  (hr:∀(H:Hp)(x:D)(xs:List D)(v:V)(vs:List V)(M:MH)(Q:VK3)(Q2:VK),Den X.K H x v->DenL X.K H xs vs->RelM X.K M H->r3 x xs M Q->Back X.K H Q Q2->r v vs H Q2):VM X id r3:=
 λa_ s Z H x xs v vs v2 us M Q Q2 I rv rs dx dl rm q b_=>h a_ s Z H v vs v2 us Q2 I rv rs (hr H x xs v vs M Q Q2 dx dl rm q b_)
theorem gU:TyD X "list" isLstM:=yi λx M h=>by
 unfold isLstM at h;split at h
 ·split at h
  ·rename_i e;simp[ak,e]
  ·cases h
 ·cases h
theorem DenL.app{K:Lr}:∀{ds es:List D}{vs ws:List V},DenL K H ds vs->DenL K H es ws->DenL K H (ds++es) (vs++ws)
 |[],es,vs,ws,h,g=>by cases (show vs=[] from h);exact g
 |d::ds,es,vs,ws,h,g=>by
  obtain⟨v,us,rfl,dv,dw⟩:=iH h;exact .cons dv (DenL.app dw g)
def EN(xs:List V)(i:Int)(y:V):List V:=xs.take (zU xs.length i)++y::xs.drop (zU xs.length i)
theorem ins_len{xs:List V}:(EN xs i y).length=xs.length+1:=by
 unfold EN;simp;omega
theorem sZ{K:Lr}{H:Hp}{M:MH}{a:Addr}{ds es:List D}{vs:List V}(rm:RelM K M H)(e:H a=some (.lst vs))(ws:List V)(h:DenL K H es ws):RelM K (put M a (.lst es)) (upd H a (.lst ws))/\TM K H (upd H a (.lst ws)):=by
 have tw:TM K H (upd H a (.lst ws)):=.put e (λ_ z=>by cases z) λ_ _ z=>by cases z
 exact⟨rm.write (u:=.lst es) e (λ_ z=>by cases z) (λ_ _ z=>by cases z) ⟨_,ai,h.mono tw⟩,tw⟩
def xa:V->List V->Hp->VK->Prop:=λx vs H Q=>∃l b xs zs,x=.ref l/\vs=[.ref b]/\H l=some (.lst xs)/\RdL X.K H b zs/\xs.length+zs.length<=sizeLine/\Q .i_ (upd H l (.lst (xs++zs)))
theorem ra:MtM X "list.extend" (xa (X:=X)):=by
 intro a_ s Z H x vs v us Q I rx rv h;obtain⟨l,b,xs,zs,rfl,rfl,hH,hB,hz,q⟩:=h;cases rx;obtain⟨u,rfl,ru⟩:=rv.one;cases ru;obtain⟨z,f_,n,r,hl,e⟩:=I.lstM hH;obtain⟨z2,s_,n2,r2,OK,e2⟩:=I.rdL hB;have hsz:f_.toArray.size+s_.toArray.size<=sizeLine:=by rw[Kx,Kx];omega
 have Ph:¬ (!f_.toArray.isEmpty&&Builtin.List.listTooLong (f_.toArray.size+s_.toArray.size))=true:=by
  rw[wx hsz,Bool.and_false];exact Ku
 refine call_meets F.slot_list_extend ⟨_,e,rfl⟩ F.entry_list_extend (F.args_list_extend_2 _ _)
  (AutoSeq1.list_extend_list_list_0 l f_.toArray n b s_.toArray n2 Ph (by rw[Kx];omega) (by omega)) ⟨e,e2,?_⟩
 refine⟨.i_,_,I.lset (its':=f_++s_) hH e (by simp) (r.append r2) ?_,rfl,q⟩
 rw[KO];omega
theorem lT:VM X "list.extend" (rBm .extend):=VM.of ra λH x xs v vs M Q Q2 dx dl rm q b_=>by
 simp only[rBm]at q;split at q
 ·rename_i a y;split at q
  ·rename_i ds es e e';obtain⟨ws,e1,dw⟩:=rm a _ e;cases (show v=.ref a from dx);obtain⟨yv,rfl,dy⟩:=eQ dl;obtain⟨p,us,rfl,hq,du⟩:=aZ rm e' dy;obtain⟨r1,t1⟩:=sZ (ds:=ds) rm e1 _ (dw.append du);exact⟨a,p,ws,us,rfl,rfl,e1,hq,by rw[<-dw.length,<-du.length];exact q.1,b_ _ _ .i_ _ rfl r1 t1 q.2⟩
  ·exact q.elim
 ·exact q.elim
theorem DenL.erase{K:Lr}{H:Hp}{ds:List D}{vs:List V}(k:Nat)(h:DenL K H ds vs):DenL K H (ds.eraseIdx k) (vs.eraseIdx k):=by
 rw[List.eraseIdx_eq_take_drop_succ,List.eraseIdx_eq_take_drop_succ];exact (h.take _).app (h.drop _)
end
end L2
namespace L2
open PySem PySem.Spec PyProof.Rows SeqAt PySem.MeetsSeq AutoSeq1
theorem rg(p:Addr)(f_:Array Value)(c:Nat)(x:Value)(f:Value->Bool)(j:Nat)(hj:j<f_.size)(hz:f_.size<=sizeLine)(G_:f f_[j]=true):∀(k i:Nat),j-i=k->i<=j->(∀m (hm:m<f_.size),i<=m->m<j->f f_[m]=false)->
  Meets (Builtin.«list.remove.loop» ⟨[.ref p,x,rawInt i],[]⟩) (λA R s=>s.heap.get? p=some {cls:=.type "list",dict:=none,data:=.seq f_ c,slots:=#[]}/\(∀y,y∈f_->EqAt A.in1 s y x (f y))/\R (.ok (.ret .none)) {s with heap:=s.heap.update p (Obj.mapSeq λxs=>xs.eraseIdxIfInBounds j)})
 |0,i,e,Nf,_=>by
  intro prog w A R s q;obtain⟨h1,h2,h3,h4,h5⟩:=s;obtain⟨hg,he,q⟩:=q;obtain rfl:i=j:=by omega
  wp_walk using wpAny_loadPart' hg
  rw[show f_[((i:Nat):Int).toNat]?=some f_[i] by simp]
  refine Kf (he _ (Array.getElem_mem hj) prog w _ _ ?_);have z2:(f_.eraseIdxIfInBounds i).size<=sizeLine+1:=KB (size_erased f_ _) (Nat.le_succ_of_le hz)
  wp_walk using (wpAny_updateSeq hg rfl (_hz':=z2)),wpAny_loadPart' hg
  simpa using q
 |k+1,i,e,Nf,NR=>by
  intro prog w A R s q;obtain⟨h1,h2,h3,h4,h5⟩:=s;obtain⟨hg,he,q⟩:=q;have lt:i<f_.size:=by omega
  wp_walk using wpAny_loadPart' hg
  rw[show f_[((i:Nat):Int).toNat]?=some f_[i] by simp]
  refine Kf (he _ (Array.getElem_mem lt) prog w _ _ ?_);rw[NR i lt (Km _) (by omega)]
  wp_walk
  exact⟨plainId_quiet plain_remove_loop _,codeAny_builtin entry_remove_loop (by
   exact rg p f_ c x f j hj hz G_ k (i+1) (by omega) (by omega) (λm hm a b=>NR m hm (by omega) b) prog w A R _ ⟨hg,he,q⟩)⟩
theorem FP(p:Addr)(f_:Array Value)(c:Nat)(x:Value)(f:Value->Bool)(j:Nat)(hj:j<f_.size)(hz:f_.size<=sizeLine)(G_:f f_[j]=true)(NR:∀m (hm:m<f_.size),m<j->f f_[m]=false) :
  Meets (Builtin.«list.remove» ⟨[.ref p,x],[]⟩) (λA R s=>s.heap.get? p=some {cls:=.type "list",dict:=none,data:=.seq f_ c,slots:=#[]}/\(∀y,y∈f_->EqAt A.in1 s y x (f y))/\R (.ok (.ret .none)) {s with heap:=s.heap.update p (Obj.mapSeq λxs=>xs.eraseIdxIfInBounds j)}):=by
 intro prog w A R s q;obtain⟨h1,h2,h3,h4,h5⟩:=s;obtain⟨hg,he,q⟩:=q
 wp_walk using wpAny_loadPart' hg
 exact⟨plainId_quiet plain_remove_loop _,codeAny_builtin entry_remove_loop (by
  exact rg p f_ c x f j hj hz G_ j 0 (by omega) (Nat.zero_le _) (λm hm _ b=>NR m hm b) prog w A R _ ⟨hg,he,q⟩)⟩
theorem j5:∀{vs:List V}{us:List Value},Vals vs us->∀j,Vals (vs.eraseIdx j) (us.eraseIdx j)
 |_,_,.nil,_=>.nil
 |_,_,.cons _ r,0=>r
 |_,_,.cons h r,j+1=>.cons h (j5 r j)
theorem ml{X:Cx}(hu:X.A.units+64<cLine):VM X "list.remove" (rBm .remove):=by
 intro a_ s Z H x xs v vs v2 us M Q Q2 I rv rs dx dl rm q b_;simp only[rBm]at q;split at q
 ·rename_i p y;split at q
  ·rename_i ds e;obtain⟨⟨p1,p2⟩,q⟩:=q;split at q
   ·rename_i j ej;obtain⟨_,⟨d1,h2,h3⟩,h4⟩:=tE ej;obtain⟨ws,hH,LX⟩:=rm p _ e;cases (show v=.ref p from dx);cases rv;obtain⟨yv,rfl,dy⟩:=eQ dl;obtain⟨u,rfl,ru⟩:=rs.one;obtain⟨z,f_,n,r2,OK,ho⟩:=I.lstM hH;obtain⟨H',I',t',d2⟩:=pT I rm dy p1;have NV:=LX.mono t';have pd:=iM NV r2
    classical
    let f:Value->Bool:=λw=>if h:∃d∈ds,∃v,Den X.K H' d v/\RelV v w then eqD h.choose (res M y) else false
    have hf:∀d w,d∈ds->(∃v,Den X.K H' d v/\RelV v w)->f w=eqD d (res M y):=λd w hd ⟨v',dv,LF⟩=>by
     have h:∃d∈ds,∃v,Den X.K H' d v/\RelV v w:=⟨d,hd,v',dv,LF⟩;obtain⟨hm,QP,NZ,QQ⟩:=h.choose_spec;have:QP=v':=QQ.inj LF;subst this;have e1:h.choose=d:=nU I' rfl 8 (KE.mp p2 _ hm) (KE.mp p2 _ hd) NZ dv;show (if h:∃d∈ds,∃v,Den X.K H' d v/\RelV v w then eqD h.choose (res M y) else false)=_
     rw[dif_pos h,e1]
    have OL:∀(m:Nat)(hm:m<f_.toArray.size),∃d,ds[m]?=some d/\f f_.toArray[m]=eqD d (res M y):=λm hm=>by
     have OG:m<ds.length:=by rw[LX.length,OK];simpa using hm
     refine⟨ds[m],by simp,?_⟩
     obtain⟨v',e1,e2⟩:=NV.get (i:=m) (d:=ds[m]) (by simp)
     obtain⟨w',e3,e4⟩:=r2.get e1;have:f_.toArray[m]=w':=by
      have RI:m<f_.length:=by simpa using hm
      have:f_[m]?=some f_[m]:=by simp
      rw[this]at e3;simpa using e3
     rw[this];exact hf _ _ (K7 OG) ⟨v',e2,e4⟩
    have hj:j<f_.toArray.size:=by
     have h5:j<ds.length:=(KP.mp (by simpa using h2)).1
     rw[Kx,<-OK,<-LX.length];exact h5
    have S0:f_.toArray.size<=sizeLine:=by rw[Kx,<-OK];exact z
    obtain⟨r1,t1⟩:=sZ (ds:=ds) rm hH _ (LX.erase j);refine call_meets PySem.F.slot_list_remove ⟨_,ho,rfl⟩ PySem.F.entry_list_remove (PySem.F.args_list_remove_2 _ _) (FP p f_.toArray n u f j hj S0 ?_ ?_) ⟨ho,λw hw=>?_,?_⟩
    ·obtain⟨d,e1,e2⟩:=OL j hj;rw[e2];simp at h2;rw[e1]at h2;cases h2;exact h3
    ·intro m hm K_;obtain⟨d,e1,e2⟩:=OL m hm;rw[e2];exact h4 m d (by simpa using K_) e1
    ·obtain⟨d,hd,v',dv,LF⟩:=Paired.mem_right pd w (by simpa using hw)
     rw[hf d w hd ⟨v',dv,LF⟩];exact (Cd I' rfl 8 (KE.mp p2 _ hd) p1 dv d2 LF ru (by show X.A.units+1+8<cLine;omega)).2.2
    ·refine⟨.i_,_,I.lset hH ho ?_ (j5 r2 j) ?_,rfl,b_ _ _ .i_ _ rfl r1 t1 q⟩
     ·show f_.toArray.eraseIdxIfInBounds j=_;unfold Array.eraseIdxIfInBounds;rw[dif_pos hj];simp
     ·exact KB (by rw[List.length_eraseIdx];split<;>omega) z
   ·exact q.elim
  ·exact q.elim
 ·exact q.elim
end L2
namespace L2
open PySem PySem.Spec PyProof.Rows PySem.W
section
variable {X:Cx}
theorem Df{A:Around}{s:Shared}{m_:List (Key×V)}{k:Key}{d:V}{u r:Value}{Q:Value->Shared->Prop}(I:Inv X a_ Z H s)(e:H a=some (.dK m_))(ry:RelV (kV k) u)(rd:RelV d r)(l:m_.length<sizeLine)
  (h1:∀v,cV m_ k=some v->∀w' s',Inv X a_ Z H s'->RelV v w'->Q w' s') (h2:cV m_ k=none->∀s',Inv X a_ Z (upd H a (.dK (dH m_ k d))) s'->Q r s') :
  wpAny (model X.prog X.w) A (call (.builtin "dict.setdefault") [.ref a,u,r]) Q E s:=by
 obtain⟨z,hd,vs,rel,dd⟩:=uU I.j_ e;have hz:vs.length<=sizeLine:=by rw[<-rel.length];exact z
 refine call_meetsIn PySem.F.slot_dict_setdefault dd.typeIs PySem.F.entry_dict_setdefault (PySem.F.args_dict_setdefault_3 _ _ _) (kt_meets_setdefault (aB X.prog X.w) a (iQ ry) hd r) ⟨vs,dd,hz,λv hv=>?_,λhv h' MT hs=>?_⟩
 ·have q:=rel.val k;rw[hv]at q;cases g:cV m_ k with
  |none=>rw[g]at q;exact q.elim
  |some v'=>rw[g]at q;exact h1 v' g v _ (I.tok _) q
 ·have q:=rel.val k;rw[hv]at q;have hl:(dH m_ k d).length<=sizeLine:=by have:=fA m_ k d;omega
  have he:∃q,h'.get? a=some q:=let ⟨q,_,_,hq,_⟩:=MT;⟨q,hq⟩
  cases g:cV m_ k with
  |some v'=>rw[g]at q;exact q.elim
  |none=>exact h2 g _ (gR I (by rw[e];exact True.intro) hs he (w5 hl hd (rel.put k rd) MT))
theorem oY:TyD X "dict" (tyB .Lv):=nV
theorem my:VM X "dict.setdefault" (rBm .Lv):=by
 intro a_ s Z H x xs v vs v2 us M Q Q2 I rv rs dx dl rm q b_;simp only[rBm]at q;split at q
 ·rename_i a y z;split at q
  ·rename_i ks ds k e ek;obtain⟨hz,q⟩:=q;obtain⟨yv,wv,rfl,dy,dw⟩:=iH dl;obtain⟨zv,rfl,dz⟩:=eQ dw;obtain⟨u,w,rfl,ru,LF⟩:=rs.two;cases (show v=.ref a from dx);cases rv;obtain⟨vs,eH,hl,RJ⟩:=rm a _ e;have hk:=kq ek dy;subst hk;have g:=fv (k:=k) RJ hl;obtain⟨Mf,h1,h2,h3⟩:=km (k:=k) (v:=zv) (og I eH hl) RJ hl dz;refine Df I eH ru LF (by rw[List.length_zip,hl,Nat.min_self,<-hl];exact hz) (λv' hv w' s' I' r'=>?_) (λhv s' I'=>?_)
   ·cases q0:getD ks ds k with
    |none=>rw[g.2 q0]at hv;cases hv
    |some d0=>
     obtain⟨w0,h1,h2⟩:=g.1 d0 q0;rw[q0]at q;rw[h1]at hv;cases hv;exact⟨_,H,I',r',b_ _ _ _ _ h2 rm (.refl _) q⟩
   ·cases q0:getD ks ds k with
    |some d0=>obtain⟨w0,h1,h2⟩:=g.1 d0 q0;rw[h1]at hv;cases hv
    |none=>
     rw[q0]at q;have tw:TM X.K H (upd H a (.dK (dH (ks.zip vs) k zv))):=.put eH (λ_ z=>by cases z) λ_ _ z=>by cases z
     exact⟨_,_,I',LF,b_ _ _ _ _ (dz.mono tw) (rm.write (u:=.dk (aj ks k) (ao ks ds k z)) eH (λ_ z=>by cases z) (λ_ _ z=>by cases z) ⟨Mf,by rw[ai,h1],h2,h3.mono tw⟩) tw q⟩
  ·exact q.elim
 ·exact q.elim
end
end L2
namespace L2
open PySem PySem.Spec PyProof.Rows PySem.Calls PySem.NumText PySem.W.KIN
end L2
namespace L2
open PySem PySem.Spec PyProof.Rows
def Dc(K:Lr):Prop:=PySem.W.nsIn K cStatics "sys.int_max_str_digits"=some none
section
variable {X:Cx}
end
section
variable {X:Cx}{s:Shared}{h':Heap}
theorem Inv.turned2(I:Inv X a_ Z H s)(k:∀b o,b≠it->b≠it'->s.heap.get? b=some o->h'.get? b=some o)(f:fK X a_ H it)(f':fK X a_ H it'):Inv X a_ Z H {s with heap:=h',toks:=t'}:=by
 obtain⟨hn,hL,_,h1,h2,h3⟩:=f;obtain⟨Ql,RK,_,Nx,OJ,S6⟩:=f';have NN:∀b u,H b=some u->b≠it:=λb u e z=>by rw[z,hn]at e;cases e
 have Pj:∀b u,H b=some u->b≠it':=λb u e z=>by rw[z,Ql]at e;cases e
 have kc:∀b o,b∉[it,it']->s.heap.get? b=some o->h'.get? b=some o:=λb o hc e=>k b o (λz=>hc (by simp[z])) (λz=>hc (by simp[z])) e
 refine I.step (λb hb=>?_) (λb o _ _ hc e _=>kc b o hc e) (λb o _ _ hc e _=>⟨o.slots,kc b o hc e⟩) (λ_ _ _ _ n=>n)
  (λb o hc e=>⟨o,kc b o hc e⟩) (λ_ _ e=>e) (λ_ _ _ e=>e) (λb ps e=>⟨#[],by rw[e];simp⟩) (λm hm=>?_) (λb u e=>?_) I.bare
 ·rcases Kq.mp hb with rfl|hb
  ·exact⟨h1,hL,h2,h3⟩
  ·have e:b=it':=by simpa using hb
   subst e;exact⟨Nx,RK,OJ,S6⟩
 ·obtain⟨o,es,ep,ho,r⟩:=hm;exact⟨o,es,ep,k _ o (Kz hL) (Kz RK) ho,r⟩
 ·refine (I.j_ b u e).stay (λc v hc q=>k c v ?_ ?_ q) (λ_ q=>q) λ_ _ q=>q
  ·rcases hc with z|z
   ·rw[z];exact NN b u e
   ·exact NN c _ z
  ·rcases hc with z|z
   ·rw[z];exact Pj b u e
   ·exact Pj c _ z
def Ite(K:Lr)(a:Addr):It:=
 ⟨λi H=>∃xs x,SqL K H a xs/\xs[i]?=some x,λi H v H'=>∃p,v=.ref p/\H p=none/\∃x,(∀xs,SqL K H a xs->xs[i]?=some x)/\H'=upd H p (.tup [.int i,x]),λi H=>∃xs,SqL K H a xs/\xs.length<=i⟩
theorem tS{K:Lr}(a e it:Addr)(Mm:e≠it):Turn P w K (.Tuple LA x1 pos) (Ite K a) [e,it] e (λi h=>(∃old,IsEnum h e it i old)/\h.IsListIter it a i) where
 mem:=by simp
 obj:=λi h st b hb=>by
  obtain⟨⟨old,h1⟩,h2⟩:=st;rcases Kq.mp hb with rfl|hb
  ·exact⟨_,h1,λv z=>by
    have z':Data.fields _=Data.cell v:=z;cases z'⟩
  ·have e':b=it:=by simpa using hb
   subst e';obtain⟨o,e1,c,d⟩:=h2;exact⟨o,e1,λv z=>by rw[d]at z;cases z⟩
 keep:=λi h h' st k=>⟨let ⟨old,h1⟩:=st.1;⟨old,k e (by simp) _ h1⟩,st.2.at λo e1=>k it (by simp) o e1⟩
 item:=by
  intro X hP hw hK hc i a_ s Z H E I hf st hg;subst hP hw hK;obtain⟨xs,x,hq,hx⟩:=hg;obtain⟨f_,rv,p,hz⟩:=I.list hq;obtain⟨u,hu,ru⟩:=rv.get hx;obtain⟨⟨old,he⟩,G_⟩:=st;have fe:=hf e (by simp)
  have fi:=hf it (by simp)
  have S8:e<s.heap.objs.size:=Kw he;obtain⟨oi,S9,_⟩:=id G_;have Nk:it<s.heap.objs.size:=Kw S9;refine wpAny_pyNext_enum_item he G_ p.isList (by simpa using hu) Mm λh' NK LY ht hsz k=>?_
  have hp:H s.heap.objs.size=none:=I.j_.fresh (Km _);have I1:Inv X a_ Z (upd H s.heap.objs.size (.tup [.int i,x])) {s with heap:=s.heap.push {cls:=.type "tuple",data:=.seq #[.int i s.toks,u]},toks:=s.toks+1}:=
   I.laid (λb o e1=>Kk _ e1) (Km _) ⟨by show 2<=sizeLine;decide,[.int i s.toks,u],.cons ⟨_,rfl⟩ (.cons ru .nil),⟨_,Ko _ rfl,rfl,_,rfl⟩⟩
  have RL:fK X a_ (upd H s.heap.objs.size (.tup [.int i,x])) e:=⟨by rw[ah (KH S8)];exact fe.1,fe.2⟩
  have OM:fK X a_ (upd H s.heap.objs.size (.tup [.int i,x])) it:=⟨by rw[ah (KH Nk)];exact fi.1,fi.2⟩
  have I2:Inv X a_ Z (upd H s.heap.objs.size (.tup [.int i,x])) {s with heap:=h',toks:=s.toks+1}:=I1.turned2 (λb o h1 h2 e1=>by
   by_cases hb:b=s.heap.objs.size
   ·subst hb;have e2:(s.heap.push {cls:=.type "tuple",data:=.seq #[.int i s.toks,u]}).get? s.heap.objs.size=some {cls:=.type "tuple",data:=.seq #[.int i s.toks,u]}:=Ko _ rfl;rw[e2]at e1;cases e1;exact ht
   ·exact k b o h1 h2 ((Heap.get?_push_ne _ _ _ hb).symm.trans e1)) RL OM
  refine⟨.ref s.heap.objs.size,rfl,wpAny_letOwnedTupleGo_enum NK λh2 Nl L8=>?_⟩
  obtain⟨f0,f1,f2,f3,f4,f5⟩:=RL;have I3:Inv X a_ Z (upd H s.heap.objs.size (.tup [.int i,x])) {s with heap:=h2,toks:=s.toks+1}:=I2.turned (λb o hb e1=>(L8.2 b hb).trans e1) f0 f1 f3 f4 f5
  refine⟨.ref s.heap.objs.size,_,I3,rfl,⟨_,rfl,hp,x,λys hy=>by rw[I.list_inj hy hq];exact hx,rfl⟩,⟨⟨_,Nl⟩,?_⟩,λb hb=>?_⟩
  ·exact LY.at λo e1=>(L8.2 it (Kz Mm)).trans e1
  ·rcases Kq.mp hb with rfl|hb
   ·exact f0
   ·have e':b=it:=by simpa using hb
    subst e';exact OM.1
 done:=by
  intro X hP hw hK hc i a_ s Z H E I hf st hg;subst hP hw hK;obtain⟨xs,hq,hx⟩:=hg;obtain⟨f_,rv,p,hz⟩:=I.list hq;obtain⟨⟨old,he⟩,G_⟩:=st;obtain⟨f0,f1,f2,f3,f4,f5⟩:=hf it (by simp)
  have hl:=rv.length;exact wpAny_pyNext_enum_end (I.ok.hd hc) he G_ p.isList (by simp;omega) λh' eb=>⟨rfl,I.turned (λb o hb e=>eb b o hb e) f0 f1 f3 f4 f5⟩
 self:=λ_ _ _ _ _ st h=>let ⟨⟨_,he⟩,_⟩:=st;wpAny_pyIter_enum he h
theorem hZ:∀{ds:List D}{k i:Nat}{d:D},ds[i]?=some d->(cj k ds)[i]?=some (.tup [.int (k+i:Nat),d])
 |[],_,_,_,h=>by simp at h
 |x::r,k,0,d,h=>by
  have e:x=d:=by simpa using h
  subst e;rfl
 |x::r,k,i+1,d,h=>by
  have:=hZ (k:=k+1) (by simpa using h)
  rw[show k+1+i=k+(i+1) by omega]at this
  exact this
theorem dG:∀{ds:List D}{k:Nat},(cj k ds).length=ds.length
 |[],_=>rfl
 |x::r,k=>by
  show (cj (k+1) r).length+1=r.length+1;rw[dG]
theorem zj{K:Lr}(sq:SqF K H0 p vs)(dl:DenL K H0 ds vs):ItOk K H0 (Ite K p) (cj 0 ds) (λ_=>True):=by
 have H_:=dl.length;refine⟨λi H M t rm s hi=>?_,λi H M x H' t rm s hi y=>?_,λH M t rm s=>?_⟩
 ·rw[dG]at hi;exact⟨vs,vs[i],(t.f _ _ sq).sq,by simp⟩
 ·obtain⟨q,rfl,hq,v,hv,rfl⟩:=y;obtain⟨d,e1,e2⟩:=(dl.mono t).get' (hv vs (t.f _ _ sq).sq);refine⟨.new hq,rm.grow hq,.tup [.int i,d],?_,⟨q,[.int i,v],rfl,.inl (.inl ai),⟨_,_,rfl,rfl,_,_,rfl,e2.mono (.new hq),rfl⟩⟩⟩;have:=hZ (k:=0) e1;simpa using this
 ·rw[dG];exact⟨vs,(t.f _ _ sq).sq,by omega⟩
theorem wM{K:Lr}:ItOk K H0 (Ite K p) (cj 0 ds) (λM=>M p=some (.lst ds)):=by
 refine⟨λi H M t rm s hi=>?_,λi H M x H' t rm s hi y=>?_,λH M t rm s=>?_⟩
 ·obtain⟨vs,e,dl⟩:=rm p _ s;rw[dG]at hi;have Nz:i<vs.length:=by rw[<-dl.length];exact hi
  exact⟨vs,vs[i],.of e,by simp⟩
 ·obtain⟨vs,e,dl⟩:=rm p _ s;obtain⟨q,rfl,hq,v,hv,rfl⟩:=y;obtain⟨d,e1,e2⟩:=dl.get' (hv vs (.of e));refine⟨.new hq,rm.grow hq,.tup [.int i,d],?_,⟨q,[.int i,v],rfl,.inl (.inl ai),⟨_,_,rfl,rfl,_,_,rfl,e2.mono (.new hq),rfl⟩⟩⟩;have:=hZ (k:=0) e1;simpa using this
 ·obtain⟨vs,e,dl⟩:=rm p _ s;rw[dG];exact⟨vs,.of e,by rw[dl.length];exact Km _⟩
def E5(K:Lr)(ta:TA):TI:=λZ H R=>ta Z H λvs H1=>∃a,vs=[.ref a]/\(∃xs,SqL K H1 a xs)/\R (Ite K a) H1
theorem yh(hg:Gl X "enumerate")(hm:X.mg "enumerate"=none)(ha:PA X [a] ta)(hs:starEach [a] X.env=[(false,eval a X.env)]):PI X (.Tuple LA x1 pt) (.Call (.Name "enumerate" p) [a] [] pos) (E5 X.K ta):=by
 intro a_ s Z H R I h;refine Call_ (iF I hg hm (u:=.type "enumerate") (by decide +kernel) (PyProof.Rows.callWith_type1 (thn (ha pos a_ s Z H _ I h) λus s1 ⟨vs,H1,I1,r1,q1⟩=>?_) hs rfl))
 obtain⟨b,e,⟨xs,hq⟩,q⟩:=q1;subst e;obtain⟨u,rfl,ru⟩:=gG r1;cases ru;obtain⟨f_,rv,pl,hz⟩:=I1.list hq;refine call_enumerate_list pl.isList λh' he G_ hsz k=>?_
 refine wpAny_pyIter_enum he ?_;refine⟨s1.heap.objs.size+1,[s1.heap.objs.size+1,s1.heap.objs.size],_,_,H1,rfl,I1.kept k,tS b (s1.heap.objs.size+1) s1.heap.objs.size (Nat.succ_ne_self _),⟨⟨_,he⟩,G_⟩,λc hc=>?_,q⟩
 have Nf:s1.heap.objs.size<=c:=by
  rcases Kq.mp hc with rfl|hc
  ·exact Ln _
  ·have e':c=s1.heap.objs.size:=by simpa using hc
   exact Nat.le_of_eq e'.symm
 exact I1.fpOk Nf (I1.j_.fresh Nf)
theorem Cr(hg:Gl X "enumerate")(hm:X.mg "enumerate"=none)(ha:PE X a (low X.K cls E2 ta))(hs:starEach [a] X.env=[(false,eval a X.env)]) :
  PI X (.Tuple LA x1 pt) (.Call (.Name "enumerate" p) [a] [] pos) (lm X.K cls E2 λZ M R E=>ta Z M (λx M1=>match x with
  |.g_ ds=>R (cj 0 ds) (λ_=>True) M1
  |.ref a=>match M1 a with
   |some (.lst ds)=>R (cj 0 ds) (λM=>M a=some (.lst ds)) M1
   |_=>False
  |_=>False) E):=
 (yh hg hm (cv ha pa_nil hs) hs).imp λZ H R2 k_=>ex9 k_ λh_ M R E3 rm ds lk h k=>bc rm ds lk h λv H1 x M1 dx n_ t1 q1=>by
  cases x with
  |g_ es=>
   obtain⟨q,vs,rfl,sq,dl⟩:=dx;exact⟨q,rfl,⟨vs,sq.sq⟩,k _ _ _ _ _ (zj sq dl) n_ t1 q1⟩
  |ref a=>
   cases (show v=.ref a from dx);have q1:(match M1 a with
    |some (.lst ds)=>R (cj 0 ds) (λM=>M a=some (.lst ds)) M1
    |_=>False):=q1
   split at q1
   ·rename_i ds e;obtain⟨vs,eH,dl⟩:=n_ a _ e;exact⟨a,rfl,⟨vs,.of eH⟩,k _ _ _ _ _ wM n_ t1 q1⟩
   ·exact q1.elim
  |_=>exact q1.elim
end
section
variable {X:Cx}{s:Shared}{h':Heap}
theorem Inv.turnedL{t':Nat}{ch:List Addr}(I:Inv X a_ Z H s)(k:∀b o,b∉ch->s.heap.get? b=some o->h'.get? b=some o)(f:∀b∈ch,fK X a_ H b):Inv X a_ Z H {s with heap:=h',toks:=t'}:=by
 have NN:∀b u,H b=some u->b∉ch:=λb u e z=>by rw[(f b z).1]at e;cases e
 refine I.step (λb hb=>?_) (λb o _ _ hc e _=>k b o hc e) (λb o _ _ hc e _=>⟨o.slots,k b o hc e⟩) (λ_ _ _ _ n=>n)
  (λb o hc e=>⟨o,k b o hc e⟩) (λ_ _ e=>e) (λ_ _ _ e=>e) (λb ps e=>⟨#[],by rw[e];simp⟩) (λm hm=>?_) (λb u e=>?_) I.bare
 ·obtain⟨hn,hL,_,h1,h2,h3⟩:=f b hb;exact⟨h1,hL,h2,h3⟩
 ·obtain⟨o,es,ep,ho,r⟩:=hm;exact⟨o,es,ep,k _ o (λz=>(f _ z).2.1 rfl) ho,r⟩
 ·refine (I.j_ b u e).stay (λc v hc q=>k c v ?_ q) (λ_ q=>q) λ_ _ q=>q
  rcases hc with z|z
  ·rw[z];exact NN b u e
  ·exact NN c _ z
def Itz(K:Lr)(a b:Addr):It:=
 ⟨λi H=>∃xs ys x y,SqL K H a xs/\SqL K H b ys/\xs[i]?=some x/\ys[i]?=some y,λi H v H'=>∃p,v=.ref p/\H p=none/\∃x y,(∀xs,SqL K H a xs->xs[i]?=some x)/\(∀ys,SqL K H b ys->ys[i]?=some y)/\H'=upd H p (.tup [x,y]),λi H=>∃xs ys,SqL K H a xs/\SqL K H b ys/\(xs.length<=i\/ys.length<=i)⟩
theorem vK{P:Program}{w:World}{K:Lr}{LA:List Expr}{x1:Nat}{pos:Pos}(a b z TI TO i1 i2:Addr)(D:ZipApart z TI TO i1 i2 a b):Turn P w K (.Tuple LA x1 pos) (Itz K a b) [z,TI,TO,i1,i2] z (λi h=>IsZip h z TI TO .none/\IsPair h TI (.ref i1) (.ref i2)/\(∃c d,IsPair h TO c d)/\h.IsListIter i1 a i/\h.IsListIter i2 b i) where
 mem:=by simp
 obj:=λi h st c hc=>by
  obtain⟨h1,h2,⟨_,_,h3⟩,h4,h5⟩:=st;simp only[Kq,Lf,or_false]at hc;rcases hc with rfl|rfl|rfl|rfl|rfl
  ·exact⟨_,h1,λv q=>by have q':Data.fields _=Data.cell v:=q;cases q'⟩
  ·exact⟨_,h2,λv q=>by have q':Data.seq _ _=Data.cell v:=q;cases q'⟩
  ·exact⟨_,h3,λv q=>by have q':Data.seq _ _=Data.cell v:=q;cases q'⟩
  ·obtain⟨o,e1,c,d⟩:=h4;exact⟨o,e1,λv q=>by rw[d]at q;cases q⟩
  ·obtain⟨o,e1,c,d⟩:=h5;exact⟨o,e1,λv q=>by rw[d]at q;cases q⟩
 keep:=λi h h' st k=>by
  obtain⟨h1,h2,⟨c,d,h3⟩,h4,h5⟩:=st;exact⟨k z (by simp) _ h1,k TI (by simp) _ h2,⟨c,d,k TO (by simp) _ h3⟩,h4.at λo e1=>k i1 (by simp) o e1,h5.at λo e1=>k i2 (by simp) o e1⟩
 item:=by
  intro X hP hw hK hc i a_ s Z H E I hf st hg;subst hP hw hK;obtain⟨xs,ys,x,y,hq,ON,hx,hy⟩:=hg;obtain⟨f_,rv,p,hz⟩:=I.list hq;obtain⟨s_,P_,p2,Pk⟩:=I.list ON;obtain⟨u,hu,ru⟩:=rv.get hx;obtain⟨u2,S_,Ta⟩:=P_.get hy;obtain⟨h1,h2,⟨c,d,h3⟩,h4,h5⟩:=st;have lt:∀{c o},s.heap.get? c=some o->c<s.heap.objs.size:=λe=>Kw e
  refine wpAny_pyNext_zip_item D h1 h2 h3 h4 h5 p.isList p2.isList (by simpa using hu) (by simpa using S_) λh' a1 a2 a3 a4 a5 a6 k=>?_
  have hp:H s.heap.objs.size=none:=I.j_.fresh (Km _);have I1:Inv X a_ Z (upd H s.heap.objs.size (.tup [x,y])) {s with heap:=s.heap.push {cls:=.type "tuple",data:=.seq #[u,u2]},toks:=s.toks}:=
   I.laid (λb o e1=>Kk _ e1) (Km _) ⟨by show 2<=sizeLine;decide,[u,u2],.cons ru (.cons Ta .nil),⟨_,Ko _ rfl,rfl,_,rfl⟩⟩
  have K_:∀b∈[z,TI,TO,i1,i2],b<s.heap.objs.size:=λb hb=>by
   simp only[Kq,Lf,or_false]at hb;rcases hb with rfl|rfl|rfl|rfl|rfl
   ·exact lt h1
   ·exact lt h2
   ·exact lt h3
   ·obtain⟨_,e,_⟩:=h4;exact lt e
   ·obtain⟨_,e,_⟩:=h5;exact lt e
  have Mu:∀b∈[z,TI,TO,i1,i2],fK X a_ (upd H s.heap.objs.size (.tup [x,y])) b:=λb hb=>⟨by rw[ah (KH (K_ b hb))];exact (hf b hb).1,(hf b hb).2⟩
  have I2:=I1.turnedL (t':=s.toks) (λb o hb e1=>by
   simp only[Kq,Lf,or_false,not_or]at hb;obtain⟨n1,n2,n3,n4,n5⟩:=hb;by_cases hb:b=s.heap.objs.size
   ·subst hb;have e2:(s.heap.push {cls:=.type "tuple",data:=.seq #[u,u2]}).get? s.heap.objs.size=some {cls:=.type "tuple",data:=.seq #[u,u2]}:=Ko _ rfl;rw[e2]at e1;cases e1;exact a5
   ·exact k b o n1 n3 n4 n5 ((Heap.get?_push_ne _ _ _ hb).symm.trans e1)) Mu
  refine⟨.ref s.heap.objs.size,rfl,wpAny_letOwnedTupleGo_zip a1 λOJ Nl L8=>?_⟩
  have I3:=I2.turnedL (t':=s.toks) (λb o hb e1=>(L8.2 b (λq=>hb (by simp[q]))).trans e1) Mu
  refine⟨.ref s.heap.objs.size,_,I3,rfl,⟨_,rfl,hp,x,y,λTb QT=>by rw[I.list_inj QT hq];exact hx,λTb QT=>by rw[I.list_inj QT ON];exact hy,rfl⟩,⟨Nl,?_,⟨u,u2,?_⟩,?_,?_⟩,λb hb=>(Mu b hb).1⟩
  ·exact (L8.2 TI D.TIz).trans (k _ _ D.TIz D.TITO D.TIi1 D.TIi2 h2)
  ·exact (L8.2 TO D.TOz).trans a2
  ·exact a3.at λo e1=>(L8.2 i1 D.i1z).trans e1
  ·exact a4.at λo e1=>(L8.2 i2 D.i2z).trans e1
 done:=by
  intro X hP hw hK hc i a_ s Z H E I hf st hg;subst hP hw hK;obtain⟨xs,ys,hq,ON,hx⟩:=hg;obtain⟨f_,rv,p,hz⟩:=I.list hq;obtain⟨s_,P_,p2,Pk⟩:=I.list ON;obtain⟨h1,h2,⟨c,d,h3⟩,h4,h5⟩:=st;have hl:=rv.length;have OK:=P_.length;refine wpAny_pyNext_zip_end (I.ok.hd hc) D h1 h2 h3 h4 h5 p.isList p2.isList ?_ λh' eb=>⟨rfl,I.turnedL (λb o hb e=>?_) hf⟩
  ·rcases hx with hx|hx
   ·exact .inl (by simp;omega)
   ·exact .inr (by simp;omega)
  ·simp only[Kq,Lf,or_false,not_or]at hb;exact eb b o hb.1 hb.2.2.1 hb.2.2.2.1 hb.2.2.2.2 e
 self:=λ_ _ _ _ _ st h=>wpAny_pyIter_zip st.1 h
def RdQ(K:Lr)(H0:Hp)(p:Addr)(ds:List D)(S:MH->Prop):Prop:=∀H M,TM K H0 H->RelM K M H->S M->∃vs,SqL K H p vs/\DenL K H ds vs
theorem xl{K:Lr}{x:D}{v:V}(dx:Den K H0 x v)(rm:RelM K M H0)(h:rLs x M k):∃p ds S,v=.ref p/\RdQ K H0 p ds S/\S M/\k ds S:=by
 cases x with
 |g_ es=>
  obtain⟨q,vs,rfl,sq,dl⟩:=dx;exact⟨q,es,_,rfl,λH M t _ _=>⟨vs,(t.f _ _ sq).sq,dl.mono t⟩,trivial,h⟩
 |ref b=>
  cases (show v=.ref b from dx);dsimp only[rLs]at h;split at h
  ·rename_i ys e;exact⟨b,ys,_,rfl,λH M t rm s=>let ⟨ws,z,dl⟩:=rm b (.lst ys) s;⟨ws,.of z,dl⟩,e,h⟩
  ·exact h.elim
 |_=>exact h.elim
theorem BE{K:Lr}(h1:RdQ K H0 p ds S)(h2:RdQ K H0 q es S'):ItOk K H0 (Itz K p q) (lG ds es) (λM=>S M/\S' M):=by
 refine⟨λi H M t rm s hi=>?_,λi H M x H' t rm s hi y=>?_,λH M t rm s=>?_⟩
 all_goals
  obtain⟨vs,sq,dl⟩:=h1 H M t rm s.1;obtain⟨ws,Of,LX⟩:=h2 H M t rm s.2;have H_:=dl.length;have RM:=LX.length
 ·simp only[lG,Kr,List.length_zip]at hi;exact⟨vs,ws,vs[i],ws[i],sq,Of,by simp,by simp⟩
 ·obtain⟨q,rfl,hq,v,w,hv,hw,rfl⟩:=y;obtain⟨d,e1,e2⟩:=dl.get' (hv vs sq);obtain⟨d',PZ,O9⟩:=LX.get' (hw ws Of);refine⟨.new hq,rm.grow hq,.tup [d,d'],?_,⟨q,[v,w],rfl,.inl (.inl ai),⟨_,_,rfl,e2.mono (.new hq),_,_,rfl,O9.mono (.new hq),rfl⟩⟩⟩;have ez:(ds.zip es)[i]?=some (d,d'):=List.getElem?_zip_eq_some.mpr ⟨e1,PZ⟩;simp[lG,ez]
 ·refine⟨vs,ws,sq,Of,?_⟩;simp only[lG,Kr,List.length_zip];omega
def IB(K:Lr)(ta:TA):TI:=λZ H R=>ta Z H λvs H1=>∃a b,vs=[.ref a,.ref b]/\(∃xs,SqL K H1 a xs)/\(∃ys,SqL K H1 b ys)/\R (Itz K a b) H1
theorem AS(hg:Gl X "zip")(hm:X.mg "zip"=none)(ha:PA X [a,b] ta)(hs:starEach [a,b] X.env=[(false,eval a X.env),(false,eval b X.env)])(L8:starEach [b] X.env=[(false,eval b X.env)]):PI X (.Tuple LA x1 pt) (.Call (.Name "zip" p) [a,b] [] pos) (IB X.K ta):=by
 intro a_ s Z H R I h;refine Call_ (iF I hg hm (u:=.type "zip") (by decide +kernel) (PyProof.Rows.callWith_type1 (thn (ha pos a_ s Z H _ I h) λus s1 ⟨vs,H1,I1,r1,q1⟩=>?_) (by rw[hs,L8]) (by rw[L8];rfl)))
 obtain⟨c,d,e,⟨xs,hq⟩,⟨ys,ON⟩,q⟩:=q1;subst e;obtain⟨u,w,rfl,ru,LF⟩:=r1.two;cases ru;cases LF;obtain⟨f_,rv,pl,hz⟩:=I1.list hq;obtain⟨s_,P_,RN,Pk⟩:=I1.list ON;have a1:c<s1.heap.objs.size:=by obtain⟨_,_,e,_⟩:=pl;exact Kw e
 have a2:d<s1.heap.objs.size:=by obtain⟨_,_,e,_⟩:=RN;exact Kw e
 refine call_zip_2 pl.isList RN.isList λh' h1 h2 h3 h4 h5 _ k=>?_
 refine wpAny_pyIter_zip h1 ?_;refine⟨s1.heap.objs.size+4,[s1.heap.objs.size+4,s1.heap.objs.size+2,s1.heap.objs.size+3,s1.heap.objs.size,s1.heap.objs.size+1],_,_,H1,rfl,I1.kept k,vK c d _ _ _ _ _ (zipApart_new a1 a2),⟨h1,h2,⟨_,_,h3⟩,h4,h5⟩,λb hb=>?_,q⟩
 have Nf:s1.heap.objs.size<=b:=by
  simp only[Kq,Lf,or_false]at hb;rcases hb with rfl|rfl|rfl|rfl|rfl<;>first|exact Km _|exact Lo _ _
 exact I1.fpOk Nf (I1.j_.fresh Nf)
theorem Ef(hg:Gl X "zip")(hm:X.mg "zip"=none)(ha:PE X a (low X.K cls E2 ta))(hb:PE X b (low X.K cls E2 tb))(hs:starEach [a,b] X.env=[(false,eval a X.env),(false,eval b X.env)])(L8:starEach [b] X.env=[(false,eval b X.env)]) :
  PI X (.Tuple LA x1 pt) (.Call (.Name "zip" p) [a,b] [] pos) (lm X.K cls E2 λZ M R E=>ta Z M (λx M1=>tb Z M1 (λy M2=>rLs x M2 λxs S=>rLs y M2 λys S'=>R (lG xs ys) (λM=>S M/\S' M) M2) E) E):=
 (AS hg hm (cv ha (cv hb pa_nil L8) (by rw[hs,L8])) hs L8).imp λZ H R2 k_=>ex9 k_ λh_ M R E3 rm ds lk h k=>qw rm ds lk h λv w H2 x y M2 dx dy Lu t2 q2=>by
  obtain⟨p,es,S,rfl,r1,s1,q2⟩:=xl dx Lu q2;obtain⟨q,fs,S',rfl,r2,s2,q2⟩:=xl dy Lu q2;exact⟨p,q,rfl,(r1 _ _ (.refl _) Lu s1).imp λ_ z=>z.1,(r2 _ _ (.refl _) Lu s2).imp λ_ z=>z.1,k _ _ _ _ _ (BE r1 r2) Lu t2 q2⟩
end
section
variable {A:Around}{s:Shared}
end
section
variable {prog:Program}{w:World}{A:Around}{E:Value->Shared->Prop}{s:Shared}{z TI TO i1 i2 l1 l2 S:Addr}{xs ys:Array Value}{i:Nat}
end
section
variable {prog:Program}{w:World}{A:Around}{s:Shared}{R:Result->Shared->Prop}{z TI TO i1 i2 l1 l2 S lo:Addr}{xs ys:Array Value}
end
section
variable {prog:Program}{w:World}{A:Around}{E:Value->Shared->Prop}{s:Shared}{R:Result->Shared->Prop}{z TI TO i1 i2 l1 l2 S lo:Addr}{xs ys:Array Value}
end
section
variable {X:Cx}{s:Shared}{h':Heap}
end
section
variable {X:Cx}
end
section
variable {A:Around}{s:Shared}{items:Array Value}
end
section
variable {X:Cx}
theorem AJ(rm:RelM X.K M H)(dx:Den X.K H x v)(e:ak M x=some ds):∃a vs,v=.ref a/\RdL X.K H a vs/\DenL X.K H ds vs:=by
 cases x with
 |g_ es=>
  cases e;obtain⟨a,vs,rfl,sq,dl⟩:=dx;exact⟨a,vs,rfl,sq.rd,dl⟩
 |ref a=>
  cases q:M a with
  |none=>simp[ak,q]at e
  |some o=>
   cases o with
   |lst es=>
    simp[ak,q]at e;subst e;cases (show v=.ref a from dx);obtain⟨vs,e1,dl⟩:=rm a _ q;exact⟨a,vs,rfl,.inl (.inl e1),dl⟩
   |_=>simp[ak,q]at e
 |_=>cases e
theorem wH{s:Shared}(I:Inv X a_ Z H s):(s.heap.objs.size == sysModules)=false:=by
 have h:mainGlobals<s.heap.objs.size:=(I.mod.glob.keeps I.bk).lt;have h2:sysModules<mainGlobals:=by decide
 exact KM.mpr (Nat.ne_of_gt (Nat.lt_trans h2 h))
theorem Ay(tk:Option Bool):PE X (.Dict [] [] pos) (low X.K cls E2 λZ M Q E=>∀p,M p=none->Q (.ref p) (put M p (dN tk))):=by
 refine λa_ s Z H Q2 I k_=>ex9 k_ λh_ M Q E3 rm ds lk q b_=>?_
 have hp:H s.heap.objs.size=none:=I.j_.fresh (Km _);have hb:=wH I;have q0:=q s.heap.objs.size (rm.fresh hp);cases tk with
 |none=>
  have Pl:ObjOk X.prog X.w (upd H s.heap.objs.size (.dK [])) (s.heap.push {cls:=.type "dict",data:=.dict #[]}) s.heap.objs.size (.dK []):=⟨Nat.zero_le _,hb,[],.nil,Heap.DictOf.new s.heap⟩;have I1:=I.laid (a:=s.heap.objs.size) (o:=.dK []) (h':=s.heap.push {cls:=.type "dict",data:=.dict #[]}) (t':=s.toks) (λ_ _ q=>Kk _ q) (Km _) Pl
  have n_:RelM X.K (put M s.heap.objs.size (.dk [] [])) (upd H s.heap.objs.size (.dK [])):=rm.lay hp ⟨[],ai,rfl,rfl⟩;exact wpAny_Dict_empty ⟨.ref s.heap.objs.size,_,I1,rfl,b_ _ _ (.ref s.heap.objs.size) _ rfl n_ (.new hp) q0⟩
 |some f=>
  obtain⟨ob,es,ep,hq,hx,hd,he,_,_⟩:=(Heap.DictOfH.new (knd:=kdF f X.prog X.w) s.heap);have tb:cM f s.heap.objs.size [] (s.heap.push {cls:=.type "dict",data:=.dict #[]}):=⟨ob,es,ep,hq,hx,hd,by cases f<;>exact he⟩
  have Pl:ObjOk X.prog X.w (upd H s.heap.objs.size (.ext (cM f s.heap.objs.size []))) (s.heap.push {cls:=.type "dict",data:=.dict #[]}) s.heap.objs.size (.ext (cM f s.heap.objs.size [])):=
   ⟨tb,⟨ob,hq⟩,λg1 g2 ⟨o1,Oh,Oi,a1,a2,a3,a4⟩ kk=>⟨o1,Oh,Oi,kk _ a1,a2,a3,a4⟩⟩
  have I1:=I.laid (a:=s.heap.objs.size) (o:=.ext (cM f s.heap.objs.size [])) (h':=s.heap.push {cls:=.type "dict",data:=.dict #[]}) (t':=s.toks) (λ_ _ q=>Kk _ q) (Km _) Pl
  have n_:RelM X.K (put M s.heap.objs.size (dN (some f))) (upd H s.heap.objs.size (.ext (cM f s.heap.objs.size []))):=rm.lay hp (by cases f<;>exact⟨[],[],ai,⟨rfl,.nil,Nat.zero_le _,hb,.nil,λx hx=>nomatch hx⟩,rfl⟩)
  exact wpAny_Dict_empty ⟨.ref s.heap.objs.size,_,I1,rfl,b_ _ _ (.ref s.heap.objs.size) _ rfl n_ (.new hp) q0⟩
end
section
variable {A:Around}{s:Shared}{ob:Obj}{es:Array DictEntry}{ep:Nat}{d o:Addr}{nm:String}
end
section
variable {X:Cx}
end
theorem rV:∀{ds:List D}{ps:List (Int×Int)},tR ds=some ps->ds=ps.map prD
 |[],ps,h=>by cases h;rfl
 |d::r,ps,h=>by
  unfold tR at h;split at h
  ·rename_i e;cases e
  ·rename_i a b r' e;cases e;split at h
   ·rename_i qs e2;cases h;rw[rV e2];rfl
   ·cases h
  ·cases h
theorem kS(bt:Nat->Nat->Bool):∀k,argBest bt k<=k
 |0=>Km _
 |k+1=>by
  unfold argBest;split
  ·exact Km _
  ·exact Nat.le_succ_of_le (kS bt k)
theorem tO{ps:List (Int×Int)}(h:ps≠[]):vk ps∈ps:=by
 have hl:0<ps.length:=List.length_pos_iff.mpr h;unfold vk;have:=kS (λi j=>lt2 (ps.getD i (0,0)) (ps.getD j (0,0))) (ps.length-1)
 rw[List.getD_eq_getElem?_getD,KC (by omega)]
 exact K7 _
section
variable {X:Cx}{cls:Nat->Addr}{E2:St->XK}{e:Expr}{pos p:Pos}
theorem Et{a_:List (Addr×Obj)}{Z:St}{H:Hp}{s:Shared}{Ex:Value->Shared->Prop}{x:D}{v:V}{v2:Value}{M:MH}{Q:VK3}{Q2:VK}(hc:X.calm=true)(hu:X.A.units+64<cLine)
  (I:Inv X a_ Z H s)(rv:RelV v v2)(dx:Den X.K H x v)(rm:RelM X.K M H)(q:rMp x M Q)(b_:Back X.K H Q Q2) :
  wpAny (model X.prog X.w) X.A (call (.builtin "min") [v2]) (EP X a_ Z Q2) Ex s:=by
 have hh:=I.ok.hd hc;unfold rMp at q;split at q
 ·rename_i ds e1;obtain⟨a,vs,rfl,rd,dl⟩:=AJ rm dx e1;cases rv;obtain⟨_,f_,n,r,H_,hg⟩:=I.rdL rd;have hl:s.heap.IsList a f_.toArray:=⟨_,hg,rfl,n,rfl⟩;split at q
  ·rename_i p0 ps e2;have el:=rV e2;have ld:ds.length=vs.length:=dl.length;have lp:ds.length=(p0::ps).length:=by rw[el,Kr]
   have at_:∀(i:Nat)(u:Value),f_.toArray[i]?=some u->∃w,Den X.K H (prD ((p0::ps).getD i (0,0))) w/\RelV w u:=λi u hv=>by
    have hv:f_[i]?=some u:=by simpa using hv
    have hi:i<f_.length:=(KP.mp hv).1;have RO:i<(p0::ps).length:=by omega
    have ed:ds[i]?=some (prD ((p0::ps).getD i (0,0))):=by
     rw[el,Kt,KC RO,List.getD_eq_getElem?_getD,KC RO];rfl
    obtain⟨w,w1,w2⟩:=dl.get ed;obtain⟨u',u1,u2⟩:=r.get w1;rw[hv]at u1;cases u1;exact⟨w,w2,u2⟩
   refine Ds (ps:=λi=>(p0::ps).getD i (0,0)) hh (by omega) hl (by rw[Kx];simp at lp;omega) (λi u hv=>?_) λu h' tk hv k=>?_
   ·obtain⟨w,w2,u2⟩:=at_ i u hv;obtain⟨b,zs,rfl,sq,dz⟩:=w2;cases u2;have ez:=DenL.int_of (ns:=[((p0::ps).getD i (0,0)).1,((p0::ps).getD i (0,0)).2]) dz;subst ez;obtain⟨Um,r2,⟨⟨c1,dd,da,sl⟩,g2,cc,m,d2⟩,_⟩:=I.tuple sq;subst cc d2;cases r2 with
    |cons h1 r2=>
     cases r2 with
     |cons h2 r2=>
      cases r2;obtain⟨t1,rfl⟩:=h1;obtain⟨t2,rfl⟩:=h2;exact⟨b,m,t1,t2,dd,sl,rfl,g2⟩
   ·have es:f_.toArray.size=(p0::ps).length:=by rw[Kx];omega
    rw[es]at hv;obtain⟨w,w2,u2⟩:=at_ _ u hv;exact⟨w,H,I.kept k,u2,b_ _ _ _ _ w2 rm (.refl _) q⟩
  ·exact q.elim
 ·exact q.elim
theorem Fo{te:St3->MH->VK3->XN->Prop}(hc:X.calm=true)(hu:X.A.units+64<cLine)(ha:PE X e (low X.K cls E2 te))(hg:Gl X "min")(hm:X.mg "min"=none)(hs:starEach (e::[]) X.env=(false,eval e X.env)::starEach [] X.env) :
  PE X (.Call (.Name "min" p) [e] [] pos) (low X.K cls E2 λZ M Q E=>te Z M (λx M1=>rMp x M1 Q) E):=by
 have RF:CallR X (.builtin "min") (λvs H Q2=>∃x v M Q,vs=[v]/\Den X.K H x v/\RelM X.K M H/\rMp x M Q/\Back X.K H Q Q2):=by
  refine λa_ s Z H vs us Q2 I r k_=>ex9 k_ λx v M Q e dx rm q b_=>?_
  subst e;obtain⟨u,rfl,ru⟩:=gG r;exact Et hc hu I ru dx rm q b_
 refine (kn RF hg hm (by decide +kernel) (cv ha pa_nil hs) (by decide +kernel) (by decide +kernel) hs (by rfl)).imp λZ H Q2 k_=>ex9 k_ λh_ M Q E3 rm ds lk h b_=>?_
 exact bc rm ds lk h λv H1 x M1 dx n_ t1 q1=>⟨x,v,M1,Q,rfl,dx,n_,q1,b_.mono t1⟩
end
def isN(i:Int):Expr->Bool
 |.Constant k _ _=>match k with
  |.int j=>decide (j=i)
  |_=>false
 |_=>false
section
variable {X:Cx}
end
section
variable {X:Cx}{A:Around}
theorem C7{kt:List (List Int)}{k:List Int}{y:D}{v:V}{b:Addr}{R:MH->Prop}{R2:Hp->Prop}(hu:A.units+1<cLine)(I:Inv X a_ Z H s)(rm:RelM X.K M H)(q:M a=some (.dt kt ds))(sq:SqT X.K H b (k.map V.int))(dy:Den X.K H y v)(rv:RelV v r)(hz:kt.length<sizeLine)
  (h:R (put M a (.dt (aj kt k) (ao kt ds k y)))) (b_:∀H' M',RelM X.K M' H'->TM X.K H H'->R M'->R2 H'):wpAny (model X.prog X.w) A (dictSet a (.ref b) r) (λ_ s'=>∃H',Inv X a_ Z H' s'/\R2 H') E s:=by
 obtain⟨vs,xs,e,z,dl⟩:=rm a _ q;have dd:=bz I (.inl e) z;have nd:(xs.map (·.1)).Nodup:=by rw[z.kx];exact z.nd
 obtain⟨Mf,h1,h2,h3,h4⟩:=gB (k:=k) (b:=b) nd z.vx rv dl dy;rw[z.kx]at h1 h3;have hsz:xs.length<=sizeLine:=by
  have:=congrArg List.length z.kx;rw[Kr]at this;omega
 refine wpAny_dictSet_heap (show A.units<cLine by omega) (fB (f:=false) I sq) dd λh' MT hs=>?_
 obtain⟨ob,es,ep,hq,hx,hd,he,_,_⟩:=MT;have tw:TM X.K H (upd H a (.ext (tabT a (storedH xs k b r)))):=.put e (λ_ z=>by cases z) λ_ _ z=>by cases z
 have tb:tabT a (storedH xs k b r) h':=⟨ob,es,ep,hq,hx,hd,he⟩;have I':Inv X a_ Z (upd H a (.ext (tabT a (storedH xs k b r)))) {s with heap:=h',toks:=s.toks+(tupleKind (intKind X.prog X.w)).draws k}:=
  gR I (by rw[e];exact True.intro) hs ⟨ob,hq⟩ ⟨tb,⟨ob,hq⟩,λg1 g2 ⟨o1,Oh,Oi,a1,a2,a3,a4⟩ kk=>⟨o1,Oh,Oi,kk _ a1,a2,a3,a4⟩⟩
 refine⟨_,I',b_ _ _ (rm.write (u:=.dt (aj kt k) (ao kt ds k y)) e (λ_ z=>by cases z) (λ_ _ z=>by cases z) ⟨Mf,_,ai,⟨h1,fg z.nd,KB bO hz,z.no,h2,λx MM=>?_⟩,h3.mono tw⟩) tw h⟩
 rcases h4 x MM with ⟨q1,q2⟩|⟨x',m,q1,q2⟩
 ·rw[q1,q2];exact tw.t _ _ sq
 ·rw[<-q1,<-q2];exact tw.t _ _ (z.at_ x' m)
theorem A9(hu:X.A.units+64<cLine)(hk:PE X k (low X.K cls E2 tk))(hv:PE X v (low X.K cls E2 tv)) :
  PE X (.Dict [some k] [v] pos) (low X.K cls E2 λZ M Q E=>∀p,M p=none->tk Z (put M p (.dt [] [])) (λx M1=>tv Z M1 (λy M2=>jC p x y M2 Q) E) E):=by
 refine λa_ s Z H Q2 I k_=>ex9 k_ λh_ M Q E3 rm ds lk q b_=>?_
 have hp:H s.heap.objs.size=none:=I.j_.fresh (Km _);have hb:=wH I;obtain⟨ob,es,ep,hq,hx,hd,he,_,_⟩:=(Heap.DictOfH.new (knd:=tupleKind (intKind X.prog X.w)) s.heap);have tb:tabT s.heap.objs.size [] (s.heap.push {cls:=.type "dict",data:=.dict #[]}):=⟨ob,es,ep,hq,hx,hd,he⟩;have Pl:ObjOk X.prog X.w (upd H s.heap.objs.size (.ext (tabT s.heap.objs.size []))) (s.heap.push {cls:=.type "dict",data:=.dict #[]}) s.heap.objs.size (.ext (tabT s.heap.objs.size [])):=
  ⟨tb,⟨ob,hq⟩,λg1 g2 ⟨o1,Oh,Oi,a1,a2,a3,a4⟩ kk=>⟨o1,Oh,Oi,kk _ a1,a2,a3,a4⟩⟩
 have I1:=I.laid (t':=s.toks) (λ_ _ q=>Kk _ q) (Km _) Pl
 have n_:RelM X.K (put M s.heap.objs.size (.dt [] [])) (upd H s.heap.objs.size (.ext (tabT s.heap.objs.size []))):=rm.lay hp ⟨[],[],ai,⟨rfl,.nil,Nat.zero_le _,hb,.nil,λx hx=>nomatch hx⟩,rfl⟩
 have Mq:TM X.K H (upd H s.heap.objs.size (.ext (tabT s.heap.objs.size []))):=.new hp;have q0:=q s.heap.objs.size (rm.fresh hp);have hn:=pairTrees_length [some k] [v] X.env pos rfl rfl;rw[arm_eval_Dict,zip_pairTrees [some k] [v] X.env pos rfl rfl,dictDisplay_pairs (pairTrees [some k] [v] X.env pos) (by intro z;rw[z]at hn;cases hn) (by rw[hn];show 1<17;decide)]
 refine Kf (wpAny_standAt (Kf ?_));refine Kf (wpAny_alloc (Kf (K0 ?_)));refine Kf (pairTrees_cons_walk ?_);refine thn (hk a_ _ Z _ (λu H2=>∃x M2,Den X.K H2 x u/\RelM X.K M2 H2/\TM X.K H H2/\tv h_ M2 (λy M3=>jC s.heap.objs.size x y M3 Q) E3) I1
  ⟨h_,_,_,E3,n_,ds.mono Mq,lk.mono Mq,q0,λu H2 x M2 dx Lu t2 q2=>⟨x,M2,dx,Lu,Mq.trans t2,q2⟩⟩) λkv s2 ⟨u,H2,I2,ru,x,M2,dx,Lu,t2,q2⟩=>?_
 refine thn (hv a_ _ Z _ (λv H3=>∃y M3,Den X.K H3 x u/\Den X.K H3 y v/\RelM X.K M3 H3/\TM X.K H H3/\jC s.heap.objs.size x y M3 Q) I2
  ⟨h_,_,_,E3,Lu,ds.mono t2,lk.mono t2,q2,λv H3 y M3 dy NA t3 q3=>⟨y,M3,dx.mono t3,dy,NA,t2.trans t3,q3⟩⟩) λvv s3 ⟨v,H3,I3,rv,y,M3,Tc,dy,NA,t3,q3⟩=>?_
 refine pairTrees_nil_walk ?_;refine K0 ?_;unfold jC at q3;split at q3
 ·rename_i kk ek;obtain⟨e,q4⟩:=q3;obtain⟨b,rfl,sq⟩:=jP ek Tc;cases ru;refine Kf ?_;rw[List.forIn_cons];refine Kf (Kf (Lh (C7 (show X.A.units+1<cLine by omega) I3 NA e sq dy rv (by show 0<sizeLine;decide) q4
   (λH' M' q_ LC qq=>b_ _ _ (.ref s.heap.objs.size) _ rfl q_ (t3.trans LC) qq)) (λ_ s4 ⟨H4,I4,q5⟩=>Kh ?_) λ_ _ z=>z))
  dsimp only;exact Kh (Kh (Kh (Kh ⟨.ref s.heap.objs.size,H4,I4,rfl,q5⟩)))
 ·exact q3.elim
end
section
variable {A:Around}{s:Shared}{ob:Obj}{es:Array DictEntry}
theorem kO(hn:(d == sysModules)=false):MeetsIn prog w (Builtin.«dict.items» ⟨[.ref d],[]⟩) (λ_ R s=>s.TypeIs (.ref d) "dict"/\R (.ok (.ret (.ref s.heap.objs.size))) {s with heap:=s.heap.push {cls:=.type "dict_items",data:=.fields #[.ref d]}}):=
 .of_wp λA R s ⟨ty,q⟩=>by
  refine Kf ?_;refine Kf (wpAny_notOrdered_dict ty (show wpAny _ _ (pure d) _ _ s from Kh (show wpAny _ _ (Builtin.Dict.showsAll d >>=_) _ _ s from ?_)));unfold Builtin.Dict.showsAll;rw[hn];exact Kf (Kh (Kf (KU (Kh ⟨_,rfl,q⟩))))
theorem kE(vw:s.heap.IsItemsView p d)(ho:s.heap.get? d=some ob)(hd:ob.data=.dict es ep)
  (q:Q (.ref s.heap.objs.size) {s with heap:=s.heap.push {cls:=.type "dict_itemiterator",data:=.fields #[.none,.bool false,.ref d,.int 0 0,.int es.size 0,.int ep 0,.none,.none]}}):wpAny (model prog w) A (pyIter (.ref p)) Q E s:=by
 obtain⟨ov,e1,e2,e3⟩:=id vw;refine wpAny_pyIter_slot vw.typeIs F.slot_dict_items_iter (K8 F.slot_dict_items_iter vw.typeIs F.entry_dict_items_iter ?_ (F.args_dict_items_iter_1 _));refine Kf (Kh (Kf (Kf (Lb e1 e3 rfl (Kh (Kf (Kf (Lc ho hd (Kf (wpAny_dictEpoch ho hd ?_))))))))));simp only[show Builtin.Dict_items.ownsTuple "dict_itemiterator"=true by decide,if_true]
 refine KU (Kh ⟨_,rfl,"dict_itemiterator",_,⟨_,Ko _ rfl,rfl⟩,F.slot_dict_itemiterator_next.lookup,?_⟩) (by simp only[sizeOk,Builtin.Dict_items.ownedTupleFields,Kx,KO,Ky,List.length_nil,sizeLine_eq];omega)
 simpa [rawInt,Builtin.Dict_items.ownedTupleFields] using q
theorem j0{e:DictEntry}(G_:IsItemIter s.heap it d i es.size ep a1 a2)(ho:s.heap.get? d=some ob)(hd:ob.data=.dict es ep)(he:es[i]?=some e)
  (hQ:∀h',IsItemIterOut h' it d (i+1) es.size ep e.key e.val s.heap.objs.size->h'.get? s.heap.objs.size=some {cls:=.type "tuple",data:=.seq #[e.key,e.val]}->
   (∀b o,b≠it->s.heap.get? b=some o->h'.get? b=some o)->Q (some (.ref s.heap.objs.size)) {s with heap:=h'}):wpAny (model prog w) A (pyNext (.ref it)) Q E s:=by
 obtain⟨hp,g,dr,tk,os⟩:=s;have ty:Shared.TypeIs ⟨hp,g,dr,tk,os⟩ (.ref it) "dict_itemiterator":=⟨_,G_,rfl⟩;refine Kf (wpAny_attempt (wpAny_callSpecial?_slot ty F.slot_dict_itemiterator_next (K8 F.slot_dict_itemiterator_next ty F.entry_dict_itemiterator_next ?_ (F.args_dict_itemiterator_next_1 _))));refine Kf (Kh (Kf (Kf ?_)))
 first|refine Kf (wpAny_typeNameOfWhole_itemiter ty (Kh (Kf (wpAny_fieldsOf G_ rfl ?_))))|refine Kf (wpAny_typeNameOf_itemiter ty (Kh (Kf (wpAny_fieldsOf G_ rfl ?_))))
 refine Kf (Kh (Kf (Lc ho hd ?_)));rw[Kj (by simp)]
 refine Kf (Kh (Kf (wpAny_dictEpoch ho hd ?_)));rw[Kj (by simp)]
 refine Kh ?_;simp only[Ll,he];refine Kf ?_
 first|refine Kf (wpAny_typeNameOfWhole_itemiter ty (Kh (Kf (wpAny_isOneOf_itemiter ty ?_))))|refine Kf (wpAny_typeNameOf_itemiter ty (Kh (Kf (wpAny_isOneOf_itemiter ty ?_))))
 refine (show wpAny _ _ (setField (.ref it) 3 (rawInt ((i:Int)+1)) >>=_) _ _ ⟨hp,g,dr,tk,os⟩ from ?_);refine Kf (wpAny_setField_rec G_ (by simp) λk1 f1 u1=>?_)
 replace f1:IsItemIter k1 it d (i+1) es.size ep a1 a2:=by
  unfold IsItemIter;simpa [rawInt] using f1
 have RP:Shared.TypeIs ⟨k1,g,dr,tk,os⟩ (.ref it) "dict_itemiterator":=⟨_,f1,rfl⟩;refine Kf (K0 (Kf (wpAny_isOneOf_itemiter RP (Kf (wpAny_isOneOf_itemiter RP ?_)))));refine Kf (wpAny_newTuple ?_);have f2:IsItemIter (k1.push {cls:=.type "tuple",data:=.seq #[e.key,e.val]}) it d (i+1) es.size ep a1 a2:=Kk _ f1;generalize RQ:k1.push {cls:=.type "tuple",data:=.seq #[e.key,e.val]}=k2 at f2;have z1:k1.objs.size=hp.objs.size:=u1.1;have lt:it<hp.objs.size:=Kw G_;have t2:k2.get? hp.objs.size=some {cls:=.type "tuple",data:=.seq #[e.key,e.val]}:=by rw[<-RQ,<-z1];exact Ko _ rfl
 have r2:∀b o,b≠it->hp.get? b=some o->k2.get? b=some o:=λb o hb q=>by rw[<-RQ];exact Kk _ (u1.extBut b o hb q)
 rw[z1];refine Kf (Kf (Lb f2 rfl rfl (Kh ?_)));refine Kf (Lb f2 rfl rfl (Kf (Lb f2 rfl rfl (Kf (wpAny_setField_rec f2 (by simp) λk3 f3 u3=>?_)))))
 refine Kf (wpAny_setField_rec f3 (by simp) λk4 f4 u4=>?_)
 refine Kf (wpAny_setField_rec f4 (by simp) λk5 f5 u5=>?_)
 refine Kf (wpAny_setField_rec f5 (by simp) λk6 f6 u6=>?_)
 have up:∀b o,b≠it->k2.get? b=some o->k6.get? b=some o:=λb o hb q=>u6.extBut b o hb (u5.extBut b o hb (u4.extBut b o hb (u3.extBut b o hb q)))
 exact Kf (wpAny_letGo (Kh (Kh ⟨_,rfl,Kh (hQ k6 f6 (up _ _ (Nat.ne_of_gt lt) t2) λb o hb q=>up b o hb (r2 b o hb q))⟩)))
theorem jw(cm:A.handled=none)(G_:IsItemIter s.heap it d i es.size ep a1 a2)(ho:s.heap.get? d=some ob)(hd:ob.data=.dict es ep)(he:es.size<=i)
  (hQ:∀h',Heap.ExtBut it s.heap h'->Q none {s with heap:=h'}):wpAny (model prog w) A (pyNext (.ref it)) Q E s:=by
 have ty:s.TypeIs (.ref it) "dict_itemiterator":=⟨_,G_,rfl⟩;refine Kf (wpAny_attempt (wpAny_callSpecial?_slot ty F.slot_dict_itemiterator_next (K8 F.slot_dict_itemiterator_next ty F.entry_dict_itemiterator_next ?_ (F.args_dict_itemiterator_next_1 _))));refine Kf (Kh (Kf (Kf ?_)))
 first|refine Kf (wpAny_typeNameOfWhole_itemiter ty (Kh (Kf (wpAny_fieldsOf G_ rfl ?_))))|refine Kf (wpAny_typeNameOf_itemiter ty (Kh (Kf (wpAny_fieldsOf G_ rfl ?_))))
 have nn:¬ ((Value.ref d == Value.none)=true):=Ku;refine (show wpAny _ _ (if (Value.ref d == Value.none)=true then _ else _) _ _ s from ?_)
 refine Kf (Kh (Kf (Lc ho hd ?_)));rw[Kj (by simp)]
 refine Kf (Kh (Kf (wpAny_dictEpoch ho hd ?_)));rw[Kj (by simp)]
 refine Kh ?_;simp only[if_false,Ll,Array.getElem?_eq_none he];refine Kf ?_
 first|refine Kf (wpAny_typeNameOfWhole_itemiter ty (Kh ?_))|refine Kf (wpAny_typeNameOf_itemiter ty (Kh ?_))
 refine (show wpAny _ _ (setField (.ref it) 2 .none >>=_) _ _ s from Kf (Lp G_ rfl (by simp) ?_))
 refine (show wpAny _ _ (newExc (.type "StopIteration") [] >>=_) _ _ _ from Kf ?_);refine Kf (KU (Kf (wpAny_of_eq (by first|rfl|(simp only[firstArgMember];rfl)) (KU (Kf (wpAny_handled ?_)) (by size_fits)))) (by size_fits))
 rw[show A.in1.handled=none from cm];refine Kf (Kh (wpAny_throw ?_));have fin:=λ(h':Heap) (z:Heap.ExtBut it s.heap h')=>hQ h' z
 refine Kf (wpAny_isInstance ⟨_,Ko _ rfl,rfl⟩ isSubtype_stop (Kh (fin _ (((Heap.SameBut.update ..).extBut.push _).push _))))
end
def DOb(o:Obj)(ps:List (V×V)):Prop:=∃es ep,o.ExactDict/\o.data=.dict es ep/\es.size=ps.length/\∀(i:Nat) p e,ps[i]?=some p->es[i]?=some e->RelV p.1 e.key/\RelV p.2 e.val
def Itd(d:Addr)(o:Obj)(ps:List (V×V)):It:=
 ⟨λi H=>(∃u,H d=some (.u_ o u))/\i<ps.length,λi H v H'=>∃p,v=.ref p/\H p=none/\∃kv,ps[i]?=some kv/\H'=upd H p (.tup [kv.1,kv.2]),λi H=>(∃u,H d=some (.u_ o u))/\ps.length<=i⟩
theorem Inv.frzGet{s:Shared}(I:Inv X a_ Z H s)(e:H d=some (.u_ o u)):s.heap.get? d=some o:=(I.j_ _ _ e).1
theorem qz{K:Lr}(d it:Addr){o:Obj}{ps:List (V×V)}{es:Array DictEntry}(hd:o.data=.dict es ep)(hz:es.size=ps.length)
  (hr:∀(i:Nat) p e,ps[i]?=some p->es[i]?=some e->RelV p.1 e.key/\RelV p.2 e.val) (Mm:d≠it):Turn P w K (.Tuple LA x1 pos) (Itd d o ps) [it] it (λi h=>∃a1 a2,IsItemIter h it d i es.size ep a1 a2) where
 mem:=by simp
 obj:=λi h st b hb=>by
  obtain⟨a1,a2,h1⟩:=st;have e':b=it:=by simpa using hb
  subst e';exact⟨_,h1,λv z=>by
   have z':Data.fields _=Data.cell v:=z;cases z'⟩
 keep:=λi h h' st k=>let ⟨a1,a2,h1⟩:=st;⟨a1,a2,k it (by simp) _ h1⟩
 item:=by
  intro X hP hw hK hc i a_ s Z H E I hf st hg;obtain⟨⟨u,hu⟩,hi⟩:=hg;obtain⟨a1,a2,G_⟩:=st;have fi:=hf it (by simp)
  have Nk:it<s.heap.objs.size:=Kw G_;have he:es[i]?=some es[i]:=by simp
  have Nb:ps[i]?=some ps[i]:=by simp
  obtain⟨rk,rv⟩:=hr i _ _ Nb he;refine j0 G_ (I.frzGet hu) hd he λh' QU ht k=>?_
  have hp:H s.heap.objs.size=none:=I.j_.fresh (Km _);have I1:Inv X a_ Z (upd H s.heap.objs.size (.tup [ps[i].1,ps[i].2])) {s with heap:=s.heap.push {cls:=.type "tuple",data:=.seq #[es[i].key,es[i].val]},toks:=s.toks}:=
   I.laid (λb o e1=>Kk _ e1) (Km _) ⟨by show 2<=sizeLine;decide,[es[i].key,es[i].val],.cons rk (.cons rv .nil),⟨_,Ko _ rfl,rfl,_,rfl⟩⟩
  have OM:fK X a_ (upd H s.heap.objs.size (.tup [ps[i].1,ps[i].2])) it:=⟨by rw[ah (KH Nk)];exact fi.1,fi.2⟩
  obtain⟨f0,f1,f2,f3,f4,f5⟩:=OM;have I2:Inv X a_ Z (upd H s.heap.objs.size (.tup [ps[i].1,ps[i].2])) {s with heap:=h',toks:=s.toks}:=I1.turned (λb o hb e1=>by
   by_cases Oo:b=s.heap.objs.size
   ·subst Oo;have e2:(s.heap.push {cls:=.type "tuple",data:=.seq #[es[i].key,es[i].val]}).get? s.heap.objs.size=some {cls:=.type "tuple",data:=.seq #[es[i].key,es[i].val]}:=Ko _ rfl;rw[e2]at e1;cases e1;exact ht
   ·exact k b o hb ((Heap.get?_push_ne _ _ _ Oo).symm.trans e1)) f0 f1 f3 f4 f5
  refine⟨.ref s.heap.objs.size,rfl,wpAny_letOwnedTupleGo_items QU λh2 Nl L8=>?_⟩
  have I3:Inv X a_ Z (upd H s.heap.objs.size (.tup [ps[i].1,ps[i].2])) {s with heap:=h2,toks:=s.toks}:=I2.turned (λb o hb e1=>(L8.2 b hb).trans e1) f0 f1 f3 f4 f5
  refine⟨.ref s.heap.objs.size,_,I3,rfl,⟨_,rfl,hp,_,Nb,rfl⟩,⟨_,_,Nl⟩,λb hb=>?_⟩
  have e':b=it:=by simpa using hb
  subst e';exact f0
 done:=by
  intro X hP hw hK hc i a_ s Z H E I hf st hg;obtain⟨⟨u,hu⟩,hi⟩:=hg;obtain⟨a1,a2,G_⟩:=st;obtain⟨f0,f1,f2,f3,f4,f5⟩:=hf it (by simp)
  exact jw (I.ok.hd hc) G_ (I.frzGet hu) hd (by omega) λh' eb=>⟨rfl,I.turned (λb o hb e=>eb b o hb e) f0 f1 f3 f4 f5⟩
 self:=λ_ _ _ _ _ st h=>let ⟨_,_,G_⟩:=st;PySem.W.kcp_self G_ h
theorem kX{K:Lr}:∀ks:List Int,DenL K H (ks.map D.int) (ks.map V.int)
 |[]=>rfl
 |k::r=>⟨_,_,rfl,rfl,kX r⟩
section
variable {X:Cx}{o_ p_:Pos}
def prs(xs:List (List Int×Addr×Value))(vs:List V):List (V×V):=(xs.map λx=>V.ref x.2.1).zip vs
theorem sR{ob:Obj}(I:Inv X a_ Z H s)(e:H d=some (.u_ ob (.ext (tabT d xs))))(vx:Vals vs (xs.map (·.2.2))):DOb ob (prs xs vs)/\ob.ExactDict:=by
 obtain⟨h1,⟨o',es,ep,g1,g2,g3,g4⟩,_⟩:=(show ObjOk X.prog X.w H s.heap d (.u_ ob (.ext (tabT d xs))) from I.j_ _ _ e);rw[h1]at g1;cases g1;have hl:=vx.length;have hsz:es.size=xs.length:=by
  have:=congrArg List.length g4;simpa using this
 refine⟨⟨es,ep,g2,g3,by simp[prs,hl,hsz],λi p e' hp he=>?_⟩,g2⟩
 obtain⟨a1,a2⟩:=List.getElem?_zip_eq_some.mp hp;rw[Kt]at a1;cases hx:xs[i]? with
 |none=>rw[hx]at a1;cases a1
 |some x=>
  rw[hx]at a1;have Nl:es.toList[i]?=some e':=by simpa using he
  rw[g4,Kt,hx]at Nl;cases Nl;obtain⟨u,hu,ru⟩:=vx.get a2;rw[Kt,hx]at hu;cases hu;have a1:V.ref x.2.1=p.1:=by simpa using a1
  rw[<-a1];exact⟨rfl,ru⟩
theorem Bi{ob:Obj}(I:Inv X a_ Z H s)(e:H d=some (.u_ ob (.ext (tabT d xs))))(z:TabOk X.K H d ks xs vs):DOb ob (prs xs vs)/\ob.ExactDict:=sR I e z.vx
def ObD(X:Cx)(d:Addr)(ob:Obj)(u:HO)(ps:List (V×V)):Prop:=∀a_ s Z H,Inv X a_ Z H s->H d=some (.u_ ob u)->DOb ob ps/\(d == sysModules)=false
def AL(X:Cx)(v:V)(vs:List V)(H:Hp)(Q:VK):Prop:=∃d ob u ps,v=.ref d/\vs=[]/\H d=some (.u_ ob u)/\ObD X d ob u ps/\∀p,H p=none->Q (.ref p) (upd H p (.ext λh=>h.IsItemsView p d))
theorem wT:MtR X "dict.items" (AL X):=by
 intro a_ s Z H v vs v2 us Q I rv rs ⟨d,ob,u,ps,e1,e2,hH,z,q⟩;subst e1 e2;cases rv;cases rs;have ho:=I.frzGet hH;obtain⟨⟨_,_,xd,_⟩,zn⟩:=z _ _ _ _ I hH;have hc:=xd.1;have hf:H s.heap.objs.size=none:=I.j_.fresh (Km _);refine call_meetsIn PySem.F.slot_dict_items ⟨_,ho,hc⟩ PySem.F.entry_dict_items (PySem.F.args_dict_items_1 _) (kO zn) ⟨⟨_,ho,hc⟩,?_⟩;have I1:Inv X a_ Z (upd H s.heap.objs.size (.ext λh=>h.IsItemsView s.heap.objs.size d)) {s with heap:=s.heap.push {cls:=.type "dict_items",data:=.fields #[.ref d]},toks:=s.toks}:=
  I.laid (λb o e1=>Kk _ e1) (Km _) ⟨⟨_,Ko _ rfl,rfl,rfl⟩,⟨_,Ko _ rfl⟩,λh1 h2 ⟨ov,g1,g2,g3⟩ k=>⟨ov,k _ g1,g2,g3⟩⟩
 exact⟨.ref s.heap.objs.size,_,I1,rfl,q _ hf⟩
def Dk(X:Cx)(t2:TE):TI:=λZ H R=>t2 Z H λv H1=>∃d ob u ps,v=.ref d/\H1 d=some (.u_ ob u)/\ObD X d ob u ps/\∀p,H1 p=none->R (Itd d ob ps) (upd H1 p (.ext λh=>h.IsItemsView p d))
theorem TabOk.grow{K:Lr}(z:TabOk K H d ks xs vs)(t:TM K H H'):TabOk K H' d ks xs vs:=⟨z.kx,z.nd,z.sz,z.no,z.vx,λx hx=>t.t _ _ (z.at_ x hx)⟩
theorem uV(ho:PE X o t2)(x_:attributeBase o "items" X.env (eval o X.env)=eval o X.env)(y_:(o_.endLine == p_.line)=true):PI X (.Tuple LA x1 pt) (.Call (.Attribute o "items" o_) [] [] p_) (Dk X t2):=by
 intro a_ s Z H R I h;refine wpAny_Call_method0_late x_ y_ (thn (ho a_ s Z H _ I h) λv s0 ⟨x,H1,I1,r1,d,ob,u,ps,e1,e3,z,q⟩=>?_)
 subst e1;cases r1;obtain⟨⟨_,_,xd,_⟩,_⟩:=z _ _ _ _ I1 e3;refine⟨"dict","dict.items",PySem.F.plainAttrs_dict,PySem.F.slot_dict_items,PySem.F.type_dict_items,⟨_,I1.frzGet e3,xd.1⟩,λa ha=>?_,Calls.callWith_builtin rfl (PySem.evalArgs_none ?_)⟩
 ·cases ha;exact⟨_,I1.frzGet e3,xd.2.1⟩
 refine thn (wT a_ s0 Z H1 (.ref d) [] (.ref d) [] (λv H2=>∃p,v=.ref p/\H1 p=none/\H2=upd H1 p (.ext λh=>h.IsItemsView p d)) I1 rfl .nil ⟨d,ob,u,ps,rfl,rfl,e3,z,λp hp=>⟨p,rfl,hp,rfl⟩⟩) λv2 s1 ⟨v,H2,I2,rv,p,e1,hp,e2⟩=>?_
 have q:=q p hp;have e3:H2 d=some (.u_ ob u):=by rw[e2,ah (aH e3 hp)];exact e3
 have e4:H2 p=some (.ext λh=>h.IsItemsView p d):=by rw[e2,ai]
 rw[<-e2]at q
 ·subst e1;cases rv;obtain⟨⟨es,ep,hx,hd,hz,hr⟩,_⟩:=z _ _ _ _ I2 e3;have hv:=(I2.j_ _ _ e4).1;have ho:=I2.frzGet e3;refine kE hv ho hd ?_;have hf:H2 s1.heap.objs.size=none:=I2.j_.fresh (Km _);have Oq:d<s1.heap.objs.size:=Kw ho;exact⟨s1.heap.objs.size,[s1.heap.objs.size],_,_,H2,rfl,I2.kept (λb o e=>Kk _ e),qz d s1.heap.objs.size hd hz hr (KH Oq),⟨_,_,Ko _ rfl⟩,λb hb=>by
   have e':b=s1.heap.objs.size:=by simpa using hb
   subst e';exact I2.fpOk (Km _) hf,q⟩
theorem wP{K:Lr}(e:H0 d=some (.u_ ob (.ext (tabT d xs))))(z:TabOk K H0 d ks xs vs)(dl:DenL K H0 ds vs):ItOk K H0 (Itd d ob (prs xs vs)) (aw ks ds) (λ_=>True):=by
 have l1:=dl.length;have l2:=z.vx.length;have l3:xs.length=ks.length:=by rw[<-z.kx];simp
 have lp:(prs xs vs).length=(aw ks ds).length:=by simp[prs,aw];omega
 refine⟨λi H M t rm s hi=>⟨⟨_,t.g _ _ _ e⟩,by omega⟩,λi H M x H' t rm s hi y=>?_,λH M t rm s=>⟨⟨_,t.g _ _ _ e⟩,by omega⟩⟩
 obtain⟨q,rfl,hq,kv,LL,rfl⟩:=y;obtain⟨a1,a2⟩:=List.getElem?_zip_eq_some.mp LL;rw[Kt]at a1;cases hx:xs[i]? with
 |none=>rw[hx]at a1;cases a1
 |some x=>
  rw[hx]at a1;have a1:V.ref x.2.1=kv.1:=by simpa using a1
  obtain⟨dd,e1,e2⟩:=(dl.mono t).get' a2;have hk:ks[i]?=some x.1:=by rw[<-z.kx,Kt,hx];rfl
  have sq:=t.t _ _ (z.at_ x (KW hx));refine⟨.new hq,rm.grow hq,.tup [.tup (x.1.map D.int),dd],?_,⟨q,[kv.1,kv.2],rfl,.inl (.inl ai),⟨_,_,rfl,?_,_,_,rfl,e2.mono (.new hq),rfl⟩⟩⟩
  ·have ez:(ks.zip ds)[i]?=some (x.1,dd):=List.getElem?_zip_eq_some.mpr ⟨hk,e1⟩;unfold aw;rw[Kt,ez];rfl
  ·rw[<-a1];exact⟨x.2.1,x.1.map V.int,rfl,(TM.new hq).t _ _ sq,kX _⟩
end
section
variable {X:Cx}
end
theorem ER.upd_nx{K:Lr}(er:ER K H D3 D2)(h:∀l_ H' t_ M',RelM K M' H'->DenS K H' t_ l_->TM K H H'->n3 t_ M'->n2 l_ H'):ER K H {D3 with nx:=n3} {D2 with nx:=n2}:=⟨h,er.rt,er.bk,er.ct⟩
section
variable {X:Cx}{cls:Nat->Addr}{E2:St->XK}{st:Stmt}{aU:List Stmt}{t u:Ends3->(St3->XN)->St3->MH->Prop}{e:Expr}{te:St3->MH->VK3->XN->Prop}{pos:Pos}
theorem Ej:PSs X [] (bH X.K cls E2 λD _ Z M=>D.nx Z M):=pss_nil.imp λD2 Z H k_=>ex9 k_ λh_ M D3 E3 rm ds lk h er=>er.nx Z H h_ M rm ds (.refl _) h
theorem Dp(h1:PS X st (bH X.K cls E2 t))(h2:PSs X aU (bH X.K cls E2 u)):PSs X (st::aU) (bH X.K cls E2 λD E Z M=>t {D with nx:=λl_ M'=>u D E l_ M'} E Z M):=
 (uR h1 h2).imp λD2 Z H k_=>ex9 k_ λh_ M D3 E3 rm ds lk h er=>⟨h_,M,_,E3,rm,ds,lk,h,er.upd_nx λl_ H' t_ M' q_ D_ tm q=>⟨t_,M',D3,E3,q_,D_,lk.mono tm,q,er.mono tm⟩⟩
theorem Cj:PS X st (bH X.K cls E2 λ_ _ _ _=>False):=λ_ _ _ _ _ _ k_=>ex9 k_ λ_ _ _ _ _ _ _ h _=>h.elim
theorem A6(he:PE X e (low X.K cls E2 te))(hs:swapsWith e none pos.line X.env=pure false):PS X (.Expr e pos) (bH X.K cls E2 λD E Z M=>te Z M (λ_ M1=>D.nx Z M1) (E Z)):=
 (sk he hs).imp λD2 Z H k_=>ex9 k_ λh_ M D3 E3 rm ds lk h er=>bc rm ds (lk.at ds) h λv H1 x M1 dx n_ t1 q1=>er.nx Z H1 h_ M1 n_ (ds.mono t1) t1 q1
theorem Fl(he:PE X e (low X.K cls E2 te)):PS X (.Return (some e) pos) (bH X.K cls E2 λD E Z M=>te Z M D.rt (E Z)):=
 (BR he).imp λD2 Z H k_=>ex9 k_ λh_ M D3 E3 rm ds lk h er=>bc rm ds (lk.at ds) h λv H1 x M1 dx n_ t1 q1=>er.rt v H1 x M1 dx n_ t1 q1
theorem Bs:PS X (.Return none pos) (bH X.K cls E2 λD _ _ M=>D.rt .i_ M):=ps_retN.imp λD2 Z H k_=>ex9 k_ λh_ M D3 E3 rm ds lk h er=>er.rt .i_ H .i_ M rfl rm (.refl _) h
theorem Ip(hc:PT X c (cu X.K cls E2 tA))(ha:PSs X a (bH X.K cls E2 t))(hb:PSs X b (bH X.K cls E2 u)) :
  PS X (.If c a b pos) (bH X.K cls E2 λD E Z M=>tA Z M (λk M1=>if k=true then t D E Z M1 else u D E Z M1) (E Z)):=
 (D5 hc ha hb).imp λD2 Z H k_=>ex9 k_ λh_ M D3 E3 rm ds lk h er=>jx rm ds (lk.at ds) h λk H1 M1 n_ t1 q1=>by
  cases k with
  |true=>rw[Kp rfl]at q1 ⊢;exact⟨h_,M1,D3,E3,n_,ds.mono t1,lk.mono t1,q1,er.mono t1⟩
  |false=>rw[Kj Ku]at q1 ⊢;exact⟨h_,M1,D3,E3,n_,ds.mono t1,lk.mono t1,q1,er.mono t1⟩
theorem Ah(hN:X.N.Nodup)(hi:X.N[i]?=some x)(hx:Loc X.env.scope x)(he:PE X e (low X.K cls E2 te))(hs:swapsWith e (some (.Name x pos')) pos.line X.env=pure false)(hf:X.fn x=true\/X.env.scope.names.lookup x=some .local) :
  PS X (.Assign [.Name x pos'] e pos) (bH X.K cls E2 λD E Z M=>te Z M (λx M1=>D.nx (Z.set i (some x)) M1) (E Z)):=
 (Bl hN hi hx he hs hf).imp λD2 Z H k_=>ex9 k_ λh_ M D3 E3 rm ds lk h er=>bc rm ds (lk.at ds) h λv H1 x M1 dx n_ t1 q1=>er.nx _ _ _ _ n_ ((ds.mono t1).set dx) t1 q1
theorem A0(hN:X.N.Nodup)(hi:X.N[i]?=some x)(hx:Loc X.env.scope x)(hf:X.fn x=true\/X.env.scope.names.lookup x=some .local):PG X (.Name x pos) (k7 X.K (wpG (.name i))):=
 (jr hN hi hx hf).imp λv Z H Q2 ⟨d,h_,M,Q,dv,rm,ds,h,b_⟩=>b_ _ _ _ _ rm (ds.set dv) (.refl _) h
def aX(N:List Str)(sc:Scope)(fn:Bool):List Nat->List Expr->Bool
 |[],[]=>true
 |i::is,.Name x _::es=>(N[i]? == some x)&&(sc.names.lookup x == some .local||(fn&&sc.names.lookup x == some .cell))&&aX N sc fn is es
 |_,_=>false
def ku(is:List Nat)(xs:List α)(Z:List (Option α)):List (Option α):=(is.zip xs).foldl (λZ p=>Z.set p.1 (some p.2)) Z
theorem fE(hN:X.N.Nodup)(MF:fn=true->∀x,X.fn x=true):∀{is:List Nat}{es:List Expr},aX X.N X.env.scope fn is es=true->
  PGs X es (λvs Z H Q=>vs.length=is.length/\Q (ku is vs Z) H)/\(assignEach es X.env).length=is.length/\(assignEach es X.env).findIdx? (·.1)=none
 |[],[],_=>⟨λa_ s Z H vs us Q I r ⟨e,h⟩=>yl a_ s Z H vs us Q I r ⟨List.length_eq_zero_iff.mp e,by cases List.length_eq_zero_iff.mp e;exact h⟩,rfl,rfl⟩
 |[],_::_,h=>by simp[aX]at h
 |i::is,es,h=>by
  unfold aX at h;split at h
  ·rename_i Ro;cases Ro
  ·rename_i i' Uo x px Nq Ro;cases Ro;simp only[Kg,KG,Bool.or_eq_true]at h;obtain⟨⟨h1,h2⟩,h3⟩:=h;obtain⟨ih,il,ix⟩:=fE hN MF h3;have hg:PG X (.Name x px) (rD i):=by
    rcases h2 with h2|⟨h2,h4⟩
    ·exact jr hN h1 (.inl h2) (.inr h2)
    ·exact jr hN h1 (.inr h4) (.inl (MF h2 x))
   refine⟨λa_ s Z H vs us Q I r ⟨e,q⟩=>?_,by show (assignEach Nq X.env).length+1=is.length+1;rw[il],?_⟩
   ·cases vs with
    |nil=>cases e
    |cons v vs=>exact o7 hg ih rfl a_ s Z H (v::vs) us Q I r ⟨v,vs,rfl,by simpa using e,q⟩
   ·show List.findIdx? (·.1) ((false,assign (.Name x px) X.env)::assignEach Nq X.env)=none;rw[List.findIdx?_cons];simp[ix]
  ·cases h
theorem gh{K:Lr}:∀{is:List Nat}{ds:List D}{vs:List V}{h_:St3}{Z:St},DenL K H ds vs->DenS K H h_ Z->DenS K H (ku is ds h_) (ku is vs Z)
 |[],_,_,_,_,_,h=>by simpa [ku] using h
 |i::is,[],vs,_,_,dl,h=>by cases (show vs=[] from dl);simpa [ku] using h
 |i::is,d::ds,vs,_,_,dl,h=>by
  obtain⟨v,r,rfl,dv,dl⟩:=dl;exact gh (is:=is) dl (h.set dv)
theorem Aj(hc:X.calm=true)(hN:X.N.Nodup)(MF:fn=true->∀x,X.fn x=true)(ok:aX X.N X.env.scope fn is es=true):PG X (.Tuple es k pos) (k7 X.K (wpG (.tup is))):=by
 obtain⟨h1,h2,h3⟩:=fE hN MF ok;refine (p9 hc h1 h2 h3).imp λv Z H Q2 z_=>?_
 obtain⟨d,h_,M,Q,dv,rm,ds,h,b_⟩:=z_;simp only[wpG]at h;split at h
 ·rename_i Nq;obtain⟨p,vs,rfl,sq,dl⟩:=dv;obtain⟨z,q⟩:=h;exact⟨p,vs,rfl,sq,by rw[<-dl.length];exact z,by rw[<-dl.length];exact z,b_ _ _ _ _ rm (gh dl ds) (.refl _) q⟩
 ·exact h.elim
theorem C4(hc:X.calm=true)(hN:X.N.Nodup)(MF:fn=true->∀x,X.fn x=true)(ok:aX X.N X.env.scope fn is es=true)(Td:aX X.N X.env.scope fn [j] [.Name x px]=true):PG X (.Tuple [.Tuple es k1 p1,.Name x px] k pos) (k7 X.K (wpG (.MK is j))):=by
 obtain⟨h1,h2,h3⟩:=fE hN MF ok;obtain⟨j1,j2,j3⟩:=fE hN MF Td;refine (p9 hc (o7 (p9 hc h1 h2 h3) j1 rfl) (n:=2) rfl (by rfl)).imp λv Z H Q2 z_=>?_
 obtain⟨d,h_,M,Q,dv,rm,ds,h,b_⟩:=z_;simp only[wpG]at h;split at h
 ·rename_i dd e;obtain⟨p,vs,rfl,sq,v1,r1,rfl,d1,v2,r2,rfl,d2,rfl⟩:=dv;obtain⟨p',ws,rfl,Pd,dl⟩:=d1;obtain⟨z,q⟩:=h;have hl:ws.length=is.length:=by rw[<-dl.length];exact z
  exact⟨p,_,rfl,sq,rfl,_,_,rfl,p',ws,rfl,Pd,hl,hl,rfl,b_ _ _ _ _ rm ((gh dl ds).set d2) (.refl _) q⟩
 ·exact h.elim
theorem EV{is:List Nat}(hc:X.calm=true)(hN:X.N.Nodup)(MF:fn=true->∀x,X.fn x=true)(ok:aX X.N X.env.scope fn is es=true)(he:PE X e (low X.K cls E2 te))
  (hs:swapsWithSole [.Tuple es k p2] e pos.line X.env=pure false) (hw:swappedStores [.Tuple es k p2] e X.env=pure none) :
  PS X (.Assign [.Tuple es k p2] e pos) (bH X.K cls E2 λD E Z M=>te Z M (λx M1=>match x with
  |.tup ds=>ds.length=is.length/\D.nx ((is.zip ds).foldl (λZ p=>Z.set p.1 (some p.2)) Z) M1
  |_=>False) (E Z)):=
 (vL he (Aj hc hN MF ok) hs hw (by rfl)).imp λD2 Z H k_=>ex9 k_ λh_ M D3 E3 rm ds lk h er=>bc rm ds (lk.at ds) h λv H1 x M1 dx n_ t1 q1=>
  ⟨x,h_,M1,D3.nx,dx,n_,ds.mono t1,by simp only[wpG];exact q1,λl_ H' t_ M' r' d' t' q'=>er.nx l_ H' t_ M' r' d' (t1.trans t') q'⟩
theorem F8(hp:PassesOwn (model X.prog X.w) X.A X.env X.xe)(hc:X.calm=true)(hi:PI X tg iter (lm X.K cls E2 wi))(hg:PG X tg (k7 X.K g))(hb:PSs X body (bH X.K cls E2 t))
  (hs:∀x,foldedSetIterable iter X.env x=pure x):PS X (.For tg iter body [] pos) (bH X.K cls E2 λD E Z M=>wi Z M (λds S M1=>cG g (λD Z M=>t D E Z M) S D ds Z M1) (E Z)):=by
 refine (qN hp hc hi hg hb hs).imp λD2 Z H k_=>ex9 k_ λh_ M D3 E3 rm Mz lk h er=>⟨h_,M,_,E3 h_,rm,Mz,lk.at Mz,h,λJ H1 ds S M1 ok n_ Mq hP=>?_⟩
 refine⟨λi m l_ H'=>∃t_ M',m=ds.length-i/\i<=ds.length/\RelM X.K M' H'/\DenS X.K H' t_ l_/\TM X.K H1 H'/\cG g (λD Z M=>t D E3 Z M) S D3 (ds.drop i) t_ M',⟨ds.length,h_,M1,by simp,Nat.zero_le _,n_,Mz.mono Mq,.refl _,hP⟩,?_⟩
 rintro i m l_ H' ⟨t_,M',rfl,Nk,q_,D_,LC,p⟩;by_cases K_:i<ds.length
 ·rw[List.drop_eq_getElem_cons K_]at p;obtain⟨s',p⟩:=p;refine .inr ⟨ok.go i H' M' LC q_ s' K_,λNc H4=>∃Ly M4,RelM X.K M4 H4/\DenS X.K H4 Ly Nc/\TM X.K H1 H4/\cG g (λD Z M=>t D E3 Z M) S D3 (ds.drop (i+1)) Ly M4,?_,?_⟩
  ·rintro Nc H4 ⟨Ly,M4,e1,e2,e3,e4⟩;exact⟨ds.length-(i+1),by omega,Ly,M4,rfl,K_,e1,e2,e3,e4⟩
  ·intro x H2 y;obtain⟨Mi,Lu,d,hd,dv⟩:=ok.yld i H' M' x H2 LC q_ s' K_ y;rw[KC K_]at hd;cases hd;refine⟨_,t_,M',_,dv,Lu,D_.mono Mi,p,λQa H5 LQ M5 NB MA NC q5=>?_⟩
   have L9:TM X.K H1 H5:=(LC.trans Mi).trans NC;exact⟨LQ,M5,_,E3,NB,MA,lk.mono (Mq.trans L9),q5,⟨λMh H6 J_ M6 LD L5 Lw q6=>⟨J_,M6,LD,L5,L9.trans Lw,q6⟩,λv H6 d6 M6 Ot LD Lw q6=>er.rt v H6 d6 M6 Ot LD (Mq.trans (L9.trans Lw)) q6,
    λMh H6 J_ M6 LD L5 Lw q6=>er.nx Mh H6 J_ M6 LD L5 (Mq.trans (L9.trans Lw)) q6,λMh H6 J_ M6 LD L5 Lw q6=>⟨J_,M6,LD,L5,L9.trans Lw,q6⟩⟩⟩
 ·have e:i=ds.length:=by omega
  subst e;rw[List.drop_length]at p;exact .inl ⟨ok.stop H' M' LC q_ p.1,er.nx l_ H' t_ M' q_ D_ (Mq.trans LC) p.2⟩
theorem ya(hp:PassesOwn (model X.prog X.w) X.A X.env X.xe)(hc:PT X c (cu X.K cls E2 tA))(hb:PSs X body (bH X.K cls E2 t)) :
  PS X (.While c body [] pos) (bH X.K cls E2 λD E Z M=>∃P:Nat->St3->MH->Prop,(∃m,P m Z M)/\∀m Z M,P m Z M->tA Z M (λb M1=>if b=true then
   t {D with nx:=λl_ M'=>∃m',m' < m/\P m' l_ M',ct:=λl_ M'=>∃m',m' < m/\P m' l_ M',bk:=D.nx} E Z M1 else D.nx Z M1) (E Z)):=by
 refine (vV hp hc hb).imp λD2 Z H k_=>ex9 k_ λh_ M D3 E3 rm ds lk h er=>?_
 obtain⟨P,⟨m0,p0⟩,step⟩:=h;refine⟨λm l_ H'=>∃t_ M',RelM X.K M' H'/\DenS X.K H' t_ l_/\TM X.K H H'/\P m t_ M',⟨m0,h_,M,rm,ds,.refl _,p0⟩,?_⟩
 rintro m l_ H' ⟨t_,M',q_,D_,LC,p⟩;refine jx q_ D_ ((lk.mono LC).at D_) (step m t_ M' p) λb H1 M1 n_ Mq q=>?_
 cases b with
 |true=>
  refine⟨λNc H4=>∃Ly M4 m',m' < m/\RelM X.K M4 H4/\DenS X.K H4 Ly Nc/\TM X.K H H4/\P m' Ly M4,?_,?_⟩
  ·rintro Nc H4 ⟨Ly,M4,m',hm,e1,e2,e3,e4⟩;exact⟨m',hm,Ly,M4,e1,e2,e3,e4⟩
  ·have L9:=LC.trans Mq;exact⟨t_,M1,_,E3,n_,D_.mono Mq,lk.mono L9,q,⟨λMh H6 J_ M6 LD L5 Lw ⟨m',hm,q6⟩=>⟨J_,M6,m',hm,LD,L5,L9.trans Lw,q6⟩,λv H6 d6 M6 Ot LD Lw q6=>er.rt v H6 d6 M6 Ot LD (L9.trans Lw) q6,
    λMh H6 J_ M6 LD L5 Lw q6=>er.nx Mh H6 J_ M6 LD L5 (L9.trans Lw) q6,λMh H6 J_ M6 LD L5 Lw ⟨m',hm,q6⟩=>⟨J_,M6,m',hm,LD,L5,L9.trans Lw,q6⟩⟩⟩
 |false=>
  exact er.nx l_ H1 t_ M1 n_ (D_.mono Mq) (LC.trans Mq) q
theorem Fh{o_ p_:Pos}(ho:PE X o (low X.K cls E2 to))(he:PE X e (low X.K cls E2 te))(x_:attributeBase o "append" X.env (eval o X.env)=eval o X.env)
  (y_:(o_.endLine == p_.line)=true) (hs:starEach [e] X.env=[(false,eval e X.env)]) :
  PS X (.Expr (.Call (.Attribute o "append" o_) [e] [] p_) pos) (bH X.K cls E2 λD E Z M=>to Z M (λx M1=>match x with
  |.ref a=>match M1 a with
   |some (.lst _)=>te Z M1 (λy M2=>match M2 a with
    |some (.lst ds)=>ds.length<sizeLine/\D.nx Z (put M2 a (.lst (ds++[y])))
    |_=>False) (E Z)
   |_=>False
  |_=>False) (E Z)):=by
 have hm:MtR X "list.append" rAppend:=lU;have h1:=FC PySem.F.plainAttrs_list PySem.F.slot_list_append PySem.F.type_list_append hm ho (cv he pa_nil hs) x_ (by rw[hs];rfl) y_ hs (by rfl)
 refine (sk h1 (by rfl)).imp λD2 Z H k_=>ex9 k_ λh_ M D3 E3 rm ds lk h er=>?_
 refine bc rm ds (lk.at ds) h λv H1 x M1 dx n_ t1 q1=>?_
 split at q1
 ·rename_i a;cases (show v=.ref a from dx);split at q1
  ·rename_i Mz e0;obtain⟨Te,f0,_⟩:=n_ a _ e0;refine⟨.inl ⟨rfl,Te,.of f0⟩,bc n_ (ds.mono t1) ((lk.mono t1).at (ds.mono t1)) q1 λu H2 y M2 dy Lu t2 q2=>?_⟩
   split at q2
   ·rename_i Tf e1;obtain⟨vs,f1,dl⟩:=Lu a _ e1;refine⟨a,vs,u,rfl,rfl,f1,by rw[<-dl.length];exact q2.1,?_⟩
    have tw:TM X.K H2 (upd H2 a (.lst (vs++[u]))):=.put f1 (λ_=>λz=>nomatch z) λ_ _=>λz=>nomatch z
    exact er.nx _ _ _ _ (Lu.write (u:=.lst (Tf++[y])) f1 (λ_=>λz=>nomatch z) (λ_ _=>λz=>nomatch z) ⟨_,ai,(dl.append (.one dy)).mono tw⟩) (((ds.mono t1).mono t2).mono tw) ((t1.trans t2).trans tw) q2.2
   ·exact q2.elim
  ·exact q1.elim
 ·exact q1.elim
end
abbrev no2:St->XK:=λ_ _ _ _=>False
theorem oE{K:Lr}(h:DenS K H h_ Z):DenS K H (ax js h_) (jv js Z):=by
 refine⟨by simp[ax,jv],λi d e=>?_⟩
 unfold ax at e;unfold jv;rw[Kt]at e ⊢;cases q:js[i]? with
 |none=>rw[q]at e;cases e
 |some o=>
  rw[q]at e;cases o with
  |none=>cases e
  |some j=>
   rw[Option.map_some,Option.bind_some]at e;cases z:h_[j]? with
   |none=>rw[z]at e;cases e
   |some y=>
    rw[z]at e;have e:y=some d:=KA e;subst e;obtain⟨v,e1,e2⟩:=h.2 j d z;refine⟨v,?_,e2⟩;rw[Option.map_some,Option.bind_some,e1];rfl
section
variable {X:Cx}
theorem kQ(rm:RelM X.K M H)(Mz:DenS X.K H h_ Z)(lk:LkE X.K cls H E3 (E2 Z))
  (h:wi h_ M (λds S M1=>∀p,M1 p=none->bM g (λZ M Q=>tt Z M Q (λ_ _=>False)) (λZ M Q=>te Z M Q (λ_ _=>False)) S p Q ds [] (ax js h_) (put M1 p (.lst []))) E3) (b_:Back X.K H Q Q2) :
  sW js (lm X.K cls E2 wi) (k7 X.K g) (cu X.K cls no2 tt) (low X.K cls no2 te) Z H Q2:=by
 refine⟨h_,M,_,E3,rm,Mz,lk,h,λJ H1 ds S M1 ok n_ Mq hP p hp=>?_⟩
 have hP:=hP p (n_.fresh hp);refine⟨λi m L0 H'=>∃Lz ys M',m=ds.length-i/\i<=ds.length/\RelM X.K M' H'/\DenS X.K H' Lz L0/\TM X.K H1 H'/\bM g (λZ M Q=>tt Z M Q (λ_ _=>False)) (λZ M Q=>te Z M Q (λ_ _=>False)) S p Q (ds.drop i) ys Lz M',
  ⟨ds.length,_,[],_,by simp,Nat.zero_le _,n_.lay (u:=.lst []) hp ⟨[],ai,.nil⟩,(oE Mz).mono (Mq.trans (.new hp)),.new hp,hP⟩,?_⟩
 rintro i m L0 H' ⟨Lz,ys,M',rfl,Nk,q_,D_,LC,q⟩;by_cases K_:i<ds.length
 ·rw[List.drop_eq_getElem_cons K_]at q;obtain⟨s',hl,q⟩:=q;refine .inr ⟨ok.go i H' M' LC q_ s' K_,λx H2 y=>?_⟩
  obtain⟨Mi,Lu,d,hd,dv⟩:=ok.yld i H' M' x H2 LC q_ s' K_ y;rw[KC K_]at hd;cases hd;refine⟨_,Lz,M',_,dv,Lu,D_.mono Mi,q,λQa H5 LQ M5 NB MA NC q5=>?_⟩
  refine⟨LQ,M5,_,_,NB,MA,LkE.no,q5,λb H6 M6 LD Lw q6=>?_⟩
  have L9:TM X.K H1 H6:=((LC.trans Mi).trans NC).trans Lw;cases b with
  |true=>
   dsimp only;refine⟨LQ,M6,_,_,LD,MA.mono Lw,LkE.no,q6,λv H7 y M7 dy Pn Po ⟨e7,q7⟩=>?_⟩
   obtain⟨vs,f7,dl⟩:=Pn p _ e7;have tw:TM X.K H7 (upd H7 p (.lst (vs++[v]))):=.put f7 (λ_=>λz=>nomatch z) λ_ _=>λz=>nomatch z
   exact⟨vs,f7,by rw[<-dl.length];exact hl,ds.length-(i+1),by omega,LQ,ys++[y],_,rfl,K_,Pn.write (u:=.lst (ys++[y])) f7 (λ_=>λz=>nomatch z) (λ_ _=>λz=>nomatch z) ⟨_,ai,(dl.append (.one dy)).mono tw⟩,((MA.mono Lw).mono Po).mono tw,(L9.trans Po).trans tw,q7⟩
  |false=>
   dsimp only;exact⟨ds.length-(i+1),by omega,LQ,ys,M6,rfl,K_,LD,MA.mono Lw,L9,q6⟩
 ·have e:i=ds.length:=by omega
  subst e;rw[List.drop_length]at q;exact .inl ⟨ok.stop H' M' LC q_ q.1,b_ _ _ _ _ gV q_ (Mq.trans LC) q.2⟩
variable (j_:dg N js scope X.env.scope X.N=true) (B_:X.calm=true) (hi:PI X tg iter (lm X.K cls E2 wi))
  (hg:∀C s2 H2 fp pn,PG (compCx X scope C N s2 H2 fp pn) tg (k7 X.K g)) (ht:∀C s2 H2 fp pn,PIf (compCx X scope C N s2 H2 fp pn) ifs (cu X.K cls no2 tt)) (he:∀C s2 H2 fp pn,PE (compCx X scope C N s2 H2 fp pn) A_ (low X.K cls no2 te))
  (hs:∀x,foldedSetIterable iter X.env x=pure x)
include j_ B_ hi hg ht he hs
theorem sJ:PE X (.ListComp A_ [⟨tg,iter,ifs,0⟩] scope pos) (low X.K cls E2 λZ M Q E=>wi Z M (λds S M1=>∀p,M1 p=none->bM g (λZ M Q=>tt Z M Q (λ_ _=>False)) (λZ M Q=>te Z M Q (λ_ _=>False)) S p Q ds [] (ax js Z) (put M1 p (.lst []))) E):=
 (rS j_ B_ hi hg ht he hs).imp λZ H Q2 k_=>ex9 k_ λh_ M Q E3 rm ds lk h b_=>kQ rm ds lk h b_
theorem Cb(fz:Bool):PE X (.ListComp A_ [⟨tg,iter,ifs,0⟩] scope pos) (low X.K cls E2 λZ M Q E=>wi Z M (λds S M1=>∀p,M1 p=none->bM g (λZ M Q=>tt Z M Q (λ_ _=>False)) (λZ M Q=>te Z M Q (λ_ _=>False)) S p (if fz=true then j9 Q else Q) ds [] (ax js Z) (put M1 p (.lst []))) E):=by
 cases fz with
 |false=>exact sJ j_ B_ hi hg ht he hs
 |true=>exact CL (sJ j_ B_ hi hg ht he hs)
theorem qA{L3:Pos}(hN:X.N.Nodup)(hy:X.N[i]?=some y)(hl:X.env.scope.names.lookup y=some .local)(Ob:swapsWith (.ListComp A_ [⟨tg,iter,ifs,0⟩] scope pos) (some (.Name y py)) L3.line X.env=pure true)(fz:Bool) :
  PS X (.Assign [.Name y py] (.ListComp A_ [⟨tg,iter,ifs,0⟩] scope pos) L3) (bH X.K cls E2 λD E Z M=>wi Z M (λds S M1=>∀p,M1 p=none->bM g (λZ M Q=>tt Z M Q (λ_ _=>False)) (λZ M Q=>te Z M Q (λ_ _=>False)) S p (if fz=true then j9 (λx M1=>D.nx (Z.set i (some x)) M1) else (λx M1=>D.nx (Z.set i (some x)) M1)) ds [] (ax js Z) (put M1 p (.lst []))) (E Z)):=by
 cases fz with
 |false=>exact (kg hN hy hl j_ B_ hi hg ht he hs Ob).imp λD2 Z H k_=>ex9 k_ λh_ M D3 E3 rm ds lk h er=>kQ rm ds (lk.at ds) h λv H1 x M1 dx n_ t1 q1=>er.nx _ _ _ _ n_ ((ds.mono t1).set dx) t1 q1
 |true=>
  refine λa_ s Z H D2 I k_=>ex9 k_ λh_ M D3 E3 rm ds lk h er=>?_
  refine thn (kg hN hy hl j_ B_ hi hg ht he hs Ob a_ s Z H {D2 with nx:=λl_ H'=>∃x v M1,l_=Z.set i (some v)/\Den X.K H' x v/\RelM X.K M1 H'/\TM X.K H H'/\j9 (λx M1=>D3.nx (h_.set i (some x)) M1) x M1} I
   (kQ rm ds (lk.at ds) h λv H1 x M1 dx n_ t1 q1=>⟨x,v,M1,rfl,dx,n_,t1,q1⟩)) λfl s1 q=>?_
  cases fl with
  |next=>
   obtain⟨l_,H',I1,x,v,M1,rfl,dx,n_,t1,q1⟩:=q;unfold j9 at q1;split at q1
   ·rename_i a;cases (show v=.ref a from dx);split at q1
    ·rename_i es e;obtain⟨vs,e1,dl⟩:=n_ a _ e;obtain⟨o,I2⟩:=I1.freeze e1;exact⟨_,_,I2,er.nx _ _ _ _ (n_.freeze e1) ((ds.mono (t1.trans (.freeze e1))).set (f8 dl e1)) (t1.trans (.freeze e1)) q1⟩
    ·exact q1.elim
   ·exact q1.elim
  |brk=>exact q
  |cont=>exact q
  |ret u=>exact q
end
section
variable {X:Cx}{cls:Nat->Addr}{E2:St->XK}{c n:Str}{k j ne:Nat}{sub:Nat->Nat->Bool}{b0:Stmt}{O8:List Stmt}{np Qz pos:Pos}{aU:List ExceptHandler}{tb:Ends3->(St3->XN)->St3->MH->Prop}{tr:XE->Ends3->St3->MH->Prop}
end
section
variable {X:Cx}{s:Shared}{m_:List (Key×V)}{o:Obj}
theorem Inv.rehang(I:Inv X a_ Z H s)(e:H a=some u)(n1:∀xs,u≠.tup xs)(n2:∀ps,u≠.Ng ps)(n3:∀b,u≠.own b)(n4:∀ob v,u≠.u_ ob v)(ok:ObjOk X.prog X.w H s.heap a u'):Inv X a_ Z (upd H a u') s:=by
 have ne:∀b,H b=none->b≠a:=λb z q=>by rw[q,e]at z;cases z
 have own:∀c b,H c=some (.own b)->c≠a:=λc b z q=>by rw[q,e]at z;cases z;exact n3 _ rfl
 have tup:∀c xs,H c=some (.tup xs)->c≠a:=λc b z q=>by rw[q,e]at z;cases z;exact n1 _ rfl
 refine⟨I.ok,I.os,I.bare,⟨I.base.keep,I.base.slot,λb ob q n hx=>?_,I.base.there,λb ys q=>?_,λb ob v q=>?_,λb ps q=>?_⟩,I.loc,I.cell,?_,λx c z=>?_,λp hp=>?_,λb v q=>?_,I.len⟩
 ·have z:=I.base.free b ob q n hx;rw[ah (ne b z)];exact z
 ·have z:=I.base.tups b ys q;rw[ah (tup _ _ z)];exact z
 ·have z:=I.base.LG b ob v q;rw[ah (λw=>by rw[w,e]at z;cases z;exact n4 _ _ rfl)];exact z
 ·obtain⟨Ml,z⟩:=I.base.LP b ps q;exact⟨Ml,by rw[ah (λw=>by rw[w,e]at z;cases z;exact n2 _ rfl)];exact z⟩
 ·rw[ah (ne _ I.free)];exact I.free
 ·rw[ah (ne _ (I.freeC x c z))];exact I.freeC x c z
 ·obtain⟨e1,e2,e3⟩:=I.pin p hp;exact⟨e1,by rw[ah (ne _ e2)];exact e2,e3⟩
 ·by_cases w:b=a
  ·subst w;rw[ai]at q;cases q;exact ok.stay (λ_ _ _ z=>z) (λc z=>by rw[ah (own _ _ z)];exact z) λc xs z=>by rw[ah (tup _ _ z)];exact z
  ·rw[ah w]at q;exact (I.j_ b v q).stay (λ_ _ _ z=>z) (λc z=>by rw[ah (own _ _ z)];exact z) λc xs z=>by rw[ah (tup _ _ z)];exact z
theorem xq{h:Heap}(ok:ObjOk P w H h a (.dK m_))(g:h.get? a=some o):DOb o (m_.map λx=>(kV x.1,x.2))/\o.ExactDict/\(a == sysModules)=false:=by
 obtain⟨z,nm,vs,kv,o',es,ep,g',xd,hd,ko,pr,_⟩:=ok;cases g.symm.trans g';have key:∀{l:List DictEntry}{vs:List (Key×Value)}{m_:List (Key×V)},Pairs (aB P w) l vs->KV m_ vs->l.length=m_.length/\∀(i:Nat) p e,(m_.map λx=>(kV x.1,x.2))[i]?=some p->l[i]?=some e->RelV p.1 e.key/\RelV p.2 e.val:=by
  intro l vs m_ pr
  induction pr generalizing m_ with
  |nil=>
   intro kv;cases kv;exact⟨rfl,λi p e h=>by simp at h⟩
  |@cons e q es qs h1 h2 _ ih=>
   intro kv;cases kv with
   |@cons p _ ps _ hp t=>
    obtain⟨l1,l2⟩:=ih t;refine⟨by rw[Ky,Ky,l1],λi p' e' h3 h4=>?_⟩
    cases i with
    |zero=>
     simp at h3 h4;subst h3 h4;refine⟨?_,by rw[h2];exact hp.2⟩
     rw[qv,<-hp.1]at h1;rcases aF h1 with ⟨i,t,e1,e2⟩|⟨x,t,e1,e2⟩
     ·rw[e1,e2];exact⟨t,rfl⟩
     ·rw[e1,e2];exact⟨t,rfl⟩
    |succ i=>
     rw[Kn,List.getElem?_cons_succ]at h3;rw[List.getElem?_cons_succ]at h4;exact l2 i p' e' h3 h4
 obtain⟨l1,l2⟩:=key pr kv;exact⟨⟨es,ep,xd,hd,by rw[Kr,<-l1,Array.length_toList],λi p e h1 h2=>l2 i p e h1 (by rw[Array.getElem?_toList];exact h2)⟩,xd,nm⟩
end
def Itg(G:Hp->Prop)(ps:List (V×V)):It:=
 ⟨λi H=>G H/\i<ps.length,λi H v H'=>∃p,v=.ref p/\H p=none/\∃kv,ps[i]?=some kv/\H'=upd H p (.tup [kv.1,kv.2]),λi H=>G H/\ps.length<=i⟩
theorem oF{K:Lr}(d it:Addr){o:Obj}{ps:List (V×V)}{es:Array DictEntry}(hd:o.data=.dict es ep)(hz:es.size=ps.length)
  (hr:∀(i:Nat) p e,ps[i]?=some p->es[i]?=some e->RelV p.1 e.key/\RelV p.2 e.val) (Mm:d≠it) (hG:∀(X:Cx) (a_:List (Addr×Obj)) (Z:St)(H:Hp)(s:Shared),Inv X a_ Z H s->G H->s.heap.get? d=some o):Turn P w K (.Tuple LA x1 pos) (Itg G ps) [it] it (λi h=>∃a1 a2,IsItemIter h it d i es.size ep a1 a2) where
 mem:=by simp
 obj:=λi h st b hb=>by
  obtain⟨a1,a2,h1⟩:=st;have e':b=it:=by simpa using hb
  subst e';exact⟨_,h1,λv z=>by
   have z':Data.fields _=Data.cell v:=z;cases z'⟩
 keep:=λi h h' st k=>let ⟨a1,a2,h1⟩:=st;⟨a1,a2,k it (by simp) _ h1⟩
 item:=by
  intro X hP hw hK hc i a_ s Z H E I hf st hg;subst hP hw hK;obtain⟨hu,hi⟩:=hg;obtain⟨a1,a2,G_⟩:=st;have fi:=hf it (by simp)
  have Nk:it<s.heap.objs.size:=Kw G_;have he:es[i]?=some es[i]:=by simp[show i<es.size by omega]
  have Nb:ps[i]?=some ps[i]:=by simp[hi]
  obtain⟨rk,rv⟩:=hr i _ _ Nb he;refine j0 G_ (hG _ _ _ _ _ I hu) hd he λh' QU ht k=>?_
  have hp:H s.heap.objs.size=none:=I.j_.fresh (Km _);have I1:Inv X a_ Z (upd H s.heap.objs.size (.tup [ps[i].1,ps[i].2])) {s with heap:=s.heap.push {cls:=.type "tuple",data:=.seq #[es[i].key,es[i].val]},toks:=s.toks}:=
   I.laid (λb o e1=>Kk _ e1) (Km _) ⟨by show 2<=sizeLine;decide,[es[i].key,es[i].val],.cons rk (.cons rv .nil),⟨_,Ko _ rfl,rfl,_,rfl⟩⟩
  have OM:fK X a_ (upd H s.heap.objs.size (.tup [ps[i].1,ps[i].2])) it:=⟨by rw[ah (KH Nk)];exact fi.1,fi.2⟩
  obtain⟨f0,f1,f2,f3,f4,f5⟩:=OM;have I2:Inv X a_ Z (upd H s.heap.objs.size (.tup [ps[i].1,ps[i].2])) {s with heap:=h',toks:=s.toks}:=I1.turned (t':=s.toks) (λb o hb e1=>by
   by_cases Oo:b=s.heap.objs.size
   ·subst Oo;have e2:(s.heap.push {cls:=.type "tuple",data:=.seq #[es[i].key,es[i].val]}).get? s.heap.objs.size=some {cls:=.type "tuple",data:=.seq #[es[i].key,es[i].val]}:=Ko _ rfl;rw[e2]at e1;cases e1;exact ht
   ·exact k b o hb ((Heap.get?_push_ne _ _ _ Oo).symm.trans e1)) f0 f1 f3 f4 f5
  refine⟨.ref s.heap.objs.size,rfl,wpAny_letOwnedTupleGo_items (s:={s with heap:=h'}) QU λh2 Nl L8=>?_⟩
  have I3:Inv X a_ Z (upd H s.heap.objs.size (.tup [ps[i].1,ps[i].2])) {s with heap:=h2,toks:=s.toks}:=I2.turned (t':=s.toks) (λb o hb e1=>(L8.2 b hb).trans e1) f0 f1 f3 f4 f5
  refine⟨.ref s.heap.objs.size,_,I3,rfl,⟨_,rfl,hp,_,Nb,rfl⟩,⟨_,_,Nl⟩,λb hb=>?_⟩
  have e':b=it:=by simpa using hb
  subst e';exact f0
 done:=by
  intro X hP hw hK hc i a_ s Z H E I hf st hg;subst hP hw hK;obtain⟨hu,hi⟩:=hg;obtain⟨a1,a2,G_⟩:=st;obtain⟨f0,f1,f2,f3,f4,f5⟩:=hf it (by simp)
  exact jw (I.ok.hd hc) G_ (hG _ _ _ _ _ I hu) hd (by omega) λh' eb=>⟨rfl,I.turned (t':=s.toks) (λb o hb e=>eb b o hb e) f0 f1 f3 f4 f5⟩
 self:=λ_ _ _ _ _ st h=>let ⟨_,_,G_⟩:=st;PySem.W.kcp_self G_ h
section
variable {X:Cx}{o_ p_:Pos}
theorem A5{K:Lr}(k:Key):Den K H (kD k) (kV k):=by
 cases k<;>rfl
end
end L2
namespace L2
open PySem PySem.Spec PyProof.Rows PySem.W
def Itk(d:Addr)(o:Obj)(vs:List V):It:=
 ⟨λi H=>(∃u,H d=some (.u_ o u))/\i<vs.length,λi H v H'=>H'=H/\vs[i]?=some v,λi H=>(∃u,H d=some (.u_ o u))/\vs.length<=i⟩
theorem ub{K:Lr}(d it:Addr){o:Obj}{vs:List V}{es:Array DictEntry}(hd:o.data=.dict es ep)(hz:es.size=vs.length)
  (hr:∀(i:Nat) v e,vs[i]?=some v->es[i]?=some e->RelV v e.key) (Mm:d≠it):Turn P w K tg (Itk d o vs) [it] it (λi h=>h.IsKeyIter it d i es.size ep) where
 mem:=by simp
 obj:=λi h st b hb=>by
  obtain⟨o1,h1,h2,h3⟩:=st;have e':b=it:=by simpa using hb
  subst e';exact⟨_,h1,λv z=>by rw[h3]at z;cases z⟩
 keep:=λi h h' st k=>st.at λo e=>k it (by simp) o e
 item:=by
  intro X hP hw hK hc i a_ s Z H E I hf st hg;subst hP hw hK;obtain⟨⟨u,hu⟩,hi⟩:=hg;have he:es[i]?=some es[i]:=by simp[show i<es.size by omega]
  have Nb:vs[i]?=some vs[i]:=by simp[hi]
  have rk:=hr i _ _ Nb he;obtain⟨f0,f1,f2,f3,f4,f5⟩:=hf it (by simp)
  refine jN st (I.frzGet hu) hd he λh' LY NS=>?_
  have I2:Inv X a_ Z H {s with heap:=h',toks:=s.toks}:=I.turned (t':=s.toks) (λb o hb e1=>NS.extBut b o hb e1) f0 f1 f3 f4 f5
  refine⟨_,rfl,letGo_keyiter (s':={s with heap:=h'}) LY ?_⟩
  refine⟨vs[i],H,I2,rk,⟨rfl,Nb⟩,LY,λb hb=>?_⟩
  have e':b=it:=by simpa using hb
  subst e';exact f0
 done:=by
  intro X hP hw hK hc i a_ s Z H E I hf st hg;subst hP hw hK;obtain⟨⟨u,hu⟩,hi⟩:=hg;obtain⟨f0,f1,f2,f3,f4,f5⟩:=hf it (by simp)
  exact kT (I.ok.hd hc) st (I.frzGet hu) hd (by omega) λh' eb=>⟨rfl,I.turned (t':=s.toks) (λb o hb e=>eb b o hb e) f0 f1 f3 f4 f5⟩
 self:=λ_ _ _ _ _ st h=>wpAny_pyIter_keyiter st h
section
variable {X:Cx}{o_ p_:Pos}
theorem yF{K:Lr}{xs:List (List Int×Addr×Value)}{ks:List (List Int)}(e:H0 d=some (.u_ ob (.ext (tabT d xs))))(z:TabOk K H0 d ks xs vs):ItOk K H0 (Itk d ob (xs.map λx=>V.ref x.2.1)) (ks.map bR) (λ_=>True):=by
 have l3:xs.length=ks.length:=by rw[<-z.kx];simp
 refine⟨λi H M t rm s hi=>⟨⟨_,t.g _ _ _ e⟩,by simp at hi ⊢;omega⟩,λi H M x H' t rm s hi y=>?_,λH M t rm s=>⟨⟨_,t.g _ _ _ e⟩,by simp;omega⟩⟩
 obtain⟨rfl,hv⟩:=y;rw[Kt]at hv;cases hx:xs[i]? with
 |none=>rw[hx]at hv;cases hv
 |some x'=>
  rw[hx]at hv;cases hv;have hk:ks[i]?=some x'.1:=by rw[<-z.kx,Kt,hx];rfl
  have sq:=t.t _ _ (z.at_ x' (KW hx));exact⟨.refl _,rm,bR x'.1,by rw[Kt,hk];rfl,nX sq (kX _)⟩
end
section
variable {X:Cx}{o_ p_:Pos}
theorem tX{K:Lr}{ks:List Key}{vs:List V}(e:H0 d=some (.u_ ob (.dK (ks.zip vs))))(hl:ks.length=vs.length)(dl:DenL K H0 ds vs):ItOk K H0 (Itd d ob ((ks.zip vs).map λx=>(kV x.1,x.2))) (gz ks ds) (λ_=>True):=by
 have l1:=dl.length;have lp:((ks.zip vs).map λx=>(kV x.1,x.2)).length=(gz ks ds).length:=by simp[gz];omega
 refine⟨λi H M t rm s hi=>⟨⟨_,t.g _ _ _ e⟩,by omega⟩,λi H M x H' t rm s hi y=>?_,λH M t rm s=>⟨⟨_,t.g _ _ _ e⟩,by omega⟩⟩
 obtain⟨q,rfl,hq,kv,LL,rfl⟩:=y;rw[Kt]at LL;cases hx:(ks.zip vs)[i]? with
 |none=>rw[hx]at LL;cases LL
 |some x=>
  rw[hx]at LL;obtain rfl:(kV x.1,x.2)=kv:=by simpa using LL
  obtain⟨a1,a2⟩:=List.getElem?_zip_eq_some.mp hx;obtain⟨dd,e1,e2⟩:=(dl.mono t).get' a2;refine⟨.new hq,rm.grow hq,.tup [kD x.1,dd],?_,⟨q,[kV x.1,x.2],rfl,.inl (.inl ai),⟨_,_,rfl,A5 _,_,_,rfl,e2.mono (.new hq),rfl⟩⟩⟩;have ez:(ks.zip ds)[i]?=some (x.1,dd):=List.getElem?_zip_eq_some.mpr ⟨a1,e1⟩;unfold gz;rw[Kt,ez];rfl
theorem yC(ho:PE X o (low X.K cls E2 to))(x_:attributeBase o "items" X.env (eval o X.env)=eval o X.env)(y_:(o_.endLine == p_.line)=true) :
  PI X (.Tuple LA x1 pt) (.Call (.Attribute o "items" o_) [] [] p_) (lm X.K cls E2 λZ M R E=>to Z M (λx M1=>match x with
  |.I_ ks ds=>R (aw ks ds) (λ_=>True) M1
  |.Mo ks ds=>R (gz ks ds) (λ_=>True) M1
  |_=>False) E):=
 (uV ho x_ y_).imp λZ H R2 k_=>ex9 k_ λh_ M R E3 rm ds lk h k=>bc rm ds lk h λv H1 x M1 dx n_ t1 q1=>by
  cases x with
  |I_ ks es=>
   obtain⟨d,vs,ob,xs,rfl,e,z,dl⟩:=dx;refine⟨d,ob,_,prs xs vs,rfl,e,λ_ _ _ _ I e=>⟨(sR I e z.vx).1,z.no⟩,λp hp=>?_⟩
   have t2:TM X.K H1 (upd H1 p (.ext λh=>h.IsItemsView p d)):=.new hp
   exact k _ _ _ _ _ (wP (t2.g _ _ _ e) (z.grow t2) (dl.mono t2)) (n_.grow hp) (t1.trans t2) q1
  |Mo ks es=>
   obtain⟨d,vs,ob,rfl,e,hl,dl⟩:=dx;refine⟨d,ob,_,(ks.zip vs).map λx=>(kV x.1,x.2),rfl,e,λ_ _ _ _ I e=>⟨(xq (I.j_ _ _ e).2 (I.j_ _ _ e).1).1,(xq (I.j_ _ _ e).2 (I.j_ _ _ e).1).2.2⟩,λp hp=>?_⟩
   have t2:TM X.K H1 (upd H1 p (.ext λh=>h.IsItemsView p d)):=.new hp
   exact k _ _ _ _ _ (tX (t2.g _ _ _ e) hl (dl.mono t2)) (n_.grow hp) (t1.trans t2) q1
  |_=>exact q1.elim
end
end L2
namespace L2
open PySem PySem.Spec PyProof.Rows
section
variable {X:Cx}{s:Shared}
def wS(f:Bool)(o:Obj)(xs:List (List Int×Addr×Value)):Prop:=∃es ep,o.ExactDict/\o.data=.dict es ep/\es.toList=xs.map λx=>(⟨kH f x.1,.ref x.2.1,x.2.2⟩:DictEntry)
abbrev tabO:=wS false
abbrev phO(a:Addr)(o:Obj):Heap->Prop:=λh=>h.get? a=some o
theorem Inv.stillT{f:Bool}(I:Inv X a_ Z H s)(e:H a=some (.ext (cM f a xs))):∃o,wS f o xs/\Inv X a_ Z (upd H a (.ext (phO a o))) s/\s.heap.get? a=some o:=by
 obtain⟨⟨o,es,ep,g,r1,r2,r3⟩,_⟩:=I.j_ a _ e;exact⟨o,⟨es,ep,r1,r2,r3⟩,I.rehang e (λ_ z=>nomatch z) (λ_ z=>nomatch z) (λ_ z=>nomatch z) (λ_ _ z=>nomatch z) ⟨g,⟨o,g⟩,λh1 h2 k1 k=>k _ k1⟩,g⟩
theorem Inv.movesT{f:Bool}(I:Inv X a_ Z H s)(t:wS f o xs)(e:H a=some (.ext (phO a o))):Inv X a_ Z (upd H a (.ext (cM f a xs))) s:=by
 obtain⟨g,_⟩:=I.j_ a _ e;obtain⟨es,ep,r1,r2,r3⟩:=t;exact I.rehang e (λ_ z=>nomatch z) (λ_ z=>nomatch z) (λ_ z=>nomatch z) (λ_ _ z=>nomatch z) ⟨⟨o,es,ep,g,r1,r2,r3⟩,⟨o,g⟩,λh1 h2 ⟨o',Nq,OV,q,r⟩ k=>⟨o',Nq,OV,k _ q,r⟩⟩
end
def jS(xs:List (List Int×Addr×Value))(vs:List V):List (V×V):=(xs.zip vs).map λp=>(.ref p.1.2.1,p.2)
def xQ(f:Bool)(X:Cx)(t2:TE):TI:=λZ H R=>t2 Z H λv H1=>∃d xs vs,v=.ref d/\H1 d=some (.ext (cM f d xs))/\(d == sysModules)=false/\Vals vs (xs.map (·.2.2))/\∀ob p,wS f ob xs->H1 p=none->R (Itg (λH=>H d=some (.ext (phO d ob))) (jS xs vs)) (upd (upd H1 d (.ext (phO d ob))) p (.ext λh=>h.IsItemsView p d))
section
variable {X:Cx}{o_ p_:Pos}
theorem mj{f:Bool}(ho:PE X o t2)(x_:attributeBase o "items" X.env (eval o X.env)=eval o X.env)(y_:(o_.endLine == p_.line)=true):PI X (.Tuple LA x1 pt) (.Call (.Attribute o "items" o_) [] [] p_) (xQ f X t2):=by
 intro a_ s Z H R I h;refine wpAny_Call_method0_late x_ y_ (thn (ho a_ s Z H _ I h) λv s0 ⟨x,H1,I1,r1,d,xs,vs,e1,e3,nm,hv,q⟩=>?_)
 subst e1;cases r1;obtain⟨ob,tb,I2,go⟩:=I1.stillT e3;obtain⟨es,ep,xd,hd,he⟩:=id tb;have l1:es.size=xs.length:=by have:=congrArg List.length he;simpa using this
 have l2:vs.length=xs.length:=by have:=hv.length;simpa using this
 have hz:es.size=(jS xs vs).length:=by simp[jS];omega
 have hr:∀(i:Nat) p e,(jS xs vs)[i]?=some p->es[i]?=some e->RelV p.1 e.key/\RelV p.2 e.val:=λi p e h1 h2=>by
  unfold jS at h1;rw[Kt]at h1;cases hz:(xs.zip vs)[i]? with
  |none=>rw[hz]at h1;cases h1
  |some q=>
   rw[hz]at h1;have h1:(V.ref q.1.2.1,q.2)=p:=by simpa using h1
   obtain⟨a1,a2⟩:=List.getElem?_zip_eq_some.mp hz;have h3:es.toList[i]?=some e:=by simpa using h2
   rw[he,Kt,a1]at h3;cases h3;obtain⟨u,b1,b2⟩:=hv.get a2;rw[Kt,a1]at b1;cases b1;rw[<-h1];exact⟨rfl,b2⟩
 refine⟨"dict","dict.items",PySem.F.plainAttrs_dict,PySem.F.slot_dict_items,PySem.F.type_dict_items,⟨_,go,xd.1⟩,λa ha=>?_,Calls.callWith_builtin rfl (PySem.evalArgs_none ?_)⟩
 ·cases ha;exact⟨_,go,xd.2.1⟩
 have hp:H1 s0.heap.objs.size=none:=I1.j_.fresh (Km _);have Oq:d<s0.heap.objs.size:=Kw go;refine call_meetsIn PySem.F.slot_dict_items ⟨_,go,xd.1⟩ PySem.F.entry_dict_items (PySem.F.args_dict_items_1 _) (kO nm) ⟨⟨_,go,xd.1⟩,?_⟩;have q:=q ob s0.heap.objs.size tb hp;have I3:Inv X a_ Z (upd (upd H1 d (.ext (phO d ob))) s0.heap.objs.size (.ext λh=>h.IsItemsView s0.heap.objs.size d)) {s0 with heap:=s0.heap.push {cls:=.type "dict_items",data:=.fields #[.ref d]},toks:=s0.toks}:=
  I2.laid (λb o e1=>Kk _ e1) (Km _) ⟨⟨_,Ko _ rfl,rfl,rfl⟩,⟨_,Ko _ rfl⟩,λh1 h2 ⟨ov,g1,g2,g3⟩ k=>⟨ov,k _ g1,g2,g3⟩⟩
 have Ua:(s0.heap.push {cls:=.type "dict_items",data:=.fields #[.ref d]}).get? d=some ob:=Kk _ go;refine kE ⟨_,Ko _ rfl,rfl,rfl⟩ Ua hd ?_;have sz:(s0.heap.push {cls:=.type "dict_items",data:=.fields #[.ref d]}).objs.size=s0.heap.objs.size+1:=Heap.size_push ..;have hf:=I3.j_.fresh (Km (s0.heap.push {cls:=.type "dict_items",data:=.fields #[.ref d]}).objs.size);refine⟨_,[(s0.heap.push {cls:=.type "dict_items",data:=.fields #[.ref d]}).objs.size],_,_,_,rfl,I3.kept (λb o e=>Kk _ e),oF d (s0.heap.push {cls:=.type "dict_items",data:=.fields #[.ref d]}).objs.size hd hz hr (KH (by rw[sz];exact Nat.lt_succ_of_lt Oq)) (λX' MS l_ H' s' I' hG=>(show ObjOk X'.prog X'.w H' s'.heap d (.ext (phO d ob)) from I'.j_ d _ hG).1),⟨_,_,Ko _ rfl⟩,λb hb=>?_,q⟩
 have e':b=(s0.heap.push {cls:=.type "dict_items",data:=.fields #[.ref d]}).objs.size:=by simpa using hb
 subst e';exact I3.fpOk (Km _) hf
theorem AX(hp:PassesOwn (model X.prog X.w) X.A X.env X.xe)(B_:X.calm=true)(ho:PE X o (low X.K cls E2 to))(x_:attributeBase o "items" X.env (eval o X.env)=eval o X.env)(y_:(o_.endLine == p_.line)=true)(hg:PG X (.Tuple LA x1 pt) (k7 X.K g))(hb:PSs X body (bH X.K cls E2 t))
  (hs:∀x,foldedSetIterable (.Call (.Attribute o "items" o_) [] [] p_) X.env x=pure x) :
  PS X (.For (.Tuple LA x1 pt) (.Call (.Attribute o "items" o_) [] [] p_) body [] pos) (bH X.K cls E2 λD E Z M=>to Z M (λx M1=>lA x M1 λd ks es=>∀φ,cG g (λD Z M=>t D (λ_ _ _=>False) Z M) (λM=>M d=some (.w_ φ)) (iC d φ ks es D) (aw ks es) Z (put M1 d (.w_ φ))) (E Z)):=by
 refine λa_ s Z H D2 I k_=>ex9 k_ λh_ M D3 E3 rm Mz lk h er=>?_
 refine thn (qN hp B_ (mj (f:=false) ho x_ y_) hg hb hs a_ s Z H ⟨λl_ H'=>∃d ob xs,tabO ob xs/\H' d=some (.ext (phO d ob))/\D2.nx l_ (upd H' d (.ext (tabT d xs))),λv H'=>∃d ob xs,tabO ob xs/\H' d=some (.ext (phO d ob))/\D2.rt v (upd H' d (.ext (tabT d xs))),λl_ H'=>∃d ob xs,tabO ob xs/\H' d=some (.ext (phO d ob))/\D2.bk l_ (upd H' d (.ext (tabT d xs))),λl_ H'=>∃d ob xs,tabO ob xs/\H' d=some (.ext (phO d ob))/\D2.ct l_ (upd H' d (.ext (tabT d xs)))⟩ I ?_) λf s1 hf=>?_
 rotate_left
 ·cases f with
  |next=>
   obtain⟨l_,H',I',d,ob,xs,tb,e,q⟩:=hf;exact⟨l_,_,I'.movesT tb e,q⟩
  |brk=>
   obtain⟨l_,H',I',d,ob,xs,tb,e,q⟩:=hf;exact⟨l_,_,I'.movesT tb e,q⟩
  |cont=>
   obtain⟨l_,H',I',d,ob,xs,tb,e,q⟩:=hf;exact⟨l_,_,I'.movesT tb e,q⟩
  |ret u=>
   obtain⟨v,l_,H',I',r,d,ob,xs,tb,e,q⟩:=hf;exact⟨v,l_,_,I'.movesT tb e,r,q⟩
 refine bc rm Mz (lk.at Mz) h λv H1 x M1 dx n_ t1 q1=>?_
 unfold lA at q1;split at q1
 ·rename_i d;cases (show v=.ref d from dx);split at q1
  ·rename_i ks es em;obtain⟨vs,xs,ed,tk,dl⟩:=n_ d _ em;refine⟨d,xs,vs,rfl,ed,tk.no,tk.vx,λob p0 tb Nn=>?_⟩
   have np:p0≠d:=λz=>by rw[z,ed]at Nn;cases Nn
   have tA:TM X.K H1 (upd H1 d (.ext (phO d ob))):=.put ed (λ_ z=>nomatch z) λ_ _ z=>nomatch z
   have tB:TM X.K H1 (upd (upd H1 d (.ext (phO d ob))) p0 (.ext λh=>h.IsItemsView p0 d)):=tA.trans (.new (by rw[ah np];exact Nn))
   have Pp:RelM X.K (put M1 d (.w_ (phO d ob))) (upd H1 d (.ext (phO d ob))):=n_.write ed (λ_ z=>nomatch z) (λ_ _ z=>nomatch z) ai
   have QV:=Pp.grow (o:=.ext λh=>h.IsItemsView p0 d) (by rw[ah np];exact Nn)
   have q1:=q1 (phO d ob);have l1:=dl.length;have lx:xs.length=ks.length:=by rw[<-tk.kx];simp
   have lv:vs.length=xs.length:=by have:=tk.vx.length;simpa using this
   have li:(aw ks es).length=ks.length:=by simp[aw];omega
   have lp:(jS xs vs).length=ks.length:=by simp[jS];omega
   have bk:∀{M':MH}{H':Hp},RelM X.K M' H'->TM X.K H1 H'->M' d=some (.w_ (phO d ob))->H' d=some (.ext (phO d ob))/\RelM X.K (put M' d (.dt ks es)) (upd H' d (.ext (tabT d xs)))/\TM X.K H' (upd H' d (.ext (tabT d xs))):=λ{M' H'} q_ LC hM=>by
    have e:H' d=some (.ext (phO d ob)):=q_ d _ hM;have Mi:TM X.K H' (upd H' d (.ext (tabT d xs))):=.put e (λ_ z=>nomatch z) λ_ _ z=>nomatch z
    refine⟨e,q_.write e (λ_ z=>nomatch z) (λ_ _ z=>nomatch z) ⟨vs,xs,ai,⟨tk.kx,tk.nd,tk.sz,tk.no,tk.vx,λx hx=>Mi.t _ _ (LC.t _ _ (tk.at_ x hx))⟩,dl.mono (LC.trans Mi)⟩,Mi⟩
   have Ou:ER X.K (upd (upd H1 d (.ext (phO d ob))) p0 (.ext λh=>h.IsItemsView p0 d)) (iC d (phO d ob) ks es D3) ⟨λl_ H'=>∃d ob xs,tabO ob xs/\H' d=some (.ext (phO d ob))/\D2.nx l_ (upd H' d (.ext (tabT d xs))),λv H'=>∃d ob xs,tabO ob xs/\H' d=some (.ext (phO d ob))/\D2.rt v (upd H' d (.ext (tabT d xs))),λl_ H'=>∃d ob xs,tabO ob xs/\H' d=some (.ext (phO d ob))/\D2.bk l_ (upd H' d (.ext (tabT d xs))),λl_ H'=>∃d ob xs,tabO ob xs/\H' d=some (.ext (phO d ob))/\D2.ct l_ (upd H' d (.ext (tabT d xs)))⟩:=by
    refine⟨λl_ H' t_ M' r d' tm q=>?_,λv H' d' M' dv r tm q=>?_,λl_ H' t_ M' r d' tm q=>?_,λl_ H' t_ M' r d' tm q=>?_⟩
    ·obtain⟨z1,z2,z3⟩:=bk r (tB.trans tm) q.1;exact⟨d,ob,xs,tb,z1,er.nx _ _ _ _ z2 (d'.mono z3) (t1.trans ((tB.trans tm).trans z3)) q.2⟩
    ·obtain⟨z1,z2,z3⟩:=bk r (tB.trans tm) q.1;exact⟨d,ob,xs,tb,z1,er.rt _ _ _ _ (dv.mono z3) z2 (t1.trans ((tB.trans tm).trans z3)) q.2⟩
    ·obtain⟨z1,z2,z3⟩:=bk r (tB.trans tm) q.1;exact⟨d,ob,xs,tb,z1,er.bk _ _ _ _ z2 (d'.mono z3) (t1.trans ((tB.trans tm).trans z3)) q.2⟩
    ·obtain⟨z1,z2,z3⟩:=bk r (tB.trans tm) q.1;exact⟨d,ob,xs,tb,z1,er.ct _ _ _ _ z2 (d'.mono z3) (t1.trans ((tB.trans tm).trans z3)) q.2⟩
   generalize RR:upd (upd H1 d (.ext (phO d ob))) p0 (.ext λh=>h.IsItemsView p0 d)=H2 at *
   refine⟨λi m L0 H'=>∃Lz M',m=(aw ks es).length-i/\i<=(aw ks es).length/\RelM X.K M' H'/\DenS X.K H' Lz L0/\TM X.K H2 H'/\cG g (λD Z M=>t D (λ_ _ _=>False) Z M) (λM=>M d=some (.w_ (phO d ob))) (iC d (phO d ob) ks es D3) ((aw ks es).drop i) Lz M',
    ⟨_,_,_,rfl,Nat.zero_le _,QV,Mz.mono (t1.trans tB),.refl _,q1⟩,?_⟩
   rintro i m L0 H' ⟨Lz,M',rfl,Nk,q_,D_,LC,q⟩;by_cases K_:i<(aw ks es).length
   ·rw[List.drop_eq_getElem_cons K_]at q;obtain⟨s',q⟩:=q;refine .inr ⟨⟨q_ d _ s',by omega⟩,λNc H4=>∃Ly M4,RelM X.K M4 H4/\DenS X.K H4 Ly Nc/\TM X.K H2 H4/\cG g (λD Z M=>t D (λ_ _ _=>False) Z M) (λM=>M d=some (.w_ (phO d ob))) (iC d (phO d ob) ks es D3) ((aw ks es).drop (i+1)) Ly M4,?_,?_⟩
    ·rintro Nc H4 ⟨Ly,M4,e1,e2,e3,e4⟩;exact⟨(aw ks es).length-(i+1),by omega,Ly,M4,rfl,K_,e1,e2,e3,e4⟩
    ·intro x H3 y;obtain⟨pp,rfl,ND,kv,LL,rfl⟩:=y;have Mi:TM X.K H' (upd H' pp (.tup [kv.1,kv.2])):=.new ND;unfold jS at LL;rw[Kt]at LL;cases hz:(xs.zip vs)[i]? with
     |none=>rw[hz]at LL;cases LL
     |some kw=>
      rw[hz]at LL;have LL:(V.ref kw.1.2.1,kw.2)=kv:=by simpa using LL
      obtain⟨a1,a2⟩:=List.getElem?_zip_eq_some.mp hz;have L9:=tB.trans LC;obtain⟨dd,b1,b2⟩:=(dl.mono L9).get' a2;have hk:ks[i]?=some kw.1.1:=by rw[<-tk.kx,Kt,a1];rfl
      have ei:(aw ks es)[i]=.tup [.tup (kw.1.1.map D.int),dd]:=by
       have:(aw ks es)[i]?=some (.tup [.tup (kw.1.1.map D.int),dd]):=by
        have ez:(ks.zip es)[i]?=some (kw.1.1,dd):=List.getElem?_zip_eq_some.mpr ⟨hk,b1⟩;unfold aw;rw[Kt,ez];rfl
       rw[KC K_]at this;exact KA this
      have dv:Den X.K (upd H' pp (.tup [kv.1,kv.2])) ((aw ks es)[i]) (.ref pp):=by
       rw[ei,<-LL];exact⟨pp,[.ref kw.1.2.1,kw.2],rfl,.inl (.inl ai),⟨_,_,rfl,⟨kw.1.2.1,kw.1.1.map V.int,rfl,TM.t (.new ND) _ _ (L9.t _ _ (tk.at_ kw.1 (KW a1))),DenL.of_int⟩,_,_,rfl,b2.mono (.new ND),rfl⟩⟩
      refine⟨_,Lz,M',_,dv,q_.grow ND,D_.mono Mi,q,λQa H5 LQ M5 NB MA NC q5=>?_⟩
      have NF:TM X.K H2 H5:=(LC.trans Mi).trans NC;exact⟨LQ,M5,_,_,NB,MA,(λ_ _ _ _ _ _ _ _ h=>h.elim),q5,⟨λMh H6 J_ M6 LD L5 Lw q6=>⟨J_,M6,LD,L5,NF.trans Lw,q6⟩,λv H6 d6 M6 Ot LD Lw q6=>Ou.rt v H6 d6 M6 Ot LD (NF.trans Lw) q6,
       λMh H6 J_ M6 LD L5 Lw q6=>Ou.nx Mh H6 J_ M6 LD L5 (NF.trans Lw) q6,λMh H6 J_ M6 LD L5 Lw q6=>⟨J_,M6,LD,L5,NF.trans Lw,q6⟩⟩⟩
   ·have e:i=(aw ks es).length:=by omega
    subst e;rw[List.drop_length]at q;exact .inl ⟨⟨q_ d _ q.1,by omega⟩,Ou.nx _ _ _ _ q_ D_ LC q.2⟩
  ·exact q1.elim
 ·exact q1.elim
end
end L2
namespace L2
open PySem PySem.Spec PyProof.Rows PySem.W
def Fz(G:Hp->Prop)(vs:List V):It:=⟨λi H=>G H/\i<vs.length,λi H v H'=>H'=H/\vs[i]?=some v,λi H=>G H/\vs.length<=i⟩
theorem qx{K:Lr}(d it:Addr){o:Obj}{vs:List V}{es:Array DictEntry}(hd:o.data=.dict es ep)(hz:es.size=vs.length)
  (hr:∀(i:Nat) v e,vs[i]?=some v->es[i]?=some e->RelV v e.key) (Mm:d≠it) (hG:∀(X:Cx) (a_:List (Addr×Obj)) (Z:St)(H:Hp)(s:Shared),Inv X a_ Z H s->G H->s.heap.get? d=some o):Turn P w K tg (Fz G vs) [it] it (λi h=>h.IsKeyIter it d i es.size ep) where
 mem:=by simp
 obj:=λi h st b hb=>by
  obtain⟨o1,h1,h2,h3⟩:=st;have e':b=it:=by simpa using hb
  subst e';exact⟨_,h1,λv z=>by rw[h3]at z;cases z⟩
 keep:=λi h h' st k=>st.at λo e=>k it (by simp) o e
 item:=by
  intro X hP hw hK hc i a_ s Z H E I hf st hg;subst hP hw hK;obtain⟨hu,hi⟩:=hg;have he:es[i]?=some es[i]:=by simp[show i<es.size by omega]
  have Nb:vs[i]?=some vs[i]:=by simp[hi]
  have rk:=hr i _ _ Nb he;obtain⟨f0,f1,f2,f3,f4,f5⟩:=hf it (by simp)
  refine jN st (hG _ _ _ _ _ I hu) hd he λh' LY NS=>?_
  have I2:Inv X a_ Z H {s with heap:=h',toks:=s.toks}:=I.turned (t':=s.toks) (λb o hb e1=>NS.extBut b o hb e1) f0 f1 f3 f4 f5
  refine⟨_,rfl,letGo_keyiter (s':={s with heap:=h'}) LY ?_⟩
  refine⟨vs[i],H,I2,rk,⟨rfl,Nb⟩,LY,λb hb=>?_⟩
  have e':b=it:=by simpa using hb
  subst e';exact f0
 done:=by
  intro X hP hw hK hc i a_ s Z H E I hf st hg;subst hP hw hK;obtain⟨hu,hi⟩:=hg;obtain⟨f0,f1,f2,f3,f4,f5⟩:=hf it (by simp)
  exact kT (I.ok.hd hc) st (hG _ _ _ _ _ I hu) hd (by omega) λh' eb=>⟨rfl,I.turned (t':=s.toks) (λb o hb e=>eb b o hb e) f0 f1 f3 f4 f5⟩
 self:=λ_ _ _ _ _ st h=>wpAny_pyIter_keyiter st h
def kvT(xs:List (List Int×Addr×Value)):List V:=xs.map λx=>.ref x.2.1
def AG(X:Cx)(t2:TE):TI:=λZ H R=>t2 Z H λv H1=>∃d xs,v=.ref d/\H1 d=some (.ext (tabT d xs))/\(d == sysModules)=false/\∀ob,tabO ob xs->R (Fz (λH=>H d=some (.ext (phO d ob))) (kvT xs)) (upd H1 d (.ext (phO d ob)))
section
variable {X:Cx}
theorem xj(ho:PE X o t2):PI X tg o (AG X t2):=by
 intro a_ s Z H R I h;refine thn (ho a_ s Z H _ I h) λv s0 ⟨x,H1,I1,r1,d,xs,e1,e3,nm,q⟩=>?_
 subst e1;cases r1;obtain⟨ob,tb,I2,go⟩:=I1.stillT e3;obtain⟨es,ep,xd,hd,he⟩:=id tb;have l1:es.size=xs.length:=by have:=congrArg List.length he;simpa using this
 have hz:es.size=(kvT xs).length:=by simp[kvT];omega
 have hr:∀(i:Nat) v e,(kvT xs)[i]?=some v->es[i]?=some e->RelV v e.key:=λi v e h1 h2=>by
  unfold kvT at h1;rw[Kt]at h1;cases a1:xs[i]? with
  |none=>rw[a1]at h1;cases h1
  |some q=>
   rw[a1]at h1;cases h1;have h3:es.toList[i]?=some e:=by simpa using h2
   rw[he,Kt,a1]at h3;cases h3;rfl
 have Oq:d<s0.heap.objs.size:=Kw go;refine wa nm go xd hd ?_;have hf:=I2.j_.fresh (Km s0.heap.objs.size);refine⟨_,[s0.heap.objs.size],_,_,_,rfl,I2.kept (t':=s0.toks) (λb o e=>Kk _ e),qx d s0.heap.objs.size hd hz hr (KH Oq) (G:=λH=>H d=some (.ext (phO d ob))) (λX' MS l_ H' s' I' hG=>(show ObjOk X'.prog X'.w H' s'.heap d (.ext (phO d ob)) from I'.j_ d _ hG).1),⟨_,Ko _ rfl,rfl,rfl⟩,λb hb=>?_,q ob tb⟩
 have e':b=s0.heap.objs.size:=by simpa using hb
 subst e';exact I2.fpOk (Km _) hf
theorem B8(hp:PassesOwn (model X.prog X.w) X.A X.env X.xe)(B_:X.calm=true)(ho:PE X o (low X.K cls E2 to))(hg:PG X tg (k7 X.K g))(hb:PSs X body (bH X.K cls E2 t))
  (hs:∀x,foldedSetIterable o X.env x=pure x) :
  PS X (.For tg o body [] pos) (bH X.K cls E2 λD E Z M=>to Z M (λx M1=>lA x M1 λd ks es=>∀φ,cG g (λD Z M=>t D (λ_ _ _=>False) Z M) (λM=>M d=some (.w_ φ)) (iC d φ ks es D) (ks.map bR) Z (put M1 d (.w_ φ))) (E Z)):=by
 refine λa_ s Z H D2 I k_=>ex9 k_ λh_ M D3 E3 rm Mz lk h er=>?_
 refine thn (qN hp B_ (xj ho) hg hb hs a_ s Z H ⟨λl_ H'=>∃d ob xs,tabO ob xs/\H' d=some (.ext (phO d ob))/\D2.nx l_ (upd H' d (.ext (tabT d xs))),λv H'=>∃d ob xs,tabO ob xs/\H' d=some (.ext (phO d ob))/\D2.rt v (upd H' d (.ext (tabT d xs))),λl_ H'=>∃d ob xs,tabO ob xs/\H' d=some (.ext (phO d ob))/\D2.bk l_ (upd H' d (.ext (tabT d xs))),λl_ H'=>∃d ob xs,tabO ob xs/\H' d=some (.ext (phO d ob))/\D2.ct l_ (upd H' d (.ext (tabT d xs)))⟩ I ?_) λf s1 hf=>?_
 rotate_left
 ·cases f with
  |next=>
   obtain⟨l_,H',I',d,ob,xs,tb,e,q⟩:=hf;exact⟨l_,_,I'.movesT tb e,q⟩
  |brk=>
   obtain⟨l_,H',I',d,ob,xs,tb,e,q⟩:=hf;exact⟨l_,_,I'.movesT tb e,q⟩
  |cont=>
   obtain⟨l_,H',I',d,ob,xs,tb,e,q⟩:=hf;exact⟨l_,_,I'.movesT tb e,q⟩
  |ret u=>
   obtain⟨v,l_,H',I',r,d,ob,xs,tb,e,q⟩:=hf;exact⟨v,l_,_,I'.movesT tb e,r,q⟩
 refine bc rm Mz (lk.at Mz) h λv H1 x M1 dx n_ t1 q1=>?_
 unfold lA at q1;split at q1
 ·rename_i d;cases (show v=.ref d from dx);split at q1
  ·rename_i ks es em;obtain⟨vs,xs,ed,tk,dl⟩:=n_ d _ em;refine⟨d,xs,rfl,ed,tk.no,λob tb=>?_⟩
   have tA:TM X.K H1 (upd H1 d (.ext (phO d ob))):=.put ed (λ_ z=>nomatch z) λ_ _ z=>nomatch z
   have Pp:RelM X.K (put M1 d (.w_ (phO d ob))) (upd H1 d (.ext (phO d ob))):=n_.write (u:=.w_ (phO d ob)) ed (λ_ z=>nomatch z) (λ_ _ z=>nomatch z) ai
   have q1:=q1 (phO d ob);have l1:=dl.length;have lx:xs.length=ks.length:=by rw[<-tk.kx];simp
   have lv:vs.length=xs.length:=by have:=tk.vx.length;simpa using this
   have li:(ks.map bR).length=ks.length:=by simp
   have lp:(kvT xs).length=ks.length:=by simp[kvT];omega
   have bk:∀{M':MH}{H':Hp},RelM X.K M' H'->TM X.K H1 H'->M' d=some (.w_ (phO d ob))->H' d=some (.ext (phO d ob))/\RelM X.K (put M' d (.dt ks es)) (upd H' d (.ext (tabT d xs)))/\TM X.K H' (upd H' d (.ext (tabT d xs))):=λ{M' H'} q_ LC hM=>by
    have e:H' d=some (.ext (phO d ob)):=q_ d _ hM;have Mi:TM X.K H' (upd H' d (.ext (tabT d xs))):=.put e (λ_ z=>nomatch z) λ_ _ z=>nomatch z
    refine⟨e,q_.write e (λ_ z=>nomatch z) (λ_ _ z=>nomatch z) ⟨vs,xs,ai,⟨tk.kx,tk.nd,tk.sz,tk.no,tk.vx,λx hx=>Mi.t _ _ (LC.t _ _ (tk.at_ x hx))⟩,dl.mono (LC.trans Mi)⟩,Mi⟩
   have Ou:ER X.K (upd H1 d (.ext (phO d ob))) (iC d (phO d ob) ks es D3) ⟨λl_ H'=>∃d ob xs,tabO ob xs/\H' d=some (.ext (phO d ob))/\D2.nx l_ (upd H' d (.ext (tabT d xs))),λv H'=>∃d ob xs,tabO ob xs/\H' d=some (.ext (phO d ob))/\D2.rt v (upd H' d (.ext (tabT d xs))),λl_ H'=>∃d ob xs,tabO ob xs/\H' d=some (.ext (phO d ob))/\D2.bk l_ (upd H' d (.ext (tabT d xs))),λl_ H'=>∃d ob xs,tabO ob xs/\H' d=some (.ext (phO d ob))/\D2.ct l_ (upd H' d (.ext (tabT d xs)))⟩:=by
    refine⟨λl_ H' t_ M' r d' tm q=>?_,λv H' d' M' dv r tm q=>?_,λl_ H' t_ M' r d' tm q=>?_,λl_ H' t_ M' r d' tm q=>?_⟩
    ·obtain⟨z1,z2,z3⟩:=bk r (tA.trans tm) q.1;exact⟨d,ob,xs,tb,z1,er.nx _ _ _ _ z2 (d'.mono z3) (t1.trans ((tA.trans tm).trans z3)) q.2⟩
    ·obtain⟨z1,z2,z3⟩:=bk r (tA.trans tm) q.1;exact⟨d,ob,xs,tb,z1,er.rt _ _ _ _ (dv.mono z3) z2 (t1.trans ((tA.trans tm).trans z3)) q.2⟩
    ·obtain⟨z1,z2,z3⟩:=bk r (tA.trans tm) q.1;exact⟨d,ob,xs,tb,z1,er.bk _ _ _ _ z2 (d'.mono z3) (t1.trans ((tA.trans tm).trans z3)) q.2⟩
    ·obtain⟨z1,z2,z3⟩:=bk r (tA.trans tm) q.1;exact⟨d,ob,xs,tb,z1,er.ct _ _ _ _ z2 (d'.mono z3) (t1.trans ((tA.trans tm).trans z3)) q.2⟩
   generalize RR:upd H1 d (.ext (phO d ob))=H2 at *
   refine⟨λi m L0 H'=>∃Lz M',m=(ks.map bR).length-i/\i<=(ks.map bR).length/\RelM X.K M' H'/\DenS X.K H' Lz L0/\TM X.K H2 H'/\cG g (λD Z M=>t D (λ_ _ _=>False) Z M) (λM=>M d=some (.w_ (phO d ob))) (iC d (phO d ob) ks es D3) ((ks.map bR).drop i) Lz M',
    ⟨_,_,_,rfl,Nat.zero_le _,Pp,Mz.mono (t1.trans tA),.refl _,q1⟩,?_⟩
   rintro i m L0 H' ⟨Lz,M',rfl,Nk,q_,D_,LC,q⟩;by_cases K_:i<(ks.map bR).length
   ·rw[List.drop_eq_getElem_cons K_]at q;obtain⟨s',q⟩:=q;refine .inr ⟨⟨q_ d _ s',by omega⟩,λNc H4=>∃Ly M4,RelM X.K M4 H4/\DenS X.K H4 Ly Nc/\TM X.K H2 H4/\cG g (λD Z M=>t D (λ_ _ _=>False) Z M) (λM=>M d=some (.w_ (phO d ob))) (iC d (phO d ob) ks es D3) ((ks.map bR).drop (i+1)) Ly M4,?_,?_⟩
    ·rintro Nc H4 ⟨Ly,M4,e1,e2,e3,e4⟩;exact⟨(ks.map bR).length-(i+1),by omega,Ly,M4,rfl,K_,e1,e2,e3,e4⟩
    ·intro x H3 y;obtain⟨rfl,LL⟩:=y;unfold kvT at LL;rw[Kt]at LL;cases a1:xs[i]? with
     |none=>rw[a1]at LL;cases LL
     |some kw=>
      rw[a1]at LL;cases LL;have L9:=tA.trans LC;have hk:ks[i]?=some kw.1:=by rw[<-tk.kx,Kt,a1];rfl
      have ei:(ks.map bR)[i]=.tup (kw.1.map D.int):=by
       have:(ks.map bR)[i]?=some (.tup (kw.1.map D.int)):=by
        rw[Kt,hk];rfl
       rw[KC K_]at this;exact KA this
      have dv:Den X.K H3 ((ks.map bR)[i]) (.ref kw.2.1):=by
       rw[ei];exact⟨kw.2.1,kw.1.map V.int,rfl,L9.t _ _ (tk.at_ kw (KW a1)),DenL.of_int⟩
      refine⟨_,Lz,M',_,dv,q_,D_,q,λQa H5 LQ M5 NB MA NC q5=>?_⟩
      have NF:TM X.K H2 H5:=LC.trans NC;exact⟨LQ,M5,_,_,NB,MA,(λ_ _ _ _ _ _ _ _ h=>h.elim),q5,⟨λMh H6 J_ M6 LD L5 Lw q6=>⟨J_,M6,LD,L5,NF.trans Lw,q6⟩,λv H6 d6 M6 Ot LD Lw q6=>Ou.rt v H6 d6 M6 Ot LD (NF.trans Lw) q6,
       λMh H6 J_ M6 LD L5 Lw q6=>Ou.nx Mh H6 J_ M6 LD L5 (NF.trans Lw) q6,λMh H6 J_ M6 LD L5 Lw q6=>⟨J_,M6,LD,L5,NF.trans Lw,q6⟩⟩⟩
   ·have e:i=(ks.map bR).length:=by omega
    subst e;rw[List.drop_length]at q;exact .inl ⟨⟨q_ d _ q.1,by omega⟩,Ou.nx _ _ _ _ q_ D_ LC q.2⟩
  ·exact q1.elim
 ·exact q1.elim
end
end L2
namespace L2
open PySem PySem.Spec PyProof.Rows
section
variable {X:Cx}{cls:Nat->Addr}{E2:St->XK}{tg o:Expr}
theorem E7{t2:TE}(ho:PE X o t2):PI X tg o (λZ H R=>t2 Z H λv H1=>∃d ob xs ks ws,v=.ref d/\H1 d=some (.u_ ob (.ext (tabT d xs)))/\TabOk X.K H1 d ks xs ws/\R (Itk d ob (xs.map λx=>V.ref x.2.1)) H1):=by
 intro a_ s Z H R I h;refine thn (ho a_ s Z H _ I h) λv s1 ⟨x,H2,I2,r1,d,ob,xs,ks,ws,e1,e3,z,q⟩=>?_
 subst e1;cases r1;obtain⟨⟨es,ep,hx,hd,hz,hr⟩,xd⟩:=Bi I2 e3 z;have ho:=I2.frzGet e3;refine wa z.no ho xd hd ?_;have hf:H2 s1.heap.objs.size=none:=I2.j_.fresh (Km _);have Oq:d<s1.heap.objs.size:=Kw ho;have l2:=z.vx.length;rw[Kr]at l2;have Pk:es.size=((xs.map λx=>V.ref x.2.1)).length:=by rw[hz];simp[prs];omega
 exact⟨s1.heap.objs.size,[s1.heap.objs.size],_,_,H2,rfl,I2.kept (λb o e=>Kk _ e),ub d s1.heap.objs.size hd Pk (λi v e hv he=>by
  obtain⟨w,hw⟩:∃w,ws[i]?=some w:=⟨ws[i]'(by have:=(KP.mp hv).1;simp at this;omega),by simp⟩
  exact (hr i (v,w) e (List.getElem?_zip_eq_some.mpr ⟨hv,hw⟩) he).1) (KH Oq),⟨_,Ko _ rfl,rfl,rfl⟩,λb hb=>by
  have e':b=s1.heap.objs.size:=by simpa using hb
  subst e';exact I2.fpOk (Km _) hf,q⟩
theorem Hi{to:St3->MH->VK3->XN->Prop}(ho:PE X o (low X.K cls E2 to)):PI X tg o (lm X.K cls E2 λZ M R E=>to Z M (λx M1=>match x with
  |.I_ ks ds=>R (ks.map bR) (λ_=>True) M1
  |_=>False) E):=
 (E7 ho).imp λZ H R2 k_=>ex9 k_ λh_ M R E3 rm ds lk h k=>bc rm ds lk h λv H1 x M1 dx n_ t1 q1=>by
  cases x with
  |I_ ks es=>
   obtain⟨d,vs,ob,xs,rfl,e,z,dl⟩:=dx;exact⟨d,ob,xs,ks,vs,rfl,e,z,k _ _ _ _ _ (yF e z) n_ t1 q1⟩
  |_=>exact q1.elim
end
section
variable {X:Cx}{o_ p_:Pos}
theorem vB{K:Lr}{H:Hp}{b:Addr}{k:List Int}(h:KAt true K H b k):Den K H (ug k) (.ref b):=by
 obtain⟨p,q,i,j,l,m,e,h1,h2,h3⟩:=h;rw[e];exact⟨_,_,rfl,h1,_,_,rfl,⟨p,_,rfl,h2,DenL.of_int (ns:=[i,j])⟩,_,_,rfl,⟨q,_,rfl,h3,DenL.of_int (ns:=[l,m])⟩,rfl⟩
theorem xO(j_:dg N js scope X.env.scope X.N=true)(B_:X.calm=true)(ho:PE X o (low X.K cls E2 to))(x_:attributeBase o "items" X.env (eval o X.env)=eval o X.env)(y_:(o_.endLine == p_.line)=true)
  (hg:∀C s2 H2 fp pn,PG (compCx X scope C N s2 H2 fp pn) (.Tuple LA x1 pt) (k7 X.K g)) (ht:∀C s2 H2 fp pn,PIf (compCx X scope C N s2 H2 fp pn) ifs (cu X.K cls no2 tt)) (he:∀C s2 H2 fp pn,PE (compCx X scope C N s2 H2 fp pn) A_ (low X.K cls no2 te))
  (hs:∀x,foldedSetIterable (.Call (.Attribute o "items" o_) [] [] p_) X.env x=pure x) :
  PE X (.ListComp A_ [⟨.Tuple LA x1 pt,.Call (.Attribute o "items" o_) [] [] p_,ifs,0⟩] scope pos) (low X.K cls E2 λZ M Q E=>to Z M (λx M1=>wV x M1 λd ks es=>∀φ p,M1 p=none->
   bM g (λZ M Q=>tt Z M Q (λ_ _=>False)) (λZ M Q=>te Z M Q (λ_ _=>False)) (λM=>M d=some (.w_ φ)) p (λy M2=>Q y (put M2 d (.dn ks es))) (aT ks es) [] (ax js Z) (put (put M1 d (.w_ φ)) p (.lst []))) E):=by
 refine λa_ s Z H Q2 I k_=>ex9 k_ λh_ M Q E3 rm ds lk h b_=>?_
 refine thn (rS j_ B_ (mj (f:=true) ho x_ y_) hg ht he hs a_ s Z H (λv H'=>∃d ob xs,wS true ob xs/\H' d=some (.ext (phO d ob))/\Q2 v (upd H' d (.ext (cM true d xs)))) I ?_) λu s1 ⟨v,H',I',r,d,ob,xs,tb,e,q⟩=>⟨v,_,I'.movesT tb e,r,q⟩
 refine bc rm ds lk h λv H1 x M1 dx n_ t1 q1=>?_
 unfold wV at q1;split at q1
 ·rename_i d;cases (show v=.ref d from dx);split at q1
  ·rename_i ks es em;obtain⟨vs,xs,ed,tk,dl⟩:=n_ d _ em;refine⟨d,xs,vs,rfl,ed,tk.no,tk.vx,λob p0 tb Nn p hp=>?_⟩
   have np:p0≠d:=λz=>by rw[z,ed]at Nn;cases Nn
   have tA:TM X.K H1 (upd H1 d (.ext (phO d ob))):=.put ed (λ_ z=>nomatch z) λ_ _ z=>nomatch z
   have tB:TM X.K H1 (upd (upd H1 d (.ext (phO d ob))) p0 (.ext λh=>h.IsItemsView p0 d)):=tA.trans (.new (by rw[ah np];exact Nn))
   have Pp:RelM X.K (put M1 d (.w_ (phO d ob))) (upd H1 d (.ext (phO d ob))):=n_.write ed (λ_ z=>nomatch z) (λ_ _ z=>nomatch z) ai
   have QV:=Pp.grow (o:=.ext λh=>h.IsItemsView p0 d) (by rw[ah np];exact Nn)
   have NG:p≠d:=λz=>by rw[z,ah (Kz np),ai]at hp;cases hp
   have Tg:H1 p=none:=by
    by_cases w:p=p0
    ·rw[w];exact Nn
    ·rw[ah w,ah NG]at hp;exact hp
   have q1:=q1 (phO d ob) p (n_.fresh Tg);generalize RR:upd (upd H1 d (.ext (phO d ob))) p0 (.ext λh=>h.IsItemsView p0 d)=H2 at *
   generalize Th:phO d ob=φ at *
   have l1:=dl.length;have lx:xs.length=ks.length:=by rw[<-tk.kx];simp
   have lv:vs.length=xs.length:=by have:=tk.vx.length;simpa using this
   have li:(aT ks es).length=ks.length:=by simp[aT];omega
   have lp:(jS xs vs).length=ks.length:=by simp[jS];omega
   refine⟨λi m L0 H'=>∃Lz ys M',m=(aT ks es).length-i/\i<=(aT ks es).length/\RelM X.K M' H'/\DenS X.K H' Lz L0/\TM X.K H2 H'/\bM g (λZ M Q=>tt Z M Q (λ_ _=>False)) (λZ M Q=>te Z M Q (λ_ _=>False)) (λM=>M d=some (.w_ φ)) p (λy M2=>Q y (put M2 d (.dn ks es))) ((aT ks es).drop i) ys Lz M',
    ⟨_,_,[],_,rfl,Nat.zero_le _,QV.lay (u:=.lst []) hp ⟨[],ai,.nil⟩,(oE ds).mono ((t1.trans tB).trans (.new hp)),.new hp,q1⟩,?_⟩
   rintro i m L0 H' ⟨Lz,ys,M',rfl,Nk,q_,D_,LC,q⟩;by_cases K_:i<(aT ks es).length
   ·rw[List.drop_eq_getElem_cons K_]at q;obtain⟨s',hl,q⟩:=q;refine .inr ⟨⟨q_ d _ s',by omega⟩,λx H3 y=>?_⟩
    obtain⟨pp,rfl,ND,kv,LL,rfl⟩:=y;have Mi:TM X.K H' (upd H' pp (.tup [kv.1,kv.2])):=.new ND;unfold jS at LL;rw[Kt]at LL;cases hz:(xs.zip vs)[i]? with
    |none=>rw[hz]at LL;cases LL
    |some kw=>
     rw[hz]at LL;have LL:(V.ref kw.1.2.1,kw.2)=kv:=by simpa using LL
     obtain⟨a1,a2⟩:=List.getElem?_zip_eq_some.mp hz;have RS:=tB.trans LC;obtain⟨dd,b1,b2⟩:=(dl.mono RS).get' a2;have hk:ks[i]?=some kw.1.1:=by rw[<-tk.kx,Kt,a1];rfl
     have ei:(aT ks es)[i]=.tup [ug kw.1.1,dd]:=by
      have:(aT ks es)[i]?=some (.tup [ug kw.1.1,dd]):=by
       have ez:(ks.zip es)[i]?=some (kw.1.1,dd):=List.getElem?_zip_eq_some.mpr ⟨hk,b1⟩;unfold aT;rw[Kt,ez];rfl
      rw[KC K_]at this;exact KA this
     have dv:Den X.K (upd H' pp (.tup [kv.1,kv.2])) ((aT ks es)[i]) (.ref pp):=by
      rw[ei,<-LL];exact⟨pp,[.ref kw.1.2.1,kw.2],rfl,.inl (.inl ai),⟨_,_,rfl,vB (KAt.mono (.new ND) (KAt.mono RS (tk.at_ kw.1 (KW a1)))),_,_,rfl,b2.mono (.new ND),rfl⟩⟩
     refine⟨_,Lz,M',_,dv,q_.grow ND,D_.mono Mi,q,λQa H5 LQ M5 NB MA NC q5=>?_⟩
     refine⟨LQ,M5,_,_,NB,MA,LkE.no,q5,λb H6 M6 LD Lw q6=>?_⟩
     have L9:TM X.K H2 H6:=((LC.trans Mi).trans NC).trans Lw;cases b with
     |true=>
      dsimp only;refine⟨LQ,M6,_,_,LD,MA.mono Lw,LkE.no,q6,λv H7 y M7 dy Pn Po ⟨e7,q7⟩=>?_⟩
      obtain⟨ws,f7,RT⟩:=Pn p _ e7;have tw:TM X.K H7 (upd H7 p (.lst (ws++[v]))):=.put f7 (λ_=>λz=>nomatch z) λ_ _=>λz=>nomatch z
      exact⟨ws,f7,by rw[<-RT.length];exact hl,(aT ks es).length-(i+1),by omega,LQ,ys++[y],_,rfl,K_,Pn.write (u:=.lst (ys++[y])) f7 (λ_=>λz=>nomatch z) (λ_ _=>λz=>nomatch z) ⟨_,ai,(RT.append (.one dy)).mono tw⟩,((MA.mono Lw).mono Po).mono tw,(L9.trans Po).trans tw,q7⟩
     |false=>
      dsimp only;exact⟨(aT ks es).length-(i+1),by omega,LQ,ys,M6,rfl,K_,LD,MA.mono Lw,L9,q6⟩
   ·have e:i=(aT ks es).length:=by omega
    subst e;rw[List.drop_length]at q;obtain⟨s',q⟩:=q;have Qb:H' d=some (.ext φ):=q_ d _ s';have tC:TM X.K H' (upd H' d (.ext (cM true d xs))):=.put Qb (λ_ z=>nomatch z) λ_ _ z=>nomatch z
    refine .inl ⟨⟨Qb,by omega⟩,d,ob,xs,tb,by rw[Th];exact Qb,?_⟩
    exact b_ _ _ _ _ gV (q_.write (u:=.dn ks es) Qb (λ_ z=>nomatch z) (λ_ _ z=>nomatch z) ⟨vs,xs,ai,(tk.mono (tB.trans LC)).mono tC,dl.mono ((tB.trans LC).trans tC)⟩) (((t1.trans tB).trans LC).trans tC) q
  ·exact q1.elim
 ·exact q1.elim
end
structure Cfg where
 N:List Str
 sc:Scope
 fns:List (Option Str×Nat)
 exc:List Str
 kln:List Str
 gln:List Str
 xin:List (Nat×Nat)
 calm:Bool
 own:Bool
 tr:Bool
 fn:Bool
 cel:List (Str×NameKind):=[]
def glB(c:Cfg)(x:Str):Bool:=c.sc.names.lookup x == some .globalImplicit
def C9(sc:Scope)(x:Str):Bool:=sc.names.lookup x == some .local||sc.names.lookup x == some .cell||sc.names.lookup x == some .free
def zu(c:Cfg)(x:Str):Bool:=c.sc.names.lookup x == some .local||(c.fn&&c.sc.names.lookup x == some .cell)||(c.cel.lookup x == some .cell&&c.sc.names.lookup x == some .cell)
def fQ(e:Expr):Bool:=e.ctorIdx != 22
def mN(e:Expr):Bool:=e.ctorIdx != 7
def lY(e:Expr):Bool:=e.ctorIdx != 8&&e.ctorIdx != 9&&e.ctorIdx != 10
def yY(e:Expr):Bool:=e.ctorIdx != 25
def mV(e:Expr):Bool:=e.ctorIdx != 26
def Am(e:Expr):Bool:=e.ctorIdx != 16
def wR(e:Expr):Bool:=e.ctorIdx != 3&&e.ctorIdx != 0&&e.ctorIdx != 5&&e.ctorIdx != 15
def ky:BI->String
 |.len=>"len"|.max=>"max"|.min=>"min"|.list _=>"list"|.sorted _=>"sorted"|.all=>"all"|.any=>"any"
def jG:BM->String
 |.get=>"get"|.extend=>"extend"|.remove=>"remove"|.Lv=>"setdefault"
def biNames:List Str:=["len","abs","max","min","str","list","tuple","isinstance","range","int","bool","dict","ValueError","enumerate","all","any","sum","zip","reversed","sorted"]
def FY(sc MR:Scope):Scope:={sc with names:=sc.names.map λ(n,k)=>if (k == .free&&MR.kind == .function&&MR.names.lookup n == some .cell) then (n,.cell) else (n,k)}
def Cfg.comp(c:Cfg)(N:List Str)(sc:Scope):Cfg:={c with N:=N,sc:=FY sc c.sc,own:=false,tr:=false,fn:=false,cel:=sc.names}
def ife(c:Prop)[Decidable c](f:c->Bool):Bool:=if h:c then f h else false
theorem cH{c:Prop}[Decidable c]{f:c->Bool}{R:Prop}(h:ife c f=true)(H:c->R):R:=by
 by_cases q:c
 ·exact H q
 ·unfold ife at h;rw[dif_neg q]at h;exact absurd h Ku
section
variable {e:Expr}{P:Expr->Prop}
def mNa(e:Expr)(k:Str->Pos->Bool):Bool:=ife (e.ctorIdx=23) λh=>Expr.Name.elim e h k
@[elab_as_elim] theorem iR{k}(h:mNa e k=true)(H:∀x p,k x p=true->P (.Name x p)):P e:=cH h λq=>Expr.Name.elim (motive_1:=λe=>mNa e k=true->P e) e q H h
def mCo(e:Expr)(k:Const->Nat->Pos->Bool):Bool:=ife (e.ctorIdx=19) λh=>Expr.Constant.elim e h k
@[elab_as_elim] theorem DU{k}(h:mCo e k=true)(H:∀c n p,k c n p=true->P (.Constant c n p)):P e:=cH h λq=>Expr.Constant.elim (motive_1:=λe=>mCo e k=true->P e) e q H h
def mBi(e:Expr)(k:Expr->Operator->Expr->Pos->Bool):Bool:=ife (e.ctorIdx=2) λh=>Expr.BinOp.elim e h k
@[elab_as_elim] theorem Ab{k}(h:mBi e k=true)(H:∀a o b p,k a o b p=true->P (.BinOp a o b p)):P e:=cH h λq=>Expr.BinOp.elim (motive_1:=λe=>mBi e k=true->P e) e q H h
def mUn(e:Expr)(k:UnaryOp->Expr->Pos->Bool):Bool:=ife (e.ctorIdx=3) λh=>Expr.UnaryOp.elim e h k
@[elab_as_elim] theorem wA{k}(h:mUn e k=true)(H:∀o a p,k o a p=true->P (.UnaryOp o a p)):P e:=cH h λq=>Expr.UnaryOp.elim (motive_1:=λe=>mUn e k=true->P e) e q H h
def mCm(e:Expr)(k:Expr->List CmpOp->List Expr->Pos->Bool):Bool:=ife (e.ctorIdx=15) λh=>Expr.Compare.elim e h k
@[elab_as_elim] theorem rG{k}(h:mCm e k=true)(H:∀a o b p,k a o b p=true->P (.Compare a o b p)):P e:=cH h λq=>Expr.Compare.elim (motive_1:=λe=>mCm e k=true->P e) e q H h
def mBo(e:Expr)(k:BoolOp->List Expr->Pos->Bool):Bool:=ife (e.ctorIdx=0) λh=>Expr.BoolOp.elim e h k
@[elab_as_elim] theorem rZ{k}(h:mBo e k=true)(H:∀o a p,k o a p=true->P (.BoolOp o a p)):P e:=cH h λq=>Expr.BoolOp.elim (motive_1:=λe=>mBo e k=true->P e) e q H h
def mTu(e:Expr)(k:List Expr->Nat->Pos->Bool):Bool:=ife (e.ctorIdx=25) λh=>Expr.Tuple.elim e h k
@[elab_as_elim] theorem fO{k}(h:mTu e k=true)(H:∀a n p,k a n p=true->P (.Tuple a n p)):P e:=cH h λq=>Expr.Tuple.elim (motive_1:=λe=>mTu e k=true->P e) e q H h
def mLi(e:Expr)(k:List Expr->Pos->Bool):Bool:=ife (e.ctorIdx=24) λh=>Expr.List.elim e h k
@[elab_as_elim] theorem F5{k}(h:mLi e k=true)(H:∀a p,k a p=true->P (.List a p)):P e:=cH h λq=>Expr.List.elim (motive_1:=λe=>mLi e k=true->P e) e q H h
def mSu(e:Expr)(k:Expr->Expr->Pos->Bool):Bool:=ife (e.ctorIdx=21) λh=>Expr.Subscript.elim e h k
@[elab_as_elim] theorem vJ{k}(h:mSu e k=true)(H:∀a b p,k a b p=true->P (.Subscript a b p)):P e:=cH h λq=>Expr.Subscript.elim (motive_1:=λe=>mSu e k=true->P e) e q H h
def mSl(e:Expr)(k:Option Expr->Option Expr->Option Expr->Pos->Bool):Bool:=ife (e.ctorIdx=26) λh=>Expr.Slice.elim e h k
@[elab_as_elim] theorem E1{k}(h:mSl e k=true)(H:∀a b c p,k a b c p=true->P (.Slice a b c p)):P e:=cH h λq=>Expr.Slice.elim (motive_1:=λe=>mSl e k=true->P e) e q H h
def mCa(e:Expr)(k:Expr->List Expr->List Keyword->Pos->Bool):Bool:=ife (e.ctorIdx=16) λh=>Expr.Call.elim e h k
@[elab_as_elim] theorem Ax{k}(h:mCa e k=true)(H:∀a b c p,k a b c p=true->P (.Call a b c p)):P e:=cH h λq=>Expr.Call.elim (motive_1:=λe=>mCa e k=true->P e) e q H h
def mAt(e:Expr)(k:Expr->Str->Pos->Bool):Bool:=ife (e.ctorIdx=20) λh=>Expr.Attribute.elim e h k
@[elab_as_elim] theorem wN{k}(h:mAt e k=true)(H:∀a x p,k a x p=true->P (.Attribute a x p)):P e:=cH h λq=>Expr.Attribute.elim (motive_1:=λe=>mAt e k=true->P e) e q H h
def mDi(e:Expr)(k:List (Option Expr)->List Expr->Pos->Bool):Bool:=ife (e.ctorIdx=6) λh=>Expr.Dict.elim e h k
@[elab_as_elim] theorem Ac{k}(h:mDi e k=true)(H:∀a b p,k a b p=true->P (.Dict a b p)):P e:=cH h λq=>Expr.Dict.elim (motive_1:=λe=>mDi e k=true->P e) e q H h
def mLc(e:Expr)(k:Expr->List Comprehension->Scope->Pos->Bool):Bool:=ife (e.ctorIdx=8) λh=>Expr.ListComp.elim e h k
@[elab_as_elim] theorem vg{k}(h:mLc e k=true)(H:∀a b s p,k a b s p=true->P (.ListComp a b s p)):P e:=cH h λq=>Expr.ListComp.elim (motive_1:=λe=>mLc e k=true->P e) e q H h
end
section
variable {e:Stmt}{P:Stmt->Prop}
def nAs(e:Stmt)(k:List Expr->Expr->Pos->Bool):Bool:=ife (e.ctorIdx=5) λh=>Stmt.Assign.elim e h k
@[elab_as_elim] theorem rq{k}(h:nAs e k=true)(H:∀a b p,k a b p=true->P (.Assign a b p)):P e:=cH h λq=>Stmt.Assign.elim (motive_2:=λe=>nAs e k=true->P e) e q H h
def nEx(e:Stmt)(k:Expr->Pos->Bool):Bool:=ife (e.ctorIdx=24) λh=>Stmt.Expr.elim e h k
@[elab_as_elim] theorem zW{k}(h:nEx e k=true)(H:∀a p,k a p=true->P (.Expr a p)):P e:=cH h λq=>Stmt.Expr.elim (motive_2:=λe=>nEx e k=true->P e) e q H h
def nRe(e:Stmt)(k:Option Expr->Pos->Bool):Bool:=ife (e.ctorIdx=3) λh=>Stmt.Return.elim e h k
@[elab_as_elim] theorem An{k}(h:nRe e k=true)(H:∀a p,k a p=true->P (.Return a p)):P e:=cH h λq=>Stmt.Return.elim (motive_2:=λe=>nRe e k=true->P e) e q H h
def nIf(e:Stmt)(k:Expr->List Stmt->List Stmt->Pos->Bool):Bool:=ife (e.ctorIdx=12) λh=>Stmt.If.elim e h k
@[elab_as_elim] theorem EJ{k}(h:nIf e k=true)(H:∀a b c p,k a b c p=true->P (.If a b c p)):P e:=cH h λq=>Stmt.If.elim (motive_2:=λe=>nIf e k=true->P e) e q H h
def nFo(e:Stmt)(k:Expr->Expr->List Stmt->List Stmt->Pos->Bool):Bool:=ife (e.ctorIdx=9) λh=>Stmt.For.elim e h k
@[elab_as_elim] theorem xm{k}(h:nFo e k=true)(H:∀a b c d p,k a b c d p=true->P (.For a b c d p)):P e:=cH h λq=>Stmt.For.elim (motive_2:=λe=>nFo e k=true->P e) e q H h
def nWh(e:Stmt)(k:Expr->List Stmt->List Stmt->Pos->Bool):Bool:=ife (e.ctorIdx=11) λh=>Stmt.While.elim e h k
@[elab_as_elim] theorem Fi{k}(h:nWh e k=true)(H:∀a b c p,k a b c p=true->P (.While a b c p)):P e:=cH h λq=>Stmt.While.elim (motive_2:=λe=>nWh e k=true->P e) e q H h
end
section
variable {e:Const}{P:Const->Prop}
def yI(e:Const)(k:Int->Bool):Bool:=ife (e.ctorIdx=2) λh=>Const.int.elim e h k
@[elab_as_elim] theorem G1{k}(h:yI e k=true)(H:∀i,k i=true->P (.int i)):P e:=cH h λq=>Const.int.elim (motive:=λe=>yI e k=true->P e) e q H h
def yB(e:Const)(k:Bool->Bool):Bool:=ife (e.ctorIdx=1) λh=>Const.bool.elim e h k
@[elab_as_elim] theorem GZ{k}(h:yB e k=true)(H:∀i,k i=true->P (.bool i)):P e:=cH h λq=>Const.bool.elim (motive:=λe=>yB e k=true->P e) e q H h
def yS(e:Const)(k:Str->Bool):Bool:=ife (e.ctorIdx=5) λh=>Const.str.elim e h k
@[elab_as_elim] theorem Iq{k}(h:yS e k=true)(H:∀i,k i=true->P (.str i)):P e:=cH h λq=>Const.str.elim (motive:=λe=>yS e k=true->P e) e q H h
end
def yN(e:Const):Bool:=match e with
 |.none=>true
 |_=>false
@[elab_as_elim] theorem Iw{e:Const}{P:Const->Prop}(h:yN e=true)(H:P .none):P e:=by
 cases e<;>first|exact H|exact absurd h Ku
def mCN(e:Expr)(k:Str->Pos->List Expr->Pos->Bool):Bool:=mCa e λf a c p=>mNa f λx q=>c.isEmpty&&k x q a p
@[elab_as_elim] theorem jf{α:Type}{l:List α}{b:Bool}{P:List α->Prop}(h:(l.isEmpty&&b)=true)(H:b=true->P []):P l:=by
 cases l with
 |nil=>exact H h
 |cons=>exact absurd h Ku
@[elab_as_elim] theorem i6{e:Expr}{k}{P:Expr->Prop}(h:mCN e k=true)(H:∀x q a p,k x q a p=true->P (.Call (.Name x q) a [] p)):P e:=Ax h λf a c p h=>iR h λx q h=>jf h λh=>H x q a p h
def mCA(e:Expr)(k:Expr->Str->Pos->List Expr->Pos->Bool):Bool:=mCa e λf a c p=>mAt f λo x q=>c.isEmpty&&k o x q a p
@[elab_as_elim] theorem jT{e:Expr}{k}{P:Expr->Prop}(h:mCA e k=true)(H:∀o x q a p,k o x q a p=true->P (.Call (.Attribute o x q) a [] p)):P e:=Ax h λf a c p h=>wN h λo x q h=>jf h λh=>H o x q a p h
section
variable {α:Type}{P:List α->Prop}{l:List α}
def l0(l:List α)(b:Bool):Bool:=l.isEmpty&&b
def lK(l:List α)(k:α->List α->Bool):Bool:=match l with
 |[]=>false
 |x::r=>k x r
@[elab_as_elim] theorem iy{k}(h:lK l k=true)(H:∀x r,k x r=true->P (x::r)):P l:=by
 cases l with
 |nil=>exact absurd h Ku
 |cons x r=>exact H x r h
def l1(l:List α)(k:α->Bool):Bool:=lK l λx r=>r.isEmpty&&k x
@[elab_as_elim] theorem d9{k}(h:l1 l k=true)(H:∀x,k x=true->P [x]):P l:=iy h λx r h=>jf h (H x)
def l2(l:List α)(k:α->α->Bool):Bool:=lK l λx r=>l1 r (k x)
@[elab_as_elim] theorem qm{k}(h:l2 l k=true)(H:∀x y,k x y=true->P [x,y]):P l:=iy h λx r h=>d9 h (H x)
def l3(l:List α)(k:α->α->α->Bool):Bool:=lK l λx r=>l2 r (k x)
end
def oS{α:Type}(o:Option α)(k:α->Bool):Bool:=match o with
 |some x=>k x
 |none=>false
@[elab_as_elim] theorem Du{α:Type}{o:Option α}{k}{P:Option α->Prop}(h:oS o k=true)(H:∀x,k x=true->P (some x)):P o:=by
 cases o with
 |none=>exact absurd h Ku
 |some x=>exact H x h
def oN{α:Type}(o:Option α)(b:Bool):Bool:=o.isNone&&b
@[elab_as_elim] theorem EG{α:Type}{o:Option α}{b:Bool}{P:Option α->Prop}(h:oN o b=true)(H:b=true->P none):P o:=by
 cases o with
 |none=>exact H h
 |some x=>exact absurd h Ku
def mG(g:Comprehension)(k:Expr->Expr->List Expr->Int->Bool):Bool:=k g.target g.iter g.ifs g.is_async
@[elab_as_elim] theorem A8{g:Comprehension}{k}{P:Comprehension->Prop}(h:mG g k=true)(H:∀a b c d,k a b c d=true->P ⟨a,b,c,d⟩):P g:=by cases g;exact H _ _ _ _ h
def kN(e:Expr):Bool:=!mCN e λ_ _ a _=>a.isEmpty
def okG(c:Cfg):ITg->Expr->Bool
 |.name i,e=>mNa e λx _=>(c.N[i]? == some x)&&zu c x
 |.tup is,e=>mTu e λes _ _=>c.calm&&aX c.N c.sc c.fn is es
 |.MK is j,e=>mTu e λq1 _ _=>l2 q1 λq2 q3=>mTu q2 λes _ _=>mNa q3 λx p=>c.calm&&aX c.N c.sc c.fn is es&&aX c.N c.sc c.fn [j] [.Name x p]
def AB:II->Expr->Bool
 |.enum _,e=>mTu e λ_ _ _=>true
 |.zip _ _,e=>mTu e λ_ _ _=>true
 |.items _,e=>mTu e λ_ _ _=>true
 |_,_=>true
mutual
noncomputable def okE:IE->Cfg->Expr->Bool
 |.var i,c,e=>mNa e λx _=>(c.N[i]? == some x)&&C9 c.sc x&&!(x == ("__debug__" : Str))&&!(x == ("__classdict__" : Str))
 |.con d,_,e=>mCo e λk _ _=>match d with
  |.int j=>yI k λi=>decide (i=j)
  |.bl j=>yB k λi=>decide (i=j)
  |.i_=>yN k
  |.str j=>yS k λi=>decide (i=j)
  |_=>false
 |.bin op a b,c,e=>mBi e λx LR y _=>decide (op=LR)&&okE a c x&&okE b c y
 |.neg a,c,e=>mUn e λop x _=>decide (op=.USub)&&okE a c x
 |.cat _ a b,c,e=>mBi e λx LR y _=>decide (LR=.Add)&&okE a c x&&okE b c y
 |.cmp op a b,c,e=>mCm e λx q1 q2 _=>l1 q1 λLR=>l1 q2 λy=>decide (op=LR)&&mN y&&okE a c x&&okE b c y
 |.chain op1 op2 a b d,c,e=>mCm e λx q1 q2 _=>l2 q1 λOv Ow=>l2 q2 λy z=>decide (op1=Ov)&&decide (op2=Ow)&&mN z&&okE a c x&&okE b c y&&okE d c z
 |.and a b,c,e=>mBo e λop q1 p=>lK q1 λx q2=>lK q2 λy r=>decide (op=.And)&&okE a c x&&(match r with|[]=>okE b c y|_::_=>okE b c (.BoolOp .And (y::r) p))
 |.or a b,c,e=>mBo e λop q1 p=>lK q1 λx q2=>lK q2 λy r=>decide (op=.Or)&&okE a c x&&(match r with|[]=>okE b c y|_::_=>okE b c (.BoolOp .Or (y::r) p))
 |.not a,c,e=>mUn e λop x _=>decide (op=.Not)&&okE a c x
 |.tup es,c,e=>mTu e λxs _ _=>okA es c xs
 |.lst _ es,c,e=>mLi e λxs _=>okA es c xs
 |.u_ a,c,e=>okE a c e
 |.ix a b,c,e=>mSu e λx y _=>mV y&&okE a c x&&okE b c y
 |.sl _ a lo hi,c,e=>mSu e λx q1 _=>mSl q1 λl h q2 _=>oN q2 <| okE a c x&&okO lo c l&&okO hi c h
 |.call f es,c,e=>mCN e λx _ args _=>c.calm&&(match c.fns[f]? with|some p=>decide (some x=p.1)|none=>false)&&glB c x&&!(x == ("__debug__" : Str))&&okA es c args
 |.bi b es,c,e=>mCN e λx _ args _=>c.calm&&decide (x=(ky b:Str))&&glB c x&&!args.isEmpty&&okA es c args
 |.MJ a t,c,e=>mCN e λx _ q1 _=>l2 q1 λy q2=>mNa q2 λz _=>decide (x=("isinstance" : Str))&&decide (z=(b9 t:Str))&&glB c x&&glB c z&&fQ y&&okE a c y
 |.MZ a b,c,e=>mDi e λq1 q2 _=>l1 q1 λq3=>oS q3 λx=>l1 q2 λy=>okE a c x&&okE b c y
 |.comp _ N js tg it cond A_,c,e=>mLc e λel q1 scope _=>l1 q1 λq2=>mG q2 λN0 iter ifs as=>c.calm&&decide (as=0)&&AB it N0&&mN iter&&dg N js scope c.sc c.N&&okI it c iter&&okG (c.comp N scope) tg N0&&Cp cond (c.comp N scope) ifs&&okE A_ (c.comp N scope) el
 |.Mp N js tg o cond A_,c,e=>mLc e λel q1 scope _=>l1 q1 λq2=>mG q2 λq3 q4 ifs as=>mTu q3 λLA x1 pt=>mCA q4 λx m ap q5 cp=>l0 q5 <| c.calm&&decide (as=0)&&decide (m=("items" : Str))&&kN x&&(ap.endLine == cp.line)&&dg N js scope c.sc c.N&&okE o c x&&okG (c.comp N scope) tg (.Tuple LA x1 pt)&&Cp cond (c.comp N scope) ifs&&okE A_ (c.comp N scope) el
 |.Pc a,c,e=>mCN e λx _ q1 _=>l1 q1 λy=>c.calm&&decide (x=("min" : Str))&&glB c x&&fQ y&&okE a c y
 |.fld a f,c,e=>mAt e λx m _=>decide (m=fnm f)&&kN x&&okE a c x
 |.make _ i es,c,e=>mCN e λx _ args _=>c.calm&&(c.kln[i]? == some x)&&glB c x&&!(x == ("__debug__" : Str))&&okA es c args
 |.v_ a m es,c,e=>mCA e λx n ap args cp=>c.calm&&decide (n=fnm m)&&kN x&&(ap.endLine == cp.line)&&decide (args.length<30)&&okE a c x&&okA es c args
 |.ini i es,c,e=>mCA e λq1 n ap args cp=>mNa q1 λx _=>c.calm&&decide (n=("__init__" : Str))&&(c.kln[i]? == some x)&&glB c x&&!(x == ("__debug__" : Str))&&(ap.endLine == cp.line)&&decide (args.length<30)&&!args.isEmpty&&okA es c args
 |.glo k,c,e=>mNa e λx _=>(c.gln[k]? == some x)&&glB c x&&!(x == ("__debug__" : Str))
 |.bm b o es,c,e=>mCA e λx n ap args cp=>c.calm&&decide (n=(jG b:Str))&&kN x&&(ap.endLine == cp.line)&&decide (args.length<30)&&okE o c x&&okA es c args
 |.LH _,_,e=>mDi e λq1 q2 _=>l0 q1 <| l0 q2 <| true
noncomputable def okT:IT->Cfg->Expr->Bool
 |.val a,c,e=>wR e&&okE a c e
 |.cmp op a b,c,e=>mCm e λx q1 q2 _=>l1 q1 λLR=>l1 q2 λy=>decide (op=LR)&&mN y&&okE a c x&&okE b c y
 |.chain op1 op2 a b d,c,e=>mCm e λx q1 q2 _=>l2 q1 λOv Ow=>l2 q2 λy z=>decide (op1=Ov)&&decide (op2=Ow)&&mN z&&okE a c x&&okE b c y&&okE d c z
 |.and a b,c,e=>mBo e λop q1 p=>lK q1 λx q2=>lK q2 λy r=>decide (op=.And)&&okT a c x&&(match r with|[]=>okT b c y|_::_=>okT b c (.BoolOp .And (y::r) p))
 |.or a b,c,e=>mBo e λop q1 p=>lK q1 λx q2=>lK q2 λy r=>decide (op=.Or)&&okT a c x&&(match r with|[]=>okT b c y|_::_=>okT b c (.BoolOp .Or (y::r) p))
 |.not a,c,e=>mUn e λop x _=>decide (op=.Not)&&okT a c x
noncomputable def okA:IA->Cfg->List Expr->Bool
 |.nil,_,es=>es.isEmpty
 |.cons a r,c,es=>lK es λx xs=>fQ x&&okE a c x&&okA r c xs
noncomputable def okO:IO->Cfg->Option Expr->Bool
 |.no,_,o=>o.isNone
 |.yes a,c,o=>oS o λx=>okE a c x
noncomputable def Cp:ITO->Cfg->List Expr->Bool
 |.no,_,es=>es.isEmpty
 |.yes t,c,es=>l1 es λx=>okT t c x
noncomputable def okI:II->Cfg->Expr->Bool
 |.seq a,c,e=>okE a c e
 |.enum a,c,e=>mCN e λx _ q1 _=>l1 q1 λy=>decide (x=("enumerate" : Str))&&glB c x&&fQ y&&okE a c y
 |.zip a b,c,e=>mCN e λx _ q1 _=>l2 q1 λy z=>decide (x=("zip" : Str))&&glB c x&&fQ y&&fQ z&&okE a c y&&okE b c z
 |.items a,c,e=>mCA e λx n ap q1 cp=>l0 q1 <| decide (n=("items" : Str))&&kN x&&(ap.endLine == cp.line)&&okE a c x
 |.dk a,c,e=>okE a c e
 |.My a,c,e=>mCN e λx _ q1 _=>l1 q1 λy=>decide (x=("range" : Str))&&glB c x&&fQ y&&okE a c y
end
def Fr(a:IE):Bool:=a.ctorIdx == (IE.comp true [] [] (.name 0) (.seq (.var 0)) .no (.var 0)).ctorIdx
@[elab_as_elim] theorem Dm{a:IE}{P:IE->Prop}(h:Fr a=true)(H:∀fz N js tg it cond A_,P (.comp fz N js tg it cond A_)):P a:=IE.comp.elim a (KG.mp h) H
def swB(c:Cfg)(scope:Scope)(x:Str)(l1 l2:Nat):Bool:=c.sc.kind == .function&&c.sc.names.lookup x == some .local&&l1 == l2&&!(scope.names.any λ(n,k)=>n == x&&(k == .local||k == .cell))
mutual
noncomputable def okS:IS->Cfg->Stmt->Bool
 |.set i a,c,s=>nAs s λq1 e _=>l1 q1 λq2=>mNa q2 λx px=>(c.N[i]? == some x)&&zu c x&&okE a c e&&(lY e||Fr a&&mLc e λ_ _ scope pos=>swB c scope x px.line pos.line||c.sc.names.lookup x == some .cell)
 |.Oe is a,c,s=>nAs s λq1 e _=>l1 q1 λq2=>mTu q2 λes _ _=>c.calm&&aX c.N c.sc c.fn is es&&yY e&&lY e&&okE a c e
 |.expr a,c,s=>nEx s λe _=>lY e&&okE a c e
 |.ret a,c,s=>nRe s λq1 _=>oS q1 λe=>okE a c e
 |.ML,_,s=>nRe s λq1 _=>oN q1 <| true
 |.ifs t a b,c,s=>nIf s λx y z _=>okT t c x&&nM a c y&&nM b c z
 |.Ls tg it body,c,s=>nFo s λN0 iter b q1 _=>l0 q1 <| c.own&&AB it N0&&c.calm&&mN iter&&okG c tg N0&&okI it c iter&&nM body c b
 |.M8 tg o body,c,s=>nFo s λN0 x b q1 _=>l0 q1 <| c.own&&c.calm&&mN x&&okG c tg N0&&okE o c x&&nM body c b
 |.M9 tg o body,c,s=>nFo s λq1 q2 b q3 _=>mTu q1 λLA x1 pt=>mCA q2 λx n ap q4 cp=>l0 q4 <| l0 q3 <| c.own&&c.calm&&decide (n=("items" : Str))&&kN x&&(ap.endLine == cp.line)&&okG c tg (.Tuple LA x1 pt)&&okE o c x&&nM body c b
 |.P9 t body,c,s=>nWh s λx b q1 _=>l0 q1 <| c.own&&okT t c x&&nM body c b
 |.app o a,c,s=>nEx s λq1 _=>mCA q1 λx m ap q2 cp=>l1 q2 λy=>decide (m=("append" : Str))&&Am x&&(ap.endLine == cp.line)&&fQ y&&okE o c x&&okE a c y
 |.del _,_,_=>false
 |.dead,_,_=>true
 |.LV o f a,c,s=>nAs s λq1 v _=>l1 q1 λq2=>mAt q2 λx m _=>decide (m=fnm f)&&lY v&&okE o c x&&okE a c v
 |.F_ o i a,c,s=>nAs s λq1 v _=>l1 q1 λq2=>mSu q2 λx y _=>mV y&&lY v&&okE o c x&&okE i c y&&okE a c v
noncomputable def nM:ISs->Cfg->List Stmt->Bool
 |.nil,_,M_=>M_.isEmpty
 |.cons s r,c,M_=>lK M_ λst aU=>okS s c st&&nM r c aU
end
structure Good (c:Cfg)(W:WC)(X:Cx)(E2:St->XK):Prop where
 N:X.N=c.N
 nd:c.N.Nodup
 sc:X.env.scope=c.sc
 un:X.A.units+64<cLine
 calm:c.calm=true->X.calm=true
 fnx:c.fn=true->∀x,X.fn x=true
 cel:∀x,c.cel.lookup x=some .cell->X.fn x=true
 own:c.own=true->PassesOwn (model X.prog X.w) X.A X.env X.xe/\∃E,(E2=λ_=>E)/\vX X E/\rJ X E/\Room 2 X.A
 tr:c.tr=true->X.stack=X.env::X.outer/\X.env.frame=some X.env.locals/\X.ex=[]
 fns:c.calm=true->∃k,Room (k+1) X.A/\∀f,f<c.fns.length->ud X W.cls k (W.e_ f) (W.call f)
 fnn:∀f x n,c.fns[f]?=some (some x,n)->X.mg x=some (.ref (W.e_ f))
 kok:∀i,i<W.nk->KOk X.K W.toWB W.e_ i
 kin:∀i,i<W.nk->∃f,W.ini i=some f
 kfi:∀i f,i<W.nk->W.ini i=some f->f<c.fns.length
 kfm:∀i m f,i<W.nk->W.mth i m=some f->f<c.fns.length
 knm:∀i x,c.kln[i]?=some x->X.mg x=some (.ref (W.c_ i))/\i<W.nk
 glo:∀k x,c.gln[k]?=some x->∃u v,X.mg x=some u/\RelV v u/\∀H,Den X.K H (W.glo k) v
 exc:∀i x,c.exc[i]?=some x->X.mg x=some (.ref (W.cls i))/\(c.xin.lookup i=none->E8 X.K (W.cls i))/\∀j,j<W.ne->PySem.W.exmOne X.K (.ref (W.cls j)) (.ref (W.cls i))=some (W.sub j i)
 exi:∀i,i<W.ne->ExcI X.K (W.cls i)/\PySem.W.kitOne X.K (.ref (W.cls i)) (.type "ValueError")=some true/\∀j x,c.exc[j]?=some x->PySem.W.kitOne X.K (.ref (W.cls i)) (.ref (W.cls j))=some (W.sub i j)
 xi:∀i f,c.xin.lookup i=some f->W.xin i=some f/\∃fI fd ps,XIni X.K (W.cls i) fI (fnm f)/\Binds X.K fd ps []/\FnOk X.prog X.w X.K X.mg X.base (CX1 X.prog X.w) 1 fI fd ps (xr (cpF f) X.K (W.cls i) (fnm f))
 xn:∀i f,i<W.ne->W.xin i=some f->NoAttr X.K (W.cls i) (fnm f)
 bi:∀x∈biNames,X.mg x=none
 dig:Dc X.K
 pass:br (CX1 X.prog X.w) X E2
section
variable {c:Cfg}{X:Cx}
theorem Good.gl(G:Good c W X E2)(h:glB c x=true):Gl X x:=by
 show X.env.scope.names.lookup x=_;rw[G.sc];exact KG.mp h
theorem Good.loc(G:Good c W X E2)(h:zu c x=true):Loc X.env.scope x/\(X.fn x=true\/X.env.scope.names.lookup x=some .local):=by
 unfold zu at h;rw[G.sc];simp only[Bool.or_eq_true,Kg,KG]at h;rcases h with (h|⟨h1,h2⟩)|⟨h1,h2⟩
 ·exact⟨.inl h,.inr h⟩
 ·exact⟨.inr h2,.inl (G.fnx h1 x)⟩
 ·exact⟨.inr h2,.inl (G.cel x h1)⟩
theorem Good.vis(G:Good c W X E2)(h:C9 c.sc x=true):Vis X.env.scope x:=by
 rw[G.sc];simp only[C9,Bool.or_eq_true,KG]at h;rcases h with (h|h)|h
 ·exact .inl h
 ·exact .inr (.inl h)
 ·exact .inr (.inr h)
theorem Good.at{i:Nat}{x:Str}(G:Good c W X E2)(h:(c.N[i]? == some x)=true):X.N[i]?=some x:=by rw[G.N];exact KG.mp h
theorem Good.ndX(G:Good c W X E2):X.N.Nodup:=by rw[G.N];exact G.nd
theorem Good.names(G:Good c W X E2)(h:aX c.N c.sc c.fn is es=true):aX X.N X.env.scope c.fn is es=true:=by rw[G.N,G.sc];exact h
theorem CK:br (CX1 P w) X no2:=λ_ _ _ _ _ _ _ h=>by
 obtain⟨_,_,_,_,_,_,_,_,_,_,_,_,_,he⟩:=h;exact he.elim
theorem Good.comp(G:Good c W X E2){N:List Str}{js:List (Option Nat)}{scope:Scope}(h:dg N js scope c.sc c.N=true)(C:Addr)(s2:Shared)(H2:Hp)(fp:List Addr)(pn:List (Addr×Obj)):Good (c.comp N scope) W (compCx X scope C N s2 H2 fp pn) no2:=by
 have hc:=mq h;refine⟨rfl,hc.nd,?_,G.un,G.calm,(λz=>nomatch z),(λx z=>KG.mpr z),(λz=>nomatch z),(λz=>nomatch z),G.fns,G.fnn,G.kok,G.kin,G.kfi,G.kfm,G.knm,G.glo,G.exc,G.exi,G.xi,G.xn,G.bi,G.dig,CK⟩
 show relabel scope X.env=FY scope c.sc;rw[<-G.sc];rfl
end
theorem cg(h:fQ e=true):starEach (e::es) env=(false,eval e env)::starEach es env:=by
 cases e<;>first|rfl|cases h
theorem rT(h:mN e=true):∀x,foldedSetIterable e env x=pure x:=by
 intro x;cases e<;>first|rfl|cases h
theorem jm(h:mN e=true):behindInMarks op e=false:=by
 cases e<;>first|rfl|cases h
theorem kJ(h:lY e=true):swapsWith e t n env=pure false:=by
 cases e<;>first|rfl|cases h
theorem tV{e:Expr}(h:wR e=true):∀whole,isTrue e env whole=(do let v<-whole;standAt e.pos;holding [v] (truthy v)):=by
 intro whole;cases e<;>first|rfl|cases h
theorem yL(h:mV e=true):m8 e:=by
 intro o i;cases e<;>first|rfl|cases h
theorem BZ{e:Expr}{m:Str}{env:Env}{whole:Sem Value}(h:Am e=true):attributeBase e m env whole=whole:=by
 cases e<;>first|rfl|cases h
theorem c4{e:Expr}{m:Str}{env:Env}{whole:Sem Value}(h:kN e=true):attributeBase e m env whole=whole:=by
 cases e with
 |Call f as ks p=>
  cases f with
  |Name x px=>
   cases as with
   |nil=>
    cases ks with
    |nil=>cases h
    |cons _ _=>rfl
   |cons _ _=>rfl
  |_=>rfl
 |_=>rfl
theorem BU(h:mV i=true):∀v,assign (.Subscript o i p) env v=(do
   let ov<-holding [v] (eval o env)
   let iv<-holding [v,ov] (eval i env)
   standAt p
   holding [v,ov,iv] (setItem ov iv v)
   release [v,ov,iv] []):=by
 intro v;cases i<;>first|rfl|cases h
theorem vO(h:yY e=true):swappedStores [.Tuple es k p] e env=pure none:=by
 cases e<;>first|rfl|cases h
theorem eI(pos:Pos):∀{r:IA}{c:Cfg}{es:List Expr}{env:Env},okA r c es=true->(backTo pos (starEach es env)).any (·.1)=false
 |.nil,c,es,env,h=>by
  cases es with
  |nil=>rfl
  |cons _ _=>cases h
 |.cons a r,c,es,env,h=>by
  refine iy h λx xs h=>?_
  simp only[Kg]at h;rw[cg h.1.1];show (false||(backTo pos (starEach xs env)).any (·.1))=false
  rw[eI pos h.2];rfl
theorem z7(h:PE X a t):PE X (.BoolOp op [a] pos) t:=BF h
theorem AN(b:BI):((ky b:String):Str)∈biNames:=by
 cases b with
 |list fz=>cases fz<;>decide +kernel
 |sorted fz=>cases fz<;>decide +kernel
 |_=>decide +kernel
theorem AR(t:BT):((b9 t:String):Str)∈biNames:=by cases t<;>decide +kernel
theorem ye{X:Cx}(hu:X.A.units+64<cLine)(hc:X.calm=true)(hd:Dc X.K)(hg:Gl X (ky b:String))(hm:X.mg (ky b:String)=none)(ha:PA X (e::es) (eN X.K cls E2 tr))
  (he:starEach (e::es) X.env=(false,eval e X.env)::starEach es X.env) (LJ:(backTo pos (starEach es X.env)).any (·.1)=false):PE X (.Call (.Name (ky b:String) p) (e::es) [] pos) (low X.K cls E2 λZ M Q E=>tr Z M (λxs M1=>rBi b xs M1 Q) E):=by
 cases b with
 |len=>exact fG Br hg hm (by decide +kernel) ha (by decide +kernel) (by decide +kernel) he LJ
 |max=>exact fG (Dl hc) hg hm (by decide +kernel) ha (by decide +kernel) (by decide +kernel) he LJ
 |min=>exact fG (Cf hc) hg hm (by decide +kernel) ha (by decide +kernel) (by decide +kernel) he LJ
 |list fz=>exact zf (yH fz hc) hg hm (by cases fz<;>decide +kernel) ha (by cases fz<;>decide +kernel) (by cases fz<;>decide +kernel) he LJ
 |sorted fz=>exact fG (ut fz) hg hm (by cases fz<;>decide +kernel) ha (by cases fz<;>decide +kernel) (by cases fz<;>decide +kernel) he LJ
 |all=>exact fG (Au true hc) hg hm (by decide +kernel) ha (by decide +kernel) (by decide +kernel) he LJ
 |any=>exact fG (Au false hc) hg hm (by decide +kernel) ha (by decide +kernel) (by decide +kernel) he LJ
theorem xU{X:Cx}{o_ pos:Pos}(hu:X.A.units+64<cLine)(ho:PE X o (low X.K cls E2 to))(ha:PA X (e::es) (eN X.K cls E2 tr))
  (hb:attributeBase o (jG b:String) X.env (eval o X.env)=eval o X.env) (hn:(e::es).length<30) (hl:(o_.endLine == pos.line)=true) (he:starEach (e::es) X.env=(false,eval e X.env)::starEach es X.env) (LJ:(backTo pos (starEach es X.env)).any (·.1)=false) :
  PE X (.Call (.Attribute o (jG b:String) o_) (e::es) [] pos) (low X.K cls E2 λZ M Q E=>to Z M (λx M1=>tyB b x M1=true/\tr Z M1 (λxs M2=>rBm b x xs M2 Q) E) E):=by
 cases b with
 |get=>exact xY PySem.F.plainAttrs_dict PySem.F.slot_dict_get PySem.F.type_dict_get (vd hu) nV ho ha hb hn hl he LJ
 |extend=>exact xY PySem.F.plainAttrs_list PySem.F.slot_list_extend PySem.F.type_list_extend lT gU ho ha hb hn hl he LJ
 |remove=>exact xY PySem.F.plainAttrs_list PySem.F.slot_list_remove PySem.F.type_list_remove (ml hu) gU ho ha hb hn hl he LJ
 |Lv=>exact xY PySem.F.plainAttrs_dict PySem.F.slot_dict_setdefault PySem.F.type_dict_setdefault my oY ho ha hb hn hl he LJ
theorem uY{X:Cx}{o_ pos:Pos}(hu:X.A.units+64<cLine)(ho:PE X o (low X.K cls E2 to))
  (hb:attributeBase o (jG b:String) X.env (eval o X.env)=eval o X.env) (hl:(o_.endLine == pos.line)=true) :
  PE X (.Call (.Attribute o (jG b:String) o_) [] [] pos) (low X.K cls E2 λZ M Q E=>to Z M (λx M1=>tyB b x M1=true/\rBm b x [] M1 Q) E):=by
 cases b with
 |get=>exact rj PySem.F.plainAttrs_dict PySem.F.slot_dict_get PySem.F.type_dict_get (vd hu) nV ho hb hl
 |extend=>exact rj PySem.F.plainAttrs_list PySem.F.slot_list_extend PySem.F.type_list_extend lT gU ho hb hl
 |remove=>exact rj PySem.F.plainAttrs_list PySem.F.slot_list_remove PySem.F.type_list_remove (ml hu) gU ho hb hl
 |Lv=>exact rj PySem.F.plainAttrs_dict PySem.F.slot_dict_setdefault PySem.F.type_dict_setdefault my oY ho hb hl
theorem eG(h:okA (.cons a r) c es=true):∃x xs,es=x::xs/\fQ x=true/\okE a c x=true/\okA r c xs=true:=by
 refine iy h λx xs h=>?_
 simp only[Kg]at h;exact⟨x,xs,rfl,h.1.1,h.1.2,h.2⟩
def G8:IT->Bool
 |.and _ _=>true
 |.or _ _=>true
 |_=>false
section
variable {W:WC}
theorem sG:∀(tg:ITg) {c:Cfg}{e:Expr}{X:Cx}{E2:St->XK},okG c tg e=true->Good c W X E2->PG X e (k7 X.K (wpG tg))
 |.name i,c,e,X,E2,h,G=>by
  refine iR h λ_ _ h=>?_
  simp only[Kg]at h;obtain⟨l1,l2⟩:=G.loc h.2;exact A0 G.ndX (G.at h.1) l1 l2
 |.tup is,c,e,X,E2,h,G=>by
  refine fO h λ_ _ _ h=>?_
  simp only[Kg]at h;exact Aj (G.calm h.1) G.ndX G.fnx (G.names h.2)
 |.MK is j,c,e,X,E2,h,G=>by
  refine fO h λq1 _ _ h=>?_
  refine qm h λq2 q3 h=>?_
  refine fO h λ_ _ _ h=>?_
  refine iR h λ_ _ h=>?_
  simp only[Kg]at h;exact C4 (G.calm h.1.1) G.ndX G.fnx (G.names h.1.2) (G.names h.2)
mutual
theorem sE:∀(ie:IE) {c:Cfg}{e:Expr}{X:Cx}{E2:St->XK},okE ie c e=true->Good c W X E2->PE X e (low X.K W.cls E2 (wpE W ie))
 |.var i,c,e,X,E2,h,G=>by
  refine iR h λ_ _ h=>?_
  simp only[Kg,Bool.not_eq_true']at h;exact EA (G.at h.1.1.1) (G.vis h.1.1.2) h.1.2 h.2
 |.con d,c,e,X,E2,h,G=>by
  refine DU h λk _ _ h=>?_
  cases d with
  |int j=>exact G1 h λi h=>by cases Ld h;exact ou Ce λ_=>rfl
  |bl j=>exact GZ h λi h=>by cases Ld h;exact ou Ev λ_=>rfl
  |i_=>exact Iw h (ou CJ λ_=>rfl)
  |str j=>exact Iq h λi h=>by cases Ld h;exact ou Cg λ_=>rfl
  |_=>exact absurd h Ku
 |.bin op a b,c,e,X,E2,h,G=>by
  refine Ab h λ_ _ _ _ h=>?_
  simp only[Kg,Ks]at h;obtain⟨⟨rfl,h1⟩,h2⟩:=h;exact FZ (Bz op) (sE a h1 G) (sE b h2 G)
 |.neg a,c,e,X,E2,h,G=>by
  refine wA h λ_ _ _ h=>?_
  simp only[Kg,Ks]at h;obtain⟨rfl,h1⟩:=h;exact Id (ta:=wpE W a) (r:=rNeg) CW (sE a h1 G)
 |.cat fz a b,c,e,X,E2,h,G=>by
  refine Ab h λ_ _ _ _ h=>?_
  simp only[Kg,Ks]at h;obtain⟨⟨rfl,h1⟩,h2⟩:=h;exact FX (sE a h1 G) (sE b h2 G)
 |.cmp op a b,c,e,X,E2,h,G=>by
  refine rG h λ_ q1 q2 _ h=>?_
  refine d9 h λ_ h=>?_
  refine d9 h λ_ h=>?_
  simp only[Kg,Ks]at h;obtain⟨⟨⟨rfl,h0⟩,h1⟩,h2⟩:=h;exact DW (iO G.un op) (sE a h1 G) (sE b h2 G) (jm h0)
 |.chain op1 op2 a b d,c,e,X,E2,h,G=>by
  refine rG h λ_ q1 q2 _ h=>?_
  refine qm h λ_ _ h=>?_
  refine qm h λ_ _ h=>?_
  simp only[Kg,Ks]at h;obtain⟨⟨⟨⟨⟨rfl,rfl⟩,h0⟩,h1⟩,h2⟩,h3⟩:=h;exact zL (iO G.un op1) (iO G.un op2) (sE a h1 G) (sE b h2 G) (sE d h3 G) (jm h0)
 |.and a b,c,e,X,E2,h,G=>by
  refine rZ h λop q1 p h=>?_
  refine iy h λx q2 h=>?_
  refine iy h λy r h=>?_
  simp only[Kg,Ks]at h;obtain⟨⟨rfl,h1⟩,h2⟩:=h;cases r with
  |nil=>exact As (sE a h1 G) (z7 (sE b h2 G))
  |cons z r=>exact As (sE a h1 G) (sE b h2 G)
 |.or a b,c,e,X,E2,h,G=>by
  refine rZ h λop q1 p h=>?_
  refine iy h λx q2 h=>?_
  refine iy h λy r h=>?_
  simp only[Kg,Ks]at h;obtain⟨⟨rfl,h1⟩,h2⟩:=h;cases r with
  |nil=>exact DC (sE a h1 G) (z7 (sE b h2 G))
  |cons z r=>exact DC (sE a h1 G) (sE b h2 G)
 |.not a,c,e,X,E2,h,G=>by
  refine wA h λ_ _ _ h=>?_
  simp only[Kg,Ks]at h;obtain⟨rfl,h1⟩:=h;exact Eh (sE a h1 G)
 |.tup es,c,e,X,E2,h,G=>by
  refine fO h λ_ _ _ h=>?_
  exact Ek (sA es h G)
 |.lst fz es,c,e,X,E2,h,G=>by
  refine F5 h λ_ _ h=>?_
  exact FW (sA es h G)
 |.u_ a,c,e,X,E2,h,G=>by
  exact FH (sE a h G)
 |.ix a b,c,e,X,E2,h,G=>by
  refine vJ h λ_ _ _ h=>?_
  simp only[Kg]at h;exact Hb G.un (sE a h.1.2 G) (sE b h.2 G) (yL h.1.1)
 |.sl fz a lo hi,c,e,X,E2,h,G=>by
  refine vJ h λ_ q1 _ h=>?_
  refine E1 h λ_ _ q2 _ h=>?_
  refine EG h λh=>?_
  simp only[Kg]at h;exact Hd (sE a h.1.1 G) (sO lo h.1.2 G) (sO hi h.2 G)
 |.call f es,c,e,X,E2,h,G=>by
  refine i6 h λx px args pos h=>?_
  simp only[Kg,Bool.not_eq_true']at h;obtain⟨⟨⟨⟨h0,h1⟩,h2⟩,h3⟩,h4⟩:=h;split at h1
  ·rename_i p hp;simp only[Ks]at h1;obtain⟨p1,p2⟩:=p;cases h1;obtain⟨k,hr,hF⟩:=G.fns h0;obtain⟨fd,ps,Uq,m2,m3,m5⟩:=hF f (KP.mp hp).1;have m1:=G.fnn f x p2 hp;have m4:=hr.mono (Ln k);have hA:=sA es h4 G;cases args with
   |nil=>
    cases es with
    |nil=>exact yo m5 m4 (G.gl h2) m1 m2 m3 G.pass h3
    |cons _ _=>exact absurd h4 Ku
   |cons z zs=>
    cases es with
    |nil=>exact absurd h4 Ku
    |cons ea er=>
     obtain⟨_,_,e1,n1,_,n3⟩:=eG h4;cases e1;exact Ca m5 m4 (G.gl h2) m1 m2 m3 G.pass hA h3 (cg n1) (eI _ n3)
  ·cases h1
 |.bi b es,c,e,X,E2,h,G=>by
  refine i6 h λx px args pos h=>?_
  simp only[Kg,Ks]at h;obtain⟨⟨⟨⟨h0,rfl⟩,h2⟩,h3⟩,h4⟩:=h;have hA:=sA es h4 G;cases args with
  |nil=>cases h3
  |cons z zs=>
   cases es with
   |nil=>exact absurd h4 Ku
   |cons ea er=>
    obtain⟨_,_,e1,n1,_,n3⟩:=eG h4;cases e1;exact ye G.un (G.calm h0) G.dig (G.gl h2) (G.bi _ (AN b)) hA (cg n1) (eI _ n3)
 |.MJ a t,c,e,X,E2,h,G=>by
  refine i6 h λ_ _ q1 _ h=>?_
  refine qm h λ_ q2 h=>?_
  refine iR h λ_ _ h=>?_
  simp only[Kg,Ks]at h;obtain⟨⟨⟨⟨⟨rfl,rfl⟩,h2⟩,h3⟩,h4⟩,h5⟩:=h;exact E6 (sE a h5 G) (G.gl h2) (G.bi _ (by decide +kernel)) (G.gl h3) (G.bi _ (AR t)) (cg h4)
 |.MZ a b,c,e,X,E2,h,G=>by
  refine Ac h λq1 q2 _ h=>?_
  refine d9 h λq3 h=>?_
  refine Du h λ_ h=>?_
  refine d9 h λ_ h=>?_
  simp only[Kg]at h;exact A9 G.un (sE a h.1 G) (sE b h.2 G)
 |.comp fz N js tg it cond A_,c,e,X,E2,h,G=>by
  refine vg h λ_ q1 _ _ h=>?_
  refine d9 h λq2 h=>?_
  refine A8 h λ_ _ _ _ h=>?_
  simp only[Kg,Ks]at h;obtain⟨⟨⟨⟨⟨⟨⟨⟨h0,rfl⟩,ht⟩,h1⟩,h2⟩,h3⟩,h4⟩,h5⟩,h6⟩:=h;have j_:=h2;rw[<-G.sc,<-G.N]at j_;exact Cb j_ (G.calm h0) (sI it h3 G ht) (λC s2 H2 fp pn=>sG tg h4 (G.comp h2 C s2 H2 fp pn)) (λC s2 H2 fp pn=>sTO cond h5 (G.comp h2 C s2 H2 fp pn)) (λC s2 H2 fp pn=>sE A_ h6 (G.comp h2 C s2 H2 fp pn)) (rT h1) fz
 |.Mp N js tg o cond A_,c,e,X,E2,h,G=>by
  refine vg h λ_ q1 _ _ h=>?_
  refine d9 h λq2 h=>?_
  refine A8 h λq3 q4 _ _ h=>?_
  refine fO h λ_ _ _ h=>?_
  refine jT h λ_ _ _ q5 _ h=>?_
  refine jf h λh=>?_
  simp only[Kg,Ks]at h;obtain⟨⟨⟨⟨⟨⟨⟨⟨⟨h0,rfl⟩,rfl⟩,h1⟩,hl⟩,h2⟩,h3⟩,h4⟩,h5⟩,h6⟩:=h;have j_:=h2;rw[<-G.sc,<-G.N]at j_;exact xO j_ (G.calm h0) (sE o h3 G) (c4 h1) hl (λC s2 H2 fp pn=>sG tg h4 (G.comp h2 C s2 H2 fp pn)) (λC s2 H2 fp pn=>sTO cond h5 (G.comp h2 C s2 H2 fp pn)) (λC s2 H2 fp pn=>sE A_ h6 (G.comp h2 C s2 H2 fp pn)) (λx=>rfl)
 |.Pc a,c,e,X,E2,h,G=>by
  refine i6 h λ_ _ q1 _ h=>?_
  refine d9 h λ_ h=>?_
  simp only[Kg,Ks]at h;obtain⟨⟨⟨⟨h0,rfl⟩,h1⟩,h2⟩,h3⟩:=h;exact Fo (G.calm h0) G.un (sE a h3 G) (G.gl h1) (G.bi _ (by decide +kernel)) (cg h2)
 |.fld a f,c,e,X,E2,h,G=>by
  refine wN h λ_ _ _ h=>?_
  simp only[Kg,Ks]at h;obtain⟨⟨rfl,h1⟩,h2⟩:=h;exact Ff G.kok (sE a h2 G) (c4 h1)
 |.make fz i es,c,e,X,E2,h,G=>by
  refine i6 h λx px args pos h=>?_
  simp only[Kg,Bool.not_eq_true']at h;obtain⟨⟨⟨⟨h0,h1⟩,h2⟩,h3⟩,h4⟩:=h;obtain⟨m1,hi⟩:=G.knm i x (KG.mp h1);obtain⟨k,hr,hF⟩:=G.fns h0;have hA:=sA es h4 G;cases q:W.ini i with
  |none=>exact absurd q (by obtain⟨f,hf⟩:=G.kin i hi;rw[hf];exact λz=>nomatch z)
  |some f=>
   have F:=hF f (G.kfi i f hi q);cases args with
   |nil=>
    cases es with
    |nil=>exact (zO (B:=W.toWB) (fz:=fz) (G.gl h2) m1 h3 ((G.kok i hi).mkr f q) F hr G.pass).imp λZ H Q2 k_=>ex9 k_ λh_ M Q E3 rm ds lk hh b_=>⟨h_,M,Q,E3,rm,ds,lk,by rw[show wpE W (.make fz i .nil) h_ M Q E3=(i<W.nk/\gc (W.ini i) _) from rfl,q]at hh;exact hh.2,b_⟩
    |cons _ _=>exact absurd h4 Ku
   |cons z zs=>
    cases es with
    |nil=>exact absurd h4 Ku
    |cons ea er=>
     obtain⟨_,_,e1,n1,_,n3⟩:=eG h4;cases e1;have QW:PA X (z::zs) (eN X.K W.cls E2 λZ M Q E=>wpA W (.cons ea er) Z M (λxs M1=>i<W.nk/\Q xs M1) E):=hA.imp λZ H Q2 k_=>ex9 k_ λh_ M Q E3 rm ds lk hh b_=>⟨h_,M,_,E3,rm,ds,lk,hh,λvs H' xs M' a b c d=>b_ vs H' xs M' a b c d.2⟩
     exact (AK (B:=W.toWB) (fz:=fz) (G.gl h2) m1 h3 ((G.kok i hi).mkr f q) F hr G.pass QW (cg n1) (eI _ n3)).imp λZ H Q2 k_=>ex9 k_ λh_ M Q E3 rm ds lk hh b_=>⟨h_,M,Q,E3,rm,ds,lk,by rw[show wpE W (.make fz i (.cons ea er)) h_ M Q E3=wpA W (.cons ea er) h_ M (λxs M1=>i<W.nk/\gc (W.ini i) _) E3 from rfl,q]at hh;exact hh,b_⟩
 |.v_ a m es,c,e,X,E2,h,G=>by
  refine jT h λx n ap args cp h=>?_
  simp only[Kg,Ks]at h;obtain⟨⟨⟨⟨⟨⟨h0,rfl⟩,h1⟩,h2⟩,h3⟩,h4⟩,h5⟩:=h;obtain⟨k,hr,hF⟩:=G.fns h0;have hA:=sA es h5 G;cases args with
  |nil=>
   cases es with
   |nil=>exact xX (B:=W.toWB) G.kok (λi m f hi q=>hF f (G.kfm i m f hi q)) (hr.mono (Ln k)) G.pass (sE a h4 G) (c4 h1) h2
   |cons _ _=>exact absurd h5 Ku
  |cons z zs=>
   cases es with
   |nil=>exact absurd h5 Ku
   |cons ea er=>
    obtain⟨_,_,e1,n1,_,n3⟩:=eG h5;cases e1;exact CC (B:=W.toWB) G.kok (λi m f hi q=>hF f (G.kfm i m f hi q)) (hr.mono (Ln k)) G.pass (sE a h4 G) hA (c4 h1) h2 h3 (cg n1) (eI _ n3)
 |.ini i es,c,e,X,E2,h,G=>by
  refine jT h λq1 n ap args cp h=>?_
  refine iR h λx px h=>?_
  simp only[Kg,Ks,Bool.not_eq_true']at h;obtain⟨⟨⟨⟨⟨⟨⟨⟨h0,rfl⟩,h1⟩,h2⟩,h3⟩,h4⟩,h5⟩,h6⟩,h7⟩:=h;obtain⟨m1,hi⟩:=G.knm i x (KG.mp h1);obtain⟨k,hr,hF⟩:=G.fns h0;have hA:=sA es h7 G;cases args with
  |nil=>cases h6
  |cons z zs=>
   cases es with
   |nil=>exact absurd h7 Ku
   |cons ea er=>
    obtain⟨_,_,e1,n1,_,n3⟩:=eG h7;cases e1;cases q:W.ini i with
    |none=>exact absurd q (by obtain⟨f,hf⟩:=G.kin i hi;rw[hf];exact λz=>nomatch z)
    |some f=>
     have QW:PA X (z::zs) (eN X.K W.cls E2 λZ M Q E=>wpA W (.cons ea er) Z M (λxs M1=>i<W.nk/\Q xs M1) E):=hA.imp λZ H Q2 k_=>ex9 k_ λh_ M Q E3 rm ds lk hh b_=>⟨h_,M,_,E3,rm,ds,lk,hh,λvs H' xs M' a b c d=>b_ vs H' xs M' a b c d.2⟩
     exact (EY (B:=W.toWB) (G.gl h2) m1 h3 ((G.kok i hi).ci f q) (hF f (G.kfi i f hi q)) (hr.mono (Ln k)) G.pass QW h4 h5 (cg n1) (eI _ n3)).imp λZ H Q2 k_=>ex9 k_ λh_ M Q E3 rm ds lk hh b_=>⟨h_,M,Q,E3,rm,ds,lk,by rw[show wpE W (.ini i (.cons ea er)) h_ M Q E3=wpA W (.cons ea er) h_ M (λxs M1=>i<W.nk/\gc (W.ini i) _) E3 from rfl,q]at hh;exact hh,b_⟩
 |.glo k,c,e,X,E2,h,G=>by
  refine iR h λx px h=>?_
  simp only[Kg,Bool.not_eq_true']at h;obtain⟨u,v,m1,r,hd⟩:=G.glo k x (KG.mp h.1.1);exact FE (G.gl h.1.2) m1 r h.2 hd
 |.bm b o es,c,e,X,E2,h,G=>by
  refine jT h λx n ap args cp h=>?_
  simp only[Kg,Ks]at h;obtain⟨⟨⟨⟨⟨⟨h0,rfl⟩,h1⟩,h2⟩,h3⟩,h4⟩,h5⟩:=h;have hA:=sA es h5 G;cases args with
  |nil=>
   cases es with
   |nil=>exact uY G.un (sE o h4 G) (c4 h1) h2
   |cons _ _=>exact absurd h5 Ku
  |cons z zs=>
   cases es with
   |nil=>exact absurd h5 Ku
   |cons ea er=>
    obtain⟨_,_,e1,n1,_,n3⟩:=eG h5;cases e1;exact xU G.un (sE o h4 G) hA (c4 h1) h3 h2 (cg n1) (eI _ n3)
 |.LH tk,c,e,X,E2,h,G=>by
  refine Ac h λq1 q2 _ h=>?_
  refine jf h λh=>?_
  refine jf h λh=>?_
  exact Ay tk
theorem sT:∀(it:IT) {c:Cfg}{e:Expr}{X:Cx}{E2:St->XK},okT it c e=true->Good c W X E2->PT X e (cu X.K W.cls E2 (wpT W it))/\(G8 it=true->PW X e (cu X.K W.cls E2 (wpT W it)))
 |.val a,c,e,X,E2,h,G=>by
  have h:=Lm.mp (show (wR e&&okE a c e)=true from h);exact⟨FI (sE a h.2 G) (tV h.1),λz=>nomatch z⟩
 |.cmp op a b,c,e,X,E2,h,G=>by
  refine rG h λ_ q1 q2 _ h=>?_
  refine d9 h λ_ h=>?_
  refine d9 h λ_ h=>?_
  simp only[Kg,Ks]at h;obtain⟨⟨⟨rfl,h0⟩,h1⟩,h2⟩:=h;exact⟨EK (iO G.un op) (sE a h1 G) (sE b h2 G) (jm h0),λz=>nomatch z⟩
 |.chain op1 op2 a b d,c,e,X,E2,h,G=>by
  refine rG h λ_ q1 q2 _ h=>?_
  refine qm h λ_ _ h=>?_
  refine qm h λ_ _ h=>?_
  simp only[Kg,Ks]at h;obtain⟨⟨⟨⟨⟨rfl,rfl⟩,h0⟩,h1⟩,h2⟩,h3⟩:=h;exact⟨zE (iO G.un op1) (iO G.un op2) (sE a h1 G) (sE b h2 G) (sE d h3 G) (jm h0),λz=>nomatch z⟩
 |.and a b,c,e,X,E2,h,G=>by
  refine rZ h λop q1 p h=>?_
  refine iy h λx q2 h=>?_
  refine iy h λy r h=>?_
  simp only[Kg,Ks]at h;obtain⟨⟨rfl,h1⟩,h2⟩:=h;have hA:=(sT a h1 G).1;cases r with
  |nil=>exact⟨(sM hA (sy (sT b h2 G).1)).pt,λ_=>sM hA (sy (sT b h2 G).1)⟩
  |cons z r=>
   have hB:=(sT b h2 G).2;cases b with
   |and b1 b2=>exact⟨(sM hA (hB rfl)).pt,λ_=>sM hA (hB rfl)⟩
   |_=>exact absurd h2 Ku
 |.or a b,c,e,X,E2,h,G=>by
  refine rZ h λop q1 p h=>?_
  refine iy h λx q2 h=>?_
  refine iy h λy r h=>?_
  simp only[Kg,Ks]at h;obtain⟨⟨rfl,h1⟩,h2⟩:=h;have hA:=(sT a h1 G).1;cases r with
  |nil=>exact⟨(yj hA (vF (sT b h2 G).1)).pt,λ_=>yj hA (vF (sT b h2 G).1)⟩
  |cons z r=>
   have hB:=(sT b h2 G).2;cases b with
   |or b1 b2=>exact⟨(yj hA (hB rfl)).pt,λ_=>yj hA (hB rfl)⟩
   |_=>exact absurd h2 Ku
 |.not a,c,e,X,E2,h,G=>by
  refine wA h λ_ _ _ h=>?_
  simp only[Kg,Ks]at h;obtain⟨rfl,h1⟩:=h;exact⟨ET (sT a h1 G).1,λz=>nomatch z⟩
theorem sA:∀(ia:IA) {c:Cfg}{es:List Expr}{X:Cx}{E2:St->XK},okA ia c es=true->Good c W X E2->PA X es (eN X.K W.cls E2 (wpA W ia))
 |.nil,c,es,X,E2,h,G=>by
  cases es with
  |nil=>exact Fj
  |cons _ _=>exact absurd h Ku
 |.cons a r,c,es,X,E2,h,G=>by
  obtain⟨x,xs,rfl,h1,h2,h3⟩:=eG h;exact A7 (sE a h2 G) (sA r h3 G) (cg h1)
theorem sO:∀(io:IO) {c:Cfg}{o:Option Expr}{X:Cx}{E2:St->XK},okO io c o=true->Good c W X E2->PO X o (uj X.K W.cls E2 (wpO W io))
 |.no,c,o,X,E2,h,G=>by
  cases o with
  |none=>exact Hy
  |some _=>exact absurd h Ku
 |.yes a,c,o,X,E2,h,G=>by
  exact Du h λx h=>DG (sE a h G)
theorem sTO:∀(io:ITO) {c:Cfg}{es:List Expr}{X:Cx}{E2:St->XK},Cp io c es=true->Good c W X E2->PIf X es (cu X.K W.cls E2 (kY W io))
 |.no,c,es,X,E2,h,G=>by
  cases es with
  |nil=>exact λa_ s Z H Q2 I ⟨h_,M,Q,E3,rm,ds,lk,h,b_⟩=>yw a_ s Z H Q2 I (b_ _ _ _ rm (.refl _) h)
  |cons _ _=>exact absurd h Ku
 |.yes t,c,es,X,E2,h,G=>by
  refine d9 h λ_ h=>?_
  exact yK (sT t h G).1
theorem sI:∀(ii:II) {c:Cfg}{e:Expr}{X:Cx}{E2:St->XK}{tg:Expr},okI ii c e=true->Good c W X E2->AB ii tg=true->PI X tg e (lm X.K W.cls E2 (wpI W ii))
 |.seq a,c,e,X,E2,tg,h,G,_=>by
  exact E4 (sE a h G)
 |.enum a,c,e,X,E2,tg,h,G,ht=>by
  refine i6 h λ_ _ q1 _ h=>?_
  refine d9 h λ_ h=>?_
  simp only[Kg,Ks]at h;obtain⟨⟨⟨rfl,h1⟩,h2⟩,h3⟩:=h;have hA:=sE a h3 G;exact fO ht λ_ _ _ _=>Cr (G.gl h1) (G.bi _ (by decide +kernel)) hA (cg h2)
 |.zip a b,c,e,X,E2,tg,h,G,ht=>by
  refine i6 h λ_ _ q1 _ h=>?_
  refine qm h λ_ _ h=>?_
  simp only[Kg,Ks]at h;obtain⟨⟨⟨⟨⟨rfl,h1⟩,h2⟩,h3⟩,h4⟩,h5⟩:=h;have hA:=sE a h4 G;have hB:=sE b h5 G;exact fO ht λ_ _ _ _=>Ef (G.gl h1) (G.bi _ (by decide +kernel)) hA hB (by rw[cg h2,cg h3];rfl) (cg h3)
 |.items a,c,e,X,E2,tg,h,G,ht=>by
  refine jT h λ_ _ _ q1 _ h=>?_
  refine jf h λh=>?_
  simp only[Kg,Ks]at h;obtain⟨⟨⟨rfl,h1⟩,h2⟩,h3⟩:=h;have hA:=sE a h3 G;exact fO ht λ_ _ _ _=>yC hA (c4 h1) h2
 |.dk a,c,e,X,E2,tg,h,G,_=>by
  exact Hi (sE a h G)
 |.My a,c,e,X,E2,tg,h,G,_=>by
  refine i6 h λ_ _ q1 _ h=>?_
  refine d9 h λ_ h=>?_
  simp only[Kg,Ks]at h;obtain⟨⟨⟨rfl,h1⟩,h2⟩,h3⟩:=h;exact Ik (G.gl h1) (G.bi _ (by decide +kernel)) (sE a h3 G) (cg h2)
end
end
theorem uX{X:Cx}(G:Good c W X E2){pos px L3:Pos}(h:swB c scope x px.line pos.line=true) :
  swapsWith (.ListComp el gs scope pos) (some (.Name x px)) L3.line X.env=pure true:=by
 unfold swB at h;simp only[Kg]at h;have h1:X.env.scope.kind=.function:=by rw[G.sc];exact KG.mp h.1.1.1
 have h2:X.env.kindOf x=some .local:=by show X.env.scope.names.lookup x=_;rw[G.sc];exact KG.mp h.1.1.2
 have hb:(X.env.blockKind == .function)=true:=by
  unfold Env.blockKind;rw[h1];rfl
 show (pure (X.env.blockKind == .function&&X.env.kindOf x == some .local&&px.line == pos.line&&!(scope.names.any λ(n,k)=>n == x&&(k == .local||k == .cell))):Sem Bool)=pure true
 rw[hb,h2,h.1.2,h.2];rfl
theorem AW{c:Cfg}{X:Cx}(G:Good c W X E2){L3:Pos}(h:(c.sc.names.lookup x == some .cell)=true) :
  swapsWith (.ListComp el gs scope pos) (some (.Name x px)) L3.line X.env=pure false:=by
 have h2:X.env.kindOf x=some .cell:=by show X.env.scope.names.lookup x=_;rw[G.sc];exact KG.mp h
 show (pure (X.env.blockKind == .function&&X.env.kindOf x == some .local&&px.line == pos.line&&!(scope.names.any λ(n,k)=>n == x&&(k == .local||k == .cell))):Sem Bool)=pure false
 rw[h2,show ((some NameKind.cell:Option NameKind) == some .local)=false from rfl,Bool.and_false];rfl
theorem yO{c:Cfg}(h:swB c scope x a b=true):c.sc.names.lookup x=some .local:=by
 unfold swB at h;simp only[Kg,KG]at h;exact h.1.1.2
section
variable {W:WC}
theorem xy{fz:Bool}{N:List Str}{js:List (Option Nat)}{tg:ITg}{it:II}{cond:ITO}{A_:IE}{c:Cfg}{X:Cx}{E2:St->XK}{i:Nat}{x:Str}{px L3 pos:Pos}{el:Expr}{gs:List Comprehension}{scope:Scope}
  (h:okE (.comp fz N js tg it cond A_) c (.ListComp el gs scope pos)=true) (hi:(c.N[i]? == some x)=true) (Ob:swB c scope x px.line pos.line=true) (G:Good c W X E2) :
  PS X (.Assign [.Name x px] (.ListComp el gs scope pos) L3) (bH X.K W.cls E2 (wpS W (.set i (.comp fz N js tg it cond A_)))):=by
 refine d9 (show l1 gs _=true from h) λg h=>?_
 refine A8 h λN0 iter ifs as h=>?_
 ·simp only[Kg,Ks]at h;obtain⟨⟨⟨⟨⟨⟨⟨⟨h0,rfl⟩,ht⟩,h1⟩,h2⟩,h3⟩,h4⟩,h5⟩,h6⟩:=h;have j_:=h2;rw[<-G.sc,<-G.N]at j_;exact qA j_ (G.calm h0) (sI it h3 G ht) (λC s2 H2 fp pn=>sG tg h4 (G.comp h2 C s2 H2 fp pn)) (λC s2 H2 fp pn=>sTO cond h5 (G.comp h2 C s2 H2 fp pn)) (λC s2 H2 fp pn=>sE A_ h6 (G.comp h2 C s2 H2 fp pn)) (rT h1) G.ndX (G.at hi) (by rw[G.sc];exact yO Ob) (uX G Ob) fz
mutual
theorem sS:∀(is:IS) {c:Cfg}{s:Stmt}{X:Cx}{E2:St->XK},okS is c s=true->Good c W X E2->PS X s (bH X.K W.cls E2 (wpS W is))
 |.set i a,c,s,X,E2,h,G=>by
  refine rq h λq1 e _ h=>?_
  refine d9 h λq2 h=>?_
  refine iR h λx px h=>?_
  simp only[Kg,Bool.or_eq_true]at h;obtain⟨⟨⟨h1,h2⟩,h3⟩,h4⟩:=h;obtain⟨l1,l2⟩:=G.loc h2;rcases h4 with h4|⟨h5,h4⟩
  ·exact Ah G.ndX (G.at h1) l1 (sE a h3 G) (kJ h4) l2
  ·revert h3;refine vg h4 λel gs scope pos h4=>?_
   refine Dm h5 λfz N js tg it cond A_ h3=>?_
   rcases Bool.or_eq_true_iff.mp h4 with h4|h4
   ·exact xy h3 h1 h4 G
   ·exact Ah G.ndX (G.at h1) l1 (sE _ h3 G) (AW G h4) l2
 |.Oe is a,c,s,X,E2,h,G=>by
  refine rq h λq1 _ _ h=>?_
  refine d9 h λq2 h=>?_
  refine fO h λ_ _ _ h=>?_
  simp only[Kg]at h;obtain⟨⟨⟨⟨h1,h2⟩,h3⟩,h4⟩,h5⟩:=h;exact EV (G.calm h1) G.ndX G.fnx (G.names h2) (sE a h5 G) (by unfold swapsWithSole;exact kJ h4) (vO h3)
 |.expr a,c,s,X,E2,h,G=>by
  refine zW h λ_ _ h=>?_
  simp only[Kg]at h;exact A6 (sE a h.2 G) (kJ h.1)
 |.ret a,c,s,X,E2,h,G=>by
  refine An h λq1 _ h=>?_
  refine Du h λ_ h=>?_
  exact Fl (sE a h G)
 |.ML,c,s,X,E2,h,G=>by
  refine An h λq1 _ h=>?_
  refine EG h λh=>?_
  exact Bs
 |.dead,c,s,X,E2,h,G=>Cj
 |.ifs t a b,c,s,X,E2,h,G=>by
  refine EJ h λ_ _ _ _ h=>?_
  simp only[Kg]at h;exact Ip (sT t h.1.1 G).1 (sSs a h.1.2 G) (sSs b h.2 G)
 |.Ls tg it body,c,s,X,E2,h,G=>by
  refine xm h λ_ _ _ q1 _ h=>?_
  refine jf h λh=>?_
  simp only[Kg]at h;obtain⟨⟨⟨⟨⟨⟨h1,ht⟩,h2⟩,h3⟩,h4⟩,h5⟩,h6⟩:=h;exact F8 (G.own h1).1 (G.calm h2) (sI it h5 G ht) (sG tg h4 G) (sSs body h6 G) (rT h3)
 |.M8 tg o body,c,s,X,E2,h,G=>by
  refine xm h λ_ _ _ q1 _ h=>?_
  refine jf h λh=>?_
  simp only[Kg]at h;obtain⟨⟨⟨⟨⟨h1,h2⟩,h3⟩,h4⟩,h5⟩,h6⟩:=h;exact B8 (G.own h1).1 (G.calm h2) (sE o h5 G) (sG tg h4 G) (sSs body h6 G) (rT h3)
 |.M9 tg o body,c,s,X,E2,h,G=>by
  refine xm h λq1 q2 _ q3 _ h=>?_
  refine fO h λ_ _ _ h=>?_
  refine jT h λ_ _ _ q4 _ h=>?_
  refine jf h λh=>?_
  refine jf h λh=>?_
  simp only[Kg,Ks]at h;obtain⟨⟨⟨⟨⟨⟨⟨h1,h2⟩,rfl⟩,h3⟩,h4⟩,h5⟩,h6⟩,h7⟩:=h;exact AX (G.own h1).1 (G.calm h2) (sE o h6 G) (c4 h3) h4 (sG tg h5 G) (sSs body h7 G) (λ_=>rfl)
 |.P9 t body,c,s,X,E2,h,G=>by
  refine Fi h λ_ _ q1 _ h=>?_
  refine jf h λh=>?_
  simp only[Kg]at h;exact ya (G.own h.1.1).1 (sT t h.1.2 G).1 (sSs body h.2 G)
 |.app o a,c,s,X,E2,h,G=>by
  refine zW h λq1 _ h=>?_
  refine jT h λ_ _ _ q2 _ h=>?_
  refine d9 h λ_ h=>?_
  simp only[Kg,Ks]at h;obtain⟨⟨⟨⟨⟨rfl,h1⟩,h2⟩,h3⟩,h4⟩,h5⟩:=h;exact Fh (sE o h4 G) (sE a h5 G) (BZ h1) h2 (cg h3)
 |.del i,c,s,X,E2,h,G=>by
  exact absurd h Ku
 |.LV o f a,c,s,X,E2,h,G=>by
  refine rq h λq1 _ _ h=>?_
  refine d9 h λq2 h=>?_
  refine wN h λ_ _ _ h=>?_
  simp only[Kg,Ks]at h;obtain⟨⟨⟨rfl,h1⟩,h2⟩,h3⟩:=h;exact Bq (B:=W.toWB) G.kok (sE o h2 G) (sE a h3 G) (kJ h1)
 |.F_ o i a,c,s,X,E2,h,G=>by
  refine rq h λq1 _ _ h=>?_
  refine d9 h λq2 h=>?_
  refine vJ h λ_ _ _ h=>?_
  simp only[Kg]at h;obtain⟨⟨⟨⟨h0,h1⟩,h2⟩,h3⟩,h4⟩:=h;exact yq G.un (sE o h2 G) (sE i h3 G) (sE a h4 G) (BU h0) (by unfold swapsWithSole;exact kJ h1) (by rfl) (by rfl)
theorem sSs:∀(is:ISs) {c:Cfg}{M_:List Stmt}{X:Cx}{E2:St->XK},nM is c M_=true->Good c W X E2->PSs X M_ (bH X.K W.cls E2 (aR W is))
 |.nil,c,M_,X,E2,h,G=>by
  cases M_ with
  |nil=>exact Ej
  |cons _ _=>exact absurd h Ku
 |.cons s r,c,M_,X,E2,h,G=>by
  refine iy h λst aU h=>?_
  simp only[Kg]at h;exact Dp (t:=wpS W s) (u:=aR W r) (sS s h.1 G) (sSs r h.2 G)
end
end
theorem gm:∀{l:List (Nat×Nat)}{m f:Nat},l.lookup m=some f->(m,f)∈l
 |[],_,_,h=>by cases h
 |(a,b)::r,m,f,h=>by
  rw[K4]at h;by_cases e:m=a
  ·subst e;simp at h;subst h;exact Kl
  ·have:(m == a)=false:=by simpa using e
   rw[this]at h;exact Ki _ (gm h)
theorem ixc{α:Type}{P:Nat->α->Prop}{a:α}{r:List α}(h0:P 0 a)(hr:∀i x,r[i]?=some x->P (i+1) x):∀i x,(a::r)[i]?=some x->P i x
 |0,x,h=>by cases h;exact h0
 |i+1,x,h=>hr i x h
theorem ixn{α:Type}{P:Nat->α->Prop}:∀i x,([]:List α)[i]?=some x->P i x:=λi x h=>by simp at h
theorem us0{P:List Value->Prop}(h:P []):∀us:List Value,us.length=0->P us:=λus e=>(List.eq_nil_of_length_eq_zero e)▸h
theorem usS{n:Nat}{P:List Value->Prop}(h:∀a,∀us:List Value,us.length=n->P (a::us)):∀us:List Value,us.length=n+1->P us:=λus e=>by
 cases us with
 |nil=>cases e
 |cons a r=>exact h a r (Nat.succ.inj e)
structure FB where
 np:Nat
 nl:Nat
 cl:Bool
 body:ISs
 df:List Int:=[]
def FB.full(fb:FB)(ds:List D):List D:=ds++(fb.df.drop (ds.length+fb.df.length-fb.np)).map D.int
def qk(nl:Nat)(ds:List D):St3:=ds.map some++List.replicate (nl-ds.length) none
def aa(T:List FB)(B:WB):Nat->Nat->List D->MH->VK3->XN->Prop
 |0,_,_,_,_,_=>False
 |n+1,f,ds,M,Q,E=>match T[f]? with
  |none=>False
  |some fb=>(fb.full ds).length=fb.np/\aR {toWB:=B,call:=aa T B n} fb.body {nx:=λ_ M'=>Q .i_ (kp fb.cl M M'),rt:=λv M'=>Q v (kp fb.cl M M')} (λ_ i M'=>E i (av M M')) (qk fb.nl (fb.full ds)) M
structure FL where
 name:Str
 qual:Str
 glob:Bool
 cl:Bool
 st:Stmt
 N:List Str
 ps:List Str
 body:ISs
 gn:Str:=name
 df:List Int:=[]
def qJ(N ps:List Str)(sc:Scope):Bool:=(sc.kind == .function)&&!sc.isCoroutine&&!sc.isGenerator&&decide N.Nodup&&(N.take ps.length == ps)&&
 ps.all (λx=>sc.names.lookup x == some .local||sc.names.lookup x == some .cell)&&sc.names.all (λy=>y.2 != .free)
theorem uw(h:qJ N ps sc=true):FnScope N ps sc:=by
 unfold qJ at h;simp only[Kg,Bool.not_eq_true',KG,Ks,KE,Bool.or_eq_true,bne_iff_ne]at h;obtain⟨⟨⟨⟨⟨⟨h1,h2⟩,h3⟩,h4⟩,h5⟩,h6⟩,h7⟩:=h;exact⟨h1,h2,h3,h4,h5,h6,h7⟩
structure NM where
 exc:List Str
 kln:List Str
 gln:List Str
 xin:List (Nat×Nat)
def FL.cfg(l:FL)(fns:List (Option Str×Nat))(n:NM):Cfg:={N:=l.N,sc:=bF l.st,fns:=fns,exc:=n.exc,kln:=n.kln,gln:=n.gln,xin:=n.xin,calm:=true,own:=true,tr:=true,fn:=true}
def FL.fb(l:FL):FB:=⟨l.ps.length,l.N.length,l.cl,l.body,l.df⟩
def FL.ok(l:FL)(fns:List (Option Str×Nat))(n:NM):Bool:=qJ l.N l.ps (bF l.st)&&nM l.body (l.cfg fns n) (d8 l.st)
def fN(L:List FL):List (Option Str×Nat):=L.map λl=>(if l.glob=true then some l.gn else none,l.ps.length)
structure FunD (K:Lr)(x qual:Str)(st:Stmt)(f:Addr)(fd:FuncData):Prop where
 ex:∃(oc:Value) (od:Option Addr) (dV kV doc pm:Value) (an:Option Addr) (MC ct:Value) (PR:Array (Option Value)),
  fd=PySem.W.fnOf x qual (fF st) (d8 st) (bF st) dV kV doc pm an MC ct/\K.lookup f=some ⟨oc,od,.func fd,PR⟩/\PySem.W.codeIn K MC qual=true
 kp:PySem.W.keepIn K (.ref f)=true
structure Top (K:Lr)(mg:Str->Option Value)(L:List FL)(n:NM)(B:WB):Prop where
 ok:∀l∈L,l.ok (fN L) n=true
 fn:∀f l,L[f]?=some l->∃fd,FunD K l.name l.qual l.st (B.e_ f) fd/\(l.glob=true->mg l.gn=some (.ref (B.e_ f)))/\(l.df=[]->∀us:List Value,us.length=l.ps.length->bindArgs fd ⟨us,[]⟩=pure (l.ps.zip us))/\∃dv,Vals (l.df.map V.int) dv/\∀j,Binds K fd l.ps (dv.drop j)
 exi:∀i,i<B.ne->ExcI K (B.cls i)/\PySem.W.kitOne K (.ref (B.cls i)) (.type "ValueError")=some true/\∀j x,n.exc[j]?=some x->PySem.W.kitOne K (.ref (B.cls i)) (.ref (B.cls j))=some (B.sub i j)
 exc:∀i x,n.exc[i]?=some x->mg x=some (.ref (B.cls i))/\(n.xin.lookup i=none->E8 K (B.cls i))/\∀j,j<B.ne->PySem.W.exmOne K (.ref (B.cls j)) (.ref (B.cls i))=some (B.sub j i)
 kok:∀i,i<B.nk->KOk K B B.e_ i
 kin:∀i,i<B.nk->∃f,B.ini i=some f
 kfi:∀i f,i<B.nk->B.ini i=some f->f<L.length
 kfm:∀i m f,i<B.nk->B.mth i m=some f->f<L.length
 knm:∀i x,n.kln[i]?=some x->mg x=some (.ref (B.c_ i))/\i<B.nk
 glo:∀k x,n.gln[k]?=some x->∃u v,mg x=some u/\RelV v u/\∀H,Den K H (B.glo k) v
 bi:∀x∈biNames,mg x=none
 dig:Dc K
 xi:∀i f,n.xin.lookup i=some f->B.xin i=some f/\∃fI fd ps,XIni K (B.cls i) fI (fnm f)/\Binds K fd ps []/\∀(P:Program)(w:World)(base:Heap),FnOk P w K mg base (CX1 P w) 1 fI fd ps (xr (cpF f) K (B.cls i) (fnm f))
 xn:∀i f,i<B.ne->B.xin i=some f->NoAttr K (B.cls i) (fnm f)
section
variable {w:World}{K:Lr}{L:List FL}{B:WB}
def spF(K:Lr)(cls:Nat->Addr)(l:FL)(t3:List D->MH->VK3->XN->Prop):Sp:=λvs H Q E=>vs.length=l.ps.length/\spX K cls t3 vs H Q E
theorem FB.full_at{fb:FB}{ds:List D}(h:ds.length=fb.np):fb.full ds=ds:=by
 unfold FB.full;rw[List.drop_of_length_le (by omega),List.map_nil,KZ]
theorem lL:∀{vs:List V}{us:List Value} (j:Nat),Vals vs us->Vals (vs.drop j) (us.drop j)
 |_,_,0,h=>h
 |_,_,_+1,.nil=>.nil
 |_,_,j+1,.cons _ h=>lL j h
theorem El{l:FL}(hl:L[f]?=some l){dv:List Value}(hv:Vals (l.df.map V.int) dv)(hb:∀j,Binds K fd l.ps (dv.drop j)):BdT K B.cls fd l.ps (aa (L.map FL.fb) B n f) (spF K B.cls l (aa (L.map FL.fb) B n f)):=by
 rintro vs H Q E ⟨ds,M,Q3,E3,dl,rm,h,b_,lk⟩;cases n with
 |zero=>exact h.elim
 |succ n=>
  have hT:(L.map FL.fb)[f]?=some l.fb:=by rw[Kt,hl];rfl
  have h0:=h;simp only[aa,hT]at h0;have e:=h0.1;have H_:=dl.length;refine⟨(l.df.map V.int).drop (ds.length+l.df.length-l.ps.length),dv.drop (ds.length+l.df.length-l.ps.length),lL _ hv,hb _,?_,?_⟩
  ·have e2:(l.fb.full ds).length=l.ps.length:=e;unfold FB.full at e2;rw[KO,Kr]at e2;rw[KO,List.length_drop,Kr,<-H_];rw[List.length_drop]at e2;exact e2
  ·refine⟨l.fb.full ds,M,Q3,E3,?_,rm,?_,b_,lk⟩
   ·unfold FB.full;rw[<-List.map_drop];exact dl.append DenL.of_int
   ·simp only[aa,hT];rw[FB.full_at e];exact h0
theorem vt(T:Top K mg L nm B):∀(n f:Nat)(l:FL),L[f]?=some l->∀(fd:FuncData),FunD K l.name l.qual l.st (B.e_ f) fd->FnOk P w K mg base (CX1 P w) (2*n+2) (B.e_ f) fd l.ps (spF K B.cls l (aa (L.map FL.fb) B n f)):=by
 intro n
 induction n with
 |zero=>
  intro f l hl fd F;exact⟨λvs H Q E h=>h.1,λA outer s H args us vs Q E hr e0 hb r ⟨_,_,_,_,_,_,_,h,_⟩=>h.elim⟩
 |succ n ih=>
  intro f l hl fd F;have hT:(L.map FL.fb)[f]?=some l.fb:=by rw[Kt,hl];rfl
  have hm:l∈L:=KW hl;have Qc:=T.ok l hm;unfold FL.ok at Qc;rw[Kg]at Qc;have S:=uw Qc.1;obtain⟨oc,od,dV,kV,doc,pm,an,MC,ct,PR,rfl,lk,Ni⟩:=F.ex;have un:∀ds M Q E,aa (L.map FL.fb) B (n+1) f ds M Q E->ds.length=l.ps.length->aR {toWB:=B,call:=aa (L.map FL.fb) B n} l.body {nx:=λ_ M'=>Q .i_ (kp l.cl M M'),rt:=λv M'=>Q v (kp l.cl M M')} (λ_ i M'=>E i (av M M')) (qk l.N.length ds) M:=λds M Q E h e=>by
   simp only[aa,hT]at h;rw[FB.full_at e]at h;exact h.2
  refine DR lk Ni S (λvs H Q E h=>?_) λA outer s H vs Q E hr OF=>?_
  ·exact h.1
  ·obtain⟨Nf,ds,M,Q3,E3,dl,rm,h,b_,Ti⟩:=OF;have h:=un _ _ _ _ h (by rw[dl.length];exact Nf)
   have len:(fN L).length=L.length:=by unfold fN;rw[Kr]
   have G:Good (l.cfg (fN L) nm) {toWB:=B,call:=aa (L.map FL.fb) B n} (dO (CX1 P w) P w K mg base l.N l.qual (bF l.st) (B.e_ f) MC A outer s H E) (λ_=>E):=by
    refine⟨rfl,S.nd,rfl,hr.units,λ_=>rfl,λ_ _=>rfl,(λ_ z=>nomatch z),λ_=>⟨Hm,E,rfl,yX,vy,hr.mono (by omega)⟩,λ_=>⟨rfl,rfl,rfl⟩,λ_=>⟨2*n+2,hr,λg hg=>?_⟩,λg x k hg=>?_,T.kok,T.kin,λi g hi q=>?_,λi m g hi q=>?_,T.knm,T.glo,T.exc,T.exi,(λi f hi=>?_),T.xn,T.bi,T.dig,λa_ Z H' s' e OZ I hc=>FG a_ Z H' s' e OZ I hc⟩
    ·have hg:g<(fN L).length:=hg;obtain⟨QX,F2,_,_,NZ,v2,b2⟩:=T.fn g L[g] (by simp)
     exact⟨QX,_,_,F2.kp,El (by simp) v2 b2,ih g L[g] (by simp) QX F2⟩
    ·have hg:(fN L)[g]?=some (some x,k):=hg;unfold fN at hg;rw[Kt]at hg;cases q:L[g]? with
     |none=>rw[q]at hg;cases hg
     |some l2=>
      rw[q]at hg;obtain⟨QX,F2,m2,_⟩:=T.fn g l2 q;have e:((if l2.glob=true then some l2.gn else none),l2.ps.length)=(some x,k):=KA hg
      by_cases z:l2.glob=true
      ·rw[Kp z]at e;cases e;exact m2 z
      ·rw[Kj z]at e;cases e
    ·show g<(fN L).length;rw[len];exact T.kfi i g hi q
    ·show g<(fN L).length;rw[len];exact T.kfm i m g hi q
    ·obtain⟨a,fI,Tj,Tn,x3,b3,F3⟩:=T.xi i f hi;exact⟨a,fI,Tj,Tn,x3,b3,F3 P w base⟩
   exact⟨_,sSs l.body Qc.2 G,qk l.N.length ds,M,_,_,rm,pY dl,λh_ Z i M' H' t _ q_ q dx xd=>Ti i _ H' t (q_.sub λ_ _ z=>mh z) q dx xd,h,
    ⟨λl_ H' t_ M' q_ D_ tm q=>b_ _ _ _ _ wz (q_.sub λ_ _ z=>vm z) tm q,λv H' d M' dv q_ tm q=>b_ _ _ _ _ dv (q_.sub λ_ _ z=>vm z) tm q,λ_ _ _ _ _ _ _ z=>z.elim,λ_ _ _ _ _ _ _ z=>z.elim⟩⟩
end
abbrev scr(ns:List Int):D:=.g_ (ns.map D.int)
theorem walkD{l:PySem.W.OpenLaw}{k f:Nat}{q:Program}{loose:List Str}{XP:(Str->Option Value)->Heap->Prop}{YP:World->Heap->Prop}{d:DefRec}{K:Params->Lr}{fl:FL}{x:Str}{L:List FL}{nm:NM}{BB:(Nat->Addr)->(Nat->Addr)->(Nat->Addr)->WB}
  (hn:l.most=some 63) (N9:d.params.defaults=[]) (hr:Room (2*k+2) callerA) (hY:∀(w:World)(h:Heap),YP w h->(K w.params).In h) (hf:L[f]?=some fl) (Ox:fl.ps=[x]) (L4:fl.gn=d.name) (To:fl.glob=true)
  (T:∀(w:World)(mg:Str->Option Value)(h:Heap),(K w.params).In h->h.Ns mainGlobals mg->∃cls c_ e_,Top (K w.params) mg L nm (BB cls c_ e_))
  (main:∀(cls c_ e_:Nat->Addr)(ns:List Int),ns.length<=63->aa (L.map FL.fb) (BB cls c_ e_) k f [scr ns] (λ_=>none) (λd _=>d=.bl true) (λ_ _=>False)) (Tp:fl.df=[]:=by rfl) :
  PySem.W.WalkO q loose XP YP l.row.toRowW d [] (λf vs=>PySem.call f vs):=by
 refine Att.attach_call hn N9 λw s₀ r_ mg mb fa o pm cd doc a vs ns G Y ho hd Ni Qv Nu Ms H_ hg=>?_
 have KX:=hY w _ Y;obtain⟨cls,c_,e_,T⟩:=T w mg _ KX G.T.g;obtain⟨fd,F,m1,b1,_⟩:=T.fn f fl hf;have m1:=m1 To;rw[L4,Qv]at m1;have m1:=Value.ref.inj (KA m1);subst m1;refine wY KX G.T.g G.T.b G.T.builtins G.T.nolimit hg Nu Ms (KB H_ (by decide)) hr (λbase kb gb=>by rw[<-Ox];exact vt T k f fl hf fd F) (λs u=>?_) (λH hO hS=>?_) λH e s' h=>?_
 ·have hb:=b1 Tp [u] (by rw[Ox];rfl)
  rw[Ox]at hb;exact .of_eq hb
 ·have sq:SqF (K w.params) H a (ns.map V.int):=by
   cases hk:(K w.params).lookup a with
   |some ob=>
    have e:=KX a ob hk;rw[Nu]at e;cases e;exact .inr ⟨vs,_,hk,by rw[Ms.length];exact KB H_ (by decide),iG Ms⟩
   |none=>
    rcases hS with (h|⟨ob,h⟩)|⟨ob,_,_,h,_⟩
    ·rcases hO a with z|⟨o2,xs,z⟩
     ·rw[h]at z;cases z
     ·rw[h]at z;cases z
    ·exact .inl ⟨ob,h⟩
    ·rw[hk]at h;cases h
  refine⟨by rw[Ox];rfl,[scr ns],λ_=>none,λd _=>d=.bl true,λ_ _=>False,.one ⟨a,_,rfl,sq,.of_int⟩,λa o e=>(by cases e),main cls c_ e_ ns H_,λv H' d M' dv _ _ q=>?_,λ_ _ _ _ _ h=>h.elim⟩
  subst q;exact dv
 ·obtain⟨_,_,_,_,_,_,_,_,_,_,_,_,_,he⟩:=h;exact he
end L2
namespace L2
open PySem
def pQ(K:Lr)(a:Addr):Option FuncData:=match K.lookup a with
 |some ⟨_,_,.func fd,_⟩=>some fd
 |_=>none
def fdN(l:FL)(fd:FuncData):FuncData:=PySem.W.fnOf l.name l.qual (fF l.st) (d8 l.st) (bF l.st) (if l.df.isEmpty=true then .none else fd.defaults) fd.kwdefaults fd.doc fd.pyModule fd.annotations fd.code fd.closureTuple
def fnB(K:Lr)(B:WB)(l:FL)(i:Nat):Bool:=(match pQ K (B.e_ i) with
 |some fd=>PySem.W.codeIn K fd.code l.qual
 |none=>false)&&PySem.W.keepIn K (.ref (B.e_ i))&&(!l.glob||PySem.W.nsIn K mainGlobals l.gn == some (some (.ref (B.e_ i))))
theorem xM{K:Lr}(h:pQ K a=some fd):∃oc od sl,K.lookup a=some ⟨oc,od,.func fd,sl⟩:=by
 unfold pQ at h;split at h
 ·rename_i oc od Ur sl e;cases h;exact⟨oc,od,sl,e⟩
 ·cases h
def FA(K:Lr)(C:Addr):Bool:=PySem.W.hasDictIn K C&&PySem.W.findIn K (.ref C) "__getattribute__" == some (some (.builtin "BaseException.__getattribute__"))&&PySem.W.findIn K (.ref C) "__getattr__" == some none&&PySem.W.findIn K (.ref C) "__class__" == some (some (.builtin "object.__class__"))&&PySem.W.mroIn K C (.type "object") == some true&&PySem.W.mroIn K C (.type "BaseException") == some true&&PySem.W.kitOne K (.ref C) (.type "ValueError") == some true
def DS(K:Lr):Bool:=PySem.W.specialIn K (.builtin "object.__class__") "__get__" == some (some (.builtin "getset_descriptor.__get__"))&&PySem.W.takesIn K (.builtin "object.__class__") == some true&&PySem.W.nsIn K cStatics "sys.int_max_str_digits" == some none&&biNames.all λx=>PySem.W.nsIn K mainGlobals x == some none
def FJ(K:Lr)(B:WB)(n:NM):Bool:=(List.range B.ne).all (λi=>FA K (B.cls i)&&(List.range n.exc.length).all λj=>PySem.W.kitOne K (.ref (B.cls i)) (.ref (B.cls j)) == some (B.sub i j)&&PySem.W.exmOne K (.ref (B.cls i)) (.ref (B.cls j)) == some (B.sub i j))&&
 n.exc.zipIdx.all λp=>PySem.W.nsIn K mainGlobals p.1 == some (some (.ref (B.cls p.2)))&&((n.xin.lookup p.2).isSome||PySem.W.excIn K (B.cls p.2) bmV "ValueError.__new__")
def kB(K:Lr)(B:WB)(fT:List (List Nat))(mT:List (List (Nat×Nat)))(iT:List Nat)(i:Nat):Bool:=
 PySem.W.plainGet K (B.c_ i) Str.empty&&PySem.W.hasDictIn K (B.c_ i)&&PySem.W.plainOver K (B.c_ i)&&PySem.W.findIn K (.ref (B.c_ i)) "__setattr__" == some (some (.builtin "object.__setattr__"))&&
 (fT.getD i []).all (λf=>PySem.W.findIn K (.ref (B.c_ i)) (fnm f) == some none)&&
 (mT.getD i []).all (λp=>PySem.W.findIn K (.ref (B.c_ i)) (fnm p.1) == some (some (.ref (B.e_ p.2)))&&PySem.W.isFn K (.ref (B.e_ p.2))&&PySem.W.keepIn K (.ref (B.e_ p.2)))&&
 (match iT[i]? with
  |some f=>PySem.W.makesIn K (B.c_ i)&&PySem.W.findIn K (.ref (B.c_ i)) "__init__" == some (some (.ref (B.e_ f)))&&PySem.W.isFn K (.ref (B.e_ f))&&PySem.W.keepIn K (.ref (B.c_ i))&&PySem.W.specialIn K (.ref (B.c_ i)) "__getattribute__" == some (some (.builtin "type.__getattribute__"))&&PySem.W.readsIn K (B.c_ i) (.type "type")&&
   (match PySem.W.findCls K (.ref (B.c_ i)) (.type "type") "__init__" with
    |some (.val (.ref g))=>g == B.e_ f
    |_=>false)
  |none=>false)&&
 PySem.W.findIn K (.ref (B.c_ i)) "__class__" == some (some (.builtin "object.__class__"))&&PySem.W.mroIn K (B.c_ i) (.type "object") == some true&&
 (List.range B.nk).all λj=>PySem.W.kitOne K (.ref (B.c_ i)) (.ref (B.c_ j)) == some (B.ksub i j)
def EW(L m:Nat)(mT:List (List (Nat×Nat)))(iT:List Nat):Bool:=iT.length == m&&iT.all (λf=>decide (f<L))&&mT.all λl=>l.all λp=>decide (p.2<L)
theorem iA(h:(List.range n).all p=true)(hi:i<n):p i=true:=KE.mp h i (List.mem_range.mpr hi)
theorem qi{l:List α}(h:l.zipIdx.all p=true)(hx:l[i]?=some x):p (x,i)=true:=by
 refine KE.mp h (x,i) ?_;rw[List.mem_zipIdx_iff_getElem?];exact hx
theorem Ey{K:Lr}{L:List FL}{B:WB}(h:L.all (λl=>l.df.isEmpty)=true):∀(f:Nat)(l:FL),L[f]?=some l->l.df≠[]->∀fd,pQ K (B.e_ f)=some fd->∃dv,Vals (l.df.map V.int) dv/\∀j,Binds K fd l.ps (dv.drop j):=λf l hl z=>absurd (List.isEmpty_iff.mp (KE.mp h l (KW hl))) z
theorem Top.of{K:Lr}{h:Heap}{L:List FL}{n:NM}{B:WB}{fT:List (List Nat)}{mT:List (List (Nat×Nat))}(X:K.In h)(Gn:h.Ns mainGlobals mg)
  (h1:L.all (λl=>l.ok (fN L) n)=true)
  (h2:L.zipIdx.map (λp=>pQ K (B.e_ p.2))=L.zipIdx.map λp=>(pQ K (B.e_ p.2)).map (fdN p.1))
  (h3:L.zipIdx.all (λp=>fnB K B p.1 p.2)=true)
  (h4:∀(f:Nat)(l:FL),L[f]?=some l->∀us:List Value,us.length=l.ps.length->∀(kV doc pm:Value)(an:Option Addr)(MC ct:Value),bindArgs (PySem.W.fnOf l.name l.qual (fF l.st) (d8 l.st) (bF l.st) .none kV doc pm an MC ct) ⟨us,[]⟩=pure (l.ps.zip us))
  (h5:DS K=true) (h6:FJ K B n=true)
  (h7:(List.range B.nk).all (kB K B fT mT iT)=true) (h8:EW L.length B.nk mT iT=true)
  (hf:∀i f,B.fok i f=(fT.getD i []).contains f) (hm:∀i m,B.mth i m=(mT.getD i []).lookup m) (hi:∀i,B.ini i=iT[i]?)
  (h9:n.kln.zipIdx.all (λp=>PySem.W.nsIn K mainGlobals p.1 == some (some (.ref (B.c_ p.2)))&&decide (p.2<B.nk))=true)
  (glo:∀(k:Nat)(x:Str),n.gln[k]?=some x->∃u v,mg x=some u/\RelV v u/\∀H,Den K H (B.glo k) v)
  (xi:∀i f,n.xin.lookup i=some f->B.xin i=some f/\∃fI fd ps,XIni K (B.cls i) fI (fnm f)/\Binds K fd ps []/\∀(P:Program)(w:World)(base:Heap),FnOk P w K mg base (CX1 P w) 1 fI fd ps (xr (cpF f) K (B.cls i) (fnm f)))
  (xn:∀i f,i<B.ne->B.xin i=some f->NoAttr K (B.cls i) (fnm f))
  (hd:∀(f:Nat)(l:FL),L[f]?=some l->l.df≠[]->∀fd,pQ K (B.e_ f)=some fd->∃dv,Vals (l.df.map V.int) dv/\∀j,Binds K fd l.ps (dv.drop j)):Top K mg L n B:=by
 unfold DS at h5;simp only[Kg,KG]at h5;obtain⟨⟨⟨o1,o2⟩,o3⟩,o4⟩:=h5;unfold FJ at h6;rw[Kg]at h6;obtain⟨e1,e2⟩:=h6;unfold EW at h8;simp only[Kg,KG]at h8;obtain⟨⟨t1,t2⟩,t3⟩:=h8;have ki:∀i,i<B.nk->kB K B fT mT iT i=true:=λi hi=>iA h7 hi
 refine⟨λl hl=>KE.mp h1 l hl,λf l hl=>?_,λi hi=>?_,λi x hx=>?_,λi Nz=>?_,λi Nz=>?_,λi f Nz Mu=>?_,λi m f Nz Mu=>?_,λi x hx=>?_,glo,λx hx=>?_,o3,xi,xn⟩
 ·have g:=qi h3 hl;unfold fnB at g;simp only[Kg]at g;obtain⟨⟨g1,g2⟩,g3⟩:=g;have hz:L.zipIdx[f]?=some (l,f):=by
   rw[List.getElem?_zipIdx,hl];simp
  have e:=congrArg (λz:List (Option FuncData)=>z[f]?) h2
  simp only[Kt,hz,Option.map_some]at e;cases hfd:pQ K (B.e_ f) with
  |none=>rw[hfd]at g1;cases g1
  |some fd=>
   rw[hfd]at e g1;simp only[Option.map_some,Option.some.injEq]at e;obtain⟨oc,od,sl,lk⟩:=xM hfd;have hb:l.df=[]->∀us:List Value,us.length=l.ps.length->bindArgs fd ⟨us,[]⟩=pure (l.ps.zip us):=λz us hu=>by
    rw[e];unfold fdN;rw[z];exact h4 f l hl us hu _ _ _ _ _ _
   refine⟨fd,⟨⟨oc,od,_,fd.kwdefaults,fd.doc,fd.pyModule,fd.annotations,fd.code,fd.closureTuple,sl,e,lk,g1⟩,g2⟩,λz=>?_,hb,?_⟩
   ·rw[z]at g3;exact PySem.W.mg_of X Gn (KG.mp (by simpa using g3))
   ·by_cases z:l.df=[]
    ·exact⟨[],by rw[z];exact .nil,λj=>by rw[List.drop_nil];exact .all (hb z)⟩
    ·exact hd f l hl z fd hfd
 ·have g:=iA e1 hi;rw[Kg]at g;obtain⟨g1,g2⟩:=g;unfold FA at g1;simp only[Kg,KG]at g1;obtain⟨⟨⟨⟨⟨⟨a1,a2⟩,a3⟩,a4⟩,a5⟩,a6⟩,a7⟩:=g1;refine⟨⟨a1,a2,a3,a4,o1,o2,a5,a6⟩,a7,λj x hx=>?_⟩
  have hj:j<n.exc.length:=(KP.mp hx).1;have g:=iA g2 hj;rw[Kg,KG]at g;exact g.1
 ·have g:=qi e2 hx;rw[Kg,KG]at g;refine⟨PySem.W.mg_of X Gn g.1,λz=>?_,λj hj=>?_⟩
  ·have g2:=g.2;rw[show n.xin.lookup (x,i).2=none from z]at g2;have g3:PySem.W.excIn K (B.cls i) bmV "ValueError.__new__"=true:=by simpa using g2
   exact g3
  ·have q:=iA e1 hj;rw[Kg]at q;have hi:i<n.exc.length:=(KP.mp hx).1;have g:=iA q.2 hi;rw[Kg,KG,KG]at g;exact g.2
 ·have g:=ki i Nz;unfold kB at g;simp only[Kg,KG]at g;obtain⟨⟨⟨⟨⟨⟨⟨⟨⟨a1,a2⟩,a3⟩,a4⟩,a5⟩,a6⟩,a7⟩,a8⟩,a9⟩,Pq⟩:=g;have iI:∀f,B.ini i=some f->PySem.W.makesIn K (B.c_ i)=true/\PySem.W.findIn K (.ref (B.c_ i)) "__init__"=some (some (.ref (B.e_ f)))/\PySem.W.isFn K (.ref (B.e_ f))=true/\PySem.W.keepIn K (.ref (B.c_ i))=true/\PySem.W.specialIn K (.ref (B.c_ i)) "__getattribute__"=some (some (.builtin "type.__getattribute__"))/\PySem.W.readsIn K (B.c_ i) (.type "type")=true/\PySem.W.findCls K (.ref (B.c_ i)) (.type "type") "__init__"=some (.val (.ref (B.e_ f))):=λf hf=>by
   rw[hi i]at hf;rw[hf]at a7;simp only[Kg,KG]at a7;obtain⟨⟨⟨⟨⟨⟨b1,b2⟩,b3⟩,b4⟩,b5⟩,b6⟩,b7⟩:=a7;refine⟨b1,b2,b3,b4,b5,b6,?_⟩;split at b7
   ·rename_i g hg;rw[hg,KG.mp b7]
   ·cases b7
  refine⟨⟨a1,a2,a3,a4⟩,λf Mu=>?_,λm f OG=>?_,λf Mu=>?_,λf Mu=>?_,⟨a8,o1,o2,a9⟩,λj hj=>?_⟩
  ·rw[hf i f]at Mu;exact KG.mp (KE.mp a5 f (List.contains_iff_mem.mp Mu))
  ·rw[hm i m]at OG;have q:=KE.mp a6 (m,f) (gm OG);simp only[Kg,KG]at q;exact⟨q.1.1,q.1.2,q.2⟩
  ·obtain⟨b1,b2,b3,b4,_⟩:=iI f Mu;exact⟨b1,b2,b3,b4⟩
  ·obtain⟨_,_,_,_,b5,b6,b7⟩:=iI f Mu;exact⟨b5,b6,b7⟩
  ·exact KG.mp (iA Pq hj)
 ·rw[hi i];have:i<iT.length:=by rw[t1];exact Nz
  exact⟨iT[i],KC this⟩
 ·rw[hi i]at Mu;exact Ld (KE.mp t2 f (KW Mu))
 ·rw[hm i m]at Mu;have q:=gm Mu;by_cases z:i<mT.length
  ·rw[List.getD_eq_getElem?_getD,KC z]at q;exact Ld (KE.mp (KE.mp t3 _ (K7 z)) _ q)
  ·rw[List.getD_eq_getElem?_getD,List.getElem?_eq_none (by omega)]at q
   cases q
 ·have g:=qi h9 hx;rw[Kg,KG]at g;exact⟨PySem.W.mg_of X Gn g.1,Ld g.2⟩
 ·exact PySem.W.mg_none_of X Gn (KG.mp (KE.mp o4 x hx))
theorem n0{P:List Value->Prop}(h:P []):∀us:List Value,us.length=0->P us:=us0 h
theorem n1{P:List Value->Prop}(h:∀a,P [a]):∀us:List Value,us.length=1->P us:=usS λa=>us0 (h a)
theorem n2{P:List Value->Prop}(h:∀a b,P [a,b]):∀us:List Value,us.length=2->P us:=usS λa=>usS λb=>us0 (h a b)
theorem n3{P:List Value->Prop}(h:∀a b c,P [a,b,c]):∀us:List Value,us.length=3->P us:=usS λa=>usS λb=>usS λc=>us0 (h a b c)
theorem n4{P:List Value->Prop}(h:∀a b c d,P [a,b,c,d]):∀us:List Value,us.length=4->P us:=usS λa=>usS λb=>usS λc=>usS λd=>us0 (h a b c d)
theorem n5{P:List Value->Prop}(h:∀a b c d e,P [a,b,c,d,e]):∀us:List Value,us.length=5->P us:=usS λa=>usS λb=>usS λc=>usS λd=>usS λe=>us0 (h a b c d e)
end L2
namespace L2
def oi:Option Int->D
 |none=>.i_
 |some i=>.int i
@[simp] theorem GN:oi none=.i_:=rfl
@[simp] theorem Gy(i:Int):oi (some i)=.int i:=rfl
abbrev pr(a b:Option Int):D:=.tup [oi a,oi b]
theorem cZ{i j:Int}(h1:0<j)(h2:j<10 ^ 250):mf i j=True:=by
 refine eq_true ⟨h1,qY ?_⟩;omega
theorem eX{i j:Int}(h1 : -(10 ^ 240)<i)(h2:i<10 ^ 240)(h3 : -(10 ^ 240)<j)(h4:j<10 ^ 240):bI i j=True:=by
 refine eq_true ⟨qY ?_,qY ?_⟩<;>omega
theorem lH{i j:Int}(h1:0<=j)(h2:j<=1000000)(h3:i.natAbs<2 ^ 64):uO i j=True:=eq_true ⟨h1,h2,h3⟩
theorem qV{α:Type}(a:α)(l:List α):atI (a::l) 0=some a:=by simp[atI,ixN]
theorem tQ{α:Type}(a b:α)(l:List α):atI (a::b::l) 1=some b:=cY (j:=1) rfl
theorem tN{α:Type}(a b c:α)(l:List α):atI (a::b::c::l) 2=some c:=cY (j:=2) rfl
theorem xD{α:Type}(a b c d:α)(l:List α):atI (a::b::c::d::l) 3=some d:=cY (j:=3) rfl
end L2
namespace L2
open PySem
section
variable {W:WC}{Z:St3}
@[simp ↓] theorem Kd:wpE W (.var 0) (some v::Z) M Q E=Q v M:=rfl
@[simp ↓] theorem J5:wpE W (.var 1) (y0::some v::Z) M Q E=Q v M:=rfl
@[simp ↓] theorem JZ:wpE W (.var 2) (y0::y1::some v::Z) M Q E=Q v M:=rfl
@[simp ↓] theorem J6:wpE W (.var 3) (y0::y1::y2::some v::Z) M Q E=Q v M:=rfl
@[simp ↓] theorem J8:wpE W (.var 4) (y0::y1::y2::y3::some v::Z) M Q E=Q v M:=rfl
@[simp ↓] theorem Io:wpE W (.var 5) (y0::y1::y2::y3::y4::some v::Z) M Q E=Q v M:=rfl
@[simp ↓] theorem JV:wpE W (.var 6) (y0::y1::y2::y3::y4::y5::some v::Z) M Q E=Q v M:=rfl
@[simp ↓] theorem J0:wpE W (.var 7) (y0::y1::y2::y3::y4::y5::y6::some v::Z) M Q E=Q v M:=rfl
@[simp ↓] theorem Ka:wpE W (.var 8) (y0::y1::y2::y3::y4::y5::y6::y7::some v::Z) M Q E=Q v M:=rfl
@[simp ↓] theorem Kb:wpE W (.var 9) (y0::y1::y2::y3::y4::y5::y6::y7::y8::some v::Z) M Q E=Q v M:=rfl
@[simp ↓] theorem IW:wpE W (.var 10) (y0::y1::y2::y3::y4::y5::y6::y7::y8::y9::some v::Z) M Q E=Q v M:=rfl
@[simp ↓] theorem JG:wpE W (.var 11) (y0::y1::y2::y3::y4::y5::y6::y7::y8::y9::y10::some v::Z) M Q E=Q v M:=rfl
@[simp ↓] theorem JQ:wpE W (.var 12) (y0::y1::y2::y3::y4::y5::y6::y7::y8::y9::y10::E_::some v::Z) M Q E=Q v M:=rfl
@[simp ↓] theorem IR:wpE W (.var 13) (y0::y1::y2::y3::y4::y5::y6::y7::y8::y9::y10::E_::y12::some v::Z) M Q E=Q v M:=rfl
@[simp ↓] theorem JU:wpE W (.var 14) (y0::y1::y2::y3::y4::y5::y6::y7::y8::y9::y10::E_::y12::y13::some v::Z) M Q E=Q v M:=rfl
@[simp ↓] theorem JR:wpE W (.var 15) (y0::y1::y2::y3::y4::y5::y6::y7::y8::y9::y10::E_::y12::y13::y14::some v::Z) M Q E=Q v M:=rfl
@[simp ↓] theorem JL:wpE W (.var 16) (y0::y1::y2::y3::y4::y5::y6::y7::y8::y9::y10::E_::y12::y13::y14::LS::some v::Z) M Q E=Q v M:=rfl
@[simp ↓] theorem Jr:wpE W (.var 17) (y0::y1::y2::y3::y4::y5::y6::y7::y8::y9::y10::E_::y12::y13::y14::LS::LZ::some v::Z) M Q E=Q v M:=rfl
@[simp ↓] theorem IY:wpE W (.con v) Z M Q E=Q v M:=rfl
@[simp ↓] theorem G6{op a b}:wpE W (.bin op a b) Z M Q E=wpE W a Z M (λx M1=>wpE W b Z M1 (λy M2=>lC op x y M2 Q) E) E:=rfl
@[simp ↓] theorem Jo{a}:wpE W (.neg a) Z M Q E=wpE W a Z M (λx M1=>rNeg x M1 Q) E:=rfl
@[simp ↓] theorem IN{fz a b}:wpE W (.cat fz a b) Z M Q E=wpE W a Z M (λx M1=>wpE W b Z M1 (λy M2=>jO fz x y M2 Q) E) E:=rfl
@[simp ↓] theorem Jf{op a b}:wpE W (.cmp op a b) Z M Q E=wpE W a Z M (λx M1=>wpE W b Z M1 (λy M2=>aI op x y M2 Q) E) E:=rfl
@[simp ↓] theorem Gu{op LR a b c}:wpE W (.chain op LR a b c) Z M Q E=wpE W a Z M (λx M1=>wpE W b Z M1 (λy M2=>aI op x y M2 λr M3=>match r with
  |.bl k=>if k=true then wpE W c Z M3 (λz M4=>aI LR y z M4 Q) E else Q (.bl false) M3
  |_=>False) E) E:=rfl
@[simp ↓] theorem JT{a b}:wpE W (.and a b) Z M Q E=wpE W a Z M (λx M1=>match x with
  |.bl c=>if c=true then wpE W b Z M1 Q E else Q (.bl false) M1
  |_=>False) E:=rfl
@[simp ↓] theorem JI{a}:wpE W (.not a) Z M Q E=wpE W a Z M (λx M1=>match x with
  |.bl c=>Q (.bl (!c)) M1
  |_=>False) E:=rfl
@[simp ↓] theorem JK{es}:wpE W (.tup es) Z M Q E=wpA W es Z M (λxs M1=>xs.length<=sizeLine/\Q (.tup xs) M1) E:=rfl
@[simp ↓] theorem Jw{fz es}:wpE W (.lst fz es) Z M Q E=wpA W es Z M (λxs M1=>fc fz xs M1 Q) E:=rfl
@[simp ↓] theorem IM{e}:wpE W (.u_ e) Z M Q E=wpE W e Z M (aY Q) E:=rfl
@[simp ↓] theorem JX{a b}:wpE W (.ix a b) Z M Q E=wpE W a Z M (λx M1=>wpE W b Z M1 (λy M2=>ar x y M2 Q) E) E:=rfl
@[simp ↓] theorem JY{fz a lo hi}:wpE W (.sl fz a lo hi) Z M Q E=wpE W a Z M (λx M1=>wpO W lo Z M1 (λl M2=>wpO W hi Z M2 (λh M3=>oX fz x l h M3 Q) E) E) E:=rfl
@[simp ↓] theorem Hx{f es}:wpE W (.call f es) Z M Q E=wpA W es Z M (λxs M1=>W.call f xs M1 Q E) E:=rfl
@[simp ↓] theorem JW{b es}:wpE W (.bi b es) Z M Q E=wpA W es Z M (λxs M1=>rBi b xs M1 Q) E:=rfl
@[simp ↓] theorem IK{e t}:wpE W (.MJ e t) Z M Q E=wpE W e Z M (λx M1=>lE t x M1 Q) E:=rfl
@[simp ↓] theorem Ib{k v}:wpE W (.MZ k v) Z M Q E=∀p,M p=none->wpE W k Z (put M p (.dt [] [])) (λx M1=>wpE W v Z M1 (λy M2=>jC p x y M2 Q) E) E:=rfl
def qe(W:WC)(tg:ITg)(cond:ITO)(A_:IE)(L0:St3)(Q:VK3):VK3:=λx M1=>wV x M1 λd ks es=>∀φ p,M1 p=none->
   bM (wpG tg) (λZ M Q=>kY W cond Z M Q (λ_ _=>False)) (λZ M Q=>wpE W A_ Z M Q (λ_ _=>False)) (λM=>M d=some (.w_ φ)) p (λy M2=>Q y (put M2 d (.dn ks es))) (aT ks es) [] L0 (put (put M1 d (.w_ φ)) p (.lst []))
@[simp ↓] theorem GO{N js tg o cond A_}:wpE W (.Mp N js tg o cond A_) Z M Q E=wpE W o Z M (qe W tg cond A_ (ax js Z) Q) E:=rfl
@[simp ↓] theorem JF{e}:wpE W (.Pc e) Z M Q E=wpE W e Z M (λx M1=>rMp x M1 Q) E:=rfl
@[simp ↓] theorem Jq{e f}:wpE W (.fld e f) Z M Q E=wpE W e Z M (λx M1=>d7 W.toWB f x M1 Q) E:=rfl
@[simp ↓] theorem GC{i es}:wpE W (.make true i es) Z M Q E=wpA W es Z M (λxs M1=>i<W.nk/\gc (W.ini i) λf=>∀p,M1 p=none->W.call f (.ref p::xs) (put M1 p (.ins i (W.c_ i) [] [])) (λv M2=>v=.i_/\aY Q (.ref p) M2) (λi M'=>E i (L2.del M' p))) E:=rfl
@[simp ↓] theorem GL{i es}:wpE W (.make false i es) Z M Q E=wpA W es Z M (λxs M1=>i<W.nk/\gc (W.ini i) λf=>∀p,M1 p=none->W.call f (.ref p::xs) (put M1 p (.ins i (W.c_ i) [] [])) (λv M2=>v=.i_/\Q (.ref p) M2) (λi M'=>E i (L2.del M' p))) E:=rfl
@[simp ↓] theorem Ij{e m es}:wpE W (.v_ e m es) Z M Q E=wpE W e Z M (λx M1=>cr W.toWB m x M1 λf=>wpA W es Z M1 (λxs M2=>W.call f (x::xs) M2 Q E) E) E:=rfl
@[simp ↓] theorem Jn{i es}:wpE W (.ini i es) Z M Q E=wpA W es Z M (λxs M1=>i<W.nk/\gc (W.ini i) λf=>W.call f xs M1 Q E) E:=rfl
@[simp ↓] theorem Je{k}:wpE W (.glo k) Z M Q E=Q (W.glo k) M:=rfl
@[simp ↓] theorem J9{b o es}:wpE W (.bm b o es) Z M Q E=wpE W o Z M (λx M1=>tyB b x M1=true/\wpA W es Z M1 (λxs M2=>rBm b x xs M2 Q) E) E:=rfl
@[simp] theorem lO:av M M=M:=by
 funext a;unfold av;split<;>simp_all
@[simp] theorem gL(h:M p=none):av M (put M' p o)=av M M':=by
 funext a;unfold av put;split
 ·rename_i x e;split
  ·rename_i z;subst z;rw[h]at e;cases e
  ·rfl
 ·rfl
@[simp] theorem xE(h:M p=none):av M (L2.del M' p)=av M M':=by
 funext a;unfold av L2.del;split
 ·rename_i x e;split
  ·rename_i z;subst z;rw[h]at e;cases e
  ·rfl
 ·rfl
@[simp] theorem jF(h:M p=some u):av M (put M' p o)=put (av M M') p o:=by
 funext a;unfold av put;by_cases z:a=p
 ·subst z;simp[h]
 ·simp[z]
@[simp] theorem Gm:av (put M p o) (put M' p u)=put (av M M') p u:=by
 funext a;unfold av put;by_cases z:a=p
 ·subst z;simp
 ·simp[z]
@[simp ↓] theorem EE:gc (some f) R=R f:=rfl
@[simp ↓] theorem GS{B:WB}{f i C ns ds}:d7 B f (.obj i C ns ds) M Q=((C=B.c_ i/\i<B.nk/\B.fok i f=true)/\pj f ns ds M Q):=rfl
@[simp ↓] theorem FO{f n ns d ds}:pj f (n::ns) (d::ds) M Q=if n=f then Q d M else pj f ns ds M Q:=by
 unfold pj;rw[bK];by_cases h:n=f
 ·rw[Kp h,Kp h]
 ·rw[Kj h,Kj h]
@[simp ↓] theorem GB{B:WB}{m i C ns ds}:cr B m (.obj i C ns ds) M R=((C=B.c_ i/\i<B.nk/\bK m ns ds=none)/\gc (B.mth i m) R):=rfl
@[simp ↓] theorem Gk{B:WB}{m i C ns ds}:cr B m (.ref a) (put M a (.ins i C ns ds)) R=((C=B.c_ i/\i<B.nk/\bK m ns ds=none)/\gc (B.mth i m) R):=by
 simp[cr,ac]
@[simp] theorem Dz:bK f [] ds=none:=by unfold bK;rfl
@[simp] theorem AU:bK f (n::ns) (d::ds)=if n=f then some d else bK f ns ds:=by rw[bK]
@[simp] theorem Dy:ca f []=[f]:=rfl
@[simp] theorem CU:ca f (n::ns)=if n=f then n::ns else n::ca f ns:=rfl
@[simp] theorem DB:ce f y [] ds=[y]:=by unfold ce;rfl
@[simp] theorem Bc:ce f y (n::ns) (d::ds)=if n=f then y::ds else d::ce f y ns ds:=by rw[ce]
@[simp ↓] theorem Gv{ds}(h:M a=none):aY Q (.ref a) (put M a (.lst ds))=Q (.g_ ds) M:=by
 simp only[aY,ac,gT h]
@[simp ↓] theorem GA{i C ns ds}(h:M a=none):aY Q (.ref a) (put M a (.ins i C ns ds))=eL ds M (λr M'=>Q (.obj i C ns r) M'):=by
 simp only[aY,ac,gT h]
@[simp ↓] theorem Fd:eL [] M R=R [] M:=rfl
@[simp ↓] theorem EL{i ds}:eL (.int i::ds) M R=eL ds M (λr M'=>R (.int i::r) M'):=rfl
@[simp ↓] theorem F1{i ds}:eL (.tup i::ds) M R=eL ds M (λr M'=>R (.tup i::r) M'):=rfl
@[simp ↓] theorem Gd{fz ds lo hi}:oX fz (.tup ds) lo hi M Q=(whole ds.length lo hi=false/\Q (.tup (dq ds lo hi)) M):=rfl
@[simp ↓] theorem Go{ds lo hi}:oX true (.g_ ds) lo hi M Q=((dq ds lo hi).length<=sizeLine/\Q (.g_ (dq ds lo hi)) M):=rfl
@[simp ↓] theorem GI{a b}:lC .Add (.tup a) (.tup b) M Q=(a.length+b.length<=sizeLine/\Q (.tup (a++b)) M):=rfl
@[simp ↓] theorem HQ{tk}:wpE W (.LH tk) Z M Q E=∀p,M p=none->Q (.ref p) (put M p (dN tk)):=rfl
theorem vR{ks ds}(h:M a=some (.dk ks ds)):tyB .get (.ref a) M=true:=by simp[tyB,dh,h]
theorem tG{ks ds}(h:M a=some (.dk ks ds)):rBm .get (.ref a) [.int i,z] M Q=Q ((getD ks ds (.inl i)).getD z) M:=by simp[rBm,dQ,dh,h,mQ]
theorem jj{ds}(h:M a=some (.lst ds)):isLstM (.ref a) M=true:=by simp[isLstM,h]
@[simp] theorem Ch{x}:tyB .extend x M=isLstM x M:=rfl
theorem pS{ks ds}(h:M a=some (.dk ks ds)):az (.ref a) (.int i) y M R=(ks.length<sizeLine/\R (put M a (.dk (aj ks (.inl i)) (ao ks ds (.inl i) y)))):=by simp[az,h,mQ]
theorem t6{ds}(h:M a=some (.lst ds))(hj:ixN ds.length i=some j):az (.ref a) (.int i) y M R=R (put M a (.lst (ds.set j y))):=by simp[az,h,hj]
theorem be[DecidableEq κ]:∀{ks:List κ}{ds:List D}{k x:κ}{y:D},ks.length=ds.length->getD (aj ks k) (ao ks ds k y) x=if k=x then some y else getD ks ds x
 |[],ds,k,x,y,_=>by
  simp only[aj,ao];by_cases h:k=x
  ·simp[getD]
  ·cases ds<;>simp[getD]
 |k'::ks,[],k,x,y,h=>by simp at h
 |k'::ks,d::ds,k,x,y,h=>by
  simp only[aj,ao];have hl:ks.length=ds.length:=by simpa using h
  by_cases e:k'=k
  ·subst e;by_cases h2:k'=x<;>simp[getD,h2]
  ·simp only[Kj e,getD];by_cases h2:k'=x
   ·subst h2;rw[Kp rfl,Kj (Kz e),Kp rfl]
   ·rw[Kj h2,Kj h2];exact be hl
theorem cA[DecidableEq κ]:∀{ks:List κ}{ds:List D}{k:κ}{y:D},ks.length=ds.length->(aj ks k).length=(ao ks ds k y).length
 |[],ds,k,y,_=>by simp[aj,ao]
 |k'::ks,[],k,y,h=>by simp at h
 |k'::ks,d::ds,k,y,h=>by
  have hl:ks.length=ds.length:=by simpa using h
  simp only[aj,ao];by_cases e:k'=k
  ·simp[e,hl]
  ·simp only[Kj e,Ky];rw[cA hl]
def pE(W:WC)(tg:ITg)(cond:ITO)(A_:IE)(S:MH->Prop)(p:Addr)(Q:VK3):List D->List D->St3->MH->Prop:=bM (wpG tg) (λZ M Q=>kY W cond Z M Q (λ_ _=>False)) (λZ M Q=>wpE W A_ Z M Q (λ_ _=>False)) S p Q
def gS(W:WC)(tg:ITg)(cond:ITO)(A_:IE)(S:MH->Prop)(Q:VK3)(ds:List D)(Z:St3)(M:MH):Prop:=∀p,M p=none->pE W tg cond A_ S p (j9 Q) ds [] Z (put M p (.lst []))
@[simp ↓] theorem GD{N js tg it cond A_}:wpE W (.comp true N js tg it cond A_) Z M Q E=wpI W it Z M (λds S M1=>gS W tg cond A_ S Q ds (ax js Z) M1) E:=rfl
@[simp ↓] theorem HA{e}:wpT W (.val e) Z M QB E=wpE W e Z M (λx M1=>match x with
  |.bl k=>QB k M1
  |_=>False) E:=rfl
@[simp ↓] theorem HW{op a b}:wpT W (.cmp op a b) Z M QB E=wpE W a Z M (λx M1=>wpE W b Z M1 (λy M2=>aI op x y M2 λr M3=>match r with
  |.bl k=>QB k M3
  |_=>False) E) E:=rfl
@[simp ↓] theorem HE{a b}:wpT W (.and a b) Z M QB E=wpT W a Z M (λc M1=>if c=true then wpT W b Z M1 QB E else QB false M1) E:=rfl
@[simp ↓] theorem Jg{a b}:wpT W (.or a b) Z M QB E=wpT W a Z M (λc M1=>if c=true then QB true M1 else wpT W b Z M1 QB E) E:=rfl
@[simp ↓] theorem HU{a}:wpT W (.not a) Z M QB E=wpT W a Z M (λc M1=>QB (!c) M1) E:=rfl
@[simp ↓] theorem G0:wpA W .nil Z M QL E=QL [] M:=rfl
@[simp ↓] theorem GP{e r}:wpA W (.cons e r) Z M QL E=wpE W e Z M (λx M1=>wpA W r Z M1 (λxs M2=>QL (x::xs) M2) E) E:=rfl
@[simp ↓] theorem JE:wpO W .no Z M QO E=QO none M:=rfl
@[simp ↓] theorem GV{e}:wpO W (.yes e) Z M QO E=wpE W e Z M (λx M1=>match x with
  |.int i=>QO (some i) M1
  |_=>False) E:=rfl
@[simp ↓] theorem GX{e}:kY W (.yes e) Z M QB E=wpT W e Z M QB E:=rfl
def oV(R:List D->(MH->Prop)->MH->Prop):VK3:=λx M1=>match x with
  |.tup ds=>R ds (λ_=>True) M1
  |.g_ ds=>R ds (λ_=>True) M1
  |.ref a=>match M1 a with
   |some (.lst ds)=>R ds (λM=>M a=some (.lst ds)) M1
   |_=>False
  |_=>False
@[simp ↓] theorem FS{ds}:oV R (.tup ds) M=R ds (λ_=>True) M:=rfl
@[simp ↓] theorem vG{ds}:oV R (.g_ ds) M=R ds (λ_=>True) M:=rfl
theorem wp{a ds}(h:M a=some (.lst ds)):oV R (.ref a) M=R ds (λM=>M a=some (.lst ds)) M:=by
 unfold oV;simp only[h]
@[simp ↓] theorem HF{e}:wpI W (.seq e) Z M R E=wpE W e Z M (oV R) E:=rfl
@[simp ↓] theorem Gf{a}:wpI W (.enum a) Z M R E=wpE W a Z M (λx M1=>match x with
  |.g_ ds=>R (cj 0 ds) (λ_=>True) M1
  |.ref a=>match M1 a with
   |some (.lst ds)=>R (cj 0 ds) (λM=>M a=some (.lst ds)) M1
   |_=>False
  |_=>False) E:=rfl
@[simp ↓] theorem EO{a}:wpI W (.items a) Z M R E=wpE W a Z M (λx M1=>match x with
  |.I_ ks ds=>R (aw ks ds) (λ_=>True) M1
  |.Mo ks ds=>R (gz ks ds) (λ_=>True) M1
  |_=>False) E:=rfl
@[simp ↓] theorem IV{a}:wpI W (.dk a) Z M R E=wpE W a Z M (λx M1=>match x with
  |.I_ ks ds=>R (ks.map bR) (λ_=>True) M1
  |_=>False) E:=rfl
@[simp ↓] theorem Hv{a b}:wpI W (.zip a b) Z M R E=wpE W a Z M (λx M1=>wpE W b Z M1 (λy M2=>rLs x M2 λxs S=>rLs y M2 λys S'=>R (lG xs ys) (λM=>S M/\S' M) M2) E) E:=rfl
@[simp] theorem HX{k}:rLs (.g_ xs) M k=k xs λ_=>True:=rfl
@[simp ↓] theorem GJ{a}:wpI W (.My a) Z M R E=wpE W a Z M (λx M1=>match x with
  |.int j=>-(2 ^ 62)<=j/\j<2 ^ 62/\R (rng 0 j.toNat) (λ_=>True) M1
  |_=>False) E:=rfl
end
section
variable {W:WC}{Z:St3}{De:Ends3}{x:Option D}
@[simp ↓] theorem HP:aR W .nil De ES Z M=De.nx Z M:=rfl
@[simp ↓] theorem GE{s r}:aR W (.cons s r) De ES (x::Z) M=wpS W s {De with nx:=λl_ M'=>aR W r De ES l_ M'} ES (x::Z) M:=rfl
@[simp ↓] theorem Iz{e}:wpS W (.set 1 e) De ES (y0::x::Z) M=wpE W e (y0::x::Z) M (λv M1=>De.nx (y0::some v::Z) M1) (ES (y0::x::Z)):=rfl
@[simp ↓] theorem Hw{e}:wpS W (.set 2 e) De ES (y0::y1::x::Z) M=wpE W e (y0::y1::x::Z) M (λv M1=>De.nx (y0::y1::some v::Z) M1) (ES (y0::y1::x::Z)):=rfl
@[simp ↓] theorem Iv{e}:wpS W (.set 3 e) De ES (y0::y1::y2::x::Z) M=wpE W e (y0::y1::y2::x::Z) M (λv M1=>De.nx (y0::y1::y2::some v::Z) M1) (ES (y0::y1::y2::x::Z)):=rfl
@[simp ↓] theorem HH{e}:wpS W (.set 4 e) De ES (y0::y1::y2::y3::x::Z) M=wpE W e (y0::y1::y2::y3::x::Z) M (λv M1=>De.nx (y0::y1::y2::y3::some v::Z) M1) (ES (y0::y1::y2::y3::x::Z)):=rfl
@[simp ↓] theorem Hz{e}:wpS W (.set 5 e) De ES (y0::y1::y2::y3::y4::x::Z) M=wpE W e (y0::y1::y2::y3::y4::x::Z) M (λv M1=>De.nx (y0::y1::y2::y3::y4::some v::Z) M1) (ES (y0::y1::y2::y3::y4::x::Z)):=rfl
@[simp ↓] theorem GU{e}:wpS W (.set 6 e) De ES (y0::y1::y2::y3::y4::y5::x::Z) M=wpE W e (y0::y1::y2::y3::y4::y5::x::Z) M (λv M1=>De.nx (y0::y1::y2::y3::y4::y5::some v::Z) M1) (ES (y0::y1::y2::y3::y4::y5::x::Z)):=rfl
@[simp ↓] theorem Hk{e}:wpS W (.set 7 e) De ES (y0::y1::y2::y3::y4::y5::y6::x::Z) M=wpE W e (y0::y1::y2::y3::y4::y5::y6::x::Z) M (λv M1=>De.nx (y0::y1::y2::y3::y4::y5::y6::some v::Z) M1) (ES (y0::y1::y2::y3::y4::y5::y6::x::Z)):=rfl
@[simp ↓] theorem Im{e}:wpS W (.set 8 e) De ES (y0::y1::y2::y3::y4::y5::y6::y7::x::Z) M=wpE W e (y0::y1::y2::y3::y4::y5::y6::y7::x::Z) M (λv M1=>De.nx (y0::y1::y2::y3::y4::y5::y6::y7::some v::Z) M1) (ES (y0::y1::y2::y3::y4::y5::y6::y7::x::Z)):=rfl
@[simp ↓] theorem Hj{e}:wpS W (.set 9 e) De ES (y0::y1::y2::y3::y4::y5::y6::y7::y8::x::Z) M=wpE W e (y0::y1::y2::y3::y4::y5::y6::y7::y8::x::Z) M (λv M1=>De.nx (y0::y1::y2::y3::y4::y5::y6::y7::y8::some v::Z) M1) (ES (y0::y1::y2::y3::y4::y5::y6::y7::y8::x::Z)):=rfl
@[simp ↓] theorem Gq{e}:wpS W (.set 10 e) De ES (y0::y1::y2::y3::y4::y5::y6::y7::y8::y9::x::Z) M=wpE W e (y0::y1::y2::y3::y4::y5::y6::y7::y8::y9::x::Z) M (λv M1=>De.nx (y0::y1::y2::y3::y4::y5::y6::y7::y8::y9::some v::Z) M1) (ES (y0::y1::y2::y3::y4::y5::y6::y7::y8::y9::x::Z)):=rfl
@[simp ↓] theorem Gp{e}:wpS W (.set 11 e) De ES (y0::y1::y2::y3::y4::y5::y6::y7::y8::y9::y10::x::Z) M=wpE W e (y0::y1::y2::y3::y4::y5::y6::y7::y8::y9::y10::x::Z) M (λv M1=>De.nx (y0::y1::y2::y3::y4::y5::y6::y7::y8::y9::y10::some v::Z) M1) (ES (y0::y1::y2::y3::y4::y5::y6::y7::y8::y9::y10::x::Z)):=rfl
@[simp ↓] theorem Gw{e}:wpS W (.set 12 e) De ES (y0::y1::y2::y3::y4::y5::y6::y7::y8::y9::y10::E_::x::Z) M=wpE W e (y0::y1::y2::y3::y4::y5::y6::y7::y8::y9::y10::E_::x::Z) M (λv M1=>De.nx (y0::y1::y2::y3::y4::y5::y6::y7::y8::y9::y10::E_::some v::Z) M1) (ES (y0::y1::y2::y3::y4::y5::y6::y7::y8::y9::y10::E_::x::Z)):=rfl
@[simp ↓] theorem Gg{e}:wpS W (.set 13 e) De ES (y0::y1::y2::y3::y4::y5::y6::y7::y8::y9::y10::E_::y12::x::Z) M=wpE W e (y0::y1::y2::y3::y4::y5::y6::y7::y8::y9::y10::E_::y12::x::Z) M (λv M1=>De.nx (y0::y1::y2::y3::y4::y5::y6::y7::y8::y9::y10::E_::y12::some v::Z) M1) (ES (y0::y1::y2::y3::y4::y5::y6::y7::y8::y9::y10::E_::y12::x::Z)):=rfl
@[simp ↓] theorem Gb{e}:wpS W (.set 14 e) De ES (y0::y1::y2::y3::y4::y5::y6::y7::y8::y9::y10::E_::y12::y13::x::Z) M=wpE W e (y0::y1::y2::y3::y4::y5::y6::y7::y8::y9::y10::E_::y12::y13::x::Z) M (λv M1=>De.nx (y0::y1::y2::y3::y4::y5::y6::y7::y8::y9::y10::E_::y12::y13::some v::Z) M1) (ES (y0::y1::y2::y3::y4::y5::y6::y7::y8::y9::y10::E_::y12::y13::x::Z)):=rfl
@[simp ↓] theorem Gj{e}:wpS W (.set 15 e) De ES (y0::y1::y2::y3::y4::y5::y6::y7::y8::y9::y10::E_::y12::y13::y14::x::Z) M=wpE W e (y0::y1::y2::y3::y4::y5::y6::y7::y8::y9::y10::E_::y12::y13::y14::x::Z) M (λv M1=>De.nx (y0::y1::y2::y3::y4::y5::y6::y7::y8::y9::y10::E_::y12::y13::y14::some v::Z) M1) (ES (y0::y1::y2::y3::y4::y5::y6::y7::y8::y9::y10::E_::y12::y13::y14::x::Z)):=rfl
@[simp ↓] theorem Gh{e}:wpS W (.set 16 e) De ES (y0::y1::y2::y3::y4::y5::y6::y7::y8::y9::y10::E_::y12::y13::y14::LS::x::Z) M=wpE W e (y0::y1::y2::y3::y4::y5::y6::y7::y8::y9::y10::E_::y12::y13::y14::LS::x::Z) M (λv M1=>De.nx (y0::y1::y2::y3::y4::y5::y6::y7::y8::y9::y10::E_::y12::y13::y14::LS::some v::Z) M1) (ES (y0::y1::y2::y3::y4::y5::y6::y7::y8::y9::y10::E_::y12::y13::y14::LS::x::Z)):=rfl
@[simp ↓] theorem Ge{e}:wpS W (.set 17 e) De ES (y0::y1::y2::y3::y4::y5::y6::y7::y8::y9::y10::E_::y12::y13::y14::LS::LZ::x::Z) M=wpE W e (y0::y1::y2::y3::y4::y5::y6::y7::y8::y9::y10::E_::y12::y13::y14::LS::LZ::x::Z) M (λv M1=>De.nx (y0::y1::y2::y3::y4::y5::y6::y7::y8::y9::y10::E_::y12::y13::y14::LS::LZ::some v::Z) M1) (ES (y0::y1::y2::y3::y4::y5::y6::y7::y8::y9::y10::E_::y12::y13::y14::LS::LZ::x::Z)):=rfl
def iY(B:WB)(f:Nat)(y:D)(R:MH->Prop):VK3:=λx M2=>match x with
  |.ref a=>match M2 a with
   |some (.ins i C ns ds)=>(C=B.c_ i/\i<B.nk/\B.fok i f=true/\ns.length<1000)/\R (put M2 a (.ins i C (ca f ns) (ce f y ns ds)))
   |_=>False
  |_=>False
@[simp ↓] theorem Fu{B:WB}{i C ns ds}:iY B f y R (.ref a) (put M a (.ins i C ns ds))=((C=B.c_ i/\i<B.nk/\B.fok i f=true/\ns.length<1000)/\R (put M a (.ins i C (ca f ns) (ce f y ns ds)))):=by
 simp[iY,ac,ba]
def lD(is:List Nat)(Z:St3)(k:St3->MH->Prop):VK3:=λx M1=>match x with
  |.tup ds=>ds.length=is.length/\k ((is.zip ds).foldl (λZ p=>Z.set p.1 (some p.2)) Z) M1
  |_=>False
@[simp ↓] theorem GQ{i j a b k}:lD [i,j] Z k (.tup [a,b]) M=k ((Z.set i (some a)).set j (some b)) M:=by
 simp[lD]
@[simp ↓] theorem HZ{is e}:wpS W (.Oe is e) De ES Z M=wpE W e Z M (lD is Z De.nx) (ES Z):=rfl
@[simp ↓] theorem Gr{e}:wpS W (.expr e) De ES Z M=wpE W e Z M (λ_ M1=>De.nx Z M1) (ES Z):=rfl
@[simp ↓] theorem Ic{e}:wpS W (.ret e) De ES Z M=wpE W e Z M De.rt (ES Z):=rfl
@[simp ↓] theorem GM:wpS W .ML De ES Z M=De.rt .i_ M:=rfl
@[simp ↓] theorem GF:wpS W .dead De ES Z M=False:=rfl
@[simp ↓] theorem GK{o f e}:wpS W (.LV o f e) De ES Z M=wpE W e Z M (λy M1=>wpE W o Z M1 (iY W.toWB f y (De.nx Z)) (ES Z)) (ES Z):=rfl
@[simp ↓] theorem Em{o i e}:wpS W (.F_ o i e) De ES Z M=wpE W e Z M (λy M1=>wpE W o Z M1 (λx M2=>wpE W i Z M2 (λk M3=>az x k y M3 λM4=>De.nx Z M4) (ES Z)) (ES Z)) (ES Z):=rfl
@[simp ↓] theorem Hr{c a b}:wpS W (.ifs c a b) De ES Z M=wpT W c Z M (λk M1=>if k=true then aR W a De ES Z M1 else aR W b De ES Z M1) (ES Z):=rfl
def aP(W:WC)(tg:ITg)(body:ISs)(ES:St3->XN)(S:MH->Prop)(De:Ends3):List D->St3->MH->Prop:=cG (wpG tg) (λD Z M=>aR W body D ES Z M) S De
@[simp ↓] theorem Ii{tg it body}:wpS W (.Ls tg it body) De ES Z M=wpI W it Z M (λds S M1=>aP W tg body ES S De ds Z M1) (ES Z):=rfl
theorem aV{tg body S}:aP W tg body ES S De [] Z M=(S M/\De.nx Z M):=rfl
theorem aD{tg body S d r}:aP W tg body ES S De (d::r) Z M=(S M/\wpG tg d Z M λL7 M2=>aR W body {De with nx:=aP W tg body ES S De r,ct:=aP W tg body ES S De r,bk:=De.nx} ES L7 M2):=rfl
def lu(W:WC)(e:IE)(De:Ends3)(E:XN)(Z:St3):VK3:=λx M1=>match x with
  |.ref a=>match M1 a with
   |some (.lst _)=>wpE W e Z M1 (λy M2=>match M2 a with
    |some (.lst ds)=>ds.length<sizeLine/\De.nx Z (put M2 a (.lst (ds++[y])))
    |_=>False) E
   |_=>False
  |_=>False
@[simp ↓] theorem G3{o e}:wpS W (.app o e) De ES Z M=wpE W o Z M (lu W e De (ES Z) Z) (ES Z):=rfl
def bW(p:Addr)(De:Ends3)(Z:St3):VK3:=λy M2=>match M2 p with
    |some (.lst ds)=>ds.length<sizeLine/\De.nx Z (put M2 p (.lst (ds++[y])))
    |_=>False
@[simp ↓] theorem Gi{e E p ds}:lu W e De E Z (.ref p) (put M p (.lst ds))=wpE W e Z (put M p (.lst ds)) (bW p De Z) E:=by
 unfold lu;simp only[ac];rfl
@[simp ↓] theorem FR{p ds y}:bW p De Z y (put M p (.lst ds))=(ds.length<sizeLine/\De.nx Z (put M p (.lst (ds++[y])))):=by
 unfold bW;simp only[ac,ba]
@[simp ↓] theorem Gz{i d k}:wpG (.name i) d Z M k=k (Z.set i (some d)) M:=rfl
@[simp ↓] theorem G9{is d k}:wpG (.tup is) d Z M k=lD is Z k d M:=rfl
end
section
variable {i j:Int}{x:D}
@[simp ↓] theorem Jv:lC .Add (.int i) (.int j) M Q=Q (.int (i+j)) M:=rfl
@[simp ↓] theorem Jd:lC .Sub (.int i) (.int j) M Q=Q (.int (i-j)) M:=rfl
@[simp ↓] theorem JO:lC .Mult (.int i) (.int j) M Q=(bI i j/\Q (.int (i*j)) M):=rfl
@[simp ↓] theorem JS:lC .FloorDiv (.int i) (.int j) M Q=(mf i j/\Q (.int (i / j)) M):=rfl
@[simp ↓] theorem Jm:lC .Mod (.int i) (.int j) M Q=(0<j/\Q (.int (i % j)) M):=rfl
@[simp ↓] theorem Ja:lC .Pow (.int i) (.int j) M Q=(uO i j/\Q (.int (i ^ j.toNat)) M):=rfl
@[simp ↓] theorem dP{fz x}:rBi (.sorted fz) [x] M Q=(match ak M x with
   |some ds=>match dY ds with
    |some ps=>(ps.length<64/\ps.Nodup)/\∀qs:List IP,qs.Perm ps->qs.Pairwise (λa b=>ltP a b=true)->fc fz (qs.map prI) M Q
    |none=>False
   |none=>False):=rfl
@[simp ↓] theorem Jp:rNeg (.int i) M Q=Q (.int (-i)) M:=rfl
@[simp ↓] theorem J4:aI .Lt (.int i) (.int j) M Q=Q (.bl (decide (i<j))) M:=rfl
@[simp ↓] theorem Kc:aI .LtE (.int i) (.int j) M Q=Q (.bl (decide (i<=j))) M:=rfl
@[simp ↓] theorem Ke:aI .Gt (.int i) (.int j) M Q=Q (.bl (decide (j<i))) M:=rfl
@[simp ↓] theorem IH:aI .Eq (.int i) (.int j) M Q=Q (.bl (decide (i=j))) M:=by simp[aI,jd,rs,ak,plN,eqD]
@[simp ↓] theorem Jb:aI .NotEq (.int i) (.int j) M Q=Q (.bl (!decide (i=j))) M:=by simp[aI,jd,rs,ak,plN,eqD]
@[simp ↓] theorem Jy:aI .Eq (.str s) (.str t) M Q=Q (.bl (decide (s=t))) M:=by simp[aI,jd,rs,ak,plN,eqD]
@[simp ↓] theorem JB:aI .Is x .i_ M Q=Q (.bl x.isN) M:=by simp[aI,uc]
@[simp ↓] theorem HM:aI .IsNot x .i_ M Q=Q (.bl (!x.isN)) M:=by simp[aI,uc]
@[simp] theorem Gx:(D.int i).isN=false:=rfl
@[simp] theorem Gc:D.i_.isN=true:=rfl
@[simp ↓] theorem JM{d l}:ar (.tup (d::l)) (.int 0) M Q=Q d M:=by simp[ar,aA,qV]
@[simp ↓] theorem JH{d e l}:ar (.tup (d::e::l)) (.int 1) M Q=Q e M:=by simp[ar,aA,tQ]
@[simp ↓] theorem IL{d e f l}:ar (.tup (d::e::f::l)) (.int 2) M Q=Q f M:=by simp[ar,aA,tN]
@[simp ↓] theorem Jk{d e f g l}:ar (.tup (d::e::f::g::l)) (.int 3) M Q=Q g M:=by simp[ar,aA,xD]
@[simp ↓] theorem IG{d e f g h l}:ar (.tup (d::e::f::g::h::l)) (.int 4) M Q=Q h M:=by
 have:atI (d::e::f::g::h::l) 4=some h:=cY (j:=4) rfl;simp[ar,aA,this]
theorem qB{ds y}(h:M a=some (.lst ds)):ar (.ref a) y M Q=ar (.g_ ds) y M Q:=by
 cases y<;>simp[ar,aA,ak,h]
@[simp ↓] theorem FK{ds}:rBi (.list true) [.g_ ds] M Q=(ds.length<=sizeLine/\Q (.g_ ds) M):=rfl
@[simp ↓] theorem Ju{d l}:ar (.g_ (d::l)) (.int 0) M Q=Q d M:=by simp[ar,aA,ak,qV]
@[simp ↓] theorem Jt{d e l}:ar (.g_ (d::e::l)) (.int 1) M Q=Q e M:=by simp[ar,aA,ak,tQ]
@[simp ↓] theorem Js{d e f l}:ar (.g_ (d::e::f::l)) (.int 2) M Q=Q f M:=by simp[ar,aA,ak,tN]
@[simp ↓] theorem Jj{d e f g l}:ar (.g_ (d::e::f::g::l)) (.int 3) M Q=Q g M:=by simp[ar,aA,ak,xD]
@[simp ↓] theorem GH{ds}:rBi .len [.tup ds] M Q=Q (.int ds.length) M:=rfl
@[simp ↓] theorem GR{ds}:rBi .len [.g_ ds] M Q=Q (.int ds.length) M:=rfl
@[simp ↓] theorem HY:rBi .max [.int i,.int j] M Q=Q (.int (if j > i then j else i)) M:=rfl
@[simp ↓] theorem Iu:rBi .min [.int i,.int j] M Q=Q (.int (if j<i then j else i)) M:=rfl
@[simp ↓] theorem IZ{ds}:fc true ds M Q=(ds.length<=sizeLine/\Q (.g_ ds) M):=by simp[fc]
@[simp ↓] theorem HJ{ds es}:jO true (.g_ ds) (.g_ es) M Q=((ds++es).length<=sizeLine/\Q (.g_ (ds++es)) M):=by simp[jO,ak,fc]
@[simp ↓] theorem JA{ds}:fc false ds M Q=(ds.length<=sizeLine/\∀p,M p=none->Q (.ref p) (put M p (.lst ds))):=by simp[fc]
theorem au(h:n<=1000):(n<=sizeLine)=True:=eq_true (KB h (by decide))
theorem DX(h:n<1000):(n<sizeLine)=True:=eq_true (Kv h (by decide))
@[simp ↓] theorem Ga{t}:lE t (.int i) M Q=Q (.bl (match t with|.int=>true|_=>false)) M:=rfl
@[simp ↓] theorem Gs{t ds}:lE t (.tup ds) M Q=Q (.bl (match t with|.tuple=>true|_=>false)) M:=rfl
@[simp ↓] theorem GG{t ds}:lE t (.g_ ds) M Q=Q (.bl (match t with|.list=>true|_=>false)) M:=rfl
end
section
variable {W:WC}{tg:ITg}{cond:ITO}{A_:IE}{p:Addr}{Q:VK3}{Z:St3}{M:MH}{ys:List D}
@[simp ↓] theorem GT{ds}:j9 Q (.ref p) (put M p (.lst ds))=Q (.g_ ds) (L2.del (put M p (.lst ds)) p):=by
 simp only[j9,ac]
def Fm(M:MH):Prop:=∃n,∀p,n<=p->M p=none
theorem Fm.nil:Fm (λ_=>none):=⟨0,λ_ _=>rfl⟩
theorem uH{M:MH}(h:Fm M){p:Prop}:(∀a:Addr,M a=none->p)=p:=propext ⟨λf=>let ⟨n,k⟩:=h;f n (k n (Km _)),λf _ _=>f⟩
theorem Fm.put{M:MH}(h:Fm M)(p:Addr)(o:DO):Fm (put M p o):=by
 obtain⟨n,h⟩:=h;refine⟨max n (p+1),λq hq=>?_⟩
 rw[ae (Nat.ne_of_gt (Nat.lt_of_succ_le (KB (Nat.le_max_right n (p+1)) hq)))];exact h q (KB (Nat.le_max_left _ _) hq)
theorem aC{M:MH}(hM:Fm M){P:Addr->Prop}{q:Prop}(h:∀p,M p=none->P p=q):(∀p,M p=none->P p)=q:=by
 rw[<-uH hM (p:=q)];exact forall_congr λp=>implies_congr_ctx rfl λhp=>h p hp
theorem EX{cs:List Int}(h1 : -(cs.length:Int)<=i)(h2:i<cs.length):∃x,atI (cs.map D.int) i=some (.int x):=by
 unfold atI ixN;rw[Kr];by_cases h:0<=i
 ·have hk:i.toNat<cs.length:=by omega
  rw[Kp h,Kp h2];exact⟨cs[i.toNat],by simp⟩
 ·have hk:(i+cs.length).toNat<cs.length:=by omega
  rw[Kj h,Kp h1];exact⟨cs[(i+cs.length).toNat],by simp⟩
theorem iV(h:atI ds i=some x):ar (.g_ ds) (.int i) M Q=Q x M:=by simp[ar,aA,ak,h]
theorem bX(h:put M p o q=none):q≠p/\M q=none:=by
 unfold put at h;split at h
 ·cases h
 ·exact⟨by assumption,h⟩
theorem wW(hp:M p=none)(hq:q≠p):L2.del (put (put M p o) q u) p=put M q u:=by
 funext a;unfold L2.del put;by_cases e:a=p
 ·subst e;simp[Kz hq,hp]
 ·simp[e]
def Ext(M M':MH):Prop:=Fm M'/\∀a o,M a=some o->M' a=some o
theorem Ext.put{M:MH}(hM:Fm M){p:Addr}(h:M p=none)(o:DO):Ext M (put M p o):=⟨hM.put _ _,λa u e=>by rw[ae (λz=>by rw[z,h]at e;cases e)];exact e⟩
section
variable {W:WC}{Z:St3}{M:MH}{Q:VK3}{tg:ITg}{cond:ITO}{A_:IE}{p:Addr}{S:MH->Prop}
theorem p4{d:D}{r ys:List D}:pE W tg cond A_ S p Q (d::r) ys Z M=(S M/\ys.length<sizeLine/\wpG tg d Z M λL7 M2=>kY W cond L7 M2 (λb M3=>if b=true then wpE W A_ L7 M3 (λy M4=>M4 p=some (.lst ys)/\pE W tg cond A_ S p Q r (ys++[y]) L7 (put M4 p (.lst (ys++[y])))) (λ_ _=>False) else pE W tg cond A_ S p Q r ys L7 M3) (λ_ _=>False)):=rfl
theorem iu{α:Type}(φ:α->D)(P:St3->Prop)(st:α->St3)(c:α->Bool)(f:α->D):∀(ds:List α)(ys:List D)(Z:St3) {M:MH},P Z->Fm M->M p=none->ys.length+ds.length<sizeLine->(∀M',Ext M M'->S M')->
  (∀d∈ds,P (st d)/\∀Z,P Z->∀(M:MH)(k:St3->MH->Prop),wpG tg (φ d) Z M k=k (st d) M)->
  (∀d∈ds,∀M',Ext M M'->∀Q:Bool->MH->Prop,kY W cond (st d) M' Q (λ_ _=>False)=Q (c d) M')->
  (∀d∈ds,c d=true->∀M',Ext M M'->∀Q,wpE W A_ (st d) M' Q (λ_ _=>False)=Q (f d) M')->
  pE W tg cond A_ S p Q (ds.map φ) ys Z (put M p (.lst ys))=Q (.ref p) (put M p (.lst (ys++(ds.filter c).map f)))
 |[],ys,Z,M,h0,hM,hp,hl,hS,hg,hc,he=>by
  show (S (put M p (.lst ys))/\Q (.ref p) (put M p (.lst ys)))=_;simp[hS _ (.put hM hp _)]
 |d::ds,ys,Z,M,h0,hM,hp,hl,hS,hg,hc,he=>by
  have QR:ys.length+(ds.length+1)<sizeLine:=hl;obtain⟨g1,g2⟩:=hg d Kl;have ih:=λys hy=>iu φ P st c f ds ys (st d) g1 hM hp hy hS (λe h=>hg e (Ki _ h)) (λe h=>hc e (Ki _ h)) (λe h=>he e (Ki _ h))
  rw[Kn,p4,g2 Z h0,hc d Kl _ (.put hM hp _),eq_true (hS _ (.put hM hp _)),true_and];cases q:c d with
  |true=>
   rw[Kp rfl,he d Kl q _ (.put hM hp _),ac,ba,ih _ (by rw[KO,List.length_singleton];omega)]
   simp only[List.filter_cons,q,if_true,Kn,List.append_assoc,List.singleton_append,true_and];rw[eq_true (show ys.length<sizeLine by omega),true_and]
  |false=>
   rw[Kj Ku,ih _ (by omega)]
   simp only[List.filter_cons,q,KY,if_false];rw[eq_true (show ys.length<sizeLine by omega),true_and]
theorem cz{α:Type}{ds:List α}(φ:α->D)(P:St3->Prop)(st:α->St3)(c:α->Bool)(f:α->D)(h0:P Z)(hM:Fm M)(hl:ds.length<10000)
  (hg:∀d∈ds,P (st d)/\∀Z,P Z->∀(M:MH)(k:St3->MH->Prop),wpG tg (φ d) Z M k=k (st d) M)
  (hc:∀d∈ds,∀M',Ext M M'->∀Q:Bool->MH->Prop,kY W cond (st d) M' Q (λ_ _=>False)=Q (c d) M')
  (he:∀d∈ds,c d=true->∀M',Ext M M'->∀Q,wpE W A_ (st d) M' Q (λ_ _=>False)=Q (f d) M') (hS:∀M',Ext M M'->S M':=by exact λ_ _=>trivial) :
  gS W tg cond A_ S Q (ds.map φ) Z M=Q (.g_ ((ds.filter c).map f)) M:=
 aC hM λp hp=>(iu φ P st c f ds [] Z h0 hM hp (by rw[List.length_nil,Nat.zero_add];exact Nat.lt_trans hl (by decide)) hS hg hc he).trans (by simp[ac,gT hp])
theorem gN{α:Type}{aU:St3}{x:Option D}{ds:List α}(φ:α->D)(c:α->Bool)(f:α->D)(hM:Fm M)(hl:ds.length<10000)
  (hc:∀d∈ds,∀M',Ext M M'->∀Q:Bool->MH->Prop,kY W cond (some (φ d)::aU) M' Q (λ_ _=>False)=Q (c d) M')
  (he:∀d∈ds,c d=true->∀M',Ext M M'->∀Q,wpE W A_ (some (φ d)::aU) M' Q (λ_ _=>False)=Q (f d) M') (hS:∀M',Ext M M'->S M':=by exact λ_ _=>trivial) :
  gS W (.name 0) cond A_ S Q (ds.map φ) (x::aU) M=Q (.g_ ((ds.filter c).map f)) M:=
 cz φ (λZ=>∃y,Z=y::aU) (λd=>some (φ d)::aU) c f ⟨x,rfl⟩ hM hl (λd _=>⟨⟨_,rfl⟩,λZ ⟨y,e⟩ M k=>by subst e;rfl⟩) hc he hS
end
theorem sF(P:St3->Prop)(h0:P Z)(step:∀d∈ds,∀Z,P Z->∀k:St3->MH->Prop,(∀l_,P l_->k l_ M)->wpG tg d Z M λL7 M2=>aR W body {De with nx:=k,ct:=k,bk:=De.nx} ES L7 M2)(done:∀Z,P Z->De.nx Z M) :
  aP W tg body ES (λ_=>True) De ds Z M:=by
 induction ds generalizing Z with
 |nil=>rw[aV];exact⟨trivial,done Z h0⟩
 |cons d ds ih=>
  exact⟨trivial,step d Kl Z h0 _ λl_ p=>ih p λe he=>step e (Ki _ he)⟩
theorem lJ(g:α->D)(f:α->Bool)(xs:List α)(h:∀x∈xs,g x=.bl (f x)):fD (xs.map g)=some (xs.map f):=by
 induction xs with
 |nil=>rfl
 |cons a r ih=>
  rw[Kn,h a Kl];simp only[fD];rw[ih λx hx=>h x (Ki _ hx)]
  rfl
theorem rN(f:α->Bool){xs:List α}(h:∀x∈xs,g x=.bl (f x)):rBi .all [.g_ (xs.map g)] M Q=Q (.bl (xs.all f)) M:=by
 simp only[rBi,ak,lJ g f xs h];simp[Function.comp_def]
end
end L2
namespace L2
open PySem PySem.NumText PyProof.Rows StrLaws
end L2
namespace HD
open PySem PySem.W PyProof.Rows L2
def pw:Program:=PySem.Challenge.pw_driftmeet_k35_the_net_of_a_log
def top(i:Nat):Stmt:=PySem.Challenge.pw_driftmeet_k35_the_net_of_a_log.main.body.getD i (.Pass ⟨0,0,0,0⟩)
abbrev R(a:Nat):Value:=.ref a
abbrev I(i:Nat):Value:=.int i 0
abbrev e(P:Params)(s:String)(t:Nat)(v:Value):DictEntry:=⟨PyData.keyHash P s,.str s t,v⟩
abbrev co(n:String)(a:Nat)(m:String)(b c d e g h i j:Nat)(k:Bool)(l o q r s:Nat):Data:=.fields #[.str n a,.str m b,.str "/claim/cut.py" c,I d,I e,I g,I h,I i,R j,.bool k,I l,R o,.none,.none,.none,.none,I q,I r,.str "/claim/cut.py" s]
abbrev cp(n:String)(a:Nat)(m:String)(b c d e g h i j:Nat)(k:Bool)(l o x y z q r s:Nat):Data:=.fields #[.str n a,.str m b,.str "/claim/cut.py" c,I d,I e,I g,I h,I i,R j,.bool k,I l,R o,.none,R x,R y,R z,I q,I r,.str "/claim/cut.py" s]
abbrev v0:Value:=.type "dict"
abbrev v1:Value:=.type "object"
abbrev v2:Value:=.str "driftmeet.errors" 194
abbrev v3:Value:=.type "type"
abbrev v4:Value:=.builtin "object.__new__"
abbrev v5:Value:=.str "driftmeet.nets" 674
abbrev v6:Value:=.type "ValueError"
abbrev v7:Value:=.str "driftmeet.happenings" 328
abbrev v8:Value:=.builtin "ValueError.__new__"
abbrev F:=Params->Obj
abbrev fo(n q:String)(s:Stmt)(m:String)(t c:Nat):F:=λ_=>⟨.type "function",none,.func (fnOf n q (fF s) (d8 s) (bF s) .none .none .none (.str m t) none (.ref c) .none),#[]⟩
abbrev fp(n q:String)(s:Stmt):F:=λ_=>⟨.none,none,.func {fnOf n q (fF s) (d8 s) (bF s) .none .none .none .none none .none .none with globals:=0,builtins:=0},#[]⟩
abbrev vf(l:Array Value):F:=λ_=>⟨.none,none,.fields l,#[]⟩
abbrev tu(l:Array Value):F:=λ_=>⟨.type "tuple",none,.seq l 0,#[]⟩
abbrev cd(d:Data):F:=λ_=>⟨.type "code",none,d,#[]⟩
abbrev bf(a:String)(b:Nat):F:=λ_=>⟨.type "builtin_function_or_method",none,.fields #[.builtin a,.ref b],#[]⟩
abbrev n(o:F)(x y:Params->W.BT):Params->W.BT:=λP=>.node (o P) (x P) (y P)
abbrev z:Params->W.BT:=λ_=>.nil
abbrev l(o:F):Params->W.BT:=λP=>.node (o P) .nil .nil
abbrev x0(a:String)(b:Nat)(c:String)(d:Nat)(f:Nat)(g:Nat)(h:Nat):F:=cd (cp a b c (b+1) (b+2) d f 0 0 3 g true 181 (g+1) (g+2) (g+3) (g+4) h d (h+1))
abbrev x1(a:String)(b:String)(c:Nat)(d:Nat):F:=fp a b (am (top c) d)
abbrev x2(a:String)(b:Nat):F:=fp a a (top b)
abbrev x3(a:String)(b:Nat)(c:String)(d:Nat)(f:Nat):F:=fo a a (top b) c d f
abbrev x4(a:String)(b:String)(c:Nat)(d:Nat)(f:String)(g:Nat)(h:Nat):F:=fo a b (am (top c) d) f g h
abbrev x6(a:String)(b:Nat):F:=tu #[(.str a b)]
abbrev x7(a:String)(b:Nat)(c:Nat)(d:Nat):F:=cd (co a b a (b+1) (b+2) c 0 0 0 0 d false 181 (d+1) (b+3) c (b+4))
abbrev x8(a:Nat)(b:Nat)(c:String)(d:Nat):F:=λ_=>⟨(.type "frame"),none,.plain,#[some (R a),some (R 3),some (R b),none,some (.str c d),none,some (R 0)]⟩
abbrev x9(a:Nat):F:=λ_=>⟨(.type "super"),none,(.fields #[(R a),(R a),(R a)]),#[]⟩
abbrev x10(a:Nat):F:=bf "object.__init_subclass__" a
abbrev x11(a:String)(b:Nat)(c:String):F:=tu #[(.str a b),(.str c (b+1))]
abbrev x12(a:String)(b:Nat)(c:String)(d:String)(f:String):F:=tu #[(.str a b),(.str c (b+1)),(.str d (b+2)),(.str f (b+3))]
abbrev x14(a:Nat)(b:String)(c:Nat)(d:Nat):F:=λP=>⟨v0,none,(.dict #[e P "__module__" a v2,e P "__qualname__" (a+2) (.str b (a+1)),e P "__firstlineno__" (a+4) (.int c (a+3)),e P "__static_attributes__" (a+5) (R d)] 4),#[]⟩
abbrev x15(a:String)(b:Nat)(c:Nat)(d:Nat):F:=λ_=>⟨v3,none,(.cls ⟨a,[(R 31)],[(R b),(R 31),v6,(.type "Exception"),(.type "BaseException"),v1],(b-1),a,true,[],[],false,none,false⟩),#[some (R c),none,some (.str a d),some (.str a (d+8)),some v8,some (.bool true)]⟩
abbrev x16(a:String)(b:Nat)(c:Nat)(d:Nat)(f:Nat):F:=cd (.fields #[(.str a b),(.str a (b+1)),(.str "/claim/cut.py" (b+2)),(I c),(I d),(I 0),(I 0),(I 3),(R f),(.bool true),(I 181),(R (f+1)),.none,.none,.none,(R (f+2)),(I (b+3)),(I c),(.str "/claim/cut.py" (b+4))])
abbrev x17(a:Nat)(b:Nat)(c:Nat):F:=λP=>⟨v0,none,(.dict #[e P "__module__" a v2,e P "__firstlineno__" (a+4) (.int b (a+3)),e P "__static_attributes__" (a+5) (R c),e P "__doc__" (a+6) .none] 2),#[]⟩
abbrev x18(a:Nat)(b:Nat)(c:Nat)(d:Nat)(f:String)(g:Nat)(h:Nat)(i:String)(j:Nat)(k:Nat)(m:String)(o:Nat)(p:Nat):F:=λP=>⟨v0,none,(.dict #[e P "__module__" a v7,e P "__firstlineno__" (a+4) (.int b (a+3)),e P "__init__" c (R d),e P f g (R h),e P i j (R k),e P m o (R (k+1)),e P "__doc__" (o+1) .none] p),#[]⟩
abbrev x19(a:Nat)(b:Nat):F:=λ_=>⟨(.type "getset_descriptor"),none,(.fields #[(.str "__weakref__" a),(R b),(.builtin "ExceptionGroup.__weakref__"),.none]),#[]⟩
abbrev x20(a:Nat)(b:String)(c:Nat)(d:Nat)(f:Nat)(g:Nat)(h:Nat):F:=λP=>⟨v0,none,(.dict #[e P "__module__" a v7,e P "__qualname__" (a+2) (.str b (a+1)),e P "__firstlineno__" (a+4) (.int c (a+3)),e P "__init__" d (R f),e P "row" (d+7) (R (f+7)),e P "own_bounds" g (R (f+14)),e P "__static_attributes__" h (R (f+15))] 7),#[]⟩
abbrev x21(a:Nat)(b:Nat)(c:Nat):F:=vf #[(I a),(I 4),(R b),(I c),(I 4),(R (b+7)),(I (c+3)),(I 4),(R (b+14))]
abbrev x22(a:String)(b:Nat)(c:Nat):F:=λ_=>⟨v3,none,(.cls ⟨a,[(R 138)],[(R b),(R 138),v1],(b-1),a,true,[],[],false,none,false⟩),#[some (R (b-30)),none,some (.str a c),some (.str a (c+8)),some v4,some (.bool true)]⟩
abbrev x23(a:Nat)(b:Nat):F:=λ_=>⟨(.type "getset_descriptor"),none,(.fields #[(.str "__dict__" a),(R b),(.builtin "function.__dict__"),(.builtin "function.__dict__#set")]),#[]⟩
abbrev x24(a:Nat)(b:Nat)(c:String)(d:Nat)(f:Nat)(g:String)(h:Nat)(i:Nat):F:=λP=>⟨v0,none,(.dict #[e P "__module__" a v2,e P "__firstlineno__" (a+4) (.int b (a+3)),e P c d (R f),e P g (d+2) (R h),e P "__doc__" (d+3) .none] i),#[]⟩
abbrev x25(a:Nat)(b:String)(c:Nat)(d:String)(f:Nat)(g:Nat)(h:Nat)(i:Nat):F:=λP=>⟨v0,none,(.dict #[e P "__module__" a (.str b c),e P "__qualname__" (a+2) (.str d (a+1)),e P "__firstlineno__" (a+4) (.int f (a+3)),e P "__init__" g (R h),e P "__static_attributes__" i (R (h+1))] 5),#[]⟩
abbrev x26(a:String)(b:Nat)(c:Nat):F:=λ_=>⟨v3,none,(.cls ⟨a,[v1],[(R b),v1],(b-1),a,true,[],[],false,none,false⟩),#[none,none,some (.str a c),some (.str a (c+8)),some v4,some (.bool true)]⟩
def o0:F:=tu #[]
def o1:F:=vf #[]
def o2:F:=x7 "<module>" 182 1 11
def o3:F:=x8 13 3 "__main__" 164
def o11:F:=λ_=>⟨(.type "builtin_function_or_method"),none,(.fields #[(.builtin "type.__prepare__"),v3]),#[]⟩
def o20:F:=tu #[(R 31)]
def o89:F:=tu #[(R 138)]
def env:Env:={scope:=pw.main.scope,locals:=mainNs,globals:=mainNs,cells:=[],code:=(R 13),frame:=some 14}
def bE:List Stmt:=behindTheImports pw
def b(i:Nat):Stmt:=bE.getD i (.Pass ⟨0,0,0,0⟩)
def cE:Code:=.body bE env
def qF:List Frame:=[topFrame ⟨0,0,0,0⟩]
def an:Option Value:=(some (R 6))
def hA(P:Params):Heap:=⟨⟨[boot_o_0 P,boot_o_1 P,boot_o_2 P,boot_o_3 P,boot_o_4 P,boot_o_5 P,boot_o_6 P,boot_o_7 P,boot_o_8 P,boot_o_9 P,boot_o_10 P,o0 P,o1 P,o2 P,o3 P]⟩,{}⟩
def sA(w:World)(os:OsState):Shared:=⟨hA w.params,⟨[]⟩,{},187,os⟩
def t0:Params->W.BT:=(n boot_o_0 (n boot_o_1 (n boot_o_3 (l boot_o_7) (l o0)) (n boot_o_5 (l boot_o_9) (l o2))) (n boot_o_2 (n boot_o_4 (l boot_o_8) (l o1)) (n boot_o_6 (l boot_o_10) (l o3))))
def s0(w:World)(os:OsState):SharedT:=⟨t0 w.params,15,{},⟨[]⟩,{},187,os⟩
abbrev nN:List (List String):=[["k"],["self","ring"],["thing"],["self","hand","reading"],["self"],["self","world","name"],["self","hand","reading","early","late"],["self","hand","reading","to"],["self","hand","reading","letter"],["self","world","name","way","told"],["row","word"],["counts","hand","ahead"],["log","counts","told","row"],["clock","last","here","ticks"],["world","log","told","readings","here","row","one","last"],["edges","x"],["row","x","sums","back","fallen","y","most","total"],["edges","sums","back","fallen","again","x","y"],["back","y","way"],["edges","x","sums"],["edges","x","y","sums","back"],["self","x","y","most","back"],["self","x"],["self","x","y","most"],["self","x","most"],["self","x","y"],["self","told","x","row"],["self","sums","x"],["world","log","net","name","x","y","most"],["short","long"],["least","most"],["self","clocks","ways","short","long","one","other","least","most"],["self","one","other","least","most"],["self","hand"],["self","one","other"],["_law_script","_law_k"],["_law_cell","_law_many","_law_found","_law_number","_law_k"],["_law_xs","_law_size","_law_least"],["_law_cell","_law_xs","_law_hands","_law_size","_law_clocks","_law_ways","_law_one","_law_short","_law_other","_law_ys"],["_law_clock","_law_here","_law_xs","_law_low","_law_high","_law_ticks","_law_first","_law_last"],["_law_here","_law_row_here","_law_moment","_law_way_here"],["_law_world_here","_law_row_here","_law_here","_law_least","_law_most"],["_law_world_here","_law_log","_law_found","_law_seen","_law_row_here","_law_known","_law_here","_law_last","_law_short","_law_long"],["_law_log","_law_many","_law_found","_law_row_here"],["_law_found"]]
abbrev N(i:Nat):List String:=nN.getD i []
abbrev mM:List (String×Nat):=[("__main__",164),("driftmeet.errors",194),("driftmeet.wholes",319),("driftmeet.happenings",328),("driftmeet.logs",560),("driftmeet.bounds",581),("driftmeet.roads",607),("driftmeet.nets",674),("driftmeet.histories",806),("driftmeet.worlds",821),("law_driftmeet_k35_the_net_of_a_log",947)]
abbrev M(i:Nat):String×Nat:=mM.getD i ("",0)
abbrev st:List String->Nat->List Value
 |[],_=>[]
 |s::r,t=>.str s t::st r (t+1)
abbrev yf(n:String)(i t l k a v:Nat)(m:String×Nat):List F:=[o0,o1,tu (st (N v) (t+3)).toArray,o0,x2 n i,x0 n t n l k a (t+3+(N v).length),x3 n i m.1 m.2 (a+5)]
abbrev yg(n q:String)(i j t l k a v:Nat)(m:String×Nat):List F:=[o0,o1,tu (st (N v) (t+3)).toArray,o0,x1 n q i j,x0 n t q l k a (t+3+(N v).length),x4 n q i j m.1 m.2 (a+5)]
abbrev w4(k:Nat):List Nat->List Value
 |a::b::r=>I a::I k::R b::w4 k r
 |_=>[]
abbrev w3(k:Nat)(l:List Nat):F:=vf (w4 k l).toArray
abbrev y0(a:Nat)(b:String)(c:Nat)(d:Nat):List F:=[x14 a b c d,o0,o1,x7 b (a-5) c (d-4),x8 (d-2) (d-5) "driftmeet.errors" 194,o0,x17 a c d,x15 b (d+2) (d-7) (a-7),x9 (d+2)]
abbrev y1(a:Nat)(b:Nat)(c:String)(d:Nat)(f:Nat)(g:Nat)(h:Nat)(i:Nat)(j:Nat):List F:=[x9 a,x10 a,o89,o11,x20 b c d f g h i,o0,x21 (d+2) (g-1) j,x7 c (b-5) d (g-10),x8 (g-8) (g-11) "driftmeet.happenings" 328]
abbrev y2(a:String)(b:Nat)(c:Nat)(d:Nat)(f:Nat)(g:Nat)(h:String)(i:Nat):List F:=[o0,o1,x2 a b,x16 a c d f g,x3 a b h i (g+3)]
abbrev y3(a:Nat)(b:Nat)(c:Nat)(d:Nat)(f:Nat)(g:Nat)(h:String):List F:=[x18 a b c d "row" (c+7) (d+7) "own_bounds" f (d+14) "__static_attributes__" g 2,x22 h (d+17) (a-7)]
def ev:List F->List F×List F
 |[]=>([],[])
 |o::r=>(o::(ev r).2,(ev r).1)
def bl(P:Params):Nat->List F->W.BT
 |0,_=>.nil
 |_,[]=>.nil
 |k+1,o::r=>.node (o P) (bl P k (ev r).1) (bl P k (ev r).2)
def t1(P:Params):W.BT:=bl P 11 (List.flatten [[boot_o_0,boot_o_1,boot_o_2,λP=>⟨v0,none,(.dict #[e P "__name__" 165 (.str "law_driftmeet_k35_the_net_of_a_log" 947),e P "__doc__" 166 .none,e P "__package__" 167 .none,e P "__loader__" 168 (.builtin "__main__.__loader__#opaque"),e P "__spec__" 169 .none,e P "__annotations__" 170 (R 6),e P "__builtins__" 171 (R 4),e P "__file__" 173 (.str "/claim/cut.py" 172),e P "__cached__" 174 .none,e P "_wall" 193 (R 21),e P "DriftError" 213 (R 31),e P "NoHand" 229 (R 44),e P "NoClock" 245 (R 56),e P "NoWay" 261 (R 68),e P "NoHappening" 277 (R 80),e P "NoName" 293 (R 92),e P "Ring" 318 (R 111),e P "is_whole" 327 (R 120),e P "NOUGHT" 333 (R 121),e P "Happening" 364 (R 138),e P "Look" 405 (R 173),e P "Sight" 450 (R 206),e P "Send" 493 (R 239),e P "Take" 538 (R 272),e P "are_wholes" 544 (R 279),e P "is_letter" 551 (R 286),e P "happening" 559 (R 293),e P "count_on" 570 (R 300),e P "names" 580 (R 307),e P "clock_bounds" 592 (R 314),e P "bounds" 606 (R 321),e P "refuse_unknown" 616 (R 328),e P "go_on" 630 (R 335),e P "settle" 643 (R 342),e P "way_by" 652 (R 349),e P "spans" 661 (R 356),e P "road" 672 (R 363),e P "road_roads" 673 (R 363),e P "Net" 805 (R 458),e P "net_of" 820 (R 469),e P "MOST_HANDS" 824 (.int 6 823),e P "refuse_clock" 832 (R 476),e P "refuse_lengths" 840 (R 483),e P "World" 946 (R 556),e P "_law_cell_at" 956 (R 567),e P "_law_stream" 967 (R 574),e P "_law_way" 976 (R 581),e P "_law_world" 992 (R 588),e P "_law_made" 998 (R 593),e P "_law_lag" 1012 (R 600),e P "_law_row" 1018 (R 605),e P "_law_sent" 1028 (R 612),e P "_law_tale" 1034 (R 617),e P "_law_own" 1045 (R 624),e P "_law_due" 1061 (R 631),e P "_law_names" 1071 (R 638),e P "_law_whole" 1078 (R 645),e P "_law_name" 1085 (R 652),e P "_law_keeps" 1091 (R 657),e P "law" 1097 (R 662)] 60),#[]⟩,boot_o_4,boot_o_5,boot_o_6,boot_o_7,boot_o_8,boot_o_9,boot_o_10,o0,w3 0 [1,20,5,27,7,40,9,52,11,64,13,76,15,88,17,100,23,119,27,127,32,148,42,181,54,214,65,247,80,278,82,285,84,292,98,299,102,306,109,313,111,320,123,327,126,334,135,341,143,348,148,355,153,362,162,369,223,468,233,475,238,482,243,489,291,566,295,573,302,580,307,587,321,592,323,599,334,604,343,611,347,616,380,623,389,630,403,637,410,644,412,651,416,656,424,661],o2,o3],yf "_wall" 0 187 1 1 15 0 (M 0),[tu #[v6],o11,x14 203 "DriftError" 5 29,o0,o1,x7 "DriftError" 198 5 25,x8 27 24 "driftmeet.errors" 194,o0,x24 203 5 "__static_attributes__" 208 29 "__weakref__" 32 3,λ_=>⟨v3,none,(.cls ⟨"DriftError",[v6],[(R 31),v6,(.type "Exception"),(.type "BaseException"),v1],30,"DriftError",true,[],[(R 44),(R 56),(R 68),(R 80),(R 92),(R 111)],false,none,false⟩),#[some (R 22),none,some (.str "DriftError" 196),some (.str "DriftError" 204),some v8,some (.bool true)]⟩,x19 209 31,x9 31,x10 31,o20,o11],y0 221 "NoHand" 7 42,[x10 44,o20,o11],y0 237 "NoClock" 9 54,[x10 56,o20,o11],y0 253 "NoWay" 11 66,[x10 68,o20,o11],y0 269 "NoHappening" 13 78,[x10 80,o20,o11],y0 285 "NoName" 15 90,[x10 92,o20,o11,x25 301 "driftmeet.errors" 194 "Ring" 17 313 108 315,o0,vf #[(I 19),(I 4),(R 107)],x7 "Ring" 296 17 98,x8 100 97 "driftmeet.errors" 194],yg "__init__" "Ring.__init__" 8 0 306 19 2 102 1 (M 1),[x6 "ring" 314,x24 301 17 "__init__" 313 108 "__static_attributes__" 109 2,x15 "Ring" 111 95 294,x9 111,x10 111],yf "is_whole" 10 321 23 1 114 2 (M 2),[tu #[(.int (-1) 331),(.int 0 332)],o0,o11,x25 341 "driftmeet.happenings" 328 "Happening" 27 354 135 357,o0,vf #[(I 29),(I 4),(R 134)],x7 "Happening" 336 27 125,x8 127 124 "driftmeet.happenings" 328],yg "__init__" "Happening.__init__" 13 0 346 29 3 129 3 (M 3),[x11 "hand" 355 "reading",x18 341 27 354 135 "__static_attributes__" 357 136 "__dict__" 359 139 "__weakref__" 361 4,λ_=>⟨v3,none,(.cls ⟨"Happening",[v1],[(R 138),v1],137,"Happening",true,[],[(R 173),(R 206),(R 239),(R 272)],false,none,false⟩),#[none,none,some (.str "Happening" 334),some (.str "Happening" 342),some v4,some (.bool true)]⟩,x23 358 138,x19 360 138],y1 138 372 "Look" 32 385 156 401 402 37,yg "__init__" "Look.__init__" 14 0 377 34 3 150 3 (M 3),yg "row" "Look.row" 14 1 386 37 1 157 4 (M 3),yg "own_bounds" "Look.own_bounds" 14 2 393 40 3 164 5 (M 3),[o0],y3 372 32 385 156 401 402 "Look",y1 173 413 "Sight" 42 428 189 444 447 49,yg "__init__" "Sight.__init__" 15 0 418 44 5 183 6 (M 3),yg "row" "Sight.row" 15 1 429 49 1 190 4 (M 3),yg "own_bounds" "Sight.own_bounds" 15 2 436 52 3 197 5 (M 3),[x11 "early" 445 "late"],y3 413 42 428 189 444 447 "Sight",y1 206 458 "Send" 54 472 222 488 490 60,yg "__init__" "Send.__init__" 16 0 463 56 4 216 7 (M 3),yg "row" "Send.row" 16 1 473 60 1 223 4 (M 3),yg "own_bounds" "Send.own_bounds" 16 2 480 63 3 230 5 (M 3),[x6 "to" 489],y3 458 54 472 222 488 490 "Send",y1 239 501 "Take" 65 515 255 533 535 71,yg "__init__" "Take.__init__" 17 0 506 67 4 249 8 (M 3),yg "row" "Take.row" 17 1 516 71 1 256 4 (M 3),yg "own_bounds" "Take.own_bounds" 17 2 523 74 3 263 9 (M 3),[x6 "letter" 534],y3 501 65 515 255 533 535 "Take",[x9 272,x10 272],y2 "are_wholes" 18 539 80 2 275 "driftmeet.happenings" 328,yf "is_letter" 19 545 82 1 280 2 (M 3),yf "happening" 20 552 84 1 287 10 (M 3),yf "count_on" 22 562 98 2 294 11 (M 4),yf "names" 23 571 102 1 301 12 (M 4),yf "clock_bounds" 25 583 109 4 308 13 (M 5),yf "bounds" 26 593 111 2 315 14 (M 5),yf "refuse_unknown" 28 609 123 2 322 15 (M 6),yf "go_on" 29 617 126 4 329 16 (M 6),yf "settle" 30 631 135 3 336 17 (M 6),yf "way_by" 31 644 143 2 343 18 (M 6),yf "spans" 32 653 148 2 350 19 (M 6),yf "road" 33 662 153 3 357 20 (M 6),[o0,o11,λP=>⟨v0,none,(.dict #[e P "__module__" 683 v5,e P "__qualname__" 685 (.str "Net" 684),e P "__firstlineno__" 687 (.int 162 686),e P "__init__" 694 (R 377),e P "refuse_ring" 705 (R 384),e P "name" 713 (R 391),e P "put" 723 (R 398),e P "put_round" 732 (R 405),e P "names" 739 (R 412),e P "bound" 748 (R 419),e P "edges" 758 (R 426),e P "times" 767 (R 433),e P "most" 776 (R 440),e P "road" 785 (R 447),e P "latest" 796 (R 455),e P "__static_attributes__" 798 (R 456)] 16),#[]⟩,o0,w3 4 [164,376,167,383,174,390,178,397,187,404,192,411,195,418,200,425,206,432,213,439,217,446,220,454],x7 "Net" 678 162 367,x8 369 366 "driftmeet.nets" 674],yg "__init__" "Net.__init__" 36 0 688 164 1 371 4 (M 7),yg "refuse_ring" "Net.refuse_ring" 36 1 695 167 4 378 21 (M 7),yg "name" "Net.name" 36 2 706 174 2 385 22 (M 7),yg "put" "Net.put" 36 3 714 178 4 392 23 (M 7),yg "put_round" "Net.put_round" 36 4 724 187 3 399 24 (M 7),yg "names" "Net.names" 36 5 733 192 1 406 4 (M 7),yg "bound" "Net.bound" 36 6 740 195 3 413 25 (M 7),yg "edges" "Net.edges" 36 7 749 200 1 420 26 (M 7),yg "times" "Net.times" 36 8 759 206 1 427 27 (M 7),yg "most" "Net.most" 36 9 768 213 3 434 25 (M 7),yg "road" "Net.road" 36 10 777 217 3 441 25 (M 7),[tu #[(.int 0 786)],o0,o1,x12 "self" 790 "x" "y" "far",o0,x1 "latest" "Net.latest" 36 11,x0 "latest" 787 "Net.latest" 220 4 449 794,λ_=>⟨(.type "function"),none,(.func (fnOf "latest" "Net.latest" (fF (am (top 36) 11)) (d8 (am (top 36) 11)) (bF (am (top 36) 11)) (R 448) .none .none v5 none (R 454) .none)),#[]⟩,x6 "kept" 797,λP=>⟨v0,none,(.dict #[e P "__module__" 683 v5,e P "__firstlineno__" 687 (.int 162 686),e P "__init__" 694 (R 377),e P "refuse_ring" 705 (R 384),e P "name" 713 (R 391),e P "put" 723 (R 398),e P "put_round" 732 (R 405),e P "names" 739 (R 412),e P "bound" 748 (R 419),e P "edges" 758 (R 426),e P "times" 767 (R 433),e P "most" 776 (R 440),e P "road" 785 (R 447),e P "latest" 796 (R 455),e P "__static_attributes__" 798 (R 456),e P "__dict__" 800 (R 459),e P "__weakref__" 802 (R 460),e P "__doc__" 803 .none] 4),#[]⟩,x26 "Net" 458 676,x23 799 458,x19 801 458,x9 458,x10 458],yf "net_of" 38 808 223 2 463 28 (M 8),yf "refuse_clock" 41 825 233 2 470 29 (M 9),yf "refuse_lengths" 42 833 238 2 477 30 (M 9),[o0,o11,λP=>⟨v0,none,(.dict #[e P "__module__" 848 (.str "driftmeet.worlds" 821),e P "__qualname__" 850 (.str "World" 849),e P "__firstlineno__" 852 (.int 243 851),e P "__init__" 867 (R 497),e P "enter_way" 878 (R 504),e P "refuse_hand" 886 (R 511),e P "refuse_pair" 895 (R 518),e P "hands" 902 (R 525),e P "has_hand" 910 (R 532),e P "has_way" 919 (R 539),e P "clock" 927 (R 546),e P "way" 936 (R 553),e P "__static_attributes__" 939 (R 554)] 13),#[]⟩,o0,w3 4 [245,496,255,503,262,510,266,517,272,524,275,531,278,538,281,545,285,552],x7 "World" 843 243 487,x8 489 486 "driftmeet.worlds" 821],yg "__init__" "World.__init__" 43 0 853 245 3 491 31 (M 9),yg "enter_way" "World.enter_way" 43 1 868 255 5 498 32 (M 9),yg "refuse_hand" "World.refuse_hand" 43 2 879 262 2 505 33 (M 9),yg "refuse_pair" "World.refuse_pair" 43 3 887 266 3 512 34 (M 9),yg "hands" "World.hands" 43 4 896 272 1 519 4 (M 9),yg "has_hand" "World.has_hand" 43 5 903 275 2 526 33 (M 9),yg "has_way" "World.has_way" 43 6 911 278 3 533 34 (M 9),yg "clock" "World.clock" 43 7 920 281 2 540 33 (M 9),yg "way" "World.way" 43 8 928 285 3 547 34 (M 9),[x11 "kept_clocks" 937 "kept_ways",λP=>⟨v0,none,(.dict #[e P "__module__" 848 (.str "driftmeet.worlds" 821),e P "__firstlineno__" 852 (.int 243 851),e P "__init__" 867 (R 497),e P "enter_way" 878 (R 504),e P "refuse_hand" 886 (R 511),e P "refuse_pair" 895 (R 518),e P "hands" 902 (R 525),e P "has_hand" 910 (R 532),e P "has_way" 919 (R 539),e P "clock" 927 (R 546),e P "way" 936 (R 553),e P "__static_attributes__" 939 (R 554),e P "__dict__" 941 (R 557),e P "__weakref__" 943 (R 558),e P "__doc__" 944 .none] 4),#[]⟩,x26 "World" 556 841,x23 940 556,x19 942 556,x9 556,x10 556],yf "_law_cell_at" 45 949 291 2 561 35 (M 10),yf "_law_stream" 46 957 295 2 568 36 (M 10),yf "_law_way" 47 968 302 2 575 37 (M 10),yf "_law_world" 48 977 307 1 582 38 (M 10),y2 "_law_made" 49 993 321 1 589 "law_driftmeet_k35_the_net_of_a_log" 947,yf "_law_lag" 50 999 323 5 594 39 (M 10),y2 "_law_row" 51 1013 334 5 601 "law_driftmeet_k35_the_net_of_a_log" 947,yf "_law_sent" 52 1019 343 4 606 40 (M 10),y2 "_law_tale" 53 1029 347 3 613 "law_driftmeet_k35_the_net_of_a_log" 947,yf "_law_own" 54 1035 380 3 618 41 (M 10),yf "_law_due" 55 1046 389 2 625 42 (M 10),yf "_law_names" 56 1062 403 1 632 43 (M 10),yf "_law_whole" 57 1072 410 1 639 44 (M 10),yf "_law_name" 58 1079 412 1 646 44 (M 10),y2 "_law_keeps" 59 1086 416 3 653 "law_driftmeet_k35_the_net_of_a_log" 947,y2 "law" 60 1092 424 1 658 "law_driftmeet_k35_the_net_of_a_log" 947])
def s1(w:World)(os:OsState):SharedT:=⟨t1 w.params,663,{},⟨[]⟩,{},1098,os⟩
def t2:Params->W.BT:=t1
def s2(w:World)(os:OsState):SharedT:=⟨t2 w.params,663,{},⟨[]⟩,{},1098,os⟩
theorem pre:∀w:World,(λos=>topGo treeTable pw w 11 an 12 ⟨boot_heap w.params,⟨[]⟩,boot_drawn,boot_toks,os⟩ (topStub pw))=λos=>some (sA w os,⟨denote treeTable cE,cE,⟨0,0,0,0⟩,qF⟩):=λw=>by kernel_rfl
theorem blk:∀w:World,(λos=>segRun treeTable pw w 11 an 1 1 (sA w os) (blockOf bE env cE ⟨0,0,0,0⟩ qF))=λos=>some (.next,(s0 w os).abs,cE,⟨0,0,0,0⟩):=λw=>by kernel_rfl
def g0:List Stmt:=[b 0,b 1,b 2,b 3,b 4,b 5,b 6,b 7,b 8,b 9,b 10,b 11,b 12,b 13,b 14,b 15,b 16,b 17,b 18,b 19,b 20,b 21,b 22,b 23,b 24,b 25,b 26,b 27,b 28,b 29,b 30,b 31,b 32,b 33,b 34,b 35,b 36,b 37,b 38,b 39,b 40,b 41,b 42,b 43,b 44,b 45,b 46,b 47,b 48,b 49,b 50,b 51,b 52,b 53,b 54,b 55,b 56,b 57,b 58,b 59,b 60]
theorem p0:∀w:World,(λos=>segRunT treeTable pw w 11 an 1 5228 (s0 w os) (piecesOf g0 env cE ⟨0,0,0,0⟩ qF))=λos=>some (.next,s1 w os,cE,⟨424,0,458,117⟩):=λw=>by kernel_rfl
theorem fin:∀w:World,(λos=>topRun treeTable pw w 11 an 2 (s1 w os).abs (restOf [] env cE ⟨424,0,458,117⟩ qF))=λos=>some (s2 w os).abs:=λw=>by kernel_rfl
theorem FM:bE=g0++([]):=by kernel_rfl
theorem HR(w:World)(os:OsState):topRun treeTable pw w 11 an (5228+(2)) (s0 w os).abs (restOf (g0++([])) env cE ⟨0,0,0,0⟩ qF)=some (s2 w os).abs:=piece_app (segRun_of (congrFun (p0 w) os)) (congrFun (fin w) os)
theorem run(w:World)(os:OsState):topRun treeTable pw w 11 an (12+(1+(5228+(2)))) ⟨boot_heap w.params,⟨[]⟩,boot_drawn,boot_toks,os⟩ (topStub pw)=some (s2 w os).abs:=go_top (congrFun (pre w) os) (piece_block (congrFun (blk w) os) (by rw[FM];exact HR w os))
def view:Program:={pw with main:={pw.main with body:=[top 60]}}
def loose:List Str:=(["_wall","DriftError","NoHand","NoClock","NoWay","NoHappening","NoName","Ring","is_whole","NOUGHT","Happening","Look","Sight","Send","Take","are_wholes","is_letter","happening","count_on","names","clock_bounds","bounds","refuse_unknown","go_on","settle","way_by","spans","road","road_roads","Net","net_of","MOST_HANDS","refuse_clock","refuse_lengths","World","_law_cell_at","_law_stream","_law_way","_law_world","_law_made","_law_lag","_law_row","_law_sent","_law_tale","_law_own","_law_due","_law_names","_law_whole","_law_name","_law_keeps"]:List String).map Str.ofString
def rl:Nat->List Nat->List Addr
 |_,[]=>[]
 |p,c::r=>List.range' (p+c / 10) (c % 10)++rl (p+c / 10+c % 10) r
def as:List Addr:=rl 0 [22,111,12,13,64,21,63,21,63,21,63,21,63,21,63,21,61,12,15,21,12,13,71,12,17,21,61,12,13,12,13,12,15,21,61,12,13,12,13,12,15,21,61,12,13,12,13,12,15,21,61,12,13,12,13,12,15,21,23,12,13,12,13,12,13,12,13,12,13,12,13,12,13,12,13,12,13,12,13,12,13,12,12,71,12,13,12,13,12,13,12,13,12,13,12,13,12,13,12,13,12,13,12,13,12,14,12,17,21,12,13,12,13,12,12,71,12,13,12,13,12,13,12,13,12,13,12,13,12,13,12,13,12,17,21,12,13,12,13,12,13,12,13,23,12,13,23,12,13,23,12,13,12,13,12,13,12,13,12,13,23,22]
def K(P:Params):Frag:=as.map λa=>(a,((t2 P).get a).getD ⟨.none,none,.plain,#[]⟩)
theorem as_eq:∀P,as=(K P).map (·.1):=λP=>by kernel_rfl
def h1(P:Params):Heap:=absHeap (t2 P) 663 {}
def f1(w:World)(os:OsState):Shared:=⟨h1 w.params,⟨[]⟩,{},1098,os⟩
def Xt(s:Shared):Bool:=xlAt view [] s&&recOk (RowW.records PySem.Challenge.rw_driftmeet_k35_the_net_of_a_log.row.toRowW) s
theorem lk1:∀w:World,(λos=>(staticsOk (importedModules pw.main.body) (boot_heap w.params) (h1 w.params)&&namesBound pw (h1 w.params)&&gensDone (f1 w os)&&laidKept (boot_heap w.params) (h1 w.params)))=λ_=>true:=λw=>by kernel_rfl
theorem lk2:∀w:World,(λos=>openSeen view loose (importedModules pw.main.body) Xt true (f1 w os))=λ_=>openGood view loose:=λw=>by kernel_rfl
theorem lk3:∀w:World,(λos=>(Hook.obs (kHook K as as_eq)) (f1 w os))=λ_=>(Hook.val (kHook K as as_eq)) w:=λw=>by kernel_rfl
theorem left:LeftO pw view loose Xt (Hook.obs (kHook K as as_eq)) (Hook.val (kHook K as as_eq)) 10580:=LeftO.of_pieces (boot_open (by kernel_rfl) (by decide) (λs=>by kernel_rfl)) (H₀:=boot_heap) (H₁:=h1) (gs₀:=⟨[]⟩) (m₀:=11) (ann:=an) (M:=12+(1+(5228+(2)))) (λw=>by kernel_rfl) (λw os=>run w os) (by decide) λw=>funext λos=>looks_pair (congrFun (lk1 w) os) (looks_pair (congrFun (lk2 w) os) (congrFun (lk3 w) os))
end HD
namespace G
open PySem L2
def top(i:Nat):Stmt:=PySem.Challenge.pw_driftmeet_k35_the_net_of_a_log.main.body.getD i (.Pass ⟨0,0,0,0⟩)
abbrev V0:IE:=.var 0
abbrev V1:IE:=.var 1
abbrev V2:IE:=.var 2
abbrev V3:IE:=.var 3
abbrev V4:IE:=.var 4
abbrev V5:IE:=.var 5
abbrev V6:IE:=.var 6
abbrev V7:IE:=.var 7
abbrev V8:IE:=.var 8
abbrev V9:IE:=.var 9
abbrev V10:IE:=.var 10
abbrev V11:IE:=.var 11
abbrev V12:IE:=.var 12
abbrev V13:IE:=.var 13
abbrev V14:IE:=.var 14
abbrev V15:IE:=.var 15
abbrev V16:IE:=.var 16
abbrev V17:IE:=.var 17
abbrev I0:IE:=.con (.int 0)
abbrev I1:IE:=.con (.int 1)
abbrev I2:IE:=.con (.int 2)
abbrev I3:IE:=.con (.int 3)
abbrev I4:IE:=.con (.int 4)
abbrev I5:IE:=.con (.int 5)
abbrev I6:IE:=.con (.int 6)
abbrev I7:IE:=.con (.int 7)
abbrev I8:IE:=.con (.int 8)
abbrev I9:IE:=.con (.int 9)
abbrev Ar1(a0:IE):IA:=.cons a0 .nil
abbrev Ar2(a0 a1:IE):IA:=.cons a0 (.cons a1 .nil)
abbrev Ar3(a0 a1 a2:IE):IA:=.cons a0 (.cons a1 (.cons a2 .nil))
abbrev Ar4(a0 a1 a2 a3:IE):IA:=.cons a0 (.cons a1 (.cons a2 (.cons a3 .nil)))
abbrev Ar5(a0 a1 a2 a3 a4:IE):IA:=.cons a0 (.cons a1 (.cons a2 (.cons a3 (.cons a4 .nil))))
abbrev Ar6(a0 a1 a2 a3 a4 a5:IE):IA:=.cons a0 (.cons a1 (.cons a2 (.cons a3 (.cons a4 (.cons a5 .nil)))))
abbrev S1(a0:IS):ISs:=.cons a0 .nil
abbrev S2(a0 a1:IS):ISs:=.cons a0 (.cons a1 .nil)
abbrev S3(a0 a1 a2:IS):ISs:=.cons a0 (.cons a1 (.cons a2 .nil))
abbrev S4(a0 a1 a2 a3:IS):ISs:=.cons a0 (.cons a1 (.cons a2 (.cons a3 .nil)))
abbrev S5(a0 a1 a2 a3 a4:IS):ISs:=.cons a0 (.cons a1 (.cons a2 (.cons a3 (.cons a4 .nil))))
abbrev S7(a0 a1 a2 a3 a4 a5 a6:IS):ISs:=.cons a0 (.cons a1 (.cons a2 (.cons a3 (.cons a4 (.cons a5 (.cons a6 .nil))))))
abbrev S12(a0 a1 a2 a3 a4 a5 a6 a7 a8 a9 Pq QY:IS):ISs:=.cons a0 (.cons a1 (.cons a2 (.cons a3 (.cons a4 (.cons a5 (.cons a6 (.cons a7 (.cons a8 (.cons a9 (.cons Pq (.cons QY .nil)))))))))))
abbrev S14(a0 a1 a2 a3 a4 a5 a6 a7 a8 a9 Pq QY Tq Tr:IS):ISs:=.cons a0 (.cons a1 (.cons a2 (.cons a3 (.cons a4 (.cons a5 (.cons a6 (.cons a7 (.cons a8 (.cons a9 (.cons Pq (.cons QY (.cons Tq (.cons Tr .nil)))))))))))))
abbrev fL(n q:String)(g c:Bool)(s:Stmt)(N:List Str)(k:Nat)(b:ISs):FL:={name:=n,qual:=q,glob:=g,cl:=c,st:=s,N:=N,ps:=N.take k,body:=b}
abbrev fl(n:String):=fL n n true
abbrev runF(T:List FB)(B:WB)(n:Nat)(b:ISs)(Z:St3)(M:MH)(Q:VK3)(E:XN):Prop:=aR {toWB:=B,call:=aa T B n} b {nx:=λ_ M'=>Q .i_ (av M M'),rt:=λv M'=>Q v (av M M')} (λ_ i M'=>E i (av M M')) Z M
def f9:ISs:=S1 (.ret (.and (.MJ V0 .int) (.not (.MJ V0 .bool))))
def ay:ISs:=S2 (.LV V0 211529960 V1) (.LV V0 456806758904562 V2)
def dc:ISs:=S1 (.expr (.ini 0 (Ar3 V0 V1 V2)))
def p6:ISs:=S1 .dead
def bv:ISs:=S1 (.ret (.lst true .nil))
def cT:ISs:=S3 (.expr (.ini 0 (Ar3 V0 V1 V2))) (.LV V0 32709062885 V3) (.LV V0 213725420 V4)
def pK:ISs:=S1 .dead
def bh:ISs:=S1 (.ret (.lst true (Ar2 (.tup (Ar3 (.glo 0) V2 (.fld V0 213725420))) (.tup (Ar3 V2 (.glo 0) (.neg (.fld V0 32709062885)))))))
def c9:ISs:=S2 (.expr (.ini 0 (Ar3 V0 V1 V2))) (.LV V0 14324 V3)
def qO:ISs:=S1 .dead
def bq:ISs:=S1 (.ret (.lst true .nil))
def db:ISs:=S2 (.expr (.ini 0 (Ar3 V0 V1 V2))) (.LV V0 3944367338220 V3)
def qu:ISs:=S1 .dead
def aW:ISs:=S4 (.set 3 (.v_ V1 1994999 (Ar2 (.ix (.fld V0 3944367338220) I0) (.fld V0 211529960)))) (.set 4 (.lst false (Ar1 (.tup (Ar3 V2 (.fld V0 3944367338220) (.neg (.ix V3 I0))))))) (.ifs (.cmp .IsNot (.ix V3 I1) (.con .i_)) (S1 (.app V4 (.tup (Ar3 (.fld V0 3944367338220) V2 (.ix V3 I1))))) .nil) (.ret (.u_ V4))
def eF:ISs:=S1 (.ret (.and (.cmp .Eq (.bi .len (Ar1 V0)) V1) (.bi .all (Ar1 (.comp true ["thing"] [none] (.name 0) (.seq V0) .no (.call 0 (Ar1 V0)))))))
def eY:ISs:=S1 (.ret (.and (.MJ V0 .tuple) (.call 14 (Ar2 V0 I2))))
def bj:ISs:=S7 (.ifs (.or (.not (.val (.MJ V0 .tuple))) (.cmp .Eq (.bi .len (Ar1 V0)) I0)) (S1 .dead) .nil) (.set 1 (.ix V0 I0)) (.ifs (.and (.cmp .Eq V1 (.con (.str "look"))) (.val (.call 14 (Ar2 (.sl true V0 (.yes I1) .no) I2)))) (S1 (.ret (.make true 1 (Ar2 (.ix V0 I1) (.ix V0 I2))))) .nil) (.ifs (.and (.cmp .Eq V1 (.con (.str "sight"))) (.val (.call 14 (Ar2 (.sl true V0 (.yes I1) .no) I4)))) (S1 (.ret (.make true 2 (Ar4 (.ix V0 I1) (.ix V0 I2) (.ix V0 I3) (.ix V0 I4))))) .nil) (.ifs (.and (.cmp .Eq V1 (.con (.str "send"))) (.val (.call 14 (Ar2 (.sl true V0 (.yes I1) .no) I3)))) (S1 (.ret (.make true 3 (Ar3 (.ix V0 I1) (.ix V0 I2) (.ix V0 I3))))) .nil) (.ifs (.and (.cmp .Eq V1 (.con (.str "take"))) (.and (.val (.call 14 (Ar2 (.sl true V0 (.yes I1) (.yes I3)) I2))) (.and (.cmp .Eq (.bi .len (Ar1 V0)) I4) (.val (.call 15 (Ar1 (.ix V0 I3))))))) (S1 (.ret (.make true 4 (Ar3 (.ix V0 I1) (.ix V0 I2) (.ix V0 I3))))) .nil) .dead
def fX:ISs:=S3 (.set 2 (.bm .get V0 (Ar2 V1 I0))) (.F_ V0 V1 (.bin .Add V2 I1)) (.ret (.tup (Ar2 V1 V2)))
def dX:ISs:=S1 (.app V2 (.call 17 (Ar2 V1 (.ix V3 I1))))
def rO:ISs:=S4 (.set 1 (.LH none)) (.set 2 (.lst false .nil)) (.Ls (.name 3) (.seq V0) dX) (.ret (.u_ V2))
def cJ:ISs:=S1 (.ret (.lst true (Ar2 (.tup (Ar3 V1 V2 (.bin .Mult (.ix V0 I1) V3))) (.tup (Ar3 V2 V1 (.bin .Mult (.neg (.ix V0 I0)) V3))))))
def cX:ISs:=S5 (.set 6 (.call 16 (Ar1 V5))) (.expr (.bm .extend V2 (Ar1 (.v_ V6 1067955986548848835567 (Ar2 V0 V4))))) (.set 7 (.tup (Ar2 (.ix V4 I0) (.bin .Sub (.ix V4 I1) I1)))) (.ifs (.cmp .In V7 V3) (S1 (.expr (.bm .extend V2 (Ar1 (.call 19 (Ar4 (.v_ V0 28932044387 (Ar1 (.fld V6 211529960))) V7 V4 (.bin .Sub (.fld V6 456806758904562) (.ix V3 V7)))))))) .nil) (.F_ V3 V4 (.fld V6 456806758904562))
def j6:ISs:=S4 (.set 2 (.lst false .nil)) (.set 3 (.LH (some false))) (.Ls (.tup [4,5]) (.zip (.call 18 (Ar1 V1)) V1) cX) (.ret (.u_ V2))
def bP:ISs:=S1 (.ifs (.cmp .NotIn V1 V0) (S1 .dead) .nil)
def bQ:ISs:=S2 (.set 7 (.bin .Add (.ix V2 V1) V6)) (.ifs (.or (.cmp .NotIn V5 V2) (.cmp .Lt V7 (.ix V2 V5))) (S3 (.F_ V2 V5 V7) (.F_ V3 V5 V1) (.app V4 V5)) .nil)
def nP:ISs:=S3 (.set 4 (.lst false .nil)) (.M9 (.tup [5,6]) V0 bQ) (.ret (.u_ V4))
def eS:ISs:=S1 (.F_ V4 V6 (.con (.bl true)))
def cW:ISs:=S1 (.Ls (.name 6) (.seq (.call 22 (Ar4 (.ix V0 V5) V5 V1 V2))) eS)
def iZ:ISs:=S3 (.set 4 (.LH (some false))) (.Ls (.name 5) (.seq V3) cW) (.set 3 (.bi (.list true) (Ar1 V4)))
def jt:ISs:=S2 (.set 3 (.bi (.list true) (Ar1 V1))) (.P9 (.cmp .Gt (.bi .len (Ar1 V3)) I0) iZ)
def nY:ISs:=S4 (.expr (.call 21 (Ar2 V0 V1))) (.set 2 (.MZ V1 I0)) (.expr (.call 23 (Ar3 V0 V2 (.LH (some false))))) (.ret V2)
def eE:ISs:=S1 (.LV V0 245117675 (.LH (some false)))
def bA:ISs:=S3 (.ifs (.or (.cmp .NotIn V1 (.fld V0 245117675)) (.cmp .NotIn V2 (.fld V0 245117675))) (S1 .ML) .nil) (.set 4 (.v_ V0 245168109 (Ar2 V2 V1))) (.ifs (.and (.cmp .IsNot V4 (.con .i_)) (.cmp .Lt (.bin .Add V4 V3) I0)) (S1 .dead) .nil)
def ef:ISs:=S1 (.ifs (.cmp .NotIn V1 (.fld V0 245117675)) (S1 (.F_ (.fld V0 245117675) V1 (.LH (some false)))) .nil)
def iK:ISs:=S5 (.ifs (.cmp .Eq V1 V2) (S2 .dead .ML) .nil) (.expr (.v_ V0 122623138502931931312882 (Ar3 V1 V2 V3))) (.expr (.v_ V0 213610734 (Ar1 V1))) (.expr (.v_ V0 213610734 (Ar1 V2))) (.F_ (.ix (.fld V0 245117675) V1) V2 (.bi .min (Ar2 V3 (.bm .get (.ix (.fld V0 245117675) V1) (Ar2 V2 V3)))))
def jb:ISs:=S2 .dead .dead
def fh:ISs:=S1 (.ret (.bi (.list true) (Ar1 (.fld V0 245117675))))
def eV:ISs:=S3 (.expr (.call 21 (Ar2 (.fld V0 245117675) V1))) (.expr (.call 21 (Ar2 (.fld V0 245117675) V2))) (.ret (.bm .get (.ix (.fld V0 245117675) V1) (Ar1 V2)))
def n8:ISs:=S3 .dead .dead .dead
def cP:ISs:=S1 (.F_ V1 V2 I0)
def fq:ISs:=S4 (.set 1 (.LH (some false))) (.M8 (.name 2) (.fld V0 245117675) cP) (.expr (.call 23 (Ar3 (.fld V0 245117675) V1 (.LH (some false))))) (.ret (.u_ V1))
def gt:ISs:=S2 (.expr (.call 21 (Ar2 (.fld V0 245117675) V2))) (.ret (.bm .get (.call 24 (Ar2 (.fld V0 245117675) V1)) (Ar1 V2)))
def qj:ISs:=S1 .dead
def fy:ISs:=S1 (.expr (.v_ V2 213610734 (Ar1 V3)))
def fu:ISs:=S1 (.expr (.v_ V2 1915632 (Ar3 V4 V5 V6)))
def kF:ISs:=S5 (.set 2 (.make false 5 .nil)) (.expr (.v_ V2 213610734 (Ar1 (.glo 0)))) (.Ls (.name 3) (.seq (.call 18 (Ar1 V1))) fy) (.Ls (.tup [4,5,6]) (.seq (.call 20 (Ar2 V0 V1))) fu) (.ret V2)
def cL:ISs:=S2 (.ifs (.cmp .Lt V0 I1) (S1 .dead) .nil) (.ifs (.cmp .Lt V1 V0) (S1 .dead) .nil)
def bL:ISs:=S2 (.ifs (.cmp .Lt V0 I0) (S1 .dead) .nil) (.ifs (.and (.cmp .IsNot V1 (.con .i_)) (.cmp .Lt V1 V0)) (S1 .dead) .nil)
def bC:ISs:=S1 (.expr (.call 37 (Ar2 V3 V4)))
def bp:ISs:=S1 (.expr (.v_ V0 8774101686596482917 (Ar4 V5 V6 V7 V8)))
def cK:ISs:=S5 (.ifs (.or (.cmp .Lt (.bi .len (Ar1 V1)) I1) (.cmp .Gt (.bi .len (Ar1 V1)) (.glo 1))) (S1 .dead) .nil) (.Ls (.tup [3,4]) (.seq V1) bC) (.LV V0 136762133858116729320171 (.bi (.list false) (Ar1 V1))) (.LV V0 8355170983792620267 (.LH (some false))) (.Ls (.tup [5,6,7,8]) (.seq V2) bp)
def bB:ISs:=S4 (.expr (.v_ V0 135562951883986971505394 (Ar2 V1 V2))) (.ifs (.cmp .In (.tup (Ar2 V1 V2)) (.fld V0 8355170983792620267)) (S1 .dead) .nil) (.expr (.call 38 (Ar2 V3 V4))) (.F_ (.fld V0 8355170983792620267) (.tup (Ar2 V1 V2)) (.tup (Ar2 V3 V4)))
def aM:ISs:=S1 (.ifs (.not (.val (.v_ V0 56782141471387880 (Ar1 V1)))) (S1 .dead) .nil)
def aL:ISs:=S3 (.expr (.v_ V0 119080781550527859766002 (Ar1 V1))) (.expr (.v_ V0 119080781550527859766002 (Ar1 V2))) (.ifs (.cmp .Eq V1 V2) (S1 .dead) .nil)
def bT:ISs:=S1 (.ret (.bi .len (Ar1 (.fld V0 136762133858116729320171))))
def bb:ISs:=S1 (.ret (.chain .LtE .Lt I0 V1 (.v_ V0 31081607400 .nil)))
def bZ:ISs:=S1 (.ret (.cmp .In (.tup (Ar2 V1 V2)) (.fld V0 8355170983792620267)))
def de:ISs:=S2 (.expr (.v_ V0 119080781550527859766002 (Ar1 V1))) (.ret (.ix (.fld V0 136762133858116729320171) V1))
def eR:ISs:=S3 (.expr (.v_ V0 135562951883986971505394 (Ar2 V1 V2))) (.ifs (.not (.val (.v_ V0 535528667410664 (Ar2 V1 V2)))) (S1 .dead) .nil) (.ret (.ix (.fld V0 8355170983792620267) (.tup (Ar2 V1 V2))))
def bS:ISs:=S2 (.ifs (.cmp .Lt V1 (.bi .len (Ar1 V0))) (S1 (.ret (.ix V0 V1))) .nil) (.ret I0)
def b8:ISs:=S2 (.set 3 (.bin .Mod (.bin .Add (.bin .Add (.bin .Mult V3 V3) (.bin .Mult (.con (.int 48271)) V3)) V4) (.bin .Add (.bin .Pow (.con (.int 10)) (.con (.int 40))) (.con (.int 121))))) (.app V2 V3)
def eA:ISs:=S4 (.set 2 (.lst false .nil)) (.set 3 (.bin .Add (.bin .Mod V0 (.bin .Add (.bin .Pow (.con (.int 10)) (.con (.int 40))) (.con (.int 121)))) (.con (.int 48271)))) (.Ls (.name 4) (.My (.bin .Add V1 I4)) b8) (.ret (.sl true V2 (.yes I4) .no))
def fH:ISs:=S3 (.set 2 (.ix (.lst true (Ar3 I0 I1 (.bin .Mod (.ix V0 I0) V1))) (.bin .Mod (.ix V0 I1) I3))) (.ifs (.cmp .Eq (.bin .Mod (.bin .FloorDiv (.ix V0 I1) I3) I4) I0) (S1 (.ret (.tup (Ar2 V2 (.con .i_))))) .nil) (.ret (.tup (Ar2 V2 (.bin .Add V2 (.ix (.lst true (Ar3 I0 I1 (.bin .Mod (.ix V0 I2) V1))) (.bin .Mod (.bin .FloorDiv (.ix V0 I1) (.con (.int 12))) I3))))))
def bG:ISs:=S2 (.set 9 (.call 49 (Ar2 (.bin .Add (.bin .Add (.bin .Add V0 (.bin .Mult I7 V6)) (.bin .Mult (.con (.int 43)) V8)) I1) I4))) (.ifs (.and (.cmp .NotEq V6 V8) (.cmp .Gt (.bin .Mod (.ix V9 I3) I6) I0)) (S1 (.F_ V5 (.tup (Ar2 V6 V8)) (.call 50 (Ar2 V9 V3)))) .nil)
def bx:ISs:=S3 (.set 7 (.bin .Add I1 (.bin .Mod (.bin .FloorDiv (.ix V1 (.bin .Add I2 V6)) I3) V3))) (.app V4 (.tup (Ar2 V7 (.bin .Add V7 (.ix (.lst true (Ar3 I0 I1 (.bin .Mod (.ix V1 (.bin .Sub I7 V6)) V3))) (.bin .Mod (.ix V1 (.bin .Add I2 V6)) I3)))))) (.Ls (.name 8) (.My V2) bG)
def fw:ISs:=S7 (.set 1 (.call 49 (Ar2 V0 I8))) (.set 2 (.ix (.lst true (.cons I1 (.cons I2 (Ar6 I2 I3 I3 I4 I5 I6)))) (.bin .Mod (.ix V1 I0) I8))) (.set 3 (.ix (.lst true (Ar4 I3 (.con (.int 100)) (.bin .Pow (.con (.int 10)) I9) (.bin .Pow (.con (.int 10)) (.con (.int 30))))) (.bin .Mod (.ix V1 I1) I4))) (.set 4 (.lst false .nil)) (.set 5 (.LH (some false))) (.Ls (.name 6) (.My V2) bx) (.ret (.tup (Ar2 (.u_ V4) (.u_ V5))))
def gy:ISs:=S1 (.ret (.make true 6 (Ar2 (.bi (.list true) (Ar1 (.ix V0 I0))) (.comp true ["_law_pair","_law_way_here"] [none,none] (.tup [0,1]) (.items (.ix V0 I1)) .no (.bin .Add V0 V1)))))
def dU:ISs:=S7 (.set 5 (.ix (.lst true (Ar4 I0 I1 (.bin .Mod (.ix V2 I1) I5) (.bin .Mod (.ix V2 I1) (.bin .Pow (.con (.int 10)) (.con (.int 12)))))) (.bin .Mod (.ix V2 I2) I4))) (.ifs (.and (.cmp .IsNot V3 (.con .i_)) (.cmp .Lt (.bin .Add (.ix V1 I2) (.bin .Mult (.ix V0 I1) V5)) V3)) (S1 (.set 5 (.bin .FloorDiv (.bin .Sub (.bin .Add (.bin .Sub V3 (.ix V1 I2)) (.ix V0 I1)) I1) (.ix V0 I1)))) .nil) (.set 6 (.bin .Add (.ix V1 I2) (.bin .Mult (.ix V0 I0) V5))) (.set 7 (.bin .Add (.ix V1 I2) (.bin .Mult (.ix V0 I1) V5))) (.ifs (.cmp .IsNot V3 (.con .i_)) (S1 (.set 6 (.bi .max (Ar2 V6 V3)))) .nil) (.ifs (.cmp .IsNot V4 (.con .i_)) (S1 (.set 7 (.bi .min (Ar2 V7 V4)))) .nil) (.ret (.tup (Ar3 V5 V6 V7)))
def dD:ISs:=S5 (.set 5 (.comp true ["_law_pair","_law_hand"] [none,some 0] (.name 0) (.dk V3) (.yes (.cmp .Eq (.ix V0 I0) V1)) (.ix V0 I1))) (.set 6 (.bin .Mod (.bin .FloorDiv (.ix V4 I3) I2) I8)) (.ifs (.or (.cmp .Eq V6 I1) (.cmp .Eq V6 I2)) (S2 (.set 7 (.lst true (Ar4 I0 I1 (.bin .Mod (.ix V4 I0) (.con (.int 100))) (.bin .Mod (.ix V4 I0) (.bin .Pow (.con (.int 10)) (.con (.int 12))))))) (.ret (.tup (Ar5 (.con (.str "sight")) V0 V1 (.bin .Sub V2 (.ix V7 (.bin .Mod (.ix V4 I1) I4))) (.bin .Add V2 (.ix V7 (.bin .Mod (.bin .FloorDiv (.ix V4 I1) I4) I4))))))) .nil) (.ifs (.and (.cmp .Gt V6 I2) (.cmp .NotEq V5 (.lst true .nil))) (S1 (.ret (.tup (Ar4 (.con (.str "send")) V0 V1 (.ix V5 (.bin .Mod (.bin .FloorDiv (.ix V4 I2) I5) (.bi .len (Ar1 V5)))))))) .nil) (.ret (.tup (Ar3 (.con (.str "look")) V0 V1)))
def gu:ISs:=S2 (.ifs (.cmp .Is (.ix V3 I1) (.con .i_)) (S1 (.ret (.tup (Ar4 V0 (.ix V1 I3) (.bin .Add V2 (.ix V3 I0)) (.con .i_))))) .nil) (.ret (.tup (Ar4 V0 (.ix V1 I3) (.bin .Add V2 (.ix V3 I0)) (.bin .Add V2 (.ix V3 I1)))))
def dm:ISs:=S1 (.app V5 (.tup (Ar3 I0 (.bin .Sub (.bin .Mod V6 (.bin .Pow (.con (.int 10)) (.con (.int 12)))) (.bin .Pow (.con (.int 10)) (.con (.int 11)))) (.bin .Sub (.bin .Mod V1 (.bin .Pow (.con (.int 10)) (.con (.int 12)))) (.bin .Pow (.con (.int 10)) (.con (.int 11)))))))
def aE:ISs:=S12 (.set 10 (.call 49 (Ar2 V9 I4))) (.set 11 (.bin .Mod (.ix V10 I0) (.bi .len (Ar1 V3)))) (.ifs (.cmp .Eq (.bin .Mod (.ix V10 I3) I2) I0) (S1 (.set 11 (.ix (.Pc (.comp true ["_law_k","_law_one"] [none,none] (.tup [0,1]) (.enum V5) .no (.tup (Ar2 (.ix V1 I2) V0)))) I1))) .nil) (.set 12 (.con .i_)) (.set 13 (.call 53 (Ar5 (.ix V3 V11) (.ix V5 V11) V10 (.con .i_) (.con .i_)))) (.ifs (.and (.cmp .Gt (.bin .Mod (.bin .FloorDiv (.ix V10 I3) I2) I8) I4) (.cmp .NotEq V7 (.lst true .nil))) (S3 (.set 12 (.ix V7 (.bin .Mod (.bin .FloorDiv (.ix V10 I0) I7) (.bi .len (Ar1 V7))))) (.set 14 (.call 53 (Ar5 (.ix V3 (.ix V12 I1)) (.ix V5 (.ix V12 I1)) V10 (.ix V12 I2) (.ix V12 I3)))) (.ifs (.cmp .Gt (.ix V14 I1) (.ix V14 I2)) (S1 (.set 12 (.con .i_))) (S2 (.set 11 (.ix V12 I1)) (.set 13 V14)))) .nil) (.set 15 (.ix (.lst true (Ar3 (.ix V13 I1) (.ix V13 I2) (.bin .Add (.ix V13 I1) (.bin .Mod (.bin .FloorDiv (.ix V10 I2) I4) (.bin .Add (.bin .Sub (.ix V13 I2) (.ix V13 I1)) I1))))) (.bin .Mod (.bin .FloorDiv (.ix V10 I3) (.con (.int 16))) I3))) (.set 16 (.tup (Ar2 V11 (.ix (.ix V5 V11) I0)))) (.F_ V5 V11 (.tup (Ar3 (.bin .Add (.ix V16 I1) I1) (.bin .Add (.ix (.ix V5 V11) I1) (.ix V13 I0)) V15))) (.set 17 (.call 54 (Ar5 V11 (.ix (.ix V5 V11) I1) V15 V4 V10))) (.ifs (.cmp .IsNot V12 (.con .i_)) (S2 (.expr (.bm .remove V7 (Ar1 V12))) (.set 17 (.tup (Ar4 (.con (.str "take")) V11 (.ix (.ix V5 V11) I1) (.ix V12 I0))))) (S1 (.ifs (.cmp .Eq (.ix V17 I0) (.con (.str "send"))) (S1 (.app V7 (.call 55 (Ar4 V16 V17 V15 (.ix V4 (.tup (Ar2 V11 (.ix V17 I3)))))))) .nil))) (.app V8 (.tup (Ar2 V17 V15)))
def fZ:ISs:=S7 (.Oe [3,4] V0) (.set 5 (.lst false .nil)) (.Ls (.name 6) (.seq (.call 49 (Ar2 V1 (.bi .len (Ar1 V3))))) dm) (.set 7 (.lst false .nil)) (.set 8 (.lst false .nil)) (.Ls (.name 9) (.seq V2) aE) (.ret (.u_ V8))
def g8:ISs:=S3 (.ifs (.cmp .Eq (.ix V1 I0) (.con (.str "sight"))) (S1 (.ret (.lst true (Ar2 (.tup (Ar3 (.tup (Ar2 (.neg I1) I0)) V2 (.ix V1 I4))) (.tup (Ar3 V2 (.tup (Ar2 (.neg I1) I0)) (.bin .Sub I0 (.ix V1 I3)))))))) .nil) (.ifs (.cmp .Eq (.ix V1 I0) (.con (.str "take"))) (S3 (.Oe [3,4] (.ix (.ix V0 I1) (.tup (Ar2 (.ix (.ix V1 I3) I0) (.ix V1 I1))))) (.ifs (.cmp .Is V4 (.con .i_)) (S1 (.ret (.lst true (Ar1 (.tup (Ar3 V2 (.ix V1 I3) (.bin .Sub I0 V3))))))) .nil) (.ret (.lst true (Ar2 (.tup (Ar3 V2 (.ix V1 I3) (.bin .Sub I0 V3))) (.tup (Ar3 (.ix V1 I3) V2 V4)))))) .nil) (.ret (.lst true .nil))
def cx:ISs:=S5 (.set 5 (.bm .Lv V3 (Ar2 (.ix V4 I1) (.lst false .nil)))) (.set 6 (.tup (Ar2 (.ix V4 I1) (.bi .len (Ar1 V5))))) (.expr (.bm .extend V2 (Ar1 (.call 57 (Ar3 V0 V4 V6))))) (.ifs (.cmp .NotEq V5 (.lst true .nil)) (S4 (.set 7 (.tup (Ar2 (.ix V4 I1) (.bin .Sub (.bi .len (Ar1 V5)) I1)))) (.Oe [8,9] (.ix (.ix V0 I0) (.ix V4 I1))) (.app V2 (.tup (Ar3 V7 V6 (.bin .Mult V9 (.bin .Sub (.ix V4 I2) (.ix V5 (.neg I1))))))) (.app V2 (.tup (Ar3 V6 V7 (.bin .Mult V8 (.bin .Sub (.ix V5 (.neg I1)) (.ix V4 I2))))))) .nil) (.app V5 (.ix V4 I2))
def g9:ISs:=S4 (.set 2 (.lst false .nil)) (.set 3 (.LH none)) (.Ls (.name 4) (.seq V1) cx) (.ret (.u_ V2))
def bu:ISs:=S2 (.F_ V1 (.ix V3 I1) (.bin .Add (.bm .get V1 (Ar2 (.ix V3 I1) I0)) I1)) (.app V2 (.tup (Ar2 (.ix V3 I1) (.bin .Sub (.ix V1 (.ix V3 I1)) I1))))
def iW:ISs:=S4 (.set 1 (.LH none)) (.set 2 (.lst false .nil)) (.Ls (.name 3) (.seq V0) bu) (.ret (.u_ V2))
def e8:ISs:=S1 (.ret (.and (.MJ V0 .int) (.not (.MJ V0 .bool))))
def gA:ISs:=S2 (.ifs (.or (.not (.val (.MJ V0 .tuple))) (.cmp .NotEq (.bi .len (Ar1 V0)) I2)) (S1 (.ret (.con (.bl false)))) .nil) (.ret (.and (.call 60 (Ar1 (.ix V0 I0))) (.call 60 (Ar1 (.ix V0 I1)))))
def eT:ISs:=S4 (.ifs (.or (.not (.val (.MJ V0 .dict))) (.not (.val (.bi .all (Ar1 (.comp true ["_law_x"] [none] (.name 0) (.dk V0) .no (.call 61 (Ar1 V0)))))))) (S1 (.ret (.con (.bl false)))) .nil) (.ifs (.cmp .NotEq (.bi (.sorted true) (Ar1 (.bi (.list true) (Ar1 V0)))) (.bi (.sorted true) (Ar1 V1))) (S1 (.ret (.con (.bl false)))) .nil) (.ifs (.not (.val (.bi .all (Ar1 (.comp true ["_law_x","_law_times"] [none,some 0] (.name 0) (.seq V1) .no (.call 60 (Ar1 (.ix V1 V0)))))))) (S1 (.ret (.con (.bl false)))) .nil) (.ret (.bi .all (Ar1 (.Mp ["_law_x","_law_y","_law_m","_law_times"] [none,none,none,some 0] (.MK [0,1] 2) V2 .no (.cmp .LtE (.bin .Sub (.ix V3 V1) (.ix V3 V0)) V2)))))
def jy:ISs:=S1 (.F_ V7 (.tup (Ar2 V8 V9)) V10)
def jz:ISs:=S4 (.set 12 (.bm .get V7 (Ar1 (.tup (Ar2 V8 V9))))) (.set 13 (.v_ V4 27076163554 (Ar2 V8 V9))) (.ifs (.or (.cmp .NotEq V13 V12) (.and (.cmp .IsNot V13 (.con .i_)) (.not (.val (.call 60 (Ar1 V13)))))) (S1 (.ret (.con (.bl false)))) .nil) (.ifs (.cmp .NotEq (.v_ V4 27076163554 (Ar2 V9 V8)) (.bm .get V7 (Ar1 (.tup (Ar2 V9 V8))))) (S1 (.ret (.con (.bl false)))) .nil)
def oj:ISs:=S1 (.Ls (.name 9) (.seq V11) jz)
def mD:ISs:=.cons (.set 1 (.call 51 (Ar1 (.call 48 (Ar2 V0 I0))))) (.cons (.set 2 (.comp true ["_law_row_here","_law_moment"] [none,none] (.tup [0,1]) (.seq (.call 56 (Ar3 V1 (.call 48 (Ar2 V0 I1)) (.sl true V0 (.yes I2) (.yes (.con (.int 14))))))) .no V0)) (.cons (.set 3 (.call 52 (Ar1 V1))) (.cons (.set 2 (.sl true V2 .no (.yes (.bin .Sub (.bi .len (Ar1 V2)) (.bin .Mod (.bin .Mod (.bin .FloorDiv (.call 48 (Ar2 V0 I0)) I5) I3) (.bin .Add (.bi .len (Ar1 V2)) I1)))))) (.cons (.set 4 (.call 36 (Ar2 V3 (.bi (.list true) (Ar1 V2))))) (.cons (.set 5 (.cat true (.lst true (Ar1 (.tup (Ar2 (.neg I1) I0)))) (.call 59 (Ar1 V2)))) (.cons (.set 6 (.v_ V4 31083688174 .nil)) (S14 (.ifs (.or (.cmp .NotEq (.glo 0) (.tup (Ar2 (.neg I1) I0))) (.or (.not (.val (.MJ V6 .list))) (.not (.val (.bi .all (Ar1 (.comp true ["_law_x"] [none] (.name 0) (.seq V6) .no (.call 61 (Ar1 V0))))))))) (S1 (.ret (.con (.bl false)))) .nil) (.ifs (.or (.cmp .NotEq (.bi .len (Ar1 V6)) (.bi .len (Ar1 V5))) (.cmp .NotEq (.bi (.sorted true) (Ar1 V6)) (.bi (.sorted true) (Ar1 V5)))) (S1 (.ret (.con (.bl false)))) .nil) (.set 7 (.LH (some true))) (.Ls (.tup [8,9,10]) (.seq (.call 58 (Ar2 V1 V2))) jy) (.set 11 V5) (.ifs (.cmp .Gt (.bi .len (Ar1 V5)) I6) (S1 (.set 11 (.cat true (.sl true V5 .no (.yes I1)) (.sl true V5 (.yes (.neg I2)) .no)))) .nil) (.Ls (.name 8) (.seq V5) oj) (.ifs (.not (.val (.call 62 (Ar3 (.v_ V4 31083689204 .nil) V5 V7)))) (S1 (.ret (.con (.bl false)))) .nil) (.expr (.v_ V4 213610734 (Ar1 (.tup (Ar2 I9 I9))))) (.expr (.v_ V4 1915632 (Ar3 (.ix V5 I0) (.tup (Ar2 I9 I9)) (.bin .Sub I0 (.bin .Pow (.con (.int 10)) I9))))) (.expr (.v_ V4 1915632 (Ar3 (.ix V5 (.neg I1)) (.tup (Ar2 I9 I9)) (.bin .Sub I0 (.bin .Pow (.con (.int 10)) (.con (.int 12))))))) (.set 14 (.call 36 (Ar2 V3 (.bi (.list true) (Ar1 V2))))) (.ifs (.or (.cmp .NotEq (.bi (.sorted true) (Ar1 (.v_ V14 31083688174 .nil))) (.bi (.sorted true) (Ar1 V5))) (.not (.val (.call 62 (Ar3 (.v_ V14 31083689204 .nil) V5 V7))))) (S1 (.ret (.con (.bl false)))) .nil) (.ret (.and (.cmp .IsNot (.v_ V4 27076163554 (Ar2 (.ix V5 I0) (.tup (Ar2 I9 I9)))) (.con .i_)) (.call 62 (Ar3 (.v_ V14 31083689204 .nil) V5 V7)))))))))))
def l_law:FL:=fl "law" true (top 60) ["_law_script","_law_world_here","_law_log","_law_made_here","_law_net","_law_some","_law_found","_law_steps","_law_x","_law_y","_law_m","_law_asked","_law_due_here","_law_kept","_law_again"] 1 mD
def L:List FL:=[fl "is_whole" true (top 10) ["thing"] 1 f9,fL "__init__" "Happening.__init__" false true (am (top 13) 0) ["self","hand","reading"] 3 ay,fL "__init__" "Look.__init__" false true (am (top 14) 0) ["self","hand","reading"] 3 dc,fL "row" "Look.row" false true (am (top 14) 1) ["self"] 1 p6,fL "own_bounds" "Look.own_bounds" false true (am (top 14) 2) ["self","world","name"] 3 bv,fL "__init__" "Sight.__init__" false true (am (top 15) 0) ["self","hand","reading","early","late"] 5 cT,fL "row" "Sight.row" false true (am (top 15) 1) ["self"] 1 pK,fL "own_bounds" "Sight.own_bounds" false true (am (top 15) 2) ["self","world","name"] 3 bh,fL "__init__" "Send.__init__" false true (am (top 16) 0) ["self","hand","reading","to"] 4 c9,fL "row" "Send.row" false true (am (top 16) 1) ["self"] 1 qO,fL "own_bounds" "Send.own_bounds" false true (am (top 16) 2) ["self","world","name"] 3 bq,fL "__init__" "Take.__init__" false true (am (top 17) 0) ["self","hand","reading","letter"] 4 db,fL "row" "Take.row" false true (am (top 17) 1) ["self"] 1 qu,fL "own_bounds" "Take.own_bounds" false true (am (top 17) 2) ["self","world","name","way","told"] 3 aW,fl "are_wholes" true (top 18) ["things","number"] 2 eF,fl "is_letter" true (top 19) ["thing"] 1 eY,fl "happening" true (top 20) ["row","word"] 1 bj,fl "count_on" true (top 22) ["counts","hand","ahead"] 2 fX,fl "names" true (top 23) ["log","counts","told","row"] 1 rO,fl "clock_bounds" true (top 25) ["clock","last","here","ticks"] 4 cJ,fl "bounds" true (top 26) ["world","log","told","readings","here","row","one","last"] 2 j6,fl "refuse_unknown" true (top 28) ["edges","x"] 2 bP,fl "go_on" true (top 29) ["row","x","sums","back","fallen","y","most","total"] 4 nP,fl "settle" true (top 30) ["edges","sums","back","fallen","again","x","y"] 3 jt,fl "spans" false (top 32) ["edges","x","sums"] 2 nY,fL "__init__" "Net.__init__" false false (am (top 36) 0) ["self"] 1 eE,fL "refuse_ring" "Net.refuse_ring" false true (am (top 36) 1) ["self","x","y","most","back"] 4 bA,fL "name" "Net.name" false false (am (top 36) 2) ["self","x"] 2 ef,fL "put" "Net.put" false false (am (top 36) 3) ["self","x","y","most"] 4 iK,fL "put_round" "Net.put_round" false true (am (top 36) 4) ["self","x","most"] 3 jb,fL "names" "Net.names" false true (am (top 36) 5) ["self"] 1 fh,fL "bound" "Net.bound" false true (am (top 36) 6) ["self","x","y"] 3 eV,fL "edges" "Net.edges" false true (am (top 36) 7) ["self","told","x","row"] 1 n8,fL "times" "Net.times" false true (am (top 36) 8) ["self","sums","x"] 1 fq,fL "most" "Net.most" false true (am (top 36) 9) ["self","x","y"] 3 gt,fL "road" "Net.road" false true (am (top 36) 10) ["self","x","y"] 3 qj,fl "net_of" false (top 38) ["world","log","net","name","x","y","most"] 2 kF,fl "refuse_clock" true (top 41) ["short","long"] 2 cL,fl "refuse_lengths" true (top 42) ["least","most"] 2 bL,fL "__init__" "World.__init__" false false (am (top 43) 0) ["self","clocks","ways","short","long","one","other","least","most"] 3 cK,fL "enter_way" "World.enter_way" false true (am (top 43) 1) ["self","one","other","least","most"] 5 bB,fL "refuse_hand" "World.refuse_hand" false true (am (top 43) 2) ["self","hand"] 2 aM,fL "refuse_pair" "World.refuse_pair" false true (am (top 43) 3) ["self","one","other"] 3 aL,fL "hands" "World.hands" false true (am (top 43) 4) ["self"] 1 bT,fL "has_hand" "World.has_hand" false true (am (top 43) 5) ["self","hand"] 2 bb,fL "has_way" "World.has_way" false true (am (top 43) 6) ["self","one","other"] 3 bZ,fL "clock" "World.clock" false true (am (top 43) 7) ["self","hand"] 2 de,fL "way" "World.way" false true (am (top 43) 8) ["self","one","other"] 3 eR,fl "_law_cell_at" true (top 45) ["_law_script","_law_k"] 2 bS,fl "_law_stream" true (top 46) ["_law_cell","_law_many","_law_found","_law_number","_law_k"] 2 eA,fl "_law_way" true (top 47) ["_law_xs","_law_size","_law_least"] 2 fH,fl "_law_world" true (top 48) ["_law_cell","_law_xs","_law_hands","_law_size","_law_clocks","_law_ways","_law_one","_law_short","_law_other","_law_ys"] 1 fw,fl "_law_made" true (top 49) ["_law_world_here"] 1 gy,fl "_law_lag" true (top 50) ["_law_clock","_law_here","_law_xs","_law_low","_law_high","_law_ticks","_law_first","_law_last"] 5 dU,fl "_law_row" true (top 51) ["_law_hand","_law_reading","_law_moment","_law_ways","_law_xs","_law_tos","_law_kind","_law_gaps"] 5 dD,fl "_law_sent" true (top 52) ["_law_here","_law_row_here","_law_moment","_law_way_here"] 4 gu,fl "_law_tale" true (top 53) ["_law_world_here","_law_start","_law_cells","_law_clocks","_law_ways","_law_at","_law_x","_law_sent_here","_law_told","_law_cell","_law_xs","_law_hand","_law_letter","_law_lag_here","_law_near","_law_moment","_law_here","_law_row_here"] 3 fZ,fl "_law_own" true (top 54) ["_law_world_here","_law_row_here","_law_here","_law_least","_law_most"] 3 g8,fl "_law_due" true (top 55) ["_law_world_here","_law_log","_law_found","_law_seen","_law_row_here","_law_known","_law_here","_law_last","_law_short","_law_long"] 2 g9,fl "_law_names" true (top 56) ["_law_log","_law_many","_law_found","_law_row_here"] 1 iW,fl "_law_whole" true (top 57) ["_law_found"] 1 e8,fl "_law_name" true (top 58) ["_law_found"] 1 gA,fl "_law_keeps" true (top 59) ["_law_times","_law_some","_law_steps"] 3 eT,l_law]
def xinT:List (Nat×Nat):=[]
def nm:NM:=⟨["DriftError"],["Happening","Look","Sight","Send","Take","Net","World"],["NOUGHT","MOST_HANDS"],xinT⟩
def xin(i:Nat):Option Nat:=xinT.lookup i
def subT:List (List Bool):=[[true]]
def sub(i j:Nat):Bool:=(subT.getD i []).getD j false
def ksubT:List (List Bool):=[[true,false,false,false,false,false,false],[true,true,false,false,false,false,false],[true,false,true,false,false,false,false],[true,false,false,true,false,false,false],[true,false,false,false,true,false,false],[false,false,false,false,false,true,false],[false,false,false,false,false,false,true]]
def ksub(i j:Nat):Bool:=(ksubT.getD i []).getD j false
def fokT:List (List Nat):=[[211529960,456806758904562],[211529960,456806758904562],[32709062885,213725420,211529960,456806758904562],[14324,211529960,456806758904562],[3944367338220,211529960,456806758904562],[245117675],[136762133858116729320171,8355170983792620267]]
def fok(i f:Nat):Bool:=(fokT.getD i []).contains f
def mthT:List (List (Nat×Nat)):=[[],[(1067955986548848835567,4),(1964018,3)],[(1067955986548848835567,7),(1964018,6)],[(1067955986548848835567,10),(1964018,9)],[(1067955986548848835567,13),(1964018,12)],[(27076163554,31),(31083590245,32),(245168109,34),(213610734,27),(31083688174,30),(1915632,28),(7268202314844682992,29),(122623138502931931312882,26),(211318770,35),(31083689204,33)],[(28932044387,46),(8774101686596482917,40),(31081607400,43),(56782141471387880,44),(535528667410664,45),(119080781550527859766002,41),(135562951883986971505394,42),(1994999,47)]]
def mth(i m:Nat):Option Nat:=(mthT.getD i []).lookup m
def D6:List Nat:=[1,2,5,8,11,25,39]
def ini(i:Nat):Option Nat:=D6[i]?
def gloT:List D:=[.tup [.int (-1),.int 0],.int 6]
def glo(k:Nat):D:=gloT.getD k .i_
def B(cls c_ e_:Nat->Addr):WB:={ne:=1,cls:=cls,sub:=sub,nk:=7,c_:=c_,ksub:=ksub,fok:=fok,mth:=mth,ini:=ini,xin:=xin,glo:=glo,e_:=e_}
section
variable {cls c_ e_:Nat->Addr}
@[simp] theorem J7:(B cls c_ e_).nk=7:=rfl
@[simp] theorem JD:(B cls c_ e_).c_=c_:=rfl
@[simp] theorem Jl:(B cls c_ e_).fok=fok:=rfl
@[simp] theorem IU:(B cls c_ e_).mth=mth:=rfl
@[simp] theorem Jz:(B cls c_ e_).ini=ini:=rfl
@[simp] theorem IX:(B cls c_ e_).glo=glo:=rfl
end
@[simp] theorem IJ:ini 0=some 1:=rfl
@[simp] theorem BX:fok 1 211529960=true:=by decide
@[simp] theorem xJ:fok 1 456806758904562=true:=by decide
@[simp] theorem tJ:mth 1 1067955986548848835567=some 4:=by decide
@[simp] theorem JJ:ini 1=some 2:=rfl
@[simp] theorem At:fok 2 32709062885=true:=by decide
@[simp] theorem AD:fok 2 213725420=true:=by decide
@[simp] theorem C8:fok 2 211529960=true:=by decide
@[simp] theorem xH:fok 2 456806758904562=true:=by decide
@[simp] theorem uv:mth 2 1067955986548848835567=some 7:=by decide
@[simp] theorem JN:ini 2=some 5:=rfl
@[simp] theorem Fb:fok 3 14324=true:=by decide
@[simp] theorem Bn:fok 3 211529960=true:=by decide
@[simp] theorem xI:fok 3 456806758904562=true:=by decide
@[simp] theorem ur:mth 3 1067955986548848835567=some 10:=by decide
@[simp] theorem IQ:ini 3=some 8:=rfl
@[simp] theorem yR:fok 4 3944367338220=true:=by decide
@[simp] theorem B0:fok 4 211529960=true:=by decide
@[simp] theorem xK:fok 4 456806758904562=true:=by decide
@[simp] theorem uf:mth 4 1067955986548848835567=some 13:=by decide
@[simp] theorem Jh:ini 4=some 11:=rfl
@[simp] theorem C0:fok 5 245117675=true:=by decide
@[simp] theorem fk:mth 5 27076163554=some 31:=by decide
@[simp] theorem qS:mth 5 245168109=some 34:=by decide
@[simp] theorem gC:mth 5 213610734=some 27:=by decide
@[simp] theorem iX:mth 5 31083688174=some 30:=by decide
@[simp] theorem hU:mth 5 1915632=some 28:=by decide
@[simp] theorem gF:mth 5 122623138502931931312882=some 26:=by decide
@[simp] theorem fx:mth 5 31083689204=some 33:=by decide
@[simp] theorem JP:ini 5=some 25:=rfl
@[simp] theorem rP:fok 6 136762133858116729320171=true:=by decide
@[simp] theorem uI:fok 6 8355170983792620267=true:=by decide
@[simp] theorem Jx:ini 6=some 39:=rfl
@[simp] theorem Jc:glo 0=.tup [.int (-1),.int 0]:=rfl
@[simp] theorem Ji:glo 1=.int 6:=rfl
def T:List FB:=L.map FL.fb
theorem Iy:L.map FL.fb=T:=rfl
abbrev U(B:WB)(n k:Nat)(xs:List D)(b:ISs)(Z:St3):Prop:=∀{M:MH}{Q:VK3}{E:XN},aa T B (n+1) k xs M Q E=runF T B n b Z M Q E
abbrev UM(B:WB)(n k:Nat)(xs:List D)(b:ISs)(Z:St3):Prop:=∀{M:MH}{Q:VK3}{E:XN},aa T B (n+1) k xs M Q E=aR {toWB:=B,call:=aa T B n} b {nx:=λ_ M'=>Q .i_ M',rt:=λv M'=>Q v M'} (λ_ i M'=>E i (av M M')) Z M
theorem uu{a b c:Prop}(h:a=(b/\c))(hb:b):a=c:=h.trans (propext ⟨λh=>h.2,λh=>⟨hb,h⟩⟩)
section
variable {B:WB}{n:Nat}{x0 x1 x2 x3 x4:D}
theorem qZ:U B n 0 [x0] f9 [some x0]:=uu rfl rfl
theorem aO:U B n 1 [x0,x1,x2] ay [some x0,some x1,some x2]:=uu rfl rfl
theorem k8:U B n 2 [x0,x1,x2] dc [some x0,some x1,some x2]:=uu rfl rfl
theorem gW:U B n 4 [x0,x1,x2] bv [some x0,some x1,some x2]:=uu rfl rfl
theorem jD:U B n 5 [x0,x1,x2,x3,x4] cT [some x0,some x1,some x2,some x3,some x4]:=uu rfl rfl
theorem gg:U B n 7 [x0,x1,x2] bh [some x0,some x1,some x2]:=uu rfl rfl
theorem lf:U B n 8 [x0,x1,x2,x3] c9 [some x0,some x1,some x2,some x3]:=uu rfl rfl
theorem gX:U B n 10 [x0,x1,x2] bq [some x0,some x1,some x2]:=uu rfl rfl
theorem kZ:U B n 11 [x0,x1,x2,x3] db [some x0,some x1,some x2,some x3]:=uu rfl rfl
theorem c5:U B n 13 [x0,x1,x2] aW [some x0,some x1,some x2,none,none]:=uu rfl rfl
theorem ny:U B n 14 [x0,x1] eF [some x0,some x1]:=uu rfl rfl
theorem pN:U B n 15 [x0] eY [some x0]:=uu rfl rfl
theorem c6:U B n 16 [x0] bj [some x0,none]:=uu rfl rfl
theorem qa:U B n 17 [x0,x1] fX [some x0,some x1,none]:=uu rfl rfl
theorem yE:U B n 18 [x0] rO [some x0,none,none,none]:=uu rfl rfl
theorem jU:U B n 19 [x0,x1,x2,x3] cJ [some x0,some x1,some x2,some x3]:=uu rfl rfl
theorem vz:U B n 20 [x0,x1] j6 [some x0,some x1,none,none,none,none,none,none]:=uu rfl rfl
theorem iJ:U B n 21 [x0,x1] bP [some x0,some x1]:=uu rfl rfl
theorem za:U B n 22 [x0,x1,x2,x3] nP [some x0,some x1,some x2,some x3,none,none,none,none]:=uu rfl rfl
theorem wF:U B n 23 [x0,x1,x2] jt [some x0,some x1,some x2,none,none,none,none]:=uu rfl rfl
theorem zi:UM B n 24 [x0,x1] nY [some x0,some x1,none]:=uu rfl rfl
theorem mP:UM B n 25 [x0] eE [some x0]:=uu rfl rfl
theorem gY:U B n 26 [x0,x1,x2,x3] bA [some x0,some x1,some x2,some x3,none]:=uu rfl rfl
theorem kM:UM B n 27 [x0,x1] ef [some x0,some x1]:=uu rfl rfl
theorem tL:UM B n 28 [x0,x1,x2,x3] iK [some x0,some x1,some x2,some x3]:=uu rfl rfl
theorem oy:U B n 30 [x0] fh [some x0]:=uu rfl rfl
theorem pP:U B n 31 [x0,x1,x2] eV [some x0,some x1,some x2]:=uu rfl rfl
theorem pz:U B n 33 [x0] fq [some x0,none,none]:=uu rfl rfl
theorem rb:U B n 34 [x0,x1,x2] gt [some x0,some x1,some x2]:=uu rfl rfl
theorem xt:UM B n 36 [x0,x1] kF [some x0,some x1,none,none,none,none,none]:=uu rfl rfl
theorem j8:U B n 37 [x0,x1] cL [some x0,some x1]:=uu rfl rfl
theorem ig:U B n 38 [x0,x1] bL [some x0,some x1]:=uu rfl rfl
theorem jY:UM B n 39 [x0,x1,x2] cK [some x0,some x1,some x2,none,none,none,none,none,none]:=uu rfl rfl
theorem gJ:U B n 40 [x0,x1,x2,x3,x4] bB [some x0,some x1,some x2,some x3,some x4]:=uu rfl rfl
theorem cq:U B n 41 [x0,x1] aM [some x0,some x1]:=uu rfl rfl
theorem cf:U B n 42 [x0,x1,x2] aL [some x0,some x1,some x2]:=uu rfl rfl
theorem fP:U B n 43 [x0] bT [some x0]:=uu rfl rfl
theorem dJ:U B n 44 [x0,x1] bb [some x0,some x1]:=uu rfl rfl
theorem jg:U B n 45 [x0,x1,x2] bZ [some x0,some x1,some x2]:=uu rfl rfl
theorem ls:U B n 46 [x0,x1] de [some x0,some x1]:=uu rfl rfl
theorem pC:U B n 47 [x0,x1,x2] eR [some x0,some x1,some x2]:=uu rfl rfl
theorem fR:U B n 48 [x0,x1] bS [some x0,some x1]:=uu rfl rfl
theorem nG:U B n 49 [x0,x1] eA [some x0,some x1,none,none,none]:=uu rfl rfl
theorem lZ:U B n 50 [x0,x1] fH [some x0,some x1,none]:=uu rfl rfl
theorem pL:U B n 51 [x0] fw [some x0,none,none,none,none,none,none,none,none,none]:=uu rfl rfl
theorem qE:U B n 52 [x0] gy [some x0]:=uu rfl rfl
theorem t7:U B n 53 [x0,x1,x2,x3,x4] dU [some x0,some x1,some x2,some x3,some x4,none,none,none]:=uu rfl rfl
theorem hX:U B n 54 [x0,x1,x2,x3,x4] dD [some x0,some x1,some x2,some x3,some x4,none,none,none]:=uu rfl rfl
theorem qG:U B n 55 [x0,x1,x2,x3] gu [some x0,some x1,some x2,some x3]:=uu rfl rfl
theorem ql:U B n 56 [x0,x1,x2] fZ [some x0,some x1,some x2,none,none,none,none,none,none,none,none,none,none,none,none,none,none,none]:=uu rfl rfl
theorem uB:U B n 57 [x0,x1,x2] g8 [some x0,some x1,some x2,none,none]:=uu rfl rfl
theorem uC:U B n 58 [x0,x1] g9 [some x0,some x1,none,none,none,none,none,none,none,none]:=uu rfl rfl
theorem oU:U B n 59 [x0] iW [some x0,none,none,none]:=uu rfl rfl
theorem o8:U B n 60 [x0] e8 [some x0]:=uu rfl rfl
theorem p7:U B n 61 [x0] gA [some x0]:=uu rfl rfl
theorem oM:U B n 62 [x0,x1,x2] eT [some x0,some x1,some x2]:=uu rfl rfl
theorem FQ:U B n 63 [x0] mD [some x0,none,none,none,none,none,none,none,none,none,none,none,none,none,none]:=uu rfl rfl
end
theorem top_mk{P:Params}{h:Heap}{mg:Str->Option Value}(X:(HD.K P).In h)(Gn:h.Ns mainGlobals mg)
  {q0:Addr}{qn0:Nat}{qt0_0:Tok}{qt0_1:Tok}
  (QZ:PySem.W.nsIn (HD.K P) mainGlobals "NOUGHT"=some (some (.ref q0)))
  (Q0:(HD.K P).lookup q0=some {cls:=.type "tuple",data:=.seq #[.int (-1) qt0_0,.int (0) qt0_1] qn0})
  {qt1:Tok}
  (Q1:PySem.W.nsIn (HD.K P) mainGlobals "MOST_HANDS"=some (some (.int (6) qt1)))
  : ∃cls c_ e_,Top (HD.K P) mg L nm (B cls c_ e_):=by
 refine⟨λi=>([31]:List Nat).getD i 0,λi=>([138,173,206,239,272,458,556]:List Nat).getD i 0,λi=>([120,135,156,163,170,189,196,203,222,229,236,255,262,269,279,286,293,300,307,314,321,328,335,342,356,377,384,391,398,405,412,419,426,433,440,447,469,476,483,497,504,511,518,525,532,539,546,553,567,574,581,588,593,600,605,612,617,624,631,638,645,652,657,662]:List Nat).getD i 0,Top.of (fT:=fokT) (mT:=mthT) (iT:=D6) X Gn (by kernel_rfl) (by kernel_rfl) (by kernel_rfl) (by (iterate 64 refine ixc (by first|exact n1 (by intros;rfl)|exact n2 (by intros;rfl)|exact n3 (by intros;rfl)|exact n4 (by intros;rfl)|exact n5 (by intros;rfl)) ?_);exact ixn) (by kernel_rfl) (by kernel_rfl) (by kernel_rfl) (by kernel_rfl) (λ_ _=>rfl) (λ_ _=>rfl) (λ_=>rfl) (by kernel_rfl) ?_ ?_ ?_ (Ey (by kernel_rfl))⟩
 ·intro k x hi
  match k,hi with
  |0,hi=>cases hi;exact⟨_,.ref q0,PySem.W.mg_of X Gn QZ,rfl,λH=>⟨q0,[.int (-1),.int (0)],rfl,.inr ⟨_,_,qn0,Q0,rfl,rfl,(by show 2<=sizeLine;decide),.cons ⟨_,rfl⟩ (.cons ⟨_,rfl⟩ (.nil))⟩,⟨_,_,rfl,rfl,⟨_,_,rfl,rfl,rfl⟩⟩⟩⟩
  |1,hi=>cases hi;exact⟨_,.int (6),PySem.W.mg_of X Gn Q1,⟨_,rfl⟩,λH=>rfl⟩
  |n+2,hi=>simp[nm]at hi
 ·intro i f hx;cases (show ([]:List (Nat×Nat)).lookup i=some f from hx)
 ·intro i f hi hx;cases (show ([]:List (Nat×Nat)).lookup i=some f from hx)
end G
namespace G
open L2
section
variable {cls c_ e_:Nat->PySem.Addr}{M:MH}{Q:VK3}{E:XN}{n:Nat}{p q d:PySem.Addr}{cl ds:List D}{ks:List (List Int)}
abbrev fC:Nat:=136762133858116729320171
abbrev fW:Nat:=8355170983792620267
structure Wd (c_:Nat->PySem.Addr)(M:MH)(p q d:PySem.Addr)(cl:List D) (ks:List (List Int)) (ds:List D):Prop where
 ip:M p=some (.ins 6 (c_ 6) [fC,fW] [.ref q,.ref d])
 iq:M q=some (.lst cl)
 id:M d=some (.dt ks ds)
theorem EQ(h:Wd c_ M p q d cl ks ds):d7 (B cls c_ e_) fC (.ref p) M Q=Q (.ref q) M:=by
 simp[d7,h.ip,fC]
theorem Ad(h:Wd c_ M p q d cl ks ds):d7 (B cls c_ e_) fW (.ref p) M Q=Q (.ref d) M:=by
 simp[d7,h.ip,fC,fW]
theorem hV(h:Wd c_ M p q d cl ks ds)(hm:mth 6 m=some f)(h1:fC≠m)(h2:fW≠m):cr (B cls c_ e_) m (.ref p) M R=R f:=by
 simp[cr,h.ip,hm,h1,h2]
theorem yz(h:Wd c_ M p q d cl ks ds):aa T (B cls c_ e_) (n+1) 43 [.ref p] M Q E=Q (.int cl.length) M:=by
 simp[fP,bT,EQ h];simp[rBi,ak,aA,h.iq]
theorem qR(h:Wd c_ M p q d cl ks ds):aa T (B cls c_ e_) (n+2) 44 [.ref p,.int i] M Q E=Q (.bl (decide (0<=i)&&decide (i<cl.length))) M:=by
 simp[dJ,bb];by_cases h0:0<=i
 ·simp[h0];rw[hV h (f:=43) (by decide) (by decide) (by decide),yz h]
  simp
 ·simp[h0]
def okH(n:Nat)(i:Int):Bool:=decide (0<=i)&&decide (i<n)
theorem fM(h:Wd c_ M p q d cl ks ds)(ho:okH cl.length i=true):aa T (B cls c_ e_) (n+3) 41 [.ref p,.int i] M Q E=Q .i_ M:=by
 simp[cq,aM];rw[hV h (f:=44) (by decide) (by decide) (by decide),qR h]
 unfold okH at ho;rw[ho];simp
theorem lq(h:Wd c_ M p q d cl ks ds)(h1:okH cl.length i=true)(h2:okH cl.length j=true)(h3:i≠j):aa T (B cls c_ e_) (n+4) 42 [.ref p,.int i,.int j] M Q E=Q .i_ M:=by
 simp[cf,aL];rw[hV h (f:=41) (by decide) (by decide) (by decide),fM h h1]
 rw[hV h (f:=41) (by decide) (by decide) (by decide),fM h h2]
 simp[h3]
def nu(l:Int)(m:Option Int):Bool:=decide (l<0)||(match m with|some m=>decide (m<l)|none=>false)
theorem uh(hb:nu l m=false):aa T (B cls c_ e_) (n+1) 38 [.int l,oi m] M Q E=Q .i_ M:=by
 simp only[nu,Bool.or_eq_false_iff]at hb;simp only[ig,bL];cases m with
 |none=>simp[hb.1]
 |some m=>
  have h2:¬ m<l:=of_decide_eq_false hb.2;simp[hb.1,h2]
def mJ(p:Int×Int):Bool:=decide (p.1<1)||decide (p.2<p.1)
theorem xR(hb:mJ (a,b)=false):aa T (B cls c_ e_) (n+1) 37 [.int a,.int b] M Q E=Q .i_ M:=by
 simp only[mJ,Bool.or_eq_false_iff]at hb;simp[j8,cL,hb.1,hb.2]
theorem EI(h:Wd c_ M p q d cl ks ds)(hl:ks.length=ds.length):aI .In (.tup [.int i,.int j]) (.ref d) M Q=Q (.bl (decide ([i,j]∈ks))) M:=by
 have e:(getD ks ds [i,j]).isSome=decide ([i,j]∈ks):=by
  clear h
  induction ks generalizing ds with
  |nil=>cases ds<;>simp[getD]
  |cons k ks ih=>
   cases ds with
   |nil=>simp at hl
   |cons x ds=>
    simp only[getD];by_cases e:k=[i,j]
    ·simp[e]
    ·rw[Kj e,ih (by simpa using hl)]
     simp[Kz e]
 simp[aI,nW,aA,ak,h.id,dQ,dh,cU,iP,bJ,e]
theorem jM:∀{ks:List (List Int)},k∉ks->aj ks k=ks++[k]
 |[],_=>rfl
 |a::ks,h=>by
  have h1:a≠k:=λe=>h (by simp[e])
  have h2:k∉ks:=λe=>h (by simp[e])
  simp[aj,h1,jM h2]
def way(l:Int)(m:Option Int):D:=.tup [.int l,oi m]
theorem zM(h:Wd c_ M p q d cl ks ds)(hl:ks.length=ds.length)(hz:ks.length<1000)(h1:okH cl.length i=true)(h2:okH cl.length j=true)(h3:i≠j)(h4:[i,j]∉ks)(h5:nu l m=false):aa T (B cls c_ e_) (n+5) 40 [.ref p,.int i,.int j,.int l,oi m] M Q E=Q .i_ (put M d (.dt (aj ks [i,j]) (ao ks ds [i,j] (way l m)))):=by
 have hs:ks.length<PySem.sizeLine:=Kv hz (by decide)
 simp[gJ,bB];rw[hV h (f:=42) (by decide) (by decide) (by decide),lq h h1 h2 h3]
 simp[au];rw[show d7 (B cls c_ e_) 8355170983792620267 (.ref p) M _=_ from Ad h];rw[EI h hl];simp[h4];rw[uh h5];rw[show d7 (B cls c_ e_) 8355170983792620267 (.ref p) M _=_ from Ad h];simp[az,h.id,iP,bJ,hs,way]
def cD(p:Int×Int):D:=.tup [.int p.1,.int p.2]
structure Wy where
 i:Int
 j:Int
 l:Int
 m:Option Int
def wD(w:Wy):D:=.tup [.int w.i,.int w.j,.int w.l,oi w.m]
theorem dM(h:a≠b):put (put (put M a x) b y) a z=put (put M a z) b y:=by
 funext c;unfold put;by_cases h1:c=a
 ·subst h1;simp[h]
 ·simp[h1]
theorem l7(h:a≠b)(h':a≠c):put (put (put (put M a x) b y) c w) a z=put (put (put M a z) b y) c w:=by
 funext e;unfold put;by_cases h1:e=a
 ·subst h1;simp[h,h']
 ·simp[h1]
theorem nh{ns:List Nat}(h:M p=some (.ins i C ns es)):iY (B cls c_ e_) f y R (.ref p) M=((C=(B cls c_ e_).c_ i/\i<(B cls c_ e_).nk/\(B cls c_ e_).fok i f=true/\ns.length<1000)/\R (put M p (.ins i C (ca f ns) (ce f y ns es)))):=by
 simp[iY,h]
def pr(w:Wy):List Int:=[w.i,w.j]
def wv(w:Wy):D:=way w.l w.m
structure Wy.good (n:Nat)(w:Wy):Prop where
 i:okH n w.i=true
 j:okH n w.j=true
 ne:w.i≠w.j
 l:nu w.l w.m=false
theorem j4:∀{ks:List (List Int)}{ds:List D},ks.length=ds.length->k∉ks->ao ks ds k v=ds++[v]
 |[],[],_,_=>rfl
 |a::ks,e::ds,hl,h=>by
  have h1:a≠k:=λz=>h (by simp[z])
  have h2:k∉ks:=λz=>h (by simp[z])
  simp[ao,h1,j4 (by simpa using hl) h2]
theorem mm{S:MH->Prop}(hS:S M){De:Ends3}{ES:St3->XN}{R:Prop}{x0 x1 x2 x5 x6 x7 x8:Option D}:∀(d_:List (Int×Int)) (x3 x4:Option D),(∀c∈d_,mJ c=false)->(∀x y,De.nx [x0,x1,x2,x,y,x5,x6,x7,x8] M=R)->
  aP ⟨(B cls c_ e_),aa T (B cls c_ e_) (n+1)⟩ (.tup [3,4]) bC ES S De (d_.map cD) [x0,x1,x2,x3,x4,x5,x6,x7,x8] M=R
 |[],x3,x4,_,hR=>by simp[aV,hR,hS]
 |(c1,c2)::r,x3,x4,hc,hR=>by
  have ih:=mm hS (De:=De) (ES:=ES) (R:=R) (x0:=x0) (x1:=x1) (x2:=x2) (x5:=x5) (x6:=x6) (x7:=x7) (x8:=x8) r (some (.int c1)) (some (.int c2)) (λc h=>hc c (Ki _ h)) hR
  have h':=hc (c1,c2) Kl;rw[Kn,aD];simp only[bC,cD]at ih ⊢;rw[<-ih];simp[xR,h',hS]
theorem kI{S:MH->Prop}{Mb:MH}(hS:∀ks ds,S (put Mb d (.dt ks ds)))(hw:∀ks ds,Wd c_ (put Mb d (.dt ks ds)) p q d cl ks ds){De:Ends3}{ES:St3->XN}{R:Prop}{x1 x2 x3 x4:Option D}:∀(wy:List Wy) (ks:List (List Int)) (ds:List D)(x5 x6 x7 x8:Option D),ks.length=ds.length->ks.length+wy.length<500->
  (∀w∈wy,w.good cl.length)->(wy.map pr).Nodup->(∀w∈wy,pr w∉ks)->(∀x5 x6 x7 x8,De.nx [some (.ref p),x1,x2,x3,x4,x5,x6,x7,x8] (put Mb d (.dt (ks++wy.map pr) (ds++wy.map wv)))=R)->
  aP ⟨(B cls c_ e_),aa T (B cls c_ e_) (n+5)⟩ (.tup [5,6,7,8]) bp ES S De (wy.map wD) [some (.ref p),x1,x2,x3,x4,x5,x6,x7,x8] (put Mb d (.dt ks ds))=R
 |[],ks,ds,x5,x6,x7,x8,hl,hz,hg,hn,hk,hR=>by
  have:=hR x5 x6 x7 x8;simp at this;simp[aV,this,hS]
 |w::r,ks,ds,x5,x6,x7,x8,hl,hz,hg,hn,hk,hR=>by
  simp only[Ky]at hz;have g:=hg w Kl;have MV:[w.i,w.j]∉ks:=hk w Kl;rw[Kn,KN]at hn;have ih:=kI hS hw (De:=De) (ES:=ES) (R:=R) (x1:=x1) (x2:=x2) (x3:=x3) (x4:=x4) r (ks++[[w.i,w.j]]) (ds++[way w.l w.m]) (some (.int w.i)) (some (.int w.j)) (some (.int w.l)) (some (oi w.m)) (by simp[hl]) (by simp;omega) (λv hv=>hg v (Ki _ hv)) hn.2 (λv hv=>by
   intro z;rcases KD.mp z with z|z
   ·exact hk v (Ki _ hv) z
   ·exact hn.1 (by rw[show pr w=pr v from (KF.mp z).symm];exact List.mem_map_of_mem hv)) (λa b c e=>by
    have:=hR a b c e;simpa [pr,wv] using this)
  rw[Kn,aD];simp only[bp,wD]at ih ⊢;have h1:okH cl.length w.i=true/\okH cl.length w.j=true/\w.i≠w.j:=⟨g.i,g.j,g.ne⟩;simp[lD,hS];rw[hV (hw ks ds) (f:=40) (by decide) (by decide) (by decide),zM (hw ks ds) hl (by omega) g.i g.j g.ne MV g.l,ba,jM MV,j4 hl MV]
  simpa using ih
def wO(c_:Nat->PySem.Addr)(d_:List (Int×Int))(wy:List Wy):D:=.obj 6 (c_ 6) [fC,fW] [.g_ (d_.map cD),.I_ (wy.map pr) (wy.map wv)]
theorem zy{d_:List (Int×Int)}{wy:List Wy}(hM:Fm M)(h1:1<=d_.length)(h6:d_.length<=6)(hc:∀c∈d_,mJ c=false)(h2:wy.length<400)(Q4:∀w∈wy,w.good d_.length)(hn:(wy.map pr).Nodup) :
  (∀p,M p=none->aa T (B cls c_ e_) (n+6) 39 [.ref p,.g_ (d_.map cD),.g_ (wy.map wD)] (put M p (.ins 6 (c_ 6) [] [])) (λv M2=>v=.i_/\aY Q (.ref p) M2) (λi M'=>E i (del M' p)))=Q (wO c_ d_ wy) M:=by
 refine aC hM λp hp=>?_
 have hz:d_.length<=PySem.sizeLine:=KB (show d_.length<=1000 by omega) (by decide)
 have hB:¬ (d_.length:Int)<1:=by omega
 have hC:¬ (6:Int)<d_.length:=by omega
 have Us:¬ d_.length<1:=by omega
 have Ts:¬ 6<d_.length:=by omega
 have Mm:¬ d_=[]:=λz=>by simp[z]at h1
 simp[jY,cK,hB,hC,Ts];refine iff_of_eq (mm trivial d_ none none hc λx y=>?_)
 simp[rBi,aA,ak,hz];refine iff_of_eq (aC (hM.put _ _) λq hq=>?_)
 obtain⟨OO,hq⟩:=bX hq;rw[show iY (B cls c_ e_) 136762133858116729320171 (.ref q) _ (.ref p) (put (put M p (.ins 6 (c_ 6) [] [])) q (.lst (d_.map cD)))=_ from nh (by rw[ae (Kz OO),ac])]
 simp;rw[dM (Kz OO)];refine iff_of_eq (aC ((hM.put _ _).put _ _) λd hd=>?_)
 obtain⟨RU,hd⟩:=bX hd;obtain⟨Oy,hd⟩:=bX hd;rw[show iY (B cls c_ e_) 8355170983792620267 (.ref d) _ (.ref p) (put (put (put M p (.ins 6 (c_ 6) [136762133858116729320171] [.ref q])) q (.lst (d_.map cD))) d (.dt [] []))=_ from nh (by rw[ae (Kz Oy),ae (Kz OO),ac])]
 simp;rw[l7 (Kz OO) (Kz Oy)];have hw:∀ks ds,Wd c_ (put (put (put M p (.ins 6 (c_ 6) [fC,fW] [.ref q,.ref d])) q (.lst (d_.map cD))) d (.dt ks ds)) p q d (d_.map cD) ks ds:=λks ds=>
  ⟨by rw[ae (Kz Oy),ae (Kz OO),ac],by rw[ae (Kz RU),ac],ac⟩
 refine iff_of_eq (kI (λks ds=>trivial) hw wy [] [] none none none none rfl (by simp;omega) (by simpa using Q4) hn (λw _ z=>by cases z) λx5 x6 x7 x8=>?_)
 simp only[aY];rw[(hw _ _).ip];simp only[eL];have e1:∀LK D_,del (put (put (put M p (.ins 6 (c_ 6) [fC,fW] [.ref q,.ref d])) q (.lst (d_.map cD))) d (.dt LK D_)) p q=some (.lst (d_.map cD)):=λLK D_=>by
  unfold del;rw[Kj OO];exact (hw LK D_).iq
 rw[e1];have e2:∀LK D_,del (del (put (put (put M p (.ins 6 (c_ 6) [fC,fW] [.ref q,.ref d])) q (.lst (d_.map cD))) d (.dt LK D_)) p) q d=some (.dt LK D_):=λLK D_=>by
  unfold del;rw[Kj RU,Kj Oy];exact (hw LK D_).id
 simp only[e2];have e3:∀LK D_,del (del (del (put (put (put M p (.ins 6 (c_ 6) [fC,fW] [.ref q,.ref d])) q (.lst (d_.map cD))) d (.dt LK D_)) p) q) d=M:=λLK D_=>by
  funext a;unfold del put;by_cases a1:a=d
  ·subst a1;simp[hd]
  ·by_cases a2:a=q
   ·subst a2;simp[hq]
   ·by_cases a3:a=p
    ·subst a3;simp[hp,a2]
    ·simp[a1,a2,a3]
 rw[e3];rfl
theorem vA(ns:List Int)(k:Nat):∃x:Int,∀{n:Nat}{M:MH}{Q:VK3}{E:XN},aa T (B cls c_ e_) (n+1) 48 [scr ns,.int k] M Q E=Q (.int x) M:=by
 by_cases h:k<ns.length
 ·obtain⟨x,hx⟩:=EX (cs:=ns) (i:=k) (by omega) (by omega)
  refine⟨x,?_⟩;intro n M Q E;simp[fR,bS,iV hx,h]
 ·refine⟨0,?_⟩;intro n M Q E;simp[fR,bS,h]
theorem jX(lo:Int)(k:Nat):rng lo (k+1)=.int lo::rng (lo+1) k:=by
 simp only[rng,List.range_succ_eq_map,Kn,List.map_map];congr 1
 ·simp
 ·apply List.map_congr_left;intro i _;simp;omega
variable {d_:List (Int×Int)}{wy:List Wy}
theorem o_c:d7 (B cls c_ e_) 136762133858116729320171 (wO c_ d_ wy) M Q=Q (.g_ (d_.map cD)) M:=by simp[wO,fW]
theorem o_w:d7 (B cls c_ e_) 8355170983792620267 (wO c_ d_ wy) M Q=Q (.I_ (wy.map pr) (wy.map wv)) M:=by simp[wO,fC]
theorem o_m(hm:mth 6 m=some f)(h1:fC≠m)(h2:fW≠m):cr (B cls c_ e_) m (wO c_ d_ wy) M R=R f:=by
 simp[wO,hm,h1,h2]
theorem o1:cr (B cls c_ e_) 31081607400 (wO c_ d_ wy) M R=R 43:=o_m (by decide) (by decide) (by decide)
theorem uN:aa T (B cls c_ e_) (n+1) 43 [wO c_ d_ wy] M Q E=Q (.int d_.length) M:=by
 simp[fP,bT,o_c]
theorem oo:aa T (B cls c_ e_) (n+2) 44 [wO c_ d_ wy,.int i] M Q E=Q (.bl (okH d_.length i)) M:=by
 simp[dJ,bb,okH];by_cases h0:0<=i
 ·simp[h0,o1,uN]
 ·simp[h0]
theorem ju:aa T (B cls c_ e_) (n+3) 41 [wO c_ d_ wy,.int i] M Q E=if okH d_.length i=true then Q .i_ M else False:=by
 simp[cq,aM];rw[o_m (f:=44) (by decide) (by decide) (by decide),oo]
 cases okH d_.length i<;>simp
theorem uS:∀{wy:List Wy},(getD (wy.map pr) (wy.map wv) k).isSome=decide (k∈wy.map pr)
 |[]=>by simp[getD]
 |w::r=>by
  have ih:=uS (k:=k) (wy:=r);simp only[Kn,getD];by_cases e:pr w=k
  ·simp[e]
  ·rw[Kj e,ih];simp[Kz e]
theorem Bo:aI .In (.tup [.int i,.int j]) (.I_ (wy.map pr) (wy.map wv)) M Q=Q (.bl (decide ([i,j]∈wy.map pr))) M:=by
 have e:=uS (k:=[i,j]) (wy:=wy);simp[aI,nW,aA,ak,dQ,dh,cU,iP,bJ,e]
theorem qc:aa T (B cls c_ e_) (n+1) 45 [wO c_ d_ wy,.int i,.int j] M Q E=Q (.bl (decide ([i,j]∈wy.map pr))) M:=by
 simp only[jg,bZ];simp[au,↓o_w,↓Bo]
end
section
variable {cls c_ e_:Nat->PySem.Addr}{M:MH}{Q:VK3}{E:XN}{n:Nat}{p q:PySem.Addr}{d_:List (Int×Int)}{wy:List Wy}
theorem jK:aa T (B cls c_ e_) (n+1) 0 [.int i] M Q E=Q (.bl true) M:=by
 simp[qZ,f9]
theorem Bh{a b:Int}{E:PySem.Addr->XN}(hM:Fm M):(∀p,M p=none->aa T (B cls c_ e_) (n+2) 2 [.ref p,.int a,.int b] (put M p (.ins 1 (c_ 1) [] [])) (λv M2=>v=.i_/\aY Q (.ref p) M2) (E p))=Q (.obj 1 (c_ 1) [211529960,456806758904562] [.int a,.int b]) M:=
 aC hM λp hp=>by simp[k8,dc,aO,ay,hp]
theorem yV{a b c d:Int}{E:PySem.Addr->XN}(hM:Fm M):(∀p,M p=none->aa T (B cls c_ e_) (n+2) 5 [.ref p,.int a,.int b,.int c,.int d] (put M p (.ins 2 (c_ 2) [] [])) (λv M2=>v=.i_/\aY Q (.ref p) M2) (E p))=Q (.obj 2 (c_ 2) [211529960,456806758904562,32709062885,213725420] [.int a,.int b,.int c,.int d]) M:=
 aC hM λp hp=>by simp[jD,cT,aO,ay,hp]
theorem B4{a b c:Int}{E:PySem.Addr->XN}(hM:Fm M):(∀p,M p=none->aa T (B cls c_ e_) (n+2) 8 [.ref p,.int a,.int b,.int c] (put M p (.ins 3 (c_ 3) [] [])) (λv M2=>v=.i_/\aY Q (.ref p) M2) (E p))=Q (.obj 3 (c_ 3) [211529960,456806758904562,14324] [.int a,.int b,.int c]) M:=
 aC hM λp hp=>by simp[lf,c9,aO,ay,hp]
theorem B6{a b:Int}{c:List D}{E:PySem.Addr->XN}(hM:Fm M):(∀p,M p=none->aa T (B cls c_ e_) (n+2) 11 [.ref p,.int a,.int b,.tup c] (put M p (.ins 4 (c_ 4) [] [])) (λv M2=>v=.i_/\aY Q (.ref p) M2) (E p))=Q (.obj 4 (c_ 4) [211529960,456806758904562,3944367338220] [.int a,.int b,.tup c]) M:=
 aC hM λp hp=>by simp[kZ,db,aO,ay,hp]
inductive Rw where
 |look (h r:Int)|Lx (h r e l:Int)|send (h r t:Int)|take (h r a b:Int)
def Rw.d:Rw->D
 |.look h r=>.tup [.str "look",.int h,.int r]
 |.Lx h r e l=>.tup [.str "sight",.int h,.int r,.int e,.int l]
 |.send h r t=>.tup [.str "send",.int h,.int r,.int t]
 |.take h r a b=>.tup [.str "take",.int h,.int r,.tup [.int a,.int b]]
def Rw.o(c_:Nat->PySem.Addr):Rw->D
 |.look h r=>.obj 1 (c_ 1) [211529960,456806758904562] [.int h,.int r]
 |.Lx h r e l=>.obj 2 (c_ 2) [211529960,456806758904562,32709062885,213725420] [.int h,.int r,.int e,.int l]
 |.send h r t=>.obj 3 (c_ 3) [211529960,456806758904562,14324] [.int h,.int r,.int t]
 |.take h r a b=>.obj 4 (c_ 4) [211529960,456806758904562,3944367338220] [.int h,.int r,.tup [.int a,.int b]]
theorem qP{ns:List Int}(hM:Fm M)(hl:ns.length<1000):aa T (B cls c_ e_) (n+2) 14 [.tup (ns.map D.int),.int k] M Q E=Q (.bl (decide ((ns.length:Int)=k))) M:=by
 simp[ny,eF];by_cases h:(ns.length:Int)=k
 ·simp[h,ax];rw[gN D.int (λ_=>true) (λ_=>.bl true) hM (by omega) (λ_ _ _ _ _=>rfl) (λi _ _ M' Ut Q'=>by simp[jK])]
  rw[rN (λ_=>true) (λ_ _=>rfl)]
  have:∀l:List Int,(l.all λ_=>true)=true:=λl=>KE.mpr λ_ _=>rfl
  simp[this]
 ·simp[h]
theorem CB(hM:Fm M):aa T (B cls c_ e_) (n+2) 14 [.tup [.int a,.int b],.int k] M Q E=Q (.bl (decide (2=k))) M:=qP (ns:=[a,b]) hM (by simp)
theorem Il(hM:Fm M):aa T (B cls c_ e_) (n+2) 14 [.tup [.int a,.int b,.int c],.int k] M Q E=Q (.bl (decide (3=k))) M:=qP (ns:=[a,b,c]) hM (by simp)
theorem ID(hM:Fm M):aa T (B cls c_ e_) (n+2) 14 [.tup [.int a,.int b,.int c,.int d],.int k] M Q E=Q (.bl (decide (4=k))) M:=qP (ns:=[a,b,c,d]) hM (by simp)
theorem wu(hM:Fm M):aa T (B cls c_ e_) (n+3) 15 [.tup [.int a,.int b]] M Q E=Q (.bl true) M:=by
 simp[pN,eY,CB hM]
theorem pX(r:Rw)(hM:Fm M):aa T (B cls c_ e_) (n+4) 16 [r.d] M Q E=Q (r.o c_) M:=by
 cases r with
 |look h r=>simp +decide [c6,bj,Rw.d,Rw.o,whole,HT.sIx,dq,CB hM,Bh hM,qV,tQ,tN]
 |Lx h r e l=>simp +decide [c6,bj,Rw.d,Rw.o,whole,HT.sIx,dq,ID hM,yV hM,qV,tQ,tN,xD]
 |send h r t=>simp +decide [c6,bj,Rw.d,Rw.o,whole,HT.sIx,dq,Il hM,B4 hM,qV,tQ,tN,xD]
 |take h r a b=>simp +decide [c6,bj,Rw.d,Rw.o,whole,HT.sIx,dq,CB hM,wu hM,B6 hM,qV,tQ,tN,xD]
end
section
variable {cls c_ e_:Nat->PySem.Addr}{M:MH}{Q:VK3}{E:XN}{n:Nat}{p q a b d:PySem.Addr}{d_:List (Int×Int)}{wy:List Wy}
def Rw.h:Rw->Int
 |.look h _=>h
 |.Lx h _ _ _=>h
 |.send h _ _=>h
 |.take h _ _ _=>h
def Rw.r:Rw->Int
 |.look _ r=>r
 |.Lx _ r _ _=>r
 |.send _ r _=>r
 |.take _ r _ _=>r
variable {r:Rw}
theorem Di:d7 (B cls c_ e_) 211529960 (r.o c_) M Q=Q (.int r.h) M:=by
 cases r<;>simp[Rw.o,Rw.h]
theorem Bv:d7 (B cls c_ e_) 456806758904562 (r.o c_) M Q=Q (.int r.r) M:=by
 cases r<;>simp[Rw.o,Rw.r]
theorem vM:ar r.d (.int 1) M Q=Q (.int r.h) M:=by cases r<;>simp[Rw.d,Rw.h]
theorem DD:ar r.d (.int 2) M Q=Q (.int r.r) M:=by cases r<;>simp[Rw.d,Rw.r]
theorem zA{ks:List Key}(hM:M a=some (.dk ks ds))(hz:ks.length<1000)(hc:(getD ks ds (.inl h)).getD (.int 0)=.int c) :
  aa T (B cls c_ e_) (n+1) 17 [.ref a,.int h] M Q E=Q (.tup [.int h,.int c]) (put M a (.dk (aj ks (.inl h)) (ao ks ds (.inl h) (.int (c+1))))):=by
 have hs:ks.length<PySem.sizeLine:=Kv hz (by decide)
 simp[qa,fX,vR hM,tG hM,hc,pS hM,hs,jF hM,au]
def bump(c:Int->Nat)(h:Int):Int->Nat:=λx=>if x=h then c x+1 else c x
def nmF:List Int->(Int->Nat)->List (Int×Nat)
 |[],_=>[]
 |h::hs,c=>(h,c h)::nmF hs (bump c h)
def nD(p:Int×Nat):D:=.tup [.int p.1,.int p.2]
theorem oJ{ks:List Key}{ds:List D}(hl:ks.length=ds.length)(hc:∀h,(getD ks ds (.inl h)).getD (.int 0)=.int (c h))(x:Int):(getD (aj ks (.inl h)) (ao ks ds (.inl h) (.int (c h+1))) (.inl x)).getD (.int 0)=.int (bump c h x):=by
 rw[be hl];by_cases e:h=x
 ·subst e;simp[bump]
 ·have e2:¬ ((Sum.inl h:Key)=Sum.inl x):=λz=>e (Sum.inl.inj z)
  rw[Kj e2,hc x];simp[bump,Kz e]
theorem gD{a b:PySem.Addr}(C_:a≠b){M0:MH}{De:Ends3}{ES:St3->XN}{R:Prop}{log:Option D}{S:MH->Prop}(hS:∀ks ds acc,S (put (put M0 a (.dk ks ds)) b (.lst acc))):∀(rs:List Rw)(ks:List Key)(ds acc:List D)(c:Int->Nat)(x3:Option D),ks.length=ds.length->ks.length+rs.length<500->acc.length+rs.length<500->(∀h,(getD ks ds (.inl h)).getD (.int 0)=.int (c h))->
  (∀LK D_ x,De.nx [log,some (.ref a),some (.ref b),x] (put (put M0 a (.dk LK D_)) b (.lst (acc++(nmF (rs.map Rw.h) c).map nD)))=R)->
  aP ⟨(B cls c_ e_),aa T (B cls c_ e_) (n+1)⟩ (.name 3) dX ES S De (rs.map Rw.d) [log,some (.ref a),some (.ref b),x3] (put (put M0 a (.dk ks ds)) b (.lst acc))=R
 |[],ks,ds,acc,c,x3,_,_,_,_,hR=>by
  have:=hR ks ds x3;simp[nmF]at this;simp[aV,this,hS]
 |r::rs,ks,ds,acc,c,x3,hl,h1,h2,hc,hR=>by
  have ha:(put (put M0 a (.dk ks ds)) b (.lst acc)) a=some (.dk ks ds):=by rw[ae C_,ac]
  simp only[Ky]at h1 h2;have hs:acc.length<PySem.sizeLine:=Kv (show acc.length<1000 by omega) (by decide)
  have ih:=gD C_ (M0:=M0) (De:=De) (ES:=ES) (R:=R) (log:=log) hS rs (aj ks (.inl r.h)) (ao ks ds (.inl r.h) (.int (c r.h+1))) (acc++[nD (r.h,c r.h)]) (bump c r.h) (some r.d) (cA hl) (by have:=bO (ks:=ks) (k:=(.inl r.h:Key));omega) (by simp;omega) (oJ hl hc) (by
    intro LK D_ x;have:=hR LK D_ x;simpa [nmF] using this)
  rw[Kn,aD];simp[dX,↓vM,zA (n:=n) ha (by omega) (hc r.h),dM C_,hs,hS]
  simpa [nD,dX] using ih
def Lg(M:MH)(x:D)(ds:List D):Prop:=x=.g_ ds\/∃p,x=.ref p/\M p=some (.lst ds)
theorem sh(rs:List Rw)(hp:Lg M x (rs.map Rw.d))(hl:rs.length<400)(hM:Fm M):aa T (B cls c_ e_) (n+2) 18 [x] M Q E=Q (.g_ ((nmF (rs.map Rw.h) λ_=>0).map nD)) M:=by
 simp only[yE];simp;refine iff_of_eq (aC hM λa ha=>?_)
 simp;refine iff_of_eq (aC (hM.put _ _) λb hb=>?_)
 obtain⟨C_,hb⟩:=bX hb;rcases hp with rfl|⟨p,rfl,hp⟩
 ·rw[vG];refine gD (Kz C_) (λ_ _ _=>trivial) rs [] [] [] _ _ rfl (by simp;omega) (by simp;omega) (λh=>rfl) λLK D_ x=>?_
  simp[ha,hb,ae C_]
 ·have pa:p≠a:=λz=>by rw[z,ha]at hp;cases hp
  have pb:p≠b:=λz=>by rw[z,hb]at hp;cases hp
  have hw:∀ks ds acc,(put (put M a (.dk ks ds)) b (.lst acc)) p=some (.lst (rs.map Rw.d)):=λks ds acc=>by rw[ae pb,ae pa,hp]
  rw[wp (hw _ _ _)];refine gD (Kz C_) hw rs [] [] [] _ _ rfl (by simp;omega) (by simp;omega) (λh=>rfl) λLK D_ x=>?_
  simp[ha,hb,ae C_]
end
section
variable {r:Rw}{rs:List Rw}{wy:List Wy}
def Rw.s:Rw->PySem.Str
 |.look ..=>"look"
 |.Lx ..=>"sight"
 |.send ..=>"send"
 |.take ..=>"take"
def Rw.may(wy:List Wy):Rw->Prop
 |.send h _ t=>[h,t]∈wy.map pr
 |.take h _ a _=>[a,h]∈wy.map pr
 |_=>True
structure Rw.fine (H:Nat)(wy:List Wy)(r:Rw):Prop where
 h:okH H r.h=true
 w:r.may wy
 b : -(10 ^ 62)<=r.r/\r.r<=10 ^ 62
structure Ent where
 h:Int
 k:Int
 to:Int
 lo:Int
 hi:Option Int
def Ent.d(e:Ent):D:=.tup [.tup [.int e.h,.int e.k],.int e.to,.int e.lo,oi e.hi]
abbrev A3:=Int×Int×Int
def a3D(a:A3):D:=.tup [.int a.1,.int a.2.1,.int a.2.2]
structure TA (H:Nat)(wy:List Wy)(rs:List Rw)(at_:List A3)(sn:List Ent):Prop where
 f:∀r∈rs,r.fine H wy
 la:at_.length=H
 un:∀e∈sn,[e.h,e.to]∈wy.map pr/\0<=e.to/\e.to<H
 lt:∀e∈sn,∃k:Nat,e.h=k/\e.k<(at_.getD k (0,0,0)).1
 nd:(sn.map λe=>(e.h,e.k)).Nodup
theorem cQ{l:List α}(hk:k<l.length):(l.set k x).getD j d=if j=k then x else l.getD j d:=by
 rw[List.getD_eq_getElem?_getD,List.getD_eq_getElem?_getD];by_cases e:j=k
 ·subst e;simp[hk]
 ·rw[Lq (Kz e),Kj e]
theorem TA.plain{at_:List A3}(T:TA H wy rs at_ sn)(hk:k<H)(hr:r.fine H wy):TA H wy (rs++[r]) (at_.set k ((at_.getD k (0,0,0)).1+1,v,m)) sn:=by
 have Oz:k<at_.length:=by rw[T.la];exact hk
 refine⟨λx hx=>?_,by simp[T.la],T.un,λe he=>?_,T.nd⟩
 ·rcases KD.mp hx with z|z
  ·exact T.f x z
  ·rw[KF.mp z];exact hr
 ·obtain⟨j,e1,e2⟩:=T.lt e he;refine⟨j,e1,?_⟩;rw[cQ Oz];split
  ·rename_i z;rw[z]at e2;simp only;omega
  ·exact e2
theorem TA.send{at_:List A3}{e:Ent}(T:TA H wy rs at_ sn)(hk:k<H)(hr:(Rw.send k v e.to).fine H wy)(h0:0<=e.to)(h1:e.to<H)(eh:e.h=k)(ek:e.k=(at_.getD k (0,0,0)).1) :
  TA H wy (rs++[.send k v e.to]) (at_.set k ((at_.getD k (0,0,0)).1+1,v,m)) (sn++[e]):=by
 have Oz:k<at_.length:=by rw[T.la];exact hk
 have P:=T.plain (v:=v) (m:=m) hk hr;refine⟨P.f,P.la,λx hx=>?_,λx hx=>?_,?_⟩
 ·rcases KD.mp hx with z|z
  ·exact P.un x z
  ·rw[KF.mp z];have:[(k:Int),e.to]∈wy.map pr:=hr.w;exact⟨by rw[eh];exact this,h0,h1⟩
 ·rcases KD.mp hx with z|z
  ·exact P.lt x z
  ·rw[KF.mp z];refine⟨k,eh,?_⟩;rw[cQ Oz,Kp rfl,ek];simp only;omega
 ·rw[List.map_append,List.nodup_append];refine⟨T.nd,by simp,λp hp q hq z=>?_⟩
  obtain⟨x,hx,rfl⟩:=KJ.mp hp;have hq:q=(e.h,e.k):=by simpa using hq
  subst z;have q1:x.h=e.h:=congrArg Prod.fst hq;have q2:x.k=e.k:=congrArg Prod.snd hq;obtain⟨j,e1,e2⟩:=T.lt x hx;have:j=k:=by omega
  subst this;omega
theorem TA.take{at_:List A3}{e:Ent}(T:TA H wy rs at_ (L_++e::sn2))(hk:k<H)(hr:(Rw.take k v e.h e.k).fine H wy) :
  TA H wy (rs++[.take k v e.h e.k]) (at_.set k ((at_.getD k (0,0,0)).1+1,v,m)) (L_++sn2):=by
 have P:=T.plain (v:=v) (m:=m) hk hr;have sub:∀x∈L_++sn2,x∈L_++e::sn2:=λx hx=>by
  rcases KD.mp hx with z|z
  ·exact K2 _ z
  ·exact KI _ (Ki _ z)
 refine⟨P.f,P.la,λx hx=>P.un x (sub x hx),λx hx=>P.lt x (sub x hx),?_⟩
 have nd:=T.nd;rw[List.map_append,Kn,List.nodup_append,KN]at nd;rw[List.map_append,List.nodup_append];exact⟨nd.1,nd.2.1.2,λp hp q hq=>nd.2.2 p hp q (Ki _ hq)⟩
end
section
def lw:Nat->Int->Int->List Int
 |0,_,_=>[]
 |k+1,lo,x=>(x*x+48271*x+lo) % 10000000000000000000000000000000000000121::lw k (lo+1) ((x*x+48271*x+lo) % 10000000000000000000000000000000000000121)
theorem nc:∀(k:Nat)(lo x:Int),(lw k lo x).length=k
 |0,_,_=>rfl
 |k+1,lo,x=>by simp[lw,nc k]
theorem pW{De:Ends3}:∀(k:Nat)(lo x:Int)(acc:List Int)(x4:Option D),0<=x->x<100000000000000000000000000000000000000000->acc.length+k<500->
  (∀y x4,De.nx [x0,x1,some (.ref a),some (.int y),x4] (put M a (.lst ((acc++lw k lo x).map D.int)))=R)->
  aP W (.name 4) b8 ES (λ_=>True) De (rng lo k) [x0,x1,some (.ref a),some (.int x),x4] (put M a (.lst (acc.map D.int)))=R
 |0,lo,x,acc,x4,_,_,_,hR=>by
  have:=hR x x4;simp[lw]at this;simp[rng,aV,this]
 |k+1,lo,x,acc,x4,h0,h1,hl,hR=>by
  have c1:bI x x=True:=eX (by omega) (by omega) (by omega) (by omega)
  have c2:bI 48271 x=True:=eX (by omega) (by omega) (by omega) (by omega)
  have hs:acc.length<PySem.sizeLine:=Kv (show acc.length<1000 by omega) (by decide)
  have ih:=pW (W:=W) (ES:=ES) k (lo+1) ((x*x+48271*x+lo) % 10000000000000000000000000000000000000121) (acc++[(x*x+48271*x+lo) % 10000000000000000000000000000000000000121]) (some (.int lo)) (K9 _ (by decide)) (Int.lt_trans (K3 _ (by decide)) (by decide)) (by simp;omega) (λy x4=>by
   have:=hR y x4;simpa [lw] using this)
  rw[jX,aD];simp only[b8]at ih ⊢;simp[c1,c2,lH,hs];simpa using ih
def aS(c:Int)(m:Nat):List Int:=(lw (m+4) 0 (c % 10000000000000000000000000000000000000121+48271)).drop 4
theorem cO:(aS c m).length=m:=by simp[aS,nc]
theorem gI(hM:Fm M)(hm:m<100):aa T (B cls c_ e_) (n+1) 49 [.int c,.int (m:Nat)] M Q E=Q (.g_ ((aS c m).map D.int)) M:=by
 have hb:(m:Int)+4<4611686018427387904:=by omega
 have Tt : -4611686018427387904<=(m:Int)+4:=by omega
 simp only[nG,eA];simp;refine iff_of_eq (aC hM λp hp=>?_)
 simp[lH,hb,Tt];refine iff_of_eq (pW (m+4) 0 _ [] none (by omega) (by omega) (by simp;omega) λy x4=>?_)
 have ln:(lw (m+4) 0 (c % 10000000000000000000000000000000000000121+48271)).length=m+4:=nc _ _ _;have ec:dq ((lw (m+4) 0 (c % 10000000000000000000000000000000000000121+48271)).map D.int) (some 4) none=(aS c m).map D.int:=by
  unfold dq aS;have e4:HT.sIx ((lw (m+4) 0 (c % 10000000000000000000000000000000000000121+48271)).map D.int).length 0 (some 4)=4:=by
   rw[show (4:Int)=((4:Nat):Int) from rfl,HT.sIx_nat,Kr,ln];omega
  rw[e4,HT.sIx_none,Kr,ln,<-List.map_drop,<-List.map_take,List.take_of_length_le (by rw[List.length_drop,ln];omega)]
 have hz:(aS c m).length<=PySem.sizeLine:=by rw[cO,PySem.sizeLine_eq];omega
 simp[oX,ak,ac,ec,hz,gL hp]
end
section
theorem rL(a b c:Int)(i:Int)(h0:0<=i)(h3:i<3):∃x:Int,(x=a\/x=b\/x=c)/\∀{M:MH}{Q:VK3},ar (.g_ [.int a,.int b,.int c]) (.int i) M Q=Q (.int x) M:=by
 have:i=0\/i=1\/i=2:=by omega
 rcases this with rfl|rfl|rfl
 ·exact⟨a,.inl rfl,by intro M Q;simp⟩
 ·exact⟨b,.inr (.inl rfl),by intro M Q;simp⟩
 ·exact⟨c,.inr (.inr rfl),by intro M Q;simp⟩
theorem aK{l:List Int}(h:k<l.length):ar (.g_ (l.map D.int)) (.int (k:Nat)) M Q=Q (.int (l.getD k 0)) M:=by
 have e:(l.map D.int)[k]?=some (.int (l.getD k 0)):=by
  rw[Kt,KC h,List.getD_eq_getElem?_getD,KC h];rfl
 exact iV (cY e)
theorem DH{xs:List Int}(hl:3<=xs.length)(h0:1<=size)(h1:size<=10 ^ 30):∃(l:Int)(m:Option Int),nu l m=false/\l<=10 ^ 30/\(∀y,m=some y->y<=2*10 ^ 30)/\∀{n:Nat}{M:MH}{Q:VK3}{E:XN},aa T (B cls c_ e_) (n+1) 50 [.g_ (xs.map D.int),.int size] M Q E=Q (way l m) M:=by
 have i0:∀{M:MH}{Q:VK3},ar (.g_ (xs.map D.int)) (.int 0) M Q=Q (.int (xs.getD 0 0)) M:=λ{M Q}=>aK (k:=0) (by omega)
 have i1:∀{M:MH}{Q:VK3},ar (.g_ (xs.map D.int)) (.int 1) M Q=Q (.int (xs.getD 1 0)) M:=λ{M Q}=>aK (k:=1) (by omega)
 have i2:∀{M:MH}{Q:VK3},ar (.g_ (xs.map D.int)) (.int 2) M Q=Q (.int (xs.getD 2 0)) M:=λ{M Q}=>aK (k:=2) (by omega)
 generalize xs.getD 0 0=x0 at i0;generalize xs.getD 1 0=x1 at i1;generalize xs.getD 2 0=x2 at i2;have z:¬ size=0:=by omega
 have zp:0<size:=by omega
 have m0:=K9 x0 z;have m1:=K3 x0 zp;have m2:=K9 x2 z;have m3:=K3 x2 zp;obtain⟨l,Uu,RV⟩:=rL 0 1 (x0 % size) (x1 % 3) (by omega) (by omega)
 obtain⟨g,Uv,Tu⟩:=rL 0 1 (x2 % size) (x1 / 12 % 3) (by omega) (by omega)
 have l0:0<=l/\l<=10 ^ 30:=by omega
 by_cases h:x1 / 3 % 4=0
 ·refine⟨l,none,by simp[nu,l0.1],l0.2,(λy e=>by cases e),?_⟩
  intro n M Q E;simp only[lZ,fH];simp[↓i0,↓i1,z,zp,↓RV,cZ,h,way,au]
 ·refine⟨l,some (l+g),by simp[nu];omega,l0.2,(λy e=>by cases e;omega),?_⟩
  intro n M Q E;simp only[lZ,fH];simp[↓i0,↓i1,↓i2,zp,↓RV,↓Tu,cZ,h,way,au]
end
section
theorem sX(a b c d:Int)(i:Int)(h0:0<=i)(h3:i<4):∃x:Int,(x=a\/x=b\/x=c\/x=d)/\∀{M:MH}{Q:VK3},ar (.g_ [.int a,.int b,.int c,.int d]) (.int i) M Q=Q (.int x) M:=by
 have:i=0\/i=1\/i=2\/i=3:=by omega
 rcases this with rfl|rfl|rfl|rfl
 ·exact⟨a,.inl rfl,by intro M Q;simp⟩
 ·exact⟨b,.inr (.inl rfl),by intro M Q;simp⟩
 ·exact⟨c,.inr (.inr (.inl rfl)),by intro M Q;simp⟩
 ·exact⟨d,.inr (.inr (.inr rfl)),by intro M Q;simp⟩
def mI(c1 mo t0:Int)(lo:Option Int):Int:=match lo with
 |some l=>if mo+c1*t0<l then (l-mo+c1-1) / c1 else t0
 |none=>t0
def jc(c0 mo t:Int)(lo:Option Int):Int:=match lo with
 |some l=>if mo+c0*t<l then l else mo+c0*t
 |none=>mo+c0*t
def jh(c1 mo t:Int)(hi:Option Int):Int:=match hi with
 |some l=>if l<mo+c1*t then l else mo+c1*t
 |none=>mo+c1*t
def inB(B:Int)(o:Option Int):Prop:=∀y,o=some y->-B<=y/\y<=B
theorem Er{c1 mo t0 B:Int}{lo:Option Int}(h1:1<=c1)(h2:c1<=10 ^ 31)(t1:0<=t0)(t2:t0<=10 ^ 12)(b1:10 ^ 43<=B)(m1 : -B<=mo)(m2:mo<=B)(hl:inB B lo) :
  0<=mI c1 mo t0 lo/\c1*mI c1 mo t0 lo<=3*B/\mI c1 mo t0 lo<=3*B:=by
 have p0:c1*t0<=10 ^ 31*10 ^ 12:=Int.mul_le_mul h2 t2 t1 (by omega)
 have base:0<=t0/\c1*t0<=3*B/\t0<=3*B:=⟨t1,by omega,by omega⟩
 cases lo with
 |none=>exact base
 |some l=>
  obtain⟨l1,l2⟩:=hl l rfl;unfold mI;simp only;split
  ·rename_i K_;have hp:0<=c1*t0:=Int.mul_nonneg (by omega) t1
   have q0:0<=(l-mo+c1-1) / c1:=Int.ediv_nonneg (by omega) (by omega)
   have q1:c1*((l-mo+c1-1) / c1)<=l-mo+c1-1:=Int.mul_ediv_self_le (by omega)
   have q2:(l-mo+c1-1) / c1<=c1*((l-mo+c1-1) / c1):=by
    have:=Int.mul_le_mul_of_nonneg_right h1 q0;omega
   exact⟨q0,by omega,by omega⟩
  ·exact base
theorem Eo{c0 c1 mo t B:Int}{lo hi:Option Int}(h0:1<=c0)(h1:c0<=c1)(t0:0<=t)(ht:c1*t<=3*B)(m1 : -B<=mo)(m2:mo<=B)(hl:inB B lo)(hh:inB B hi) :
  (-B<=jc c0 mo t lo/\jc c0 mo t lo<=4*B)/\(-B<=jh c1 mo t hi/\jh c1 mo t hi<=4*B)/\(lo=none->hi=none->jc c0 mo t lo<=jh c1 mo t hi):=by
 have p0:0<=c0*t:=Int.mul_nonneg (by omega) t0
 have p1:c0*t<=c1*t:=Int.mul_le_mul_of_nonneg_right h1 t0;refine⟨?_,?_,λe1 e2=>?_⟩
 ·cases lo with
  |none=>unfold jc;simp only;omega
  |some l=>obtain⟨l1,l2⟩:=hl l rfl;unfold jc;simp only;split<;>omega
 ·cases hi with
  |none=>unfold jh;simp only;omega
  |some l=>obtain⟨l1,l2⟩:=hh l rfl;unfold jh;simp only;split<;>omega
 ·subst e1 e2;unfold jc jh;simp only;omega
structure LagR (c0 c1 mo t f l:Int)(lo hi:Option Int):Prop where
 f0:mo+c0*t<=f
 l0:l<=mo+c1*t
 fl:∀y,lo=some y->y<=f
 lh:∀y,hi=some y->l<=y
theorem DE{lo:Option Int}:LagR c0 c1 mo t (jc c0 mo t lo) (jh c1 mo t hi) lo hi:=by
 refine⟨?_,?_,λy e=>?_,λy e=>?_⟩
 ·cases lo<;>unfold jc<;>simp only<;>(try split)<;>omega
 ·cases hi<;>unfold jh<;>simp only<;>(try split)<;>omega
 ·subst e;unfold jc;simp only;split<;>omega
 ·subst e;unfold jh;simp only;split<;>omega
abbrev g3:ISs:=match dU with
 |.cons _ (.cons _ r)=>r
 |r=>r
theorem qM{De:Ends3}{lo:Option Int}(e:u=oi lo)(k1:bI c0 t=True)(k2:bI c1 t=True):aR W g3 De ES [some (.tup [.int c0,.int c1]),some (.tup [.int cnt,.int rd,.int mo]),some x,some u,some (oi hi),some (.int t),none,none] M=De.rt (.tup [.int t,.int (jc c0 mo t lo),.int (jh c1 mo t hi)]) M:=by
 subst e;simp only[g3,dU];cases lo<;>cases hi with
 |none=>simp[k1,k2,D.isN,jc,jh,au]
 |some y=>by_cases hy:y<mo+c1*t<;>simp[k1,k2,hy,D.isN,jc,jh,au]
theorem Fw{c0 c1 cnt rd mo B:Int}{xs:List Int}{lo hi:Option Int}(hx:3<=xs.length)(h0:1<=c0)(h1:c0<=c1)(h2:c1<=10 ^ 31)(b1:10 ^ 43<=B)(b2:B<=10 ^ 60)(m1 : -B<=mo)(m2:mo<=B)(hl:inB B lo)(hh:inB B hi) :
  ∃t f l:Int,0<=t/\t<=3*B/\(-B<=f/\f<=4*B)/\(-B<=l/\l<=4*B)/\(lo=none->hi=none->f<=l)/\LagR c0 c1 mo t f l lo hi/\∀{n:Nat}{M:MH}{Q:VK3}{E:XN},aa T (G.B cls c_ e_) (n+1) 53 [.tup [.int c0,.int c1],.tup [.int cnt,.int rd,.int mo],.g_ (xs.map D.int),oi lo,oi hi] M Q E=Q (.tup [.int t,.int f,.int l]) M:=by
 have i1:∀{M:MH}{Q:VK3},ar (.g_ (xs.map D.int)) (.int 1) M Q=Q (.int (xs.getD 1 0)) M:=λ{M Q}=>aK (k:=1) (by omega)
 have i2:∀{M:MH}{Q:VK3},ar (.g_ (xs.map D.int)) (.int 2) M Q=Q (.int (xs.getD 2 0)) M:=λ{M Q}=>aK (k:=2) (by omega)
 generalize xs.getD 1 0=x1 at i1;generalize xs.getD 2 0=x2 at i2;obtain⟨t0,Uw,Q5⟩:=sX 0 1 (x1 % 5) (x1 % 1000000000000) (x2 % 4) (by omega) (by omega)
 have t1:0<=t0/\t0<=10 ^ 12:=by omega
 obtain⟨a1,a2,a3⟩:=Er (by omega) h2 t1.1 t1.2 b1 m1 m2 hl
 obtain⟨d1,d2,d3⟩:=Eo h0 h1 a1 a2 m1 m2 hl hh;refine⟨_,_,_,a1,a3,d1,d2,d3,DE,?_⟩;intro n M Q E;have k0:bI c1 t0=True:=eX (by omega) (by omega) (by omega) (by omega)
 have k1:bI c0 (mI c1 mo t0 lo)=True:=eX (by omega) (by omega) (by omega) (by omega)
 have k2:bI c1 (mI c1 mo t0 lo)=True:=eX (by omega) (by omega) (by omega) (by omega)
 have z:¬ c1=0:=by omega
 have zp:0<c1:=by omega
 rw[t7,show dU=.cons _ (.cons _ g3) from rfl];cases lo with
 |none=>
  simp only[mI]at k1 k2 ⊢;simp[↓i1,↓i2,↓Q5,lH,D.isN,au,↓qM (lo:=none) (u:=.i_) rfl k1 k2]
 |some l=>
  by_cases K_:mo+c1*t0<l
  ·simp only[mI,Kp K_]at k1 k2 ⊢;obtain⟨l1,l2⟩:=hl l rfl;have kd:mf (l-mo+c1-1) c1=True:=cZ zp (by omega)
   simp[↓i1,↓i2,↓Q5,lH,k0,kd,K_,zp,D.isN,au,↓qM (lo:=some l) (u:=.int l) rfl k1 k2]
  ·simp only[mI,Kj K_]at k1 k2 ⊢;simp[↓i1,↓i2,↓Q5,lH,k0,K_,D.isN,au,↓qM (lo:=some l) (u:=.int l) rfl k1 k2]
end
section
variable {cls c_ e_:Nat->PySem.Addr}{M:MH}{Q:VK3}{E:XN}{n:Nat}{wy:List Wy}{d_:List (Int×Int)}
theorem Aa{l:List Int}{i:Int}(h0:0<=i)(h1:i<l.length):∃x∈l,∀{M:MH}{Q:VK3},ar (.g_ (l.map D.int)) (.int i) M Q=Q (.int x) M:=by
 obtain⟨k,rfl⟩:=Le h0;have hk:k<l.length:=by omega
 exact⟨l.getD k 0,by rw[List.getD_eq_getElem?_getD,KC hk];exact K7 hk,aK hk⟩
structure WS (H:Nat)(i j:Nat)(wy:List Wy):Prop where
 nd:(wy.map pr).Nodup
 gd:∀w∈wy,w.good H
 sm:∀w∈wy,w.l<=10 ^ 30/\∀y,w.m=some y->y<=2*10 ^ 30
 lo:∀w∈wy,w.i<i\/(w.i=i/\w.j<j)
theorem WS.skip(W:WS H i j wy):WS H i (j+1) wy:=⟨W.nd,W.gd,W.sm,λw hw=>by rcases W.lo w hw with h|h;exact .inl h;exact .inr ⟨h.1,by omega⟩⟩
theorem WS.row{H i j:Nat}(W:WS H i j wy):WS H (i+1) 0 wy:=⟨W.nd,W.gd,W.sm,λw hw=>.inl (by have:=W.lo w hw;omega)⟩
theorem WS.new(W:WS H i j wy)(hi:i<H)(hj:j<H)(P0:i≠j)(hl:nu l m=false)(hs:l<=10 ^ 30/\∀y,m=some y->y<=2*10 ^ 30):WS H i (j+1) (wy++[⟨i,j,l,m⟩])/\[(i:Int),(j:Int)]∉wy.map pr:=by
 have hn:[(i:Int),(j:Int)]∉wy.map pr:=λz=>by
  obtain⟨w,hw,e⟩:=KJ.mp z;simp only[pr,List.cons.injEq]at e;rcases W.lo w hw with h|h<;>omega
 have al:∀{P:Wy->Prop},(∀w∈wy,P w)->P ⟨i,j,l,m⟩->∀w∈wy++[⟨i,j,l,m⟩],P w:=λh1 h2 w hw=>by
  rcases KD.mp hw with h|h
  ·exact h1 w h
  ·obtain rfl:=KF.mp h;exact h2
 refine⟨⟨?_,al W.gd ⟨by simp[okH,hi],by simp[okH,hj],λz=>P0 (by have:(i:Int)=j:=z;omega),hl⟩,al W.sm hs,al (λw hw=>?_) (.inr ⟨rfl,by simp;omega⟩)⟩,hn⟩
 ·rw[List.map_append,List.nodup_append];refine⟨W.nd,by simp,λa ha b hb=>?_⟩
  simp only[Kn,List.map_nil,KF]at hb;subst hb;exact λz=>hn (by have:a=[(i:Int),(j:Int)]:=z;rw[<-this];exact ha)
 ·have:=W.lo w hw;omega
theorem pq{ks:List (List Int)}(h:M b=some (.dt ks ds))(hz:ks.length<1000):az (.ref b) (.tup [.int i,.int j]) y M R=R (put M b (.dt (aj ks [i,j]) (ao ks ds [i,j] y))):=by
 have hs:ks.length<PySem.sizeLine:=Kv hz (by decide)
 simp[az,h,iP,bJ,hs]
theorem pH{H one:Nat}{size c:Int}{M0:MH}(Pr:Fm M0)(s0:1<=size)(s1:size<=10 ^ 30)(hH:H<=6)(ho:one<H){a b:PySem.Addr}{cl:List D}{De:Ends3}{ES:St3->XN}{y1 y2 y7:Option D}:∀(k j:Nat)(wy:List Wy)(x8 x9:Option D),j+k=H->wy.length+k<400->WS H one j wy->
  (∀(Mj:List Wy) x8 x9,Mj.length<=wy.length+k->WS H (one+1) 0 Mj->De.nx [some (.int c),y1,y2,some (.int size),some (.ref a),some (.ref b),some (.int one),y7,x8,x9] (put (put M0 a (.lst cl)) b (.dt (Mj.map pr) (Mj.map wv))))->
  aP ⟨(B cls c_ e_),aa T (B cls c_ e_) (n+1)⟩ (.name 8) bG ES (λ_=>True) De (rng j k) [some (.int c),y1,y2,some (.int size),some (.ref a),some (.ref b),some (.int one),y7,x8,x9] (put (put M0 a (.lst cl)) b (.dt (wy.map pr) (wy.map wv)))
 |0,j,wy,x8,x9,h1,h2,hW,hR=>by
  show aP _ _ _ _ _ _ [] _ _;rw[aV];exact⟨trivial,hR wy _ _ (by omega) hW.row⟩
 |k+1,j,wy,x8,x9,h1,h2,hW,hR=>by
  have fm:Fm (put (put M0 a (.lst cl)) b (.dt (wy.map pr) (wy.map wv))):=(Pr.put _ _).put _ _;have st:∀{Q:VK3}{E:XN},aa T (B cls c_ e_) (n+1) 49 [.int (c+7*(one:Int)+43*(j:Int)+1),.int 4] (put (put M0 a (.lst cl)) b (.dt (wy.map pr) (wy.map wv))) Q E=Q (.g_ ((aS (c+7*(one:Int)+43*(j:Int)+1) 4).map D.int)) (put (put M0 a (.lst cl)) b (.dt (wy.map pr) (wy.map wv))):=λ{Q E}=>gI (m:=4) fm (by omega)
  have hl:(aS (c+7*(one:Int)+43*(j:Int)+1) 4).length=4:=cO;generalize aS (c+7*(one:Int)+43*(j:Int)+1) 4=ys at st hl;have i3:∀{M:MH}{Q:VK3},ar (.g_ (ys.map D.int)) (.int 3) M Q=Q (.int (ys.getD 3 0)) M:=λ{M Q}=>aK (k:=3) (by omega)
  generalize ys.getD 3 0=y at i3;obtain⟨l,m,hb,b1,b2,cw⟩:=DH (cls:=cls) (c_:=c_) (e_:=e_) (xs:=ys) (by omega) s0 s1
  have Tv:∀{M:MH}{Q:VK3}{E:XN},aa T (B cls c_ e_) (n+1) 50 [.g_ (ys.map D.int),.int size] M Q E=Q (way l m) M:=cw;have c7:bI 7 (one:Int)=True:=eX (by decide) (by decide) (by omega) (by omega)
  have c8:bI 43 (j:Int)=True:=eX (by decide) (by decide) (by omega) (by omega)
  rw[jX,aD];refine⟨trivial,?_⟩;have nx:=λ(Mj:List Wy) (hw:Mj.length<=wy.length+1) (Q6:WS H one (j+1) Mj) (x8 x9:Option D)=>pH Pr s0 s1 hH ho (c:=c) (a:=a) (b:=b) (cl:=cl) (De:=De) (ES:=ES) (y1:=y1) (y2:=y2) (y7:=y7) k (j+1) Mj x8 x9 (by omega) (by omega) Q6 (λw2 a b RW Pt=>hR w2 a b (by omega) Pt)
  push_cast at nx
  generalize aP ⟨(B cls c_ e_),aa T (B cls c_ e_) (n+1)⟩ (.name 8) bG ES (λ_=>True) De (rng ((j:Int)+1) k)=K at nx ⊢
  simp only[bG];by_cases c1:one=j
  ·subst c1;simp[c7,c8,↓st];exact nx wy (by omega) hW.skip _ _
  ·have RX:¬ (one:Int)=(j:Int):=λz=>c1 (by omega)
   by_cases c2:0<y % 6
   ·obtain⟨Pt,MV⟩:=hW.new ho (by omega) c1 hb ⟨b1,b2⟩
    have go:∀{R:MH->Prop},az (.ref b) (.tup [.int one,.int j]) (way l m) (put (put M0 a (.lst cl)) b (.dt (wy.map pr) (wy.map wv))) R=R (put (put M0 a (.lst cl)) b (.dt ((wy++[(⟨one,j,l,m⟩:Wy)]).map pr) ((wy++[(⟨one,j,l,m⟩:Wy)]).map wv))):=λ{R}=>by
     rw[pq ac (by simp;omega),jM MV,j4 (by simp) MV,ba]
     simp[pr,wv]
    simp[c7,c8,↓st,RX,↓i3,c2,↓Tv,au,↓go];have:=nx (wy++[⟨one,j,l,m⟩]) (by simp) Pt (some (.int j)) (some (.g_ (ys.map D.int)))
    rw[List.map_append,List.map_append]at this;exact this
   ·simp[c7,c8,↓st,RX,↓i3,c2];exact nx wy (by omega) hW.skip _ _
theorem mz{xs:List Int}{c size:Int}{M0:MH}(Pr:Fm M0)(hl:xs.length=8)(s0:1<=size)(s1:size<=10 ^ 30){H:Nat}(hH:H<=6){a b:PySem.Addr}(C_:a≠b){De:Ends3}{ES:St3->XN}:∀(k j:Nat) (d_:List (Int×Int)) (wy:List Wy)(x6 x7 x8 x9:Option D),j+k=H->d_.length=j->wy.length<=j*6->(∀c∈d_,mJ c=false/\c.2<=10 ^ 31)->WS H j 0 wy->
  (∀(OA:List (Int×Int)) (Mj:List Wy) x6 x7 x8 x9,OA.length=H->Mj.length<=36->(∀c∈OA,mJ c=false/\c.2<=10 ^ 31)->WS H H 0 Mj->De.nx [some (.int c),some (.g_ (xs.map D.int)),some (.int H),some (.int size),some (.ref a),some (.ref b),x6,x7,x8,x9] (put (put M0 a (.lst (OA.map cD))) b (.dt (Mj.map pr) (Mj.map wv))))->
  aP ⟨(B cls c_ e_),aa T (B cls c_ e_) (n+1)⟩ (.name 6) bx ES (λ_=>True) De (rng j k) [some (.int c),some (.g_ (xs.map D.int)),some (.int H),some (.int size),some (.ref a),some (.ref b),x6,x7,x8,x9] (put (put M0 a (.lst (d_.map cD))) b (.dt (wy.map pr) (wy.map wv)))
 |0,j,d_,wy,x6,x7,x8,x9,h1,h2,h3,hc,hW,hR=>by
  show aP _ _ _ _ _ _ [] _ _;rw[aV];have e:j=H:=by omega
  subst e;exact⟨trivial,hR d_ wy _ _ _ _ h2 (by omega) hc hW⟩
 |k+1,j,d_,wy,x6,x7,x8,x9,h1,h2,h3,hc,hW,hR=>by
  have i2:∀{M:MH}{Q:VK3},ar (.g_ (xs.map D.int)) (.int (2+(j:Int))) M Q=Q (.int (xs.getD (2+j) 0)) M:=λ{M Q}=>by
   have:=aK (M:=M) (Q:=Q) (l:=xs) (k:=2+j) (by omega)
   push_cast at this
   exact this
  have i7:∀{M:MH}{Q:VK3},ar (.g_ (xs.map D.int)) (.int (7-(j:Int))) M Q=Q (.int (xs.getD (7-j) 0)) M:=λ{M Q}=>by
   rw[show (7-(j:Int))=((7-j:Nat):Int) by omega]
   exact aK (by omega)
  generalize xs.getD (2+j) 0=x at i2;generalize xs.getD (7-j) 0=y at i7;have z:¬ size=0:=by omega
  have zp:0<size:=by omega
  have q0:=K9 (x / 3) z;have q1:=K3 (x / 3) zp;have q2:=K9 y z;have q3:=K3 y zp;obtain⟨g,hg,gx⟩:=rL 0 1 (y % size) (x % 3) (by omega) (by omega)
  have hs:d_.length<PySem.sizeLine:=Kv (show d_.length<1000 by omega) (by decide)
  have ha:(put (put M0 a (.lst (d_.map cD))) b (.dt (wy.map pr) (wy.map wv))) a=some (.lst (d_.map cD)):=by rw[ae C_,ac]
  have Q7:(H:Int)<4611686018427387904:=by omega
  have Q8:∀{e:IE}{OB:Ends3}{E':XN}{Z:St3}{W:WC},lu W e OB E' Z (.ref a) (put (put M0 a (.lst (d_.map cD))) b (.dt (wy.map pr) (wy.map wv)))=wpE W e Z (put (put M0 a (.lst (d_.map cD))) b (.dt (wy.map pr) (wy.map wv))) (bW a OB Z) E':=by
   intro e OB E' Z W;simp[lu,ha];exact Iff.rfl
  have Pu:∀{y:D}{OB:Ends3}{Z:St3},bW a OB Z y (put (put M0 a (.lst (d_.map cD))) b (.dt (wy.map pr) (wy.map wv)))=(d_.length<PySem.sizeLine/\OB.nx Z (put (put M0 a (.lst (d_.map cD++[y]))) b (.dt (wy.map pr) (wy.map wv)))):=by
   intro y OB Z;simp[bW,ha,dM C_]
  rw[jX,aD];refine⟨trivial,?_⟩;have nx:=λ(Mj:List Wy) (hw:Mj.length<=(j+1)*6) (Q6:WS H (j+1) 0 Mj) (x8 x9:Option D)=>mz (c:=c) Pr hl s0 s1 hH C_ (De:=De) (ES:=ES) k (j+1) (d_++[(1+x / 3 % size,1+x / 3 % size+g)]) Mj (some (.int j)) (some (.int (1+x / 3 % size))) x8 x9 (by omega) (by simp;omega) hw (λc PL=>by
   rcases KD.mp PL with h|h
   ·exact hc c h
   ·obtain rfl:=KF.mp h;exact⟨by simp[mJ];omega,by simp only;omega⟩) Q6 hR
  push_cast at nx
  generalize aP ⟨(B cls c_ e_),aa T (B cls c_ e_) (n+1)⟩ (.name 6) bx ES (λ_=>True) De (rng ((j:Int)+1) k)=K at nx ⊢
  simp only[bx];simp[↓i2,↓i7,↓gx,z,zp,cZ,↓Q8,↓Pu,au,hs,Q7];have key:=pH (cls:=cls) (c_:=c_) (e_:=e_) (n:=n) (c:=c) Pr s0 s1 hH (one:=j) (by omega) (a:=a) (b:=b) (cl:=(d_++[(1+x / 3 % size,1+x / 3 % size+g)]).map cD) (De:={De with nx:=K,ct:=K,bk:=De.nx}) (ES:=ES) (y1:=some (.g_ (xs.map D.int))) (y2:=some (.int H)) (y7:=some (.int (1+x / 3 % size))) H 0 wy x8 x9 (by omega) (by omega) hW (λMj x8 x9 hw Pt=>nx Mj (by omega) Pt _ _)
  simpa [cD] using key
structure GW (d_:List (Int×Int)) (wy:List Wy):Prop where
 l1:1<=d_.length
 l6:d_.length<=6
 w36:wy.length<=36
 ck:∀c∈d_,mJ c=false/\c.2<=10 ^ 31
 nd:(wy.map pr).Nodup
 gd:∀w∈wy,w.good d_.length
 sm:∀w∈wy,w.l<=10 ^ 30/\∀y,w.m=some y->y<=2*10 ^ 30
theorem zG{c:Int}(hM:Fm M)(h:∀(d_:List (Int×Int)) (wy:List Wy),GW d_ wy->Q (.tup [.g_ (d_.map cD),.I_ (wy.map pr) (wy.map wv)]) M):aa T (B cls c_ e_) (n+2) 51 [.int c] M Q E:=by
 have st:∀{M:MH}{Q:VK3}{E:XN},Fm M->aa T (B cls c_ e_) (n+1) 49 [.int c,.int 8] M Q E=Q (.g_ ((aS c 8).map D.int)) M:=λ{M Q E} fm=>gI (m:=8) fm (by omega)
 have hl:(aS c 8).length=8:=cO;generalize aS c 8=xs at st hl;have i0:∀{M:MH}{Q:VK3},ar (.g_ (xs.map D.int)) (.int 0) M Q=Q (.int (xs.getD 0 0)) M:=λ{M Q}=>aK (k:=0) (by omega)
 have i1:∀{M:MH}{Q:VK3},ar (.g_ (xs.map D.int)) (.int 1) M Q=Q (.int (xs.getD 1 0)) M:=λ{M Q}=>aK (k:=1) (by omega)
 generalize xs.getD 0 0=x0 at i0;generalize xs.getD 1 0=x1 at i1;obtain⟨H0,Tw,hx⟩:=Aa (l:=[1,2,2,3,3,4,5,6]) (i:=x0 % 8) (by omega) (by simp;omega)
 have MM:∀{M:MH}{Q:VK3},ar (.g_ [.int 1,.int 2,.int 2,.int 3,.int 3,.int 4,.int 5,.int 6]) (.int (x0 % 8)) M Q=Q (.int H0) M:=hx;obtain⟨size,Ux,hz⟩:=sX 3 100 1000000000 1000000000000000000000000000000 (x1 % 4) (by omega) (by omega)
 have Uy:1<=H0/\H0<=6:=by simp at Tw;omega
 obtain⟨H,rfl⟩:∃H:Nat,H0=H:=⟨H0.toNat,by omega⟩
 have Tx:H<=6:=by omega
 have Q7:(H:Int)<4611686018427387904:=by omega
 simp only[pL,fw];simp[st hM,↓i0,↓i1,↓MM,↓hz,lH,au,Q7];intro a ha b hb;obtain⟨Pw,hb⟩:=bX hb;refine mz hM hl (by omega) (by omega) Tx (Kz Pw) H 0 [] [] none none none none (by omega) rfl (by simp) (λc hc=>by cases hc) ⟨by simp,λw hw=>(by cases hw),λw hw=>(by cases hw),λw hw=>(by cases hw)⟩ (λd_ wy x6 x7 x8 x9 l1 l2 l3 l4=>?_)
 have e1:(put (put M a (.lst (d_.map cD))) b (.dt (wy.map pr) (wy.map wv))) a=some (.lst (d_.map cD)):=by rw[ae (Kz Pw),ac]
 simp[aY,e1,wW ha Pw,ac,gT hb,au];exact h d_ wy ⟨by omega,by omega,l2,l3,l4.nd,by rw[l1];exact l4.gd,l4.sm⟩
theorem Ct(G:GW d_ wy)(hM:Fm M):aa T (B cls c_ e_) (n+7) 52 [.tup [.g_ (d_.map cD),.I_ (wy.map pr) (wy.map wv)]] M Q E=Q (wO c_ d_ wy) M:=by
 have hz:d_.length<=PySem.sizeLine:=KB (show d_.length<=1000 by have:=G.l6;omega) (by decide)
 have cm:∀{W:WC}{Q:VK3},gS W (.tup [0,1]) .no (.bin .Add (.var 0) (.var 1)) (λ_=>True) Q (aw (wy.map pr) (wy.map wv)) [none,none] M=Q (.g_ (wy.map wD)) M:=λ{W Q}=>by
  rw[show aw (wy.map pr) (wy.map wv)=wy.map λw=>.tup [.tup [.int w.i,.int w.j],wv w] by unfold aw;rw[List.zip_map',List.map_map];rfl,
   cz _ (λZ=>∃a b,Z=[a,b]) (λw=>[some (.tup [.int w.i,.int w.j]),some (wv w)]) (λ_=>true) wD ⟨_,_,rfl⟩ hM (by have:=G.w36;omega) (λw _=>⟨⟨_,_,rfl⟩,λZ ⟨a,b,e⟩ M k=>by
    subst e;simp⟩) (λ_ _ _ _ _=>rfl) (λw _ _ M' hE Q=>by simp[wv,way,wD,au]),List.filter_eq_self.mpr (λ_ _=>rfl)]
 simp only[qE,gy];simp[ax,↓cm,hz];refine iff_of_eq ((zy (E:=λi M'=>E i (av M M')) hM G.l1 G.l6 (λc hc=>(G.ck c hc).1) (by have:=G.w36;omega) G.gd G.nd).trans ?_)
 simp
end
section
variable {wy:List Wy}{d_:List (Int×Int)}
theorem vH:∀{wy:List Wy},(wy.map pr).Nodup->w∈wy->getD (wy.map pr) (wy.map wv) (pr w)=some (wv w)
 |v::r,hn,h=>by
  rw[Kn,KN]at hn;simp only[Kn,getD];rcases Kq.mp h with rfl|h
  ·rw[Kp rfl]
  ·rw[Kj (λz=>hn.1 (by rw[z];exact List.mem_map_of_mem h)),vH hn.2 h]
theorem qC{w:Wy}(hn:(wy.map pr).Nodup)(h:w∈wy):ar (.I_ (wy.map pr) (wy.map wv)) (.tup [.int w.i,.int w.j]) M Q=Q (wv w) M:=by
 have e:=vH hn h;simp only[pr]at e;simp[ar,aA,ak,dQ,dh,cU,iP,bJ,e]
theorem m6{ds:List D}(hx:ak M x=some ds)(h7:ds.all (plN 7)=true)(h8:ds.all (plN 8)=true):aI .NotEq x (.g_ []) M Q=Q (.bl (!ds.isEmpty)) M:=by
 have e:rs M x=.g_ ds:=by unfold rs;rw[hx];simp only[h8,if_true]
 have p:pl (.g_ ds)=true:=h7;have e2:rs M (.g_ [])=.g_ []:=rfl;show jd true x (.g_ []) M Q=_;unfold jd;rw[e,e2,p];cases ds<;>simp[plN,eqD,bU]
def lg(wy:List Wy)(h:Int):List Int:=(wy.filter λw=>decide (w.i=h)).map Wy.j
theorem EH(hM:Fm M)(hl:wy.length<=36):gS W (.name 0) (.yes (.cmp .Eq (.ix (.var 0) (.con (.int 0))) (.var 1))) (.ix (.var 0) (.con (.int 1))) (λ_=>True) Q ((wy.map pr).map bR) [none,some (.int h)] M=Q (.g_ ((lg wy h).map D.int)) M:=by
 rw[List.map_map,gN (bR∘pr) (λw=>decide (w.i=h)) (λw=>.int w.j) hM (by omega) (λw _ M' hE Q=>by simp[bR,pr]) (λw _ _ M' hE Q=>by simp[bR,pr])]
 unfold lg;rw[List.map_map];rfl
theorem zb(ht:t∈lg wy h):∃w∈wy,w.i=h/\w.j=t:=by
 obtain⟨w,hw,rfl⟩:=KJ.mp ht;obtain⟨h1,h2⟩:=List.mem_filter.mp hw;exact⟨w,h1,Ld h2,rfl⟩
def Rw.sg(m:Int):Rw->Prop
 |.Lx _ _ e l=>e<=m/\m<=l
 |_=>True
theorem DM{h v m:Int}{xs:List Int}(hl:xs.length=4)(hw:wy.length<=36):∃r:Rw,r.h=h/\r.r=v/\r.s≠"take"/\r.may wy/\r.sg m/\
  ∀{n:Nat}{M:MH}{Q:VK3}{E:XN},Fm M->aa T (B cls c_ e_) (n+1) 54 [.int h,.int v,.int m,.I_ (wy.map pr) (wy.map wv),.g_ (xs.map D.int)] M Q E=Q r.d M:=by
 have i0:∀{M:MH}{Q:VK3},ar (.g_ (xs.map D.int)) (.int 0) M Q=Q (.int (xs.getD 0 0)) M:=λ{M Q}=>aK (k:=0) (by omega)
 have i1:∀{M:MH}{Q:VK3},ar (.g_ (xs.map D.int)) (.int 1) M Q=Q (.int (xs.getD 1 0)) M:=λ{M Q}=>aK (k:=1) (by omega)
 have i2:∀{M:MH}{Q:VK3},ar (.g_ (xs.map D.int)) (.int 2) M Q=Q (.int (xs.getD 2 0)) M:=λ{M Q}=>aK (k:=2) (by omega)
 have i3:∀{M:MH}{Q:VK3},ar (.g_ (xs.map D.int)) (.int 3) M Q=Q (.int (xs.getD 3 0)) M:=λ{M Q}=>aK (k:=3) (by omega)
 generalize xs.getD 0 0=x0 at i0;generalize xs.getD 1 0=x1 at i1;generalize xs.getD 2 0=x2 at i2;generalize xs.getD 3 0=x3 at i3;have ct:=λ{W:WC}{M:MH}{Q:VK3} (hM:Fm M)=>EH (W:=W) (Q:=Q) (h:=h) hM hw
 by_cases k12:x3 / 2 % 8=1\/x3 / 2 % 8=2
 ·obtain⟨g,hg,gx⟩:=sX 0 1 (x0 % 100) (x0 % 1000000000000) (x1 % 4) (by omega) (by omega)
  obtain⟨k,hk,kx⟩:=sX 0 1 (x0 % 100) (x0 % 1000000000000) (x1 / 4 % 4) (by omega) (by omega)
  refine⟨.Lx h v (m-g) (m+k),rfl,rfl,by simp +decide [Rw.s],trivial,⟨by omega,by omega⟩,?_⟩
  intro n M Q E hM;simp only[hX,dD];rcases k12 with k1|k1<;>simp[-List.map_map,ax,↓ct hM,↓i0,↓i1,↓i3,k1,cZ,lH,↓gx,↓kx,Rw.d,au]
 ·obtain⟨k1,k2⟩:=not_or.mp k12;have nn:∀{M:MH}{Q:VK3},aI .NotEq (.g_ ((lg wy h).map D.int)) (.g_ []) M Q=Q (.bl (!((lg wy h).map D.int).isEmpty)) M:=λ{M Q}=>m6 rfl (by simp[plN]) (by simp[plN])
  by_cases k3:2<x3 / 2 % 8/\lg wy h≠[]
  ·have lp:0<(lg wy h).length:=List.length_pos_iff.mpr k3.2;have OC:(0:Int)<(lg wy h).length:=by omega
   obtain⟨t,ht,tx⟩:=Aa (i:=x2 / 5 % ((lg wy h).length:Int)) (K9 _ (by omega)) (K3 _ OC)
   obtain⟨w,Q4,RW,Tz⟩:=zb ht;refine⟨.send h v t,rfl,rfl,by simp +decide [Rw.s],(show [h,t]∈wy.map pr from KJ.mpr ⟨w,Q4,by simp[pr,RW,Tz]⟩),trivial,?_⟩
   intro n M Q E hM;simp only[hX,dD];simp[-List.map_map,ax,↓ct hM,↓i2,↓i3,k1,k2,k3.1,k3.2,↓nn,lp,cZ,↓tx,Rw.d,au]
  ·refine⟨.look h v,rfl,rfl,by simp +decide [Rw.s],trivial,trivial,?_⟩
   intro n M Q E hM;simp only[hX,dD];by_cases k4:2<x3 / 2 % 8
   ·have k5:lg wy h=[]:=Classical.byContradiction λz=>k3 ⟨k4,z⟩
    simp[-List.map_map,ax,↓ct hM,↓i3,k1,k2,k5,↓nn,cZ,Rw.d,au]
   ·simp[-List.map_map,ax,↓ct hM,↓i3,k1,k2,k4,cZ,Rw.d,au]
theorem Do{m:Option Int}:aa T (B cls c_ e_) (n+1) 55 [.tup [.int h,.int k],.tup [.str "send",.int a,.int v,.int t],.int mo,.tup [.int l,oi m]] M Q E=Q (Ent.d ⟨h,k,t,mo+l,m.map (mo+·)⟩) M:=by
 simp only[qG,gu];cases m<;>simp[D.isN,Ent.d,au]
theorem xo:∀{l:List A3}{k0:Nat},cj k0 (l.map a3D)=(l.zipIdx k0).map λp=>.tup [.int p.2,a3D p.1]
 |[],_=>rfl
 |x::r,k0=>by simp only[Kn,cj,List.zipIdx_cons,xo]
theorem tf:∀{l:List α},tR (l.map λa=>prD (f a))=some (l.map f)
 |[]=>rfl
 |x::r=>by simp only[Kn,prD,tR];rw[show (λa=>D.tup [.int (f a).1,.int (f a).2])=λa=>prD (f a) from rfl,tf]
theorem AE{at_:List A3}(hM:Fm M)(ha:M a=some (.lst (at_.map a3D)))(h0:0<at_.length)(hl:at_.length<=6):∃(k:Nat)(m:Int),k<at_.length/\∀{W:WC}{Q:VK3},gS W (.tup [0,1]) .no (.tup (.cons (.ix (.var 1) (.con (.int 2))) (.cons (.var 0) .nil))) (λM=>M a=some (.lst (at_.map a3D))) (λx M1=>rMp x M1 Q) (cj 0 (at_.map a3D)) [none,none] M=Q (.tup [.int m,.int k]) M:=by
 let f:A3×Nat->Int×Int:=λp=>(p.1.2.2,(p.2:Int))
 have ne:at_.zipIdx.map f≠[]:=by
  cases at_ with
  |nil=>simp at h0
  |cons x r=>simp
 obtain⟨⟨x,k⟩,hp,e⟩:=KJ.mp (tO ne);refine⟨k,x.2.2,(KP.mp (List.mem_zipIdx_iff_getElem?.mp hp)).1,?_⟩;intro W Q;rw[xo,cz _ (λZ=>∃a b,Z=[a,b]) (λp=>[some (.int p.2),some (a3D p.1)]) (λ_=>true) (λp=>prD (f p)) ⟨_,_,rfl⟩ hM (by simp;omega) (λp _=>⟨⟨_,_,rfl⟩,λZ ⟨a,b,e⟩ M k=>by
  subst e;simp⟩) (λ_ _ _ _ _=>rfl) (λp _ _ M' hE Q=>by simp[f,prD,a3D,au]) (λM' hE=>hE.2 _ _ ha),List.filter_eq_self.mpr (λ_ _=>rfl)]
 unfold rMp;simp only[ak,tf];cases h:at_.zipIdx.map f with
 |nil=>exact absurd h ne
 |cons p ps=>rw[h]at e;simp only[<-e];rfl
end
abbrev c00:Int->Nat:=λ_=>0
abbrev l00:Int->Int:=λ_=>0
abbrev k0(d_:List (Int×Int))(k:Nat):Int×Int:=d_.getD k (0,0)
abbrev a0(at_:List A3)(k:Nat):A3:=at_.getD k (0,0,0)
section
variable {d_:List (Int×Int)}{wy:List Wy}{r:Rw}
def wOf(wy:List Wy)(i j:Int):Wy:=(wy.find? λw=>decide (w.i=i)&&decide (w.j=j)).getD ⟨0,0,0,none⟩
theorem wC(h:[i,j]∈wy.map pr):wOf wy i j∈wy/\(wOf wy i j).i=i/\(wOf wy i j).j=j:=by
 unfold wOf;cases e:wy.find? λw=>decide (w.i=i)&&decide (w.j=j) with
 |none=>
  obtain⟨w,hw,q⟩:=KJ.mp h;simp only[pr,List.cons.injEq]at q;have:=List.find?_eq_none.mp e w hw;simp[q.1,q.2]at this
 |some w=>
  have h1:=List.find?_some e;simp only[Kg,Ks]at h1;exact⟨List.mem_of_find?_eq_some e,h1.1,h1.2⟩
theorem vQ{w:Wy}:∀{wy:List Wy},(wy.map pr).Nodup->w∈wy->wOf wy w.i w.j=w
 |x::r,nd,h=>by
  rw[Kn,KN]at nd;unfold wOf;rw[Lj];by_cases e:x.i=w.i/\x.j=w.j
  ·simp only[e.1,e.2];rcases Kq.mp h with rfl|h
   ·rfl
   ·exact absurd (KJ.mpr ⟨w,h,by simp[pr,e.1,e.2]⟩) nd.1
  ·have:(decide (x.i=w.i)&&decide (x.j=w.j))=false:=by
    rw[Bool.and_eq_false_iff];by_cases e1:x.i=w.i
    ·exact .inr (KQ λe2=>e ⟨e1,e2⟩)
    ·exact .inl (KQ e1)
   rw[this];rcases Kq.mp h with rfl|h
   ·exact absurd ⟨rfl,rfl⟩ e
   ·exact vQ nd.2 h
def bg(wy:List Wy)(hd:D):Rw->List D
 |.Lx _ _ e l=>[.tup [.tup [.int (-1),.int 0],hd,.int l],.tup [hd,.tup [.int (-1),.int 0],.int (-e)]]
 |.take h _ a b=>.tup [hd,.tup [.int a,.int b],.int (-(wOf wy a h).l)]::(match (wOf wy a h).m with
  |none=>[]
  |some m=>[.tup [.tup [.int a,.int b],hd,.int m]])
 |_=>[]
def k9(c:Int×Int)(h:Int)(k:Nat)(t:Int):List D:=[.tup [.tup [.int h,.int ((k:Int)-1)],.tup [.int h,.int k],.int (c.2*t)],.tup [.tup [.int h,.int k],.tup [.int h,.int ((k:Int)-1)],.int (-c.1*t)]]
def nxt(lr:Int->Int)(h v:Int):Int->Int:=λx=>if x=h then v else lr x
def eK(d_:List (Int×Int))(wy:List Wy)(c:Int->Nat)(lr:Int->Int)(r:Rw):List D:=bg wy (.tup [.int r.h,.int (c r.h)]) r++if 0<c r.h then k9 (k0 d_ r.h.toNat) r.h (c r.h) (r.r-lr r.h) else []
def bdF(d_:List (Int×Int))(wy:List Wy):(Int->Nat)->(Int->Int)->List Rw->List D
 |_,_,[]=>[]
 |c,lr,r::rs=>eK d_ wy c lr r++bdF d_ wy (bump c r.h) (nxt lr r.h r.r) rs
def cF(c:Int->Nat):List Rw->Int->Nat
 |[]=>c
 |r::rs=>cF (bump c r.h) rs
def lF(lr:Int->Int):List Rw->Int->Int
 |[]=>lr
 |r::rs=>lF (nxt lr r.h r.r) rs
theorem sL:∀(rs:List Rw)(c:Int->Nat),cF c (rs++[r])=bump (cF c rs) r.h
 |[],c=>rfl
 |x::rs,c=>sL rs _
theorem tF:∀(rs:List Rw)(lr:Int->Int),lF lr (rs++[r])=nxt (lF lr rs) r.h r.r
 |[],_=>rfl
 |x::rs,_=>tF rs _
theorem nR:∀(rs:List Rw)(c:Int->Nat)(lr:Int->Int),bdF d_ wy c lr (rs++[r])=bdF d_ wy c lr rs++eK d_ wy (cF c rs) (lF lr rs) r
 |[],c,lr=>by simp[bdF,cF,lF]
 |x::rs,c,lr=>by
  rw[List.cons_append];unfold bdF;rw[nR rs,List.append_assoc];rfl
abbrev Dt:=List (List Int)×List D
def dF(c:Int->Nat)(T:Dt):List (Int×Int)->Dt
 |[]=>T
 |p::r=>dF (bump c p.1) (aj T.1 [p.1,(c p.1:Int)],ao T.1 T.2 [p.1,(c p.1:Int)] (.int p.2)) r
def hB(c:Int->Nat):List (Int×Int)->Int->Nat
 |[]=>c
 |p::r=>hB (bump c p.1) r
theorem tj{p:Int×Int}:∀(l:List (Int×Int)) (c:Int->Nat)(T:Dt),dF c T (l++[p])=(aj (dF c T l).1 [p.1,(hB c l p.1:Int)],ao (dF c T l).1 (dF c T l).2 [p.1,(hB c l p.1:Int)] (.int p.2))
 |[],c,T=>rfl
 |x::l,c,T=>tj l _ _
theorem we:∀(l:List (Int×Int)) (c:Int->Nat)(T:Dt),T.1.length=T.2.length->(dF c T l).1.length=(dF c T l).2.length
 |[],c,T,h=>h
 |x::l,c,T,h=>we l _ _ (cA h)
def ht(p:Rw×Int):Int×Int:=(p.1.h,p.2)
theorem D7:∀(td:List (Rw×Int)) (c:Int->Nat),hB c (td.map ht)=cF c (td.map Prod.fst)
 |[],_=>rfl
 |p::td,c=>D7 td _
abbrev D0:Dt:=([[-1,0]],[.int 0])
def tm(l:List (Int×Int))(a i:Int):Option D:=getD (dF c00 D0 l).1 (dF c00 D0 l).2 [a,i]
theorem zN{p:Int×Int}:tm (l++[p]) a i=if p.1=a/\(hB c00 l p.1:Int)=i then some (.int p.2) else tm l a i:=by
 unfold tm;rw[tj,be (we l _ _ rfl)];by_cases h:p.1=a/\(hB c00 l p.1:Int)=i
 ·rw[Kp h,Kp (by rw[h.1,<-h.2,h.1])]
 ·rw[Kj h,Kj (λe=>h ?_)]
  simp only[List.cons.injEq,and_true]at e;exact e
def Old(c:Int->Nat)(a i:Int):Prop:=a<0\/i<c a
theorem Old.bump(o:Old c a i):Old (bump c h) a i:=by
 rcases o with o|o
 ·exact .inl o
 ·unfold G.bump;right;dsimp only;split<;>omega
def kh(T:Int->Int->Option D)(c:Int->Nat)(b:D):Prop:=∃a i a' i' m t t':Int,b=.tup [.tup [.int a,.int i],.tup [.int a',.int i'],.int m]/\T a i=some (.int t)/\T a' i'=some (.int t')/\Old c a i/\Old c a' i'/\¬ (a=a'/\i=i')/\t' - t<=m
def Aw(wy:List Wy)(T:Int->Int->Option D)(c:Int->Nat)(mo:Int):Rw->Prop
 |.take h _ a b=>∃ms,T a b=some (.int ms)/\Old c a b/\ms+(wOf wy a h).l<=mo/\∀m,(wOf wy a h).m=some m->mo<=ms+m
 |r=>r.sg mo
theorem By{T:Int->Int->Option D}{c:Int->Nat}{mo:Int}(h:r.s≠"take")(s:r.sg mo):Aw wy T c mo r:=by
 cases r with
 |take=>exact absurd rfl h
 |_=>exact s
def Fn1(l:List D):Prop:=∀u v m m',D.tup [u,v,.int m]∈l->D.tup [u,v,.int m']∈l->m=m'
theorem Fn1.app(h:Fn1 l)(h':Fn1 l')(x:∀u v m m',D.tup [u,v,.int m]∈l->D.tup [u,v,.int m']∈l'->False):Fn1 (l++l'):=λu v m m' h1 h2=>by
 rcases KD.mp h1 with h1|h1<;>rcases KD.mp h2 with h2|h2
 ·exact h u v m m' h1 h2
 ·exact (x u v m m' h1 h2).elim
 ·exact (x u v m' m h2 h1).elim
 ·exact h' u v m m' h1 h2
def pr2(a b:D)(m n:Int):List D:=[.tup [a,b,.int m],.tup [b,a,.int n]]
theorem iN(h:D.tup [u,v,w]∈pr2 a b m n):u=a/\v=b/\w=.int m\/u=b/\v=a/\w=.int n:=by
 simpa [pr2] using h
theorem qd(h:a≠b):Fn1 (pr2 a b m n):=λu v i j h1 h2=>by
 rcases iN h1 with ⟨e1,e2,e3⟩|⟨e1,e2,e3⟩<;>rcases iN h2 with ⟨f1,f2,f3⟩|⟨f1,f2,f3⟩
 ·rw[<-e3]at f3;cases f3;rfl
 ·exact absurd (e1.symm.trans f1) h
 ·exact absurd (f1.symm.trans e1) h
 ·rw[<-e3]at f3;cases f3;rfl
theorem ED(h1:a≠b)(h2:a≠c)(h3:b≠c):∀u v m m',D.tup [u,v,.int m]∈pr2 a b i j->D.tup [u,v,.int m']∈pr2 c a k l->False:=λu v m m' z1 z2=>by
 rcases iN z1 with ⟨e1,e2,_⟩|⟨e1,e2,_⟩<;>rcases iN z2 with ⟨f1,f2,_⟩|⟨f1,f2,_⟩
 ·exact h2 (e1.symm.trans f1)
 ·exact h3 (e2.symm.trans f2)
 ·exact h3 (e1.symm.trans f1)
 ·exact h1 (f1.symm.trans e1)
theorem vD:(bg wy hd r=[]\/∃b m n,(∀d∈bg wy hd r,d∈pr2 hd b m n)/\((b=.tup [.int (-1),.int 0])\/∃h v x y,r=.take h v x y/\b=.tup [.int x,.int y])):=by
 cases r with
 |look=>exact .inl rfl
 |send=>exact .inl rfl
 |Lx h v e l=>exact .inr ⟨_,-e,l,by simp[bg,pr2],.inl rfl⟩
 |take h v x y=>
  refine .inr ⟨.tup [.int x,.int y],-(wOf wy x h).l,((wOf wy x h).m).getD 0,?_,.inr ⟨h,v,x,y,rfl,rfl⟩⟩;cases em:(wOf wy x h).m<;>simp[bg,pr2,em]
theorem Fn1.sub(h:Fn1 l)(s:∀d∈l',d∈l):Fn1 l':=λu v m m' h1 h2=>h u v m m' (s _ h1) (s _ h2)
theorem A2{c:Int×Int}:k9 c h k t=pr2 (.tup [.int h,.int ((k:Int)-1)]) (.tup [.int h,.int k]) (c.2*t) (-c.1*t):=rfl
theorem va(h:D.tup [u,v,w]∈eK d_ wy c lr r):u=.tup [.int r.h,.int (c r.h)]\/v=.tup [.int r.h,.int (c r.h)]:=by
 rcases KD.mp h with h|h
 ·rcases vD with e|⟨b,m,n,s,_⟩
  ·rw[e]at h;cases h
  ·rcases iN (s _ h) with ⟨e,_⟩|⟨_,e,_⟩
   ·exact .inl e
   ·exact .inr e
 ·split at h
  ·rw[A2]at h;rcases iN h with ⟨_,e,_⟩|⟨e,_⟩
   ·exact .inr e
   ·exact .inl e
  ·cases h
theorem Dd(h0:0<=r.h)(hx:∀h v x y,r=.take h v x y->x≠h):Fn1 (eK d_ wy c lr r):=by
 have hl:D.tup [.int r.h,.int ((c r.h:Int)-1)]≠.tup [.int r.h,.int (c r.h)]:=λe=>by simp at e;omega
 have nb:∀b,(b=D.tup [.int (-1),.int 0]\/∃h v x y,r=.take h v x y/\b=.tup [.int x,.int y])->D.tup [.int r.h,.int (c r.h)]≠b/\b≠.tup [.int r.h,.int ((c r.h:Int)-1)]:=λb hb=>by
  rcases hb with rfl|⟨h,v,x,y,e,rfl⟩
  ·exact⟨λe=>by simp at e;omega,λe=>by simp at e;omega⟩
  ·have:=hx h v x y e;have eh:r.h=h:=by rw[e];rfl
   exact⟨λe=>by simp at e;omega,λe=>by simp at e;omega⟩
 unfold eK;rcases vD with e|⟨b,m,n,s,hb⟩
 ·rw[e,List.nil_append];split
  ·exact qd hl
  ·exact λ_ _ _ _ h=>by cases h
 ·obtain⟨n1,n2⟩:=nb b hb;have f1:=(qd n1).sub s;split
  ·exact f1.app (qd hl) λu v i j z1 z2=>ED n1 (Kz hl) n2 u v i j (s _ z1) z2
  ·rw[KZ];exact f1
def TQ(d_:List (Int×Int))(wy:List Wy)(td:List (Rw×Int)):Prop:=(∀b∈bdF d_ wy c00 l00 (td.map Prod.fst),kh (tm (td.map ht)) (cF c00 (td.map Prod.fst)) b)/\((∀h v x y,Rw.take h v x y∈td.map Prod.fst->x≠h)->Fn1 (bdF d_ wy c00 l00 (td.map Prod.fst)))
structure TC (d_:List (Int×Int)) (wy:List Wy) (td:List (Rw×Int)) (at_:List A3)(sn:List Ent):Prop where
 z:tm (td.map ht) (-1) 0=some (.int 0)
 n:∀k:Nat,k<d_.length->(a0 at_ k).1=cF c00 (td.map Prod.fst) k
 l:∀k:Nat,k<d_.length->0<cF c00 (td.map Prod.fst) k->(a0 at_ k).2.1=lF l00 (td.map Prod.fst) k/\tm (td.map ht) k (cF c00 (td.map Prod.fst) k-1)=some (.int (a0 at_ k).2.2)
 s:∀e∈sn,∃ms,tm (td.map ht) e.h e.k=some (.int ms)/\Old (cF c00 (td.map Prod.fst)) e.h e.k/\e.lo=ms+(wOf wy e.h e.to).l/\e.hi=(wOf wy e.h e.to).m.map (ms+·)
 b:∀b∈bdF d_ wy c00 l00 (td.map Prod.fst),kh (tm (td.map ht)) (cF c00 (td.map Prod.fst)) b
 u:(∀h v x y,Rw.take h v x y∈td.map Prod.fst->x≠h)->Fn1 (bdF d_ wy c00 l00 (td.map Prod.fst))
 q:∀j,j<td.length->TQ d_ wy (td.take j)
variable {td:List (Rw×Int)}{at_:List A3}{sn:List Ent}
theorem TC.pre(C:TC d_ wy td at_ sn)(j:Nat):TQ d_ wy (td.take j):=by
 by_cases h:j<td.length
 ·exact C.q j h
 ·rw[List.take_of_length_le (by omega)];exact⟨C.b,C.u⟩
theorem TC.step(C:TC d_ wy td at_ sn)(hl:at_.length=d_.length)(hk:k<d_.length)(eh:r.h=k)(er:r.r=(a0 at_ k).2.1+t)
  (ow:Aw wy (tm (td.map ht)) (cF c00 (td.map Prod.fst)) mo r) (ck:(k0 d_ k).1*t<=mo-(a0 at_ k).2.2/\mo-(a0 at_ k).2.2<=(k0 d_ k).2*t)
  (hs:∀e∈LI,e∈sn\/(e.h=k/\e.k=(a0 at_ k).1/\e.lo=mo+(wOf wy e.h e.to).l/\e.hi=(wOf wy e.h e.to).m.map (mo+·))) :
  TC d_ wy (td++[(r,mo)]) (at_.set k ((a0 at_ k).1+1,(a0 at_ k).2.1+t,mo)) LI:=by
 have Oz:k<at_.length:=by omega
 have ec:=D7 td c00;have e0:(td++[(r,mo)]).map ht=td.map ht++[(r.h,mo)]:=by simp[ht]
 have e1:(td++[(r,mo)]).map Prod.fst=td.map Prod.fst++[r]:=by simp
 have RY:∀a i,tm ((td++[(r,mo)]).map ht) a i=if (k:Int)=a/\(cF c00 (td.map Prod.fst) k:Int)=i then some (.int mo) else tm (td.map ht) a i:=λa i=>by
  rw[e0,zN,ec];simp only[eh]
 have old:∀{a i},Old (cF c00 (td.map Prod.fst)) a i->tm ((td++[(r,mo)]).map ht) a i=tm (td.map ht) a i:=λ{a i} o=>by
  rw[RY,Kj];rintro⟨rfl,rfl⟩;rcases o with o|o<;>omega
 have cN:cF c00 ((td++[(r,mo)]).map Prod.fst)=bump (cF c00 (td.map Prod.fst)) k:=by rw[e1,sL,eh]
 have self:tm ((td++[(r,mo)]).map ht) k (cF c00 (td.map Prod.fst) k)=some (.int mo):=by rw[RY,Kp ⟨rfl,rfl⟩]
 have L6:Old (bump (cF c00 (td.map Prod.fst)) k) k (cF c00 (td.map Prod.fst) k):=.inr (by simp only[bump,if_true];omega)
 have nr:∀{a i:Int},Old (cF c00 (td.map Prod.fst)) a i->a=k->i=cF c00 (td.map Prod.fst) k->False:=λ{a i} o e1 e2=>by
  subst e1;subst e2;rcases o with o|o<;>omega
 have z':tm ((td++[(r,mo)]).map ht) (-1) 0=some (.int 0):=by rw[old (.inl (by decide))];exact C.z
 have up:∀{b},kh (tm (td.map ht)) (cF c00 (td.map Prod.fst)) b->kh (tm ((td++[(r,mo)]).map ht)) (bump (cF c00 (td.map Prod.fst)) k) b:=λ{b} ⟨a,i,a',i',m,x,x',h1,h2,h3,h4,h5,h6⟩=>⟨a,i,a',i',m,x,x',h1,by rw[old h4];exact h2,by rw[old h5];exact h3,h4.bump,h5.bump,h6⟩
 refine⟨z',λj hj=>?_,λj hj hp=>?_,λe he=>?_,λb hb=>?_,λhx=>?_,λj hj=>by
  rw[KO,List.length_singleton]at hj;rw[List.take_append_of_le_length (by omega)];exact C.pre j⟩
 rotate_left 4
 ·rw[e1]at hx ⊢;rw[nR];refine (C.u λh v x y m=>hx h v x y (K2 _ m)).app (Dd (by omega) λh v x y e=>hx h v x y (by simp[e])) λu v m m' h1 h2=>?_
  obtain⟨a,i,a',i',_,_,_,e,_,_,o1,o2,_⟩:=C.b _ h1;simp only[D.tup.injEq,List.cons.injEq]at e;rcases va h2 with z|z
  ·rw[e.1,eh]at z;simp at z;exact nr o1 z.1 z.2
  ·rw[e.2.1,eh]at z;simp at z;exact nr o2 z.1 z.2
 ·rw[cN,a0,cQ Oz];unfold bump;by_cases e:j=k
  ·subst e;have:=C.n j hj;simp only[if_true];omega
  ·rw[Kj e,Kj (by omega)];exact C.n j hj
 ·rw[cN,e1,tF,eh,er];rw[cN]at hp;unfold bump at hp ⊢;unfold nxt;by_cases e:j=k
  ·subst e;rw[a0,cQ Oz,Kp rfl];simp only[if_true,true_and];rw[show ((cF c00 (td.map Prod.fst) (j:Int)+1:Nat):Int)-1=cF c00 (td.map Prod.fst) (j:Int) by omega]
   exact self
  ·have ej:¬ (j:Int)=k:=by omega
   rw[Kj ej]at hp;rw[a0,cQ Oz,Kj e,Kj ej];simp only[Kj ej];obtain⟨q1,q2⟩:=C.l j hj hp;exact⟨q1,by rw[old (.inr (by omega))];exact q2⟩
 ·rw[cN];rcases hs e he with h|⟨h1,h2,h3,h4⟩
  ·obtain⟨ms,q1,q2,q3,q4⟩:=C.s e h;exact⟨ms,by rw[old q2];exact q1,q2.bump,q3,q4⟩
  ·refine⟨mo,?_,?_,h3,h4⟩
   ·rw[h1,h2,C.n k hk];exact self
   ·rw[h1,h2,C.n k hk];exact L6
 ·rw[cN];rw[e1,nR]at hb;rcases KD.mp hb with h|h
  ·exact up (C.b b h)
  ·unfold eK at h;rw[eh]at h;rcases KD.mp h with h|h
   ·cases r with
    |look=>cases h
    |send=>cases h
    |Lx a v e l=>
     have ow:e<=mo/\mo<=l:=ow;simp only[bg,Kq,Lf,or_false]at h;rcases h with rfl|rfl
     ·exact⟨-1,0,_,_,_,0,mo,rfl,z',self,.inl (by decide),L6,by omega,by omega⟩
     ·exact⟨_,_,-1,0,_,mo,0,rfl,self,z',L6,.inl (by decide),by omega,by omega⟩
    |take a v x y=>
     obtain⟨ms,q1,q2,q3,q4⟩:=ow;have RZ:=(old q2).trans q1;simp only[bg,Kq]at h;rcases h with rfl|h
     ·exact⟨_,_,_,_,_,mo,ms,rfl,self,RZ,L6,q2.bump,λz=>nr q2 z.1.symm z.2.symm,by omega⟩
     ·cases em:(wOf wy x a).m with
      |none=>rw[em]at h;cases h
      |some m=>
       rw[em]at h;have:=q4 m em;rw[KF.mp h];exact⟨_,_,_,_,_,ms,mo,rfl,RZ,self,q2.bump,L6,λz=>nr q2 z.1 z.2,by omega⟩
   ·split at h
    ·rename_i hp;obtain⟨q1,q2⟩:=C.l k hk hp;have oc:Old (cF c00 (td.map Prod.fst)) k ((cF c00 (td.map Prod.fst) k:Int)-1):=.inr (by omega)
     have R0:=(old oc).trans q2;have et:r.r-lF l00 (td.map Prod.fst) k=t:=by rw[er,q1];omega
     rw[et,Ll]at h;simp only[k9,Kq,Lf,or_false]at h;rcases h with rfl|rfl
     ·exact⟨_,_,_,_,_,_,mo,rfl,R0,self,oc.bump,L6,by omega,ck.2⟩
     ·exact⟨_,_,_,_,_,mo,_,rfl,self,R0,L6,oc.bump,by omega,by rw[Int.neg_mul];omega⟩
    ·cases h
end
section
variable {wy:List Wy}{d_:List (Int×Int)}{b:PySem.Addr}{td:List (Rw×Int)}{at_:List A3}{sn:List Ent}
def tdD(p:Rw×Int):D:=.tup [p.1.d,.int p.2]
def H3(M0:MH)(a b d:PySem.Addr)(at_:List A3)(sn:List Ent)(td:List (Rw×Int)):MH:=put (put (put M0 a (.lst (at_.map a3D))) b (.lst (sn.map Ent.d))) d (.lst (td.map tdD))
structure D3 (a b d:PySem.Addr):Prop where
 ab:a≠b
 ad:a≠d
 bd:b≠d
theorem D3.ga(h:D3 a b d):H3 M0 a b d at_ sn td a=some (.lst (at_.map a3D)):=by unfold H3;rw[ae h.ad,ae h.ab,ac]
theorem D3.gb(h:D3 a b d):H3 M0 a b d at_ sn td b=some (.lst (sn.map Ent.d)):=by unfold H3;rw[ae h.bd,ac]
theorem D3.gd(h:D3 a b d):H3 M0 a b d at_ sn td d=some (.lst (td.map tdD)):=ac
theorem D3.sa(h:D3 a b d){x:List A3}:put (H3 M0 a b d at_ sn td) a (.lst (x.map a3D))=H3 M0 a b d x sn td:=l7 h.ab h.ad
theorem D3.sb(h:D3 a b d){x:List Ent}:put (H3 M0 a b d at_ sn td) b (.lst (x.map Ent.d))=H3 M0 a b d at_ x td:=dM h.bd
theorem D3.sd(h:D3 a b d){x:List (Rw×Int)}:put (H3 M0 a b d at_ sn td) d (.lst (x.map tdD))=H3 M0 a b d at_ sn x:=ba
theorem Fm.h3(h:Fm M0):Fm (H3 M0 a b d at_ sn td):=((h.put _ _).put _ _).put _ _
structure TB (H:Nat)(wy:List Wy)(Bd:Int) (td:List (Rw×Int)) (at_:List A3)(sn:List Ent):Prop where
 ta:TA H wy (td.map Prod.fst) at_ sn
 mo:∀x∈at_,(-Bd<=x.2.2/\x.2.2<=Bd)/\(-Bd<=x.2.1/\x.2.1<=Bd)
 sb:∀e∈sn,(-Bd<=e.lo/\e.lo<=Bd)/\inB Bd e.hi
def tl:ISs->ISs
 |.cons _ r=>r
 |.nil=>.nil
def jW:ISs:=tl (tl (tl (tl (tl (tl aE)))))
def iD:ISs:=tl (tl (tl (tl jW)))
theorem jV(ha:M a=some (.lst (at_.map a3D)))(h:k<at_.length):ar (.ref a) (.int (k:Nat)) M Q=Q (.tup [.int (a0 at_ k).1,.int (a0 at_ k).2.1,.int (a0 at_ k).2.2]) M:=by
 have e:(at_.map a3D)[k]?=some (a3D (a0 at_ k)):=by
  rw[Kt,KC h,a0,List.getD_eq_getElem?_getD,KC h];rfl
 rw[qB ha];exact iV (cY e)
theorem jH(h:k<at_.length):a0 at_ k∈at_:=by
 rw[a0,List.getD_eq_getElem?_getD,KC h];exact K7 h
theorem pM{xs:List Int}(hl:xs.length=4)(hw:wy.length<=36)(A:D3 a b d)(hM:Fm M0)(hh:hd<at_.length)(hf:f<=l)
  (k:∀(mo:Int)(r:Rw),f<=mo->mo<=l->r.h=hd->r.r=(a0 at_ hd).2.1+t->r.s≠"take"->r.may wy->r.sg mo->
   aR ⟨(B cls c_ e_),aa T (B cls c_ e_) (n+1)⟩ iD De ES [y0,y1,y2,some (.g_ (d_.map cD)),some (.I_ (wy.map pr) (wy.map wv)),some (.ref a),y6,some (.ref b),some (.ref d),y9,some (.g_ (xs.map D.int)),some (.int hd),some lt,some (.tup [.int t,.int f,.int l]),y14,some (.int mo),some (.tup [.int hd,.int (a0 at_ hd).1]),some r.d] (H3 M0 a b d (at_.set hd ((a0 at_ hd).1+1,(a0 at_ hd).2.1+t,mo)) sn td)) :
  aR ⟨(B cls c_ e_),aa T (B cls c_ e_) (n+1)⟩ jW De ES [y0,y1,y2,some (.g_ (d_.map cD)),some (.I_ (wy.map pr) (wy.map wv)),some (.ref a),y6,some (.ref b),some (.ref d),y9,some (.g_ (xs.map D.int)),some (.int hd),some lt,some (.tup [.int t,.int f,.int l]),y14,LS,LZ,Mg] (H3 M0 a b d at_ sn td):=by
 have i2:∀{M:MH}{Q:VK3},ar (.g_ (xs.map D.int)) (.int 2) M Q=Q (.int (xs.getD 2 0)) M:=λ{M Q}=>aK (k:=2) (by omega)
 have i3:∀{M:MH}{Q:VK3},ar (.g_ (xs.map D.int)) (.int 3) M Q=Q (.int (xs.getD 3 0)) M:=λ{M Q}=>aK (k:=3) (by omega)
 generalize xs.getD 2 0=x2 at i2;generalize xs.getD 3 0=x3 at i3;have p0:0<l-f+1:=by omega
 have m0:=K9 (x2 / 4) (Int.ne_of_gt p0);have m1:=K3 (x2 / 4) p0;obtain⟨mo,Uz,mx⟩:=rL f l (f+x2 / 4 % (l-f+1)) (x3 / 16 % 3) (by omega) (by omega)
 obtain⟨r,r1,r2,r3,r4,r5,rx⟩:=DM (cls:=cls) (c_:=c_) (e_:=e_) hl hw;have hs:hd<(at_.set hd ((a0 at_ hd).1+1,(a0 at_ hd).2.1+t,mo)).length:=by simp;exact hh
 have es:a0 (at_.set hd ((a0 at_ hd).1+1,(a0 at_ hd).2.1+t,mo)) hd=((a0 at_ hd).1+1,(a0 at_ hd).2.1+t,mo):=by rw[a0,cQ hh,Kp rfl]
 have ib:=λ{Q:VK3}=>jV (Q:=Q) (A.ga (M0:=M0) (sn:=sn) (td:=td)) hs
 rw[es]at ib;have st:∀{R:MH->Prop},az (.ref a) (.int (hd:Nat)) (.tup [.int ((a0 at_ hd).1+1),.int ((a0 at_ hd).2.1+t),.int mo]) (H3 M0 a b d at_ sn td) R=R (H3 M0 a b d (at_.set hd ((a0 at_ hd).1+1,(a0 at_ hd).2.1+t,mo)) sn td):=λ{R}=>by
  rw[t6 (A.ga) (j:=hd) (by simp[ixN];omega),<-A.sa (x:=at_.set hd ((a0 at_ hd).1+1,(a0 at_ hd).2.1+t,mo)),List.map_set]
  rfl
 have k':=k mo r (by omega) (by omega) r1 r2 r3 r4 r5
 rw[show jW=.cons _ (.cons _ (.cons _ (.cons _ iD))) from rfl];simp[↓i2,↓i3,p0,cZ,↓mx,↓jV (A.ga) hh,↓st,↓ib,↓rx (Fm.h3 hM),au];exact k'
theorem TB.up{k:Nat}{t mo:Int}{H:Nat}{r:Rw}{LI:List Ent}(tb:TB H wy Bd td at_ sn)(hk:k<H)(b0:0<=Bd)(t0:0<=t)(t3:t<=3*Bd)(h1 : -Bd<=mo)(h2:mo<=4*Bd)(ta:TA H wy (td.map Prod.fst++[r]) (at_.set k ((a0 at_ k).1+1,(a0 at_ k).2.1+t,mo)) LI)
  (hs:∀e∈LI,e∈sn\/((-Bd<=e.lo/\e.lo<=5*Bd)/\∀y,e.hi=some y->-Bd<=y/\y<=5*Bd)):TB H wy (5*Bd) (td++[(r,mo)]) (at_.set k ((a0 at_ k).1+1,(a0 at_ k).2.1+t,mo)) LI:=by
 refine⟨by rw[List.map_append];exact ta,λx hx=>?_,λe he=>?_⟩
 ·rcases List.mem_or_eq_of_mem_set hx with h|h
  ·have:=tb.mo x h;omega
  ·have:=(tb.mo _ (jH (by rw[tb.ta.la];exact hk))).2
   rw[h];simp only;omega
 ·rcases hs e he with h|h
  ·obtain⟨c1,c2⟩:=tb.sb e h;exact⟨by omega,λy hy=>by have:=c2 y hy;omega⟩
  ·exact⟨by omega,λy hy=>by have:=h.2 y hy;omega⟩
theorem uZ{De:Ends3}{r:Rw}(A:D3 a b d)(hz:td.length<400):bW d De Z (.tup [r.d,.int mo]) (H3 M0 a b d at_ sn td)=De.nx Z (H3 M0 a b d at_ sn (td++[(r,mo)])):=by
 have hs:td.length<PySem.sizeLine:=Kv (show td.length<1000 by omega) (by decide)
 rw[<-A.sd (td:=td) (x:=td++[(r,mo)])];simp[bW,A.gd,hs,tdD]
theorem gi(h:M p=some (.lst ds)):lu W e De E Z (.ref p) M=wpE W e Z M (bW p De Z) E:=by
 simp[lu,h];exact Iff.rfl
theorem He{r:Rw}:ar r.d (.int 0) M Q=Q (.str r.s) M:=by cases r<;>simp[Rw.d,Rw.s]
theorem AY{De:Ends3}{e:Ent}(A:D3 a b d)(hz:sn.length<400):bW b De Z e.d (H3 M0 a b d at_ sn td)=De.nx Z (H3 M0 a b d at_ (sn++[e]) td):=by
 have hs:sn.length<PySem.sizeLine:=Kv (show sn.length<1000 by omega) (by decide)
 rw[<-A.sb (sn:=sn) (x:=sn++[e])];simp[bW,A.gb,hs]
theorem wm{De:Ends3}{r:Rw}(G:GW d_ wy)(A:D3 a b d)(tb:TB d_.length wy Bd td at_ sn)(hh:hd<d_.length)(b0:10 ^ 43<=Bd)(z1:td.length<400)(z2:sn.length<400)(ht:0<=t)(t3:t<=3*Bd)(b1:Bd<=10 ^ 60)(m1 : -Bd<=mo)(m2:mo<=4*Bd)(r1:r.h=hd)(r2:r.r=(a0 at_ hd).2.1+t)(r3:r.s≠"take")(r4:r.may wy)(r5:r.sg mo)(tc:TC d_ wy td at_ sn)(ck:(k0 d_ hd).1*t<=mo-(a0 at_ hd).2.2/\mo-(a0 at_ hd).2.2<=(k0 d_ hd).2*t)
  (k:∀LM at' LI,LM.length=td.length+1->LI.length<=sn.length+1->TB d_.length wy (5*Bd) LM at' LI->TC d_ wy LM at' LI->∀E_ y12 y13 y14 LS LZ Mg,De.nx [y0,y1,y2,some (.g_ (d_.map cD)),some (.I_ (wy.map pr) (wy.map wv)),some (.ref a),y6,some (.ref b),some (.ref d),y9,y10,E_,y12,y13,y14,LS,LZ,Mg] (H3 M0 a b d at' LI LM)) :
  aR ⟨(B cls c_ e_),aa T (B cls c_ e_) (n+1)⟩ iD De ES [y0,y1,y2,some (.g_ (d_.map cD)),some (.I_ (wy.map pr) (wy.map wv)),some (.ref a),y6,some (.ref b),some (.ref d),y9,y10,some (.int hd),some .i_,y13,y14,some (.int mo),some (.tup [.int hd,.int (a0 at_ hd).1]),some r.d] (H3 M0 a b d (at_.set hd ((a0 at_ hd).1+1,(a0 at_ hd).2.1+t,mo)) sn td):=by
 have mr:=(tb.mo _ (jH (by rw[tb.ta.la];exact hh))).2
 have NH:r.fine d_.length wy:=⟨by rw[r1];simp[okH,hh],r4,by rw[r2];omega⟩
 have tp:=λ{De:Ends3}{Z:St3}{at_:List A3}{sn:List Ent}=>uZ (M0:=M0) (De:=De) (Z:=Z) (r:=r) (mo:=mo) (at_:=at_) (sn:=sn) A z1
 simp only[iD,jW,tl,aE];by_cases e:r.s = "send"
 ·cases r with
  |send h v to=>
   obtain rfl:h=(hd:Int):=r1;obtain rfl:v=(a0 at_ hd).2.1+t:=r2;have hm:[(hd:Int),to]∈wy.map pr:=r4;obtain⟨w,hw,ew⟩:=KJ.mp hm;simp only[pr,List.cons.injEq,and_true]at ew;have g:=G.gd w hw;have ix:=λ{M:MH}{Q:VK3}=>qC (M:=M) (Q:=Q) G.nd hw
   rw[ew.1,ew.2]at ix;have gj:=g.j;rw[ew.2]at gj;simp only[okH,Kg,Ks]at gj;have gl:=g.l;simp only[nu,Bool.or_eq_false_iff,decide_eq_false_iff_not]at gl;obtain⟨l1,l2⟩:=G.sm w hw;have ta:=tb.ta.send (m:=mo) (e:=⟨hd,(a0 at_ hd).1,to,mo+w.l,w.m.map (mo+·)⟩) hh NH gj.1 gj.2 rfl rfl;have:=k (td++[(.send hd ((a0 at_ hd).2.1+t) to,mo)]) _ _ (by simp) (by simp) (tb.up hh (by omega) ht t3 m1 m2 ta λe he=>by
    rcases KD.mp he with z|z
    ·exact .inl z
    ·refine .inr ?_;rw[KF.mp z];refine⟨by simp only;omega,λy hy=>?_⟩
     cases em:w.m with
     |none=>rw[em]at hy;cases hy
     |some q=>
      rw[em]at hy gl;have q1:=l2 q em;have q2:¬ q<w.l:=of_decide_eq_false gl.2;simp only[Option.map,Option.some.injEq]at hy;omega) (tc.step (r:=.send hd ((a0 at_ hd).2.1+t) to) tb.ta.la hh rfl rfl trivial ck λe he=>by
    rcases KD.mp he with z|z
    ·exact .inl z
    ·refine .inr ?_;rw[KF.mp z];have ww:=vQ G.nd hw;rw[ew.1,ew.2]at ww;exact⟨rfl,rfl,by simp only[ww],by simp only[ww]⟩)
   simp only[Rw.d]at tp;simp only[wv,way]at ix;simp[-List.getD_eq_getElem?_getD,Rw.d,↓ix,↓Do,↓gi (A.gb),↓AY A z2,↓gi (A.gd),↓tp,au];exact this _ _ _ _ _ _ _
  |_=>exact absurd e (by simp +decide [Rw.s])
 ·have ta:=tb.ta.plain (v:=(a0 at_ hd).2.1+t) (m:=mo) hh NH;have:=k (td++[(r,mo)]) _ _ (by simp) (by omega) (tb.up hh (by omega) ht t3 m1 m2 ta λe he=>.inl he) (tc.step tb.ta.la hh r1 r2 (By r3 r5) ck λe he=>.inl he)
  simp[D.isN,↓He,e,↓gi (A.gd),↓tp,au];exact this _ _ _ _ _ _ _
theorem Bx{x e:Ent}(h:¬ (x.h=e.h/\x.k=e.k)):eqD x.d e.d=false:=by
 simp only[Ent.d,eqD,bU];by_cases h1:x.h=e.h
 ·have:¬ x.k=e.k:=λz=>h ⟨h1,z⟩
  simp[this]
 ·simp[h1]
theorem kL{e:Ent}:plN (k+2) e.d=true:=by
 cases z:e.hi<;>simp[Ent.d,plN,z]
theorem sP{e:Ent}:∀(L_:List Ent)(k0:Nat),(∀x∈L_,¬ (x.h=e.h/\x.k=e.k))->qg e.d ((L_++e::sn2).map Ent.d) k0=some (k0+L_.length)
 |[],k0,_=>by
  have:eqD e.d e.d=true:=oa 8 kL;simp[qg,this]
 |x::r,k0,h=>by
  simp only[List.cons_append,Kn,qg];rw[Bx (h x Kl),Kj Ku,sP r (k0+1) λy hy=>h y (Ki _ hy),Ky]
  congr 1;omega
theorem BG{e:Ent}(A:D3 a b d)(h:∀x∈L_,¬ (x.h=e.h/\x.k=e.k)):rBm .remove (.ref b) [e.d] (H3 M0 a b d at_ (L_++e::sn2) td) Q=Q .i_ (H3 M0 a b d at_ (L_++sn2) td):=by
 have e1:res (H3 M0 a b d at_ (L_++e::sn2) td) e.d=e.d:=rfl;have e2:pls ((L_++e::sn2).map Ent.d)=true:=KE.mpr λx hx=>by
  obtain⟨y,_,rfl⟩:=KJ.mp hx;exact kL
 have e3:=sP (sn2:=sn2) L_ 0 h;have e4:((L_++e::sn2).map Ent.d).eraseIdx L_.length=(L_++sn2).map Ent.d:=by
  rw[List.map_append,Kn,List.eraseIdx_append_of_length_le (by simp)];simp
 rw[Nat.zero_add]at e3;simp only[rBm,A.gb,e1,e2,e3,e4,A.sb];rw[show pl e.d=true from kL];simp
theorem en0{e:Ent}:ar e.d (.int 0) M Q=Q (.tup [.int e.h,.int e.k]) M:=by simp[Ent.d]
theorem en1{e:Ent}:ar e.d (.int 1) M Q=Q (.int e.to) M:=by simp[Ent.d]
theorem en2{e:Ent}:ar e.d (.int 2) M Q=Q (.int e.lo) M:=by simp[Ent.d]
theorem en3{e:Ent}:ar e.d (.int 3) M Q=Q (oi e.hi) M:=by simp[Ent.d]
theorem vC{De:Ends3}{e:Ent}(A:D3 a b d)(tb:TB d_.length wy Bd td at_ (L_++e::sn2))(hh:hd<d_.length)(he:e.to=hd)(b0:0<=Bd)(z1:td.length<400)(ht:0<=t)(t3:t<=3*Bd)(b1:Bd<=10 ^ 60)(m1 : -Bd<=mo)(m2:mo<=4*Bd)(tc:TC d_ wy td at_ (L_++e::sn2))(ck:(k0 d_ hd).1*t<=mo-(a0 at_ hd).2.2/\mo-(a0 at_ hd).2.2<=(k0 d_ hd).2*t)(f1:e.lo<=mo)(f2:∀y,e.hi=some y->mo<=y)
  (k:∀LM at' LI,LM.length=td.length+1->LI.length<=(L_++e::sn2).length+1->TB d_.length wy (5*Bd) LM at' LI->TC d_ wy LM at' LI->∀E_ y12 y13 y14 LS LZ Mg,De.nx [y0,y1,y2,y3,y4,some (.ref a),y6,some (.ref b),some (.ref d),y9,y10,E_,y12,y13,y14,LS,LZ,Mg] (H3 M0 a b d at' LI LM)) :
  aR ⟨(B cls c_ e_),aa T (B cls c_ e_) (n+1)⟩ iD De ES [y0,y1,y2,y3,y4,some (.ref a),y6,some (.ref b),some (.ref d),y9,y10,some (.int hd),some e.d,y13,y14,some (.int mo),LZ,Mg] (H3 M0 a b d (at_.set hd ((a0 at_ hd).1+1,(a0 at_ hd).2.1+t,mo)) (L_++e::sn2) td):=by
 have hl:hd<at_.length:=by rw[tb.ta.la];exact hh
 have mr:=(tb.mo _ (jH hl)).2;have un:=(tb.ta.un e (by simp)).1
 rw[he]at un;have NH:(Rw.take hd ((a0 at_ hd).2.1+t) e.h e.k).fine d_.length wy:=⟨by simp[okH,Rw.h,hh],un,by simp only[Rw.r];omega⟩
 have nd:=tb.ta.nd;rw[List.map_append,Kn,List.nodup_append]at nd;have hn:∀x∈L_,¬ (x.h=e.h/\x.k=e.k):=λx hx z=>nd.2.2 (x.h,x.k) (KJ.mpr ⟨x,hx,rfl⟩) (e.h,e.k) (by simp) (by rw[z.1,z.2])
 have ta:=tb.ta.take (m:=mo) hh NH;have fin:=k (td++[(.take hd ((a0 at_ hd).2.1+t) e.h e.k,mo)]) _ _ (by simp) (by simp;omega) (tb.up hh b0 ht t3 m1 m2 ta λx hx=>.inl (by
  rcases KD.mp hx with z|z
  ·exact K2 _ z
  ·exact KI _ (Ki _ z))) (tc.step tb.ta.la hh rfl rfl (by
   obtain⟨ms,q1,q2,q3,q4⟩:=tc.s e (by simp)
   rw[he]at q3 q4;refine⟨ms,q1,q2,by omega,λm em=>?_⟩
   rw[em]at q4;exact f2 _ q4) ck λx hx=>.inl (by
  rcases KD.mp hx with z|z
  ·exact K2 _ z
  ·exact KI _ (Ki _ z)))
 have hs:hd<(at_.set hd ((a0 at_ hd).1+1,(a0 at_ hd).2.1+t,mo)).length:=by simp;exact hl
 have es:a0 (at_.set hd ((a0 at_ hd).1+1,(a0 at_ hd).2.1+t,mo)) hd=((a0 at_ hd).1+1,(a0 at_ hd).2.1+t,mo):=by rw[a0,cQ hl,Kp rfl]
 have ib:=λ{sn:List Ent}{Q:VK3}=>jV (Q:=Q) (A.ga (M0:=M0) (sn:=sn) (td:=td)) hs
 simp only[es]at ib;have tp:=λ{De:Ends3}{Z:St3}{al:List A3}{sn:List Ent}=>uZ (M0:=M0) (De:=De) (Z:=Z) (r:=.take hd ((a0 at_ hd).2.1+t) e.h e.k) (mo:=mo) (at_:=al) (sn:=sn) A z1
 simp only[Rw.d]at tp;simp only[iD,jW,tl,aE];simp[n0,tyB,jj (A.gb),↓BG A hn,↓ib,↓en0,↓gi (A.gd),↓tp,au];exact fin _ _ _ _ _ _ _
end
section
variable {wy:List Wy}{d_:List (Int×Int)}{b:PySem.Addr}{td:List (Rw×Int)}{at_:List A3}{sn:List Ent}
def uL:ISs:=tl (tl (tl aE))
theorem oR(h:k<d_.length):ar (.g_ (d_.map cD)) (.int (k:Nat)) M Q=Q (.tup [.int (k0 d_ k).1,.int (k0 d_ k).2]) M:=by
 have e:(d_.map cD)[k]?=some (cD (k0 d_ k)):=by
  rw[Kt,KC h,k0,List.getD_eq_getElem?_getD,KC h];rfl
 exact iV (cY e)
theorem xA(G:GW d_ wy)(h:k<d_.length):1<=(k0 d_ k).1/\(k0 d_ k).1<=(k0 d_ k).2/\(k0 d_ k).2<=10 ^ 31:=by
 have hm:k0 d_ k∈d_:=by rw[k0,List.getD_eq_getElem?_getD,KC h];exact K7 h
 obtain⟨h1,h2⟩:=G.ck _ hm;simp only[mJ,Bool.or_eq_false_iff,decide_eq_false_iff_not]at h1;exact⟨by omega,by omega,h2⟩
theorem vI{xs:List Int}{lo:Option Int}(hx:3<=xs.length)(G:GW d_ wy)(tb:TB d_.length wy Bd td at_ sn)(h:k<d_.length)(b0:10 ^ 43<=Bd)(b1:Bd<=10 ^ 60)(hl:inB Bd lo)(hh:inB Bd hi) :
  ∃t f l:Int,0<=t/\t<=3*Bd/\(-Bd<=f/\f<=4*Bd)/\(-Bd<=l/\l<=4*Bd)/\(lo=none->hi=none->f<=l)/\LagR (k0 d_ k).1 (k0 d_ k).2 (a0 at_ k).2.2 t f l lo hi/\∀{n:Nat}{M:MH}{Q:VK3}{E:XN},aa T (B cls c_ e_) (n+1) 53 [.tup [.int (k0 d_ k).1,.int (k0 d_ k).2],.tup [.int (a0 at_ k).1,.int (a0 at_ k).2.1,.int (a0 at_ k).2.2],.g_ (xs.map D.int),oi lo,oi hi] M Q E=Q (.tup [.int t,.int f,.int l]) M:=by
 obtain⟨c1,c2,c3⟩:=xA G h;obtain⟨m1,m2⟩:=(tb.mo _ (jH (by rw[tb.ta.la];exact h))).1
 obtain⟨t,f,l,t1,t3,f1,l1,e,lr,cl⟩:=Fw hx c1 c2 c3 b0 b1 m1 m2 hl hh;exact⟨t,f,l,t1,t3,f1,l1,e,lr,cl⟩
theorem zT{xs:List Int}{De:Ends3}(hl:xs.length=4)(G:GW d_ wy)(A:D3 a b d)(hM:Fm M0)(tb:TB d_.length wy Bd td at_ sn)(tc:TC d_ wy td at_ sn)(hh:hd<d_.length)(b0:10 ^ 43<=Bd)(b1:Bd<=10 ^ 60)(z1:td.length<400)(z2:sn.length<400)
  (k:∀LM at' LI,LM.length=td.length+1->LI.length<=sn.length+1->TB d_.length wy (5*Bd) LM at' LI->TC d_ wy LM at' LI->∀y10 E_ y12 y13 y14 LS LZ Mg,De.nx [y0,y1,y2,some (.g_ (d_.map cD)),some (.I_ (wy.map pr) (wy.map wv)),some (.ref a),y6,some (.ref b),some (.ref d),y9,y10,E_,y12,y13,y14,LS,LZ,Mg] (H3 M0 a b d at' LI LM)) :
  aR ⟨(B cls c_ e_),aa T (B cls c_ e_) (n+1)⟩ uL De ES [y0,y1,y2,some (.g_ (d_.map cD)),some (.I_ (wy.map pr) (wy.map wv)),some (.ref a),y6,some (.ref b),some (.ref d),y9,some (.g_ (xs.map D.int)),some (.int hd),y12,y13,y14,LS,LZ,Mg] (H3 M0 a b d at_ sn td):=by
 have la:=tb.ta.la;have i0:∀{M:MH}{Q:VK3},ar (.g_ (xs.map D.int)) (.int 0) M Q=Q (.int (xs.getD 0 0)) M:=λ{M Q}=>aK (k:=0) (by omega)
 have i3:∀{M:MH}{Q:VK3},ar (.g_ (xs.map D.int)) (.int 3) M Q=Q (.int (xs.getD 3 0)) M:=λ{M Q}=>aK (k:=3) (by omega)
 generalize xs.getD 0 0=x0 at i0;generalize xs.getD 3 0=x3 at i3;obtain⟨t,f,l,t1,t3,f1,l1,fl,lr,cl⟩:=vI (xs:=xs) (lo:=none) (hi:=none) (by omega) G tb hh b0 b1 (λy e=>by cases e) (λy e=>by cases e)
 have fl:=fl rfl rfl;have Qd:∀{M:MH}{Q:VK3}{E:XN},aa T (B cls c_ e_) (n+1) 53 [.tup [.int (k0 d_ hd).1,.int (k0 d_ hd).2],.tup [.int (a0 at_ hd).1,.int (a0 at_ hd).2.1,.int (a0 at_ hd).2.2],.g_ (xs.map D.int),.i_,.i_] M Q E=Q (.tup [.int t,.int f,.int l]) M:=cl;have ic:=λ{M:MH}{Q:VK3}=>oR (M:=M) (Q:=Q) hh
 have ia:=λ{Q:VK3}=>jV (Q:=Q) (k:=hd) (A.ga (M0:=M0) (at_:=at_) (sn:=sn) (td:=td)) (by omega)
 have plain:∀y14,aR ⟨(B cls c_ e_),aa T (B cls c_ e_) (n+1)⟩ jW De ES [y0,y1,y2,some (.g_ (d_.map cD)),some (.I_ (wy.map pr) (wy.map wv)),some (.ref a),y6,some (.ref b),some (.ref d),y9,some (.g_ (xs.map D.int)),some (.int hd),some .i_,some (.tup [.int t,.int f,.int l]),y14,LS,LZ,Mg] (H3 M0 a b d at_ sn td):=λy14=>
  pM hl G.w36 A hM (by omega) fl λmo r m1 m2 r1 r2 r3 r4 r5=>wm G A tb hh b0 z1 z2 t1 t3 b1 (by omega) (by omega) r1 r2 r3 r4 r5 tc ⟨by have:=lr.f0;omega,by have:=lr.l0;omega⟩ λLM at' LI h1 h2 h3 h4=>k LM at' LI h1 h2 h3 h4 _
 have nn:∀{Q:VK3},aI .NotEq (.ref b) (.g_ []) (H3 M0 a b d at_ sn td) Q=Q (.bl (!(sn.map Ent.d).isEmpty)) (H3 M0 a b d at_ sn td):=λ{Q}=>m6 (by simp[ak,A.gb]) (KE.mpr λx hx=>by
  obtain⟨y,_,rfl⟩:=KJ.mp hx;exact kL) (KE.mpr λx hx=>by
  obtain⟨y,_,rfl⟩:=KJ.mp hx;exact kL)
 rw[show uL=.cons _ (.cons _ (.cons _ jW)) from rfl];by_cases c1:4<x3 / 2 % 8
 ·by_cases c2:sn=[]
  ·subst c2;simp[↓ic,↓ia,↓Qd,↓i3,cZ,↓nn];exact plain _
  ·have lp:0<sn.length:=List.length_pos_iff.mpr c2;have OC:(0:Int)<sn.length:=by omega
   obtain⟨j,hj⟩:=Le (K9 (x0 / 7) (Int.ne_of_gt OC));have jl:j<sn.length:=by have:=K3 (x0 / 7) OC;omega
   have lb:∀{Q:VK3},rBi .len [.ref b] (H3 M0 a b d at_ sn td) Q=Q (.int sn.length) (H3 M0 a b d at_ sn td):=λ{Q}=>by simp[rBi,aA,ak,A.gb]
   have xb:∀{Q:VK3},ar (.ref b) (.int (j:Nat)) (H3 M0 a b d at_ sn td) Q=Q (sn[j]).d (H3 M0 a b d at_ sn td):=λ{Q}=>by
    rw[qB A.gb];exact iV (cY (by simp[jl]))
   have hm:sn[j]∈sn:=K7 jl;generalize sn[j]=e at xb hm;obtain⟨_,e0,eH⟩:=tb.ta.un e hm;obtain⟨⟨UA,UB⟩,ein⟩:=tb.sb e hm;obtain⟨g,hg⟩:=Le e0;have gH:g<d_.length:=by omega
   obtain⟨t',f',l',TF,TH,UC,UD,_,Qe,cn⟩:=vI (xs:=xs) (lo:=some e.lo) (by omega) G tb gH b0 b1 (λy z=>by cases z;omega) ein
   have R1:∀{M:MH}{Q:VK3}{E:XN},aa T (B cls c_ e_) (n+1) 53 [.tup [.int (k0 d_ g).1,.int (k0 d_ g).2],.tup [.int (a0 at_ g).1,.int (a0 at_ g).2.1,.int (a0 at_ g).2.2],.g_ (xs.map D.int),.int e.lo,oi e.hi] M Q E=Q (.tup [.int t',.int f',.int l']) M:=cn;have q1:∀{M:MH}{Q:VK3},ar e.d (.int 1) M Q=Q (.int (g:Nat)) M:=λ{M Q}=>by rw[en1,hg]
   have R4:=λ{Q:VK3}=>jV (Q:=Q) (k:=g) (A.ga (M0:=M0) (at_:=at_) (sn:=sn) (td:=td)) (by omega)
   by_cases c3:l' < f'
   ·simp[↓ic,↓ia,↓Qd,↓i3,↓i0,cZ,c1,↓nn,c2,↓lb,lp,hj,↓xb,↓q1,↓en2,↓en3,↓oR gH,↓R4,↓R1,c3];exact plain _
   ·simp[↓ic,↓ia,↓Qd,↓i3,↓i0,cZ,c1,↓nn,c2,↓lb,lp,hj,↓xb,↓q1,↓en2,↓en3,↓oR gH,↓R4,↓R1,c3];obtain⟨L_,sn2,rfl⟩:=List.append_of_mem hm;exact pM hl G.w36 A hM (by omega) (by omega) λmo r m1 m2 r1 r2 r3 r4 r5=>vC A tb gH hg (by omega) z1 TF TH b1 (by omega) (by omega) tc ⟨by have:=Qe.f0;omega,by have:=Qe.l0;omega⟩ (by have:=Qe.fl _ rfl;omega) (λy hy=>by have:=Qe.lh y hy;omega) λLM at' LI h1 h2 h3 h4=>k LM at' LI h1 h2 h3 h4 _
 ·simp[↓ic,↓ia,↓Qd,↓i3,cZ,c1];exact plain _
theorem nQ{De:Ends3}(G:GW d_ wy)(A:D3 a b d)(hM:Fm M0)(tb:TB d_.length wy Bd td at_ sn)(tc:TC d_ wy td at_ sn)(b0:10 ^ 43<=Bd)(b1:Bd<=10 ^ 60)(z1:td.length<400)(z2:sn.length<400)
  (k:∀LM at' LI,LM.length=td.length+1->LI.length<=sn.length+1->TB d_.length wy (5*Bd) LM at' LI->TC d_ wy LM at' LI->∀y10 E_ y12 y13 y14 LS LZ Mg,De.nx [y0,y1,y2,some (.g_ (d_.map cD)),some (.I_ (wy.map pr) (wy.map wv)),some (.ref a),y6,some (.ref b),some (.ref d),some (.int c),y10,E_,y12,y13,y14,LS,LZ,Mg] (H3 M0 a b d at' LI LM)) :
  aR ⟨(B cls c_ e_),aa T (B cls c_ e_) (n+1)⟩ aE De ES [y0,y1,y2,some (.g_ (d_.map cD)),some (.I_ (wy.map pr) (wy.map wv)),some (.ref a),y6,some (.ref b),some (.ref d),some (.int c),y10,E_,y12,y13,y14,LS,LZ,Mg] (H3 M0 a b d at_ sn td):=by
 have fm:Fm (H3 M0 a b d at_ sn td):=Fm.h3 hM;have st:∀{Q:VK3}{E:XN},aa T (B cls c_ e_) (n+1) 49 [.int c,.int 4] (H3 M0 a b d at_ sn td) Q E=Q (.g_ ((aS c 4).map D.int)) (H3 M0 a b d at_ sn td):=λ{Q E}=>gI (m:=4) fm (by omega)
 have hl:(aS c 4).length=4:=cO;generalize aS c 4=xs at st hl;have i0:∀{M:MH}{Q:VK3},ar (.g_ (xs.map D.int)) (.int 0) M Q=Q (.int (xs.getD 0 0)) M:=λ{M Q}=>aK (k:=0) (by omega)
 have i3:∀{M:MH}{Q:VK3},ar (.g_ (xs.map D.int)) (.int 3) M Q=Q (.int (xs.getD 3 0)) M:=λ{M Q}=>aK (k:=3) (by omega)
 generalize xs.getD 0 0=x0 at i0;generalize xs.getD 3 0=x3 at i3;have la:=tb.ta.la;have l1:=G.l1;have l6:=G.l6;have lp:0<d_.length:=by omega
 have OC:(0:Int)<d_.length:=by omega
 obtain⟨j,hj⟩:=Le (K9 x0 (Int.ne_of_gt OC));have jl:j<d_.length:=by have:=K3 x0 OC;omega
 rw[show aE=.cons _ (.cons _ (.cons _ uL)) from rfl];by_cases c1:x3 % 2=0
 ·obtain⟨g,m,hg,cb⟩:=AE fm A.ga (by omega) (by omega)
  have ga:=A.ga (M0:=M0) (at_:=at_) (sn:=sn) (td:=td);simp[↓st,↓i0,↓i3,lp,hj,c1,ga,ax,↓cb];exact (zT hl G A hM tb tc (by omega) b0 b1 z1 z2 k)
 ·simp[↓st,↓i0,↓i3,lp,hj,c1];exact (zT hl G A hM tb tc jl b0 b1 z1 z2 k)
theorem mi{De:Ends3}(G:GW d_ wy)(A:D3 a b d)(hM:Fm M0):∀(cs:List Int)(Bd:Int) (td:List (Rw×Int)) (at_:List A3)(sn:List Ent)(y9 y10 E_ y12 y13 y14 LS LZ Mg:Option D),10 ^ 43<=Bd->Bd*5 ^ cs.length<=10 ^ 60->td.length+cs.length<=300->sn.length+cs.length<=300->TB d_.length wy Bd td at_ sn->TC d_ wy td at_ sn->
  (∀(LM:List (Rw×Int)) at' LI,(∀r∈LM.map Prod.fst,r.fine d_.length wy)->TC d_ wy LM at' LI->LM.length=td.length+cs.length->∀y9 y10 E_ y12 y13 y14 LS LZ Mg,De.nx [y0,y1,y2,some (.g_ (d_.map cD)),some (.I_ (wy.map pr) (wy.map wv)),some (.ref a),y6,some (.ref b),some (.ref d),y9,y10,E_,y12,y13,y14,LS,LZ,Mg] (H3 M0 a b d at' LI LM))->
  aP ⟨(B cls c_ e_),aa T (B cls c_ e_) (n+1)⟩ (.name 9) aE ES (λ_=>True) De (cs.map D.int) [y0,y1,y2,some (.g_ (d_.map cD)),some (.I_ (wy.map pr) (wy.map wv)),some (.ref a),y6,some (.ref b),some (.ref d),y9,y10,E_,y12,y13,y14,LS,LZ,Mg] (H3 M0 a b d at_ sn td)
 |[],Bd,td,at_,sn,y9,y10,E_,y12,y13,y14,LS,LZ,Mg,b0,b1,z1,z2,tb,tc,k=>by
  exact⟨trivial,k td at_ sn tb.ta.f tc (by simp) _ _ _ _ _ _ _ _ _⟩
 |c::cs,Bd,td,at_,sn,y9,y10,E_,y12,y13,y14,LS,LZ,Mg,b0,b1,z1,z2,tb,tc,k=>by
  simp only[Ky]at z1 z2 k b1;have p1:(1:Int)<=5 ^ cs.length:=by have:(0:Int)<5 ^ cs.length:=Int.pow_pos (by decide);omega
  have e5:Bd*5 ^ (cs.length+1)=5*Bd*5 ^ cs.length:=by rw[Int.pow_succ,Int.mul_comm (5 ^ cs.length) 5,<-Int.mul_assoc,Int.mul_comm Bd 5]
  rw[e5]at b1;have b2:5*Bd<=5*Bd*5 ^ cs.length:=by
   have:=Int.mul_le_mul_of_nonneg_left (c:=5*Bd) p1 (by omega)
   rwa [Int.mul_one]at this
  refine⟨trivial,?_⟩;refine nQ G A hM tb tc b0 (by omega) (by omega) (by omega) λLM at' LI h1 h2 h3 h4 y10 E_ y12 y13 y14 LS LZ Mg=>?_
  exact mi G A hM cs (5*Bd) LM at' LI _ _ _ _ _ _ _ _ _ (by omega) b1 (by omega) (by omega) h3 h4 λTJ a2 s2 f2 g2 l2=>k TJ a2 s2 f2 g2 (by omega)
theorem rX{De:Ends3}{st:Int}:∀(xs:List Int)(at_:List A3)(y6:Option D),at_.length+xs.length<400->
  (∀y6,De.nx (y0::some (.int st)::y2::y3::y4::some (.ref a)::y6::ys) (put M0 a (.lst ((at_++xs.map λx=>(0,x % 1000000000000-100000000000,st % 1000000000000-100000000000)).map a3D))))->
  aP W (.name 6) dm ES (λ_=>True) De (xs.map D.int) (y0::some (.int st)::y2::y3::y4::some (.ref a)::y6::ys) (put M0 a (.lst (at_.map a3D)))
 |[],at_,y6,hl,hR=>by
  have:=hR y6;rw[List.map_nil,KZ]at this;exact⟨trivial,this⟩
 |x::xs,at_,y6,hl,hR=>by
  simp only[Ky]at hl;have hs:at_.length<PySem.sizeLine:=Kv (show at_.length<1000 by omega) (by decide)
  have ih:=rX (W:=W) (ES:=ES) xs (at_++[(0,x % 1000000000000-100000000000,st % 1000000000000-100000000000)]) (some (.int x)) (by simp;omega) (λy6=>by
   have:=hR y6;simpa using this)
  rw[Kn,aD];simp only[dm]at ih ⊢;simp[lH,hs,au];simpa [a3D] using ih
theorem F7(ha:M a=none)(hb:M b=none)(hd:M d=none):av M (del (H3 M a b d at_ sn td) d)=M:=by
 funext k;unfold av del H3 put;by_cases k1:k=d
 ·subst k1;simp[hd]
 ·by_cases k2:k=b
  ·subst k2;simp[hb]
  ·by_cases k3:k=a
   ·subst k3;simp[ha]
   ·simp[k1,k2,k3];cases M k<;>rfl
theorem AT{st:Int}{cs:List Int}(G:GW d_ wy)(hM:Fm M)(hl:cs.length<=16)(k:∀td:List (Rw×Int),(∀r∈td.map Prod.fst,r.fine d_.length wy)->(∃at_ sn,TC d_ wy td at_ sn)->td.length<=16->Q (.g_ (td.map tdD)) M) :
  aa T (B cls c_ e_) (n+2) 56 [.tup [.g_ (d_.map cD),.I_ (wy.map pr) (wy.map wv)],.int st,.g_ (cs.map D.int)] M Q E:=by
 have l6:=G.l6;have sm:∀{M:MH}{Q:VK3}{E:XN},Fm M->aa T (B cls c_ e_) (n+1) 49 [.int st,.int (d_.length:Nat)] M Q E=Q (.g_ ((aS st d_.length).map D.int)) M:=λ{M Q E} fm=>gI fm (by omega)
 have sl:(aS st d_.length).length=d_.length:=cO;generalize aS st d_.length=xs at sm sl;simp only[ql,fZ];simp;intro a ha;simp[sm (hM.put _ _)];refine rX xs [] none (by simp;omega) λy6=>?_
 simp[-List.map_map];intro b hb d hd;obtain⟨Pw,hb⟩:=bX hb;obtain⟨LW,hd⟩:=bX hd;obtain⟨NI,hd⟩:=bX hd;have A:D3 a b d:=⟨Kz Pw,Kz NI,Kz LW⟩;generalize OL:(xs.map λx=>((0:Int),x % 1000000000000-100000000000,st % 1000000000000-100000000000))=at_
 have tb:TB d_.length wy (10 ^ 43) [] at_ []:=by
  have Q9:∀x∈at_,(-(10 ^ 43)<=x.2.2/\x.2.2<=10 ^ 43)/\(-(10 ^ 43)<=x.2.1/\x.2.1<=10 ^ 43):=λx hx=>by
   rw[<-OL]at hx;obtain⟨y,_,rfl⟩:=KJ.mp hx;exact⟨by simp only;omega,by simp only;omega⟩
  have la:at_.length=d_.length:=by rw[<-OL];simp[sl]
  refine⟨⟨λr hr=>(by cases hr),la,λe he=>(by cases he),λe he=>(by cases he),by simp⟩,Q9,λe he=>by cases he⟩
 have tc:TC d_ wy [] at_ []:=⟨rfl,λk hk=>(by
   have hz:∀x∈at_,x.1=0:=λx hx=>by rw[<-OL]at hx;obtain⟨y,_,rfl⟩:=KJ.mp hx;rfl
   exact hz _ (jH (by rw[tb.ta.la];exact hk))),λk hk h=>(by cases h),λe he=>(by cases he),λb hb=>(by cases hb),λ_ _ _ _ _ h=>(by cases h),λ_ h=>(by cases h)⟩
 refine mi G A hM cs (10 ^ 43) [] at_ [] none none none none none none none none none (by omega) ?_ (by simp;omega) (by simp;omega) tb tc λLM at' LI f g l y9 y10 E_ y12 y13 y14 LS LZ Mg=>?_
 ·have:(5:Int) ^ cs.length<=5 ^ 16:=by
   have:=Int.ofNat_le.mpr (Nat.pow_le_pow_right (show 5 > 0 by decide) hl)
   exact this
  have:=Int.mul_le_mul_of_nonneg_left (c:=(10:Int) ^ 43) this (by decide)
  exact Int.le_trans this (by decide)
 ·have:=k LM f ⟨_,_,g⟩ (by simpa [l] using hl)
  simp[aY,A.gd,F7 ha hb hd];exact this
end
section
variable {cls c_ e_:Nat->PySem.Addr}{M:MH}{Q:VK3}{E:XN}{n:Nat}{p d:PySem.Addr}{d_:List (Int×Int)}{wy:List Wy}{r:Rw}
theorem cS(h:okH d_.length i=true):aa T (B cls c_ e_) (n+3) 41 [wO c_ d_ wy,.int i] M Q E=Q .i_ M:=by rw[ju,Kp h]
theorem xu{i:Int}(h:okH d_.length i=true):aa T (B cls c_ e_) (n+4) 46 [wO c_ d_ wy,.int i] M Q E=Q (.tup [.int (k0 d_ i.toNat).1,.int (k0 d_ i.toNat).2]) M:=by
 have om:∀{M:MH}{R:Nat->Prop},cr (B cls c_ e_) 119080781550527859766002 (wO c_ d_ wy) M R=R 41:=λ{M R}=>o_m (by decide) (by decide) (by decide)
 have rh:=λ{M:MH}{Q:VK3}{E:XN}=>cS (cls:=cls) (c_:=c_) (e_:=e_) (n:=n) (M:=M) (Q:=Q) (E:=E) (wy:=wy) h
 simp only[okH,Kg,Ks]at h;obtain⟨k,rfl⟩:=Le h.1;have ix:=λ{M:MH}{Q:VK3}=>oR (M:=M) (Q:=Q) (d_:=d_) (k:=k) (by omega)
 simp only[ls,de];simp[↓om,↓rh,↓o_c,↓ix]
theorem Az{w:Wy}(hg:w.good d_.length)(hn:(wy.map pr).Nodup)(hk:w∈wy):aa T (B cls c_ e_) (n+5) 47 [wO c_ d_ wy,.int w.i,.int w.j] M Q E=Q (way w.l w.m) M:=by
 have om:∀{M:MH}{R:Nat->Prop},cr (B cls c_ e_) 119080781550527859766002 (wO c_ d_ wy) M R=R 41:=λ{M R}=>o_m (by decide) (by decide) (by decide)
 have op:∀{M:MH}{R:Nat->Prop},cr (B cls c_ e_) 135562951883986971505394 (wO c_ d_ wy) M R=R 42:=λ{M R}=>o_m (by decide) (by decide) (by decide)
 have oh:∀{M:MH}{R:Nat->Prop},cr (B cls c_ e_) 535528667410664 (wO c_ d_ wy) M R=R 45:=λ{M R}=>o_m (by decide) (by decide) (by decide)
 have r1:=λ{M:MH}{Q:VK3}{E:XN}=>cS (cls:=cls) (c_:=c_) (e_:=e_) (n:=n) (M:=M) (Q:=Q) (E:=E) (wy:=wy) hg.i
 have r2:=λ{M:MH}{Q:VK3}{E:XN}=>cS (cls:=cls) (c_:=c_) (e_:=e_) (n:=n) (M:=M) (Q:=Q) (E:=E) (wy:=wy) hg.j
 have rp:∀{M:MH}{Q:VK3}{E:XN},aa T (B cls c_ e_) (n+4) 42 [wO c_ d_ wy,.int w.i,.int w.j] M Q E=Q .i_ M:=λ{M Q E}=>by
  simp only[cf,aL];simp[↓om,↓r1,↓r2,hg.ne]
 have hw:=λ{M:MH}{Q:VK3}{E:XN}=>qc (cls:=cls) (c_:=c_) (e_:=e_) (n:=n+3) (M:=M) (Q:=Q) (E:=E) (d_:=d_) (wy:=wy) (i:=w.i) (j:=w.j)
 have hm:[w.i,w.j]∈wy.map pr:=KJ.mpr ⟨w,hk,rfl⟩;have ix:=λ{M:MH}{Q:VK3}=>qC (M:=M) (Q:=Q) hn hk
 simp only[pC,eR];simp[↓op,↓rp,↓oh,↓hw,hm,↓o_w,↓ix,wv,au]
abbrev mO:Nat:=1067955986548848835567
theorem F9(G:GW d_ wy)(hr:r.may wy)(hM:Fm M):cr (B cls c_ e_) mO (r.o c_) M (λf=>aa T (B cls c_ e_) (n+6) f [r.o c_,wO c_ d_ wy,hd] M Q E)=Q (.g_ (bg wy hd r)) M:=by
 cases r with
 |look a b=>simp[Rw.o,mO,gW,bv,bg]
 |Lx a b c d=>simp[Rw.o,mO,gg,bh,au,bg]
 |send a b c=>simp[Rw.o,mO,gX,bq,bg]
 |take a b c d=>
  obtain⟨w1,w2,w3⟩:=wC (show [c,a]∈wy.map pr from hr);have om:∀{R:Nat->Prop},cr (B cls c_ e_) 1994999 (wO c_ d_ wy) M R=R 47:=λ{R}=>o_m (by decide) (by decide) (by decide)
  have ws:=λ{Q:VK3}{E:XN}=>Az (cls:=cls) (c_:=c_) (e_:=e_) (n:=n) (M:=M) (Q:=Q) (E:=E) (G.gd _ w1) G.nd w1
  rw[w2,w3]at ws;simp only[bg];cases e:(wOf wy c a).m with
  |none=>
   simp[Rw.o,mO,c5,aW,↓om,↓ws,way,e,au];exact iff_of_eq (aC hM λp hp=>by simp[hp])
  |some m=>
   simp[Rw.o,mO,c5,aW,↓om,↓ws,way,e,au];exact iff_of_eq (aC hM λp hp=>by simp[hp,DX])
theorem ni:(bg wy hd r).length<=2:=by
 cases r with
 |take h v a b=>simp only[bg];split<;>simp
 |_=>simp[bg]
theorem nI:(eK d_ wy c lr r).length<=4:=by
 unfold eK;have:=ni (wy:=wy) (r:=r) (hd:=.tup [.int r.h,.int (c r.h)]);split<;>simp[k9]<;>omega
theorem E0(h:M d=some (.dt ks ds)):aI .In (.tup [.int i,.int j]) (.ref d) M Q=Q (.bl (getD ks ds [i,j]).isSome) M:=by
 simp[aI,nW,aA,ak,h,dQ,dh,cU,iP,bJ]
theorem DT(h:M d=some (.dt ks ds))(hv:getD ks ds [i,j]=some v):ar (.ref d) (.tup [.int i,.int j]) M Q=Q v M:=by
 simp[ar,aA,ak,h,dQ,dh,cU,iP,bJ,hv]
theorem vN{ds es:List D}(NG:p≠d)(hz:ds.length+es.length<1000):rBm .extend (.ref p) [.g_ es] (put (put M p (.lst ds)) d o) Q=Q .i_ (put (put M p (.lst (ds++es))) d o):=by
 have h:(put (put M p (.lst ds)) d o) p=some (.lst ds):=by rw[ae NG,ac]
 have hs:ds.length+es.length<=PySem.sizeLine:=KB (show ds.length+es.length<=1000 by omega) (by decide)
 simp[rBm,h,ak,hs,dM NG]
structure BI (ks:List (List Int)) (ds:List D)(c:Int->Nat)(lr:Int->Int):Prop where
 hl:ks.length=ds.length
 i1:∀h,getD ks ds [h,-1]=none
 i2:∀h,0<c h->getD ks ds [h,(c h:Int)-1]=some (.int (lr h))
 lb:∀h,-(10 ^ 62)<=lr h/\lr h<=10 ^ 62
theorem BI.step(I:BI ks ds c lr)(hv : -(10 ^ 62)<=v/\v<=10 ^ 62):BI (aj ks [h,(c h:Int)]) (ao ks ds [h,(c h:Int)] (.int v)) (bump c h) (nxt lr h v):=by
 refine⟨cA I.hl,λx=>?_,λx hx=>?_,λx=>?_⟩
 ·rw[be I.hl,Kj (λz=>by simp only[List.cons.injEq]at z;omega)];exact I.i1 x
 ·rw[be I.hl];unfold bump nxt at *
  by_cases e:x=h
  ·subst e;simp
  ·rw[Kj e]at hx ⊢;rw[Kj (λz=>by simp only[List.cons.injEq]at z;exact e z.1.symm),Kj e]
   exact I.i2 x hx
 ·unfold nxt;split
  ·exact hv
  ·exact I.lb x
theorem r8(G:GW d_ wy)(hM:Fm M)(NG:p≠d){S:MH->Prop}(hS:∀acc ks ds,S (put (put M p (.lst acc)) d (.dt ks ds))){De:Ends3}{ES:St3->XN}{x1:Option D}:∀(rows:List Rw)(c:Int->Nat)(lr:Int->Int)(acc:List D) (ks:List (List Int)) (ds:List D)(x4 x5 x6 x7:Option D),BI ks ds c lr->ks.length+rows.length<400->acc.length+4*rows.length<900->(∀r∈rows,r.fine d_.length wy)->
  (∀LK D_ x4 x5 x6 x7,De.nx [some (wO c_ d_ wy),x1,some (.ref p),some (.ref d),x4,x5,x6,x7] (put (put M p (.lst (acc++bdF d_ wy c lr rows))) d (.dt LK D_)))->
  aP ⟨(B cls c_ e_),aa T (B cls c_ e_) (n+6)⟩ (.tup [4,5]) cX ES S De (lG ((nmF (rows.map Rw.h) c).map nD) (rows.map Rw.d)) [some (wO c_ d_ wy),x1,some (.ref p),some (.ref d),x4,x5,x6,x7] (put (put M p (.lst acc)) d (.dt ks ds))
 |[],c,lr,acc,ks,ds,x4,x5,x6,x7,I,z1,z2,hf,hR=>by
  have:=hR ks ds x4 x5 x6 x7;rw[bdF,KZ]at this;show aP _ _ _ _ _ _ [] _ _;rw[aV];exact⟨hS _ _ _,this⟩
 |r::rows,c,lr,acc,ks,ds,x4,x5,x6,x7,I,z1,z2,hf,hR=>by
  simp only[Ky]at z1 z2;have f:=hf r Kl;have fm:∀{acc ks ds},Fm (put (put M p (.lst acc)) d (.dt ks ds)):=λ{_ _ _}=>(hM.put _ _).put _ _
  have gp:∀{acc ks ds},(put (put M p (.lst acc)) d (.dt ks ds)) p=some (.lst acc):=λ{_ _ _}=>by rw[ae NG,ac]
  have l1:=ni (wy:=wy) (r:=r) (hd:=.tup [.int r.h,.int (c r.h)]);have k1:=bO (ks:=ks) (k:=[r.h,(c r.h:Int)]);have ol:=nI (d_:=d_) (wy:=wy) (c:=c) (lr:=lr) (r:=r);have nx:=r8 G hM NG hS (De:=De) (ES:=ES) (x1:=x1) rows (bump c r.h) (nxt lr r.h r.r) (acc++eK d_ wy c lr r) (aj ks [r.h,(c r.h:Int)]) (ao ks ds [r.h,(c r.h:Int)] (.int r.r)) (some (.tup [.int r.h,.int (c r.h)])) (some r.d) (some (r.o c_)) (some (.tup [.int r.h,.int ((c r.h:Int)-1)])) (I.step f.b) (by omega) (by rw[KO];omega) (λx hx=>hf x (Ki _ hx)) (λLK D_ x4 x5 x6 x7=>by
   rw[List.append_assoc];exact hR LK D_ x4 x5 x6 x7)
  have ch:=λ{acc:List D}{Q:VK3}{E:XN}=>pX (cls:=cls) (c_:=c_) (e_:=e_) (n:=n+2) (Q:=Q) (E:=E) r (fm (acc:=acc) (ks:=ks) (ds:=ds))
  have co:=λ{acc:List D}{Q:VK3}{E:XN}=>F9 (cls:=cls) (c_:=c_) (e_:=e_) (n:=n) (Q:=Q) (E:=E) (hd:=.tup [.int r.h,.int (c r.h)]) G f.w (fm (acc:=acc) (ks:=ks) (ds:=ds))
  have ty:=λ{acc:List D}=>jj (gp (acc:=acc) (ks:=ks) (ds:=ds))
  have oh:=λ{M:MH}{Q:VK3}=>Di (cls:=cls) (e_:=e_) (c_:=c_) (M:=M) (Q:=Q) (r:=r)
  have or:=λ{M:MH}{Q:VK3}=>Bv (cls:=cls) (e_:=e_) (c_:=c_) (M:=M) (Q:=Q) (r:=r)
  have e1:=λ{Q:VK3}=>vN (M:=M) (Q:=Q) (ds:=acc) (es:=bg wy (.tup [.int r.h,.int (c r.h)]) r) (o:=.dt ks ds) NG (by omega)
  have ia:=λ{acc:List D}{Q:VK3}=>E0 (Q:=Q) (i:=r.h) (j:=(c r.h:Int)-1) (ac (M:=put M p (.lst acc)) (a:=d) (o:=.dt ks ds))
  have st:∀{acc:List D}{R:MH->Prop},az (.ref d) (.tup [.int r.h,.int (c r.h)]) (.int r.r) (put (put M p (.lst acc)) d (.dt ks ds)) R=R (put (put M p (.lst acc)) d (.dt (aj ks [r.h,(c r.h:Int)]) (ao ks ds [r.h,(c r.h:Int)] (.int r.r)))):=λ{acc R}=>by
   rw[pq ac (by omega),ba]
  show aP _ _ _ _ _ _ (.tup [nD (r.h,c r.h),r.d]::lG ((nmF (rows.map Rw.h) (bump c r.h)).map nD) (rows.map Rw.d)) _ _;rw[aD];refine⟨hS _ _ _,?_⟩;generalize aP ⟨(B cls c_ e_),aa T (B cls c_ e_) (n+6)⟩ (.tup [4,5]) cX ES S De (lG ((nmF (rows.map Rw.h) (bump c r.h)).map nD) (rows.map Rw.d))=K at nx ⊢;simp only[mO]at co;simp only[cX,nD];by_cases c0:0<c r.h
  ·have g2:=I.i2 r.h c0;have ix:=λ{acc:List D}{Q:VK3}=>DT (Q:=Q) (ac (M:=put M p (.lst acc)) (a:=d) (o:=.dt ks ds)) g2
   have oc:∀{M:MH}{R:Nat->Prop},cr (B cls c_ e_) 28932044387 (wO c_ d_ wy) M R=R 46:=λ{M R}=>o_m (by decide) (by decide) (by decide)
   have cc:=λ{M:MH}{Q:VK3}{E:XN}=>xu (cls:=cls) (c_:=c_) (e_:=e_) (n:=n+2) (M:=M) (Q:=Q) (E:=E) (d_:=d_) (wy:=wy) f.h
   have lb:=I.lb r.h;have fb:=f.b;have hk:=f.h;simp only[okH,Kg,Ks]at hk;obtain⟨q1,q2,q3⟩:=xA (k:=r.h.toNat) G (by omega)
   have m1:bI (k0 d_ r.h.toNat).2 (r.r-lr r.h)=True:=eX (by omega) (by omega) (by omega) (by omega)
   have m2:bI (-(k0 d_ r.h.toNat).1) (r.r-lr r.h)=True:=eX (by omega) (by omega) (by omega) (by omega)
   have cb:∀{M:MH}{Q:VK3}{E:XN},aa T (B cls c_ e_) (n+6) 19 [.tup [.int (k0 d_ r.h.toNat).1,.int (k0 d_ r.h.toNat).2],.tup [.int r.h,.int ((c r.h:Int)-1)],.tup [.int r.h,.int (c r.h)],.int (r.r-lr r.h)] M Q E=Q (.g_ (k9 (k0 d_ r.h.toNat) r.h (c r.h) (r.r-lr r.h))) M:=λ{M Q E}=>by
    simp only[jU,cJ];simp[-List.getD_eq_getElem?_getD,m1,m2,k9,au]
   have e2:=λ{Q:VK3}=>vN (M:=M) (Q:=Q) (ds:=acc++bg wy (.tup [.int r.h,.int (c r.h)]) r) (es:=k9 (k0 d_ r.h.toNat) r.h (c r.h) (r.r-lr r.h)) (o:=.dt ks ds) NG (by rw[KO];simp[k9];omega)
   rw[show eK d_ wy c lr r=bg wy (.tup [.int r.h,.int (c r.h)]) r++k9 (k0 d_ r.h.toNat) r.h (c r.h) (r.r-lr r.h) by unfold eK;rw[Kp c0]]at nx
   simp[-List.getD_eq_getElem?_getD,↓ch,↓co,ty,↓e1,↓ia,g2,↓oh,↓or,↓oc,↓cc,↓ix,↓cb,↓e2,↓st,au];simpa [-List.getD_eq_getElem?_getD] using nx
  ·have z0:c r.h=0:=by omega
   have g1:getD ks ds [r.h,(c r.h:Int)-1]=none:=by rw[z0];exact I.i1 r.h
   rw[show eK d_ wy c lr r=bg wy (.tup [.int r.h,.int (c r.h)]) r by unfold eK;rw[Kj c0,KZ]]at nx
   simp[-List.getD_eq_getElem?_getD,↓ch,↓co,ty,↓e1,↓ia,g1,↓oh,↓or,↓st,au];simpa [-List.getD_eq_getElem?_getD] using nx
end
section
variable {p:PySem.Addr}{d_:List (Int×Int)}{wy:List Wy}{r:Rw}
theorem DK(hp:M p=none)(hd:M d=none):av M (del (put (put M p o) d u) p)=M:=by
 funext k;unfold av del put;by_cases k1:k=p
 ·subst k1;simp[hp]
 ·by_cases k2:k=d
  ·subst k2;simp[hd]
  ·simp[k1,k2];cases M k<;>rfl
theorem xp{rows:List Rw}(G:GW d_ wy)(hM:Fm M)(hl:rows.length<=64)(hf:∀r∈rows,r.fine d_.length wy)
  (k:Q (.g_ (bdF d_ wy c00 l00 rows)) M):aa T (B cls c_ e_) (n+7) 20 [wO c_ d_ wy,.g_ (rows.map Rw.d)] M Q E:=by
 simp only[vz,j6];simp;intro p hp d hd;obtain⟨Oy,hd⟩:=bX hd;have fm:Fm (put (put M p (.lst [])) d (.dt [] [])):=(hM.put _ _).put _ _;have I0:BI [] [] c00 l00:=⟨rfl,λh=>rfl,λh z=>(by cases z),λh=>⟨by show -(10 ^ 62)<=(0:Int);decide,by show (0:Int)<=10 ^ 62;decide⟩⟩
 have cn:=λ{Q:VK3}{E:XN}=>sh (cls:=cls) (c_:=c_) (e_:=e_) (n:=n+4) (Q:=Q) (E:=E) rows (.inl rfl) (by omega) fm
 simp[↓cn];exact r8 G hM (Kz Oy) (λ_ _ _=>trivial) rows c00 l00 [] [] [] _ _ _ _ I0 (by simp;omega) (by simp;omega) hf λLK D_ x4 x5 x6 x7=>by
  simp[aY,ae (Kz Oy),ac,DK hp hd];exact k
end
section
variable {b:PySem.Addr}{d_:List (Int×Int)}{wy:List Wy}{rows:List Rw}
theorem Fk(h:M a=some (.dk ks ds))(hv:getD ks ds (.inl i)=some v):ar (.ref a) (.int i) M Q=Q v M:=by
 simp[ar,aA,ak,h,dQ,dh,mQ,hv]
theorem i8(C_:a≠b){De:Ends3}:∀(rs:List Rw)(ks:List Key)(ds acc:List D)(c:Int->Nat)(x3:Option D),ks.length=ds.length->ks.length+rs.length<500->acc.length+rs.length<500->(∀h,(getD ks ds (.inl h)).getD (.int 0)=.int (c h))->
  (∀LK D_ x,De.nx [log,some (.ref a),some (.ref b),x] (put (put M0 a (.dk LK D_)) b (.lst (acc++(nmF (rs.map Rw.h) c).map nD)))=R)->
  aP W (.name 3) bu ES (λ_=>True) De (rs.map Rw.d) [log,some (.ref a),some (.ref b),x3] (put (put M0 a (.dk ks ds)) b (.lst acc))=R
 |[],ks,ds,acc,c,x3,_,_,_,_,hR=>by
  have:=hR ks ds x3;simp[nmF]at this;simp[aV,this]
 |r::rs,ks,ds,acc,c,x3,hl,h1,h2,hc,hR=>by
  have ga:∀{ks ds},(put (put M0 a (.dk ks ds)) b (.lst acc)) a=some (.dk ks ds):=λ{_ _}=>by rw[ae C_,ac]
  simp only[Ky]at h1 h2;have hs:acc.length<PySem.sizeLine:=Kv (show acc.length<1000 by omega) (by decide)
  have hk:ks.length<PySem.sizeLine:=Kv (show ks.length<1000 by omega) (by decide)
  have ih:=i8 C_ (W:=W) (ES:=ES) rs (aj ks (.inl r.h)) (ao ks ds (.inl r.h) (.int (c r.h+1))) (acc++[nD (r.h,c r.h)]) (bump c r.h) (some r.d) (cA hl) (by have:=bO (ks:=ks) (k:=(.inl r.h:Key));omega) (by simp;omega) (oJ hl hc) (by
    intro LK D_ x;have:=hR LK D_ x;simpa [nmF] using this)
  have i1:=λ{M:MH}{Q:VK3}=>vM (M:=M) (Q:=Q) (r:=r)
  have gv:getD (aj ks (.inl r.h)) (ao ks ds (.inl r.h) (.int (c r.h+1))) (.inl r.h)=some (.int (c r.h+1)):=by rw[be hl,Kp rfl]
  have st:∀{R:MH->Prop},az (.ref a) (.int r.h) (.int (c r.h+1)) (put (put M0 a (.dk ks ds)) b (.lst acc)) R=R (put (put M0 a (.dk (aj ks (.inl r.h)) (ao ks ds (.inl r.h) (.int (c r.h+1))))) b (.lst acc)):=λ{R}=>by
   rw[pS ga,eq_true hk,true_and,dM C_]
  have ix:=λ{Q:VK3}=>Fk (Q:=Q) (ga) gv
  rw[Kn,aD];simp[bu,↓i1,vR ga,tG ga,hc,↓st,↓ix,hs,au];simpa [nD,bu] using ih
theorem wj(hM:Fm M)(hl:rows.length<400):aa T (B cls c_ e_) (n+1) 59 [.g_ (rows.map Rw.d)] M Q E=Q (.g_ ((nmF (rows.map Rw.h) c00).map nD)) M:=by
 simp only[oU];simp;refine iff_of_eq (aC hM λa ha=>?_)
 simp;refine iff_of_eq (aC (hM.put _ _) λb hb=>?_)
 obtain⟨C_,hb⟩:=bX hb;refine i8 (Kz C_) rows [] [] [] _ _ rfl (by simp;omega) (by simp;omega) (λh=>rfl) λLK D_ x=>?_
 simp[ha,hb,ae C_]
end
section
variable {d_:List (Int×Int)}{wy:List Wy}{r:Rw}{rows:List Rw}{ts:List Int}
theorem BV(ns:List Int):∃cs:List Int,dq (ns.map D.int) (some 2) (some 14)=cs.map D.int/\cs.length<=12:=by
 unfold dq;rw[Kr,<-List.map_drop,<-List.map_take];refine⟨_,rfl,?_⟩;simp[HT.sIx];omega
theorem zD{td:List (Rw×Int)}(hM:Fm M)(hl:td.length<=16):gS W (.tup [0,1]) .no (.var 0) (λ_=>True) Q (td.map tdD) [none,none] M=Q (.g_ ((td.map Prod.fst).map Rw.d)) M:=by
 rw[cz tdD (λZ=>∃a b,Z=[a,b]) (λp=>[some p.1.d,some (.int p.2)]) (λ_=>true) (λp=>p.1.d) ⟨_,_,rfl⟩ hM (by omega) (λp _=>⟨⟨_,_,rfl⟩,λZ ⟨a,b,e⟩ M k=>by
  subst e;simp[tdD,lD]⟩) (λ_ _ _ _ _=>rfl) (λp _ _ M' hE Q=>by simp),List.filter_eq_self.mpr (λ_ _=>rfl),List.map_map]
 rfl
end
section
abbrev Nm:=List Int
def lk{α:Type}:List (Nm×α)->Nm->Option α
 |[],_=>none
 |(q,u)::r,k=>if q=k then some u else lk r k
def ins:List (Nm×α)->Nm->α->List (Nm×α)
 |[],k,v=>[(k,v)]
 |(q,u)::r,k,v=>if q=k then (q,v)::r else (q,u)::ins r k v
abbrev K1{α:Type}(l:List (Nm×α)):List Nm:=l.map Prod.fst
theorem cI:∀{l:List (Nm×α)},lk (ins l k v) q=if k=q then some v else lk l q
 |[]=>by simp[ins,lk]
 |(a,u)::r=>by
  simp only[ins];by_cases h:a=k
  ·subst h;simp only[if_true,lk];split<;>rfl
  ·simp only[Kj h,lk];by_cases h2:a=q
   ·subst h2;rw[Kp rfl,Kj (Kz h),Kp rfl]
   ·rw[Kj h2,Kj h2];exact cI
theorem jR:∀{l:List (Nm×α)},lk l k=some v->(k,v)∈l
 |[],h=>by cases h
 |(a,u)::r,h=>by
  simp only[lk]at h;split at h
  ·rename_i e;subst e;cases h;exact Kl
  ·exact Ki _ (jR h)
theorem Av:∀{l:List (Nm×α)},(K1 l).Nodup->(k,v)∈l->lk l k=some v
 |[],_,h=>by cases h
 |(a,u)::r,hn,h=>by
  simp only[Kn,KN]at hn;simp only[lk];rcases Kq.mp h with e|h
  ·cases e;rw[Kp rfl]
  ·rw[Kj (λz=>hn.1 (by rw[z];exact KJ.mpr ⟨_,h,rfl⟩))]
   exact Av hn.2 h
theorem lk_key:∀{l:List (Nm×α)},k∈K1 l<->(lk l k).isSome=true
 |[]=>by simp[lk]
 |(a,u)::r=>by
  have ih:=lk_key (k:=k) (l:=r);simp only[Kn,lk]at ih ⊢;by_cases h:a=k
  ·simp[h]
  ·rw[Kj h,<-ih];simp[Kz h]
theorem iB:∀{l:List (Nm×α)},K1 (ins l k v)=if k∈K1 l then K1 l else K1 l++[k]
 |[]=>by simp[ins]
 |(a,u)::r=>by
  have ih:=iB (k:=k) (v:=v) (l:=r);simp only[ins];by_cases h:a=k
  ·subst h;simp
  ·rw[Kj h];simp only[K1,Kn,Kq,Kz h,false_or]at ih ⊢;rw[ih];by_cases z:k∈List.map Prod.fst r
   ·rw[Kp z,Kp z]
   ·rw[Kj z,Kj z];rfl
theorem n6(h:(K1 l).Nodup):(K1 (ins l k v)).Nodup:=by
 rw[iB];split
 ·exact h
 ·rename_i z;rw[List.nodup_append];exact⟨h,by simp,λa ha b hb=>by rw[KF.mp hb];exact λe=>z (e▸ha)⟩
theorem dZ{α:Type}(f:α->D){k:Nm}:∀{l:List (Nm×α)},getD (K1 l) (l.map λp=>f p.2) k=(lk l k).map f
 |[]=>by simp[getD,lk]
 |(a,u)::r=>by
  have ih:=dZ f (k:=k) (l:=r);simp only[Kn,getD,lk]at ih ⊢;split
  ·rfl
  ·exact ih
theorem kU:∀{l:List (Nm×α)},aj (K1 l) k=K1 (ins l k v)
 |[]=>by simp[aj,ins]
 |(a,u)::r=>by
  have ih:=kU (k:=k) (v:=v) (l:=r);simp only[Kn,aj,ins]at ih ⊢;split
  ·simp
  ·simp[ih]
theorem kj(f:α->D):∀{l:List (Nm×α)},ao (K1 l) (l.map λp=>f p.2) k (f v)=(ins l k v).map λp=>f p.2
 |[]=>by simp[ao,ins]
 |(a,u)::r=>by
  have ih:=kj f (k:=k) (v:=v) (l:=r);simp only[Kn,ao,ins]at ih ⊢;split
  ·simp
  ·simp[ih]
theorem jB:∀{l k:List Nm},l.Nodup->(∀x∈l,x∈k)->l.length<=k.length
 |[],_,_,_=>Nat.zero_le _
 |a::l,k,hn,hs=>by
  rw[KN]at hn;have h1:a∈k:=hs a Kl;have h2:l.length<=(k.erase a).length:=jB hn.2 λx hx=>(List.mem_erase_of_ne (λe:x=a=>hn.1 (by rw[<-e];exact hx))).mpr (hs x (Ki _ hx))
  rw[List.length_erase_of_mem h1]at h2;have:0<k.length:=List.length_pos_of_mem h1;simp only[Ky];omega
structure Nt where
 ks:List Nm
 row:Nm->List (Nm×Int)
def Ed(N:Nt)(x y:Nm)(w:Int):Prop:=x∈N.ks/\(y,w)∈N.row x
structure WN (N:Nt):Prop where
 nd:N.ks.Nodup
 row:∀x∈N.ks,(K1 (N.row x)).Nodup/\∀e∈N.row x,e.1∈N.ks/\e.1≠x
inductive Wk (N:Nt) (x:Nm):Nm->Int->Prop where
 |nil:Wk N x x 0
 |snoc {y z:Nm}{v w:Int} (h:Wk N x y v) (e:Ed N y z w):Wk N x z (v+w)
def Pot(N:Nt)(p:Nm->Int):Prop:=∀x y w,Ed N x y w->p y-p x<=w
theorem Wk.pot(hp:Pot N p)(h:Wk N x y v):p y-p x<=v:=by
 induction h with
 |nil=>omega
 |snoc _ e ih=>have:=hp _ _ _ e;omega
def IsD(N:Nt)(x y:Nm):Option Int->Prop
 |some d=>Wk N x y d/\∀v,Wk N x y v->d<=v
 |none=>∀v,¬ Wk N x y v
structure SB where
 S:List (Nm×Int)
 B:List (Nm×Nm)
def ji(S:List (Nm×Int))(y:Nm)(t:Int):Bool:=match lk S y with
 |none=>true
 |some v=>decide (t<v)
def rl(x:Nm)(st:SB×List Nm)(e:Nm×Int):SB×List Nm:=match lk st.1.S x with
 |none=>st
 |some u=>if ji st.1.S e.1 (u+e.2)=true then (⟨ins st.1.S e.1 (u+e.2),ins st.1.B e.1 x⟩,st.2++[e.1]) else st
def goF(x:Nm)(row:List (Nm×Int))(st:SB):SB×List Nm:=row.foldl (rl x) (st,[])
def Wx(N:Nt)(X:List Nm)(y:Nm)(v:Int):Prop:=∃x∈X,Wk N x y v
structure J (N:Nt)(X:List Nm)(Mc:Nm->Prop)(s:SB):Prop where
 k:∀y v,lk s.S y=some v->y∈N.ks/\Wx N X y v
 nd:(K1 s.S).Nodup
 s0:∀x∈X,∃u,lk s.S x=some u/\u<=0
 pd:∀z,Mc z->(lk s.S z).isSome=true
 rel:∀x u,lk s.S x=some u->¬ Mc x->∀y w,(y,w)∈N.row x->∃v,lk s.S y=some v/\v<=u+w
 b:∀y∈K1 s.B,y∈N.ks
 bn:(K1 s.B).Nodup
 pf:∃l,K1 s.S=X++l
variable {N:Nt}{X:List Nm}{p:Nm->Int}
theorem J.low{s:SB}(W:WN N)(hp:Pot N p)(I:J N X Mc s)(hx:lk s.S x=some u)(he:(y,w)∈N.row x)(hl:ji s.S y (u+w)=true) :
  J N X (λz=>Mc z\/z=y) ⟨ins s.S y (u+w),ins s.B y x⟩:=by
 obtain⟨xk,xw⟩:=I.k x u hx;obtain⟨yk,yx⟩:=(W.row x xk).2 _ he;have wy:Wx N X y (u+w):=by obtain⟨q,hq,xw⟩:=xw;exact⟨q,hq,xw.snoc ⟨xk,he⟩⟩
 have old:∀v,lk s.S y=some v->u+w<v:=λv hv=>by
  unfold ji at hl;rw[hv]at hl;simpa using hl
 have mono:∀z v,lk s.S z=some v->∃v',lk (ins s.S y (u+w)) z=some v'/\v'<=v:=λz v hv=>by
  rw[cI];by_cases e:y=z
  ·subst e;rw[Kp rfl];exact⟨_,rfl,by have:=old v hv;omega⟩
  ·rw[Kj e];exact⟨v,hv,by omega⟩
 refine⟨λz v hz=>?_,n6 I.nd,?_,λz hz=>?_,λz v hz R5 a c Px=>?_,λz hz=>?_,n6 I.bn,by
  obtain⟨l,e⟩:=I.pf;show ∃l,K1 (ins s.S y (u+w))=_;rw[iB];split
  ·exact⟨l,e⟩
  ·exact⟨l++[y],by rw[e,List.append_assoc]⟩⟩
 ·rw[cI]at hz;split at hz
  ·rename_i e;subst e;cases hz;exact⟨yk,wy⟩
  ·exact I.k z v hz
 ·intro q hq;obtain⟨v,v1,v2⟩:=I.s0 q hq;obtain⟨v',v3,v4⟩:=mono q v v1;exact⟨v',v3,by omega⟩
 ·rcases hz with hz|rfl
  ·obtain⟨v,hv⟩:=KL.mp (I.pd z hz);obtain⟨v',Qq,_⟩:=mono z v hv;rw[Qq];rfl
  ·show (lk (ins s.S z (u+w)) z).isSome=true;rw[cI,Kp rfl];rfl
 ·have ey:y≠z:=λe=>R5 (.inr e.symm)
  have NJ:lk (ins s.S y (u+w)) z=some v:=hz;rw[cI,Kj ey]at NJ;obtain⟨t,t1,t2⟩:=I.rel z v NJ (λq=>R5 (.inl q)) a c Px
  obtain⟨t',t3,t4⟩:=mono a t t1;exact⟨t',t3,by omega⟩
 ·rw[iB]at hz;split at hz
  ·exact I.b z hz
  ·rcases KD.mp hz with hz|hz
   ·exact I.b z hz
   ·rw[KF.mp hz];exact yk
end
section
variable {N:Nt}{X:List Nm}{p:Nm->Int}
theorem J.mono{s:SB}(I:J N X P s)(h:∀z,P z->P' z)(h':∀z,P' z->(lk s.S z).isSome=true):J N X P' s:=
 ⟨I.k,I.nd,I.s0,h',λx u hx hn=>I.rel x u hx λz=>hn (h x z),I.b,I.bn,I.pf⟩
def mx(p:Nm->Int)(X:List Nm):Int:=X.foldr (λx a=>max (p x) a) 0
theorem zZ:∀{X:List Nm}{x:Nm},x∈X->p x<=mx p X
 |y::X,x,h=>by
  simp only[mx,List.foldr_cons];rcases Kq.mp h with rfl|h
  ·omega
  ·have:=zZ h;unfold mx at this;omega
theorem Wx.pot(hp:Pot N p)(h:Wx N X y v):p y-mx p X<=v:=by
 obtain⟨x,hx,h⟩:=h;have:=h.pot hp;have:=zZ (p:=p) hx;omega
theorem Wx.snoc(h:Wx N X y v)(e:Ed N y z w):Wx N X z (v+w):=by
 obtain⟨x,hx,h⟩:=h;exact⟨x,hx,h.snoc e⟩
def i9(p:Nm->Int)(X:List Nm):List (Nm×Int)->Nat
 |[]=>0
 |(y,v)::r=>(v-(p y-mx p X)).toNat+i9 p X r
theorem lP:∀{S:List (Nm×Int)},lk S y=some v->i9 p X (ins S y t)+(v-(p y-mx p X)).toNat=i9 p X S+(t-(p y-mx p X)).toNat
 |[],h=>by cases h
 |(q,u)::r,h=>by
  simp only[lk]at h;simp only[ins];split at h
  ·rename_i e;subst e;cases h;rw[Kp rfl];simp only[i9];omega
  ·rename_i e;rw[Kj e];have:=lP (y:=y) (t:=t) (v:=v) (S:=r) h;simp only[i9];omega
theorem ins_len{l:List (Nm×α)}:(ins l k v).length=if k∈K1 l then l.length else l.length+1:=by
 have h:=congrArg List.length (iB (k:=k) (v:=v) (l:=l));simp only[Kr]at h;rw[h];split<;>simp
def Lt(N:Nt)(p:Nm->Int)(X:List Nm)(a b:SB):Prop:=Prod.Lex (· < ·) (· < ·) (N.ks.length-a.S.length,i9 p X a.S) (N.ks.length-b.S.length,i9 p X b.S)
theorem Lt.trans(h:Lt N p X a b)(g:Lt N p X b c):Lt N p X a c:=by
 unfold Lt at *
 omega
theorem AM{s:SB}(hp:Pot N p)(I:J N X Mc s)(yk:y∈N.ks)(wy:Wx N X y t)(hl:ji s.S y t=true):Lt N p X ⟨ins s.S y t,ins s.B y x⟩ s:=by
 unfold Lt;rw[Prod.lex_def];simp only;rw[ins_len];cases h:lk s.S y with
 |none=>
  have hn:y∉K1 s.S:=λz=>by rw[lk_key,h]at z;cases z
  rw[Kj hn];have:(y::K1 s.S).length<=N.ks.length:=jB (KN.mpr ⟨hn,I.nd⟩) λz hz=>by
   rcases Kq.mp hz with rfl|hz
   ·exact yk
   ·obtain⟨v,hv⟩:=KL.mp (lk_key.mp hz);exact (I.k z v hv).1
  simp only[Ky,Kr]at this;omega
 |some v=>
  have hm:y∈K1 s.S:=lk_key.mpr (by rw[h];rfl)
  rw[Kp hm];right;have e:=lP (p:=p) (X:=X) (t:=t) h;have h1:=wy.pot hp;unfold ji at hl;rw[h]at hl;have hl:t<v:=by simpa using hl
  omega
theorem qK{Mc:Nm->Prop}(W:WN N)(hp:Pot N p){x:Nm}{u:Int}(xk:x∈N.ks):∀(post pre:List (Nm×Int)) (s:SB)(fl:List Nm),N.row x=pre++post->J N X (λz=>Mc z\/z∈fl) s->lk s.S x=some u->(∀e∈pre,∃v,lk s.S e.1=some v/\v<=u+e.2)->
  J N X (λz=>Mc z\/z∈(post.foldl (rl x) (s,fl)).2) (post.foldl (rl x) (s,fl)).1/\lk (post.foldl (rl x) (s,fl)).1.S x=some u/\(∀e∈pre++post,∃v,lk (post.foldl (rl x) (s,fl)).1.S e.1=some v/\v<=u+e.2)/\
  (∀z∈fl,z∈(post.foldl (rl x) (s,fl)).2)/\(post.foldl (rl x) (s,fl)=(s,fl)\/Lt N p X (post.foldl (rl x) (s,fl)).1 s)
 |[],pre,s,fl,_,I,hx,Ma=>⟨I,hx,by simpa using Ma,λz hz=>hz,.inl rfl⟩
 |(y,w)::post,pre,s,fl,e,I,hx,Ma=>by
  have he:(y,w)∈N.row x:=by rw[e];simp
  rw[List.foldl_cons];by_cases hl:ji s.S y (u+w)=true
  ·have hr:rl x (s,fl) (y,w)=(⟨ins s.S y (u+w),ins s.B y x⟩,fl++[y]):=by
    unfold rl;simp only[hx,hl,if_true]
   rw[hr];have I':=I.low W hp hx he hl;have QD:y≠x:=((W.row x xk).2 _ he).2;have old:∀v,lk s.S y=some v->u+w<v:=λv hv=>by
    unfold ji at hl;rw[hv]at hl;simpa using hl
   obtain⟨a1,a2,a3,a4,a5⟩:=qK W hp xk post (pre++[(y,w)]) _ (fl++[y]) (by rw[e];simp) (I'.mono (λz hz=>by
     rcases hz with (h|h)|h
     ·exact .inl h
     ·exact .inr (by simp[h])
     ·exact .inr (by simp[h])) λz hz=>I'.pd z (by
     rcases hz with h|h
     ·exact .inl (.inl h)
     ·rcases KD.mp h with h|h
      ·exact .inl (.inr h)
      ·exact .inr (KF.mp h))) (by show lk (ins s.S y (u+w)) x=_;rw[cI,Kj QD];exact hx) (λq hq=>by
     rw[cI];by_cases ey:y=q.1
     ·rw[Kp ey];refine⟨u+w,rfl,?_⟩;rcases KD.mp hq with h|h
      ·obtain⟨v,v1,v2⟩:=Ma q h;rw[<-ey]at v1;have:=old v v1;omega
      ·rw[KF.mp h];exact Int.le_refl _
     ·rw[Kj ey];rcases KD.mp hq with h|h
      ·exact Ma q h
      ·rw[KF.mp h]at ey;exact absurd rfl ey)
   refine⟨a1,a2,by simpa using a3,λz hz=>a4 z (by simp[hz]),.inr ?_⟩
   have l1:Lt N p X ⟨ins s.S y (u+w),ins s.B y x⟩ s:=AM hp I ((W.row x xk).2 _ he).1 (Wx.snoc (I.k x u hx).2 ⟨xk,he⟩) hl;rcases a5 with a5|a5
   ·rw[a5];exact l1
   ·exact a5.trans l1
  ·have hr:rl x (s,fl) (y,w)=(s,fl):=by
    unfold rl;simp only[hx];rw[Kj hl]
   rw[hr];obtain⟨a1,a2,a3,a4,a5⟩:=qK W hp xk post (pre++[(y,w)]) s fl (by rw[e];simp) I hx (λq hq=>by
     rcases KD.mp hq with h|h
     ·exact Ma q h
     ·rw[KF.mp h];unfold ji at hl;cases hv:lk s.S y with
      |none=>rw[hv]at hl;exact absurd rfl hl
      |some v=>
       rw[hv]at hl;have hl:¬ u+w<v:=by simpa using hl
       exact⟨v,rfl,by omega⟩)
   exact⟨a1,a2,by simpa using a3,a4,a5⟩
theorem put1_mem:∀{l:List Nm},z∈aj l k<->z=k\/z∈l
 |[]=>by simp[aj]
 |a::l=>by
  simp only[aj];by_cases h:a=k
  ·subst h;simp
  ·rw[Kj h,Kq,put1_mem,Kq];constructor
   ·rintro (h|h|h)
    ·exact .inr (.inl h)
    ·exact .inl h
    ·exact .inr (.inr h)
   ·rintro (h|h|h)
    ·exact .inr (.inl h)
    ·exact .inl h
    ·exact .inr (.inr h)
theorem puts_mem:∀{fl ag:List Nm},z∈fl.foldl aj ag<->z∈fl\/z∈ag
 |[],ag=>by simp
 |a::fl,ag=>by
  rw[List.foldl_cons,puts_mem,put1_mem,Kq];constructor
  ·rintro (h|h|h)
   ·exact .inl (.inr h)
   ·exact .inl (.inl h)
   ·exact .inr h
  ·rintro ((h|h)|h)
   ·exact .inr (.inl h)
   ·exact .inl h
   ·exact .inr (.inr h)
def fU(N:Nt)(st:SB×List Nm)(x:Nm):SB×List Nm:=((goF x (N.row x) st.1).1,(goF x (N.row x) st.1).2.foldl aj st.2)
theorem on(W:WN N)(hp:Pot N p){x:Nm}{fs:List Nm}{s:SB}{ag:List Nm}(I:J N X (λz=>z∈x::fs\/z∈ag) s) :
  J N X (λz=>z∈fs\/z∈(fU N (s,ag) x).2) (fU N (s,ag) x).1/\(fU N (s,ag) x=(s,ag)\/Lt N p X (fU N (s,ag) x).1 s):=by
 obtain⟨u,hu⟩:=KL.mp (I.pd x (.inl Kl));have xk:=(I.k x u hu).1;obtain⟨a1,a2,a3,_,a5⟩:=qK W hp xk (N.row x) [] s [] rfl (I.mono (λz hz=>.inl hz) λz hz=>I.pd z (by simpa using hz)) hu (λ_ h=>by cases h)
 have hs:fU N (s,ag) x=(((N.row x).foldl (rl x) (s,[])).1,((N.row x).foldl (rl x) (s,[])).2.foldl aj ag):=rfl;rw[hs];refine⟨⟨a1.k,a1.nd,a1.s0,λz hz=>a1.pd z ?_,λz v hz hn y w hy=>?_,a1.b,a1.bn,a1.pf⟩,?_⟩
 ·rcases hz with h|h
  ·exact .inl (.inl (Ki _ h))
  ·rcases puts_mem.mp h with h|h
   ·exact .inr h
   ·exact .inl (.inr h)
 ·by_cases e:z=x
  ·subst e;rw[a2]at hz;cases hz;exact a3 (y,w) (by simpa using hy)
  ·refine a1.rel z v hz (λq=>hn ?_) y w hy
   rcases q with (q|q)|q
   ·rcases Kq.mp q with q|q
    ·exact absurd q e
    ·exact .inl q
   ·exact .inr (puts_mem.mpr (.inr q))
   ·exact .inr (puts_mem.mpr (.inl q))
 ·rcases a5 with a5|a5
  ·rw[a5];exact .inl rfl
  ·exact .inr a5
theorem kz(W:WN N)(hp:Pot N p):∀(fs:List Nm)(s:SB)(ag:List Nm),J N X (λz=>z∈fs\/z∈ag) s->
  J N X (λz=>z∈(fs.foldl (fU N) (s,ag)).2) (fs.foldl (fU N) (s,ag)).1/\(fs.foldl (fU N) (s,ag)=(s,ag)\/Lt N p X (fs.foldl (fU N) (s,ag)).1 s)
 |[],s,ag,I=>⟨I.mono (λz hz=>by simpa using hz) λz hz=>I.pd z (.inr hz),.inl rfl⟩
 |x::fs,s,ag,I=>by
  obtain⟨I',a5⟩:=on W hp I;rw[List.foldl_cons];generalize fU N (s,ag) x=r at I' a5;obtain⟨b1,b2⟩:=kz W hp fs r.1 r.2 I';refine⟨b1,?_⟩;rcases a5 with a5|a5
  ·subst a5;exact b2
  ·rcases b2 with b2|b2
   ·right;rw[show fs.foldl (fU N) r=r from b2];exact a5
   ·exact .inr (b2.trans a5)
abbrev stepF(N:Nt)(s:SB)(fs:List Nm):SB×List Nm:=fs.foldl (fU N) (s,[])
inductive Run (N:Nt):Nat->SB->List Nm->SB->Prop where
 |done (s:SB):Run N 0 s [] s
 |step {m:Nat}{s s':SB}{fs:List Nm} (h:fs≠[]) (r:Run N m (stepF N s fs).1 (stepF N s fs).2 s'):Run N (m+1) s fs s'
theorem DF(W:WN N)(hp:Pot N p):∀(s:SB)(fs:List Nm),J N X (λz=>z∈fs) s->∃m s',Run N m s fs s'/\J N X (λ_=>False) s':=by
 have wf:WellFounded (Lt N p X):=InvImage.wf (λs:SB=>(N.ks.length-s.S.length,i9 p X s.S)) (Prod.lex ⟨_,Nat.lt_wfRel.wf⟩ ⟨_,Nat.lt_wfRel.wf⟩).wf
 intro s
 induction s using wf.induction with
 |_ s ih=>
  intro fs I;by_cases hf:fs=[]
  ·subst hf;exact⟨0,s,.done s,I.mono (λz hz=>by cases hz) λz hz=>hz.elim⟩
  ·obtain⟨a1,a2⟩:=kz W hp fs s [] (I.mono (λz hz=>.inl hz) λz hz=>I.pd z (by simpa using hz))
   by_cases hg:(stepF N s fs).2=[]
   ·refine⟨1,(stepF N s fs).1,.step hf ?_,a1.mono (λz hz=>by
      have NJ:z∈(stepF N s fs).2:=hz;rw[hg]at NJ;cases NJ) λz hz=>hz.elim⟩
    rw[hg];exact .done _
   ·rcases a2 with a2|a2
    ·exact absurd (congrArg Prod.snd a2) hg
    ·obtain⟨m,s',r,I'⟩:=ih _ a2 _ a1;exact⟨m+1,s',.step hf r,I'⟩
theorem J.isD{x0:Nm}{s:SB}(I:J N [x0] (λ_=>False) s)(y:Nm):IsD N x0 y (lk s.S y):=by
 have key:∀{z v},Wk N x0 z v->∃u,lk s.S z=some u/\u<=v:=by
  intro z v h
  induction h with
  |nil=>exact I.s0 x0 Kl
  |snoc _ e ih=>
   obtain⟨u,u1,u2⟩:=ih;obtain⟨v,v1,v2⟩:=I.rel _ u u1 id _ _ e.2;exact⟨v,v1,by omega⟩
 cases h:lk s.S y with
 |none=>
  intro v hw;obtain⟨u,u1,_⟩:=key hw;rw[h]at u1;cases u1
 |some d=>
  obtain⟨_,q,hq,hw⟩:=I.k y d h;cases KF.mp hq;refine⟨hw,λv hw=>?_⟩
  obtain⟨u,u1,u2⟩:=key hw;rw[h]at u1;cases u1;exact u2
theorem nF{X:List Nm}:lk (X.map λx=>(x,(0:Int))) y=if y∈X then some 0 else none:=by
 induction X with
 |nil=>rfl
 |cons q X ih=>
  simp only[Kn,lk,ih];by_cases h:q=y
  ·simp[h]
  ·simp[h,Kz h]
theorem J.start(W:WN N)(hn:X.Nodup)(hx:∀x∈X,x∈N.ks):J N X (λz=>z∈X) ⟨X.map λx=>(x,0),[]⟩:=by
 have h:∀y v,lk (X.map λx=>(x,(0:Int))) y=some v->y∈X/\v=0:=λy v h=>by
  rw[nF]at h;split at h
  ·rename_i e;cases h;exact⟨e,rfl⟩
  ·cases h
 refine⟨λy v hv=>?_,by simpa [K1,Function.comp_def] using hn,λx hx=>⟨0,by show lk (X.map λx=>(x,(0:Int))) x=_;rw[nF,Kp hx],Int.le_refl _⟩,λz hz=>?_,λx u hu hn=>?_,(λy hy=>by cases hy),by simp,[],by simp[K1,Function.comp_def]⟩
 ·obtain⟨h1,rfl⟩:=h y v hv;exact⟨hx y h1,y,h1,.nil⟩
 ·show (lk (X.map λx=>(x,(0:Int))) z).isSome=true
  rw[nF,Kp hz];rfl
 ·exact absurd (h x u hu).1 hn
end
section
variable {N:Nt}{p:Nm->Int}{x y:Nm}{m:Int}
def p5(N:Nt)(x y:Nm)(m:Int):Nt:={N with row:=λz=>if z=x then ins (N.row x) y (min m ((lk (N.row x) y).getD m)) else N.row z}
theorem jk:∀{l:List (Nm×α)},e∈ins l k v->e=(k,v)\/e∈l
 |[],h=>.inl (KF.mp h)
 |(a,u)::r,h=>by
  simp only[ins]at h;split at h
  ·rename_i z;subst z;rcases Kq.mp h with h|h
   ·exact .inl h
   ·exact .inr (Ki _ h)
  ·rcases Kq.mp h with h|h
   ·exact .inr (by rw[h];exact Kl)
   ·rcases jk h with h|h
    ·exact .inl h
    ·exact .inr (Ki _ h)
theorem kG(hp:Pot N q)(h:q y-q x<=m):Pot (p5 N x y m) q:=λa b w he=>by
 obtain⟨h1,h2⟩:=he;have h2:(b,w)∈(if a=x then ins (N.row x) y (min m ((lk (N.row x) y).getD m)) else N.row a):=h2
 split at h2
 ·rename_i e;subst e;rcases jk h2 with h3|h3
  ·cases h3;cases hl:lk (N.row a) y with
   |none=>simp only[Option.getD_none];omega
   |some v=>
    have:=hp a y v ⟨h1,jR hl⟩;simp only[Option.getD_some];omega
  ·exact hp a b w ⟨h1,h3⟩
 ·exact hp a b w ⟨h1,h2⟩
theorem sr(W:WN N)(hy:y∈N.ks)(hn:x≠y):WN (p5 N x y m):=by
 refine⟨W.nd,λa ha=>?_⟩
 show (K1 (if a=x then _ else _)).Nodup/\∀e∈(if a=x then _ else _),_
 by_cases e:a=x
 ·subst e;rw[Kp rfl];refine⟨n6 (W.row a ha).1,λq hq=>?_⟩
  rcases jk hq with h|h
  ·rw[h];exact⟨hy,Kz hn⟩
  ·exact (W.row a ha).2 q h
 ·rw[Kj e];exact W.row a ha
end
section
variable {cls c_ e_:Nat->PySem.Addr}{M M0:MH}{Q:VK3}{E:XN}{n:Nat}{a b c d f r:PySem.Addr}{x y:Nm}
def nmD(k:Nm):D:=.tup (k.map D.int)
theorem ints_of:∀k:Nm,bJ (k.map D.int)=some k
 |[]=>rfl
 |i::k=>by simp[bJ,ints_of k]
theorem dj(k:Nm):iP (nmD k)=some k:=ints_of k
def dS(S:List (Nm×Int)):DO:=.dt (K1 S) (S.map λp=>.int p.2)
def dB(B:List (Nm×Nm)):DO:=.dt (K1 B) (B.map λp=>nmD p.2)
section
variable {α:Type}{l:List (Nm×α)}{g:α->D}{k:Nm}
theorem Fp(h:M a=some (.dt (K1 l) (l.map λp=>g p.2))){neg:Bool}:nW neg (nmD k) (.ref a) M Q=Q (.bl (neg ^^ (lk l k).isSome)) M:=by
 have e:=dZ g (k:=k) (l:=l);simp only[nW,aA,ak,h,dQ,dh,cU,dj,e];cases lk l k<;>rfl
theorem mZ(h:M a=some (.dt (K1 l) (l.map λp=>g p.2))):aI .NotIn (nmD k) (.ref a) M Q=Q (.bl (!(lk l k).isSome)) M:=by
 simp only[aI];rw[Fp h];simp
theorem lM{v:α}(h:M a=some (.dt (K1 l) (l.map λp=>g p.2)))(hv:lk l k=some v):ar (.ref a) (nmD k) M Q=Q (g v) M:=by
 have e:=dZ g (k:=k) (l:=l);rw[hv]at e;simp only[ar,aA,ak,h,dQ,dh,cU,dj,e,Option.map]
theorem kP{v:α}{R:MH->Prop}(h:M a=some (.dt (K1 l) (l.map λp=>g p.2)))(hz:l.length<900):az (.ref a) (nmD k) (g v) M R=R (put M a (.dt (K1 (ins l k v)) ((ins l k v).map λp=>g p.2))):=by
 have hs:(K1 l).length<PySem.sizeLine:=by rw[Kr,PySem.sizeLine_eq];omega
 simp only[az,h,dj,kU (v:=v),kj g,hs,true_and]
theorem Cw(h:M a=some (.dt (K1 l) (l.map λp=>g p.2))):rBm .get (.ref a) [nmD k,z] M Q=Q (((lk l k).map g).getD z) M:=by
 have e:=dZ g (k:=k) (l:=l);simp only[rBm,dQ,h,dh,cU,dj,e]
theorem sU(h:M a=some (.dt (K1 l) (l.map λp=>g p.2))):rBm .get (.ref a) [nmD k] M Q=Q (((lk l k).map g).getD .i_) M:=by
 have e:=dZ g (k:=k) (l:=l);simp only[rBm,dQ,h,dh,cU,dj,e]
theorem wL(h:M a=some (.dt (K1 l) (l.map λp=>g p.2))):tyB .get (.ref a) M=true:=by
 simp only[tyB,dh,cU,h];rfl
end
theorem yb:wpS W (.M9 tg o body) De ES Z M=wpE W o Z M (λx M1=>lA x M1 λd ks es=>∀φ,aP W tg body (λ_ _ _=>False) (λM=>M d=some (.w_ φ)) (iC d φ ks es De) (aw ks es) Z (put M1 d (.w_ φ))) (ES Z):=rfl
theorem yr(h:M p=some (.lst ds)):lu W e De E Z (.ref p) M=wpE W e Z M (bW p De Z) E:=by
 unfold lu;simp only[h];rfl
theorem vP{De:Ends3}{Z:St3}{p:PySem.Addr}{ds:List D}{y:D}(h:M p=some (.lst ds)):bW p De Z y M=(ds.length<PySem.sizeLine/\De.nx Z (put M p (.lst (ds++[y])))):=by
 unfold bW;simp only[h]
theorem ng{x y z:DO}(Mx:b≠f):put (put (put M b x) f y) b z=put (put M b z) f y:=by
 funext q;unfold put;by_cases q1:q=b
 ·simp[q1,Mx]
 ·simp[q1]
theorem sv{x y z w:DO}(C_:a≠b)(Nd:a≠f):put (put (put (put M a x) b y) f w) a z=put (put (put M a z) b y) f w:=by
 funext q;unfold put;by_cases q1:q=a
 ·simp[q1,C_,Nd]
 ·simp[q1]
def HG(M0:MH)(a b f:PySem.Addr)(s:SB)(fl:List Nm):MH:=put (put (put M0 a (dS s.S)) b (dB s.B)) f (.lst (fl.map nmD))
def eD(e:Nm×Int):D:=.tup [nmD e.1,.int e.2]
theorem oI:∀(l:List (Nm×Int)),aw (K1 l) (l.map λe=>.int e.2)=l.map eD
 |[]=>rfl
 |e::l=>by
  have ih:=oI l;unfold aw at ih ⊢;simp only[Kn,List.zip_cons_cons]at ih ⊢;rw[ih];rfl
theorem tz{W:WC}{φ:PySem.Heap->Prop}(C_:a≠b)(Nd:a≠f)(Mx:b≠f)(NI:d≠a)(LW:d≠b)(N9:d≠f)(hd:M0 d=some (.w_ φ)){De:Ends3}{ES:St3->XN}{R:Prop}{y0:Option D}{u:Int}:∀(post:List (Nm×Int)) (s:SB)(fl:List Nm)(x5 x6 x7:Option D),lk s.S x=some u->(∀e∈post,e.1≠x)->s.S.length+post.length<800->s.B.length+post.length<800->fl.length+post.length<800->
  (∀x5 x6 x7,De.nx [y0,some (nmD x),some (.ref a),some (.ref b),some (.ref f),x5,x6,x7] (HG M0 a b f (post.foldl (rl x) (s,fl)).1 (post.foldl (rl x) (s,fl)).2)=R)->
  aP W (.tup [5,6]) bQ ES (λM=>M d=some (.w_ φ)) De (post.map eD) [y0,some (nmD x),some (.ref a),some (.ref b),some (.ref f),x5,x6,x7] (HG M0 a b f s fl)=R
 |[],s,fl,x5,x6,x7,_,_,_,_,_,hR=>by
  have:=hR x5 x6 x7;have hS:HG M0 a b f s fl d=some (.w_ φ):=by unfold HG;rw[ae N9,ae LW,ae NI];exact hd
  simp only[List.foldl_nil]at this;rw[List.map_nil,aV];simp[hS,this]
 |(z,w)::post,s,fl,x5,x6,x7,hx,Mm,h1,h2,h3,hR=>by
  simp only[Ky]at h1 h2 h3;have hS:HG M0 a b f s fl d=some (.w_ φ):=by unfold HG;rw[ae N9,ae LW,ae NI];exact hd
  have ga:HG M0 a b f s fl a=some (.dt (K1 s.S) (s.S.map λp=>.int p.2)):=by unfold HG;rw[ae Nd,ae C_,ac];rfl
  have zx:z≠x:=Mm (z,w) Kl;rw[Kn,aD];have ih:=λ(s':SB)(Qg:List Nm) (MM:lk s'.S x=some u) (g1:s'.S.length<=s.S.length+1) (g2:s'.B.length<=s.B.length+1) (g3:Qg.length<=fl.length+1) (x5 x6 x7:Option D) (TK:∀x5 x6 x7,De.nx [y0,some (nmD x),some (.ref a),some (.ref b),some (.ref f),x5,x6,x7] (HG M0 a b f (post.foldl (rl x) (s',Qg)).1 (post.foldl (rl x) (s',Qg)).2)=R)=>tz (W:=W) (ES:=ES) C_ Nd Mx NI LW N9 hd post s' Qg x5 x6 x7 MM (λe he=>Mm e (Ki _ he)) (by omega) (by omega) (by omega) TK
  by_cases hl:ji s.S z (u+w)=true
  ·have hr:rl x (s,fl) (z,w)=(⟨ins s.S z (u+w),ins s.B z x⟩,fl++[z]):=by
    unfold rl;simp only[hx,hl,if_true]
   have lS:(ins s.S z (u+w)).length<=s.S.length+1:=by rw[ins_len];split<;>omega
   have lB:(ins s.B z x).length<=s.B.length+1:=by rw[ins_len];split<;>omega
   have Q_:=ih ⟨ins s.S z (u+w),ins s.B z x⟩ (fl++[z]) (by show lk (ins s.S z (u+w)) x=_;rw[cI,Kj zx];exact hx) lS lB (by simp) (some (nmD z)) (some (.int w)) (some (.int (u+w))) (λx5 x6 x7=>by
    have:=hR x5 x6 x7;rw[List.foldl_cons,hr]at this;exact this)
   have e1:put (HG M0 a b f s fl) a (.dt (K1 (ins s.S z (u+w))) ((ins s.S z (u+w)).map λp=>.int p.2))=HG M0 a b f ⟨ins s.S z (u+w),s.B⟩ fl:=by
    unfold HG;rw[sv C_ Nd];rfl
   have TL:HG M0 a b f ⟨ins s.S z (u+w),s.B⟩ fl b=some (.dt (K1 s.B) (s.B.map λp=>nmD p.2)):=by unfold HG;rw[ae Mx,ac];rfl
   have e2:put (HG M0 a b f ⟨ins s.S z (u+w),s.B⟩ fl) b (.dt (K1 (ins s.B z x)) ((ins s.B z x).map λp=>nmD p.2))=HG M0 a b f ⟨ins s.S z (u+w),ins s.B z x⟩ fl:=by
    unfold HG;rw[ng Mx];rfl
   have gf:HG M0 a b f ⟨ins s.S z (u+w),ins s.B z x⟩ fl f=some (.lst (fl.map nmD)):=ac;have e3:put (HG M0 a b f ⟨ins s.S z (u+w),ins s.B z x⟩ fl) f (.lst (fl.map nmD++[nmD z]))=HG M0 a b f ⟨ins s.S z (u+w),ins s.B z x⟩ (fl++[z]):=by
    unfold HG;rw[ba];simp
   have s1:∀{R:MH->Prop},az (.ref a) (nmD z) (.int (u+w)) (HG M0 a b f s fl) R=R (HG M0 a b f ⟨ins s.S z (u+w),s.B⟩ fl):=λ{R}=>by rw[kP ga (by omega),e1]
   have s2:∀{R:MH->Prop},az (.ref b) (nmD z) (nmD x) (HG M0 a b f ⟨ins s.S z (u+w),s.B⟩ fl) R=R (HG M0 a b f ⟨ins s.S z (u+w),ins s.B z x⟩ fl):=λ{R}=>by rw[kP TL (by omega),e2]
   have hsz:fl.length<PySem.sizeLine:=by rw[PySem.sizeLine_eq];omega
   have ap:∀{De:Ends3}{E:XN}{x7:Option D}{y0:Option D}{x6:Option D},lu W (.var 5) De E [y0,some (nmD x),some (.ref a),some (.ref b),some (.ref f),some (nmD z),x6,x7] (.ref f) (HG M0 a b f ⟨ins s.S z (u+w),ins s.B z x⟩ fl)=De.nx [y0,some (nmD x),some (.ref a),some (.ref b),some (.ref f),some (nmD z),x6,x7] (HG M0 a b f ⟨ins s.S z (u+w),ins s.B z x⟩ (fl++[z])):=λ{De E x7 y0 x6}=>by
    rw[yr gf];simp only[Io];rw[vP gf,e3];simp[hsz]
   rw[<-Q_];cases hz:lk s.S z with
   |none=>
    simp[bQ,eD,hS,↓lM ga hx,↓mZ ga,hz,↓s1,↓s2,↓ap]
   |some v=>
    have Ra:u+w<v:=by unfold ji at hl;rw[hz]at hl;simpa using hl
    simp[bQ,eD,hS,↓lM ga hx,↓mZ ga,↓lM ga hz,Ra,↓s1,↓s2,↓ap]
  ·have hr:rl x (s,fl) (z,w)=(s,fl):=by
    unfold rl;simp only[hx];rw[Kj hl]
   have Q_:=ih s fl hx (by omega) (by omega) (by omega) (some (nmD z)) (some (.int w)) (some (.int (u+w))) (λx5 x6 x7=>by
    have:=hR x5 x6 x7;rw[List.foldl_cons,hr]at this;exact this)
   rw[<-Q_];cases hz:lk s.S z with
   |none=>unfold ji at hl;rw[hz]at hl;exact absurd rfl hl
   |some v=>
    have Ra:¬ u+w<v:=by unfold ji at hl;rw[hz]at hl;simpa using hl
    simp[bQ,eD,hS,↓lM ga hx,↓mZ ga,hz,↓lM ga hz,Ra]
end
section
variable {b r:PySem.Addr}{x y:Nm}
abbrev dR(row:List (Nm×Int)):DO:=.dt (K1 row) (row.map λe=>.int e.2)
theorem u0{s:SB}(hf:M f=none)(ha:M a=some (dS s.S))(hb:M b=some (dB s.B))(Mv:r≠a)(Mw:r≠b)(Np:r≠f)(C_:a≠b):put (put M f (.lst [])) r (.w_ φ)=HG (put M r (.w_ φ)) a b f s []:=by
 have Nd:a≠f:=λe=>by rw[e,hf]at ha;cases ha
 have Mx:b≠f:=λe=>by rw[e,hf]at hb;cases hb
 funext q;unfold HG put;by_cases q1:q=r
 ·simp[q1,Mv,Mw,Np]
 ·by_cases q2:q=f
  ·simp[q2,Kz Np]
  ·by_cases q3:q=b
   ·simp[q3,hb,Kz Mw]
   ·by_cases q4:q=a
    ·simp[q4,ha,Kz Mv,C_]
    ·simp[q2,q3,q4]
theorem Cz{φ:PySem.Heap->Prop}{s:SB}{o u v:DO}{fl:List Nm}(hf:M f=none)(ha:M a=some u)(hb:M b=some v)(hr:M r=some o)(Mv:r≠a)(Mw:r≠b):av M (L2.del (put (HG (put M r (.w_ φ)) a b f s fl) r o) f)=put (put M a (dS s.S)) b (dB s.B):=by
 have Nd:a≠f:=λe=>by rw[e,hf]at ha;cases ha
 have Mx:b≠f:=λe=>by rw[e,hf]at hb;cases hb
 have Np:r≠f:=λe=>by rw[e,hf]at hr;cases hr
 funext q;unfold HG av L2.del put;by_cases q1:q=r
 ·simp[q1,Mv,Mw,Np,hr]
 ·by_cases q2:q=f
  ·simp[q2,hf,Kz Mx,Kz Nd]
  ·by_cases q3:q=b
   ·simp[q3,Mx,hb,Kz Mw]
   ·by_cases q4:q=a
    ·simp[q4,Nd,ha,Kz Mv]
    ·simp[q1,q2,q3,q4];cases M q<;>rfl
theorem zc{row:List (Nm×Int)}{s:SB}{u:Int}(hM:Fm M)(ha:M a=some (dS s.S))(hb:M b=some (dB s.B))(hr:M r=some (dR row))(Mv:r≠a)(Mw:r≠b)(C_:a≠b)(hx:lk s.S x=some u)(Mm:∀e∈row,e.1≠x)(h1:s.S.length+row.length<800)(h2:s.B.length+row.length<800) :
  aa T (B cls c_ e_) (n+1) 22 [.ref r,nmD x,.ref a,.ref b] M Q E=Q (.g_ ((goF x row s).2.map nmD)) (put (put M a (dS (goF x row s).1.S)) b (dB (goF x row s).1.B)):=by
 rw[za];simp[nP,yb];refine iff_of_eq (aC hM λf hf=>?_)
 have Nd:a≠f:=λe=>by rw[e,hf]at ha;cases ha
 have Mx:b≠f:=λe=>by rw[e,hf]at hb;cases hb
 have Np:r≠f:=λe=>by rw[e,hf]at hr;cases hr
 have Py:put M f (.lst []) r=some (dR row):=by rw[ae Np];exact hr
 unfold lA;simp only[Py,oI];have key:∀φ:PySem.Heap->Prop,(aP {toWB:=B cls c_ e_,call:=aa T (B cls c_ e_) n} (ITg.tup [5,6]) bQ (λx UE UG=>False) (λM=>M r=some (DO.w_ φ)) (iC r φ (K1 row) (row.map λe=>.int e.2) {nx:=λl_ M'=>aR {toWB:=B cls c_ e_,call:=aa T (B cls c_ e_) n} (ISs.cons (IS.ret (IE.var 4).u_) ISs.nil) {nx:=λx M'=>Q D.i_ (av M M'),rt:=λv M'=>Q v (av M M')} (λx i M'=>E i (av M M')) l_ M',rt:=λv M'=>Q v (av M M')}) (row.map eD) [some (D.ref r),some (nmD x),some (D.ref a),some (D.ref b),some (D.ref f),none,none,none] (put (put M f (DO.lst [])) r (DO.w_ φ)))=Q (.g_ ((goF x row s).2.map nmD)) (put (put M a (dS (goF x row s).1.S)) b (dB (goF x row s).1.B)):=λφ=>by
  rw[u0 hf ha hb Mv Mw Np C_];refine tz C_ Nd Mx Mv Mw Np ac row s [] none none none hx Mm h1 h2 (by simp;omega) λx5 x6 x7=>?_
  have g1:HG (put M r (.w_ φ)) a b f (goF x row s).1 (goF x row s).2 r=some (.w_ φ):=by unfold HG;rw[ae Np,ae Mw,ae Mv,ac]
  have g2:put (HG (put M r (.w_ φ)) a b f (goF x row s).1 (goF x row s).2) r (dR row) f=some (.lst ((goF x row s).2.map nmD)):=by rw[ae (Kz Np)];exact ac
  change (HG (put M r (.w_ φ)) a b f (goF x row s).1 (goF x row s).2 r=some (.w_ φ)/\aR _ _ _ _ _ (put (HG (put M r (.w_ φ)) a b f (goF x row s).1 (goF x row s).2) r (dR row)))=_;rw[<-Cz (φ:=φ) (fl:=(goF x row s).2) hf ha hb hr Mv Mw];simp[g1,aY,g2]
 simp only[key];exact propext ⟨λh=>h (λ_=>True),λh _=>h⟩
end
section
variable {cls c_ e_:Nat->PySem.Addr}{M M0:MH}{Q:VK3}{E:XN}{n:Nat}{a b c d f r kd:PySem.Addr}{x y:Nm}{X:List Nm}{N:Nt}{p:Nm->Int}{rp:Nm->PySem.Addr}
theorem sC:∀{l:List Nm},l.Nodup->(aj l k).Nodup
 |[],_=>by simp[aj]
 |q::l,h=>by
  rw[KN]at h;simp only[aj];split
  ·exact KN.mpr h
  ·rename_i e;refine KN.mpr ⟨λz=>?_,sC h.2⟩
   rcases put1_mem.mp z with z|z
   ·exact e z
   ·exact h.1 z
theorem mH:∀{fl ag:List Nm},ag.Nodup->(fl.foldl aj ag).Nodup
 |[],_,h=>h
 |_::fl,_,h=>mH (fl:=fl) (sC h)
theorem oP:∀{l:List Nm},(aj l k).length<=l.length+1
 |[]=>by simp[aj]
 |q::l=>by
  have:=oP (k:=k) (l:=l);simp only[aj];split<;>simp<;>omega
theorem wX:∀(post:List (Nm×Int)) (s:SB)(fl:List Nm),(post.foldl (rl x) (s,fl)).2.length<=fl.length+post.length
 |[],_,_=>by simp
 |e::post,s,fl=>by
  rw[List.foldl_cons];have h:(rl x (s,fl) e).2.length<=fl.length+1:=by
   unfold rl;cases lk s.S x with
   |none=>simp
   |some u=>simp only[];split<;>simp
  have:=wX post (rl x (s,fl) e).1 (rl x (s,fl) e).2;rw[show ((rl x (s,fl) e).1,(rl x (s,fl) e).2)=rl x (s,fl) e from rfl]at this;simp only[Ky];omega
theorem J.sz{Mc:Nm->Prop}{s:SB}(I:J N X Mc s):s.S.length<=N.ks.length/\s.B.length<=N.ks.length:=by
 have h1:=jB I.nd λz hz=>by
  obtain⟨v,hv⟩:=KL.mp (lk_key.mp hz);exact (I.k z v hv).1
 have h2:=jB I.bn I.b;simpa [K1] using And.intro h1 h2
theorem WN.sz(W:WN N)(hx:x∈N.ks):(N.row x).length<=N.ks.length:=by
 have:=jB (W.row x hx).1 λz hz=>by
  obtain⟨e,he,rfl⟩:=KJ.mp hz;exact ((W.row x hx).2 e he).1
 simpa [K1] using this
def lR(N:Nt)(rp:Nm->PySem.Addr):List (Nm×PySem.Addr):=N.ks.map λz=>(z,rp z)
def dK(N:Nt)(rp:Nm->PySem.Addr):DO:=.dt (K1 (lR N rp)) ((lR N rp).map λe=>.ref e.2)
theorem wq{l:List Nm}:lk (l.map λz=>(z,rp z)) x=if x∈l then some (rp x) else none:=by
 induction l with
 |nil=>rfl
 |cons q l ih=>
  simp only[Kn,lk,ih];by_cases h:q=x
  ·simp[h]
  ·simp[h,Kz h]
structure Eg (M:MH)(kd:PySem.Addr)(rp:Nm->PySem.Addr)(N:Nt):Prop where
 kd:M kd=some (dK N rp)
 row:∀z∈N.ks,M (rp z)=some (dR (N.row z))
theorem Eg.mono{M':MH}(h:Eg M kd rp N)(hm:∀q o,M q=some o->M' q=some o):Eg M' kd rp N:=⟨hm _ _ h.kd,λz hz=>hm _ _ (h.row z hz)⟩
theorem Eg.ix(h:Eg M kd rp N)(hx:x∈N.ks):ar (.ref kd) (nmD x) M Q=Q (.ref (rp x)) M:=lM h.kd (by unfold lR;rw[wq,Kp hx])
def dA(ag:List Nm):DO:=.dt ag (ag.map λ_=>.bl true)
theorem rW:∀{ag:List Nm},ao ag (ag.map λ_=>D.bl true) y (.bl true)=(aj ag y).map λ_=>D.bl true
 |[]=>by simp[aj,ao]
 |q::ag=>by
  have ih:=rW (ag:=ag);simp only[Kn,aj,ao];split
  ·simp
  ·simp[ih]
theorem C5{ag:List Nm}(hz:ag.length<900):az (.ref c) (nmD y) (.bl true) (put M c (dA ag)) R=R (put M c (dA (aj ag y))):=by
 have hs:ag.length<PySem.sizeLine:=by rw[PySem.sizeLine_eq];omega
 simp only[az,ac,dA,dj,rW,hs,true_and,ba]
theorem se{De:Ends3}:∀(fl ag:List Nm)(x6:Option D),ag.length+fl.length<800->(∀x6,De.nx [y0,y1,y2,y3,some (.ref c),y5,x6] (put M c (dA (fl.foldl aj ag)))=R)->
  aP W (.name 6) eS ES (λ_=>True) De (fl.map nmD) [y0,y1,y2,y3,some (.ref c),y5,x6] (put M c (dA ag))=R
 |[],ag,x6,_,hR=>by
  rw[List.map_nil,aV];simpa using hR x6
 |z::fl,ag,x6,hz,hR=>by
  have h1:(aj ag z).length<=ag.length+1:=oP;simp only[Ky]at hz;rw[Kn,aD,<-se (W:=W) (ES:=ES) fl (aj ag z) (some (nmD z)) (by omega) hR]
  simp[eS,C5 (show ag.length<900 by omega)]
def HS(M0:MH)(a b c:PySem.Addr)(s:SB)(ag:List Nm):MH:=put (put (put M0 a (dS s.S)) b (dB s.B)) c (dA ag)
theorem rA{De:Ends3}(hM:Fm M0)(W:WN N)(hp:Pot N p)(hk:N.ks.length<200)(C_:a≠b)(Px:a≠c)(Rb:b≠c)(ha:kd≠a)(hb:kd≠b)(hc:kd≠c)(Mv:∀z∈N.ks,rp z≠a)(Mw:∀z∈N.ks,rp z≠b)(Qh:∀z∈N.ks,rp z≠c)(hE:Eg M0 kd rp N) :
  ∀(fs:List Nm)(s:SB)(ag:List Nm)(x5 x6:Option D),J N X (λz=>z∈fs\/z∈ag) s->ag.Nodup->
  (∀x5 x6,De.nx [some (.ref kd),some (.ref a),some (.ref b),y3,some (.ref c),x5,x6] (HS M0 a b c (fs.foldl (fU N) (s,ag)).1 (fs.foldl (fU N) (s,ag)).2)=R)->
  aP {toWB:=B cls c_ e_,call:=aa T (B cls c_ e_) (n+1)} (.name 5) cW ES (λ_=>True) De (fs.map nmD) [some (.ref kd),some (.ref a),some (.ref b),y3,some (.ref c),x5,x6] (HS M0 a b c s ag)=R
 |[],s,ag,x5,x6,_,_,hR=>by
  rw[List.map_nil,aV];simpa using hR x5 x6
 |x::fs,s,ag,x5,x6,I,hn,hR=>by
  obtain⟨u,hu⟩:=KL.mp (I.pd x (.inl Kl));have xk:=(I.k x u hu).1;have I':=(on W hp I).1;have z1:=I.sz;have z2:=W.sz xk;have z3:ag.length<=N.ks.length:=jB hn λz hz=>by
   obtain⟨v,hv⟩:=KL.mp (I.pd z (.inr hz));exact (I.k z v hv).1
  have z4:(goF x (N.row x) s).2.length<=0+(N.row x).length:=wX (N.row x) s [];have ga:HS M0 a b c s ag a=some (dS s.S):=by unfold HS;rw[ae Px,ae C_,ac]
  have gb:HS M0 a b c s ag b=some (dB s.B):=by unfold HS;rw[ae Rb,ac]
  have gE:∀q,q≠a->q≠b->q≠c->HS M0 a b c s ag q=M0 q:=λq q1 q2 q3=>by unfold HS;rw[ae q3,ae q2,ae q1]
  have gK:Eg (HS M0 a b c s ag) kd rp N:=⟨by rw[gE _ ha hb hc];exact hE.kd,λz hz=>by rw[gE _ (Mv z hz) (Mw z hz) (Qh z hz)];exact hE.row z hz⟩
  have i1:∀{Q:VK3},ar (.ref kd) (nmD x) (HS M0 a b c s ag) Q=Q (.ref (rp x)) (HS M0 a b c s ag):=λ{Q}=>gK.ix xk
  have i2:∀{Q:VK3}{E:XN},aa T (B cls c_ e_) (n+1) 22 [.ref (rp x),nmD x,.ref a,.ref b] (HS M0 a b c s ag) Q E=Q (.g_ ((goF x (N.row x) s).2.map nmD)) (HS M0 a b c (goF x (N.row x) s).1 ag):=λ{Q E}=>by
   rw[zc (M:=HS M0 a b c s ag) (((hM.put _ _).put _ _).put _ _) ga gb (gK.row x xk) (Mv x xk) (Mw x xk) C_ hu (λe he=>((W.row x xk).2 e he).2) (by omega) (by omega)]
   unfold HS;rw[sv C_ Px,ng Rb]
  have ih:=λx6=>rA (De:=De) (ES:=ES) (R:=R) (y3:=y3) hM W hp hk C_ Px Rb ha hb hc Mv Mw Qh hE fs _ _ (some (nmD x)) x6 I' (mH hn) (λx5 x6=>by have:=hR x5 x6;rw[List.foldl_cons]at this;exact this)
  rw[Kn,aD];generalize aP {toWB:=B cls c_ e_,call:=aa T (B cls c_ e_) (n+1)} (.name 5) cW ES (λ_=>True) De (fs.map nmD)=K at ih ⊢
  simp[cW,wpG,↓i1,↓i2];refine iff_of_eq (se _ ag x6 (by omega) λx6=>?_)
  exact ih x6
end
section
variable {b r:PySem.Addr}{x y:Nm}{N:Nt}{p:Nm->Int}
def HB(M0:MH)(a b:PySem.Addr)(s:SB):MH:=put (put M0 a (dS s.S)) b (dB s.B)
theorem AI(Pz:c≠a)(PB:c≠b):HS M0 a b c s ag=HB (put M0 c (dA ag)) a b s:=by
 unfold HS HB;funext q;unfold put;by_cases q1:q=c
 ·simp[q1,Pz,PB]
 ·simp[q1]
theorem yD(hm:∀q o,M q=some o->M0 q=some o)(ha:M a=some u)(hb:M b=some v):av M (HB M0 a b s)=HB M a b s:=by
 unfold HB;rw[jF hb,jF ha];congr 2;funext q;unfold av;cases h:M q with
 |none=>rfl
 |some o=>exact hm q o h
theorem zh{l:List Nm}:l.map bR=l.map nmD:=rfl
theorem nO{ks:List Nm}(h:M c=some (.dt ks es)):rBi (.list true) [.ref c] M Q=(ks.length<=PySem.sizeLine/\Q (.g_ (ks.map nmD)) M):=by
 simp[rBi,aA,ak,h,cU,zh]
theorem xF:∀{fs:List Nm}{st:SB×List Nm},st.2.Nodup->(fs.foldl (fU N) st).2.Nodup
 |[],_,h=>h
 |_::fs,_,h=>by rw[List.foldl_cons];exact xF (mH h)
def PS(M:MH)(kd a b:PySem.Addr)(N:Nt)(X:List Nm)(sf:SB)(m:Nat)(Z:St3)(M':MH):Prop:=∃(s:SB)(fs:List Nm)(x4 x5 x6:Option D)(M1:MH),Z=[some (.ref kd),some (.ref a),some (.ref b),some (.g_ (fs.map nmD)),x4,x5,x6]/\M'=HB M1 a b s/\Fm M1/\(∀q o,M q=some o->M1 q=some o)/\J N X (λz=>z∈fs) s/\Run N m s fs sf
theorem pk{s0:SB}(hM:Fm M)(W:WN N)(hp:Pot N p)(hk:N.ks.length<200)(C_:a≠b)(ha:M a=some (dS s0.S))(hb:M b=some (dB s0.B))(TN:kd≠a)(Nv:kd≠b)(Mv:∀z∈N.ks,rp z≠a)(Mw:∀z∈N.ks,rp z≠b)(hE:Eg M kd rp N)(I:J N X (λz=>z∈K1 s0.S) s0)(R:Run N m s0 (K1 s0.S) sf)(hQ:Q .i_ (HB M a b sf)) :
  aa T (B cls c_ e_) (n+2) 23 [.ref kd,.ref a,.ref b] M Q E:=by
 have z0:=I.sz.1;rw[wF];have TR:M a=some (.dt (K1 s0.S) (s0.S.map λp=>.int p.2)):=ha
 have hl:(K1 s0.S).length<=PySem.sizeLine:=by rw[Kr,PySem.sizeLine_eq];omega
 simp[jt,nO TR];refine⟨by simpa using hl,PS M kd a b N X sf,⟨m,s0,K1 s0.S,none,none,none,M,by simp,?_,hM,λ_ _ h=>h,I,R⟩,?_⟩
 ·unfold HB;funext q;unfold put;by_cases q1:q=b
  ·simp[q1,hb]
  ·by_cases q2:q=a
   ·subst q2;simp[q1,ha]
   ·simp[q1,q2]
 ·rintro m Z M' ⟨s,fs,x4,x5,x6,M1,rfl,rfl,R6,hm,I,R⟩;cases R with
  |done=>
   simp;rw[yD hm ha hb];exact hQ
  |@step m' _ _ _ Mm R=>
   have h0:0<fs.length:=List.length_pos_iff.mpr Mm;simp[h0,iZ];intro c hc;have PB:c≠b:=λe=>by unfold HB at hc;rw[e,ac]at hc;cases hc
   have Pz:c≠a:=λe=>by unfold HB at hc;rw[e,ae C_,ac]at hc;cases hc
   have Rc:M1 c=none:=by unfold HB at hc;rw[ae PB,ae Pz]at hc;exact hc
   have Rf:=hE.mono hm;have QA:kd≠c:=λe=>by have:=Rf.kd;rw[e,Rc]at this;cases this
   have Qh:∀z∈N.ks,rp z≠c:=λz hz e=>by have:=Rf.row z hz;rw[e,Rc]at this;cases this
   obtain⟨J1,_⟩:=kz W hp fs s [] (I.mono (λz hz=>.inl hz) λz hz=>I.pd z (by simpa using hz))
   have J2:((stepF N s fs).2).Nodup:=xF List.nodup_nil;have J3:(stepF N s fs).2.length<=N.ks.length:=jB J2 λz hz=>by
    obtain⟨v,hv⟩:=KL.mp (J1.pd z hz);exact (J1.k z v hv).1
   change aP _ _ _ _ _ _ _ _ (HS M1 a b c s []);have PM:HS M1 a b c (stepF N s fs).1 (stepF N s fs).2 c=some (.dt (stepF N s fs).2 ((stepF N s fs).2.map λ_=>.bl true)):=ac
   have TU:(stepF N s fs).2.length<=PySem.sizeLine:=by rw[PySem.sizeLine_eq];omega
   rw[rA (R:=True) R6 W hp hk C_ (Kz Pz) (Kz PB) TN Nv QA Mv Mw Qh Rf fs s [] _ _ (I.mono (λz hz=>.inl hz) λz hz=>I.pd z (by simpa using hz)) List.nodup_nil]
   ·trivial
   ·intro x5 x6;simp[nO PM,TU];refine⟨m',Nat.lt_succ_self _,(stepF N s fs).1,(stepF N s fs).2,some (.ref c),x5,x6,put M1 c (dA (stepF N s fs).2),rfl,AI Pz PB,R6.put _ _,λq o h=>?_,J1,R⟩
    rw[ae (λe=>by rw[e]at h;have:=hm _ _ h;rw[Rc]at this;cases this)]
    exact hm q o h
end
section
variable {cls c_ e_:Nat->PySem.Addr}{M M0:MH}{Q:VK3}{E:XN}{n:Nat}{a b c d f r kd nn:PySem.Addr}{x y x0:Nm}{N:Nt}{p:Nm->Int}{rp:Nm->PySem.Addr}
theorem Eg.nin(h:Eg M kd rp N):aI .NotIn (nmD x) (.ref kd) M Q=Q (.bl (!decide (x∈N.ks))) M:=by
 rw[mZ h.kd];unfold lR;rw[wq];by_cases h:x∈N.ks<;>simp[h]
theorem sj(h:Eg M kd rp N)(hx:x∈N.ks):aa T (B cls c_ e_) (n+1) 21 [.ref kd,nmD x] M Q E=Q .i_ M:=by
 rw[iJ];simp[bP,h.nin,hx]
theorem pJ(C_:a≠b):HB (put (put M a u) b v) a b s=HB M a b s:=by
 unfold HB;rw[ng C_,ba]
theorem re{s:SB}(ha:M a=none)(hb:M b=none):av M (HB M a b s)=M:=by
 unfold HB;rw[gL hb,gL ha,lO]
theorem Eg.ne(h:Eg M kd rp N)(ha:M a=none):kd≠a/\∀z∈N.ks,rp z≠a:=
 ⟨λe=>(by have:=h.kd;rw[e,ha]at this;cases this),λz hz e=>(by have:=h.row z hz;rw[e,ha]at this;cases this)⟩
theorem Eg.new{o:DO}(h:Eg M kd rp N)(ha:M a=none):Eg (put M a o) kd rp N:=h.mono λq u hq=>by
 rw[ae (λe=>by rw[e,ha]at hq;cases hq)];exact hq
theorem ze(hM:Fm M)(W:WN N)(hp:Pot N p)(hk:N.ks.length<200)(hE:Eg M kd rp N)(hx:x∈N.ks)
  (hQ:∀a b s,M a=none->M b=none->a≠b->J N [x] (λ_=>False) s->Q (.ref a) (HB M a b s)):aa T (B cls c_ e_) (n+3) 24 [.ref kd,nmD x] M Q E:=by
 rw[zi];simp[nY,sj hE hx];intro a ha;simp[jC,dj,ba];refine⟨ac,λb hb=>?_⟩
 have C_:a≠b:=λe=>by rw[<-e,ac]at hb;cases hb
 have PC:M b=none:=by rwa [ae (Kz C_)]at hb
 obtain⟨m,s,R,I⟩:=DF W hp ⟨[(x,0)],[]⟩ [x] (J.start W (by simp) (by simpa using hx))
 have e1:=hE.ne ha;have e2:=hE.ne PC;refine pk ((hM.put _ _).put _ _) W hp hk C_ (by rw[ae C_,ac];rfl) ac e1.1 e2.1 e1.2 e2.2 ((hE.new ha).new hb) (J.start W (by simp) (by simpa using hx)) R ?_
 rw[pJ C_];exact hQ a b s ha PC C_ I
structure NT (c_:Nat->PySem.Addr)(M:MH)(nn kd:PySem.Addr)(rp:Nm->PySem.Addr)(N:Nt):Prop where
 nn:M nn=some (.ins 5 (c_ 5) [245117675] [.ref kd])
 eg:Eg M kd rp N
 inj:∀x∈N.ks,∀y∈N.ks,rp x=rp y->x=y
 fm:Fm M
 wn:WN N
 sz:N.ks.length<200
theorem NT.fld(h:NT c_ M nn kd rp N):d7 (B cls c_ e_) 245117675 (.ref nn) M Q=Q (.ref kd) M:=by
 simp[d7,h.nn]
theorem NT.mth{m f:Nat}{R:Nat->Prop}(h:NT c_ M nn kd rp N)(hm:G.mth 5 m=some f)(h1:245117675≠m):cr (B cls c_ e_) m (.ref nn) M R=R f:=by
 simp[cr,h.nn,hm,h1]
theorem qf{o:Option Int}:(o.map D.int).getD .i_=oi o:=by cases o<;>rfl
theorem A1(h:NT c_ M nn kd rp N)(hp:Pot N p)(hx:x∈N.ks)(hy:y∈N.ks)(hQ:∀o,IsD N x y o->Q (oi o) M):aa T (B cls c_ e_) (n+4) 34 [.ref nn,nmD x,nmD y] M Q E:=by
 rw[rb];simp[gt,h.fld,sj h.eg hy];refine ze h.fm h.wn hp h.sz h.eg hx λa b s ha hb C_ I=>?_
 have ga:HB M a b s a=some (.dt (K1 s.S) (s.S.map λp=>.int p.2)):=by unfold HB;rw[ae C_,ac];rfl
 simp[wL ga,sU ga,re ha hb];rw[qf];exact hQ _ (I.isD y)
end
section
variable {cls c_ e_:Nat->PySem.Addr}{M M0:MH}{Q:VK3}{E:XN}{n:Nat}{a b c d f r kd nn:PySem.Addr}{x y x0:Nm}{N:Nt}{p:Nm->Int}{rp:Nm->PySem.Addr}
theorem rQ:∀{x y:List Int},bU (x.map D.int) (y.map D.int)=decide (x=y)
 |[],[]=>by simp[bU]
 |[],_::_=>by simp[bU]
 |_::_,[]=>by simp[bU]
 |i::x,j::y=>by
  simp only[Kn,bU,eqD,rQ];by_cases h:i=j<;>simp
theorem Ei:aI .Eq (nmD x) (nmD y) M Q=Q (.bl (decide (x=y))) M:=by
 simp[aI,jd,rs,ak,nmD,plN,eqD,rQ]
theorem Ht{m:Int}(h:NT c_ M nn kd rp N)(hp:Pot N p)(hx:x∈N.ks)(hy:y∈N.ks)(hm:p y-p x<=m)(hQ:Q .i_ M):aa T (B cls c_ e_) (n+5) 26 [.ref nn,nmD x,nmD y,.int m] M Q E:=by
 rw[gY];simp[bA,h.fld,h.eg.nin,hx,hy,h.mth qS];refine A1 h hp hy hx λo ho=>?_
 cases o with
 |none=>simpa [oi] using hQ
 |some d=>
  have:=ho.1.pot hp;have hd:¬ d+m<0:=by omega
  simpa [oi,hd] using hQ
theorem gk(h:NT c_ M nn kd rp N)(hx:x∈N.ks):aa T (B cls c_ e_) (n+1) 27 [.ref nn,nmD x] M Q E=Q .i_ M:=by
 rw[kM];simp[ef,h.fld,h.eg.nin,hx]
theorem NT.kr(h:NT c_ M nn kd rp N)(hx:x∈N.ks):kd≠rp x:=λe=>by
 have:=h.eg.kd;rw[e,h.eg.row x hx]at this;injection this with this
 injection this with t1 t2
 have hl:(lR N rp).length≠0:=by
  unfold lR;rw[Kr];have:=List.length_pos_of_mem hx;omega
 cases h1:lR N rp with
 |nil=>rw[h1]at hl;exact hl rfl
 |cons u l=>
  cases h2:N.row x with
  |nil=>rw[h1,h2]at t2;cases t2
  |cons v k=>rw[h1,h2]at t2;simp at t2
theorem NT.add{m:Int}(h:NT c_ M nn kd rp N)(hx:x∈N.ks)(hy:y∈N.ks)(hn:x≠y):NT c_ (put M (rp x) (dR (ins (N.row x) y (min m ((lk (N.row x) y).getD m))))) nn kd rp (p5 N x y m):=by
 have hr:=h.eg.row x hx;have n1:nn≠rp x:=λe=>by have:=h.nn;rw[e,hr]at this;cases this
 have n2:=h.kr hx;refine⟨by rw[ae n1];exact h.nn,⟨by rw[ae n2];exact h.eg.kd,λz hz=>?_⟩,h.inj,h.fm.put _ _,sr h.wn hy hn,h.sz⟩
 show _=some (dR (if z=x then _ else _))
 by_cases e:z=x
 ·subst e;rw[ac,Kp rfl]
 ·rw[ae (λq=>e (h.inj z hz x hx q)),Kj e];exact h.eg.row z hz
theorem Es{m:Int}(h:NT c_ M nn kd rp N)(hp:Pot N p)(hx:x∈N.ks)(hy:y∈N.ks)(hn:x≠y)(hm:p y-p x<=m)(hQ:∀u v,M (rp x)=some v->NT c_ (put M (rp x) u) nn kd rp (p5 N x y m)->Q .i_ (put M (rp x) u)):aa T (B cls c_ e_) (n+6) 28 [.ref nn,nmD x,nmD y,.int m] M Q E:=by
 have hr:=h.eg.row x hx;have Py:M (rp x)=some (.dt (K1 (N.row x)) ((N.row x).map λe=>.int e.2)):=hr
 rw[tL];simp[iK,Ei,hn,h.mth gF];refine Ht h hp hx hy hm ?_;simp[h.mth gC,gk h hx,gk h hy,h.fld,h.eg.ix hx,wL Py,Cw Py];have hz:=h.wn.sz hx;have Pk:=h.sz;have Rg:(if (lk (N.row x) y).getD m<m then (lk (N.row x) y).getD m else m)=min m ((lk (N.row x) y).getD m):=by
  split<;>omega
 rw[Rg,kP Py (by omega)]
 exact hQ _ _ hr (h.add hx hy hn)
end
section
variable {cls c_ e_:Nat->PySem.Addr}{M M0:MH}{Q:VK3}{E:XN}{n:Nat}{nn kd:PySem.Addr}{x y:Nm}{N:Nt}{p:Nm->Int}{rp:Nm->PySem.Addr}{W:WC}
def bV(N:Nt)(x:Nm):Nt:=if x∈N.ks then N else⟨N.ks++[x],λz=>if z=x then [] else N.row z⟩
theorem addK_mem:z∈(bV N x).ks<->z=x\/z∈N.ks:=by
 unfold bV;split
 ·rename_i h;exact⟨.inr,λe=>e.elim (λe=>e▸h) id⟩
 ·simp[or_comm]
theorem kR:(bV N x).ks.length<=N.ks.length+1:=by
 unfold bV;split<;>simp
theorem rf(h:WN N):WN (bV N x):=by
 unfold bV;split
 ·exact h
 ·rename_i hx;refine⟨List.nodup_append.mpr ⟨h.nd,by simp,λa ha b hb=>by rw[KF.mp hb];exact λe=>hx (e▸ha)⟩,λz hz=>?_⟩
  simp only;by_cases e:z=x
  ·rw[Kp e];exact⟨List.nodup_nil,λ_ h=>by cases h⟩
  ·rw[Kj e];have NJ:z∈N.ks:=by simpa [e] using hz
   exact⟨(h.row z NJ).1,λq hq=>⟨K2 _ ((h.row z NJ).2 q hq).1,((h.row z NJ).2 q hq).2⟩⟩
structure NX (c_:Nat->PySem.Addr)(M0 M:MH)(nn kd:PySem.Addr)(rp:Nm->PySem.Addr)(N:Nt):Prop where
 nt:NT c_ M nn kd rp N
 k0:M0 kd=none
 r0:∀z∈N.ks,M0 (rp z)=none
 kr:∀z∈N.ks,rp z≠kd
 ex:∀q o,M0 q=some o->M q=some o
def NY(c_:Nat->PySem.Addr)(M0 M:MH)(nn:PySem.Addr)(N:Nt):Prop:=∃kd rp,NX c_ M0 M nn kd rp N
theorem ij{a:PySem.Addr}{o:DO}(ex:∀q u,M0 q=some u->M q=some u)(ha:M0 a=none):∀q u,M0 q=some u->put M a o q=some u:=λq u h=>by
 rw[ae (λe=>by rw[e,ha]at h;cases h)];exact ex q u h
theorem none_of{a:PySem.Addr}(ex:∀q u,M0 q=some u->M q=some u)(h:M a=none):M0 a=none:=by
 cases e:M0 a with
 |none=>rfl
 |some u=>rw[ex a u e]at h;cases h
theorem nH:∀{l:List (Nm×α)},k∉K1 l->ins l k v=l++[(k,v)]
 |[],_=>rfl
 |(q,u)::r,h=>by
  simp only[Kn,Kq,not_or]at h;simp only[ins,Kj (Kz h.1),List.cons_append,nH h.2]
theorem qX(h:NY c_ M0 M nn N)(hs:N.ks.length<190)(hQ:∀M',NY c_ M0 M' nn (bV N x)->Q .i_ M'):aa T (B cls c_ e_) (n+1) 27 [.ref nn,nmD x] M Q E:=by
 obtain⟨kd,rp,h,k0,r0,kr,ex⟩:=h;by_cases hx:x∈N.ks
 ·rw[gk h hx];exact hQ _ ⟨kd,rp,by unfold bV;rw[Kp hx];exact⟨h,k0,r0,kr,ex⟩⟩
 ·rw[kM];simp[ef,h.fld,h.eg.nin,hx];intro a ha;have na:∀{q u},M q=some u->q≠a:=λ{q u} e z=>by rw[z,ha]at e;cases e
  have up:∀{q u},M q=some u->put M a (.dt [] []) q=some u:=λ{q u} e=>by rw[ae (na e)];exact e
  have h':NT c_ (put M a (.dt [] [])) nn kd rp N:=⟨up h.nn,h.eg.mono λ_ _=>up,h.inj,h.fm.put _ _,h.wn,h.sz⟩
  have hl:x∉K1 (lR N rp):=λe=>by
   rw[lk_key]at e;unfold lR at e;rw[wq,Kj hx]at e;cases e
  have el:ins (lR N rp) x a=lR (bV N x) λz=>if z=x then a else rp z:=by
   rw[nH hl];unfold lR bV;rw[Kj hx,List.map_append];simp only[Kn,List.map_nil];congr 1;exact List.map_congr_left λz hz=>by rw[Kj (λe=>hx (e▸hz):z≠x)]
  rw[h'.fld,kP h'.eg.kd (by unfold lR;rw[Kr];omega),el]
  have nk:nn≠kd:=λe=>by have:=h.nn;rw[e,h.eg.kd]at this;cases this
  have ka:=na h.eg.kd;refine hQ _ ⟨kd,λz=>if z=x then a else rp z,⟨by rw[ae nk];exact h'.nn,⟨ac,λz hz=>?_⟩,λz hz w hw e=>?_,(h.fm.put _ _).put _ _,rf h.wn,Nat.lt_of_le_of_lt kR (by omega)⟩,k0,λz hz=>?_,λz hz=>?_,ij (ij ex (none_of ex ha)) k0⟩
  ·show put _ kd _ (if z=x then a else rp z)=some (dR ((bV N x).row z))
   have er:(bV N x).row z=if z=x then [] else N.row z:=by unfold bV;rw[Kj hx]
   rw[er];by_cases e:z=x
   ·rw[Kp e,Kp e,ae (Kz ka),ac];rfl
   ·have hz:=(addK_mem.mp hz).resolve_left e;rw[Kj e,Kj e,ae (kr z hz)];exact up (h.eg.row z hz)
  ·by_cases e1:z=x
   ·by_cases e2:w=x
    ·rw[e1,e2]
    ·rw[Kp e1,Kj e2]at e;exact absurd e.symm (na (h.eg.row w ((addK_mem.mp hw).resolve_left e2)))
   ·by_cases e2:w=x
    ·rw[Kj e1,Kp e2]at e;exact absurd e (na (h.eg.row z ((addK_mem.mp hz).resolve_left e1)))
    ·rw[Kj e1,Kj e2]at e;exact h.inj z ((addK_mem.mp hz).resolve_left e1) w ((addK_mem.mp hw).resolve_left e2) e
  ·split
   ·exact none_of ex ha
   ·rename_i e;exact r0 z ((addK_mem.mp hz).resolve_left e)
  ·split
   ·exact Kz ka
   ·rename_i e;exact kr z ((addK_mem.mp hz).resolve_left e)
theorem qh{m:Int}(h:NY c_ M0 M nn N)(hp:Pot N p)(hx:x∈N.ks)(hy:y∈N.ks)(hn:x≠y)(hm:p y-p x<=m)(hQ:∀M',NY c_ M0 M' nn (p5 N x y m)->Q .i_ M'):aa T (B cls c_ e_) (n+6) 28 [.ref nn,nmD x,nmD y,.int m] M Q E:=by
 obtain⟨kd,rp,h,k0,r0,kr,ex⟩:=h;exact Es h hp hx hy hn hm λu v hv h'=>hQ _ ⟨kd,rp,h',k0,r0,kr,ij ex (r0 x hx)⟩
abbrev Bd:=Nm×Nm×Int
def bD(b:Bd):D:=.tup [nmD b.1,nmD b.2.1,.int b.2.2]
def mW(N:Nt)(b:Bd):Nt:=p5 N b.1 b.2.1 b.2.2
def Bk(p:Nm->Int)(b:Bd):Prop:=p b.2.1-p b.1<=b.2.2
theorem ss{De:Ends3}{ES:St3->XN}{y0 y1:Option D}{ys:List (Option D)}:∀(xs:List Nm)(N:Nt)(M:MH)(x3:Option D),NY c_ M0 M nn N->N.ks.length+xs.length<190->(∀M' x3,NY c_ M0 M' nn (xs.foldl bV N)->De.nx (y0::y1::some (.ref nn)::x3::ys) M')->
  aP ⟨(B cls c_ e_),aa T (B cls c_ e_) (n+1)⟩ (.name 3) fy ES (λ_=>True) De (xs.map nmD) (y0::y1::some (.ref nn)::x3::ys) M
 |[],N,M,x3,h,_,hR=>⟨trivial,hR M x3 h⟩
 |x::xs,N,M,x3,h,hl,hR=>by
  simp only[Ky]at hl;have:=kR (N:=N) (x:=x);obtain⟨kd,rp,h'⟩:=id h;rw[Kn,aD];simp[fy,h'.nt.mth gC];refine qX h (by omega) λM' h'=>?_
  exact ss xs _ M' _ h' (by omega) hR
theorem pV{De:Ends3}{ES:St3->XN}{y0 y1 y3:Option D}:∀(bs:List Bd)(N:Nt)(M:MH)(x4 x5 x6:Option D),NY c_ M0 M nn N->Pot N p->(∀b∈bs,b.1∈N.ks/\b.2.1∈N.ks/\b.1≠b.2.1/\Bk p b)->(∀M' x4 x5 x6,NY c_ M0 M' nn (bs.foldl mW N)->De.nx [y0,y1,some (.ref nn),y3,x4,x5,x6] M')->
  aP ⟨(B cls c_ e_),aa T (B cls c_ e_) (n+6)⟩ (.tup [4,5,6]) fu ES (λ_=>True) De (bs.map bD) [y0,y1,some (.ref nn),y3,x4,x5,x6] M
 |[],N,M,x4,x5,x6,h,_,_,hR=>⟨trivial,hR M x4 x5 x6 h⟩
 |b::bs,N,M,x4,x5,x6,h,hp,hb,hR=>by
  obtain⟨b1,b2,b3,b4⟩:=hb b Kl;obtain⟨kd,rp,h'⟩:=id h;rw[Kn,aD];simp[fu,bD,lD,h'.nt.mth hU];refine qh h hp b1 b2 b3 b4 λM' h'=>?_
  exact pV bs _ M' _ _ _ h' (kG hp b4) (λc hc=>hb c (Ki _ hc)) hR
end
section
variable {cls c_ e_:Nat->PySem.Addr}{M M0:MH}{Q:VK3}{E:XN}{n:Nat}{x y:Nm}{N:Nt}{p:Nm->Int}{d_:List (Int×Int)}{wy:List Wy}{rows:List Rw}
theorem vE:∀{xs:List Nm}{N:Nt},(∀z,N.row z=[])->∀z,(xs.foldl bV N).row z=[]
 |[],N,h=>h
 |x::xs,N,h=>vE (xs:=xs) λz=>by unfold bV;split<;>simp[h]
theorem zR:∀{xs:List Nm}{N:Nt},WN N->WN (xs.foldl bV N)
 |[],_,h=>h
 |x::xs,_,h=>zR (xs:=xs) (rf h)
theorem Ai:∀{bs:List Bd}{N:Nt},(bs.foldl mW N).ks=N.ks
 |[],_=>rfl
 |b::bs,N=>Ai (bs:=bs) (N:=mW N b)
abbrev BN(N:Nt)(b:Bd):Prop:=b.1∈N.ks/\b.2.1∈N.ks/\b.1≠b.2.1
theorem z8:∀{bs:List Bd}{N:Nt},Ed (bs.foldl mW N) a b w->Ed N a b w\/(a,b,w)∈bs
 |[],_,h=>.inl h
 |c::bs,N,h=>by
  rcases z8 (bs:=bs) h with ⟨h1,h2⟩|h
  ·simp only[mW,p5]at h2;split at h2
   ·rename_i e;rcases jk h2 with h|h
    rotate_left
    ·exact .inl ⟨h1,by rw[e];exact h⟩
    ·obtain⟨h,h'⟩:=Prod.mk.inj h;cases q:lk (N.row c.1) c.2.1 with
     |none=>rw[q]at h';simp at h';right;rw[e,h,h'];simp
     |some u=>
      rw[q]at h';simp only[Option.getD_some]at h';rcases Int.le_total c.2.2 u with z|z
      ·right;rw[e,h,h',Int.min_eq_left z];simp
      ·left;refine⟨h1,?_⟩;rw[e,h,h',Int.min_eq_right z];exact jR q
   ·exact .inl ⟨h1,h2⟩
  ·exact .inr (Ki _ h)
theorem xh:∀{bs:List Bd}{N:Nt},Pot N p->(∀b∈bs,Bk p b)->Pot (bs.foldl mW N) p
 |[],_,h,_=>h
 |b::bs,N,h,hb=>xh (bs:=bs) (kG h (hb b Kl)) λc hc=>hb c (Ki _ hc)
theorem Ag:∀{bs:List Bd}{N:Nt},WN N->(∀b∈bs,BN N b)->WN (bs.foldl mW N)
 |[],_,W,_=>W
 |b::bs,N,W,hb=>by
  obtain⟨_,b2,b3⟩:=hb b Kl;exact Ag (bs:=bs) (sr W b2 b3) λc hc=>hb c (Ki _ hc)
theorem m7:∀{bs:List Bd}{N:Nt},((lk (N.row x) y).isSome=true\/∃b∈bs,b.1=x/\b.2.1=y)->(lk ((bs.foldl mW N).row x) y).isSome=true
 |[],_,h=>h.elim id λ⟨_,h,_⟩=>by cases h
 |b::bs,N,h=>m7 (bs:=bs) (by
  show (lk (if x=b.1 then ins (N.row b.1) b.2.1 _ else N.row x) y).isSome=true\/_
  have up:¬ (b.1=x/\b.2.1=y)->(lk (N.row x) y).isSome=true\/∃b∈bs,b.1=x/\b.2.1=y:=λn=>h.imp_right λ⟨c,hc,z⟩=>by
   rcases Kq.mp hc with rfl|hc
   ·exact absurd z n
   ·exact⟨c,hc,z⟩
  by_cases e:x=b.1
  ·rw[Kp e,cI,<-e];by_cases e2:b.2.1=y
   ·left;rw[Kp e2];rfl
   ·rw[Kj e2];exact up λz=>e2 z.2
  ·rw[Kj e];exact up λz=>e z.1.symm)
theorem zY:∀{xs:List Nm}{N:Nt},(N.ks++xs).Nodup->(xs.foldl bV N).ks=N.ks++xs
 |[],N,_=>by simp
 |x::xs,N,h=>by
  have hx:x∉N.ks:=λz=>(List.nodup_append.mp h).2.2 x z x Kl rfl
  have e:(bV N x).ks=N.ks++[x]:=by unfold bV;rw[Kj hx]
  have e2:N.ks++[x]++xs=N.ks++x::xs:=by simp
  rw[List.foldl_cons,zY (by rw[e,e2];exact h),e,e2]
theorem nj:∀{hs:List Int}{c:Int->Nat},(nmF hs c).Nodup/\∀p∈nmF hs c,c p.1<=p.2/\p.1∈hs
 |[],_=>⟨List.nodup_nil,nofun⟩
 |h::hs,c=>by
  obtain⟨h1,h2⟩:=nj (hs:=hs) (c:=bump c h);refine⟨KN.mpr ⟨λz=>?_,h1⟩,λp hp=>?_⟩
  ·have:=(h2 _ z).1;simp[bump]at this;omega
  ·rcases Kq.mp hp with rfl|hp
   ·exact⟨Km _,Kl⟩
   ·obtain⟨z1,z2⟩:=h2 p hp;refine⟨KB ?_ z1,Ki _ z2⟩;unfold bump;split<;>omega
abbrev NO:Nm:=[-1,0]
def nv(p:Int×Nat):Nm:=[p.1,(p.2:Int)]
def KS(rows:List Rw):List Nm:=NO::(nmF (rows.map Rw.h) c00).map nv
def Bp(d_:List (Int×Int))(wy:List Wy)(rows:List Rw)(p:Nm->Int):Prop:=∀d∈bdF d_ wy c00 l00 rows,∃b:Bd,d=bD b/\(b.1∈KS rows/\b.2.1∈KS rows/\b.1≠b.2.1)/\Bk p b
structure LB (d_:List (Int×Int)) (wy:List Wy)(rows:List Rw):Prop where
 g:GW d_ wy
 l:rows.length<=64
 f:∀r∈rows,r.fine d_.length wy
 b:∃p,Bp d_ wy rows p
structure LN (d_:List (Int×Int)) (wy:List Wy)(rows:List Rw)(N:Nt):Prop where
 kx:N.ks=KS rows
 wn:WN N
 pt:∃p,Pot N p
 to:∀b,bD b∈bdF d_ wy c00 l00 rows->(lk (N.row b.1) b.2.1).isSome=true
 ed:∀a b w,Ed N a b w->bD (a,b,w)∈bdF d_ wy c00 l00 rows
theorem HC(hf:∀r∈rows,r.fine d_.length wy)(h:x∈KS rows):x=NO\/∃i j:Int,x=[i,j]/\0<=i/\i<d_.length:=by
 rcases Kq.mp h with h|h
 ·exact .inl h
 ·obtain⟨p,hp,rfl⟩:=KJ.mp h;obtain⟨r,hr,e⟩:=KJ.mp (nj.2 p hp).2;have:=(hf r hr).h;simp[okH]at this;exact .inr ⟨_,_,rfl,by omega,by omega⟩
theorem rH(hf:∀r∈rows,r.fine d_.length wy):(KS rows).Nodup:=by
 refine KN.mpr ⟨λh=>?_,List.Pairwise.map _ (λa b h e=>h ?_) nj.1⟩
 ·obtain⟨p,hp,e⟩:=KJ.mp h;obtain⟨r,hr,z⟩:=KJ.mp (nj.2 p hp).2;have:=(hf r hr).h;simp[okH]at this;simp[nv]at e;omega
 ·simp[nv]at e;exact Prod.ext e.1 (by omega)
theorem xc{P:Bd->Prop}:∀{ds:List D},(∀d∈ds,∃b,d=bD b/\P b)->∃bs:List Bd,ds=bs.map bD/\∀b∈bs,P b
 |[],_=>⟨[],rfl,λ_ h=>by cases h⟩
 |d::ds,h=>by
  obtain⟨b,rfl,hb⟩:=h d Kl;obtain⟨bs,rfl,hs⟩:=xc λe he=>h e (Ki _ he)
  exact⟨b::bs,rfl,λc hc=>by rcases Kq.mp hc with rfl|hc;exact hb;exact hs c hc⟩
theorem qT(h:nmD x=nmD y):x=y:=by
 have:=congrArg iP h;rw[dj,dj]at this;exact KA this
theorem uK(h:bD a=bD b):a=b:=by
 unfold bD at h;simp only[D.tup.injEq,List.cons.injEq,D.int.injEq,and_true]at h;exact Prod.ext (qT h.1) (Prod.ext (qT h.2.1) h.2.2)
theorem jq:∀{hs:List Int}{c:Int->Nat},(nmF hs c).length=hs.length
 |[],_=>rfl
 |h::hs,c=>by simp[nmF,jq]
theorem Bg(L:LB d_ wy rows):∃N,LN d_ wy rows N/\∀{n:Nat}{M:MH}{Q:VK3}{E:XN},Fm M->(∀M' nn,NY c_ M M' nn N->Q (.ref nn) M')->aa T (B cls c_ e_) (n+8) 36 [wO c_ d_ wy,.g_ (rows.map Rw.d)] M Q E:=by
 obtain⟨p,hp⟩:=L.b;obtain⟨bs,eb,hb⟩:=xc hp
 let N1:=(KS rows).foldl bV ⟨[],λ_=>[]⟩
 have ek:N1.ks=KS rows:=(zY (N:=⟨[],λ_=>[]⟩) (rH L.f)).trans (List.nil_append _)
 have r0:∀z,N1.row z=[]:=vE λ_=>rfl
 have W1:WN N1:=zR ⟨List.nodup_nil,λ_ h=>by cases h⟩
 have q1:∀q,Pot N1 q:=λq a b w h=>by have:=h.2;rw[r0]at this;cases this
 have bn:∀b∈bs,BN N1 b:=λb h=>by unfold BN;rw[ek];exact (hb b h).1
 refine⟨bs.foldl mW N1,⟨by rw[Ai];exact ek,Ag W1 bn,⟨p,xh (q1 p) λb h=>(hb b h).2⟩,λb h=>?_,λa b w h=>?_⟩,λ{n M Q E} hM hQ=>?_⟩
 ·rw[eb]at h;obtain⟨c,hc,e⟩:=KJ.mp h;rw[<-uK e];exact m7 (.inr ⟨c,hc,rfl,rfl⟩)
 ·rcases z8 h with h|h
  ·have:=h.2;rw[r0]at this;cases this
  ·rw[eb];exact KJ.mpr ⟨_,h,rfl⟩
 ·simp only[xt,kF];simp;intro nn hn;simp only[mP,eE];simp;intro kd hk;obtain⟨R7,hk⟩:=bX hk;rw[show iY (B cls c_ e_) 245117675 (.ref kd) _ (.ref nn) (put (put M nn (.ins 5 (c_ 5) [] [])) kd (.dt [] []))=_ from nh (by rw[ae (Kz R7),ac])]
  simp;have y0:NY c_ M (put (put (put M nn (.ins 5 (c_ 5) [] [])) kd (.dt [] [])) nn (.ins 5 (c_ 5) [245117675] [.ref kd])) nn ⟨[],λ_=>[]⟩:=⟨kd,λ_=>kd,⟨ac,⟨by rw[ae R7,ac];rfl,nofun⟩,nofun,((hM.put _ _).put _ _).put _ _,⟨List.nodup_nil,nofun⟩,by decide⟩,hk,nofun,nofun,ij (ij (ij (λ_ _ h=>h) hn) hk) hn⟩
  have hl:=L.l;refine qX (x:=NO) y0 (by decide) λM1 y1=>?_
  obtain⟨_,_,z1⟩:=id y1;rw[sh rows (.inl rfl) (by omega) z1.nt.fm,show (nmF (rows.map Rw.h) λ_=>0).map nD=((nmF (rows.map Rw.h) c00).map nv).map nmD by rw[List.map_map];rfl]
  refine ss ((nmF (rows.map Rw.h) c00).map nv) _ M1 _ y1 (by have:=kR (N:=⟨[],λ_=>[]⟩) (x:=NO);simp[jq]at this ⊢;omega) λM2 x3 y2=>?_
  obtain⟨_,_,z2⟩:=id y2;simp;refine xp L.g z2.nt.fm L.l L.f ?_;rw[eb];exact pV bs N1 M2 _ _ _ y2 (q1 p) (λb h=>⟨(bn b h).1,(bn b h).2.1,(bn b h).2.2,(hb b h).2⟩) λM3 x4 x5 x6 y3=>by simpa using hQ M3 nn y3
end
section
variable {b r:PySem.Addr}{N:Nt}{p:Nm->Int}
theorem yT:wpS W (.M8 tg o body) De ES Z M=wpE W o Z M (λx M1=>lA x M1 λd ks es=>∀φ,aP W tg body (λ_ _ _=>False) (λM=>M d=some (.w_ φ)) (iC d φ ks es De) (ks.map bR) Z (put M1 d (.w_ φ))) (ES Z):=rfl
def zr(l:List Nm):List (Nm×Int):=l.map λx=>(x,0)
theorem nA:K1 (zr l)=l:=by unfold zr;simp[Function.comp_def]
theorem mn(NI:kd≠a)(hd:M0 kd=some (.w_ φ)){De:Ends3}:∀(post pre:List Nm)(x2:Option D),(pre++post).Nodup->(pre++post).length<300->
  (∀x2,De.nx [y0,some (.ref a),x2] (put M0 a (dS (zr (pre++post))))=R)->
  aP W (.name 2) cP ES (λM=>M kd=some (.w_ φ)) De (post.map nmD) [y0,some (.ref a),x2] (put M0 a (dS (zr pre)))=R
 |[],pre,x2,_,_,hR=>by
  have hS:put M0 a (dS (zr pre)) kd=some (.w_ φ):=by rw[ae NI];exact hd
  have:=hR x2;rw[KZ]at this;rw[List.map_nil,aV];simp[hS,this]
 |z::post,pre,x2,hn,hl,hR=>by
  have hS:put M0 a (dS (zr pre)) kd=some (.w_ φ):=by rw[ae NI];exact hd
  have hz:z∉K1 (zr pre):=λh=>by
   rw[nA]at h;rw[List.nodup_append]at hn;exact hn.2.2 z h z Kl rfl
  have ga:put M0 a (dS (zr pre)) a=some (.dt (K1 (zr pre)) ((zr pre).map λp=>.int p.2)):=ac
  have e1:(pre++[z])++post=pre++z::post:=by simp
  have TV:(zr pre).length<900:=by unfold zr;rw[Kr];rw[KO]at hl;omega
  have s1:∀{R:MH->Prop},az (.ref a) (nmD z) (.int 0) (put M0 a (dS (zr pre))) R=R (put M0 a (dS (zr (pre++[z])))):=λ{R}=>by
   rw[kP ga TV,ba,nH hz];unfold zr dS;simp
  rw[Kn,aD,<-mn (W:=W) (ES:=ES) (R:=R) NI hd post (pre++[z]) (some (nmD z)) (by rw[e1];exact hn) (by rw[e1];exact hl) (by rw[e1];exact hR)]
  simp[cP,hS,↓s1]
theorem nw{l:List Nm}:l.map bR=l.map nmD:=rfl
theorem nJ:K1 (lR N rp)=N.ks:=by unfold lR;simp[Function.comp_def]
theorem yG(h:NT c_ M nn kd rp N)(hp:Pot N p)(hQ:∀s,J N N.ks (λ_=>False) s->Q (.I_ (K1 s.S) (s.S.map λp=>.int p.2)) M):aa T (B cls c_ e_) (n+3) 33 [.ref nn] M Q E:=by
 rw[pz];simp[fq,yT];intro a ha;have e1:=h.eg.ne ha;have n1:nn≠a:=λe=>by have:=h.nn;rw[e,ha]at this;cases this
 have h1:NT c_ (put M a (.dt [] [])) nn kd rp N:=⟨by rw[ae n1];exact h.nn,h.eg.new ha,h.inj,h.fm.put _ _,h.wn,h.sz⟩
 have TX:put M a (.dt [] []) kd=some (.dt (K1 (lR N rp)) ((lR N rp).map λe=>.ref e.2)):=h1.eg.kd
 simp[h1.fld];unfold lA;simp only[TX];intro φ;have sw:put (put M a (.dt [] [])) kd (.w_ φ)=put (put M kd (.w_ φ)) a (dS (zr [])):=by
  funext q;unfold put;by_cases q1:q=kd
  ·simp[q1,e1.1]
  ·simp[q1];rfl
 rw[sw,nJ,nw];have bk:put (put (put M kd (.w_ φ)) a (dS (zr N.ks))) kd (.dt N.ks ((lR N rp).map λe=>.ref e.2))=put M a (dS (zr N.ks)):=by
  have hk:M kd=some (.dt N.ks ((lR N rp).map λe=>.ref e.2)):=by rw[h.eg.kd];unfold dK;rw[nJ]
  funext q;unfold put;by_cases q1:q=kd
  ·simp[q1,e1.1,hk]
  ·simp[q1]
 have hsz:=h.sz;rw[mn (R:=True) e1.1 ac N.ks [] none (by simpa using h.wn.nd) (by simp;omega)]
 ·trivial
 intro x2;refine eq_true ?_;change put (put M kd (.w_ φ)) a (dS (zr N.ks)) kd=some (.w_ φ)/\aR _ _ _ _ _ (put (put (put M kd (.w_ φ)) a (dS (zr N.ks))) kd (.dt N.ks ((lR N rp).map λe=>.ref e.2)))
 refine⟨by rw[ae e1.1,ac],?_⟩
 rw[bk];have h2:NT c_ (put M a (dS (zr N.ks))) nn kd rp N:=⟨by rw[ae n1];exact h.nn,h.eg.new ha,h.inj,h.fm.put _ _,h.wn,h.sz⟩
 simp[h2.fld];intro b hb;have C_:a≠b:=λe=>by rw[<-e,ac]at hb;cases hb
 have PC:M b=none:=by rwa [ae (Kz C_)]at hb
 have e2:=h.eg.ne PC;have I0:=J.start h.wn h.wn.nd (λ_ hx=>hx)
 obtain⟨m,s,R,I⟩:=DF h.wn hp _ _ I0;refine pk (s0:=⟨zr N.ks,[]⟩) ((h.fm.put _ _).put _ _) h.wn hp h.sz C_ (by rw[ae C_,ac]) ac e1.1 e2.1 e1.2 e2.2 ((h.eg.new ha).new hb) (by rw[nA];exact I0) (by rw[nA];exact R) ?_
 rw[pJ C_];have ga:HB M a b s a=some (dS s.S):=by unfold HB;rw[ae C_,ac]
 have kp:av M (L2.del (HB M a b s) a)=M:=by rw[xE ha,re ha PC]
 simp[aY,ga];rw[kp];exact hQ s I
end
section
variable {p:PySem.Addr}{d_:List (Int×Int)}{wy:List Wy}{r:Rw}
theorem Ck(hn:(wy.map pr).Nodup)(hr:r.may wy):aa T (B cls c_ e_) (n+1) 57 [.tup [.g_ (d_.map cD),.I_ (wy.map pr) (wy.map wv)],r.d,hd] M Q E=Q (.g_ (bg wy hd r)) M:=by
 simp only[uB,g8];cases r with
 |look a b=>simp +decide [Rw.d,bg]
 |Lx a b c d=>simp +decide [Rw.d,au,bg]
 |send a b c=>simp +decide [Rw.d,bg]
 |take a b c d=>
  obtain⟨w1,w2,w3⟩:=wC (show [c,a]∈wy.map pr from hr);have ix:=λ{M:MH}{Q:VK3}=>qC (M:=M) (Q:=Q) hn w1
  rw[w2,w3]at ix;simp only[bg];simp only[wv,way]at ix;cases e:(wOf wy c a).m with
  |none=>rw[e]at ix;simp +decide [Rw.d,↓ix,lD,oi,D.isN,au]
  |some m=>rw[e]at ix;simp +decide [Rw.d,↓ix,lD,oi,D.isN,au]
structure DV (M0 M:MH)(f s:PySem.Addr)(acc:List D)(ks:List Key)(ds:List D)(c:Int->Nat)(lr:Int->Int):Prop where
 fm:Fm M
 old:∀a o,M0 a=some o->M a=some o
 f0:M0 f=none
 s0:M0 s=none
 fs:f≠s
 vf:M f=some (.lst acc)
 vs:M s=some (.dk ks ds)
 hl:ks.length=ds.length
 no:∀h,c h=0->getD ks ds (.inl h)=none
 yes:∀h,0<c h->∃(q:PySem.Addr)(l:List Int),getD ks ds (.inl h)=some (.ref q)/\M q=some (.lst (l.map D.int))/\l.length=c h/\l.getLast?=some (lr h)/\q≠f/\q≠s/\M0 q=none
 one:∀h h' q,getD ks ds (.inl h)=some (.ref q)->getD ks ds (.inl h')=some (.ref q)->h=h'
theorem rF{De:Ends3}{ds:List D}(h:M p=some (.lst ds))(hz:ds.length<1000):bW p De Z y M=De.nx Z (put M p (.lst (ds++[y]))):=by
 have hs:ds.length<PySem.sizeLine:=Kv hz (by decide)
 simp[bW,h,hs]
theorem uP{ds es:List D}(h:M p=some (.lst ds))(hz:ds.length+es.length<1000):rBm .extend (.ref p) [.g_ es] M Q=Q .i_ (put M p (.lst (ds++es))):=by
 have hs:ds.length+es.length<=PySem.sizeLine:=KB (show ds.length+es.length<=1000 by omega) (by decide)
 simp[rBm,h,ak,hs]
theorem yZ{l:List Int}(h:l.getLast?=some v):atI (l.map D.int) (-1)=some (.int v):=by
 have Mm:l≠[]:=λz=>by rw[z]at h;cases h
 have hl:0<l.length:=List.length_pos_iff.mpr Mm;have e:l[l.length-1]?=some v:=by rw[<-List.getLast?_eq_getElem?];exact h
 have e2:ixN (l.map D.int).length (-1)=some (l.length-1):=by
  rw[Kr];unfold ixN;rw[Kj (by decide),Kp (by omega)];congr 1;omega
 unfold atI;rw[e2];simp[e]
theorem uW{acc:List D}{ks:List Key}{De:Ends3}(G:GW d_ wy)(V:DV M0 M f s acc ks ds c lr)(hf:r.fine d_.length wy)(lb:∀h,-(10 ^ 62)<=lr h/\lr h<=10 ^ 62)(z1:ks.length<300)(z2:acc.length<900)(z3:c r.h<900)
  (k:∀M' LK D_ y5 y6 y7 y8 y9,LK.length<=ks.length+1->DV M0 M' f s (acc++eK d_ wy c lr r) LK D_ (bump c r.h) (nxt lr r.h r.r)->De.nx [some (.tup [.g_ (d_.map cD),.I_ (wy.map pr) (wy.map wv)]),x1,some (.ref f),some (.ref s),some r.d,y5,y6,y7,y8,y9] M') :
  aR ⟨(B cls c_ e_),aa T (B cls c_ e_) (n+1)⟩ cx De ES [some (.tup [.g_ (d_.map cD),.I_ (wy.map pr) (wy.map wv)]),x1,some (.ref f),some (.ref s),some r.d,y5,y6,y7,y8,y9] M:=by
 have i1:=λ{M:MH}{Q:VK3}=>vM (M:=M) (Q:=Q) (r:=r)
 have i2:=λ{M:MH}{Q:VK3}=>DD (M:=M) (Q:=Q) (r:=r)
 have ol:=ni (wy:=wy) (r:=r) (hd:=.tup [.int r.h,.int (c r.h)]);have lo:=λ{M:MH}{Q:VK3}{E:XN}=>Ck (cls:=cls) (c_:=c_) (e_:=e_) (n:=n) (M:=M) (Q:=Q) (E:=E) (d_:=d_) (hd:=.tup [.int r.h,.int (c r.h)]) G.nd hf.w
 have hz:ks.length<PySem.sizeLine:=Kv (show ks.length<1000 by omega) (by decide)
 have kl:=bO (ks:=ks) (k:=(.inl r.h:Key));simp only[cx];simp[↓i1];refine⟨by simp[tyB,dh,V.vs],λp hp=>?_⟩
 have ps:p≠s:=λz=>by rw[z,V.vs]at hp;cases hp
 have pf:p≠f:=λz=>by rw[z,V.vf]at hp;cases hp
 have gs:(put M p (.lst [])) s=some (.dk ks ds):=by rw[ae (Kz ps)];exact V.vs
 have gf:(put M p (.lst [])) f=some (.lst acc):=by rw[ae (Kz pf)];exact V.vf
 have OP:Fm (put M p (.lst [])):=V.fm.put _ _;have Rh:M0 p=none:=by
  cases e:M0 p with
  |none=>rfl
  |some o=>rw[V.old p o e]at hp;cases hp
 by_cases c0:0<c r.h
 ·obtain⟨q,l,g1,g2,g3,g4,g5,g6,g7⟩:=V.yes r.h c0;have qp:q≠p:=λz=>by rw[z,hp]at g2;cases g2
  have sd:∀{Q:VK3},rBm .Lv (.ref s) [.int r.h,.ref p] (put M p (.lst [])) Q=Q (.ref q) (put M p (.lst [])):=λ{Q}=>by simp[rBm,gs,mQ,g1,hz]
  have F:∀a,(put (put M p (.lst [])) f (.lst a)) q=some (.lst (l.map D.int)):=λa=>by rw[ae g5,ae qp];exact g2
  have F0:(put M p (.lst [])) q=some (.lst (l.map D.int)):=by rw[ae qp];exact g2
  have le:∀{M:MH}{Q:VK3},M q=some (.lst (l.map D.int))->rBi .len [.ref q] M Q=Q (.int (c r.h:Nat)) M:=λ{M Q} h=>by rw[<-g3];simp[rBi,aA,ak,h]
  have TY:=λ{Q:VK3}=>le (Q:=Q) F0
  have TZ:=λ{a:List D}{Q:VK3}=>le (Q:=Q) (F a)
  have ex:=λ{Q:VK3}=>uP (Q:=Q) (es:=bg wy (.tup [.int r.h,.int (c r.h)]) r) gf (by omega)
  have ne:l.isEmpty=false:=by
   cases l with
   |nil=>rw[<-g3]at c0;simp at c0
   |cons _ _=>rfl
  have nn:∀{a:List D}{Q:VK3},aI .NotEq (.ref q) (.g_ []) (put (put M p (.lst [])) f (.lst a)) Q=Q (.bl true) (put (put M p (.lst [])) f (.lst a)):=λ{a Q}=>by
   rw[m6 (ds:=l.map D.int) (by simp[ak,F]) (by simp[plN]) (by simp[plN])];simp[ne]
  have hk:=hf.h;simp only[okH,Kg,Ks]at hk;have ic:∀{M:MH}{Q:VK3},ar (.g_ (d_.map cD)) (.int r.h) M Q=Q (.tup [.int (k0 d_ r.h.toNat).1,.int (k0 d_ r.h.toNat).2]) M:=λ{M Q}=>by
   have:=oR (M:=M) (Q:=Q) (d_:=d_) (k:=r.h.toNat) (by omega)
   rwa [Int.toNat_of_nonneg hk.1]at this
  have la:∀{a:List D}{Q:VK3},ar (.ref q) (.int (-1)) (put (put M p (.lst [])) f (.lst a)) Q=Q (.int (lr r.h)) (put (put M p (.lst [])) f (.lst a)):=λ{a Q}=>by
   rw[qB (F a)];exact iV (yZ g4)
  have fb:=hf.b;have UH:=lb r.h;obtain⟨q1,q2,q3⟩:=xA (k:=r.h.toNat) G (by omega)
  have m1:bI (k0 d_ r.h.toNat).2 (r.r-lr r.h)=True:=eX (by omega) (by omega) (by omega) (by omega)
  have m2:bI (k0 d_ r.h.toNat).1 (lr r.h-r.r)=True:=eX (by omega) (by omega) (by omega) (by omega)
  have af:=λ{W:WC}{e:IE}{De:Ends3}{E:XN}{Z:St3}{a:List D}=>gi (W:=W) (e:=e) (De:=De) (E:=E) (Z:=Z) (ac (M:=put M p (.lst [])) (a:=f) (o:=.lst a))
  have T1:∀{De:Ends3}{Z:St3}{y:D}{a:List D},bW f De Z y (put (put M p (.lst [])) f (.lst a))=(a.length<PySem.sizeLine/\De.nx Z (put (put M p (.lst [])) f (.lst (a++[y])))):=λ{De Z y a}=>by simp[ac]
  have aq:=λ{W:WC}{e:IE}{De:Ends3}{E:XN}{Z:St3}{a:List D}=>gi (W:=W) (e:=e) (De:=De) (E:=E) (Z:=Z) (F a)
  have T2:=λ{De:Ends3}{Z:St3}{y:D}{a:List D}=>rF (De:=De) (Z:=Z) (y:=y) (F a) (by rw[Kr];omega)
  have eo:eK d_ wy c lr r=bg wy (.tup [.int r.h,.int (c r.h)]) r++[.tup [.tup [.int r.h,.int ((c r.h:Int)-1)],.tup [.int r.h,.int (c r.h)],.int ((k0 d_ r.h.toNat).2*(r.r-lr r.h))],.tup [.tup [.int r.h,.int (c r.h)],.tup [.int r.h,.int ((c r.h:Int)-1)],.int ((k0 d_ r.h.toNat).1*(lr r.h-r.r))]]:=by
   unfold eK k9;rw[Kp c0];rw[Int.neg_mul,<-Int.mul_neg,Int.neg_sub]
  rw[eo]at k;simp[-List.getD_eq_getElem?_getD,↓sd,↓i2,↓TY,↓lo,jj gf,↓ex,↓nn,↓TZ,↓ic,m1,m2,↓la,↓T1,↓aq,↓T2,au];refine⟨Kv (show _<1000 by omega) (by decide),Kv (show _<1000 by omega) (by decide),k _ ks ds _ _ _ _ _ (by omega) ⟨(OP.put _ _).put _ _,λa o h=>(by
    have ap:a≠p:=λz=>by rw[z,Rh]at h;cases h
    have af:a≠f:=λz=>by rw[z,V.f0]at h;cases h
    have aq:a≠q:=λz=>by rw[z,g7]at h;cases h
    rw[ae aq,ae af,ae ap];exact V.old a o h),V.f0,V.s0,V.fs,by rw[ae (Kz g5),ac],by rw[ae (Kz g6),ae (Kz V.fs)];exact gs,V.hl,λh e=>(by
    unfold bump at e;by_cases z:h=r.h
    ·rw[Kp z]at e;cases e
    ·rw[Kj z]at e;exact V.no h e),λh e=>(by
    unfold bump at e ⊢;by_cases z:h=r.h
    ·subst z;refine⟨q,l++[r.r],g1,by rw[ac,List.map_append];rfl,by simp[g3],by simp[nxt],g5,g6,g7⟩
    ·rw[Kj z]at e;obtain⟨q',l',R8,Ri,T3,T4,R9,T5,T6⟩:=V.yes h e;have T7:q'≠p:=λy=>by rw[y,hp]at Ri;cases Ri
     have qq:q'≠q:=λy=>z (V.one h r.h q (by rw[<-y];exact R8) g1)
     refine⟨q',l',R8,by rw[ae qq,ae R9,ae T7];exact Ri,by rw[Kj z];exact T3,by unfold nxt;rw[Kj z];exact T4,R9,T5,T6⟩),V.one⟩⟩
 ·have z0:c r.h=0:=by omega
  have g1:=V.no r.h z0;have sd:∀{Q:VK3},rBm .Lv (.ref s) [.int r.h,.ref p] (put M p (.lst [])) Q=Q (.ref p) (put (put M p (.lst [])) s (.dk (aj ks (.inl r.h)) (ao ks ds (.inl r.h) (.ref p)))):=λ{Q}=>by simp[rBm,gs,mQ,g1,hz]
  have Rj:(put (put M p (.lst [])) s (.dk (aj ks (.inl r.h)) (ao ks ds (.inl r.h) (.ref p)))) p=some (.lst []):=by rw[ae ps,ac]
  have Rk:(put (put M p (.lst [])) s (.dk (aj ks (.inl r.h)) (ao ks ds (.inl r.h) (.ref p)))) f=some (.lst acc):=by rw[ae V.fs];exact gf
  have R_:(put (put M p (.lst [])) s (.dk (aj ks (.inl r.h)) (ao ks ds (.inl r.h) (.ref p)))) s=some (.dk (aj ks (.inl r.h)) (ao ks ds (.inl r.h) (.ref p))):=ac;have Rl:∀a,a≠p->a≠s->(put (put M p (.lst [])) s (.dk (aj ks (.inl r.h)) (ao ks ds (.inl r.h) (.ref p)))) a=M a:=λa h1 h2=>by rw[ae h2,ae h1]
  have Sa:Fm (put (put M p (.lst [])) s (.dk (aj ks (.inl r.h)) (ao ks ds (.inl r.h) (.ref p)))):=OP.put _ _;generalize UI:put (put M p (.lst [])) s (.dk (aj ks (.inl r.h)) (ao ks ds (.inl r.h) (.ref p)))=M2 at sd Rj Rk R_ Rl Sa;have le:∀{Q:VK3},rBi .len [.ref p] M2 Q=Q (.int (c r.h:Nat)) M2:=λ{Q}=>by rw[z0];simp[rBi,aA,ak,Rj]
  have ex:=λ{Q:VK3}=>uP (Q:=Q) (es:=bg wy (.tup [.int r.h,.int (c r.h)]) r) Rk (by omega)
  have Rm:(put M2 f (.lst (acc++bg wy (.tup [.int r.h,.int (c r.h)]) r))) p=some (.lst []):=by rw[ae pf];exact Rj
  have nn:∀{Q:VK3},aI .NotEq (.ref p) (.g_ []) (put M2 f (.lst (acc++bg wy (.tup [.int r.h,.int (c r.h)]) r))) Q=Q (.bl false) (put M2 f (.lst (acc++bg wy (.tup [.int r.h,.int (c r.h)]) r))):=λ{Q}=>by
   rw[m6 (ds:=[]) (by simp[ak,Rm]) rfl rfl];rfl
  have ap:=λ{W:WC}{e:IE}{De:Ends3}{E:XN}{Z:St3}=>gi (W:=W) (e:=e) (De:=De) (E:=E) (Z:=Z) Rm
  have T8:=λ{De:Ends3}{Z:St3}{y:D}=>rF (De:=De) (Z:=Z) (y:=y) Rm (by simp)
  have eo:eK d_ wy c lr r=bg wy (.tup [.int r.h,.int (c r.h)]) r:=by unfold eK;rw[Kj c0,KZ]
  rw[eo]at k;have fin:=k (put (put M2 f (.lst (acc++bg wy (.tup [.int r.h,.int (c r.h)]) r))) p (.lst [.int r.r])) (aj ks (.inl r.h)) (ao ks ds (.inl r.h) (.ref p)) (some (.ref p)) (some (.tup [.int r.h,.int (c r.h)])) y7 y8 y9 kl ⟨(Sa.put _ _).put _ _,λa o h=>(by
    have ap:a≠p:=λz=>by rw[z,Rh]at h;cases h
    have af:a≠f:=λz=>by rw[z,V.f0]at h;cases h
    have as:a≠s:=λz=>by rw[z,V.s0]at h;cases h
    rw[ae ap,ae af,Rl a ap as];exact V.old a o h),V.f0,V.s0,V.fs,by rw[ae (Kz pf),ac],by rw[ae (Kz ps),ae (Kz V.fs)];exact R_,cA V.hl,λh e=>(by
    unfold bump at e;by_cases z:h=r.h
    ·rw[Kp z]at e;cases e
    ·rw[Kj z]at e;rw[be V.hl,Kj (λy=>z (Sum.inl.inj y).symm)];exact V.no h e),λh e=>(by
    unfold bump at e ⊢;by_cases z:h=r.h
    ·subst z;refine⟨p,[r.r],by rw[be V.hl,Kp rfl],ac,by simp[z0],by simp[nxt],pf,ps,Rh⟩
    ·rw[Kj z]at e;obtain⟨q,l,g1,g2,g3,g4,g5,g6,g7⟩:=V.yes h e;have qp:q≠p:=λy=>by rw[y,hp]at g2;cases g2
     refine⟨q,l,by rw[be V.hl,Kj (λy=>z (Sum.inl.inj y).symm)];exact g1,by rw[ae qp,ae g5,Rl q qp g6];exact g2,by rw[Kj z];exact g3,by unfold nxt;rw[Kj z];exact g4,g5,g6,g7⟩),λh h' q e1 e2=>(by
    have fresh:∀h,getD ks ds (.inl h)≠some (.ref p):=λh e=>by
     by_cases z:0<c h
     ·obtain⟨q,l,g1,g2,_⟩:=V.yes h z;rw[g1]at e;cases e;rw[hp]at g2;cases g2
     ·rw[V.no h (by omega)]at e;cases e
    rw[be V.hl]at e1 e2;by_cases z1:(Sum.inl r.h:Key)=.inl h
    ·by_cases z2:(Sum.inl r.h:Key)=.inl h'
     ·exact (Sum.inl.inj z1).symm.trans (Sum.inl.inj z2)
     ·rw[Kp z1]at e1;rw[Kj z2]at e2;cases e1;exact absurd e2 (fresh h')
    ·by_cases z2:(Sum.inl r.h:Key)=.inl h'
     ·rw[Kj z1]at e1;rw[Kp z2]at e2;cases e2;exact absurd e1 (fresh h)
     ·rw[Kj z1]at e1;rw[Kj z2]at e2;exact V.one h h' q e1 e2)⟩
  simp[↓sd,↓i2,↓le,↓lo,jj Rk,↓ex,↓nn,↓ap,↓T8,au];exact fin
theorem pU{De:Ends3}(G:GW d_ wy):∀(rows:List Rw)(M:MH)(c:Int->Nat)(lr:Int->Int)(acc:List D)(ks:List Key)(ds:List D)(y4 y5 y6 y7 y8 y9:Option D),DV M0 M f s acc ks ds c lr->(∀r∈rows,r.fine d_.length wy)->(∀h,-(10 ^ 62)<=lr h/\lr h<=10 ^ 62)->ks.length+rows.length<300->acc.length+4*rows.length<900->(∀h,c h+rows.length<900)->
  (∀M' y4 y5 y6 y7 y8 y9,(∀a o,M0 a=some o->M' a=some o)->M' f=some (.lst (acc++bdF d_ wy c lr rows))->De.nx [some (.tup [.g_ (d_.map cD),.I_ (wy.map pr) (wy.map wv)]),x1,some (.ref f),some (.ref s),y4,y5,y6,y7,y8,y9] M')->
  aP ⟨(B cls c_ e_),aa T (B cls c_ e_) (n+1)⟩ (.name 4) cx ES (λ_=>True) De (rows.map Rw.d) [some (.tup [.g_ (d_.map cD),.I_ (wy.map pr) (wy.map wv)]),x1,some (.ref f),some (.ref s),y4,y5,y6,y7,y8,y9] M
 |[],M,c,lr,acc,ks,ds,y4,y5,y6,y7,y8,y9,V,hf,lb,z1,z2,z3,k=>by
  exact⟨trivial,k M _ _ _ _ _ _ V.old (by rw[bdF,KZ];exact V.vf)⟩
 |r::rows,M,c,lr,acc,ks,ds,y4,y5,y6,y7,y8,y9,V,hf,lb,z1,z2,z3,k=>by
  simp only[Ky]at z1 z2 z3;have ol:=nI (d_:=d_) (wy:=wy) (c:=c) (lr:=lr) (r:=r);have f:=hf r Kl;refine⟨trivial,?_⟩;refine uW G V f lb (by omega) (by omega) (by have:=z3 r.h;omega) λM' LK D_ y5 y6 y7 y8 y9 hk V'=>?_
  exact pU G rows M' _ _ _ _ _ _ _ _ _ _ _ V' (λx hx=>hf x (Ki _ hx)) (λh=>by
   unfold nxt;split
   ·exact f.b
   ·exact lb h) (by omega) (by rw[KO];omega) (λh=>by have:=z3 h;unfold bump;split<;>omega) λM2 y4 y5 y6 y7 y8 y9 o v=>k M2 _ _ _ _ _ _ o (by rw[v,bdF,List.append_assoc])
theorem FD{rows:List Rw}(G:GW d_ wy)(hM:Fm M)(hl:rows.length<=64)(hf:∀r∈rows,r.fine d_.length wy)(k:Q (.g_ (bdF d_ wy c00 l00 rows)) M):aa T (B cls c_ e_) (n+2) 58 [.tup [.g_ (d_.map cD),.I_ (wy.map pr) (wy.map wv)],.g_ (rows.map Rw.d)] M Q E:=by
 simp only[uC,g9];simp;intro f Rn s Qi;obtain⟨Sb,Qi⟩:=bX Qi;refine pU G rows _ c00 l00 [] [] [] none none none none none none ⟨(hM.put _ _).put _ _,λa o h=>(by
   have af:a≠f:=λz=>by rw[z,Rn]at h;cases h
   have as:a≠s:=λz=>by rw[z,Qi]at h;cases h
   rw[ae as,ae af];exact h),Rn,Qi,Kz Sb,by rw[ae (Kz Sb),ac],ac,rfl,λh _=>rfl,λh z=>(by cases z),λh h' q e _=>(by cases e)⟩ hf (λh=>⟨by show -(10 ^ 62)<=(0:Int);decide,by show (0:Int)<=10 ^ 62;decide⟩) (by simp;omega) (by simp;omega) (λh=>by show 0+_<_;omega) λM' y4 y5 y6 y7 y8 y9 o v=>?_
 have ke:av M (del M' f)=M:=by
  funext a;unfold av del;cases e:M a with
  |none=>rfl
  |some u=>
   have af:a≠f:=λz=>by rw[z,Rn]at e;cases e
   simp[af,o a u e]
 simp[aY,v,ke];exact k
end
section
variable {b:PySem.Addr}{N:Nt}{d_:List (Int×Int)}{wy:List Wy}{rows:List Rw}{l:List (Nm×Int)}{bs:List Bd}
def Two(x:Nm):Prop:=∃i j:Int,x=[i,j]
theorem aQ(h:x∈KS rows):Two x:=by
 rcases Kq.mp h with rfl|h
 ·exact⟨_,_,rfl⟩
 ·obtain⟨k,_,rfl⟩:=KJ.mp h;exact⟨_,_,rfl⟩
theorem sB(hx:Two x)(MM:Two x')(e:x++y=x'++y'):x=x'/\y=y':=by
 obtain⟨i,j,rfl⟩:=hx;obtain⟨i',j',rfl⟩:=MM;simpa [and_assoc] using e
abbrev pD(x y:Nm):D:=.tup [nmD x,nmD y]
theorem sN(hx:Two x)(hy:Two y):xx (pD x y)=some (x++y):=by
 obtain⟨i,j,rfl⟩:=hx;obtain⟨i',j',rfl⟩:=hy;rfl
abbrev dNn(l:List (Nm×Int)):DO:=.dn (K1 l) (l.map λp=>.int p.2)
theorem BC(h:M a=some (dNn l))(hx:Two x)(hy:Two y):dQ M (.ref a) (pD x y)=some ((lk l (x++y)).map D.int):=by
 have e:=dZ D.int (k:=x++y) (l:=l);simp only[dQ,dh,cU,oK,h,sN hx hy,e]
theorem AV(h:M a=some (dNn l))(hz:l.length<900)(hx:Two x)(hy:Two y):az (.ref a) (pD x y) (.int v) M R=R (put M a (dNn (ins l (x++y) v))):=by
 have hs:(K1 l).length<PySem.sizeLine:=by rw[Kr,PySem.sizeLine_eq];omega
 simp only[az,h,sN hx hy,kU (v:=v),kj D.int,hs,true_and]
def stp(l:List (Nm×Int))(b:Bd):List (Nm×Int):=ins l (b.1++b.2.1) b.2.2
def B2(bs:List Bd):Prop:=∀b∈bs,Two b.1/\Two b.2.1
theorem wI{α:Type}{k:Nm}{v:α}{l:List (Nm×α)}:(ins l k v).length<=l.length+1:=by
 rw[ins_len];split<;>omega
theorem pF{De:Ends3}:∀(bs:List Bd) (l:List (Nm×Int)) (u v w:Option D),B2 bs->l.length+bs.length<900->
  (∀u v w,De.nx (y0::y1::y2::y3::y4::y5::y6::some (.ref a)::u::v::w::ys) (put M a (dNn (bs.foldl stp l)))=R)->
  aP W (.tup [8,9,10]) jy ES (λ_=>True) De (bs.map bD) (y0::y1::y2::y3::y4::y5::y6::some (.ref a)::u::v::w::ys) (put M a (dNn l))=R
 |[],l,u,v,w,_,_,hR=>by
  have:=hR u v w;simp at this;simp[aV,this]
 |b::bs,l,u,v,w,h2,hl,hR=>by
  simp only[Ky]at hl;obtain⟨q1,q2⟩:=h2 b Kl;have z:=wI (k:=b.1++b.2.1) (v:=b.2.2) (l:=l);have ih:=pF (W:=W) (ES:=ES) bs (stp l b) (some (nmD b.1)) (some (nmD b.2.1)) (some (.int b.2.2)) (λc hc=>h2 c (Ki _ hc)) (by show (ins _ _ _).length+_<_;omega) hR
  rw[Kn,aD,<-ih];have st:∀{R:MH->Prop},az (.ref a) (pD b.1 b.2.1) (.int b.2.2) (put M a (dNn l)) R=R (put M a (dNn (stp l b))):=λ{R}=>by rw[AV ac (by omega) q1 q2,ba];rfl
  simp[jy,bD,lD,↓st,au]
theorem u9(hx:Two x)(hy:Two y):∀{bs:List Bd}{l:List (Nm×Int)},B2 bs->lk (bs.foldl stp l) (x++y)=some m->lk l (x++y)=some m\/(x,y,m)∈bs
 |[],_,_,h=>.inl h
 |b::bs,l,h2,h=>by
  obtain⟨q1,q2⟩:=h2 b Kl;rcases u9 hx hy (λc hc=>h2 c (Ki _ hc)) h with h|h
  ·unfold stp at h;rw[cI]at h;split at h
   ·rename_i e;obtain⟨e1,e2⟩:=sB q1 hx e;cases h;right;rw[<-e1,<-e2];exact Kl
   ·exact .inl h
  ·exact .inr (Ki _ h)
theorem sH:∀{bs:List Bd}{l:List (Nm×Int)},((lk l k).isSome=true\/∃b∈bs,b.1++b.2.1=k)->(lk (bs.foldl stp l) k).isSome=true
 |[],_,h=>h.elim id λ⟨_,h,_⟩=>by cases h
 |b::bs,l,h=>sH (bs:=bs) (by
  unfold stp;rw[cI];by_cases e:b.1++b.2.1=k
  ·left;simp[e]
  ·rw[Kj e];rcases h with h|⟨c,hc,e'⟩
   ·exact .inl h
   ·rcases Kq.mp hc with rfl|hc
    ·exact absurd e' e
    ·exact .inr ⟨c,hc,e'⟩)
structure SP (d_:List (Int×Int)) (wy:List Wy)(rows:List Rw) (S:List (Nm×Int)):Prop where
 to:∀x y w,Two x->Two y->bD (x,y,w)∈bdF d_ wy c00 l00 rows->lk S (x++y)=some w
 ks:∀k∈K1 S,∃x y w,x∈KS rows/\y∈KS rows/\k=x++y/\bD (x,y,w)∈bdF d_ wy c00 l00 rows
 sz:S.length<=300
 nd:(K1 S).Nodup
theorem sY:∀{bs:List Bd}{l:List (Nm×Int)},k∈K1 (bs.foldl stp l)->k∈K1 l\/∃b∈bs,b.1++b.2.1=k
 |[],_,h=>.inl h
 |b::bs,l,h=>by
  rcases sY (bs:=bs) h with h|⟨c,hc,e⟩
  ·unfold stp at h;rw[iB]at h;split at h
   ·exact .inl h
   ·rcases KD.mp h with h|h
    ·exact .inl h
    ·exact .inr ⟨b,Kl,(KF.mp h).symm⟩
  ·exact .inr ⟨c,Ki _ hc,e⟩
theorem uQ:∀{bs:List Bd}{l:List (Nm×Int)},(bs.foldl stp l).length<=l.length+bs.length
 |[],_=>Km _
 |b::bs,l=>by
  have:=uQ (bs:=bs) (l:=stp l b);have z:=wI (k:=b.1++b.2.1) (v:=b.2.2) (l:=l);have e:(stp l b).length<=l.length+1:=z;simp only[List.foldl_cons,Ky];omega
theorem Ae:∀{bs:List Bd}{l:List (Nm×Int)},(K1 l).Nodup->(K1 (bs.foldl stp l)).Nodup
 |[],_,h=>h
 |b::bs,l,h=>Ae (bs:=bs) (n6 h)
theorem DQ(eb:bdF d_ wy c00 l00 rows=bs.map bD)(hk:∀b∈bs,b.1∈KS rows/\b.2.1∈KS rows)(fn:Fn1 (bdF d_ wy c00 l00 rows))(hl:bs.length<=300):SP d_ wy rows (bs.foldl stp []):=by
 have h2:B2 bs:=λb h=>⟨aQ (hk b h).1,aQ (hk b h).2⟩
 refine⟨λx y w hx hy h=>?_,λk h=>?_,KB uQ (by simpa using hl),Ae List.nodup_nil⟩
 ·have h':(x,y,w)∈bs:=by
   rw[eb]at h;obtain⟨c,hc,e⟩:=KJ.mp h
   rwa [<-uK e]
  have:=sH (l:=[]) (.inr ⟨_,h',rfl⟩);cases q:lk (bs.foldl stp []) (x++y) with
  |none=>rw[q]at this;cases this
  |some m=>
   rcases u9 hx hy h2 q with z|z
   ·cases z
   ·rw[fn (nmD x) (nmD y) m w (by rw[eb];exact KJ.mpr ⟨_,z,rfl⟩) h]
 ·rcases sY h with h|⟨b,hb,e⟩
  ·cases h
  ·exact⟨b.1,b.2.1,b.2.2,(hk b hb).1,(hk b hb).2,e.symm,by rw[eb];exact KJ.mpr ⟨b,hb,rfl⟩⟩
end
section
variable {cls c_ e_:Nat->PySem.Addr}{M M0:MH}{Q:VK3}{E:XN}{n:Nat}{a kd nn:PySem.Addr}{x y:Nm}{N:Nt}{rp:Nm->PySem.Addr}{d_:List (Int×Int)}{wy:List Wy}{rows:List Rw}{S:List (Nm×Int)}{p:Nm->Int}
theorem pc(h:NT c_ M nn kd rp N):aa T (B cls c_ e_) (n+1) 30 [.ref nn] M Q E=Q (.g_ (N.ks.map nmD)) M:=by
 have hz:=h.sz;have hs:N.ks.length<=PySem.sizeLine:=KB (show _<=1000 by omega) (by decide)
 have hk:M kd=some (.dt (K1 (lR N rp)) ((lR N rp).map λe=>.ref e.2)):=h.eg.kd
 have ld:=λ{Q:VK3}=>nO (Q:=Q) hk
 rw[nJ]at ld;rw[oy];simp[fh,h.fld,↓ld,hs]
theorem mX(h:NT c_ M nn kd rp N)(hx:x∈N.ks)(hy:y∈N.ks):aa T (B cls c_ e_) (n+2) 31 [.ref nn,nmD x,nmD y] M Q E=Q (oi (lk (N.row x) y)) M:=by
 have hr:M (rp x)=some (.dt (K1 (N.row x)) ((N.row x).map λe=>.int e.2)):=h.eg.row x hx
 rw[pP];simp[eV,h.fld,sj h.eg hx,sj h.eg hy,h.eg.ix hx,wL hr,sU hr,qf]
theorem Dg:aa T (B cls c_ e_) (n+1) 60 [.int i] M Q E=Q (.bl true) M:=by simp[o8,e8]
theorem zK(h:Two x):aa T (B cls c_ e_) (n+2) 61 [nmD x] M Q E=Q (.bl true) M:=by
 obtain⟨i,j,rfl⟩:=h;simp[p7,gA,nmD,Dg]
theorem xz{l:List α}:rBi .all [.g_ (l.map λ_=>.bl true)] M Q=Q (.bl true) M:=by
 rw[rN (λ_=>true) λ_ _=>rfl,KE.mpr λ_ _=>rfl]
theorem su{S:MH->Prop}{l:List Nm}(hM:Fm M)(h:∀x∈l,Two x)(hl:l.length<1000)(hS:∀M',Ext M M'->S M'):gS ⟨(B cls c_ e_),aa T (B cls c_ e_) (n+2)⟩ (.name 0) .no (.call 61 (Ar1 V0)) S Q (l.map nmD) [none] M=Q (.g_ (l.map λ_=>.bl true)) M:=by
 rw[cz nmD (λZ=>∃a,Z=[a]) (λq=>[some (nmD q)]) (λ_=>true) (λ_=>.bl true) ⟨_,rfl⟩ hM (by omega) (λp _=>⟨⟨_,rfl⟩,λZ ⟨a,e⟩ M k=>by subst e;simp⟩) (λ_ _ _ _ _=>rfl) (λk hk _ M' hE Q'=>by simp[↓zK (h k hk)]) hS,List.filter_eq_self.mpr λ_ _=>rfl]
theorem Fa{l:List Nm}(h:∀x∈l,Two x):∃ps:List IP,l.map nmD=ps.map prI/\(l.Nodup->ps.Nodup)/\ps.length=l.length:=by
 induction l with
 |nil=>exact⟨[],rfl,λ_=>List.nodup_nil,rfl⟩
 |cons x l ih=>
  obtain⟨ps,e,nd,el⟩:=ih λy hy=>h y (Ki _ hy)
  obtain⟨i,j,rfl⟩:=h x Kl;refine⟨(i,j)::ps,by rw[Kn,Kn,e];rfl,λhn=>?_,by simp[el]⟩
  rw[KN]at hn ⊢;refine⟨λz=>hn.1 ?_,nd hn.2⟩
  have:prI (i,j)∈l.map nmD:=by rw[e];exact KJ.mpr ⟨_,z,rfl⟩
  obtain⟨y,hy,ey⟩:=KJ.mp this;rw[<-qT (y:=[i,j]) ey];exact hy
theorem wt{ps:List IP}:dY (ps.map prI)=some ps:=by
 induction ps with
 |nil=>rfl
 |cons p ps ih=>simp[dY,prI,ih]
theorem AF{l m:List IP}(h1:l.Pairwise λa b=>ltP a b=true)(h2:m.Pairwise λa b=>ltP a b=true)(h:l.Perm m):l=m:=
 h.eq_of_pairwise (λa b _ _ x y=>by rw[vW x]at y;cases y) h1 h2
theorem C3{l:List IP}:bU (l.map prI) (l.map prI)=true:=by
 induction l with
 |nil=>simp[bU]
 |cons r rs ih=>simp[bU,eqD,prI,ih]
theorem BY{l:List IP}:aI .NotEq (.g_ (l.map prI)) (.g_ (l.map prI)) M Q=Q (.bl false) M:=by
 have h7:pl (.g_ (l.map prI))=true:=by simp[plN,prI]
 have hp:pls (l.map prI)=true:=by simp[plN,prI]
 simp[aI,jd,L2.rs,ak,hp,h7,eqD,C3]
theorem BH{l:List Nm}(h:∀x∈l,Two x)(hn:l.Nodup)(hl:l.length<64)(k:Q (.bl false) M):rBi (.sorted true) [.g_ (l.map nmD)] M λu M1=>rBi (.sorted true) [.g_ (l.map nmD)] M1 λv M2=>aI .NotEq u v M2 Q:=by
 obtain⟨ps,e,nd,el⟩:=Fa h;have z:∀{qs:List IP},qs.Perm ps->qs.length<=PySem.sizeLine:=λ{qs} h=>by rw[h.length_eq];exact KB (show _<=1000 by omega) (by decide)
 rw[e];simp only[rBi,ak,wt];refine⟨⟨by omega,nd hn⟩,λqs h1 h2=>⟨by rw[Kr];exact z h1,?_⟩⟩
 refine⟨⟨by omega,nd hn⟩,λqt h3 h4=>⟨by rw[Kr];exact z h3,?_⟩⟩
 rw[AF h4 h2 (h3.trans h1.symm)];simpa [BY] using k
end
section
variable {cls c_ e_:Nat->PySem.Addr}{M M0:MH}{Q:VK3}{E:XN}{n:Nat}{s a kd nn:PySem.Addr}{x y:Nm}{N:Nt}{rp:Nm->PySem.Addr}{d_:List (Int×Int)}{wy:List Wy}{rows:List Rw}{S F:List (Nm×Int)}{p:Nm->Int}{l:List Nm}
abbrev di(S:List (Nm×Int)):D:=.I_ (K1 S) (S.map λp=>.int p.2)
theorem wB(hv:lk S x=some v):ar (di S) (nmD x) M Q=Q (.int v) M:=by
 have e:=dZ D.int (k:=x) (l:=S);rw[hv]at e;simp only[ar,aA,ak,dQ,dh,cU,dj,e,Option.map]
def sD(e:Nm×Int):D:=.tup [ug e.1,.int e.2]
theorem t9:aT (K1 S) (S.map λp=>.int p.2)=S.map sD:=by
 induction S with
 |nil=>rfl
 |cons e S ih=>
  show (_::aT (K1 S) (S.map λp=>.int p.2))=_
  rw[ih];rfl
def Kps(F S:List (Nm×Int)):Prop:=∀e∈S,∃x y u v,Two x/\Two y/\e.1=x++y/\lk F x=some u/\lk F y=some v/\v-u<=e.2
theorem uJ(hM:Fm M)(hs:M s=some (dNn S))(hz:S.length<=300)(hk:Kps F S)(hQ:∀p,M p=none->Q (.ref p) (put M p (.lst (S.map λ_=>.bl true)))) :
  qe W (.MK [0,1] 2) .no (.cmp .LtE (.bin .Sub (.ix V3 V1) (.ix V3 V0)) V2) [none,none,none,some (di F)] Q (.ref s) M:=by
 unfold qe wV;simp only[hs];intro φ p hp;have Ox:p≠s:=λe=>by rw[e,hs]at hp;cases hp
 rw[t9];have h1:put M s (.w_ φ) p=none:=by rw[ae Ox];exact hp
 refine (iff_of_eq (iu sD (λZ=>∃x0 x1 x2,Z=[x0,x1,x2,some (di F)]) (λe=>[some (nmD (e.1.take 2)),some (nmD (e.1.drop 2)),some (.int e.2),some (di F)]) (λ_=>true) (λ_=>.bl true) S [] _ ⟨none,none,none,rfl⟩ (hM.put _ _) h1 (by rw[PySem.sizeLine_eq];simp;omega) (λM' hE=>hE.2 _ _ ac) (λe he=>⟨⟨_,_,_,rfl⟩,?_⟩) (λ_ _ _ _ _=>rfl) (λe he hc M' hE Q'=>?_))).mpr ?_
 ·rintro Z ⟨x0,x1,x2,rfl⟩ M k;obtain⟨x,y,_,_,⟨i,j,rfl⟩,⟨i',j',rfl⟩,e1,_⟩:=hk e he;simp[sD,e1,wpG,ug,nmD]
 ·obtain⟨x,y,u,v,⟨i,j,rfl⟩,⟨i',j',rfl⟩,e1,u1,v1,Nf⟩:=hk e he;have i1:∀{Q:VK3},ar (di F) (nmD [i,j]) M' Q=Q (.int u) M':=λ{Q}=>wB u1
  have i2:∀{Q:VK3},ar (di F) (nmD [i',j']) M' Q=Q (.int v) M':=λ{Q}=>wB v1
  rw[e1];simp[↓i1,↓i2,Nf]
 ·rw[List.nil_append,List.filter_eq_self.mpr λ_ _=>rfl]
  have e:put (put (put M s (.w_ φ)) p (.lst (S.map λ_=>.bl true))) s (.dn (K1 S) (S.map λp=>.int p.2))=put M p (.lst (S.map λ_=>.bl true)):=by
   funext q;unfold put;by_cases q1:q=s
   ·simp[q1,Kz Ox,hs]
   ·simp[q1]
  rw[e];exact hQ p hp
theorem zo{l:List α}(h:M a=some (.lst (l.map λ_=>.bl true))):rBi .all [.ref a] M Q=Q (.bl true) M:=by
 have e:=lJ (λ_:α=>D.bl true) (λ_=>true) l λ_ _=>rfl
 simp[rBi,ak,h,e];rw[show (l.all λ_=>true)=true from KE.mpr λ_ _=>rfl]
theorem yn(hM:Fm M)(hs:M s=some (dNn S))(hz:S.length<=300)(h2:∀x∈l,Two x)(hn:l.Nodup)(hl:l.length<64)(ek:K1 F=l)(hF:∀x∈l,∃v,lk F x=some v)(hk:Kps F S)(k:Q (.bl true) M):aa T (B cls c_ e_) (n+3) 62 [di F,.g_ (l.map nmD),.ref s] M Q E:=by
 have cn:=λ{Q:VK3}=>su (cls:=cls) (c_:=c_) (e_:=e_) (n:=n) (Q:=Q) hM h2 (by omega) (λ_ _=>trivial)
 have hsz:l.length<=PySem.sizeLine:=KB (show _<=1000 by omega) (by decide)
 have g2:∀{Q:VK3},gS ⟨(B cls c_ e_),aa T (B cls c_ e_) (n+2)⟩ (.name 0) .no (.call 60 (Ar1 (.ix V1 V0))) (λ_=>True) Q (l.map nmD) [none,some (di F)] M=Q (.g_ (l.map λ_=>.bl true)) M:=λ{Q}=>by
  rw[cz nmD (λZ=>∃a,Z=[a,some (di F)]) (λq=>[some (nmD q),some (di F)]) (λ_=>true) (λ_=>.bl true) ⟨_,rfl⟩ hM (by omega) (λp _=>⟨⟨_,rfl⟩,λZ ⟨a,e⟩ M k=>by subst e;simp⟩) (λ_ _ _ _ _=>rfl) (λk hk _ M' hE Q'=>by
   obtain⟨v,hv⟩:=hF k hk;have i1:∀{Q:VK3},ar (di F) (nmD k) M' Q=Q (.int v) M':=λ{Q}=>wB hv
   simp[↓i1,Dg]),List.filter_eq_self.mpr λ_ _=>rfl]
 simp only[oM,eT];have ib:∀{Q:VK3},lE .dict (di F) M Q=Q (.bl true) M:=rfl;have ld:∀{Q:VK3},rBi (.list true) [di F] M Q=Q (.g_ (l.map nmD)) M:=λ{Q}=>by
  rw[<-ek]at hsz ⊢;simp[rBi,ak,cU,nw]at hsz ⊢;exact⟨λh=>h.2,λh=>⟨hsz,h⟩⟩
 simp[-dP,ax,↓ib,ek,nw,↓cn,xz,↓ld];refine BH h2 hn hl ?_;simp[↓g2,xz];refine uJ hM hs hz hk λp hp=>?_
 rw[zo ac,gL hp,lO];exact k
end
section
variable {M1:MH}{s:PySem.Addr}{N:Nt}{d_:List (Int×Int)}{wy:List Wy}{rows:List Rw}{l:List Nm}
theorem J.kx{s:SB}(I:J N N.ks P s):K1 s.S=N.ks:=by
 obtain⟨l,e⟩:=I.pf;cases l with
 |nil=>rw[e,KZ]
 |cons z l=>
  have hz:z∈K1 s.S:=by rw[e];simp
  obtain⟨v,hv⟩:=KL.mp (lk_key.mp hz);have nd:=I.nd;rw[e]at nd;exact absurd rfl ((List.nodup_append.mp nd).2.2 z (I.k z v hv).1 z Kl)
structure CT (cls c_ e_:Nat->PySem.Addr) (d_:List (Int×Int)) (wy:List Wy)(rows:List Rw)(N:Nt) (S:List (Nm×Int)):Prop where
 ln:LN d_ wy rows N
 nf:∀{n:Nat}{M:MH}{Q:VK3}{E:XN},Fm M->(∀M' nn,NY c_ M M' nn N->Q (.ref nn) M')->aa T (B cls c_ e_) (n+8) 36 [wO c_ d_ wy,.g_ (rows.map Rw.d)] M Q E
 sp:SP d_ wy rows S
 hl:(KS rows).length<64
 g:GW d_ wy
 f:∀r∈rows,r.fine d_.length wy
theorem CT.eqb(C:CT cls c_ e_ d_ wy rows N S)(hx:x∈KS rows)(hy:y∈KS rows):lk (N.row x) y=lk S (x++y):=by
 have ed:∀{w},lk (N.row x) y=some w->lk S (x++y)=some w:=λ{w} h=>C.sp.to x y w (aQ hx) (aQ hy) (C.ln.ed x y w ⟨by rw[C.ln.kx];exact hx,jR h⟩)
 cases h:lk (N.row x) y with
 |some w=>exact (ed h).symm
 |none=>
  cases h2:lk S (x++y) with
  |none=>rfl
  |some m=>
   obtain⟨x',y',w,k1,k2,e,b⟩:=C.sp.ks _ (lk_key.mpr (by rw[h2];rfl))
   obtain⟨rfl,rfl⟩:=sB (aQ hx) (aQ k1) e;have:=C.ln.to _ b;rw[h]at this;cases this
theorem CT.kps{s:SB}(C:CT cls c_ e_ d_ wy rows N S)(I:J N N.ks (λ_=>False) s):Kps s.S S:=λe he=>by
 obtain⟨x,y,w,k1,k2,q,b⟩:=C.sp.ks e.1 (KJ.mpr ⟨e,he,rfl⟩);have h1:=Av C.sp.nd (show (e.1,e.2)∈S from he);rw[q,<-C.eqb k1 k2]at h1;obtain⟨u,hu,_⟩:=I.s0 x (by rw[C.ln.kx];exact k1)
 obtain⟨v,hv,z⟩:=I.rel x u hu id y e.2 (jR h1);exact⟨x,y,u,v,aQ k1,aQ k2,q,hu,hv,by omega⟩
theorem CT.times(C:CT cls c_ e_ d_ wy rows N S)(h:NT c_ M nn kd rp N)(hs:M s=some (dNn S))(k:Q (.bl true) M) :
  aa T (B cls c_ e_) (n+3) 33 [.ref nn] M (λv M1=>aa T (B cls c_ e_) (n+3) 62 [v,.g_ ((KS rows).map nmD),.ref s] M1 Q E') E:=by
 obtain⟨p,hp⟩:=C.ln.pt;refine yG h hp λt I=>?_
 have e:=I.kx;rw[C.ln.kx]at e;exact yn h.fm hs C.sp.sz (λx hx=>aQ hx) (rH C.f) C.hl e (λx hx=>by
  obtain⟨u,hu,_⟩:=I.s0 x (by rw[C.ln.kx];exact hx)
  exact⟨u,hu⟩) (C.kps I) k
theorem zX(h:M a=some (dNn S))(hx:Two x)(hy:Two y):rBm .get (.ref a) [pD x y] M Q=Q (oi (lk S (x++y))) M:=by
 simp[rBm,BC h hx hy,qf]
theorem Al:aI .NotEq (oi o) (oi o) M Q=Q (.bl false) M:=by
 cases o<;>simp[aI,jd,L2.rs,ak,plN,eqD]
theorem Cc{De:Ends3}{ES:St3->XN}{y0 y1 y2 y3 y5 y6 y9 y10 E_ y12 y13 y14:Option D}{as:List Nm}(C:CT cls c_ e_ d_ wy rows N S)(h:NT c_ M nn kd rp N)(hs:M s=some (dNn S))(hx:x∈KS rows)(ha:∀y∈as,y∈KS rows)
  (done:∀y9 y12 y13,De.nx [y0,y1,y2,y3,some (.ref nn),y5,y6,some (.ref s),some (nmD x),y9,y10,E_,y12,y13,y14] M) :
  aP ⟨(B cls c_ e_),aa T (B cls c_ e_) (n+2)⟩ (.name 9) jz ES (λ_=>True) De (as.map nmD) [y0,y1,y2,y3,some (.ref nn),y5,y6,some (.ref s),some (nmD x),y9,y10,E_,y12,y13,y14] M:=by
 refine sF (λZ=>∃y9 y12 y13,Z=[y0,y1,y2,y3,some (.ref nn),y5,y6,some (.ref s),some (nmD x),y9,y10,E_,y12,y13,y14]) ⟨_,_,_,rfl⟩ (λd hd Z ⟨y9,y12,y13,e⟩ k hk=>?_) λZ ⟨y9,y12,y13,e⟩=>by subst e;exact done _ _ _
 subst e;obtain⟨y,hy,rfl⟩:=KJ.mp hd;have hy:=ha y hy;have tg:tyB .get (.ref s) M=true:=by simp[tyB,cU,oK,hs]
 have b1:∀{Q:VK3}{E:XN},aa T (B cls c_ e_) (n+2) 31 [.ref nn,nmD x,nmD y] M Q E=Q (oi (lk S (x++y))) M:=λ{Q E}=>by rw[mX h (by rw[C.ln.kx];exact hx) (by rw[C.ln.kx];exact hy),C.eqb hx hy]
 have b2:∀{Q:VK3}{E:XN},aa T (B cls c_ e_) (n+2) 31 [.ref nn,nmD y,nmD x] M Q E=Q (oi (lk S (y++x))) M:=λ{Q E}=>by rw[mX h (by rw[C.ln.kx];exact hy) (by rw[C.ln.kx];exact hx),C.eqb hy hx]
 have g1:∀{Q:VK3},rBm .get (.ref s) [pD x y] M Q=Q (oi (lk S (x++y))) M:=λ{Q}=>zX hs (aQ hx) (aQ hy)
 have g2:∀{Q:VK3},rBm .get (.ref s) [pD y x] M Q=Q (oi (lk S (y++x))) M:=λ{Q}=>zX hs (aQ hy) (aQ hx)
 have fin:=hk _ ⟨some (nmD y),some (oi (lk S (x++y))),some (oi (lk S (x++y))),rfl⟩;simp[jz,tg,↓b1,↓b2,↓g1,↓g2,Al,h.mth fk,au];cases e:lk S (x++y) with
 |none=>rw[e]at fin;simpa [oi,D.isN] using fin
 |some v=>rw[e]at fin;simpa [show oi (some v)=.int v from rfl,D.isN,Dg,↓b2,↓g2,tg,Al,h.mth fk] using fin
theorem BD{De:Ends3}{as:List Nm}(C:CT cls c_ e_ d_ wy rows N S)(h:NT c_ M nn kd rp N)(hs:M s=some (dNn S))(ha:∀y∈as,y∈KS rows)
  (done:∀y8 y9 y12 y13,De.nx [y0,y1,y2,y3,some (.ref nn),y5,y6,some (.ref s),y8,y9,y10,some (.g_ (as.map nmD)),y12,y13,y14] M) :
  aP ⟨(B cls c_ e_),aa T (B cls c_ e_) (n+2)⟩ (.name 8) oj ES (λ_=>True) De ((KS rows).map nmD) [y0,y1,y2,y3,some (.ref nn),y5,y6,some (.ref s),y8,y9,y10,some (.g_ (as.map nmD)),y12,y13,y14] M:=by
 refine sF (λZ=>∃y8 y9 y12 y13,Z=[y0,y1,y2,y3,some (.ref nn),y5,y6,some (.ref s),y8,y9,y10,some (.g_ (as.map nmD)),y12,y13,y14]) ⟨_,_,_,_,rfl⟩ (λd hd Z ⟨y8,y9,y12,y13,e⟩ k hk=>?_) λZ ⟨y8,y9,y12,y13,e⟩=>by subst e;exact done _ _ _ _
 subst e;obtain⟨x,hx,rfl⟩:=KJ.mp hd;exact Cc C h hs hx ha λy9 y12 y13=>hk _ ⟨_,_,_,_,rfl⟩
end
section
variable {cls c_ e_:Nat->PySem.Addr}{M M0 M':MH}{Q:VK3}{E E':XN}{n:Nat}{s a kd nn:PySem.Addr}{x y:Nm}{N N':Nt}{rp:Nm->PySem.Addr}{d_:List (Int×Int)}{wy:List Wy}{rows:List Rw}{S F:List (Nm×Int)}{p:Nm->Int}{l:List Nm}
abbrev nine:Nm:=[9,9]
theorem NT.up(h:NT c_ M nn kd rp N)(fm:Fm M')(ex:∀q o,M q=some o->M' q=some o):NT c_ M' nn kd rp N:=⟨ex _ _ h.nn,h.eg.mono ex,h.inj,fm,h.wn,h.sz⟩
theorem zQ:ar (.g_ ((KS rows).map nmD)) (.int 0) M Q=Q (nmD NO) M:=iV (by unfold KS;rw[Kn];exact qV _ _)
theorem B7:∃x∈KS rows,∀{M:MH}{Q:VK3},ar (.g_ ((KS rows).map nmD)) (.int (-1)) M Q=Q (nmD x) M:=by
 have h:KS rows≠[]:=by simp[KS]
 refine⟨(KS rows).getLast h,List.getLast_mem h,λ{M Q}=>iV ?_⟩
 have:=congrArg (List.map nmD) (List.dropLast_concat_getLast h);rw[List.map_append]at this;rw[<-this];exact vT _ _
abbrev l8:ISs:=tl (tl (tl (tl (tl (tl (tl mD))))))
abbrev l15:ISs:=tl (tl (tl (tl (tl (tl (tl l8))))))
abbrev l19:ISs:=tl (tl (tl (tl l15)))
theorem yy{De:Ends3}(C:CT cls c_ e_ d_ wy rows N S)(h:NT c_ M nn kd rp N')(hs:M s=some (dNn S))(h0:NO∈N'.ks)(h9:nine∈N'.ks)(hb:(lk (N'.row NO) nine).isSome=true)(hQ:∀M',De.rt (.bl true) M') :
  aR ⟨(B cls c_ e_),aa T (B cls c_ e_) (n+12)⟩ l19 De ES [y0,y1,some (.g_ (rows.map Rw.d)),some (wO c_ d_ wy),some (.ref nn),some (.g_ ((KS rows).map nmD)),y6,some (.ref s),y8,y9,y10,E_,y12,y13,y14] M:=by
 have hk:(KS rows).length=rows.length+1:=by simp[KS,jq]
 have hl:=C.hl;have hz:rows.length<=PySem.sizeLine:=KB (show rows.length<=1000 by omega) (by decide)
 obtain⟨v,hv⟩:=KL.mp hb;simp[l19,l15,l8,tl,mD,hz,-dP];refine C.nf h.fm λM' UJ y2=>?_
 obtain⟨UK,UL,z⟩:=y2;have s2:=z.ex _ _ hs;have h':=h.up z.nt.fm z.ex;have bd:∀{Q:VK3}{E:XN},aa T (B cls c_ e_) (n+12) 31 [.ref nn,nmD NO,.tup [.int 9,.int 9]] M' Q E=Q (.int v) M':=λ{Q E}=>by
  have:=mX (cls:=cls) (e_:=e_) (n:=n+10) (Q:=Q) (E:=E) h' h0 h9;rw[hv]at this;exact this
 simp[z.nt.mth iX,pc z.nt,C.ln.kx,-dP];refine BH (λx hx=>aQ hx) (rH C.f) C.hl ?_
 simp[z.nt.mth fx];refine C.times z.nt s2 ?_;simp[h'.mth fk,↓zQ,au,↓bd,D.isN,z.nt.mth fx];exact C.times z.nt s2 (hQ _)
theorem uM(W:WN N)(hp:Pot N p)(h9:x∉N.ks):Pot (bV N x) λz=>if z=x then t else p z:=λa b w ⟨h1,h2⟩=>by
 have h2:(b,w)∈(bV N x).row a:=h2;unfold bV at h2;rw[Kj h9]at h2;simp only at h2;by_cases e:a=x
 ·rw[Kp e]at h2;cases h2
 ·rw[Kj e]at h2;have ha:=(addK_mem.mp h1).resolve_left e;have hb:=((W.row a ha).2 _ h2).1;simp only;rw[Kj e,Kj λz:b=x=>h9 (z▸hb)]
  exact hp a b w ⟨ha,h2⟩
theorem xW{De:Ends3}{ES:St3->XN}{y0 y1 y6 y8 y9 y10 E_ y12 y13 y14:Option D}(C:CT cls c_ e_ d_ wy rows N S)(Y:NY c_ M0 M nn N)(s0:M0 s=some (dNn S))(hQ:∀M',De.rt (.bl true) M') :
  aR ⟨(B cls c_ e_),aa T (B cls c_ e_) (n+12)⟩ l15 De ES [y0,y1,some (.g_ (rows.map Rw.d)),some (wO c_ d_ wy),some (.ref nn),some (.g_ ((KS rows).map nmD)),y6,some (.ref s),y8,y9,y10,E_,y12,y13,y14] M:=by
 have hl:=C.hl;have ek:=C.ln.kx;have n9:nine∉N.ks:=λh=>by
  rw[ek]at h;have:=C.g.l6;rcases HC C.f h with h|⟨i,j,e,_,_⟩
  ·cases h
  ·cases e;omega
 obtain⟨kd,rp,z⟩:=id Y;obtain⟨p,hp⟩:=C.ln.pt;obtain⟨x,hx,ix⟩:=B7 (rows:=rows);have Sd:x∈N.ks:=by rw[ek];exact hx
 have Se:NO∈N.ks:=by rw[ek];exact Kl
 have nx:x≠nine:=λe=>n9 (e▸Sd)
 have P:=uM (t:=min (p NO-10 ^ 9) (p x-10 ^ 12)) C.ln.wn hp n9;rw[show l15=.cons _ (.cons _ (.cons _ (.cons _ l19))) from rfl];simp[z.nt.mth fx];refine C.times z.nt (z.ex _ _ s0) ?_;simp[z.nt.mth gC,au];refine qX (x:=nine) Y (by rw[ek];omega) λM1 Y1=>?_
 obtain⟨_,_,z1⟩:=id Y1;have q1:∀{u},u∈N.ks->u∈(bV N nine).ks:=λh=>addK_mem.mpr (.inr h)
 have q9:nine∈(bV N nine).ks:=addK_mem.mpr (.inl rfl);simp[z1.nt.mth hU,↓zQ,lH,au];refine qh (x:=NO) (y:=nine) (m:=-1000000000) Y1 P (q1 Se) q9 (by decide) (by rw[Kp rfl,Kj (by decide)];omega) λM2 Y2=>?_
 obtain⟨_,_,z2⟩:=id Y2;simp[z2.nt.mth hU,↓ix,lH,au];have P2:=kG (x:=NO) (y:=nine) (m:=-1000000000) P (by rw[Kp rfl,Kj (by decide)];omega)
 refine qh (x:=x) (y:=nine) (m:=-1000000000000) Y2 P2 (q1 Sd) q9 nx (by rw[Kp rfl,Kj nx];omega) λM3 Y3=>?_
 obtain⟨_,_,z3⟩:=Y3;exact yy C z3.nt (z3.ex _ _ s0) (q1 Se) q9 (m7 (bs:=[(NO,nine,-1000000000),(x,nine,-1000000000000)]) (.inr ⟨_,Kl,rfl,rfl⟩)) hQ
end
section
variable {d_:List (Int×Int)}{wy:List Wy}{rows:List Rw}{l:List Nm}{td:List (Rw×Int)}
theorem jZ:∀{ks:List Nm}{ds:List D},getD ks ds k=some v->k∈ks
 |[],_,h=>by simp[getD]at h
 |q::ks,[],h=>by simp[getD]at h
 |q::ks,e::ds,h=>by
  simp only[getD]at h;split at h
  ·rename_i e;rw[e];exact Kl
  ·exact Ki _ (jZ h)
theorem wG:∀{l:List (Int×Int)}{c:Int->Nat}{T:Dt},k∈(dF c T l).1->k∈T.1\/k∈(nmF (l.map Prod.fst) c).map nv
 |[],_,_,h=>.inl h
 |q::l,c,T,h=>by
  rcases wG (l:=l) h with h|h
  ·rcases put1_mem.mp h with rfl|h
   ·exact .inr Kl
   ·exact .inl h
  ·exact .inr (Ki _ h)
abbrev tT(td:List (Rw×Int)):Dt:=dF c00 D0 (td.map ht)
def tv:Option D->Int
 |some (.int t)=>t
 |_=>0
def tP(td:List (Rw×Int))(k:Nm):Int:=tv (getD (tT td).1 (tT td).2 k)
theorem z9(h:k∈(tT td).1):k∈KS (td.map Prod.fst):=by
 rcases wG h with h|h
 ·rw[KF.mp h];exact Kl
 ·refine Ki _ ?_;rw[List.map_map]at h ⊢;exact h
theorem EC(C:TQ d_ wy td):Bp d_ wy (td.map Prod.fst) (tP td):=λb hb=>by
 obtain⟨a,i,a',i',m,t,t',e,h1,h2,_,_,ne,h⟩:=C.1 b hb;unfold tm at h1 h2;refine⟨([a,i],[a',i'],m),e,⟨z9 (jZ h1),z9 (jZ h2),λz=>ne (by simpa using z)⟩,?_⟩
 show tP td [a',i'] - tP td [a,i]<=m;unfold tP tT;rw[h1,h2];exact h
theorem wl(G:GW d_ wy)(f:∀r∈rows,r.fine d_.length wy):∀h v x y,Rw.take h v x y∈rows->x≠h:=λh v x y m=>by
 obtain⟨w,hw,e⟩:=KJ.mp (show [x,h]∈wy.map pr from (f _ m).w);have:=(G.gd w hw).ne;unfold pr at e;simp at e;omega
theorem si:∀{rows:List Rw}{c:Int->Nat}{lr:Int->Int},(bdF d_ wy c lr rows).length<=4*rows.length
 |[],_,_=>Km _
 |r::rs,c,lr=>by
  have:=nI (d_:=d_) (wy:=wy) (c:=c) (lr:=lr) (r:=r);have:=si (rows:=rs) (c:=bump c r.h) (lr:=nxt lr r.h r.r);rw[bdF,KO,Ky];omega
theorem NY.put(h:NY c_ M0 M nn N)(hs:M s=none):NY c_ (put M0 s o) (put M s o) nn N:=by
 obtain⟨kd,rp,z⟩:=h;have e:=z.nt.eg.ne hs;have up:∀q u,M q=some u->L2.put M s o q=some u:=λq u h=>by rw[ae (λe=>by rw[e,hs]at h;cases h)];exact h
 refine⟨kd,rp,z.nt.up (z.nt.fm.put _ _) up,by rw[ae e.1];exact z.k0,λw hw=>by rw[ae (e.2 w hw)];exact z.r0 w hw,z.kr,λq u h=>?_⟩
 by_cases q1:q=s
 ·rw[q1,ac]at h ⊢;exact h
 ·rw[ae q1]at h;exact up q u (z.ex q u h)
theorem vn{lo:Option Int}:∃as:List Nm,dq (l.map nmD) lo hi=as.map nmD/\as.length<=l.length/\∀x∈as,x∈l:=by
 unfold dq;rw[Kr,<-List.map_drop,<-List.map_take];exact⟨_,rfl,KB (List.length_take_le' ..) (by rw[List.length_drop];omega),λx hx=>List.mem_of_mem_drop (List.mem_of_mem_take hx)⟩
abbrev l14:ISs:=tl (tl (tl (tl (tl (tl l8)))))
theorem BK{De:Ends3}{as:List Nm}(C:CT cls c_ e_ d_ wy rows N S)(Y:NY c_ M0 M nn N)(s0:M0 s=some (dNn S))(ha:∀y∈as,y∈KS rows)(hQ:∀M',De.rt (.bl true) M') :
  aR ⟨(B cls c_ e_),aa T (B cls c_ e_) (n+12)⟩ l14 De ES [y0,y1,some (.g_ (rows.map Rw.d)),some (wO c_ d_ wy),some (.ref nn),some (.g_ ((KS rows).map nmD)),y6,some (.ref s),y8,y9,y10,some (.g_ (as.map nmD)),y12,y13,y14] M:=by
 obtain⟨kd,rp,z⟩:=id Y;rw[show l14=.cons _ l15 from rfl];exact BD C z.nt (z.ex _ _ s0) ha λy8 y9 y12 y13=>xW C Y s0 hQ
abbrev l5:ISs:=tl (tl (tl (tl mD)))
theorem zl{De:Ends3}(L:LB d_ wy rows)(fn:Fn1 (bdF d_ wy c00 l00 rows))(hl:rows.length<=60)(hM:Fm M)(hQ:∀M',De.rt (.bl true) M') :
  aR ⟨(B cls c_ e_),aa T (B cls c_ e_) (n+12)⟩ l5 De ES [y0,some (.tup [.g_ (d_.map cD),.I_ (wy.map pr) (wy.map wv)]),some (.g_ (rows.map Rw.d)),some (wO c_ d_ wy),y4,y5,y6,y7,y8,y9,y10,E_,y12,y13,y14] M:=by
 obtain⟨N,ln,nf⟩:=Bg L;obtain⟨p,hp⟩:=L.b;obtain⟨bs,eb,hb⟩:=xc hp;have bl:=si (d_:=d_) (wy:=wy) (rows:=rows) (c:=c00) (lr:=l00);rw[eb,Kr]at bl;have hk:(KS rows).length=rows.length+1:=by simp[KS,jq]
 have C:CT cls c_ e_ d_ wy rows N (bs.foldl stp []):=⟨ln,nf,DQ eb (λc hc=>⟨(hb c hc).1.1,(hb c hc).1.2.1⟩) fn (by omega),by omega,L.g,L.f⟩
 have hz:rows.length<=PySem.sizeLine:=KB (show rows.length<=1000 by omega) (by decide)
 have zk:(KS rows).length<=PySem.sizeLine:=KB (show _<=1000 by omega) (by decide)
 have e:D.tup [.int (-1),.int 0]::(nmF (rows.map Rw.h) c00).map nD=(KS rows).map nmD:=by unfold KS;rw[Kn,List.map_map];rfl
 rw[show l5=.cons _ (.cons _ (.cons _ (.cons _ (.cons _ (.cons _ (.cons _ (.cons _ (.cons _ l14)))))))) from rfl];simp[hz,-dP];refine C.nf hM λM1 nn Y=>?_
 obtain⟨kd,rp,z⟩:=id Y;have OP:=z.nt.fm;have nm:=λ{Q:VK3}{E:XN}=>wj (cls:=cls) (c_:=c_) (e_:=e_) (n:=n+11) (Q:=Q) (E:=E) (rows:=rows) OP (by omega)
 have Sf:=λ{Q:VK3}{E:XN}=>pc (cls:=cls) (e_:=e_) (n:=n+11) (Q:=Q) (E:=E) z.nt
 rw[ln.kx]at Sf;have cn:=λ{Q:VK3}=>su (cls:=cls) (c_:=c_) (e_:=e_) (n:=n+10) (Q:=Q) OP (λx (hx:x∈KS rows)=>aQ hx) (by omega) (λ_ _=>trivial)
 have no:∀{Q:VK3},aI .NotEq (.tup [.int (-1),.int 0]) (.tup [.int (-1),.int 0]) M1 Q=Q (.bl false) M1:=λ{Q}=>by simp[aI,jd,L2.rs,ak,plN,eqD,bU]
 simp[↓nm,e,zk,z.nt.mth iX,↓Sf,ax,↓cn,xz,↓no,au,-dP];refine BH (λx hx=>aQ hx) (rH C.f) C.hl ?_
 intro s hs;refine FD L.g (OP.put _ _) L.l L.f ?_;rw[eb];refine of_eq_true (pF bs [] _ _ _ (λc hc=>⟨aQ (hb c hc).1.1,aQ (hb c hc).1.2.1⟩) (by simp;omega) λu v w=>eq_true ?_)
 have Y':=NY.put (o:=dNn (bs.foldl stp [])) Y hs;have fin:=λ(as:List Nm)(ha:∀y∈as,y∈KS rows)=>BK (ES:=ES) (n:=n) (y0:=y0) (y1:=some (.tup [.g_ (d_.map cD),.I_ (wy.map pr) (wy.map wv)])) (y6:=some (.g_ ((KS rows).map nmD))) (y8:=u) (y9:=v) (y10:=w) (y12:=y12) (y13:=y13) (y14:=y14) C Y' ac ha hQ
 obtain⟨a1,e1,l1,m1⟩:=vn (lo:=none) (hi:=some 1);obtain⟨a2,e2,l2,m2⟩:=vn (lo:=some (-2)) (hi:=none);have s1:a1.length<=PySem.sizeLine:=KB l1 zk;have s2:a2.length<=PySem.sizeLine:=KB l2 zk;have s3:a1.length+a2.length<=PySem.sizeLine:=KB (show _<=1000 by omega) (by decide)
 simp[e1,e2,s1,s2];split
 ·rw[<-List.map_append];exact⟨s3,fin _ λy hy=>(KD.mp hy).elim (m1 y) (m2 y)⟩
 ·exact fin _ λ_ h=>h
end
section
theorem AZ{rows:List Rw}:∃j,dq (rows.map Rw.d) none hi=(rows.take j).map Rw.d:=by
 unfold dq;rw[Kr,<-List.map_drop,<-List.map_take];exact⟨_,rfl⟩
theorem main(cls c_ e_:Nat->PySem.Addr)(ns:List Int)(hl:ns.length<=63):aa (L.map FL.fb) (B cls c_ e_) 13 63 [scr ns] (λ_=>none) (λd _=>d=.bl true) (λ_ _=>False):=by
 rw[Iy];obtain⟨c0,k0⟩:=vA ns 0;obtain⟨c1,k1⟩:=vA ns 1;have k0:∀{M:MH}{Q:VK3}{E:XN},aa T (B cls c_ e_) 12 48 [scr ns,.int 0] M Q E=Q (.int c0) M:=k0;have k1:∀{M:MH}{Q:VK3}{E:XN},aa T (B cls c_ e_) 12 48 [scr ns,.int 1] M Q E=Q (.int c1) M:=k1;obtain⟨cs,ec,lc⟩:=BV ns;have hz:cs.length<=PySem.sizeLine:=KB (show cs.length<=1000 by omega) (by decide)
 rw[FQ,show mD=.cons _ (.cons _ (.cons _ (.cons _ l5))) from rfl];simp[↓k0];refine zG Fm.nil λd_ wy G=>?_
 simp[↓k1,ec,hz];refine AT G Fm.nil (by omega) λtd f ⟨at_,sn,tc⟩ l=>?_
 simp[ax];rw[zD Fm.nil l];have mk:=λ{Q:VK3}{E:XN}=>Ct (cls:=cls) (c_:=c_) (e_:=e_) (n:=5) (Q:=Q) (E:=E) G Fm.nil
 have zt:td.length<=PySem.sizeLine:=KB (show td.length<=1000 by omega) (by decide)
 simp[-List.map_map,↓mk,zt,cZ];obtain⟨j,e⟩:=AZ;have lj:((td.map Prod.fst).take j).length<=td.length:=by rw[List.length_take,Kr];omega
 have fj:∀r∈(td.map Prod.fst).take j,r.fine d_.length wy:=λr h=>f r (List.mem_of_mem_take h)
 have tq:=tc.pre j;rw[e,Kr];refine⟨KB lj zt,?_⟩;have b:=EC tq;have u:=tq.2;rw[List.map_take]at b u;exact zl ⟨G,by omega,fj,⟨_,b⟩⟩ (u (wl G fj)) (by omega) Fm.nil λM'=>rfl
end
end G
open PySem PySem.W PyProof.Rows
set_option maxRecDepth 100000 in
set_option maxHeartbeats 0 in
theorem PySem.Challenge.cw_driftmeet_k35_the_net_of_a_log_holds : PySem.Challenge.rw_driftmeet_k35_the_net_of_a_log.Holds := by
 w_on
 refine PySem.W.holds_law wz_ λT9=>?_
 refine holds_open (q:=HD.view) (loose:=HD.loose) (Xt:=HD.Xt) (XP:=XL HD.view []) (Yf:=Hook.obs (kHook HD.K HD.as HD.as_eq)) (Ya:=Hook.val (kHook HD.K HD.as HD.as_eq)) (YP:=Hook.says (kHook HD.K HD.as HD.as_eq)) (N:=10580) HD.left (Hook.of (kHook HD.K HD.as HD.as_eq)) (Hook.keeps (kHook HD.K HD.as HD.as_eq)) (λs e=>xl_of s (Bool.and_eq_true_iff.mp e).1) XL.keeps (by rfl) (by rfl) (by rfl) (λs e=>recFacts_of (Bool.and_eq_true_iff.mp e).2) (by kernel_rfl) (by first|assumption|decide +kernel) (by decide +kernel) ⟨rfl,rfl,rfl,rfl,rfl,by decide +kernel⟩ ?hw ?hc
 (case hw=>w_witness2)
 k_fill
 refine L2.walkD (l:=PySem.Challenge.rw_driftmeet_k35_the_net_of_a_log) (k:=13) (f:=63) (fl:=G.l_law) (x:="_law_script") (L:=G.L) (nm:=G.nm) (BB:=G.B) rfl rfl ⟨rfl,by decide,by decide⟩ (λw h Y=>PySem.W.kIn_of Y) rfl rfl rfl rfl ?F (λcls c_ e_ ns hl=>G.main cls c_ e_ ns hl)
 case F=>
  intro w mg h KX Gn
  refine' G.top_mk (q0:=121) (qn0:=0) (qt0_0:=331) (qt0_1:=332) (qt1:=823) KX Gn ?QZ ?Q0 ?Q1
  (case QZ=>kernel_rfl)
  (case Q0=>kernel_rfl)
  (case Q1=>kernel_rfl)
  all_goals exact⟨0,0,0,0⟩
