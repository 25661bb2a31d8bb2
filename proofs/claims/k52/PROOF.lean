import PyProof.Rows.All
import Wide.All
import OpenK.AllK
import Wide.FinOn
import Lean
import PyProof.EqAt
import PyProof.EqKinds
import PyProof.TupleCall
import PySem.Challenge.RW_driftmeet_k52_what_is_heard
set_option Elab.async false
set_option linter.all false
set_option maxRecDepth 100000
set_option maxHeartbeats 4000000
namespace L2
open PySem PySem.Spec PyProof.Rows
abbrev Iz:=PySem.W.Frag
def G8:=@wpAny_bind
def G9:=@Bool.and_eq_true
def Ha:=@wpAny_pure
def Hb:=@List.mem_cons_of_mem
def Hc:=@if_neg
def Hd:=@Heap.get?_push_of_some
def He:=@Ne.symm
def Hf:=@List.mem_cons_self
def Hg:=@if_pos
def Hh:=@Nat.le_refl
def Hi:=@Heap.lt_size
def Hj:=@List.mem_cons
def Hk:=@decide_eq_true_eq
def Hl:=@List.map_cons
def Hm:=@List.length_map
def Hn:=@Heap.get?_push_size
def Ho:=@Nat.lt_of_lt_of_le
def Hq:=@Bool.false_ne_true
def Hr:=@List.getElem?_eq_some_iff
def Hs:=@beq_iff_eq
def Ht:=@List.mem_map
def Hu:=@List.size_toArray
def Hv:=@Option.some.inj
def Hw:=@Nat.le_trans
def Hx:=@Nat.ne_of_lt
def Hy:=@List.getElem?_eq_getElem
def Hz:=@List.mem_append_right
def HA:=@List.length_cons
def HB:=@List.getElem?_map
def HC:=@List.all_eq_true
def HE:=@Bool.false_eq_true
def HF:=@List.nodup_cons
def HG:=@List.map_map
def HH:=@Heap.get?_update_self
def HI:=@List.not_mem_nil
def HJ:=@List.length_append
def HK:=@beq_eq_false_iff_ne
def HL:=@List.mem_of_getElem?
def HM:=@Heap.get?_update_other
def HN:=@decide_eq_false
def HP:=@wpAny_newObj_type
def HQ:=@tupleKind_room_in1
def HR:=@wpAny_holding
def HU:=@List.mem_append
def HW:=@wpAny_truthy_bool
def HX:=@List.lookup_cons
def HY:=@List.mem_singleton
def HZ:=@wpAny_field
def Ia:=@List.append_nil
def Ib:=@wpAny_call_entry
def Ic:=@wpAny_dictEntries
def Id:=@List.find?_cons
def Ie:=@Obj.data_mapFields
def Ig:=@wpAny_mono
def Ih:=@List.getElem?_set_ne
def Ii:=@Int.toNat_natCast
def Ij:=@Array.getElem?_eq_some_iff
def Ik:=@Nat.lt_irrefl
def Il:=@Nat.le_succ
def Im:=@List.mem_append_left
def Io:=@List.map_append
def Ip:=@Nat.le_add_right
def Iq:=@wpAny_setField
def Ir:=@Int.emod_lt_of_pos
def Iu:=@of_decide_eq_true
def Iv:=@Option.isSome_iff_exists
def Iw:=@Int.emod_nonneg
def Ix:=@Bool.and_eq_true_iff
def Iy:=@List.getElem_mem
end L2
namespace L2
open PySem PySem.Spec PyProof.Rows
noncomputable abbrev Key:=Sum Int Str
noncomputable def jF:Key->Value->Bool
 |.inl k,v=>Value.isInt k v
 |.inr x,v=>Value.isStrOf x v
noncomputable def FC(w:World):Key->Int
 |.inl k=>hashInt k
 |.inr x=>hashStr w x
theorem aC:∀{k:Key}{v:Value},jF k v=true->(∃i t,k=Sum.inl i/\v=Value.int i t)\/(∃x t,k=Sum.inr x/\v=Value.str x t)
 |.inl i,v,h=>by
  obtain⟨t,e⟩:=Value.isInt_shape (k:=i) (v:=v) h;exact .inl ⟨i,t,rfl,e⟩
 |.inr x,v,h=>by
  obtain⟨t,e⟩:=Value.isStrOf_shape (x:=x) (v:=v) h;exact .inr ⟨x,t,rfl,e⟩
theorem ra(i:Int)(t:Tok):jF (.inl i) (.int i t)=true:=by simp[jF,Value.isInt]
theorem qC(x:Str)(t:Tok):jF (.inr x) (.str x t)=true:=by simp[jF,Value.isStrOf]
theorem ya(a b:Int):decide ((Sum.inl a:Key)=Sum.inl b)=(a == b):=by
 by_cases e:a=b
 ·subst e;simp
 ·have h:¬ (Sum.inl a:Key)=Sum.inl b:=λq=>e (Sum.inl.inj q)
  rw[HN h];exact (HK.mpr e).symm
theorem yb(a b:Str):decide ((Sum.inr a:Key)=Sum.inr b)=decide (a=b):=by
 by_cases e:a=b
 ·subst e;simp
 ·have h:¬ (Sum.inr a:Key)=Sum.inr b:=λq=>e (Sum.inr.inj q)
  rw[HN h,HN e]
theorem Ax(a:Int)(b:Str):decide ((Sum.inl a:Key)=Sum.inr b)=false:=HN (λq=>nomatch q)
theorem yH(a:Str)(b:Int):decide ((Sum.inr a:Key)=Sum.inl b)=false:=HN (λq=>nomatch q)
noncomputable def aB(prog:Program)(w:World):PySem.KeyKind prog w Key where
 is:=jF
 hash:=FC w
 inj:=λv a b ha hb=>by
  rcases aC ha with ⟨i,t,rfl,rfl⟩|⟨x,t,rfl,rfl⟩
  ·rcases aC hb with ⟨j,u,rfl,e⟩|⟨y,u,rfl,e⟩
   ·injection e with e1 _;rw[e1]
   ·exact nomatch e
  ·rcases aC hb with ⟨j,u,rfl,e⟩|⟨y,u,rfl,e⟩
   ·exact nomatch e
   ·injection e with e1 _;rw[e1]
 byValue:=λk v h=>by
  rcases aC h with ⟨i,t,rfl,rfl⟩|⟨x,t,rfl,rfl⟩<;>rfl
 pyHash:=λhv h=>by
  rcases aC hv with ⟨i,t,rfl,rfl⟩|⟨x,t,rfl,rfl⟩
  ·exact wpAny_pyHash_int h
  ·exact wpAny_pyHash_str h
 eqBool:=λhu hv h=>by
  rcases aC hu with ⟨i,t,rfl,rfl⟩|⟨x,t,rfl,rfl⟩
  ·rcases aC hv with ⟨j,u,rfl,rfl⟩|⟨y,u,rfl,rfl⟩
   ·rw[ya]at h;exact wpAny_eqBool_int h
   ·rw[Ax]at h;exact SeqAt.EqAt.int_str i t y u _ _ _ _ h
  ·rcases aC hv with ⟨j,u,rfl,rfl⟩|⟨y,u,rfl,rfl⟩
   ·rw[yH]at h;exact SeqAt.EqAt.str_int x t j u _ _ _ _ h
   ·rw[yb]at h;exact wpAny_eqBool_str h
 «strs»:=λk x t v h=>by
  rcases aC h with ⟨i,u,rfl,e⟩|⟨y,u,rfl,e⟩
  ·exact nomatch e
  ·injection e with e1 _
   subst e1;cases v<;>rfl
theorem pG(prog:Program)(w:World)(k:Key)(v:Value):(aB prog w).is k v=jF k v:=rfl
theorem mW(prog:Program)(w:World)(i:Int)(t:Tok):(aB prog w).is (.inl i) (.int i t)=true:=ra i t
theorem m9(prog:Program)(w:World)(x:Str)(t:Tok):(aB prog w).is (.inr x) (.str x t)=true:=qC x t
inductive V where
 |non|bl (b:Bool)|int (i:Int)|str (x:Str)|byt (b:Array UInt8)|flt (b:UInt64)|ref (a:Addr)|ty (n:String)
 deriving DecidableEq
def RelV:V->Value->Prop
 |.non,u=>u=Value.none
 |.bl b,u=>u=Value.bool b
 |.int i,u=>∃t,u=Value.int i t
 |.str x,u=>∃t,u=Value.str x t
 |.byt b,u=>∃t,u=Value.bytes b t
 |.flt b,u=>∃t,u=Value.float b t
 |.ref a,u=>u=Value.ref a
 |.ty n,u=>u=Value.type n
abbrev Vals:List V->List Value->Prop:=Paired RelV
theorem Vals.length{xs:List V}{us:List Value}(r:Vals xs us):xs.length=us.length:=Paired.length r
theorem Vals.get:∀{xs:List V}{us:List Value}{i:Nat}{x:V},Vals xs us->xs[i]?=some x->∃u,us[i]?=some u/\RelV x u
 |_,_,_,_,.nil,e=>by simp at e
 |_,_,0,_,.cons r _,e=>by simp at e;subst e;exact⟨_,rfl,r⟩
 |_,_,i+1,x,.cons _ t,e=>by
  obtain⟨u,h1,h2⟩:=Vals.get (i:=i) (x:=x) t (by simpa using e)
  exact⟨u,by simpa using h1,h2⟩
theorem Vals.set(r:RelV x u):∀{xs:List V}{us:List Value} (i:Nat),Vals xs us->Vals (xs.set i x) (us.set i u)
 |_,_,_,.nil=>.nil
 |_,_,0,.cons _ t=>.cons r t
 |_,_,i+1,.cons q t=>.cons q (Vals.set r i t)
theorem Vals.append:∀{xs ys:List V}{us ws:List Value},Vals xs us->Vals ys ws->Vals (xs++ys) (us++ws)
 |_,_,_,_,.nil,s=>s
 |_,_,_,_,.cons r t,s=>.cons r (Vals.append t s)
theorem Vals.take:∀{xs:List V}{us:List Value} (n:Nat),Vals xs us->Vals (xs.take n) (us.take n)
 |_,_,0,_=>.nil
 |_,_,_+1,.nil=>.nil
 |_,_,n+1,.cons r t=>.cons r (Vals.take n t)
theorem Vals.drop:∀{xs:List V}{us:List Value} (n:Nat),Vals xs us->Vals (xs.drop n) (us.drop n)
 |_,_,0,r=>r
 |_,_,_+1,.nil=>.nil
 |_,_,n+1,.cons _ t=>Vals.drop n t
def RelO:Option V->Option Value->Prop
 |some v,some u=>RelV v u
 |none,none=>True
 |_,_=>False
def KV:List (κ×V)->List (κ×Value)->Prop:=Paired λ(p:κ×V) (q:κ×Value)=>p.1=q.1/\RelV p.2 q.2
noncomputable def kV:Key->V
 |.inl i=>.int i
 |.inr x=>.str x
inductive HO where
 |lst (xs:List V)
 |tup (xs:List V)
 |dK (kvs:List (Key×V))|dT (kvs:List (List Key×V))
 |set (S:Int->Bool) (n:Nat)
 |ins (C dx:Addr) (fs:List (Str×V))
 |own (x:Addr)
 |xd (fs:List (Str×V))
 |met (f x:Addr)
 |rng (lo hi:Int)
 |frz (o:Obj) (u:HO)
 |tbl (ps:Array Value)
 |ext (φ:Heap->Prop)
noncomputable abbrev Hp:=Addr->Option HO
noncomputable def upd(H:Hp)(a:Addr)(o:HO):Hp:=λb=>if b=a then some o else H b
theorem ag:upd H a o a=some o:=by unfold upd;rw[Hg rfl]
theorem ae(h:b≠a):upd H a o b=H b:=by unfold upd;rw[Hc h]
theorem dQ{H:Hp}{a b:Addr}{o u:HO}(h:H a=some o)(h':H b=some u)(d:o≠u):a≠b:=by
 intro e;subst e;rw[h]at h';exact d (Hv h')
theorem aA{H:Hp}{a b:Addr}{o:HO}(h:H a=some o)(h':H b=none):a≠b:=by
 intro e;subst e;rw[h]at h';cases h'
section
variable (P:Program) (w:World)
def ObjOk(H:Hp)(h:Heap)(a:Addr):HO->Prop
 |.lst xs=>xs.length<=sizeLine/\∃(its:List Value) (n:Nat),Vals xs its/\h.get? a=some {cls:=.type "list",data:=.seq its.toArray n}
 |.tup xs=>xs.length<=sizeLine/\∃its:List Value,Vals xs its/\IsTup h a its.toArray
 |.dK kvs=>kvs.length<=sizeLine/\(a == sysModules)=false/\∃vs,KV kvs vs/\h.DictOf (aB P w) a vs
 |.dT kvs=>kvs.length<=sizeLine/\(a == sysModules)=false/\∃xs:List (List Key×Addr×Value),
   Paired (λ(p:List Key×V) (q:List Key×Addr×Value)=>p.1=q.1/\H q.2.1=some (.tup (p.1.map kV))/\RelV p.2 q.2.2) kvs xs/\
   ∃o es ep,h.get? a=some o/\o.ExactDict/\o.data=.dict es ep/\es.toList=xs.map (entryOfKey (tupleKind (aB P w)))/\(xs.map (·.1)).Nodup
 |.set S n=>h.SetOf (intKind P w) a S n
 |.ins C dx fs=>H dx=some (.own a)/\fs.length<=1000/\dx≠a/\h.get? a=some (PySem.W.instObj C dx)/\
   ∃mA,h.Ns1 dx mA/\(∀f,RelO (fs.lookup f) (mA f))/\PySem.Within mA (fs.map (·.1))
 |.own _=>∃o,h.get? a=some o
 |.xd fs=>∃mA,h.Ns1 a mA/\∀f,RelO (fs.lookup f) (mA f)
 |.rng lo hi=>∃t u v,h.get? a=some {cls:=.type "range",data:=.fields #[.int lo t,.int hi u,.int 1 v]}
 |.frz o u=>h.get? a=some o/\ObjOk H h a u
 |.tbl ps=>h.get? a=some {cls:=.none,data:=.fields ps}
 |.met f x=>h.get? a=some (PySem.W.methodObj (.ref f) (.ref x))
 |.ext φ=>φ h/\(∃o,h.get? a=some o)/\∀h1 h2:Heap,φ h1->(∀o,h1.get? a=some o->h2.get? a=some o)->φ h2
def HOk(H:Hp)(h:Heap):Prop:=∀a o,H a=some o->ObjOk P w H h a o
end
section
variable {P:Program}{w:World}{H H':Hp}{h h':Heap}{a:Addr}{o:HO}
theorem ObjOk.lt(x:ObjOk P w H h a o):a<h.objs.size:=by
 cases o with
 |lst xs=>obtain⟨_,_,_,_,e⟩:=x;exact Hi e
 |tup xs=>obtain⟨_,_,_,p⟩:=x;exact p.lt
 |dK kvs=>obtain⟨_,_,_,_,o,_,_,e,_⟩:=x;exact Hi e
 |dT kvs=>obtain⟨_,_,_,_,o,_,_,e,_⟩:=x;exact Hi e
 |set S n=>obtain⟨o,_,_,_,e,_⟩:=x;exact Hi e
 |ins C dx fs=>obtain⟨_,_,_,e,_⟩:=x;exact Hi e
 |own y=>obtain⟨_,e⟩:=x;exact Hi e
 |xd fs=>obtain⟨_,⟨_,_,_,e,_⟩,_⟩:=x;exact Hi e
 |rng lo hi=>obtain⟨_,_,_,e⟩:=x;exact Hi e
 |frz ob u=>obtain⟨e,_⟩:=x;exact Hi e
 |tbl ps=>exact Hi (show h.get? a=some _ from x)
 |met f y=>exact Hi (show h.get? a=some _ from x)
 |ext φ=>obtain⟨_,⟨_,e⟩,_⟩:=x;exact Hi e
theorem Paired.mapP:∀{l₁:List α}{l₂:List β},Paired F l₁ l₂->(∀a b,F a b->G a b)->Paired G l₁ l₂
 |_,_,.nil,_=>.nil
 |_,_,.cons r t,f=>.cons (f _ _ r) (Paired.mapP t f)
theorem ObjOk.stay(x:ObjOk P w H h a o)(k:∀b u,(b=a\/H b=some (.own a))->h.get? b=some u->h'.get? b=some u)
  (ho:∀b,H b=some (.own a)->H' b=some (.own a)) (ht:∀b xs,H b=some (.tup xs)->H' b=some (.tup xs)):ObjOk P w H' h' a o:=by
 induction o with
 |lst xs=>obtain⟨z,its,n,r,e⟩:=x;exact⟨z,its,n,r,k _ _ (.inl rfl) e⟩
 |tup xs=>obtain⟨z,its,r,ob,e,c⟩:=x;exact⟨z,its,r,ob,k _ _ (.inl rfl) e,c⟩
 |dK kvs=>obtain⟨z,y,vs,r,ob,es,ep,e,c⟩:=x;exact⟨z,y,vs,r,ob,es,ep,k _ _ (.inl rfl) e,c⟩
 |dT kvs=>
  obtain⟨z,y,xs,r,ob,es,ep,e,c⟩:=x;exact⟨z,y,xs,Paired.mapP r λp q z=>⟨z.1,ht _ _ z.2.1,z.2.2⟩,ob,es,ep,k _ _ (.inl rfl) e,c⟩
 |set S n=>obtain⟨ob,es,ep,t,e,c⟩:=x;exact⟨ob,es,ep,t,k _ _ (.inl rfl) e,c⟩
 |ins C dx fs=>
  obtain⟨d,z,ne,e,mA,⟨od,es,ep,e2,c⟩,r⟩:=x;exact⟨ho _ d,z,ne,k _ _ (.inl rfl) e,mA,⟨od,es,ep,k _ _ (.inr d) e2,c⟩,r⟩
 |own y=>obtain⟨ob,e⟩:=x;exact⟨ob,k _ _ (.inl rfl) e⟩
 |xd fs=>obtain⟨mA,⟨od,es,ep,e,c⟩,r⟩:=x;exact⟨mA,⟨od,es,ep,k _ _ (.inl rfl) e,c⟩,r⟩
 |rng lo hi=>obtain⟨t,u,v,e⟩:=x;exact⟨t,u,v,k _ _ (.inl rfl) e⟩
 |frz ob u ih=>obtain⟨e,q⟩:=x;exact⟨k _ _ (.inl rfl) e,ih q⟩
 |tbl ps=>
  have e:h.get? a=some {cls:=.none,data:=.fields ps}:=x;show h'.get? a=some {cls:=.none,data:=.fields ps};exact k a _ (.inl rfl) e
 |met f y=>
  have e:h.get? a=some (PySem.W.methodObj (.ref f) (.ref y)):=x;show h'.get? a=some (PySem.W.methodObj (.ref f) (.ref y));exact k a _ (.inl rfl) e
 |ext φ=>obtain⟨p,⟨o,e⟩,st⟩:=x;exact⟨st _ _ p λo q=>k _ _ (.inl rfl) q,⟨o,k _ _ (.inl rfl) e⟩,st⟩
theorem HOk.lt(x:HOk P w H h)(e:H a=some o):a<h.objs.size:=(x a o e).lt
theorem HOk.fresh(x:HOk P w H h)(e:h.objs.size<=a):H a=none:=by
 cases q:H a with
 |none=>rfl
 |some u=>exact absurd (Ho (x.lt q) e) (Ik _)
theorem HOk.kept(x:HOk P w H h)(k:∀b u,h.get? b=some u->h'.get? b=some u):HOk P w H h':=λa o e=>
 (x a o e).stay (λb u _ q=>k b u q) (λ_ q=>q) λ_ _ q=>q
theorem HOk.laid(x:HOk P w H h)(k:∀b u,h.get? b=some u->h'.get? b=some u)(hp:h.objs.size<=a)(new:ObjOk P w (upd H a o) h' a o):HOk P w (upd H a o) h':=λb u e=>by
 have hn:=x.fresh hp;by_cases hb:b=a
 ·subst hb;rw[ag]at e;cases e;exact new
 ·rw[ae hb]at e;exact (x b u e).stay (λc v _ q=>k c v q) (λc q=>by rw[ae (aA q hn)];exact q) λc xs q=>by rw[ae (aA q hn)];exact q
end
def Rd(H:Hp)(a:Addr)(u:HO):Prop:=H a=some u\/∃o,H a=some (.frz o u)
theorem Rd.ok{P:Program}{w:World}{H:Hp}{h:Heap}{a:Addr}{u:HO}(r:Rd H a u)(x:HOk P w H h):ObjOk P w H h a u:=by
 rcases r with r|⟨o,r⟩
 ·exact x a u r
 ·obtain⟨_,q⟩:=x a _ r;exact q
def Mut:Option HO->Prop
 |some (.lst _)=>True
 |some (.dK _)=>True
 |some (.dT _)=>True
 |some (.set _ _)=>True
 |some (.ins _ _ _)=>True
 |some (.ext _)=>True
 |_=>False
section
variable {P:Program}{w:World}{h h':Heap}{x e:Addr}
theorem HOk.write(ok:HOk P w H h)(mu:Mut (H x))(he:e=x\/H e=some (.own x))(k:∀b u,b≠e->h.get? b=some u->h'.get? b=some u)(heo:∃u,h'.get? e=some u)
  (new:ObjOk P w (upd H x o') h' x o'):HOk P w (upd H x o') h':=λb u q=>by
 have nown:∀c y,H c=some (.own y)->c≠x:=λc y r z=>by subst z;rw[r]at mu;exact mu
 have C5:∀c xs,H c=some (.tup xs)->c≠x:=λc xs r z=>by subst z;rw[r]at mu;exact mu
 by_cases hb:b=x
 ·subst hb;rw[ag]at q;cases q;exact new
 ·rw[ae hb]at q;by_cases hbe:b=e
  ·have q':H b=some (.own x):=by
    rcases he with z|z
    ·exact absurd (hbe.trans z) hb
    ·rw[hbe];exact z
   rw[q]at q';cases q';obtain⟨v,hv⟩:=heo;exact⟨v,by rw[hbe];exact hv⟩
  ·refine (ok b u q).stay (λc v hc r=>k c v ?_ r) (λc r=>by rw[ae (nown c b r)];exact r) λc xs r=>by rw[ae (C5 c xs r)];exact r
   rcases hc with rfl|hc
   ·exact hbe
   ·rintro rfl;rcases he with z|z
    ·exact nown c b hc z
    ·rw[hc]at z;cases z;exact hb rfl
end
structure Un (fs ex:List Addr)(H H':Hp)(h h':Heap):Prop where
 keep:∀b o,h.get? b=some o->H b=none->b∉fs->b∉ex->h'.get? b=some o
 slot:∀b o,h.get? b=some o->H b=none->b∈fs->b∉ex->∃sl,h'.get? b=some {o with slots:=sl}
 free:∀b o,h.get? b=some o->H b=none->b∉ex->H' b=none
 there:∀b o,h.get? b=some o->b∉ex->∃o',h'.get? b=some o'
 tups:∀b xs,H b=some (.tup xs)->H' b=some (.tup xs)
 frzs:∀b o u,H b=some (.frz o u)->H' b=some (.frz o u)
 tbls:∀b ps,H b=some (.tbl ps)->∃more,H' b=some (.tbl (ps++more))
section
variable {fs fs' ex ex':List Addr}{H H1 H2:Hp}{h h1 h2 h':Heap}{a x e:Addr}{o:HO}
theorem Un.any(u:Un fs ex H H1 h h1)(q:h.get? b=some ob)(n:H b=none)(hx:b∉ex):∃sl,h1.get? b=some {ob with slots:=sl}:=by
 by_cases hb:b∈fs
 ·exact u.slot b ob q n hb hx
 ·exact⟨ob.slots,u.keep b ob q n hb hx⟩
theorem Un.kept(k:∀b u,h.get? b=some u->h'.get? b=some u):Un fs ex H H h h':=
 ⟨λb ob q _ _ _=>k b ob q,λb ob q _ _ _=>⟨ob.slots,k b ob q⟩,λ_ _ _ n _=>n,λb ob q _=>⟨ob,k b ob q⟩,λ_ _ q=>q,λ_ _ _ q=>q,λ_ ps q=>⟨#[],by rw[q];simp⟩⟩
theorem Un.refl:Un fs ex H H h h:=Un.kept λ_ _ q=>q
theorem Un.laid(k:∀b u,h.get? b=some u->h'.get? b=some u)(hp:h.objs.size<=a)(hn:H a=none):Un fs ex H (upd H a o) h h' where
 keep:=λb u q _ _ _=>k b u q
 slot:=λb u q _ _ _=>⟨u.slots,k b u q⟩
 free:=λb u q n _=>by rw[ae (Hx (Ho (Hi q) hp))];exact n
 there:=λb u q _=>⟨u,k b u q⟩
 tups:=λb xs q=>by rw[ae (aA q hn)];exact q
 frzs:=λb u xs q=>by rw[ae (aA q hn)];exact q
 tbls:=λb ps q=>⟨#[],by rw[ae (aA q hn),q];simp⟩
theorem Un.write(mu:Mut (H x))(he:e=x\/H e=some (.own x))(k:∀b u,b≠e->h.get? b=some u->h'.get? b=some u)(heo:∃u,h'.get? e=some u):Un fs ex H (upd H x o) h h':=by
 have hx:∀b,H b=none->b≠x:=λb n z=>by subst z;rw[n]at mu;exact mu
 have hb:∀b,H b=none->b≠e:=λb n z=>by
  subst z;rcases he with r|r
  ·exact hx b n r
  ·rw[n]at r;cases r
 have hm:∀b u,H b=some u->¬ Mut (some u)->b≠x:=λb u q nm z=>by subst z;rw[q]at mu;exact nm mu
 refine⟨λb u q n _ _=>k b u (hb b n) q,λb u q n _ _=>⟨u.slots,k b u (hb b n) q⟩,λb u q n _=>by rw[ae (hx b n)];exact n,λb u q _=>?_,
  λb xs q=>by rw[ae (hm b _ q λz=>z)];exact q,λb u xs q=>by rw[ae (hm b _ q λz=>z)];exact q,λb ps q=>⟨#[],by rw[ae (hm b _ q λz=>z),q];simp⟩⟩
 by_cases hbe:b=e
 ·subst hbe;exact heo
 ·exact⟨u,k b u hbe q⟩
end
noncomputable def trk(h:Heap)(H:Hp):List Addr:=(List.range h.objs.size).filter λa=>(H a).isSome
noncomputable def lR(h:Heap)(H:Hp):Heap:=PySem.W.hideAll h (trk h H)
theorem sh(h:Heap)(H:Hp):(lR h H).objs.size=h.objs.size:=PySem.W.hideAll_size _ _
theorem sk{h:Heap}(e:h.get? b=some o)(n:H b=none):(lR h H).get? b=some o:=
 PySem.W.hideAll_get _ e λhm=>by
  have q:(H b).isSome=true:=(List.mem_filter.mp hm).2;rw[n]at q;simp at q
theorem vI{h:Heap}(e:(lR h H).get? b=some o):h.get? b=some o/\H b=none:=by
 have e':h.get? b=some o:=PySem.W.of_hideAll (trk h H) e;refine⟨e',?_⟩;cases q:H b with
 |none=>rfl
 |some x=>
  have hm:b∈trk h H:=List.mem_filter.mpr ⟨List.mem_range.mpr (Hi e'),by simp[q]⟩
  have z:(lR h H).get? b=none:=PySem.W.hideAll_none (trk h H) hm;rw[z]at e;cases e
noncomputable def vq(g h:Heap)(L:Addr):List (Addr×Obj):=(List.range h.objs.size).filterMap λa=>if a=L\/(g.get? a).isSome=true then none else (h.get? a).map λo=>(a,o)
noncomputable def ax(g h:Heap)(L d:Addr):List (Addr×Obj):=(vq g h L).filter λp=>decide (p.1≠d)
structure Mod (K:Iz)(mg:Str->Option Value)(base:Heap):Prop where
 kin:K.In base
 glob:base.Ns mainGlobals mg
 blt:∃mb,base.Ns builtinsNs mb/\∀x:Str,x≠"__name__"->mb x=bootBuiltins x
 nolimit:base.NoLimit
structure Cx where
 prog:Program
 w:World
 K:Iz
 mg:Str->Option Value
 base:Heap
 A:Around
 N:List Str
 s₀:Shared
 H₀:Hp
 env:Env
 outer:List Env
 stack:List Env
 ex:List Addr
 fn:Str->Bool
 calm:Bool
 pn:List (Addr×Obj)
 xe:Value->Shared->Prop
noncomputable def frs(l:List Env):List Addr:=l.filterMap (·.frame)
noncomputable abbrev Cx.fs(X:Cx):List Addr:=frs X.outer
def Vis(sc:Scope)(x:Str):Prop:=sc.names.lookup x=some .local\/sc.names.lookup x=some .cell\/sc.names.lookup x=some .free
def Loc(sc:Scope)(x:Str):Prop:=sc.names.lookup x=some .local\/sc.names.lookup x=some .cell
def BV(env:Env)(h:Heap)(m:Str->Option Value)(x:Str)(u:Value):Prop:=
 (env.kindOf x=some .local/\m x=some u)\/((env.kindOf x=some .cell\/env.kindOf x=some .free)/\∃c,env.cells.lookup x=some c/\h.IsCell c (some u))
structure Cx.Ok (X:Cx):Prop where
 mod:Mod X.K X.mg X.base
 kind:X.env.scope.kind=.function
 glob:X.env.globals=mainGlobals
 blt:X.env.builtins=builtinsNs
 above:X.s₀.heap.objs.size<=X.env.locals
 inj:∀x y c,X.env.cells.lookup x=some c->X.env.cells.lookup y=some c->x=y
 has:∀x,(X.env.kindOf x=some .cell\/X.env.kindOf x=some .free)->∃c,X.env.cells.lookup x=some c
 cab:∀x c,X.fn x=true->X.env.cells.lookup x=some c->X.s₀.heap.objs.size<=c
 hd:X.calm=true->X.A.handled=none
 frames:X.A.frames=some X.stack
 stk:X.stack=X.outer\/(X.stack=X.env::X.outer/\X.env.frame=some X.env.locals)
 exf:∀b∈X.ex,b≠X.env.locals/\∀x c,X.env.cells.lookup x=some c->c≠b
 bs:∀b o,X.base.get? b=some o->X.s₀.heap.get? b=some o/\X.H₀ b=none
 bsz:X.base.objs.size<=X.s₀.heap.objs.size
 noex:∀b o,X.base.get? b=some o->b∉X.ex
 exfs:∀b∈X.ex,b∉X.fs
 funs:X.s₀.heap.FunFrames X.base X.outer
 frf:∀b∈X.fs,X.H₀ b=none
structure Inv (X:Cx) (pins:List (Addr×Obj)) (σ:List (Option V)) (H:Hp)(s:Shared):Prop where
 ok:X.Ok
 os:s.os=X.s₀.os
 bare:AllBare s.gens
 base:Un X.fs X.ex X.H₀ H X.s₀.heap s.heap
 loc:∃m,s.heap.Ns X.env.locals m/\∀(i:Nat)(x:Str)(v:V),X.N[i]?=some x->σ[i]?=some (some v)->Vis X.env.scope x->∃u,RelV v u/\BV X.env s.heap m x u
 cell:∀x c,X.env.cells.lookup x=some c->∃v,s.heap.IsCell c v
 free:H X.env.locals=none
 freeC:∀x c,X.env.cells.lookup x=some c->H c=none
 pin:∀p∈X.pn++pins,s.heap.get? p.1=some p.2/\H p.1=none/\p.1≠X.env.locals/\p.1∉X.fs/\∀v,p.2.data≠.cell v
 hok:HOk X.prog X.w H s.heap
 len:σ.length=X.N.length
section
variable {X:Cx}{σ:List (Option V)}{s:Shared}{h':Heap}
theorem Cx.Ok.nofr(ok:X.Ok)(e:X.base.get? b=some o):b∉X.fs:=λhb=>by
 have:=(ok.funs.mem hb).1;rw[e]at this;cases this
theorem Inv.bs(I:Inv X pins σ H s):∀b o,X.base.get? b=some o->s.heap.get? b=some o/\H b=none:=λb o e=>
 ⟨I.base.keep b o (I.ok.bs b o e).1 (I.ok.bs b o e).2 (I.ok.nofr e) (I.ok.noex b o e),I.base.free b o (I.ok.bs b o e).1 (I.ok.bs b o e).2 (I.ok.noex b o e)⟩
theorem Inv.bk(I:Inv X pins σ H s):∀b o,X.base.get? b=some o->s.heap.get? b=some o:=λb o e=>(I.bs b o e).1
theorem Inv.mod(I:Inv X pins σ H s):Mod X.K X.mg X.base:=I.ok.mod
theorem Inv.kIn(I:Inv X pins σ H s):X.K.In s.heap:=I.ok.mod.kin.keeps I.bk
theorem Inv.lt(I:Inv X pins σ H s):X.env.locals<s.heap.objs.size:=let ⟨_,hn,_⟩:=I.loc;hn.lt
theorem Inv.sz(I:Inv X pins σ H s):X.s₀.heap.objs.size<=s.heap.objs.size:=Hw I.ok.above (Nat.le_of_lt I.lt)
theorem Inv.nofs(I:Inv X pins σ H s)(h:s.heap.objs.size<=a):a∉X.fs:=λhb=>by
 obtain⟨_,o,ho,_⟩:=I.ok.funs.mem hb;exact absurd (Ho (Hi ho) (Hw I.sz h)) (Ik _)
theorem Inv.cne(I:Inv X pins σ H s):∀x c,X.env.cells.lookup x=some c->c≠X.env.locals:=λx c e z=>by
 obtain⟨v,o,ho,hd⟩:=I.cell x c e;obtain⟨m,⟨o',es,ep,ho',hd',_⟩,_⟩:=I.loc;rw[z,ho']at ho;cases ho;rw[hd']at hd;cases hd
theorem Inv.funs(I:Inv X pins σ H s):s.heap.FunFrames X.base X.outer:=by
 have all:∀(l:List Env),(∀b∈frs l,b∈X.fs)->X.s₀.heap.FunFrames X.base l->s.heap.FunFrames X.base l:=by
  intro l
  induction l with
  |nil=>intro _ _;trivial
  |cons env r ih=>
   intro hs hl;obtain⟨hk,⟨L,o,hf,hn,ho,hd⟩,hr⟩:=hl;have hL:L∈X.fs:=hs L (by unfold frs;rw[List.filterMap_cons,hf];exact Hf)
   obtain⟨sl,e⟩:=I.base.slot L o ho (I.ok.frf L hL) hL λz=>I.ok.exfs L z hL
   exact⟨hk,⟨L,_,hf,hn,e,hd⟩,ih (λb hb=>hs b (by unfold frs;rw[List.filterMap_cons,hf];exact Hb _ hb)) hr⟩
 exact all X.outer (λ_ hb=>hb) I.ok.funs
theorem Inv.stack(I:Inv X pins σ H s):s.heap.FunFrames X.base X.stack:=by
 rcases I.ok.stk with e|⟨e,hf⟩
 ·rw[e];exact I.funs
 ·rw[e];obtain⟨m,hn,_⟩:=I.loc;refine .cons (by rw[I.ok.kind];decide) hf hn ?_ I.funs
  exact Heap.get?_none_of_le (Hw I.ok.bsz I.ok.above)
theorem Inv.stkSub(I:Inv X pins σ H s):∀b∈frs X.stack,b∈X.env.locals::X.fs:=λb hb=>by
 rcases I.ok.stk with e|⟨e,hf⟩
 ·rw[e]at hb;exact Hb _ hb
 ·rw[e]at hb;unfold frs at hb;rw[List.filterMap_cons,hf]at hb;exact hb
theorem Inv.stkFree(I:Inv X pins σ H s):∀b∈frs X.stack,H b=none:=λb hb=>by
 rcases Hj.mp (I.stkSub b hb) with e|hb
 ·rw[e];exact I.free
 ·obtain⟨_,o,ho,_⟩:=I.ok.funs.mem hb;exact I.base.free b o ho (I.ok.frf b hb) λz=>I.ok.exfs b z hb
theorem Inv.step{g':Array GenState}{t':Nat}{d':Drawn}{ch:List Addr}(I:Inv X pins σ H s)
  (hch:∀b∈ch,(b∈X.ex\/X.s₀.heap.objs.size<=b)/\b≠X.env.locals/\(∀x c,X.env.cells.lookup x=some c->c≠b)/\∀p∈X.pn++pins,p.1≠b)
  (keep:∀b o,b≠X.env.locals->b∉X.fs->b∉ch->s.heap.get? b=some o->H b=none->h'.get? b=some o)
  (slot:∀b o,b≠X.env.locals->b∈X.fs->b∉ch->s.heap.get? b=some o->H b=none->∃sl,h'.get? b=some {o with slots:=sl}) (free:∀b o,b∉ch->s.heap.get? b=some o->H b=none->H' b=none)
  (there:∀b o,b∉ch->s.heap.get? b=some o->∃o',h'.get? b=some o')
  (tups:∀b xs,H b=some (.tup xs)->H' b=some (.tup xs)) (frzs:∀b o u,H b=some (.frz o u)->H' b=some (.frz o u)) (tbls:∀b ps,H b=some (.tbl ps)->∃more,H' b=some (.tbl (ps++more)))
  (ns:∀m,s.heap.Ns X.env.locals m->h'.Ns X.env.locals m)(hok:HOk X.prog X.w H' h')(hg:AllBare g') :
  Inv X pins σ H' {s with heap:=h',gens:=g',drawn:=d',toks:=t'}:=by
 have neL:∀b o,X.s₀.heap.get? b=some o->b≠X.env.locals:=λb o e=>Hx (Ho (Hi e) I.ok.above)
 have neC:∀b o,X.s₀.heap.get? b=some o->b∉X.ex->b∉ch:=λb o e hx hb=>by
  rcases (hch b hb).1 with z|z
  ·exact hx z
  ·exact absurd (Ho (Hi e) z) (Ik _)
 have cellK:∀x c,X.env.cells.lookup x=some c->∀v,s.heap.IsCell c v->h'.IsCell c v:=λx c e v ⟨o,ho,hd⟩=>by
  have nch:c∉ch:=λz=>(hch c z).2.2.1 x c e rfl
  by_cases hc:c∈X.fs
  ·obtain⟨sl,q⟩:=slot c o (I.cne x c e) hc nch ho (I.freeC x c e);exact⟨_,q,hd⟩
  ·exact⟨o,keep c o (I.cne x c e) hc nch ho (I.freeC x c e),hd⟩
 refine⟨I.ok,I.os,hg,⟨λb o e n hb hx=>?_,λb o e n hb hx=>?_,λb o e n hx=>?_,λb o e hx=>?_,λb xs e=>tups b xs (I.base.tups b xs e),λb o xs e=>frzs b o xs (I.base.frzs b o xs e),λb ps e=>?_⟩,?_,λx c e=>?_,?_,λx c e=>?_,λp hp=>?_,hok,I.len⟩
 ·exact keep b o (neL b o e) hb (neC b o e hx) (I.base.keep b o e n hb hx) (I.base.free b o e n hx)
 ·obtain⟨sl,e1⟩:=I.base.slot b o e n hb hx;obtain⟨sl',e2⟩:=slot b _ (neL b o e) hb (neC b o e hx) e1 (I.base.free b o e n hx);exact⟨sl',e2⟩
 ·obtain⟨o',e1⟩:=I.base.there b o e hx;exact free b o' (neC b o e hx) e1 (I.base.free b o e n hx)
 ·obtain⟨o',e1⟩:=I.base.there b o e hx;exact there b o' (neC b o e hx) e1
 ·obtain⟨m1,e1⟩:=I.base.tbls b ps e;obtain⟨m2,e2⟩:=tbls b _ e1;exact⟨m1++m2,by rw[e2,Array.append_assoc]⟩
 ·obtain⟨m,hn,hl⟩:=I.loc;refine⟨m,ns m hn,λi x v e1 e2 e3=>?_⟩
  obtain⟨u,r,l⟩:=hl i x v e1 e2 e3;refine⟨u,r,?_⟩;rcases l with l|⟨k,c,e,z⟩
  ·exact .inl l
  ·exact .inr ⟨k,c,e,cellK x c e _ z⟩
 ·obtain⟨v,z⟩:=I.cell x c e;exact⟨v,cellK x c e v z⟩
 ·obtain⟨m,⟨o,_,_,ho,_⟩,_⟩:=I.loc;exact free _ o (λz=>(hch _ z).2.1 rfl) ho I.free
 ·obtain⟨v,o,ho,hd⟩:=I.cell x c e;exact free c o (λz=>(hch c z).2.2.1 x c e rfl) ho (I.freeC x c e)
 ·obtain⟨e,n,ne,nf,d⟩:=I.pin p hp;have nch:p.1∉ch:=λz=>(hch p.1 z).2.2.2 p hp rfl
  exact⟨keep p.1 p.2 ne nf nch e n,free p.1 p.2 nch e n,ne,nf,d⟩
theorem Inv.un{t':Nat}(I:Inv X pins σ H s)(u:Un X.fs [] H H' s.heap h')(hok:HOk X.prog X.w H' h'):Inv X pins σ H' {s with heap:=h',toks:=t'}:=by
 obtain⟨m,⟨o,es,ep,ho,r⟩,_⟩:=id I.loc;obtain⟨sl,hL⟩:=u.any ho I.free (by simp)
 exact I.step (g':=s.gens) (d':=s.drawn) (ch:=[]) (λ_ z=>nomatch z) (λb o _ hb _ e n=>u.keep b o e n hb (by simp)) (λb o _ hb _ e n=>u.slot b o e n hb (by simp)) (λb o _ e n=>u.free b o e n (by simp)) (λb o _ e=>u.there b o e (by simp)) u.tups u.frzs u.tbls (λm' hm=>by
  obtain⟨o',es',ep',ho',r'⟩:=hm;rw[ho]at ho';cases ho';exact⟨_,es',ep',hL,r'⟩) hok I.bare
theorem Inv.call{g':Array GenState}{t':Nat}{d':Drawn}{ch:List Addr}(I:Inv X pins σ H s)(u:Un (frs X.stack) ch H H' s.heap h')(hok:HOk X.prog X.w H' h')(hg:AllBare g')
  (hch:∀b∈ch,(b∈X.ex\/X.s₀.heap.objs.size<=b)/\b≠X.env.locals/\(∀x c,X.env.cells.lookup x=some c->c≠b)/\∀p∈X.pn++pins,p.1≠b) :
  Inv X pins σ H' {s with heap:=h',gens:=g',drawn:=d',toks:=t'}:=by
 obtain⟨m,⟨o,es,ep,ho,r⟩,_⟩:=id I.loc;obtain⟨sl,hL⟩:=u.any ho I.free λz=>(hch _ z).2.1 rfl
 exact I.step (ch:=ch) hch (λb o hL hb hc e n=>u.keep b o e n (λz=>(Hj.mp (I.stkSub b z)).elim hL hb) hc) (λb o _ _ hc e n=>u.any e n hc) (λb o hc e n=>u.free b o e n hc) (λb o hc e=>u.there b o e hc) u.tups u.frzs u.tbls (λm' hm=>by
  obtain⟨o',es',ep',ho',r'⟩:=hm;rw[ho]at ho';cases ho';exact⟨_,es',ep',hL,r'⟩) hok hg
theorem Inv.turned{t':Nat}{it:Addr}(I:Inv X pins σ H s)(k:∀b o,b≠it->s.heap.get? b=some o->h'.get? b=some o)(hn:H it=none)(hL:it≠X.env.locals)
  (h1:it∈X.ex\/X.s₀.heap.objs.size<=it) (h2:∀x c,X.env.cells.lookup x=some c->c≠it) (h3:∀p∈X.pn++pins,p.1≠it):Inv X pins σ H {s with heap:=h',toks:=t'}:=by
 have nit:∀b u,H b=some u->b≠it:=λb u e z=>by rw[z,hn]at e;cases e
 refine I.step (g':=s.gens) (d':=s.drawn) (ch:=[it]) (λb hb=>?_) (λb o _ _ hc e _=>k b o (λz=>hc (by simp[z])) e) (λb o _ _ hc e _=>⟨o.slots,k b o (λz=>hc (by simp[z])) e⟩) (λ_ _ _ _ n=>n)
  (λb o hc e=>⟨o,k b o (λz=>hc (by simp[z])) e⟩) (λ_ _ e=>e) (λ_ _ _ e=>e) (λb ps e=>⟨#[],by rw[e];simp⟩) (λm hm=>?_) (λb u e=>?_) I.bare
 ·have e:b=it:=by simpa using hb
  subst e;exact⟨h1,hL,h2,h3⟩
 ·obtain⟨o,es,ep,ho,r⟩:=hm;exact⟨o,es,ep,k _ o (He hL) ho,r⟩
 ·refine (I.hok b u e).stay (λc v hc q=>k c v ?_ q) (λ_ q=>q) λ_ _ q=>q
  rcases hc with z|z
  ·rw[z];exact nit b u e
  ·exact nit c _ z
theorem Inv.tok(I:Inv X pins σ H s)(t:Nat):Inv X pins σ H {s with toks:=t}:=I.un (h':=s.heap) (t':=t) Un.refl I.hok
theorem Inv.kept(I:Inv X pins σ H s)(k:∀b u,s.heap.get? b=some u->h'.get? b=some u):Inv X pins σ H {s with heap:=h',toks:=t'}:=I.un (Un.kept k) (I.hok.kept k)
theorem Inv.laid(I:Inv X pins σ H s)(k:∀b u,s.heap.get? b=some u->h'.get? b=some u)(hp:s.heap.objs.size<=a)(new:ObjOk X.prog X.w (upd H a o) h' a o) :
  Inv X pins σ (upd H a o) {s with heap:=h',toks:=t'}:=I.un (Un.laid k hp (I.hok.fresh hp)) (I.hok.laid k hp new)
theorem Inv.write(I:Inv X pins σ H s)(mu:Mut (H x))(he:e=x\/H e=some (.own x))(k:∀b u,b≠e->s.heap.get? b=some u->h'.get? b=some u)(heo:∃u,h'.get? e=some u)
  (new:ObjOk X.prog X.w (upd H x o) h' x o):Inv X pins σ (upd H x o) {s with heap:=h',toks:=t'}:=I.un (Un.write mu he k heo) (I.hok.write mu he k heo new)
theorem Inv.pins_of(I:Inv X pins σ H s)(h:∀p∈pins',s.heap.get? p.1=some p.2/\H p.1=none/\p.1≠X.env.locals/\p.1∉X.fs/\∀v,p.2.data≠.cell v):Inv X pins' σ H s:=
 ⟨I.ok,I.os,I.bare,I.base,I.loc,I.cell,I.free,I.freeC,λp hp=>(HU.mp hp).elim (λz=>I.pin p (Im _ z)) (h p),I.hok,I.len⟩
theorem j5{N:List Str}(hN:N.Nodup){i j:Nat}{x:Str}(a:N[i]?=some x)(b:N[j]?=some x):i=j:=by
 obtain⟨h1,e1⟩:=Hr.mp a;obtain⟨h2,e2⟩:=Hr.mp b;exact (List.getElem_inj hN).mp (e1.trans e2.symm)
theorem qU{M:Model}{A:Around}{E:Value->Shared->Prop}{i:Nat}{x:Str}{v:V}{u:Value}{Q:Unit->Shared->Prop}(I:Inv X pins σ H s)(hN:X.N.Nodup)(hi:X.N[i]?=some x)(hx:Loc X.env.scope x)(r:RelV v u)
  (h:∀s',Inv X pins (σ.set i (some v)) H s'->(∃a,Heap.SameBut a s.heap s'.heap/\(a=X.env.locals\/X.env.cells.lookup x=some a))->Q () s') (hf:X.fn x=true\/X.env.scope.names.lookup x=some .local:=by first|exact .inl rfl|exact .inr rfl|assumption):wpAny M A (storeName X.env x u) Q E s:=by
 obtain⟨m,hn,hl⟩:=id I.loc;have hcls:(X.env.scope.kind == .class||(X.env.scope.kind == .module&&X.env.locals != X.env.globals))=false:=by rw[I.ok.kind];rfl
 have hiσ:i<σ.length:=by rw[I.len];exact (Hr.mp hi).1
 have cne:=I.cne;have tracked:∀{a:Addr}{h':Heap},(∃o,s.heap.get? a=some o/\H a=none)->Heap.SameBut a s.heap h'->HOk X.prog X.w H h':=λ{a h'} ha hs b ob e=>by
  obtain⟨_,_,hfree⟩:=ha;refine (I.hok b ob e).stay (λc w' hc q=>(hs.2 c ?_).trans q) (λ_ q=>q) λ_ _ q=>q
  rintro rfl;rcases hc with rfl|hc
  ·rw[hfree]at e;cases e
  ·rw[hfree]at hc;cases hc
 rcases hx with hk|hk
 ·refine wpAny_storeName_local hk hn (λh' hn' hs=>?_) hcls
  obtain⟨oL,_,_,hoL,_⟩:=id hn;refine h _ ⟨I.ok,I.os,I.bare,⟨λb o e n hb hx=>?_,λb o e n hb hx=>?_,I.base.free,λb o e hx=>?_,I.base.tups,I.base.frzs,I.base.tbls⟩,⟨_,hn',λj y v' e1 e2 e3=>?_⟩,λy c e=>?_,I.free,I.freeC,λp hp=>?_,tracked ⟨oL,hoL,I.free⟩ hs,by simpa using I.len⟩ ⟨_,hs,.inl rfl⟩
  ·exact (hs.2 b (Hx (Ho (Hi e) I.ok.above))).trans (I.base.keep b o e n hb hx)
  ·obtain⟨sl,e1⟩:=I.base.slot b o e n hb hx;exact⟨sl,(hs.2 b (Hx (Ho (Hi e) I.ok.above))).trans e1⟩
  ·obtain⟨o',e1⟩:=I.base.there b o e hx;exact⟨o',(hs.2 b (Hx (Ho (Hi e) I.ok.above))).trans e1⟩
  ·by_cases hj:j=i
   ·subst hj;rw[hi]at e1;cases e1;rw[List.getElem?_set_self hiσ]at e2;cases e2;exact⟨u,r,.inl ⟨hk,by simp⟩⟩
   ·rw[Ih (He hj)]at e2;obtain⟨u',r',q⟩:=hl j y v' e1 e2 e3;refine⟨u',r',?_⟩;rcases q with ⟨k,e⟩|⟨k,c,e,z⟩
    ·refine .inl ⟨k,?_⟩;have:y≠x:=λe=>hj (j5 hN e1 (e▸hi))
     simp[this,e]
    ·exact .inr ⟨k,c,e,z.sameBut hs (cne y c e)⟩
  ·obtain⟨w',z⟩:=I.cell y c e;exact⟨w',z.sameBut hs (cne y c e)⟩
  ·obtain⟨e,n,ne,nf,d⟩:=I.pin p hp;exact⟨(hs.2 p.1 ne).trans e,n,ne,nf,d⟩
 ·have hfn:X.fn x=true:=by
   rcases hf with z|z
   ·exact z
   ·rw[z]at hk;cases hk
  obtain⟨c,hc⟩:=I.ok.has x (.inl hk);obtain⟨w',z⟩:=I.cell x c hc;refine wpAny_storeName_cell I.ok.kind hk hc z (λh' hc' hs=>?_)
  obtain⟨oc,hoc,hocd⟩:=id z;refine h {s with heap:=h'} ⟨I.ok,I.os,I.bare,⟨λb o e n hb hx=>?_,λb o e n hb hx=>?_,I.base.free,λb o e hx=>?_,I.base.tups,I.base.frzs,I.base.tbls⟩,⟨m,hn.sameBut hs (He (cne x c hc)),λj y v' e1 e2 e3=>?_⟩,λy c' e=>?_,I.free,I.freeC,λp hp=>?_,tracked ⟨oc,hoc,I.freeC x c hc⟩ hs,by simpa using I.len⟩ ⟨c,hs,.inr hc⟩
  ·exact (hs.2 b (Hx (Ho (Hi e) (I.ok.cab x c hfn hc)))).trans (I.base.keep b o e n hb hx)
  ·obtain⟨sl,e1⟩:=I.base.slot b o e n hb hx;exact⟨sl,(hs.2 b (Hx (Ho (Hi e) (I.ok.cab x c hfn hc)))).trans e1⟩
  ·obtain⟨o',e1⟩:=I.base.there b o e hx;exact⟨o',(hs.2 b (Hx (Ho (Hi e) (I.ok.cab x c hfn hc)))).trans e1⟩
  ·by_cases hj:j=i
   ·subst hj;rw[hi]at e1;cases e1;rw[List.getElem?_set_self hiσ]at e2;cases e2;exact⟨u,r,.inr ⟨.inl hk,c,hc,hc'⟩⟩
   ·rw[Ih (He hj)]at e2;obtain⟨u',r',q⟩:=hl j y v' e1 e2 e3;refine⟨u',r',?_⟩;rcases q with q|⟨k,c',e,z'⟩
    ·exact .inl q
    ·refine .inr ⟨k,c',e,z'.sameBut hs ?_⟩;rintro rfl;exact hj (j5 hN e1 (I.ok.inj _ _ _ e hc▸hi))
  ·by_cases hcc:c'=c
   ·subst hcc;exact⟨_,hc'⟩
   ·obtain⟨w2,z2⟩:=I.cell y c' e;exact⟨w2,z2.sameBut hs hcc⟩
  ·obtain⟨e,n,ne,nf,d⟩:=I.pin p hp;refine⟨(hs.2 p.1 ?_).trans e,n,ne,nf,d⟩;intro q;rw[q,hoc]at e;have q':oc=p.2:=Hv e;exact d w' (by rw[<-q'];exact hocd)
theorem jZ(I:Inv X pins σ H s)(hN:X.N.Nodup)(hi:X.N[i]?=some x)(hx:Loc X.env.scope x)(r:RelV v u)
  (h:∀s',Inv X pins (σ.set i (some v)) H s'->Q () s') (hf:X.fn x=true\/X.env.scope.names.lookup x=some .local:=by first|exact .inl rfl|exact .inr rfl|assumption):wpAny M A (storeName X.env x u) Q E s:=
 qU I hN hi hx r (λs' I' _=>h s' I') hf
theorem Inv.call'{s':Shared}(I:Inv X pins σ H s)(ho:s'.os=s.os)(u:Un (frs X.stack) ch H H' s.heap s'.heap)(hok:HOk X.prog X.w H' s'.heap)(hg:AllBare s'.gens)
  (hch:∀b∈ch,(b∈X.ex\/X.s₀.heap.objs.size<=b)/\b≠X.env.locals/\(∀x c,X.env.cells.lookup x=some c->c≠b)/\∀p∈X.pn++pins,p.1≠b):Inv X pins σ H' s':=by
 obtain⟨h',g',d',t',o'⟩:=s';have e:o'=s.os:=ho;subst e;exact I.call (g':=g') (t':=t') (d':=d') u hok hg hch
end
noncomputable abbrev XK:=Value->Option Addr->Hp->Prop
noncomputable abbrev St:=List (Option V)
noncomputable abbrev VK:=V->Hp->Prop
noncomputable abbrev TE:=St->Hp->VK->Prop
noncomputable abbrev TT:=St->Hp->(Bool->Hp->Prop)->Prop
noncomputable abbrev TA:=St->Hp->(List V->Hp->Prop)->Prop
structure Ends where
 nx:St->Hp->Prop
 rt:VK
 bk:St->Hp->Prop:=λ_ _=>False
 ct:St->Hp->Prop:=λ_ _=>False
noncomputable abbrev TS:=Ends->St->Hp->Prop
def EP(X:Cx)(pins:List (Addr×Obj))(σ:St)(Q:VK)(u:Value)(s':Shared):Prop:=∃v H',Inv X pins σ H' s'/\RelV v u/\Q v H'
def TP(X:Cx)(pins:List (Addr×Obj))(σ:St)(Q:Bool->Hp->Prop)(b:Bool)(s':Shared):Prop:=∃H',Inv X pins σ H' s'/\Q b H'
def AP(X:Cx)(pins:List (Addr×Obj))(σ:St)(Q:List V->Hp->Prop)(us:List Value)(s':Shared):Prop:=∃vs H',Inv X pins σ H' s'/\Vals vs us/\Q vs H'
def SP(X:Cx)(pins:List (Addr×Obj))(D:Ends)(f:Flow)(s':Shared):Prop:=
 match f with
 |.next=>∃σ' H',Inv X pins σ' H' s'/\D.nx σ' H'
 |.brk=>∃σ' H',Inv X pins σ' H' s'/\D.bk σ' H'
 |.cont=>∃σ' H',Inv X pins σ' H' s'/\D.ct σ' H'
 |.ret u=>∃v σ' H',Inv X pins σ' H' s'/\RelV v u/\D.rt v H'
def PE(X:Cx)(e:Expr)(t:TE):Prop:=
 ∀(pins:List (Addr×Obj)) (s:Shared)(σ:St)(H:Hp)(Q:VK),Inv X pins σ H s->t σ H Q->wpAny (model X.prog X.w) X.A (eval e X.env) (EP X pins σ Q) X.xe s
def PT(X:Cx)(e:Expr)(t:TT):Prop:=
 ∀(pins:List (Addr×Obj)) (s:Shared)(σ:St)(H:Hp)(Q:Bool->Hp->Prop),Inv X pins σ H s->t σ H Q->wpAny (model X.prog X.w) X.A (isTrue e X.env (eval e X.env)) (TP X pins σ Q) X.xe s
def PW(X:Cx)(e:Expr)(t:TT):Prop:=
 ∀(whole:Sem Value) (pins:List (Addr×Obj)) (s:Shared)(σ:St)(H:Hp)(Q:Bool->Hp->Prop),Inv X pins σ H s->t σ H Q->wpAny (model X.prog X.w) X.A (isTrue e X.env whole) (TP X pins σ Q) X.xe s
theorem PW.pt(h:PW X e t):PT X e t:=h _
def PA(X:Cx)(es:List Expr)(t:TA):Prop:=
 ∀(pos:Pos) (pins:List (Addr×Obj)) (s:Shared)(σ:St)(H:Hp)(Q:List V->Hp->Prop),Inv X pins σ H s->t σ H Q->wpAny (model X.prog X.w) X.A (spliced (backTo pos (starEach es X.env))) (AP X pins σ Q) X.xe s
def PS(X:Cx)(st:Stmt)(t:TS):Prop:=
 ∀(pins:List (Addr×Obj)) (s:Shared)(σ:St)(H:Hp)(D:Ends),Inv X pins σ H s->t D σ H->wpAny (model X.prog X.w) X.A (exec st X.env) (SP X pins D) X.xe s
def PSs(X:Cx)(st:List Stmt)(t:TS):Prop:=
 ∀(pins:List (Addr×Obj)) (s:Shared)(σ:St)(H:Hp)(D:Ends),Inv X pins σ H s->t D σ H->wpAny (model X.prog X.w) X.A (execs st X.env) (SP X pins D) X.xe s
theorem thn{α:Type}{t:Sem α}{Q Q':α->Shared->Prop}{M:Model}{A:Around}{E:Value->Shared->Prop}{s:Shared}(h:wpAny M A t Q E s)(hQ:∀a s,Q a s->Q' a s):wpAny M A t Q' E s:=Ig h hQ λ_ _ x=>x
section
variable {X:Cx}
theorem bin{a b:Expr}{ta tb:TE}(ha:PE X a ta)(hb:PE X b tb){pins:List (Addr×Obj)}{s:Shared}{σ:St}{H:Hp}{R:V->V->Hp->Prop}(I:Inv X pins σ H s)(h:ta σ H λx H1=>tb σ H1 λy H2=>R x y H2)
  {α:Type}{Q:α->Shared->Prop}{f:Value->Value->Sem α}
  (hf:∀v u s2 x y H2,Inv X pins σ H2 s2->RelV x v->RelV y u->R x y H2->wpAny (model X.prog X.w) X.A (f v u) Q X.xe s2) :
  wpAny (model X.prog X.w) X.A (eval a X.env) (λv s₁=>wpAny (model X.prog X.w) X.A (eval b X.env) (λu s₂=>wpAny (model X.prog X.w) X.A (f v u) Q X.xe s₂) X.xe s₁) X.xe s:=by
 refine thn (ha pins s σ H _ I h) λv s1 ⟨x,H1,I1,r1,q1⟩=>?_
 refine thn (hb pins s1 σ H1 _ I1 q1) λu s2 ⟨y,H2,I2,r2,q2⟩=>?_
 exact hf v u s2 x y H2 I2 r1 r2 q2
noncomputable def tj(i:Nat):TE:=λσ H Q=>∃v,σ[i]?=some (some v)/\Q v H
noncomputable def tC(v:V):TE:=λ_ H Q=>Q v H
theorem jK(hN:X.N[i]?=some x)(hv:Vis X.env.scope x)(hd:(x == ("__debug__" : Str))=false:=by decide)(hcd:(x == ("__classdict__" : Str))=false:=by decide):PE X (.Name x pos) (tj i):=by
 intro pins s σ H Q I h;obtain⟨v,e,h⟩:=h;obtain⟨m,hn,hl⟩:=I.loc;obtain⟨u,r,l⟩:=hl i x v hN e hv;have fin:EP X pins σ Q u s:=⟨v,H,I,r,h⟩;rcases l with ⟨hk,hm⟩|⟨hk,c,hc,hcell⟩
 ·exact wpAny_Name (wpAny_loadName_local I.ok.kind hk hn hm fin) hd
 ·rcases hk with hk|hk
  ·exact wpAny_Name (wpAny_loadName_cell I.ok.kind hk hc hcell fin) hd
  ·exact wpAny_Name (wpAny_loadName_free I.ok.kind hk hc hcell fin hcd) hd
theorem AI{i j pos}:PE X (.Constant (.int i) j pos) (tC (.int i)):=λ_ _ _ H _ I h=>wpAny_Constant_int ⟨.int i,H,I.tok _,⟨_,rfl⟩,h⟩
theorem Dj{b j pos}:PE X (.Constant (.bool b) j pos) (tC (.bl b)):=λ_ _ _ H _ I h=>Constant_bool ⟨.bl b,H,I,rfl,h⟩
theorem AQ{j pos}:PE X (.Constant .none j pos) (tC .non):=λ_ _ _ H _ I h=>Constant_none ⟨.non,H,I,rfl,h⟩
theorem t6{x j pos}:PE X (.Constant (.str x) j pos) (tC (.str x)):=λ_ _ _ H _ I h=>Calls.Constant_str ⟨.str x,H,I.tok _,⟨_,rfl⟩,h⟩
def Gl(X:Cx)(x:Str):Prop:=X.env.kindOf x=some .globalImplicit
theorem bC(I:Inv X pins σ H s)(hg:Gl X x)(hm:X.mg x=some u)(h:Q u s)
  (hd:(x == ("__debug__" : Str))=false:=by decide):wpAny (model X.prog X.w) X.A (eval (.Name x pos) X.env) Q E s:=
 Calls.Name_function_global I.ok.kind hg (Calls.loadGlobal_global (by rw[I.ok.glob];exact I.mod.glob.keeps I.bk) hm h) hd
theorem eh(I:Inv X pins σ H s)(hg:Gl X x)(hm:X.mg x=none)(hv:bootBuiltins x=some u)(h:Q u s)
  (hn:x≠"__name__":=by decide) (hd:(x == ("__debug__" : Str))=false:=by decide):wpAny (model X.prog X.w) X.A (eval (.Name x pos) X.env) Q E s:=by
 obtain⟨mb,h1,h2⟩:=I.mod.blt;exact Calls.Name_function_global I.ok.kind hg (Calls.loadGlobal_builtin (by rw[I.ok.glob];exact I.mod.glob.keeps I.bk) hm (by rw[I.ok.blt];exact h1.keeps I.bk) ((h2 x hn).trans hv) h) hd
theorem gK(hg:Gl X x)(hm:X.mg x=some u)(r:RelV v u)(hd:(x == ("__debug__" : Str))=false:=by decide):PE X (.Name x pos) (tC v):=
 λ_ _ _ H _ I h=>bC I hg hm ⟨v,H,I,r,h⟩ hd
theorem vW(hg:Gl X x)(hm:X.mg x=none)(hv:bootBuiltins x=some u)(r:RelV v u)(hn:x≠"__name__":=by decide)(hd:(x == ("__debug__" : Str))=false:=by decide):PE X (.Name x pos) (tC v):=
 λ_ _ _ H _ I h=>eh I hg hm hv ⟨v,H,I,r,h⟩ hn hd
variable {a b:Expr}{ta tb:TE}{pos:Pos}
noncomputable def tB(t:TE):TT:=λσ H Q=>t σ H λx H1=>∃c,x=.bl c/\Q c H1
theorem zL{e:Expr}(h:PE X e t)(he:∀whole,isTrue e X.env whole=(do let v<-whole;standAt e.pos;holding [v] (truthy v)):=by intro _;rfl):PT X e (tB t):=by
 intro pins s σ H Q I hw;refine isTrue_plain (thn (h pins s σ H _ I hw) λv s1 ⟨x,H1,I1,r1,q1⟩=>?_) (he _)
 obtain⟨d,rfl,q⟩:=q1;cases r1;exact HW ⟨H1,I1,q⟩
variable {tA tB':TT}{ax:List Expr}
noncomputable def E0(t u:TT):TT:=λσ H Q=>t σ H λc H1=>if c=true then u σ H1 Q else Q false H1
noncomputable def tOr(t u:TT):TT:=λσ H Q=>t σ H λc H1=>if c=true then Q true H1 else u σ H1 Q
noncomputable def EF(t:TT):TT:=λσ H Q=>t σ H λc H1=>Q (!c) H1
theorem wl(ha:PT X a tA):PW X (.BoolOp .And [a] pos) tA:=by
 intro wh pins s σ H Q I h;refine isTrue_and (thn (ha pins s σ H Q I h) λc s1 e=>?_)
 cases c with
 |true=>exact isTrue_and_nil e
 |false=>exact e
theorem yk(ha:PT X a tA):PW X (.BoolOp .Or [a] pos) tA:=by
 intro wh pins s σ H Q I h;refine isTrue_or (thn (ha pins s σ H Q I h) λc s1 e=>?_)
 cases c with
 |false=>exact isTrue_or_nil e
 |true=>exact e
theorem At(ha:PT X a tA)(hb:PW X (.BoolOp .And (b::ax) pos) tB'):PW X (.BoolOp .And (a::b::ax) pos) (E0 tA tB'):=by
 intro wh pins s σ H Q I h;refine isTrue_and (thn (ha pins s σ H _ I h) λc s1 ⟨H1,I1,q1⟩=>?_)
 cases c with
 |true=>exact hb wh pins s1 σ H1 Q I1 q1
 |false=>exact⟨H1,I1,q1⟩
theorem Bd(ha:PT X a tA)(hb:PW X (.BoolOp .Or (b::ax) pos) tB'):PW X (.BoolOp .Or (a::b::ax) pos) (tOr tA tB'):=by
 intro wh pins s σ H Q I h;refine isTrue_or (thn (ha pins s σ H _ I h) λc s1 ⟨H1,I1,q1⟩=>?_)
 cases c with
 |true=>exact⟨H1,I1,q1⟩
 |false=>exact hb wh pins s1 σ H1 Q I1 q1
theorem ym(ha:PT X a tA):PT X (.UnaryOp .Not a pos) (EF tA):=by
 intro pins s σ H Q I h;exact isTrue_not (ha pins s σ H (λc H1=>Q (!c) H1) I h)
noncomputable def C9(ta tb:TE):TE:=λσ H Q=>ta σ H λx H1=>∃c,x=.bl c/\if c=true then tb σ H1 Q else Q (.bl false) H1
noncomputable def EC(ta tb:TE):TE:=λσ H Q=>ta σ H λx H1=>∃c,x=.bl c/\if c=true then Q (.bl true) H1 else tb σ H1 Q
noncomputable def CM(ta:TE):TE:=λσ H Q=>ta σ H λx H1=>∃c,x=.bl c/\Q (.bl (!c)) H1
theorem zd{op}(h:PE X a t):PE X (.BoolOp op [a] pos) t:=λpins s σ H Q I hw=>BoolOp_one (h pins s σ H Q I hw)
theorem yr(ha:PE X a ta)(hb:PE X (.BoolOp .And (b::ax) pos) tb):PE X (.BoolOp .And (a::b::ax) pos) (C9 ta tb):=by
 intro pins s σ H Q I h;refine BoolOp_and (thn (ha pins s σ H _ I h) λv s1 ⟨x,H1,I1,r1,q1⟩=>?_)
 obtain⟨c,rfl,q1⟩:=q1;cases r1;refine HW ?_;cases c with
 |true=>exact hb pins s1 σ H1 Q I1 q1
 |false=>exact⟨.bl false,H1,I1,rfl,q1⟩
theorem BS(ha:PE X a ta)(hb:PE X (.BoolOp .Or (b::ax) pos) tb):PE X (.BoolOp .Or (a::b::ax) pos) (EC ta tb):=by
 intro pins s σ H Q I h;refine BoolOp_or (thn (ha pins s σ H _ I h) λv s1 ⟨x,H1,I1,r1,q1⟩=>?_)
 obtain⟨c,rfl,q1⟩:=q1;cases r1;refine HW ?_;cases c with
 |false=>exact hb pins s1 σ H1 Q I1 q1
 |true=>exact⟨.bl true,H1,I1,rfl,q1⟩
theorem Ak(ha:PE X a ta):PE X (.UnaryOp .Not a pos) (CM ta):=by
 intro pins s σ H Q I h;refine UnaryOp_ (thn (ha pins s σ H _ I h) λv s1 ⟨x,H1,I1,r1,q1⟩=>?_)
 obtain⟨c,rfl,q1⟩:=q1;cases r1;exact not_of (HW ⟨.bl (!c),H1,I1,rfl,q1⟩)
noncomputable def tIf(t:TT)(ta tb:TE):TE:=λσ H Q=>t σ H λc H1=>if c=true then ta σ H1 Q else tb σ H1 Q
theorem t8(hc:PT X c tA)(ha:PE X a ta)(hb:PE X b tb):PE X (.IfExp c a b pos) (tIf tA ta tb):=by
 intro pins s σ H Q I h;refine wpAny_IfExp (thn (hc pins s σ H _ I h) λd s1 ⟨H1,I1,q1⟩=>?_)
 cases d with
 |true=>exact ha pins s1 σ H1 Q I1 q1
 |false=>exact hb pins s1 σ H1 Q I1 q1
end
def SqL(K:Iz)(H:Hp)(a:Addr)(xs:List V):Prop:=
 Rd H a (.lst xs)\/
  ∃(o:Obj) (its:Array Value) (n:Nat),K.lookup a=some o/\o.cls=.type "list"/\o.dict=none/\o.data=.seq its n/\its.size<=sizeLine/\Vals xs its.toList
def SqT(K:Iz)(H:Hp)(a:Addr)(xs:List V):Prop:=
 Rd H a (.tup xs)\/
  ∃(o:Obj) (its:Array Value) (n:Nat),K.lookup a=some o/\o.cls=.type "tuple"/\o.data=.seq its n/\its.size<=sizeLine/\Vals xs its.toList
noncomputable def Ek:Value->Option V
 |.none=>some .non
 |.bool b=>some (.bl b)
 |.int i _=>some (.int i)
 |.str x _=>some (.str x)
 |.bytes b _=>some (.byt b)
 |.float b _=>some (.flt b)
 |.ref a=>some (.ref a)
 |.type n=>some (.ty n)
 |_=>none
theorem RelV.abs(r:RelV x u):Ek u=some x:=by
 cases x with
 |non=>cases r;rfl
 |bl _=>cases r;rfl
 |int _=>obtain⟨t,rfl⟩:=r;rfl
 |str _=>obtain⟨t,rfl⟩:=r;rfl
 |byt _=>obtain⟨t,rfl⟩:=r;rfl
 |flt _=>obtain⟨t,rfl⟩:=r;rfl
 |ref _=>cases r;rfl
 |ty _=>cases r;rfl
theorem RelV.inj(r:RelV x u)(q:RelV y u):x=y:=Hv (r.abs.symm.trans q.abs)
theorem Vals.inj:∀{xs ys:List V}{us:List Value},Vals xs us->Vals ys us->xs=ys
 |_,_,_,.nil,.nil=>rfl
 |_,_,_,.cons r t,.cons r' t'=>by rw[r.inj r',Vals.inj t t']
section
variable {X:Cx}{s:Shared}{a:Addr}{xs ys:List V}
theorem SqL.of{K:Iz}(h:H a=some (.lst xs)):SqL K H a xs:=.inl (.inl h)
theorem SqT.of{K:Iz}(h:H a=some (.tup xs)):SqT K H a xs:=.inl (.inl h)
theorem Inv.list(I:Inv X pins σ H s)(h:SqL X.K H a xs):∃its:List Value,Vals xs its/\PlainL s.heap a its.toArray/\xs.length<=sizeLine:=by
 rcases h with h|⟨o,its,n,hk,hc,hd,hs,hz,r⟩
 ·obtain⟨z,its,n,r,e⟩:=h.ok I.hok;exact⟨its,r,⟨_,n,e,rfl,rfl,rfl⟩,z⟩
 ·refine⟨its.toList,r,⟨o,n,I.kIn a o hk,hc,hd,by simpa using hs⟩,?_⟩
  have e:=r.length;simp only[Array.length_toList]at e;omega
theorem Inv.tuple(I:Inv X pins σ H s)(h:SqT X.K H a xs):∃its:List Value,Vals xs its/\IsTup s.heap a its.toArray/\xs.length<=sizeLine:=by
 rcases h with h|⟨o,its,n,hk,hc,hs,hz,r⟩
 ·obtain⟨z,its,r,p⟩:=h.ok I.hok;exact⟨its,r,p,z⟩
 ·refine⟨its.toList,r,⟨o,I.kIn a o hk,hc,n,by simpa using hs⟩,?_⟩
  have e:=r.length;simp only[Array.length_toList]at e;omega
theorem Inv.list_inj(I:Inv X pins σ H s)(h:SqL X.K H a xs)(h':SqL X.K H a ys):xs=ys:=by
 obtain⟨its,r,⟨o,n,e,_,_,d⟩,_⟩:=I.list h;obtain⟨its',r',⟨o',n',e',_,_,d'⟩,_⟩:=I.list h';rw[e]at e';cases e';rw[d]at d';injection d' with d1 _
 have:its=its':=by simpa using congrArg Array.toList d1
 subst this;exact r.inj r'
theorem Inv.tuple_inj(I:Inv X pins σ H s)(h:SqT X.K H a xs)(h':SqT X.K H a ys):xs=ys:=by
 obtain⟨its,r,⟨o,e,_,n,d⟩,_⟩:=I.tuple h;obtain⟨its',r',⟨o',e',_,n',d'⟩,_⟩:=I.tuple h';rw[e]at e';cases e';rw[d]at d';injection d' with d1 _
 have:its=its':=by simpa using congrArg Array.toList d1
 subst this;exact r.inj r'
end
section
variable {X:Cx}{s:Shared}
end
section
variable {X:Cx}{st:Stmt}{ax:List Stmt}{t u:TS}{e:Expr}{te:TE}{pos:Pos}
noncomputable def tNext:TS:=λD σ H=>D.nx σ H
noncomputable def Ed(t u:TS):TS:=λD σ H=>t {D with nx:=u D} σ H
theorem pss_nil:PSs X [] tNext:=λ_ _ σ H _ I h=>wpAny_execs_nil ⟨σ,H,I,h⟩
theorem nc(h1:PS X st t)(h2:PSs X ax u):PSs X (st::ax) (Ed t u):=by
 intro pins s σ H D I h;refine wpAny_execs_cons (thn (h1 pins s σ H {D with nx:=u D} I h) λf s1 q=>?_)
 cases f with
 |next=>
  obtain⟨σ',H',I',q⟩:=q;exact h2 pins s1 σ' H' D I' q
 |ret v=>exact q
 |brk=>exact q
 |cont=>exact q
theorem vO(h1:PS X st t):PSs X [st] t:=by
 intro pins s σ H D I h;refine wpAny_execs_cons (thn (h1 pins s σ H D I h) λf s1 q=>?_)
 cases f with
 |next=>exact wpAny_execs_nil q
 |ret v=>exact q
 |brk=>exact q
 |cont=>exact q
theorem Inv.quiet(I:Inv X pins σ H s):interactive X.env=false:=by simp[interactive,I.ok.kind]
noncomputable def Dk(te:TE):TS:=λD σ H=>te σ H λ_ H1=>D.nx σ H1
theorem lG(he:PE X e te)(hs:swapsWith e none pos.line X.env=pure false:=by rfl):PS X (.Expr e pos) (Dk te):=by
 intro pins s σ H D I h;exact wpAny_Expr_any (thn (he pins s σ H _ I h) λv s1 ⟨x,H1,I1,r1,q1⟩=>⟨σ,H1,I1,q1⟩) I.quiet hs
noncomputable def FE(te:TE):TS:=λD σ H=>te σ H D.rt
theorem zo(he:PE X e te):PS X (.Return (some e) pos) (FE te):=by
 intro pins s σ H D I h;exact wpAny_Return_some (thn (he pins s σ H _ I h) λv s1 ⟨x,H1,I1,r1,q1⟩=>⟨x,σ,H1,I1,r1,q1⟩)
noncomputable def E9(c:TT)(t u:TS):TS:=λD σ H=>c σ H λb H1=>if b=true then t D σ H1 else u D σ H1
theorem CA(hc:PT X c tc)(ha:PSs X a t)(hb:PSs X b u):PS X (.If c a b pos) (E9 tc t u):=by
 intro pins s σ H D I h;refine wpAny_If (thn (hc pins s σ H _ I h) λd s1 ⟨H1,I1,q1⟩=>?_)
 cases d with
 |true=>exact ha pins s1 σ H1 D I1 q1
 |false=>exact hb pins s1 σ H1 D I1 q1
end
noncomputable abbrev TG:=V->St->Hp->(St->Hp->Prop)->Prop
noncomputable abbrev TGs:=List V->St->Hp->(St->Hp->Prop)->Prop
def PG(X:Cx)(target:Expr)(t:TG):Prop:=
 ∀(pins:List (Addr×Obj)) (s:Shared)(σ:St)(H:Hp)(v:V)(u:Value)(Q:St->Hp->Prop),Inv X pins σ H s->RelV v u->t v σ H Q->
  wpAny (model X.prog X.w) X.A (assign target X.env u) (λ_ s'=>∃σ' H',Inv X pins σ' H' s'/\Q σ' H') X.xe s
def PGs(X:Cx)(ts:List Expr)(t:TGs):Prop:=
 ∀(pins:List (Addr×Obj)) (s:Shared)(σ:St)(H:Hp)(vs:List V)(us:List Value)(Q:St->Hp->Prop),Inv X pins σ H s->Vals vs us->t vs σ H Q->
  wpAny (model X.prog X.w) X.A (assignInOrder ((assignEach ts X.env).map (·.2)) us) (λ_ s'=>∃σ' H',Inv X pins σ' H' s'/\Q σ' H') X.xe s
noncomputable abbrev TSet:=V->V->V->Hp->(Hp->Prop)->Prop
def zT(X:Cx)(t:TSet):Prop:=
 ∀(pins:List (Addr×Obj)) (s:Shared)(σ:St)(H:Hp)(o i v:V)(ov iv u:Value)(Q:Hp->Prop),Inv X pins σ H s->RelV o ov->RelV i iv->RelV v u->t o i v H Q->
  wpAny (model X.prog X.w) X.A (setItem ov iv u) (λ_ s'=>∃H',Inv X pins σ H' s'/\Q H') X.xe s
section
variable {X:Cx}{pos:Pos}
noncomputable def pR(i:Nat):TG:=λv σ H Q=>Q (σ.set i (some v)) H
theorem i8(hN:X.N.Nodup)(hi:X.N[i]?=some x)(hx:Loc X.env.scope x)(hf:X.fn x=true\/X.env.scope.names.lookup x=some .local:=by first|exact .inl rfl|exact .inr rfl|assumption):PG X (.Name x pos) (pR i):=by
 intro pins s σ H v u Q I r h;exact wpAny_assign_Name (jZ I hN hi hx r (λs' I'=>⟨_,H,I',h⟩) hf)
noncomputable def gNil:TGs:=λvs σ H Q=>vs=[]/\Q σ H
noncomputable def CS(t:TG)(u:TGs):TGs:=λvs σ H Q=>∃v r,vs=v::r/\t v σ H λσ' H'=>u r σ' H' Q
theorem vL:PGs X [] gNil:=by
 intro pins s σ H vs us Q I r h;obtain⟨e,h⟩:=h;subst e;cases r;exact assignInOrder_nil ⟨σ,H,I,h⟩
theorem tM(h1:PG X e t)(h2:PGs X es u)
  (hs:(assignEach (e::es) X.env).map (·.2)=assign e X.env::(assignEach es X.env).map (·.2):=by rfl):PGs X (e::es) (CS t u):=by
 intro pins s σ H vs us Q I r h;obtain⟨v,vr,e1,h⟩:=h;subst e1;cases r with
 |cons r rr=>
  rw[hs];refine assignInOrder_cons (thn (h1 pins s σ H _ _ _ I r h) λ_ s1 ⟨σ1,H1,I1,q1⟩=>?_)
  exact h2 pins s1 σ1 H1 _ _ Q I1 rr q1
noncomputable def Fp(K:Iz)(n:Nat)(t:TGs):TG:=λv σ H Q=>∃a xs,v=.ref a/\SqT K H a xs/\xs.length=n/\t xs σ H Q
theorem zw(hc:X.calm=true)(h:PGs X es t)
  (hn:(assignEach es X.env).length=n:=by rfl) (hst:(assignEach es X.env).findIdx? (·.1)=none:=by rfl):PG X (.Tuple es k pos) (Fp X.K n t):=by
 intro pins s σ H v u Q I r hw;obtain⟨a,xs,e1,hq,hl,hw⟩:=hw;subst e1;cases r;obtain⟨its,rv,ht,hz⟩:=I.tuple hq;refine assign_Tuple_tuple (I.ok.hd hc) ht (by simp[hn,<-hl,rv.length]) hst λh' hx=>?_
 have I1:Inv X pins σ H {s with heap:=h'}:=I.kept (t':=s.toks) λb o e=>hx b o (Hx (Hi e)) e
 exact h pins _ σ H xs _ Q I1 (by simpa using rv) hw
noncomputable def E8(to ti:TE)(t:TSet):TG:=λv σ H Q=>to σ H λo H1=>ti σ H1 λi H2=>t o i v H2 λH3=>Q σ H3
theorem zK(ho:PE X o to)(hi:PE X i ti)(hs:zT X t)
  (ha:∀v,assign (.Subscript o i pos) X.env v=(do
   let ov<-holding [v] (eval o X.env)
   let iv<-holding [v,ov] (eval i X.env)
   standAt pos
   holding [v,ov,iv] (setItem ov iv v)
   release [v,ov,iv] []):=by intro _;rfl):PG X (.Subscript o i pos) (E8 to ti t):=by
 intro pins s σ H v u Q I r h;rw[ha];refine G8 (HR (thn (ho pins s σ H _ I h) λov s1 ⟨x,H1,I1,r1,q1⟩=>?_))
 refine G8 (HR (thn (hi pins s1 σ H1 _ I1 q1) λiv s2 ⟨y,H2,I2,r2,q2⟩=>?_))
 refine G8 (wpAny_standAt (G8 (HR (thn (hs pins s2 σ H2 x y v ov iv u _ I2 r1 r2 r q2) λ_ s3 ⟨H3,I3,q3⟩=>?_))))
 exact wpAny_release ⟨σ,H3,I3,q3⟩
noncomputable def AU(te:TE)(g:TG):TS:=λD σ H=>te σ H λx H1=>g x σ H1 D.nx
theorem yc(he:PE X e te)(hg:PG X tg g)(hs:swapsWithSole [tg] e pos.line X.env=pure false:=by rfl)(hw:swappedStores [tg] e X.env=pure none:=by rfl)
  (h1:(assignEach [tg] X.env).map (·.2)=[assign tg X.env]:=by rfl):PS X (.Assign [tg] e pos) (AU te g):=by
 intro pins s σ H D I h;refine wpAny_Assign_stores (thn (he pins s σ H _ I h) λv s1 ⟨x,H1,I1,r1,q1⟩=>?_) hs hw
 rw[h1];exact thn (hg pins s1 σ H1 x v _ I1 r1 q1) λ_ s2 q=>q
theorem xU(hN:X.N.Nodup)(hi:X.N[i]?=some x)(hx:Loc X.env.scope x)(he:PE X e te)(hs:swapsWith e (some (.Name x pos')) pos.line X.env=pure false:=by rfl)(hf:X.fn x=true\/X.env.scope.names.lookup x=some .local:=by first|exact .inl rfl|exact .inr rfl|assumption) :
  PS X (.Assign [.Name x pos'] e pos) (AU te (pR i)):=by
 intro pins s σ H D I h;refine wpAny_Assign_Name (thn (he pins s σ H _ I h) λv s1 ⟨y,H1,I1,r1,q1⟩=>?_) hs
 exact jZ I1 hN hi hx r1 (λs2 I2=>⟨_,H1,I2,q1⟩) hf
end
section
variable {X:Cx}{pos:Pos}
noncomputable def zW(c:TT)(tb:TS):TS:=λD σ H=>∃W:Nat->St->Hp->Prop,(∃m,W m σ H)/\∀m σ H,W m σ H->
 c σ H λb H1=>if b=true then ∃N:St->Hp->Prop,(∀σ' H',N σ' H'->∃m',m' < m/\W m' σ' H')/\tb {D with nx:=N,ct:=N,bk:=D.nx} σ H1 else D.nx σ H1
theorem uM(hp:PassesOwn (model X.prog X.w) X.A X.env X.xe)(hc:PT X c tc)(hb:PSs X body tb):PS X (.While c body [] pos) (zW tc tb):=by
 intro pins s σ H D I h;obtain⟨W,⟨m0,w0⟩,turn⟩:=h;refine wpAny_While (codeAny_whileLoop (λn s'=>∃σ' H',Inv X pins σ' H' s'/\W n σ' H') ?_ m0 ⟨σ,H,I,w0⟩)
 rintro n s1 ⟨σ1,H1,I1,w1⟩;refine wpAny_passesOwn hp (thn (hc pins s1 σ1 H1 _ I1 (turn n σ1 H1 w1)) λb s2 ⟨H2,I2,q2⟩=>?_)
 cases b with
 |true=>
  obtain⟨N,hN,q2⟩:=q2;rw[Hg rfl];refine wpAny_passesOwn hp (thn (hb pins s2 σ1 H2 _ I2 q2) λf s3 q3=>?_)
  cases f with
  |next=>
   obtain⟨σ3,H3,I3,n3⟩:=q3;obtain⟨m',hm,w3⟩:=hN σ3 H3 n3;exact⟨m',hm,σ3,H3,I3,w3⟩
  |cont=>
   obtain⟨σ3,H3,I3,n3⟩:=q3;obtain⟨m',hm,w3⟩:=hN σ3 H3 n3;exact⟨m',hm,σ3,H3,I3,w3⟩
  |brk=>exact q3
  |ret v=>exact q3
 |false=>
  rw[Hc Hq];exact wpAny_execs_nil ⟨σ1,H2,I2,q2⟩
end
structure It where
 go:Nat->Hp->Prop
 yld:Nat->Hp->V->Hp->Prop
 stop:Nat->Hp->Prop
def gD(X:Cx)(pins:List (Addr×Obj))(H:Hp)(b:Addr):Prop:=
 H b=none/\b≠X.env.locals/\b∉X.fs/\(b∈X.ex\/X.s₀.heap.objs.size<=b)/\(∀x c,X.env.cells.lookup x=some c->c≠b)/\∀p∈X.pn++pins,p.1≠b
theorem Inv.fpOk{s:Shared}(I:Inv X pins σ H s)(hb:s.heap.objs.size<=b)(hn:H' b=none):gD X pins H' b:=by
 refine⟨hn,Nat.ne_of_gt (Ho I.lt hb),I.nofs hb,.inr (Hw I.sz hb),λx c e z=>?_,λp hp z=>?_⟩
 ·obtain⟨v,q⟩:=I.cell x c e;exact absurd (Ho q.lt (by rw[z];exact hb)) (Ik _)
 ·exact absurd (Ho (Hi (I.pin p hp).1) (by rw[z];exact hb)) (Ik _)
structure Turn (P:Program)(w:World)(K:Iz)(tg:Expr)(J:It)(fp:List Addr)(it:Addr)(tn:Nat->Heap->Prop):Prop where
 mem:it∈fp
 obj:∀i h,tn i h->∀b∈fp,∃o,h.get? b=some o/\∀v,o.data≠.cell v
 keep:∀i h h',tn i h->(∀b∈fp,∀o,h.get? b=some o->h'.get? b=some o)->tn i h'
 item:∀(X:Cx),X.prog=P->X.w=w->X.K=K->X.calm=true->∀(i:Nat) (pins:List (Addr×Obj)) (s:Shared)(σ:St)(H:Hp)(E:Value->Shared->Prop),Inv X pins σ H s->(∀b∈fp,gD X pins H b)->tn i s.heap->J.go i H->
  wpAny (model P w) X.A (pyNext (.ref it)) (λr s1=>∃u,r=some u/\
   wpAny (model P w) X.A (letOwnedTupleGo tg (.ref it) u) (λ_ s2=>∃x H',Inv X pins σ H' s2/\RelV x u/\J.yld i H x H'/\tn (i+1) s2.heap/\∀b∈fp,H' b=none) E s1) E s
 done:∀(X:Cx),X.prog=P->X.w=w->X.K=K->X.calm=true->∀(i:Nat) (pins:List (Addr×Obj)) (s:Shared)(σ:St)(H:Hp)(E:Value->Shared->Prop),Inv X pins σ H s->(∀b∈fp,gD X pins H b)->tn i s.heap->J.stop i H->
  wpAny (model P w) X.A (pyNext (.ref it)) (λr s1=>r=none/\Inv X pins σ H s1) E s
 self:∀(A:Around)(i:Nat)(s:Shared)(Q:Value->Shared->Prop)(E:Value->Shared->Prop),tn i s.heap->Q (.ref it) s->wpAny (model P w) A (pyIter (.ref it)) Q E s
noncomputable abbrev TI:=St->Hp->(It->Hp->Prop)->Prop
def PIE(X:Cx)(pins:List (Addr×Obj))(σ:St)(tg:Expr)(R:It->Hp->Prop)(itv:Value)(s2:Shared):Prop:=
 ∃(it:Addr)(fp:List Addr)(tn:Nat->Heap->Prop)(J:It)(H':Hp),itv=.ref it/\Inv X pins σ H' s2/\Turn X.prog X.w X.K tg J fp it tn/\tn 0 s2.heap/\(∀b∈fp,gD X pins H' b)/\R J H'
def PI(X:Cx)(tg iter:Expr)(wi:TI):Prop:=
 ∀(pins:List (Addr×Obj)) (s:Shared)(σ:St)(H:Hp)(R:It->Hp->Prop),Inv X pins σ H s->wi σ H R->
  wpAny (model X.prog X.w) X.A (eval iter X.env) (λv s1=>wpAny (model X.prog X.w) X.A (pyIter v) (PIE X pins σ tg R) X.xe s1) X.xe s
theorem mX {s : Shared} {o : Obj} (ho : s.heap.get? it = some o) (hc : o.cls = .type n) (hd : o.data = .fields vs)
    (hn : ["enumerate", "zip", "dict_itemiterator", "dict_reverseitemiterator", "odict_iterator", "itertools.zip_longest", "itertools.pairwise"].contains n = false) (hQ : Q () s) : wpAny M A (letOwnedTupleGo tg (.ref it) u) Q E s := by
  unfold letOwnedTupleGo;cases tg <;> first
    | exact Ha hQ
    | (cases u <;> first
        | exact Ha hQ
        | (refine G8 (wpAny_load ho ?_)
           rw [hc, hd];show wpAny M A (if (["enumerate", "zip", "dict_itemiterator", "dict_reverseitemiterator", "odict_iterator", "itertools.zip_longest", "itertools.pairwise"].contains n && vs[0]? == some (rawInt _)) = true then _ else _) Q E s
           rw [Hc (by intro h; rw [hn, Bool.false_and] at h; cases h)]
           exact Ha hQ))
noncomputable def Itl(K:Iz)(a:Addr):It:=
 ⟨λi H=>∃xs x,SqL K H a xs/\xs[i]?=some x,λi H x H'=>H'=H/\∀xs,SqL K H a xs->xs[i]?=some x,λi H=>∃xs,SqL K H a xs/\xs.length<=i⟩
noncomputable def Itt(K:Iz)(a:Addr):It:=
 ⟨λi H=>∃xs x,SqT K H a xs/\xs[i]?=some x,λi H x H'=>H'=H/\∀xs,SqT K H a xs->xs[i]?=some x,λi H=>∃xs,SqT K H a xs/\xs.length<=i⟩
noncomputable def Itr(lo:Int)(n:Nat):It:=⟨λi _=>i<n,λi H x H'=>H'=H/\x=.int (lo+i),λi _=>n<=i⟩
theorem rJ{K:Iz}(a it:Addr):Turn P w K tg (Itl K a) [it] it (λi h=>h.IsListIter it a i) where
 mem:=by simp
 obj:=λi h st b hb=>by
  have e:b=it:=by simpa using hb
  subst e;obtain⟨o,e,c,d⟩:=st;exact⟨o,e,λv z=>by rw[d]at z;cases z⟩
 keep:=λi h h' st k=>st.at λo e=>k it (by simp) o e
 item:=by
  intro X hP hw hK hc i pins s σ H E I hf st hg;subst hP hw hK;obtain⟨xs,x,hq,hx⟩:=hg;obtain⟨its,rv,p,hz⟩:=I.list hq;obtain⟨u,hu,ru⟩:=rv.get hx;obtain⟨f0,f1,f2,f3,f4,f5⟩:=hf it (by simp)
  refine wpAny_pyNext_list_item st p.isList (x:=u) (by simpa using hu) λh' st' sb=>?_
  have I1:Inv X pins σ H {s with heap:=h'}:=I.turned (t':=s.toks) (λb o hb e=>(sb.2 b hb).trans e) f0 f1 f3 f4 f5
  obtain⟨o,e,c,d⟩:=id st';exact⟨u,rfl,mX (s:={s with heap:=h'}) e c d (by decide) ⟨x,H,I1,ru,⟨rfl,λys hy=>by rw[I.list_inj hy hq];exact hx⟩,st',λb hb=>(hf b hb).1⟩⟩
 done:=by
  intro X hP hw hK hc i pins s σ H E I hf st hg;subst hP hw hK;obtain⟨xs,hq,hx⟩:=hg;obtain⟨its,rv,p,hz⟩:=I.list hq;obtain⟨f0,f1,f2,f3,f4,f5⟩:=hf it (by simp)
  have hl:=rv.length;exact wpAny_pyNext_list_end (I.ok.hd hc) st p.isList (by simp;omega) λh' eb=>⟨rfl,I.turned (t':=s.toks) (λb o hb e=>eb b o hb e) f0 f1 f3 f4 f5⟩
 self:=λ_ _ _ _ _ st h=>wpAny_pyIter_listiter st h
theorem oV{K:Iz}(a it:Addr):Turn P w K tg (Itt K a) [it] it (λi h=>h.IsTupleIter it a i) where
 mem:=by simp
 obj:=λi h st b hb=>by
  have e:b=it:=by simpa using hb
  subst e;obtain⟨o,e,c,d⟩:=st;exact⟨o,e,λv z=>by rw[d]at z;cases z⟩
 keep:=λi h h' st k=>st.at λo e=>k it (by simp) o e
 item:=by
  intro X hP hw hK hc i pins s σ H E I hf st hg;subst hP hw hK;obtain⟨xs,x,hq,hx⟩:=hg;obtain⟨its,rv,p,hz⟩:=I.tuple hq;obtain⟨u,hu,ru⟩:=rv.get hx;obtain⟨f0,f1,f2,f3,f4,f5⟩:=hf it (by simp)
  refine wpAny_pyNext_tuple_item st (show s.heap.IsTuple a its.toArray from p) (x:=u) (by simpa using hu) λh' st' sb=>?_
  have I1:Inv X pins σ H {s with heap:=h'}:=I.turned (t':=s.toks) (λb o hb e=>(sb.2 b hb).trans e) f0 f1 f3 f4 f5
  obtain⟨o,e,c,d⟩:=id st';exact⟨u,rfl,mX (s:={s with heap:=h'}) e c d (by decide) ⟨x,H,I1,ru,⟨rfl,λys hy=>by rw[I.tuple_inj hy hq];exact hx⟩,st',λb hb=>(hf b hb).1⟩⟩
 done:=by
  intro X hP hw hK hc i pins s σ H E I hf st hg;subst hP hw hK;obtain⟨xs,hq,hx⟩:=hg;obtain⟨its,rv,p,hz⟩:=I.tuple hq;obtain⟨f0,f1,f2,f3,f4,f5⟩:=hf it (by simp)
  have hl:=rv.length;exact wpAny_pyNext_tuple_end (I.ok.hd hc) st (show s.heap.IsTuple a its.toArray from p) (by simp;omega) λh' eb=>⟨rfl,I.turned (t':=s.toks) (λb o hb e=>eb b o hb e) f0 f1 f3 f4 f5⟩
 self:=λ_ _ _ _ _ st h=>wpAny_pyIter_tupleiter st h
theorem ox{K:Iz}(it:Addr)(lo:Int)(n:Nat):Turn P w K tg (Itr lo n) [it] it (λi h=>IsRangeIter h it (lo+(i:Nat)*1) ((n:Int)-(i:Nat)) 1) where
 mem:=by simp
 obj:=λi h st b hb=>by
  have e:b=it:=by simpa using hb
  subst e;exact⟨_,st,λv z=>by
   have z':Data.fields _=Data.cell v:=z;cases z'⟩
 keep:=λi h h' st k=>k it (by simp) _ st
 item:=by
  intro X hP hw hK hc i pins s σ H E I hf st hg;subst hP hw hK;obtain⟨f0,f1,f2,f3,f4,f5⟩:=hf it (by simp)
  have W:=Walks.range (prog:=X.prog) (w:=X.w) (I.ok.hd hc) it lo 1 n;refine W.item i s _ _ hg st λv h' tk hv st' kk=>?_
  obtain⟨t,rfl⟩:=hv;have I1:Inv X pins σ H {s with heap:=h',toks:=tk}:=I.turned (λb o hb e=>kk b o (by simpa using hb) e) f0 f1 f3 f4 f5
  refine⟨_,rfl,mX (s:={s with heap:=h',toks:=tk}) (n:="range_iterator") st' rfl rfl (by decide) ⟨.int (lo+i),H,I1,⟨t,?_⟩,⟨rfl,rfl⟩,st',λb hb=>(hf b hb).1⟩⟩
  rw[Int.mul_one]
 done:=by
  intro X hP hw hK hc i pins s σ H E I hf st hg;subst hP hw hK;obtain⟨f0,f1,f2,f3,f4,f5⟩:=hf it (by simp)
  exact wpAny_pyNext_range_end (I.ok.hd hc) st (by have:n<=i:=hg;omega) λh' eb=>⟨rfl,I.turned (t':=s.toks) (λb o hb e=>eb b o hb e) f0 f1 f3 f4 f5⟩
 self:=λ_ _ _ _ _ st h=>wpAny_pyIter_rangeiter st h
section
variable {X:Cx}
theorem tV{s:Shared}{lo:Int}(I:Inv X pins σ H s)(h1 : -(2 ^ 62)<=lo)(h2:lo<2 ^ 62)(h3 : -(2 ^ 62)<=hi)(h4:hi<2 ^ 62)
  (q:R (Itr lo (hi-lo).toNat) H):wpAny (model X.prog X.w) X.A (pyIter (.ref s.heap.objs.size)) (PIE X pins σ tg R) E {s with heap:=s.heap.push {cls:=.type "range",data:=.fields #[.int lo t,.int hi u,.int 1 v]},toks:=tk}:=by
 refine wpAny_pyIter_range (IsRange.new ..) (small_one h1 h2 h3 h4) ?_;have I1:Inv X pins σ H {s with heap:=s.heap.push {cls:=.type "range",data:=.fields #[.int lo t,.int hi u,.int 1 v]},toks:=tk}:=I.kept λb o e=>Hd _ e
 refine⟨(s.heap.push {cls:=.type "range",data:=.fields #[.int lo t,.int hi u,.int 1 v]}).objs.size,[(s.heap.push {cls:=.type "range",data:=.fields #[.int lo t,.int hi u,.int 1 v]}).objs.size],_,_,H,rfl,
  I1.kept (t':=tk) λb o e=>Hd _ e,ox _ lo (hi-lo).toNat,?_,λb hb=>?_,q⟩
 ·have e1:lo+((0:Nat):Int)*1=lo:=by simp
  have e2:(((hi-lo).toNat:Nat):Int)-((0:Nat):Int)=Builtin.Range.rangeSize lo hi 1:=by rw[rangeSize_one];split<;>omega
  show IsRangeIter _ _ (lo+((0:Nat):Int)*1) ((((hi-lo).toNat:Nat):Int)-((0:Nat):Int)) 1;rw[e1,e2];exact Hn _ rfl
 ·have e:b=(s.heap.push {cls:=.type "range",data:=.fields #[.int lo t,.int hi u,.int 1 v]}).objs.size:=by simpa using hb
  subst e;exact I1.fpOk (Hh _) (I1.hok.fresh (Hh _))
noncomputable def A9(ta:TA):TI:=λσ H R=>ta σ H λvs H1=>∃j:Int,vs=[.int j]/\-(2 ^ 62)<=j/\j<2 ^ 62/\R (Itr 0 j.toNat) H1
theorem rR(hg:Gl X "range")(hm:X.mg "range"=none)(ha:PA X [a] ta)(hs:starEach [a] X.env=[(false,eval a X.env)]:=by rfl):PI X tg (.Call (.Name "range" p) [a] [] pos) (A9 ta):=by
 intro pins s σ H R I h;refine Call_ (eh I hg hm boot_range (PyProof.Rows.callWith_type1 (thn (ha pos pins s σ H _ I h) λus s1 ⟨vs,H1,I1,r1,q1⟩=>?_) hs rfl))
 obtain⟨j,e,q1,q2,q⟩:=q1;subst e;cases r1 with
 |cons r rr=>
  cases rr;obtain⟨t,rfl⟩:=r;exact call_range_1 (tV I1 (by omega) (by omega) q1 q2 (by simpa using q))
noncomputable def Fn(wi:TI)(g:TG)(tb:TS):TS:=λD σ H=>wi σ H λJ H1=>∃W:Nat->Nat->St->Hp->Prop,(∃m,W 0 m σ H1)/\∀i m σ H,W i m σ H->
 (J.stop i H/\D.nx σ H)\/(J.go i H/\∃N:St->Hp->Prop,(∀σ' H',N σ' H'->∃m',m' < m/\W (i+1) m' σ' H')/\∀x H',J.yld i H x H'->g x σ H' λσ2 H2=>tb {D with nx:=N,ct:=N,bk:=D.nx} σ2 H2)
noncomputable def jm(fp:List Addr)(h:Heap):List (Addr×Obj):=fp.filterMap λb=>(h.get? b).map λo=>(b,o)
theorem dZ{h:Heap}(hb:b∈fp)(e:h.get? b=some o):(b,o)∈jm fp h:=List.mem_filterMap.mpr ⟨b,hb,by rw[e];rfl⟩
theorem rV{h:Heap}{p:Addr×Obj}(hp:p∈jm fp h):p.1∈fp/\h.get? p.1=some p.2:=by
 obtain⟨b,hb,e⟩:=List.mem_filterMap.mp hp;cases q:h.get? b with
 |none=>rw[q]at e;cases e
 |some o=>
  rw[q]at e;have e':(b,o)=p:=Hv e;subst e';exact⟨hb,q⟩
theorem Inv.pinned{s:Shared}(I:Inv X pins σ H s)(hf:∀b∈fp,gD X pins H b)(ho:∀b∈fp,∃o,s.heap.get? b=some o/\∀v,o.data≠.cell v):Inv X (pins++jm fp s.heap) σ H s:=
 I.pins_of λp hp=>(HU.mp hp).elim (λz=>I.pin p (Hz _ z)) λz=>by
  obtain⟨hb,e⟩:=rV z;obtain⟨f0,f1,f2,_⟩:=hf p.1 hb;obtain⟨o,e',d⟩:=ho p.1 hb;rw[e]at e';cases e';exact⟨e,f0,f1,f2,d⟩
theorem Inv.unpinned(I:Inv X (pins++pl) σ H s):Inv X pins σ H s:=I.pins_of λp hp=>I.pin p (Hz _ (Im _ hp))
theorem zP(hp:PassesOwn (model X.prog X.w) X.A X.env X.xe)(hc:X.calm=true)(hi:PI X tg iter wi)(hg:PG X tg g)(hb:PSs X body tb)
  (hs:∀x,foldedSetIterable iter X.env x=pure x:=by intro _;rfl):PS X (.For tg iter body [] pos) (Fn wi g tb):=by
 intro pins s σ H D I h;refine wpAny_For (thn (hi pins s σ H _ I h) λv s1 h1=>thn h1 λitv s2 h2=>?_) hs
 obtain⟨it,fp,tn,J,H2,e,I2,T,st2,f2,W,⟨m0,w0⟩,turn⟩:=h2;subst e;have stat:∀{H':Hp},(∀b∈fp,H' b=none)->∀b∈fp,gD X pins H' b:=λhn b hb=>⟨hn b hb,(f2 b hb).2⟩
 refine codeAny_forLoop_any (λn s'=>∃i σ' H',Inv X pins σ' H' s'/\tn i s'.heap/\(∀b∈fp,H' b=none)/\W i n σ' H') ?_ m0 ⟨0,σ,H2,I2,st2,λb hb=>(f2 b hb).1,w0⟩
 rintro n s3 ⟨i,σ3,H3,I3,st3,fr3,w3⟩;rcases turn i n σ3 H3 w3 with ⟨stop,qn⟩|⟨go,N,hN,step⟩
 ·refine wpAny_passesOwn hp (thn (T.done X rfl rfl rfl hc i pins s3 σ3 H3 X.xe I3 (stat fr3) st3 stop) λr s4 ⟨hr,I4⟩=>?_)
  subst hr;exact wpAny_execs_nil ⟨σ3,H3,I4,qn⟩
 ·refine wpAny_passesOwn hp (thn (T.item X rfl rfl rfl hc i pins s3 σ3 H3 X.xe I3 (stat fr3) st3 go) λr s4 ⟨u,hr,h4⟩=>?_)
  subst hr;refine wpAny_passesOwn hp (thn h4 λ_ s5 ⟨x,H5,I5,r5,y5,st5,fr5⟩=>?_)
  have I5':=I5.pinned (stat fr5) (T.obj _ _ st5);refine wpAny_passesOwn hp (thn (hg _ s5 σ3 H5 x u _ I5' r5 (step x H5 y5)) λ_ s6 ⟨σ6,H6,I6,q6⟩=>?_)
  refine wpAny_passesOwn hp (thn (hb _ s6 σ6 H6 _ I6 q6) λf s7 q7=>?_)
  have again:∀{σ7:St}{H7:Hp},Inv X (pins++jm fp s5.heap) σ7 H7 s7->N σ7 H7->∃m,m<n/\∃i σ' H',Inv X pins σ' H' s7/\tn i s7.heap/\(∀b∈fp,H' b=none)/\W i m σ' H':=λ{σ7 H7} I7 n7=>by
   obtain⟨m',hm,w7⟩:=hN σ7 H7 n7;refine⟨m',hm,i+1,σ7,H7,I7.unpinned,T.keep _ _ _ st5 λb hb o e=>(I7.pin (b,o) (Hz _ (Hz _ (dZ hb e)))).1,λb hb=>?_,w7⟩
   obtain⟨o,e,d⟩:=T.obj _ _ st5 b hb;exact (I7.pin (b,o) (Hz _ (Hz _ (dZ hb e)))).2.1
  cases f with
  |next=>obtain⟨σ7,H7,I7,n7⟩:=q7;exact again I7 n7
  |cont=>obtain⟨σ7,H7,I7,n7⟩:=q7;exact again I7 n7
  |brk=>obtain⟨σ7,H7,I7,q7⟩:=q7;exact⟨σ7,H7,I7.unpinned,q7⟩
  |ret v=>obtain⟨x7,σ7,H7,I7,r7,q7⟩:=q7;exact⟨x7,σ7,H7,I7.unpinned,r7,q7⟩
end
noncomputable abbrev R2:=V->V->Hp->VK->Prop
def OpR(X:Cx)(f:Value->Value->Sem Value)(r:R2):Prop:=
 ∀(pins:List (Addr×Obj)) (s:Shared)(σ:St)(H:Hp)(x y:V)(v u:Value)(Q:VK),Inv X pins σ H s->RelV x v->RelV y u->r x y H Q->
  wpAny (model X.prog X.w) X.A (f v u) (EP X pins σ Q) X.xe s
def UnR(X:Cx)(f:Value->Sem Value)(r:V->Hp->VK->Prop):Prop:=
 ∀(pins:List (Addr×Obj)) (s:Shared)(σ:St)(H:Hp)(x:V)(v:Value)(Q:VK),Inv X pins σ H s->RelV x v->r x H Q->
  wpAny (model X.prog X.w) X.A (f v) (EP X pins σ Q) X.xe s
def CallR(X:Cx)(f:Value)(r:List V->Hp->VK->Prop):Prop:=
 ∀(pins:List (Addr×Obj)) (s:Shared)(σ:St)(H:Hp)(xs:List V)(us:List Value)(Q:VK),Inv X pins σ H s->Vals xs us->r xs H Q->
  wpAny (model X.prog X.w) X.A (call f us) (EP X pins σ Q) X.xe s
noncomputable def tOp(r:R2)(ta tb:TE):TE:=λσ H Q=>ta σ H λx H1=>tb σ H1 λy H2=>r x y H2 Q
noncomputable def tUn(r:V->Hp->VK->Prop)(ta:TE):TE:=λσ H Q=>ta σ H λx H1=>r x H1 Q
def rI(C:Int->Int->Prop)(g:Int->Int->V):R2:=λx y H Q=>∃i j,x=.int i/\y=.int j/\C i j/\Q (g i j) H
def rI0(g:Int->Int->V):R2:=λx y H Q=>∃i j,x=.int i/\y=.int j/\Q (g i j) H
def rU(g:Int->V):V->Hp->VK->Prop:=λx H Q=>∃i,x=.int i/\Q (g i) H
section
variable {X:Cx}{a b c:Expr}{ta tb tc:TE}{pos:Pos}
theorem AR(ha:PE X a ta)(hb:PE X b tb){pins:List (Addr×Obj)}{s:Shared}{σ:St}{H:Hp}{R:V->V->Hp->Prop}(I:Inv X pins σ H s)
  (h:ta σ H λx H1=>tb σ H1 λy H2=>R x y H2) {Q:Value->Shared->Prop}{f:Value->Value->Sem Value}
  (hf:∀v u s2 x y H2,Inv X pins σ H2 s2->RelV x v->RelV y u->R x y H2->wpAny (model X.prog X.w) X.A (f v u) Q X.xe s2) :
  wpAny (model X.prog X.w) X.A (eval a X.env) (λv s₁=>wpAny (model X.prog X.w) X.A (eval b X.env) (λu s₂=>wpAny (model X.prog X.w) X.A (f v u) Q X.xe s₂) X.xe s₁) X.xe s:=by
 refine thn (ha pins s σ H _ I h) λv s1 ⟨x,H1,I1,r1,q1⟩=>?_
 refine thn (hb pins s1 σ H1 _ I1 q1) λu s2 ⟨y,H2,I2,r2,q2⟩=>?_
 exact hf v u s2 x y H2 I2 r1 r2 q2
theorem Df{op:Operator}{r:R2}(ho:OpR X (binaryOp op) r)(ha:PE X a ta)(hb:PE X b tb):PE X (.BinOp a op b pos) (tOp r ta tb):=by
 intro pins s σ H Q I h;exact wpAny_BinOp (AR ha hb I h λv u s2 x y H2 I2 rx ry q=>ho pins s2 σ H2 x y v u Q I2 rx ry q)
theorem C7(ho:UnR X (unaryOp op) r)(ha:PE X a ta):PE X (.UnaryOp op a pos) (tUn r ta):=by
 intro pins s σ H Q I h;exact UnaryOp_ (thn (ha pins s σ H _ I h) λv s1 ⟨x,H1,I1,r1,q1⟩=>ho pins s1 σ H1 x v Q I1 r1 q1)
theorem opI{f:Value->Value->Sem Value}{C:Int->Int->Prop}{g:Int->Int->Int}
  (rule:∀(i j:Int)(t u:Tok)(s:Shared)(Q:Value->Shared->Prop)(E:Value->Shared->Prop),C i j->Q (.int (g i j) s.toks) {s with toks:=s.toks+1}->wpAny (model X.prog X.w) X.A (f (.int i t) (.int j u)) Q E s) :
  OpR X f (rI C λi j=>.int (g i j)):=by
 intro pins s σ H x y v u Q I rx ry h;obtain⟨i,j,rfl,rfl,hc,q⟩:=h;obtain⟨t,rfl⟩:=rx;obtain⟨t',rfl⟩:=ry;exact rule i j t t' s _ _ hc ⟨.int (g i j),H,I.tok _,⟨_,rfl⟩,q⟩
theorem AD{f:Value->Value->Sem Value}{g:Int->Int->Int}
  (rule:∀(i j:Int)(t u:Tok)(s:Shared)(Q:Value->Shared->Prop)(E:Value->Shared->Prop),Q (.int (g i j) s.toks) {s with toks:=s.toks+1}->wpAny (model X.prog X.w) X.A (f (.int i t) (.int j u)) Q E s) :
  OpR X f (rI0 λi j=>.int (g i j)):=by
 intro pins s σ H x y v u Q I rx ry h;obtain⟨i,j,rfl,rfl,q⟩:=h;obtain⟨t,rfl⟩:=rx;obtain⟨t',rfl⟩:=ry;exact rule i j t t' s _ _ ⟨.int (g i j),H,I.tok _,⟨_,rfl⟩,q⟩
theorem wR{f:Value->Value->Sem Value}{g:Int->Int->Bool}
  (rule:∀(i j:Int)(t u:Tok)(s:Shared)(Q:Value->Shared->Prop)(E:Value->Shared->Prop),Q (.bool (g i j)) s->wpAny (model X.prog X.w) X.A (f (.int i t) (.int j u)) Q E s) :
  OpR X f (rI0 λi j=>.bl (g i j)):=by
 intro pins s σ H x y v u Q I rx ry h;obtain⟨i,j,rfl,rfl,q⟩:=h;obtain⟨t,rfl⟩:=rx;obtain⟨t',rfl⟩:=ry;exact rule i j t t' s _ _ ⟨.bl (g i j),H,I,rfl,q⟩
def uQ(i j:Int):Prop:=0<=j/\j<=1000000/\i.natAbs<2 ^ 64
theorem oG(k:Nat):(0:Int)<=2 ^ k:=by
 rw[two_pow_cast];exact Int.natCast_nonneg _
theorem yD:OpR X (binaryOp .Add) (rI0 λi j=>.int (i+j)):=AD λ_ _ _ _ _ _ _ q=>add_int q
theorem AS:OpR X (binaryOp .Sub) (rI0 λi j=>.int (i-j)):=AD λ_ _ _ _ _ _ _ q=>sub_int q
theorem yj:OpR X (binaryOp .Mod) (rI (λ_ j=>0<j) λi j=>.int (i % j)):=opI λi j _ _ _ _ _ hc q=>by
 have h1:(0:Int)<j:=hc;exact mod_int' (by omega) (by rw[Int.fmod_eq_emod_of_nonneg i (by omega)];exact q)
theorem yg:OpR X (binaryOp .Pow) (rI uQ λi j=>.int (i ^ j.toNat)):=opI λ_ _ _ _ _ _ _ hc q=>pow_int_small hc.1 hc.2.1 hc.2.2 q
theorem yY:OpR X (binaryOp .RShift) (rI (λ_ j=>0<=j) λi j=>.int (i / 2 ^ j.toNat)):=opI λi j _ _ _ _ _ hc q=>
 rshift_int hc (by rw[Int.fdiv_eq_ediv_of_nonneg i (oG _)];exact q)
theorem yZ:OpR X (binaryOp .BitAnd) (rI0 λi j=>.int (Builtin.bitAnd i j)):=AD λ_ _ _ _ _ _ _ q=>and_int q
theorem unI{f:Value->Sem Value}{g:Int->Int}
  (rule:∀(i:Int)(t:Tok)(s:Shared)(Q:Value->Shared->Prop)(E:Value->Shared->Prop),Q (.int (g i) s.toks) {s with toks:=s.toks+1}->wpAny (model X.prog X.w) X.A (f (.int i t)) Q E s) :
  UnR X f (rU λi=>.int (g i)):=by
 intro pins s σ H x v Q I rx h;obtain⟨i,rfl,q⟩:=h;obtain⟨t,rfl⟩:=rx;exact rule i t s _ _ ⟨.int (g i),H,I.tok _,⟨_,rfl⟩,q⟩
theorem ze:UnR X (unaryOp .USub) (rU λi=>.int (-i)):=unI λ_ _ _ _ _ q=>neg_int q
end
section
variable {X:Cx}{a b c:Expr}{ta tb tc:TE}{pos:Pos}
theorem lQ(I:Inv X pins σ H s)(q:Q (.bl k) H)(e:k=k'):EP X pins σ Q (.bool k') s:=by
 subst e;exact⟨.bl k,H,I,rfl,q⟩
theorem CG:OpR X (compareOp .Lt) (rI0 λi j=>.bl (decide (i<j))):=wR λ_ _ _ _ _ _ _ q=>lt_int q
theorem BO:OpR X (compareOp .LtE) (rI0 λi j=>.bl (decide (i<=j))):=wR λ_ _ _ _ _ _ _ q=>le_int q
theorem B0:OpR X (compareOp .Gt) (rI0 λi j=>.bl (decide (j<i))):=wR λ_ _ _ _ _ _ _ q=>gt_int q
theorem Dm:OpR X (compareOp .GtE) (rI0 λi j=>.bl (decide (j<=i))):=wR λ_ _ _ _ _ _ _ q=>ge_int q
theorem re:OpR X (compareOp .In) (λx y H Q=>∃i j,x=.str i/\y=.str j/\Q (.bl (!(Builtin.Str.occurrences j i 0 j.length 1).isEmpty)) H):=by
 intro pins s σ H x y v u Q I rx ry h;obtain⟨i,j,rfl,rfl,q⟩:=h;obtain⟨t,rfl⟩:=rx;obtain⟨t',rfl⟩:=ry;exact in_str (lQ I q rfl)
theorem za:OpR X (compareOp .Is) (λx y H Q=>y=.non/\Q (.bl (decide (x=.non))) H):=by
 intro pins s σ H x y v u Q I rx ry h;obtain⟨rfl,q⟩:=h;cases ry;refine is_none_gen (lQ I q ?_);cases x<;>first
  |(cases rx;rfl)
  |(obtain⟨t,rfl⟩:=rx;rfl)
theorem vB:OpR X (compareOp .IsNot) (λx y H Q=>y=.non/\Q (.bl (!decide (x=.non))) H):=by
 intro pins s σ H x y v u Q I rx ry h;obtain⟨rfl,q⟩:=h;cases ry;refine isnot_none_gen (lQ I q ?_);cases x<;>first
  |(cases rx;rfl)
  |(obtain⟨t,rfl⟩:=rx;rfl)
theorem ma:OpR X (compareOp .NotIn) (λx y H Q=>∃i j,x=.str i/\y=.str j/\Q (.bl (!(!(Builtin.Str.occurrences j i 0 j.length 1).isEmpty))) H):=by
 intro pins s σ H x y v u Q I rx ry h;obtain⟨i,j,rfl,rfl,q⟩:=h;obtain⟨t,rfl⟩:=rx;obtain⟨t',rfl⟩:=ry;exact notIn_str (lQ I q rfl)
theorem vA{op:CmpOp}{r:R2}(ho:OpR X (compareOp op) r)(ha:PE X a ta)(hb:PE X b tb)(hm:behindInMarks op b=false):PE X (.Compare a [op] [b] pos) (tOp r ta tb):=by
 intro pins s σ H Q I h;exact wpAny_Compare1 (AR ha hb I h λv u s2 x y H2 I2 rx ry q=>ho pins s2 σ H2 x y v u Q I2 rx ry q) hm
noncomputable def tN(t:TE):TT:=λσ H Q=>t σ H λx H'=>∃k,x=.bl k/\Q k H'
theorem vg(ho:OpR X (compareOp op) r)(ha:PE X a ta)(hb:PE X b tb)(hm:behindInMarks op b=false):PT X (.Compare a [op] [b] pos) (tN (tOp r ta tb)):=by
 intro pins s σ H Q I h;refine wpAny_isTrue_Compare1 (thn (ha pins s σ H _ I h) λv s1 ⟨x,H1,I1,r1,q1⟩=>thn (hb pins s1 σ H1 _ I1 q1) λu s2 ⟨y,H2,I2,r2,q2⟩=>
  thn (ho pins s2 σ H2 x y v u _ I2 r1 r2 q2) λc s3 ⟨z,H3,I3,r3,k,e,q3⟩=>?_) hm
 subst e;cases r3;exact HW ⟨H3,I3,q3⟩
noncomputable def sm(r r':R2)(ta tb tc:TE):TE:=λσ H Q=>ta σ H λx H1=>tb σ H1 λy H2=>r x y H2 λz H3=>∃k,z=.bl k/\
 (if k=true then tc σ H3 λw' H4=>r' y w' H4 Q else Q (.bl false) H3)
theorem uI(ho:OpR X (compareOp op) r)(ho':OpR X (compareOp op') r')(ha:PE X a ta)(hb:PE X b tb)(hc:PE X c tc)
  (hm:lastMarks [op,op'] [b,c]=false:=by with_unfolding_all rfl):PE X (.Compare a [op,op'] [b,c] pos) (sm r r' ta tb tc):=by
 intro pins s σ H Q I h;refine Compare_chain (thn (ha pins s σ H _ I h) λv s1 ⟨x,H1,I1,r1,q1⟩=>chain_link (thn (hb pins s1 σ H1 _ I1 q1) λu s2 ⟨y,H2,I2,r2,q2⟩=>
  thn (ho pins s2 σ H2 x y v u _ I2 r1 r2 q2) λd s3 ⟨z,H3,I3,r3,k,e,q3⟩=>?_)) hm
 subst e;cases r3;refine HW ?_;cases k with
 |false=>exact ite_ff ⟨.bl false,H3,I3,rfl,q3⟩
 |true=>exact ite_tt (chain_last (thn (hc pins s3 σ H3 _ I3 q3) λw' s4 ⟨z',H4,I4,r4,q4⟩=>ho' pins s4 σ H4 y z' u w' Q I4 r2 r4 q4))
theorem sC(ho:OpR X (compareOp op) r)(ho':OpR X (compareOp op') r')(ha:PE X a ta)(hb:PE X b tb)(hc:PE X c tc)
  (hm:lastMarks [op,op'] [b,c]=false:=by with_unfolding_all rfl):PT X (.Compare a [op,op'] [b,c] pos) (tN (sm r r' ta tb tc)):=by
 intro pins s σ H Q I h;refine isTrue_chain (thn (ha pins s σ H _ I h) λv s1 ⟨x,H1,I1,r1,q1⟩=>test_link (thn (hb pins s1 σ H1 _ I1 q1) λu s2 ⟨y,H2,I2,r2,q2⟩=>
  thn (ho pins s2 σ H2 x y v u _ I2 r1 r2 q2) λd s3 ⟨z,H3,I3,r3,k,e,q3⟩=>?_)) hm
 subst e;cases r3;refine HW ?_;cases k with
 |false=>
  obtain⟨k',e',q'⟩:=q3;cases e';exact ite_ff ⟨H3,I3,q'⟩
 |true=>
  refine ite_tt (test_last (thn (hc pins s3 σ H3 _ I3 q3) λw' s4 ⟨z',H4,I4,r4,q4⟩=>thn (ho' pins s4 σ H4 y z' u w' _ I4 r2 r4 q4) λd' s5 ⟨z2,H5,I5,r5,k2,e2,q5⟩=>?_))
  subst e2;cases r5;exact HW ⟨H5,I5,q5⟩
theorem hW:(sizeLine:Nat)<2 ^ 63:=by rw[sizeLine_eq];decide
theorem pk:OpR X (binaryOp .Add) (λx y H Q=>∃i j,x=.str i/\y=.str j/\i.length+j.length<=sizeLine/\Q (.str (i++j)) H):=by
 intro pins s σ H x y v u Q I rx ry h;obtain⟨i,j,rfl,rfl,hz,q⟩:=h;obtain⟨t,rfl⟩:=rx;obtain⟨t',rfl⟩:=ry;exact add_str (λt' tk=>⟨.str (i++j),H,I.tok _,⟨_,rfl⟩,q⟩) hz
theorem iP(r:Vals [x] us):∃u,us=[u]/\RelV x u:=by
 cases r with
 |cons r1 r2=>cases r2;exact⟨_,rfl,r1⟩
theorem Bo(r:Vals [x,y] us):∃u w',us=[u,w']/\RelV x u/\RelV y w':=by
 cases r with
 |cons r1 r2=>
  cases r2 with
  |cons r3 r4=>cases r4;exact⟨_,_,rfl,r1,r3⟩
theorem q9(hc:X.calm=true):CallR X (.builtin "max") (λxs H Q=>∃i j,xs=[.int i,.int j]/\Q (.int (if j > i then j else i)) H):=by
 intro pins s σ H xs us Q I r h;obtain⟨i,j,rfl,q⟩:=h;obtain⟨u,w',rfl,⟨t,rfl⟩,⟨t',rfl⟩⟩:=Bo r;refine max_two_ints (I.ok.hd hc) λh' tk k=>⟨_,H,I.kept k,?_,q⟩
 by_cases hj:j > i
 ·rw[Hg hj,Hg hj];exact⟨_,rfl⟩
 ·rw[Hc hj,Hc hj];exact⟨_,rfl⟩
end
structure ObjM (h:Heap)(x dx C:Addr)(mA:Str->Option Value):Prop where
 obj:h.get? x=some (PySem.W.instObj C dx)
 ns:h.Ns1 dx mA
 ne:dx≠x
theorem qG{h:Heap}(n:h.Ns1 dx mA):∃od,h.get? dx=some od/\∀name,PySem.W.lookIn name od=some (mA name):=by
 obtain⟨o,es,ep,ho,hd,hk,_,hm⟩:=n;refine⟨o,ho,λname=>?_⟩
 have e:=hm name;unfold nsFind findBy at e;rw[<-Array.find?_toList]at e;unfold PySem.W.lookIn;rw[hd];dsimp only;split
 ·rename_i y q;rw[q]at e;exact congrArg some e
 ·rename_i q;rw[q]at e;have a:es.toList.any (·.refKey)=false:=by
   rw[List.any_eq_false];intro y hy;obtain⟨z,t,hkey⟩:=hk y (Array.mem_toList_iff.mp hy);simp[DictEntry.refKey,hkey]
  have a':¬ es.toList.any (·.refKey)=true:=by rw[a];exact Hq
  rw[Hc a'];exact congrArg some e
theorem ObjM.look(I:ObjM h x dx C mA):∃od,PySem.W.InstAt h x (PySem.W.instObj C dx) C (some od)/\∀name,PySem.W.lookIn name od=some (mA name):=
 let ⟨od,ho,hl⟩:=qG I.ns
 ⟨od,⟨I.obj,rfl,rfl,ho⟩,hl⟩
section
variable {w:World}{A:Around}{s:Shared}{K:Iz}{x:Addr}
theorem vZ(X:K.In s.heap)(I:ObjM s.heap x dx C mA)(hg:PySem.W.plainGet K C name=true)(hh:PySem.W.hasDictIn K C=true)
  (ha:PySem.W.findIn K (.ref C) name=some none) (hv:mA name=some v) (hv':PySem.W.handedIn v=true) (h:Q v {s with toks:=s.toks+1}) :
  wpAny (model prog w) A (getAttr (.ref x) name expr) Q E s:=by
 obtain⟨od,J,hl⟩:=I.look;exact PySem.W.get_value X J (PySem.W.plainGet_of hg).1 (PySem.W.findObj_own hh ha rfl (by rw[hl,hv])) hv' h
theorem tU(X:K.In s.heap)(I:ObjM s.heap x dx C mA)(hg:PySem.W.plainGet K C name=true)
  (hf:PySem.W.findIn K (.ref C) name=some (some (.ref f))) (ht:PySem.W.isFn K (.ref f)=true) (hv:mA name=none) (h:Q (.ref f,[.ref x]) s) :
  wpAny (model prog w) A (getMethod (.ref x) name pl) Q E s:=by
 obtain⟨od,J,hl⟩:=I.look;exact PySem.W.method_fn X J (PySem.W.plainGet_of hg).1 (PySem.W.plainGet_of hg).2 hf (Hs.mp ht) (by show (PySem.W.lookIn name od).map (·.isSome)=some false;rw[hl,hv];rfl) h
theorem xp{ns:List Str}(X:K.In s.heap)(I:ObjM s.heap x dx C mA)
  (hs:PySem.W.findIn K (.ref C) "__setattr__"=some (some (.builtin "object.__setattr__"))) (hp:PySem.W.plainOver K C=true) (ht:PySem.W.takerIn K C name=some none) (hh:PySem.W.hasDictIn K C=true)
  (hw:PySem.Within mA ns) (hsz:ns.length<=sizeLine)
  (h:∀h',ObjM h' x dx C (λy=>if y=name then some v else mA y)->Heap.SameBut dx s.heap h'->Q () {s with heap:=h',toks:=s.toks+2}) :
  wpAny (model prog w) A (setAttr (.ref x) name v) Q E s:=by
 obtain⟨od,J,hl⟩:=I.look;refine PySem.W.set_plain X J hs (PySem.W.osa_open (s:={s with toks:=s.toks+1}) (r:=none) X J hp ht λb=>?_)
 obtain⟨cd,hc,hd'⟩:=PySem.W.any_some hh;have hx:s.heap.get? x=some ⟨.ref C,some dx,.plain,#[]⟩:=I.obj;refine G8 (Ha (G8 (G8 (wpAny_loadPart hx (G8 (PySem.W.Looks.here (s:={s with toks:=s.toks+1}) (PySem.W.looks_clsIn X hc) ?_))))))
 rw[hd'];refine Ha (a:=some dx) (G8 (Ha (G8 ?_)));refine wpAny_nsSet1 (s:={s with toks:=s.toks+1}) I.ns λh' hn2 hs2=>?_
 obtain⟨oD,esD,epD,hoD,hdD,hcD⟩:=hn2.count (PySem.Within.cons name v hw);refine G8 (wpAny_lookBehind hoD (by rw[hdD];exact pastItsLine_dict (Hw hcD (by rw[HA];omega))) ?_)
 exact Ha (h _ ⟨(hs2.2 _ (He I.ne)).trans I.obj,hn2,I.ne⟩ hs2)
theorem sx(X:K.In s.heap)(hm:PySem.W.makesIn K C=true)
  (hi:PySem.W.findIn K (.ref C) "__init__"=some (some (.ref f))) (hf:PySem.W.typeIn K (.ref f)=some (.type "function"))
  (h:codeAny (model prog w) (A.under (.builtin "type.__call__" ⟨.ref C::vs,kw⟩)) (.call (.ref f) ⟨.ref (s.heap.objs.size+1)::vs,kw⟩) (PySem.W.InitBack (s.heap.objs.size+1) R)
   {s with heap:=(s.heap.push PySem.W.emptyDict).push (PySem.W.instObj C s.heap.objs.size)}) :
  codeAny (model prog w) A (.call (.ref C) ⟨vs,kw⟩) R s:=by
 obtain⟨hh,g,d,t,os⟩:=s;exact PySem.W.make_core (PySem.W.makes_of X hm) (PySem.W.looks_findIn X hi) (λself=>PySem.W.bind_fn X self hf) (.inl rfl) h
end
noncomputable def dP(f:Str)(v:V):List (Str×V)->List (Str×V)
 |[]=>[(f,v)]
 |(g,x)::r=>if g=f then (g,v)::r else (g,x)::dP f v r
theorem iG(f g:Str)(v:V):∀fs:List (Str×V),(dP f v fs).lookup g=if g=f then some v else fs.lookup g
 |[]=>by
  show List.lookup g [(f,v)]=_;by_cases h:g=f
  ·have hb:(g == f)=true:=Hs.mpr h;simp only[List.lookup,hb,Hg h]
  ·have hb:(g == f)=false:=HK.mpr h;simp only[List.lookup,hb,Hc h]
 |(k,x)::r=>by
  have ih:=iG f g v r;rw[show dP f v ((k,x)::r)=(if k=f then (k,v)::r else (k,x)::dP f v r) from rfl]
  by_cases hk:k=f
  ·rw[Hg hk];by_cases h:g=k
   ·have hb:(g == k)=true:=Hs.mpr h;simp only[List.lookup,hb,Hg (h.trans hk)]
   ·have hb:(g == k)=false:=HK.mpr h;simp only[List.lookup,hb,Hc (λe:g=f=>h (e.trans hk.symm))]
  ·rw[Hc hk];by_cases h:g=k
   ·have hb:(g == k)=true:=Hs.mpr h;simp only[List.lookup,hb,Hc (λe:g=f=>hk (h.symm.trans e))]
   ·have hb:(g == k)=false:=HK.mpr h;simp only[List.lookup,hb];exact ih
theorem iD(f:Str)(v:V):∀fs:List (Str×V),f∈(dP f v fs).map (·.1)/\∀g,g∈fs.map (·.1)->g∈(dP f v fs).map (·.1)
 |[]=>⟨by simp[dP],λg h=>by simp at h⟩
 |(k,x)::r=>by
  obtain⟨i1,i2⟩:=iD f v r;rw[show dP f v ((k,x)::r)=(if k=f then (k,v)::r else (k,x)::dP f v r) from rfl]
  by_cases hk:k=f
  ·rw[Hg hk];subst hk;exact⟨by simp,λg h=>by simpa using h⟩
  ·rw[Hc hk];refine⟨?_,λg h=>?_⟩
   ·rw[Hl];exact Hb _ i1
   ·rw[Hl]at h ⊢;rcases Hj.mp h with e|e
    ·exact Hj.mpr (.inl e)
    ·exact Hb _ (i2 g e)
theorem iL(f:Str)(v:V):∀fs:List (Str×V),(dP f v fs).length<=fs.length+1
 |[]=>by simp[dP]
 |(k,x)::r=>by
  have ih:=iL f v r;rw[show dP f v ((k,x)::r)=(if k=f then (k,v)::r else (k,x)::dP f v r) from rfl]
  by_cases hk:k=f
  ·rw[Hg hk,HA,HA];omega
  ·rw[Hc hk,HA,HA];omega
theorem RelO.some_of(r:RelO (some v) o):∃u,o=some u/\RelV v u:=by
 cases o with
 |none=>exact (show False from r).elim
 |some u=>exact⟨u,rfl,r⟩
theorem RelO.none_of(r:RelO none o):o=none:=by
 cases o with
 |none=>rfl
 |some u=>exact (show False from r).elim
theorem qH(r:RelV v u):PySem.W.handedIn u=true:=by
 cases v with
 |non=>cases (show u=Value.none from r);rfl
 |bl b=>cases (show u=Value.bool b from r);rfl
 |int i=>obtain⟨t,e⟩:=(show ∃t,u=Value.int i t from r);cases e;rfl
 |str x=>obtain⟨t,e⟩:=(show ∃t,u=Value.str x t from r);cases e;rfl
 |byt b=>obtain⟨t,e⟩:=(show ∃t,u=Value.bytes b t from r);cases e;rfl
 |flt b=>obtain⟨t,e⟩:=(show ∃t,u=Value.float b t from r);cases e;rfl
 |ref a=>cases (show u=Value.ref a from r);rfl
 |ty n=>cases (show u=Value.type n from r);rfl
section
variable {P:Program}{w:World}{h h':Heap}{a:Addr}{fs:List (Str×V)}
theorem wz(hok:HOk P w H h)(e:H a=some (.ins C dx fs)):∃mA,ObjM h a dx C mA/\(∀f,RelO (fs.lookup f) (mA f))/\PySem.Within mA (fs.map (·.1))/\fs.length<=1000/\H dx=some (.own a):=by
 obtain⟨d,z,ne,ob,mA,n,r,q⟩:=(show ObjOk P w H h a (.ins C dx fs) from hok a _ e);exact⟨mA,⟨ob,n,ne⟩,r,q,z,d⟩
end
structure Cls (K:Iz)(C:Addr):Prop where
 pg:PySem.W.plainGet K C Str.empty=true
 hd:PySem.W.hasDictIn K C=true
 po:PySem.W.plainOver K C=true
 sa:PySem.W.findIn K (.ref C) "__setattr__"=some (some (.builtin "object.__setattr__"))
theorem Cls.get{K:Iz}{C:Addr}(c:Cls K C)(f:Str):PySem.W.plainGet K C f=true:=c.pg
def NoAttr(K:Iz)(C:Addr)(f:Str):Prop:=PySem.W.findIn K (.ref C) f=some none
theorem NoAttr.taker{K:Iz}(n:NoAttr K C f):PySem.W.takerIn K C f=some none:=by
 unfold PySem.W.takerIn;rw[show PySem.W.findIn K (.ref C) f=some none from n];rfl
structure Meth (K:Iz)(C:Addr)(m:Str)(f:Addr):Prop where
 at_:PySem.W.findIn K (.ref C) m=some (some (.ref f))
 fn:PySem.W.isFn K (.ref f)=true
 kp:PySem.W.keepIn K (.ref f)=true
section
variable {X:Cx}{s:Shared}{a:Addr}{fs:List (Str×V)}{A:Around}
theorem pA(I:Inv X pins σ H s)(e:H a=some (.ins C dx fs))(c:Cls X.K C)(n:NoAttr X.K C f)(hl:fs.length<1000)(ry:RelV y u)
  (h:∀s',Inv X pins σ (upd H a (.ins C dx (dP f y fs))) s'->Q () s'):wpAny (model X.prog X.w) A (setAttr (.ref a) f u) Q E s:=by
 obtain⟨mA,O,r,wi,_,ho⟩:=wz I.hok e;have hz:(fs.map (·.1)).length<=sizeLine:=by rw[Hm,sizeLine_eq];omega
 refine xp I.kIn O c.sa c.po n.taker c.hd wi hz λh' O' sb=>h _ ?_
 have hd:∃o,h'.get? dx=some o:=let ⟨o,_,_,e',_⟩:=O'.ns;⟨o,e'⟩
 refine I.write (x:=a) (e:=dx) (by rw[e];exact True.intro) (.inr ho) (λb q hb z=>(sb.2 b hb).trans z) hd ?_
 refine⟨by rw[ae O.ne];exact ho,?_,O.ne,O'.obj,_,O'.ns,λg=>?_,λg hg=>?_⟩
 ·have:=iL f y fs;omega
 ·show RelO ((dP f y fs).lookup g) (if g=f then some u else mA g)
  rw[iG];by_cases q:g=f
  ·rw[Hg q,Hg q];exact ry
  ·rw[Hc q,Hc q];exact r g
 ·by_cases q:g=f
  ·rw[q];exact (iD f y fs).1
  ·refine (iD f y fs).2 g (wi g λz=>hg ?_)
   show (if g=f then some u else mA g)=none
   rw[Hc q];exact z
theorem Inv.made(I:Inv X pins σ H s):Inv X pins σ (upd (upd H s.heap.objs.size (.own (s.heap.objs.size+1))) (s.heap.objs.size+1) (.ins C s.heap.objs.size []))
  {s with heap:=(s.heap.push PySem.W.emptyDict).push (PySem.W.instObj C s.heap.objs.size)}:=by
 have e1:(s.heap.push PySem.W.emptyDict).get? s.heap.objs.size=some PySem.W.emptyDict:=Hn s.heap rfl;have e2:((s.heap.push PySem.W.emptyDict).push (PySem.W.instObj C s.heap.objs.size)).get? (s.heap.objs.size+1)=some (PySem.W.instObj C s.heap.objs.size):=by
  have:=Hn (s.heap.push PySem.W.emptyDict) (o:=PySem.W.instObj C s.heap.objs.size) rfl
  rwa [Heap.size_push]at this
 have e3:(s.heap.push PySem.W.emptyDict).Ns s.heap.objs.size (λ_=>none):=⟨PySem.W.emptyDict,#[],_,e1,rfl,(λe he=>absurd he (by simp)),λ_=>rfl⟩
 have I1:=I.laid (a:=s.heap.objs.size) (o:=.own (s.heap.objs.size+1)) (h':=s.heap.push PySem.W.emptyDict) (t':=s.toks) (λb u q=>Hd _ q) (Hh _) ⟨_,e1⟩
 refine I1.laid (a:=s.heap.objs.size+1) (o:=.ins C s.heap.objs.size []) (t':=s.toks) (λb u q=>Hd _ q) (Nat.le_of_eq (Heap.size_push _ _)) ?_
 have ne:s.heap.objs.size≠s.heap.objs.size+1:=Hx (Nat.lt_succ_self _);refine⟨by rw[ae ne,ag],Nat.zero_le _,ne,e2,λ_=>none,(Heap.Ns1.of_empty e3).at λo q=>Hd _ q,λ_=>True.intro,λy hy=>absurd rfl hy⟩
theorem vU(hb:attributeBase e f env (eval e env)=eval e env)
  (h:wpAny (model prog w) A (eval e env) (λo s₁=>wpAny (model prog w) A (getAttr o f true) Q E s₁) E s):wpAny (model prog w) A (eval (.Attribute e f pos) env) Q E s:=
 Attribute_any_ h (by rw[arm_eval_Attribute,hb])
end
noncomputable def Fi(K:Iz)(ta tv:TE)(f:Str):TS:=λD σ H=>tv σ H λy H1=>ta σ H1 λx H2=>∃a C dx fs,x=.ref a/\H2 a=some (.ins C dx fs)/\Cls K C/\NoAttr K C f/\fs.length<1000/\
 D.nx σ (upd H2 a (.ins C dx (dP f y fs)))
section
variable {X:Cx}{o:Expr}{pos:Pos}
theorem zV(ha:PE X o ta)(hv:PE X value tv)(hs:swapsWith value (some (.Attribute o f pos')) pos.line X.env=pure false):PS X (.Assign [.Attribute o f pos'] value pos) (Fi X.K ta tv f):=by
 intro pins s σ H D I h;refine plainObj_wpAny_Assign_Attribute (thn (hv pins s σ H _ I h) λu s1 ⟨y,H1,I1,ry,q⟩=>thn (ha pins s1 σ H1 _ I1 q) λov s2 ⟨x,H2,I2,rx,a,C,dx,fs,ex,ea,c,n,l,q2⟩=>?_) hs
 subst ex;obtain rfl:ov=Value.ref a:=rx;exact pA I2 ea c n l ry λs3 I3=>⟨σ,_,I3,q2⟩
end
section
variable {X:Cx}{s:Shared}{A:Around}{c:Value}{b:Bool}
end
structure Room (k:Nat)(A:Around):Prop where
 hd:A.handled=none
 dp:A.depth+3*k+5<recursionLimit
 un:A.units+16*k+200<cLine
theorem Room.mono(r:Room k A)(h:j<=k):Room j A:=⟨r.hd,by have:=r.dp;omega,by have:=r.un;omega⟩
theorem Room.deeper{A:Around}(r:Room (k+1) A)(env:Env):Room k (A.deeper env):=
 ⟨r.hd,by have:=r.dp;show A.depth+1+3*k+5<_;omega,by have:=r.un;show A.units+3+16*k+200<_;omega⟩
theorem pF{A:Around}:(A.under (.builtin "type.__call__" ⟨.ref C::us,kw⟩)).depth=A.depth+1:=by
 first|rfl|simp[Around.under,Code.weight,Code.isCreation,Code.isGuard,Code.isCaller,Code.frames,Code.isFrame,guardIds]
theorem pC{A:Around}:(A.under (.builtin "type.__call__" ⟨.ref C::us,kw⟩)).units=A.units+1:=by
 first|rfl|simp[Around.under,Code.cUnits,Code.frames,Code.isFrame]
theorem Room.make{A:Around}(r:Room (k+1) A)(C:Addr)(us:List Value)(kw:List (Str×Value)):Room k (A.under (.builtin "type.__call__" ⟨.ref C::us,kw⟩)):=
 ⟨r.hd,by have:=r.dp;rw[pF];omega,by have:=r.un;rw[pC];omega⟩
theorem Room.depth{A:Around}(r:Room k A):A.depth<recursionLimit:=by have:=r.dp;omega
theorem Room.units{A:Around}(r:Room k A):A.units+64<cLine:=by have:=r.un;omega
noncomputable def tNil:TA:=λ_ H Q=>Q [] H
noncomputable def Bz(ta:TE)(tr:TA):TA:=λσ H Q=>ta σ H λx H1=>tr σ H1 λxs H2=>Q (x::xs) H2
section
variable {X:Cx}{pos:Pos}
theorem pa_nil:PA X [] tNil:=λ_ _ _ _ H Q I h=>Calls.spliced_nil ⟨[],H,I,.nil,h⟩
theorem aI(ha:PE X e te)(hr:PA X es t)(hs:starEach (e::es) X.env=(false,eval e X.env)::starEach es X.env:=by rfl):PA X (e::es) (Bz te t):=by
 intro pos pins s σ H Q I h;rw[hs];show wpAny _ _ (spliced ((false,eval e X.env)::backTo pos (starEach es X.env))) _ _ s;refine Calls.spliced_cons (thn (ha pins s σ H _ I h) λu s1 ⟨x,H1,I1,r1,q1⟩=>?_)
 exact thn (hr pos pins s1 σ H1 _ I1 q1) λus s2 ⟨xs,H2,I2,r2,q2⟩=>⟨x::xs,H2,I2,.cons r1 r2,q2⟩
noncomputable def EM(t:TA):TE:=λσ H Q=>t σ H λxs H1=>xs.length<=sizeLine/\∀p,H1 p=none->Q (.ref p) (upd H1 p (.tup xs))
noncomputable def E5(t:TA):TE:=λσ H Q=>t σ H λxs H1=>xs.length<=sizeLine/\∀p,H1 p=none->Q (.ref p) (upd H1 p (.lst xs))
theorem zx{x1}(h:PA X es t):PE X (.Tuple es x1 pos) (EM t):=by
 intro pins s σ H Q I hq;refine wpAny_Tuple_spliced (thn (h pos pins s σ H _ I hq) λus s1 ⟨xs,H1,I1,r,z,q⟩=>⟨by rw[<-r.length];exact z,?_⟩)
 have hf:H1 s1.heap.objs.size=none:=I1.hok.fresh (Hh _);refine⟨.ref s1.heap.objs.size,upd H1 s1.heap.objs.size (.tup xs),I1.laid (t':=s1.toks) (λb u e=>Hd _ e) (Hh _) ?_,rfl,q _ hf⟩
 exact⟨z,us,r,⟨_,Hn _ rfl,rfl,_,rfl⟩⟩
theorem yl(h:PA X es t):PE X (.List es pos) (E5 t):=by
 intro pins s σ H Q I hq;refine wpAny_List_spliced (thn (h pos pins s σ H _ I hq) λus s1 ⟨xs,H1,I1,r,z,q⟩=>⟨by rw[<-r.length];exact z,?_⟩)
 have hf:H1 s1.heap.objs.size=none:=I1.hok.fresh (Hh _);refine⟨.ref s1.heap.objs.size,upd H1 s1.heap.objs.size (.lst xs),I1.laid (t':=s1.toks) (λb u e=>Hd _ e) (Hh _) ?_,rfl,q _ hf⟩
 exact⟨z,us,0,r,Hn _ rfl⟩
end
noncomputable abbrev Sp:=List V->Hp->VK->XK->Prop
noncomputable abbrev CXT:=List Env->Hp->Shared->XK->Value->Shared->Prop
structure Env0 (P:Program)(w:World)(K:Iz)(mg:Str->Option Value)(base:Heap)(A:Around)(outer:List Env)(s:Shared)(H:Hp):Prop where
 frames:A.frames=some outer
 mod:Mod K mg base
 bs:∀b o,base.get? b=some o->s.heap.get? b=some o/\H b=none
 bsz:base.objs.size<=s.heap.objs.size
 funs:s.heap.FunFrames base outer
 frf:∀b∈frs outer,H b=none
 hok:HOk P w H s.heap
 bare:AllBare s.gens
def CE(outer:List Env)(P:Program)(w:World)(H:Hp)(s:Shared)(Q:VK)(u:Value)(s':Shared):Prop:=
 ∃v H',s'.os=s.os/\AllBare s'.gens/\Un (frs outer) [] H H' s.heap s'.heap/\HOk P w H' s'.heap/\RelV v u/\Q v H'
def CR(CX:CXT)(outer:List Env)(P:Program)(w:World)(H:Hp)(s:Shared)(Q:VK)(E:XK)(r:Result)(s':Shared):Prop:=
 match r with
 |.ok (.ret u)=>CE outer P w H s Q u s'
 |.ok _=>False
 |.error e=>CX outer H s E e s'
structure FnOk (P:Program)(w:World)(K:Iz)(mg:Str->Option Value)(base:Heap)(CX:CXT)(k:Nat)(f:Addr)(fd:FuncData)(ps:List Str)(sp:Sp):Prop where
 len:∀vs H Q E,sp vs H Q E->vs.length=ps.length
 run:∀(A:Around)(outer:List Env)(s:Shared)(H:Hp)(args:Args)(us:List Value)(vs:List V)(Q:VK)(E:XK),Room k A->Env0 P w K mg base A outer s H->BindsTo s fd args (ps.zip us)->Vals vs us->sp vs H Q E->
  codeAny (model P w) A (.call (.ref f) args) (CR CX outer P w H s Q E) s
theorem Env0.make{K:Iz}{A:Around}(e:Env0 P w K mg base A outer s H)(C:Addr)(us:List Value)(kw:List (Str×Value)) :
  Env0 P w K mg base (A.under (.builtin "type.__call__" ⟨.ref C::us,kw⟩)) outer s H:=⟨by first|exact e.frames|(simpa [Around.under,Code.envs,Code.isFrame,pushEnvs] using e.frames),e.mod,e.bs,e.bsz,e.funs,e.frf,e.hok,e.bare⟩
section
variable {X:Cx}{s:Shared}
theorem Inv.env0(I:Inv X pins σ H s):Env0 X.prog X.w X.K X.mg X.base X.A X.stack s H:=
 ⟨I.ok.frames,I.ok.mod,I.bs,Hw I.ok.bsz I.sz,I.stack,I.stkFree,I.hok,I.bare⟩
theorem Inv.after(I:Inv X pins σ H s)(h:CE X.stack X.prog X.w H s Q u s'):EP X pins σ Q u s':=by
 obtain⟨v,H',os,bare,un,hok,r,q⟩:=h;obtain⟨hh,g,d,t,os'⟩:=s';obtain rfl:os'=s.os:=os;exact⟨v,H',I.call (h':=hh) (g':=g) (d':=d) (t':=t) (ch:=[]) un hok bare (λb z=>absurd z (by simp)),r,q⟩
end
def Binds(K:Iz)(fd:FuncData)(ps:List Str)(ds:List Value):Prop:=
 ∀(s:Shared)(us:List Value),K.In s.heap->(us++ds).length=ps.length->BindsTo s fd ⟨us,[]⟩ (ps.zip (us++ds))
theorem Binds.all{K:Iz}{ps:List Str}(h:∀us:List Value,us.length=ps.length->bindArgs fd ⟨us,[]⟩=pure (ps.zip us)):Binds K fd ps []:=λs us _ hl=>by
 rw[Ia]at hl ⊢;exact .of_eq (h us hl)
def Ab(CX:CXT)(X:Cx)(E:XK):Prop:=∀(pins:List (Addr×Obj)) (σ:St)(H:Hp)(s:Shared)(e:Value)(s':Shared),Inv X pins σ H s->CX X.stack H s E e s'->X.xe e s'
section
variable {X:Cx}{k:Nat}{ps:List Str}{x:Str}{p pos apos:Pos}{o:Expr}
structure Mk (K:Iz)(C f:Addr):Prop where
 makes:PySem.W.makesIn K C=true
 init:PySem.W.findIn K (.ref C) "__init__"=some (some (.ref f))
 fn:PySem.W.isFn K (.ref f)=true
 kp:PySem.W.keepIn K (.ref C)=true
end
section
variable {X:Cx}{k:Nat}{ps ks:List Str}{x:Str}{p pos apos:Pos}{o:Expr}
end
structure FnScope (N P:List Str)(sc:Scope):Prop where
 kind:sc.kind=.function
 co:sc.isCoroutine=false
 gen:sc.isGenerator=false
 nd:N.Nodup
 pre:N.take P.length=P
 par:∀x∈P,sc.names.lookup x=some .local\/sc.names.lookup x=some .cell
 nofree:∀y∈sc.names,y.2≠.free
theorem lx{kindOf:Str->Option NameKind}{x:Str}:∀{binds:List (Str×Value)}{m:Str->Option Value},(∀v,(x,v)∉binds)->bindL kindOf binds m x=m x
 |[],_,_=>rfl
 |(n,v)::r,m,h=>by
  unfold bindL;rw[lx λw hw=>h w (Hb _ hw)]
  split
  ·have:x≠n:=by rintro rfl;exact h v Hf
   simp[this]
  ·rfl
theorem ly{kindOf:Str->Option NameKind}{x:Str}:∀{binds:List (Str×Value)}{m:Str->Option Value},(∀v,(x,v)∉binds)->bindC kindOf binds m x=m x
 |[],_,_=>rfl
 |(n,v)::r,m,h=>by
  unfold bindC;rw[ly λw hw=>h w (Hb _ hw)]
  split
  ·rfl
  ·have:x≠n:=by rintro rfl;exact h v Hf
   simp[this]
theorem lE{kindOf:Str->Option NameKind}{x:Str}{v:Value}:∀{P:List Str}{vs:List Value}{i:Nat}{m:Str->Option Value},P.Nodup->P[i]?=some x->vs[i]?=some v->kindOf x=some .local->
  bindL kindOf (P.zip vs) m x=some v
 |[],_,_,_,_,h,_,_=>by simp at h
 |_::_,[],_,_,_,_,h,_=>by simp at h
 |p::P,w::vs,0,m,nd,h1,h2,hk=>by
  simp at h1 h2;subst h1;subst h2;show bindL kindOf ((p,w)::P.zip vs) m p=_;unfold bindL;rw[lx λv hv=>(HF.mp nd).1 (List.of_mem_zip hv).1,Hg hk]
  simp
 |p::P,w::vs,i+1,m,nd,h1,h2,hk=>by
  show bindL kindOf ((p,w)::P.zip vs) m x=_;unfold bindL;exact lE (i:=i) (HF.mp nd).2 (by simpa using h1) (by simpa using h2) hk
theorem lC{kindOf:Str->Option NameKind}{x:Str}{v:Value}:∀{P:List Str}{vs:List Value}{i:Nat}{m:Str->Option Value},P.Nodup->P[i]?=some x->vs[i]?=some v->kindOf x≠some .local->
  bindC kindOf (P.zip vs) m x=some v
 |[],_,_,_,_,h,_,_=>by simp at h
 |_::_,[],_,_,_,_,h,_=>by simp at h
 |p::P,w::vs,0,m,nd,h1,h2,hk=>by
  simp at h1 h2;subst h1;subst h2;show bindC kindOf ((p,w)::P.zip vs) m p=_;unfold bindC;rw[ly λv hv=>(HF.mp nd).1 (List.of_mem_zip hv).1,Hc hk]
  simp
 |p::P,w::vs,i+1,m,nd,h1,h2,hk=>by
  show bindC kindOf ((p,w)::P.zip vs) m x=_;unfold bindC;exact lC (i:=i) (HF.mp nd).2 (by simpa using h1) (by simpa using h2) hk
noncomputable def start(N:List Str)(vs:List V):St:=vs.map some++List.replicate (N.length-vs.length) none
noncomputable def cJ(CX:CXT)(P:Program)(w:World)(K:Iz)(mg:Str->Option Value)(base:Heap)(N:List Str)(qual:Str)(scope:Scope)(f:Addr)(cd:Value)(A:Around)(outer:List Env)(s:Shared)(H:Hp)(E:XK):Cx where
 prog:=P
 w:=w
 K:=K
 mg:=mg
 base:=base
 A:=A.deeper (envOfC qual scope s.heap.objs.size f cd)
 N:=N
 s₀:=s
 H₀:=H
 env:=envOfC qual scope s.heap.objs.size f cd
 outer:=outer
 stack:=envOfC qual scope s.heap.objs.size f cd::outer
 ex:=[]
 calm:=true
 fn:=λ_=>true
 pn:=[]
 xe:=λe s'=>wpAny (model P w) (A.deeper (envOfC qual scope s.heap.objs.size f cd)) (leaving (envOfC qual scope s.heap.objs.size f cd) e) (λ_ s''=>CX outer H s E e s'') (λe' s''=>CX outer H s E e' s'') s'
theorem mM{sc:Scope}(h:sc.names.lookup x=some .cell):∃c,(cellsFrom n sc.names []).lookup x=some c:=by
 have q:=PySem.W.cellsFrom_some sc.names n [] (.inl h);exact Iv.mp q
theorem rD{K:Iz}{ps:List Str}{scope:Scope}{A:Around}{s:Shared}{vs:List V}
  (S:FnScope N ps scope) (hd:A.handled=none) (e0:Env0 P w K mg base A outer s H) (hl:vs.length=ps.length) (r:Vals vs us)
  (x:InCallC s s.heap.objs.size (bindL (envOfC qual scope s.heap.objs.size f cd).kindOf (ps.zip us) λ_=>none) (cellsFrom (s.heap.objs.size+1) scope.names []) (bindC (envOfC qual scope s.heap.objs.size f cd).kindOf (ps.zip us) λ_=>none) s1) :
  Inv (cJ CX P w K mg base N qual scope f cd A outer s H E) [] (start N vs) H s1:=by
 have hpl:ps.length<=N.length:=by have:=congrArg List.length S.pre;rw[List.length_take]at this;omega
 obtain⟨h1,tk,rfl,hk⟩:=x.done;have noA:∀b:Addr,b∉(cJ CX P w K mg base N qual scope f cd A outer s H E).ex:=λb z=>absurd (show b∈([]:List Addr) from z) (by simp)
 refine⟨⟨e0.mod,S.kind,rfl,rfl,Hh _,λy z c h1 h2=>?_,λy hy=>?_,λy c _ h=>?_,λ_=>hd,Around.frames_deeper e0.frames,.inr ⟨rfl,rfl⟩,λb z=>absurd z (noA b),e0.bs,e0.bsz,λb _ _=>noA b,λb z=>absurd z (noA b),e0.funs,e0.frf⟩,
  rfl,e0.bare,Un.kept hk,⟨_,x.toInCall.ns,λi y v h1 h2 h3=>?_⟩,λy c h=>⟨_,x.cell y c h⟩,e0.hok.fresh (Hh _),λy c h=>?_,λp hp=>absurd (show p∈([]:List (Addr×Obj)) from hp) (by simp),e0.hok.kept hk,?_⟩
 ·exact name_of_addr x.apart (PySem.mem_of_lookup h1) (PySem.mem_of_lookup h2)
 ·have hy:scope.names.lookup y=some .cell\/scope.names.lookup y=some .free:=hy;rcases hy with hy|hy
  ·exact mM hy
  ·exact absurd rfl (S.nofree _ (PySem.mem_of_lookup hy))
 ·exact Nat.le_of_lt (x.above y c (PySem.mem_of_lookup h))
 ·have hi:i<vs.length:=by
   unfold start at h2;by_cases hi:i<vs.length
   ·exact hi
   ·rw[List.getElem?_append_right (by simpa using hi)]at h2
    rw[List.getElem?_replicate]at h2;split at h2<;>cases h2
  have ha:vs[i]?=some v:=by
   unfold start at h2;rw[List.getElem?_append_left (by simpa using hi),HB]at h2
   cases e:vs[i]? with
   |none=>rw[e]at h2;cases h2
   |some a=>rw[e]at h2;cases h2;rfl
  obtain⟨u,hu,rv⟩:=r.get ha;have hp:ps[i]?=some y:=by
   rw[<-S.pre,List.getElem?_take_of_lt (by omega)];exact h1
  have ndP:ps.Nodup:=by rw[<-S.pre];exact S.nd.sublist (List.take_sublist _ _)
  refine⟨u,rv,?_⟩;rcases S.par y (HL hp) with k|k
  ·exact .inl ⟨k,lE ndP hp hu k⟩
  ·obtain⟨c,e⟩:=mM (n:=s.heap.objs.size+1) k;refine .inr ⟨.inl k,c,e,?_⟩;have q:=x.cell y c e;rw[lC ndP hp hu (by show scope.names.lookup y≠_;rw[k];decide)]at q
   exact q
 ·exact e0.hok.fresh (Nat.le_of_lt (x.above y c (PySem.mem_of_lookup h)))
 ·unfold start;show _=N.length;rw[HJ,Hm,List.length_replicate];omega
theorem uS{CX:CXT}{P:Program}{w:World}{K:Iz}{mg:Str->Option Value}{base:Heap}{k:Nat}{f:Addr}{name qual:Str}{params:Arguments}{body:List Stmt}{scope:Scope}{dV kV doc pm cdv ct oc:Value}{an od:Option Addr}
  {osl:Array (Option Value)}{N ps:List Str}{sp:Sp} (lk:K.lookup f=some ⟨oc,od,.func (PySem.W.fnOf name qual params body scope dV kV doc pm an cdv ct),osl⟩) (hcd:PySem.W.codeIn K cdv qual=true) (S:FnScope N ps scope)
  (len:∀vs H Q E,sp vs H Q E->vs.length=ps.length)
  (hbody:∀(A:Around)(outer:List Env)(s:Shared)(H:Hp)(vs:List V)(Q:VK)(E:XK),Room k (A.deeper (envOfC qual scope s.heap.objs.size f cdv))->sp vs H Q E->
   ∃t,PSs (cJ CX P w K mg base N qual scope f cdv A outer s H E) body t/\t {nx:=λ_ H'=>Q .non H',rt:=Q} (start N vs) H) :
  FnOk P w K mg base CX (k+1) f (PySem.W.fnOf name qual params body scope dV kV doc pm an cdv ct) ps sp:=by
 refine⟨len,λA outer s H args us vs Q E hr e0 hb r hsp=>?_⟩
 have hl:=len _ _ _ _ hsp;have KX:K.In s.heap:=e0.mod.kin.keeps λb o e=>(e0.bs b o e).1
 have lim:s.heap.NoLimit:=e0.mod.nolimit.keeps λb o e=>(e0.bs b o e).1
 have hkind:∀y∈ps.zip us,scope.names.lookup y.1=some .local\/(scope.names.lookup y.1=some .cell/\((cellsFrom (s.heap.objs.size+1) scope.names []).lookup y.1).isSome=true):=λ⟨n,v⟩ hy=>by
  rcases S.par n (List.of_mem_zip hy).1 with q|q
  ·exact .inl q
  ·exact .inr ⟨q,PySem.W.cellsFrom_some _ _ _ (.inl q)⟩
 refine codeAny_call_function hr.depth (KX _ _ lk) rfl S.co S.gen rfl (PySem.W.codeRec_of KX hcd) (hb _ _ _ _ ?_);refine wpAny_newFunctionEnv_cells S.kind hkind λenv he s1 x=>?_
 subst he;refine⟨lim.keeps x.toInCall.keep,codeAny_func ?_⟩;obtain⟨t,ht,hq⟩:=hbody A outer s H vs Q E (hr.deeper _) hsp;have I:Inv (cJ CX P w K mg base N qual scope f cdv A outer s H E) [] (start N vs) H s1:=rD S hr.hd e0 hl r x;refine Ig (ht [] s1 (start N vs) H _ I hq) (λfl s' hs=>?_) λe s' hs=>hs
 have fin:∀{σ':St}{H':Hp}{v:V}{u:Value},Inv (cJ CX P w K mg base N qual scope f cdv A outer s H E) [] σ' H' s'->RelV v u->Q v H'->CE outer P w H s Q u s':=
  λ{σ' H' v u} J rv q=>⟨v,H',J.os,J.bare,J.base,J.hok,rv,q⟩
 cases fl with
 |ret u=>
  obtain⟨v,σ',H',J,rv,q⟩:=hs;exact fin J rv q
 |next=>
  obtain⟨σ',H',J,q⟩:=hs;exact fin (v:=V.non) (u:=Value.none) J rfl q
 |brk=>
  obtain⟨_,_,_,q⟩:=hs;exact False.elim q
 |cont=>
  obtain⟨_,_,_,q⟩:=hs;exact False.elim q
section
variable {X:Cx}{x:Str}{p pos:Pos}{id:String}
noncomputable def tCB(r:List V->Hp->VK->Prop)(t:TA):TE:=λσ H Q=>t σ H λvs H1=>r vs H1 Q
theorem gL(hc:CallR X (.builtin id) r)(hg:Gl X x)(hm:X.mg x=none)(hv:bootBuiltins x=some (.builtin id))(ha:PA X (e::es) t)(hn:x≠"__name__":=by decide)(hdb:(x == ("__debug__" : Str))=false:=by decide)
  (he:starEach (e::es) X.env=(false,eval e X.env)::starEach es X.env:=by rfl) (hpl:(backTo pos (starEach es X.env)).any (·.1)=false:=by rfl):PE X (.Call (.Name x p) (e::es) [] pos) (tCB r t):=by
 intro pins s σ H Q I h;refine wpAny_Call_Name_kw (eh I hg hm hv ?_ hn hdb);exact PyProof.Rows.callWith_builtin1 (thn (ha pos pins s σ H _ I h) λus s1 ⟨vs,H1,I1,r1,q1⟩=>hc pins s1 σ H1 vs us Q I1 r1 q1) he hpl
theorem rE(hc:CallR X (.type T) r)(hg:Gl X x)(hm:X.mg x=none)(hv:bootBuiltins x=some (.type T))(ha:PA X (e::es) t)(hn:x≠"__name__":=by decide)(hdb:(x == ("__debug__" : Str))=false:=by decide)
  (he:starEach (e::es) X.env=(false,eval e X.env)::starEach es X.env:=by rfl) (hpl:(backTo pos (starEach es X.env)).any (·.1)=false:=by rfl):PE X (.Call (.Name x p) (e::es) [] pos) (tCB r t):=by
 intro pins s σ H Q I h;refine wpAny_Call_Name_kw (eh I hg hm hv ?_ hn hdb);exact PyProof.Rows.callWith_type1 (thn (ha pos pins s σ H _ I h) λus s1 ⟨vs,H1,I1,r1,q1⟩=>hc pins s1 σ H1 vs us Q I1 r1 q1) he hpl
end
section
variable [DecidableEq κ]
noncomputable def eB(kvs:List (κ×V))(k:κ):Option V:=(kvs.find? λkv=>decide (kv.1=k)).map (·.2)
noncomputable def fq(kvs:List (κ×V))(k:κ)(v:V):List (κ×V):=
 if (kvs.any λkv=>decide (kv.1=k))=true then kvs.map (λkv=>if kv.1=k then (kv.1,v) else kv) else kvs++[(k,v)]
theorem eU{p:κ×V}(e:p.1=k):eB (p::r) k=some p.2:=by simp[eB,Id,e]
theorem dG{p:κ×V}(e:¬ p.1=k):eB (p::r) k=eB r k:=by simp[eB,Id,e]
theorem nt(k:κ):∀kvs:List (κ×V),(kvs.any λkv=>decide (kv.1=k))=(eB kvs k).isSome
 |[]=>rfl
 |p::r=>by
  rw[List.any_cons];by_cases e:p.1=k
  ·simp only[eU e,decide_eq_true e,Bool.true_or,Option.isSome_some]
  ·rw[dG e,HN e,Bool.false_or];exact nt k r
theorem iR(kvs:List (κ×V))(k:κ)(v:V):(fq kvs k v).length<=kvs.length+1:=by
 unfold fq;split
 ·rw[Hm];omega
 ·rw[HJ,HA,List.length_nil];omega
theorem RelO.isSome_eq{o:Option V}{u:Option Value}(r:RelO o u):o.isSome=u.isSome:=by
 cases o with
 |none=>cases u with
  |none=>rfl
  |some _=>exact (show False from r).elim
 |some _=>cases u with
  |none=>exact (show False from r).elim
  |some _=>rfl
theorem RelO.getD{o:Option V}{u:Option Value}(r:RelO o u)(rd:RelV d d'):RelV (o.getD d) (u.getD d'):=by
 cases o with
 |none=>cases u with
  |none=>exact rd
  |some _=>exact (show False from r).elim
 |some _=>cases u with
  |none=>exact (show False from r).elim
  |some _=>exact r
theorem KV.val(r:KV kvs vs)(k:κ):RelO (eB kvs k) (valueAt vs k):=by
 unfold KV at r
 induction r with
 |nil=>exact True.intro
 |@cons p q ps qs h t ih=>
  obtain⟨h1,h2⟩:=h;by_cases e:p.1=k
  ·have e':q.1=k:=h1.symm.trans e;have b:valueAt (q::qs) k=some q.2:=by simp[valueAt,Id,e']
   rw[eU e,b];exact h2
  ·have e':¬ q.1=k:=λz=>e (h1.trans z)
   have b:valueAt (q::qs) k=valueAt qs k:=by simp[valueAt,Id,e']
   rw[dG e,b];exact ih
theorem KV.any{kvs:List (κ×V)}{vs:List (κ×Value)}(r:KV kvs vs)(k:κ):(kvs.any λkv=>decide (kv.1=k))=vs.any λkv=>decide (kv.1=k):=by
 unfold KV at r
 induction r with
 |nil=>rfl
 |cons h t ih=>rw[List.any_cons,List.any_cons,ih,h.1]
theorem KV.repl{kvs:List (κ×V)}{vs:List (κ×Value)}(r:KV kvs vs)(k:κ)(ry:RelV y u) :
  KV (kvs.map λkv=>if kv.1=k then (kv.1,y) else kv) (vs.map λkv=>if kv.1=k then (kv.1,u) else kv):=by
 unfold KV at r ⊢
 induction r with
 |nil=>exact .nil
 |@cons p q ps qs h t ih=>
  rw[Hl,Hl];refine .cons ?_ ih;obtain⟨h1,h2⟩:=h;by_cases e:p.1=k
  ·rw[Hg e,Hg (h1.symm.trans e)];exact⟨h1,ry⟩
  ·rw[Hc e,Hc (λz=>e (h1.trans z))];exact⟨h1,h2⟩
theorem KV.put(r:KV kvs vs)(k:κ)(ry:RelV y u):KV (fq kvs k y) (stored vs k u):=by
 unfold fq stored;rw[r.any k];by_cases e:(vs.any λkv=>decide (kv.1=k))=true
 ·rw[Hg e,Hg e];exact r.repl k ry
 ·rw[Hc e,Hc e];exact Paired.snoc r ⟨rfl,ry⟩
theorem KV.keys{kvs:List (κ×V)}{vs:List (κ×Value)}(r:KV kvs vs):kvs.map (·.1)=vs.map (·.1):=by
 unfold KV at r
 induction r with
 |nil=>rfl
 |cons h t ih=>rw[Hl,Hl,ih,h.1]
theorem KV.length{kvs:List (κ×V)}{vs:List (κ×Value)}(r:KV kvs vs):kvs.length=vs.length:=Paired.length r
end
theorem jO(r:RelV (kV k) u):(aB P w).is k u=true:=by
 cases k with
 |inl i=>obtain⟨t,e⟩:=(show ∃t,u=Value.int i t from r);subst e;exact mW P w i t
 |inr x=>obtain⟨t,e⟩:=(show ∃t,u=Value.str x t from r);subst e;exact m9 P w x t
theorem kX:∀{ks:List Key}{us:List Value},Vals (ks.map kV) us->ItemsAre (aB P w) ks us
 |[],_,r=>by rw[List.map_nil]at r;cases r;exact .nil
 |k::ks,_,r=>by
  rw[Hl]at r;cases r with
  |cons h t=>exact .cons (jO h) (kX t)
abbrev KT(H:Hp):List (List Key×V)->List (List Key×Addr×Value)->Prop:=Paired λp q=>p.1=q.1/\H q.2.1=some (.tup (p.1.map kV))/\RelV p.2 q.2.2
theorem KT.val(r:KT H kvs xs)(k:List Key):RelO (eB kvs k) ((atKey xs k).map (·.2)):=by
 induction r with
 |nil=>exact True.intro
 |@cons p q ps qs h t ih=>
  obtain⟨h1,_,h2⟩:=h;by_cases e:p.1=k
  ·have e':q.1=k:=h1.symm.trans e;have b:atKey (q::qs) k=some q.2:=by simp[atKey,Id,e']
   rw[eU e,b];exact h2
  ·have e':¬ q.1=k:=λz=>e (h1.trans z)
   have b:atKey (q::qs) k=atKey qs k:=by simp[atKey,Id,e']
   rw[dG e,b];exact ih
theorem KT.repl{kvs:List (List Key×V)}{xs:List (List Key×Addr×Value)}(r:KT H kvs xs)(k:List Key)(ry:RelV y u) :
  KT H (kvs.map λkv=>if kv.1=k then (kv.1,y) else kv) (xs.map (putAt k u)):=by
 induction r with
 |nil=>exact .nil
 |@cons p q ps qs h t ih=>
  rw[Hl,Hl];refine .cons ?_ ih;obtain⟨h1,h2,h3⟩:=h;unfold putAt;by_cases e:p.1=k
  ·rw[Hg e,Hg (h1.symm.trans e)];exact⟨h1,h2,ry⟩
  ·rw[Hc e,Hc (λz=>e (h1.trans z))];exact⟨h1,h2,h3⟩
theorem KT.put(r:KT H kvs xs)(k:List Key)(hb:H b=some (.tup (k.map kV)))(ry:RelV y u) :
  KT H (fq kvs k y) (storedH xs k b u):=by
 have e:(kvs.any λkv=>decide (kv.1=k))=(atKey xs k).isSome:=by
  rw[nt,(r.val k).isSome_eq,Option.isSome_map]
 unfold fq storedH;rw[e];by_cases q:(atKey xs k).isSome=true
 ·rw[Hg q,Hg q];exact r.repl k ry
 ·rw[Hc q,Hc q];exact Paired.snoc r ⟨rfl,hb,ry⟩
theorem KT.keeps(r:KT H kvs xs)(ht:∀b ys,H b=some (.tup ys)->H' b=some (.tup ys)):KT H' kvs xs:=
 Paired.mapP r λ_ _ z=>⟨z.1,ht _ _ z.2.1,z.2.2⟩
section
variable {w:World}{h:Heap}{a:Addr}
theorem xC(ok:HOk P w H h)(e:Rd H a u):ObjOk P w H h a u:=e.ok ok
theorem iS{kvs:List (Key×V)}(ok:HOk P w H h)(e:Rd H a (.dK kvs)):kvs.length<=sizeLine/\(a == sysModules)=false/\∃vs,KV kvs vs/\h.DictOf (aB P w) a vs:=
 show ObjOk P w H h a (.dK kvs) from xC ok e
theorem xT{kvs:List (Key×V)}(ok:HOk P w H h)(e:H a=some (.dK kvs)):kvs.length<=sizeLine/\(a == sysModules)=false/\∃vs,KV kvs vs/\h.DictOf (aB P w) a vs:=iS ok (.inl e)
theorem gj{ks:List Key}(ok:HOk P w H h)(e:H a=some (.tup (ks.map kV))):(tupleKind (aB P w)).is h ks a:=by
 obtain⟨_,its,r,o,h1,h2,n,h3⟩:=(show ObjOk P w H h a (.tup (ks.map kV)) from ok a _ e);exact⟨o,its.toArray,n,h1,h2,h3,by simpa using kX r⟩
theorem lp{kvs:List (List Key×V)}(ok:HOk P w H h)(e:Rd H a (.dT kvs)):kvs.length<=sizeLine/\(a == sysModules)=false/\
  ∃xs,KT H kvs xs/\h.DictOfH (tupleKind (aB P w)) a xs:=by
 obtain⟨z,y,xs,r,o,es,ep,h1,h2,h3,h4,h5⟩:=(show ObjOk P w H h a (.dT kvs) from xC ok e);refine⟨z,y,xs,r,o,es,ep,h1,h2,h3,h4,λx hx=>?_,h5⟩
 have all:∀{l:List (List Key×V)}{m:List (List Key×Addr×Value)},KT H l m->∀x∈m,(tupleKind (aB P w)).is h x.1 x.2.1:=by
  intro l m q
  induction q with
  |nil=>intro x hx;exact nomatch hx
  |@cons p q ps qs hq t ih=>
   intro x hx;rcases Hj.mp hx with e|hx
   ·subst e;exact gj ok (by rw[<-hq.1];exact hq.2.1)
   ·exact ih x hx
 exact all r x hx
theorem CB{kvs:List (List Key×V)}(ok:HOk P w H h)(e:H a=some (.dT kvs)):kvs.length<=sizeLine/\(a == sysModules)=false/\
  ∃xs,KT H kvs xs/\h.DictOfH (tupleKind (aB P w)) a xs:=lp ok (.inl e)
end
def DGet(H:Hp)(a:Addr)(y:V)(r:Option V):Prop:=
 (∃kvs k,Rd H a (.dK kvs)/\y=kV k/\r=eB kvs k)\/∃kvs k b,Rd H a (.dT kvs)/\y=.ref b/\H b=some (.tup (k.map kV))/\r=eB kvs k
def DPut(H:Hp)(a:Addr)(y v:V)(H':Hp):Prop:=
 (∃kvs k,H a=some (.dK kvs)/\y=kV k/\kvs.length<sizeLine/\H'=upd H a (.dK (fq kvs k v)))\/
 ∃kvs k b,H a=some (.dT kvs)/\y=.ref b/\H b=some (.tup (k.map kV))/\kvs.length<sizeLine/\H'=upd H a (.dT (fq kvs k v))
section
variable {X:Cx}{s:Shared}{a:Addr}{y:V}{o:Option V}{A:Around}
theorem rq(hu:A.units+1<cLine)(I:Inv X pins σ H s)(g:DGet H a y (some v))(ry:RelV y u)(h:∀w' s',Inv X pins σ H s'->RelV v w'->Q w' s') :
  wpAny (model X.prog X.w) A (getItem (.ref a) u) Q E s:=by
 rcases g with ⟨kvs,k,e,ey,l⟩|⟨kvs,k,b,e,ey,eb,l⟩
 ·subst ey;obtain⟨z,hd,vs,rel,dd⟩:=iS I.hok e;obtain⟨w',hw,rw'⟩:=RelO.some_of (v:=v) (o:=valueAt vs k) (by rw[l];exact rel.val k)
  exact wpAny_getItem_of (jO ry) dd.mapOf hw (h w' _ (I.tok _) rw')
 ·subst ey;cases (show u=Value.ref b from ry);obtain⟨z,hd,xs,rel,dd⟩:=lp I.hok e;obtain⟨w',hw,rw'⟩:=RelO.some_of (v:=v) (o:=(atKey xs k).map (·.2)) (by rw[l];exact rel.val k)
  obtain⟨p,hp,hp2⟩:=Option.map_eq_some_iff.mp hw;refine wpAny_getItem_heap (HQ hu) (gj I.hok eb) dd hp ?_;rw[hp2];exact h w' _ (I.tok _) rw'
theorem EX(hu:A.units+1<cLine)(I:Inv X pins σ H s)(g:DGet H a y o)(ry:RelV y u)(h:∀s',Inv X pins σ H s'->Q (.bool o.isSome) s') :
  wpAny (model X.prog X.w) A (compareOp .In u (.ref a)) Q E s:=by
 rcases g with ⟨kvs,k,e,ey,l⟩|⟨kvs,k,b,e,ey,eb,l⟩
 ·subst ey;obtain⟨z,hd,vs,rel,dd⟩:=iS I.hok e;refine wpAny_in_of (jO ry) hd dd.mapOf ?_;rw[<-(rel.val k).isSome_eq,<-l];exact h _ (I.tok _)
 ·subst ey;cases (show u=Value.ref b from ry);obtain⟨z,hd,xs,rel,dd⟩:=lp I.hok e;refine wpAny_in_heap (HQ hu) (gj I.hok eb) hd dd ?_;have q:=(rel.val k).isSome_eq;rw[Option.isSome_map]at q;rw[<-q,<-l];exact h _ (I.tok _)
theorem vj(hu:A.units+1<cLine)(I:Inv X pins σ H s)(g:DGet H a y o)(ry:RelV y u)(h:∀s',Inv X pins σ H s'->Q (.bool (!o.isSome)) s') :
  wpAny (model X.prog X.w) A (compareOp .NotIn u (.ref a)) Q E s:=by
 rcases g with ⟨kvs,k,e,ey,l⟩|⟨kvs,k,b,e,ey,eb,l⟩
 ·subst ey;obtain⟨z,hd,vs,rel,dd⟩:=iS I.hok e;refine wpAny_notIn_of (jO ry) hd dd.mapOf ?_;rw[<-(rel.val k).isSome_eq,<-l];exact h _ (I.tok _)
 ·subst ey;cases (show u=Value.ref b from ry);obtain⟨z,hd,xs,rel,dd⟩:=lp I.hok e;refine wpAny_notIn_heap (HQ hu) (gj I.hok eb) hd dd ?_;have q:=(rel.val k).isSome_eq;rw[Option.isSome_map]at q;rw[<-q,<-l];exact h _ (I.tok _)
theorem i9{h':Heap}(I:Inv X pins σ H s)(mu:Mut (H a))(hs:Heap.SameBut a s.heap h')(he:∃q,h'.get? a=some q)(new:ObjOk X.prog X.w (upd H a ob) h' a ob) :
  Inv X pins σ (upd H a ob) {s with heap:=h',toks:=t'}:=
 I.write (x:=a) (e:=a) mu (.inl rfl) (λb q hb z=>(hs.2 b hb).trans z) he new
theorem AJ{h':Heap}{kvs:List (Key×V)}(z:kvs.length<=sizeLine)(hd:(a == sysModules)=false)(rel:KV kvs vs)(dd:h'.DictOf (aB P w) a vs) :
  ObjOk P w H' h' a (.dK kvs):=⟨z,hd,vs,rel,dd⟩
theorem rP(hu:A.units+1<cLine)(I:Inv X pins σ H s)(g:DPut H a y v H')(ry:RelV y u)(rv:RelV v r)(h:∀s',Inv X pins σ H' s'->Q () s') :
  wpAny (model X.prog X.w) A (setItem (.ref a) u r) Q E s:=by
 rcases g with ⟨kvs,k,e,ey,l,eH⟩|⟨kvs,k,b,e,ey,eb,l,eH⟩
 ·subst ey eH;obtain⟨z,hd,vs,rel,dd⟩:=xT I.hok e;have hz:vs.length<=sizeLine:=by rw[<-rel.length];exact z
  have hl:(fq kvs k v).length<=sizeLine:=by have:=iR kvs k v;omega
  refine wpAny_setItem_pairs (hsz:=hz) (jO ry) dd λh' dd' hs=>h _ ?_
  have he:∃q,h'.get? a=some q:=let ⟨q,_,_,hq,_⟩:=dd';⟨q,hq⟩
  exact i9 I (by rw[e];exact True.intro) hs he (AJ hl hd (rel.put k rv) dd')
 ·subst ey eH;cases (show u=Value.ref b from ry);obtain⟨z,hd,xs,rel,dd⟩:=CB I.hok e;have hz:xs.length<=sizeLine:=by rw[<-Paired.length rel];exact z
  have hl:(fq kvs k v).length<=sizeLine:=by have:=iR kvs k v;omega
  refine wpAny_setItem_heap (hsz:=hz) (HQ hu) (gj I.hok eb) dd λh' dd' hs=>h _ ?_
  obtain⟨q,es,ep,hq,h2,h3,h4,_,h5⟩:=dd';refine i9 I (by rw[e];exact True.intro) hs ⟨q,hq⟩ ⟨hl,hd,_,(rel.put k eb rv).keeps λc ys ec=>?_,q,es,ep,hq,h2,h3,h4,h5⟩
  rw[ae (dQ ec e (λz=>nomatch z))]
  exact ec
end
section
variable {X:Cx}{s:Shared}{a:Addr}{kvs:List (Key×V)}{A:Around}
end
section
variable {X:Cx}{o:Expr}{pos:Pos}
end
section
variable {X:Cx}
end
structure M1 (X:Cx)(o:Expr)(m:Str)(apos:Pos)(e:Expr)(cpos:Pos):Prop where
 base:attributeBase o m X.env (eval o X.env)=eval o X.env
 few:((backTo cpos (starEach [e] X.env)).all (λx=>!x.1)&&(backToKw cpos (keywordEach [] X.env)).all (λx=>x.1.isSome)
  &&decide (([e]:List Expr).length+([]:List Keyword).length+(if ([]:List Keyword).isEmpty then 0 else 1)<30))=true
 line:(apos.endLine == cpos.line)=true
 trees:backTo cpos (starEach [e] X.env)=[(false,eval e X.env)]
structure M2 (X:Cx)(o:Expr)(m:Str)(apos:Pos)(e f:Expr)(cpos:Pos):Prop where
 base:attributeBase o m X.env (eval o X.env)=eval o X.env
 few:((backTo cpos (starEach [e,f] X.env)).all (λx=>!x.1)&&(backToKw cpos (keywordEach [] X.env)).all (λx=>x.1.isSome)
  &&decide (([e,f]:List Expr).length+([]:List Keyword).length+(if ([]:List Keyword).isEmpty then 0 else 1)<30))=true
 line:(apos.endLine == cpos.line)=true
 trees:backTo cpos (starEach [e,f] X.env)=[(false,eval e X.env),(false,eval f X.env)]
section
variable {X:Cx}{s:Shared}{a:Addr}{y d:V}{o:Option V}{A:Around}
theorem Aa(hu:A.units+1<cLine)(I:Inv X pins σ H s)(g:DGet H a y o)(ry:RelV y u)(h:∀w' s',Inv X pins σ H s'->RelV (o.getD .non) w'->Q w' s') :
  wpAny (model X.prog X.w) A (call (.builtin "dict.get") [.ref a,u]) Q E s:=by
 rcases g with ⟨kvs,k,e,ey,l⟩|⟨kvs,k,b,e,ey,eb,l⟩
 ·subst ey;obtain⟨z,hd,vs,rel,dd⟩:=iS I.hok e;refine call_meetsIn PySem.F.slot_dict_get dd.typeIs PySem.F.entry_dict_get (PySem.F.args_dict_get_2 _ _) (meets_dict_get (aB X.prog X.w) a (jO ry) hd) ⟨_,dd.mapOf,h _ _ (I.tok _) ?_⟩;rw[l];exact (rel.val k).getD rfl
 ·subst ey;cases (show u=Value.ref b from ry);obtain⟨z,hd,xs,rel,dd⟩:=lp I.hok e;refine call_meetsIn PySem.F.slot_dict_get dd.typeIs PySem.F.entry_dict_get (PySem.F.args_dict_get_2 _ _) (meetsH_dict_get (tupleKind (aB X.prog X.w)) a b hd) ⟨HQ hu,k,xs,gj I.hok eb,dd,h _ _ (I.tok _) ?_⟩;rw[l];exact (rel.val k).getD rfl
theorem zX(hu:A.units+1<cLine)(I:Inv X pins σ H s)(g:DGet H a y o)(ry:RelV y u)(rd:RelV d r)(h:∀w' s',Inv X pins σ H s'->RelV (o.getD d) w'->Q w' s') :
  wpAny (model X.prog X.w) A (call (.builtin "dict.get") [.ref a,u,r]) Q E s:=by
 rcases g with ⟨kvs,k,e,ey,l⟩|⟨kvs,k,b,e,ey,eb,l⟩
 ·subst ey;obtain⟨z,hd,vs,rel,dd⟩:=iS I.hok e;refine call_meetsIn PySem.F.slot_dict_get dd.typeIs PySem.F.entry_dict_get (PySem.F.args_dict_get_3 _ _ _) (meets_dict_get_default (aB X.prog X.w) a (jO ry) hd r) ⟨_,dd.mapOf,h _ _ (I.tok _) ?_⟩;rw[l];exact (rel.val k).getD rd
 ·subst ey;cases (show u=Value.ref b from ry);obtain⟨z,hd,xs,rel,dd⟩:=lp I.hok e;refine call_meetsIn PySem.F.slot_dict_get dd.typeIs PySem.F.entry_dict_get (PySem.F.args_dict_get_3 _ _ _) (meetsH_dict_get_default (tupleKind (aB X.prog X.w)) a b hd r) ⟨HQ hu,k,xs,gj I.hok eb,dd,h _ _ (I.tok _) ?_⟩;rw[l];exact (rel.val k).getD rd
end
section
variable {X:Cx}{o:Expr}
end
section
variable {X:Cx}{s:Shared}{a:Addr}{kvs:List (Key×V)}{A:Around}
end
section
variable {X:Cx}{s:Shared}{a:Addr}{y:V}{A:Around}
end
end L2
namespace HT
open PySem PyProof.Rows
section
open PySem.SeqAt
open PySem.AutoSeq1 (wpAny_loadPart')
open PySem.MeetsSeq PySem.MeetsSeq2 PySem.MeetsSeq3
end
section
variable {w:World}{A:Around}{s:Shared}
theorem cat_tup{vs ws:List Value}(ht:IsTup s.heap t vs.toArray)(hb:IsTup s.heap b ws.toArray)(hv:vs≠[])
  (h1:ws=[]->Q (.ref t) s) (h2:ws≠[]->Q (.ref s.heap.objs.size) {s with heap:=s.heap.push {cls:=.type "tuple",data:=.seq (vs++ws).toArray}})
  (hsz:vs.length+ws.length<=sizeLine):wpAny (model prog w) A (binaryOp .Add (.ref t) (.ref b)) Q E s:=by
 obtain⟨⟨cls,dd,data,sl⟩,ho,hc,n,hd⟩:=id ht;obtain⟨⟨cls2,dd2,data2,sl2⟩,ho2,hc2,n2,hd2⟩:=id hb;simp only at hc hd hc2 hd2;subst hc hd hc2 hd2;have e:vs.toArray++ws.toArray=(vs++ws).toArray:=by simp
 by_cases hw:ws=[]
 ·exact concat_meets ⟨_,ho,rfl⟩ ⟨_,ho2,rfl⟩ noFill_tuple_add seq_tuple_add PySem.F.slot_tuple_add PySem.F.entry_tuple_add (PySem.F.args_tuple_add_2 _ _)
   (tuple_addW1 t b vs.toArray ws.toArray n n2 dd dd2 sl sl2 (by simpa using hv) (by simp[hw])) ⟨ho,ho2,h1 hw⟩
 ·refine concat_meets ⟨_,ho,rfl⟩ ⟨_,ho2,rfl⟩ noFill_tuple_add seq_tuple_add PySem.F.slot_tuple_add PySem.F.entry_tuple_add (PySem.F.args_tuple_add_2 _ _)
   (tuple_addW2 t b vs.toArray ws.toArray n n2 dd dd2 sl sl2 (by simpa using hv) (by simpa using hw) (by rw[List.size_toArray,List.size_toArray];exact hsz)) ⟨ho,ho2,?_⟩
  rw[e];exact h2 hw
noncomputable def sIx(n d:Nat):Option Int->Nat
 |none=>d
 |some v=>if v<0 then (v+(n:Int)).toNat else min v.toNat n
theorem yz(n d:Nat)(hd:d<=n)(o:Option Int):sIx n d o<=n:=by
 cases o with
 |none=>exact hd
 |some v=>
  show (if v<0 then (v+(n:Int)).toNat else min v.toNat n)<=n
  by_cases hv:v<0
  ·rw[if_pos hv];omega
  ·rw[if_neg hv];exact Nat.min_le_right _ _
theorem qf(v:Int)(n d:Nat):(if v<0 then max (v+(n:Int)) 0 else min v (n:Int))=((sIx n d (some v):Nat):Int):=by
 show (if v<0 then max (v+(n:Int)) 0 else min v (n:Int))=(((if v<0 then (v+(n:Int)).toNat else min v.toNat n):Nat):Int)
 by_cases hv:v<0
 ·simp only[if_pos hv];omega
 ·simp only[if_neg hv];omega
theorem ph(lo hi:Option Int)(n:Nat):Builtin.Slice.sliceAdjust lo hi 1 (n:Int)=(((sIx n 0 lo:Nat):Int),((sIx n n hi:Nat):Int)):=by
 have h1:¬ ((1:Int)<0):=by omega
 unfold Builtin.Slice.sliceAdjust;simp only[h1,if_false];refine Prod.ext ?_ ?_
 ·cases lo with
  |none=>rfl
  |some v=>exact qf v n 0
 ·cases hi with
  |none=>rfl
  |some v=>exact qf v n n
theorem pe(i j:Nat):Builtin.Slice.slicePlaces (i:Int) (j:Int) 1=j-i:=by
 unfold Builtin.Slice.slicePlaces;have h1:(1:Int) > 0:=by omega
 simp only[h1,if_true,Int.ediv_one];split<;>omega
theorem jx(p:IsPart v o)(h:Q o s):wpAny (model prog w) A (Builtin.Slice.slicePartIndex v) Q E s:=by
 cases p with
 |none=>exact slicePart_none h
 |int i t=>exact slicePart_int h
theorem iB{sl:Addr}{vl vu:Value}{lo hi:Option Int}{n:Nat}{Q:Int×Int×Nat->Shared->Prop}(hs:s.heap.IsSliceOf sl vl vu .none)(pl:IsPart vl lo)(pu:IsPart vu hi)
  (h:Q (((sIx n 0 lo:Nat):Int),1,sIx n n hi-sIx n 0 lo) s):wpAny (model prog w) A (Builtin.Slice.sliceApplied (.ref sl) (pure (n:Int))) Q E s:=by
 obtain⟨os,hos,hcs,hds⟩:=id hs;unfold Builtin.Slice.sliceApplied Builtin.Slice.sliceFields;refine wpAny_bind (wpAny_bind (wpAny_field hos hds (x:=vl) rfl (wpAny_bind (wpAny_field hos hds (x:=vu) rfl (wpAny_bind (wpAny_field hos hds (x:=.none) rfl (wpAny_pure ?_)))))));refine wpAny_bind (slicePart_none ?_);show wpAny _ _ (if ((1:Int) == 0)=true then _ else _) _ _ s
 rw[if_neg (by decide)]
 refine wpAny_bind (jx pl (wpAny_bind (jx pu (wpAny_bind (wpAny_pure ?_)))));show wpAny _ _ (match Builtin.Slice.sliceAdjust lo hi 1 (n:Int) with|(lo,hi)=>pure (lo,(1:Int),Builtin.Slice.slicePlaces lo hi 1)) _ _ s
 rw[ph lo hi n];show wpAny _ _ (pure (((sIx n 0 lo:Nat):Int),(1:Int),Builtin.Slice.slicePlaces ((sIx n 0 lo:Nat):Int) ((sIx n n hi:Nat):Int) 1)) _ _ s;rw[pe];exact wpAny_pure h
theorem uv(xs:Array Value)(i k:Nat):((List.range k).filterMap λ(m:Nat)=>xs[((i:Int)+(m:Int)*1).toNat]?).toArray=((xs.toList.drop i).take k).toArray:=by
 have e:(λ(m:Nat)=>xs[((i:Int)+(m:Int)*1).toNat]?)=λm=>xs[i+m]?:=by
  funext m;have:((i:Int)+(m:Int)*1).toNat=i+m:=by omega
  rw[this]
 rw[e];have:=pick_run xs i k;rw[List.filterMap_map]at this;have e2:((λx=>xs[x]?)∘λx=>i+x)=λm=>xs[i+m]?:=rfl
 rw[e2]at this;rw[this]
theorem getItem_tuple_cut{items:Array Value}{lo:Option Int}(ht:IsTup s.heap t items)(hs:s.heap.IsSliceOf sl vl vu .none)(pl:IsPart vl lo)(pu:IsPart vu hi)
  (hw:¬ (sIx items.size 0 lo=0/\sIx items.size items.size hi=items.size))
  (h:Q (.ref s.heap.objs.size) {s with heap:=s.heap.push {cls:=.type "tuple",data:=.seq ((items.toList.drop (sIx items.size 0 lo)).take (sIx items.size items.size hi-sIx items.size 0 lo)).toArray}})
  (hsz:items.size<=sizeLine):wpAny (model prog w) A (getItem (.ref t) (.ref sl)) Q E s:=by
 have htake:sizeOk (.seq ((items.toList.drop (sIx items.size 0 lo)).take (sIx items.size items.size hi-sIx items.size 0 lo)).toArray):=by
  show ((items.toList.drop (sIx items.size 0 lo)).take (sIx items.size items.size hi-sIx items.size 0 lo)).toArray.size<=sizeLine;rw[List.size_toArray,List.length_take,List.length_drop,Array.length_toList];omega
 have hj:sIx items.size items.size hi<=items.size:=yz _ _ (Nat.le_refl _) hi;obtain⟨os,hos,hcs,hds⟩:=id hs;have hTs:s.TypeIs (.ref sl) "slice":=⟨os,hos,hcs⟩;unfold getItem
 try with_reducible refine wpAny_holding ?_
 first|refine wpAny_bind (wpAny_pure ?_)|skip
 refine wpAny_bind (wpAny_sequenceKey ht.typeIs (by decide) ?_)
 refine wpAny_bind (wpAny_callSpecial?_slot (name:=Str.ofString "__getitem__") ht.typeIs PyProof.Rows.slot_tuple_getitem
  (wpAny_call_entry PyProof.Rows.slot_tuple_getitem ht.typeIs entry_tuple_getitem ?_ (args_tuple_getitem _ _)))
 show wpAny _ _ (Builtin.Tuple.tupleItemsOf (.ref t) >>=_) _ _ s;refine wpAny_bind (tupleItemsOf_ ht ?_);refine wpAny_bind (wpAny_typeOf hTs ?_);rw[if_pos (by decide)]
 refine wpAny_bind (iB hs pl pu ?_);have hno:¬ ((((sIx items.size 0 lo:Nat):Int) == 0&&(1:Int) == 1&&(sIx items.size items.size hi-sIx items.size 0 lo) == items.size)=true):=by
  intro q;rw[Bool.and_eq_true,Bool.and_eq_true]at q;have q1:((sIx items.size 0 lo:Nat):Int)=0:=eq_of_beq q.1.1;have q2:sIx items.size items.size hi-sIx items.size 0 lo=items.size:=eq_of_beq q.2;exact hw ⟨by omega,by omega⟩
 show wpAny _ _ (if (((sIx items.size 0 lo:Nat):Int) == 0&&(1:Int) == 1&&(sIx items.size items.size hi-sIx items.size 0 lo) == items.size)=true then _ else _) _ _ s
 rw[if_neg hno,uv]
 first
  |exact wpAny_bind (m:=Builtin.Tuple.tupleExact _) (wpAny_newObj_type (wpAny_pure ⟨_,rfl,wpAny_pure h⟩) htake)
  |exact wpAny_bind (m:=Builtin.Tuple.tupleExact _) (wpAny_newObj_type (wpAny_bind (wpAny_pure (wpAny_pure ⟨_,rfl,wpAny_pure h⟩))) htake)
  |exact wpAny_bind (wpAny_bind (m:=Builtin.Tuple.tupleExact _) (wpAny_newObj_type (wpAny_pure (wpAny_pure ⟨_,rfl,wpAny_pure h⟩)) htake))
  |exact wpAny_bind (wpAny_bind (m:=Builtin.Tuple.tupleExact _) (wpAny_newObj_type (wpAny_pure ⟨_,rfl,wpAny_pure h⟩) htake))
end
end HT
namespace L2
open PySem PySem.Spec PyProof.Rows
noncomputable abbrev TO:=St->Hp->(Option Int->Hp->Prop)->Prop
def PO(X:Cx)(e:Option Expr)(t:TO):Prop:=
 ∀(pins:List (Addr×Obj)) (s:Shared)(σ:St)(H:Hp)(Q:Option Int->Hp->Prop),Inv X pins σ H s->t σ H Q->
  wpAny (model X.prog X.w) X.A (evalPart e X.env) (λu s'=>∃o H',Inv X pins σ H' s'/\IsPart u o/\Q o H') X.xe s
noncomputable def tNoPart:TO:=λ_ H Q=>Q none H
noncomputable def BA(t:TE):TO:=λσ H Q=>t σ H λx H1=>∃i,x=.int i/\Q (some i) H1
section
variable {X:Cx}{lo:Option Expr}
theorem po_none:PO X none tNoPart:=by
 intro pins s σ H Q I h;rw[evalPart_none];exact Ha ⟨none,H,I,.none,h⟩
theorem wB(h:PE X e te):PO X (some e) (BA te):=by
 intro pins s σ H Q I hw;rw[evalPart_some];refine thn (h pins s σ H _ I hw) λu s1 ⟨x,H1,I1,r1,q1⟩=>?_
 obtain⟨i,rfl,q⟩:=q1;obtain⟨t,rfl⟩:=r1;exact⟨some i,H1,I1,.int i t,q⟩
def SlR(X:Cx)(r:V->Option Int->Option Int->Hp->VK->Prop):Prop:=
 ∀(pins:List (Addr×Obj)) (s:Shared)(σ:St)(H:Hp)(x:V)(v vl vu:Value)(lo hi:Option Int)(sl:Addr)(Q:VK),Inv X pins σ H s->RelV x v->s.heap.IsSliceOf sl vl vu .none->IsPart vl lo->IsPart vu hi->r x lo hi H Q->
  ∃T id,typeLookup (.type T) "__getitem__"=pure (some (.builtin id))/\s.TypeIs v T/\wpAny (model X.prog X.w) X.A (getItem v (.ref sl)) (EP X pins σ Q) X.xe s
noncomputable def tSl(r:V->Option Int->Option Int->Hp->VK->Prop)(te:TE)(tl th:TO):TE:=λσ H Q=>te σ H λx H1=>tl σ H1 λl H2=>th σ H2 λu H3=>r x l u H3 Q
theorem uD(hr:SlR X r)(he:PE X e te)(hl:PO X lo tl)(hu:PO X hi th):PE X (.Subscript e (.Slice lo hi none p2) pos) (tSl r te tl th):=by
 intro pins s σ H Q I h;refine Subscript_ (thn (he pins s σ H _ I h) λv s1 ⟨x,H1,I1,r1,q1⟩=>?_)
 refine wpAny_Slice (thn (hl pins s1 σ H1 _ I1 q1) λvl s2 ⟨l,H2,I2,pl,q2⟩=>thn (hu pins s2 σ H2 _ I2 q2) λvu s3 ⟨u,H3,I3,pu,q3⟩=>?_)
 rw[evalPart_none];refine Ha ?_;have I4:Inv X pins σ H3 {s3 with heap:=s3.heap.push {cls:=.type "slice",data:=.fields #[vl,vu,.none]}}:=I3.kept (t':=s3.toks) λb ob q=>Hd _ q
 obtain⟨T,id,hT,ht,hg⟩:=hr pins {s3 with heap:=s3.heap.push {cls:=.type "slice",data:=.fields #[vl,vu,.none]}} σ H3 x v vl vu l u s3.heap.objs.size Q I4 r1 (Heap.IsSliceOf.new ..) pl pu q3
 show wpAny (model X.prog X.w) X.A (subscriptTail e (.Slice lo hi none p2) v (.ref s3.heap.objs.size)) (EP X pins σ Q) X.xe {s3 with heap:=s3.heap.push {cls:=.type "slice",data:=.fields #[vl,vu,.none]}}
 exact tail_any (ops:=[.ref s3.heap.objs.size,v]) ht hT hg (by with_unfolding_all rfl)
noncomputable def oI(xs:List V)(lo hi:Option Int):List V:=(xs.drop (HT.sIx xs.length 0 lo)).take (HT.sIx xs.length xs.length hi-HT.sIx xs.length 0 lo)
theorem iO(xs:List V)(lo hi:Option Int):(oI xs lo hi).length<=xs.length:=by
 unfold oI;rw[List.length_take,List.length_drop];omega
def Fy(K:Iz):V->Option Int->Option Int->Hp->VK->Prop:=λx lo hi H Q=>∃a xs,x=.ref a/\SqT K H a xs/\
 ¬ (HT.sIx xs.length 0 lo=0/\HT.sIx xs.length xs.length hi=xs.length)/\∀p,H p=none->Q (.ref p) (upd H p (.tup (oI xs lo hi)))
theorem yJ:SlR X (Fy X.K):=by
 intro pins s σ H x v vl vu lo hi sl Q I rx hs pl pu h;obtain⟨a,xs,rfl,hx,hw,q⟩:=h;cases rx;obtain⟨its,r,ht,hz⟩:=I.tuple hx;have hlen:its.toArray.size=xs.length:=by rw[Hu];exact r.length.symm
 refine⟨"tuple",_,PyProof.Rows.slot_tuple_getitem.lookup,ht.typeIs,?_⟩;refine HT.getItem_tuple_cut ht hs pl pu (by rw[hlen];exact hw) ?_ (by rw[hlen];exact hz)
 rw[hlen];refine⟨.ref s.heap.objs.size,_,I.laid (t':=s.toks) (o:=.tup (oI xs lo hi)) (λb ob q=>Hd _ q) (Hh _) ?_,rfl,q _ (I.hok.fresh (Hh _))⟩
 exact⟨Hw (iO xs lo hi) hz,_,(r.drop (HT.sIx xs.length 0 lo)).take (HT.sIx xs.length xs.length hi-HT.sIx xs.length 0 lo),IsTup.new _ _⟩
def BY(K:Iz):R2:=λx y H Q=>∃a b xs ys,x=.ref a/\y=.ref b/\SqT K H a xs/\SqT K H b ys/\xs≠[]/\xs.length+ys.length<=sizeLine/\
 (ys=[]->Q (.ref a) H)/\(ys≠[]->∀p,H p=none->Q (.ref p) (upd H p (.tup (xs++ys))))
theorem Vals.nil_iff(r:Vals xs us):us=[]<->xs=[]:=by
 cases r with
 |nil=>simp
 |cons _ _=>simp
theorem vF:OpR X (binaryOp .Add) (BY X.K):=by
 intro pins s σ H x y v u Q I rx ry h;obtain⟨a,b,xs,ys,rfl,rfl,ha,hb,hx,hz,q1,q2⟩:=h;cases rx;cases ry;obtain⟨its,r1,p1,_⟩:=I.tuple ha;obtain⟨its2,r2,p2,_⟩:=I.tuple hb;refine HT.cat_tup p1 p2 (λz=>hx (r1.nil_iff.mp z)) (λz=>⟨.ref a,H,I,rfl,q1 (r2.nil_iff.mp z)⟩) (λz=>?_) (by rw[<-r1.length,<-r2.length];exact hz)
 refine⟨.ref s.heap.objs.size,_,I.laid (t':=s.toks) (o:=.tup (xs++ys)) (λb ob q=>Hd _ q) (Hh _) ?_,rfl,q2 (λw=>z (r2.nil_iff.mpr w)) _ (I.hok.fresh (Hh _))⟩
 exact⟨by rw[HJ];exact hz,_,r1.append r2,IsTup.new _ _⟩
end
noncomputable def ixN(n:Nat)(i:Int):Option Nat:=if 0<=i then (if i<n then some i.toNat else none) else if -(n:Int)<=i then some (i+n).toNat else none
noncomputable def atI(xs:List α)(i:Int):Option α:=(ixN xs.length i).bind λj=>xs[j]?
theorem qk(h:ixN n i=some j):seqIndex? i n=some j/\j<n/\-(n:Int)<=i/\i<n:=by
 unfold ixN at h;by_cases h0:0<=i
 ·rw[Hg h0]at h;by_cases h1:i<n
  ·rw[Hg h1]at h;have e:i.toNat=j:=Hv h;exact⟨by rw[seqIndex_of h0 h1,e],by omega,by omega,h1⟩
  ·rw[Hc h1]at h;cases h
 ·rw[Hc h0]at h;by_cases h1 : -(n:Int)<=i
  ·rw[Hg h1]at h;have e:(i+n).toNat=j:=Hv h;exact⟨by rw[seqIndex_neg (by omega) h1,e],by omega,h1,by omega⟩
  ·rw[Hc h1]at h;cases h
theorem l5{xs:List α}(h:atI xs i=some v):∃j,seqIndex? i xs.length=some j/\xs[j]?=some v/\j<xs.length/\-(xs.length:Int)<=i/\i<xs.length:=by
 unfold atI at h;cases e:ixN xs.length i with
 |none=>rw[e]at h;cases h
 |some j=>
  rw[e]at h;obtain⟨h1,h2,h3,h4⟩:=qk e;exact⟨j,h1,h,h2,h3,h4⟩
theorem cf{α:Type}{xs:List α}{j:Nat}{v:α}(h:xs[j]?=some v):atI xs (j:Int)=some v:=by
 have hj:j<xs.length:=(Hr.mp h).1;have e:ixN xs.length (j:Int)=some j:=by
  unfold ixN;rw[Hg (by omega),Hg (by omega)];simp
 unfold atI;rw[e];exact h
def md(b:Expr):Prop:=∀o i,subscripted b false o i=operate [o,i] (getItem o i)
def IxR(X:Cx)(r:R2):Prop:=
 ∀(value slice:Expr) (pins:List (Addr×Obj)) (s:Shared)(σ:St)(H:Hp)(x y:V)(v u:Value)(Q:VK),Inv X pins σ H s->RelV x v->RelV y u->r x y H Q->
  subscripted slice false v u=operate [v,u] (getItem v u)->wpAny (model X.prog X.w) X.A (subscriptTail value slice v u) (EP X pins σ Q) X.xe s
def MtR(X:Cx)(id:String)(r:V->List V->Hp->VK->Prop):Prop:=
 ∀(pins:List (Addr×Obj)) (s:Shared)(σ:St)(H:Hp)(x:V)(xs:List V)(v:Value)(us:List Value)(Q:VK),Inv X pins σ H s->RelV x v->Vals xs us->r x xs H Q->
  wpAny (model X.prog X.w) X.A (call (.builtin id) (v::us)) (EP X pins σ Q) X.xe s
section
variable {X:Cx}{a:Expr}
theorem IxR.or(h:IxR X r)(h':IxR X r'):IxR X (λx y H Q=>r x y H Q\/r' x y H Q):=by
 intro value slice pins s σ H x y v u Q I rx ry q hs;rcases q with q|q
 ·exact h value slice pins s σ H x y v u Q I rx ry q hs
 ·exact h' value slice pins s σ H x y v u Q I rx ry q hs
theorem Dc(hr:IxR X r)(ha:PE X a ta)(hb:PE X b tb)(hs:md b):PE X (.Subscript a b pos) (tOp r ta tb):=by
 intro pins s σ H Q I h;exact Subscript_ (AR ha hb I h λv u s2 x y H2 I2 rx ry q=>hr a b pins s2 σ H2 x y v u Q I2 rx ry q (hs _ _))
def BU(K:Iz):R2:=λx y H Q=>∃p xs i v,x=.ref p/\y=.int i/\SqL K H p xs/\atI xs i=some v/\Q v H
def C3(K:Iz):R2:=λx y H Q=>∃p xs i v,x=.ref p/\y=.int i/\SqT K H p xs/\atI xs i=some v/\Q v H
def rIxS:R2:=λx y H Q=>∃z i c,x=.str z/\y=.int i/\z.length<=sizeLine/\atI z.cps.toList i=some c/\Q (.str ⟨#[c]⟩) H
theorem ix_list:IxR X (BU X.K):=by
 intro value slice pins s σ H x y v u Q I rx ry h hs;obtain⟨p,xs,i,z,rfl,rfl,hq,he,q⟩:=h;cases rx;obtain⟨t,rfl⟩:=ry;obtain⟨its,r,pl,hz⟩:=I.list hq;obtain⟨j,h1,h2,h3,h4,h5⟩:=l5 he;obtain⟨w,ew,rw'⟩:=r.get h2;have hl:=r.length;have hn:=hW;have fin:EP X pins σ Q w s:=⟨z,H,I,rw',q⟩;by_cases h0:0<=i
 ·have hj:i.toNat=j:=by
   rw[seqIndex_of h0 h5]at h1;exact Hv h1
  exact item_listR pl.isList h0 (by omega) (by rw[hj];simpa using ew) fin hs
 ·have hj:(i+(its.toArray.size:Int)).toNat=j:=by
   rw[seqIndex_neg (by omega) h4]at h1
   rw[Hu,<-hl];exact Hv h1
  exact subscriptTail_builtinR (x:=w) pl.isList.typeIs slot_list_getitem.lookup
   (wpAny_getItem_list_neg (Q:=λr s'=>r=w/\EP X pins σ Q r s') pl.isList (by omega) (by rw[Hu]<;>omega) (by omega) (by rw[hj];simpa using ew) ⟨rfl,fin⟩) hs
theorem ix_tup:IxR X (C3 X.K):=by
 intro value slice pins s σ H x y v u Q I rx ry h hs;obtain⟨p,xs,i,z,rfl,rfl,hq,he,q⟩:=h;cases rx;obtain⟨t,rfl⟩:=ry;obtain⟨its,r,pl,hz⟩:=I.tuple hq;obtain⟨j,h1,h2,h3,h4,h5⟩:=l5 he;obtain⟨w,ew,rw'⟩:=r.get h2;have hl:=r.length;have hn:=hW;have fin:EP X pins σ Q w s:=⟨z,H,I,rw',q⟩;exact subscriptTail_builtinR (x:=w) pl.typeIs slot_tuple_getitem.lookup
  (getItem_tuple (j:=j) (Q:=λr s'=>r=w/\EP X pins σ Q r s') pl (by omega) (by omega) (by rw[Hu,<-hl];exact h1) (by simpa using ew) ⟨rfl,fin⟩) hs
theorem Aw:IxR X rIxS:=by
 intro value slice pins s σ H x y v u Q I rx ry h hs;obtain⟨z,i,c,rfl,rfl,hz,he,q⟩:=h;obtain⟨t,rfl⟩:=rx;obtain⟨t',rfl⟩:=ry;obtain⟨j,h1,h2,h3,h4,h5⟩:=l5 he;have hl:z.cps.toList.length=z.length:=by simp[Str.length]
 rw[hl]at h1 h4 h5;have hn:=hW;exact tail_any (typeIs_str s z t) slot_str_getitem.lookup (getItem_str (c:=c) (by
  have e1:decide (i < -(2 ^ 63:Int))=false:=HN (by omega)
  have e2:decide (i>=2 ^ 63)=false:=HN (by omega)
  rw[e1,e2,Bool.or_false]) (by rw[h1];simpa using h2) ⟨.str ⟨#[c]⟩,H,I.tok _,⟨_,rfl⟩,q⟩) hs
def rIx(K:Iz):R2:=λx y H Q=>BU K x y H Q\/C3 K x y H Q\/rIxS x y H Q
theorem ye:IxR X (rIx X.K):=ix_list.or (ix_tup.or Aw)
theorem o9(its:List Value)(n j:Nat)(u:Value):Obj.mapSeq (·.setIfInBounds j u) {cls:=.type "list",data:=.seq its.toArray n}={cls:=.type "list",data:=.seq (its.set j u).toArray n}:=by
 simp[Obj.mapSeq]
theorem Inv.lst{s:Shared}(I:Inv X pins σ H s)(h:H p=some (.lst xs)) :
  ∃(its:List Value) (n:Nat),Vals xs its/\s.heap.get? p=some {cls:=.type "list",data:=.seq its.toArray n}/\xs.length<=sizeLine:=by
 obtain⟨z,its,n,r,e⟩:=I.hok p _ h;exact⟨its,n,r,e,z⟩
theorem Inv.lstUpd{pins:List (Addr×Obj)}{σ:St}{H:Hp}{s:Shared}{p:Addr}{xs ys:List V}{its its':List Value}{n n':Nat}{f:Obj->Obj}(I:Inv X pins σ H s)(h:H p=some (.lst xs))
  (ho:s.heap.get? p=some {cls:=.type "list",data:=.seq its.toArray n}) (hf:f {cls:=.type "list",data:=.seq its.toArray n}={cls:=.type "list",data:=.seq its'.toArray n'}) (r:Vals ys its') (hz:ys.length<=sizeLine) (t:Nat) :
  Inv X pins σ (upd H p (.lst ys)) {s with heap:=s.heap.update p f,toks:=t}:=by
 have e:(s.heap.update p f).get? p=some {cls:=.type "list",data:=.seq its'.toArray n'}:=by
  rw[HH f ho (by rw[hf]<;>rfl),hf]
 refine I.write (x:=p) (e:=p) (by rw[h];trivial) (.inl rfl) (λb u hb q=>(HM _ _ (He hb)).trans q) ⟨_,e⟩ ?_
 exact⟨hz,its',n',r,e⟩
def rSetL:V->V->V->Hp->(Hp->Prop)->Prop:=λo i v H Q=>∃p xs k j,o=.ref p/\i=.int k/\H p=some (.lst xs)/\ixN xs.length k=some j/\Q (upd H p (.lst (xs.set j v)))
theorem uB:zT X rSetL:=by
 intro pins s σ H o i v ov iv u Q I ro ri rv h;obtain⟨p,xs,k,j,rfl,rfl,hp,hj,q⟩:=h;cases ro;obtain⟨t,rfl⟩:=ri;obtain⟨its,n,r,ho,hz⟩:=I.lst hp;obtain⟨h1,h2,h3,h4⟩:=qk hj;have hl:=r.length;have hn:=hW;have I':Inv X pins σ (upd H p (.lst (xs.set j v))) {s with heap:=s.heap.update p (Obj.mapSeq (·.setIfInBounds j u))}:=
  I.lstUpd hp ho (o9 its n j u) (r.set rv j) (by rw[List.length_set];exact hz) s.toks
 by_cases h0:0<=k
 ·have hk:k.toNat=j:=by
   rw[seqIndex_of h0 h4]at h1;exact Hv h1
  exact PySem.W.ki_setAt ho h0 (by omega) (by rw[Hu,<-hl];exact h4) (by rw[hk];exact⟨_,I',q⟩)
 ·have hk:(k+(its.toArray.size:Int)).toNat=j:=by
   rw[seqIndex_neg (by omega) h3]at h1
   rw[Hu,<-hl];exact Hv h1
  exact PySem.W.ki_setBack ho (by omega) (by rw[Hu,<-hl];exact h3) (by omega) (by rw[hk];exact⟨_,I',q⟩)
theorem ml(lo hi:Option Int)(n:Nat):(sliceBounds lo hi none n).1=((HT.sIx n 0 lo:Nat):Int)/\(sliceBounds lo hi none n).2.1=((HT.sIx n n hi:Nat):Int)/\(sliceBounds lo hi none n).2.2=1:=by
 refine⟨?_,?_,rfl⟩
 ·cases lo with
  |none=>simp[sliceBounds,HT.sIx]
  |some i=>
   simp only[sliceBounds,HT.sIx,Option.getD_none,show (1:Int) > 0 by decide,if_true]
   by_cases h:i<0
   ·simp only[h,if_true]<;>omega
   ·simp only[h,if_false]<;>omega
 ·cases hi with
  |none=>simp[sliceBounds,HT.sIx]
  |some i=>
   simp only[sliceBounds,HT.sIx,Option.getD_none,show (1:Int) > 0 by decide,if_true]
   by_cases h:i<0
   ·simp only[h,if_true]<;>omega
   ·simp only[h,if_false]<;>omega
theorem kK(its:List Value)(lo hi:Option Int):slicePick its.toArray lo hi none=((its.drop (HT.sIx its.length 0 lo)).take (HT.sIx its.length its.length hi-HT.sIx its.length 0 lo)).toArray:=by
 obtain⟨h1,h2,h3⟩:=ml lo hi its.toArray.size;unfold slicePick;rw[h1,h2,h3];simp only[sliceRange_one,pick_run,Hu]<;>rfl
theorem lT:CallR X (.builtin "len") (λxs H Q=>∃p ys,xs=[.ref p]/\(SqL X.K H p ys\/SqT X.K H p ys)/\Q (.int ys.length) H):=by
 intro pins s σ H xs us Q I r h;obtain⟨p,ys,rfl,hq,q⟩:=h;obtain⟨u,rfl,rx⟩:=iP r;cases rx;have hn:=hW;rcases hq with hq|hq
 ·obtain⟨its,r',pl,hz⟩:=I.list hq;have hlen:=r'.length;exact Calls.call_len_list pl.isList (by simp only[Hu]<;>omega) ⟨.int ys.length,H,I.tok _,⟨s.toks+1,by rw[Hu,hlen]⟩,q⟩
 ·obtain⟨its,r',pl,hz⟩:=I.tuple hq;have hlen:=r'.length;exact len_tuple pl (by simp only[Hu]<;>omega) ⟨.int ys.length,H,I.tok _,⟨s.toks+1,by rw[Hu,hlen]⟩,q⟩
theorem mi:CallR X (.builtin "len") (λxs H Q=>∃z,xs=[.str z]/\z.length<=sizeLine/\Q (.int z.length) H):=by
 intro pins s σ H xs us Q I r h;obtain⟨z,rfl,hz,q⟩:=h;obtain⟨u,rfl,t,rfl⟩:=iP r;have hn:=hW;exact len_str (by omega) ⟨.int z.length,H,I.tok _,⟨_,rfl⟩,q⟩
theorem lS:CallR X (.type "list") (λxs H Q=>∃p ys,xs=[.ref p]/\(SqL X.K H p ys\/SqT X.K H p ys)/\∀l,H l=none->Q (.ref l) (upd H l (.lst ys))):=by
 intro pins s σ H xs us Q I r h;obtain⟨p,ys,rfl,hq,q⟩:=h;obtain⟨u,rfl,rx⟩:=iP r;cases rx;have fin:∀(its:List Value),Vals ys its->ys.length<=sizeLine->∀(h':Heap)(c':Nat),(∀b o',s.heap.get? b=some o'->h'.get? b=some o')->
   h'.get? s.heap.objs.size=some {cls:=.type "list",dict:=none,data:=.seq its.toArray c',slots:=#[]}->EP X pins σ Q (.ref s.heap.objs.size) {s with heap:=h'}:=λits r' hz h' c' kp e=>
  ⟨.ref s.heap.objs.size,_,I.laid (t':=s.toks) kp (Hh _) (show ObjOk X.prog X.w _ h' _ (.lst ys) from⟨hz,its,c',r',e⟩),rfl,q _ (I.hok.fresh (Hh _))⟩
 rcases hq with hq|hq
 ·obtain⟨its,r',pl,hz⟩:=I.list hq;have hlen:=r'.length;obtain⟨o,ho,hc,n,hd⟩:=pl.isList;exact call_list_seq p (.inl rfl) ho hc hd (λh' c' kp e=>fin its r' hz h' c' kp e) (by simp only[Hu]<;>omega)
 ·obtain⟨its,r',pl,hz⟩:=I.tuple hq;have hlen:=r'.length;obtain⟨o,ho,hc,n,hd⟩:=pl;exact call_list_seq p (.inr rfl) ho hc hd (λh' c' kp e=>fin its r' hz h' c' kp e) (by simp only[Hu]<;>omega)
def tyV(K:Iz)(T:String)(x:V)(H:Hp):Prop:=match x with
 |.str _=>T = "str"
 |.int _=>T = "int"
 |.ref p=>(T = "list"/\∃xs,SqL K H p xs)\/(T = "tuple"/\∃o,K.lookup p=some o/\o.cls=.type "tuple"/\o.dict=none)\/
   (T = "dict"/\((∃kvs,H p=some (.dK kvs))\/∃kvs,H p=some (.dT kvs)))\/(T = "set"/\∃S n,H p=some (.set S n))
 |_=>False
theorem Az{s:Shared}(I:Inv X pins σ H s)(r:RelV x v)(ty:tyV X.K T x H) :
  s.TypeIs v T/\∀a,v=.ref a->∃ob,s.heap.get? a=some ob/\ob.dict=none:=by
 cases x with
 |str z=>
  obtain⟨t,rfl⟩:=r;cases (show T = "str" from ty);exact⟨typeIs_str s z t,λ_ e=>nomatch e⟩
 |int i=>
  obtain⟨t,rfl⟩:=r;cases (show T = "int" from ty);exact⟨typeIs_int s i t,λ_ e=>nomatch e⟩
 |ref p=>
  cases r;rcases ty with ⟨rfl,xs,hq⟩|⟨rfl,o,hk,hc,hd⟩|⟨rfl,hk⟩|⟨rfl,S,n,hk⟩
  ·obtain⟨its,_,pl,_⟩:=I.list hq;refine⟨pl.isList.typeIs,λa e=>?_⟩
   cases e;obtain⟨o,n,e,c,hd,_⟩:=pl;exact⟨o,e,hd⟩
  ·refine⟨⟨o,I.kIn p o hk,hc⟩,λa e=>?_⟩
   cases e;exact⟨o,I.kIn _ o hk,hd⟩
  ·have z:∃o,s.heap.get? p=some o/\o.ExactDict:=by
    rcases hk with ⟨kvs,hk⟩|⟨kvs,hk⟩
    ·obtain⟨_,_,_,_,o,_,_,e,ex,_⟩:=I.hok p _ hk;exact⟨o,e,ex⟩
    ·obtain⟨_,_,_,_,o,_,_,e,ex,_⟩:=I.hok p _ hk;exact⟨o,e,ex⟩
   obtain⟨o,e,ex⟩:=z;refine⟨⟨o,e,ex.1⟩,λa e2=>?_⟩
   cases e2;exact⟨o,e,ex.2.1⟩
  ·obtain⟨o,_,_,_,e,ex,_⟩:=I.hok p _ hk;refine⟨⟨o,e,ex.1⟩,λa e2=>?_⟩
   cases e2;exact⟨o,e,ex.2.1⟩
 |_=>exact False.elim ty
noncomputable def tBM(K:Iz)(T:String)(r:V->List V->Hp->VK->Prop)(to:TE)(t:TA):TE:=λσ H Q=>to σ H λx H1=>tyV K T x H1/\t σ H1 λxs H2=>r x xs H2 Q
variable {o:Expr}{id:String}
theorem Cy(pa:PlainAttrs T)(slot:Slot T name id)(hty:typeOf (.builtin id)=pure (.type "method_descriptor"))(hm:MtR X id r)(ho:PE X o to)(ha:PA X (e::es) t)
  (hbase:attributeBase o name X.env (eval o X.env)=eval o X.env:=by rfl)
  (hfew:((backTo cpos (starEach (e::es) X.env)).all (λx=>!x.1)&&(backToKw cpos (keywordEach [] X.env)).all (λx=>x.1.isSome)
   &&decide ((e::es).length+([]:List Keyword).length+(if ([]:List Keyword).isEmpty then 0 else 1)<30))=true:=by rfl)
  (hline:(apos.endLine == cpos.line)=true:=by rfl) (hs:starEach (e::es) X.env=(false,eval e X.env)::starEach es X.env:=by rfl) (hplain:(backTo cpos (starEach es X.env)).any (·.1)=false:=by rfl) :
  PE X (.Call (.Attribute o name apos) (e::es) [] cpos) (tBM X.K T r to t):=by
 intro pins s σ H Q I h;refine wpAny_Call_method_late hbase hfew hline rfl (thn (ho pins s σ H _ I h) λv s1 ⟨x,H1,I1,r1,ty,q1⟩=>?_)
 obtain⟨h1,h2⟩:=Az I1 r1 ty;refine⟨T,id,pa,slot,hty,h1,h2,?_⟩;have hA:=ha cpos pins s1 σ H1 _ I1 q1;rw[hs]at hA ⊢;refine Calls.callWith_builtin (by show (false||(backTo cpos (starEach es X.env)).any (·.1))=false;rw[hplain]<;>rfl) (Calls.evalArgs_plain ?_)
 exact thn hA λus s2 ⟨vs,H2,I2,r2,q2⟩=>hm pins s2 σ H2 x vs v us Q I2 r1 r2 q2
end
def MtM(X:Cx)(id:String)(r:V->List V->Hp->VK->Prop):Prop:=
 ∀(pins:List (Addr×Obj)) (s:Shared)(σ:St)(H:Hp)(x:V)(xs:List V)(v:Value)(us:List Value)(Q:VK),Inv X pins σ H s->RelV x v->Vals xs us->r x xs H Q->
  wpAny (model X.prog X.w) X.A (call (.builtin id) (v::us)) (EP X pins σ Q) X.xe s
theorem Vals.one:∀{x:V}{us:List Value},Vals [x] us->∃u,us=[u]/\RelV x u
 |_,_,.cons r .nil=>⟨_,rfl,r⟩
theorem Vals.two:∀{x y:V}{us:List Value},Vals [x,y] us->∃u v,us=[u,v]/\RelV x u/\RelV y v
 |_,_,_,.cons r (.cons q .nil)=>⟨_,_,rfl,r,q⟩
theorem Vals.rep(h:Vals xs us):∀k:Nat,Vals (List.replicate k xs).flatten (List.replicate k us).flatten
 |0=>.nil
 |k+1=>by
  rw[List.replicate_succ,List.replicate_succ,List.flatten_cons,List.flatten_cons];exact Vals.append h (Vals.rep h k)
theorem kU(its:List Value):∀(k:Nat)(acc:List Value),
  List.foldl (λx1 x2=>x1++x2) acc.toArray (List.replicate k its.toArray)=(acc++(List.replicate k its).flatten).toArray
 |0,acc=>by simp
 |k+1,acc=>by
  have e:acc.toArray++its.toArray=(acc++its).toArray:=by simp
  have e2:(acc++its)++(List.replicate k its).flatten=acc++(List.replicate (k+1) its).flatten:=by
   rw[List.replicate_succ,List.flatten_cons,List.append_assoc]
  rw[<-e2,<-kU its k (acc++its),<-e,List.replicate_succ,List.foldl_cons]
section
variable {X:Cx}{s:Shared}{l:Addr}{xs ys:List V}
theorem Inv.lset{its its':List Value}{n:Nat}{f:Array Value->Array Value}{t':Nat}(I:Inv X pins σ H s)(hH:H l=some (.lst xs))
  (e:s.heap.get? l=some {cls:=.type "list",data:=.seq its.toArray n}) (hf:f its.toArray=its'.toArray) (hv:Vals ys its') (hz:ys.length<=sizeLine) :
  Inv X pins σ (upd H l (.lst ys)) {s with heap:=s.heap.update l (Obj.mapSeq f),toks:=t'}:=by
 have q:=PySem.IsL.update e f;rw[hf]at q;refine I.write (x:=l) (e:=l) (by rw[hH];exact trivial) (.inl rfl) (λb' u hb hu=>(HM s.heap (Obj.mapSeq f) (He hb)).trans hu) ⟨_,q⟩ ?_
 exact⟨hz,its',_,hv,q⟩
theorem Inv.lnew(I:Inv X pins σ H s)(hv:Vals ys its)(hz:ys.length<=sizeLine) :
  Inv X pins σ (upd H s.heap.objs.size (.lst ys)) {s with heap:=s.heap.push {cls:=.type "list",data:=.seq its.toArray},toks:=t'}:=
 I.laid (λ_ _ q=>Hd _ q) (Hh _) ⟨hz,its,0,hv,Hn _ rfl⟩
theorem Inv.fresh(I:Inv X pins σ H s):H s.heap.objs.size=none:=I.hok.fresh (Hh _)
theorem Inv.lstM(I:Inv X pins σ H s)(hH:H l=some (.lst xs)):xs.length<=sizeLine/\∃(its:List Value) (n:Nat),Vals xs its/\xs.length=its.length/\s.heap.get? l=some {cls:=.type "list",data:=.seq its.toArray n}:=by
 obtain⟨z,its,n,r,e⟩:=I.hok l _ hH;exact⟨z,its,n,r,r.length,e⟩
theorem sJ{n:Nat}(h:n<=sizeLine):Builtin.List.listTooLong n=false:=by
 unfold Builtin.List.listTooLong;exact HN (by omega)
end
section
variable {X:Cx}
def rAppend:V->List V->Hp->VK->Prop:=λx vs H Q=>∃l xs y,x=.ref l/\vs=[y]/\H l=some (.lst xs)/\xs.length<sizeLine/\Q .non (upd H l (.lst (xs++[y])))
theorem k6:MtM X "list.append" rAppend:=by
 intro pins s σ H x vs v us Q I rx rv h;obtain⟨l,xs,y,rfl,rfl,hH,hz,q⟩:=h;cases rx;obtain⟨u,rfl,ru⟩:=rv.one;obtain⟨z,its,n,r,hl,e⟩:=I.lstM hH;refine call_meets F.slot_list_append ⟨_,e,rfl⟩ F.entry_list_append (F.args_list_append_2 _ _) (PySem.list_append l its.toArray n u (by rw[Hu];omega)) ⟨e,?_⟩
 refine⟨.non,_,I.lset (its':=its++[u]) hH e (by simp) (r.append (.cons ru .nil)) ?_,rfl,q⟩
 rw[HJ,List.length_singleton];omega
theorem xm(xs:List α)(k:Nat):(List.replicate k xs).flatten.length=k*xs.length:=by
 induction k with
 |zero=>simp
 |succ k ih=>rw[List.replicate_succ,List.flatten_cons,HJ,ih,Nat.succ_mul,Nat.add_comm]
end
section
variable {w:World}{A:Around}{s:Shared}
set_option maxRecDepth 100000 in
end
section
variable {X:Cx}
end
end L2
namespace Att
open PySem PySem.W PySem.Calls PyProof.Rows
theorem i4:∀(ns:List Int)(vs:List Value),WellAll P h vs (ns.map WData.int)->IntsAre vs ns:=by
 intro ns
 induction ns with
 |nil=>
  intro vs w;rw[List.map_nil]at w;cases w;exact .nil
 |cons n ns ih=>
  intro vs w;rw[List.map_cons]at w;cases w with
  |cons a b=>
   cases a;exact .cons _ _ (ih _ b)
theorem rW{l:OpenLaw}(hn:l.most=some n){h:Heap}
  (hpre:l.row.toRowW.claim.pre args=true) (hwl:WellAll P h vals args) :
  ∃a vs ns,vals=[Value.ref a]/\args=[WData.list (ns.map WData.int)]/\h.get? a=some {cls:=.type "list",data:=.seq vs.toArray}/\IntsAre vs ns/\ns.length<=n:=by
 have hsh:WShape.hasAll [] args [.list .int]=true:=(pre_splitW hpre).1;have hc:l.pre.holds [] {args:=args}=true:=(pre_splitW hpre).2;obtain⟨d,r,rfl,h1,h2⟩:=hasAllW_cons hsh;obtain rfl:=hasAllW_nil h2;obtain⟨xs,rfl,h3⟩:=hasW_list h1;obtain⟨ns,rfl⟩:=items_int h3;have hlen:ns.length<=n:=by
  unfold OpenLaw.pre at hc;have h4:(WTm.not (.lt (.lit (.int (n:Int))) (.len (.arg 0)))).holds [] {args:=[.list (ns.map .int)]}=true:=by
   have h4:=(holds_andW hc).1;rw[hn]at h4;exact h4
  have h5:=condW_of h4 (w_not (w_lt w_lit (w_len_list (w_arg rfl))));rw[List.length_map]at h5;refine Nat.le_of_not_lt λq=>?_
  have q':(n:Int)<((ns.length:Nat):Int):=by omega
  first
   |(rw[decide_eq_true q']at h5;exact absurd h5 (by decide))
   |(simp at h5;omega)
 cases hwl with
 |cons w1 w2=>
  cases w2;cases w1 with
  |list ho hall=>exact⟨_,_,ns,rfl,rfl,ho,i4 ns _ hall,hlen⟩
theorem qJ(l:OpenLaw)(args:List WData):l.row.toRowW.claim.post args (.bool true) args=true:=
 postW_of (r:=l.row.toRowW) (X:=(true == true))
  (show WShape.has [] (.bool true) .bool=true by first|rfl|decide|simp[WShape.has,WShape.arms,WShape.armsAll])
  (show (WTm.eq .res (.lit (.bool true))).value [] {args:=args,res:=some (.bool true),after:=args}=some (.bool (true == true)) from w_eq_bool (w_res rfl) w_lit) rfl
theorem attach_call{l:OpenLaw}{d:DefRec}
  (hn:l.most=some n) (hdf:d.params.defaults=[])
  (call:∀(w:World)(s₀ s₁:Shared)(mg mb:Str->Option Value)(fa:Addr)(o:Obj)(pm cd doc:Value)(a:Addr)(vs:List Value)(ns:List Int),
   Ground q loose [] XP w s₀ mg mb s₁.heap->YP w s₁.heap->
   s₁.heap.get? fa=some o->o.data=.func (docDef d.name d.params d.body d.scope pm cd doc)->s₁.heap.CodeRec cd d.name->mg d.name=some (.ref fa)->
   s₁.heap.get? a=some {cls:=.type "list",data:=.seq vs.toArray}->IntsAre vs ns->ns.length<=n->s₁.gens=#[]->
   codeAny (model l.prog w) callerA (.call (.ref fa) ⟨[.ref a],[]⟩) (λr s'=>r=.ok (.ret (.bool true))/\OldK s₁.heap s'.heap/\s'.os=s₁.os/\AllBare s'.gens) s₁) :
  WalkO q loose XP YP l.row.toRowW d [] (λf vs=>PySem.call f vs):=by
 intro w s₀ s₁ mg mb G Y fa o pm cd doc dV kV ho hd hcd hD hmg hg args vals as hpre hlay hrd hwl hlo;obtain rfl:dV=.none:=Dflts.none hD hdf;obtain rfl:kV=.none:=Dflts.noKw hD;obtain⟨a,vs,ns,rfl,rfl,hobj,hints,hlen⟩:=rW hn hpre hwl;refine enter_call (codeAny_mono (call w s₀ s₁ mg mb fa o pm cd doc a vs ns G Y ho (fd_plain hd) hcd hmg hobj hints hlen hg) λr s' hq=>?_)
 obtain⟨rfl,h2,h3,h4⟩:=hq;exact⟨.inl ⟨.bool true,.bool true,[],rfl,λ_=>rfl,.bool true,qJ l _,λ_=>⟨List.Pairwise.nil,λ_ hm=>(nomatch hm)⟩⟩,h2,h3,h4⟩
section
variable {w:World}{A:Around}{s:Shared}{K:Frag}
end
end Att
namespace L2
open PySem PySem.Spec PyProof.Rows
theorem ij:∀{vs:List Value}{ns:List Int},IntsAre vs ns->Vals (ns.map V.int) vs
 |_,_,.nil=>.nil
 |_,_,.cons n t h=>.cons ⟨t,rfl⟩ (ij h)
def CV(H:Hp):Prop:=∀b,H b=none\/∃o xs,H b=some (.frz o (.lst xs))
theorem sB{K:Iz}{s₁:Shared}
  (KX:K.In s₁.heap)(hns:s₁.heap.Ns mainGlobals mg)(hb:s₁.heap.Ns builtinsNs mb) (hbb:∀x:Str,x≠"__name__"->mb x=bootBuiltins x) (hlim:s₁.heap.NoLimit) (hg:s₁.gens=#[])
  (ha:s₁.heap.get? a=some {cls:=.type "list",data:=.seq vs.toArray}) (hi:IntsAre vs ns) (hl:ns.length<=sizeLine) (hr:Room k callerA)
  (F:∀base:Heap,K.In base->base.Ns mainGlobals mg->FnOk P w K mg base CX k fa fd [x] sp) (hbind:∀(s:Shared)(u:Value),BindsTo s fd ⟨[u],[]⟩ [(x,u)])
  (hsp:∀H:Hp,CV H->SqL K H a (ns.map V.int)->sp [.ref a] H (λv _=>v=.bl true) λ_ _ _=>False)
  (hCX:∀H e s',CX [] H s₁ (λ_ _ _=>False) e s'->False) :
  codeAny (model P w) callerA (.call (.ref fa) ⟨[.ref a],[]⟩) (λr s'=>r=.ok (.ret (.bool true))/\OldK s₁.heap s'.heap/\s'.os=s₁.os/\AllBare s'.gens) s₁:=by
 have rv:=ij hi;have lenV:=hi.length;have core:∀H:Hp,CV H->SqL K H a (ns.map V.int)->HOk P w H s₁.heap->(∀b,H b≠none->b=a)->(H a≠none->K.lookup a=none)->
   codeAny (model P w) callerA (.call (.ref fa) ⟨[.ref a],[]⟩) (λr s'=>r=.ok (.ret (.bool true))/\OldK s₁.heap s'.heap/\s'.os=s₁.os/\AllBare s'.gens) s₁:=by
  intro H hO hS hok hA hK;have base_of:∀{b:Addr}{o:Obj},s₁.heap.get? b=some o->H b=none->(lR s₁.heap H).get? b=some o:=λe n=>sk e n
  have noA:∀{b:Addr}{o:Obj}{es:Array DictEntry}{ep:Nat},s₁.heap.get? b=some o->o.data=.dict es ep->H b=none:=λ{b o es ep} e d=>by
   cases q:H b with
   |none=>rfl
   |some u=>
    have e':b=a:=hA b (by rw[q];simp)
    subst e';rw[ha]at e;cases e;have d':Data.seq vs.toArray _=Data.dict es ep:=d;cases d'
  have nsK:∀{b:Addr}{m:Str->Option Value},s₁.heap.Ns b m->(lR s₁.heap H).Ns b m:=λ{b m} ⟨o,es,ep,e,d,r⟩=>⟨o,es,ep,base_of e (noA e d),d,r⟩
  have hKb:K.In (lR s₁.heap H):=λb o e=>base_of (KX b o e) (by
   cases q:H b with
   |none=>rfl
   |some u=>
    have e':b=a:=hA b (by rw[q];simp)
    subst e';rw[hK (by rw[q];simp)]at e;cases e)
  have hM:Mod K mg (lR s₁.heap H):=⟨hKb,nsK hns,⟨mb,nsK hb,hbb⟩,let ⟨mc,h1,h2⟩:=hlim;⟨mc,nsK h1,h2⟩⟩
  have e0:Env0 P w K mg (lR s₁.heap H) callerA [] s₁ H:=⟨rfl,hM,λb o e=>vI e,Nat.le_of_eq (sh _ _),trivial,λb hb=>absurd (show b∈([]:List Addr) from hb) (by simp),hok,.of_eq hg⟩
  refine codeAny_mono ((F _ hKb (nsK hns)).run callerA [] s₁ H ⟨[.ref a],[]⟩ [.ref a] [.ref a] _ _ hr e0 (hbind s₁ (.ref a)) (.cons rfl .nil) (hsp H hO hS)) λr s' h=>?_
  cases r with
  |error e=>exact (hCX H e s' h).elim
  |ok fl=>
   cases fl with
   |next=>exact False.elim h
   |brk=>exact False.elim h
   |cont=>exact False.elim h
   |ret u=>
    obtain⟨v,H',os,bare,un,hok',r',q⟩:=h;have q':v=.bl true:=q;subst q';obtain rfl:u=Value.bool true:=r';refine⟨rfl,OldK.of_keep λb o e=>?_,os,bare⟩
    cases q:H b with
    |none=>exact un.keep b o e q (by intro z;exact absurd (show b∈([]:List Addr) from z) (by simp)) (by simp)
    |some u=>
     rcases hO b with z|⟨ob,xs,z⟩
     ·rw[q]at z;cases z
     ·have z2:=un.frzs b ob _ z;obtain⟨e1,_⟩:=hok b _ z;obtain⟨e2,_⟩:=hok' b _ z2;rw[e]at e1;cases e1;exact e2
 cases hk:K.lookup a with
 |some o=>
  have e:=KX a o hk;rw[ha]at e;cases e;refine core (λ_=>none) (λ_=>.inl rfl) (.inr ⟨_,vs.toArray,_,hk,rfl,rfl,rfl,by rw[Hu,lenV];exact hl,by simpa using rv⟩) (λb u z=>by have z':(none:Option HO)=some u:=z;cases z') (λb z=>absurd rfl z) λz=>absurd rfl z
 |none=>
  refine core (λb=>if b=a then some (.frz {cls:=.type "list",data:=.seq vs.toArray} (.lst (ns.map V.int))) else none) (λb=>?_) (.inl (.inr ⟨{cls:=.type "list",data:=.seq vs.toArray},Hg rfl⟩)) (λb u z=>?_) (λb z=>?_) λ_=>hk
  ·by_cases hb:b=a
   ·exact .inr ⟨_,_,Hg hb⟩
   ·exact .inl (Hc hb)
  ·by_cases hb:b=a
   ·have z':=(Hg hb).symm.trans z;cases z';subst hb;exact⟨ha,by rw[Hm];exact hl,vs,_,rv,ha⟩
   ·have z':=(Hc hb).symm.trans z;cases z'
  ·by_cases hb:b=a
   ·exact hb
   ·exact absurd (Hc hb) z
noncomputable def ak(s:Stmt)(j:Nat):Stmt:=match s with
 |.ClassDef _ _ _ body _ _ _ _ _ _ _=>body.getD j (.Pass ⟨0,0,0,0⟩)
 |_=>.Pass ⟨0,0,0,0⟩
noncomputable def cg(s:Stmt):Arguments:=match s with
 |.FunctionDef _ a _ _ _ _ _ _ _ _=>a
 |_=>{posonlyargs:=[],args:=[],vararg:=none,kwonlyargs:=[],kw_defaults:=[],kwarg:=none,defaults:=[]}
noncomputable def bb(s:Stmt):List Stmt:=match s with
 |.FunctionDef _ _ b _ _ _ _ _ _ _=>b
 |_=>[]
noncomputable def az(s:Stmt):Scope:=match s with
 |.FunctionDef _ _ _ _ _ _ sc _ _ _=>sc
 |_=>{kind:=.function,names:=[],isGenerator:=false,isCoroutine:=false}
structure Fun (K:Iz)(x qual:Str)(st:Stmt)(f:Addr)(fd:FuncData):Prop where
 ex:∃(oc:Value) (od:Option Addr) (kV doc pm:Value) (an:Option Addr) (cdv ct:Value) (osl:Array (Option Value)),
  fd=PySem.W.fnOf x qual (cg st) (bb st) (az st) .none kV doc pm an cdv ct/\K.lookup f=some ⟨oc,od,.func fd,osl⟩/\PySem.W.codeIn K cdv qual=true
 kp:PySem.W.keepIn K (.ref f)=true
section
variable {K:Iz}
theorem zG{x qual:Str}{st:Stmt}{f:Addr}{oc:Value}{od an:Option Addr}{osl:Array (Option Value)}{kV doc pm cdv ct:Value}(l:K.lookup f=some ⟨oc,od,.func (PySem.W.fnOf x qual (cg st) (bb st) (az st) .none kV doc pm an cdv ct),osl⟩)
  (c:PySem.W.codeIn K cdv qual=true) (k:PySem.W.keepIn K (.ref f)=true):Fun K x qual st f (PySem.W.fnOf x qual (cg st) (bb st) (az st) .none kV doc pm an cdv ct):=⟨⟨oc,od,kV,doc,pm,an,cdv,ct,osl,rfl,l,c⟩,k⟩
end
section
variable {X:Cx}
theorem pv(i:Nat)(hN:X.N[i]?=some x:=by rfl)(hv:Vis X.env.scope x:=by first|exact Or.inl rfl|exact Or.inr (Or.inl rfl)|exact Or.inr (Or.inr rfl))(hd:(x == ("__debug__" : Str))=false:=by decide)
  (hcd:(x == ("__classdict__" : Str))=false:=by decide):PE X (.Name x pos) (tj i):=jK hN hv hd hcd
end
section
variable {κ:Type} [DecidableEq κ]
end
def DA(h:Heap)(e:Addr)(d:Option Addr):Prop:=∃o,h.get? e=some o/\o.dict=d
theorem jp(f:Array Value->Array Value)(o:Obj):(Obj.mapFields f o).dict=o.dict:=by
 obtain⟨c,d,x,sl⟩:=o;cases x<;>rfl
section
variable {A:Around}{s:Shared}{base:Heap}{env:Env}
theorem qj{oe:Obj}{vs:Array Value}(hfr:A.frames=some (env::outer))(hl:s.heap.FunFrames base (env::outer))(hf:env.frame=some L)(he:s.heap.get? e=some oe)(hkb:base.StaysIn s.heap)(hen:base.get? e=none)
  (hd:oe.data=.fields vs) (hsz:1<vs.size) (h0:vs[0]?=some a0) (k:∀h',Heap.NotedW base (env::outer) e oe.cls a0 (rawInt L) s.heap h'->DA h' e oe.dict->Q () {s with heap:=h'}) :
  wpAny M A (do let fr<-frameOf env;let pl<-entryPlaceOf L hadNext;let t<-EntryCells.newEntry head fr .none (rawInt L) .none pl;setField (.ref e) 1 t) Q E s:=by
 have out:e∉(env::outer).filterMap (·.frame):=λz=>by
  obtain⟨_,o,ho,nf⟩:=hl.mem z;cases he.symm.trans ho;exact nf vs hd
 refine G8 (wpAny_frameOf_fun hfr hl hf λg1 sl1=>G8 (wpAny_entryPlaceOf λpl hpl=>?_))
 unfold EntryCells.newEntry newFields;refine G8 (HP ?_ (hpl.sizeOk5 _ _ _ _ _));generalize hT:({cls:=.type "traceback",dict:=none,data:=.fields ([head,.ref L,.none,rawInt L,.none]++(if pl.isEmpty then List.replicate 6 Value.none else pl)).toArray}:Obj)=oT
 have e1:g1.get? e=some oe:=(sl1.2.1 e out).trans he;have b1:base.StaysIn g1:=λb o q=>(sl1.2.1 b λz=>by rw[(hl.mem z).1]at q;cases q).trans (hkb b o q)
 have e2:(g1.push oT).get? e=some oe:=Hd oT e1;refine Iq e2 hd hsz (k _ ?_ ?_)
 ·have ne:g1.objs.size≠e:=Nat.ne_of_gt (Hi e1);have d3:=Ie hd (·.setIfInBounds 1 (Value.ref g1.objs.size));have e3:=HH (Obj.mapFields (·.setIfInBounds 1 (Value.ref g1.objs.size))) e2 (Obj.isFreed_of_fields d3);have t3:(g1.push oT).get? g1.objs.size=some oT:=Hn g1 (by rw[<-hT];rfl)
  have t4:((g1.push oT).update e (Obj.mapFields (·.setIfInBounds 1 (Value.ref g1.objs.size)))).get? g1.objs.size=some oT:=(HM _ _ (He ne)).trans t3;have stay:∀b o,b≠e->g1.get? b=some o->((g1.push oT).update e (Obj.mapFields (·.setIfInBounds 1 (Value.ref g1.objs.size)))).get? b=some o:=λb o n q=>
   (HM _ _ (He n)).trans (Hd oT q)
  have other:∀b o,s.heap.get? b=some o->(∀ws,o.data≠.fields ws)->b≠e:=λb o q nf z=>by
   subst z;cases he.symm.trans q;exact nf vs hd
  refine⟨λb o q=>stay b o (λz=>by rw[z,hen]at q;cases q) (b1 b o q),hl.of_keeps λb o q nf=>?_,⟨_,_,g1.objs.size,oT,_,e3,⟨Obj.cls_mapFields _ _,?_⟩,d3,by simp[hsz],b1.fresh,ne,t4,by rw[<-hT],?_⟩,λb o q nf=>?_⟩
  ·obtain⟨sl,z⟩:=sl1.2.2 b o q;exact⟨_,stay b _ (other b o q nf) z,rfl⟩
  ·rw[Array.getElem?_setIfInBounds_ne (by decide)];exact h0
  ·first|(simp;done)|(rcases hpl with rfl|⟨_,_,_,_,_,_,_,rfl⟩<;>simp)
  ·obtain⟨sl,z⟩:=sl1.2.2 b o q;exact⟨sl,stay b _ (other b o q nf) z⟩
 ·have d3:=Ie hd (·.setIfInBounds 1 (Value.ref g1.objs.size));exact⟨_,HH (Obj.mapFields (·.setIfInBounds 1 (Value.ref g1.objs.size))) e2 (Obj.isFreed_of_fields d3),jp _ _⟩
theorem jR(hkb:base.StaysIn s.heap)(hl:s.heap.FunFrames base l)(ht:s.heap.TracedAtW base e cls a0 fl)(hd:DA s.heap e d)
  (k:∀h',base.StaysIn h'->h'.FunFrames base l->h'.TracedW base e cls a0->s.heap.UpToSlots h'->DA h' e d->Q () {s with heap:=h'}):wpAny M A (setFlight (.ref e) none) Q E s:=by
 obtain⟨oe,vs,T,oT,ts,he,hc,hv,h1,nT,ne,hT,dT,h3⟩:=ht;obtain⟨oe',he',hd⟩:=hd;cases he.symm.trans he';have sz:3<ts.size:=(Ij.mp h3).1;unfold setFlight;refine G8 (HZ he hv h1 ?_);rw[Hg (by simp:(Value.ref T != Value.none)=true)]
 have oth:∀b,b≠T->(s.heap.update T (Obj.mapFields (·.setIfInBounds 3 ((none:Option Addr).elim Value.none λf=>rawInt f)))).get? b=s.heap.get? b:=λb n=>HM _ _ (He n)
 have plain:∀b o,s.heap.get? b=some o->(∀ws,o.data≠.fields ws)->b≠T:=λb o q nf z=>by
  subst z;cases hT.symm.trans q;exact nf ts dT
 have ee:=(oth e (He ne)).trans he;refine Iq hT dT sz (k _ (λb o q=>(oth b λz=>by rw[z,nT]at q;cases q).trans (hkb b o q)) (hl.of_keeps λb o q nf=>⟨o,(oth b (plain b o q nf)).trans q,rfl⟩) ⟨oe,vs,T,_,_,ee,hc,hv,h1,nT,ne,HH _ hT (Obj.isFreed_of_fields (Ie dT _)),Ie dT _,by simp[sz]⟩
  (λb o q nf=>⟨o.slots,(oth b (plain b o q nf)).trans q⟩) ⟨oe,ee,hd⟩)
theorem tF(hfr:A.frames=some (env::outer))(hf:env.frame=some L)(fl:Heap.FlyingW base (env::outer) e cls a0 s.heap)(hd:DA s.heap e d)
  (k:∀h',Heap.HeldW base (env::outer) e cls a0 L h'->s.heap.UpToSlots h'->DA h' e d->Q () {s with heap:=h'}):wpAny M A (noteFrame (.ref e) env) Q E s:=by
 obtain⟨hkb,hen,hl,oe,vs,T,oT,ts,he,⟨rfl,h0⟩,hv,h1,nT,ne,hT,dT,h3⟩:=fl;obtain⟨oe',he',rfl⟩:=hd;cases he.symm.trans he';unfold noteFrame;simp only[hf];refine G8 (HZ he hv h1 ?_);rw[Hg (by simp:(Value.ref T != Value.none)=true)]
 refine G8 (HZ hT dT h3 ?_);rw[Hc (by simp[rawInt]:¬ ((Value.none == rawInt L)=true))]
 refine G8 (Iq hT dT (Ij.mp h3).1 ?_);have oth:∀b,b≠T->(s.heap.update T (Obj.mapFields (·.setIfInBounds 3 Value.none))).get? b=s.heap.get? b:=λb n=>HM _ _ (He n)
 have plain:∀b o,s.heap.get? b=some o->(∀ws,o.data≠.fields ws)->b≠T:=λb o q nf z=>by
  subst z;cases hT.symm.trans q;exact nf ts dT
 exact qj hfr (hl.of_keeps λb o q nf=>⟨o,(oth b (plain b o q nf)).trans q,rfl⟩) hf ((oth e (He ne)).trans he) (λb o q=>(oth b λz=>by rw[z,nT]at q;cases q).trans (hkb b o q)) hen hv (Ij.mp h1).1 h0
  λh' ⟨x1,x2,x3,x4⟩ dd=>k h' ⟨x1,hen,x2,x3⟩ (λb o q nf=>x4 b o ((oth b (plain b o q nf)).trans q) nf) dd
theorem qw(hh:Heap.HeldW base l e cls a0 L s.heap)(hd:DA s.heap e d)(k:∀h',Heap.FlyingW base l e cls a0 h'->s.heap.UpToSlots h'->DA h' e d->Q () {s with heap:=h'}):wpAny M A (setFlight (.ref e) none) Q E s:=
 jR hh.1 hh.2.2.1 hh.2.2.2 hd λh' k1 k2 k3 k4 k5=>k h' ⟨k1,hh.2.1,k2,k3⟩ k4 k5
theorem pV(fl:Heap.FlyingW base l e cls a0 s.heap)(hd:DA s.heap e d)(k:∀h',Heap.FlyingW base l e cls a0 h'->s.heap.UpToSlots h'->DA h' e d->Q () {s with heap:=h'}):wpAny M A (setFlight (.ref e) none) Q E s:=
 jR fl.1 fl.2.2.1 fl.2.2.2.at hd λh' k1 k2 k3 k4 k5=>k h' ⟨k1,fl.2.1,k2,k3⟩ k4 k5
theorem eX{h:Heap}(x:h.FunFrames base (env::outer)):h.FunFrames base outer:=x.2.2
theorem uN(hfr:A.frames=some (env::outer))(hf:env.frame=some L)(fl:Heap.FlyingW base (env::outer) e cls a0 s.heap)(hd:DA s.heap e d)
  (k:∀h',Heap.FlyingW base outer e cls a0 h'->s.heap.UpToSlots h'->DA h' e d->Q () {s with heap:=h'}):wpAny M A (leaving env (.ref e)) Q E s:=by
 unfold leaving;refine G8 (tF hfr hf fl hd λh1 x1 u1 d1=>qw x1 d1 λh2 x2 u2 d2=>k h2 ⟨x2.1,x2.2.1,eX x2.2.2.1,x2.2.2.2⟩ (u1.trans u2) d2)
theorem wH{oe:Obj}(hfr:A.frames=some (env::outer))(hf:env.frame=some L)(hkb:base.StaysIn s.heap)(hl:s.heap.FunFrames base (env::outer))(he:s.heap.get? e=some oe)(hen:base.get? e=none)(hv:oe.data=.fields vs)(h0:vs[0]?=some a0)(h1:vs[1]?=some .none)
  (k:∀h',Heap.FlyingW base outer e oe.cls a0 h'->s.heap.UpToSlots h'->DA h' e oe.dict->Q () {s with heap:=h'}):wpAny M A (leaving env (.ref e)) Q E s:=by
 unfold leaving noteFrame;simp only[hf];refine G8 (G8 (HZ he hv h1 ?_));rw[Hc (by decide)]
 refine qj hfr hl hf he hkb hen hv (Ij.mp h1).1 h0 λh1 x1 d1=>?_
 exact jR x1.1 x1.2.1 x1.2.2.1 d1 λh2 k1 k2 k3 k4 k5=>k h2 ⟨k1,hen,eX k2,k3⟩ (Heap.UpToSlots.trans x1.2.2.2 k4) k5
end
section
variable {h h':Heap}{o:HO}
theorem ObjOk.isAt(x:ObjOk P w H h a o):∃ob,h.get? a=some ob:=by
 cases o with
 |lst xs=>obtain⟨_,_,_,_,e⟩:=x;exact⟨_,e⟩
 |tup xs=>obtain⟨_,_,_,ob,e,_⟩:=x;exact⟨_,e⟩
 |dK kvs=>obtain⟨_,_,_,_,ob,_,_,e,_⟩:=x;exact⟨_,e⟩
 |dT kvs=>obtain⟨_,_,_,_,ob,_,_,e,_⟩:=x;exact⟨_,e⟩
 |set S n=>obtain⟨ob,_,_,_,e,_⟩:=x;exact⟨_,e⟩
 |ins C dx fs=>obtain⟨_,_,_,e,_⟩:=x;exact⟨_,e⟩
 |own y=>exact x
 |xd fs=>obtain⟨_,⟨ob,_,_,e,_⟩,_⟩:=x;exact⟨_,e⟩
 |rng lo hi=>obtain⟨_,_,_,e⟩:=x;exact⟨_,e⟩
 |frz ob u=>exact⟨_,x.1⟩
 |tbl ps=>exact⟨_,x⟩
 |met f y=>exact⟨_,x⟩
 |ext φ=>exact x.2.1
theorem HOk.keptT(x:HOk P w H h)(k:∀b u ob,H b=some u->h.get? b=some ob->h'.get? b=some ob):HOk P w H h':=λa o e=>
 (x a o e).stay (λb u hb q=>hb.elim (λz=>by subst z;exact k _ _ _ e q) (λz=>k _ _ _ z q)) (λ_ q=>q) λ_ _ q=>q
end
def Fly(B:Heap)(l:List Env)(a:Addr)(cls:Value)(h:Heap):Prop:=∃a0,Heap.FlyingW B l a cls a0 h
def Within(B:Heap)(l:List Env)(hs:Heap)(H':Hp)(h':Heap):Prop:=
 ∀b ob,h'.get? b=some ob->(H' b≠none\/((∃o',hs.get? b=some o')/\b∉frs l))->B.get? b=some ob
noncomputable def CX1(P:Program)(w:World):CXT:=λouter H s E e s'=>
 ∃(a:Addr) (cls:Value) (B:Heap) (H':Hp) (dx:Option Addr),e=.ref a/\s'.os=s.os/\AllBare s'.gens/\Un (frs outer) [] H H' s.heap s'.heap/\HOk P w H' s'.heap/\
  (Fly B outer a cls s'.heap/\DA s'.heap a dx)/\H' a=none/\Within B outer s.heap H' s'.heap/\E cls dx H'
theorem Inv.notrk{s:Shared}(I:Inv X pins σ H s)(hn:s.heap.get? e=none):H e=none:=by
 cases q:H e with
 |none=>rfl
 |some u=>
  obtain⟨ob,z⟩:=(I.hok e u q).isAt;rw[hn]at z;cases z
theorem Inv.oldNe{X:Cx}(I:Inv X pins σ H s)(q:X.s₀.heap.get? b=some o)(hb:b∉X.fs):b∉frs X.stack:=λhm=>by
 rcases Hj.mp (I.stkSub b hm) with z|z
 ·have:=Ho (Hi q) I.ok.above;rw[z]at this;exact absurd this (Ik _)
 ·exact hb z
section
variable {K:Iz}{s:Shared}
theorem li{s1:Shared}{oe:Obj}{h':Heap}
  (I:Inv (cJ (CX1 P w) P w K mg base N qual scope f cd A outer s H E) pins σ H1 s1) (hk:∀b o,s1.heap.get? b=some o->b≠e->h'.get? b=some o) (hke:∀o,s1.heap.get? e=some o->∃vs,o.data=.fields vs) (hnt:H1 e=none) (hno:s.heap.get? e=none)
  (hoe:h'.get? e=some oe) (hv:oe.data=.fields vs) (hv0:vs[0]?=some a0) (hv1:vs[1]?=some .none) (he:E oe.cls oe.dict H1) :
  (cJ (CX1 P w) P w K mg base N qual scope f cd A outer s H E).xe (.ref e) {s1 with heap:=h'}:=by
 have hfr:((cJ (CX1 P w) P w K mg base N qual scope f cd A outer s H E).A).frames=some (envOfC qual scope s.heap.objs.size f cd::outer):=I.ok.frames;have hl:s1.heap.FunFrames base (envOfC qual scope s.heap.objs.size f cd::outer):=I.stack;have hin:∀env∈(envOfC qual scope s.heap.objs.size f cd::outer),∀b,env.frame=some b->b∈e::frs (envOfC qual scope s.heap.objs.size f cd::outer):=λenv he b hb=>Hb _ (List.mem_filterMap.mpr ⟨env,he,hb⟩)
 have hB:∀b o,(PySem.W.hideAll s1.heap (e::frs (envOfC qual scope s.heap.objs.size f cd::outer))).get? b=some o->s1.heap.get? b=some o/\b≠e:=λb o q=>⟨PySem.W.of_hideAll _ q,λz=>by
  subst z;rw[PySem.W.hideAll_none _ Hf]at q;cases q⟩
 have hff:s1.heap.FunFrames (PySem.W.hideAll s1.heap (e::frs (envOfC qual scope s.heap.objs.size f cd::outer))) (envOfC qual scope s.heap.objs.size f cd::outer):=PySem.W.funFrames_hide hl hin;show wpAny _ _ (leaving _ _) _ _ _;refine wH (base:=PySem.W.hideAll s1.heap (e::frs (envOfC qual scope s.heap.objs.size f cd::outer))) hfr rfl (λb o q=>hk b o (hB b o q).1 (hB b o q).2) (hff.of_keeps λb o q nf=>⟨o,hk b o q (λz=>by
  subst z;obtain⟨ws,dw⟩:=hke o q;exact nf ws dw),rfl⟩) hoe (PySem.W.hideAll_none _ Hf) hv hv0 hv1 λh2 fl up dd=>?_
 have tB:∀b u ob,H1 b=some u->s1.heap.get? b=some ob->(PySem.W.hideAll s1.heap (e::frs (envOfC qual scope s.heap.objs.size f cd::outer))).get? b=some ob:=λb u ob hb q=>
  PySem.W.hideAll_get _ q λhm=>by
   rcases Hj.mp hm with z|hm
   ·rw[z,hnt]at hb;cases hb
   ·have z:=I.stkFree b hm;rw[hb]at z;cases z
 have one:∀b o,s.heap.get? b=some o->b≠e:=λb o q z=>by rw[z,hno]at q;cases q
 have oB:∀b o ob,s.heap.get? b=some o->b∉frs outer->s1.heap.get? b=some ob->(PySem.W.hideAll s1.heap (e::frs (envOfC qual scope s.heap.objs.size f cd::outer))).get? b=some ob:=λb o ob q hb q1=>
  PySem.W.hideAll_get _ q1 λhm=>(Hj.mp hm).elim (one b o q) (I.oldNe q hb)
 have st:=fl.1;have slot:∀b o,s.heap.get? b=some o->H b=none->b∈frs outer->∃sl,h2.get? b=some {o with slots:=sl}:=λb o q n hb=>by
  obtain⟨sl,e1⟩:=I.base.slot b o q n hb (λz=>nomatch z)
  obtain⟨_,o2,e2,nf⟩:=I.ok.funs.mem hb;have e3:o2=o:=Hv (e2.symm.trans q);subst e3;obtain⟨sl2,e4⟩:=up b _ (hk _ _ e1 (one b _ q)) nf;exact⟨sl2,e4⟩
 refine⟨e,oe.cls,_,H1,oe.dict,rfl,I.os,I.bare,⟨λb o q n hb _=>?_,λb o q n hb _=>slot b o q n hb,λb o q n _=>I.base.free b o q n (λz=>nomatch z),λb o q _=>?_,I.base.tups,I.base.frzs,I.base.tbls⟩,?_,⟨⟨_,fl⟩,dd⟩,hnt,λb ob q hb=>?_,he⟩
 ·exact st b o (oB b o o q hb (I.base.keep b o q n hb (λz=>nomatch z)))
 ·by_cases hb:b∈frs outer
  ·obtain⟨sl,z⟩:=slot b o q (I.ok.frf b hb) hb;exact⟨_,z⟩
  ·obtain⟨o',e1⟩:=I.base.there b o q (λz=>nomatch z)
   exact⟨o',st b o' (oB b o o' q hb e1)⟩
 ·exact I.hok.keptT λb u ob hb q=>st b ob (tB b u ob hb q)
 ·rcases hb with hb|⟨⟨o',ho'⟩,hb⟩
  ·cases z:H1 b with
   |none=>exact absurd z hb
   |some u=>
    obtain⟨o1,e1⟩:=(I.hok b u z).isAt;have e2:=tB b u o1 z e1;have e3:o1=ob:=Hv ((st b o1 e2).symm.trans q);rw[<-e3];exact e2
  ·obtain⟨o1,e1⟩:=I.base.there b o' ho' (λz=>nomatch z)
   have e2:=oB b o' o1 ho' hb e1;have e3:o1=ob:=Hv ((st b o1 e2).symm.trans q);rw[<-e3];exact e2
theorem rT{s1:Shared}
  (I:Inv (cJ (CX1 P w) P w K mg base N qual scope f cd A outer s H E) pins σ H1 s1) (hx:Heap.MadeExcOf s1.heap h' e cls args)(he:E cls none H1) :
  (cJ (CX1 P w) P w K mg base N qual scope f cd A outer s H E).xe (.ref e) {s1 with heap:=h'}:=by
 obtain⟨t,e1,_,_⟩:=hx.there;refine li I (λb o q _=>hx.keeps b o q) (λo q=>by rw[hx.new]at q;cases q) (I.notrk hx.new) ?_ e1 rfl rfl rfl he
 cases q:s.heap.get? e with
 |none=>rfl
 |some o=>
  obtain⟨o1,z⟩:=I.base.there e o q (λz=>nomatch z)
  rw[hx.new]at z;cases z
theorem uX(hE:∀c d H',E' c d H'->E c d H')
  (I:Inv (cJ (CX1 P w) P w K mg base N qual scope f cd A outer s H E) pins σ H1 s1) (hc:CX1 P w (envOfC qual scope s.heap.objs.size f cd::outer) H1 s1 E' e s') :
  (cJ (CX1 P w) P w K mg base N qual scope f cd A outer s H E).xe e s':=by
 obtain⟨a,cls,B,H2,dx,rfl,os,bare,un,hok,⟨⟨a0,fl⟩,dd⟩,ha,inc,he⟩:=hc;have hfr:((cJ (CX1 P w) P w K mg base N qual scope f cd A outer s H E).A).frames=some (envOfC qual scope s.heap.objs.size f cd::outer):=I.ok.frames;show wpAny _ _ (leaving _ _) _ _ _;refine uN hfr rfl fl dd λh2 fl2 up dd2=>?_
 have st:=fl2.1;have nil:∀b:Addr,b∉([]:List Addr):=λb z=>nomatch z
 have slot:∀b o,s.heap.get? b=some o->H b=none->b∈frs outer->∃sl,h2.get? b=some {o with slots:=sl}:=λb o q n hb=>by
  obtain⟨sl,e1⟩:=I.base.slot b o q n hb (nil b);obtain⟨sl1,e2⟩:=un.any e1 (I.base.free b o q n (nil b)) (nil b);obtain⟨_,o2,e3,nf⟩:=I.ok.funs.mem hb;have e4:o2=o:=Hv (e3.symm.trans q);subst e4;obtain⟨sl2,e5⟩:=up b _ e2 nf;exact⟨sl2,e5⟩
 have old:∀b o,s.heap.get? b=some o->b∉frs outer->∃ob,s'.heap.get? b=some ob/\B.get? b=some ob:=λb o q hb=>by
  obtain⟨o1,e1⟩:=I.base.there b o q (nil b);obtain⟨o2,e2⟩:=un.there b o1 e1 (nil b);exact⟨o2,e2,inc b o2 e2 (.inr ⟨⟨o1,e1⟩,I.oldNe q hb⟩)⟩
 refine⟨a,cls,B,H2,dx,rfl,os.trans I.os,bare,⟨λb o q n hb _=>?_,λb o q n hb _=>slot b o q n hb,λb o q n _=>?_,λb o q _=>?_,λb xs q=>un.tups b xs (I.base.tups b xs q),λb o u q=>un.frzs b o u (I.base.frzs b o u q),λb ps q=>?_⟩,?_,⟨⟨a0,fl2⟩,dd2⟩,ha,λb ob q hb=>?_,hE _ _ _ he⟩
 ·have e1:=I.base.keep b o q n hb (nil b);have e2:=un.keep b o e1 (I.base.free b o q n (nil b)) (I.oldNe q hb) (nil b);exact st b o (inc b o e2 (.inr ⟨⟨o,e1⟩,I.oldNe q hb⟩))
 ·obtain⟨o1,e1⟩:=I.base.there b o q (nil b);exact un.free b o1 e1 (I.base.free b o q n (nil b)) (nil b)
 ·by_cases hb:b∈frs outer
  ·obtain⟨sl,z⟩:=slot b o q (I.ok.frf b hb) hb;exact⟨_,z⟩
  ·obtain⟨ob,_,e2⟩:=old b o q hb;exact⟨ob,st b ob e2⟩
 ·obtain⟨m1,e1⟩:=I.base.tbls b ps q;obtain⟨m2,e2⟩:=un.tbls b _ e1;exact⟨m1++m2,by rw[e2,Array.append_assoc]⟩
 ·exact hok.keptT λb u ob hb q=>st b ob (inc b ob q (.inl (by rw[hb];exact λz=>nomatch z)))
 ·rcases hb with hb|⟨⟨o',ho'⟩,hb⟩
  ·cases z:H2 b with
   |none=>exact absurd z hb
   |some u=>
    obtain⟨o1,e1⟩:=(hok b u z).isAt;have e2:=inc b o1 e1 (.inl hb);have e3:o1=ob:=Hv ((st b o1 e2).symm.trans q);rw[<-e3];exact e2
  ·obtain⟨o1,e1,e2⟩:=old b o' ho' hb;have e3:o1=ob:=Hv ((st b o1 e2).symm.trans q);rw[<-e3];exact e2
theorem By:Ab (CX1 P w) (cJ (CX1 P w) P w K mg base N qual scope f cd A outer s H E) E:=λ_ _ _ _ _ _ I h=>uX (λ_ _ _ z=>z) I h
theorem Eg:PassesOwn (model P w) (cJ (CX1 P w) P w K mg base N qual scope f cd A outer s H E).A (cJ (CX1 P w) P w K mg base N qual scope f cd A outer s H E).env (cJ (CX1 P w) P w K mg base N qual scope f cd A outer s H E).xe:=
 PassesOwn.leaving
end
def mw(X:Cx)(E:XK):Prop:=∀(pins:List (Addr×Obj)) (σ:St)(H:Hp)(s:Shared)(e:Addr)(cls:Value)(args:List Value)(h':Heap),Inv X pins σ H s->Heap.MadeExcOf s.heap h' e cls args->E cls none H->X.xe (.ref e) {s with heap:=h'}
def jj(X:Cx)(E:XK):Prop:=∀(pins:List (Addr×Obj)) (σ:St)(H:Hp)(s:Shared)(e:Addr)(oe:Obj)(vs:Array Value)(a0:Value),Inv X pins σ H s->H e=none->X.s₀.heap.get? e=none->s.heap.get? e=some oe->oe.data=.fields vs->vs[0]?=some a0->vs[1]?=some .none->E oe.cls oe.dict H->X.xe (.ref e) s
theorem uW{K:Iz} :
  jj (cJ (CX1 P w) P w K mg base N qual scope f cd A outer s H E) E:=λ_ _ _ s1 e oe vs a0 I ht h0 hoe hv v0 v1 he=>li (h':=s1.heap) I (λ_ _ q _=>q) (λo q=>by
 cases hoe.symm.trans q;exact⟨vs,hv⟩) ht h0 hoe hv v0 v1 he
theorem vY{K:Iz} :
  mw (cJ (CX1 P w) P w K mg base N qual scope f cd A outer s H E) E:=λ_ _ _ _ _ _ _ _ I hx he=>rT I hx he
abbrev bmV:List Value:=[.type "ValueError",.type "Exception",.type "BaseException",.type "object"]
def vV(K:Iz)(C:Addr):Prop:=PySem.W.excIn K C bmV "ValueError.__new__"=true
noncomputable def zU(E:XK)(C:Addr)(t:TA):TS:=λ_ σ H=>t σ H λvs H1=>vs.length<=sizeLine/\E (.ref C) none H1
theorem wa{K:Iz}{h:Heap}(X:K.In h)(z:PySem.W.excIn K C bmB nid=true) :
  ∃bm M nm qn bs b1 sn sb b2 co dd x0 x1 x2 x3 x5 mN,h.get? C=some (excClassObj nm qn C M bs bm b1 sn sb b2 co dd x0 x1 x2 x3 x5 nid)/\h.Ns M mN/\mN "__init__"=none/\OwnTail h bmB bm:=by
 unfold PySem.W.excIn at z;split at z
 next dd cd sl ho=>
  split at z
  next C' bm x0 x1 x2 x3 n x5 hm hs=>
   rw[G9,G9,G9,G9,G9,Hs,Hs,Hs]at z;have z1:=z.1.1.1.1.1;have z2:=z.1.1.1.1.2;have z3:=z.1.1.1.2;have z4:=z.1.1.2;have z5:=z.1.2;have z6:=z.2;subst z1;subst z2;cases cd with
   |mk nm bs mro ns qn hd sn sub ab col del=>
    cases hm;cases del with
    |true=>cases z3
    |false=>
     have es:sl=#[x0,x1,x2,x3,some (.builtin n),x5]:=by
      cases sl with
      |mk l=>cases hs;rfl
     subst es;exact⟨bm,ns,nm,qn,bs,hd,sn,sub,ab,col,dd,x0,x1,x2,x3,x5,_,X _ _ ho,.of_isNs (PySem.W.isNs_of_in X z5),PySem.W.nsMap_none_of_in X z5 z6,PySem.W.tail_of_in X z4⟩
  next=>cases z
 next=>cases z
section
variable {X:Cx}
theorem ul(hx:mw X E)(hc:X.calm=true)(hg:Gl X x)(hm:X.mg x=some (.ref C))(q:vV X.K C)(ha:PA X (e::es) t)(hdb:(x == ("__debug__" : Str))=false:=by decide)
  (he:starEach (e::es) X.env=(false,eval e X.env)::starEach es X.env:=by rfl) (hpl:(backTo cpos (starEach es X.env)).any (·.1)=false:=by rfl) :
  PS X (.Raise (some (.Call (.Name x np) (e::es) [] cpos)) none pos) (zU E C t):=by
 intro pins s σ H D I h;obtain⟨bm,M,nm,qn,bs,b1,sn,sb,b2,co,dd,x0,x1,x2,x3,x5,mN,hC,hN,hni,T⟩:=wa I.ok.mod.kin q;refine wpAny_Raise_call_subT (C:=C) (nm:=nm) (q:=qn) (N:=M) (bs:=bs) (bm:=bm) (hdct:=b1) (sn:=sn) (sub:=sb) (ab:=b2) (col:=co) (dd:=dd) (k0:=x0) (k1:=x1) (k2:=x2) (k3:=x3) (k5:=x5)
  PySem.F.excBase_ValueError (mN:=mN) (T.hasType PySem.F.excBase_ValueError.hasBase) (I.ok.hd hc) ?pl hni (bC I hg hm ⟨rfl,?_⟩ hdb)
 case pl=>
  rw[he];show (false||(backTo cpos (starEach es X.env)).any (·.1))=false
  rw[hpl];rfl
 have h2:=ha cpos pins s σ H _ I h;rw[he]at h2 ⊢;refine Calls.evalArgs_plain (thn h2 λus s2 ⟨vs,H2,I2,r,z,q2⟩=>?_)
 exact⟨rfl,by rw[<-r.length];exact z,I2.bk _ _ hC,hN.keeps I2.bk,T.keeps I2.bk,λh' a hm'=>hx pins σ H2 s2 a _ us h' I2 hm' q2⟩
end
def aR(CX:CXT)(X:Cx)(E:St->XK):Prop:=∀(pins:List (Addr×Obj)) (σ:St)(H:Hp)(s:Shared)(e:Value)(s':Shared),Inv X pins σ H s->CX X.stack H s (E σ) e s'->X.xe e s'
section
variable {X:Cx}{p:Pos}{o:Expr}
end
section
variable {X:Cx}{σ:St}{s1 s':Shared}{B:Heap}
theorem Inv.behind(I:Inv X pins σ H1 s1)(hex:X.ex=[])(os:s'.os=s1.os)(bare:AllBare s'.gens)(un:Un (frs X.stack) [] H1 H2 s1.heap s'.heap)(hok:HOk X.prog X.w H2 s'.heap)
  (inc:Within B X.stack s1.heap H2 s'.heap)(st:B.StaysIn h4)(up:s'.heap.UpToSlots h4):Inv X pins σ H2 {s' with heap:=h4}:=by
 have nil:∀b:Addr,b∉([]:List Addr):=λb z=>nomatch z
 have ex:∀b:Addr,b∉X.ex:=λb=>by rw[hex];exact nil b
 have dataK:∀b o,s1.heap.get? b=some o->H1 b=none->(∀vs,o.data≠.fields vs)->∃sl,h4.get? b=some {o with slots:=sl}:=λb o q n nf=>by
  obtain⟨sl,e1⟩:=un.any q n (nil b);obtain⟨sl2,e2⟩:=up b _ e1 nf;exact⟨sl2,e2⟩
 have cellK:∀x c,X.env.cells.lookup x=some c->∀v,s1.heap.IsCell c v->h4.IsCell c v:=λx c e v ⟨o,ho,hd⟩=>by
  obtain⟨sl,z⟩:=dataK c o ho (I.freeC x c e) λvs q=>by rw[hd]at q;cases q
  exact⟨_,z,hd⟩
 refine⟨I.ok,os.trans I.os,bare,⟨λb o q n hb _=>?_,λb o q n hb _=>?_,λb o q n _=>?_,λb o q _=>?_,λb xs q=>un.tups b xs (I.base.tups b xs q),λb o u q=>un.frzs b o u (I.base.frzs b o u q),λb ps q=>?_⟩,?_,λx c e=>?_,?_,λx c e=>?_,λp hp=>?_,?_,I.len⟩
 ·have e1:=I.base.keep b o q n hb (ex b);have e2:=un.keep b o e1 (I.base.free b o q n (ex b)) (I.oldNe q hb) (nil b);exact st b o (inc b o e2 (.inr ⟨⟨o,e1⟩,I.oldNe q hb⟩))
 ·obtain⟨sl,e1⟩:=I.base.slot b o q n hb (ex b);obtain⟨_,o2,e3,nf⟩:=I.ok.funs.mem hb;have e4:o2=o:=Hv (e3.symm.trans q);subst e4;obtain⟨sl2,e5⟩:=dataK b _ e1 (I.base.free b _ q n (ex b)) nf;exact⟨sl2,e5⟩
 ·obtain⟨o1,e1⟩:=I.base.there b o q (ex b);exact un.free b o1 e1 (I.base.free b o q n (ex b)) (nil b)
 ·obtain⟨o1,e1⟩:=I.base.there b o q (ex b);by_cases hb:b∈X.fs
  ·obtain⟨_,o2,e3,nf⟩:=I.ok.funs.mem hb;obtain⟨sl,e4⟩:=I.base.slot b o2 e3 (I.ok.frf b hb) hb (ex b);obtain⟨sl2,e5⟩:=dataK b _ e4 (I.base.free b _ e3 (I.ok.frf b hb) (ex b)) nf;exact⟨_,e5⟩
  ·obtain⟨o2,e2⟩:=un.there b o1 e1 (nil b);exact⟨o2,st b o2 (inc b o2 e2 (.inr ⟨⟨o1,e1⟩,I.oldNe q hb⟩))⟩
 ·obtain⟨m1,e1⟩:=I.base.tbls b ps q;obtain⟨m2,e2⟩:=un.tbls b _ e1;exact⟨m1++m2,by rw[e2,Array.append_assoc]⟩
 ·obtain⟨m,⟨o,es,ep,ho,hd,r⟩,hl⟩:=I.loc;obtain⟨sl,z⟩:=dataK _ o ho I.free λvs q=>by rw[hd]at q;cases q
  refine⟨m,⟨_,es,ep,z,hd,r⟩,λi x v e1 e2 e3=>?_⟩
  obtain⟨u,r',l⟩:=hl i x v e1 e2 e3;refine⟨u,r',l.elim .inl λ⟨k,c,e,z⟩=>.inr ⟨k,c,e,cellK x c e _ z⟩⟩
 ·obtain⟨v,z⟩:=I.cell x c e;exact⟨v,cellK x c e v z⟩
 ·obtain⟨m,⟨o,_,_,ho,_⟩,_⟩:=I.loc;exact un.free _ o ho I.free (nil _)
 ·obtain⟨v,o,ho,_⟩:=I.cell x c e;exact un.free c o ho (I.freeC x c e) (nil _)
 ·obtain⟨e,n,ne,nf,d⟩:=I.pin p hp;have nb:p.1∉frs X.stack:=λhm=>(Hj.mp (I.stkSub _ hm)).elim ne nf
  have e2:=un.keep p.1 p.2 e n nb (nil _);exact⟨st _ _ (inc _ _ e2 (.inr ⟨⟨_,e⟩,nb⟩)),un.free p.1 p.2 e n (nil _),ne,nf,d⟩
 ·exact hok.keptT λb u ob hb q=>st b ob (inc b ob q (.inl (by rw[hb];exact λz=>nomatch z)))
theorem wI(fl:Fly B X.stack a cls s'.heap)(inc:Within B X.stack s1.heap H2 s'.heap):s1.heap.get? a=none:=by
 obtain⟨a0,f1,f2,f3,oe,vs,T,oT,ts,he,hc,hd,_⟩:=fl;cases q:s1.heap.get? a with
 |none=>rfl
 |some o=>
  have z:=inc a oe he (.inr ⟨⟨o,q⟩,λhm=>by
   obtain⟨_,o2,e2,nf⟩:=f3.mem hm;rw[he]at e2;cases e2;exact nf vs hd⟩)
  rw[f2]at z;cases z
end
noncomputable def wN(a:Addr)(cls:Value)(dx:Option Addr):HO:=.ext λh=>∃o vs,h.get? a=some o/\o.cls=cls/\o.data=.fields vs/\o.dict=dx
section
variable {X:Cx}{σ:St}{s:Shared}
theorem Inv.trackExc{o:Obj}(I:Inv X pins σ H s)(hn:H a=none)(ho:s.heap.get? a=some o)(hc:o.cls=cls)(hd:o.data=.fields vs)(hdx:o.dict=dx)(h0:X.s₀.heap.get? a=none)(hp:∀p∈X.pn++pins,p.1≠a) :
  Inv X pins σ (upd H a (wN a cls dx)) s:=by
 have ne:∀b u,H b=some u->b≠a:=λb u q=>aA q hn
 have nL:X.env.locals≠a:=λz=>by
  obtain⟨m,⟨o',_,_,ho',hd',_⟩,_⟩:=I.loc;rw[z,ho]at ho';cases ho';rw[hd]at hd';cases hd'
 have nC:∀x c,X.env.cells.lookup x=some c->c≠a:=λx c e z=>by
  obtain⟨v,o',ho',hd'⟩:=I.cell x c e;rw[z,ho]at ho';cases ho';rw[hd]at hd';cases hd'
 refine⟨I.ok,I.os,I.bare,⟨I.base.keep,I.base.slot,λb o' q n hx=>?_,I.base.there,λb xs q=>?_,λb o' u q=>?_,λb ps q=>?_⟩,I.loc,I.cell,?_,λx c e=>?_,λp hp'=>?_,λb u q=>?_,I.len⟩
 ·rw[ae λz=>by rw[z,h0]at q;cases q]
  exact I.base.free b o' q n hx
 ·have z:=I.base.tups b xs q;rw[ae (ne _ _ z)];exact z
 ·have z:=I.base.frzs b o' u q;rw[ae (ne _ _ z)];exact z
 ·obtain⟨m,z⟩:=I.base.tbls b ps q;exact⟨m,by rw[ae (ne _ _ z)];exact z⟩
 ·rw[ae nL];exact I.free
 ·rw[ae (nC x c e)];exact I.freeC x c e
 ·obtain⟨e,n,r⟩:=I.pin p hp';exact⟨e,by rw[ae (hp p hp')];exact n,r⟩
 ·by_cases hb:b=a
  ·subst hb;rw[ag]at q;cases q;exact⟨⟨o,vs,ho,hc,hd,hdx⟩,⟨o,ho⟩,λh1 h2 ⟨o1,vs1,e1,e2,e3⟩ k=>⟨o1,vs1,k _ e1,e2,e3⟩⟩
  ·rw[ae hb]at q;exact (I.hok b u q).stay (λ_ _ _ z=>z) (λc z=>by rw[ae (ne _ _ z)];exact z) λc xs z=>by rw[ae (ne _ _ z)];exact z
theorem Inv.goes{h':Heap}(hi:X.N[i]?=some n)(hN:X.N.Nodup)(I:Inv X pins σ H s)(hm:s.heap.Ns X.env.locals m)
  (hl:∀(j:Nat)(x:Str)(w:V),X.N[j]?=some x->σ[j]?=some (some w)->Vis X.env.scope x->∃u,RelV w u/\BV X.env s.heap m x u)
  (hn:h'.Ns X.env.locals (λx=>if x=n then v else m x)) (hs:Heap.SameBut X.env.locals s.heap h'):Inv X pins (σ.set i none) H {s with heap:=h',toks:=t'}:=by
 obtain⟨oL,_,_,hoL,_⟩:=id hm;have old:∀b o,X.s₀.heap.get? b=some o->h'.get? b=s.heap.get? b:=λb o e=>hs.2 b (Hx (Ho (Hi e) I.ok.above))
 refine⟨I.ok,I.os,I.bare,⟨λb o q n hb hx=>(old b o q).trans (I.base.keep b o q n hb hx),λb o q n hb hx=>?_,I.base.free,λb o q hx=>?_,I.base.tups,I.base.frzs,I.base.tbls⟩,⟨_,hn,λj y w e1 e2 e3=>?_⟩,λy c e=>?_,I.free,I.freeC,λp hp=>?_,λb u q=>?_,by rw[List.length_set];exact I.len⟩
 ·obtain⟨sl,z⟩:=I.base.slot b o q n hb hx;exact⟨sl,(old b o q).trans z⟩
 ·obtain⟨o',z⟩:=I.base.there b o q hx;exact⟨o',(old b o q).trans z⟩
 ·have hj:j≠i:=λz=>by
   subst z;rw[List.getElem?_set_self']at e2;cases q:σ[j]? with
   |none=>rw[q]at e2;cases e2
   |some r=>rw[q]at e2;cases e2
  rw[Ih (He hj)]at e2;obtain⟨u,r,l⟩:=hl j y w e1 e2 e3;refine⟨u,r,?_⟩;rcases l with ⟨k,e⟩|⟨k,c,e,z⟩
  ·refine .inl ⟨k,?_⟩;have:y≠n:=λe=>hj (j5 hN e1 (e▸hi))
   show (if y=n then v else m y)=some u
   rw[Hc this];exact e
  ·exact .inr ⟨k,c,e,z.sameBut hs (I.cne y c e)⟩
 ·obtain⟨w',z⟩:=I.cell y c e;exact⟨w',z.sameBut hs (I.cne y c e)⟩
 ·obtain⟨e,n,ne,nf,d⟩:=I.pin p hp;exact⟨(hs.2 p.1 ne).trans e,n,ne,nf,d⟩
 ·refine (I.hok b u q).stay (λc w' hc z=>(hs.2 c ?_).trans z) (λ_ z=>z) λ_ _ z=>z
  rintro rfl;rcases hc with rfl|hc
  ·rw[I.free]at q;cases q
  ·rw[I.free]at hc;cases hc
end
noncomputable abbrev Cx.marked(X:Cx)(v:Value):Cx:={X with A:=X.A.mark (some v),calm:=false,xe:=λ_ _=>False}
noncomputable abbrev Cx.tryX(X:Cx)(pn:List (Addr×Obj))(W:Value->Shared->Prop):Cx:={X with pn:=X.pn++pn,xe:=W}
section
variable {X:Cx}
theorem Inv.marked(I:Inv X pins σ H s)(v:Value):Inv (X.marked v) pins σ H s:=
 ⟨⟨I.ok.mod,I.ok.kind,I.ok.glob,I.ok.blt,I.ok.above,I.ok.inj,I.ok.has,I.ok.cab,(λz=>nomatch z),I.ok.frames,I.ok.stk,I.ok.exf,I.ok.bs,I.ok.bsz,I.ok.noex,I.ok.exfs,I.ok.funs,I.ok.frf⟩,I.os,I.bare,I.base,I.loc,I.cell,I.free,I.freeC,I.pin,I.hok,I.len⟩
theorem Inv.unmark{v:Value}(ok:X.Ok)(I:Inv (X.marked v) pins σ H s):Inv X pins σ H s:=⟨ok,I.os,I.bare,I.base,I.loc,I.cell,I.free,I.freeC,I.pin,I.hok,I.len⟩
theorem Cx.Ok.tryX(ok:X.Ok)(pn:List (Addr×Obj))(W:Value->Shared->Prop):(X.tryX pn W).Ok:=
 ⟨ok.mod,ok.kind,ok.glob,ok.blt,ok.above,ok.inj,ok.has,ok.cab,ok.hd,ok.frames,ok.stk,ok.exf,ok.bs,ok.bsz,ok.noex,ok.exfs,ok.funs,ok.frf⟩
theorem Inv.tryX(I:Inv X pins σ H s)(W:Value->Shared->Prop):Inv (X.tryX pins W) [] σ H s:=
 ⟨I.ok.tryX _ _,I.os,I.bare,I.base,I.loc,I.cell,I.free,I.freeC,λp hp=>I.pin p (by rw[Ia]at hp;exact hp),I.hok,I.len⟩
theorem Inv.untry(ok:X.Ok)(I:Inv (X.tryX pn W) pins σ H s):Inv X pn σ H s:=
 ⟨ok,I.os,I.bare,I.base,I.loc,I.cell,I.free,I.freeC,λp hp=>I.pin p (Im _ hp),I.hok,I.len⟩
end
def XI(X:Cx)(pins:List (Addr×Obj))(σ:St)(H:Hp)(a:Addr)(cls:Value)(dx:Option Addr)(s:Shared):Prop:=
 ∃B a0,Inv X pins σ H s/\(Heap.FlyingW B X.stack a cls a0 s.heap/\DA s.heap a dx)/\H a=none/\X.s₀.heap.get? a=none/\(∀p∈X.pn++pins,p.1≠a)/\∀h4,B.StaysIn h4->s.heap.UpToSlots h4->Inv X pins σ H {s with heap:=h4}
def PH(X:Cx)(hs:List ExceptHandler)(t:Ends->St->XK):Prop:=
 ∀(pins:List (Addr×Obj)) (s:Shared)(σ:St)(H:Hp)(D:Ends)(a:Addr)(cls:Value)(dx:Option Addr),XI X pins σ H a cls dx s->t D σ cls dx H->wpAny (model X.prog X.w) X.A (handleBy (.ref a) X.env hs) (SP X pins D) X.xe s
noncomputable def Ends.goes(D:Ends)(i:Nat):Ends:=⟨λσ H=>D.nx (σ.set i none) H,D.rt,λσ H=>D.bk (σ.set i none) H,λσ H=>D.ct (σ.set i none) H⟩
def ED(K:Iz)(C:Addr)(i:Nat)(ts:TS)(tr:Ends->St->XK):Ends->St->XK:=λD σ cls d H=>
 (PySem.W.exmOne K cls (.ref C)=some true/\∀a,H a=none->ts (D.goes i) (σ.set i (some (.ref a))) (upd H a (wN a cls d)))\/(PySem.W.exmOne K cls (.ref C)=some false/\tr D σ cls d H)
def Fx(K:Iz)(C:Addr)(ts:TS)(tr:Ends->St->XK):Ends->St->XK:=λD σ cls d H=>
 (PySem.W.exmOne K cls (.ref C)=some true/\ts D σ H)\/(PySem.W.exmOne K cls (.ref C)=some false/\tr D σ cls d H)
section
variable {X:Cx}{c n:Str}{C:Addr}{b0:Stmt}{suite:List Stmt}{np hpos pos:Pos}{ax:List ExceptHandler}{ts:TS}{tr:Ends->St->XK}{i:Nat}
theorem g6{M:Model}{B h:Heap}{l:List Env}{a:Addr}{cls a0:Value}(fl:Heap.FlyingW B l a cls a0 h):PySem.W.Looks M h (typeOf (.ref a)) cls:=by
 obtain⟨ob,hob,hc⟩:=fl.there;exact hc▸(PySem.W.Looks.ld hob).andThen .now
theorem Bc(hg:Gl X c)(hm:X.mg c=some (.ref C))(hN:X.N.Nodup)(hi:X.N[i]?=some n)(hl:X.env.scope.names.lookup n=some .local)(hs:∀v,PSs (X.marked v) (b0::suite) ts)(hr:PH X ax tr)(hdb:(c == ("__debug__" : Str))=false:=by decide) :
  PH X (.ExceptHandler (some (.Name c np)) (some n) (b0::suite) hpos::ax) (ED X.K C i ts tr):=by
 intro pins s σ H D a cls dx xi h;obtain⟨B,a0,I,⟨fl,dd⟩,ha,h0,hp,stab⟩:=id xi;rcases h with ⟨em,k⟩|⟨em,k⟩
 ·refine wpAny_handleBy_cons (codeAny_handlers_test (bC (I.marked (.ref a)) hg hm ?_ hdb)) (by intro q;cases q)
  refine (PySem.W.exm_one I.kIn (g6 fl) em).here ?_;refine codeAny_handlers_suite_as (pV fl dd λh6 fl6 up6 dd6=>?_)
  have I6:=stab h6 fl6.1 up6;obtain⟨oe,vs,e1,e2,e3,_⟩:=fl6.first
  have e4:oe.dict=dx:=by
   obtain⟨o',z1,z2⟩:=dd6;cases e1.symm.trans z1;exact z2
  have I7:=I6.trackExc (cls:=cls) ha e1 e2 e3 e4 h0 hp;refine jZ (X:=X.marked (.ref a)) (v:=.ref a) (I7.marked (.ref a)) hN hi (.inl hl) rfl (λs7 I8=>?_) (.inr hl)
  refine Ig (hs (.ref a) pins s7 _ _ (D.goes i) I8 (k a ha)) (λfl s8 q=>?_) (λ_ _ z=>False.elim z)
  have hcl:(X.env.scope.kind == .class||(X.env.scope.kind == .module&&X.env.locals != X.env.globals))=false:=by rw[I.ok.kind];rfl
  have fin:∀σ' H',Inv (X.marked (.ref a)) pins σ' H' s8->∀(Q:Unit->Shared->Prop),(∀s9,Inv X pins (σ'.set i none) H' s9->Q () s9)->
    wpAny (model X.prog X.w) X.A (do bindName X.env n .none;unbindBehindTheSuite X.env n hpos) Q X.xe s8:=λσ' H' J Q kq=>by
   have J':=J.unmark I.ok;obtain⟨m,hm',hl'⟩:=J'.loc;exact wpAny_nameGoes_keeps hl hm' hcl λh' v hn hs'=>kq _ (Inv.goes hi hN J' hm' hl' hn hs')
  match fl,q with
  |.next,⟨σ',H',J,q⟩=>exact fin σ' H' J _ λs9 J9=>⟨_,_,J9,q⟩
  |.brk,⟨σ',H',J,q⟩=>exact fin σ' H' J _ λs9 J9=>⟨_,_,J9,q⟩
  |.cont,⟨σ',H',J,q⟩=>exact fin σ' H' J _ λs9 J9=>⟨_,_,J9,q⟩
  |.ret u,⟨v,σ',H',J,r,q⟩=>exact fin σ' H' J _ λs9 J9=>⟨v,_,_,J9,r,q⟩
 ·refine wpAny_handleBy_cons (codeAny_handlers_test (bC (I.marked (.ref a)) hg hm ?_ hdb)) (by intro q;cases q)
  refine (PySem.W.exm_one I.kIn (g6 fl) em).here ?_;exact hr pins s σ H D a cls dx xi k
theorem Bw(hg:Gl X c)(hm:X.mg c=some (.ref C))(hs:∀v,PSs (X.marked v) (b0::suite) ts)(hr:PH X ax tr)(hdb:(c == ("__debug__" : Str))=false:=by decide) :
  PH X (.ExceptHandler (some (.Name c np)) none (b0::suite) hpos::ax) (Fx X.K C ts tr):=by
 intro pins s σ H D a cls dx xi h;obtain⟨B,a0,I,⟨fl,dd⟩,ha,h0,hp,stab⟩:=id xi;rcases h with ⟨em,k⟩|⟨em,k⟩
 ·refine wpAny_handleBy_cons (codeAny_handlers_test (bC (I.marked (.ref a)) hg hm ?_ hdb)) (by intro q;cases q)
  refine (PySem.W.exm_one I.kIn (g6 fl) em).here ?_;refine codeAny_handlers_suite (pV fl dd λh6 fl6 up6 dd6=>?_)
  have I6:=stab h6 fl6.1 up6;refine Ig (hs (.ref a) pins _ _ _ D (I6.marked (.ref a)) k) (λfl s8 q=>?_) (λ_ _ z=>False.elim z)
  match fl,q with
  |.next,⟨σ',H',J,q⟩=>exact⟨_,_,J.unmark I.ok,q⟩
  |.brk,⟨σ',H',J,q⟩=>exact⟨_,_,J.unmark I.ok,q⟩
  |.cont,⟨σ',H',J,q⟩=>exact⟨_,_,J.unmark I.ok,q⟩
  |.ret u,⟨v,σ',H',J,r,q⟩=>exact⟨v,_,_,J.unmark I.ok,r,q⟩
 ·refine wpAny_handleBy_cons (codeAny_handlers_test (bC (I.marked (.ref a)) hg hm ?_ hdb)) (by intro q;cases q)
  refine (PySem.W.exm_one I.kIn (g6 fl) em).here ?_;exact hr pins s σ H D a cls dx xi k
end
end L2
namespace L2
open PySem PySem.Spec PySem.Calls PyProof.Rows
noncomputable def di(K:Iz)(C:Addr):Bool:=match K.lookup C with
 |some ⟨.type "type",_,.cls k,sl⟩=>(match k.mro with
  |.ref C2::above=>C2 == C&&!k.hasDel&&PySem.W.tailIn K bmV above&&(match sl.toList with
   |[_,_,_,_,some (.builtin mk),_]=>mk == "ValueError.__new__"
   |_=>false)
  |_=>false)
 |_=>false
theorem gB{K:Iz}{h:Heap}(X:K.In h)(z:di K C=true) :
  ∃bm M nm qn bs b1 sn sb b2 co dd x0 x1 x2 x3 x5,h.get? C=some (excClassObj nm qn C M bs bm b1 sn sb b2 co dd x0 x1 x2 x3 x5 "ValueError.__new__")/\OwnTail h bmV bm:=by
 unfold di at z;split at z
 ·rename_i dd k sl ho;split at z
  ·rename_i C2 above hm;rw[G9,G9,G9,Hs]at z;obtain⟨⟨⟨rfl,z2⟩,z3⟩,z4⟩:=z;split at z4
   ·rename_i x0 x1 x2 x3 mk x5 hs;rw[Hs]at z4;subst z4;cases k with
    |mk nm bs mro ns qn hd sn sub ab col del=>
     cases hm;cases del with
     |true=>cases z2
     |false=>
      have es:sl=#[x0,x1,x2,x3,some (.builtin "ValueError.__new__"),x5]:=by
       cases sl with
       |mk l=>cases hs;rfl
      subst es;exact⟨above,ns,nm,qn,bs,hd,sn,sub,ab,col,dd,x0,x1,x2,x3,x5,X _ _ ho,PySem.W.tail_of_in X z3⟩
   ·cases z4
  ·cases z
 ·cases z
noncomputable abbrev exB:ExcBaseFacts "ValueError" "ValueError.__new__" "ValueError.__init__" bmV:=PySem.F.excBase_ValueError
section
variable {A:Around}{h:Heap}{os:OsState}{K:Iz}
theorem uC{us:List Value}(X:K.In h)(z:di K C=true)(hi:PySem.W.findIn K (.ref C) "__init__"=some (some (.ref fI)))(hf:PySem.W.typeIn K (.ref fI)=some (.type "function"))(hl:us.length<=sizeLine)
  (k:∀h' e,h.objs.size<=e->Heap.MadeExcOf h h' e (.ref C) us->wpAny (model prog w) (A.under (.builtin "type.__call__" ⟨.ref C::us,[]⟩)) (call (.ref fI) (.ref e::us)) (λr s'=>r=.none/\Q (.ref e) s') E ⟨h',g,d,t,os⟩) :
  wpAny (model prog w) A (call (.ref C) us) Q E ⟨h,g,d,t,os⟩:=by
 obtain⟨bm,M,nm,qn,bs,b1,sn,sb,b2,co,dd,x0,x1,x2,x3,x5,hC,T⟩:=gB X z;have F:=exB;have f1:=tc_lookup;have f2:=tc_bind (.ref C);have hT:(⟨h,g,d,t,os⟩:Shared).TypeIs (.ref C) "type":=⟨_,hC,rfl⟩;refine wpAny_call (codeAny_of_tree ?_);show wpAny _ _ (callAny (.ref C) _) _ _ _
 repeat (any_goals (first|assumption|with_reducible refine wpAny_loadPart_at hC ?_|wp_step))
 refine⟨rfl,codeAny_call_builtin_at (Code.quiet_builtin _ (by decide +kernel)) entry_typeCall (wpAny_check_type_call_sub hC ?_)⟩
 repeat (first|with_reducible refine wpAny_loadPart_at hC ?_|with_reducible refine wpAny_madeBy_exc hC ?_|wp_step)
 refine codeAny_call_builtin_code (Code.quiet_builtin _ F.quiet) (wpAny_check_new_subU F F.hasB T hC (codeAny_exc_new_subU F F.hasB F T hC ?_ hl));show wpAny _ _ _ _ _ ⟨(h.push {cls:=.type "tuple",data:=.seq us.toArray}).push {cls:=.ref C,data:=.fields #[.ref h.objs.size,.none,.none,.none,.bool false,.none]},g,d,t,os⟩;generalize hoT:({cls:=.type "tuple",data:=.seq us.toArray}:Obj)=oT;generalize hoE:({cls:=.ref C,data:=.fields #[.ref h.objs.size,.none,.none,.none,.bool false,.none]}:Obj)=oE;have kp:∀b o,h.get? b=some o->((h.push oT).push oE).get? b=some o:=λb o q=>Hd _ (Hd _ q)
 have gC:=kp _ _ hC;have gE:((h.push oT).push oE).get? (h.objs.size+1)=some oE:=Heap.get?_push_at (by rw[Heap.size_push]) (by rw[<-hoE];rfl)
 have cE:oE.cls=.ref C:=by rw[<-hoE]
 have has:(Value.ref C::bm).contains (.ref C)=true:=by simp
 have X1:K.In ((h.push oT).push oE):=X.keeps kp;unfold isInstance
 repeat (first|(with_reducible refine wpAny_loadPart_at gE ?_;rw[cE])|(with_reducible refine wpAny_isSubtype_exc gC ?_;rw[has])|wp_step)
 show wpAny _ _ (typeLookup (.ref C) _) _ _ _;refine (PySem.W.looks_findIn X1 hi).here ?_;refine HR (G8 ((PySem.W.bind_fn X1 _ hf).here (G8 (Ig (k _ (h.objs.size+1) (Il _) ⟨kp,Heap.get?_none_of_le (Il _),h.objs.size,?_,Heap.get?_none_of_le (Hh _),?_⟩) (λr s' hr=>?_) λ_ _ x=>x))))
 ·rw[gE,<-hoE]
 ·rw[<-hoT];exact Hd _ (Heap.get?_push_at rfl rfl)
 ·obtain⟨rfl,hQ⟩:=hr
  wp_walk
  exact hQ
theorem tD{oe:Obj}{us:List Value}(X:K.In h)(z:di K C=true)(he:h.get? e=some oe)(hc:oe.cls=.ref C)(hd:oe.data=.fields vs)(h0:vs[0]?=some (.ref t0))(hl:us.length<=sizeLine)
  (k:Q .none ⟨(h.push {cls:=.type "tuple",data:=.seq us.toArray}).update e (Obj.mapFields (·.setIfInBounds 0 (.ref h.objs.size))),g,d,t,os⟩):wpAny (model prog w) A (call (.builtin "ValueError.__init__") (.ref e::us)) Q E ⟨h,g,d,t,os⟩:=by
 obtain⟨bm,M,nm,qn,bs,b1,sn,sb,b2,co,dd,x0,x1,x2,x3,x5,hC,T⟩:=gB X z;refine wpAny_call (codeAny_call_builtin exB.init.plain exB.initEntry (wpAny_check_init_subU exB T hC he hc ?_));unfold Builtin.«BaseException.__init__»;dsimp only;rw[Hc (by simp)]
 unfold newTuple Builtin.BaseException.bexcPut;have e1:=Hd (h:=h) {cls:=.type "tuple",data:=.seq us.toArray} he;refine G8 (HP ?_ (by show us.toArray.size<=sizeLine;rw[Hu];exact hl))
 exact G8 (G8 (HZ e1 hd h0 (G8 (Iq e1 hd (Ij.mp h0).1 (wpAny_letGo (Ha k))))))
theorem n6(T:OwnTail h bmV bm):refuseLoop self "__setattr__" bm=pure ():=by
 induction T with
 |base=>exact PySem.F.store_ValueError.passes self
 |own _ _ _ _ ih=>rw[refuseLoop_ref];exact ih
theorem t9{oe:Obj}{s:Shared}(X:K.In s.heap)(z:di K C=true)(he:s.heap.get? e=some oe)(hc:oe.cls=.ref C)(hd:oe.data=.fields vs)(hdn:oe.dict=none)
  (hfn:PySem.W.findIn K (.ref C) name=some none) (hhd:PySem.W.hasDictIn K C=true) (hm:PySem.W.mroIn K C (.type "object")=some true)
  (k:∀h' t',h'.get? e=some {oe with dict:=some s.heap.objs.size}->h'.Ns1 s.heap.objs.size (λy=>if y=name then some v else none)->(∀b o,b≠e->s.heap.get? b=some o->h'.get? b=some o)->R (.ok (.ret .none)) {s with heap:=h',toks:=t'}) :
  codeAny (model prog w) A (.call (.builtin "object.__setattr__") ⟨[.ref e,.str name tk,v],[]⟩) R s:=by
 obtain⟨bm,M,nm,qn,bs,b1,sn,sb,b2,co,dd,x0,x1,x2,x3,x5,hC,T⟩:=gB X z;have SF:=PySem.F.store_ValueError;have LT:PySem.W.Looks (model prog w) s.heap (typeOf (.ref e)) (.ref C):=hc▸(PySem.W.Looks.ld he).andThen .now;have sub:PySem.W.Looks (model prog w) s.heap (isInstance (.ref e) (.type "object")) true:=LT.andThen (PySem.W.looks_mroIn X hm);obtain⟨cd,hcd,hdt⟩:=PySem.W.any_some hhd;have LM:PySem.W.Looks (model prog w) s.heap (mroOf (.ref C)) cd.mro:=(PySem.W.looks_clsIn X hcd).andThen .now;have em:cd.mro=.ref C::bm:=by
  unfold PySem.W.clsIn at hcd;split at hcd
  ·rename_i c' d' cd' sl' ho;cases hcd;have:=X _ _ ho;rw[hC]at this;cases this;rfl
  ·cases hcd
 refine codeAny_call_builtin SF.slot.plain SF.entry (@PySem.W.check_slot (model prog w) _ _ s "object.__setattr__" "object" "__setattr__" (.ref e) [.str name tk,v] [] _ SF.kind SF.split sub (SF.args (.ref e) (.str name tk) v) ?_);rw[PySem.W.osa_eq,refuse_eq];refine G8 (G8 (LT.here (G8 (LM.here ?_))));rw[em,refuseLoop_ref,n6 T];refine Ha (G8 (LT.here (G8 ((PySem.W.looks_findIn X hfn).here (G8 (Ha ?_))))));dsimp only;obtain⟨oc,od,oda,osl⟩:=oe;dsimp only at hc hd hdn;subst hc hd hdn;refine G8 (Ha (G8 (G8 (wpAny_loadPart he (G8 ((PySem.W.looks_clsIn X hcd).here ?_))))));rw[hdt];refine G8 (wpAny_alloc' ?_);have ne:e≠s.heap.objs.size:=Hx (Hi he);have e1:(s.heap.push {cls:=.type "dict",data:=.dict #[]}).get? e=some ⟨.ref C,none,.fields vs,osl⟩:=Hd _ he;refine G8 (wpAny_update' e1 (Ha ?_));generalize hH:(s.heap.push {cls:=.type "dict",data:=.dict #[]}).update e (λo=>{cls:=o.cls,dict:=some s.heap.objs.size,data:=o.data,slots:=o.slots})=H1
 have gd:H1.get? s.heap.objs.size=some {cls:=.type "dict",data:=.dict #[]}:=by
  rw[<-hH];exact (Heap.get?_update_ne _ _ _ _ ne.symm).trans (Heap.get?_push_at rfl rfl)
 have ge:H1.get? e=some ⟨.ref C,some s.heap.objs.size,.fields vs,osl⟩:=by
  rw[<-hH];exact HH _ e1 rfl
 have gk:∀b o,b≠e->s.heap.get? b=some o->H1.get? b=some o:=λb o n q=>by
  rw[<-hH];exact (Heap.get?_update_ne _ _ _ _ n).trans (Hd _ q)
 have nd:H1.Ns s.heap.objs.size (λ_=>none):=⟨_,#[],_,gd,rfl,λx hx=>absurd hx (by simp),λ_=>rfl⟩
 show wpAny _ _ (Builtin.ObjectAttr.storeInDict s.heap.objs.size (.str name tk) name v) _ _ _;unfold Builtin.ObjectAttr.storeInDict Builtin.ObjectAttr.newKeyGuard;refine G8 (Ha (G8 (wpAny_nsSet1 (Heap.Ns1.of_empty nd) λh' n' hs=>?_)))
 obtain⟨oD,esD,epD,hoD,hdD,hcD⟩:=n'.count (PySem.Within.cons name v PySem.Within.nil);refine G8 (wpAny_lookBehind hoD (by rw[hdD];exact pastItsLine_dict (Hw hcD (by rw[HA,List.length_nil,sizeLine_eq];omega))) ?_)
 exact Ha (k h' _ ((hs.2 e ne).trans ge) n' λb o n q=>(hs.2 b (Hx (Hi q))).trans (gk b o n q))
theorem xl{oe:Obj}{s:Shared}(X:K.In s.heap)(z:di K C=true)(he:s.heap.get? e=some oe)(hc:oe.cls=.ref C)(hd:oe.data=.fields vs)(hdn:oe.dict=none)
  (hsa:PySem.W.findIn K (.ref C) "__setattr__"=some (some (.builtin "object.__setattr__"))) (hfn:PySem.W.findIn K (.ref C) name=some none) (hhd:PySem.W.hasDictIn K C=true) (hm:PySem.W.mroIn K C (.type "object")=some true)
  (k:∀h' t',h'.get? e=some {oe with dict:=some s.heap.objs.size}->h'.Ns1 s.heap.objs.size (λy=>if y=name then some v else none)->(∀b o,b≠e->s.heap.get? b=some o->h'.get? b=some o)->Q () {s with heap:=h',toks:=t'}) :
  wpAny (model prog w) A (setAttr (.ref e) name v) Q E s:=by
 have LT:PySem.W.Looks (model prog w) s.heap (typeOf (.ref e)) (.ref C):=hc▸(PySem.W.Looks.ld he).andThen .now;have f3:=PySem.F.store_ValueError.slot.bind (.ref e);unfold setAttr callSpecial? specialOf;refine G8 (wpAny_mkText (G8 (G8 (G8 (LT.at ((PySem.W.looks_findIn X hsa).at (HR (G8 ?_))))))));rw[f3];refine Ha (G8 (wpAny_call (t9 (s:={s with toks:=s.toks+1}) X z he hc hd hdn hfn hhd hm λh' t' q1 q2 q3=>?_)))
 exact Ha (Ha (k h' t' q1 q2 q3))
end
section
variable {pos:Pos}
theorem gG{args:List Expr}(h1:(backTo pos (starEach args env)).any (·.1)=false)(h2:args.length<30):methodCallForm (args.length+([]:List Keyword).length) (backTo pos (starEach args env)) (backToKw pos (keywordEach [] env))=true:=by
 unfold methodCallForm;have a:(backTo pos (starEach args env)).all (!·.1)=true:=by
  rw[HC];intro x hx;have:=List.any_eq_false.mp h1 x hx;simpa using this
 rw[a];have:(backToKw pos (keywordEach [] env)).all (·.1.isSome)=true:=rfl;rw[this];have h3:(backToKw pos (keywordEach ([]:List Keyword) env)).isEmpty=true:=rfl;simp only[h3,if_true,List.length_nil,Bool.true_and,Nat.add_zero,Hk];exact h2
theorem fD{apos:Pos}{args:List Expr}(hb:attributeBase o m env (eval o env)=eval o env)
  (hf:methodCallForm (args.length+([]:List Keyword).length) (backTo pos (starEach args env)) (backToKw pos (keywordEach [] env))=true) (hl:(apos.endLine == pos.line)=true) :
  eval (.Call (.Attribute o m apos) args [] pos) env=(do
   let ov<-eval o env
   standAt apos.atName
   let (f,first)<-holding [ov] (getMethod ov m (do return (<-importBound o env).getD true))
   callWith pos f first (backTo pos (starEach args env)) (backToKw pos (keywordEach [] env))):=by
 rw[arm_eval_Call,hb];unfold methodCall calleeOf methodCallPos;simp only[hf,hl];rfl
end
noncomputable def gS(e C:Addr):HO:=.ext λh=>∃t0,h.get? e=some {cls:=.ref C,data:=.fields #[.ref t0,.none,.none,.none,.bool false,.none]}
noncomputable def g5(e C dx:Addr):HO:=.ext λh=>∃t0,h.get? e=some {cls:=.ref C,dict:=some dx,data:=.fields #[.ref t0,.none,.none,.none,.bool false,.none]}
theorem pT{h:Heap}(q:h.get? e=some {cls:=.ref C,data:=.fields #[.ref t0,.none,.none,.none,.bool false,.none]}):ObjOk P w H h e (gS e C):=
 ⟨⟨t0,q⟩,⟨_,q⟩,λ_ _ ⟨t1,z⟩ k=>⟨t1,k _ z⟩⟩
theorem vQ{h:Heap}(q:h.get? e=some {cls:=.ref C,dict:=some dx,data:=.fields #[.ref t0,.none,.none,.none,.bool false,.none]}):ObjOk P w H h e (g5 e C dx):=
 ⟨⟨t0,q⟩,⟨_,q⟩,λ_ _ ⟨t1,z⟩ k=>⟨t1,k _ z⟩⟩
structure XIni (K:Iz)(C fI:Addr)(f:Str):Prop where
 cl:di K C=true
 ini:PySem.W.findIn K (.ref C) "__init__"=some (some (.ref fI))
 fn:PySem.W.typeIn K (.ref fI)=some (.type "function")
 sa:PySem.W.findIn K (.ref C) "__setattr__"=some (some (.builtin "object.__setattr__"))
 at_:PySem.W.findIn K (.ref C) f=some none
 hd:PySem.W.hasDictIn K C=true
 ob:PySem.W.mroIn K C (.type "object")=some true
 kp:PySem.W.keepIn K (.ref C)=true
structure BIni (K:Iz)(D:Addr):Prop where
 ga:PySem.W.specialIn K (.ref D) "__getattribute__"=some (some (.builtin "type.__getattribute__"))
 rd:PySem.W.readsIn K D (.type "type")=true
 at_:PySem.W.findCls K (.ref D) (.type "type") "__init__"=some (.val (.builtin "ValueError.__init__"))
noncomputable def tXI(K:Iz)(t:TA):TE:=λσ H Q=>t σ H λvs H1=>∃a r C,vs=.ref a::r/\di K C=true/\H1 a=some (gS a C)/\r.length<=sizeLine/\Q .non H1
noncomputable def sXF(C:Addr)(f:Str)(ta tv:TE):TS:=λD σ H=>tv σ H λy H1=>ta σ H1 λx H2=>∃a,x=.ref a/\H2 a=some (gS a C)/\∀dx o,H2 dx=none->dx≠a->D.nx σ (upd (upd H2 a (g5 a C dx)) dx (.frz o (.xd [(f,y)])))
section
variable {X:Cx}{D:Addr}{apos pos:Pos}
theorem wZ(hg:Gl X x)(hm:X.mg x=some (.ref D))(hdb:(x == ("__debug__" : Str))=false)(b:BIni X.K D)(ha:PA X (e::es) t)(hl:(apos.endLine == pos.line)=true)(hn:(e::es).length<30)
  (he:starEach (e::es) X.env=(false,eval e X.env)::starEach es X.env) (hpl:(backTo pos (starEach es X.env)).any (·.1)=false) :
  PE X (.Call (.Attribute (.Name x px) "__init__" apos) (e::es) [] pos) (tXI X.K t):=by
 intro pins s σ H Q I h;have hst:(backTo pos (starEach (e::es) X.env)).any (·.1)=false:=by
  rw[he];show ((false,_)::backTo pos (starEach es X.env)).any (·.1)=false;rw[List.any_cons,hpl];rfl
 have hT:PE X (.Name x px) (tC (.ref D)):=gK hg hm rfl hdb;refine PySem.W.methodCall_KW (thn (hT pins s σ H (λv H1=>v=.ref D/\H1=H) I ⟨rfl,rfl⟩) λu s1 ⟨v,H1,I1,r1,e1,e2⟩=>?_) (fD (by rfl) (gG hst hn) hl)
 subst e1 e2;obtain rfl:u=Value.ref D:=r1;refine PySem.W.method_cls I1.kIn b.ga (PySem.W.cls_value I1.kIn b.rd b.at_ (by decide +kernel) ?_)
 have I2:=I1.tok (s1.toks+1);rw[he];refine PySem.W.callWith_of (P:=λh=>X.K.In h) (by show ((false||(backTo pos (starEach es X.env)).any (·.1))||false)=false;rw[hpl];rfl) (λ_ _=>⟨.machine,.inr (.inl rfl),.now⟩) (PySem.Calls.evalArgs_plain ?_)
 have h2:=ha pos pins _ σ H1 _ I2 h;rw[he]at h2;refine thn h2 λus s2 ⟨vs,H2,I3,r,a,rs,C,ev,z,ea,hz,q⟩=>⟨I3.kIn,?_⟩
 subst ev;cases r with
 |@cons v u vs us rv r=>
  obtain rfl:u=Value.ref a:=rv;have oa:=I3.hok a _ ea;obtain⟨⟨t0,go⟩,_,_⟩:=oa;obtain⟨h2,g2,d2,t2,os2⟩:=s2;refine tD (oe:=_) (t0:=t0) I3.kIn z go rfl rfl rfl (by rw[<-r.length];exact hz) ?_
  refine⟨.non,H2,?_,rfl,q⟩;have ge:((h2.push {cls:=.type "tuple",data:=.seq us.toArray}).update a (Obj.mapFields (·.setIfInBounds 0 (.ref h2.objs.size)))).get? a=some {cls:=.ref C,data:=.fields #[.ref h2.objs.size,.none,.none,.none,.bool false,.none]}:=
   HH _ (Hd _ go) rfl
  have w:=I3.write (x:=a) (e:=a) (o:=gS a C) (h':=(h2.push {cls:=.type "tuple",data:=.seq us.toArray}).update a (Obj.mapFields (·.setIfInBounds 0 (.ref h2.objs.size)))) (t':=t2) (by rw[ea];exact True.intro) (.inl rfl)
   (λb ob n q=>(HM _ _ (He n)).trans (Hd _ q)) ⟨_,ge⟩ (pT ge)
  have eq:upd H2 a (gS a C)=H2:=by
   funext b;by_cases hb:b=a
   ·rw[hb,ag,ea]
   ·rw[ae hb]
  rw[eq]at w;exact w
theorem wj(q:XIni X.K C fI f)(ha:PE X o ta)(hv:PE X value tv)(hs:swapsWith value (some (.Attribute o f pos')) pos.line X.env=pure false):PS X (.Assign [.Attribute o f pos'] value pos) (sXF C f ta tv):=by
 intro pins s σ H D I h;refine plainObj_wpAny_Assign_Attribute (thn (hv pins s σ H _ I h) λu s1 ⟨y,H1,I1,ry,h1⟩=>thn (ha pins s1 σ H1 _ I1 h1) λov s2 ⟨x,H2,I2,rx,a,ex,ea,h2⟩=>?_) hs
 subst ex;obtain rfl:ov=Value.ref a:=rx;obtain⟨⟨t0,go⟩,_,_⟩:=I2.hok a _ ea;refine xl (vs:=#[.ref t0,.none,.none,.none,.bool false,.none]) I2.kIn q.cl go rfl rfl rfl q.sa q.at_ q.hd q.ob λh' t' g1 g2 g3=>?_
 obtain⟨od,es,ep,gd,gr⟩:=id g2;have hn:H2 s2.heap.objs.size=none:=I2.hok.fresh (Hh _);have ne:s2.heap.objs.size≠a:=Nat.ne_of_gt (Hi go);have hk1:HOk X.prog X.w (upd H2 a (g5 a C s2.heap.objs.size)) h':=I2.hok.write (x:=a) (e:=a) (by rw[ea];exact True.intro) (.inl rfl) (λb u n q=>g3 b u n q) ⟨_,g1⟩ (vQ g1)
 have un:∀b u,H2 b=some u->(∀φ,u≠.ext φ)->upd (upd H2 a (g5 a C s2.heap.objs.size)) s2.heap.objs.size (.frz od (.xd [(f,y)])) b=some u:=λb u q nx=>by
  rw[ae (aA q hn),ae (λz=>by rw[z,ea]at q;cases q;exact nx _ rfl)]
  exact q
 refine⟨σ,_,I2.un (t':=t') ⟨λb ob z n _ _=>g3 b ob (λw=>by rw[w,ea]at n;cases n) z,λb ob z n _ _=>⟨ob.slots,g3 b ob (λw=>by rw[w,ea]at n;cases n) z⟩,λb ob z n _=>?_,λb ob z _=>?_,λb xs z=>un b _ z (λ_ w=>nomatch w),λb ob u z=>un b _ z (λ_ w=>nomatch w),λb ps z=>⟨#[],by rw[Array.append_empty];exact un b _ z (λ_ w=>nomatch w)⟩⟩ (λb u z=>?_),h2 _ od hn ne⟩
 ·rw[ae (Hx (Hi z)),ae (λw=>by rw[w,ea]at n;cases n)]
  exact n
 ·by_cases w:b=a
  ·subst w;exact⟨_,g1⟩
  ·exact⟨_,g3 b ob w z⟩
 ·by_cases w:b=s2.heap.objs.size
  ·subst w;rw[ag]at z;cases z;refine⟨gd,_,g2,λn=>?_⟩
   show RelO (List.lookup n [(f,y)]) (if n=f then some u else none)
   by_cases wn:n=f
   ·rw[Hg wn,wn,HX,beq_self_eq_true];exact ry
   ·rw[Hc wn,HX,HK.mpr wn];exact True.intro
  ·rw[ae w]at z;refine (hk1 b u z).stay (λ_ _ _ q=>q) (λc q=>?_) λc xs q=>?_
   ·rw[ae λe=>?_]
    ·exact q
    ·rw[e,ae ne,hn]at q;cases q
   ·rw[ae λe=>?_]
    ·exact q
    ·rw[e,ae ne,hn]at q;cases q
noncomputable def forget(H:Hp)(a:Addr):Hp:=λb=>if b=a then none else H b
theorem c7:forget H a a=none:=Hg rfl
theorem dJ(h:b≠a):forget H a b=H b:=Hc h
theorem Inv.forget(I:Inv X pins σ H s)(ea:H a=some (.ext φ)):Inv X pins σ (forget H a) s:=by
 have un:∀b u,H b=some u->(∀φ,u≠.ext φ)->L2.forget H a b=some u:=λb u q nx=>by
  rw[dJ (λz=>by rw[z,ea]at q;cases q;exact nx _ rfl)]
  exact q
 have nn:∀b,H b=none->L2.forget H a b=none:=λb n=>by
  by_cases w:b=a
  ·rw[w];exact c7
  ·rw[dJ w];exact n
 refine⟨I.ok,I.os,I.bare,⟨I.base.keep,I.base.slot,λb ob q n x=>nn b (I.base.free b ob q n x),I.base.there,λb xs q=>un b _ (I.base.tups b xs q) (λ_ w=>nomatch w),λb ob u q=>un b _ (I.base.frzs b ob u q) (λ_ w=>nomatch w),λb ps q=>?_⟩,I.loc,I.cell,nn _ I.free,λx c e=>nn _ (I.freeC x c e),λp hp=>?_,λb u q=>?_,I.len⟩
 ·obtain⟨m,z⟩:=I.base.tbls b ps q;exact⟨m,un b _ z (λ_ w=>nomatch w)⟩
 ·obtain⟨e,n,r⟩:=I.pin p hp;exact⟨e,nn _ n,r⟩
 ·have w:b≠a:=λw=>by rw[w,c7]at q;cases q
  rw[dJ w]at q;exact (I.hok b u q).stay (λ_ _ _ z=>z) (λc z=>un c _ z (λ_ w=>nomatch w)) λc xs z=>un c _ z (λ_ w=>nomatch w)
theorem rA{K:Iz}{A:Around}(hh:A.handled=none)(z:di K C=true)
  (h:wpAny (model prog w) A (eval ce env) (λv s1=>∃a t0 dx,v=.ref a/\K.In s1.heap/\s1.heap.get? a=some {cls:=.ref C,dict:=some dx,data:=.fields #[.ref t0,.none,.none,.none,.bool false,.none]}/\E (.ref a) s1) E s) :
  wpAny (model prog w) A (exec (.Raise (some ce) none pos) env) Q E s:=by
 rw[arm_exec_Raise];refine G8 (wpAny_standAt ?_);simp only[evalOpt,Option.map];unfold raiseStmt;refine G8 (G8 (Ig h (λv s1 ⟨a,t0,dx,ev,X,go,he⟩=>G8 (wpAny_standAt (Ha ?_))) λ_ _ x=>x))
 subst ev;obtain⟨bm,M,nm,qn,bs,b1,sn,sb,b2,co,dd,x0,x1,x2,x3,x5,hC,T⟩:=gB X z;have has:(Value.ref C::bm).contains (.type "BaseException")=true:=by rw[List.contains_cons,T.hasType exB.hasBase,Bool.or_true]
 obtain⟨hp,g,d,tk,os⟩:=s1
 repeat (first|with_reducible refine wpAny_loadPart_at go ?_|with_reducible refine wpAny_loadPart_at hC ?_|(with_reducible refine wpAny_isSubtype_exc hC ?_;rw[has])|wp_step)
 exact wpAny_raiseNew_none hh he
noncomputable def iK(cp:Bool)(K:Iz)(C:Addr)(f:Str):Sp:=λvs H Q _=>∃a v,vs=[.ref a,v]/\H a=some (gS a C)/\(cp=false->∀dx ob,H dx=none->dx≠a->Q .non (upd (upd H a (g5 a C dx)) dx (.frz ob (.xd [(f,v)]))))/\
 (cp=true->∃p ws,v=.ref p/\SqL K H p ws/\∀q dx ob,H q=none->H dx=none->dx≠a->dx≠q->Q .non (upd (upd (upd H q (.lst ws)) a (g5 a C dx)) dx (.frz ob (.xd [(f,.ref q)]))))
end
theorem yh{P:Program}{w:World}{K:Iz}{mg:Str->Option Value}{base:Heap}{fI C D:Addr}{name qual:Str}{params:Arguments}{scope:Scope}{kV doc pm cdv ct oc:Value}{an od:Option Addr}{osl:Array (Option Value)}{b sl pr f tx:Str}{j:Nat}{px apos p1 p2 cp p3 p4 p5 p6 p7:Pos}
  (lk:K.lookup fI=some ⟨oc,od,.func (PySem.W.fnOf name qual params [.Expr (.Call (.Attribute (.Name b px) "__init__" apos) [.Name sl p1,.Constant (.str tx) j p2] [] cp) p3,.Assign [.Attribute (.Name sl p4) f p5] (.Name pr p6) p7] scope .none kV doc pm an cdv ct),osl⟩)
  (hcd:PySem.W.codeIn K cdv qual=true) (S:FnScope [sl,pr] [sl,pr] scope) (hg:scope.names.lookup b=some .globalImplicit) (hm:mg b=some (.ref D)) (hl:(apos.endLine == cp.line)=true) (hb:BIni K D)(q:XIni K C fI f)
  (db1:(b == ("__debug__" : Str))=false) (db2:(sl == ("__debug__" : Str))=false) (db3:(pr == ("__debug__" : Str))=false) (cd2:(sl == ("__classdict__" : Str))=false) (cd3:(pr == ("__classdict__" : Str))=false) :
  FnOk P w K mg base (CX1 P w) 1 fI (PySem.W.fnOf name qual params [.Expr (.Call (.Attribute (.Name b px) "__init__" apos) [.Name sl p1,.Constant (.str tx) j p2] [] cp) p3,.Assign [.Attribute (.Name sl p4) f p5] (.Name pr p6) p7] scope .none kV doc pm an cdv ct) [sl,pr] (iK false K C f):=by
 refine uS (k:=0) lk hcd S (λvs H Q E ⟨_,_,e,_⟩=>by subst e;rfl) λA outer s H vs Q E hr hsp=>?_
 obtain⟨a,v,ev,ea,h,_⟩:=hsp;have h:=h rfl;subst ev;have vs:∀x∈[sl,pr],Vis scope x:=λx hx=>(S.par x hx).elim .inl λz=>.inr (.inl z)
 have h0:PE (cJ (CX1 P w) P w K mg base [sl,pr] qual scope fI cdv A outer s H E) (.Name sl p1) (tj 0):=jK rfl (vs _ (by simp)) db2 cd2
 have h4:PE (cJ (CX1 P w) P w K mg base [sl,pr] qual scope fI cdv A outer s H E) (.Name sl p4) (tj 0):=jK rfl (vs _ (by simp)) db2 cd2
 have h1:PE (cJ (CX1 P w) P w K mg base [sl,pr] qual scope fI cdv A outer s H E) (.Name pr p6) (tj 1):=jK rfl (vs _ (by simp)) db3 cd3
 refine⟨_,nc (lG (wZ (D:=D) hg hm db1 hb (aI h0 (aI t6 pa_nil)) hl (by simp) rfl rfl)) (vO (wj q h4 h1 rfl)),?_⟩
 refine⟨.ref a,rfl,?_⟩;refine⟨a,[.str tx],C,rfl,q.cl,ea,by rw[sizeLine_eq];simp,?_⟩
 exact⟨v,rfl,.ref a,rfl,a,rfl,ea,λdx ob n ne=>h dx ob n ne⟩
end L2
namespace L2
open PySem PySem.Spec PyProof.Rows
noncomputable def aL(names:List (Str×NameKind))(cs:List (Str×Addr))(acc:List (Str×Addr)):List (Str×Addr):=match names with
 |[]=>acc
 |(n,k)::r=>if k=.free then (match cs.lookup n with|some c=>aL r cs ((n,c)::acc)|none=>aL r cs acc) else aL r cs acc
theorem bV{cs:List (Str×Addr)}:∀{names:List (Str×NameKind)}{acc:List (Str×Addr)},(∀p∈acc,cs.lookup p.1=some p.2)->∀p∈aL names cs acc,cs.lookup p.1=some p.2
 |[],_,h,p,hp=>h p hp
 |(n,k)::r,acc,h,p,hp=>by
  unfold aL at hp;split at hp
  ·split at hp
   next c e=>
    refine bV (λq hq=>?_) p hp
    rcases Hj.mp hq with z|z
    ·subst z;exact e
    ·exact h q z
   next=>exact bV h p hp
  ·exact bV h p hp
theorem dU:∀{names:List (Str×NameKind)}{acc:List (Str×Addr)}{p:Str×Addr},p∈acc->p∈aL names cs acc
 |[],_,_,h=>h
 |(n,k)::r,acc,p,h=>by
  unfold aL;split
  ·split
   ·exact dU (Hb _ h)
   ·exact dU h
  ·exact dU h
theorem ei{cs:List (Str×Addr)}(e:cs.lookup x=some c):∀{names:List (Str×NameKind)}{acc:List (Str×Addr)},(x,NameKind.free)∈names->(x,c)∈aL names cs acc
 |(n,k)::r,acc,h=>by
  rcases Hj.mp h with z|z
  ·cases z;unfold aL;rw[Hg rfl,e];exact dU Hf
  ·unfold aL;split
   ·split
    ·exact ei e z
    ·exact ei e z
   ·exact ei e z
theorem eV{l:List (Str×Addr)}(h:(x,c)∈l)(u:∀p∈l,p.1=x->p.2=c):l.lookup x=some c:=by
 induction l with
 |nil=>cases h
 |cons p r ih=>
  obtain⟨n,d⟩:=p;by_cases e:x=n
  ·subst e;rw[HX,beq_self_eq_true];exact congrArg some (u (x,d) Hf rfl)
  ·rw[HX];rw[HK.mpr e];rcases Hj.mp h with z|z
   ·cases z;exact absurd rfl e
   ·exact ih z λq hq=>u q (Hb _ hq)
theorem bK{l:List (Str×Addr)}(h:l.lookup x=some c):(x,c)∈l:=PySem.mem_of_lookup h
theorem ny{cs:List (Str×Addr)}(hm:(x,NameKind.free)∈names)(e:cs.lookup x=some c):(aL names cs []).lookup x=some c:=by
 refine eV (ei e hm) λp hp hx=>?_
 have z:=bV (acc:=[]) (λp hp=>nomatch hp) p hp
 rw[hx,e]at z;exact (Hv z).symm
theorem qK{env:Env}(e:env.cells.lookup n=some c):cellOf env n=pure c:=by
 unfold cellOf;rw[e]
theorem kC{scope:Scope}{env:Env}(h:∀y∈scope.names,y.2=.free->∃c,env.cells.lookup y.1=some c):closureFor scope env=pure (aL scope.names env.cells []):=by
 have go:∀(names:List (Str×NameKind)) (acc:List (Str×Addr)),(∀y∈names,y.2=.free->∃c,env.cells.lookup y.1=some c)->
   (forIn names acc λx r=>match x with
    |(n,k)=>if (k == NameKind.free)=true then do let c<-cellOf env n;pure (ForInStep.yield ((n,c)::r)) else pure (ForInStep.yield r):Sem (List (Str×Addr)))=pure (aL names env.cells acc):=by
  intro names
  induction names with
  |nil=>intro acc _;rfl
  |cons y r ih=>
   intro acc hy;obtain⟨n,k⟩:=y;rw[List.forIn_cons];by_cases hk:k=NameKind.free
   ·subst hk;obtain⟨c,e⟩:=hy (n,.free) Hf rfl;simp only[beq_self_eq_true,if_true];rw[qK e];show (forIn r ((n,c)::acc) _:Sem _)=_;rw[ih _ λz hz=>hy z (Hb _ hz)]
    conv=>rhs;unfold aL
    simp only[if_true,e]
   ·have hb:(k == NameKind.free)=false:=by simpa using hk
    simp only[hb,HE,if_false];show (forIn r acc _:Sem _)=_;rw[ih _ λz hz=>hy z (Hb _ hz)]
    conv=>rhs;unfold aL
    simp only[hk,if_false]
 have e:=go scope.names [] h;show ((forIn scope.names [] λx r=>match x with
    |(n,k)=>if (k == NameKind.free)=true then do let c<-cellOf env n;pure (ForInStep.yield ((n,c)::r)) else pure (ForInStep.yield r):Sem (List (Str×Addr))) >>=λz=>pure z)=_
 rw[e];rfl
theorem aJ:∀(names:List (Str×NameKind)) (n:Nat) (acc:List (Str×Addr)),cellsFrom n names acc=cellsFrom n names []++acc
 |[],_,_=>rfl
 |(x,k)::r,n,acc=>by
  unfold cellsFrom;split
  ·rw[aJ r (n+1) ((x,n)::acc),aJ r (n+1) [(x,n)],List.append_assoc];rfl
  ·exact aJ r n acc
theorem aE:∀{names:List (Str×NameKind)}{n:Nat}{p:Str×Addr},p∈cellsFrom n names []->(p.1,NameKind.cell)∈names/\n<=p.2
 |[],_,_,h=>nomatch h
 |(x,k)::r,n,p,h=>by
  unfold cellsFrom at h;split at h
  ·rename_i hk;rw[aJ]at h;rcases HU.mp h with z|z
   ·obtain⟨a,b⟩:=aE z;exact⟨Hb _ a,by omega⟩
   ·obtain rfl:=HY.mp z;exact⟨by rw[show k=NameKind.cell from by simpa using hk];exact Hf,Hh _⟩
  ·obtain⟨a,b⟩:=aE h;exact⟨Hb _ a,b⟩
theorem cI:∀{names:List (Str×NameKind)}{n:Nat}{x:Str},(x,NameKind.cell)∈names->∃c,(x,c)∈cellsFrom n names []
 |(y,k)::r,n,x,h=>by
  rcases Hj.mp h with z|z
  ·cases z;unfold cellsFrom;rw[Hg (by rfl),aJ]
   exact⟨n,Hz _ Hf⟩
  ·unfold cellsFrom;split
   ·obtain⟨c,e⟩:=cI z (n:=n+1);rw[aJ];exact⟨c,Im _ e⟩
   ·exact cI z
theorem dS:∀{l:List (Str×Addr)}{x:Str}{c:Addr},(x,c)∈l->∃c',l.lookup x=some c'
 |(y,d)::r,x,c,h=>by
  rw[HX];cases e:x == y with
  |true=>exact⟨d,rfl⟩
  |false=>
   rcases Hj.mp h with z|z
   ·cases z;simp at e
   ·exact dS z
theorem g7
  (hQ:Q {scope:=scope,locals:=s.heap.objs.size,globals:=globals,cells:=cellsFrom (s.heap.objs.size+1) scope.names []++cl,qual:=qual,func:=none,code:=outer.code,frame:=outer.frame,builtins:=outer.builtins} {s with heap:=pushCells (s.heap.push {cls:=.type "dict",data:=.dict #[]}) scope.names}) :
  wpAny M A (newFunctionEnv scope globals cl [] qual none .none (some outer)) Q E s:=by
 simp only[newFunctionEnv,Option.isSome_some,if_true];refine G8 (wpAny_alloc ?_);refine G8 (wpAny_layCells _ (λname kind cells=>by cases hkc:kind == NameKind.cell<;>simp[hkc]) _ _ _ _ ?_)
 rw[show ({s with heap:=s.heap.push {cls:=.type "dict",data:=.dict #[]}}:Shared).heap.objs.size=s.heap.objs.size+1 from Heap.size_push ..,aJ]
 refine G8 ?_;rw[List.forIn_nil];exact Ha (Ha hQ)
noncomputable def eK(N:List Str)(js:List (Option Nat))(sc osc:Scope)(oN:List Str):Bool:=
 N.length == js.length&&decide N.Nodup&&
 (N.zip js).all (λp=>match p.2 with
  |none=>sc.names.lookup p.1 == some .local||sc.names.lookup p.1 == some .cell
  |some j=>oN[j]? == some p.1&&sc.names.contains (p.1,NameKind.free)&&osc.names.lookup p.1 == some .cell)&&
 decide (sc.names.map (·.1)).Nodup&&sc.names.all (λy=>(y.2 != .free||osc.names.lookup y.1 == some .cell)&&(y.2 != .local||sc.names.lookup y.1 == some .local))&&(sc.kind == .function)&&(osc.kind == .function)
noncomputable def jQ(js:List (Option Nat))(σ:St):St:=js.map λo=>o.bind λj=>(σ[j]?).bind id
noncomputable abbrev compCx(X:Cx)(scope:Scope)(C:Addr)(N:List Str)(s2:Shared)(H2:Hp)(fp:List Addr)(pins:List (Addr×Obj)):Cx:=
 {X with env:=compEnvC scope (cellsFrom (C+1) scope.names []++aL scope.names X.env.cells []) C X.env,N:=N,s₀:=s2,H₀:=H2,outer:=X.stack,stack:=X.stack,ex:=fp,fn:=λx=>scope.names.lookup x == some .cell,pn:=X.pn++pins,xe:=λ_ _=>False}
theorem gX{env:Env}(hk:env.scope.kind=.function)(hc:env.kindOf x=some .cell):∀{names:List (Str×NameKind)},(x,NameKind.free)∈names->(∀y∈names,y.1=x->y.2=.free)->
  (names.map λ(n,k)=>if (k == .free&&env.scope.kind == .function&&env.kindOf n == some .cell) then (n,.cell) else (n,k)).lookup x=some NameKind.cell
 |(n,k)::r,hm,hu=>by
  show List.lookup x ((if (k == NameKind.free&&env.scope.kind == .function&&env.kindOf n == some .cell)=true then (n,NameKind.cell) else (n,k))::_)=_
  by_cases e:x=n
  ·subst e;have ek:k=.free:=hu (x,k) Hf rfl;subst ek;simp only[hk,hc,beq_self_eq_true,Bool.and_self,if_true];rw[HX,beq_self_eq_true]
  ·have hm':(x,NameKind.free)∈r:=by
    rcases Hj.mp hm with z|z
    ·cases z;exact absurd rfl e
    ·exact z
   have ih:=gX hk hc hm' λy hy=>hu y (Hb _ hy)
   split
   ·rw[HX,HK.mpr e];exact ih
   ·rw[HX,HK.mpr e];exact ih
structure CompOk (N:List Str) (js:List (Option Nat)) (sc osc:Scope)(oN:List Str):Prop where
 len:N.length=js.length
 nd:N.Nodup
 own:∀(i:Nat)(x:Str),N[i]?=some x->js[i]?=some none->sc.names.lookup x=some .local\/sc.names.lookup x=some .cell
 fr:∀(i:Nat)(x:Str)(j:Nat),N[i]?=some x->js[i]?=some (some j)->oN[j]?=some x/\(x,NameKind.free)∈sc.names/\osc.names.lookup x=some .cell
 ndn:(sc.names.map (·.1)).Nodup
 nf:∀y∈sc.names,y.2=.free->osc.names.lookup y.1=some .cell
 nl:∀y∈sc.names,y.2=.local->sc.names.lookup y.1=some .local
 k1:sc.kind=.function
 k2:osc.kind=.function
theorem lv(h:eK N js sc osc oN=true):CompOk N js sc osc oN:=by
 unfold eK at h;simp only[G9,Hs,Hk,HC,Bool.or_eq_true,bne_iff_ne]at h;obtain⟨⟨⟨⟨⟨⟨h1,h2⟩,h3⟩,h4⟩,h5⟩,h6⟩,h7⟩:=h;have zip:∀(i:Nat)(x:Str)(o:Option Nat),N[i]?=some x->js[i]?=some o->(x,o)∈N.zip js:=λi x o e1 e2=>
  HL (i:=i) (by rw[List.getElem?_zip_eq_some];exact⟨e1,e2⟩)
 refine⟨h1,h2,λi x e1 e2=>?_,λi x j e1 e2=>?_,h4,λy hy e=>?_,λy hy e=>?_,h6,h7⟩
 ·have z:=h3 _ (zip i x _ e1 e2);simpa using z
 ·have z:=h3 _ (zip i x _ e1 e2);simp only[G9,Hs]at z;exact⟨z.1.1,List.contains_iff_mem.mp z.1.2,z.2⟩
 ·rcases (h5 y hy).1 with z|z
  ·exact absurd e z
  ·exact z
 ·rcases (h5 y hy).2 with z|z
  ·exact absurd e z
  ·exact z
theorem eL{env:Env}:∀{names:List (Str×NameKind)},
  (names.map λ(n,k)=>if (k == .free&&env.scope.kind == .function&&env.kindOf n == some .cell) then (n,.cell) else (n,k)).lookup x=some k->∃k',(x,k')∈names/\(k'=k\/k'=.free)
 |[],h=>by cases h
 |(n,k0)::r,h=>by
  have h:List.lookup x ((if (k0 == NameKind.free&&env.scope.kind == .function&&env.kindOf n == some .cell)=true then (n,NameKind.cell) else (n,k0))::_)=_:=h
  by_cases e:x=n
  ·subst e;split at h
   next hc=>
    refine⟨k0,Hf,.inr ?_⟩;have:=(Ix.mp (Ix.mp hc).1).1;simpa using this
   next=>
    rw[HX,beq_self_eq_true]at h;exact⟨k0,Hf,.inl (Hv h)⟩
  ·have h':List.lookup x (r.map λ(n,k)=>if (k == .free&&env.scope.kind == .function&&env.kindOf n == some .cell) then (n,.cell) else (n,k))=some k:=by
    split at h
    ·rw[HX,HK.mpr e]at h;exact h
    ·rw[HX,HK.mpr e]at h;exact h
   obtain⟨k',m,z⟩:=eL h';exact⟨k',Hb _ m,z⟩
theorem r8(I:Nat->Shared->Prop)
  (turn:∀n s,I n s->wpAny (model prog w) A (pyNext it) (λr s1=>match r with
   |none=>R (.ok .next) s1
   |some v=>wpAny (model prog w) A (letOwnedTupleGo target it v) (λ_ s2=>wpAny (model prog w) A (assign target env v) (λ_ s3=>
     wpAny (model prog w) A (forIn ifs true λc r=>if r=true then do let ok<-isTrue c env (eval c env);pure (ForInStep.yield ok) else pure (ForInStep.yield r)) (λok s4=>
      if ok=true then wpAny (model prog w) A (eval elt env) (λx s5=>wpAny (model prog w) A (call (.builtin "list.append") [acc,x]) (λ_ s6=>∃m,m<n/\I m s6) (λ_ _=>False) s5) (λ_ _=>False) s4
      else ∃m,m<n/\I m s4) (λ_ _=>False) s3) (λ_ _=>False) s2) (λ_ _=>False) s1) (λ_ _=>False) s)
  (n:Nat)(h:I n s):codeAny (model prog w) A (.compLoop (.ListComp elt [⟨target,iter,ifs,0⟩] scope pos) 0 it acc env) R s:=by
 have no:∀{α:Type}{t:Sem α}{Q:α->Shared->Prop}{E:Value->Shared->Prop}{z:Shared},wpAny (model prog w) A t Q (λ_ _=>False) z->wpAny (model prog w) A t Q E z:=λh=>wpAny_noRaise h
 refine codeAny_loop rfl I (λn s hI=>?_) n h
 show wpAny _ A ((compTurn (.ListComp elt [⟨target,iter,ifs,0⟩] scope pos) 0 it acc env).onRaise (λx=>do noteFrame x env;theTreesLotGoes x)) _ _ s
 refine wpAny_noted ?_;rw[compTurn_list];refine G8 (wpAny_standAt (G8 (no (Ig (turn n s hI) (λr s1 h1=>?_) λ_ _ z=>z))))
 cases r with
 |none=>exact Ha h1
 |some v=>
  refine G8 (no (Ig h1 (λ_ s2 h2=>?_) λ_ _ z=>z))
  refine G8 (no (Ig h2 (λ_ s3 h3=>?_) λ_ _ z=>z))
  refine G8 (no (Ig h3 (λok s4 h4=>?_) λ_ _ z=>z))
  cases ok with
  |false=>exact Ha ⟨rfl,h4⟩
  |true=>
   refine G8 (G8 (no (Ig h4 (λx s5 h5=>?_) λ_ _ z=>z)))
   exact G8 (no (Ig h5 (λ_ s6 h6=>Ha (Ha ⟨rfl,h6⟩)) λ_ _ z=>z))
def PIf(X:Cx)(ifs:List Expr)(tt:TT):Prop:=∀(pins:List (Addr×Obj)) (s:Shared)(σ:St)(H:Hp)(Q:Bool->Hp->Prop),Inv X pins σ H s->tt σ H Q->
 wpAny (model X.prog X.w) X.A (forIn ifs true λc r=>if r=true then do let ok<-isTrue c X.env (eval c X.env);pure (ForInStep.yield ok) else pure (ForInStep.yield r)) (TP X pins σ Q) X.xe s
noncomputable def tYes:TT:=λ_ H Q=>Q true H
theorem vS:PIf X [] tYes:=λpins s σ H Q I h=>wpAny_tests_nil ⟨H,I,h⟩
theorem xa(h:PT X c t):PIf X [c] t:=λpins s σ H Q I q=>wpAny_tests_one (h pins s σ H Q I q)
noncomputable def pW(js:List (Option Nat))(wi:TI)(g:TG)(tt:TT)(te:TE):TE:=λσ H Q=>wi σ H λJ H1=>∀p,H1 p=none->∃W:Nat->Nat->St->Hp->Prop,(∃m,W 0 m (jQ js σ) (upd H1 p (.lst [])))/\
 ∀(i:Nat) m σc H,W i m σc H->(J.stop i H/\Q (.ref p) H)\/(J.go i H/\∀x H',J.yld i H x H'->g x σc H' λσ2 H2=>tt σ2 H2 λb H3=>
  if b=true then te σ2 H3 λy H4=>∃ys,H4 p=some (.lst ys)/\ys.length<sizeLine/\∃m',m' < m/\W (i+1) m' σ2 (upd H4 p (.lst (ys++[y]))) else ∃m',m' < m/\W (i+1) m' σ2 H3)
section
variable {X:Cx}
theorem nz(hok:eK N js scope X.env.scope X.N=true)(hcalm:X.calm=true)(hi:PI X tg iter wi)
  (hg:∀C s2 H2 fp pn,PG (compCx X scope C N s2 H2 fp pn) tg g) (ht:∀C s2 H2 fp pn,PIf (compCx X scope C N s2 H2 fp pn) ifs tt) (he:∀C s2 H2 fp pn,PE (compCx X scope C N s2 H2 fp pn) elt te)
  (hs:∀x,foldedSetIterable iter X.env x=pure x) (I:Inv X pins σ H s)(h:pW js wi g tt te σ H Q)
  (fin:∀(D C:Addr)(s5:Shared)(H4:Hp)(m5:Str->Option Value),s5.heap.Ns C m5->gD X pins H4 C->(∀h',Heap.SameBut C s5.heap h'->Inv X pins σ H4 {s5 with heap:=h'})->Q (.ref D) H4->compPost (model X.prog X.w) X.A X.xe use Qf (.ref D) C (.ok .next) s5) :
  wpAny (model X.prog X.w) X.A (comprehension (.ListComp elt [⟨tg,iter,ifs,0⟩] scope pos) scope X.env pos' (newList []) false (eval iter X.env) use) Qf X.xe s:=by
 have O:=lv hok;have hcells:∀y∈scope.names,y.2=.free->∃c,X.env.cells.lookup y.1=some c:=λy hy e=>I.ok.has y.1 (.inl (O.nf y hy e))
 refine wpAny_comprehension_free (use:=use) rfl hs (kC hcells) O.k1 O.nl (thn (hi pins s σ H _ I h) λxv s1 h1=>thn h1 λitv s2 h2=>?_)
 obtain⟨it,fp,tn,J,H2,rfl,I2,T,st2,f2,hQ⟩:=h2;refine HP (g7 ?_);dsimp only;have sz1:(s2.heap.push {cls:=.type "list",dict:=none,data:=.seq ([]:List Value).toArray}).objs.size=s2.heap.objs.size+1:=Heap.size_push ..;have sz2:((s2.heap.push {cls:=.type "list",dict:=none,data:=.seq ([]:List Value).toArray}).push {cls:=.type "dict",data:=.dict #[]}).objs.size=s2.heap.objs.size+1+1:=by rw[Heap.size_push,sz1]
 have hns:(pushCells ((s2.heap.push {cls:=.type "list",dict:=none,data:=.seq ([]:List Value).toArray}).push {cls:=.type "dict",data:=.dict #[]}) scope.names).Ns (s2.heap.objs.size+1) (λ_=>none):=by
  rw[<-sz1];exact (Heap.Ns.new _ (.type "dict")).keeps (pushCells_keeps _ _)
 have keep:∀b o,s2.heap.get? b=some o->(pushCells ((s2.heap.push {cls:=.type "list",dict:=none,data:=.seq ([]:List Value).toArray}).push {cls:=.type "dict",data:=.dict #[]}) scope.names).get? b=some o:=λb o e=>
  pushCells_keeps _ _ b o (Hd _ (Hd _ e))
 have atD:(pushCells ((s2.heap.push {cls:=.type "list",dict:=none,data:=.seq ([]:List Value).toArray}).push {cls:=.type "dict",data:=.dict #[]}) scope.names).get? s2.heap.objs.size=some {cls:=.type "list",data:=.seq ([]:List Value).toArray}:=
  pushCells_keeps _ _ _ _ (Hd _ (Hn _ rfl))
 have cok:=cellsFrom_ok scope.names ((s2.heap.push {cls:=.type "list",dict:=none,data:=.seq ([]:List Value).toArray}).push {cls:=.type "dict",data:=.dict #[]}) (s2.heap.objs.size+1+1) [] ⟨λ_ _ hm=>(nomatch hm),List.Pairwise.nil⟩ (by rw[sz2];exact Hh _)
 rw[sz2]at cok;rw[sz1];generalize pushCells ((s2.heap.push {cls:=.type "list",dict:=none,data:=.seq ([]:List Value).toArray}).push {cls:=.type "dict",data:=.dict #[]}) scope.names=h1' at hns keep atD cok ⊢;have frD:H2 s2.heap.objs.size=none:=I2.hok.fresh (Hh _);have frC:H2 (s2.heap.objs.size+1)=none:=I2.hok.fresh (Il _);have hCD:s2.heap.objs.size+1≠s2.heap.objs.size:=Nat.succ_ne_self _;obtain⟨W,⟨m0,w0⟩,turn⟩:=hQ s2.heap.objs.size frD;have fpThere:∀b∈fp,b<s2.heap.objs.size:=λb hb=>by
  obtain⟨o,e,_⟩:=T.obj 0 _ st2 b hb;exact Hi e
 have lk:∀x c,(cellsFrom (s2.heap.objs.size+1+1) scope.names []++aL scope.names X.env.cells []).lookup x=some c->(x,c)∈cellsFrom (s2.heap.objs.size+1+1) scope.names []\/X.env.cells.lookup x=some c:=λx c e=>by
  rcases HU.mp (bK e) with z|z
  ·exact .inl z
  ·exact .inr (bV (acc:=[]) (λp hp=>nomatch hp) _ z)
 have old:∀x c,X.env.cells.lookup x=some c->c<s2.heap.objs.size:=λx c e=>by
  obtain⟨v,o,ho,hd⟩:=I2.cell x c e;exact Hi ho
 have cne:∀b∈fp,∀x c,(cellsFrom (s2.heap.objs.size+1+1) scope.names []++aL scope.names X.env.cells []).lookup x=some c->c≠b:=λb hb x c e=>by
  rcases lk x c e with z|z
  ·have a1:=(aE z).2;exact Nat.ne_of_gt (Ho (fpThere b hb) (Hw (Ip _ 2) a1))
  ·exact (f2 b hb).2.2.2.2.1 x c z
 let Xc:Cx:=compCx X scope (s2.heap.objs.size+1) N s2 H2 fp pins
 have cOk:Xc.Ok:=by
  refine⟨I2.ok.mod,O.k1,I2.ok.glob,I2.ok.blt,Il _,λx y c e1 e2=>?_,λx hx=>?_,λx c e1 e2=>?_,I2.ok.hd,I2.ok.frames,.inl rfl,λb hb=>?_,I2.bs,Hw I2.ok.bsz I2.sz,λb o e hb=>?_,λb hb hm=>?_,I2.stack,I2.stkFree⟩
  ·rcases lk x c e1 with z1|z1<;>rcases lk y c e2 with z2|z2
   ·exact name_of_addr cok.apart z1 z2
   ·have a1:=(aE z1).2;exact absurd (Ho (old _ _ z2) (Hw (Ip _ 2) a1)) (Ik _)
   ·have a1:=(aE z2).2;exact absurd (Ho (old _ _ z1) (Hw (Ip _ 2) a1)) (Ik _)
   ·exact I2.ok.inj x y c z1 z2
  ·have hx:(relabel scope X.env).names.lookup x=some .cell\/(relabel scope X.env).names.lookup x=some .free:=hx;have key:(x,NameKind.free)∈scope.names\/(x,NameKind.cell)∈scope.names:=by
    rcases hx with hx|hx
    ·obtain⟨k',m,z⟩:=eL hx;rcases z with z|z
     ·subst z;exact .inr m
     ·subst z;exact .inl m
    ·obtain⟨k',m,z⟩:=eL hx;rcases z with z|z<;>(subst z;exact .inl m)
   rcases key with key|key
   ·obtain⟨c,e⟩:=hcells _ key rfl;exact dS (Hz _ (bK (ny key e)))
   ·obtain⟨c,e⟩:=cI key (n:=s2.heap.objs.size+1+1);exact dS (Im _ e)
  ·have e1:scope.names.lookup x=some .cell:=Hs.mp e1;obtain⟨c1,h1⟩:=cI (PySem.mem_of_lookup e1) (n:=s2.heap.objs.size+1+1);obtain⟨c2,h2⟩:=dS h1;have e2:(cellsFrom (s2.heap.objs.size+1+1) scope.names []++aL scope.names X.env.cells []).lookup x=some c:=e2;rw[List.lookup_append,h2]at e2;cases e2;have a1:=(aE (bK h2)).2;exact Hw (Ip _ 2) a1
  ·exact⟨Hx (Nat.lt_succ_of_lt (fpThere b hb)),λx c e=>cne b hb x c e⟩
  ·rcases (f2 b hb).2.2.2.1 with z|z
   ·exact I2.ok.noex b o e z
   ·exact absurd (Ho (Hi e) (Hw I2.ok.bsz z)) (Ik _)
  ·rcases Hj.mp (I2.stkSub b hm) with z|z
   ·exact (f2 b hb).2.1 z
   ·exact (f2 b hb).2.2.1 z
 have I3:Inv Xc [] (jQ js σ) (upd H2 s2.heap.objs.size (.lst [])) {s2 with heap:=h1'}:=by
  refine⟨cOk,rfl,I2.bare,Un.laid keep (Hh _) frD,⟨_,hns,λi x v e1 e2 e3=>?_⟩,λx c e=>?_,?_,λx c e=>?_,λp hp=>?_,?_,?_⟩
  ·have e2:(js.map λo=>o.bind λj=>(σ[j]?).bind id)[i]?=some (some v):=e2
   rw[HB]at e2;cases q:js[i]? with
   |none=>rw[q]at e2;cases e2
   |some o=>
    rw[q]at e2;cases o with
    |none=>cases e2
    |some j=>
     obtain⟨a1,a2,a3⟩:=O.fr i x j e1 q;have hv:σ[j]?=some (some v):=by
      cases z:σ[j]? with
      |none=>rw[Option.map_some,Option.bind_some,z]at e2;cases e2
      |some y=>
       rw[Option.map_some,Option.bind_some,z]at e2;have e2:some (id y)=some (some v):=e2;rw[show y=some v from Hv e2]
     obtain⟨m,hn,hl⟩:=I2.loc;obtain⟨u,r,l⟩:=hl j x v a1 hv (.inr (.inl a3));refine⟨u,r,?_⟩;rcases l with ⟨k,_⟩|⟨k,c,e,o,ho,hd⟩
     ·rw[show X.env.kindOf x=some .cell from a3]at k;cases k
     ·have only:∀y∈scope.names,y.1=x->y.2=.free:=λy hy hyx=>?_
      ·refine .inr ⟨.inl (gX I2.ok.kind a3 a2 only),c,eV (Hz _ (bK (ny a2 e))) (λp hp hx=>?_),o,keep _ _ ho,hd⟩
       rcases HU.mp hp with z|z
       ·have:=only _ (aE z).1 hx;cases this
       ·have z:=bV (acc:=[]) (λp hp=>nomatch hp) p z
        rw[hx,e]at z;exact (Hv z).symm
      obtain⟨i1,h1,e1'⟩:=List.mem_iff_getElem.mp hy;obtain⟨i2,h2,e2'⟩:=List.mem_iff_getElem.mp a2;have:i1=i2:=by
       refine (List.getElem_inj (h₀:=by rw[Hm];exact h1) (h₁:=by rw[Hm];exact h2) O.ndn).mp ?_
       rw[List.getElem_map,List.getElem_map,e1',e2'];exact hyx
      subst this;rw[e1']at e2';rw[e2']
  ·rcases lk x c e with z|z
   ·exact⟨none,(cok.empty x c z).1⟩
   ·obtain⟨v,o,ho,hd⟩:=I2.cell x c z;exact⟨v,o,keep _ _ ho,hd⟩
  ·show upd H2 _ _ (s2.heap.objs.size+1)=none;rw[ae hCD];exact frC
  ·rcases lk x c e with z|z
   ·have a1:=(aE z).2;show upd H2 _ _ c=none;rw[ae (Nat.ne_of_gt (Ho (Nat.lt_add_of_pos_right (by decide:0<2)) a1))]
    exact I2.hok.fresh (Hw (Ip _ 2) a1)
   ·have a2:=old _ _ z;show upd H2 _ _ c=none;rw[ae (Hx a2)];exact I2.freeC x c z
  ·have hp:p∈X.pn++pins:=by rw[Ia]at hp;exact hp
   obtain⟨e,n,ne,nf,d⟩:=I2.pin p hp;refine⟨keep _ _ e,by rw[ae (Hx (Hi e))];exact n,Hx (Nat.lt_succ_of_lt (Hi e)),λhm=>?_,d⟩
   rcases Hj.mp (I2.stkSub _ hm) with z|z
   ·exact ne z
   ·exact nf z
  ·exact I2.hok.laid keep (Hh _) ⟨Nat.zero_le _,[],0,.nil,atD⟩
  ·show (js.map _).length=N.length;rw[Hm,O.len]
 have fpc:∀{H':Hp},(∀b∈fp,H' b=none)->∀b∈fp,gD Xc [] H' b:=λ{H'} hn b hb=>by
  refine⟨hn b hb,Hx (Nat.lt_succ_of_lt (fpThere b hb)),λhm=>?_,.inl hb,λx c e=>cne b hb x c e,λp hp=>(f2 b hb).2.2.2.2.2 p (by rw[Ia]at hp;exact hp)⟩
  rcases Hj.mp (I2.stkSub b hm) with z|z
  ·exact (f2 b hb).2.1 z
  ·exact (f2 b hb).2.2.1 z
 have st3:tn 0 h1':=T.keep 0 _ _ st2 λb hb o e=>keep b o e
 have fr3:∀b∈fp,(upd H2 s2.heap.objs.size (.lst [])) b=none:=λb hb=>by
  rw[ae (Hx (fpThere b hb))];exact (f2 b hb).1
 have loop:codeAny (model X.prog X.w) X.A (.compLoop (.ListComp elt [⟨tg,iter,ifs,0⟩] scope pos) 0 (.ref it) (.ref s2.heap.objs.size) (compEnvC scope (cellsFrom (s2.heap.objs.size+1+1) scope.names []++aL scope.names X.env.cells []) (s2.heap.objs.size+1) X.env))
   (compPost (model X.prog X.w) X.A X.xe use Qf (.ref s2.heap.objs.size) (s2.heap.objs.size+1)) {s2 with heap:=h1'}:=by
  refine r8 (λn s'=>∃i σc H',Inv Xc [] σc H' s'/\tn i s'.heap/\(∀b∈fp,H' b=none)/\W i n σc H') ?_ m0 ⟨0,_,_,I3,st3,fr3,w0⟩
  rintro n s4 ⟨i,σc,H4,I4,st4,fr4,w4⟩;rcases turn i n σc H4 w4 with ⟨stop,q⟩|⟨go,step⟩
  ·refine thn (T.done Xc rfl rfl rfl hcalm i [] s4 σc H4 (λ_ _=>False) I4 (fpc fr4) st4 stop) λr s5 ⟨hr,I5⟩=>?_
   subst hr;obtain⟨m5,hn5,_⟩:=I5.loc;have un5:Un (frs X.stack) fp H2 H4 s2.heap s5.heap:=I5.base;have neC:∀b o,s2.heap.get? b=some o->b≠s2.heap.objs.size+1:=λb o e=>Hx (Nat.lt_succ_of_lt (Hi e))
   have fC:H4 (s2.heap.objs.size+1)=none:=I5.free;refine fin _ _ _ H4 m5 hn5 (I2.fpOk (Il _) fC) (λh' hsame=>?_) q
   refine I2.call' (s':={s5 with heap:=h'}) (ch:=fp) I5.os ⟨λb o q n hb hx=>(hsame.2 b (neC b o q)).trans (un5.keep b o q n hb hx),λb o q n hb hx=>?_,un5.free,λb o q hx=>?_,un5.tups,un5.frzs,un5.tbls⟩ ?_ I5.bare (λb hb=>⟨(f2 b hb).2.2.2.1,(f2 b hb).2.1,(f2 b hb).2.2.2.2.1,(f2 b hb).2.2.2.2.2⟩)
   ·obtain⟨sl,z⟩:=un5.slot b o q n hb hx;exact⟨sl,(hsame.2 b (neC b o q)).trans z⟩
   ·obtain⟨o',z⟩:=un5.there b o q hx;exact⟨o',(hsame.2 b (neC b o q)).trans z⟩
   ·exact I5.hok.keptT λb u ob hb q=>(hsame.2 b λz=>by rw[z,fC]at hb;cases hb).trans q
  ·refine thn (T.item Xc rfl rfl rfl hcalm i [] s4 σc H4 (λ_ _=>False) I4 (fpc fr4) st4 go) λr s5 ⟨u,hr,h5⟩=>?_
   subst hr;refine thn h5 λ_ s6 ⟨x,H6,I6,r6,y6,st6,fr6⟩=>?_
   have I6':=I6.pinned (fpc fr6) (T.obj _ _ st6);refine thn (hg _ _ _ _ _ _ s6 σc H6 x u _ I6' r6 (step x H6 y6)) λ_ s7 ⟨σ7,H7,I7,q7⟩=>?_
   refine thn (ht _ _ _ _ _ _ s7 σ7 H7 _ I7 q7) λok s8 ⟨H8,I8,q8⟩=>?_
   have back:∀{H9:Hp}{s9:Shared}{σ9:St},Inv Xc ([]++jm fp s6.heap) σ9 H9 s9->Inv Xc [] σ9 H9 s9/\tn (i+1) s9.heap/\∀b∈fp,H9 b=none:=λ{H9 s9 σ9} I9=>by
    refine⟨I9.unpinned,T.keep _ _ _ st6 λb hb o e=>(I9.pin (b,o) (Hz _ (Hz _ (dZ hb e)))).1,λb hb=>?_⟩
    obtain⟨o,e,d⟩:=T.obj _ _ st6 b hb;exact (I9.pin (b,o) (Hz _ (Hz _ (dZ hb e)))).2.1
   cases ok with
   |false=>
    rw[Hc Hq]at q8 ⊢;obtain⟨m',hm,w8⟩:=q8;obtain⟨b1,b2,b3⟩:=back I8;exact⟨m',hm,i+1,σ7,H8,b1,b2,b3,w8⟩
   |true=>
    rw[Hg rfl]at q8 ⊢;refine thn (he _ _ _ _ _ _ s8 σ7 H8 _ I8 q8) λy s9 ⟨z,H9,I9,r9,ys,e9,hl,m',hm,w9⟩=>?_
    refine thn (k6 (X:=Xc) _ s9 σ7 H9 (.ref s2.heap.objs.size) [z] (.ref s2.heap.objs.size) [y] (λ_ H10=>H10=upd H9 s2.heap.objs.size (.lst (ys++[z]))) I9 rfl (.cons r9 .nil) ⟨_,ys,z,rfl,rfl,e9,hl,rfl⟩) λ_ s10 ⟨_,H10,I10,_,e10⟩=>?_
    subst e10;obtain⟨b1,b2,b3⟩:=back I10;exact⟨m',hm,i+1,σ7,_,b1,b2,b3,w9⟩
 exact codeAny_compStart_list loop (T.self _ 0 _ _ _ st3 loop)
theorem vh(hok:eK N js scope X.env.scope X.N=true)(hcalm:X.calm=true)(hi:PI X tg iter wi)
  (hg:∀C s2 H2 fp pn,PG (compCx X scope C N s2 H2 fp pn) tg g) (ht:∀C s2 H2 fp pn,PIf (compCx X scope C N s2 H2 fp pn) ifs tt) (he:∀C s2 H2 fp pn,PE (compCx X scope C N s2 H2 fp pn) elt te)
  (hs:∀x,foldedSetIterable iter X.env x=pure x:=by intro _;rfl):PE X (.ListComp elt [⟨tg,iter,ifs,0⟩] scope pos) (pW js wi g tt te):=λpins s σ H Q I h=>by
 rw[eval_ListComp];exact nz (use:=none) hok hcalm hi hg ht he hs I h λD C s5 H4 m5 hn _ key q=>⟨m5,hn,λh' hs'=>⟨.ref D,H4,key h' hs',rfl,q⟩⟩
theorem jU{spos:Pos}(hN:X.N.Nodup)(hy:X.N[i]?=some y)(hl:X.env.scope.names.lookup y=some .local)(hok:eK N js scope X.env.scope X.N=true)(hcalm:X.calm=true)(hi:PI X tg iter wi)
  (hg:∀C s2 H2 fp pn,PG (compCx X scope C N s2 H2 fp pn) tg g) (ht:∀C s2 H2 fp pn,PIf (compCx X scope C N s2 H2 fp pn) ifs tt) (he:∀C s2 H2 fp pn,PE (compCx X scope C N s2 H2 fp pn) elt te)
  (hs:∀x,foldedSetIterable iter X.env x=pure x) (hsw:swapsWith (.ListComp elt [⟨tg,iter,ifs,0⟩] scope pos) (some (.Name y py)) spos.line X.env=pure true) :
  PS X (.Assign [.Name y py] (.ListComp elt [⟨tg,iter,ifs,0⟩] scope pos) spos) (AU (pW js wi g tt te) (pR i)):=by
 intro pins s σ H D I h;rw[exec_Assign_Name_used _ _ _ _ hsw];refine G8 (wpAny_standAt (G8 ?_));show wpAny _ _ (do let _<-comprehension (.ListComp elt [⟨tg,iter,ifs,0⟩] scope pos) scope X.env _ (newList []) false (eval iter X.env) (some (assign (.Name y py) X.env))) _ _ s
 refine G8 (Ig (nz (use:=some (assign (.Name y py) X.env)) (Qf:=λ_ s'=>SP X pins D .next s') hok hcalm hi hg ht he hs I h λDa C s5 H4 m5 hn fp key q=>?_) (λ_ s' hq=>Ha (Ha hq)) λ_ _ z=>z)
 show wpAny _ _ (assign (.Name y py) X.env (.ref Da)) _ _ _;have J:Inv X pins σ H4 s5:=key s5.heap (Heap.SameBut.refl _ _);obtain⟨oC,es,ep,eC,rC⟩:=id hn;obtain⟨f0,f1,f2,f3,f4,f5⟩:=id fp;have JC:Inv X (pins++[(C,oC)]) σ H4 s5:=J.pins_of λp hp=>by
  rcases HU.mp hp with z|z
  ·exact J.pin p (Hz _ z)
  ·have e:p=(C,oC):=by simpa using z
   subst e;exact⟨eC,f0,f1,f2,λv hv=>by
    have z:=rC.1;rw[show oC.data=.cell v from hv]at z;cases z⟩
 refine thn ((i8 (pos:=py) hN hy (.inl hl) (.inr hl)) _ s5 σ H4 (.ref Da) (.ref Da) (λσ' H'=>H'=H4/\D.nx σ' H') JC rfl ⟨rfl,q⟩) λ_ s6 ⟨σ6,H6,I6,e6,q6⟩=>?_
 subst e6;have eC6:s6.heap.get? C=some oC:=(I6.pin (C,oC) (Hz _ (Hz _ (by simp)))).1
 refine⟨m5,hn.at' λo e=>?_,λh' hsame=>⟨σ6,H6,?_,q6⟩⟩
 ·rw[eC]at e;cases e;exact eC6
 ·exact (Inv.unpinned I6).turned (t':=s6.toks) (it:=C) (λb o hb e=>(hsame.2 b hb).trans e) f0 f1 f3 f4 f5
end
end L2
namespace L2
open PySem PySem.Spec PySem.Calls PyProof.Rows PySem.W PySem.Builtin PySem.Builtin.ObjectAttr PySem.Builtin.Getset_descriptor
section
variable {h:Heap}{os:OsState}{o:Obj}{K:Iz}
theorem wm(X:K.In h)(hx:h.get? a=some o)(hc:o.cls=.ref C)(hm:PySem.W.mroIn K C (.type "object")=some true)(hq:R (.ok (.ret (.ref C))) ⟨h,g,d,t,os⟩) :
  codeAny (model prog w) A (.call (.builtin "getset_descriptor.__get__") ⟨[.builtin "object.__class__",.ref a,tp],[]⟩) R ⟨h,g,d,t,os⟩:=by
 have L0:PySem.W.Looks (model prog w) h (typeOf (.ref a)) (.ref C):=hc▸(PySem.W.Looks.ld hx).andThen .now;have L1:=PySem.W.looks_mroIn (M:=model prog w) X hm;refine codeAny_call_builtin KF.slot_gs.plain KF.entry_gs (KF.slot_gs.check _ _ _ _ _ _ _ _ KF.type_class (KF.args_gs _ _ _) ?_);unfold Builtin.«getset_descriptor.__get__» descrGet;rw[dga_obj];refine G8 (Ha ?_);unfold descrGetter descrCheckInstance descrNameAndClass isInstance;simp only[KF.owner_class]
 repeat lk
 refine⟨Code.quiet_builtin _ (by decide +kernel),codeAny_builtin KF.entry_class ?_⟩
 unfold Builtin.«object.__class__» shownTypeOf
 repeat lk
 exact hq
theorem nA(X:K.In h)(ha:findIn K (.ref C) name=some (some b))(hg:specialIn K b "__get__"=some (some gg))(ht:takesIn K b=some true):Looks M h (find (.ref a) (.ref C) name) (.bind gg b):=by
 have L1:=looks_findIn (M:=M) X ha;have L2:Looks M h (getOf (some b)) (some gg):=looks_specialIn X hg;have L3:=looks_takesIn (M:=M) X ht;refine L1.andThen (L2.andThen ?_);exact (show Looks M h (dataDescriptor? (some b) (some gg)) (some (gg,b)) from L3.andThen .now).andThen (Looks.tag .now)
variable (hga:findIn K (.ref C) "__getattribute__"=some (some (.builtin "BaseException.__getattribute__"))) (hgn:findIn K (.ref C) "__getattr__"=some none) (hcl:findIn K (.ref C) "__class__"=some (some (.builtin "object.__class__")))
 (hn:specialIn K (.builtin "object.__class__") "__get__"=some (some (.builtin "getset_descriptor.__get__"))) (htk:takesIn K (.builtin "object.__class__")=some true) (hm:mroIn K C (.type "object")=some true) (hmB:mroIn K C (.type "BaseException")=some true)
include hcl hn htk hm in
theorem rN(X:K.In h)(hx:h.get? a=some o)(hc:o.cls=.ref C)(hq:Q (.done (.ret (.ref C))) ⟨h,g,d,t,os⟩) :
  wpAny (model prog w) A (Builtin.«object.__getattribute__» ⟨[.ref a,.str "__class__" tk],[]⟩) Q E ⟨h,g,d,t,os⟩:=by
 have L0:Looks (model prog w) h (typeOf (.ref a)) (.ref C):=hc▸(Looks.ld hx).andThen .now;have L1:=nA (M:=model prog w) (a:=a) X hcl hn htk;refine G8 (Ha (G8 (Ha (G8 (L0.at (G8 (L1.at ?_)))))));show wpAny _ _ (bindTo _ _ _ _) _ _ _;refine G8 (HR (wpAny_call (wm X hx hc hm ?_)));exact Ha hq
include hmB in
theorem qN(X:K.In h)(hx:h.get? a=some o)(hc:o.cls=.ref C)(hq:Q () ⟨h,g,d,t,os⟩):wpAny M A (checkBuiltinCall "BaseException.__getattribute__" ⟨[.ref a,nameV],[]⟩) Q E ⟨h,g,d,t,os⟩:=by
 have hk:builtinKind "BaseException.__getattribute__"=some .slot:=by decide +kernel
 have hsplit:splitId "BaseException.__getattribute__"=some ("BaseException","__getattribute__"):=by decide +kernel
 have L0:Looks M h (typeOf (.ref a)) (.ref C):=hc▸(Looks.ld hx).andThen .now;have L1:=looks_mroIn (M:=M) X hmB;have ha:=F.args_bexc_ga (.ref a) nameV;simp only[checkBuiltinCall,hk,hsplit];refine G8 ?_
 ·unfold isInstance;refine G8 (L0.at (L1.at ?_))
  repeat (first|assumption|wp_step)
include hga hgn hcl hn htk hm hmB in
theorem sL(X:K.In h)(hx:h.get? a=some o)(hc:o.cls=.ref C)(hq:Q (some (.ref C)) ⟨h,g,d,t+1,os⟩):wpAny (model prog w) A (getAttr? (.ref a) "__class__") Q E ⟨h,g,d,t,os⟩:=by
 have L0:Looks (model prog w) h (typeOf (.ref a)) (.ref C):=hc▸(Looks.ld hx).andThen .now;have L1:=looks_findIn (M:=model prog w) X hga;have L2:=looks_findIn (M:=model prog w) X hgn;have FB:Slot "ValueError" "__getattribute__" "BaseException.__getattribute__":=F.excAttr_ValueError.ga;have f3:=FB.bind (.ref a);unfold getAttr? getAttrBy? getAttrBy;refine G8 (wpAny_mkText (G8 (wpAny_attempt (HR (G8 (L0.at (G8 (L1.at ?_))))))));show wpAny _ _ (getAttrByItsOwn _ _ _ _ _ _) _ _ _;refine G8 (L2.at (G8 (wpAny_attempt (HR ?_))));unfold callGetattribute;show wpAny _ _ (boundAndCalled _ _ _) _ _ _;unfold boundAndCalled;rw[f3];refine G8 (Ha ?_);refine wpAny_call (codeAny_call_builtin FB.plain F.entry_bexc_ga (qN hmB X hx hc (rN hcl hn htk hm X hx hc ?_)));exact Ha (Ha hq)
end
structure ExcI (K:Iz)(C:Addr):Prop where
 hd:PySem.W.hasDictIn K C=true
 ga:findIn K (.ref C) "__getattribute__"=some (some (.builtin "BaseException.__getattribute__"))
 gn:findIn K (.ref C) "__getattr__"=some none
 cl:findIn K (.ref C) "__class__"=some (some (.builtin "object.__class__"))
 n:specialIn K (.builtin "object.__class__") "__get__"=some (some (.builtin "getset_descriptor.__get__"))
 tk:takesIn K (.builtin "object.__class__")=some true
 m:mroIn K C (.type "object")=some true
 mB:mroIn K C (.type "BaseException")=some true
theorem uq{K:Iz}(X:ExcI K C):KitX K (.ref a) (.ref C) (λh=>∃o,h.get? a=some o/\o.cls=.ref C) where
 ty:=λM h _ ⟨o,hx,hc⟩=>hc▸(Looks.ld hx).andThen .now
 it:=λ_ _ Y _=>by
  obtain⟨cdD,hcD,_⟩:=any_some X.hd;unfold clsIn at hcD;split at hcD
  ·rename_i c' d' cd' sl' ho;intro A' Q' E' s' k q;unfold isType loadHead;exact G8 (wpAny_loadPart (k _ _ (Y _ _ ho)) (Ha q))
  ·cases hcD
 ne:=λh tp dd its n sl Y htp=>by
  obtain⟨cdD,hcD,_⟩:=any_some X.hd;refine Bool.eq_false_iff.mpr λq=>?_
  have e:C=tp:=Value.ref.inj (Hs.mp q);subst e;unfold clsIn at hcD;split at hcD
  ·rename_i c' d' cd' sl' ho;have z:=(Y _ _ ho).symm.trans htp;cases z
  ·cases hcD
 ca:=λ{prog w A E Q s} Y ⟨o,hx,hc⟩ k=>sL X.ga X.gn X.cl X.n X.tk X.m X.mB Y hx hc k
end L2
namespace L2
open PySem PySem.Spec PySem.Calls PyProof.Rows PySem.W PySem.Builtin PySem.Builtin.ObjectAttr
section
variable {h:Heap}{os:OsState}{o:Obj}{K:Iz}
end
end L2
namespace L2
open PySem PySem.Spec PySem.Calls PyProof.Rows PySem.W
section
variable {s:Shared}
end
end L2
namespace L2
open PySem PySem.Spec PySem.Calls PyProof.Rows PySem.W
open AutoSeq1 (wpAny_loadPart')
open MeetsSeq MeetsSeq2 MeetsSeq3
section
variable {A:Around}{s:Shared}
end
end L2
namespace L2
open PySem PySem.Spec PyProof.Rows
section
variable {A:Around}{s:Shared}{St:Nat->Heap->Prop}{xs:Array (Int×Tok)}
end
end L2
namespace L2
open PySem PySem.Spec PySem.Calls PyProof.Rows PySem.W
open AutoSeq1 (wpAny_loadPart')
def P2(h:Heap)(v:Value)(p:Int×Int):Prop:=∃a n t u dd sl,v=.ref a/\h.get? a=some {cls:=.type "tuple",dict:=dd,data:=.seq #[.int p.1 t,.int p.2 u] n,slots:=sl}
section
variable {prog:Program}{w:World}{A:Around}{s:Shared}{St:Nat->Heap->Prop}{I l:Addr}{fp wr:List Addr}{n:Nat}{P:Nat->Value->Prop}{R:Result->Shared->Prop}{kw:List (Str×Value)}{Q:Value->Shared->Prop}{E:Value->Shared->Prop}
end
end L2
namespace L2
open PySem PySem.Spec PyProof.Rows
inductive D where
 |non|bl (b:Bool)|int (i:Int)|str (x:Str)|tup (ds:List D)|rol (ds:List D)|ref (a:Addr)
 |obj (i:Nat) (C:Addr) (ns:List Nat) (ds:List D)|dik (ks:List Key) (ds:List D)|dit (ks:List (List Int)) (ds:List D)
noncomputable def oJ:Nat->Nat->List Nat
 |0,_=>[]
 |k+1,n=>if n=0 then [] else (n % 128)::oJ k (n / 128)
noncomputable def fnm(n:Nat):Str:=⟨(oJ n n).toArray⟩
noncomputable def xg:List Nat->Nat
 |[]=>0
 |d::r=>d+128*xg r
theorem jT:∀(k n:Nat),n<=k->xg (oJ k n)=n
 |0,n,h=>by have:n=0:=Nat.le_zero.mp h;subst this;rfl
 |k+1,n,h=>by
  unfold oJ;by_cases z:n=0
  ·rw[Hg z];exact z.symm
  ·rw[Hc z];show n % 128+128*xg (oJ k (n / 128))=n;rw[jT k (n / 128) (by omega)]
   omega
theorem lL(h:fnm a=fnm b):a=b:=by
 have e:oJ a a=oJ b b:=by
  have:=congrArg (λx:Str=>x.cps.toList) h
  simpa [fnm] using this
 have:=congrArg xg e
 rwa [jT a a (Hh _),jT b b (Hh _)]at this
noncomputable def tH(k:List Int):Int:=reduceHash (Builtin.Tuple.tupleHashOf (k.map hashInt))
def c6(a:Addr)(xs:List (List Int×Addr×Value)):Heap->Prop:=λh=>∃o es ep,h.get? a=some o/\o.ExactDict/\o.data=.dict es ep/\es.toList=xs.map λx=>(⟨tH x.1,.ref x.2.1,x.2.2⟩:DictEntry)
structure TabOk (K:Iz)(H:Hp)(a:Addr) (ks:List (List Int)) (xs:List (List Int×Addr×Value)) (vs:List V):Prop where
 kx:xs.map (·.1)=ks
 nd:ks.Nodup
 sz:ks.length<=sizeLine
 no:(a == sysModules)=false
 vx:Vals vs (xs.map (·.2.2))
 at_:∀x∈xs,SqT K H x.2.1 (x.1.map V.int)
def SqM(K:Iz)(a:Addr)(xs:List V):Prop:=∃(its:List Value) (n:Nat),K.lookup a=some {cls:=.type "list",data:=.seq its.toArray n}/\its.length<=sizeLine/\Vals xs its
def SqF(K:Iz)(H:Hp)(a:Addr)(xs:List V):Prop:=(∃o,H a=some (.frz o (.lst xs)))\/SqM K a xs
theorem SqM.sq{K:Iz}(h:SqM K a xs):SqL K H a xs:=by
 obtain⟨its,n,e,z,r⟩:=h;exact .inr ⟨_,its.toArray,n,e,rfl,rfl,rfl,by simpa using z,by simpa using r⟩
theorem SqF.sq{K:Iz}(h:SqF K H a xs):SqL K H a xs:=by
 rcases h with h|h
 ·exact .inl (.inr h)
 ·exact h.sq
mutual
def Den(K:Iz)(H:Hp):D->V->Prop
 |.non,v=>v=.non
 |.bl b,v=>v=.bl b
 |.int i,v=>v=.int i
 |.str x,v=>v=.str x
 |.tup ds,v=>∃p vs,v=.ref p/\SqT K H p vs/\DenL K H ds vs
 |.rol ds,v=>∃p vs,v=.ref p/\SqF K H p vs/\DenL K H ds vs
 |.ref a,v=>v=.ref a
 |.obj _ C ns ds,v=>∃p vs o dx,v=.ref p/\H p=some (.frz o (.ins C dx ((ns.map fnm).zip vs)))/\ns.length=vs.length/\DenL K H ds vs
 |.dik ks ds,v=>∃p vs o,v=.ref p/\H p=some (.frz o (.dK (ks.zip vs)))/\ks.length=vs.length/\DenL K H ds vs
 |.dit ks ds,v=>∃p vs o xs,v=.ref p/\H p=some (.frz o (.ext (c6 p xs)))/\TabOk K H p ks xs vs/\DenL K H ds vs
def DenL(K:Iz)(H:Hp):List D->List V->Prop
 |[],vs=>vs=[]
 |d::ds,vs=>∃v r,vs=v::r/\Den K H d v/\DenL K H ds r
end
structure TM (K:Iz)(H H':Hp):Prop where
 t:∀p xs,SqT K H p xs->SqT K H' p xs
 f:∀p xs,SqF K H p xs->SqF K H' p xs
 g:∀p o u,H p=some (.frz o u)->H' p=some (.frz o u)
theorem TM.refl{K:Iz}(H:Hp):TM K H H:=⟨λ_ _ h=>h,λ_ _ h=>h,λ_ _ _ h=>h⟩
theorem TM.trans{K:Iz}(a:TM K H H1)(b:TM K H1 H2):TM K H H2:=⟨λp xs h=>b.t p xs (a.t p xs h),λp xs h=>b.f p xs (a.f p xs h),λp o u h=>b.g p o u (a.g p o u h)⟩
theorem TM.un{K:Iz}(t:∀b xs,H b=some (.tup xs)->H' b=some (.tup xs))(f:∀b o u,H b=some (.frz o u)->H' b=some (.frz o u)):TM K H H':=⟨λq xs h=>by
 rcases h with (h|⟨ob,h⟩)|h
 ·exact .inl (.inl (t _ _ h))
 ·exact .inl (.inr ⟨ob,f _ _ _ h⟩)
 ·exact .inr h,λq xs h=>by
 rcases h with ⟨ob,h⟩|h
 ·exact .inl ⟨ob,f _ _ _ h⟩
 ·exact .inr h,f⟩
theorem TM.new{K:Iz}(hp:H p=none):TM K H (upd H p o):=
 .un (λb xs h=>by rw[ae (aA h hp)];exact h) λb ob u h=>by rw[ae (aA h hp)];exact h
theorem TM.put{K:Iz}(hp:H p=some u)(h1:∀xs,u≠.tup xs)(h2:∀ob v,u≠.frz ob v):TM K H (upd H p o):=
 .un (λb xs h=>by rw[ae (dQ h hp λz=>h1 _ z.symm)];exact h) λb ob u h=>by rw[ae (dQ h hp λz=>h2 _ _ z.symm)];exact h
section
variable {K:Iz}
mutual
theorem Den.mono(t:TM K H H'):∀{d:D}{v:V},Den K H d v->Den K H' d v
 |.non,_,h=>h
 |.bl _,_,h=>h
 |.int _,_,h=>h
 |.str _,_,h=>h
 |.ref _,_,h=>h
 |.tup ds,v,h=>by
  obtain⟨p,vs,e,s,l⟩:=h;exact⟨p,vs,e,t.t _ _ s,DenL.mono t l⟩
 |.rol ds,v,h=>by
  obtain⟨p,vs,e,s,l⟩:=h;exact⟨p,vs,e,t.f _ _ s,DenL.mono t l⟩
 |.obj i C ns ds,v,h=>by
  obtain⟨p,vs,o,dx,e,s,z,l⟩:=h;exact⟨p,vs,o,dx,e,t.g _ _ _ s,z,DenL.mono t l⟩
 |.dik ks ds,v,h=>by
  obtain⟨p,vs,o,e,s,z,l⟩:=h;exact⟨p,vs,o,e,t.g _ _ _ s,z,DenL.mono t l⟩
 |.dit ks ds,v,h=>by
  obtain⟨p,vs,o,xs,e,s,z,l⟩:=h;exact⟨p,vs,o,xs,e,t.g _ _ _ s,⟨z.kx,z.nd,z.sz,z.no,z.vx,λx hx=>t.t _ _ (z.at_ x hx)⟩,DenL.mono t l⟩
theorem DenL.mono(t:TM K H H'):∀{ds:List D}{vs:List V},DenL K H ds vs->DenL K H' ds vs
 |[],_,h=>h
 |d::ds,vs,h=>by
  obtain⟨v,r,e,a,b⟩:=h;exact⟨v,r,e,Den.mono t a,DenL.mono t b⟩
end
theorem DenL.length:∀{ds:List D}{vs:List V},DenL K H ds vs->ds.length=vs.length
 |[],_,h=>by cases h;rfl
 |d::ds,vs,h=>by
  obtain⟨v,r,rfl,_,b⟩:=h;rw[HA,HA,DenL.length b]
theorem DenL.get:∀{ds:List D}{vs:List V}{i:Nat}{d:D},DenL K H ds vs->ds[i]?=some d->∃v,vs[i]?=some v/\Den K H d v
 |[],_,_,_,_,e=>by simp at e
 |d::ds,vs,0,d',h,e=>by
  obtain⟨v,r,rfl,a,b⟩:=h;simp at e;subst e;exact⟨v,rfl,a⟩
 |d::ds,vs,i+1,d',h,e=>by
  obtain⟨v,r,rfl,a,b⟩:=h;obtain⟨u,e1,e2⟩:=DenL.get (i:=i) b (by simpa using e)
  exact⟨u,by simpa using e1,e2⟩
theorem DenL.get':∀{ds:List D}{vs:List V}{i:Nat}{v:V},DenL K H ds vs->vs[i]?=some v->∃d,ds[i]?=some d/\Den K H d v
 |[],_,_,_,h,e=>by cases h;simp at e
 |d::ds,vs,0,v',h,e=>by
  obtain⟨v,r,rfl,a,b⟩:=h;simp at e;subst e;exact⟨d,rfl,a⟩
 |d::ds,vs,i+1,v',h,e=>by
  obtain⟨v,r,rfl,a,b⟩:=h;obtain⟨u,e1,e2⟩:=DenL.get' (i:=i) b (by simpa using e)
  exact⟨u,by simpa using e1,e2⟩
theorem DenL.append:∀{ds es:List D}{vs ws:List V},DenL K H ds vs->DenL K H es ws->DenL K H (ds++es) (vs++ws)
 |[],_,_,_,h,g=>by cases h;exact g
 |d::ds,_,_,_,h,g=>by
  obtain⟨v,r,rfl,a,b⟩:=h;exact⟨v,r++_,rfl,a,DenL.append b g⟩
theorem DenL.nil:DenL K H [] []:=rfl
theorem DenL.cons(a:Den K H d v)(b:DenL K H ds vs):DenL K H (d::ds) (v::vs):=⟨v,vs,rfl,a,b⟩
theorem DenL.one(a:Den K H d v):DenL K H [d] [v]:=.cons a .nil
theorem DenL.take:∀{ds:List D}{vs:List V} (n:Nat),DenL K H ds vs->DenL K H (ds.take n) (vs.take n)
 |_,_,0,_=>rfl
 |[],_,n+1,h=>by cases h;rfl
 |d::ds,_,n+1,h=>by
  obtain⟨v,r,rfl,a,b⟩:=h;exact⟨v,r.take n,rfl,a,DenL.take n b⟩
theorem DenL.drop:∀{ds:List D}{vs:List V} (n:Nat),DenL K H ds vs->DenL K H (ds.drop n) (vs.drop n)
 |_,_,0,h=>h
 |[],_,n+1,h=>by cases h;rfl
 |d::ds,_,n+1,h=>by
  obtain⟨v,r,rfl,a,b⟩:=h;exact DenL.drop n b
theorem DenL.set(a:Den K H d v):∀{ds:List D}{vs:List V} (i:Nat),DenL K H ds vs->DenL K H (ds.set i d) (vs.set i v)
 |[],_,_,h=>by cases h;rfl
 |_::ds,_,0,h=>by
  obtain⟨_,r,rfl,_,b⟩:=h;exact⟨v,r,rfl,a,b⟩
 |e::ds,_,i+1,h=>by
  obtain⟨u,r,rfl,c,b⟩:=h;exact⟨u,_,rfl,c,DenL.set a i b⟩
theorem DenL.of_int:∀{ns:List Int},DenL K H (ns.map D.int) (ns.map V.int)
 |[]=>rfl
 |n::ns=>⟨.int n,ns.map V.int,rfl,rfl,DenL.of_int⟩
end
structure XE where
 c:Nat
 pl:Option (Nat×D)
def XD(K:Iz)(H:Hp)(i:XE)(dx:Option Addr):Prop:=match i.pl with
 |none=>dx=none
 |some (f,y)=>∃p o v,dx=some p/\H p=some (.frz o (.xd [(fnm f,v)]))/\Den K H y v
theorem XD.mono{K:Iz}(t:TM K H H')(h:XD K H i dx):XD K H' i dx:=by
 obtain⟨c,pl⟩:=i;cases pl with
 |none=>exact h
 |some q=>
  obtain⟨p,o,v,e,g,d⟩:=h;exact⟨p,o,v,e,t.g _ _ _ g,d.mono t⟩
inductive DO where
 |lst (ds:List D)
 |dk (ks:List Key) (ds:List D)
 |dt (ks:List (List Int)) (ds:List D)
 |ins (i:Nat) (C:Addr) (ns:List Nat) (ds:List D)
 |exc (i:XE) (cls:Value)
 |stl (φ:Heap->Prop)
noncomputable abbrev MH:=Addr->Option DO
noncomputable def put(M:MH)(a:Addr)(o:DO):MH:=λb=>if b=a then some o else M b
theorem af:put M a o a=some o:=Hg rfl
theorem ah(h:b≠a):put M a o b=M b:=Hc h
theorem bP:put (put M a o) a u=put M a u:=by
 funext b;unfold put;split<;>rfl
def OD(K:Iz)(H:Hp)(a:Addr):DO->Prop
 |.lst ds=>∃vs,H a=some (.lst vs)/\DenL K H ds vs
 |.dk ks ds=>∃vs,H a=some (.dK (ks.zip vs))/\ks.length=vs.length/\DenL K H ds vs
 |.dt ks ds=>∃vs xs,H a=some (.ext (c6 a xs))/\TabOk K H a ks xs vs/\DenL K H ds vs
 |.ins _ C ns ds=>∃dx vs,H a=some (.ins C dx ((ns.map fnm).zip vs))/\ns.length=vs.length/\DenL K H ds vs
 |.exc i cls=>∃dx,H a=some (wN a cls dx)/\XD K H i dx
 |.stl φ=>H a=some (.ext φ)
def RelM(K:Iz)(M:MH)(H:Hp):Prop:=∀a o,M a=some o->OD K H a o
noncomputable abbrev St3:=List (Option D)
def DenS(K:Iz)(H:Hp)(σ3:St3)(σ:St):Prop:=σ3.length=σ.length/\∀(i:Nat)(d:D),σ3[i]?=some (some d)->∃v,σ[i]?=some (some v)/\Den K H d v
section
variable {K:Iz}
theorem OD.tracked(h:OD K H a o):∃u,H a=some u:=by
 cases o with
 |lst ds=>obtain⟨_,e,_⟩:=h;exact⟨_,e⟩
 |dk ks ds=>obtain⟨_,e,_⟩:=h;exact⟨_,e⟩
 |dt ks ds=>obtain⟨_,_,e,_⟩:=h;exact⟨_,e⟩
 |ins i C ns ds=>obtain⟨_,_,e,_⟩:=h;exact⟨_,e⟩
 |exc i cls=>obtain⟨_,e,_⟩:=h;exact⟨_,e⟩
 |stl φ=>exact⟨_,h⟩
theorem RelM.fresh(r:RelM K M H)(hp:H p=none):M p=none:=by
 cases e:M p with
 |none=>rfl
 |some o=>
  obtain⟨u,z⟩:=(r p o e).tracked;rw[hp]at z;cases z
theorem OD.stay(t:TM K H H')(e:H' a=H a)(h:OD K H a o):OD K H' a o:=by
 cases o with
 |lst ds=>obtain⟨vs,q,l⟩:=h;exact⟨vs,e.trans q,l.mono t⟩
 |dk ks ds=>obtain⟨vs,q,n,l⟩:=h;exact⟨vs,e.trans q,n,l.mono t⟩
 |dt ks ds=>obtain⟨vs,xs,q,z,l⟩:=h;exact⟨vs,xs,e.trans q,⟨z.kx,z.nd,z.sz,z.no,z.vx,λx hx=>t.t _ _ (z.at_ x hx)⟩,l.mono t⟩
 |ins i C ns ds=>obtain⟨dx,vs,q,n,l⟩:=h;exact⟨dx,vs,e.trans q,n,l.mono t⟩
 |exc i cls=>obtain⟨dx,q,x⟩:=h;exact⟨dx,e.trans q,x.mono t⟩
 |stl φ=>exact e.trans h
theorem RelM.grow(r:RelM K M H)(hp:H p=none):RelM K M (upd H p o):=λa u e=>by
 obtain⟨x,z⟩:=(r a u e).tracked;exact (r a u e).stay (.new hp) (ae (aA z hp))
theorem RelM.lay(r:RelM K M H)(hp:H p=none)(h:OD K (upd H p o) p u):RelM K (put M p u) (upd H p o):=λa x e=>by
 by_cases ha:a=p
 ·subst ha;rw[af]at e;cases e;exact h
 ·rw[ah ha]at e;exact r.grow hp a x e
theorem RelM.write(r:RelM K M H)(hp:H p=some w)(h1:∀xs,w≠.tup xs)(h2:∀ob v,w≠.frz ob v)(h:OD K (upd H p o) p u):RelM K (put M p u) (upd H p o):=λa x e=>by
 by_cases ha:a=p
 ·subst ha;rw[af]at e;cases e;exact h
 ·rw[ah ha]at e;exact (r a x e).stay (.put hp h1 h2) (ae ha)
def Sub(M' M:MH):Prop:=∀a o,M' a=some o->M a=some o
theorem RelM.sub(r:RelM K M H)(s:Sub M' M):RelM K M' H:=λa o e=>r a o (s a o e)
theorem DenS.mono(t:TM K H H')(h:DenS K H σ3 σ):DenS K H' σ3 σ:=⟨h.1,λi d e=>let ⟨v,e1,e2⟩:=h.2 i d e;⟨v,e1,e2.mono t⟩⟩
theorem DenS.set{σ3:St3}{σ:St}(h:DenS K H σ3 σ)(e:Den K H d v):DenS K H (σ3.set i (some d)) (σ.set i (some v)):=by
 refine⟨by rw[List.length_set,List.length_set];exact h.1,λj d' q=>?_⟩
 by_cases hj:i=j
 ·subst hj;rw[List.getElem?_set]at q ⊢;rw[Hg rfl]at q ⊢;rw[<-h.1];split at q
  next hl=>
   cases q;exact⟨v,Hg hl,e⟩
  next=>cases q
 ·rw[Ih hj]at q ⊢;exact h.2 j d' q
theorem DenS.drop{σ3:St3}{σ:St}(h:DenS K H σ3 σ):DenS K H (σ3.set i none) (σ.set i none):=by
 refine⟨by rw[List.length_set,List.length_set];exact h.1,λj d' q=>?_⟩
 by_cases hj:i=j
 ·subst hj;rw[List.getElem?_set,Hg rfl]at q;split at q<;>cases q
 ·rw[Ih hj]at q ⊢;exact h.2 j d' q
theorem oF{N:List Str}{ds:List D}(h:DenL K H ds vs):DenS K H (ds.map some++List.replicate (N.length-ds.length) none) (start N vs):=by
 have hl:=h.length;refine⟨by unfold start;simp[hl],λi d e=>?_⟩
 by_cases hi:i<ds.length
 ·rw[List.getElem?_append_left (by simpa using hi),HB]at e
  have e':ds[i]?=some d:=by
   cases q:ds[i]? with
   |none=>rw[q]at e;cases e
   |some x=>rw[q]at e;cases e;rfl
  obtain⟨v,e1,e2⟩:=h.get e';refine⟨v,?_,e2⟩;unfold start;rw[List.getElem?_append_left (by simpa [<-hl] using hi),HB,e1]
  rfl
 ·rw[List.getElem?_append_right (by simpa using hi),List.getElem?_replicate]at e
  split at e<;>cases e
end
noncomputable abbrev VK3:=D->MH->Prop
noncomputable abbrev TE3:=St3->MH->VK3->Prop
noncomputable abbrev TT3:=St3->MH->(Bool->MH->Prop)->Prop
structure Ends3 where
 nx:St3->MH->Prop
 rt:VK3
 bk:St3->MH->Prop:=λ_ _=>False
 ct:St3->MH->Prop:=λ_ _=>False
noncomputable abbrev TS3:=Ends3->St3->MH->Prop
structure ER (K:Iz)(H:Hp)(D3:Ends3)(D2:Ends):Prop where
 nx:∀σ' H' σ3' M',RelM K M' H'->DenS K H' σ3' σ'->TM K H H'->D3.nx σ3' M'->D2.nx σ' H'
 rt:∀v H' d M',Den K H' d v->RelM K M' H'->TM K H H'->D3.rt d M'->D2.rt v H'
 bk:∀σ' H' σ3' M',RelM K M' H'->DenS K H' σ3' σ'->TM K H H'->D3.bk σ3' M'->D2.bk σ' H'
 ct:∀σ' H' σ3' M',RelM K M' H'->DenS K H' σ3' σ'->TM K H H'->D3.ct σ3' M'->D2.ct σ' H'
theorem ER.mono{K:Iz}(r:ER K H D3 D2)(t:TM K H H1):ER K H1 D3 D2:=
 ⟨λa b c d h1 h2 h3 h4=>r.nx a b c d h1 h2 (t.trans h3) h4,λa b c d h1 h2 h3 h4=>r.rt a b c d h1 h2 (t.trans h3) h4,λa b c d h1 h2 h3 h4=>r.bk a b c d h1 h2 (t.trans h3) h4,λa b c d h1 h2 h3 h4=>r.ct a b c d h1 h2 (t.trans h3) h4⟩
section
variable {K:Iz}
theorem fB:Den K H (.int i) (.int i):=rfl
theorem bn{b:Bool}:Den K H (.bl b) (.bl b):=rfl
theorem jl:Den K H (.str x) (.str x):=rfl
theorem uV:Den K H .non .non:=rfl
theorem gW:Den K H (.ref a) (.ref a):=rfl
theorem qe(h:SqT K H p vs)(l:DenL K H ds vs):Den K H (.tup ds) (.ref p):=⟨p,vs,rfl,h,l⟩
end
noncomputable abbrev R3:=D->D->MH->VK3->Prop
abbrev Back(K:Iz)(H:Hp)(Q:VK3)(Q2:VK):Prop:=∀v H' d M',Den K H' d v->RelM K M' H'->TM K H H'->Q d M'->Q2 v H'
def Op3(X:Cx)(f:Value->Value->Sem Value)(r3:R3):Prop:=∃r2,OpR X f r2/\∀(H:Hp)(x y:D)(v u:V)(M:MH)(Q:VK3)(Q2:VK),Den X.K H x v->Den X.K H y u->RelM X.K M H->r3 x y M Q->Back X.K H Q Q2->r2 v u H Q2
def Un3(X:Cx)(f:Value->Sem Value)(r3:D->MH->VK3->Prop):Prop:=∃r2,UnR X f r2/\∀(H:Hp)(x:D)(v:V)(M:MH)(Q:VK3)(Q2:VK),Den X.K H x v->RelM X.K M H->r3 x M Q->Back X.K H Q Q2->r2 v H Q2
def sM(X:Cx)(f:Value)(r3:List D->MH->VK3->Prop):Prop:=∃r2,CallR X f r2/\∀(H:Hp)(xs:List D)(vs:List V)(M:MH)(Q:VK3)(Q2:VK),DenL X.K H xs vs->RelM X.K M H->r3 xs M Q->Back X.K H Q Q2->r2 vs H Q2
def rI3(C:Int->Int->Prop)(g:Int->Int->D):R3:=λx y M Q=>∃i j,x=.int i/\y=.int j/\C i j/\Q (g i j) M
section
variable {X:Cx}{a b c e:Expr}{ta tb tc te:TE3}{pos:Pos}
noncomputable def q3(t:TE3):TT3:=λσ M Q=>t σ M λx M1=>∃k,x=.bl k/\Q k M1
variable {tA tB':TT3}{ax:List Expr}
theorem vP{K:Iz}(h:DenL K H ds vs)(e:atI ds i=some d):∃v,atI vs i=some v/\Den K H d v:=by
 unfold atI at e ⊢;rw[<-h.length];cases q:ixN ds.length i with
 |none=>rw[q]at e;cases e
 |some j=>
  rw[q]at e;obtain⟨v,e1,e2⟩:=h.get (show ds[j]?=some d from e);exact⟨v,e1,e2⟩
def Is(M:MH)(x:D)(ds:List D):Prop:=x=.rol ds\/∃a,x=.ref a/\M a=some (.lst ds)
theorem RelM.list{K:Iz}(rm:RelM K M H)(h:Is M x ds)(dv:Den K H x v):∃p vs,v=.ref p/\SqL K H p vs/\DenL K H ds vs:=by
 rcases h with rfl|⟨a,rfl,h⟩
 ·obtain⟨p,vs,e,s,l⟩:=dv;exact⟨p,vs,e,s.sq,l⟩
 ·obtain⟨vs,e,l⟩:=rm a _ h;exact⟨a,vs,dv,.of e,l⟩
def isIB:V->D->Prop:=λv d=>(∃i,v=.int i/\d=.int i)\/(∃b,v=.bl b/\d=.bl b)
theorem isIB.den{K:Iz}(h:isIB v d):Den K H d v:=by
 rcases h with ⟨i,rfl,rfl⟩|⟨b,rfl,rfl⟩<;>rfl
theorem ke(h:OpR X f (rI C g))(hg:∀i j,isIB (g i j) (g3 i j)):Op3 X f (rI3 C g3):=
 ⟨_,h,λH x y v u M Q Q2 dx dy rm ⟨i,j,e1,e2,hc,q⟩ k=>by
  subst e1;subst e2;cases (show v=.int i from dx);cases (show u=.int j from dy);exact⟨i,j,rfl,rfl,hc,k _ H _ M (hg i j).den rm (.refl _) q⟩⟩
def lK(g:Int->Int->D):R3:=λx y M Q=>∃i j,x=.int i/\y=.int j/\Q (g i j) M
theorem eo(h:OpR X f (rI0 g))(hg:∀i j,isIB (g i j) (g3 i j)):Op3 X f (lK g3):=
 ⟨_,h,λH x y v u M Q Q2 dx dy rm ⟨i,j,e1,e2,q⟩ k=>by
  subst e1;subst e2;cases (show v=.int i from dx);cases (show u=.int j from dy);exact⟨i,j,rfl,rfl,k _ H _ M (hg i j).den rm (.refl _) q⟩⟩
noncomputable def big:Nat:=2 ^ 4096
theorem oy(h:n<10 ^ 250):n<big:=Ho h (by decide +kernel)
def jV(i j:Int):Prop:=(i.natAbs<big/\j.natAbs<big)
theorem iQ{k:Int}(h:k.natAbs<big):Builtin.Int.intBits k<=2 ^ 20:=by
 unfold Builtin.Int.intBits;by_cases h0:k.natAbs=0
 ·have:k=0:=by omega
  subst this;decide
 ·have h30:k.natAbs.log2<4096:=(Nat.log2_lt h0).mpr h;split<;>omega
theorem wK:OpR X (binaryOp .Mult) (rI jV λi j=>.int (i*j)):=opI λ_ _ _ _ _ _ _ hc q=>mul_int q (.of_bits (iQ hc.1) (iQ hc.2))
def fQ(_ j:Int):Prop:=0<j/\j.toNat<big
theorem uo:OpR X (binaryOp .FloorDiv) (rI fQ λi j=>.int (i / j)):=opI λi j _ _ _ _ _ hc q=>by
 have h1:(0:Int)<j:=hc.1;have h2:j.toNat<big:=hc.2;refine floordiv_int (by omega) (by rw[Int.fdiv_eq_ediv_of_nonneg i (by omega)];exact q) (.inl (PyProof.noPylong_of_log2 ?_))
 have h3:j.natAbs<2 ^ 4096:=by
  have e:j.natAbs=j.toNat:=by omega
  rw[e];exact h2
 have h0:j.natAbs≠0:=by omega
 have:=(Nat.log2_lt h0).mpr h3;omega
theorem Cj:Op3 X (binaryOp .Add) (lK λi j=>.int (i+j)):=eo yD λ_ _=>.inl ⟨_,rfl,rfl⟩
theorem B5:Op3 X (binaryOp .Sub) (lK λi j=>.int (i-j)):=eo AS λ_ _=>.inl ⟨_,rfl,rfl⟩
theorem Dt:Op3 X (binaryOp .Mult) (rI3 jV λi j=>.int (i*j)):=ke wK λ_ _=>.inl ⟨_,rfl,rfl⟩
theorem zJ:Op3 X (binaryOp .FloorDiv) (rI3 fQ λi j=>.int (i / j)):=ke uo λ_ _=>.inl ⟨_,rfl,rfl⟩
theorem Dg:Op3 X (binaryOp .Mod) (rI3 (λ_ j=>0<j) λi j=>.int (i % j)):=ke yj λ_ _=>.inl ⟨_,rfl,rfl⟩
theorem Bv:Op3 X (binaryOp .Pow) (rI3 uQ λi j=>.int (i ^ j.toNat)):=ke yg λ_ _=>.inl ⟨_,rfl,rfl⟩
theorem Dd:Op3 X (binaryOp .RShift) (rI3 (λ_ j=>0<=j) λi j=>.int (i / 2 ^ j.toNat)):=ke yY λ_ _=>.inl ⟨_,rfl,rfl⟩
theorem Cu:Op3 X (binaryOp .BitAnd) (lK λi j=>.int (Builtin.bitAnd i j)):=eo yZ λ_ _=>.inl ⟨_,rfl,rfl⟩
theorem Fq:Op3 X (compareOp .Lt) (lK λi j=>.bl (decide (i<j))):=eo CG λ_ _=>.inr ⟨_,rfl,rfl⟩
theorem Fc:Op3 X (compareOp .LtE) (lK λi j=>.bl (decide (i<=j))):=eo BO λ_ _=>.inr ⟨_,rfl,rfl⟩
theorem EG:Op3 X (compareOp .Gt) (lK λi j=>.bl (decide (j<i))):=eo B0 λ_ _=>.inr ⟨_,rfl,rfl⟩
theorem EK:Op3 X (compareOp .GtE) (lK λi j=>.bl (decide (j<=i))):=eo Dm λ_ _=>.inr ⟨_,rfl,rfl⟩
def rU3(g:Int->Int):D->MH->VK3->Prop:=λx M Q=>∃i,x=.int i/\Q (.int (g i)) M
theorem BW:Un3 X (unaryOp .USub) (rU3 λi=>-i):=⟨_,ze,λH x v M Q Q2 dx rm ⟨i,e,q⟩ k=>by
 subst e;cases (show v=.int i from dx);exact⟨i,rfl,k _ H _ M fB rm (.refl _) q⟩⟩
noncomputable def D.isN:D->Bool
 |.non=>true
 |_=>false
theorem pH{K:Iz}{d:D}(h:Den K H d v):decide (v=.non)=d.isN:=by
 cases d with
 |non=>cases (show v=.non from h);rfl
 |bl b=>cases (show v=.bl b from h);rfl
 |int i=>cases (show v=.int i from h);rfl
 |str x=>cases (show v=.str x from h);rfl
 |tup ds=>obtain⟨p,vs,rfl,_⟩:=h;rfl
 |rol ds=>obtain⟨p,vs,rfl,_⟩:=h;rfl
 |ref a=>cases (show v=.ref a from h);rfl
 |obj i C ns ds=>obtain⟨p,vs,_,_,rfl,_⟩:=h;rfl
 |dik ks ds=>obtain⟨p,vs,_,rfl,_⟩:=h;rfl
 |dit ks ds=>obtain⟨p,vs,_,_,rfl,_⟩:=h;rfl
def rIs3:R3:=λx y M Q=>y=.non/\Q (.bl x.isN) M
def rIsN3:R3:=λx y M Q=>y=.non/\Q (.bl (!x.isN)) M
theorem ET:Op3 X (compareOp .Is) rIs3:=⟨_,za,λH x y v u M Q Q2 dx dy rm ⟨e,q⟩ k=>by
 subst e;refine⟨dy,?_⟩;rw[pH dx];exact k _ H _ M bn rm (.refl _) q⟩
theorem vG:Op3 X (compareOp .IsNot) rIsN3:=⟨_,vB,λH x y v u M Q Q2 dx dy rm ⟨e,q⟩ k=>by
 subst e;refine⟨dy,?_⟩;rw[pH dx];exact k _ H _ M bn rm (.refl _) q⟩
variable {id:String}
def rLen3:List D->MH->VK3->Prop:=λxs M Q=>∃x ds,xs=[x]/\(Is M x ds\/x=.tup ds)/\Q (.int ds.length) M
theorem CU:sM X (.builtin "len") rLen3:=⟨_,lT,λH xs vs M Q Q2 dl rm ⟨x,ds,e,h,q⟩ k=>by
 subst e;obtain⟨v,r,rfl,dv,rfl⟩:=dl;rcases h with h|rfl
 ·obtain⟨a,ys,rfl,sq,l⟩:=rm.list h dv;exact⟨a,ys,rfl,.inl sq,by rw[<-l.length];exact k _ H _ M fB rm (.refl _) q⟩
 ·obtain⟨a,ys,rfl,sq,l⟩:=dv;exact⟨a,ys,rfl,.inr sq,by rw[<-l.length];exact k _ H _ M fB rm (.refl _) q⟩⟩
def rMax3:List D->MH->VK3->Prop:=λxs M Q=>∃i j,xs=[.int i,.int j]/\Q (.int (if j > i then j else i)) M
theorem Dl(hc:X.calm=true):sM X (.builtin "max") rMax3:=⟨_,q9 hc,λH xs vs M Q Q2 dl rm ⟨i,j,e,q⟩ k=>by
 subst e;obtain⟨v,r,rfl,dv,w,r',rfl,dw,rfl⟩:=dl;cases (show v=.int i from dv);cases (show w=.int j from dw);exact⟨i,j,rfl,k _ H _ M fB rm (.refl _) q⟩⟩
end
abbrev BackS(K:Iz)(H:Hp)(Q:St3->MH->Prop)(Q2:St->Hp->Prop):Prop:=∀σ' H' σ3' M',RelM K M' H'->DenS K H' σ3' σ'->TM K H H'->Q σ3' M'->Q2 σ' H'
section
variable {X:Cx}{st:Stmt}{ax:List Stmt}{t u:TS3}{e:Expr}{te:TE3}{pos:Pos}
structure ItOk (K:Iz)(H0:Hp)(J:It)(ds:List D)(S:MH->Prop):Prop where
 go:∀(i:Nat) H M,TM K H0 H->RelM K M H->S M->i<ds.length->J.go i H
 yld:∀(i:Nat) H M x H',TM K H0 H->RelM K M H->S M->i<ds.length->J.yld i H x H'->TM K H H'/\RelM K M H'/\∃d,ds[i]?=some d/\Den K H' d x
 stop:∀H M,TM K H0 H->RelM K M H->S M->J.stop ds.length H
noncomputable def rng(lo:Int)(n:Nat):List D:=(List.range n).map λ(i:Nat)=>D.int (lo+i)
theorem mE(lo:Int)(n:Nat):(rng lo n).length=n:=by unfold rng;rw[Hm,List.length_range]
theorem zH{lo:Int}(h:i<n):(rng lo n)[i]?=some (.int (lo+i)):=by
 unfold rng;rw[HB,List.getElem?_range h];rfl
theorem yx{K:Iz}{lo:Int}:ItOk K H0 (Itr lo n) (rng lo n) (λ_=>True):=by
 refine⟨λi H M _ _ _ hi=>?_,λi H M x H' _ rm _ hi y=>?_,λH M _ _ _=>?_⟩
 ·rw[mE]at hi;exact hi
 ·rw[mE]at hi;obtain⟨e,y⟩:=y;subst e;subst y;exact⟨.refl _,rm,_,zH hi,rfl⟩
 ·rw[mE];exact Hh _
end
section
variable {K:Iz}
end
section
variable {X:Cx}
end
noncomputable abbrev XN:=XE->MH->Prop
noncomputable def del(M:MH)(a:Addr):MH:=λb=>if b=a then none else M b
theorem da(h:M a=none):del (put M a o) a=M:=by
 funext b;unfold del put;by_cases e:b=a
 ·subst e;rw[Hg rfl,h]
 ·rw[Hc e,Hc e]
theorem l6(h:del M a b=some o):b≠a/\M b=some o:=by
 unfold del at h;split at h
 ·cases h
 ·exact⟨by assumption,h⟩
noncomputable def ar(M M':MH):MH:=λa=>match M a with
 |some _=>M' a
 |none=>none
theorem kS(h:ar M M' a=some o):M' a=some o:=by
 unfold ar at h;split at h
 ·exact h
 ·cases h
noncomputable def kp(b:Bool)(M M':MH):MH:=if b=true then ar M M' else M'
theorem sF(h:kp b M M' a=some o):M' a=some o:=by
 cases b with
 |true=>exact kS h
 |false=>exact h
inductive BI where
 |len  |max  |list (fz:Bool)  |all  |any
inductive BM where
 |get  |popd
inductive BT where
 |int|bool|str|tuple|list|dict
mutual
inductive IE where
 |var (i:Nat)
 |con (d:D)
 |bin (op:Operator) (a b:IE)
 |neg (a:IE)
 |cat (fz:Bool) (a b:IE)
 |cmp (op:CmpOp) (a b:IE)
 |chain (op op':CmpOp) (a b c:IE)
 |and (a b:IE)
 |or (a b:IE)
 |not (a:IE)
 |ifx (c:IT) (a b:IE)
 |tup (es:IA)
 |lst (fz:Bool) (es:IA)
 |frz (e:IE)
 |ix (a b:IE)
 |sl (fz:Bool) (a:IE) (lo hi:IO)
 |call (f:Nat) (es:IA)
 |bi (b:BI) (es:IA)
 |isB (e:IE) (t:BT)
 |isC (e:IE) (c:Nat)
 |comp (fz:Bool) (N:List Str) (js:List (Option Nat)) (tg:ITg) (it:II) (cond:ITO) (elt:IE)
 |fld (e:IE) (f:Nat)
 |make (fz:Bool) (i:Nat) (es:IA)
 |meth (e:IE) (m:Nat) (es:IA)
 |ini (i:Nat) (es:IA)
 |isK (e:IE) (j:Nat)
 |glo (k:Nat)
 |bm (b:BM) (o:IE) (es:IA)
 |rep (fz:Bool) (a b:IE)
 |dnew (tk:Bool)
 |lzip (fz:Bool) (a b:IE)
inductive IT where
 |val (e:IE)|cmp (op:CmpOp) (a b:IE)|chain (op op':CmpOp) (a b c:IE)|chain3 (op op' op'':CmpOp) (a b c d:IE)|and (a b:IT)|or (a b:IT)|not (a:IT)
inductive IA where
 |nil|cons (e:IE) (r:IA)
inductive IO where
 |no|yes (e:IE)
inductive ITO where
 |no|yes (e:IT)
inductive II where
 |seq (e:IE)
 |rng1 (a:IE)
 |enum (a:IE)
 |zip (a b:IE)
 |revd (a:IE)
 |vals (a:IE)
inductive ITg where
 |name (i:Nat)|tup (is:List Nat)
end
mutual
inductive IS where
 |set (i:Nat) (e:IE)
 |expr (e:IE)
 |ret (e:IE)
 |ifs (c:IT) (a b:ISs)
 |for_ (tg:ITg) (it:II) (body:ISs)
 |whl (c:IT) (body:ISs)
 |raise (c:Nat) (es:IA)
 |raiseI (c:Nat) (es:IA)
 |try_ (body:ISs) (hs:IHs)
 |app (o e:IE)
 |del (i:Nat)
 |fset (o:IE) (f:Nat) (e:IE)
 |ixset (o i e:IE)
 |dead
inductive ISs where
 |nil|cons (s:IS) (r:ISs)
inductive IHs where
 |nil|cons (c:Nat) (nm:Option Nat) (body:ISs) (r:IHs)
end
noncomputable def ai(M:MH):D->Option (List D)
 |.rol ds=>some ds
 |.ref a=>match M a with
  |some (.lst ds)=>some ds
  |_=>none
 |_=>none
noncomputable def aD(M:MH):D->Option (List D)
 |.tup ds=>some ds
 |x=>ai M x
noncomputable def res(M:MH)(x:D):D:=match ai M x with
 |some ds=>.rol ds
 |none=>x
def cA(fz:Bool)(ds:List D)(M:MH)(Q:VK3):Prop:=ds.length<=sizeLine/\if fz=true then Q (.rol ds) M else ∀p,M p=none->Q (.ref p) (put M p (.lst ds))
noncomputable def plN:Nat->D->Bool
 |_,.ref _=>false
 |n,.tup ds=>match n with
  |0=>false
  |m+1=>ds.all (plN m)
 |n,.rol ds=>match n with
  |0=>false
  |m+1=>ds.all (plN m)
 |_,.obj _ _ _ _=>false
 |_,.dik _ _=>false
 |_,.dit _ _=>false
 |_,_=>true
noncomputable abbrev pl(x:D):Bool:=plN 8 x
noncomputable abbrev pls(ds:List D):Bool:=ds.all (plN 8)
mutual
noncomputable def eqD:D->D->Bool
 |.non,y=>match y with
  |.non=>true
  |_=>false
 |.bl a,y=>match y with
  |.bl b=>a == b
  |.int b=>decide ((if a=true then (1:Int) else 0)=b)
  |_=>false
 |.int a,y=>match y with
  |.int b=>decide (a=b)
  |.bl b=>decide (a=if b=true then (1:Int) else 0)
  |_=>false
 |.str a,y=>match y with
  |.str b=>decide (a=b)
  |_=>false
 |.tup a,y=>match y with
  |.tup b=>bx a b
  |_=>false
 |.rol a,y=>match y with
  |.rol b=>bx a b
  |_=>false
 |.ref _,_=>false
 |.obj _ _ _ _,_=>false
 |.dik _ _,_=>false
 |.dit _ _,_=>false
noncomputable def bx:List D->List D->Bool
 |[],y=>match y with
  |[]=>true
  |_=>false
 |a::r,y=>match y with
  |b::t=>eqD a b&&bx r t
  |_=>false
end
def rII(C:Int->Int->Prop)(g:Int->Int->D)(x y:D)(M:MH)(Q:VK3):Prop:=match x,y with
 |.int i,.int j=>C i j/\Q (g i j) M
 |_,_=>False
def rI2(g:Int->Int->D)(x y:D)(M:MH)(Q:VK3):Prop:=match x,y with
 |.int i,.int j=>Q (g i j) M
 |_,_=>False
def sr(x y:D)(M:MH)(Q:VK3):Prop:=match x,y with
 |.int i,.int j=>Q (.int (i+j)) M
 |.str a,.str b=>a.length+b.length<=sizeLine/\Q (.str (a++b)) M
 |.tup a,.tup b=>a.length+b.length<=sizeLine/\Q (.tup (a++b)) M
 |_,_=>False
noncomputable def lP(z:Str)(n:Int):Str:=if n<1 then Str.empty else if (n == 1||z.length == 0)=true then z else⟨(List.replicate n.toNat z.cps).foldl (·++·) #[]⟩
def uJ(x y:D)(M:MH)(Q:VK3):Prop:=match x,y with
 |.int i,.int j=>jV i j/\Q (.int (i*j)) M
 |.str z,.int n=>(0<=n/\n<=100000/\z.length<=10)/\Q (.str (lP z n)) M
 |_,_=>False
def mG:Operator->D->D->MH->VK3->Prop
 |.Add=>sr
 |.Sub=>rI2 λi j=>.int (i-j)
 |.Mult=>uJ
 |.FloorDiv=>rII fQ λi j=>.int (i / j)
 |.Mod=>rII (λ_ j=>0<j) λi j=>.int (i % j)
 |.Pow=>rII uQ λi j=>.int (i ^ j.toNat)
 |.RShift=>rII (λ_ j=>0<=j) λi j=>.int (i / 2 ^ j.toNat)
 |.BitAnd=>rI2 λi j=>.int (Builtin.bitAnd i j)
 |_=>λ_ _ _ _=>False
def rNeg(x:D)(M:MH)(Q:VK3):Prop:=match x with
 |.int i=>Q (.int (-i)) M
 |_=>False
def dM(fz:Bool)(x y:D)(M:MH)(Q:VK3):Prop:=match ai M x,ai M y with
 |some a,some b=>cA fz (a++b) M Q
 |_,_=>match x,y with
  |.tup a,.tup b=>a.length+b.length<=sizeLine/\Q (.tup (a++b)) M
  |_,_=>False
def gI(fz:Bool)(x y:D)(M:MH)(Q:VK3):Prop:=match ai M x,y with
 |some a,.int k=>(-(2 ^ 63)<=k/\k<2 ^ 63/\a.length*k.toNat<=sizeLine)/\cA fz (List.replicate k.toNat a).flatten M Q
 |_,_=>False
noncomputable def rs(M:MH)(x:D):D:=match ai M x with
 |some ds=>.rol (if pls ds=true then ds else ds.map (res M))
 |none=>x
def cK(neg:Bool)(x y:D)(M:MH)(Q:VK3):Prop:=pl (rs M x)=true/\pl (rs M y)=true/\Q (.bl (neg ^^ eqD (rs M x) (rs M y))) M
def qT(neg:Bool)(x y:D)(M:MH)(Q:VK3):Prop:=match y with
 |.non=>Q (.bl (neg ^^ x.isN)) M
 |.bl b=>match x with
  |.bl a=>Q (.bl (neg ^^ (a == b))) M
  |.non=>Q (.bl neg) M
  |_=>False
 |_=>False
noncomputable def mP:D->Option Key
 |.int i=>some (.inl i)
 |.str s=>some (.inr s)
 |_=>none
noncomputable def fX:List D->Option (List Int)
 |[]=>some []
 |.int i::r=>match fX r with
  |some ns=>some (i::ns)
  |none=>none
 |_::_=>none
noncomputable def kE:D->Option (List Int)
 |.tup es=>fX es
 |_=>none
noncomputable def getD[DecidableEq κ]:List κ->List D->κ->Option D
 |k::ks,d::ds,x=>if k=x then some d else getD ks ds x
 |_,_,_=>none
noncomputable def aj[DecidableEq κ]:List κ->κ->List κ
 |[],x=>[x]
 |k::ks,x=>if k=x then k::ks else k::aj ks x
noncomputable def am[DecidableEq κ]:List κ->List D->κ->D->List D
 |k::ks,d::ds,x,y=>if k=x then y::ds else d::am ks ds x y
 |_,_,_,y=>[y]
noncomputable def fN(M:MH):D->Option (List Key×List D)
 |.dik ks ds=>some (ks,ds)
 |.ref a=>match M a with
  |some (.dk ks ds)=>some (ks,ds)
  |_=>none
 |_=>none
noncomputable def iw(M:MH):D->Option (List (List Int)×List D)
 |.dit ks ds=>some (ks,ds)
 |.ref a=>match M a with
  |some (.dt ks ds)=>some (ks,ds)
  |_=>none
 |_=>none
noncomputable def iy(M:MH)(x y:D):Option (Option D):=match fN M x with
 |some (ks,ds)=>match mP y with
  |some k=>some (getD ks ds k)
  |none=>none
 |none=>match iw M x with
  |some (ks,ds)=>match kE y with
   |some k=>some (getD ks ds k)
   |none=>none
  |none=>none
noncomputable def Bx(a b:Str):Bool:=!(Builtin.Str.occurrences b a 0 b.length 1).isEmpty
noncomputable def xu(z:Str)(i:Nat):Str:=⟨#[z.cps.getD i 0]⟩
noncomputable def iM(z:Str):List D:=z.cps.toList.map λc=>.str ⟨#[c]⟩
def lJ(neg:Bool)(x y:D)(M:MH)(Q:VK3):Prop:=match aD M y with
 |some ds=>pl (res M x)=true/\pls ds=true/\Q (.bl (neg ^^ ds.any λd=>eqD d (res M x))) M
 |none=>match iy M y x with
  |some o=>Q (.bl (neg ^^ o.isSome)) M
  |none=>match x,y with
   |.str a,.str b=>Q (.bl (neg ^^ Bx a b)) M
   |_,_=>False
def aq:CmpOp->D->D->MH->VK3->Prop
 |.Eq=>cK false
 |.NotEq=>cK true
 |.Lt=>rI2 λi j=>.bl (decide (i<j))
 |.LtE=>rI2 λi j=>.bl (decide (i<=j))
 |.Gt=>rI2 λi j=>.bl (decide (j<i))
 |.GtE=>rI2 λi j=>.bl (decide (j<=i))
 |.Is=>qT false
 |.IsNot=>qT true
 |.In=>lJ false
 |.NotIn=>lJ true
def au(x y:D)(M:MH)(Q:VK3):Prop:=match aD M x with
 |some ds=>match y with
  |.int i=>match atI ds i with
   |some d=>Q d M
   |none=>False
  |_=>False
 |none=>match iy M x y with
  |some (some d)=>Q d M
  |some none=>False
  |none=>match x,y with
   |.str z,.int i=>(0<=i/\i<z.length/\i<2 ^ 63)/\Q (.str (xu z i.toNat)) M
   |_,_=>False
noncomputable def c5(xs:List D)(lo hi:Option Int):List D:=(xs.drop (HT.sIx xs.length 0 lo)).take (HT.sIx xs.length xs.length hi-HT.sIx xs.length 0 lo)
noncomputable def whole(n:Nat)(lo hi:Option Int):Bool:=HT.sIx n 0 lo == 0&&HT.sIx n n hi == n
def gy(fz:Bool)(x:D)(lo hi:Option Int)(M:MH)(Q:VK3):Prop:=match x with
 |.tup ds=>whole ds.length lo hi=false/\Q (.tup (c5 ds lo hi)) M
 |.str z=>z.length<=sizeLine/\Q (.str (Txt.slice z lo hi)) M
 |x=>match ai M x with
  |some ds=>cA fz (c5 ds lo hi) M Q
  |none=>False
noncomputable def eQ:List D->Option (List Bool)
 |[]=>some []
 |.bl i::r=>match eQ r with
  |some ns=>some (i::ns)
  |none=>none
 |_::_=>none
noncomputable def tyB:BM->D->MH->Bool
 |.get,x,M=>(fN M x).isSome||(iw M x).isSome
 |.popd,x,M=>(fN M x).isSome||(iw M x).isSome
noncomputable def aF[DecidableEq κ]:List κ->κ->List κ
 |[],_=>[]
 |q::ks,k=>if q=k then ks else q::aF ks k
noncomputable def aV[DecidableEq κ]:List κ->List D->κ->List D
 |q::ks,d::ds,k=>if q=k then ds else d::aV ks ds k
 |_,ds,_=>ds
def rBm:BM->D->List D->MH->VK3->Prop
 |.get,x,ys,M,Q=>match ys with
  |[y]=>match iy M x y with
   |some o=>Q (o.getD .non) M
   |none=>False
  |[y,z]=>match iy M x y with
   |some o=>Q (o.getD z) M
   |none=>False
  |_=>False
 |.popd,x,ys,M,Q=>match x,ys with
  |.ref a,[y]=>match M a,kE y with
   |some (.dt ks ds),some k=>match getD ks ds k with
    |some d=>Q d (put M a (.dt (aF ks k) (aV ks ds k)))
    |none=>False
   |_,_=>False
  |_,_=>False
noncomputable def Ca(k:List Int):D:=.tup (k.map D.int)
def rBi:BI->List D->MH->VK3->Prop
 |.len,xs,M,Q=>match xs with
  |[x]=>match aD M x with
   |some ds=>Q (.int ds.length) M
   |none=>match iw M x with
    |some (ks,_)=>Q (.int ks.length) M
    |none=>match x with
     |.str z=>z.length<=sizeLine/\Q (.int z.length) M
     |_=>False
  |_=>False
 |.max,xs,M,Q=>match xs with
  |[.int i,.int j]=>Q (.int (if j > i then j else i)) M
  |_=>False
 |.list fz,xs,M,Q=>match xs with
  |[x]=>match aD M x with
   |some ds=>cA fz ds M Q
   |none=>match iw M x with
    |some (ks,_)=>cA fz (ks.map Ca) M Q
    |none=>False
  |_=>False
 |.all,xs,M,Q=>match xs with
  |[x]=>match ai M x with
   |some ds=>match eQ ds with
    |some bs=>Q (.bl (bs.all id)) M
    |none=>False
   |none=>False
  |_=>False
 |.any,xs,M,Q=>match xs with
  |[x]=>match ai M x with
   |some ds=>match eQ ds with
    |some bs=>Q (.bl (bs.any id)) M
    |none=>False
   |none=>False
  |_=>False
def i3(t:BT)(x:D)(M:MH)(Q:VK3):Prop:=match x with
 |.non=>Q (.bl false) M
 |.bl _=>Q (.bl (match t with|.int=>true|.bool=>true|_=>false)) M
 |.int _=>Q (.bl (match t with|.int=>true|_=>false)) M
 |.str _=>Q (.bl (match t with|.str=>true|_=>false)) M
 |.tup _=>Q (.bl (match t with|.tuple=>true|_=>false)) M
 |.rol _=>Q (.bl (match t with|.list=>true|_=>false)) M
 |.ref a=>match M a with
  |some (.lst _)=>Q (.bl (match t with|.list=>true|_=>false)) M
  |some (.dk _ _)=>Q (.bl (match t with|.dict=>true|_=>false)) M
  |some (.dt _ _)=>Q (.bl (match t with|.dict=>true|_=>false)) M
  |_=>False
 |.dik _ _=>Q (.bl (match t with|.dict=>true|_=>false)) M
 |.dit _ _=>Q (.bl (match t with|.dict=>true|_=>false)) M
 |.obj _ _ _ _=>False
def n9(ne:Nat)(cls:Nat->Addr)(r:Nat->Bool)(x:D)(M:MH)(Q:VK3):Prop:=match x with
 |.ref a=>match M a with
  |some (.exc i v)=>i.c<ne/\v=.ref (cls i.c)/\Q (.bl (r i.c)) M
  |_=>False
 |_=>False
structure WB where
 ne:Nat
 cls:Nat->Addr
 sub:Nat->Nat->Bool
 nk:Nat
 kls:Nat->Addr
 ksub:Nat->Nat->Bool
 fok:Nat->Nat->Bool
 mth:Nat->Nat->Option Nat
 ini:Nat->Option Nat
 xin:Nat->Option Nat
 glo:Nat->D
 fad:Nat->Addr
structure WC extends WB where
 call:Nat->List D->MH->VK3->XN->Prop
noncomputable def cq(f:Nat):List Nat->List D->Option D
 |n::ns,d::ds=>if n=f then some d else cq f ns ds
 |_,_=>none
noncomputable def cm(f:Nat):List Nat->List Nat
 |n::ns=>if n=f then n::ns else n::cm f ns
 |[]=>[f]
noncomputable def cr(f:Nat)(y:D):List Nat->List D->List D
 |n::ns,d::ds=>if n=f then y::ds else d::cr f y ns ds
 |_,_=>[y]
def gx(f:Nat)(ns:List Nat)(ds:List D)(M:MH)(Q:VK3):Prop:=match cq f ns ds with
 |some d=>Q d M
 |none=>False
def bY(B:WB)(f:Nat)(x:D)(M:MH)(Q:VK3):Prop:=match x with
 |.obj i C ns ds=>(C=B.kls i/\i<B.nk/\B.fok i f=true)/\gx f ns ds M Q
 |.ref a=>match M a with
  |some (.ins i C ns ds)=>(C=B.kls i/\i<B.nk/\B.fok i f=true)/\gx f ns ds M Q
  |_=>False
 |_=>False
def dn(o:Option Nat)(R:Nat->Prop):Prop:=match o with
 |some f=>R f
 |none=>False
def bz(B:WB)(m:Nat)(x:D)(M:MH)(R:Nat->Prop):Prop:=match x with
 |.obj i C ns ds=>(C=B.kls i/\i<B.nk/\cq m ns ds=none)/\dn (B.mth i m) R
 |.ref a=>match M a with
  |some (.ins i C ns ds)=>(C=B.kls i/\i<B.nk/\cq m ns ds=none)/\dn (B.mth i m) R
  |_=>False
 |_=>False
def ot(B:WB)(j:Nat)(x:D)(M:MH)(Q:VK3):Prop:=match x with
 |.obj i C _ _=>(C=B.kls i/\i<B.nk/\j<B.nk)/\Q (.bl (B.ksub i j)) M
 |.ref a=>match M a with
  |some (.ins i C _ _)=>(C=B.kls i/\i<B.nk/\j<B.nk)/\Q (.bl (B.ksub i j)) M
  |_=>False
 |_=>False
def gA(Q:VK3):VK3:=λx M=>match x with
 |.ref a=>match M a with
  |some (.lst ds)=>Q (.rol ds) (del M a)
  |_=>False
 |_=>False
def eD:List D->MH->(List D->MH->Prop)->Prop
 |[],M,R=>R [] M
 |d::ds,M,R=>match d with
  |.ref a=>match M a with
   |some (.lst es)=>eD ds (del M a) λr M'=>R (.rol es::r) M'
   |some (.dk ks es)=>eD ds (del M a) λr M'=>R (.dik ks es::r) M'
   |some (.dt ks es)=>eD ds (del M a) λr M'=>R (.dit ks es::r) M'
   |_=>eD ds M λr M'=>R (.ref a::r) M'
  |d=>eD ds M λr M'=>R (d::r) M'
def aU(Q:VK3):VK3:=λx M=>match x with
 |.ref a=>match M a with
  |some (.lst ds)=>Q (.rol ds) (del M a)
  |some (.dk ks ds)=>Q (.dik ks ds) (del M a)
  |some (.dt ks ds)=>Q (.dit ks ds) (del M a)
  |some (.ins i C ns ds)=>eD ds (del M a) λr M'=>Q (.obj i C ns r) M'
  |_=>False
 |_=>False
def wpG:ITg->D->St3->MH->(St3->MH->Prop)->Prop
 |.name i,d,σ,M,Q=>Q (σ.set i (some d)) M
 |.tup is,d,σ,M,Q=>match d with
  |.tup ds=>ds.length=is.length/\Q ((is.zip ds).foldl (λσ p=>σ.set p.1 (some p.2)) σ) M
  |_=>False
noncomputable def ao(js:List (Option Nat))(σ:St3):St3:=js.map λo=>o.bind λj=>(σ[j]?).bind id
def dX(g:D->St3->MH->(St3->MH->Prop)->Prop)(tt:St3->MH->(Bool->MH->Prop)->Prop)(te:St3->MH->VK3->Prop)(S:MH->Prop)(p:Addr)(Q:VK3):List D->List D->St3->MH->Prop
 |[],_,_,M=>S M/\Q (.ref p) M
 |d::r,ys,σ,M=>S M/\ys.length<sizeLine/\g d σ M λσ2 M2=>tt σ2 M2 λb M3=>if b=true then te σ2 M3 λy M4=>M4 p=some (.lst ys)/\dX g tt te S p Q r (ys++[y]) σ2 (put M4 p (.lst (ys++[y]))) else dX g tt te S p Q r ys σ2 M3
def bJ(x k y:D)(M:MH)(R:MH->Prop):Prop:=match x with
 |.ref a=>match M a,k with
  |some (.lst ds),.int i=>(match ixN ds.length i with
   |some j=>R (put M a (.lst (ds.set j y)))
   |none=>False)
  |some (.dk ks ds),k=>(match mP k with
   |some q=>ks.length<sizeLine/\R (put M a (.dk (aj ks q) (am ks ds q y)))
   |none=>False)
  |some (.dt ks ds),k=>(match kE k with
   |some q=>ks.length<sizeLine/\R (put M a (.dt (aj ks q) (am ks ds q y)))
   |none=>False)
  |_,_=>False
 |_=>False
noncomputable def cH:Nat->List D->List D
 |_,[]=>[]
 |k,d::r=>.tup [.int k,d]::cH (k+1) r
noncomputable def eA(xs ys:List D):List D:=(xs.zip ys).map λp=>.tup [p.1,p.2]
def rLs(x:D)(M:MH)(k:List D->(MH->Prop)->Prop):Prop:=match x with
 |.rol xs=>k xs λ_=>True
 |.ref b=>match M b with
  |some (.lst ys)=>k ys λM=>M b=some (.lst ys)
  |_=>False
 |_=>False
noncomputable def cpF(f:Nat):Bool:=f == 217822450
def rXp(f:Nat)(y:D)(M:MH)(R:D->Prop):Prop:=if cpF f=true then (match ai M y with
 |some ds=>R (.rol ds)
 |none=>False) else R y
def rLz(fz:Bool)(x y:D)(M:MH)(Q:VK3):Prop:=match x,y with
 |.rol xs,.rol ys=>cA fz (eA xs ys) M Q
 |_,_=>False
section
variable (W:WC)
mutual
def wpE:IE->St3->MH->VK3->XN->Prop
 |.var i,σ,M,Q,_=>match σ[i]? with
  |some (some d)=>Q d M
  |_=>False
 |.con d,_,M,Q,_=>Q d M
 |.bin op a b,σ,M,Q,E=>wpE a σ M (λx M1=>wpE b σ M1 (λy M2=>mG op x y M2 Q) E) E
 |.neg a,σ,M,Q,E=>wpE a σ M (λx M1=>rNeg x M1 Q) E
 |.cat fz a b,σ,M,Q,E=>wpE a σ M (λx M1=>wpE b σ M1 (λy M2=>dM fz x y M2 Q) E) E
 |.cmp op a b,σ,M,Q,E=>wpE a σ M (λx M1=>wpE b σ M1 (λy M2=>aq op x y M2 Q) E) E
 |.chain op op' a b c,σ,M,Q,E=>wpE a σ M (λx M1=>wpE b σ M1 (λy M2=>aq op x y M2 λr M3=>match r with
  |.bl k=>if k=true then wpE c σ M3 (λz M4=>aq op' y z M4 Q) E else Q (.bl false) M3
  |_=>False) E) E
 |.and a b,σ,M,Q,E=>wpE a σ M (λx M1=>match x with
  |.bl c=>if c=true then wpE b σ M1 Q E else Q (.bl false) M1
  |_=>False) E
 |.or a b,σ,M,Q,E=>wpE a σ M (λx M1=>match x with
  |.bl c=>if c=true then Q (.bl true) M1 else wpE b σ M1 Q E
  |_=>False) E
 |.not a,σ,M,Q,E=>wpE a σ M (λx M1=>match x with
  |.bl c=>Q (.bl (!c)) M1
  |_=>False) E
 |.ifx c a b,σ,M,Q,E=>wpT c σ M (λk M1=>if k=true then wpE a σ M1 Q E else wpE b σ M1 Q E) E
 |.tup es,σ,M,Q,E=>wpA es σ M (λxs M1=>xs.length<=sizeLine/\Q (.tup xs) M1) E
 |.lst fz es,σ,M,Q,E=>wpA es σ M (λxs M1=>cA fz xs M1 Q) E
 |.frz e,σ,M,Q,E=>wpE e σ M (aU Q) E
 |.ix a b,σ,M,Q,E=>wpE a σ M (λx M1=>wpE b σ M1 (λy M2=>au x y M2 Q) E) E
 |.sl fz a lo hi,σ,M,Q,E=>wpE a σ M (λx M1=>wpO lo σ M1 (λl M2=>wpO hi σ M2 (λh M3=>gy fz x l h M3 Q) E) E) E
 |.call f es,σ,M,Q,E=>wpA es σ M (λxs M1=>W.call f xs M1 Q E) E
 |.bi b es,σ,M,Q,E=>wpA es σ M (λxs M1=>rBi b xs M1 Q) E
 |.isB e t,σ,M,Q,E=>wpE e σ M (λx M1=>i3 t x M1 Q) E
 |.isC e c,σ,M,Q,E=>wpE e σ M (λx M1=>n9 W.ne W.cls (λi=>W.sub i c) x M1 Q) E
 |.comp fz _ js tg it cond elt,σ,M,Q,E=>wpI it σ M (λds S M1=>∀p,M1 p=none->
   dX (wpG tg) (λσ M Q=>gO cond σ M Q (λ_ _=>False)) (λσ M Q=>wpE elt σ M Q (λ_ _=>False)) S p (if fz=true then gA Q else Q) ds [] (ao js σ) (put M1 p (.lst []))) E
 |.fld e f,σ,M,Q,E=>wpE e σ M (λx M1=>bY W.toWB f x M1 Q) E
 |.make fz i es,σ,M,Q,E=>wpA es σ M (λxs M1=>i<W.nk/\dn (W.ini i) λf=>∀p,M1 p=none->
   W.call f (.ref p::xs) (put M1 p (.ins i (W.kls i) [] [])) (λv M2=>v=.non/\if fz=true then aU Q (.ref p) M2 else Q (.ref p) M2) (λi M'=>E i (del M' p))) E
 |.meth e m es,σ,M,Q,E=>wpE e σ M (λx M1=>bz W.toWB m x M1 λf=>wpA es σ M1 (λxs M2=>W.call f (x::xs) M2 Q E) E) E
 |.ini i es,σ,M,Q,E=>wpA es σ M (λxs M1=>i<W.nk/\dn (W.ini i) λf=>W.call f xs M1 Q E) E
 |.isK e j,σ,M,Q,E=>wpE e σ M (λx M1=>ot W.toWB j x M1 Q) E
 |.glo k,_,M,Q,_=>Q (W.glo k) M
 |.bm b o es,σ,M,Q,E=>wpE o σ M (λx M1=>tyB b x M1=true/\wpA es σ M1 (λxs M2=>rBm b x xs M2 Q) E) E
 |.dnew tk,_,M,Q,_=>∀p,M p=none->Q (.ref p) (put M p (if tk=true then .dt [] [] else .dk [] []))
 |.rep fz a b,σ,M,Q,E=>wpE a σ M (λx M1=>wpE b σ M1 (λy M2=>gI fz x y M2 Q) E) E
 |.lzip fz a b,σ,M,Q,E=>wpE a σ M (λx M1=>wpE b σ M1 (λy M2=>rLz fz x y M2 Q) E) E
def wpT:IT->St3->MH->(Bool->MH->Prop)->XN->Prop
 |.val e,σ,M,Q,E=>wpE e σ M (λx M1=>match x with
  |.bl k=>Q k M1
  |_=>False) E
 |.cmp op a b,σ,M,Q,E=>wpE a σ M (λx M1=>wpE b σ M1 (λy M2=>aq op x y M2 λr M3=>match r with
  |.bl k=>Q k M3
  |_=>False) E) E
 |.chain op op' a b c,σ,M,Q,E=>wpE a σ M (λx M1=>wpE b σ M1 (λy M2=>aq op x y M2 λr M3=>match r with
  |.bl k=>if k=true then wpE c σ M3 (λz M4=>aq op' y z M4 λr M5=>match r with
   |.bl k=>Q k M5
   |_=>False) E else Q false M3
  |_=>False) E) E
 |.chain3 op op' op'' a b c d,σ,M,Q,E=>wpE a σ M (λx M1=>wpE b σ M1 (λy M2=>aq op x y M2 λr M3=>match r with
  |.bl k=>if k=true then wpE c σ M3 (λz M4=>aq op' y z M4 λr M5=>match r with
   |.bl k=>if k=true then wpE d σ M5 (λu M6=>aq op'' z u M6 λr M7=>match r with
    |.bl k=>Q k M7
    |_=>False) E else Q false M5
   |_=>False) E else Q false M3
  |_=>False) E) E
 |.and a b,σ,M,Q,E=>wpT a σ M (λc M1=>if c=true then wpT b σ M1 Q E else Q false M1) E
 |.or a b,σ,M,Q,E=>wpT a σ M (λc M1=>if c=true then Q true M1 else wpT b σ M1 Q E) E
 |.not a,σ,M,Q,E=>wpT a σ M (λc M1=>Q (!c) M1) E
def wpA:IA->St3->MH->(List D->MH->Prop)->XN->Prop
 |.nil,_,M,Q,_=>Q [] M
 |.cons e r,σ,M,Q,E=>wpE e σ M (λx M1=>wpA r σ M1 (λxs M2=>Q (x::xs) M2) E) E
def wpO:IO->St3->MH->(Option Int->MH->Prop)->XN->Prop
 |.no,_,M,Q,_=>Q none M
 |.yes e,σ,M,Q,E=>wpE e σ M (λx M1=>match x with
  |.int i=>Q (some i) M1
  |_=>False) E
def gO:ITO->St3->MH->(Bool->MH->Prop)->XN->Prop
 |.no,_,M,Q,_=>Q true M
 |.yes e,σ,M,Q,E=>wpT e σ M Q E
def wpI:II->St3->MH->(List D->(MH->Prop)->MH->Prop)->XN->Prop
 |.seq e,σ,M,R,E=>wpE e σ M (λx M1=>match x with
  |.tup ds=>R ds (λ_=>True) M1
  |.rol ds=>R ds (λ_=>True) M1
  |.ref a=>match M1 a with
   |some (.lst ds)=>R ds (λM=>M a=some (.lst ds)) M1
   |_=>False
  |.str z=>R (iM z) (λ_=>True) M1
  |_=>False) E
 |.enum a,σ,M,R,E=>wpE a σ M (λx M1=>match x with
  |.rol ds=>R (cH 0 ds) (λ_=>True) M1
  |.ref a=>match M1 a with
   |some (.lst ds)=>R (cH 0 ds) (λM=>M a=some (.lst ds)) M1
   |_=>False
  |_=>False) E
 |.zip a b,σ,M,R,E=>wpE a σ M (λx M1=>wpE b σ M1 (λy M2=>rLs x M2 λxs S=>rLs y M2 λys S'=>R (eA xs ys) (λM=>S M/\S' M) M2) E) E
 |.revd a,σ,M,R,E=>wpE a σ M (λx M1=>match x with
  |.rol ds=>R ds.reverse (λ_=>True) M1
  |_=>False) E
 |.vals a,σ,M,R,E=>wpE a σ M (λx M1=>match x with
  |.dik ks ds=>R ds (λ_=>True) M1
  |_=>False) E
 |.rng1 a,σ,M,R,E=>wpE a σ M (λx M1=>match x with
  |.int j=>-(2 ^ 62)<=j/\j<2 ^ 62/\R (rng 0 j.toNat) (λ_=>True) M1
  |_=>False) E
end
def jX(g:D->St3->MH->(St3->MH->Prop)->Prop)(tb:Ends3->St3->MH->Prop)(S:MH->Prop)(D:Ends3):List L2.D->St3->MH->Prop
 |[],σ,M=>S M/\D.nx σ M
 |d::r,σ,M=>S M/\g d σ M λσ2 M2=>tb {D with nx:=jX g tb S D r,ct:=jX g tb S D r,bk:=D.nx} σ2 M2
noncomputable def nu(D:Ends3)(i:Nat):Ends3:=⟨λσ M=>D.nx (σ.set i none) M,D.rt,λσ M=>D.bk (σ.set i none) M,λσ M=>D.ct (σ.set i none) M⟩
mutual
def wpS:IS->Ends3->(St3->XN)->St3->MH->Prop
 |.set i e,D,E,σ,M=>wpE W e σ M (λx M1=>D.nx (σ.set i (some x)) M1) (E σ)
 |.expr e,D,E,σ,M=>wpE W e σ M (λ_ M1=>D.nx σ M1) (E σ)
 |.ret e,D,E,σ,M=>wpE W e σ M D.rt (E σ)
 |.ifs c a b,D,E,σ,M=>wpT W c σ M (λk M1=>if k=true then aO a D E σ M1 else aO b D E σ M1) (E σ)
 |.for_ tg it body,D,E,σ,M=>wpI W it σ M (λds S M1=>jX (wpG tg) (λD σ M=>aO body D E σ M) S D ds σ M1) (E σ)
 |.whl c body,D,E,σ,M=>∃P:Nat->St3->MH->Prop,(∃m,P m σ M)/\∀m σ M,P m σ M->wpT W c σ M (λb M1=>if b=true then
   aO body {D with nx:=λσ' M'=>∃m',m' < m/\P m' σ' M',ct:=λσ' M'=>∃m',m' < m/\P m' σ' M',bk:=D.nx} E σ M1 else D.nx σ M1) (E σ)
 |.raise c es,_,E,σ,M=>wpA W es σ M (λxs M1=>xs.length<=sizeLine/\E σ ⟨c,none⟩ M1) (E σ)
 |.raiseI c es,_,E,σ,M=>wpA W es σ M (λxs M1=>match xs with
  |[y]=>dn (W.xin c) λf=>rXp f y M1 λy'=>E σ ⟨c,some (f,y')⟩ M1
  |_=>False) (E σ)
 |.try_ body hs,D,E,σ,M=>aO body D (λσ' i M'=>wpH hs i D σ' M') σ M
 |.app o e,D,E,σ,M=>wpE W o σ M (λx M1=>match x with
  |.ref a=>match M1 a with
   |some (.lst _)=>wpE W e σ M1 (λy M2=>match M2 a with
    |some (.lst ds)=>ds.length<sizeLine/\D.nx σ (put M2 a (.lst (ds++[y])))
    |_=>False) (E σ)
   |_=>False
  |_=>False) (E σ)
 |.del i,D,_,σ,M=>match σ[i]? with
  |some (some x)=>aU (λy M'=>D.nx (σ.set i (some y)) M') x M
  |_=>False
 |.fset o f e,D,E,σ,M=>wpE W e σ M (λy M1=>wpE W o σ M1 (λx M2=>match x with
  |.ref a=>match M2 a with
   |some (.ins i C ns ds)=>(C=W.kls i/\i<W.nk/\W.fok i f=true/\ns.length<1000)/\D.nx σ (put M2 a (.ins i C (cm f ns) (cr f y ns ds)))
   |_=>False
  |_=>False) (E σ)) (E σ)
 |.ixset o i e,D,E,σ,M=>wpE W e σ M (λy M1=>wpE W o σ M1 (λx M2=>wpE W i σ M2 (λk M3=>bJ x k y M3 λM4=>D.nx σ M4) (E σ)) (E σ)) (E σ)
 |.dead,_,_,_,_=>False
def aO:ISs->Ends3->(St3->XN)->St3->MH->Prop
 |.nil,D,_,σ,M=>D.nx σ M
 |.cons s r,D,E,σ,M=>wpS s {D with nx:=λσ' M'=>aO r D E σ' M'} E σ M
def wpH:IHs->XE->Ends3->St3->MH->Prop
 |.nil,_,_,_,_=>False
 |.cons c nm body r,i,D,σ,M=>i.c<W.ne/\if W.sub i.c c=true then (match nm with
  |none=>aO body D (λ_ _ _=>False) σ M
  |some j=>∀a,M a=none->aO body (nu D j) (λ_ _ _=>False) (σ.set j (some (.ref a))) (put M a (.exc i (.ref (W.cls i.c))))) else wpH r i D σ M
end
end
def LkE(K:Iz)(cls:Nat->Addr)(H:Hp)(E3:XN)(E:XK):Prop:=∀i M' H',TM K H H'->RelM K M' H'->E3 i M'->∀dx,XD K H' i dx->E (.ref (cls i.c)) dx H'
def LkS(K:Iz)(cls:Nat->Addr)(H:Hp)(E3:St3->XN)(E2:St->XK):Prop:=∀σ3 σ i M' H',TM K H H'->DenS K H' σ3 σ->RelM K M' H'->E3 σ3 i M'->∀dx,XD K H' i dx->E2 σ (.ref (cls i.c)) dx H'
section
variable {K:Iz}
theorem LkE.mono(h:LkE K cls H E3 E)(t:TM K H H1):LkE K cls H1 E3 E:=λi M' H' t' r q=>h i M' H' (t.trans t') r q
theorem LkS.mono(h:LkS K cls H E3 E2)(t:TM K H H1):LkS K cls H1 E3 E2:=λσ3 σ i M' H' t' d r q=>h σ3 σ i M' H' (t.trans t') d r q
theorem LkS.at(h:LkS K cls H E3 E2)(ds:DenS K H σ3 σ):LkE K cls H (E3 σ3) (E2 σ):=λi M' H' t r q=>h σ3 σ i M' H' t (ds.mono t) r q
theorem LkE.no:LkE K cls H (λ_ _=>False) E:=λ_ _ _ _ _ h=>h.elim
theorem Back.mono(h:Back K H Q Q2)(t:TM K H H1):Back K H1 Q Q2:=λv H' d M' a b c e=>h v H' d M' a b (t.trans c) e
end
section
variable (K:Iz) (cls:Nat->Addr) (E2:St->XK)
noncomputable def low(t:St3->MH->VK3->XN->Prop):TE:=λσ H Q2=>∃σ3 M Q E3,RelM K M H/\DenS K H σ3 σ/\LkE K cls H E3 (E2 σ)/\t σ3 M Q E3/\Back K H Q Q2
noncomputable def cB(t:St3->MH->(Bool->MH->Prop)->XN->Prop):TT:=λσ H Q2=>∃σ3 M Q E3,RelM K M H/\DenS K H σ3 σ/\LkE K cls H E3 (E2 σ)/\t σ3 M Q E3/\∀b H' M',RelM K M' H'->TM K H H'->Q b M'->Q2 b H'
noncomputable def dI(t:St3->MH->(List D->MH->Prop)->XN->Prop):TA:=λσ H Q2=>∃σ3 M Q E3,RelM K M H/\DenS K H σ3 σ/\LkE K cls H E3 (E2 σ)/\t σ3 M Q E3/\∀vs H' ds M',DenL K H' ds vs->RelM K M' H'->TM K H H'->Q ds M'->Q2 vs H'
noncomputable def r0(t:St3->MH->(Option Int->MH->Prop)->XN->Prop):TO:=λσ H Q2=>∃σ3 M Q E3,RelM K M H/\DenS K H σ3 σ/\LkE K cls H E3 (E2 σ)/\t σ3 M Q E3/\∀o H' M',RelM K M' H'->TM K H H'->Q o M'->Q2 o H'
noncomputable def kj(t:St3->MH->(List D->(MH->Prop)->MH->Prop)->XN->Prop):TI:=λσ H R2=>∃σ3 M R E3,RelM K M H/\DenS K H σ3 σ/\LkE K cls H E3 (E2 σ)/\t σ3 M R E3/\∀J H' ds S M',ItOk K H' J ds S->RelM K M' H'->TM K H H'->R ds S M'->R2 J H'
noncomputable def bv(t:Ends3->(St3->XN)->St3->MH->Prop):TS:=λD2 σ H=>∃σ3 M D3 E3,RelM K M H/\DenS K H σ3 σ/\LkS K cls H E3 E2/\t D3 E3 σ3 M/\ER K H D3 D2
noncomputable def rY(t:D->St3->MH->(St3->MH->Prop)->Prop):TG:=λv σ H Q2=>∃d σ3 M Q,Den K H d v/\RelM K M H/\DenS K H σ3 σ/\t d σ3 M Q/\BackS K H Q Q2
end
section
variable {X:Cx}{st:Stmt}
theorem PE.imp(h:PE X e t)(f:∀σ H Q,t' σ H Q->t σ H Q):PE X e t':=λpins s σ H Q I q=>h pins s σ H Q I (f σ H Q q)
theorem PT.imp(h:PT X e t)(f:∀σ H Q,t' σ H Q->t σ H Q):PT X e t':=λpins s σ H Q I q=>h pins s σ H Q I (f σ H Q q)
theorem PW.imp(h:PW X e t)(f:∀σ H Q,t' σ H Q->t σ H Q):PW X e t':=λwhole pins s σ H Q I q=>h whole pins s σ H Q I (f σ H Q q)
theorem PA.imp(h:PA X es t)(f:∀σ H Q,t' σ H Q->t σ H Q):PA X es t':=λpos pins s σ H Q I q=>h pos pins s σ H Q I (f σ H Q q)
theorem PO.imp(h:PO X o t)(f:∀σ H Q,t' σ H Q->t σ H Q):PO X o t':=λpins s σ H Q I q=>h pins s σ H Q I (f σ H Q q)
theorem PI.imp(h:PI X tg e t)(f:∀σ H Q,t' σ H Q->t σ H Q):PI X tg e t':=λpins s σ H Q I q=>h pins s σ H Q I (f σ H Q q)
theorem PS.imp(h:PS X st t)(f:∀D σ H,t' D σ H->t D σ H):PS X st t':=λpins s σ H D I q=>h pins s σ H D I (f D σ H q)
theorem PSs.imp(h:PSs X sts t)(f:∀D σ H,t' D σ H->t D σ H):PSs X sts t':=λpins s σ H D I q=>h pins s σ H D I (f D σ H q)
theorem PG.imp(h:PG X e t)(f:∀v σ H Q,t' v σ H Q->t v σ H Q):PG X e t':=λpins s σ H v u Q I r q=>h pins s σ H v u Q I r (f v σ H Q q)
end
section
variable {X:Cx}{s:Shared}
theorem HOk.freeze(x:HOk P w H h)(e:H a=some (.lst xs)):∃o,HOk P w (upd H a (.frz o (.lst xs))) h:=by
 obtain⟨o,ho⟩:=(x a _ e).isAt;refine⟨o,λb u q=>?_⟩
 have own:∀c y,H c=some (.own y)->(upd H a (.frz o (.lst xs))) c=some (.own y):=λc y z=>by
  rw[ae (dQ z e (λw=>nomatch w))];exact z
 have tup:∀c ys,H c=some (.tup ys)->(upd H a (.frz o (.lst xs))) c=some (.tup ys):=λc ys z=>by
  rw[ae (dQ z e (λw=>nomatch w))];exact z
 by_cases hb:b=a
 ·subst hb;rw[ag]at q;cases q;exact⟨ho,(x b _ e).stay (λ_ _ _ q=>q) (λc z=>own c _ z) λc ys z=>tup c ys z⟩
 ·rw[ae hb]at q;exact (x b u q).stay (λ_ _ _ q=>q) (λc z=>own c _ z) λc ys z=>tup c ys z
theorem Inv.freeze(I:Inv X pins σ H s)(e:H a=some (.lst xs)):∃o,Inv X pins σ (upd H a (.frz o (.lst xs))) s:=by
 obtain⟨o,ok⟩:=I.hok.freeze e;have ne:∀b,H b=none->b≠a:=λb z=>λq=>by rw[q,e]at z;cases z
 refine⟨o,⟨I.ok,I.os,I.bare,⟨I.base.keep,I.base.slot,λb ob q n hx=>?_,I.base.there,λb ys q=>?_,λb ob u q=>?_,λb ps q=>?_⟩,I.loc,I.cell,?_,λx c z=>?_,λp hp=>?_,ok,I.len⟩⟩
 ·have z:=I.base.free b ob q n hx;rw[ae (ne b z)];exact z
 ·have z:=I.base.tups b ys q;rw[ae (dQ z e (λw=>nomatch w))];exact z
 ·have z:=I.base.frzs b ob u q;rw[ae (dQ z e (λw=>nomatch w))];exact z
 ·obtain⟨more,z⟩:=I.base.tbls b ps q;exact⟨more,by rw[ae (dQ z e (λw=>nomatch w))];exact z⟩
 ·rw[ae (ne _ I.free)];exact I.free
 ·rw[ae (ne _ (I.freeC x c z))];exact I.freeC x c z
 ·obtain⟨p1,p2,p3⟩:=I.pin p hp;exact⟨p1,by rw[ae (ne _ p2)];exact p2,p3⟩
end
section
variable {K:Iz}{xs:List V}
theorem TM.freeze(e:H a=some (.lst xs)):TM K H (upd H a (.frz o (.lst xs))):=
 .put e (λ_=>λz=>nomatch z) λ_ _=>λz=>nomatch z
theorem RelM.freeze(r:RelM K M H)(e:H a=some (.lst xs)):RelM K (del M a) (upd H a (.frz o (.lst xs))):=λb u q=>by
 obtain⟨ne,q⟩:=l6 q;exact (r b u q).stay (.freeze e) (ae ne)
theorem gq(h:DenL K H ds xs)(e:H a=some (.lst xs)):Den K (upd H a (.frz o (.lst xs))) (.rol ds) (.ref a):=⟨a,xs,rfl,.inl ⟨o,ag⟩,h.mono (.freeze e)⟩
end
theorem bZ{X:Cx}
  (I:Inv X pins σ (upd H p (.lst vs)) s) (hp:H p=none) (dl:DenL X.K H ds vs)(rm:RelM X.K M H)(tm:TM X.K H0 H)(h:cA fz ds M Q)(back:Back X.K H0 Q Q2):EP X pins σ Q2 (.ref p) s:=by
 obtain⟨_,h⟩:=h;cases fz with
 |true=>
  rw[Hg rfl]at h;obtain⟨o,I2⟩:=I.freeze ag;refine⟨.ref p,_,I2,rfl,back _ _ _ _ (gq (o:=o) (dl.mono (.new hp)) ag) ?_ (tm.trans ((TM.new hp).trans (.freeze ag))) h⟩;have r2:RelM X.K (put M p (.lst ds)) (upd H p (.lst vs)):=rm.lay hp ⟨vs,ag,dl.mono (.new hp)⟩;have r3:=r2.freeze (o:=o) (xs:=vs) ag;rw[da (rm.fresh hp)]at r3;exact r3
 |false=>
  rw[Hc Hq]at h;exact⟨.ref p,_,I,rfl,back _ _ _ _ gW (rm.lay (u:=.lst ds) hp ⟨vs,ag,dl.mono (.new hp)⟩) (tm.trans (.new hp)) (h p (rm.fresh hp))⟩
def RdL(K:Iz)(H:Hp)(p:Addr)(vs:List V):Prop:=Rd H p (.lst vs)\/SqM K p vs
theorem RdL.sq{K:Iz}(h:RdL K H p vs):SqL K H p vs:=by
 rcases h with h|h
 ·exact .inl h
 ·exact h.sq
theorem SqF.rd{K:Iz}(h:SqF K H p vs):RdL K H p vs:=by
 rcases h with h|h
 ·exact .inl (.inr h)
 ·exact .inr h
theorem bq{K:Iz}(rm:RelM K M H)(h:ai M x=some ds)(dv:Den K H x v):∃p vs,v=.ref p/\RdL K H p vs/\DenL K H ds vs:=by
 cases x with
 |rol es=>
  cases (show es=ds from Hv h);obtain⟨p,vs,e,s,l⟩:=dv;exact⟨p,vs,e,s.rd,l⟩
 |ref a=>
  have h:(match M a with|some (.lst ds)=>some ds|_=>none)=some ds:=h
  split at h
  next es q=>
   cases h;obtain⟨vs,e,l⟩:=rm a _ q;exact⟨a,vs,dv,.inl (.inl e),l⟩
  next=>cases h
 |_=>cases h
theorem hJ{K:Iz}(rm:RelM K M H)(h:aD M x=some ds)(dv:Den K H x v):∃p vs,v=.ref p/\(SqL K H p vs\/SqT K H p vs)/\DenL K H ds vs:=by
 cases x with
 |tup es=>
  cases (show es=ds from Hv h);obtain⟨p,vs,e,s,l⟩:=dv;exact⟨p,vs,e,.inr s,l⟩
 |rol es=>obtain⟨p,vs,e,s,l⟩:=bq rm (show ai M (.rol es)=some ds from h) dv;exact⟨p,vs,e,.inl s.sq,l⟩
 |ref a=>obtain⟨p,vs,e,s,l⟩:=bq rm (show ai M (.ref a)=some ds from h) dv;exact⟨p,vs,e,.inl s.sq,l⟩
 |_=>cases h
theorem Inv.rdL{X:Cx}{s:Shared}{xs:List V}(I:Inv X pins σ H s)(h:RdL X.K H l xs):xs.length<=sizeLine/\∃(its:List Value) (n:Nat),Vals xs its/\xs.length=its.length/\s.heap.get? l=some {cls:=.type "list",data:=.seq its.toArray n}:=by
 rcases h with h|⟨its,n,e,z,r⟩
 ·obtain⟨z,its,n,r,e⟩:=h.ok I.hok;exact⟨z,its,n,r,r.length,e⟩
 ·exact⟨by rw[r.length];exact z,its,n,r,r.length,I.kIn _ _ e⟩
noncomputable def uf:HO->Bool
 |.lst _=>true
 |.dK _=>true
 |.dT _=>true
 |.ins _ _ _=>true
 |.ext _=>true
 |_=>false
theorem mo(h:uf u=true):(∀y,HO.own y≠u)/\(∀xs,HO.tup xs≠u)/\(∀o v,HO.frz o v≠u)/\∀ps,HO.tbl ps≠u:=by
 cases u<;>first
  |(cases h;done)
  |exact⟨λ_ z=>(by cases z),λ_ z=>(by cases z),λ_ _ z=>(by cases z),λ_ z=>(by cases z)⟩
section
variable {X:Cx}
theorem HOk.frzU(x:HOk P w H h)(e:H a=some u)(hu:uf u=true):∃o,HOk P w (upd H a (.frz o u)) h:=by
 obtain⟨n1,n2,_,_⟩:=mo hu;obtain⟨o,ho⟩:=(x a _ e).isAt;refine⟨o,λb v q=>?_⟩
 have own:∀c y,H c=some (.own y)->(upd H a (.frz o u)) c=some (.own y):=λc y z=>by
  rw[ae (dQ z e (n1 y))];exact z
 have tup:∀c ys,H c=some (.tup ys)->(upd H a (.frz o u)) c=some (.tup ys):=λc ys z=>by
  rw[ae (dQ z e (n2 ys))];exact z
 by_cases hb:b=a
 ·subst hb;rw[ag]at q;cases q;exact⟨ho,(x b _ e).stay (λ_ _ _ q=>q) (λc z=>own c _ z) λc ys z=>tup c ys z⟩
 ·rw[ae hb]at q;exact (x b v q).stay (λ_ _ _ q=>q) (λc z=>own c _ z) λc ys z=>tup c ys z
theorem Inv.frzU(I:Inv X pins σ H s)(e:H a=some u)(hu:uf u=true):∃o,Inv X pins σ (upd H a (.frz o u)) s:=by
 obtain⟨n1,n2,n3,n4⟩:=mo hu;obtain⟨o,ok⟩:=I.hok.frzU e hu;have ne:∀b,H b=none->b≠a:=λb z=>λq=>by rw[q,e]at z;cases z
 refine⟨o,⟨I.ok,I.os,I.bare,⟨I.base.keep,I.base.slot,λb ob q n hx=>?_,I.base.there,λb ys q=>?_,λb ob u q=>?_,λb ps q=>?_⟩,I.loc,I.cell,?_,λx c z=>?_,λp hp=>?_,ok,I.len⟩⟩
 ·have z:=I.base.free b ob q n hx;rw[ae (ne b z)];exact z
 ·have z:=I.base.tups b ys q;rw[ae (dQ z e (n2 _))];exact z
 ·have z:=I.base.frzs b ob u q;rw[ae (dQ z e (n3 _ _))];exact z
 ·obtain⟨more,z⟩:=I.base.tbls b ps q;exact⟨more,by rw[ae (dQ z e (n4 _))];exact z⟩
 ·rw[ae (ne _ I.free)];exact I.free
 ·rw[ae (ne _ (I.freeC x c z))];exact I.freeC x c z
 ·obtain⟨p1,p2,p3⟩:=I.pin p hp;exact⟨p1,by rw[ae (ne _ p2)];exact p2,p3⟩
end
section
variable {K:Iz}
theorem TM.frzU(e:H a=some u)(hu:uf u=true):TM K H (upd H a (.frz o u)):=by
 obtain⟨_,n2,n3,_⟩:=mo hu;exact .put e (λxs z=>n2 xs z.symm) λob v z=>n3 ob v z.symm
theorem RelM.frzU(r:RelM K M H)(e:H a=some u)(hu:uf u=true):RelM K (del M a) (upd H a (.frz o u)):=λb v q=>by
 obtain⟨ne,q⟩:=l6 q;exact (r b v q).stay (.frzU e hu) (ae ne)
end
noncomputable def fzD:DO->D
 |.lst ds=>.rol ds
 |.dk ks ds=>.dik ks ds
 |.dt ks ds=>.dit ks ds
 |.ins i C ns ds=>.obj i C ns ds
 |.exc _ _=>.non
 |.stl _=>.non
theorem fj{X:Cx}(I:Inv X pins σ H s)(rm:RelM X.K M H)(e:M a=some o)(ho:(∀i c,o≠.exc i c)/\∀φ,o≠.stl φ) :
  ∃H',Inv X pins σ H' s/\TM X.K H H'/\RelM X.K (del M a) H'/\Den X.K H' (fzD o) (.ref a):=by
 cases o with
 |lst ds=>
  obtain⟨vs,e1,dl⟩:=rm a _ e;obtain⟨ob,I2⟩:=I.frzU e1 rfl;exact⟨_,I2,.frzU e1 rfl,rm.frzU e1 rfl,a,vs,rfl,.inl ⟨ob,ag⟩,dl.mono (.frzU e1 rfl)⟩
 |dk ks ds=>
  obtain⟨vs,e1,hl,dl⟩:=rm a _ e;obtain⟨ob,I2⟩:=I.frzU e1 rfl;exact⟨_,I2,.frzU e1 rfl,rm.frzU e1 rfl,a,vs,ob,rfl,ag,hl,dl.mono (.frzU e1 rfl)⟩
 |dt ks ds=>
  obtain⟨vs,xs,e1,z,dl⟩:=rm a _ e;obtain⟨ob,I2⟩:=I.frzU e1 rfl;have t:TM X.K H (upd H a (.frz ob (.ext (c6 a xs)))):=.frzU e1 rfl;exact⟨_,I2,t,rm.frzU e1 rfl,a,vs,ob,xs,rfl,ag,⟨z.kx,z.nd,z.sz,z.no,z.vx,λx hx=>t.t _ _ (z.at_ x hx)⟩,dl.mono t⟩
 |ins i C ns ds=>
  obtain⟨dx,vs,e1,hl,dl⟩:=rm a _ e;obtain⟨ob,I2⟩:=I.frzU e1 rfl;exact⟨_,I2,.frzU e1 rfl,rm.frzU e1 rfl,a,vs,ob,dx,rfl,ag,hl,dl.mono (.frzU e1 rfl)⟩
 |exc i c=>exact absurd rfl (ho.1 i c)
 |stl φ=>exact absurd rfl (ho.2 φ)
theorem gu{X:Cx}:∀{ds:List D}{vs:List V}{H:Hp}{M:MH}{R:List D->MH->Prop},Inv X pins σ H s->RelM X.K M H->DenL X.K H ds vs->eD ds M R->
  ∃H' M' r,Inv X pins σ H' s/\TM X.K H H'/\RelM X.K M' H'/\DenL X.K H' r vs/\R r M'
 |[],vs,H,M,R,I,rm,dl,h=>⟨H,M,[],I,.refl _,rm,dl,h⟩
 |d::ds,_,H,M,R,I,rm,dl,h=>by
  obtain⟨v,r,rfl,dv,dl⟩:=dl;have keep:∀(d:D),Den X.K H d v->eD ds M (λr M'=>R (d::r) M')->∃H' M' r',Inv X pins σ H' s/\TM X.K H H'/\RelM X.K M' H'/\DenL X.K H' r' (v::r)/\R r' M':=λd dv h=>by
   obtain⟨H',M',r',I',t,rm',dl',q⟩:=gu I rm dl h;exact⟨H',M',d::r',I',t,rm',.cons (dv.mono t) dl',q⟩
  have fz:∀(a:Addr)(o:DO),v=.ref a->M a=some o->((∀i c,o≠.exc i c)/\∀φ,o≠.stl φ)->eD ds (del M a) (λr M'=>R (fzD o::r) M')->∃H' M' r',Inv X pins σ H' s/\TM X.K H H'/\RelM X.K M' H'/\DenL X.K H' r' (v::r)/\R r' M':=λa o e eM ne h=>by
   subst e;obtain⟨H1,I1,t1,rm1,d1⟩:=fj I rm eM ne;obtain⟨H',M',r',I',t,rm',dl',q⟩:=gu I1 rm1 (dl.mono t1) h;exact⟨H',M',_::r',I',t1.trans t,rm',.cons (d1.mono t) dl',q⟩
  cases d with
  |ref a=>
   simp only[eD]at h;have e:v=.ref a:=dv;split at h
   ·rename_i es q;exact fz a (.lst es) e q ⟨(λ_ _ z=>nomatch z),(λ_ z=>nomatch z)⟩ h
   ·rename_i ks es q;exact fz a (.dk ks es) e q ⟨(λ_ _ z=>nomatch z),(λ_ z=>nomatch z)⟩ h
   ·rename_i ks es q;exact fz a (.dt ks es) e q ⟨(λ_ _ z=>nomatch z),(λ_ z=>nomatch z)⟩ h
   ·exact keep _ dv h
  |_=>exact keep _ dv (by simpa only[eD] using h)
theorem jf{X:Cx}(I:Inv X pins σ H s)(rm:RelM X.K M H)(dx:Den X.K H x v)(h:aU Q x M) :
  ∃H' M' d,Inv X pins σ H' s/\TM X.K H H'/\RelM X.K M' H'/\Den X.K H' d v/\Q d M':=by
 unfold aU at h;split at h
 ·rename_i a;cases (show v=.ref a from dx);split at h
  ·rename_i es q;obtain⟨H1,I1,t1,rm1,d1⟩:=fj (o:=.lst es) I rm q ⟨(λ_ _ z=>nomatch z),(λ_ z=>nomatch z)⟩
   exact⟨H1,_,_,I1,t1,rm1,d1,h⟩
  ·rename_i ks es q;obtain⟨H1,I1,t1,rm1,d1⟩:=fj (o:=.dk ks es) I rm q ⟨(λ_ _ z=>nomatch z),(λ_ z=>nomatch z)⟩
   exact⟨H1,_,_,I1,t1,rm1,d1,h⟩
  ·rename_i ks es q;obtain⟨H1,I1,t1,rm1,d1⟩:=fj (o:=.dt ks es) I rm q ⟨(λ_ _ z=>nomatch z),(λ_ z=>nomatch z)⟩
   exact⟨H1,_,_,I1,t1,rm1,d1,h⟩
  ·rename_i i C ns es q;obtain⟨H1,I1,t1,rm1,d1⟩:=fj (o:=.ins i C ns es) I rm q ⟨(λ_ _ z=>nomatch z),(λ_ z=>nomatch z)⟩
   obtain⟨a',vs,ob,dx',e',he,hl,dl⟩:=d1;cases e';obtain⟨H2,M2,r,I2,t2,rm2,dl2,q2⟩:=gu I1 rm1 dl h;refine⟨H2,M2,.obj i C ns r,I2,t1.trans t2,rm2,?_,q2⟩;exact⟨a,vs,ob,dx',rfl,t2.g _ _ _ he,hl,dl2⟩
  ·exact h.elim
 ·exact h.elim
end L2
namespace L2
open PySem PySem.Spec PySem.Calls PyProof.Rows
noncomputable def vR(E:XK)(cp:Bool)(K:Iz)(C:Addr)(f:Str)(t:TA):TS:=λ_ σ H=>t σ H λvs H1=>∃v,vs=[v]/\(cp=false->∀dx ob,H1 dx=none->E (.ref C) (some dx) (upd H1 dx (.frz ob (.xd [(f,v)]))))/\
 (cp=true->∃p ws,v=.ref p/\SqL K H1 p ws/\∀q o dx ob,H1 q=none->H1 dx=none->dx≠q->E (.ref C) (some dx) (upd (upd H1 q (.frz o (.lst ws))) dx (.frz ob (.xd [(f,.ref q)]))))
theorem SqL.new{K:Iz}(h:SqL K H p ws)(hn:H a=none):SqL K (upd H a o) p ws:=by
 rcases h with (h|⟨ob,h⟩)|h
 ·exact .inl (.inl (by rw[ae (aA h hn)];exact h))
 ·exact .inl (.inr ⟨ob,by rw[ae (aA h hn)];exact h⟩)
 ·exact .inr h
section
variable {X:Cx}{D:Addr}
theorem qL(hx:jj X E)(hc:X.calm=true)(hg:Gl X x)(hm:X.mg x=some (.ref C))(q:XIni X.K C fI f)(F:FnOk X.prog X.w X.K X.mg X.base (CX1 X.prog X.w) k fI fd ps (iK cp X.K C f))(hr:Room (k+1) X.A)(hb:Binds X.K fd ps [])(ha:PA X (e::es) t)
  (hdb:(x == ("__debug__" : Str))=false) (he:starEach (e::es) X.env=(false,eval e X.env)::starEach es X.env) (hpl:(backTo cpos (starEach es X.env)).any (·.1)=false) :
  PS X (.Raise (some (.Call (.Name x np) (e::es) [] cpos)) none pos) (vR E cp X.K C f t):=by
 intro pins s σ H D I h;refine rA (K:=X.K) (I.ok.hd hc) q.cl (wpAny_Call_Name_kw (bC I hg hm (PySem.W.callWith_K (h₀:=X.base) I.ok.mod.kin q.kp (thn (ha cpos pins s σ H _ I h) λus s1 ⟨vs,H1,I1,r,v,ev,q0,q1⟩=>⟨I1.kIn,?_⟩) he hpl) hdb))
 subst ev;cases r with
 |@cons _ u _ us rv r=>
 cases r with
 |nil=>
 obtain⟨h1,g1,d1,t1,os1⟩:=s1;refine uC I1.kIn q.cl q.ini q.fn (by rw[sizeLine_eq];simp) λh' a hsz hm=>?_
 obtain⟨t0,go,_,_⟩:=hm.there;have I2:=I1.laid (a:=a) (o:=gS a C) (h':=h') (t':=t1) hm.keeps hsz (pT go);have hn:H1 a=none:=I1.hok.fresh hsz;have r2:Vals [V.ref a,v] [Value.ref a,u]:=.cons rfl (.cons rv .nil);have hsp:iK cp X.K C f [V.ref a,v] (upd H1 a (gS a C)) (λr H'=>r=.non/\((cp=false/\∃dx ob,H1 dx=none/\dx≠a/\H'=upd (upd (upd H1 a (gS a C)) a (g5 a C dx)) dx (.frz ob (.xd [(f,v)])))\/
   (cp=true/\∃ws q dx ob,H1 q=none/\q≠a/\H1 dx=none/\dx≠a/\dx≠q/\(∀o,E (.ref C) (some dx) (upd (upd H1 q (.frz o (.lst ws))) dx (.frz ob (.xd [(f,.ref q)]))))/\H'=upd (upd (upd (upd H1 a (gS a C)) q (.lst ws)) a (g5 a C dx)) dx (.frz ob (.xd [(f,.ref q)]))))) (λ_ _ _=>False):=by
  refine⟨a,v,rfl,ag,λz dx ob n ne=>⟨rfl,.inl ⟨z,dx,ob,by rw[ae ne]at n;exact n,ne,rfl⟩⟩,λz=>?_⟩
  obtain⟨p,ws,ep,sq,qE⟩:=q1 z;refine⟨p,ws,ep,sq.new hn,λq dx ob nq nd ne nn=>⟨rfl,.inr ⟨z,ws,q,dx,ob,?_⟩⟩⟩
  have hqa:q≠a:=λw=>by rw[w,ag]at nq;cases nq
  rw[ae hqa]at nq;rw[ae ne]at nd;exact⟨nq,hqa,nd,ne,nn,λo=>qE q o dx ob nq nd nn,rfl⟩
 have hl:([Value.ref a,u]++([]:List Value)).length=ps.length:=by
  rw[<-F.len _ _ _ _ hsp];rfl
 have hb':=hb _ [Value.ref a,u] I2.kIn hl;rw[Ia]at hb';refine wpAny_call (codeAny_mono (F.run _ X.stack _ _ ⟨[Value.ref a,u],[]⟩ [Value.ref a,u] _ _ _ (hr.make C [u] []) (I2.env0.make C [u] []) hb' r2 hsp) λr s' hq=>?_)
 match r,hq with
 |.error e,hq=>
  obtain⟨_,_,_,_,_,_,_,_,_,_,_,_,_,z⟩:=hq;exact z.elim
 |.ok (.ret u'),hq=>
  obtain⟨v',H',I3,rv',e1,hh⟩:=I2.after hq;subst e1;rcases hh with ⟨zc,dx,ob,n,ne,eH⟩|⟨zc,ws,q',dx,ob,nq,qa,n,ne,nn,qE,eH⟩
  ·subst eH;have ea:upd (upd (upd H1 a (gS a C)) a (g5 a C dx)) dx (.frz ob (.xd [(f,v)])) a=some (g5 a C dx):=by rw[ae (He ne),ag]
   obtain⟨⟨t1,go1⟩,_,_⟩:=I3.hok a _ ea;have I4:=I3.forget ea;have eF:forget (upd (upd (upd H1 a (gS a C)) a (g5 a C dx)) dx (.frz ob (.xd [(f,v)]))) a=upd H1 dx (.frz ob (.xd [(f,v)])):=by
    funext b;by_cases w:b=a
    ·rw[w,c7,ae (He ne),hn]
    ·rw[dJ w];by_cases w2:b=dx
     ·rw[w2,ag,ag]
     ·rw[ae w2,ae w2,ae w,ae w]
   rw[eF]at I4;exact⟨rv',a,t1,dx,rfl,I3.kIn,go1,hx pins σ _ s' a _ _ _ I4 (by rw[ae (He ne)];exact hn) (Heap.get?_none_of_le (Hw I1.sz hsz)) go1 rfl rfl rfl (q0 zc dx ob n)⟩
  ·subst eH;have ea:upd (upd (upd (upd H1 a (gS a C)) q' (.lst ws)) a (g5 a C dx)) dx (.frz ob (.xd [(f,.ref q')])) a=some (g5 a C dx):=by rw[ae (He ne),ag]
   obtain⟨⟨t1,go1⟩,_,_⟩:=I3.hok a _ ea;have I4:=I3.forget ea;have eF:forget (upd (upd (upd (upd H1 a (gS a C)) q' (.lst ws)) a (g5 a C dx)) dx (.frz ob (.xd [(f,.ref q')]))) a=upd (upd H1 q' (.lst ws)) dx (.frz ob (.xd [(f,.ref q')])):=by
    funext b;by_cases w:b=a
    ·rw[w,c7,ae (He ne),ae (He qa),hn]
    ·rw[dJ w];by_cases w2:b=dx
     ·rw[w2,ag,ag]
     ·rw[ae w2,ae w2,ae w];by_cases w3:b=q'
      ·rw[w3,ag,ag]
      ·rw[ae w3,ae w3,ae w]
   rw[eF]at I4;obtain⟨o,I5⟩:=I4.freeze (a:=q') (xs:=ws) (by rw[ae (He nn),ag])
   have eG:upd (upd (upd H1 q' (.lst ws)) dx (.frz ob (.xd [(f,.ref q')]))) q' (.frz o (.lst ws))=upd (upd H1 q' (.frz o (.lst ws))) dx (.frz ob (.xd [(f,.ref q')])):=by
    funext b;by_cases w:b=q'
    ·rw[w,ag,ae (He nn),ag]
    ·rw[ae w];by_cases w2:b=dx
     ·rw[w2,ag,ag]
     ·rw[ae w2,ae w2,ae w,ae w]
   rw[eG]at I5;exact⟨rv',a,t1,dx,rfl,I3.kIn,go1,hx pins σ _ s' a _ _ _ I5 (by rw[ae (He ne),ae (He qa)];exact hn) (Heap.get?_none_of_le (Hw I1.sz hsz)) go1 rfl rfl rfl (qE o)⟩
 |.ok .next,hq=>exact hq.elim
 |.ok .brk,hq=>exact hq.elim
 |.ok .cont,hq=>exact hq.elim
end
end L2
namespace L2
open PySem PySem.Spec PyProof.Rows
section
variable {X:Cx}
theorem jI:∀{xs ys:List D},bx xs ys=true->xs.length=ys.length
 |[],[],_=>rfl
 |[],_::_,h=>by simp[bx]at h
 |_::_,[],h=>by simp[bx]at h
 |x::xs,y::ys,h=>by
  simp only[bx,G9]at h;rw[HA,HA,jI h.2]
theorem gm:∀{xs ys:List D},xs.length=ys.length->bx xs ys=(List.range xs.length).all λj=>eqD (xs.getD j .non) (ys.getD j .non)
 |[],[],_=>by simp[bx]
 |[],_::_,h=>by simp at h
 |_::_,[],h=>by simp at h
 |x::xs,y::ys,h=>by
  have ih:=gm (xs:=xs) (ys:=ys) (by simpa using h)
  simp only[bx,HA,List.range_succ_eq_map,List.all_cons,List.all_map,ih];rfl
theorem uc{xs ys:List D}:bx xs ys=((List.range (min xs.length ys.length)).all (λj=>eqD (xs.getD j .non) (ys.getD j .non))&&(xs.length == ys.length)):=by
 by_cases h:xs.length=ys.length
 ·rw[gm h,h,Nat.min_self,beq_self_eq_true,Bool.and_true]
 ·have e1:(xs.length == ys.length)=false:=HK.mpr h;rw[e1,Bool.and_false];cases q:bx xs ys with
  |false=>rfl
  |true=>exact absurd (jI q) h
theorem pQ{K:Iz}(I:Inv X pins σ H s)(hK:K=X.K):∀(n:Nat) {x y:D}{v:V},plN n x=true->plN n y=true->Den K H x v->Den K H y v->x=y:=by
 subst hK;have lists:∀(n:Nat),(∀{x y:D}{v:V},plN n x=true->plN n y=true->Den X.K H x v->Den X.K H y v->x=y)->∀{xs ys:List D}{vs:List V},xs.all (plN n)=true->ys.all (plN n)=true->DenL X.K H xs vs->DenL X.K H ys vs->xs=ys:=by
  intro n ih xs
  induction xs with
  |nil=>
   intro ys vs _ _ h1 h2;cases (show vs=[] from h1);cases ys with
   |nil=>rfl
   |cons y ys=>obtain⟨_,_,e,_⟩:=h2;cases e
  |cons x xs iht=>
   intro ys vs p1 p2 h1 h2;obtain⟨v,r,rfl,d1,l1⟩:=h1;cases ys with
   |nil=>cases (show v::r=[] from h2)
   |cons y ys=>
    obtain⟨v',r',e,d2,l2⟩:=h2;cases e;simp only[List.all_cons,G9]at p1 p2;rw[ih p1.1 p2.1 d1 d2,iht p1.2 p2.2 l1 l2]
 have clash:∀{p:Addr}{vs ws:List V},SqT X.K H p vs->SqF X.K H p ws->False:=λ{p vs ws} h1 h2=>by
  obtain⟨its,_,t1,_⟩:=I.tuple h1;obtain⟨z,its2,n2,_,_,e2⟩:=I.rdL h2.rd;obtain⟨o,e1,c1,_⟩:=(show s.heap.IsTuple p its.toArray from t1);rw[e2]at e1;cases e1;injection c1 with z;exact absurd z (by decide)
 intro n
 induction n with
 |zero=>
  intro x y v p1 p2 d1 d2;cases x with
  |non=>
   cases (show v=.non from d1);cases y with
   |non=>rfl
   |bl b=>cases (show V.non=.bl b from d2)
   |int b=>cases (show V.non=.int b from d2)
   |str b=>cases (show V.non=.str b from d2)
   |tup es=>cases p2
   |rol es=>cases p2
   |ref a=>cases p2
   |obj _ _ _ _=>cases p2
   |dik _ _=>cases p2
   |dit _ _=>cases p2
  |bl a=>
   cases (show v=.bl a from d1);cases y with
   |non=>cases (show V.bl a=.non from d2)
   |bl b=>cases (show V.bl a=.bl b from d2);rfl
   |int b=>cases (show V.bl a=.int b from d2)
   |str b=>cases (show V.bl a=.str b from d2)
   |tup es=>cases p2
   |rol es=>cases p2
   |ref a=>cases p2
   |obj _ _ _ _=>cases p2
   |dik _ _=>cases p2
   |dit _ _=>cases p2
  |int a=>
   cases (show v=.int a from d1);cases y with
   |non=>cases (show V.int a=.non from d2)
   |bl b=>cases (show V.int a=.bl b from d2)
   |int b=>cases (show V.int a=.int b from d2);rfl
   |str b=>cases (show V.int a=.str b from d2)
   |tup es=>cases p2
   |rol es=>cases p2
   |ref a=>cases p2
   |obj _ _ _ _=>cases p2
   |dik _ _=>cases p2
   |dit _ _=>cases p2
  |str a=>
   cases (show v=.str a from d1);cases y with
   |non=>cases (show V.str a=.non from d2)
   |bl b=>cases (show V.str a=.bl b from d2)
   |int b=>cases (show V.str a=.int b from d2)
   |str b=>cases (show V.str a=.str b from d2);rfl
   |tup es=>cases p2
   |rol es=>cases p2
   |ref a=>cases p2
   |obj _ _ _ _=>cases p2
   |dik _ _=>cases p2
   |dit _ _=>cases p2
  |tup es=>cases p1
  |rol es=>cases p1
  |ref a=>cases p1
  |obj _ _ _ _=>cases p1
  |dik _ _=>cases p1
  |dit _ _=>cases p1
 |succ n ih=>
  intro x y v p1 p2 d1 d2;cases x with
  |non=>
   cases (show v=.non from d1);cases y with
   |non=>rfl
   |bl b=>cases (show V.non=.bl b from d2)
   |int b=>cases (show V.non=.int b from d2)
   |str b=>cases (show V.non=.str b from d2)
   |tup es=>obtain⟨p,vs,e,_⟩:=d2;cases e
   |rol es=>obtain⟨p,vs,e,_⟩:=d2;cases e
   |ref a=>cases p2
   |obj _ _ _ _=>cases p2
   |dik _ _=>cases p2
   |dit _ _=>cases p2
  |bl a=>
   cases (show v=.bl a from d1);cases y with
   |non=>cases (show V.bl a=.non from d2)
   |bl b=>cases (show V.bl a=.bl b from d2);rfl
   |int b=>cases (show V.bl a=.int b from d2)
   |str b=>cases (show V.bl a=.str b from d2)
   |tup es=>obtain⟨p,vs,e,_⟩:=d2;cases e
   |rol es=>obtain⟨p,vs,e,_⟩:=d2;cases e
   |ref a=>cases p2
   |obj _ _ _ _=>cases p2
   |dik _ _=>cases p2
   |dit _ _=>cases p2
  |int a=>
   cases (show v=.int a from d1);cases y with
   |non=>cases (show V.int a=.non from d2)
   |bl b=>cases (show V.int a=.bl b from d2)
   |int b=>cases (show V.int a=.int b from d2);rfl
   |str b=>cases (show V.int a=.str b from d2)
   |tup es=>obtain⟨p,vs,e,_⟩:=d2;cases e
   |rol es=>obtain⟨p,vs,e,_⟩:=d2;cases e
   |ref a=>cases p2
   |obj _ _ _ _=>cases p2
   |dik _ _=>cases p2
   |dit _ _=>cases p2
  |str a=>
   cases (show v=.str a from d1);cases y with
   |non=>cases (show V.str a=.non from d2)
   |bl b=>cases (show V.str a=.bl b from d2)
   |int b=>cases (show V.str a=.int b from d2)
   |str b=>cases (show V.str a=.str b from d2);rfl
   |tup es=>obtain⟨p,vs,e,_⟩:=d2;cases e
   |rol es=>obtain⟨p,vs,e,_⟩:=d2;cases e
   |ref a=>cases p2
   |obj _ _ _ _=>cases p2
   |dik _ _=>cases p2
   |dit _ _=>cases p2
  |tup ds=>
   obtain⟨p,vs,rfl,q1,l1⟩:=d1;cases y with
   |tup es=>
    obtain⟨p',vs',e,q2,l2⟩:=d2;cases e;have e:vs=vs':=by
     obtain⟨its,r1,t1,_⟩:=I.tuple q1;obtain⟨its2,r2,t2,_⟩:=I.tuple q2;obtain⟨o1,e1,c1,n1,f1⟩:=(show s.heap.IsTuple p its.toArray from t1);obtain⟨o2,e2,c2,n2,f2⟩:=(show s.heap.IsTuple p its2.toArray from t2);rw[e1]at e2;cases e2;rw[f1]at f2;have:its=its2:=by injection f2 with z;simpa using z
     subst this;exact r1.inj r2
    subst e;rw[lists n ih (by simpa [plN] using p1) (by simpa [plN] using p2) l1 l2]
   |rol es=>obtain⟨p',vs',e,q2,l2⟩:=d2;cases e;exact (clash q1 q2).elim
   |non=>cases (show V.ref p=.non from d2)
   |bl b=>cases (show V.ref p=.bl b from d2)
   |int b=>cases (show V.ref p=.int b from d2)
   |str b=>cases (show V.ref p=.str b from d2)
   |ref a=>cases p2
   |obj _ _ _ _=>cases p2
   |dik _ _=>cases p2
   |dit _ _=>cases p2
  |rol ds=>
   obtain⟨p,vs,rfl,q1,l1⟩:=d1;cases y with
   |rol es=>
    obtain⟨p',vs',e,q2,l2⟩:=d2;cases e;have e:vs=vs':=by
     obtain⟨_,its,n1,r1,_,e1⟩:=I.rdL q1.rd;obtain⟨_,its2,n2,r2,_,e2⟩:=I.rdL q2.rd;rw[e1]at e2;have:its=its2:=by
      have z:=Hv e2;injection z with z1 z2 z3 z4
      injection z3 with z5 z6
      simpa using z5
     subst this;exact r1.inj r2
    subst e;rw[lists n ih (by simpa [plN] using p1) (by simpa [plN] using p2) l1 l2]
   |tup es=>obtain⟨p',vs',e,q2,l2⟩:=d2;cases e;exact (clash q2 q1).elim
   |non=>cases (show V.ref p=.non from d2)
   |bl b=>cases (show V.ref p=.bl b from d2)
   |int b=>cases (show V.ref p=.int b from d2)
   |str b=>cases (show V.ref p=.str b from d2)
   |ref a=>cases p2
   |obj _ _ _ _=>cases p2
   |dik _ _=>cases p2
   |dit _ _=>cases p2
  |ref a=>cases p1
  |obj _ _ _ _=>cases p1
  |dik _ _=>cases p1
  |dit _ _=>cases p1
theorem t5:∀(n:Nat) {x:D},plN n x=true->eqD x x=true:=by
 have lists:∀(n:Nat),(∀{x:D},plN n x=true->eqD x x=true)->∀{xs:List D},xs.all (plN n)=true->bx xs xs=true:=by
  intro n ih xs
  induction xs with
  |nil=>intro _;rfl
  |cons x xs iht=>
   intro h;simp only[List.all_cons,G9]at h;simp only[bx,G9];exact⟨ih h.1,iht h.2⟩
 intro n
 induction n with
 |zero=>
  intro x h;cases x with
  |tup es=>cases h
  |rol es=>cases h
  |ref a=>cases h
  |obj _ _ _ _=>cases h
  |dik _ _=>cases h
  |dit _ _=>cases h
  |_=>simp[eqD]
 |succ n ih=>
  intro x h;cases x with
  |tup es=>simp only[eqD];exact lists n ih (by simpa [plN] using h)
  |rol es=>simp only[eqD];exact lists n ih (by simpa [plN] using h)
  |ref a=>cases h
  |obj _ _ _ _=>cases h
  |dik _ _=>cases h
  |dit _ _=>cases h
  |_=>simp[eqD]
theorem nE{K:Iz}(I:Inv X pins σ H s)(hK:K=X.K)(n:Nat)(p1:plN n x=true)(p2:plN n y=true)(d1:Den K H x v)(d2:Den K H y v):eqD x y=true:=by
 rw[pQ I hK n p1 p2 d1 d2];exact t5 n p2
theorem Ae(a b:Bool):eqD (.bl a) (.bl b)=(a == b):=by simp[eqD]
theorem zI(a:Bool)(b:Int):eqD (.bl a) (.int b)=((if a then 1 else 0) == b):=by simp[eqD];rfl
theorem xX(a:Int)(b:Bool):eqD (.int a) (.bl b)=(a == (if b then 1 else 0)):=by simp[eqD];rfl
theorem AL(a b:Int):eqD (.int a) (.int b)=(a == b):=by simp[eqD];rfl
theorem Aj(a b:Str):eqD (.str a) (.str b)=(a == b):=by simp[eqD];rfl
abbrev Eq3(A:Around)(s:Shared)(v u:Value)(k:Bool):Prop:=SeqAt.RcAt A s v u k/\SeqAt.RcNeAt A s v u (!k)/\SeqAt.EqAt A s v u k
inductive Seen (s:Shared):D->Value->Prop where
 |non:Seen s .non .none
 |bl (b:Bool):Seen s (.bl b) (.bool b)
 |int (i:Int) (t:Tok):Seen s (.int i) (.int i t)
 |str (x:Str) (t:Tok):Seen s (.str x) (.str x t)
 |tup {ds:List D}{p:Addr}{its:List Value} (h:s.heap.IsTuple p its.toArray):Seen s (.tup ds) (.ref p)
 |rol {ds:List D}{p:Addr}{its:List Value} (h:s.heap.IsList p its.toArray):Seen s (.rol ds) (.ref p)
theorem ja{X:Cx}(I:Inv X pins σ H s)(p:plN n x=true)(d:Den X.K H x v)(r:RelV v v2):Seen s x v2:=by
 cases x with
 |non=>cases (show v=.non from d);cases r;exact .non
 |bl b=>cases (show v=.bl b from d);cases r;exact .bl b
 |int i=>cases (show v=.int i from d);obtain⟨t,rfl⟩:=r;exact .int i t
 |str i=>cases (show v=.str i from d);obtain⟨t,rfl⟩:=r;exact .str i t
 |tup ds=>
  obtain⟨q,vs,rfl,sq,_⟩:=d;cases r;obtain⟨its,_,t,_⟩:=I.tuple sq;exact .tup (its:=its) t
 |rol ds=>
  obtain⟨q,vs,rfl,sq,_⟩:=d;cases r;obtain⟨its,_,t,_⟩:=I.list sq.sq;exact .rol (its:=its) t.isList
 |ref a=>simp[plN]at p
 |obj _ _ _ _=>simp[plN]at p
 |dik _ _=>simp[plN]at p
 |dit _ _=>simp[plN]at p
theorem tG{A:Around}(hx:Seen s x v)(hy:Seen s y u)(hu:A.units<cLine)(seq:∀ds es,(x=.tup ds/\y=.tup es)\/(x=.rol ds/\y=.rol es)->Eq3 A s v u (eqD x y)):Eq3 A s v u (eqD x y):=by
 cases hx with
 |non=>
  cases hy with
  |non=>exact⟨.none_none,.none_none,.same _⟩
  |bl b=>rw[show eqD (.non) (.bl b)=false by simp[eqD]];exact⟨.none_bool b,.none_bool b,.none_bool b⟩
  |int b tb=>rw[show eqD (.non) (.int b)=false by simp[eqD]];exact⟨.none_int b tb,.none_int b tb,.none_int b tb⟩
  |str b tb=>rw[show eqD (.non) (.str b)=false by simp[eqD]];exact⟨.none_str b tb,.none_str b tb,.none_str b tb⟩
  |@tup es p2 its2 h2=>rw[show eqD (.non) (.tup es)=false by simp[eqD]];exact⟨.none_tuple h2 hu,.none_tuple h2 hu,.none_tuple h2 hu⟩
  |@rol es p2 its2 h2=>rw[show eqD (.non) (.rol es)=false by simp[eqD]];exact⟨.none_list h2 hu,.none_list h2 hu,.none_list h2 hu⟩
 |bl a=>
  cases hy with
  |non=>rw[show eqD (.bl a) (.non)=false by simp[eqD]];exact⟨.bool_none a,.bool_none a,.bool_none a⟩
  |bl b=>rw[Ae];exact⟨.bool_bool a b,.bool_bool a b,.bool_bool a b⟩
  |int b tb=>rw[zI];exact⟨.bool_int a b tb,.bool_int a b tb,.bool_int a b tb⟩
  |str b tb=>rw[show eqD (.bl a) (.str b)=false by simp[eqD]];exact⟨.bool_str a b tb,.bool_str a b tb,.bool_str a b tb⟩
  |@tup es p2 its2 h2=>rw[show eqD (.bl a) (.tup es)=false by simp[eqD]];exact⟨.bool_tuple a h2 hu,.bool_tuple a h2 hu,.bool_tuple a h2 hu⟩
  |@rol es p2 its2 h2=>rw[show eqD (.bl a) (.rol es)=false by simp[eqD]];exact⟨.bool_list a h2 hu,.bool_list a h2 hu,.bool_list a h2 hu⟩
 |int a ta=>
  cases hy with
  |non=>rw[show eqD (.int a) (.non)=false by simp[eqD]];exact⟨.int_none a ta,.int_none a ta,.int_none a ta⟩
  |bl b=>rw[xX];exact⟨.int_bool a ta b,.int_bool a ta b,.int_bool a ta b⟩
  |int b tb=>rw[AL];exact⟨.int_int a ta b tb,.int_int a ta b tb,.int_int a ta b tb⟩
  |str b tb=>rw[show eqD (.int a) (.str b)=false by simp[eqD]];exact⟨.int_str a ta b tb,.int_str a ta b tb,.int_str a ta b tb⟩
  |@tup es p2 its2 h2=>rw[show eqD (.int a) (.tup es)=false by simp[eqD]];exact⟨.int_tuple a ta h2 hu,.int_tuple a ta h2 hu,.int_tuple a ta h2 hu⟩
  |@rol es p2 its2 h2=>rw[show eqD (.int a) (.rol es)=false by simp[eqD]];exact⟨.int_list a ta h2 hu,.int_list a ta h2 hu,.int_list a ta h2 hu⟩
 |str a ta=>
  cases hy with
  |non=>rw[show eqD (.str a) (.non)=false by simp[eqD]];exact⟨.str_none a ta,.str_none a ta,.str_none a ta⟩
  |bl b=>rw[show eqD (.str a) (.bl b)=false by simp[eqD]];exact⟨.str_bool a ta b,.str_bool a ta b,.str_bool a ta b⟩
  |int b tb=>rw[show eqD (.str a) (.int b)=false by simp[eqD]];exact⟨.str_int a ta b tb,.str_int a ta b tb,.str_int a ta b tb⟩
  |str b tb=>rw[Aj];exact⟨.str_str a ta b tb,.str_str a ta b tb,.str_str a ta b tb⟩
  |@tup es p2 its2 h2=>rw[show eqD (.str a) (.tup es)=false by simp[eqD]];exact⟨.str_tuple a ta h2 hu,.str_tuple a ta h2 hu,.str_tuple a ta h2 hu⟩
  |@rol es p2 its2 h2=>rw[show eqD (.str a) (.rol es)=false by simp[eqD]];exact⟨.str_list a ta h2 hu,.str_list a ta h2 hu,.str_list a ta h2 hu⟩
 |@tup ds p its h=>
  cases hy with
  |non=>rw[show eqD (.tup ds) (.non)=false by simp[eqD]];exact⟨.tuple_none h hu,.tuple_none h hu,.tuple_none h hu⟩
  |bl b=>rw[show eqD (.tup ds) (.bl b)=false by simp[eqD]];exact⟨.tuple_bool b h hu,.tuple_bool b h hu,.tuple_bool b h hu⟩
  |int b tb=>rw[show eqD (.tup ds) (.int b)=false by simp[eqD]];exact⟨.tuple_int b tb h hu,.tuple_int b tb h hu,.tuple_int b tb h hu⟩
  |str b tb=>rw[show eqD (.tup ds) (.str b)=false by simp[eqD]];exact⟨.tuple_str b tb h hu,.tuple_str b tb h hu,.tuple_str b tb h hu⟩
  |@tup es p2 its2 h2=>exact seq ds es (.inl ⟨rfl,rfl⟩)
  |@rol es p2 its2 h2=>rw[show eqD (.tup ds) (.rol es)=false by simp[eqD]];exact⟨.tuple_list h h2 hu,.tuple_list h h2 hu,.tuple_list h h2 hu⟩
 |@rol ds p its h=>
  cases hy with
  |non=>rw[show eqD (.rol ds) (.non)=false by simp[eqD]];exact⟨.list_none h hu,.list_none h hu,.list_none h hu⟩
  |bl b=>rw[show eqD (.rol ds) (.bl b)=false by simp[eqD]];exact⟨.list_bool b h hu,.list_bool b h hu,.list_bool b h hu⟩
  |int b tb=>rw[show eqD (.rol ds) (.int b)=false by simp[eqD]];exact⟨.list_int b tb h hu,.list_int b tb h hu,.list_int b tb h hu⟩
  |str b tb=>rw[show eqD (.rol ds) (.str b)=false by simp[eqD]];exact⟨.list_str b tb h hu,.list_str b tb h hu,.list_str b tb h hu⟩
  |@tup es p2 its2 h2=>rw[show eqD (.rol ds) (.tup es)=false by simp[eqD]];exact⟨.list_tuple h h2 hu,.list_tuple h h2 hu,.list_tuple h h2 hu⟩
  |@rol es p2 its2 h2=>exact seq ds es (.inr ⟨rfl,rfl⟩)
theorem Db{K:Iz}(I:Inv X pins σ H s)(hK:K=X.K):∀(n:Nat) {A:Around}{x y:D}{v u:V}{v2 u2:Value},plN n x=true->plN n y=true->Den K H x v->Den K H y u->RelV v v2->RelV u u2->A.units+n<cLine->
  SeqAt.RcAt A s v2 u2 (eqD x y)/\SeqAt.RcNeAt A s v2 u2 (!eqD x y)/\SeqAt.EqAt A s v2 u2 (eqD x y):=by
 subst hK;have items:∀(n:Nat),(∀{A:Around}{x y:D}{v u:V}{v2 u2:Value},plN n x=true->plN n y=true->Den X.K H x v->Den X.K H y u->RelV v v2->RelV u u2->A.units+n<cLine->
   SeqAt.RcAt A s v2 u2 (eqD x y)/\SeqAt.RcNeAt A s v2 u2 (!eqD x y)/\SeqAt.EqAt A s v2 u2 (eqD x y))->∀{A:Around}{xs ys:List D}{vs us:List V}{its its2:List Value},xs.all (plN n)=true->ys.all (plN n)=true->DenL X.K H xs vs->DenL X.K H ys us->Vals vs its->Vals us its2->A.units+(n+1)<cLine->
   ∀j (h1:j<its.toArray.size)(h2:j<its2.toArray.size),SeqAt.EqAt A.in1 s its.toArray[j] its2.toArray[j] (eqD (xs.getD j .non) (ys.getD j .non)):=by
  intro n ih A xs ys vs us its its2 p1 p2 l1 l2 r1 r2 hu j h1 h2;have h1:j<its.length:=by simpa using h1
  have h2:j<its2.length:=by simpa using h2
  have hx:j<xs.length:=by rw[l1.length,r1.length];exact h1
  have hy:j<ys.length:=by rw[l2.length,r2.length];exact h2
  obtain⟨v,e1,d1⟩:=l1.get (i:=j) (d:=xs[j]) (by simp[hx])
  obtain⟨u,e2,d2⟩:=l2.get (i:=j) (d:=ys[j]) (by simp[hy])
  obtain⟨v2,e3,rv⟩:=r1.get e1;obtain⟨u2,e4,ru⟩:=r2.get e2;have f1:its.toArray[j]=v2:=by
   have:=e3;rw[Hy h1]at this;simpa using this
  have f2:its2.toArray[j]=u2:=by
   have:=e4;rw[Hy h2]at this;simpa using this
  rw[f1,f2];have g1:xs.getD j .non=xs[j]:=by simp[List.getD,hx]
  have g2:ys.getD j .non=ys[j]:=by simp[List.getD,hy]
  rw[g1,g2];exact (ih (HC.mp p1 _ (Iy hx)) (HC.mp p2 _ (Iy hy)) d1 d2 rv ru (by show A.units+1+n<cLine;omega)).2.2
 intro n
 induction n with
 |zero=>
  intro A x y v u v2 u2 p1 p2 d1 d2 r1 r2 hu;refine tG (ja I p1 d1 r1) (ja I p2 d2 r2) (by omega) λds es z=>?_
  rcases z with ⟨rfl,rfl⟩|⟨rfl,rfl⟩<;>cases p1
 |succ n ih=>
  intro A x y v u v2 u2 p1 p2 d1 d2 r1 r2 hu;refine tG (ja I p1 d1 r1) (ja I p2 d2 r2) (by omega) λds es z=>?_
  rcases z with ⟨rfl,rfl⟩|⟨rfl,rfl⟩
  ·obtain⟨p,vs,rfl,q1,l1⟩:=id d1;obtain⟨p',us,rfl,q2,l2⟩:=id d2;cases r1;cases r2;obtain⟨its,v1,t1,_⟩:=I.tuple q1;obtain⟨its2,v2,t2,_⟩:=I.tuple q2;have he:=items n ih (A:=A) (by simpa [plN] using p1) (by simpa [plN] using p2) l1 l2 v1 v2 hu
   have ee:eqD (.tup ds) (.tup es)=((List.range (min its.toArray.size its2.toArray.size)).all (λj=>eqD (ds.getD j .non) (es.getD j .non))&&its.toArray.size == its2.toArray.size):=by
    simp only[eqD];rw[uc,l1.length,v1.length,l2.length,v2.length];rfl
   have rc:=SeqAt.RcAt.tuples (A:=A) t1 t2 (by omega) he
   rw[<-ee]at rc;have rn:=SeqAt.RcNeAt.tuples (A:=A) t1 t2 (by omega) he
   rw[<-ee]at rn;refine⟨rc,rn,?_⟩;by_cases hp:p=p'
   ·subst hp;rw[nE I rfl (n+1) p1 p2 d1 d2];exact .same _
   ·exact .of_refs hp rc
  ·obtain⟨p,vs,rfl,q1,l1⟩:=id d1;obtain⟨p',us,rfl,q2,l2⟩:=id d2;cases r1;cases r2;obtain⟨its,v1,t1,_⟩:=I.list q1.sq;obtain⟨its2,v2,t2,_⟩:=I.list q2.sq;have he:=items n ih (A:=A) (by simpa [plN] using p1) (by simpa [plN] using p2) l1 l2 v1 v2 hu
   have rcn:SeqAt.RcAt A s (.ref p) (.ref p') (eqD (.rol ds) (.rol es))/\SeqAt.RcNeAt A s (.ref p) (.ref p') (!eqD (.rol ds) (.rol es)):=by
    by_cases hl:its.toArray.size=its2.toArray.size
    ·have ee:eqD (.rol ds) (.rol es)=(List.range its.toArray.size).all λj=>eqD (ds.getD j .non) (es.getD j .non):=by
      have e1:ds.length=es.length:=by rw[l1.length,v1.length,l2.length,v2.length];simpa using hl
      simp only[eqD];rw[gm e1,l1.length,v1.length];rfl
     rw[ee];exact⟨.lists t1.isList t2.isList hl (by omega) he,.lists t1.isList t2.isList hl (by omega) he⟩
    ·have ee:eqD (.rol ds) (.rol es)=false:=by
      simp only[eqD];cases q:bx ds es with
      |false=>rfl
      |true=>
       have:=jI q;rw[l1.length,v1.length,l2.length,v2.length]at this;exact absurd (by simpa using this) hl
     rw[ee];exact⟨.lists_lengths t1.isList t2.isList (by simpa using hl) (by omega),.lists_lengths t1.isList t2.isList (by simpa using hl) (by omega)⟩
   refine⟨rcn.1,rcn.2,?_⟩;by_cases hp:p=p'
   ·subst hp;rw[nE I rfl (n+1) p1 p2 d1 d2];exact .same _
   ·exact .of_refs hp rcn.1
end
def VO(X:Cx)(f:Value->Value->Sem Value)(r:D->D->MH->VK3->Prop):Prop:=
 ∀(pins:List (Addr×Obj)) (s:Shared)(σ:St)(H:Hp)(x y:D)(v u:V)(v2 u2:Value)(M:MH)(Q:VK3)(Q2:VK),Inv X pins σ H s->RelV v v2->RelV u u2->Den X.K H x v->Den X.K H y u->RelM X.K M H->r x y M Q->Back X.K H Q Q2->
  wpAny (model X.prog X.w) X.A (f v2 u2) (EP X pins σ Q2) X.xe s
def VU(X:Cx)(f:Value->Sem Value)(r:D->MH->VK3->Prop):Prop:=
 ∀(pins:List (Addr×Obj)) (s:Shared)(σ:St)(H:Hp)(x:D)(v:V)(v2:Value)(M:MH)(Q:VK3)(Q2:VK),Inv X pins σ H s->RelV v v2->Den X.K H x v->RelM X.K M H->r x M Q->Back X.K H Q Q2->
  wpAny (model X.prog X.w) X.A (f v2) (EP X pins σ Q2) X.xe s
def VC(X:Cx)(f:Value)(r:List D->MH->VK3->Prop):Prop:=
 ∀(pins:List (Addr×Obj)) (s:Shared)(σ:St)(H:Hp)(xs:List D)(vs:List V)(us:List Value)(M:MH)(Q:VK3)(Q2:VK),Inv X pins σ H s->Vals vs us->DenL X.K H xs vs->RelM X.K M H->r xs M Q->Back X.K H Q Q2->
  wpAny (model X.prog X.w) X.A (call f us) (EP X pins σ Q2) X.xe s
section
variable {X:Cx}
theorem VO.of3(h:Op3 X f r):VO X f r:=by
 obtain⟨r2,h2,hl⟩:=h;exact λpins s σ H x y v u v2 u2 M Q Q2 I rv ru dx dy rm q back=>h2 pins s σ H v u v2 u2 Q2 I rv ru (hl H x y v u M Q Q2 dx dy rm q back)
theorem VU.of3(h:Un3 X f r):VU X f r:=by
 obtain⟨r2,h2,hl⟩:=h;exact λpins s σ H x v v2 M Q Q2 I rv dx rm q back=>h2 pins s σ H v v2 Q2 I rv (hl H x v M Q Q2 dx rm q back)
theorem VC.of3(h:sM X f r):VC X f r:=by
 obtain⟨r2,h2,hl⟩:=h;exact λpins s σ H xs vs us M Q Q2 I rv dx rm q back=>h2 pins s σ H vs us Q2 I rv (hl H xs vs M Q Q2 dx rm q back)
theorem VO.imp(h:VO X f r)(g:∀x y M Q,r' x y M Q->r x y M Q):VO X f r':=
 λpins s σ H x y v u v2 u2 M Q Q2 I rv ru dx dy rm q back=>h pins s σ H x y v u v2 u2 M Q Q2 I rv ru dx dy rm (g x y M Q q) back
theorem VU.imp(h:VU X f r)(g:∀x M Q,r' x M Q->r x M Q):VU X f r':=
 λpins s σ H x v v2 M Q Q2 I rv dx rm q back=>h pins s σ H x v v2 M Q Q2 I rv dx rm (g x M Q q) back
theorem VC.imp(h:VC X f r)(g:∀x M Q,r' x M Q->r x M Q):VC X f r':=
 λpins s σ H x v v2 M Q Q2 I rv dx rm q back=>h pins s σ H x v v2 M Q Q2 I rv dx rm (g x M Q q) back
theorem iu(h:rI2 g x y M Q):lK g x y M Q:=by
 unfold rI2 at h;split at h
 ·exact⟨_,_,rfl,rfl,h⟩
 ·exact h.elim
theorem mx(h:rII C g x y M Q):rI3 C g x y M Q:=by
 unfold rII at h;split at h
 ·exact⟨_,_,rfl,rfl,h⟩
 ·exact h.elim
theorem wL{s:Shared}{ws:List Value}(ht:IsTup s.heap t #[])(hb:IsTup s.heap b ws.toArray)(h:Q (.ref b) s):wpAny (model prog w) A (binaryOp .Add (.ref t) (.ref b)) Q E s:=by
 obtain⟨⟨cls,dd,data,sl⟩,ho,hc,n,hd⟩:=id ht;obtain⟨⟨cls2,dd2,data2,sl2⟩,ho2,hc2,n2,hd2⟩:=id hb;simp only at hc hd hc2 hd2;subst hc hd hc2 hd2;exact concat_meets ⟨_,ho,rfl⟩ ⟨_,ho2,rfl⟩ noFill_tuple_add seq_tuple_add PySem.F.slot_tuple_add PySem.F.entry_tuple_add (PySem.F.args_tuple_add_2 _ _) (tuple_addW0 t b #[] ws.toArray n n2 dd dd2 sl sl2 rfl) ⟨ho,ho2,h⟩
theorem qy{a b:List D}(I:Inv X pins σ H s)(rv:RelV v v2)(ru:RelV u u2)(dx:Den X.K H (.tup a) v)(dy:Den X.K H (.tup b) u)(rm:RelM X.K M H)
  (q:a.length+b.length<=sizeLine/\Q (.tup (a++b)) M) (back:Back X.K H Q Q2):wpAny (model X.prog X.w) X.A (binaryOp .Add v2 u2) (EP X pins σ Q2) X.xe s:=by
 obtain⟨p1,vs,rfl,sq1,dl1⟩:=dx;obtain⟨p2,us,rfl,sq2,dl2⟩:=dy;obtain⟨h2,q⟩:=q;by_cases h1:a=[]
 ·subst h1;cases (show vs=[] from dl1);cases rv;cases ru;obtain⟨its,r1,p1',_⟩:=I.tuple sq1;obtain⟨its2,r2,p2',_⟩:=I.tuple sq2;cases r1;exact wL p1' p2' ⟨.ref p2,H,I,rfl,back _ _ (.tup b) _ ⟨p2,us,rfl,sq2,dl2⟩ rm (.refl _) q⟩
 refine vF pins s σ H _ _ v2 u2 Q2 I rv ru ⟨p1,p2,vs,us,rfl,rfl,sq1,sq2,λz=>?_,by rw[<-dl1.length,<-dl2.length];exact h2,λz=>?_,λ_ p hp=>?_⟩
 ·have:=dl1.length;rw[z]at this;cases a with
  |nil=>exact h1 rfl
  |cons _ _=>cases this
 ·have hb:b=[]:=List.length_eq_zero_iff.mp (by rw[dl2.length,z];rfl)
  subst hb;rw[Ia]at q;exact back _ _ (.tup a) _ ⟨p1,vs,rfl,sq1,dl1⟩ rm (.refl _) q
 ·exact back _ _ (.tup (a++b)) _ ⟨p,_,rfl,.of ag,(dl1.append dl2).mono (.new hp)⟩ (rm.grow hp) (.new hp) q
theorem mO(a:Array α):∀(k:Nat)(b:Array α),((List.replicate k a).foldl (·++·) b).size=b.size+k*a.size
 |0,b=>by simp
 |k+1,b=>by
  rw[List.replicate_succ,List.foldl_cons,mO a k,Array.size_append,Nat.succ_mul];omega
theorem uP{z:Str}(n0:0<=n)(n1:n<=100000)(hz:z.length<=10)
  (h:∀t' tk,Q (.str (lP z n) t') {s with toks:=tk}):wpAny (model prog w) A (binaryOp .Mult (.str z t) (.int n u)) Q E s:=by
 have e1:decide (n < -(2 ^ 63:Int))=false:=HN (by omega)
 have e2:decide (n>=2 ^ 63)=false:=HN (by omega)
 refine PySem.P.mul_str (by rw[e1,e2];rfl) (λh1 h2=>?_) (λh1 h2=>?_) ?_
 ·have:(2 ^ 63-1) / n>=10:=by
   rw[ge_iff_le,Int.le_ediv_iff_mul_le (by omega)]
   omega
  omega
 ·have hl:z.length*n.toNat<=10*100000:=Nat.mul_le_mul hz (by omega)
  unfold Builtin.Str.tooLong;exact HN (by rw[sizeLine_eq];omega)
 ·unfold lP at h;split
  ·rename_i hn;rw[Hg hn]at h;exact⟨by decide,h _ _⟩
  ·rename_i hn;rw[Hc hn]at h;split
   ·rename_i hb;rw[Hg hb]at h;exact h _ _
   ·rename_i hb;rw[Hc hb]at h;refine⟨?_,h _ _⟩;show ((List.replicate n.toNat z.cps).foldl (·++·) #[]).size<=sizeLine;rw[mO];have hl:n.toNat*z.cps.size<=100000*10:=Nat.mul_le_mul (by omega) hz
    rw[sizeLine_eq];simp;omega
theorem yW(op:Operator):VO X (binaryOp op) (mG op):=by
 cases op with
 |Add=>
  intro pins s σ H x y v u v2 u2 M Q Q2 I rv ru dx dy rm q back;have q':sr x y M Q:=q;clear q;unfold sr at q';split at q'
  ·exact VO.of3 Cj pins s σ H _ _ v u v2 u2 M Q Q2 I rv ru dx dy rm ⟨_,_,rfl,rfl,q'⟩ back
  ·rename_i a b;cases (show v=.str a from dx);cases (show u=.str b from dy);exact pk pins s σ H _ _ v2 u2 Q2 I rv ru ⟨a,b,rfl,rfl,q'.1,back _ _ _ _ jl rm (.refl _) q'.2⟩
  ·exact qy I rv ru dx dy rm q' back
  ·exact q'.elim
 |Sub=>exact (VO.of3 B5).imp λ_ _ _ _ h=>iu h
 |Mult=>
  intro pins s σ H x y v u v2 u2 M Q Q2 I rv ru dx dy rm q back;have q':uJ x y M Q:=q;clear q;unfold uJ at q';split at q'
  ·exact VO.of3 Dt pins s σ H _ _ v u v2 u2 M Q Q2 I rv ru dx dy rm ⟨_,_,rfl,rfl,q'⟩ back
  ·rename_i z n;cases (show v=.str z from dx);cases (show u=.int n from dy);obtain⟨t,rfl⟩:=rv;obtain⟨t',rfl⟩:=ru;obtain⟨⟨n0,n1,hz⟩,q'⟩:=q';exact uP n0 n1 hz λt2 tk=>⟨.str (lP z n),H,I.tok _,⟨_,rfl⟩,back _ _ _ _ jl rm (.refl _) q'⟩
  ·exact q'.elim
 |FloorDiv=>exact (VO.of3 zJ).imp λ_ _ _ _ h=>mx h
 |Mod=>exact (VO.of3 Dg).imp λ_ _ _ _ h=>mx h
 |Pow=>exact (VO.of3 Bv).imp λ_ _ _ _ h=>mx h
 |RShift=>exact (VO.of3 Dd).imp λ_ _ _ _ h=>mx h
 |BitAnd=>exact (VO.of3 Cu).imp λ_ _ _ _ h=>iu h
 |_=>exact λpins s σ H x y v u v2 u2 M Q Q2 I rv ru dx dy rm q back=>False.elim q
theorem yt:VU X (unaryOp .USub) rNeg:=(VU.of3 BW).imp λx M Q h=>by
 unfold rNeg at h;split at h
 ·exact⟨_,rfl,h⟩
 ·exact h.elim
theorem xW(fz:Bool):VO X (binaryOp .Add) (dM fz):=by
 intro pins s σ H x y v u v2 u2 M Q Q2 I rv ru dx dy rm q back;unfold dM at q;split at q
 next a b ea eb=>
  obtain⟨l,xs,rfl,hH,dl⟩:=bq rm ea dx;obtain⟨b',zs,rfl,hB,dl2⟩:=bq rm eb dy;cases rv;cases ru;obtain⟨z,its,n,r,hl,e⟩:=I.rdL hH;obtain⟨z2,its2,n2,r2,hl2,e2⟩:=I.rdL hB;have hlen:xs.length+zs.length<=sizeLine:=by
   have:=q.1;rw[HJ,dl.length,dl2.length]at this;exact this
  refine PySem.P.add_list e e2 ?_ (by rw[Hu,Hu];omega)
  have ea:its.toArray++its2.toArray=(its++its2).toArray:=by simp
  rw[ea];exact bZ (I.lnew (t':=s.toks) (r.append r2) (by rw[HJ];omega)) I.fresh (dl.append dl2) rm (.refl _) q back
 next=>
  split at q
  ·exact qy I rv ru dx dy rm q back
  ·exact q.elim
theorem w5{K:Iz}(rm:RelM K M H)(dx:Den K H x v)(hp:pl (res M x)=true) :
  (∃a ds,x=.ref a/\M a=some (.lst ds)/\res M x=.rol ds)\/(res M x=x):=by
 cases x with
 |ref a=>
  cases e:M a with
  |none=>
   have:res M (.ref a)=.ref a:=by simp[res,ai,e]
   rw[this]at hp;simp[plN]at hp
  |some o=>
   cases o with
   |lst ds=>exact .inl ⟨a,ds,rfl,e,by simp[res,ai,e]⟩
   |_=>
    have:res M (.ref a)=.ref a:=by simp[res,ai,e]
    rw[this]at hp;simp[plN]at hp
 |rol ds=>exact .inr rfl
 |_=>exact .inr rfl
theorem t7(I:Inv X pins σ H s)(rm:RelM X.K M H)(dx:Den X.K H x v)(hp:pl (res M x)=true) :
  ∃H',Inv X pins σ H' s/\TM X.K H H'/\Den X.K H' (res M x) v:=by
 rcases w5 rm dx hp with ⟨a,ds,rfl,q,e⟩|e
 ·obtain⟨vs,e1,l⟩:=rm a _ q;obtain⟨o,I2⟩:=I.freeze e1;refine⟨_,I2,.freeze e1,?_⟩;rw[e];cases (show v=.ref a from dx);exact gq l e1
 ·rw[e];exact⟨H,I,.refl _,dx⟩
def lZ(K:Iz)(M:MH)(H:Hp):Prop:=∀a ds,M a=some (.lst ds)->∃vs,(H a=some (.lst vs)\/∃o,H a=some (.frz o (.lst vs)))/\DenL K H ds vs
theorem RelM.z{K:Iz}(rm:RelM K M H):lZ K M H:=λa ds q=>by
 obtain⟨vs,e,l⟩:=rm a _ q;exact⟨vs,.inl e,l⟩
theorem Bq(I:Inv X pins σ H s)(rz:lZ X.K M H)(q:M a=some (.lst ds)) :
  ∃H',Inv X pins σ H' s/\TM X.K H H'/\lZ X.K M H'/\∃vs,SqF X.K H' a vs/\DenL X.K H' ds vs/\DenL X.K H ds vs:=by
 obtain⟨vs,e|⟨o,e⟩,l⟩:=rz a ds q
 ·obtain⟨o,I2⟩:=I.freeze e;have t:TM X.K H (upd H a (.frz o (.lst vs))):=.freeze e;refine⟨_,I2,t,λb es qb=>?_,vs,.inl ⟨o,ag⟩,l.mono t,l⟩
  obtain⟨us,e2,l2⟩:=rz b es qb;by_cases hb:b=a
  ·subst hb;rw[q]at qb;cases qb;exact⟨vs,.inr ⟨o,ag⟩,l.mono t⟩
  ·refine⟨us,?_,l2.mono t⟩;rw[ae hb];exact e2
 ·exact⟨H,I,.refl _,rz,vs,.inl ⟨o,e⟩,l,l⟩
theorem B2(I:Inv X pins σ H s)(rz:lZ X.K M H)(dx:Den X.K H x v) :
  ∃H',Inv X pins σ H' s/\TM X.K H H'/\lZ X.K M H'/\Den X.K H' (res M x) v:=by
 cases x with
 |ref a=>
  cases e:M a with
  |none=>
   have:res M (.ref a)=.ref a:=by simp[res,ai,e]
   rw[this];exact⟨H,I,.refl _,rz,dx⟩
  |some o=>
   cases o with
   |lst ds=>
    obtain⟨H',I2,t,rz2,vs,sq,l,_⟩:=Bq I rz e;have:res M (.ref a)=.rol ds:=by simp[res,ai,e]
    rw[this];exact⟨H',I2,t,rz2,a,vs,dx,sq,l⟩
   |_=>
    have:res M (.ref a)=.ref a:=by simp[res,ai,e]
    rw[this];exact⟨H,I,.refl _,rz,dx⟩
 |rol ds=>exact⟨H,I,.refl _,rz,dx⟩
 |_=>exact⟨H,I,.refl _,rz,dx⟩
theorem u5:∀{ds:List D}{vs:List V}{H:Hp},Inv X pins σ H s->lZ X.K M H->DenL X.K H ds vs->
  ∃H',Inv X pins σ H' s/\TM X.K H H'/\lZ X.K M H'/\DenL X.K H' (ds.map (res M)) vs
 |[],vs,H,I,rz,dl=>⟨H,I,.refl _,rz,dl⟩
 |d::ds,vs,H,I,rz,dl=>by
  obtain⟨v,r,rfl,dv,dr⟩:=dl;obtain⟨H1,I1,t1,rz1,d1⟩:=B2 I rz dv;obtain⟨H2,I2,t2,rz2,d2⟩:=u5 I1 rz1 (dr.mono t1);exact⟨H2,I2,t1.trans t2,rz2,v,r,rfl,d1.mono t2,d2⟩
theorem xJ(I:Inv X pins σ H s)(rz:lZ X.K M H)(dx:Den X.K H x v) :
  ∃H',Inv X pins σ H' s/\TM X.K H H'/\lZ X.K M H'/\Den X.K H' (rs M x) v:=by
 cases x with
 |ref a=>
  cases e:M a with
  |none=>
   have:rs M (.ref a)=.ref a:=by simp[rs,ai,e]
   rw[this];exact⟨H,I,.refl _,rz,dx⟩
  |some o=>
   cases o with
   |lst ds=>
    have:rs M (.ref a)=.rol (if pls ds=true then ds else ds.map (res M)):=by simp[rs,ai,e]
    rw[this];obtain⟨H',I2,t,rz2,vs,sq,l,_⟩:=Bq I rz e;split
    ·exact⟨H',I2,t,rz2,a,vs,dx,sq,l⟩
    ·obtain⟨H3,I3,t3,rz3,l3⟩:=u5 I2 rz2 l;exact⟨H3,I3,t.trans t3,rz3,a,vs,dx,t3.f _ _ sq,l3⟩
   |_=>
    have:rs M (.ref a)=.ref a:=by simp[rs,ai,e]
    rw[this];exact⟨H,I,.refl _,rz,dx⟩
 |rol ds=>
  have:rs M (.rol ds)=.rol (if pls ds=true then ds else ds.map (res M)):=by simp[rs,ai]
  rw[this];split
  ·exact⟨H,I,.refl _,rz,dx⟩
  ·obtain⟨p,vs,e,sq,l⟩:=dx;obtain⟨H3,I3,t3,rz3,l3⟩:=u5 I rz l;exact⟨H3,I3,t3,rz3,p,vs,e,t3.f _ _ sq,l3⟩
 |_=>exact⟨H,I,.refl _,rz,dx⟩
theorem Cc(I:Inv X pins σ H s)(rm:RelM X.K M H)(dx:Den X.K H x v)(dy:Den X.K H y u) :
  ∃H',Inv X pins σ H' s/\Den X.K H' (rs M x) v/\Den X.K H' (rs M y) u:=by
 obtain⟨H1,I1,t1,rz1,d1⟩:=xJ I rm.z dx;obtain⟨H2,I2,t2,rz2,d2⟩:=xJ I1 rz1 (dy.mono t1);exact⟨H2,I2,d1.mono t2,d2⟩
theorem xP(hu:X.A.units+64<cLine)(neg:Bool):VO X (compareOp (if neg=true then .NotEq else .Eq)) (cK neg):=by
 intro pins s σ H x y v u v2 u2 M Q Q2 I rv ru dx dy rm q back;obtain⟨h1,h2,q⟩:=q;obtain⟨H',I',d1,d2⟩:=Cc I rm dx dy;obtain⟨rc,rn,_⟩:=Db I' rfl 8 (A:=X.A) h1 h2 d1 d2 rv ru (by omega)
 have fin:=back _ _ _ _ (bn (K:=X.K) (H:=H)) rm (.refl _) q;cases neg with
 |true=>
  refine rn _ _ _ _ ⟨.bl _,H,I,rfl,?_⟩;rw[Bool.true_xor]at fin;exact fin
 |false=>
  refine rc _ _ _ _ ⟨.bl _,H,I,rfl,?_⟩;rw[Bool.false_xor]at fin;exact fin
end
section
variable {K:Iz}
theorem j0[DecidableEq κ]:∀{ks:List κ}{ds:List D}{vs:List V}{k:κ},DenL K H ds vs->ks.length=vs.length->
  (∀d,getD ks ds k=some d->∃v,eB (ks.zip vs) k=some v/\Den K H d v)/\(getD ks ds k=none->eB (ks.zip vs) k=none)
 |[],_,vs,k,_,_=>⟨λd e=>by simp[getD]at e,λ_=>by simp[eB]⟩
 |q::ks,[],vs,k,dl,hl=>by cases (show vs=[] from dl);cases hl
 |q::ks,d0::ds,_,k,dl,hl=>by
  obtain⟨v,r,rfl,dv,dl⟩:=dl;have ih:=j0 (ks:=ks) (k:=k) dl (by simpa using hl)
  by_cases z:q=k
  ·refine⟨λd e=>?_,λe=>?_⟩
   ·simp only[getD,Hg z]at e;cases e;exact⟨v,eU (p:=(q,v)) z,dv⟩
   ·simp only[getD,Hg z]at e;cases e
  ·refine⟨λd e=>?_,λe=>?_⟩
   ·simp only[getD,Hc z]at e;obtain⟨w,h1,h2⟩:=ih.1 d e;exact⟨w,(dG (p:=(q,v)) z).trans h1,h2⟩
   ·simp only[getD,Hc z]at e;exact (dG (p:=(q,v)) z).trans (ih.2 e)
theorem mV(h:mP y=some k)(d:Den K H y u):u=kV k:=by
 cases y with
 |int i=>cases (show some (Sum.inl i)=some k from h);exact d
 |str x=>cases (show some (Sum.inr x)=some k from h);exact d
 |_=>cases h
theorem lh:∀{es:List D}{vs:List V}{k:List Int},fX es=some k->DenL K H es vs->vs=k.map V.int
 |[],vs,k,h,dl=>by cases (show some []=some k from h);exact dl
 |d::es,_,k,h,dl=>by
  obtain⟨v,r,rfl,dv,dl⟩:=dl;cases d with
  |int i=>
   simp only[fX]at h;split at h
   ·rename_i ns q;cases h;rw[lh q dl];cases (show v=.int i from dv);rfl
   ·cases h
  |_=>cases h
theorem jP{k:List Int}(h:kE y=some k)(d:Den K H y u):∃b,u=.ref b/\SqT K H b (k.map V.int):=by
 cases y with
 |tup es=>
  obtain⟨b,vs,e,sq,dl⟩:=d;refine⟨b,e,?_⟩;rw[<-lh h dl];exact sq
 |_=>cases h
theorem ng{ks:List Key}(h:fN M x=some (ks,ds))(rm:RelM K M H)(d:Den K H x v):∃p vs,v=.ref p/\Rd H p (.dK (ks.zip vs))/\ks.length=vs.length/\DenL K H ds vs:=by
 cases x with
 |dik ks' ds'=>
  cases h;obtain⟨p,vs,o,rfl,e,hl,dl⟩:=d;exact⟨p,vs,rfl,.inr ⟨o,e⟩,hl,dl⟩
 |ref a=>
  simp only[fN]at h;split at h
  ·rename_i q;cases h;obtain⟨vs,e,hl,dl⟩:=rm a _ q;exact⟨a,vs,d,.inl e,hl,dl⟩
  ·cases h
 |_=>cases h
theorem gV(h:iw M x=some (ks,ds))(rm:RelM K M H)(d:Den K H x v):∃p vs xs,v=.ref p/\Rd H p (.ext (c6 p xs))/\TabOk K H p ks xs vs/\DenL K H ds vs:=by
 cases x with
 |dit ks' ds'=>
  cases h;obtain⟨p,vs,o,xs,rfl,e,z,dl⟩:=d;exact⟨p,vs,xs,rfl,.inr ⟨o,e⟩,z,dl⟩
 |ref a=>
  simp only[iw]at h;split at h
  ·rename_i q;cases h;obtain⟨vs,xs,e,z,dl⟩:=rm a _ q;exact⟨a,vs,xs,d,.inl e,z,dl⟩
  ·cases h
 |_=>cases h
theorem TabOk.len{ks:List (List Int)}{vs:List V}(z:TabOk K H a ks xs vs):ks.length=vs.length:=by
 rw[<-z.kx,Hm,z.vx.length,Hm]
theorem dD:∀{xs:List (List Int×Addr×Value)}{vs:List V} (k:List Int),Vals vs (xs.map (·.2.2))->RelO (eB ((xs.map (·.1)).zip vs) k) ((atKey xs k).map (·.2))
 |[],vs,k,r=>by cases r;exact True.intro
 |x::xs,vs,k,r=>by
  rw[Hl]at r;cases r with
  |@cons v _ vs _ h t=>
   have ih:=dD k t;by_cases e:x.1=k
   ·have b:atKey (x::xs) k=some x.2:=by simp[atKey,Id,e]
    rw[Hl,List.zip_cons_cons,eU (p:=(x.1,v)) e,b];exact h
   ·have b:atKey (x::xs) k=atKey xs k:=by simp[atKey,Id,e]
    rw[Hl,List.zip_cons_cons,dG (p:=(x.1,v)) e,b];exact ih
end
inductive DRd (X:Cx) (H:Hp) (a:Addr) (u:V):Option V->Prop where
 |k {kvs:List (Key×V)}{k:Key} (e:Rd H a (.dK kvs)) (hu:u=kV k):DRd X H a u (eB kvs k)
 |t {ks:List (List Int)}{xs:List (List Int×Addr×Value)}{vs:List V}{k:List Int}{b:Addr} (e:Rd H a (.ext (c6 a xs))) (z:TabOk X.K H a ks xs vs) (hu:u=.ref b) (sq:SqT X.K H b (k.map V.int)):DRd X H a u (eB (ks.zip vs) k)
def OptDen(K:Iz)(H:Hp):Option D->Option V->Prop
 |some d,some v=>Den K H d v
 |none,none=>True
 |_,_=>False
theorem g4{X:Cx}(h:iy M x y=some o)(rm:RelM X.K M H)(dx:Den X.K H x v)(dy:Den X.K H y u):∃a ov,v=.ref a/\DRd X H a u ov/\OptDen X.K H o ov:=by
 unfold iy at h;split at h
 ·rename_i ks ds e;split at h
  ·rename_i k ek;cases h;obtain⟨p,vs,rfl,rd,hl,dl⟩:=ng e rm dx;refine⟨p,_,rfl,.k rd (mV ek dy),?_⟩;have g:=j0 (k:=k) dl hl;cases q:getD ks ds k with
   |none=>rw[g.2 q];exact True.intro
   |some d=>obtain⟨w,h1,h2⟩:=g.1 d q;rw[h1];exact h2
  ·cases h
 ·split at h
  ·rename_i ks ds e;split at h
   ·rename_i k ek;cases h;obtain⟨p,vs,xs,rfl,rd,z,dl⟩:=gV e rm dx;obtain⟨b,hb,sq⟩:=jP ek dy;refine⟨p,_,rfl,.t rd z hb sq,?_⟩;have g:=j0 (k:=k) dl z.len;cases q:getD ks ds k with
    |none=>rw[g.2 q];exact True.intro
    |some d=>obtain⟨w,h1,h2⟩:=g.1 d q;rw[h1];exact h2
   ·cases h
  ·cases h
section
variable {X:Cx}{s:Shared}{o:Option V}{A:Around}
theorem j4:∀{ks:List Int}{us:List Value},Vals (ks.map V.int) us->ItemsAre (intKind P w) ks us
 |[],_,r=>by rw[List.map_nil]at r;cases r;exact .nil
 |k::ks,_,r=>by
  rw[Hl]at r;cases r with
  |cons h t=>
   obtain⟨tk,rfl⟩:=h;exact .cons (by show Value.isInt k (.int k tk)=true;simp[Value.isInt]) (j4 t)
theorem e8{k:List Int}(I:Inv X pins σ H s)(sq:SqT X.K H b (k.map V.int)):(tupleKind (intKind X.prog X.w)).is s.heap k b:=by
 obtain⟨its,r,⟨o,e,c,n,d⟩,_⟩:=I.tuple sq;exact⟨o,its.toArray,n,e,c,d,by simpa using j4 r⟩
theorem cw(I:Inv X pins σ H s)(e:Rd H a (.ext (c6 a xs)))(z:TabOk X.K H a ks xs vs):s.heap.DictOfH (tupleKind (intKind X.prog X.w)) a xs:=by
 obtain⟨⟨ob,es,ep,h1,h2,h3,h4⟩,_⟩:=(show ObjOk X.prog X.w H s.heap a (.ext (c6 a xs)) from e.ok I.hok);exact⟨ob,es,ep,h1,h2,h3,h4,λx hx=>e8 I (z.at_ x hx),by rw[z.kx];exact z.nd⟩
theorem DRd.isDict(I:Inv X pins σ H s)(g:DRd X H a y o):s.TypeIs (.ref a) "dict":=by
 cases g with
 |k e _=>obtain⟨_,_,vs,_,dd⟩:=iS I.hok e;exact dd.typeIs
 |t e z _ _=>exact (cw I e z).typeIs
theorem rB(hu:A.units+1<cLine)(I:Inv X pins σ H s)(g:DRd X H a y o)(ho:o=some v)(ry:RelV y u)(h:∀w' s',Inv X pins σ H s'->RelV v w'->Q w' s') :
  wpAny (model X.prog X.w) A (getItem (.ref a) u) Q E s:=by
 cases g with
 |k e hk=>exact rq hu I (.inl ⟨_,_,e,hk,ho.symm⟩) ry h
 |@t ks xs vs k b e z hb sq=>
  subst hb;cases (show u=Value.ref b from ry);have dd:=cw I e z;have rel:=dD (vs:=vs) k z.vx;rw[z.kx]at rel;obtain⟨w',hw,rw'⟩:=RelO.some_of (v:=v) (o:=(atKey xs k).map (·.2)) (by rw[<-ho];exact rel)
  obtain⟨p,hp,hp2⟩:=Option.map_eq_some_iff.mp hw;refine wpAny_getItem_heap (HQ hu) (e8 I sq) dd hp ?_;rw[hp2];exact h w' _ (I.tok _) rw'
theorem Es(neg:Bool)(hu:A.units+1<cLine)(I:Inv X pins σ H s)(g:DRd X H a y o)(ry:RelV y u)(h:∀s',Inv X pins σ H s'->Q (.bool (neg ^^ o.isSome)) s') :
  wpAny (model X.prog X.w) A (compareOp (if neg=true then .NotIn else .In) u (.ref a)) Q E s:=by
 cases g with
 |k e hk=>
  cases neg with
  |true=>exact vj hu I (.inl ⟨_,_,e,hk,rfl⟩) ry λs' I'=>by have:=h s' I';rw[Bool.true_xor]at this;exact this
  |false=>exact EX hu I (.inl ⟨_,_,e,hk,rfl⟩) ry λs' I'=>by have:=h s' I';rw[Bool.false_xor]at this;exact this
 |@t ks xs vs k b e z hb sq=>
  subst hb;cases (show u=Value.ref b from ry);have dd:=cw I e z;have rel:=dD (vs:=vs) k z.vx;rw[z.kx]at rel;have q:=rel.isSome_eq;rw[Option.isSome_map]at q;rw[q]at h;cases neg with
  |true=>
   refine wpAny_notIn_heap (HQ hu) (e8 I sq) z.no dd ?_;have:=h _ (I.tok (s.toks+(tupleKind (intKind X.prog X.w)).draws k));rw[Bool.true_xor]at this;exact this
  |false=>
   refine wpAny_in_heap (HQ hu) (e8 I sq) z.no dd ?_;have:=h _ (I.tok (s.toks+(tupleKind (intKind X.prog X.w)).draws k));rw[Bool.false_xor]at this;exact this
theorem AT(hu:A.units+1<cLine)(I:Inv X pins σ H s)(g:DRd X H a y o)(ry:RelV y u)(h:∀w' s',Inv X pins σ H s'->RelV (o.getD .non) w'->Q w' s') :
  wpAny (model X.prog X.w) A (call (.builtin "dict.get") [.ref a,u]) Q E s:=by
 cases g with
 |k e hk=>exact Aa hu I (.inl ⟨_,_,e,hk,rfl⟩) ry h
 |@t ks xs vs k b e z hb sq=>
  subst hb;cases (show u=Value.ref b from ry);have dd:=cw I e z;have rel:=dD (vs:=vs) k z.vx;rw[z.kx]at rel;exact call_meetsIn PySem.F.slot_dict_get dd.typeIs PySem.F.entry_dict_get (PySem.F.args_dict_get_2 _ _) (meetsH_dict_get (tupleKind (intKind X.prog X.w)) a b z.no) ⟨HQ hu,k,xs,e8 I sq,dd,h _ _ (I.tok _) (rel.getD rfl)⟩
theorem AM(hu:A.units+1<cLine)(I:Inv X pins σ H s)(g:DRd X H a y o)(ry:RelV y u)(rd:RelV d r)(h:∀w' s',Inv X pins σ H s'->RelV (o.getD d) w'->Q w' s') :
  wpAny (model X.prog X.w) A (call (.builtin "dict.get") [.ref a,u,r]) Q E s:=by
 cases g with
 |k e hk=>exact zX hu I (.inl ⟨_,_,e,hk,rfl⟩) ry rd h
 |@t ks xs vs k b e z hb sq=>
  subst hb;cases (show u=Value.ref b from ry);have dd:=cw I e z;have rel:=dD (vs:=vs) k z.vx;rw[z.kx]at rel;exact call_meetsIn PySem.F.slot_dict_get dd.typeIs PySem.F.entry_dict_get (PySem.F.args_dict_get_3 _ _ _) (meetsH_dict_get_default (tupleKind (intKind X.prog X.w)) a b z.no r) ⟨HQ hu,k,xs,e8 I sq,dd,h _ _ (I.tok _) (rel.getD rd)⟩
end
section
variable {K:Iz}
theorem qP[DecidableEq κ]{l:List (κ×V)}:fq ((q,w)::l) k v=if q=k then (q,v)::l.map (λkv=>if kv.1=k then (kv.1,v) else kv) else (q,w)::fq l k v:=by
 unfold fq;by_cases e:q=k
 ·simp[e]
 ·by_cases g:(l.any λkv=>decide (kv.1=k))=true
  ·simp[e,g]
  ·simp[e,g]
theorem nI[DecidableEq κ]:∀{ks:List κ}{vs:List V},¬ k∈ks->(ks.zip vs).map (λkv=>if kv.1=k then (kv.1,v) else kv)=ks.zip vs
 |[],_,_=>by simp
 |q::ks,[],_=>by simp
 |q::ks,w::vs,h=>by
  have hq:¬ q=k:=λz=>h (by simp[z])
  have ih:=nI (k:=k) (v:=v) (ks:=ks) (vs:=vs) λm=>h (Hb _ m)
  simp only[List.zip_cons_cons,Hl,Hc hq,ih]
theorem mH[DecidableEq κ]:∀{ks:List κ}{ds:List D}{vs:List V}{k:κ}{y:D}{v:V},ks.Nodup->DenL K H ds vs->ks.length=vs.length->Den K H y v->
  ∃vs',fq (ks.zip vs) k v=(aj ks k).zip vs'/\(aj ks k).length=vs'.length/\DenL K H (am ks ds k y) vs'
 |[],ds,vs,k,y,v,_,dl,hl,dy=>by
  cases vs with
  |nil=>exact⟨[v],rfl,rfl,by unfold am;exact .one dy⟩
  |cons _ _=>cases hl
 |q::ks,[],vs,k,y,v,_,dl,hl,dy=>by cases (show vs=[] from dl);cases hl
 |q::ks,d::ds,_,k,y,v,nd,dl,hl,dy=>by
  obtain⟨w,r,rfl,dw,dl⟩:=dl;obtain⟨n1,n2⟩:=HF.mp nd;rw[List.zip_cons_cons,qP];by_cases e:q=k
  ·subst e;rw[Hg rfl,nI n1];refine⟨v::r,?_,?_,?_⟩
   ·simp[aj]
   ·simpa [aj] using hl
   ·simp only[am,Hg];exact .cons dy dl
  ·rw[Hc e];obtain⟨vs',h1,h2,h3⟩:=mH (k:=k) (v:=v) n2 dl (by simpa using hl) dy
   refine⟨w::vs',?_,?_,?_⟩
   ·simp[aj,Hc e,h1]
   ·simp[aj,Hc e,h2]
   ·simp only[am,Hc e];exact .cons dw h3
theorem nv{x:List Int×Addr×Value}{xs:List (List Int×Addr×Value)}:storedH (x::xs) k b r=if x.1=k then (x.1,x.2.1,r)::xs.map (putAt k r) else x::storedH xs k b r:=by
 unfold storedH;by_cases e:x.1=k
 ·have b':atKey (x::xs) k=some x.2:=by simp[atKey,Id,e]
  rw[b',Hg e];simp[putAt,e]
 ·have b':atKey (x::xs) k=atKey xs k:=by simp[atKey,Id,e]
  rw[b',Hc e];by_cases g:(atKey xs k).isSome=true
  ·rw[Hg g,Hg g];simp[putAt,e]
  ·rw[Hc g,Hc g];rfl
theorem jw:∀{xs:List (List Int×Addr×Value)},¬ k∈xs.map (·.1)->xs.map (putAt k r)=xs
 |[],_=>rfl
 |x::xs,h=>by
  have hq:¬ x.1=k:=λz=>h (by simp[z])
  rw[Hl,jw λm=>h (Hb _ m)]
  simp[putAt,hq]
theorem ka:∀{xs:List (List Int×Addr×Value)}{ds:List D}{vs:List V}{k:List Int}{b:Addr}{r:Value}{y:D}{v:V},(xs.map (·.1)).Nodup->Vals vs (xs.map (·.2.2))->RelV v r->DenL K H ds vs->Den K H y v->
  ∃vs',(storedH xs k b r).map (·.1)=aj (xs.map (·.1)) k/\Vals vs' ((storedH xs k b r).map (·.2.2))/\DenL K H (am (xs.map (·.1)) ds k y) vs'/\∀x∈storedH xs k b r,(x.1=k/\x.2.1=b)\/∃x'∈xs,x'.1=x.1/\x'.2.1=x.2.1
 |[],ds,vs,k,b,r,y,v,_,vr,rv,dl,dy=>by
  cases vr;cases ds with
  |cons _ _=>obtain⟨_,_,z,_⟩:=dl;cases z
  |nil=>exact⟨[v],rfl,.cons rv .nil,by unfold am;exact .one dy,λx hx=>.inl (by simp[storedH,atKey]at hx;simp[hx])⟩
 |x::xs,ds,vs,k,b,r,y,v,nd,vr,rv,dl,dy=>by
  rw[Hl]at vr nd;cases vr with
  |@cons w _ vs _ h t=>
   cases ds with
   |nil=>cases (show w::vs=[] from dl)
   |cons d ds=>
    obtain⟨w',r',e',dw,dl⟩:=dl;cases e';obtain⟨n1,n2⟩:=HF.mp nd;rw[nv];by_cases e:x.1=k
    ·rw[Hg e,jw (by rw[<-e];exact n1)]
     refine⟨v::vs,?_,.cons rv t,?_,λz hz=>?_⟩
     ·simp[aj,e]
     ·simp only[Hl,am,Hg e];exact .cons dy dl
     ·rcases Hj.mp hz with rfl|hz
      ·exact .inr ⟨x,Hf,rfl,rfl⟩
      ·exact .inr ⟨z,Hb _ hz,rfl,rfl⟩
    ·rw[Hc e];obtain⟨vs',h1,h2,h3,h4⟩:=ka (k:=k) (b:=b) n2 t rv dl dy;refine⟨w::vs',?_,.cons h h2,?_,λz hz=>?_⟩
     ·simp only[Hl,aj,Hc e,h1]
     ·simp only[Hl,am,Hc e];exact .cons dw h3
     ·rcases Hj.mp hz with rfl|hz
      ·exact .inr ⟨z,Hf,rfl,rfl⟩
      ·rcases h4 z hz with q|⟨x',hx',q⟩
       ·exact .inl q
       ·exact .inr ⟨x',Hb _ hx',q⟩
theorem br[DecidableEq κ]:∀{ks:List κ}{k:κ},(aj ks k).length<=ks.length+1
 |[],_=>by simp[aj]
 |q::ks,k=>by
  unfold aj;split
  ·simp
  ·have:=br (ks:=ks) (k:=k);simp only[HA];omega
theorem putD1_mem[DecidableEq κ]:∀{ks:List κ}{k x:κ},x∈aj ks k<->x∈ks\/x=k
 |[],k,x=>by simp[aj]
 |q::ks,k,x=>by
  unfold aj;split
  ·rename_i e;subst e;simp;intro z;exact .inl z
  ·rw[Hj,putD1_mem,Hj,or_assoc]
theorem iU[DecidableEq κ]:∀{ks:List κ}{k:κ},ks.Nodup->(aj ks k).Nodup
 |[],k,_=>by simp[aj]
 |q::ks,k,h=>by
  obtain⟨n1,n2⟩:=HF.mp h;unfold aj;split
  ·exact h
  ·rename_i e;refine HF.mpr ⟨λm=>?_,iU n2⟩
   rcases putD1_mem.mp m with z|z
   ·exact n1 z
   ·exact e z
end
section
variable {X:Cx}{A:Around}{ks:List Key}
theorem nQ:∀{ks:List κ}{vs:List V},ks.length=vs.length->(ks.zip vs).map (·.1)=ks
 |[],_,_=>by simp
 |q::ks,[],h=>by cases h
 |q::ks,v::vs,h=>by simp[nQ (ks:=ks) (vs:=vs) (by simpa using h)]
theorem sQ{vs:List V}(I:Inv X pins σ H s)(e:H a=some (.dK (ks.zip vs)))(hl:ks.length=vs.length):ks.Nodup:=by
 obtain⟨_,_,ws,rel,_,_,_,_,_,_,_,_,nd⟩:=xT I.hok e;rw[<-rel.keys,nQ hl]at nd;exact nd
theorem zt{k:Key}{y:D}{v w:V}{R:MH->Prop}{R2:Hp->Prop}(hu:A.units+1<cLine)(I:Inv X pins σ H s)(rm:RelM X.K M H)(q:M a=some (.dk ks ds))(hk:w=kV k)(rw':RelV w u)(dy:Den X.K H y v)(rv:RelV v r)(hz:ks.length<sizeLine)
  (h:R (put M a (.dk (aj ks k) (am ks ds k y)))) (back:∀H' M',RelM X.K M' H'->TM X.K H H'->R M'->R2 H'):wpAny (model X.prog X.w) A (setItem (.ref a) u r) (λ_ s'=>∃H',Inv X pins σ H' s'/\R2 H') E s:=by
 obtain⟨vs,e,hl,dl⟩:=rm a _ q;subst hk;obtain⟨vs',h1,h2,h3⟩:=mH (k:=k) (v:=v) (sQ I e hl) dl hl dy;refine rP hu I (.inl ⟨_,k,e,rfl,?_,rfl⟩) rw' rv λs' I'=>⟨_,I',?_⟩
 ·rw[List.length_zip,hl,Nat.min_self,<-hl];exact hz
 ·have tw:TM X.K H (upd H a (.dK (fq (ks.zip vs) k v))):=.put e (λ_ z=>by cases z) λ_ _ z=>by cases z
  exact back _ _ (rm.write (u:=.dk (aj ks k) (am ks ds k y)) e (λ_ z=>by cases z) (λ_ _ z=>by cases z) ⟨vs',by rw[ag,h1],h2,h3.mono tw⟩) tw h
theorem AK{kt:List (List Int)}{k:List Int}{y:D}{v:V}{b:Addr}{R:MH->Prop}{R2:Hp->Prop}(hu:A.units+1<cLine)(I:Inv X pins σ H s)(rm:RelM X.K M H)(q:M a=some (.dt kt ds))(sq:SqT X.K H b (k.map V.int))(dy:Den X.K H y v)(rv:RelV v r)(hz:kt.length<sizeLine)
  (h:R (put M a (.dt (aj kt k) (am kt ds k y)))) (back:∀H' M',RelM X.K M' H'->TM X.K H H'->R M'->R2 H'):wpAny (model X.prog X.w) A (setItem (.ref a) (.ref b) r) (λ_ s'=>∃H',Inv X pins σ H' s'/\R2 H') E s:=by
 obtain⟨vs,xs,e,z,dl⟩:=rm a _ q;have dd:=cw I (.inl e) z;have nd:(xs.map (·.1)).Nodup:=by rw[z.kx];exact z.nd
 obtain⟨vs',h1,h2,h3,h4⟩:=ka (k:=k) (b:=b) nd z.vx rv dl dy;rw[z.kx]at h1 h3;have hsz:xs.length<=sizeLine:=by
  have:=congrArg List.length z.kx;rw[Hm]at this;omega
 refine wpAny_setItem_heap (hsz:=hsz) (HQ hu) (e8 I sq) dd λh' dd' hs=>?_
 obtain⟨ob,es,ep,hq,hx,hd,he,_,_⟩:=dd';have tw:TM X.K H (upd H a (.ext (c6 a (storedH xs k b r)))):=.put e (λ_ z=>by cases z) λ_ _ z=>by cases z
 have tb:c6 a (storedH xs k b r) h':=⟨ob,es,ep,hq,hx,hd,he⟩;have I':Inv X pins σ (upd H a (.ext (c6 a (storedH xs k b r)))) {s with heap:=h',toks:=s.toks+(tupleKind (intKind X.prog X.w)).draws k}:=
  i9 I (by rw[e];exact True.intro) hs ⟨ob,hq⟩ ⟨tb,⟨ob,hq⟩,λg1 g2 ⟨o1,es1,ep1,a1,a2,a3,a4⟩ kk=>⟨o1,es1,ep1,kk _ a1,a2,a3,a4⟩⟩
 refine⟨_,I',back _ _ (rm.write (u:=.dt (aj kt k) (am kt ds k y)) e (λ_ z=>by cases z) (λ_ _ z=>by cases z) ⟨vs',_,ag,⟨h1,iU z.nd,Hw br hz,z.no,h2,λx hx'=>?_⟩,h3.mono tw⟩) tw h⟩
 rcases h4 x hx' with ⟨q1,q2⟩|⟨x',m,q1,q2⟩
 ·rw[q1,q2];exact tw.t _ _ sq
 ·rw[<-q1,<-q2];exact tw.t _ _ (z.at_ x' m)
end
end L2
namespace L2
open PySem PySem.Spec PyProof.Rows PySem.W
section
variable {A:Around}{s:Shared}{ob:Obj}{es:Array DictEntry}{e:DictEntry}
theorem qO(hn:(d == sysModules)=false):MeetsIn prog w (Builtin.«dict.__len__» ⟨[.ref d],[]⟩) (λ_ R s=>∃ob es ep,s.heap.get? d=some ob/\ob.data=.dict es ep/\R (.ok (.ret (.int es.size s.toks))) {s with toks:=s.toks+1}):=
 .of_wp λA R s ⟨ob,es,ep,ho,hd,q⟩=>by
  show wpAny _ _ (dictSize d >>=_) _ _ s;unfold dictSize;refine G8 (G8 (Ic ho hd (Ha ?_)));show wpAny _ _ (Builtin.Dict.pendingCount d >>=_) _ _ s;exact G8 (wpAny_pendingCount_other hn (wpAny_ret_mkInt q))
theorem EB(hn:(d == sysModules)=false)(ho:s.heap.get? d=some ob)(hx:ob.ExactDict)(hd:ob.data=.dict es ep)(hz:(es.size:Int)<2 ^ 63)(q:Q (.int es.size (s.toks+1)) {s with toks:=s.toks+1+1}) :
  wpAny (model prog w) A (call (.builtin "len") [.ref d]) Q E s:=by
 have hT:s.TypeIs (.ref d) "dict":=⟨_,ho,hx.1⟩;refine Calls.call_function_entry kind_len plain_len entry_len (args_len1 _) ?_;unfold Builtin.«len»;refine G8 (m:=oneArg "len" _) (Ha ?_);refine G8 (m:=callSpecial? (.ref d) (Str.ofString "__len__")) (wpAny_callSpecial?_slot (name:=Str.ofString "__len__") hT F.slot_dict_len
  (call_meetsIn F.slot_dict_len hT F.entry_dict_len (F.args_dict_len_1 _) (qO hn) ⟨ob,es,ep,ho,hd,?_⟩))
 show wpAny _ _ _ _ _ {s with toks:=s.toks+1}
 refine G8 (HR (Ha ?_));refine G8 (wpAny_letGo ?_);show wpAny _ _ (if ((es.size:Nat):Int)<0 then _ else _) _ _ _
 rw[Hc (by omega)]
 show wpAny _ _ (if ((es.size:Nat):Int)>=2 ^ 63 then _ else _) _ _ _
 rw[Hc (by omega)]
 exact G8 (wpAny_mkInt (Ha ⟨_,rfl,q⟩))
theorem Cm(hn:(d == sysModules)=false)(ho:s.heap.get? d=some ob)(hx:ob.ExactDict)(hd:ob.data=.dict es ep)
  (hQ:Q (.ref s.heap.objs.size) {s with heap:=s.heap.push {cls:=.type "dict_keyiterator",data:=.fields #[.ref d,.int 0 0,.int es.size 0,.int ep 0]}}):wpAny (model prog w) A (pyIter (.ref d)) Q E s:=by
 have hT:s.TypeIs (.ref d) "dict":=⟨_,ho,hx.1⟩;refine wpAny_pyIter_slot hT F.slot_dict_iter (Ib F.slot_dict_iter hT F.entry_dict_iter ?_ (F.args_dict_iter_1 _));unfold Builtin.«dict.__iter__»;refine G8 ?_;unfold Builtin.Dict.dictSlotNone;refine G8 (wpAny_notOrdered_dict hT ?_);show wpAny _ _ (pure (Value.ref d)) _ _ s;refine Ha ?_;show wpAny _ _ (Builtin.Dict.showsAll d >>=_) _ _ s;unfold Builtin.Dict.showsAll;rw[Hc (by rw[hn];exact Hq)]
 refine G8 (Ha (G8 (Ic ho hd (G8 (wpAny_dictEpoch ho hd ?_)))));refine G8 (HP (Ha ⟨_,rfl,"dict_keyiterator",_,⟨_,Hn _ rfl,rfl⟩,F.slot_dict_keyiterator_next.lookup,?_⟩));simpa [rawInt] using hQ
theorem uy(hit:s.heap.IsKeyIter it d i es.size ep)(hod:s.heap.get? d=some ob)(hdd:ob.data=.dict es ep)(he:es[i]?=some e)
  (hQ:∀h',h'.IsKeyIter it d (i+1) es.size ep->Heap.SameBut it s.heap h'->Q (some e.key) {s with heap:=h'}):wpAny (model prog w) A (pyNext (.ref it)) Q E s:=by
 obtain⟨o,ho,hc,hd⟩:=id hit;unfold pyNext;refine G8 (wpAny_attempt (wpAny_callSpecial?_slot (name:=Str.ofString "__next__") hit.typeIs F.slot_dict_keyiterator_next
  (Ib F.slot_dict_keyiterator_next hit.typeIs F.entry_dict_keyiterator_next ?_ (F.args_dict_keyiterator_next_1 _))))
 refine G8 (Ha (G8 (G8 ?_)))
 first|refine G8 (wpAny_typeNameOfWhole_keyiter hit.typeIs (Ha ?_))|refine G8 (wpAny_typeNameOf_keyiter hit.typeIs (Ha ?_))
 refine G8 (wpAny_fieldsOf ho hd ?_);simp only[show Builtin.Dict_items.ownsTuple "dict_keyiterator"=false by decide,HE,if_false]
 show wpAny _ _ (if (Value.ref d == Value.none)=true then _ else _) _ _ s
 rw[Hc (show ¬ ((Value.ref d == Value.none)=true) from Hq)];refine G8 (Ha (G8 (Ic hod hdd ?_)));rw[Hc (by simp)]
 refine G8 (Ha (G8 (wpAny_dictEpoch hod hdd ?_)));rw[Hc (by simp)]
 refine Ha ?_;simp only[show ¬ ((i:Int)<0) from by omega,if_false,Ii,he]
 refine G8 ?_
 first|refine G8 (wpAny_typeNameOfWhole_keyiter hit.typeIs (Ha ?_))|refine G8 (wpAny_typeNameOf_keyiter hit.typeIs (Ha ?_))
 refine G8 (wpAny_isOneOf_keyiter hit.typeIs ?_);show wpAny _ _ (setField (.ref it) 1 (rawInt ((i:Int)+1)) >>=_) _ _ s;refine G8 (Iq ho hd (by simp) ?_)
 have hit':(s.heap.update it (Obj.mapFields (·.setIfInBounds 1 (rawInt ((i:Int)+1))))).IsKeyIter it d (i+1) es.size ep:=
  ⟨_,HH _ ho (Obj.isFreed_of_fields (Ie hd _)),(Obj.cls_mapFields ..).trans hc,by rw[Ie hd];simp[rawInt]⟩
 refine G8 (HR ?_);refine G8 (wpAny_isOneOf_keyiter (s:={s with heap:=s.heap.update it (Obj.mapFields (·.setIfInBounds 1 (rawInt ((i:Int)+1))))}) hit'.typeIs ?_)
 show wpAny _ _ (pure e.key) _ _ _;exact Ha (Ha ⟨_,rfl,Ha (hQ _ hit' (Heap.SameBut.update ..))⟩)
theorem tJ(hh:A.handled=none)(hit:s.heap.IsKeyIter it d i es.size ep)(hod:s.heap.get? d=some ob)(hdd:ob.data=.dict es ep)(he:es.size<=i)
  (hQ:∀h',Heap.ExtBut it s.heap h'->Q none {s with heap:=h'}):wpAny (model prog w) A (pyNext (.ref it)) Q E s:=by
 obtain⟨o,ho,hc,hd⟩:=id hit;unfold pyNext;refine G8 (wpAny_attempt (wpAny_callSpecial?_slot (name:=Str.ofString "__next__") hit.typeIs F.slot_dict_keyiterator_next
  (Ib F.slot_dict_keyiterator_next hit.typeIs F.entry_dict_keyiterator_next ?_ (F.args_dict_keyiterator_next_1 _))))
 refine G8 (Ha (G8 (G8 ?_)))
 first|refine G8 (wpAny_typeNameOfWhole_keyiter hit.typeIs (Ha ?_))|refine G8 (wpAny_typeNameOf_keyiter hit.typeIs (Ha ?_))
 refine G8 (wpAny_fieldsOf ho hd ?_);simp only[show Builtin.Dict_items.ownsTuple "dict_keyiterator"=false by decide,HE,if_false]
 show wpAny _ _ (if (Value.ref d == Value.none)=true then _ else _) _ _ s
 rw[Hc (show ¬ ((Value.ref d == Value.none)=true) from Hq)];refine G8 (Ha (G8 (Ic hod hdd ?_)));rw[Hc (by simp)]
 refine G8 (Ha (G8 (wpAny_dictEpoch hod hdd ?_)));rw[Hc (by simp)]
 refine Ha ?_;simp only[show ¬ ((i:Int)<0) from by omega,if_false,Ii,Array.getElem?_eq_none he]
 refine G8 ?_
 first|refine G8 (wpAny_typeNameOfWhole_keyiter hit.typeIs (Ha ?_))|refine G8 (wpAny_typeNameOf_keyiter hit.typeIs (Ha ?_))
 show wpAny _ _ (setField (.ref it) 0 .none >>=_) _ _ s;refine G8 (Iq ho hd (by simp) ?_)
 show wpAny _ _ (newExc (.type "StopIteration") [] >>=_) _ _ _;refine G8 ?_;simp only[newExc,newTuple];refine G8 (HP ?_ (by size_fits))
 refine G8 (m:=firstArgMember _ _) (wpAny_of_eq (a:=Value.none) (by first|rfl|(simp only[firstArgMember];rfl)) ?_)
 refine HP ?_ (by size_fits)
 simp only[raiseNew];refine G8 (wpAny_handled ?_);rw[show A.in1.handled=none from hh];refine G8 (Ha (wpAny_throw ?_));refine G8 (wpAny_isInstance (T:="StopIteration") (b:=true) ⟨_,Hn _ rfl,rfl⟩ isSubtype_stop ?_);exact Ha (hQ _ (((Heap.SameBut.update ..).extBut.push _).push _))
theorem sY(hit:s.heap.IsValIter it d i es.size ep)(hod:s.heap.get? d=some ob)(hdd:ob.data=.dict es ep)(he:es[i]?=some e)
  (hQ:∀h',h'.IsValIter it d (i+1) es.size ep->Heap.SameBut it s.heap h'->Q (some e.val) {s with heap:=h'}):wpAny (model prog w) A (pyNext (.ref it)) Q E s:=by
 obtain⟨o,ho,hc,hd⟩:=id hit;unfold pyNext;refine G8 (wpAny_attempt (wpAny_callSpecial?_slot (name:=Str.ofString "__next__") hit.typeIs F.slot_dict_valueiterator_next
  (Ib F.slot_dict_valueiterator_next hit.typeIs F.entry_dict_valueiterator_next ?_ (F.args_dict_valueiterator_next_1 _))))
 refine G8 (Ha (G8 (G8 ?_)))
 first|refine G8 (wpAny_typeNameOfWhole_valiter hit.typeIs (Ha ?_))|refine G8 (wpAny_typeNameOf_valiter hit.typeIs (Ha ?_))
 refine G8 (wpAny_fieldsOf ho hd ?_);simp only[show Builtin.Dict_items.ownsTuple "dict_valueiterator"=false by decide,HE,if_false]
 show wpAny _ _ (if (Value.ref d == Value.none)=true then _ else _) _ _ s
 rw[Hc (show ¬ ((Value.ref d == Value.none)=true) from Hq)];refine G8 (Ha (G8 (Ic hod hdd ?_)));rw[Hc (by simp)]
 refine G8 (Ha (G8 (wpAny_dictEpoch hod hdd ?_)));rw[Hc (by simp)]
 refine Ha ?_;simp only[show ¬ ((i:Int)<0) from by omega,if_false,Ii,he]
 refine G8 ?_
 first|refine G8 (wpAny_typeNameOfWhole_valiter hit.typeIs (Ha ?_))|refine G8 (wpAny_typeNameOf_valiter hit.typeIs (Ha ?_))
 refine G8 (wpAny_isOneOf_valiter hit.typeIs ?_);show wpAny _ _ (setField (.ref it) 1 (rawInt ((i:Int)+1)) >>=_) _ _ s;refine G8 (Iq ho hd (by simp) ?_)
 have hit':(s.heap.update it (Obj.mapFields (·.setIfInBounds 1 (rawInt ((i:Int)+1))))).IsValIter it d (i+1) es.size ep:=
  ⟨_,HH _ ho (Obj.isFreed_of_fields (Ie hd _)),(Obj.cls_mapFields ..).trans hc,by rw[Ie hd];simp[rawInt]⟩
 refine G8 (HR ?_);refine G8 (wpAny_isOneOf_valiter (s:={s with heap:=s.heap.update it (Obj.mapFields (·.setIfInBounds 1 (rawInt ((i:Int)+1))))}) hit'.typeIs ?_)
 show wpAny _ _ (Builtin.Dict_items.isOneOf (Value.ref it) ["dict_valueiterator","dict_reversevalueiterator"] >>=_) _ _ _;refine G8 (wpAny_isOneOf_valiter (s:={s with heap:=s.heap.update it (Obj.mapFields (·.setIfInBounds 1 (rawInt ((i:Int)+1))))}) hit'.typeIs ?_)
 show wpAny _ _ (pure e.val) _ _ _;exact Ha (Ha ⟨_,rfl,Ha (hQ _ hit' (Heap.SameBut.update ..))⟩)
theorem sP(hh:A.handled=none)(hit:s.heap.IsValIter it d i es.size ep)(hod:s.heap.get? d=some ob)(hdd:ob.data=.dict es ep)(he:es.size<=i)
  (hQ:∀h',Heap.ExtBut it s.heap h'->Q none {s with heap:=h'}):wpAny (model prog w) A (pyNext (.ref it)) Q E s:=by
 obtain⟨o,ho,hc,hd⟩:=id hit;unfold pyNext;refine G8 (wpAny_attempt (wpAny_callSpecial?_slot (name:=Str.ofString "__next__") hit.typeIs F.slot_dict_valueiterator_next
  (Ib F.slot_dict_valueiterator_next hit.typeIs F.entry_dict_valueiterator_next ?_ (F.args_dict_valueiterator_next_1 _))))
 refine G8 (Ha (G8 (G8 ?_)))
 first|refine G8 (wpAny_typeNameOfWhole_valiter hit.typeIs (Ha ?_))|refine G8 (wpAny_typeNameOf_valiter hit.typeIs (Ha ?_))
 refine G8 (wpAny_fieldsOf ho hd ?_);simp only[show Builtin.Dict_items.ownsTuple "dict_valueiterator"=false by decide,HE,if_false]
 show wpAny _ _ (if (Value.ref d == Value.none)=true then _ else _) _ _ s
 rw[Hc (show ¬ ((Value.ref d == Value.none)=true) from Hq)];refine G8 (Ha (G8 (Ic hod hdd ?_)));rw[Hc (by simp)]
 refine G8 (Ha (G8 (wpAny_dictEpoch hod hdd ?_)));rw[Hc (by simp)]
 refine Ha ?_;simp only[show ¬ ((i:Int)<0) from by omega,if_false,Ii,Array.getElem?_eq_none he]
 refine G8 ?_
 first|refine G8 (wpAny_typeNameOfWhole_valiter hit.typeIs (Ha ?_))|refine G8 (wpAny_typeNameOf_valiter hit.typeIs (Ha ?_))
 show wpAny _ _ (setField (.ref it) 0 .none >>=_) _ _ s;refine G8 (Iq ho hd (by simp) ?_)
 show wpAny _ _ (newExc (.type "StopIteration") [] >>=_) _ _ _;refine G8 ?_;simp only[newExc,newTuple];refine G8 (HP ?_ (by size_fits))
 refine G8 (m:=firstArgMember _ _) (wpAny_of_eq (a:=Value.none) (by first|rfl|(simp only[firstArgMember];rfl)) ?_)
 refine HP ?_ (by size_fits)
 simp only[raiseNew];refine G8 (wpAny_handled ?_);rw[show A.in1.handled=none from hh];refine G8 (Ha (wpAny_throw ?_));refine G8 (wpAny_isInstance (T:="StopIteration") (b:=true) ⟨_,Hn _ rfl,rfl⟩ isSubtype_stop ?_);exact Ha (hQ _ (((Heap.SameBut.update ..).extBut.push _).push _))
theorem rK(hn:(d == sysModules)=false):MeetsIn prog w (Builtin.«dict.values» ⟨[.ref d],[]⟩) (λ_ R s=>s.TypeIs (.ref d) "dict"/\R (.ok (.ret (.ref s.heap.objs.size))) {s with heap:=s.heap.push {cls:=.type "dict_values",data:=.fields #[.ref d]}}):=
 .of_wp λA R s ⟨ty,q⟩=>by
  unfold Builtin.«dict.values»;refine G8 ?_;unfold Builtin.Dict.noArgs;refine G8 (wpAny_notOrdered_dict ty (show wpAny _ _ (pure d) _ _ s from Ha (show wpAny _ _ (Builtin.Dict.showsAll d >>=_) _ _ s from ?_)));unfold Builtin.Dict.showsAll;rw[hn];exact G8 (Ha (G8 (HP (Ha ⟨_,rfl,q⟩))))
theorem rH(hv:s.heap.IsValuesView r d)(ho:s.heap.get? d=some ob)(hd:ob.data=.dict es ep)
  (hQ:Q (.ref s.heap.objs.size) {s with heap:=s.heap.push {cls:=.type "dict_valueiterator",data:=.fields #[.ref d,.int 0 0,.int es.size 0,.int ep 0]}}):wpAny (model prog w) A (pyIter (.ref r)) Q E s:=by
 obtain⟨ov,hov,hcv,hdv⟩:=id hv;refine wpAny_pyIter_slot hv.typeIs F.slot_dict_values_iter (Ib F.slot_dict_values_iter hv.typeIs F.entry_dict_values_iter ?_ (F.args_dict_values_iter_1 _));unfold Builtin.«dict_values.__iter__»;refine G8 (Ha (G8 ?_));unfold Builtin.Dict_items.dictOf;refine G8 (HZ hov hdv (x:=.ref d) rfl (Ha (G8 ?_)));unfold Builtin.Dict_items.newIterator;refine G8 (Ic ho hd (G8 (wpAny_dictEpoch ho hd ?_)));simp only[show Builtin.Dict_items.ownsTuple "dict_valueiterator"=false by decide,HE,if_false]
 refine HP (Ha ⟨_,rfl,"dict_valueiterator",_,⟨_,Hn _ rfl,rfl⟩,PySem.F.slot_dict_valueiterator_next.lookup,?_⟩);simpa [rawInt] using hQ
theorem qV(hh:A.handled=none)(I d:Addr)(hne:d≠I)(hd:ob.data=.dict es ep) :
  Walks prog w A I [I,d] [I] es.size (λi v=>∃e,es[i]?=some e/\v=e.key) (λi h=>h.IsKeyIter I d i es.size ep/\h.get? d=some ob) where
 sub:=λb hb=>by simp at hb;simp[hb]
 frame:=λ_ _ _ st hk=>⟨st.1.at λo e=>hk I (by simp) o e,hk d (by simp) _ st.2⟩
 item:=λi s Q E hi st hQ=>by
  have he:es[i]?=some es[i]:=by simp[hi]
  refine uy st.1 st.2 hd he λh' hit' hs'=>?_
  exact hQ _ h' s.toks ⟨_,he,rfl⟩ ⟨hit',hs'.extBut d ob hne st.2⟩ λb o hb e=>hs'.extBut b o (λh=>hb (by simp[h])) e
 done:=λs Q E st hQ=>tJ hh st.1 st.2 hd (Hh _) λh' he'=>hQ h' s.toks λb o hb e=>he' b o (λh=>hb (by simp[h])) e
 self:=λ_ _ _ _ st hQ=>wpAny_pyIter_keyiter st.1 hQ
theorem sy(lo:(d == sysModules)=false)(hx:ob.ExactDict)(hd:ob.data=.dict es ep):KdlSrc prog w "dict" d d es.size (λi v=>∃e,es[i]?=some e/\v=e.key) (λh=>h.get? d=some ob) where
 type:=λ_ hm=>⟨_,hm,hx.1⟩
 there:=λ_ hm=>⟨Hi hm,Hi hm⟩
 keep:=λ_ _ hm hk=>hk d (.inl rfl) _ hm
 notList:=by decide
 notTuple:=by decide
 hint:=λ_ _ _ _ hm hq=>kdl_hint_dict ⟨_,hm,hx.1⟩ hq
 iter:=λ_ _ hh hm=>⟨_,_,(λ_ _ hq=>Cm lo hm hx hd hq),qV hh _ d (Hx (Hi hm)) hd,⟨⟨_,Hn _ rfl,rfl,rfl⟩,Hd _ hm⟩⟩
end
end L2
namespace L2
open PySem PySem.Spec PyProof.Rows
section
variable {X:Cx}
theorem xS(neg:Bool):VO X (compareOp (if neg=true then .IsNot else .Is)) (qT neg):=by
 intro pins s σ H x y v u v2 u2 M Q Q2 I rv ru dx dy rm q back;unfold qT at q;split at q
 ·cases (show u=.non from dy);cases neg with
  |true=>exact VO.of3 vG pins s σ H x .non v .non v2 u2 M Q Q2 I rv ru dx dy rm ⟨rfl,by rw[Bool.true_xor]at q;exact q⟩ back
  |false=>exact VO.of3 ET pins s σ H x .non v .non v2 u2 M Q Q2 I rv ru dx dy rm ⟨rfl,by rw[Bool.false_xor]at q;exact q⟩ back
 ·rename_i b;cases (show u=.bl b from dy);cases ru;have fin:∀k,Q (.bl k) M->EP X pins σ Q2 (.bool k) s:=λk q=>⟨.bl k,H,I,rfl,back _ _ _ _ bn rm (.refl _) q⟩
  split at q
  ·rename_i a;cases (show v=.bl a from dx);cases rv;have e:((Value.bool a == Value.bool b):Bool)=(a == b):=by cases a<;>cases b<;>rfl
   cases neg with
   |true=>exact wpAny_isNot_plain rfl (by rw[e];rw[Bool.true_xor]at q;exact fin _ q)
   |false=>exact wpAny_is_plain rfl (by rw[e];rw[Bool.false_xor]at q;exact fin _ q)
  ·cases (show v=.non from dx);cases rv;cases neg with
   |true=>exact wpAny_isNot_other rfl (λz=>nomatch z) (fin _ q)
   |false=>exact wpAny_is_other rfl (λz=>nomatch z) (fin _ q)
  ·exact q.elim
 ·exact q.elim
theorem sD:∀{ds:List D}{us:List β},Paired R ds us->(∀d u,d∈ds->R d u->e u=f d)->us.any e=ds.any f
 |_,_,.nil,_=>rfl
 |d::ds,u::us,.cons r t,h=>by
  rw[List.any_cons,List.any_cons,h d u Hf r,sD t λd u hd=>h d u (Hb _ hd)]
theorem lr{K:Iz}:∀{ds:List D}{vs:List V}{us:List Value},DenL K H ds vs->Vals vs us->Paired (λd u=>∃v,Den K H d v/\RelV v u) ds us
 |[],_,_,h,r=>by cases (show _=[] from h);cases r;exact .nil
 |d::ds,_,_,h,r=>by
  obtain⟨v,r',rfl,dv,dl⟩:=h;cases r with
  |cons r1 r2=>exact .cons ⟨v,dv,r1⟩ (lr dl r2)
theorem Paired.mem_right:∀{l:List α}{m:List β},Paired R l m->∀b∈m,∃a∈l,R a b
 |_,_,.nil,b,hb=>by cases hb
 |a::l,c::m,.cons r t,b,hb=>by
  rcases Hj.mp hb with rfl|hb
  ·exact⟨a,Hf,r⟩
  ·obtain⟨a',h1,h2⟩:=Paired.mem_right t b hb;exact⟨a',Hb _ h1,h2⟩
theorem xF(hu:X.A.units+64<cLine)(neg:Bool):VO X (compareOp (if neg=true then .NotIn else .In)) (lJ neg):=by
 intro pins s σ H x y v u v2 u2 M Q Q2 I rv ru dx dy rm q back;unfold lJ at q;split at q
 ·rename_i ds eds;obtain⟨p1,p2,q⟩:=q;obtain⟨p,vs,rfl,hq,dl⟩:=hJ rm eds dy;cases ru;obtain⟨H',I',t',d1⟩:=t7 I rm dx p1;have dl':=dl.mono t';have fin:EP X pins σ Q2 (.bool (neg ^^ ds.any λd=>eqD d (res M x))) s:=⟨.bl _,H,I,rfl,back _ _ _ _ bn rm (.refl _) q⟩
  classical
  have key:∀{its:List Value},Vals vs its->∃e:Value->Bool,its.any e=(ds.any λd=>eqD d (res M x))/\∀w∈its,SeqAt.EqAt X.A.in1 s w v2 (e w):=λ{its} r=>by
   have pd:=lr dl' r
   let e:Value->Bool:=λw=>if h:∃d∈ds,∃v,Den X.K H' d v/\RelV v w then eqD h.choose (res M x) else false
   have he:∀d w,d∈ds->(∃v,Den X.K H' d v/\RelV v w)->e w=eqD d (res M x):=λd w hd ⟨v',dv,rw'⟩=>by
    have h:∃d∈ds,∃v,Den X.K H' d v/\RelV v w:=⟨d,hd,v',dv,rw'⟩;obtain⟨hm,v'',dv2,rw2⟩:=h.choose_spec;have:v''=v':=rw2.inj rw';subst this;have e1:h.choose=d:=pQ I' rfl 8 (HC.mp p2 _ hm) (HC.mp p2 _ hd) dv2 dv;show (if h:∃d∈ds,∃v,Den X.K H' d v/\RelV v w then eqD h.choose (res M x) else false)=_
    rw[dif_pos h,e1]
   refine⟨e,sD pd he,λw hw=>?_⟩
   obtain⟨d,hd,v',dv,rw'⟩:=Paired.mem_right pd w hw;rw[he d w hd ⟨v',dv,rw'⟩];exact (Db I' rfl 8 (A:=X.A.in1) (HC.mp p2 _ hd) p1 dv d1 rw' rv (by show X.A.units+1+8<cLine;omega)).2.2
  rcases hq with hq|hq
  ·obtain⟨its,r,pl',hz⟩:=I.list hq;obtain⟨e,e1,e2⟩:=key r;have ea:its.toArray.any e=ds.any λd=>eqD d (res M x):=by rw[<-e1];simp
   cases neg with
   |true=>exact SeqAt.notIn_listAt e pl'.isList (λw hw=>e2 w (by simpa using hw)) (by rw[ea];rw[Bool.true_xor]at fin;exact fin)
   |false=>exact SeqAt.in_listAt e pl'.isList (λw hw=>e2 w (by simpa using hw)) (by rw[ea];rw[Bool.false_xor]at fin;exact fin)
  ·obtain⟨its,r,pl',hz⟩:=I.tuple hq;obtain⟨e,e1,e2⟩:=key r;have ea:its.toArray.any e=ds.any λd=>eqD d (res M x):=by rw[<-e1];simp
   cases neg with
   |true=>exact SeqAt.notIn_tupleAt e pl' (λw hw=>e2 w (by simpa using hw)) (by rw[ea];rw[Bool.true_xor]at fin;exact fin)
   |false=>exact SeqAt.in_tupleAt e pl' (λw hw=>e2 w (by simpa using hw)) (by rw[ea];rw[Bool.false_xor]at fin;exact fin)
 ·split at q
  ·rename_i o e;obtain⟨a,ov,rfl,g,od⟩:=g4 (X:=X) e rm dy dx;cases ru;refine Es neg (by omega) I g rv λs' I'=>⟨.bl (neg ^^ ov.isSome),H,I',rfl,back _ _ (.bl _) _ bn rm (.refl _) ?_⟩
   have:o.isSome=ov.isSome:=by
    cases o<;>cases ov<;>first|rfl|exact od.elim
   rw[<-this];exact q
  ·split at q
   ·rename_i i j _ _;cases (show v=.str i from dx);cases (show u=.str j from dy);cases neg with
    |false=>exact re pins s σ H _ _ v2 u2 Q2 I rv ru ⟨i,j,rfl,rfl,back _ _ (.bl _) _ bn rm (.refl _) (by rw[Bool.false_xor]at q;exact q)⟩
    |true=>exact ma pins s σ H _ _ v2 u2 Q2 I rv ru ⟨i,j,rfl,rfl,back _ _ (.bl _) _ bn rm (.refl _) (by rw[Bool.true_xor]at q;exact q)⟩
   ·exact q.elim
theorem dW(hu:X.A.units+64<cLine)(op:CmpOp):VO X (compareOp op) (aq op):=by
 cases op with
 |Eq=>exact xP hu false
 |NotEq=>exact xP hu true
 |Lt=>exact (VO.of3 Fq).imp λ_ _ _ _ h=>iu h
 |LtE=>exact (VO.of3 Fc).imp λ_ _ _ _ h=>iu h
 |Gt=>exact (VO.of3 EG).imp λ_ _ _ _ h=>iu h
 |GtE=>exact (VO.of3 EK).imp λ_ _ _ _ h=>iu h
 |Is=>exact xS false
 |IsNot=>exact xS true
 |In=>exact xF hu false
 |NotIn=>exact xF hu true
theorem iH{K:Iz}(h:DenL K H [d] vs):∃v,vs=[v]/\Den K H d v:=by
 obtain⟨v,r,rfl,dv,rfl⟩:=h;exact⟨v,rfl,dv⟩
def rLen0(xs:List D)(M:MH)(Q:VK3):Prop:=match xs with
  |[x]=>match aD M x with
   |some ds=>Q (.int ds.length) M
   |none=>False
  |_=>False
theorem xk:VC X (.builtin "len") rLen0:=(VC.of3 CU).imp λxs M Q h=>by
 simp only[rLen0]at h;split at h
 ·rename_i x;split at h
  ·rename_i ds e;refine⟨x,ds,rfl,?_,h⟩;cases x with
   |tup es=>exact .inr (by rw[show es=ds from Hv e])
   |rol es=>exact .inl (.inl (by rw[show es=ds from Hv e]))
   |ref a=>
    cases q:M a with
    |none=>simp[aD,ai,q]at e
    |some o=>
     cases o with
     |lst es=>exact .inl (.inr ⟨a,rfl,by rw[q];simp[aD,ai,q]at e;rw[e]⟩)
     |_=>simp[aD,ai,q]at e
   |_=>cases e
  ·exact h.elim
 ·exact h.elim
theorem qh{s:Shared}{ks:List (List Int)}{xs:List (List Int×Addr×Value)}(I:Inv X pins σ H s)(e:Rd H p (.ext (c6 p xs)))(z:TabOk X.K H p ks xs vs) :
  ∃ob es ep,s.heap.get? p=some ob/\ob.ExactDict/\ob.data=.dict es ep/\es.toList=(xs.map λx=>(⟨tH x.1,.ref x.2.1,x.2.2⟩:DictEntry))/\es.size=ks.length:=by
 obtain⟨⟨ob,es,ep,h1,h2,h3,h4⟩,_⟩:=(show ObjOk X.prog X.w H s.heap p (.ext (c6 p xs)) from e.ok I.hok);refine⟨ob,es,ep,h1,h2,h3,h4,?_⟩;have:=congrArg List.length h4;have l3:xs.length=ks.length:=by rw[<-z.kx];simp
 simp at this;omega
theorem yu:VC X (.builtin "len") (rBi .len):=by
 intro pins s σ H xs vs us M Q Q2 I rs dl rm q back;by_cases h:rLen0 xs M Q
 ·exact xk pins s σ H xs vs us M Q Q2 I rs dl rm h back
 ·simp only[rBi]at q;split at q
  ·rename_i x;split at q
   ·rename_i ds e;exact absurd (by simp only[rLen0,e];exact q) h
   ·split at q
    ·rename_i ks ds e;obtain⟨v,rfl,dv⟩:=iH dl;obtain⟨p,ws,ts,rfl,rd,z,_⟩:=gV e rm dv;obtain⟨ob,es,ep,h1,h2,h3,h4,h5⟩:=qh I rd z;obtain⟨u,rfl,rx⟩:=iP rs;cases rx;refine EB z.no h1 h2 h3 (by have:=z.sz;have:=sizeLine_eq;omega) ⟨.int es.size,H,I.tok _,⟨_,rfl⟩,?_⟩
     rw[h5];exact back _ _ _ _ fB rm (.refl _) q
    ·split at q
     ·rename_i z _ _;obtain⟨v,rfl,dv⟩:=iH dl;cases (show v=.str z from dv);exact mi pins s σ H _ us Q2 I rs ⟨z,rfl,q.1,back _ _ _ _ fB rm (.refl _) q.2⟩
     ·exact q.elim
  ·exact q.elim
theorem yB(hc:X.calm=true):VC X (.builtin "max") (rBi .max):=(VC.of3 (Dl hc)).imp λxs M Q h=>by
 simp only[rBi]at h;split at h
 ·exact⟨_,_,rfl,h⟩
 ·exact h.elim
theorem kW{K:Iz}:∀ks:List Int,DenL K H (ks.map D.int) (ks.map V.int)
 |[]=>rfl
 |k::r=>⟨_,_,rfl,rfl,kW r⟩
theorem og{K:Iz}:∀{ts:List (List Int×Addr×Value)},(∀x∈ts,SqT K H x.2.1 (x.1.map V.int))->DenL K H ((ts.map (·.1)).map Ca) (ts.map λx=>V.ref x.2.1)
 |[],_=>rfl
 |x::r,h=>⟨_,_,rfl,qe (h x Hf) (kW _),og λy hy=>h y (Hb _ hy)⟩
theorem kQ:∀ts:List (List Int×Addr×Value),Vals (ts.map λx=>V.ref x.2.1) (ts.map λx=>Value.ref x.2.1)
 |[]=>.nil
 |x::r=>.cons rfl (kQ r)
theorem wS(fz:Bool)(hc:X.calm=true):VC X (.type "list") (rBi (.list fz)):=by
 intro pins s σ H xs vs us M Q Q2 I r dl rm q back;simp only[rBi]at q;split at q
 ·rename_i x;split at q
  ·rename_i ds e;obtain⟨v,rfl,dv⟩:=iH dl;obtain⟨p,vs,rfl,hq,dl2⟩:=hJ rm e dv;refine thn (lS pins s σ H _ us (λw H'=>∃l,w=.ref l/\H l=none/\H'=upd H l (.lst vs)) I r ⟨p,vs,rfl,hq,λl hl=>⟨l,rfl,hl,rfl⟩⟩) λu s1 ⟨w,H1,I1,r1,l,e1,hl,e2⟩=>?_
   subst e1;subst e2;cases r1;exact bZ I1 hl dl2 rm (.refl _) q back
  ·split at q
   ·rename_i ks ds e;obtain⟨v,rfl,dv⟩:=iH dl;obtain⟨p,ws,ts,rfl,rd,z,_⟩:=gV e rm dv;obtain⟨ob,es,ep,h1,h2,h3,h4,h5⟩:=qh I rd z;obtain⟨u,rfl,rx⟩:=iP r;cases rx;have hz:es.size<=sizeLine:=by have:=z.sz;omega
    refine PySem.W.kdl_call (sy z.no h2 h3) (I.ok.hd hc) h1 hz λh' tk acc' c' kp e hi=>?_
    have hp:H s.heap.objs.size=none:=I.hok.fresh (Hh _);have ea:acc'.toList=ts.map λx=>Value.ref x.2.1:=by
     refine List.ext_getElem? λj=>?_
     by_cases hj:j<acc'.size
     ·have e1:acc'[j]?=some acc'[j]:=by simp[hj]
      obtain⟨en,e2,e3⟩:=hi.2 j _ e1;have e4:es.toList[j]?=some en:=by simpa using e2
      rw[h4,HB]at e4;cases hx:ts[j]? with
      |none=>rw[hx]at e4;cases e4
      |some x=>
       rw[hx]at e4;cases e4;rw[Array.getElem?_toList,e1,e3,HB,hx];rfl
     ·have h6:=hi.1;have h7:ts.length=es.size:=by
       have:=congrArg List.length h4;simpa using this.symm
      rw[List.getElem?_eq_none (by simpa using hj),List.getElem?_eq_none (by rw[Hm];omega)]
    have hv:Vals (ts.map λx=>V.ref x.2.1) acc'.toList:=by rw[ea];exact kQ ts
    have I1:=I.laid (a:=s.heap.objs.size) (o:=.lst (ts.map λx=>V.ref x.2.1)) (t':=tk) kp (Hh _) ⟨by rw[hv.length,ea,Hm];have:=z.sz;rw[<-z.kx,Hm]at this;exact this,acc'.toList,c',hv,by simpa using e⟩
    exact bZ I1 hp (by rw[<-z.kx];exact og z.at_) rm (.refl _) q back
   ·exact q.elim
 ·exact q.elim
end
end L2
namespace L2
open PySem PySem.Spec PyProof.Rows PySem.W
end L2
namespace L2
open PySem PySem.Spec PyProof.Rows
theorem ex9{α β γ δ:Sort _}{P1 P2 P3 P4 P5:α->β->γ->δ->Prop}{R:Prop}(h:∃a b c d,P1 a b c d/\P2 a b c d/\P3 a b c d/\P4 a b c d/\P5 a b c d)(k:∀a b c d,P1 a b c d->P2 a b c d->P3 a b c d->P4 a b c d->P5 a b c d->R):R:=
 h.elim λa h=>h.elim λb h=>h.elim λc h=>h.elim λd h=>k a b c d h.1 h.2.1 h.2.2.1 h.2.2.2.1 h.2.2.2.2
def Ew(K:Iz)(r:D->D->MH->VK3->Prop):R2:=λv u H Q2=>∃x y M Q,Den K H x v/\Den K H y u/\RelM K M H/\r x y M Q/\Back K H Q Q2
def E6(K:Iz)(r:D->MH->VK3->Prop):V->Hp->VK->Prop:=λv H Q2=>∃x M Q,Den K H x v/\RelM K M H/\r x M Q/\Back K H Q Q2
def FD(K:Iz)(r:List D->MH->VK3->Prop):List V->Hp->VK->Prop:=λvs H Q2=>∃xs M Q,DenL K H xs vs/\RelM K M H/\r xs M Q/\Back K H Q Q2
section
variable {X:Cx}
theorem VO.op{f:Value->Value->Sem Value}{r:D->D->MH->VK3->Prop}(h:VO X f r):OpR X f (Ew X.K r):=λpins s σ H v u v2 u2 Q2 I rv ru ⟨x,y,M,Q,dx,dy,rm,q,back⟩=>h pins s σ H x y v u v2 u2 M Q Q2 I rv ru dx dy rm q back
theorem VU.op{f:Value->Sem Value}{r:D->MH->VK3->Prop}(h:VU X f r):UnR X f (E6 X.K r):=λpins s σ H v v2 Q2 I rv ⟨x,M,Q,dx,rm,q,back⟩=>h pins s σ H x v v2 M Q Q2 I rv dx rm q back
theorem VC.op{f:Value}{r:List D->MH->VK3->Prop}(h:VC X f r):CallR X f (FD X.K r):=λpins s σ H vs us Q2 I rv ⟨xs,M,Q,dx,rm,q,back⟩=>h pins s σ H xs vs us M Q Q2 I rv dx rm q back
end
section
variable {K:Iz}
theorem mr{ta tb:St3->MH->VK3->XN->Prop}{R3:D->D->MH->Prop}{R2:V->V->Hp->Prop}(rm:RelM K M H)(ds:DenS K H σ3 σ)(lk:LkE K cls H E3 (E2 σ))
  (h:ta σ3 M (λx M1=>tb σ3 M1 (λy M2=>R3 x y M2) E3) E3) (k:∀v u H' x y M',Den K H' x v->Den K H' y u->RelM K M' H'->TM K H H'->R3 x y M'->R2 v u H') :
  low K cls E2 ta σ H λv H1=>low K cls E2 tb σ H1 λu H2=>R2 v u H2:=
 ⟨σ3,M,_,E3,rm,ds,lk,h,λv H1 x M1 dv rm1 t1 h1=>⟨σ3,M1,_,E3,rm1,ds.mono t1,lk.mono t1,h1,λu H2 y M2 du rm2 t2 h2=>k v u H2 x y M2 (dv.mono t2) du rm2 (t1.trans t2) h2⟩⟩
theorem aZ{ta:St3->MH->VK3->XN->Prop}{R3:VK3}{R2:VK}(rm:RelM K M H)(ds:DenS K H σ3 σ)(lk:LkE K cls H E3 (E2 σ))(h:ta σ3 M R3 E3)(k:∀v H' x M',Den K H' x v->RelM K M' H'->TM K H H'->R3 x M'->R2 v H') :
  low K cls E2 ta σ H R2:=⟨σ3,M,R3,E3,rm,ds,lk,h,k⟩
end
section
variable {X:Cx}{cls:Nat->Addr}{E2:St->XK}{a b c e:Expr}{ta tb tc te:St3->MH->VK3->XN->Prop}{pos:Pos}
theorem CP{i:Nat}{x:Str}(hN:X.N[i]?=some x)(hv:Vis X.env.scope x)(hd:(x == ("__debug__" : Str))=false)(hcd:(x == ("__classdict__" : Str))=false) :
  PE X (.Name x pos) (low X.K cls E2 λσ M Q _=>match σ[i]? with|some (some d)=>Q d M|_=>False):=
 (jK hN hv hd hcd).imp λσ H Q2 hl_=>ex9 hl_ λσ3 M Q E3 rm ds lk h back=>by
  try dsimp only at h
  split at h
  ·rename_i d e;obtain⟨v,e1,e2⟩:=ds.2 i d e;exact⟨v,e1,back _ _ _ _ e2 rm (.refl _) h⟩
  ·exact h.elim
theorem nj{v:V}{d:D}(h:PE X e (tC v))(hd:∀H,Den X.K H d v):PE X e (low X.K cls E2 λ_ M Q _=>Q d M):=
 h.imp λσ H Q2 hl_=>ex9 hl_ λσ3 M Q E3 rm ds lk h back=>back _ _ _ _ (hd H) rm (.refl _) h
theorem Al{op:Operator}{r:D->D->MH->VK3->Prop}(ho:VO X (binaryOp op) r)(ha:PE X a (low X.K cls E2 ta))(hb:PE X b (low X.K cls E2 tb)) :
  PE X (.BinOp a op b pos) (low X.K cls E2 λσ M Q E=>ta σ M (λx M1=>tb σ M1 (λy M2=>r x y M2 Q) E) E):=
 (Df ho.op ha hb).imp λσ H Q2 hl_=>ex9 hl_ λσ3 M Q E3 rm ds lk h back=>mr rm ds lk h λv u H' x y M' dx dy rm' t q=>⟨x,y,M',Q,dx,dy,rm',q,back.mono t⟩
theorem EW{op:UnaryOp}{r:D->MH->VK3->Prop}(ho:VU X (unaryOp op) r)(ha:PE X a (low X.K cls E2 ta)) :
  PE X (.UnaryOp op a pos) (low X.K cls E2 λσ M Q E=>ta σ M (λx M1=>r x M1 Q) E):=
 (C7 ho.op ha).imp λσ H Q2 hl_=>ex9 hl_ λσ3 M Q E3 rm ds lk h back=>aZ rm ds lk h λv H' x M' dx rm' t q=>⟨x,M',Q,dx,rm',q,back.mono t⟩
theorem A1{op:CmpOp}{r:D->D->MH->VK3->Prop}(ho:VO X (compareOp op) r)(ha:PE X a (low X.K cls E2 ta))(hb:PE X b (low X.K cls E2 tb))(hm:behindInMarks op b=false) :
  PE X (.Compare a [op] [b] pos) (low X.K cls E2 λσ M Q E=>ta σ M (λx M1=>tb σ M1 (λy M2=>r x y M2 Q) E) E):=
 (vA ho.op ha hb hm).imp λσ H Q2 hl_=>ex9 hl_ λσ3 M Q E3 rm ds lk h back=>mr rm ds lk h λv u H' x y M' dx dy rm' t q=>⟨x,y,M',Q,dx,dy,rm',q,back.mono t⟩
abbrev boolQ(Q:Bool->MH->Prop):VK3:=λr M=>match r with
 |.bl k=>Q k M
 |_=>False
theorem fA{K:Iz}{H:Hp}{Q:Bool->MH->Prop}{Q2:Bool->Hp->Prop}(k:∀b H' M',RelM K M' H'->TM K H H'->Q b M'->Q2 b H'):Back K H (boolQ Q) λx H1=>∃k,x=.bl k/\Q2 k H1:=λv H' d M' dv rm t q=>by
 unfold boolQ at q;split at q
 ·exact⟨_,dv,k _ _ _ rm t q⟩
 ·exact q.elim
theorem A3{op:CmpOp}{r:D->D->MH->VK3->Prop}(ho:VO X (compareOp op) r)(ha:PE X a (low X.K cls E2 ta))(hb:PE X b (low X.K cls E2 tb))(hm:behindInMarks op b=false) :
  PT X (.Compare a [op] [b] pos) (cB X.K cls E2 λσ M Q E=>ta σ M (λx M1=>tb σ M1 (λy M2=>r x y M2 (boolQ Q)) E) E):=
 (vg ho.op ha hb hm).imp λσ H Q2 hl_=>ex9 hl_ λσ3 M Q E3 rm ds lk h back=>mr rm ds lk h λv u H' x y M' dx dy rm' t q=>⟨x,y,M',_,dx,dy,rm',q,(fA back).mono t⟩
theorem CN(ha:PE X a (low X.K cls E2 ta))(he:∀whole,isTrue a X.env whole=(do let v<-whole;standAt a.pos;holding [v] (truthy v))):PT X a (cB X.K cls E2 λσ M Q E=>ta σ M (boolQ Q) E):=
 (zL ha he).imp λσ H Q2 hl_=>ex9 hl_ λσ3 M Q E3 rm ds lk h back=>aZ rm ds lk h λv H' x M' dx rm' t q=>fA back v H' x M' dx rm' t q
variable {tA tB:St3->MH->(Bool->MH->Prop)->XN->Prop}{ax:List Expr}
theorem iN{K:Iz}{σ:St}{H:Hp}{σ3:St3}{M:MH}{E3:XN}{R3:Bool->MH->Prop}{R2:Bool->Hp->Prop}(rm:RelM K M H)(ds:DenS K H σ3 σ)(lk:LkE K cls H E3 (E2 σ))(h:tA σ3 M R3 E3)(k:∀b H' M',RelM K M' H'->TM K H H'->R3 b M'->R2 b H') :
  cB K cls E2 tA σ H R2:=⟨σ3,M,R3,E3,rm,ds,lk,h,k⟩
theorem qi(ha:PT X a (cB X.K cls E2 tA)):PW X (.BoolOp .And [a] pos) (cB X.K cls E2 tA):=wl ha
theorem tX(ha:PT X a (cB X.K cls E2 tA)):PW X (.BoolOp .Or [a] pos) (cB X.K cls E2 tA):=yk ha
theorem pO(ha:PT X a (cB X.K cls E2 tA))(hb:PW X (.BoolOp .And (b::ax) pos) (cB X.K cls E2 tB)) :
  PW X (.BoolOp .And (a::b::ax) pos) (cB X.K cls E2 λσ M Q E=>tA σ M (λc M1=>if c=true then tB σ M1 Q E else Q false M1) E):=
 (At ha hb).imp λσ H Q2 hl_=>ex9 hl_ λσ3 M Q E3 rm ds lk h back=>iN rm ds lk h λc H' M' rm' t q=>by
  cases c with
  |true=>rw[Hg rfl]at q ⊢;exact iN rm' (ds.mono t) (lk.mono t) q λb H2 M2 r2 t2 q2=>back b H2 M2 r2 (t.trans t2) q2
  |false=>rw[Hc Hq]at q ⊢;exact back _ _ _ rm' t q
theorem we(ha:PT X a (cB X.K cls E2 tA))(hb:PW X (.BoolOp .Or (b::ax) pos) (cB X.K cls E2 tB)) :
  PW X (.BoolOp .Or (a::b::ax) pos) (cB X.K cls E2 λσ M Q E=>tA σ M (λc M1=>if c=true then Q true M1 else tB σ M1 Q E) E):=
 (Bd ha hb).imp λσ H Q2 hl_=>ex9 hl_ λσ3 M Q E3 rm ds lk h back=>iN rm ds lk h λc H' M' rm' t q=>by
  cases c with
  |true=>rw[Hg rfl]at q ⊢;exact back _ _ _ rm' t q
  |false=>rw[Hc Hq]at q ⊢;exact iN rm' (ds.mono t) (lk.mono t) q λb H2 M2 r2 t2 q2=>back b H2 M2 r2 (t.trans t2) q2
theorem BQ(ha:PT X a (cB X.K cls E2 tA)):PT X (.UnaryOp .Not a pos) (cB X.K cls E2 λσ M Q E=>tA σ M (λc M1=>Q (!c) M1) E):=
 (ym ha).imp λσ H Q2 hl_=>ex9 hl_ λσ3 M Q E3 rm ds lk h back=>iN rm ds lk h λc H' M' rm' t q=>back _ _ _ rm' t q
theorem xO(ha:PE X a (low X.K cls E2 ta))(hb:PE X (.BoolOp .And (b::ax) pos) (low X.K cls E2 tb)) :
  PE X (.BoolOp .And (a::b::ax) pos) (low X.K cls E2 λσ M Q E=>ta σ M (λx M1=>match x with|.bl c=>if c=true then tb σ M1 Q E else Q (.bl false) M1|_=>False) E):=
 (yr ha hb).imp λσ H Q2 hl_=>ex9 hl_ λσ3 M Q E3 rm ds lk h back=>aZ rm ds lk h λv H' x M' dx rm' t q=>by
  split at q
  ·rename_i c;cases (show v=.bl c from dx);refine⟨c,rfl,?_⟩;cases c with
   |true=>rw[Hg rfl]at q ⊢;exact aZ rm' (ds.mono t) (lk.mono t) q λv2 H2 x2 M2 d2 r2 t2 q2=>back v2 H2 x2 M2 d2 r2 (t.trans t2) q2
   |false=>rw[Hc Hq]at q ⊢;exact back _ _ _ _ bn rm' t q
  ·exact q.elim
theorem BR(ha:PE X a (low X.K cls E2 ta))(hb:PE X (.BoolOp .Or (b::ax) pos) (low X.K cls E2 tb)) :
  PE X (.BoolOp .Or (a::b::ax) pos) (low X.K cls E2 λσ M Q E=>ta σ M (λx M1=>match x with|.bl c=>if c=true then Q (.bl true) M1 else tb σ M1 Q E|_=>False) E):=
 (BS ha hb).imp λσ H Q2 hl_=>ex9 hl_ λσ3 M Q E3 rm ds lk h back=>aZ rm ds lk h λv H' x M' dx rm' t q=>by
  split at q
  ·rename_i c;cases (show v=.bl c from dx);refine⟨c,rfl,?_⟩;cases c with
   |true=>rw[Hg rfl]at q ⊢;exact back _ _ _ _ bn rm' t q
   |false=>rw[Hc Hq]at q ⊢;exact aZ rm' (ds.mono t) (lk.mono t) q λv2 H2 x2 M2 d2 r2 t2 q2=>back v2 H2 x2 M2 d2 r2 (t.trans t2) q2
  ·exact q.elim
theorem Cw(ha:PE X a (low X.K cls E2 ta)):PE X (.UnaryOp .Not a pos) (low X.K cls E2 λσ M Q E=>ta σ M (λx M1=>match x with|.bl c=>Q (.bl (!c)) M1|_=>False) E):=
 (Ak ha).imp λσ H Q2 hl_=>ex9 hl_ λσ3 M Q E3 rm ds lk h back=>aZ rm ds lk h λv H' x M' dx rm' t q=>by
  split at q
  ·rename_i c;cases (show v=.bl c from dx);exact⟨c,rfl,back _ _ _ _ bn rm' t q⟩
  ·exact q.elim
theorem FA(hc:PT X c (cB X.K cls E2 tA))(ha:PE X a (low X.K cls E2 ta))(hb:PE X b (low X.K cls E2 tb)) :
  PE X (.IfExp c a b pos) (low X.K cls E2 λσ M Q E=>tA σ M (λk M1=>if k=true then ta σ M1 Q E else tb σ M1 Q E) E):=
 (t8 hc ha hb).imp λσ H Q2 hl_=>ex9 hl_ λσ3 M Q E3 rm ds lk h back=>iN rm ds lk h λk H' M' rm' t q=>by
  cases k with
  |true=>rw[Hg rfl]at q ⊢;exact aZ rm' (ds.mono t) (lk.mono t) q λv2 H2 x2 M2 d2 r2 t2 q2=>back v2 H2 x2 M2 d2 r2 (t.trans t2) q2
  |false=>rw[Hc Hq]at q ⊢;exact aZ rm' (ds.mono t) (lk.mono t) q λv2 H2 x2 M2 d2 r2 t2 q2=>back v2 H2 x2 M2 d2 r2 (t.trans t2) q2
theorem v9{op op':CmpOp}{r r':D->D->MH->VK3->Prop}(ho:VO X (compareOp op) r)(ho':VO X (compareOp op') r')(ha:PE X a (low X.K cls E2 ta))(hb:PE X b (low X.K cls E2 tb))(hc:PE X c (low X.K cls E2 tc))(hm:lastMarks [op,op'] [b,c]=false) :
  PE X (.Compare a [op,op'] [b,c] pos) (low X.K cls E2 λσ M Q E=>ta σ M (λx M1=>tb σ M1 (λy M2=>r x y M2 λz M3=>match z with
   |.bl k=>if k=true then tc σ M3 (λz M4=>r' y z M4 Q) E else Q (.bl false) M3
   |_=>False) E) E):=
 (uI ho.op ho'.op ha hb hc hm).imp λσ H Q2 hl_=>ex9 hl_ λσ3 M Q E3 rm ds lk h back=>mr rm ds lk h λv u H' x y M' dx dy rm' t q=>⟨x,y,M',_,dx,dy,rm',q,λw H1 z M1 dz rm1 t1 q1=>by
  split at q1
  ·rename_i k;refine⟨k,dz,?_⟩;cases k with
   |true=>rw[Hg rfl]at q1 ⊢;exact aZ rm1 ((ds.mono t).mono t1) ((lk.mono t).mono t1) q1 λv2 H2 x2 M2 d2 r2 t2 q2=>⟨y,x2,M2,Q,(dy.mono t1).mono t2,d2,r2,q2,(back.mono t).mono (t1.trans t2)⟩
   |false=>rw[Hc Hq]at q1 ⊢;exact back _ _ _ _ bn rm1 (t.trans t1) q1
  ·exact q1.elim⟩
theorem vT{op op':CmpOp}{r r':D->D->MH->VK3->Prop}(ho:VO X (compareOp op) r)(ho':VO X (compareOp op') r')(ha:PE X a (low X.K cls E2 ta))(hb:PE X b (low X.K cls E2 tb))(hc:PE X c (low X.K cls E2 tc))(hm:lastMarks [op,op'] [b,c]=false) :
  PT X (.Compare a [op,op'] [b,c] pos) (cB X.K cls E2 λσ M Q E=>ta σ M (λx M1=>tb σ M1 (λy M2=>r x y M2 λz M3=>match z with
   |.bl k=>if k=true then tc σ M3 (λz M4=>r' y z M4 (boolQ Q)) E else Q false M3
   |_=>False) E) E):=
 (sC ho.op ho'.op ha hb hc hm).imp λσ H Q2 hl_=>ex9 hl_ λσ3 M Q E3 rm ds lk h back=>mr rm ds lk h λv u H' x y M' dx dy rm' t q=>⟨x,y,M',_,dx,dy,rm',q,λw H1 z M1 dz rm1 t1 q1=>by
  split at q1
  ·rename_i k;refine⟨k,dz,?_⟩;cases k with
   |true=>rw[Hg rfl]at q1 ⊢;exact aZ rm1 ((ds.mono t).mono t1) ((lk.mono t).mono t1) q1 λv2 H2 x2 M2 d2 r2 t2 q2=>⟨y,x2,M2,_,(dy.mono t1).mono t2,d2,r2,q2,((fA back).mono t).mono (t1.trans t2)⟩
   |false=>rw[Hc Hq]at q1 ⊢;exact⟨false,rfl,back _ _ _ rm1 (t.trans t1) q1⟩
  ·exact q1.elim⟩
noncomputable def xq(r r' r'':R2)(ta tb tc td:TE):TE:=λσ H Q=>ta σ H λx H1=>tb σ H1 λy H2=>r x y H2 λz H3=>∃k,z=.bl k/\
 (if k=true then tc σ H3 (λw H4=>r' y w H4 λz2 H5=>∃k2,z2=.bl k2/\(if k2=true then td σ H5 λu H6=>r'' w u H6 Q else Q (.bl false) H5)) else Q (.bl false) H3)
theorem rS{a b c d:Expr}{ta tb tc td:TE}{op op' op'':CmpOp}{r r' r'':R2}(ho:OpR X (compareOp op) r)(ho':OpR X (compareOp op') r')(ho'':OpR X (compareOp op'') r'')(ha:PE X a ta)(hb:PE X b tb)(hc:PE X c tc)(hd:PE X d td)
  (hm:lastMarks [op,op',op''] [b,c,d]=false):PT X (.Compare a [op,op',op''] [b,c,d] pos) (tN (xq r r' r'' ta tb tc td)):=by
 intro pins s σ H Q I h;refine isTrue_chain (thn (ha pins s σ H _ I h) λv s1 ⟨x,H1,I1,r1,q1⟩=>test_link (thn (hb pins s1 σ H1 _ I1 q1) λu s2 ⟨y,H2,I2,r2,q2⟩=>
  thn (ho pins s2 σ H2 x y v u _ I2 r1 r2 q2) λd s3 ⟨z,H3,I3,r3,k,e,q3⟩=>?_)) hm
 subst e;cases r3;refine HW ?_;cases k with
 |false=>
  obtain⟨k',e',q'⟩:=q3;cases e';exact ite_ff ⟨H3,I3,q'⟩
 |true=>
  refine ite_tt (test_link (thn (hc pins s3 σ H3 _ I3 q3) λw' s4 ⟨z',H4,I4,r4,q4⟩=>thn (ho' pins s4 σ H4 y z' u w' _ I4 r2 r4 q4) λd' s5 ⟨z2,H5,I5,r5,k2,e2,q5⟩=>?_))
  subst e2;cases r5;refine HW ?_;cases k2 with
  |false=>
   obtain⟨k',e',q'⟩:=q5;cases e';exact ite_ff ⟨H5,I5,q'⟩
  |true=>
   refine ite_tt (test_last (thn (hd pins s5 σ H5 _ I5 q5) λw2 s6 ⟨z3,H6,I6,r6,q6⟩=>thn (ho'' pins s6 σ H6 z' z3 w' w2 _ I6 r4 r6 q6) λd2 s7 ⟨z4,H7,I7,r7,k3,e3,q7⟩=>?_))
   subst e3;cases r7;exact HW ⟨H7,I7,q7⟩
theorem ur{d:Expr}{td:St3->MH->VK3->XN->Prop}{op op' op'':CmpOp}{r r' r'':D->D->MH->VK3->Prop}(ho:VO X (compareOp op) r)(ho':VO X (compareOp op') r')(ho'':VO X (compareOp op'') r'')(ha:PE X a (low X.K cls E2 ta))(hb:PE X b (low X.K cls E2 tb))(hc:PE X c (low X.K cls E2 tc))(hd:PE X d (low X.K cls E2 td))(hm:lastMarks [op,op',op''] [b,c,d]=false) :
  PT X (.Compare a [op,op',op''] [b,c,d] pos) (cB X.K cls E2 λσ M Q E=>ta σ M (λx M1=>tb σ M1 (λy M2=>r x y M2 λz M3=>match z with
   |.bl k=>if k=true then tc σ M3 (λz M4=>r' y z M4 λo M5=>match o with
    |.bl k=>if k=true then td σ M5 (λu M6=>r'' z u M6 (boolQ Q)) E else Q false M5
    |_=>False) E else Q false M3
   |_=>False) E) E):=
 (rS ho.op ho'.op ho''.op ha hb hc hd hm).imp λσ H Q2 hl_=>ex9 hl_ λσ3 M Q E3 rm ds lk h back=>mr rm ds lk h λv u H' x y M' dx dy rm' t q=>⟨x,y,M',_,dx,dy,rm',q,λw H1 z M1 dz rm1 t1 q1=>by
  split at q1
  ·rename_i k;refine⟨k,dz,?_⟩;cases k with
   |true=>
    rw[Hg rfl]at q1 ⊢;refine aZ rm1 ((ds.mono t).mono t1) ((lk.mono t).mono t1) q1 λv2 H2 x2 M2 d2 r2 t2 q2=>⟨y,x2,M2,_,(dy.mono t1).mono t2,d2,r2,q2,λw3 H3 z3 M3 dz3 rm3 t3 q3=>?_⟩
    split at q3
    ·rename_i k;refine⟨k,dz3,?_⟩;cases k with
     |true=>
      rw[Hg rfl]at q3 ⊢;exact aZ rm3 ((((ds.mono t).mono t1).mono t2).mono t3) ((((lk.mono t).mono t1).mono t2).mono t3) q3 λv4 H4 x4 M4 d4 r4 t4 q4=>⟨x2,x4,M4,_,(d2.mono t3).mono t4,d4,r4,q4,(((fA back).mono t).mono (t1.trans t2)).mono (t3.trans t4)⟩
     |false=>rw[Hc Hq]at q3 ⊢;exact⟨false,rfl,back _ _ _ rm3 (((t.trans t1).trans t2).trans t3) q3⟩
    ·exact q3.elim
   |false=>rw[Hc Hq]at q1 ⊢;exact⟨false,rfl,back _ _ _ rm1 (t.trans t1) q1⟩
  ·exact q1.elim⟩
variable {es:List Expr}{tr:St3->MH->(List D->MH->Prop)->XN->Prop}
theorem eu{K:Iz}{σ:St}{H:Hp}{σ3:St3}{M:MH}{E3:XN}{R3:List D->MH->Prop}{R2:List V->Hp->Prop}(rm:RelM K M H)(ds:DenS K H σ3 σ)(lk:LkE K cls H E3 (E2 σ))(h:tr σ3 M R3 E3)(k:∀vs H' xs M',DenL K H' xs vs->RelM K M' H'->TM K H H'->R3 xs M'->R2 vs H') :
  dI K cls E2 tr σ H R2:=⟨σ3,M,R3,E3,rm,ds,lk,h,k⟩
theorem BC:PA X [] (dI X.K cls E2 λ_ M Q _=>Q [] M):=pa_nil.imp λσ H Q2 hl_=>ex9 hl_ λσ3 M Q E3 rm ds lk h back=>back _ _ _ _ .nil rm (.refl _) h
theorem Av(ha:PE X e (low X.K cls E2 te))(hr:PA X es (dI X.K cls E2 tr))(hs:starEach (e::es) X.env=(false,eval e X.env)::starEach es X.env) :
  PA X (e::es) (dI X.K cls E2 λσ M Q E=>te σ M (λx M1=>tr σ M1 (λxs M2=>Q (x::xs) M2) E) E):=
 (aI ha hr hs).imp λσ H Q2 hl_=>ex9 hl_ λσ3 M Q E3 rm ds lk h back=>aZ rm ds lk h λv H1 x M1 dx rm1 t1 q1=>eu rm1 (ds.mono t1) (lk.mono t1) q1 λvs H2 xs M2 dl rm2 t2 q2=>back _ _ _ _ (.cons (dx.mono t2) dl) rm2 (t1.trans t2) q2
theorem CQ{x1}(h:PA X es (dI X.K cls E2 tr)):PE X (.Tuple es x1 pos) (low X.K cls E2 λσ M Q E=>tr σ M (λxs M1=>xs.length<=sizeLine/\Q (.tup xs) M1) E):=
 (zx h).imp λσ H Q2 hl_=>ex9 hl_ λσ3 M Q E3 rm ds lk h back=>eu rm ds lk h λvs H' xs M' dl rm' t ⟨z,q⟩=>⟨by rw[<-dl.length];exact z,λp hp=>
  back _ _ _ _ (qe (.of ag) (dl.mono (.new hp))) (rm'.grow hp) (t.trans (.new hp)) q⟩
theorem CO{t2:TE}(h:PE X e t2){t:St3->MH->VK3->XN->Prop}{fz:Bool}
  (f:∀σ H σ3 M Q E3 (R2:VK),RelM X.K M H->DenS X.K H σ3 σ->LkE X.K cls H E3 (E2 σ)->t σ3 M Q E3->(∀H' vs ds M' p,H' p=none->DenL X.K H' ds vs->RelM X.K M' H'->TM X.K H H'->cA fz ds M' Q->R2 (.ref p) (upd H' p (.lst vs)))->t2 σ H R2):PE X e (low X.K cls E2 t):=by
 refine λpins s σ H Q2 I hl_=>ex9 hl_ λσ3 M Q E3 rm ds lk q back=>?_
 refine thn (h pins s σ H (λv H1=>∃p H' vs ds M',v=.ref p/\H1=upd H' p (.lst vs)/\H' p=none/\DenL X.K H' ds vs/\RelM X.K M' H'/\TM X.K H H'/\cA fz ds M' Q) I
  (f σ H σ3 M Q E3 _ rm ds lk q λH' vs ds M' p hp dl rm' t' n=>⟨p,H',vs,ds,M',rfl,rfl,hp,dl,rm',t',n⟩)) λu s1 ⟨v,H1,I1,r1,p,H',vs,ds',M',e1,e2,hp,dl,rm',t',n⟩=>?_
 subst e1;subst e2;cases r1;exact bZ I1 hp dl rm' t' n back
theorem Cn(h:PA X es (dI X.K cls E2 tr)):PE X (.List es pos) (low X.K cls E2 λσ M Q E=>tr σ M (λxs M1=>cA fz xs M1 Q) E):=
 CO (fz:=fz) (yl h) λσ H σ3 M Q E3 R2 rm ds lk q k=>eu rm ds lk q λvs H' xs M' dl rm' t n=>⟨by rw[<-dl.length];exact n.1,λp hp=>k H' vs xs M' p hp dl rm' t n⟩
theorem xZ(hu:X.A.units+64<cLine):IxR X (λv u H Q2=>∃x y M Q,Den X.K H x v/\Den X.K H y u/\RelM X.K M H/\au x y M Q/\Back X.K H Q Q2):=by
 intro value slice pins s σ H v u v2 u2 Q2 I rv ru ⟨x,y,M,Q,dx,dy,rm,q,back⟩ hs;unfold au at q;split at q
 ·rename_i es e;split at q
  ·rename_i i;cases (show u=.int i from dy);split at q
   ·rename_i d e2;obtain⟨p,vs,rfl,hq,dl⟩:=hJ rm e dx;obtain⟨w,e4,e5⟩:=vP dl e2;refine ye value slice pins s σ H _ _ v2 u2 Q2 I rv ru ?_ hs;rcases hq with hq|hq
    ·exact .inl ⟨p,vs,i,w,rfl,rfl,hq,e4,back _ _ _ _ e5 rm (.refl _) q⟩
    ·exact .inr (.inl ⟨p,vs,i,w,rfl,rfl,hq,e4,back _ _ _ _ e5 rm (.refl _) q⟩)
   ·exact q.elim
  ·exact q.elim
 ·split at q
  ·rename_i d e;obtain⟨a,ov,rfl,g,od⟩:=g4 (X:=X) e rm dx dy;cases rv;cases ov with
   |none=>exact od.elim
   |some w=>exact tail_any (g.isDict I) PySem.F.slot_dict_getitem.lookup (rB (by omega) I g rfl ru λw' s' I' rw'=>⟨w,H,I',rw',back _ _ _ _ od rm (.refl _) q⟩) hs
  ·exact q.elim
  ·split at q
   ·rename_i z i _ _;cases (show v=.str z from dx);cases (show u=.int i from dy);obtain⟨t,rfl⟩:=rv;obtain⟨t',rfl⟩:=ru;obtain⟨⟨h0,h1,h63⟩,q⟩:=q;have e:seqIndex? i z.length=some i.toNat:=PySem.StrLaws.seqIndex_nonneg h0 h1;have hz:i.toNat<z.cps.size:=by
     have:(i:Int)<(z.cps.size:Int):=h1;omega
    have hc:z.cps[i.toNat]?=some (z.cps.getD i.toNat 0):=by simp[hz]
    exact tail_any (typeIs_str s z t) slot_str_getitem.lookup (getItem_str (c:=z.cps.getD i.toNat 0) (by
     rw[HN (by omega:¬ i < -(2 ^ 63:Int)),HN (by omega:¬ i>=2 ^ 63)];rfl) (by rw[e];exact hc) ⟨.str (xu z i.toNat),H,I.tok _,⟨_,rfl⟩,back _ _ _ _ jl rm (.refl _) q⟩) hs
   ·exact q.elim
theorem Ez(hu:X.A.units+64<cLine)(ha:PE X a (low X.K cls E2 ta))(hb:PE X b (low X.K cls E2 tb))(hs:md b):PE X (.Subscript a b pos) (low X.K cls E2 λσ M Q E=>ta σ M (λx M1=>tb σ M1 (λy M2=>au x y M2 Q) E) E):=
 (Dc (xZ hu) ha hb hs).imp λσ H Q2 hl_=>ex9 hl_ λσ3 M Q E3 rm ds lk h back=>mr rm ds lk h λv u H' x y M' dx dy rm' t q=>⟨x,y,M',Q,dx,dy,rm',q,back.mono t⟩
variable {lo hi:Option Expr}{tl th:St3->MH->(Option Int->MH->Prop)->XN->Prop}{p2:Pos}
theorem Ej:PO X none (r0 X.K cls E2 λ_ M Q _=>Q none M):=po_none.imp λσ H Q2 hl_=>ex9 hl_ λσ3 M Q E3 rm ds lk h back=>back _ _ _ rm (.refl _) h
theorem BD(h:PE X e (low X.K cls E2 te)):PO X (some e) (r0 X.K cls E2 λσ M Q E=>te σ M (λx M1=>match x with|.int i=>Q (some i) M1|_=>False) E):=
 (wB h).imp λσ H Q2 hl_=>ex9 hl_ λσ3 M Q E3 rm ds lk h back=>aZ rm ds lk h λv H1 x M1 dx rm1 t1 q1=>by
  split at q1
  ·exact⟨_,dx,back _ _ _ rm1 t1 q1⟩
  ·exact q1.elim
theorem xR{t:St3->MH->(Option Int->MH->Prop)->XN->Prop}{K:Iz}{σ:St}{H:Hp}{σ3:St3}{M:MH}{E3:XN}{R3:Option Int->MH->Prop}{R2:Option Int->Hp->Prop}(rm:RelM K M H)(ds:DenS K H σ3 σ)(lk:LkE K cls H E3 (E2 σ))(h:t σ3 M R3 E3)(k:∀o H' M',RelM K M' H'->TM K H H'->R3 o M'->R2 o H') :
  r0 K cls E2 t σ H R2:=⟨σ3,M,R3,E3,rm,ds,lk,h,k⟩
theorem BL(ha:PE X a (low X.K cls E2 ta))(hb:PE X b (low X.K cls E2 tb)) :
  PE X (.BinOp a .Add b pos) (low X.K cls E2 λσ M Q E=>ta σ M (λx M1=>tb σ M1 (λy M2=>dM fz x y M2 Q) E) E):=Al (xW fz) ha hb
theorem A2(h:PE X e (low X.K cls E2 te)):PE X e (low X.K cls E2 λσ M Q E=>te σ M (aU Q) E):=by
 refine λpins s σ H Q2 I hl_=>ex9 hl_ λσ3 M Q E3 rm ds lk q back=>?_
 refine thn (h pins s σ H (λv H1=>∃d M1,Den X.K H1 d v/\RelM X.K M1 H1/\TM X.K H H1/\aU Q d M1) I ⟨σ3,M,_,E3,rm,ds,lk,q,λv H' d M' a b c e=>⟨d,M',a,b,c,e⟩⟩) λu s1 ⟨v,H1,I1,r1,d,M1,dv,rm1,t1,q1⟩=>?_
 obtain⟨H2,M2,d2,I2,t2,rm2,dv2,q2⟩:=jf I1 rm1 dv q1;exact⟨v,H2,I2,r1,back _ _ _ _ dv2 rm2 (t1.trans t2) q2⟩
theorem zS(h:PE X e (low X.K cls E2 te)):PE X e (low X.K cls E2 λσ M Q E=>te σ M (gA Q) E):=by
 refine λpins s σ H Q2 I hl_=>ex9 hl_ λσ3 M Q E3 rm ds lk q back=>?_
 refine thn (h pins s σ H (λv H1=>∃d M1,Den X.K H1 d v/\RelM X.K M1 H1/\TM X.K H H1/\gA Q d M1) I ⟨σ3,M,_,E3,rm,ds,lk,q,λv H' d M' a b c e=>⟨d,M',a,b,c,e⟩⟩) λu s1 ⟨v,H1,I1,r1,d,M1,dv,rm1,t1,q1⟩=>?_
 have q1:aU Q d M1:=by
  unfold gA at q1;split at q1
  ·split at q1
   ·rename_i a ds' e;simp only[aU,e];exact q1
   ·exact q1.elim
  ·exact q1.elim
 obtain⟨H2,M2,d2,I2,t2,rm2,dv2,q2⟩:=jf I1 rm1 dv q1;exact⟨v,H2,I2,r1,back _ _ _ _ dv2 rm2 (t1.trans t2) q2⟩
end
theorem um{K:Iz}(h:CX1 P w outer H s (λc d H'=>TM K H H'->E c d H') e s'):CX1 P w outer H s E e s':=by
 obtain⟨a,cls,B,H',dx,h1,h2,h3,un,hok,fl,ha,inc,he⟩:=h;exact⟨a,cls,B,H',dx,h1,h2,h3,un,hok,fl,ha,inc,he (.un un.tups un.frzs)⟩
section
variable {X:Cx}{cls:Nat->Addr}{E2:St->XK}{k:Nat}{f:Addr}{fd:FuncData}{ps:List Str}{x:Str}{p pos:Pos}{e:Expr}{es:List Expr}{tr:St3->MH->(List D->MH->Prop)->XN->Prop}{t3:List D->MH->VK3->XN->Prop}
noncomputable def spX(K:Iz)(cls:Nat->Addr)(t3:List D->MH->VK3->XN->Prop):Sp:=λvs H Q E=>∃ds M Q3 E3,DenL K H ds vs/\RelM K M H/\t3 ds M Q3 E3/\Back K H Q3 Q/\LkE K cls H E3 E
def BdT(K:Iz)(cls:Nat->Addr)(fd:FuncData)(ps:List Str)(t3:List D->MH->VK3->XN->Prop)(sp:Sp):Prop:=∀vs H Q E,spX K cls t3 vs H Q E->∃dvs ds,Vals dvs ds/\Binds K fd ps ds/\sp (vs++dvs) H Q E
theorem gP(F:FnOk X.prog X.w X.K X.mg X.base (CX1 X.prog X.w) k f fd ps sp)(hr:Room k X.A)(hb:BdT X.K cls fd ps t3 sp)(hx:aR (CX1 X.prog X.w) X E2)
  (I:Inv X pins σ H s)(r:Vals vs us) (h:spX X.K cls t3 vs H Q (λc d H'=>TM X.K H H'->E2 σ c d H')):wpAny (model X.prog X.w) X.A (call (.ref f) us) (EP X pins σ Q) X.xe s:=by
 obtain⟨dvs,dsv,hv,bd,h'⟩:=hb _ _ _ _ h;have r2:Vals (vs++dvs) (us++dsv):=r.append hv;have hl:(us++dsv).length=ps.length:=by rw[<-r2.length];exact F.len _ _ _ _ h'
 refine wpAny_call (codeAny_mono (F.run X.A X.stack s H ⟨us,[]⟩ (us++dsv) (vs++dvs) Q _ hr I.env0 (bd s us I.kIn hl) r2 h') λz s' hq=>?_)
 match z,hq with
 |.error e,hq=>exact hx pins σ H s e s' I (um hq)
 |.ok (.ret u),hq=>exact I.after hq
 |.ok .next,hq=>exact hq.elim
 |.ok .brk,hq=>exact hq.elim
 |.ok .cont,hq=>exact hq.elim
theorem jr{σ:St}{H:Hp}{xs:List D}{vs:List V}{M:MH}{Q:VK3}{Q2:VK}{E3:XN}(dl:DenL X.K H xs vs)(rm:RelM X.K M H)(lk:LkE X.K cls H E3 (E2 σ))(q:t3 xs M Q E3)(back:Back X.K H Q Q2) :
  spX X.K cls t3 vs H Q2 (λc d H'=>TM X.K H H'->E2 σ c d H'):=
 ⟨xs,M,Q,E3,dl,rm,q,back,λi M' H' t rm' q dx xd _=>lk i M' H' t rm' q dx xd⟩
theorem Ao(F:FnOk X.prog X.w X.K X.mg X.base (CX1 X.prog X.w) k f fd ps sp)(hr:Room k X.A)(hg:Gl X x)(hm:X.mg x=some (.ref f))(hk:PySem.W.keepIn X.K (.ref f)=true)(hb:BdT X.K cls fd ps t3 sp)(hx:aR (CX1 X.prog X.w) X E2)
  (ha:PA X (e::es) (dI X.K cls E2 tr)) (hdb:(x == ("__debug__" : Str))=false) (he:starEach (e::es) X.env=(false,eval e X.env)::starEach es X.env) (hpl:(backTo pos (starEach es X.env)).any (·.1)=false) :
  PE X (.Call (.Name x p) (e::es) [] pos) (low X.K cls E2 λσ M Q E=>tr σ M (λxs M1=>t3 xs M1 Q E) E):=λpins s σ H Q2 I hl_=>ex9 hl_ λσ3 M Q E3 rm ds lk h back=>
 wpAny_Call_Name_kw (bC I hg hm (PySem.W.callWith_K (h₀:=X.base) I.ok.mod.kin hk (thn (ha pos pins s σ H _ I (eu (R2:=λvs H1=>spX X.K cls t3 vs H1 Q2 (λc d H'=>TM X.K H1 H'->E2 σ c d H')) rm ds lk h
  λvs H1 xs M1 dl rm1 t1 q1=>jr dl rm1 (lk.mono t1) q1 (back.mono t1))) λus s1 ⟨vs,H1,I1,r,q⟩=>⟨I1.kIn,gP F hr hb hx I1 r q⟩) he hpl) hdb)
theorem xh(F:FnOk X.prog X.w X.K X.mg X.base (CX1 X.prog X.w) k f fd ps sp)(hr:Room k X.A)(hg:Gl X x)(hm:X.mg x=some (.ref f))(hk:PySem.W.keepIn X.K (.ref f)=true)(hb:BdT X.K cls fd ps t3 sp)(hx:aR (CX1 X.prog X.w) X E2)(hdb:(x == ("__debug__" : Str))=false) :
  PE X (.Call (.Name x p) [] [] pos) (low X.K cls E2 λσ M Q E=>t3 [] M Q E):=λpins s σ H Q2 I hl_=>ex9 hl_ λσ3 M Q E3 rm ds lk h back=>
 wpAny_Call_Name_kw (bC I hg hm (PySem.W.callWith_K0 I.kIn hk (gP (us:=[]) F hr hb hx I .nil (jr (xs:=[]) .nil rm lk h back))) hdb)
theorem jc{id:String}(hc:VC X (.builtin id) r)(hg:Gl X x)(hm:X.mg x=none)(hv:bootBuiltins x=some (.builtin id))(ha:PA X (e::es) (dI X.K cls E2 tr))(hn:x≠"__name__")(hdb:(x == ("__debug__" : Str))=false)
  (he:starEach (e::es) X.env=(false,eval e X.env)::starEach es X.env) (hpl:(backTo pos (starEach es X.env)).any (·.1)=false):PE X (.Call (.Name x p) (e::es) [] pos) (low X.K cls E2 λσ M Q E=>tr σ M (λxs M1=>r xs M1 Q) E):=
 (gL hc.op hg hm hv ha hn hdb he hpl).imp λσ H Q2 hl_=>ex9 hl_ λσ3 M Q E3 rm ds lk h back=>eu rm ds lk h λvs H1 xs M1 dl rm1 t1 q1=>⟨xs,M1,Q,dl,rm1,q1,back.mono t1⟩
theorem wA(hc:VC X (.type T) r)(hg:Gl X x)(hm:X.mg x=none)(hv:bootBuiltins x=some (.type T))(ha:PA X (e::es) (dI X.K cls E2 tr))(hn:x≠"__name__")(hdb:(x == ("__debug__" : Str))=false)
  (he:starEach (e::es) X.env=(false,eval e X.env)::starEach es X.env) (hpl:(backTo pos (starEach es X.env)).any (·.1)=false):PE X (.Call (.Name x p) (e::es) [] pos) (low X.K cls E2 λσ M Q E=>tr σ M (λxs M1=>r xs M1 Q) E):=
 (rE hc.op hg hm hv ha hn hdb he hpl).imp λσ H Q2 hl_=>ex9 hl_ λσ3 M Q E3 rm ds lk h back=>eu rm ds lk h λvs H1 xs M1 dl rm1 t1 q1=>⟨xs,M1,Q,dl,rm1,q1,back.mono t1⟩
noncomputable def cF:BT->String
 |.int=>"int"|.bool=>"bool"|.str=>"str"|.tuple=>"tuple"|.list=>"list"|.dict=>"dict"
theorem zF{pins:List (Addr×Obj)}{σ:St}{H:Hp}{s:Shared}{A:Around}{Ex:Value->Shared->Prop}{t:BT}{x:D}{v:V}{v2:Value}{M:MH}{Q:VK3}{Q2:VK}(I:Inv X pins σ H s)(rv:RelV v v2)(dx:Den X.K H x v)(rm:RelM X.K M H)(q:i3 t x M Q)(back:Back X.K H Q Q2) :
  wpAny (model X.prog X.w) A (call (.builtin "isinstance") [v2,.type (cF t)]) (EP X pins σ Q2) Ex s:=by
 have fin:∀b,Q (.bl b) M->∀tk,EP X pins σ Q2 (.bool b) {s with toks:=tk}:=λb q tk=>⟨.bl b,H,I.tok _,rfl,back _ _ _ _ bn rm (.refl _) q⟩
 cases x with
 |non=>cases (show v=.non from dx);cases rv;cases t<;>exact PySem.W.kia_one PySem.W.kitx_none I.kIn True.intro rfl (λz=>nomatch z) (fin _ q)
 |bl b=>cases (show v=.bl b from dx);cases rv;cases t<;>exact PySem.W.kia_one PySem.W.kitx_bool I.kIn True.intro rfl (λz=>nomatch z) (fin _ q)
 |int i=>cases (show v=.int i from dx);obtain⟨tk,rfl⟩:=rv;cases t<;>exact PySem.W.kia_one PySem.W.kitx_int I.kIn True.intro rfl (λz=>nomatch z) (fin _ q)
 |str i=>cases (show v=.str i from dx);obtain⟨tk,rfl⟩:=rv;cases t<;>exact PySem.W.kia_one PySem.W.kitx_str I.kIn True.intro rfl (λz=>nomatch z) (fin _ q)
 |tup ds=>
  obtain⟨a,vs,rfl,sq,_⟩:=dx;cases rv;obtain⟨its,_,tt,_⟩:=I.tuple sq;obtain⟨o,h1,h2,_⟩:=(show s.heap.IsTuple a its.toArray from tt);cases t<;>exact PySem.W.kia_one PySem.W.kitx_tuple I.kIn ⟨o,h1,h2⟩ rfl (λz=>nomatch z) (fin _ q)
 |rol ds=>
  obtain⟨a,vs,rfl,sq,_⟩:=dx;cases rv;obtain⟨_,its,n,_,_,h1⟩:=I.rdL sq.rd;cases t<;>exact PySem.W.kia_one PySem.W.kitx_list I.kIn ⟨_,h1,rfl⟩ rfl (λz=>nomatch z) (fin _ q)
 |ref a=>
  cases (show v=.ref a from dx);cases rv;simp only[i3]at q;split at q
  ·rename_i ds e;obtain⟨vs,e1,_⟩:=rm a _ e;obtain⟨_,its,n,_,_,h1⟩:=I.rdL (.inl (.inl e1));cases t<;>exact PySem.W.kia_one PySem.W.kitx_list I.kIn ⟨_,h1,rfl⟩ rfl (λz=>nomatch z) (fin _ q)
  ·rename_i ks ds e;obtain⟨vs,e1,_,_⟩:=rm a _ e;obtain⟨_,_,_,_,o,_,_,h1,h2,_⟩:=I.hok a _ e1;cases t<;>exact PySem.W.kia_one PySem.W.kitx_dict I.kIn ⟨o,h1,h2.1⟩ rfl (λz=>nomatch z) (fin _ q)
  ·rename_i ks ds e;obtain⟨vs,xs,e1,_⟩:=rm a _ e;obtain⟨⟨o,es,ep,h1,h2,_⟩,_⟩:=(show ObjOk X.prog X.w H s.heap a (.ext (c6 a xs)) from I.hok a _ e1);cases t<;>exact PySem.W.kia_one PySem.W.kitx_dict I.kIn ⟨o,h1,h2.1⟩ rfl (λz=>nomatch z) (fin _ q)
  ·exact q.elim
 |dik ks ds=>
  obtain⟨a,vs,ob,rfl,e1,_⟩:=dx;cases rv;obtain⟨_,_,_,ws,_,p⟩:=(show ObjOk X.prog X.w H s.heap a (.frz ob (.dK (ks.zip vs))) from I.hok a _ e1);obtain⟨o,es,ep,h1,h2,_⟩:=p;cases t<;>exact PySem.W.kia_one PySem.W.kitx_dict I.kIn ⟨o,h1,h2.1⟩ rfl (λz=>nomatch z) (fin _ q)
 |dit ks ds=>
  obtain⟨a,vs,ob,xs,rfl,e1,_⟩:=dx;cases rv;obtain⟨_,⟨o,es,ep,h1,h2,_⟩,_⟩:=(show ObjOk X.prog X.w H s.heap a (.frz ob (.ext (c6 a xs))) from I.hok a _ e1);cases t<;>exact PySem.W.kia_one PySem.W.kitx_dict I.kIn ⟨o,h1,h2.1⟩ rfl (λz=>nomatch z) (fin _ q)
 |obj i C ns ds=>exact (show False from q).elim
theorem Ce(ha:PE X e (low X.K cls E2 te))(hg:Gl X "isinstance")(hm:X.mg "isinstance"=none)(hg2:Gl X (cF t))(hm2:X.mg (cF t)=none)(hs:starEach (e::[.Name (cF t) p2]) X.env=(false,eval e X.env)::starEach [.Name (cF t) p2] X.env) :
  PE X (.Call (.Name "isinstance" p) [e,.Name (cF t) p2] [] pos) (low X.K cls E2 λσ M Q E=>te σ M (λx M1=>i3 t x M1 Q) E):=by
 have hT:PE X (.Name (cF t) p2) (tC (.ty (cF t))):=by
  cases t<;>exact vW hg2 hm2 (by decide +kernel) rfl
 have hc:CallR X (.builtin "isinstance") (λvs H Q2=>∃x v M Q,vs=[v,.ty (cF t)]/\Den X.K H x v/\RelM X.K M H/\i3 t x M Q/\Back X.K H Q Q2):=by
  refine λpins s σ H vs us Q2 I r hl_=>ex9 hl_ λx v M Q e dx rm q back=>?_
  subst e;obtain⟨u,w,rfl,ru,rw⟩:=Vals.two r;cases (show w=Value.type (cF t) from rw);exact zF I ru dx rm q back
 refine (gL hc hg hm (by decide +kernel) (aI ha (aI hT pa_nil (by rfl)) hs) (by decide +kernel) (by decide +kernel) hs (by rfl)).imp λσ H Q2 hl_=>ex9 hl_ λσ3 M Q E3 rm ds lk h back=>?_
 exact aZ rm ds lk h λv H1 x M1 dx rm1 t1 q1=>⟨x,v,M1,Q,rfl,dx,rm1,q1,back.mono t1⟩
end
section
variable {X:Cx}
theorem zb{K:Iz}(sq:SqT K H0 p vs)(dl:DenL K H0 ds vs):ItOk K H0 (Itt K p) ds (λ_=>True):=by
 refine⟨λi H M t rm s hi=>?_,λi H M x H' t rm s hi y=>?_,λH M t rm s=>?_⟩
 ·have hi':i<vs.length:=by rw[<-dl.length];exact hi
  exact⟨vs,vs[i],t.t _ _ sq,by simp[hi']⟩
 ·obtain⟨e,y⟩:=y;subst e;obtain⟨d,e1,e2⟩:=(dl.mono t).get' (y vs (t.t _ _ sq));exact⟨.refl _,rm,d,e1,e2⟩
 ·exact⟨vs,t.t _ _ sq,by rw[dl.length];exact Hh _⟩
theorem yI{K:Iz}(sq:SqF K H0 p vs)(dl:DenL K H0 ds vs):ItOk K H0 (Itl K p) ds (λ_=>True):=by
 refine⟨λi H M t rm s hi=>?_,λi H M x H' t rm s hi y=>?_,λH M t rm s=>?_⟩
 ·have hi':i<vs.length:=by rw[<-dl.length];exact hi
  exact⟨vs,vs[i],(t.f _ _ sq).sq,by simp[hi']⟩
 ·obtain⟨e,y⟩:=y;subst e;obtain⟨d,e1,e2⟩:=(dl.mono t).get' (y vs (t.f _ _ sq).sq);exact⟨.refl _,rm,d,e1,e2⟩
 ·exact⟨vs,(t.f _ _ sq).sq,by rw[dl.length];exact Hh _⟩
theorem Ai{K:Iz}:ItOk K H0 (Itl K p) ds (λM=>M p=some (.lst ds)):=by
 refine⟨λi H M t rm s hi=>?_,λi H M x H' t rm s hi y=>?_,λH M t rm s=>?_⟩
 ·obtain⟨vs,e,dl⟩:=rm p _ s;have hi':i<vs.length:=by rw[<-dl.length];exact hi
  exact⟨vs,vs[i],.of e,by simp[hi']⟩
 ·obtain⟨vs,e,dl⟩:=rm p _ s;obtain⟨e',y⟩:=y;subst e';obtain⟨d,e1,e2⟩:=dl.get' (y vs (.of e));exact⟨.refl _,rm,d,e1,e2⟩
 ·obtain⟨vs,e,dl⟩:=rm p _ s;exact⟨vs,.of e,by rw[dl.length];exact Hh _⟩
theorem lz(I:Inv X pins σ H s)(hq:SqL X.K H a xs)(q:R (Itl X.K a) H):wpAny (model X.prog X.w) X.A (pyIter (.ref a)) (PIE X pins σ tg R) Ex s:=by
 obtain⟨its,rv,p,hz⟩:=I.list hq;refine wpAny_pyIter_list p.isList ?_;refine⟨s.heap.objs.size,[s.heap.objs.size],_,_,H,rfl,I.kept (t':=s.toks) λb o e=>Hd _ e,rJ a _,⟨_,Hn _ rfl,rfl,rfl⟩,λb hb=>?_,q⟩
 have e:b=s.heap.objs.size:=by simpa using hb
 subst e;exact I.fpOk (Hh _) (I.hok.fresh (Hh _))
theorem tS(I:Inv X pins σ H s)(hq:SqT X.K H a xs)(q:R (Itt X.K a) H):wpAny (model X.prog X.w) X.A (pyIter (.ref a)) (PIE X pins σ tg R) Ex s:=by
 obtain⟨its,rv,p,hz⟩:=I.tuple hq;refine wpAny_pyIter_tuple (show s.heap.IsTuple a its.toArray from p) ?_;refine⟨s.heap.objs.size,[s.heap.objs.size],_,_,H,rfl,I.kept (t':=s.toks) λb o e=>Hd _ e,oV a _,⟨_,Hn _ rfl,rfl,rfl⟩,λb hb=>?_,q⟩
 have e:b=s.heap.objs.size:=by simpa using hb
 subst e;exact I.fpOk (Hh _) (I.hok.fresh (Hh _))
noncomputable def wp(z:Str):It:=⟨λi _=>i<z.cps.size,λi H x H'=>H'=H/\∃c,z.cps[i]?=some c/\x=.str ⟨#[c]⟩,λi _=>z.cps.size<=i⟩
theorem ug{K:Iz}(it:Addr)(z:Str)(t:Tok)(ty:String)(hty:ty = "str_ascii_iterator"\/ty = "str_iterator"):Turn P w K tg (wp z) [it] it (λi h=>h.IsStrIter it ty z t i) where
 mem:=by simp
 obj:=λi h st b hb=>by
  have e:b=it:=by simpa using hb
  subst e;obtain⟨o,e,c,d⟩:=st;exact⟨o,e,λv z=>by rw[d]at z;cases z⟩
 keep:=λi h h' st k=>let ⟨o,e,r⟩:=st;⟨o,k it (by simp) o e,r⟩
 item:=by
  intro X hP hw hK hc i pins s σ H E I hf st hg;subst hP hw hK;have hi:i<z.cps.size:=hg;obtain⟨f0,f1,f2,f3,f4,f5⟩:=hf it (by simp)
  have hx:z.cps[i]?=some z.cps[i]:=by simp[hi]
  have fin:∀h':Heap,h'.IsStrIter it ty z t (i+1)->Heap.SameBut it s.heap h'->∃u,some (Value.str ⟨#[z.cps[i]]⟩ s.toks)=some u/\wpAny (model X.prog X.w) X.A (letOwnedTupleGo tg (.ref it) u) (λ_ s2=>∃x H',Inv X pins σ H' s2/\RelV x u/\(wp z).yld i H x H'/\s2.heap.IsStrIter it ty z t (i+1)/\∀b∈[it],H' b=none) E {s with heap:=h',toks:=s.toks+1}:=λh' st' sb=>by
   have I1:Inv X pins σ H {s with heap:=h',toks:=s.toks+1}:=I.turned (t':=s.toks+1) (λb o hb e=>(sb.2 b hb).trans e) f0 f1 f3 f4 f5
   obtain⟨o,e,c,d⟩:=id st';exact⟨_,rfl,mX (s:={s with heap:=h',toks:=s.toks+1}) e c d (by rcases hty with rfl|rfl<;>decide) ⟨.str ⟨#[z.cps[i]]⟩,H,I1,⟨_,rfl⟩,⟨rfl,_,hx,rfl⟩,st',λb hb=>(hf b hb).1⟩⟩
  rcases hty with rfl|rfl
  ·exact wpAny_pyNext_ascii_item st hx fin
  ·exact wpAny_pyNext_wide_item st hx fin
 done:=by
  intro X hP hw hK hc i pins s σ H E I hf st hg;subst hP hw hK;obtain⟨f0,f1,f2,f3,f4,f5⟩:=hf it (by simp)
  have hx:z.cps[i]?=none:=by simpa using (show z.cps.size<=i from hg)
  rcases hty with rfl|rfl
  ·exact wpAny_pyNext_ascii_end (I.ok.hd hc) st hx λh' eb=>⟨rfl,I.turned (t':=s.toks) (λb o hb e=>eb b o hb e) f0 f1 f3 f4 f5⟩
  ·exact wpAny_pyNext_wide_end (I.ok.hd hc) st hx λh' eb=>⟨rfl,I.turned (t':=s.toks) (λb o hb e=>eb b o hb e) f0 f1 f3 f4 f5⟩
 self:=λ_ _ _ _ _ st h=>by
  rcases hty with rfl|rfl
  ·exact wpAny_pyIter_striter_ascii st h
  ·exact wpAny_pyIter_striter_wide st h
theorem yG{K:Iz}:ItOk K H0 (wp z) (iM z) (λ_=>True):=by
 have hl:(iM z).length=z.cps.size:=by simp[iM]
 refine⟨λi H M t rm s hi=>by rw[hl]at hi;exact hi,λi H M x H' t rm s hi y=>?_,λH M t rm s=>by show z.cps.size<=_;rw[hl];exact Hh _⟩
 obtain⟨rfl,c,hc,rfl⟩:=y;exact⟨.refl _,rm,.str ⟨#[c]⟩,by simp[iM,hc],rfl⟩
theorem uw{X:Cx}(I:Inv X pins σ H s)(q:R (wp z) H):wpAny (model X.prog X.w) X.A (pyIter (.str z t)) (PIE X pins σ tg R) X.xe s:=by
 have go:∀ty:String,(ty = "str_ascii_iterator"\/ty = "str_iterator")->PIE X pins σ tg R (.ref s.heap.objs.size) {s with heap:=s.heap.push {cls:=.type ty,data:=.fields #[.str z t,.int 0 0]}}:=λty hty=>
  ⟨s.heap.objs.size,[s.heap.objs.size],_,_,H,rfl,I.kept (t':=s.toks) (λb o e=>Hd _ e),ug s.heap.objs.size z t ty hty,⟨_,Hn _ rfl,rfl,rfl⟩,λb hb=>by
   have e':b=s.heap.objs.size:=by simpa using hb
   subst e';exact I.fpOk (Hh _) (I.hok.fresh (Hh _)),q⟩
 cases ha:z.cps.all (· < 128)
 ·exact wpAny_pyIter_wide ha (go _ (.inr rfl))
 ·exact wpAny_pyIter_ascii ha (go _ (.inl rfl))
theorem Cr(hl:PE X l (low X.K cls E2 te)):PI X tg l (kj X.K cls E2 λσ M R E=>te σ M (λx M1=>match x with
  |.tup ds=>R ds (λ_=>True) M1
  |.rol ds=>R ds (λ_=>True) M1
  |.ref a=>match M1 a with
   |some (.lst ds)=>R ds (λM=>M a=some (.lst ds)) M1
   |_=>False
  |.str z=>R (iM z) (λ_=>True) M1
  |_=>False) E):=by
 refine λpins s σ H R2 I hl_=>ex9 hl_ λσ3 M R E3 rm ds lk h k=>?_
 refine thn (hl pins s σ H _ I ⟨σ3,M,_,E3,rm,ds,lk,h,λv H' d M' a b c e=>(⟨d,M',a,b,c,e⟩:(λv H'=>∃d M',Den X.K H' d v/\RelM X.K M' H'/\TM X.K H H'/\(match d with
  |.tup ds=>R ds (λ_=>True) M'
  |.rol ds=>R ds (λ_=>True) M'
  |.ref a=>match M' a with
   |some (.lst ds)=>R ds (λM=>M a=some (.lst ds)) M'
   |_=>False
  |.str z=>R (iM z) (λ_=>True) M'
  |_=>False)) v H')⟩) λu s1 ⟨v,H1,I1,r1,d,M1,dv,rm1,t1,q1⟩=>?_
 split at q1
 ·obtain⟨p,vs,rfl,sq,dl⟩:=dv;cases r1;exact tS I1 sq (k _ _ _ _ _ (zb sq dl) rm1 t1 q1)
 ·obtain⟨p,vs,rfl,sq,dl⟩:=dv;cases r1;exact lz I1 sq.sq (k _ _ _ _ _ (yI sq dl) rm1 t1 q1)
 ·rename_i a;cases (show v=.ref a from dv);cases r1;split at q1
  ·rename_i ds' e;obtain⟨vs,e1,dl⟩:=rm1 a _ e;exact lz I1 (.of e1) (k _ _ _ _ _ Ai rm1 t1 q1)
  ·exact q1.elim
 ·rename_i z;cases (show v=.str z from dv);obtain⟨tt,rfl⟩:=r1;exact uw I1 (k _ _ _ _ _ yG rm1 t1 q1)
 ·exact q1.elim
theorem EL(hg:Gl X "range")(hm:X.mg "range"=none)(ha:PE X a (low X.K cls E2 ta))(hs:starEach [a] X.env=[(false,eval a X.env)]):PI X tg (.Call (.Name "range" p) [a] [] pos) (kj X.K cls E2 λσ M R E=>ta σ M (λx M1=>match x with
  |.int j=>-(2 ^ 62)<=j/\j<2 ^ 62/\R (rng 0 j.toNat) (λ_=>True) M1
  |_=>False) E):=
 (rR hg hm (aI ha pa_nil hs) hs).imp λσ H R2 hl_=>ex9 hl_ λσ3 M R E3 rm ds lk h k=>aZ rm ds lk h λv H1 x M1 dx rm1 t1 q1=>by
  split at q1
  ·rename_i j;cases (show v=.int j from dx);exact⟨j,rfl,q1.1,q1.2.1,k _ _ _ _ _ yx rm1 t1 q1.2.2⟩
  ·exact q1.elim
end
section
variable {X:Cx}
theorem z8(hX:∀i,i<ne->ExcI X.K (cls i)/\PySem.W.kitOne X.K (.ref (cls i)) cv=some (r i))
  (I:Inv X pins σ H s)(rv:RelV v v2)(dx:Den X.K H x v)(rm:RelM X.K M H)(q:n9 ne cls r x M Q)(back:Back X.K H Q Q2) :
  wpAny (model X.prog X.w) A (call (.builtin "isinstance") [v2,cv]) (EP X pins σ Q2) Ex s:=by
 unfold n9 at q;split at q
 ·rename_i a;cases (show v=.ref a from dx);cases rv;split at q
  ·rename_i i w e;obtain⟨hi,rfl,q⟩:=q;obtain⟨h1,h2⟩:=hX i.c hi;obtain⟨dx0,e0,_⟩:=rm a _ e;have ho:=I.hok _ _ e0;obtain⟨⟨o,vs,g1,g2,_⟩,_,_⟩:=ho;exact PySem.W.kia_one (uq h1) I.kIn ⟨o,g1,g2⟩ h2 (λz=>nomatch z) λtk=>⟨.bl _,H,I.tok _,rfl,back _ _ _ _ bn rm (.refl _) q⟩
  ·exact q.elim
 ·exact q.elim
theorem CF(ha:PE X e (low X.K cls E2 te))(hg:Gl X "isinstance")(hm:X.mg "isinstance"=none)(hg2:Gl X x)(hm2:X.mg x=some (.ref (cls j)))(hdb:(x == ("__debug__" : Str))=false)
  (hX:∀i,i<ne->ExcI X.K (cls i)/\PySem.W.kitOne X.K (.ref (cls i)) (.ref (cls j))=some (r i)) (hs:starEach (e::[.Name x p2]) X.env=(false,eval e X.env)::starEach [.Name x p2] X.env) :
  PE X (.Call (.Name "isinstance" p) [e,.Name x p2] [] pos) (low X.K cls E2 λσ M Q E=>te σ M (λx M1=>n9 ne cls r x M1 Q) E):=by
 have hT:PE X (.Name x p2) (tC (.ref (cls j))):=gK hg2 hm2 rfl hdb;have hc:CallR X (.builtin "isinstance") (λvs H Q2=>∃x v M Q,vs=[v,.ref (cls j)]/\Den X.K H x v/\RelM X.K M H/\n9 ne cls r x M Q/\Back X.K H Q Q2):=by
  intro pins s σ H vs us Q2 I r ⟨x,v,M,Q,e,dx,rm,q,back⟩;subst e;obtain⟨u,w,rfl,ru,rw⟩:=Vals.two r;cases (show w=Value.ref (cls j) from rw);exact z8 hX I ru dx rm q back
 refine (gL hc hg hm (by decide +kernel) (aI ha (aI hT pa_nil (by rfl)) hs) (by decide +kernel) (by decide +kernel) hs (by rfl)).imp λσ H Q2 hl_=>ex9 hl_ λσ3 M Q E3 rm ds lk h back=>?_
 exact aZ rm ds lk h λv H1 x M1 dx rm1 t1 q1=>⟨x,v,M1,Q,rfl,dx,rm1,q1,back.mono t1⟩
end
section
variable {K:Iz}
theorem gi:∀{ns:List Nat}{ds:List D}{vs:List V}{f:Nat}{d:D},DenL K H ds vs->cq f ns ds=some d->∃v,((ns.map fnm).zip vs).lookup (fnm f)=some v/\Den K H d v
 |[],_,_,_,_,_,e=>by simp[cq]at e
 |n::ns,[],_,_,_,_,e=>by simp[cq]at e
 |n::ns,d0::ds,_,f,d,dl,e=>by
  obtain⟨v,r,rfl,dv,dl⟩:=dl;simp only[cq]at e;by_cases z:n=f
  ·rw[Hg z]at e;cases e;subst z;exact⟨v,by simp[List.lookup],dv⟩
  ·rw[Hc z]at e;obtain⟨u,h1,h2⟩:=gi dl e;refine⟨u,?_,h2⟩;have nb:(fnm f == fnm n)=false:=HK.mpr λq=>z (lL q).symm
   simp[List.lookup,nb,h1]
theorem gc:∀{ns:List Nat}{ds:List D}{vs:List V}{f:Nat},DenL K H ds vs->ns.length=vs.length->cq f ns ds=none->((ns.map fnm).zip vs).lookup (fnm f)=none
 |[],_,_,_,_,_,_=>by simp
 |n::ns,[],vs,_,dl,hl,_=>by cases (show vs=[] from dl);cases hl
 |n::ns,d0::ds,_,f,dl,hl,e=>by
  obtain⟨v,r,rfl,dv,dl⟩:=dl;simp only[cq]at e;by_cases z:n=f
  ·rw[Hg z]at e;cases e
  ·rw[Hc z]at e;have h1:=gc dl (by simpa using hl) e
   have nb:(fnm f == fnm n)=false:=HK.mpr λq=>z (lL q).symm
   simp[List.lookup,nb,h1]
theorem mI:∀{ns:List Nat}{ds:List D}{vs:List V}{f:Nat}{y:D}{u:V},DenL K H ds vs->ns.length=vs.length->Den K H y u->
  ∃ws,dP (fnm f) u ((ns.map fnm).zip vs)=((cm f ns).map fnm).zip ws/\(cm f ns).length=ws.length/\DenL K H (cr f y ns ds) ws
 |[],ds,vs,f,y,u,dl,hl,dy=>by
  cases vs with
  |nil=>exact⟨[u],rfl,rfl,by unfold cr;exact .one dy⟩
  |cons _ _=>cases hl
 |n::ns,[],vs,f,y,u,dl,hl,dy=>by cases (show vs=[] from dl);cases hl
 |n::ns,d::ds,_,f,y,u,dl,hl,dy=>by
  obtain⟨v,r,rfl,dv,dl⟩:=dl;have hl':ns.length=r.length:=by simpa using hl
  by_cases z:n=f
  ·subst z;refine⟨u::r,?_,?_,?_⟩
   ·simp[dP,cm]
   ·simp[cm,hl']
   ·simp only[cr,Hg];exact .cons dy dl
  ·obtain⟨ws,h1,h2,h3⟩:=mI (f:=f) (u:=u) dl hl' dy;have nf:¬ fnm n=fnm f:=λq=>z (lL q)
   refine⟨v::ws,?_,?_,?_⟩
   ·simp only[Hl,List.zip_cons_cons,dP,Hc nf,cm,Hc z];rw[h1]
   ·simp[cm,Hc z,h2]
   ·simp only[cr,Hc z];exact .cons dv h3
end
theorem oP{fs:List (Str×V)}(hok:HOk P w H h)(e:Rd H a (.ins C dx fs)):∃mA,ObjM h a dx C mA/\(∀f,RelO (fs.lookup f) (mA f))/\H dx=some (.own a):=by
 obtain⟨d,z,ne,ob,mA,n,r,q⟩:=(show ObjOk P w H h a (.ins C dx fs) from e.ok hok);exact⟨mA,⟨ob,n,ne⟩,r,d⟩
section
variable {X:Cx}{fs:List (Str×V)}
theorem u3(I:Inv X pins σ H s)(e:Rd H a (.ins C dx fs))(c:Cls X.K C)(n:NoAttr X.K C f)(l:fs.lookup f=some v)
  (h:∀u s',Inv X pins σ H s'->RelV v u->Q u s'):wpAny (model X.prog X.w) A (getAttr (.ref a) f b) Q E s:=by
 obtain⟨mA,O,r,_⟩:=oP I.hok e;obtain⟨u,hu,ru⟩:=RelO.some_of (v:=v) (o:=mA f) (by rw[<-l];exact r f)
 exact vZ I.kIn O (c.get f) c.hd n hu (qH ru) (h u _ (I.tok _) ru)
theorem n8{m:Str}{g:Addr}{pl:Sem Bool}{Q:Value×List Value->Shared->Prop}(I:Inv X pins σ H s)(e:Rd H a (.ins C dx fs))(c:Cls X.K C)(k:Meth X.K C m g)(l:fs.lookup m=none)
  (h:Q (.ref g,[.ref a]) s):wpAny (model X.prog X.w) A (getMethod (.ref a) m pl) Q E s:=by
 obtain⟨mA,O,r,_⟩:=oP I.hok e;have hn:mA m=none:=RelO.none_of (by rw[<-l];exact r m)
 exact tU I.kIn O (c.get m) k.at_ k.fn hn h
end
structure ClsI (K:Iz)(C f:Addr):Prop where
 ga:PySem.W.specialIn K (.ref C) "__getattribute__"=some (some (.builtin "type.__getattribute__"))
 rd:PySem.W.readsIn K C (.type "type")=true
 at_:PySem.W.findCls K (.ref C) (.type "type") "__init__"=some (.val (.ref f))
structure TyI (K:Iz)(C:Addr):Prop where
 ha:PySem.W.findIn K (.ref C) "__class__"=some (some (.builtin "object.__class__"))
 hn:PySem.W.specialIn K (.builtin "object.__class__") "__get__"=some (some (.builtin "getset_descriptor.__get__"))
 htk:PySem.W.takesIn K (.builtin "object.__class__")=some true
 hm:PySem.W.mroIn K C (.type "object")=some true
structure KOk (K:Iz)(B:WB)(fad:Nat->Addr)(i:Nat):Prop where
 cl:Cls K (B.kls i)
 na:∀f,B.fok i f=true->NoAttr K (B.kls i) (fnm f)
 mt:∀m f,B.mth i m=some f->Meth K (B.kls i) (fnm m) (fad f)
 mkr:∀f,B.ini i=some f->Mk K (B.kls i) (fad f)
 ci:∀f,B.ini i=some f->ClsI K (B.kls i) (fad f)
 ty:TyI K (B.kls i)
 is:∀j,j<B.nk->PySem.W.kitOne K (.ref (B.kls i)) (.ref (B.kls j))=some (B.ksub i j)
section
variable {X:Cx}{B:WB}
theorem vE{K:Iz}(hk:∀i,i<B.nk->KOk K B fad i)(dx:Den K H x v)(rm:RelM K M H)(h:bY B f x M Q) :
  ∃a C dx fs u d,v=.ref a/\Rd H a (.ins C dx fs)/\Cls K C/\NoAttr K C (fnm f)/\fs.lookup (fnm f)=some u/\Den K H d u/\Q d M:=by
 unfold bY at h;split at h
 ·rename_i i C ns ds;obtain⟨p,vs,ob,dx',rfl,e,hl,dl⟩:=dx;obtain⟨⟨rfl,hi,hf⟩,h⟩:=h;unfold gx at h;split at h
  ·rename_i d q;obtain⟨u,h1,h2⟩:=gi dl q;exact⟨p,_,dx',_,u,d,rfl,.inr ⟨ob,e⟩,(hk i hi).cl,(hk i hi).na f hf,h1,h2,h⟩
  ·exact h.elim
 ·rename_i a;split at h
  ·rename_i i C ns ds q;obtain⟨dx',vs,e,hl,dl⟩:=rm a _ q;obtain⟨⟨rfl,hi,hf⟩,h⟩:=h;unfold gx at h;split at h
   ·rename_i d q;obtain⟨u,h1,h2⟩:=gi dl q;exact⟨a,_,dx',_,u,d,dx,.inl e,(hk i hi).cl,(hk i hi).na f hf,h1,h2,h⟩
   ·exact h.elim
  ·exact h.elim
 ·exact h.elim
theorem B3(hk:∀i,i<B.nk->KOk X.K B fad i)(he:PE X e (low X.K cls E2 te))(hb:attributeBase e (fnm f) X.env (eval e X.env)=eval e X.env):PE X (.Attribute e (fnm f) pos) (low X.K cls E2 λσ M Q E=>te σ M (λx M1=>bY B f x M1 Q) E):=by
 refine λpins s σ H Q2 I hl_=>ex9 hl_ λσ3 M Q E3 rm ds lk h back=>?_
 refine vU hb (thn (he pins s σ H (λv H1=>∃x M1,Den X.K H1 x v/\RelM X.K M1 H1/\TM X.K H H1/\bY B f x M1 Q) I ⟨σ3,M,_,E3,rm,ds,lk,h,λv H' d M' a b c e=>⟨d,M',a,b,c,e⟩⟩) λu s1 ⟨v,H1,I1,r1,x,M1,dx,rm1,t1,q1⟩=>?_)
 obtain⟨a,C,dx',fs,u',d,rfl,rd,c,n,l,du,q⟩:=vE hk dx rm1 q1;obtain rfl:u=Value.ref a:=r1;exact u3 I1 rd c n l λu'' s2 I2 ru=>⟨u',H1,I2,ru,back _ _ _ _ du rm1 t1 q⟩
theorem As{K:Iz}(dx:Den K H x v)(rm:RelM K M H)(h:ot B j x M Q) :
  ∃a i dx fs,v=.ref a/\i<B.nk/\j<B.nk/\Rd H a (.ins (B.kls i) dx fs)/\Q (.bl (B.ksub i j)) M:=by
 unfold ot at h;split at h
 ·rename_i i C ns ds;obtain⟨p,vs,ob,dx',rfl,e,hl,dl⟩:=dx;obtain⟨⟨rfl,hi,hj⟩,h⟩:=h;exact⟨p,i,dx',_,rfl,hi,hj,.inr ⟨ob,e⟩,h⟩
 ·rename_i a;split at h
  ·rename_i i C ns ds q;obtain⟨dx',vs,e,hl,dl⟩:=rm a _ q;obtain⟨⟨rfl,hi,hj⟩,h⟩:=h;exact⟨a,i,dx',_,dx,hi,hj,.inl e,h⟩
  ·exact h.elim
 ·exact h.elim
theorem Ci(hk:∀i,i<B.nk->KOk X.K B fad i)(ha:PE X e (low X.K cls E2 te))(hg:Gl X "isinstance")(hm:X.mg "isinstance"=none)(hg2:Gl X x)(hm2:X.mg x=some (.ref (B.kls j)))(hdb:(x == ("__debug__" : Str))=false)
  (hs:starEach (e::[.Name x p2]) X.env=(false,eval e X.env)::starEach [.Name x p2] X.env) :
  PE X (.Call (.Name "isinstance" p) [e,.Name x p2] [] pos) (low X.K cls E2 λσ M Q E=>te σ M (λx M1=>ot B j x M1 Q) E):=by
 have hT:PE X (.Name x p2) (tC (.ref (B.kls j))):=gK hg2 hm2 rfl hdb;have hc:CallR X (.builtin "isinstance") (λvs H Q2=>∃x v M Q,vs=[v,.ref (B.kls j)]/\Den X.K H x v/\RelM X.K M H/\ot B j x M Q/\Back X.K H Q Q2):=by
  refine λpins s σ H vs us Q2 I r hl_=>ex9 hl_ λx v M Q e dx rm q back=>?_
  subst e;obtain⟨u,w,rfl,ru,rw⟩:=Vals.two r;cases (show w=Value.ref (B.kls j) from rw);obtain⟨a,i,dx',fs,rfl,hi,hj,rd,q⟩:=As dx rm q;cases (show u=Value.ref a from ru);obtain⟨mA,O,_⟩:=oP I.hok rd;obtain⟨od,J,_⟩:=O.look;have k:=hk i hi;exact PySem.W.kia_one (PySem.W.kitx_own (k.cl.get _) k.cl.hd k.ty.ha k.ty.hn k.ty.htk k.ty.hm) I.kIn J (k.is j hj) (λz=>nomatch z) λtk=>⟨.bl _,H,I.tok _,rfl,back _ _ _ _ bn rm (.refl _) q⟩
 refine (gL hc hg hm (by decide +kernel) (aI ha (aI hT pa_nil (by rfl)) hs) (by decide +kernel) (by decide +kernel) hs (by rfl)).imp λσ H Q2 hl_=>ex9 hl_ λσ3 M Q E3 rm ds lk h back=>?_
 exact aZ rm ds lk h λv H1 x M1 dx rm1 t1 q1=>⟨x,v,M1,Q,rfl,dx,rm1,q1,back.mono t1⟩
end
def qX(X:Cx)(cls:Nat->Addr)(k:Nat)(a:Addr)(t3:List D->MH->VK3->XN->Prop):Prop:=∃fd ps sp,PySem.W.keepIn X.K (.ref a)=true/\BdT X.K cls fd ps t3 sp/\FnOk X.prog X.w X.K X.mg X.base (CX1 X.prog X.w) k a fd ps sp
section
variable {X:Cx}{B:WB}{fad:Nat->Addr}{cls:Nat->Addr}{E2:St->XK}{o e:Expr}{es:List Expr}{to te:St3->MH->VK3->XN->Prop}{tr:St3->MH->(List D->MH->Prop)->XN->Prop}{pos apos p:Pos}{m k:Nat}
 {cl3:Nat->List D->MH->VK3->XN->Prop}
theorem qc{K:Iz}{H:Hp}{x:D}{v:V}{M:MH}{R:Nat->Prop}(hk:∀i,i<B.nk->KOk K B fad i)(dx:Den K H x v)(rm:RelM K M H)(h:bz B m x M R) :
  ∃a C dx fs f,v=.ref a/\Rd H a (.ins C dx fs)/\Cls K C/\Meth K C (fnm m) (fad f)/\fs.lookup (fnm m)=none/\(∃i,i<B.nk/\B.mth i m=some f)/\R f:=by
 unfold bz at h;split at h
 ·rename_i i C ns ds;obtain⟨p,vs,ob,dx',rfl,e,hl,dl⟩:=dx;obtain⟨⟨rfl,hi,hf⟩,h⟩:=h;unfold dn at h;split at h
  ·rename_i f q;exact⟨p,_,dx',_,f,rfl,.inr ⟨ob,e⟩,(hk i hi).cl,(hk i hi).mt m f q,gc dl hl hf,⟨i,hi,q⟩,h⟩
  ·exact h.elim
 ·rename_i a;split at h
  ·rename_i i C ns ds q;obtain⟨dx',vs,e,hl,dl⟩:=rm a _ q;obtain⟨⟨rfl,hi,hf⟩,h⟩:=h;unfold dn at h;split at h
   ·rename_i f q;exact⟨a,_,dx',_,f,dx,.inl e,(hk i hi).cl,(hk i hi).mt m f q,gc dl hl hf,⟨i,hi,q⟩,h⟩
   ·exact h.elim
  ·exact h.elim
 ·exact h.elim
theorem Ap(hk:∀i,i<B.nk->KOk X.K B fad i)(hf:∀i m f,i<B.nk->B.mth i m=some f->qX X cls k (fad f) (cl3 f))(hr:Room k X.A)(hx:aR (CX1 X.prog X.w) X E2)
  (ho:PE X o (low X.K cls E2 to)) (ha:PA X (e::es) (dI X.K cls E2 tr)) (hb:attributeBase o (fnm m) X.env (eval o X.env)=eval o X.env) (hl:(apos.endLine == pos.line)=true) (hn:(e::es).length<30)
  (he:starEach (e::es) X.env=(false,eval e X.env)::starEach es X.env) (hpl:(backTo pos (starEach es X.env)).any (·.1)=false) :
  PE X (.Call (.Attribute o (fnm m) apos) (e::es) [] pos) (low X.K cls E2 λσ M Q E=>to σ M (λx M1=>bz B m x M1 λf=>tr σ M1 (λxs M2=>cl3 f (x::xs) M2 Q E) E) E):=by
 refine λpins s σ H Q2 I hl_=>ex9 hl_ λσ3 M Q E3 rm ds lk h back=>?_
 have hst:(backTo pos (starEach (e::es) X.env)).any (·.1)=false:=by
  rw[he];show ((false,_)::backTo pos (starEach es X.env)).any (·.1)=false;rw[List.any_cons,hpl];rfl
 refine PySem.W.methodCall_KW (thn (ho pins s σ H (λv H1=>∃x M1,Den X.K H1 x v/\RelM X.K M1 H1/\TM X.K H H1/\bz B m x M1 λf=>tr σ3 M1 (λxs M2=>cl3 f (x::xs) M2 Q E3) E3) I ⟨σ3,M,_,E3,rm,ds,lk,h,λv H' d M' a b c e=>⟨d,M',a,b,c,e⟩⟩) λu s1 ⟨v,H1,I1,r1,x,M1,dx,rm1,t1,q1⟩=>?_) (fD hb (gG hst hn) hl)
 obtain⟨a,C,dx',fs,f,rfl,rd,c,mt,l,⟨i,hi,hfi⟩,q⟩:=qc hk dx rm1 q1;obtain rfl:u=Value.ref a:=r1;obtain⟨fd,ps,sp,kp,bd,F⟩:=hf i m f hi hfi;refine n8 I1 rd c mt l ?_;refine PySem.W.callWith_K (first:=[.ref a]) (h₀:=X.base) I.ok.mod.kin mt.kp (thn (ha pos pins s1 σ H1 _ I1 (eu (R2:=λvs H2=>spX X.K cls (cl3 f) (.ref a::vs) H2 Q2 (λc d H'=>TM X.K H2 H'->E2 σ c d H')) rm1 (ds.mono t1) (lk.mono t1) q
  λvs H2 xs M2 dl rm2 t2 q2=>jr (.cons (dx.mono t2) dl) rm2 (lk.mono (t1.trans t2)) q2 (back.mono (t1.trans t2)))) λus s2 ⟨vs,H2,I2,r,q2⟩=>⟨I2.kIn,?_⟩) he hpl
 exact gP (us:=.ref a::us) (vs:=.ref a::vs) F hr bd hx I2 (.cons rfl r) q2
theorem xr(hk:∀i,i<B.nk->KOk X.K B fad i)(hf:∀i m f,i<B.nk->B.mth i m=some f->qX X cls k (fad f) (cl3 f))(hr:Room k X.A)(hx:aR (CX1 X.prog X.w) X E2)
  (ho:PE X o (low X.K cls E2 to)) (hb:attributeBase o (fnm m) X.env (eval o X.env)=eval o X.env) (hl:(apos.endLine == pos.line)=true) :
  PE X (.Call (.Attribute o (fnm m) apos) [] [] pos) (low X.K cls E2 λσ M Q E=>to σ M (λx M1=>bz B m x M1 λf=>cl3 f [x] M1 Q E) E):=by
 refine λpins s σ H Q2 I hl_=>ex9 hl_ λσ3 M Q E3 rm ds lk h back=>?_
 refine PySem.W.methodCall_KW (thn (ho pins s σ H (λv H1=>∃x M1,Den X.K H1 x v/\RelM X.K M1 H1/\TM X.K H H1/\bz B m x M1 λf=>cl3 f [x] M1 Q E3) I ⟨σ3,M,_,E3,rm,ds,lk,h,λv H' d M' a b c e=>⟨d,M',a,b,c,e⟩⟩) λu s1 ⟨v,H1,I1,r1,x,M1,dx,rm1,t1,q1⟩=>?_) (fD hb (gG (by rfl) (by decide)) hl)
 obtain⟨a,C,dx',fs,f,rfl,rd,c,mt,l,⟨i,hi,hfi⟩,q⟩:=qc hk dx rm1 q1;obtain rfl:u=Value.ref a:=r1;obtain⟨fd,ps,sp,kp,bd,F⟩:=hf i m f hi hfi;refine n8 I1 rd c mt l ?_;exact PySem.W.callWith_K0 (first:=[.ref a]) I1.kIn mt.kp (gP (us:=[.ref a]) (vs:=[.ref a]) F hr bd hx I1 (.cons rfl .nil) (jr (.one dx) rm1 (lk.mono t1) q (back.mono t1)))
theorem B7{i f:Nat}{x:Str}{px:Pos}(hg:Gl X x)(hm:X.mg x=some (.ref (B.kls i)))(hdb:(x == ("__debug__" : Str))=false)(ci:ClsI X.K (B.kls i) (fad f))(hf:qX X cls k (fad f) (cl3 f))(hr:Room k X.A)(hx:aR (CX1 X.prog X.w) X E2)
  (ha:PA X (e::es) (dI X.K cls E2 tr)) (hl:(apos.endLine == pos.line)=true) (hn:(e::es).length<30)
  (he:starEach (e::es) X.env=(false,eval e X.env)::starEach es X.env) (hpl:(backTo pos (starEach es X.env)).any (·.1)=false) :
  PE X (.Call (.Attribute (.Name x px) "__init__" apos) (e::es) [] pos) (low X.K cls E2 λσ M Q E=>tr σ M (λxs M1=>cl3 f xs M1 Q E) E):=by
 refine λpins s σ H Q2 I hl_=>ex9 hl_ λσ3 M Q E3 rm ds lk h back=>?_
 have hst:(backTo pos (starEach (e::es) X.env)).any (·.1)=false:=by
  rw[he];show ((false,_)::backTo pos (starEach es X.env)).any (·.1)=false;rw[List.any_cons,hpl];rfl
 obtain⟨fd,ps,sp,kp,bd,F⟩:=hf;have hT:PE X (.Name x px) (tC (.ref (B.kls i))):=gK hg hm rfl hdb;refine PySem.W.methodCall_KW (thn (hT pins s σ H (λv H1=>v=.ref (B.kls i)/\H1=H) I ⟨rfl,rfl⟩) λu s1 ⟨v,H1,I1,r1,e1,e2⟩=>?_) (fD (by rfl) (gG hst hn) hl)
 subst e1 e2;obtain rfl:u=Value.ref (B.kls i):=r1;refine PySem.W.method_cls I1.kIn ci.ga (PySem.W.cls_value I1.kIn ci.rd ci.at_ rfl ?_);have I2:=I1.tok (s1.toks+1);refine PySem.W.callWith_K (first:=[]) (h₀:=X.base) I.ok.mod.kin kp (thn (ha pos pins _ σ H1 _ I2 (eu (R2:=λvs H2=>spX X.K cls (cl3 f) vs H2 Q2 (λc d H'=>TM X.K H2 H'->E2 σ c d H')) rm ds lk h
  λvs H2 xs M2 dl rm2 t2 q2=>jr dl rm2 (lk.mono t2) q2 (back.mono t2))) λus s2 ⟨vs,H2,I3,r,q2⟩=>⟨I3.kIn,?_⟩) he hpl
 exact gP F hr bd hx I3 r q2
theorem kY(M:Mk X.K C f)(F:FnOk X.prog X.w X.K X.mg X.base (CX1 X.prog X.w) k f fd ps sp)(hr:Room (k+1) X.A)(hb:BdT X.K cls fd ps t3 sp)
  (hx:aR (CX1 X.prog X.w) X E2) (I:Inv X pins σ H s)(r:Vals vs us)
  (h:∀x dx,H x=none->H dx=none->dx≠x->spX X.K cls t3 (.ref x::vs) (upd (upd H dx (.own x)) x (.ins C dx [])) (λv H2=>v=.non/\Q (.ref x) H2) (λc d H'=>TM X.K (upd (upd H dx (.own x)) x (.ins C dx [])) H'->E2 σ c d H')) :
  wpAny (model X.prog X.w) X.A (call (.ref C) us) (EP X pins σ Q) X.xe s:=by
 have hq:=h (s.heap.objs.size+1) s.heap.objs.size (I.hok.fresh (Il _)) (I.hok.fresh (Hh _)) (Hx (Nat.lt_succ_self _));have I2:=Inv.made (C:=C) I;have r2:Vals (V.ref (s.heap.objs.size+1)::vs) (Value.ref (s.heap.objs.size+1)::us):=.cons rfl r;obtain⟨dvs,dsv,hv,bd,hq⟩:=hb _ _ _ _ hq;have r2:Vals ((V.ref (s.heap.objs.size+1)::vs)++dvs) ((Value.ref (s.heap.objs.size+1)::us)++dsv):=r2.append hv;have hl:(Value.ref (s.heap.objs.size+1)::us++dsv).length=ps.length:=by rw[<-r2.length];exact F.len _ _ _ _ hq
 have hb':=bd _ (Value.ref (s.heap.objs.size+1)::us) I2.kIn hl;refine wpAny_call (sx (f:=f) I.kIn M.makes M.init (Hs.mp M.fn) (codeAny_mono (F.run _ X.stack _ _ ⟨Value.ref (s.heap.objs.size+1)::us,[]⟩ (Value.ref (s.heap.objs.size+1)::us++dsv) _ _ _ (hr.make C us [])
  (I2.env0.make C us []) hb' r2 hq) λr s' hq'=>?_))
 match r,hq' with
 |.error e,hq'=>exact hx pins σ _ _ e s' I2 (um hq')
 |.ok (.ret u),hq'=>
  obtain⟨v,H',I3,rv,ev,q3⟩:=I2.after hq';subst ev;exact⟨rv,⟨V.ref (s.heap.objs.size+1),H',I3,rfl,q3⟩⟩
 |.ok .next,hq'=>exact hq'.elim
 |.ok .brk,hq'=>exact hq'.elim
 |.ok .cont,hq'=>exact hq'.elim
theorem TM.made{K:Iz}(hx:H x=none)(hd:H dx=none)(ne:dx≠x):TM K H (upd (upd H dx (.own x)) x (.ins C dx [])):=
 (TM.new hd).trans (.new (by rw[ae (He ne)];exact hx))
theorem qx{σ:St}{H:Hp}{xs:List D}{vs:List V}{M:MH}{Q:VK3}{Q2:VK}{E3:XN}{i:Nat}{fz:Bool}{t3:List D->MH->VK3->XN->Prop}(dl:DenL X.K H xs vs)(rm:RelM X.K M H)(lk:LkE X.K cls H E3 (E2 σ))
  (q:∀p,M p=none->t3 (.ref p::xs) (put M p (.ins i (B.kls i) [] [])) (λv M2=>v=.non/\if fz=true then aU Q (.ref p) M2 else Q (.ref p) M2) (λj M'=>E3 j (del M' p))) :
  ∀x dx,H x=none->H dx=none->dx≠x->spX X.K cls t3 (.ref x::vs) (upd (upd H dx (.own x)) x (.ins (B.kls i) dx [])) (λv H2=>v=.non/\∃M2,RelM X.K M2 H2/\TM X.K H H2/\if fz=true then aU Q (.ref x) M2 else Q (.ref x) M2)
   (λc d H'=>TM X.K (upd (upd H dx (.own x)) x (.ins (B.kls i) dx [])) H'->E2 σ c d H'):=λx dx hx hd ne=>by
 have t:=TM.made (K:=X.K) (C:=B.kls i) hx hd ne;have hx':(upd H dx (.own x)) x=none:=by rw[ae (He ne)];exact hx
 have rm2:RelM X.K (put M x (.ins i (B.kls i) [] [])) (upd (upd H dx (.own x)) x (.ins (B.kls i) dx [])):=(rm.grow hd).lay hx' ⟨dx,[],ag,rfl,rfl⟩;refine⟨.ref x::xs,_,_,_,.cons rfl (dl.mono t),rm2,q x (rm.fresh hx),λv H' d M' dv rm' t' ⟨e,q'⟩=>?_,λj M' H' t' rm' q' dy xd _=>lk j (del M' x) H' (t.trans t') (rm'.sub λb o z=>(l6 z).2) q' dy xd⟩
 subst e;exact⟨dv,M',rm',t.trans t',q'⟩
theorem mR(back:Back X.K H Q Q2)
  (h:EP X pins σ (λv H2=>∃x,v=.ref x/\∃M2,RelM X.K M2 H2/\TM X.K H H2/\if fz=true then aU Q (.ref x) M2 else Q (.ref x) M2) u s'):EP X pins σ Q2 u s':=by
 obtain⟨v,H2,I2,r,x,rfl,M2,rm2,t2,q⟩:=h;cases fz with
 |true=>
  obtain⟨H3,M3,d,I3,t3,rm3,dv,q3⟩:=jf I2 rm2 gW (show aU Q (.ref x) M2 from q);exact⟨.ref x,H3,I3,r,back _ _ _ _ dv rm3 (t2.trans t3) q3⟩
 |false=>exact⟨.ref x,H2,I2,r,back _ _ _ _ gW rm2 t2 q⟩
theorem zp{i f:Nat}{fz:Bool}{x:Str}(hg:Gl X x)(hm:X.mg x=some (.ref (B.kls i)))(hdb:(x == ("__debug__" : Str))=false)(mk:Mk X.K (B.kls i) (fad f))(hf:qX X cls k (fad f) (cl3 f))(hr:Room (k+1) X.A)(hx:aR (CX1 X.prog X.w) X E2)
  (ha:PA X (e::es) (dI X.K cls E2 tr)) (he:starEach (e::es) X.env=(false,eval e X.env)::starEach es X.env) (hpl:(backTo pos (starEach es X.env)).any (·.1)=false) :
  PE X (.Call (.Name x p) (e::es) [] pos) (low X.K cls E2 λσ M Q E=>tr σ M (λxs M1=>∀p,M1 p=none->cl3 f (.ref p::xs) (put M1 p (.ins i (B.kls i) [] [])) (λv M2=>v=.non/\if fz=true then aU Q (.ref p) M2 else Q (.ref p) M2) (λi M'=>E i (del M' p))) E):=by
 refine λpins s σ H Q2 I hl_=>ex9 hl_ λσ3 M Q E3 rm ds lk h back=>?_
 obtain⟨fd,ps,sp,kp,bd,F⟩:=hf;refine wpAny_Call_Name_kw (bC I hg hm ?_ hdb);refine PySem.W.callWith_K (h₀:=X.base) I.ok.mod.kin mk.kp (thn (ha pos pins s σ H (λvs H1=>TM X.K H H1/\∃xs M1,DenL X.K H1 xs vs/\RelM X.K M1 H1/\∀p,M1 p=none->cl3 f (.ref p::xs) (put M1 p (.ins i (B.kls i) [] [])) (λv M2=>v=.non/\if fz=true then aU Q (.ref p) M2 else Q (.ref p) M2) (λi M'=>E3 i (del M' p))) I
  (eu rm ds lk h λvs H1 xs M1 dl rm1 t1 q1=>⟨t1,xs,M1,dl,rm1,q1⟩)) λus s1 ⟨vs,H1,I1,r,t1,xs,M1,dl,rm1,q1⟩=>⟨I1.kIn,?_⟩) he hpl
 refine thn (kY (Q:=λv H2=>∃x,v=.ref x/\∃M2,RelM X.K M2 H2/\TM X.K H1 H2/\if fz=true then aU Q (.ref x) M2 else Q (.ref x) M2) mk F hr bd hx I1 r λx dx n1 n2 n3=>?_) λu s2 q2=>mR (fz:=fz) (back.mono t1) q2
 obtain⟨a1,a2,a3,a4,b1,b2,b3,b4,b5⟩:=qx (fz:=fz) (i:=i) (t3:=cl3 f) (Q2:=Q2) dl rm1 (lk.mono t1) q1 x dx n1 n2 n3;exact⟨a1,a2,a3,a4,b1,b2,b3,λv H' d M' dv rm' t' q'=>by
  obtain⟨e,w⟩:=b4 v H' d M' dv rm' t' q';exact⟨e,x,rfl,w⟩,b5⟩
theorem wQ{i f:Nat}{fz:Bool}{x:Str}(hg:Gl X x)(hm:X.mg x=some (.ref (B.kls i)))(hdb:(x == ("__debug__" : Str))=false)(mk:Mk X.K (B.kls i) (fad f))(hf:qX X cls k (fad f) (cl3 f))(hr:Room (k+1) X.A)(hx:aR (CX1 X.prog X.w) X E2) :
  PE X (.Call (.Name x p) [] [] pos) (low X.K cls E2 λσ M Q E=>∀p,M p=none->cl3 f [.ref p] (put M p (.ins i (B.kls i) [] [])) (λv M2=>v=.non/\if fz=true then aU Q (.ref p) M2 else Q (.ref p) M2) (λi M'=>E i (del M' p))):=by
 refine λpins s σ H Q2 I hl_=>ex9 hl_ λσ3 M Q E3 rm ds lk h back=>?_
 obtain⟨fd,ps,sp,kp,bd,F⟩:=hf;refine wpAny_Call_Name_kw (bC I hg hm ?_ hdb);refine PySem.W.callWith_K0 I.kIn mk.kp ?_;refine thn (kY (us:=[]) (vs:=[]) (Q:=λv H2=>∃x,v=.ref x/\∃M2,RelM X.K M2 H2/\TM X.K H H2/\if fz=true then aU Q (.ref x) M2 else Q (.ref x) M2) mk F hr bd hx I .nil λx dx n1 n2 n3=>?_) λu s2 q2=>mR (fz:=fz) back q2
 obtain⟨a1,a2,a3,a4,b1,b2,b3,b4,b5⟩:=qx (fz:=fz) (i:=i) (t3:=cl3 f) (xs:=[]) (vs:=[]) (Q2:=Q2) .nil rm lk h x dx n1 n2 n3;exact⟨a1,a2,a3,a4,b1,b2,b3,λv H' d M' dv rm' t' q'=>by
  obtain⟨e,w⟩:=b4 v H' d M' dv rm' t' q';exact⟨e,x,rfl,w⟩,b5⟩
theorem zn(hk:∀i,i<B.nk->KOk X.K B fad i)(ho:PE X o (low X.K cls E2 to))(hv:PE X value (low X.K cls E2 tv))(hs:swapsWith value (some (.Attribute o (fnm f) pos')) pos.line X.env=pure false) :
  PS X (.Assign [.Attribute o (fnm f) pos'] value pos) (bv X.K cls E2 λD E σ M=>tv σ M (λy M1=>to σ M1 (λx M2=>match x with
  |.ref a=>match M2 a with
   |some (.ins i C ns ds)=>(C=B.kls i/\i<B.nk/\B.fok i f=true/\ns.length<1000)/\D.nx σ (put M2 a (.ins i C (cm f ns) (cr f y ns ds)))
   |_=>False
  |_=>False) (E σ)) (E σ)):=
 (zV ho hv hs).imp λD2 σ H hl_=>ex9 hl_ λσ3 M D3 E3 rm ds lk h er=>aZ rm ds (lk.at ds) h λv H1 y M1 dy rm1 t1 q1=>aZ rm1 (ds.mono t1) ((lk.at ds).mono t1) q1 λw H2 x M2 dx rm2 t2 q2=>by
  split at q2
  ·rename_i a;split at q2
   ·rename_i i C ns es q;obtain⟨dx',vs,e,hl,dl⟩:=rm2 a _ q;obtain⟨⟨rfl,hi,hf,hz⟩,q2⟩:=q2;obtain⟨ws,h1,h2,h3⟩:=mI (f:=f) (u:=v) dl hl (dy.mono t2);refine⟨a,_,dx',_,dx,e,(hk i hi).cl,(hk i hi).na f hf,?_,?_⟩
    ·rw[List.length_zip,Hm,hl,Nat.min_self,<-hl];exact hz
    ·have tw:TM X.K H2 (upd H2 a (.ins (B.kls i) dx' (dP (fnm f) v ((ns.map fnm).zip vs)))):=.put e (λ_ z=>by cases z) λ_ _ z=>by cases z
     refine er.nx _ _ σ3 _ (rm2.write (u:=.ins i (B.kls i) (cm f ns) (cr f y ns es)) e (λ_ z=>by cases z) (λ_ _ z=>by cases z) ⟨dx',ws,by rw[ag,h1],h2,h3.mono tw⟩) (((ds.mono t1).mono t2).mono tw) ((t1.trans t2).trans tw) q2
   ·exact q2.elim
  ·exact q2.elim
theorem Bi(hg:Gl X x)(hm:X.mg x=some u)(r:RelV v u)(hdb:(x == ("__debug__" : Str))=false)(hd:∀H,Den X.K H d v):PE X (.Name x pos) (low X.K cls E2 λ_ M Q _=>Q d M):=nj (gK hg hm r hdb) hd
end
def VS(X:Cx)(r:D->Option Int->Option Int->MH->VK3->Prop):Prop:=
 ∀(pins:List (Addr×Obj)) (s:Shared)(σ:St)(H:Hp)(x:D)(v:V)(v2 vl vu:Value)(lo hi:Option Int)(sl:Addr)(M:MH)(Q:VK3)(Q2:VK),Inv X pins σ H s->RelV v v2->Den X.K H x v->RelM X.K M H->s.heap.IsSliceOf sl vl vu .none->IsPart vl lo->IsPart vu hi->r x lo hi M Q->Back X.K H Q Q2->
  ∃T id,typeLookup (.type T) "__getitem__"=pure (some (.builtin id))/\s.TypeIs v2 T/\wpAny (model X.prog X.w) X.A (getItem v2 (.ref sl)) (EP X pins σ Q2) X.xe s
section
variable {X:Cx}{lo:Option Expr}
theorem VS.op(h:VS X r):SlR X (λv lo hi H Q2=>∃x M Q,Den X.K H x v/\RelM X.K M H/\r x lo hi M Q/\Back X.K H Q Q2):=by
 intro pins s σ H v v2 vl vu lo hi sl Q2 I rv hs pl pu ⟨x,M,Q,dx,rm,q,back⟩;exact h pins s σ H x v v2 vl vu lo hi sl M Q Q2 I rv dx rm hs pl pu q back
theorem oj{K:Iz}{lo:Option Int}(dl:DenL K H ds vs):DenL K H (c5 ds lo hi) (oI vs lo hi):=by
 unfold c5 oI;rw[dl.length];exact (dl.drop _).take _
theorem Bn(fz:Bool):VS X (gy fz):=by
 intro pins s σ H x v v2 vl vu lo hi sl M Q Q2 I rv dx rm hs pl pu q back;unfold gy at q;split at q
 ·rename_i ds;obtain⟨p,vs,rfl,sq,dl⟩:=dx;obtain⟨hw,q⟩:=q;refine yJ pins s σ H _ v2 vl vu lo hi sl Q2 I rv hs pl pu ⟨p,vs,rfl,sq,λz=>?_,λp' hp=>?_⟩
  ·unfold whole at hw;rw[dl.length,z.1,z.2]at hw;simp at hw
  ·exact back _ _ (.tup (c5 ds lo hi)) _ ⟨p',_,rfl,.of ag,(oj dl).mono (.new hp)⟩ (rm.grow hp) (.new hp) q
 ·rename_i z;cases (show v=.str z from dx);obtain⟨t,rfl⟩:=rv;obtain⟨hz,q⟩:=q;have fin:∀t' k,EP X pins σ Q2 (.str (Txt.slice z lo hi) t') {s with toks:=k}:=λt' k=>⟨.str _,H,I.tok _,⟨_,rfl⟩,back _ _ _ _ jl rm (.refl _) q⟩
  refine⟨"str",_,PySem.F.slot_str_getitem.lookup,typeIs_str _ _ _,?_⟩;cases pl with
  |none=>
   cases pu with
   |none=>exact wpAny_getItem_str_slice (l:=none) (u:=none) (st:=none) hs rfl (post_val_or_str ⟨Hw (Txt.slice_le z _ _) hz,fin⟩)
   |int j u=>exact wpAny_getItem_str_slice (l:=none) (u:=some (j,u)) (st:=none) hs rfl (post_val_or_str ⟨Hw (Txt.slice_le z _ _) hz,fin⟩)
  |int i u'=>
   cases pu with
   |none=>exact wpAny_getItem_str_slice (l:=some (i,u')) (u:=none) (st:=none) hs rfl (post_val_or_str ⟨Hw (Txt.slice_le z _ _) hz,fin⟩)
   |int j u=>exact wpAny_getItem_str_slice (l:=some (i,u')) (u:=some (j,u)) (st:=none) hs rfl (post_val_or_str ⟨Hw (Txt.slice_le z _ _) hz,fin⟩)
 ·split at q
  ·rename_i ds e;obtain⟨p,vs,rfl,hq,dl⟩:=bq rm e dx;cases rv;obtain⟨its,r,ht,hz⟩:=I.list hq.sq;have hlen:=r.length;refine⟨"list",_,slot_list_getitem.lookup,ht.isList.typeIs,?_⟩;refine wpAny_getItem_list_slice ht.isList hs pl pu .none (by simp) ?_ (by rw[Hu]<;>omega)
   rw[kK,<-hlen];have I2:=I.laid (t':=s.toks) (o:=.lst (oI vs lo hi)) (h':=s.heap.push {cls:=.type "list",data:=.seq ((its.drop (HT.sIx vs.length 0 lo)).take (HT.sIx vs.length vs.length hi-HT.sIx vs.length 0 lo)).toArray 0}) (λb ob q=>Hd _ q) (Hh _)
    ⟨Hw (iO vs lo hi) hz,_,0,(r.drop (HT.sIx vs.length 0 lo)).take (HT.sIx vs.length vs.length hi-HT.sIx vs.length 0 lo),Hn _ rfl⟩
   exact bZ I2 (I.hok.fresh (Hh _)) (oj dl) rm (.refl _) q back
  ·exact q.elim
theorem En(ha:PE X a (low X.K cls E2 ta))(hl:PO X lo (r0 X.K cls E2 tl))(hh:PO X hi (r0 X.K cls E2 th)) :
  PE X (.Subscript a (.Slice lo hi none p2) pos) (low X.K cls E2 λσ M Q E=>ta σ M (λx M1=>tl σ M1 (λl M2=>th σ M2 (λh M3=>gy fz x l h M3 Q) E) E) E):=
 (uD (Bn fz).op ha hl hh).imp λσ H Q2 hl_=>ex9 hl_ λσ3 M Q E3 rm ds lk h back=>aZ rm ds lk h λv H1 x M1 dx rm1 t1 q1=>xR rm1 (ds.mono t1) (lk.mono t1) q1 λl H2 M2 rm2 t2 q2=>xR rm2 ((ds.mono t1).mono t2) ((lk.mono t1).mono t2) q2 λh H3 M3 rm3 t3 q3=>
  ⟨x,M3,Q,(dx.mono t2).mono t3,rm3,q3,back.mono ((t1.trans t2).trans t3)⟩
theorem qv{K:Iz}(dl:DenL K H ds vs):∀n:Nat,DenL K H (List.replicate n ds).flatten (List.replicate n vs).flatten
 |0=>rfl
 |n+1=>by
  rw[List.replicate_succ,List.replicate_succ,List.flatten_cons,List.flatten_cons];exact dl.append (qv dl n)
theorem AO(fz:Bool):VO X (binaryOp .Mult) (gI fz):=by
 intro pins s σ H x y v u v2 u2 M Q Q2 I rv ru dx dy rm q back;unfold gI at q;split at q
 ·rename_i ds k e;obtain⟨⟨h1,h2,hz⟩,q⟩:=q;obtain⟨p,vs,rfl,hq,dl⟩:=bq rm e dx;cases (show u=.int k from dy);obtain⟨t,rfl⟩:=ru;cases rv;obtain⟨z,its,n,r,hl,e⟩:=I.rdL hq;have hlen:its.toArray.size*k.toNat<=sizeLine:=by rw[Hu,<-hl,<-dl.length];exact hz
  have hcap:¬ its.toArray.size*k.toNat > (2 ^ 63-1) / 8:=by
   have:(sizeLine:Nat)<=(2 ^ 63-1) / 8:=by decide
   omega
  have hfit:¬ (!Builtin.List.listFitsIndex k)=true:=by
   rw[fitsIndex_both h1 h2];exact Hq
  have hlong:¬ Builtin.List.listTooLong (its.toArray.size*k.toNat)=true:=by
   rw[sJ hlen];exact Hq
  have hnew:List.foldl (λx1 x2=>x1++x2) #[] (List.replicate (if its.toArray.isEmpty=true then 0 else k.toNat) its.toArray)=(List.replicate k.toNat its).flatten.toArray:=by
   have f0:∀m:Nat,List.foldl (λx1 x2=>x1++x2) #[] (List.replicate m its.toArray)=(List.replicate m its).flatten.toArray:=λm=>by
    have:=kU its m [];rw[List.nil_append]at this;exact this
   rw[f0];cases its with
   |nil=>simp
   |cons a r'=>rw[Hc (by simp)]
  refine wpAny_binaryOp_repeat_ref (T:="list") (U:="int") (by decide) ⟨_,e,rfl⟩ (λs'=>typeIs_int s' k t) noFill_list_mul PySem.F.fills_int_mul PySem.F.slot_int_rmul repeat_list PySem.F.slot_int_index.lookup
   (call_meets PySem.F.slot_int_rmul (typeIs_int s k t) PySem.F.entry_int_rmul (PySem.F.args_int_rmul_2 _ _) (int___rmul___int_list k t p its.toArray n)
    ⟨e,rfl,⟨_,e,rfl⟩,call_meets PySem.F.slot_list_mul ⟨_,e,rfl⟩ PySem.F.entry_list_mul (PySem.F.args_list_mul_2 _ _) (AutoListH.list___mul___list_int_3 p its.toArray n k t hfit hcap hlong) ⟨e,?_⟩⟩)
  rw[hnew];exact bZ (I.lnew (t':=s.toks) (r.rep k.toNat) (by rw[xm,Nat.mul_comm,<-dl.length];exact hz)) I.fresh (qv dl _) rm (.refl _) q back
 ·exact q.elim
theorem A6(ha:PE X a (low X.K cls E2 ta))(hb:PE X b (low X.K cls E2 tb)) :
  PE X (.BinOp a .Mult b pos) (low X.K cls E2 λσ M Q E=>ta σ M (λx M1=>tb σ M1 (λy M2=>gI fz x y M2 Q) E) E):=Al (AO fz) ha hb
theorem lq{K:Iz}:∀{ds:List D}{bs:List Bool}{vs:List V}{us:List Value},eQ ds=some bs->DenL K H ds vs->Vals vs us->LSm.BoolsAre us bs
 |[],bs,vs,us,e,dl,r=>by
  cases (show vs=[] from dl);cases r;cases (show some []=some bs from e);exact .nil
 |d::ds,bs,_,us,e,dl,r=>by
  obtain⟨v,vs,rfl,dv,dl⟩:=dl;cases r with
  |cons ru rt=>
   cases d with
   |bl b=>
    simp only[eQ]at e;split at e
    ·rename_i ns q;cases e;cases (show v=.bl b from dv);cases ru;exact .cons b (lq q dl rt)
    ·cases e
   |_=>cases e
theorem xy(al:Bool)(hc:X.calm=true):VC X (.builtin (if al=true then "all" else "any")) (rBi (if al=true then .all else .any)):=by
 intro pins s σ H xs vs us M Q Q2 I r dl rm q back;have hh:X.A.handled=none:=I.ok.hd hc;have key:∃x ds bs,xs=[x]/\ai M x=some ds/\eQ ds=some bs/\Q (.bl (if al=true then bs.all id else bs.any id)) M:=by
  cases al with
  |true=>
   simp only[if_true,rBi]at q;split at q
   ·split at q
    ·split at q
     ·exact⟨_,_,_,rfl,by assumption,by assumption,q⟩
     ·exact q.elim
    ·exact q.elim
   ·exact q.elim
  |false=>
   simp only[HE,if_false,rBi]at q;split at q
   ·split at q
    ·split at q
     ·exact⟨_,_,_,rfl,by assumption,by assumption,q⟩
     ·exact q.elim
    ·exact q.elim
   ·exact q.elim
 obtain⟨x,ds,bs,rfl,e1,e2,q⟩:=key;obtain⟨v,rfl,dv⟩:=iH dl;obtain⟨u,rfl,ru⟩:=iP r;obtain⟨p,ws,rfl,hq,dl2⟩:=bq rm e1 dv;cases ru;obtain⟨its,r2,pl',hz⟩:=I.list hq.sq;have hb:=lq e2 dl2 r2;have hl:=pl'.isList;have hlt:p<s.heap.objs.size:=by obtain⟨_,e,_⟩:=hl;exact Hi e
 have fin:∀h' tk,(∀b o,s.heap.get? b=some o->h'.get? b=some o)->EP X pins σ Q2 (.bool (if al=true then bs.all id else bs.any id)) {s with heap:=h',toks:=tk}:=λh' tk hk=>
  ⟨.bl _,H,I.kept (t':=tk) hk,rfl,back _ _ _ _ bn rm (.refl _) q⟩
 cases al with
 |true=>
  refine call_all_walk (wpAny_pyIter_list hl ?_);refine⟨s.heap.objs.size,[s.heap.objs.size,p],[s.heap.objs.size],its.toArray.size,_,_,λi=>(bs[i]?).getD true,rfl,Walks.list (A:=X.A.in1) hh _ p (Hx hlt) its.toArray,
   ⟨⟨_,Hn _ rfl,rfl,rfl⟩,hl.push _⟩,λi v s' Q' E' hP hQ=>?_,λh' tk hk=>?_⟩
  ·obtain⟨b,e,rfl⟩:=hb.get i v (by simpa using hP)
   simp only[e,Option.getD_some]at hQ;exact HW hQ
  ·have e:((List.range its.toArray.size).all λi=>(bs[i]?).getD true)=bs.all id:=by
    rw[Hu,hb.length];exact LSm.range_all bs
   rw[e];exact fin h' tk (LSm.kept_iter hk)
 |false=>
  refine call_any_walk (wpAny_pyIter_list hl ?_);refine⟨s.heap.objs.size,[s.heap.objs.size,p],[s.heap.objs.size],its.toArray.size,_,_,λi=>(bs[i]?).getD false,rfl,Walks.list (A:=X.A.in1) hh _ p (Hx hlt) its.toArray,
   ⟨⟨_,Hn _ rfl,rfl,rfl⟩,hl.push _⟩,λi v s' Q' E' hP hQ=>?_,λh' tk hk=>?_⟩
  ·obtain⟨b,e,rfl⟩:=hb.get i v (by simpa using hP)
   simp only[e,Option.getD_some]at hQ;exact HW hQ
  ·have e:((List.range its.toArray.size).any λi=>(bs[i]?).getD false)=bs.any id:=by
    rw[Hu,hb.length];exact LSm.range_any bs
   rw[e];exact fin h' tk (LSm.kept_iter hk)
end
def TyV(X:Cx)(T:String)(x:V)(H:Hp):Prop:=∀(pins:List (Addr×Obj)) (σ:St)(s:Shared)(v:Value),Inv X pins σ H s->RelV x v->s.TypeIs v T/\∀a,v=.ref a->∃ob,s.heap.get? a=some ob/\ob.dict=none
section
variable {X:Cx}{o:Expr}{apos cpos pos:Pos}{id:String}
theorem yR(pa:PlainAttrs T)(slot:Slot T name id)(hty:typeOf (.builtin id)=pure (.type "method_descriptor"))(hm:MtR X id r)(ho:PE X o t2)(ha:PA X (e::es) ta)
  (hbase:attributeBase o name X.env (eval o X.env)=eval o X.env)
  (hfew:((backTo cpos (starEach (e::es) X.env)).all (λx=>!x.1)&&(backToKw cpos (keywordEach [] X.env)).all (λx=>x.1.isSome)
   &&decide ((e::es).length+([]:List Keyword).length+(if ([]:List Keyword).isEmpty then 0 else 1)<30))=true)
  (hline:(apos.endLine == cpos.line)=true) (hs:starEach (e::es) X.env=(false,eval e X.env)::starEach es X.env) (hplain:(backTo cpos (starEach es X.env)).any (·.1)=false) :
  PE X (.Call (.Attribute o name apos) (e::es) [] cpos) (λσ H Q=>t2 σ H λx H1=>TyV X T x H1/\ta σ H1 λxs H2=>r x xs H2 Q):=by
 intro pins s σ H Q I h;refine wpAny_Call_method_late hbase hfew hline rfl (thn (ho pins s σ H _ I h) λv s1 ⟨x,H1,I1,r1,ty,q1⟩=>?_)
 obtain⟨h1,h2⟩:=ty pins σ s1 v I1 r1;refine⟨T,id,pa,slot,hty,h1,h2,?_⟩;have hA:=ha cpos pins s1 σ H1 _ I1 q1;rw[hs]at hA ⊢;refine Calls.callWith_builtin (by show (false||(backTo cpos (starEach es X.env)).any (·.1))=false;rw[hplain]<;>rfl) (Calls.evalArgs_plain ?_)
 exact thn hA λus s2 ⟨vs,H2,I2,r2,q2⟩=>hm pins s2 σ H2 x vs v us Q I2 r1 r2 q2
theorem wE(pa:PlainAttrs T)(slot:Slot T name id)(hty:typeOf (.builtin id)=pure (.type "method_descriptor"))(hm:MtR X id r)(ho:PE X o t2)
  (hbase:attributeBase o name X.env (eval o X.env)=eval o X.env) (hline:(apos.endLine == cpos.line)=true):PE X (.Call (.Attribute o name apos) [] [] cpos) (λσ H Q=>t2 σ H λx H1=>TyV X T x H1/\r x [] H1 Q):=by
 intro pins s σ H Q I h;refine wpAny_Call_method0_late hbase hline (thn (ho pins s σ H _ I h) λv s1 ⟨x,H1,I1,r1,ty,q1⟩=>?_)
 obtain⟨h1,h2⟩:=ty pins σ s1 v I1 r1;exact⟨T,id,pa,slot,hty,h1,h2,Calls.callWith_builtin rfl (PySem.evalArgs_none (hm pins s1 σ H1 x [] v [] Q I1 r1 .nil q1))⟩
def VM(X:Cx)(id:String)(r:D->List D->MH->VK3->Prop):Prop:=
 ∀(pins:List (Addr×Obj)) (s:Shared)(σ:St)(H:Hp)(x:D)(xs:List D)(v:V)(vs:List V)(v2:Value)(us:List Value)(M:MH)(Q:VK3)(Q2:VK),Inv X pins σ H s->RelV v v2->Vals vs us->Den X.K H x v->DenL X.K H xs vs->RelM X.K M H->r x xs M Q->Back X.K H Q Q2->
  wpAny (model X.prog X.w) X.A (call (.builtin id) (v2::us)) (EP X pins σ Q2) X.xe s
theorem VM.op(h:VM X id r):MtR X id (λv vs H Q2=>∃x xs M Q,Den X.K H x v/\DenL X.K H xs vs/\RelM X.K M H/\r x xs M Q/\Back X.K H Q Q2):=by
 intro pins s σ H v vs v2 us Q2 I rv rs ⟨x,xs,M,Q,dx,dl,rm,q,back⟩;exact h pins s σ H x xs v vs v2 us M Q Q2 I rv rs dx dl rm q back
def TyD(X:Cx)(T:String)(tb:D->MH->Bool):Prop:=∀(x:D)(v:V)(M:MH)(H:Hp),Den X.K H x v->RelM X.K M H->tb x M=true->TyV X T v H
theorem Bt(pa:PlainAttrs T)(slot:Slot T name id)(hty:typeOf (.builtin id)=pure (.type "method_descriptor"))(hm:VM X id r)(ht:TyD X T tb)(ho:PE X o (low X.K cls E2 to))(ha:PA X (e::es) (dI X.K cls E2 tr))
  (hbase:attributeBase o name X.env (eval o X.env)=eval o X.env) (hn:(e::es).length<30)
  (hline:(apos.endLine == cpos.line)=true) (hs:starEach (e::es) X.env=(false,eval e X.env)::starEach es X.env) (hplain:(backTo cpos (starEach es X.env)).any (·.1)=false) :
  PE X (.Call (.Attribute o name apos) (e::es) [] cpos) (low X.K cls E2 λσ M Q E=>to σ M (λx M1=>tb x M1=true/\tr σ M1 (λxs M2=>r x xs M2 Q) E) E):=by
 have hst:(backTo cpos (starEach (e::es) X.env)).any (·.1)=false:=by
  rw[hs];show ((false,_)::backTo cpos (starEach es X.env)).any (·.1)=false;rw[List.any_cons,hplain];rfl
 refine (yR pa slot hty hm.op ho ha hbase (gG hst hn) hline hs hplain).imp λσ H Q2 hl_=>ex9 hl_ λσ3 M Q E3 rm ds lk h back=>aZ rm ds lk h λv H1 x M1 dx rm1 t1 q1=>?_
 exact⟨ht x v M1 H1 dx rm1 q1.1,eu rm1 (ds.mono t1) (lk.mono t1) q1.2 λvs H2 xs M2 dl rm2 t2 q2=>⟨x,xs,M2,Q,dx.mono t2,dl,rm2,q2,back.mono (t1.trans t2)⟩⟩
theorem xK(pa:PlainAttrs T)(slot:Slot T name id)(hty:typeOf (.builtin id)=pure (.type "method_descriptor"))(hm:VM X id r)(ht:TyD X T tb)(ho:PE X o (low X.K cls E2 to))
  (hbase:attributeBase o name X.env (eval o X.env)=eval o X.env) (hline:(apos.endLine == cpos.line)=true) :
  PE X (.Call (.Attribute o name apos) [] [] cpos) (low X.K cls E2 λσ M Q E=>to σ M (λx M1=>tb x M1=true/\r x [] M1 Q) E):=
 (wE pa slot hty hm.op ho hbase hline).imp λσ H Q2 hl_=>ex9 hl_ λσ3 M Q E3 rm ds lk h back=>aZ rm ds lk h λv H1 x M1 dx rm1 t1 q1=>⟨ht x v M1 H1 dx rm1 q1.1,x,[],M1,Q,dx,.nil,rm1,q1.2,back.mono t1⟩
theorem jd:TyD X "dict" (tyB .get):=λx v M H dx rm h pins σ s v2 I rv=>by
 simp only[tyB,Bool.or_eq_true]at h;rcases h with h|h
 ·obtain⟨⟨ks,ds⟩,e⟩:=Iv.mp h;obtain⟨p,vs,rfl,rd,_⟩:=ng e rm dx;cases rv;obtain⟨_,_,ws,_,dd⟩:=iS I.hok rd;refine⟨dd.typeIs,λb q=>?_⟩
  cases q;obtain⟨ob,_,_,h1,h2,_⟩:=dd;exact⟨ob,h1,h2.2.1⟩
 ·obtain⟨⟨ks,ds⟩,e⟩:=Iv.mp h;obtain⟨p,vs,xs,rfl,rd,z,_⟩:=gV e rm dx;cases rv;have dd:=cw I rd z;refine⟨dd.typeIs,λb q=>?_⟩
  cases q;obtain⟨ob,_,_,h1,h2,_⟩:=dd;exact⟨ob,h1,h2.2.1⟩
theorem OptDen.getD{K:Iz}{o:Option D}{ov:Option V}(h:OptDen K H o ov)(dv:Den K H d v):Den K H (o.getD d) (ov.getD v):=by
 cases o with
 |none=>cases ov with
  |none=>exact dv
  |some _=>exact h.elim
 |some d'=>cases ov with
  |none=>exact h.elim
  |some v'=>exact h
theorem lw{K:Iz}(h:DenL K H (d::ds) vs):∃v ws,vs=v::ws/\Den K H d v/\DenL K H ds ws:=by
 obtain⟨v,r,e,dv,dl⟩:=h;exact⟨v,r,e,dv,dl⟩
theorem sN(hu:X.A.units+64<cLine):VM X "dict.get" (rBm .get):=by
 intro pins s σ H x xs v vs v2 us M Q Q2 I rv rs dx dl rm q back;simp only[rBm]at q;split at q
 ·rename_i y;split at q
  ·rename_i o e;obtain⟨yv,rfl,dy⟩:=iH dl;obtain⟨u,rfl,ru⟩:=rs.one;obtain⟨a,ov,rfl,g,od⟩:=g4 e rm dx dy;cases rv;exact AT (by omega) I g ru λw' s' I' rw'=>⟨_,H,I',rw',back _ _ _ _ (od.getD (show Den X.K H .non .non from rfl)) rm (.refl _) q⟩
  ·exact q.elim
 ·rename_i y z;split at q
  ·rename_i o e;obtain⟨yv,wv,rfl,dy,dw⟩:=lw dl;obtain⟨zv,rfl,dz⟩:=iH dw;obtain⟨u,w,rfl,ru,rw'⟩:=rs.two;obtain⟨a,ov,rfl,g,od⟩:=g4 e rm dx dy;cases rv;exact AM (by omega) I g ru rw' λw' s' I' rw'=>⟨_,H,I',rw',back _ _ _ _ (od.getD dz) rm (.refl _) q⟩
  ·exact q.elim
 ·exact q.elim
theorem zM(hu:X.A.units+64<cLine):zT X (λo i v H R2=>∃x k y M R,Den X.K H x o/\Den X.K H k i/\Den X.K H y v/\RelM X.K M H/\bJ x k y M R/\∀H' M',RelM X.K M' H'->TM X.K H H'->R M'->R2 H'):=by
 intro pins s σ H o i v ov iv u R2 I ro ri rv ⟨x,k,y,M,R,dx,dk,dy,rm,q,back⟩;unfold bJ at q;split at q
 ·rename_i a;cases (show o=.ref a from dx);split at q
  ·rename_i ds n e;split at q
   ·rename_i j ej;cases (show i=.int n from dk);obtain⟨vs,e1,dl⟩:=rm a _ e;have tw:TM X.K H (upd H a (.lst (vs.set j v))):=.put e1 (λ_ z=>by cases z) λ_ _ z=>by cases z
    refine uB pins s σ H _ _ v ov iv u R2 I ro ri rv ⟨a,vs,n,j,rfl,rfl,e1,by rw[<-dl.length];exact ej,?_⟩
    exact back _ _ (rm.write (u:=.lst (ds.set j y)) e1 (λ_ z=>by cases z) (λ_ _ z=>by cases z) ⟨_,ag,(dl.set dy j).mono tw⟩) tw q
   ·exact q.elim
  ·rename_i ks ds e;split at q
   ·rename_i k' ek;cases ro;exact zt (by omega) I rm e (mV ek dk) ri dy rv q.1 q.2 back
   ·exact q.elim
  ·rename_i ks ds e;split at q
   ·rename_i k' ek;cases ro;obtain⟨b,rfl,sq⟩:=jP ek dk;cases ri;exact AK (by omega) I rm e sq dy rv q.1 q.2 back
   ·exact q.elim
  ·exact q.elim
 ·exact q.elim
theorem wb(hu:X.A.units+64<cLine)(ho:PE X o (low X.K cls E2 to))(hi:PE X ixe (low X.K cls E2 ti))(hv:PE X value (low X.K cls E2 tv))
  (ha:∀v,assign (.Subscript o ixe pos') X.env v=(do
   let ov<-holding [v] (eval o X.env)
   let iv<-holding [v,ov] (eval ixe X.env)
   standAt pos'
   holding [v,ov,iv] (setItem ov iv v)
   release [v,ov,iv] [])) (hs:swapsWithSole [.Subscript o ixe pos'] value pos.line X.env=pure false) (hw:swappedStores [.Subscript o ixe pos'] value X.env=pure none) (h1:(assignEach [.Subscript o ixe pos'] X.env).map (·.2)=[assign (.Subscript o ixe pos') X.env]) :
  PS X (.Assign [.Subscript o ixe pos'] value pos) (bv X.K cls E2 λD E σ M=>tv σ M (λy M1=>to σ M1 (λx M2=>ti σ M2 (λk M3=>bJ x k y M3 λM4=>D.nx σ M4) (E σ)) (E σ)) (E σ)):=
 (yc hv (zK ho hi (zM hu) ha) hs hw h1).imp λD2 σ H hl_=>ex9 hl_ λσ3 M D3 E3 rm ds lk h er=>aZ rm ds (lk.at ds) h λv H1 y M1 dy rm1 t1 q1=>
  aZ rm1 (ds.mono t1) ((lk.at ds).mono t1) q1 λw H2 x M2 dx rm2 t2 q2=>aZ rm2 ((ds.mono t1).mono t2) (((lk.at ds).mono t1).mono t2) q2 λz H3 k M3 dk rm3 t3 q3=>
   ⟨x,k,y,M3,_,dx.mono t3,dk,(dy.mono t2).mono t3,rm3,q3,λH' M' rm' t' q'=>er.nx _ _ σ3 M' rm' ((((ds.mono t1).mono t2).mono t3).mono t') (((t1.trans t2).trans t3).trans t') q'⟩
end
end L2
namespace L2
open PySem PySem.Spec PyProof.Rows PySem.W
theorem je(f:α->β):∀(l:List α)(i:Nat),(l.eraseIdx i).map f=(l.map f).eraseIdx i
 |[],_=>rfl
 |_::_,0=>rfl
 |x::l,i+1=>by simp[je f l i]
section
variable {A:Around}{s:Shared} [DecidableEq κ] {knd:HeapKind prog w κ}{xs:List (κ×Addr×Value)}{p:Addr×Value}
theorem l9(hu:knd.room A)(hkey:knd.is s.heap k a)(hm:s.heap.DictOfH knd d xs)(hj:xs[j]?=some (k,p))(hsz:xs.length<=sizeLine)
  (hQ:∀h',h'.DictOfH knd d (xs.eraseIdx j)->Heap.SameBut d s.heap h'->Q (some (entryOfKey knd (k,p))) {s with heap:=h',toks:=s.toks+knd.draws k}) :
  wpAny (model prog w) A (Builtin.Dict.takeOut d (.ref a)) Q E s:=by
 obtain⟨o,es,ep,ho,hc,hd,he,his,hn⟩:=hm;unfold Builtin.Dict.takeOut
 try with_reducible refine HR ?_
 refine G8 (knd.pyHash hu hkey ?_);refine G8 (wpAny_dictFind_heap (s:={s with toks:=s.toks+knd.draws k}) hu hkey ho hd he his hn ?_ ?_)
 ·intro hno;exact absurd hj (hno j p)
 ·intro i q hi;obtain rfl:i=j:=idxH_unique hn hi hj;refine G8 (Ic (s:={s with toks:=s.toks+knd.draws k}) ho hd ?_)
  rw[entry_at he i,hj];refine G8 (wpAny_updateDictKeys (hz:=by have e:=size_of_entries he;omega) (s:={s with toks:=s.toks+knd.draws k}) ho hd (Ha (hQ _ ⟨_,_,ep+1,HH _ ho (Obj.isFreed_of_dict (Obj.data_mapDictKeys hd _)),
   hc.mapDictKeys _,Obj.data_mapDictKeys hd _,?_,?_,?_⟩ (Heap.SameBut.update ..))))
  ·have e1:(es.eraseIdxIfInBounds i).toList=es.toList.eraseIdx i:=by simp
   rw[e1,he,je]
  ·intro x hx;exact knd.keeps (his x (List.mem_of_mem_eraseIdx hx)) ho hd (Heap.SameBut.update ..)
  ·rw[je];exact hn.sublist (List.eraseIdx_sublist _ _)
theorem sX:MeetsIn prog w (Builtin.«dict.pop» ⟨[.ref d,.ref a],[]⟩) (λA R s=>∃(k:κ) (xs:List (κ×Addr×Value)) (j:Nat) (p:Addr×Value),knd.room A.in1/\knd.is s.heap k a/\s.heap.DictOfH knd d xs/\xs.length<=sizeLine/\xs[j]?=some (k,p)/\
  ∀h',h'.DictOfH knd d (xs.eraseIdx j)->Heap.SameBut d s.heap h'->R (.ok (.ret p.2)) {s with heap:=h',toks:=s.toks+knd.draws k}):=
 .of_wp λA R s ⟨k,xs,j,p,hu,hkey,hm,hsz,hj,h⟩=>by
  obtain⟨o,es,ep,ho,hc,hd,he,his,hn⟩:=id hm;unfold Builtin.«dict.pop»;refine G8 ?_;unfold Builtin.Dict.keyAndDefault;refine G8 (wpAny_notOrdered_dict hm.typeIs ?_);show wpAny _ _ (pure (d,Value.ref a,none)) _ _ s;refine Ha ?_;have kp:(keyPart (Value.ref a)).isSome=false:=rfl;simp only[kp,HE,if_false];have ne:es.isEmpty=false:=by
   have:=size_of_entries he;have hl:j<xs.length:=(Hr.mp hj).1;rw[Array.isEmpty_eq_false_iff];intro z;rw[z]at this;simp at this;omega
  refine G8 (Ic ho hd (G8 (Ha ?_)));simp only[ne,HE,if_false];refine G8 (l9 hu hkey hm hj hsz λh' hm' hs'=>?_)
  simp only[Option.isNone_some,HE,if_false];exact G8 (wpAny_letGo (Ha ⟨p.2,rfl,h h' hm' hs'⟩))
end
theorem qp{K:Iz}:∀{xs:List (List Int×Addr×Value)}{ds:List D}{vs:List V},DenL K H ds vs->Vals vs (xs.map (·.2.2))->getD (xs.map (·.1)) ds k=some y->
  ∃j p v,xs[j]?=some (k,p)/\Den K H y v/\RelV v p.2/\(xs.eraseIdx j).map (·.1)=aF (xs.map (·.1)) k/\DenL K H (aV (xs.map (·.1)) ds k) (vs.eraseIdx j)/\Vals (vs.eraseIdx j) ((xs.eraseIdx j).map (·.2.2))
 |[],ds,vs,dl,rl,h=>by simp[getD]at h
 |x::xs,[],vs,dl,rl,h=>by simp[getD]at h
 |x::xs,d::ds,_,dl,rl,h=>by
  obtain⟨v,vs,rfl,dv,dl⟩:=dl;rw[Hl]at rl;cases rl with
  |cons h1 h2=>
   by_cases z:x.1=k
   ·simp only[Hl,getD,Hg z]at h;cases h;refine⟨0,x.2,v,by simp[<-z],dv,h1,?_,?_,?_⟩
    ·simp[aF,z]
    ·simp only[Hl,aV,Hg z];exact dl
    ·exact h2
   ·simp only[Hl,getD,Hc z]at h;obtain⟨j,p,v',a1,a2,a3,a4,a5,a6⟩:=qp dl h2 h;refine⟨j+1,p,v',by simpa using a1,a2,a3,?_,?_,?_⟩
    ·simp[aF,z,a4]
    ·simp only[Hl,aV,Hc z,List.eraseIdx_cons_succ];exact⟨v,_,rfl,dv,a5⟩
    ·exact .cons h1 a6
section
variable {X:Cx}
theorem pN(hu:X.A.units+64<cLine):VM X "dict.pop" (rBm .popd):=by
 intro pins s σ H x xs v vs v2 us M Q Q2 I rv rs dx dl rm q back;simp only[rBm]at q;split at q
 ·rename_i a y;split at q
  ·rename_i ks ds k e ek;split at q
   ·rename_i d0 hg;obtain⟨yv,rfl,dy⟩:=iH dl;obtain⟨u,rfl,ru⟩:=rs.one;cases (show v=.ref a from dx);cases rv;obtain⟨b,rfl,sq⟩:=jP ek dy;cases (show u=Value.ref b from ru);obtain⟨vs,xs,e0,z,dl0⟩:=rm a _ e;have dd:=cw I (.inl e0) z;rw[<-z.kx]at hg;obtain⟨j,p,v0,a1,a2,a3,a4,a5,a6⟩:=qp dl0 z.vx hg;have hsz:xs.length<=sizeLine:=by
     have:=congrArg List.length z.kx;rw[Hm]at this;rw[this];exact z.sz
    refine call_meetsIn PySem.F.slot_dict_pop dd.typeIs PySem.F.entry_dict_pop (PySem.F.args_dict_pop_2 _ _) (sX (knd:=tupleKind (intKind X.prog X.w))) ⟨k,xs,j,p,HQ (by omega),e8 I sq,dd,hsz,a1,λh' dd' hs=>?_⟩
    obtain⟨ob,es,ep,hq,hx,hd,he,_,_⟩:=dd';have tw:TM X.K H (upd H a (.ext (c6 a (xs.eraseIdx j)))):=.put e0 (λ_ z=>by cases z) λ_ _ z=>by cases z
    have tb:c6 a (xs.eraseIdx j) h':=⟨ob,es,ep,hq,hx,hd,he⟩;have I':Inv X pins σ (upd H a (.ext (c6 a (xs.eraseIdx j)))) {s with heap:=h',toks:=s.toks+(tupleKind (intKind X.prog X.w)).draws k}:=
     i9 I (by rw[e0];exact True.intro) hs ⟨ob,hq⟩ ⟨tb,⟨ob,hq⟩,λg1 g2 ⟨o1,es1,ep1,a1,a2,a3,a4⟩ kk=>⟨o1,es1,ep1,kk _ a1,a2,a3,a4⟩⟩
    have nd:(aF ks k).Nodup:=by
     rw[<-z.kx,<-a4];have:=z.nd;rw[<-z.kx]at this;rw[je];exact this.sublist (List.eraseIdx_sublist _ _)
    have sz:(aF ks k).length<=sizeLine:=by
     rw[<-z.kx,<-a4,Hm];exact Hw (List.length_eraseIdx_le _ _) hsz
    rw[z.kx]at a4 a5;exact⟨v0,_,I',a3,back _ _ _ _ (a2.mono tw) (rm.write (u:=.dt (aF ks k) (aV ks ds k)) e0 (λ_ z=>by cases z) (λ_ _ z=>by cases z) ⟨vs.eraseIdx j,_,ag,⟨a4,nd,sz,z.no,a6,λx hx'=>tw.t _ _ (z.at_ x (List.mem_of_mem_eraseIdx hx'))⟩,a5.mono tw⟩) tw q⟩
   ·exact q.elim
  ·exact q.elim
 ·exact q.elim
end
end L2
namespace L2
open PySem PySem.Spec PyProof.Rows
section
variable {X:Cx}
end
end L2
namespace L2
open PySem PySem.Spec PyProof.Rows SeqAt PySem.MeetsSeq AutoSeq1
end L2
namespace L2
open PySem PySem.Spec PyProof.Rows PySem.W
section
variable {X:Cx}
end
end L2
namespace L2
open PySem PySem.Spec PyProof.Rows PySem.Calls PySem.NumText PySem.W.KIN
end L2
namespace L2
open PySem PySem.Spec PyProof.Rows
def zE(K:Iz):Prop:=PySem.W.nsIn K cStatics "sys.int_max_str_digits"=some none
section
variable {X:Cx}
end
section
variable {X:Cx}{s:Shared}{h':Heap}
theorem Inv.turned2(I:Inv X pins σ H s)(k:∀b o,b≠it->b≠it'->s.heap.get? b=some o->h'.get? b=some o)(f:gD X pins H it)(f':gD X pins H it'):Inv X pins σ H {s with heap:=h',toks:=t'}:=by
 obtain⟨hn,hL,_,h1,h2,h3⟩:=f;obtain⟨hn',hL',_,h1',h2',h3'⟩:=f';have nit:∀b u,H b=some u->b≠it:=λb u e z=>by rw[z,hn]at e;cases e
 have nit':∀b u,H b=some u->b≠it':=λb u e z=>by rw[z,hn']at e;cases e
 have kc:∀b o,b∉[it,it']->s.heap.get? b=some o->h'.get? b=some o:=λb o hc e=>k b o (λz=>hc (by simp[z])) (λz=>hc (by simp[z])) e
 refine I.step (g':=s.gens) (d':=s.drawn) (ch:=[it,it']) (λb hb=>?_) (λb o _ _ hc e _=>kc b o hc e) (λb o _ _ hc e _=>⟨o.slots,kc b o hc e⟩) (λ_ _ _ _ n=>n)
  (λb o hc e=>⟨o,kc b o hc e⟩) (λ_ _ e=>e) (λ_ _ _ e=>e) (λb ps e=>⟨#[],by rw[e];simp⟩) (λm hm=>?_) (λb u e=>?_) I.bare
 ·rcases Hj.mp hb with rfl|hb
  ·exact⟨h1,hL,h2,h3⟩
  ·have e:b=it':=by simpa using hb
   subst e;exact⟨h1',hL',h2',h3'⟩
 ·obtain⟨o,es,ep,ho,r⟩:=hm;exact⟨o,es,ep,k _ o (He hL) (He hL') ho,r⟩
 ·refine (I.hok b u e).stay (λc v hc q=>k c v ?_ ?_ q) (λ_ q=>q) λ_ _ q=>q
  ·rcases hc with z|z
   ·rw[z];exact nit b u e
   ·exact nit c _ z
  ·rcases hc with z|z
   ·rw[z];exact nit' b u e
   ·exact nit' c _ z
noncomputable def Ite(K:Iz)(a:Addr):It:=
 ⟨λi H=>∃xs x,SqL K H a xs/\xs[i]?=some x,λi H v H'=>∃p,v=.ref p/\H p=none/\∃x,(∀xs,SqL K H a xs->xs[i]?=some x)/\H'=upd H p (.tup [.int i,x]),λi H=>∃xs,SqL K H a xs/\xs.length<=i⟩
theorem qY{K:Iz}(a e it:Addr)(hne:e≠it):Turn P w K (.Tuple elts x1 pos) (Ite K a) [e,it] e (λi h=>(∃old,IsEnum h e it i old)/\h.IsListIter it a i) where
 mem:=by simp
 obj:=λi h st b hb=>by
  obtain⟨⟨old,h1⟩,h2⟩:=st;rcases Hj.mp hb with rfl|hb
  ·exact⟨_,h1,λv z=>by
    have z':Data.fields _=Data.cell v:=z;cases z'⟩
  ·have e':b=it:=by simpa using hb
   subst e';obtain⟨o,e1,c,d⟩:=h2;exact⟨o,e1,λv z=>by rw[d]at z;cases z⟩
 keep:=λi h h' st k=>⟨let ⟨old,h1⟩:=st.1;⟨old,k e (by simp) _ h1⟩,st.2.at λo e1=>k it (by simp) o e1⟩
 item:=by
  intro X hP hw hK hc i pins s σ H E I hf st hg;subst hP hw hK;obtain⟨xs,x,hq,hx⟩:=hg;obtain⟨its,rv,p,hz⟩:=I.list hq;obtain⟨u,hu,ru⟩:=rv.get hx;obtain⟨⟨old,he⟩,hit⟩:=st;have fe:=hf e (by simp)
  have fi:=hf it (by simp)
  have hel:e<s.heap.objs.size:=Hi he;obtain⟨oi,hoi,_⟩:=id hit;have hil:it<s.heap.objs.size:=Hi hoi;refine wpAny_pyNext_enum_item he hit p.isList (x:=u) (by simpa using hu) hne λh' heo hit' ht hsz k=>?_
  have hp:H s.heap.objs.size=none:=I.hok.fresh (Hh _);have I1:Inv X pins σ (upd H s.heap.objs.size (.tup [.int i,x])) {s with heap:=s.heap.push {cls:=.type "tuple",data:=.seq #[.int i s.toks,u]},toks:=s.toks+1}:=
   I.laid (λb o e1=>Hd _ e1) (Hh _) ⟨by show 2<=sizeLine;decide,[.int i s.toks,u],.cons ⟨_,rfl⟩ (.cons ru .nil),⟨_,Hn _ rfl,rfl,_,rfl⟩⟩
  have fe':gD X pins (upd H s.heap.objs.size (.tup [.int i,x])) e:=⟨by rw[ae (Hx hel)];exact fe.1,fe.2⟩
  have fi':gD X pins (upd H s.heap.objs.size (.tup [.int i,x])) it:=⟨by rw[ae (Hx hil)];exact fi.1,fi.2⟩
  have I2:Inv X pins σ (upd H s.heap.objs.size (.tup [.int i,x])) {s with heap:=h',toks:=s.toks+1}:=I1.turned2 (t':=s.toks+1) (λb o h1 h2 e1=>by
   by_cases hb:b=s.heap.objs.size
   ·subst hb;have e2:(s.heap.push {cls:=.type "tuple",data:=.seq #[.int i s.toks,u]}).get? s.heap.objs.size=some {cls:=.type "tuple",data:=.seq #[.int i s.toks,u]}:=Hn _ rfl;rw[e2]at e1;cases e1;exact ht
   ·exact k b o h1 h2 ((Heap.get?_push_ne _ _ _ hb).symm.trans e1)) fe' fi'
  refine⟨.ref s.heap.objs.size,rfl,wpAny_letOwnedTupleGo_enum (s:={s with heap:=h',toks:=s.toks+1}) heo λh2 he2 hs2=>?_⟩
  obtain⟨f0,f1,f2,f3,f4,f5⟩:=fe';have I3:Inv X pins σ (upd H s.heap.objs.size (.tup [.int i,x])) {s with heap:=h2,toks:=s.toks+1}:=I2.turned (t':=s.toks+1) (λb o hb e1=>(hs2.2 b hb).trans e1) f0 f1 f3 f4 f5
  refine⟨.ref s.heap.objs.size,_,I3,rfl,⟨_,rfl,hp,x,λys hy=>by rw[I.list_inj hy hq];exact hx,rfl⟩,⟨⟨_,he2⟩,?_⟩,λb hb=>?_⟩
  ·exact hit'.at λo e1=>(hs2.2 it (He hne)).trans e1
  ·rcases Hj.mp hb with rfl|hb
   ·exact f0
   ·have e':b=it:=by simpa using hb
    subst e';exact fi'.1
 done:=by
  intro X hP hw hK hc i pins s σ H E I hf st hg;subst hP hw hK;obtain⟨xs,hq,hx⟩:=hg;obtain⟨its,rv,p,hz⟩:=I.list hq;obtain⟨⟨old,he⟩,hit⟩:=st;obtain⟨f0,f1,f2,f3,f4,f5⟩:=hf it (by simp)
  have hl:=rv.length;exact wpAny_pyNext_enum_end (I.ok.hd hc) he hit p.isList (by simp;omega) λh' eb=>⟨rfl,I.turned (t':=s.toks) (λb o hb e=>eb b o hb e) f0 f1 f3 f4 f5⟩
 self:=λ_ _ _ _ _ st h=>let ⟨⟨_,he⟩,_⟩:=st;wpAny_pyIter_enum he h
theorem hU:∀{ds:List D}{k i:Nat}{d:D},ds[i]?=some d->(cH k ds)[i]?=some (.tup [.int (k+i:Nat),d])
 |[],_,_,_,h=>by simp at h
 |x::r,k,0,d,h=>by
  have e:x=d:=by simpa using h
  subst e;rfl
 |x::r,k,i+1,d,h=>by
  have:=hU (ds:=r) (k:=k+1) (i:=i) (d:=d) (by simpa using h)
  rw[show k+1+i=k+(i+1) by omega]at this
  exact this
theorem dH:∀{ds:List D}{k:Nat},(cH k ds).length=ds.length
 |[],_=>rfl
 |x::r,k=>by
  show (cH (k+1) r).length+1=r.length+1;rw[dH]
theorem wP{K:Iz}(sq:SqF K H0 p vs)(dl:DenL K H0 ds vs):ItOk K H0 (Ite K p) (cH 0 ds) (λ_=>True):=by
 have hlen:=dl.length;refine⟨λi H M t rm s hi=>?_,λi H M x H' t rm s hi y=>?_,λH M t rm s=>?_⟩
 ·rw[dH]at hi;have hi':i<vs.length:=by omega
  exact⟨vs,vs[i],(t.f _ _ sq).sq,by simp[hi']⟩
 ·obtain⟨q,rfl,hq,v,hv,rfl⟩:=y;obtain⟨d,e1,e2⟩:=(dl.mono t).get' (hv vs (t.f _ _ sq).sq);refine⟨.new hq,rm.grow hq,.tup [.int i,d],?_,⟨q,[.int i,v],rfl,.inl (.inl ag),⟨_,_,rfl,rfl,_,_,rfl,e2.mono (.new hq),rfl⟩⟩⟩;have:=hU (k:=0) e1;simpa using this
 ·rw[dH];exact⟨vs,(t.f _ _ sq).sq,by omega⟩
theorem su{K:Iz}:ItOk K H0 (Ite K p) (cH 0 ds) (λM=>M p=some (.lst ds)):=by
 refine⟨λi H M t rm s hi=>?_,λi H M x H' t rm s hi y=>?_,λH M t rm s=>?_⟩
 ·obtain⟨vs,e,dl⟩:=rm p _ s;rw[dH]at hi;have hi':i<vs.length:=by rw[<-dl.length];exact hi
  exact⟨vs,vs[i],.of e,by simp[hi']⟩
 ·obtain⟨vs,e,dl⟩:=rm p _ s;obtain⟨q,rfl,hq,v,hv,rfl⟩:=y;obtain⟨d,e1,e2⟩:=dl.get' (hv vs (.of e));refine⟨.new hq,rm.grow hq,.tup [.int i,d],?_,⟨q,[.int i,v],rfl,.inl (.inl ag),⟨_,_,rfl,rfl,_,_,rfl,e2.mono (.new hq),rfl⟩⟩⟩;have:=hU (k:=0) e1;simpa using this
 ·obtain⟨vs,e,dl⟩:=rm p _ s;rw[dH];exact⟨vs,.of e,by rw[dl.length];exact Hh _⟩
noncomputable def Bj(K:Iz)(ta:TA):TI:=λσ H R=>ta σ H λvs H1=>∃a,vs=[.ref a]/\(∃xs,SqL K H1 a xs)/\R (Ite K a) H1
theorem wg(hg:Gl X "enumerate")(hm:X.mg "enumerate"=none)(ha:PA X [a] ta)(hs:starEach [a] X.env=[(false,eval a X.env)]):PI X (.Tuple elts x1 pt) (.Call (.Name "enumerate" p) [a] [] pos) (Bj X.K ta):=by
 intro pins s σ H R I h;refine Call_ (eh I hg hm (u:=.type "enumerate") (by decide +kernel) (PyProof.Rows.callWith_type1 (thn (ha pos pins s σ H _ I h) λus s1 ⟨vs,H1,I1,r1,q1⟩=>?_) hs rfl))
 obtain⟨b,e,⟨xs,hq⟩,q⟩:=q1;subst e;obtain⟨u,rfl,ru⟩:=iP r1;cases ru;obtain⟨its,rv,pl,hz⟩:=I1.list hq;refine call_enumerate_list pl.isList λh' he hit hsz k=>?_
 refine wpAny_pyIter_enum (s:={s1 with heap:=h'}) he ?_
 refine⟨s1.heap.objs.size+1,[s1.heap.objs.size+1,s1.heap.objs.size],_,_,H1,rfl,I1.kept (t':=s1.toks) k,qY b (s1.heap.objs.size+1) s1.heap.objs.size (Nat.succ_ne_self _),⟨⟨_,he⟩,hit⟩,λc hc=>?_,q⟩
 have hle:s1.heap.objs.size<=c:=by
  rcases Hj.mp hc with rfl|hc
  ·exact Il _
  ·have e':c=s1.heap.objs.size:=by simpa using hc
   exact Nat.le_of_eq e'.symm
 exact I1.fpOk hle (I1.hok.fresh hle)
theorem zQ(hg:Gl X "enumerate")(hm:X.mg "enumerate"=none)(ha:PE X a (low X.K cls E2 ta))(hs:starEach [a] X.env=[(false,eval a X.env)]) :
  PI X (.Tuple elts x1 pt) (.Call (.Name "enumerate" p) [a] [] pos) (kj X.K cls E2 λσ M R E=>ta σ M (λx M1=>match x with
  |.rol ds=>R (cH 0 ds) (λ_=>True) M1
  |.ref a=>match M1 a with
   |some (.lst ds)=>R (cH 0 ds) (λM=>M a=some (.lst ds)) M1
   |_=>False
  |_=>False) E):=
 (wg hg hm (aI ha pa_nil hs) hs).imp λσ H R2 hl_=>ex9 hl_ λσ3 M R E3 rm ds lk h k=>aZ rm ds lk h λv H1 x M1 dx rm1 t1 q1=>by
  cases x with
  |rol es=>
   obtain⟨q,vs,rfl,sq,dl⟩:=dx;exact⟨q,rfl,⟨vs,sq.sq⟩,k _ _ _ _ _ (wP sq dl) rm1 t1 q1⟩
  |ref a=>
   cases (show v=.ref a from dx);have q1:(match M1 a with
    |some (.lst ds)=>R (cH 0 ds) (λM=>M a=some (.lst ds)) M1
    |_=>False):=q1
   split at q1
   ·rename_i ds e;obtain⟨vs,eH,dl⟩:=rm1 a _ e;exact⟨a,rfl,⟨vs,.of eH⟩,k _ _ _ _ _ su rm1 t1 q1⟩
   ·exact q1.elim
  |_=>exact q1.elim
end
section
variable {X:Cx}{s:Shared}{h':Heap}
theorem Inv.turnedL{t':Nat}{ch:List Addr}(I:Inv X pins σ H s)(k:∀b o,b∉ch->s.heap.get? b=some o->h'.get? b=some o)(f:∀b∈ch,gD X pins H b):Inv X pins σ H {s with heap:=h',toks:=t'}:=by
 have nit:∀b u,H b=some u->b∉ch:=λb u e z=>by rw[(f b z).1]at e;cases e
 refine I.step (g':=s.gens) (d':=s.drawn) (ch:=ch) (λb hb=>?_) (λb o _ _ hc e _=>k b o hc e) (λb o _ _ hc e _=>⟨o.slots,k b o hc e⟩) (λ_ _ _ _ n=>n)
  (λb o hc e=>⟨o,k b o hc e⟩) (λ_ _ e=>e) (λ_ _ _ e=>e) (λb ps e=>⟨#[],by rw[e];simp⟩) (λm hm=>?_) (λb u e=>?_) I.bare
 ·obtain⟨hn,hL,_,h1,h2,h3⟩:=f b hb;exact⟨h1,hL,h2,h3⟩
 ·obtain⟨o,es,ep,ho,r⟩:=hm;exact⟨o,es,ep,k _ o (λz=>(f _ z).2.1 rfl) ho,r⟩
 ·refine (I.hok b u e).stay (λc v hc q=>k c v ?_ q) (λ_ q=>q) λ_ _ q=>q
  rcases hc with z|z
  ·rw[z];exact nit b u e
  ·exact nit c _ z
noncomputable def Itz(K:Iz)(a b:Addr):It:=
 ⟨λi H=>∃xs ys x y,SqL K H a xs/\SqL K H b ys/\xs[i]?=some x/\ys[i]?=some y,λi H v H'=>∃p,v=.ref p/\H p=none/\∃x y,(∀xs,SqL K H a xs->xs[i]?=some x)/\(∀ys,SqL K H b ys->ys[i]?=some y)/\H'=upd H p (.tup [x,y]),λi H=>∃xs ys,SqL K H a xs/\SqL K H b ys/\(xs.length<=i\/ys.length<=i)⟩
theorem uZ{P:Program}{w:World}{K:Iz}{elts:List Expr}{x1:Nat}{pos:Pos}(a b z TI TO i1 i2:Addr)(D:ZipApart z TI TO i1 i2 a b):Turn P w K (.Tuple elts x1 pos) (Itz K a b) [z,TI,TO,i1,i2] z (λi h=>IsZip h z TI TO .none/\IsPair h TI (.ref i1) (.ref i2)/\(∃c d,IsPair h TO c d)/\h.IsListIter i1 a i/\h.IsListIter i2 b i) where
 mem:=by simp
 obj:=λi h st c hc=>by
  obtain⟨h1,h2,⟨_,_,h3⟩,h4,h5⟩:=st;simp only[Hj,HI,or_false]at hc;rcases hc with rfl|rfl|rfl|rfl|rfl
  ·exact⟨_,h1,λv q=>by have q':Data.fields _=Data.cell v:=q;cases q'⟩
  ·exact⟨_,h2,λv q=>by have q':Data.seq _ _=Data.cell v:=q;cases q'⟩
  ·exact⟨_,h3,λv q=>by have q':Data.seq _ _=Data.cell v:=q;cases q'⟩
  ·obtain⟨o,e1,c,d⟩:=h4;exact⟨o,e1,λv q=>by rw[d]at q;cases q⟩
  ·obtain⟨o,e1,c,d⟩:=h5;exact⟨o,e1,λv q=>by rw[d]at q;cases q⟩
 keep:=λi h h' st k=>by
  obtain⟨h1,h2,⟨c,d,h3⟩,h4,h5⟩:=st;exact⟨k z (by simp) _ h1,k TI (by simp) _ h2,⟨c,d,k TO (by simp) _ h3⟩,h4.at λo e1=>k i1 (by simp) o e1,h5.at λo e1=>k i2 (by simp) o e1⟩
 item:=by
  intro X hP hw hK hc i pins s σ H E I hf st hg;subst hP hw hK;obtain⟨xs,ys,x,y,hq,hq2,hx,hy⟩:=hg;obtain⟨its,rv,p,hz⟩:=I.list hq;obtain⟨its2,rv2,p2,hz2⟩:=I.list hq2;obtain⟨u,hu,ru⟩:=rv.get hx;obtain⟨u2,hu2,ru2⟩:=rv2.get hy;obtain⟨h1,h2,⟨c,d,h3⟩,h4,h5⟩:=st;have lt:∀{c o},s.heap.get? c=some o->c<s.heap.objs.size:=λe=>Hi e
  refine wpAny_pyNext_zip_item D h1 h2 h3 h4 h5 p.isList p2.isList (x:=u) (y:=u2) (by simpa using hu) (by simpa using hu2) λh' a1 a2 a3 a4 a5 a6 k=>?_
  have hp:H s.heap.objs.size=none:=I.hok.fresh (Hh _);have I1:Inv X pins σ (upd H s.heap.objs.size (.tup [x,y])) {s with heap:=s.heap.push {cls:=.type "tuple",data:=.seq #[u,u2]},toks:=s.toks}:=
   I.laid (λb o e1=>Hd _ e1) (Hh _) ⟨by show 2<=sizeLine;decide,[u,u2],.cons ru (.cons ru2 .nil),⟨_,Hn _ rfl,rfl,_,rfl⟩⟩
  have hlt:∀b∈[z,TI,TO,i1,i2],b<s.heap.objs.size:=λb hb=>by
   simp only[Hj,HI,or_false]at hb;rcases hb with rfl|rfl|rfl|rfl|rfl
   ·exact lt h1
   ·exact lt h2
   ·exact lt h3
   ·obtain⟨_,e,_⟩:=h4;exact lt e
   ·obtain⟨_,e,_⟩:=h5;exact lt e
  have hf':∀b∈[z,TI,TO,i1,i2],gD X pins (upd H s.heap.objs.size (.tup [x,y])) b:=λb hb=>⟨by rw[ae (Hx (hlt b hb))];exact (hf b hb).1,(hf b hb).2⟩
  have I2:=I1.turnedL (t':=s.toks) (h':=h') (ch:=[z,TI,TO,i1,i2]) (λb o hb e1=>by
   simp only[Hj,HI,or_false,not_or]at hb;obtain⟨n1,n2,n3,n4,n5⟩:=hb;by_cases hb:b=s.heap.objs.size
   ·subst hb;have e2:(s.heap.push {cls:=.type "tuple",data:=.seq #[u,u2]}).get? s.heap.objs.size=some {cls:=.type "tuple",data:=.seq #[u,u2]}:=Hn _ rfl;rw[e2]at e1;cases e1;exact a5
   ·exact k b o n1 n3 n4 n5 ((Heap.get?_push_ne _ _ _ hb).symm.trans e1)) hf'
  refine⟨.ref s.heap.objs.size,rfl,wpAny_letOwnedTupleGo_zip (s:={s with heap:=h',toks:=s.toks}) a1 λh2' he2 hs2=>?_⟩
  have I3:=I2.turnedL (t':=s.toks) (h':=h2') (ch:=[z,TI,TO,i1,i2]) (λb o hb e1=>(hs2.2 b (λq=>hb (by simp[q]))).trans e1) hf'
  refine⟨.ref s.heap.objs.size,_,I3,rfl,⟨_,rfl,hp,x,y,λys' hy'=>by rw[I.list_inj hy' hq];exact hx,λys' hy'=>by rw[I.list_inj hy' hq2];exact hy,rfl⟩,⟨he2,?_,⟨u,u2,?_⟩,?_,?_⟩,λb hb=>(hf' b hb).1⟩
  ·exact (hs2.2 TI D.TIz).trans (k _ _ D.TIz D.TITO D.TIi1 D.TIi2 h2)
  ·exact (hs2.2 TO D.TOz).trans a2
  ·exact a3.at λo e1=>(hs2.2 i1 D.i1z).trans e1
  ·exact a4.at λo e1=>(hs2.2 i2 D.i2z).trans e1
 done:=by
  intro X hP hw hK hc i pins s σ H E I hf st hg;subst hP hw hK;obtain⟨xs,ys,hq,hq2,hx⟩:=hg;obtain⟨its,rv,p,hz⟩:=I.list hq;obtain⟨its2,rv2,p2,hz2⟩:=I.list hq2;obtain⟨h1,h2,⟨c,d,h3⟩,h4,h5⟩:=st;have hl:=rv.length;have hl2:=rv2.length;refine wpAny_pyNext_zip_end (I.ok.hd hc) D h1 h2 h3 h4 h5 p.isList p2.isList ?_ λh' eb=>⟨rfl,I.turnedL (t':=s.toks) (ch:=[z,TI,TO,i1,i2]) (λb o hb e=>?_) hf⟩
  ·rcases hx with hx|hx
   ·exact .inl (by simp;omega)
   ·exact .inr (by simp;omega)
  ·simp only[Hj,HI,or_false,not_or]at hb;exact eb b o hb.1 hb.2.2.1 hb.2.2.2.1 hb.2.2.2.2 e
 self:=λ_ _ _ _ _ st h=>wpAny_pyIter_zip st.1 h
def RdQ(K:Iz)(H0:Hp)(p:Addr)(ds:List D)(S:MH->Prop):Prop:=∀H M,TM K H0 H->RelM K M H->S M->∃vs,SqL K H p vs/\DenL K H ds vs
theorem ut{K:Iz}{x:D}{v:V}(dx:Den K H0 x v)(rm:RelM K M H0)(h:rLs x M k):∃p ds S,v=.ref p/\RdQ K H0 p ds S/\S M/\k ds S:=by
 cases x with
 |rol es=>
  obtain⟨q,vs,rfl,sq,dl⟩:=dx;exact⟨q,es,_,rfl,λH M t _ _=>⟨vs,(t.f _ _ sq).sq,dl.mono t⟩,trivial,h⟩
 |ref b=>
  cases (show v=.ref b from dx);dsimp only[rLs]at h;split at h
  ·rename_i ys e;exact⟨b,ys,_,rfl,λH M t rm s=>let ⟨ws,z,dl⟩:=rm b (.lst ys) s;⟨ws,.of z,dl⟩,e,h⟩
  ·exact h.elim
 |_=>exact h.elim
theorem yd{K:Iz}(h1:RdQ K H0 p ds S)(h2:RdQ K H0 q es S'):ItOk K H0 (Itz K p q) (eA ds es) (λM=>S M/\S' M):=by
 refine⟨λi H M t rm s hi=>?_,λi H M x H' t rm s hi y=>?_,λH M t rm s=>?_⟩
 all_goals
  obtain⟨vs,sq,dl⟩:=h1 H M t rm s.1;obtain⟨ws,sq2,dl2⟩:=h2 H M t rm s.2;have hlen:=dl.length;have hlen2:=dl2.length
 ·simp only[eA,Hm,List.length_zip]at hi;have hi':i<vs.length:=by omega
  have hi2:i<ws.length:=by omega
  exact⟨vs,ws,vs[i],ws[i],sq,sq2,by simp[hi'],by simp[hi2]⟩
 ·obtain⟨q,rfl,hq,v,w,hv,hw,rfl⟩:=y;obtain⟨d,e1,e2⟩:=dl.get' (hv vs sq);obtain⟨d',e1',e2'⟩:=dl2.get' (hw ws sq2);refine⟨.new hq,rm.grow hq,.tup [d,d'],?_,⟨q,[v,w],rfl,.inl (.inl ag),⟨_,_,rfl,e2.mono (.new hq),_,_,rfl,e2'.mono (.new hq),rfl⟩⟩⟩;have ez:(ds.zip es)[i]?=some (d,d'):=List.getElem?_zip_eq_some.mpr ⟨e1,e1'⟩;simp[eA,ez]
 ·refine⟨vs,ws,sq,sq2,?_⟩;simp only[eA,Hm,List.length_zip];omega
noncomputable def Ev(K:Iz)(ta:TA):TI:=λσ H R=>ta σ H λvs H1=>∃a b,vs=[.ref a,.ref b]/\(∃xs,SqL K H1 a xs)/\(∃ys,SqL K H1 b ys)/\R (Itz K a b) H1
theorem Ac(hg:Gl X "zip")(hm:X.mg "zip"=none)(ha:PA X [a,b] ta)(hs:starEach [a,b] X.env=[(false,eval a X.env),(false,eval b X.env)])(hs2:starEach [b] X.env=[(false,eval b X.env)]):PI X (.Tuple elts x1 pt) (.Call (.Name "zip" p) [a,b] [] pos) (Ev X.K ta):=by
 intro pins s σ H R I h;refine Call_ (eh I hg hm (u:=.type "zip") (by decide +kernel) (PyProof.Rows.callWith_type1 (thn (ha pos pins s σ H _ I h) λus s1 ⟨vs,H1,I1,r1,q1⟩=>?_) (by rw[hs,hs2]) (by rw[hs2];rfl)))
 obtain⟨c,d,e,⟨xs,hq⟩,⟨ys,hq2⟩,q⟩:=q1;subst e;obtain⟨u,w,rfl,ru,rw'⟩:=r1.two;cases ru;cases rw';obtain⟨its,rv,pl,hz⟩:=I1.list hq;obtain⟨its2,rv2,pl2,hz2⟩:=I1.list hq2;have a1:c<s1.heap.objs.size:=by obtain⟨_,_,e,_⟩:=pl;exact Hi e
 have a2:d<s1.heap.objs.size:=by obtain⟨_,_,e,_⟩:=pl2;exact Hi e
 refine call_zip_2 pl.isList pl2.isList λh' h1 h2 h3 h4 h5 _ k=>?_
 refine wpAny_pyIter_zip (s:={s1 with heap:=h'}) h1 ?_
 refine⟨s1.heap.objs.size+4,[s1.heap.objs.size+4,s1.heap.objs.size+2,s1.heap.objs.size+3,s1.heap.objs.size,s1.heap.objs.size+1],_,_,H1,rfl,I1.kept (t':=s1.toks) k,uZ c d _ _ _ _ _ (zipApart_new a1 a2),⟨h1,h2,⟨_,_,h3⟩,h4,h5⟩,λb hb=>?_,q⟩
 have hle:s1.heap.objs.size<=b:=by
  simp only[Hj,HI,or_false]at hb;rcases hb with rfl|rfl|rfl|rfl|rfl<;>first|exact Hh _|exact Ip _ _
 exact I1.fpOk hle (I1.hok.fresh hle)
theorem Dr(hg:Gl X "zip")(hm:X.mg "zip"=none)(ha:PE X a (low X.K cls E2 ta))(hb:PE X b (low X.K cls E2 tb))(hs:starEach [a,b] X.env=[(false,eval a X.env),(false,eval b X.env)])(hs2:starEach [b] X.env=[(false,eval b X.env)]) :
  PI X (.Tuple elts x1 pt) (.Call (.Name "zip" p) [a,b] [] pos) (kj X.K cls E2 λσ M R E=>ta σ M (λx M1=>tb σ M1 (λy M2=>rLs x M2 λxs S=>rLs y M2 λys S'=>R (eA xs ys) (λM=>S M/\S' M) M2) E) E):=
 (Ac hg hm (aI ha (aI hb pa_nil hs2) (by rw[hs,hs2])) hs hs2).imp λσ H R2 hl_=>ex9 hl_ λσ3 M R E3 rm ds lk h k=>mr rm ds lk h λv w H2 x y M2 dx dy rm2 t2 q2=>by
  obtain⟨p,es,S,rfl,r1,s1,q2⟩:=ut dx rm2 q2;obtain⟨q,fs,S',rfl,r2,s2,q2⟩:=ut dy rm2 q2;exact⟨p,q,rfl,(r1 _ _ (.refl _) rm2 s1).imp λ_ z=>z.1,(r2 _ _ (.refl _) rm2 s2).imp λ_ z=>z.1,k _ _ _ _ _ (yd r1 r2) rm2 t2 q2⟩
end
abbrev ZipO(h:Heap)(z TI TO T:Addr)(f:Bool):Prop:=
 h.get? z=some {cls:=.type "zip",dict:=none,data:=.fields #[rawInt T,.bool f,.bool false,.ref TI,.ref TO],slots:=#[]}
section
variable {A:Around}{s:Shared}
theorem sH{z TI TO T:Addr}{f:Bool}{oa:Obj}{Q:Bool->Shared->Prop}(hz:ZipO s.heap z TI TO T f)(ha:s.heap.get? T=some oa)(h:∀h',ZipO h' z TI TO T true->Heap.SameBut z s.heap h'->Q false {s with heap:=h'}) :
  wpAny (model prog w) A (Builtin.SmallTypes.ownedTupleIsFree (.ref z)) Q E s:=by
 unfold Builtin.SmallTypes.ownedTupleIsFree;refine G8 (HZ hz rfl (x:=rawInt T) rfl ?_);show wpAny _ _ (loadIfAlive ((T:Int).toNat) >>=_) _ _ _;rw[Ii];refine G8 (PySem.W.kdx_alive ha ?_);simp only[Option.isNone_some,HE,if_false];refine G8 (HZ hz rfl (x:=.bool f) rfl ?_);cases f with
 |true=>
  rw[Hc (show ¬ ((Value.bool true != Value.bool true)=true) from Hq)];exact Ha (h s.heap hz (Heap.SameBut.refl _ _))
 |false=>
  rw[Hg (show (Value.bool false != Value.bool true)=true from rfl)];refine G8 (wpAny_setField_rec hz (by simp) λh₃ he₃ hs₃=>?_)
  exact Ha (h h₃ he₃ hs₃)
theorem AE{z TI TO i1 i2 l1 l2 T:Addr}{f:Bool}{oa:Obj}{k1 k2:Nat}{xs ys:Array Value}{x y:Value}{Q:Option Value->Shared->Prop}(D:ZipApart z TI TO i1 i2 l1 l2)
  (hz:ZipO s.heap z TI TO T f) (ha:s.heap.get? T=some oa) (hTI:IsPair s.heap TI (.ref i1) (.ref i2))
  (h1:s.heap.IsListIter i1 l1 k1)(h2:s.heap.IsListIter i2 l2 k2)(hl1:s.heap.IsList l1 xs)(hl2:s.heap.IsList l2 ys) (hx:xs[k1]?=some x) (hy:ys[k2]?=some y)
  (hQ:∀h',ZipO h' z TI TO T true->h'.IsListIter i1 l1 (k1+1)->h'.IsListIter i2 l2 (k2+1)->IsPair h' s.heap.objs.size x y->h'.objs.size=s.heap.objs.size+1->
   (∀c o,c≠z->c≠i1->c≠i2->s.heap.get? c=some o->h'.get? c=some o)->Q (some (.ref s.heap.objs.size)) {s with heap:=h'}) :
  wpAny (model prog w) A (pyNext (.ref z)) Q E s:=by
 have hT:s.TypeIs (.ref z) "zip":=⟨_,hz,rfl⟩;unfold pyNext;refine G8 (wpAny_attempt (wpAny_callSpecial?_slot (name:=Str.ofString "__next__") hT PySem.F.slot_zip_next
  (Ib PySem.F.slot_zip_next hT PySem.F.entry_zip_next ?_ (PySem.F.args_zip_next_1 _))))
 show wpAny _ _ (field (.ref z) 2 >>=_) _ _ _;refine G8 (HZ hz rfl (x:=.bool false) rfl ?_);show wpAny _ _ (field (.ref z) 3 >>=_) _ _ _;refine G8 (HZ hz rfl (x:=.ref TI) rfl ?_);refine G8 (wpAny_seqItems hTI rfl ?_);show wpAny _ _ (Builtin.SmallTypes.ownedTupleIsFree (.ref z) >>=_) _ _ _;refine G8 (sH hz ha λh₁ hz₁ hs₁=>?_)
 simp only[HE,if_false];refine G8 ?_;rw[<-Array.forIn_toList];simp only[List.forIn_cons,List.forIn_nil];refine G8 (G8 (HR ?_));show wpAny _ _ (Builtin.SmallTypes.nextOf (.ref i1) >>=_) _ _ _;refine G8 (wpAny_nextOf_list_item (h1.extBut hs₁.extBut D.i1z) (hl1.extBut hs₁.extBut D.l1z) hx λh₂ h1₂ hs₂=>Ha ?_)
 refine Ha ?_;refine G8 (G8 (HR ?_));show wpAny _ _ (Builtin.SmallTypes.nextOf (.ref i2) >>=_) _ _ _;refine G8 (wpAny_nextOf_list_item ((h2.extBut hs₁.extBut D.i2z).extBut hs₂.extBut D.i12.symm) ((hl2.extBut hs₁.extBut D.l2z).extBut hs₂.extBut D.l2i1) hy λh₃ h2₃ hs₃=>Ha ?_)
 refine Ha (Ha ?_);refine G8 (wpAny_newTuple ?_ (by show 2<=sizeLine;decide))
 have hsz:h₃.objs.size=s.heap.objs.size:=by rw[hs₃.1,hs₂.1,hs₁.1]
 refine Ha ⟨_,rfl,Ha ?_⟩;show Q (some (.ref h₃.objs.size)) _;rw[hsz];refine hQ _ (Hd _ (hs₃.extBut _ _ D.i2z.symm (hs₂.extBut _ _ D.i1z.symm hz₁))) ((h1₂.extBut hs₃.extBut D.i12).at λo e=>Hd _ e) (h2₃.at λo e=>Hd _ e) ?_ (by rw[Heap.size_push,hsz])
  λc o c1 c2 c3 e=>Hd _ (hs₃.extBut _ _ c3 (hs₂.extBut _ _ c2 (hs₁.extBut _ _ c1 e)))
 rw[<-hsz];exact Hn _ rfl
theorem B4{z TI TO i1 i2 l1 l2 T:Addr}{f:Bool}{oa:Obj}{k1 k2:Nat}{xs ys:Array Value}{Q:Option Value->Shared->Prop}(hh:A.handled=none)(D:ZipApart z TI TO i1 i2 l1 l2)
  (hz:ZipO s.heap z TI TO T f) (ha:s.heap.get? T=some oa) (hTI:IsPair s.heap TI (.ref i1) (.ref i2))
  (h1:s.heap.IsListIter i1 l1 k1)(h2:s.heap.IsListIter i2 l2 k2)(hl1:s.heap.IsList l1 xs)(hl2:s.heap.IsList l2 ys) (hend:xs[k1]?=none\/ys[k2]?=none)
  (hQ:∀h',(∀c o,c≠z->c≠i1->c≠i2->s.heap.get? c=some o->h'.get? c=some o)->Q none {s with heap:=h'}):wpAny (model prog w) A (pyNext (.ref z)) Q E s:=by
 have hT:s.TypeIs (.ref z) "zip":=⟨_,hz,rfl⟩;unfold pyNext;refine G8 (wpAny_attempt (wpAny_callSpecial?_slot (name:=Str.ofString "__next__") hT PySem.F.slot_zip_next
  (Ib PySem.F.slot_zip_next hT PySem.F.entry_zip_next ?_ (PySem.F.args_zip_next_1 _))))
 show wpAny _ _ (field (.ref z) 2 >>=_) _ _ _;refine G8 (HZ hz rfl (x:=.bool false) rfl ?_);show wpAny _ _ (field (.ref z) 3 >>=_) _ _ _;refine G8 (HZ hz rfl (x:=.ref TI) rfl ?_);refine G8 (wpAny_seqItems hTI rfl ?_);show wpAny _ _ (Builtin.SmallTypes.ownedTupleIsFree (.ref z) >>=_) _ _ _;refine G8 (sH hz ha λh₁ hz₁ hs₁=>?_)
 simp only[HE,if_false];refine G8 ?_;rw[<-Array.forIn_toList];simp only[List.forIn_cons,List.forIn_nil];refine G8 (G8 (HR ?_));show wpAny _ _ (Builtin.SmallTypes.nextOf (.ref i1) >>=_) _ _ _;cases hx:xs[k1]? with
 |none=>
  refine G8 (wpAny_nextOf_list_end hh (h1.extBut hs₁.extBut D.i1z) (hl1.extBut hs₁.extBut D.l1z) hx λh₂ e hs₂ he=>?_)
  refine G8 (wpAny_isInstance (T:="StopIteration") (b:=true) he isSubtype_stop ?_);exact Ha (hQ _ λc o c1 c2 _ x=>hs₂ _ _ c2 (hs₁.extBut _ _ c1 x))
 |some x=>
  have hy:ys[k2]?=none:=by rcases hend with h|h;rw[hx]at h;cases h;exact h
  refine G8 (wpAny_nextOf_list_item (h1.extBut hs₁.extBut D.i1z) (hl1.extBut hs₁.extBut D.l1z) hx λh₂ h1₂ hs₂=>Ha ?_)
  refine Ha ?_;refine G8 (G8 (HR ?_));show wpAny _ _ (Builtin.SmallTypes.nextOf (.ref i2) >>=_) _ _ _;refine G8 (wpAny_nextOf_list_end hh ((h2.extBut hs₁.extBut D.i2z).extBut hs₂.extBut D.i12.symm) ((hl2.extBut hs₁.extBut D.l2z).extBut hs₂.extBut D.l2i1) hy λh₃ e hs₃ he=>?_)
  refine G8 (wpAny_isInstance (T:="StopIteration") (b:=true) he isSubtype_stop ?_);exact Ha (hQ _ λc o c1 c2 c3 x=>hs₃ _ _ c3 (hs₂.extBut _ _ c2 (hs₁.extBut _ _ c1 x)))
end
theorem oK:typeLookup (.type "zip") "__len__"=pure none:=by rw[typeLookup_type,builtinLookup_eq_fast];kernel_rfl
theorem nJ:typeLookup (.type "zip") "__length_hint__"=pure none:=by rw[typeLookup_type,builtinLookup_eq_fast];kernel_rfl
structure ZSt (h:Heap)(z TI TO i1 i2 l1 l2 S:Addr)(xs ys:Array Value)(i:Nat):Prop where
 ti:IsPair h TI (.ref i1) (.ref i2)
 a:h.IsListIter i1 l1 i
 b:h.IsListIter i2 l2 i
 la:h.IsList l1 xs
 lb:h.IsList l2 ys
 o:(i=0/\IsZip h z TI TO .none/\∃c d,IsPair h TO c d)\/∃T f oa,ZipO h z TI TO T f/\h.get? T=some oa/\T≠z/\T≠i1/\T≠i2/\T≠S
structure ZG (xs ys:Array Value)(lo:Addr)(h:Heap)(as:List Addr):Prop where
 rise:as.Pairwise (· < ·)
 above:∀a∈as,lo<=a
 pairs:∀(j:Nat)(a:Addr),as[j]?=some a->∃x y,xs[j]?=some x/\ys[j]?=some y/\IsPair h a x y
theorem ZG.there{lo:Addr}{h:Heap}(g:ZG xs ys lo h as)(ha:a∈as):a<h.objs.size:=by
 obtain⟨j,hj⟩:=List.mem_iff_getElem?.mp ha;obtain⟨_,_,_,_,e⟩:=g.pairs j a hj;exact Hi e
section
variable {prog:Program}{w:World}{A:Around}{E:Value->Shared->Prop}{s:Shared}{z TI TO i1 i2 l1 l2 S:Addr}{xs ys:Array Value}{i:Nat}
theorem ZSt.keep{h h':Heap}(x:ZSt h z TI TO i1 i2 l1 l2 S xs ys i)(D:ZipApart z TI TO i1 i2 l1 l2)(hk:∀b o,b≠S->h.get? b=some o->h'.get? b=some o)(hS:∀b∈[z,TI,TO,i1,i2,l1,l2],b≠S):ZSt h' z TI TO i1 i2 l1 l2 S xs ys i:=by
 have q:∀b∈[z,TI,TO,i1,i2,l1,l2],∀o,h.get? b=some o->h'.get? b=some o:=λb hb o e=>hk b o (hS b hb) e
 refine⟨q TI (by simp) _ x.ti,x.a.at λo e=>q i1 (by simp) o e,x.b.at λo e=>q i2 (by simp) o e,x.la.at λo e=>q l1 (by simp) o e,x.lb.at λo e=>q l2 (by simp) o e,?_⟩
 rcases x.o with ⟨e,h1,c,d,h2⟩|⟨T,f,oa,h1,h2,h3,h4,h5,h6⟩
 ·exact .inl ⟨e,q z (by simp) _ h1,c,d,q TO (by simp) _ h2⟩
 ·exact .inr ⟨T,f,oa,q z (by simp) _ h1,hk T _ h6 h2,h3,h4,h5,h6⟩
theorem ZSt.item{x y:Value}{Q:Option Value->Shared->Prop}(st:ZSt s.heap z TI TO i1 i2 l1 l2 S xs ys i)(D:ZipApart z TI TO i1 i2 l1 l2)(hS:S<s.heap.objs.size)(hx:xs[i]?=some x)(hy:ys[i]?=some y)
  (hQ:∀h',ZSt h' z TI TO i1 i2 l1 l2 S xs ys (i+1)->IsPair h' s.heap.objs.size x y->h'.objs.size=s.heap.objs.size+1->(∀c o,c≠z->c≠TO->c≠i1->c≠i2->s.heap.get? c=some o->h'.get? c=some o)->Q (some (.ref s.heap.objs.size)) {s with heap:=h'}) :
  wpAny (model prog w) A (pyNext (.ref z)) Q E s:=by
 have lt:∀{c o},s.heap.get? c=some o->s.heap.objs.size≠c:=λe=>Nat.ne_of_gt (Hi e)
 have a1:s.heap.objs.size≠i1:=by obtain⟨_,e,_⟩:=st.a;exact lt e
 have a2:s.heap.objs.size≠i2:=by obtain⟨_,e,_⟩:=st.b;exact lt e
 rcases st.o with ⟨rfl,h1,c,d,h2⟩|⟨T,f,oa,h1,h2,h3,h4,h5,h6⟩
 ·refine wpAny_pyNext_zip_item D h1 st.ti h2 st.a st.b st.la st.lb hx hy λh' b1 b2 b3 b4 b5 b6 k=>hQ h' ⟨k _ _ D.TIz D.TITO D.TIi1 D.TIi2 st.ti,b3,b4,st.la.at λo e=>k _ o D.l1z D.l1TO D.l1i1 D.l1i2 e,st.lb.at λo e=>k _ o D.l2z D.l2TO D.l2i1 D.l2i2 e,.inr ⟨_,false,_,b1,b5,lt h1,a1,a2,Nat.ne_of_gt hS⟩⟩ b5 b6 k
 ·refine AE D h1 h2 st.ti st.a st.b st.la st.lb hx hy λh' b1 b3 b4 b5 b6 k=>hQ h' ⟨k _ _ D.TIz D.TIi1 D.TIi2 st.ti,b3,b4,st.la.at λo e=>k _ o D.l1z D.l1i1 D.l1i2 e,st.lb.at λo e=>k _ o D.l2z D.l2i1 D.l2i2 e,.inr ⟨T,true,oa,b1,k _ _ h3 h4 h5 h2,h3,h4,h5,h6⟩⟩ b5 b6 λc o c1 _ c3 c4 e=>k c o c1 c3 c4 e
theorem ZSt.done{Q:Option Value->Shared->Prop}(hh:A.handled=none)(st:ZSt s.heap z TI TO i1 i2 l1 l2 S xs ys i)(D:ZipApart z TI TO i1 i2 l1 l2)(hend:xs[i]?=none\/ys[i]?=none)
  (hQ:∀h',(∀c o,c≠z->c≠TO->c≠i1->c≠i2->s.heap.get? c=some o->h'.get? c=some o)->Q none {s with heap:=h'}):wpAny (model prog w) A (pyNext (.ref z)) Q E s:=by
 rcases st.o with ⟨rfl,h1,c,d,h2⟩|⟨T,f,oa,h1,h2,h3,h4,h5,h6⟩
 ·exact wpAny_pyNext_zip_end hh D h1 st.ti h2 st.a st.b st.la st.lb hend hQ
 ·exact B4 hh D h1 h2 st.ti st.a st.b st.la st.lb hend λh' k=>hQ h' λc o c1 _ c3 c4 e=>k c o c1 c3 c4 e
end
section
variable {prog:Program}{w:World}{A:Around}{s:Shared}{R:Result->Shared->Prop}{z TI TO i1 i2 l1 l2 S lo:Addr}{xs ys:Array Value}
theorem zO(hh:A.handled=none)(D:ZipApart z TI TO i1 i2 l1 l2)(hS:∀b∈[z,TI,TO,i1,i2,l1,l2],b≠S)(hlo:∀b∈[z,TO,i1,i2,S],b<lo)(n:Nat)(hn:n=min xs.size ys.size)(hz:n<=sizeLine)(res:Value){h₁:Heap}
  (hR:∀h' tk acc c as,(∀b o,b≠S->b∉[z,TO,i1,i2]->h₁.get? b=some o->h'.get? b=some o)->h'.get? S=some {cls:=.type "list",dict:=none,data:=.seq acc c,slots:=#[]}->as.length=n->ZG xs ys lo h' as->
   acc.toList=as.map Value.ref->R (.ok (.ret res)) {s with heap:=h',toks:=tk}) :
  ∀(k i:Nat)(h:Heap)(tk c:Nat)(acc:Array Value)(as:List Addr),n-i=k->i<=n->ZSt h z TI TO i1 i2 l1 l2 S xs ys i->(∀b o,b≠S->b∉[z,TO,i1,i2]->h₁.get? b=some o->h.get? b=some o)->
   h.get? S=some {cls:=.type "list",dict:=none,data:=.seq acc c,slots:=#[]}->acc.toList=as.map Value.ref->as.length=i->ZG xs ys lo h as->lo<=h.objs.size->
   codeAny (model prog w) A (.builtin "list.extend.loop" ⟨[.ref S,.ref z,res],[]⟩) R {s with heap:=h,toks:=tk}:=by
 have nS:∀b∈[z,TO,i1,i2],S≠b:=λb hb=>He (hS b (by simp only[Hj,HI,or_false]at hb ⊢;rcases hb with rfl|rfl|rfl|rfl<;>simp))
 intro k
 induction k with
 |zero=>
  intro i h tk c acc as hk hi hst hkeep hL hacc hal hG hIs;have hin:i=n:=by omega
  refine codeAny_builtin PySem.F.entry_extend_loop ?_;rw[Around.under_plainId PySem.F.plain_extend_loop _];show wpAny _ A.in1 (pyNext (.ref z) >>=_) _ _ _;refine G8 (ZSt.done (s:={s with heap:=h,toks:=tk}) (A:=A.in1) hh hst D (by
   have:xs.size<=i\/ys.size<=i:=by omega
   rcases this with q|q
   ·exact .inl (Array.getElem?_eq_none q)
   ·exact .inr (Array.getElem?_eq_none q)) λh' he=>?_)
  have he':∀b o,b∉[z,TO,i1,i2]->h.get? b=some o->h'.get? b=some o:=λb o hb e=>by
   simp only[Hj,HI,or_false,not_or]at hb;exact he b o hb.1 hb.2.1 hb.2.2.1 hb.2.2.2 e
  refine Ha (hR h' tk acc c as (λb o h1 h2 e=>he' b o h2 (hkeep b o h1 h2 e)) (he' S _ (λhb=>nS S hb rfl) hL) (by omega) ⟨hG.rise,hG.above,λj a hj=>?_⟩ hacc)
  obtain⟨x,y,e1,e2,e3⟩:=hG.pairs j a hj;have ha:=hG.above a (HL hj);exact⟨x,y,e1,e2,he' a _ (λhb=>absurd (hlo a (by simp only[Hj,HI,or_false]at hb ⊢;rcases hb with rfl|rfl|rfl|rfl<;>simp)) (Nat.not_lt.mpr ha)) e3⟩
 |succ k ih=>
  intro i h tk c acc as hk hi hst hkeep hL hacc hal hG hIs;have hx:xs[i]?=some (xs[i]'(by omega)):=Array.getElem?_eq_getElem _
  have hy:ys[i]?=some (ys[i]'(by omega)):=Array.getElem?_eq_getElem _
  have hsz:acc.size=i:=by rw[<-Array.length_toList,hacc,Hm,hal]
  refine codeAny_builtin PySem.F.entry_extend_loop ?_;rw[Around.under_plainId PySem.F.plain_extend_loop _];show wpAny _ A.in1 (pyNext (.ref z) >>=_) _ _ _;refine G8 (ZSt.item (s:={s with heap:=h,toks:=tk}) (S:=S) hst D (Hi hL) hx hy λh' hst' ht hzz hkp=>?_)
  dsimp only at ht hzz hkp ⊢;have hkp':∀b o,b∉[z,TO,i1,i2]->h.get? b=some o->h'.get? b=some o:=λb o hb e=>by
   simp only[Hj,HI,or_false,not_or]at hb;exact hkp b o hb.1 hb.2.1 hb.2.2.1 hb.2.2.2 e
  have hL':=hkp' S _ (λhb=>nS S hb rfl) hL
  have up:∀b o,b≠S->h'.get? b=some o->(h'.update S (Obj.mapSeq (·.push (Value.ref h.objs.size)))).get? b=some o:=λb o hb e=>(HM _ _ (He hb)).trans e
  have hSl:S<h.objs.size:=Hi hL;show wpAny _ A.in1 (updateSeq S (·.push (Value.ref h.objs.size)) >>=_) _ _ _;refine G8 ?_;refine wpAny_updateSeq hL' rfl (Ha ⟨plainId_quiet PySem.F.plain_extend_loop _,ih (i+1) _ tk _ (acc.push (Value.ref h.objs.size)) (as++[h.objs.size]) (by omega) (by omega) (hst'.keep D up hS)
   (λb o h1 h2 e=>up b o h1 (hkp' b o h2 (hkeep b o h1 h2 e))) (HH _ hL' rfl) (by rw[Array.toList_push,hacc,Io];rfl) (by rw[HJ,hal];rfl) ⟨?_,?_,?_⟩ ?_⟩) (by rw[hsz];omega) (by show (acc.push (Value.ref h.objs.size)).size<=sizeLine+1;rw[Array.size_push,hsz];omega)
  ·refine List.pairwise_append.mpr ⟨hG.rise,List.pairwise_singleton _ _,λa ha b hb=>?_⟩
   rw[HY.mp hb];exact hG.there ha
  ·intro a ha;rcases HU.mp ha with ha|ha
   ·exact hG.above a ha
   ·rw[HY.mp ha];exact hIs
  ·intro j b hj;rcases Nat.lt_trichotomy j as.length with h1|h1|h1
   ·rw[List.getElem?_append_left h1]at hj;obtain⟨x',y',e1,e2,e3⟩:=hG.pairs j b hj;have hb:=hG.above b (HL hj);exact⟨x',y',e1,e2,up b _ (Nat.ne_of_gt (Ho (hlo S (by simp)) hb)) (hkp' b _ (λhb'=>absurd (hlo b (by simp only[Hj,HI,or_false]at hb' ⊢;rcases hb' with rfl|rfl|rfl|rfl<;>simp)) (Nat.not_lt.mpr hb)) e3)⟩
   ·subst h1;have hb:h.objs.size=b:=by simpa using hj
    subst hb;exact⟨_,_,by rw[hal];exact hx,by rw[hal];exact hy,up _ _ (Nat.ne_of_gt hSl) ht⟩
   ·have hnone:(as++[h.objs.size])[j]?=none:=List.getElem?_eq_none (by rw[HJ,List.length_singleton];omega)
    rw[hnone]at hj;cases hj
  ·have e:(h'.update S (Obj.mapSeq (·.push (Value.ref h.objs.size)))).get? h.objs.size=_:=up _ _ (Nat.ne_of_gt hSl) ht;exact Nat.le_of_lt (Nat.lt_of_le_of_lt hIs (Hi e))
end
section
variable {prog:Program}{w:World}{A:Around}{E:Value->Shared->Prop}{s:Shared}{R:Result->Shared->Prop}{z TI TO i1 i2 l1 l2 S lo:Addr}{xs ys:Array Value}
theorem so(hh:A.handled=none)(D:ZipApart z TI TO i1 i2 l1 l2)(st:ZSt s.heap z TI TO i1 i2 l1 l2 S xs ys 0)(hS:∀b∈[z,TI,TO,i1,i2,l1,l2],b≠S)(hlo:∀b∈[z,TO,i1,i2,S],b<lo)(hl:lo<=s.heap.objs.size)(hz:min xs.size ys.size<=sizeLine)(res:Value)(c₀:Nat)(hL:s.heap.get? S=some {cls:=.type "list",data:=.seq #[] c₀})
  (hR:∀h' tk acc c as,(∀b o,b≠S->b∉[z,TO,i1,i2]->s.heap.get? b=some o->h'.get? b=some o)->h'.get? S=some {cls:=.type "list",dict:=none,data:=.seq acc c,slots:=#[]}->as.length=min xs.size ys.size->ZG xs ys lo h' as->
   acc.toList=as.map Value.ref->R (.ok (.ret res)) {s with heap:=h',toks:=tk}) :
  wpAny (model prog w) A.in1 (Builtin.List.listExtendWith (.ref S) (.ref z) res)
   (λfin s'=>match fin with|.done f=>R (.ok f) s'|.again c'=>c'.quiet=true/\codeAny (model prog w) A c' R s') (λe s'=>R (.error e) s') s:=by
 have hT:s.TypeIs (.ref z) "zip":=by
  rcases st.o with ⟨_,h1,_⟩|⟨_,_,_,h1,_⟩
  ·exact⟨_,h1,rfl⟩
  ·exact⟨_,h1,rfl⟩
 have hzs:∃f0 f1,s.heap.get? z=some {cls:=.type "zip",dict:=none,data:=.fields #[f0,f1,.bool false,.ref TI,.ref TO],slots:=#[]}:=by
  rcases st.o with ⟨_,h1,_⟩|⟨_,_,_,h1,_⟩
  ·exact⟨_,_,h1⟩
  ·exact⟨_,_,h1⟩
 have key:∀(h:Heap)(c₁ tk:Nat),(∀b o,b≠S->s.heap.get? b=some o->h.get? b=some o)->h.get? S=some {cls:=.type "list",data:=.seq #[] c₁}->lo<=h.objs.size->
   codeAny (model prog w) A (.builtin "list.extend.loop" ⟨[.ref S,.ref z,res],[]⟩) R {s with heap:=h,toks:=tk}:=by
  intro h c₁ tk hk hS₁ hlz;exact zO (h₁:=s.heap) hh D hS hlo _ rfl hz res hR _ 0 h tk c₁ #[] [] (Nat.sub_zero _) (Nat.zero_le _) (st.keep D hk hS) (λb o hb _ e=>hk b o hb e) hS₁ rfl rfl ⟨List.Pairwise.nil,(λ_ ha=>nomatch ha),(λj a hj=>by simp at hj)⟩ hlz
 unfold Builtin.List.listExtendWith;refine G8 (wpAny_typeOf hT ?_);have h1:Builtin.List.listSameRef (.ref S) (.ref z)=false:=by simp[Builtin.List.listSameRef,He (hS z (by simp))]
 have h2:(Value.type "zip" == Value.type "list")=false:=by decide
 have h3:(Value.type "zip" == Value.type "tuple")=false:=by decide
 simp only[h1,h2,h3,Bool.or_false,HE,if_false];have hself:∀{Q:Value->Shared->Prop}{E:Value->Shared->Prop},Q (.ref z) s->wpAny (model prog w) A.in1 (pyIter (.ref z)) Q E s:=λ{Q E} h=>by
  refine wpAny_pyIter_slot hT PySem.F.slot_zip_iter (Ib PySem.F.slot_zip_iter hT PySem.F.entry_zip_iter ?_ (PySem.F.args_zip_iter_1 _));show wpAny _ _ (ret (.ref z)) _ _ s;exact Ha ⟨_,rfl,"zip",_,hT,PySem.F.slot_zip_next.lookup,h⟩
 refine G8 (hself ?_);refine G8 (HR ?_);unfold Builtin.List.listLengthHint;refine G8 (wpAny_specialOf hT oK ?_);show wpAny _ A.in1 (specialOf (Value.ref z) (Str.ofString "__length_hint__") >>=_) _ _ _;refine G8 (wpAny_specialOf hT nJ ?_);refine Ha ?_;show wpAny _ A.in1 (rule "list.extend.makes-room" >>=λ_=>Builtin.List.listTouch (.ref S) >>=λ_=>
  again (.builtin "list.extend.loop" ⟨[.ref S,.ref z,res],[]⟩)) _ _ _
 refine G8 (wpAny_rule ?_);refine G8 ?_;show wpAny _ A.in1 (updateSeq S (·.push .none) >>=λ_=>updateSeq S (·.pop)) _ _ _
 refine G8 (wpAny_updateSeq hL rfl ?_);have hS₂:=HH (Obj.mapSeq (·.push Value.none)) hL rfl;refine wpAny_updateSeq (hz:=by seq_fits) hS₂ rfl ?_
 have hS₃:=HH (Obj.mapSeq (·.pop)) hS₂ rfl;refine Ha ⟨plainId_quiet PySem.F.plain_extend_loop _,key _ _ _ (λb o hb e=>?_) hS₃ ?_⟩
 ·exact (HM _ _ (He hb)).trans ((HM _ _ (He hb)).trans e)
 ·rw[Heap.size_update,Heap.size_update];exact hl
theorem yP{Q:Value->Shared->Prop}(hh:A.handled=none)(D:ZipApart z TI TO i1 i2 l1 l2)(hz:IsZip s.heap z TI TO .none)(hTI:IsPair s.heap TI (.ref i1) (.ref i2))(hTO:∃c d,IsPair s.heap TO c d)
  (h1:s.heap.IsListIter i1 l1 0)(h2:s.heap.IsListIter i2 l2 0)(hl1:s.heap.IsList l1 xs)(hl2:s.heap.IsList l2 ys) (hn:min xs.size ys.size<=sizeLine)
  (hQ:∀h' tk acc c as,(∀b o,b∉[z,TO,i1,i2]->s.heap.get? b=some o->h'.get? b=some o)->h'.get? s.heap.objs.size=some {cls:=.type "list",dict:=none,data:=.seq acc c,slots:=#[]}->as.length=min xs.size ys.size->ZG xs ys (s.heap.objs.size+1) h' as->
   acc.toList=as.map Value.ref->Q (.ref s.heap.objs.size) {s with heap:=h',toks:=tk}) :
  wpAny (model prog w) A (call (.type "list") [.ref z]) Q E s:=by
 have lt:∀{c o},s.heap.get? c=some o->c<s.heap.objs.size:=λe=>Hi e
 have hlt:∀b∈[z,TI,TO,i1,i2,l1,l2],b<s.heap.objs.size:=λb hb=>by
  obtain⟨_,_,h3⟩:=hTO;obtain⟨_,e1,_⟩:=id h1;obtain⟨_,e2,_⟩:=id h2;obtain⟨_,e3,_⟩:=id hl1;obtain⟨_,e4,_⟩:=id hl2;simp only[Hj,HI,or_false]at hb;rcases hb with rfl|rfl|rfl|rfl|rfl|rfl|rfl
  ·exact lt hz
  ·exact lt hTI
  ·exact lt h3
  ·exact lt e1
  ·exact lt e2
  ·exact lt e3
  ·exact lt e4
 refine callType_codes (Q₁:=λobj s₁=>obj=.ref s.heap.objs.size/\s₁={s with heap:=s.heap.push {cls:=.type "list",data:=.seq #[]}}) PySem.F.called_list (PySem.F.typeCall_list_1 _) PySem.F.entry_list_init
  (code_list_new _ ⟨rfl,rfl⟩) λobj s₁ h₁=>?_
 obtain⟨rfl,rfl⟩:=h₁;have hS:(s.heap.push {cls:=.type "list",data:=.seq #[]}).get? s.heap.objs.size=some {cls:=.type "list",data:=.seq #[]}:=Hn _ rfl;refine⟨⟨_,hS,rfl⟩,PySem.F.args_list_init_2 _ _,?_⟩;show wpAny _ _ (do let old<-Builtin.List.listItems (.ref s.heap.objs.size);Builtin.List.listUpdate (.ref s.heap.objs.size) (λ_=>#[]);letGo old.toList.reverse;Builtin.List.listExtendWith (.ref s.heap.objs.size) (.ref z) .none) _ _ _
 refine G8 ?_;unfold Builtin.List.listItems;refine G8 (wpAny_seqItems hS rfl (Ha ?_));show wpAny _ _ (updateSeq s.heap.objs.size (λ_=>#[]) >>=λ_=>letGo (#[]:Array Value).toList.reverse >>=λ_=>Builtin.List.listExtendWith (.ref s.heap.objs.size) (.ref z) .none) _ _ _
 refine G8 (wpAny_updateSeq hS rfl ?_);have hS₂:=HH (Obj.mapSeq (λ_=>(#[]:Array Value))) hS rfl
 have oth:∀b o,s.heap.get? b=some o->((s.heap.push {cls:=.type "list",data:=.seq #[]}).update s.heap.objs.size (Obj.mapSeq (λ_=>(#[]:Array Value)))).get? b=some o:=
  λb o e=>(HM _ _ (Nat.ne_of_gt (lt e))).trans (Hd _ e)
 refine G8 (wpAny_letGo ?_);have hl0:s.heap.objs.size+1<=((s.heap.push {cls:=.type "list",data:=.seq #[]}).update s.heap.objs.size (Obj.mapSeq (λ_=>(#[]:Array Value)))).objs.size:=Hi hS₂
 refine so (A:=A.in1) (s:={s with heap:=(s.heap.push {cls:=.type "list",data:=.seq #[]}).update s.heap.objs.size (Obj.mapSeq (λ_=>(#[]:Array Value)))}) (lo:=s.heap.objs.size+1) hh D ⟨oth _ _ hTI,h1.at λo e=>oth _ o e,h2.at λo e=>oth _ o e,hl1.at λo e=>oth _ o e,hl2.at λo e=>oth _ o e,.inl ⟨rfl,oth _ _ hz,let ⟨c,d,e⟩:=hTO;⟨c,d,oth _ _ e⟩⟩⟩ (λb hb=>Hx (hlt b hb)) (λb hb=>?_) hl0 hn .none _ hS₂ (λh' tk acc c as hk hS' hl hG hacc=>?_)
 ·simp only[Hj,HI,or_false]at hb;rcases hb with rfl|rfl|rfl|rfl|rfl
  ·exact Nat.lt_succ_of_lt (hlt _ (by simp))
  ·exact Nat.lt_succ_of_lt (hlt _ (by simp))
  ·exact Nat.lt_succ_of_lt (hlt _ (by simp))
  ·exact Nat.lt_succ_of_lt (hlt _ (by simp))
  ·exact Nat.lt_succ_self _
 ·exact⟨rfl,hQ h' tk acc c as (λb o hb e=>hk b o (Hx (lt e)) hb (oth b o e)) hS' hl hG hacc⟩
end
section
variable {X:Cx}{s:Shared}{h':Heap}
theorem Inv.grown(I:Inv X pins σ H s)(k:∀b u,s.heap.get? b=some u->h'.get? b=some u)(he:∀b,b<s.heap.objs.size->H' b=H b)(new:∀b u,s.heap.objs.size<=b->H' b=some u->ObjOk X.prog X.w H' h' b u) :
  Inv X pins σ H' {s with heap:=h',toks:=t'}:=by
 have up:∀b u,H b=some u->H' b=some u:=λb u e=>(he b (I.hok.lt e)).trans e
 refine I.un ⟨λb o e _ _ _=>k b o e,λb o e _ _ _=>⟨o.slots,k b o e⟩,λb o e n _=>(he b (Hi e)).trans n,λb o e _=>⟨o,k b o e⟩,λb xs e=>up b _ e,λb o u e=>up b _ e,λb ps e=>⟨#[],by rw[up b _ e];simp⟩⟩ λb u e=>?_
 by_cases hb:b<s.heap.objs.size
 ·rw[he b hb]at e;exact (I.hok b u e).stay (λc v _ q=>k c v q) (λc q=>up c _ q) λc xs q=>up c _ q
 ·exact new b u (Nat.not_lt.mp hb) e
end
theorem xD:∀as:List Addr,Vals (as.map V.ref) (as.map Value.ref)
 |[]=>.nil
 |_::r=>.cons rfl (xD r)
noncomputable def gN:List Addr->List V->List V->Hp->Hp
 |a::as,v::vs,u::us,H=>upd (gN as vs us H) a (.tup [v,u])
 |_,_,_,H=>H
theorem d7:∀{as:List Addr}{vs us:List V},b∉as->gN as vs us H b=H b
 |[],_,_,_=>by simp[gN]
 |a::as,[],_,_=>by simp[gN]
 |a::as,_::_,[],_=>by simp[gN]
 |a::as,v::vs,u::us,h=>by
  rw[gN,ae (λz=>h (by simp[z])),d7 λz=>h (Hb _ z)]
theorem lV:∀{as:List Addr}{vs us:List V}{j:Nat},as.Pairwise (· < ·)->as[j]?=some a->vs[j]?=some v->us[j]?=some u->gN as vs us H a=some (.tup [v,u])
 |[],_,_,_,_,e,_,_=>by simp at e
 |_::_,[],_,_,_,_,e,_=>by simp at e
 |_::_,_::_,[],_,_,_,_,e=>by simp at e
 |b::as,v'::vs,u'::us,0,_,e1,e2,e3=>by
  simp at e1 e2 e3;subst e1;subst e2;subst e3;rw[gN,ag]
 |b::as,v'::vs,u'::us,j+1,hp,e1,e2,e3=>by
  have hb:=List.pairwise_cons.mp hp;have e1':as[j]?=some a:=by simpa using e1
  rw[gN,ae (Nat.ne_of_gt (hb.1 a (HL e1')))];exact lV hb.2 e1' (by simpa using e2) (by simpa using e3)
theorem sW:∀{as:List Addr}{vs us:List V},as.length=min vs.length us.length->b∈as->gN as vs us H b=some o->as.Pairwise (· < ·)->∃(j:Nat)(v u:V),as[j]?=some b/\vs[j]?=some v/\us[j]?=some u/\o=.tup [v,u]:=λ{as vs us} hl hb e hp=>by
 obtain⟨j,hj⟩:=List.mem_iff_getElem?.mp hb;have hjl:j<as.length:=(Hr.mp hj).1;have h1:vs[j]?=some (vs[j]'(by omega)):=Hy _
 have h2:us[j]?=some (us[j]'(by omega)):=Hy _
 rw[lV hp hj h1 h2]at e;cases e;exact⟨j,_,_,hj,h1,h2,rfl⟩
theorem nG{K:Iz}:∀(as:List Addr)(vs us:List V)(ds es:List D),as.length=min vs.length us.length->DenL K H ds vs->DenL K H es us->(∀(j:Nat) a v u,as[j]?=some a->vs[j]?=some v->us[j]?=some u->H a=some (.tup [v,u]))->DenL K H (eA ds es) (as.map V.ref)
 |[],vs,us,ds,es,hl,d1,d2,_=>by
  have l1:=d1.length;have l2:=d2.length;have hz:(eA ds es).length=0:=by simp only[eA,Hm,List.length_zip];simp at hl;omega
  rw[List.eq_nil_of_length_eq_zero hz];rfl
 |a::as,[],_,_,_,hl,_,_,_=>by simp at hl
 |a::as,_::_,[],_,_,hl,_,_,_=>by simp at hl
 |a::as,v::vs,u::us,[],_,_,d1,_,_=>by have:=d1.length;simp at this
 |a::as,v::vs,u::us,_::_,[],_,_,d2,_=>by have:=d2.length;simp at this
 |a::as,v::vs,u::us,d::ds,e::es,hl,d1,d2,h=>by
  obtain⟨v',r,e1,a1,b1⟩:=d1;cases e1;obtain⟨u',r',e2,a2,b2⟩:=d2;cases e2;refine⟨.ref a,as.map V.ref,rfl,⟨a,[v,u],rfl,.inl (.inl (h 0 a v u rfl rfl rfl)),⟨v,[u],rfl,a1,⟨u,[],rfl,a2,rfl⟩⟩⟩,?_⟩;exact nG as vs us ds es (by simp at hl ⊢;omega) b1 b2 λj a v u q1 q2 q3=>h (j+1) a v u (by simpa using q1) (by simpa using q2) (by simpa using q3)
theorem z7{X:Cx}{cls:Nat->Addr}{E2:St->XK}{a b:Expr}{ta tb:St3->MH->VK3->XN->Prop}{p pos p' pos':Pos}{fz:Bool}(hc:X.calm=true)(hgl:Gl X "list")(hml:X.mg "list"=none)(hg:Gl X "zip")(hm:X.mg "zip"=none)(ha:PE X a (low X.K cls E2 ta))(hb:PE X b (low X.K cls E2 tb))(hs:starEach [a,b] X.env=[(false,eval a X.env),(false,eval b X.env)])(hs2:starEach [b] X.env=[(false,eval b X.env)]) :
  PE X (.Call (.Name "list" p') [.Call (.Name "zip" p) [a,b] [] pos] [] pos') (low X.K cls E2 λσ M Q E=>ta σ M (λx M1=>tb σ M1 (λy M2=>rLz fz x y M2 Q) E) E):=by
 intro pins s σ H Q2 I hl_;refine ex9 hl_ λσ3 M Q E3 rm ds lk h back=>?_
 refine wpAny_Call_Name_kw (eh I hgl hml (u:=.type "list") (by decide +kernel) ?_)
 refine PyProof.Rows.callWith_type1 ?_;refine Calls.spliced_cons ?_;refine Call_ (eh I hg hm (u:=.type "zip") (by decide +kernel) (PyProof.Rows.callWith_type1 (thn ((aI ha (aI hb pa_nil hs2) (by rw[hs,hs2])) pos pins s σ H (λvs H1=>∃v u x y M1,vs=[v,u]/\Den X.K H1 x v/\Den X.K H1 y u/\RelM X.K M1 H1/\TM X.K H H1/\rLz fz x y M1 Q) I ?_) λus s1 ⟨vs,H1,I1,r1,q1⟩=>?_) (by rw[hs,hs2]) (by rw[hs2];rfl)))
 ·exact mr rm ds lk h λv w H2 x y M2 dx dy rm2 t2 q2=>⟨v,w,x,y,M2,rfl,dx,dy,rm2,t2,q2⟩
 ·obtain⟨v,u,x,y,M1,rfl,dx,dy,rm1,t1,q⟩:=q1;cases x with
  |rol es=>
   cases y with
   |rol fs=>
    obtain⟨c,vs,rfl,sq,dl⟩:=dx;obtain⟨d,ws,rfl,sq2,dl2⟩:=dy;obtain⟨u1,u2,rfl,ru,rw'⟩:=r1.two;cases ru;cases rw';obtain⟨its,rv,pl,hz⟩:=I1.list sq.sq;obtain⟨its2,rv2,pl2,hz2⟩:=I1.list sq2.sq;have a1:c<s1.heap.objs.size:=by obtain⟨_,_,e,_⟩:=pl;exact Hi e
    have a2:d<s1.heap.objs.size:=by obtain⟨_,_,e,_⟩:=pl2;exact Hi e
    refine call_zip_2 pl.isList pl2.isList λh' h1 h2 h3 h4 h5 hsz k=>?_
    refine Calls.spliced_nil ?_;have hl1:h'.IsList c its.toArray:=pl.isList.at λo e=>k _ o e
    have hl2:h'.IsList d its2.toArray:=pl2.isList.at λo e=>k _ o e
    have e1:=rv.length;have e2:=rv2.length;have hmin:min its.toArray.size its2.toArray.size=min vs.length ws.length:=by simp[e1,e2]
    refine yP (s:={s1 with heap:=h'}) (I.ok.hd hc) (zipApart_new a1 a2) h1 h2 ⟨_,_,h3⟩ h4 h5 hl1 hl2 (by rw[hmin];omega) λh2' tk acc cc as hk hS hl hG hacc=>?_
    have hk':∀b o,s1.heap.get? b=some o->h2'.get? b=some o:=λb o e=>hk b o (λhb=>by
     have:=Hi e;simp only[Hj,HI,or_false]at hb;rcases hb with z|z|z|z<;>(rw[z]at this;first|exact absurd this (Nat.not_lt.mpr (Ip _ _))|exact absurd this (Ik _))) (k b o e)
    have hab:∀b∈as,s1.heap.objs.size<b:=λb hb=>by
     have h6:h'.objs.size+1<=b:=hG.above b hb;omega
    have hnS:h'.objs.size∉as:=λhb=>by
     have h6:h'.objs.size+1<=h'.objs.size:=hG.above _ hb;omega
    have hl':as.length=min vs.length ws.length:=by rw[hl];exact hmin
    have hHS:H1 h'.objs.size=none:=I1.hok.fresh (by omega)
    have he1:∀b,b<s1.heap.objs.size->gN as vs ws H1 b=H1 b:=λb hb=>d7 λz=>by have:=hab b z;omega
    have up:∀b o,H1 b=some o->gN as vs ws H1 b=H1 b:=λb o e=>he1 b (I1.hok.lt e)
    have I2:Inv X pins σ (upd (gN as vs ws H1) h'.objs.size (.lst (as.map V.ref))) {s1 with heap:=h2',toks:=tk}:=I1.grown hk' (λb hb=>by rw[ae (Hx (by omega)),he1 b hb]) λb o hb e=>by
     by_cases hbS:b=h'.objs.size
     ·subst hbS;rw[ag]at e;cases e;refine⟨by rw[Hm];omega,as.map Value.ref,cc,xD as,?_⟩
      rw[<-hacc];simpa using hS
     ·rw[ae hbS]at e;by_cases hba:b∈as
      ·obtain⟨j,v,u,q1,q2,q3,rfl⟩:=sW hl' hba e hG.rise;obtain⟨x,y,q4,q5,q6⟩:=hG.pairs j b q1;obtain⟨x',q7,rx⟩:=rv.get q2;obtain⟨y',q8,ry⟩:=rv2.get q3;have q4':its[j]?=some x:=by simpa using q4
       have q5':its2[j]?=some y:=by simpa using q5
       rw[q4']at q7;cases q7;rw[q5']at q8;cases q8;exact⟨by show 2<=sizeLine;decide,[x,y],.cons rx (.cons ry .nil),⟨_,q6,rfl,_,rfl⟩⟩
      ·rw[d7 hba,I1.hok.fresh hb]at e;cases e
    have tm1:TM X.K H1 (gN as vs ws H1):=.un (λb xs e=>(up b _ e).trans e) λb o u e=>(up b _ e).trans e
    exact bZ I2 (by rw[d7 hnS];exact hHS) (nG as vs ws es fs hl' (dl.mono tm1) (dl2.mono tm1) λj a v u q1 q2 q3=>lV hG.rise q1 q2 q3) (λa o e=>by
     obtain⟨u,hu⟩:=(rm1 a o e).tracked;exact (rm1 a o e).stay tm1 (up a u hu)) (t1.trans tm1) q back
   |_=>exact q.elim
  |_=>exact q.elim
section
variable {X:Cx}
noncomputable def Itv(K:Iz)(a:Addr)(n:Nat):It:=
 ⟨λi H=>∃xs,SqL K H a xs/\xs.length=n/\i<n,λi H x H'=>H'=H/\∀xs,SqL K H a xs->xs[n-1-i]?=some x,λi H=>i=n⟩
theorem tI{K:Iz}(a it:Addr)(n:Nat):Turn P w K tg (Itv K a n) [it] it (λi h=>h.IsRevIter it a ((n:Int)-1-(i:Int))) where
 mem:=by simp
 obj:=λi h st b hb=>by
  have e:b=it:=by simpa using hb
  subst e;obtain⟨o,e,c,d⟩:=st;exact⟨o,e,λv z=>by rw[d]at z;cases z⟩
 keep:=λi h h' st k=>st.at λo e=>k it (by simp) o e
 item:=by
  intro X hP hw hK hc i pins s σ H E I hf st hg;subst hP hw hK;obtain⟨xs,hq,hn,hi⟩:=hg;obtain⟨its,rv,p,hz⟩:=I.list hq;have hx:xs[n-1-i]?=some (xs[n-1-i]'(by omega)):=Hy _
  obtain⟨u,hu,ru⟩:=rv.get hx;obtain⟨f0,f1,f2,f3,f4,f5⟩:=hf it (by simp)
  have e:(n:Int)-1-(i:Int)=((n-1-i:Nat):Int):=by omega
  rw[e]at st;refine wpAny_pyNext_rev_item st p.isList (x:=u) (by simpa using hu) λh' st' sb=>?_
  have e2:((n-1-i:Nat):Int)-1=(n:Int)-1-((i+1:Nat):Int):=by omega
  rw[e2]at st';have I1:Inv X pins σ H {s with heap:=h'}:=I.turned (t':=s.toks) (λb o hb e=>(sb.2 b hb).trans e) f0 f1 f3 f4 f5
  obtain⟨o,e,c,d⟩:=id st';exact⟨u,rfl,mX (s:={s with heap:=h'}) e c d (by decide) ⟨_,H,I1,ru,⟨rfl,λys hy=>by rw[I.list_inj hy hq];exact hx⟩,st',λb hb=>(hf b hb).1⟩⟩
 done:=by
  intro X hP hw hK hc i pins s σ H E I hf st hg;subst hP hw hK;have hg':i=n:=hg;subst hg';obtain⟨f0,f1,f2,f3,f4,f5⟩:=hf it (by simp)
  have e:(i:Int)-1-(i:Int) = -1:=by omega
  rw[e]at st;exact wpAny_pyNext_rev_end (I.ok.hd hc) st λh' eb=>⟨rfl,I.turned (t':=s.toks) (λb o hb e=>eb b o hb e) f0 f1 f3 f4 f5⟩
 self:=λ_ _ _ _ _ st h=>wpAny_pyIter_revIter st h
theorem zA{K:Iz}{vs:List V}{ds:List D}(sq:SqF K H0 p vs)(dl:DenL K H0 ds vs):ItOk K H0 (Itv K p vs.length) ds.reverse (λ_=>True):=by
 have hlen:=dl.length;refine⟨λi H M t rm s hi=>?_,λi H M x H' t rm s hi y=>?_,λH M t rm s=>?_⟩
 ·exact⟨vs,(t.f _ _ sq).sq,rfl,by simp at hi;omega⟩
 ·obtain⟨rfl,hv⟩:=y;obtain⟨d,e1,e2⟩:=(dl.mono t).get' (hv vs (t.f _ _ sq).sq);refine⟨.refl _,rm,d,?_,e2⟩;simp only[List.length_reverse]at hi;rw[List.getElem?_reverse hi,hlen];exact e1
 ·show ds.reverse.length=vs.length;rw[List.length_reverse,hlen]
noncomputable def Fs(K:Iz)(ta:TA):TI:=λσ H R=>ta σ H λvs H1=>∃a xs,vs=[.ref a]/\SqL K H1 a xs/\R (Itv K a xs.length) H1
theorem zj(hg:Gl X "reversed")(hm:X.mg "reversed"=none)(ha:PA X [a] ta)(hs:starEach [a] X.env=[(false,eval a X.env)]):PI X tg (.Call (.Name "reversed" p) [a] [] pos) (Fs X.K ta):=by
 intro pins s σ H R I h;refine Call_ (eh I hg hm (u:=.type "reversed") (by decide +kernel) (PyProof.Rows.callWith_type1 (thn (ha pos pins s σ H _ I h) λus s1 ⟨vs,H1,I1,r1,q1⟩=>?_) hs rfl))
 obtain⟨b,xs,e,hq,q⟩:=q1;subst e;obtain⟨u,rfl,ru⟩:=iP r1;cases ru;obtain⟨its,rv,pl,hz⟩:=I1.list hq;refine call_reversed_list pl.isList ?_;have e1:((its.toArray.size:Nat):Int)-1=(xs.length:Int)-1-((0:Nat):Int):=by have:=rv.length;simp;omega
 rw[e1];have k:∀b o,s1.heap.get? b=some o->(s1.heap.push (revObj b ((xs.length:Int)-1-((0:Nat):Int)))).get? b=some o:=λb o e=>Hd _ e
 have hit:(s1.heap.push (revObj b ((xs.length:Int)-1-((0:Nat):Int)))).IsRevIter s1.heap.objs.size b ((xs.length:Int)-1-((0:Nat):Int)):=⟨_,Hn _ rfl,rfl,rfl⟩;refine wpAny_pyIter_revIter (s:={s1 with heap:=s1.heap.push (revObj b ((xs.length:Int)-1-((0:Nat):Int)))}) hit ?_
 refine⟨s1.heap.objs.size,[s1.heap.objs.size],_,_,H1,rfl,I1.kept (t':=s1.toks) (λc o e=>Hd _ e),tI b s1.heap.objs.size xs.length,hit,λc hc=>?_,q⟩
 have e':c=s1.heap.objs.size:=by simpa using hc
 subst e';exact I1.fpOk (Hh _) (I1.hok.fresh (Hh _))
theorem A5(hg:Gl X "reversed")(hm:X.mg "reversed"=none)(ha:PE X a (low X.K cls E2 ta))(hs:starEach [a] X.env=[(false,eval a X.env)]) :
  PI X tg (.Call (.Name "reversed" p) [a] [] pos) (kj X.K cls E2 λσ M R E=>ta σ M (λx M1=>match x with
  |.rol ds=>R ds.reverse (λ_=>True) M1
  |_=>False) E):=
 (zj hg hm (aI ha pa_nil hs) hs).imp λσ H R2 hl_=>ex9 hl_ λσ3 M R E3 rm ds lk h k=>aZ rm ds lk h λv H1 x M1 dx rm1 t1 q1=>by
  cases x with
  |rol es=>
   obtain⟨q,vs,rfl,sq,dl⟩:=dx;exact⟨q,vs,rfl,sq.sq,k _ _ _ _ _ (zA sq dl) rm1 t1 q1⟩
  |_=>exact q1.elim
end
section
variable {A:Around}{s:Shared}{items:Array Value}
end
section
variable {X:Cx}
theorem yC{s:Shared}(I:Inv X pins σ H s):(s.heap.objs.size == sysModules)=false:=by
 have h:mainGlobals<s.heap.objs.size:=(I.mod.glob.keeps I.bk).lt;have h2:sysModules<mainGlobals:=by decide
 exact HK.mpr (Nat.ne_of_gt (Nat.lt_trans h2 h))
theorem yF(tk:Bool):PE X (.Dict [] [] pos) (low X.K cls E2 λσ M Q E=>∀p,M p=none->Q (.ref p) (put M p (if tk=true then .dt [] [] else .dk [] []))):=by
 refine λpins s σ H Q2 I hl_=>ex9 hl_ λσ3 M Q E3 rm ds lk q back=>?_
 have hp:H s.heap.objs.size=none:=I.hok.fresh (Hh _);have hb:=yC I;have q0:=q s.heap.objs.size (rm.fresh hp);cases tk with
 |false=>
  have ok0:ObjOk X.prog X.w (upd H s.heap.objs.size (.dK [])) (s.heap.push {cls:=.type "dict",data:=.dict #[]}) s.heap.objs.size (.dK []):=⟨Nat.zero_le _,hb,[],.nil,Heap.DictOf.new s.heap⟩;have I1:=I.laid (a:=s.heap.objs.size) (o:=.dK []) (h':=s.heap.push {cls:=.type "dict",data:=.dict #[]}) (t':=s.toks) (λ_ _ q=>Hd _ q) (Hh _) ok0
  have rm1:RelM X.K (put M s.heap.objs.size (.dk [] [])) (upd H s.heap.objs.size (.dK [])):=rm.lay hp ⟨[],ag,rfl,rfl⟩;exact wpAny_Dict_empty ⟨.ref s.heap.objs.size,_,I1,rfl,back _ _ (.ref s.heap.objs.size) _ rfl rm1 (.new hp) q0⟩
 |true=>
  obtain⟨ob,es,ep,hq,hx,hd,he,_,_⟩:=(Heap.DictOfH.new (knd:=tupleKind (intKind X.prog X.w)) s.heap);have tb:c6 s.heap.objs.size [] (s.heap.push {cls:=.type "dict",data:=.dict #[]}):=⟨ob,es,ep,hq,hx,hd,he⟩;have ok0:ObjOk X.prog X.w (upd H s.heap.objs.size (.ext (c6 s.heap.objs.size []))) (s.heap.push {cls:=.type "dict",data:=.dict #[]}) s.heap.objs.size (.ext (c6 s.heap.objs.size [])):=
   ⟨tb,⟨ob,hq⟩,λg1 g2 ⟨o1,es1,ep1,a1,a2,a3,a4⟩ kk=>⟨o1,es1,ep1,kk _ a1,a2,a3,a4⟩⟩
  have I1:=I.laid (a:=s.heap.objs.size) (o:=.ext (c6 s.heap.objs.size [])) (h':=s.heap.push {cls:=.type "dict",data:=.dict #[]}) (t':=s.toks) (λ_ _ q=>Hd _ q) (Hh _) ok0
  have rm1:RelM X.K (put M s.heap.objs.size (.dt [] [])) (upd H s.heap.objs.size (.ext (c6 s.heap.objs.size []))):=rm.lay hp ⟨[],[],ag,⟨rfl,.nil,Nat.zero_le _,hb,.nil,λx hx=>nomatch hx⟩,rfl⟩
  exact wpAny_Dict_empty ⟨.ref s.heap.objs.size,_,I1,rfl,back _ _ (.ref s.heap.objs.size) _ rfl rm1 (.new hp) q0⟩
end
section
variable {X:Cx}
end
section
variable {X:Cx}{cls:Nat->Addr}{E2:St->XK}{e:Expr}{pos p:Pos}
end
noncomputable def isS(x:Str):Option Expr->Bool
 |some (.Constant k _ _)=>match k with
  |.str y=>decide (y=x)
  |_=>false
 |_=>false
noncomputable def isN(i:Int):Expr->Bool
 |.Constant k _ _=>match k with
  |.int j=>decide (j=i)
  |_=>false
 |_=>false
section
variable {X:Cx}
end
section
variable {X:Cx}{A:Around}
end
section
variable {A:Around}{s:Shared}{ob:Obj}{es:Array DictEntry}
end
def DOb(o:Obj)(ps:List (V×V)):Prop:=∃es ep,o.ExactDict/\o.data=.dict es ep/\es.size=ps.length/\∀(i:Nat) p e,ps[i]?=some p->es[i]?=some e->RelV p.1 e.key/\RelV p.2 e.val
theorem Inv.frzGet{s:Shared}(I:Inv X pins σ H s)(e:H d=some (.frz o u)):s.heap.get? d=some o:=(I.hok _ _ e).1
section
variable {X:Cx}{apos cpos:Pos}
end
section
variable {X:Cx}
end
theorem ER.upd_nx{K:Iz}(er:ER K H D3 D2)(h:∀σ' H' σ3' M',RelM K M' H'->DenS K H' σ3' σ'->TM K H H'->n3 σ3' M'->n2 σ' H'):ER K H {D3 with nx:=n3} {D2 with nx:=n2}:=⟨h,er.rt,er.bk,er.ct⟩
section
variable {X:Cx}{cls:Nat->Addr}{E2:St->XK}{st:Stmt}{ax:List Stmt}{t u:Ends3->(St3->XN)->St3->MH->Prop}{e:Expr}{te:St3->MH->VK3->XN->Prop}{pos:Pos}
theorem B9:PSs X [] (bv X.K cls E2 λD _ σ M=>D.nx σ M):=pss_nil.imp λD2 σ H hl_=>ex9 hl_ λσ3 M D3 E3 rm ds lk h er=>er.nx σ H σ3 M rm ds (.refl _) h
theorem Ay(h1:PS X st (bv X.K cls E2 t))(h2:PSs X ax (bv X.K cls E2 u)):PSs X (st::ax) (bv X.K cls E2 λD E σ M=>t {D with nx:=λσ' M'=>u D E σ' M'} E σ M):=
 (nc h1 h2).imp λD2 σ H hl_=>ex9 hl_ λσ3 M D3 E3 rm ds lk h er=>⟨σ3,M,_,E3,rm,ds,lk,h,er.upd_nx λσ' H' σ3' M' rm' ds' tm q=>⟨σ3',M',D3,E3,rm',ds',lk.mono tm,q,er.mono tm⟩⟩
theorem Bm{i:Nat}(h2:PSs X ax (bv X.K cls E2 u)):PSs X ax (bv X.K cls E2 λD E σ M=>match σ[i]? with
  |some (some x)=>aU (λy M'=>u D E (σ.set i (some y)) M') x M
  |_=>False):=λpins s σ H D2 I hl_=>ex9 hl_ λσ3 M D3 E3 rm ds lk h er=>by
 dsimp only at h;split at h
 ·rename_i x e;obtain⟨v,e1,dv⟩:=ds.2 i x e;obtain⟨H2,M2,d2,I2,t2,rm2,dv2,q2⟩:=jf I rm dv h;refine h2 pins s σ H2 D2 I2 ⟨_,M2,D3,E3,rm2,?_,lk.mono t2,q2,er.mono t2⟩;have:=(ds.mono t2).set (i:=i) dv2;obtain⟨l,e2⟩:=Hr.mp e1
  rwa [<-e2,List.set_getElem_self]at this
 ·exact h.elim
theorem zu:PS X st (bv X.K cls E2 λ_ _ _ _=>False):=λ_ _ _ _ _ _ hl_=>ex9 hl_ λ_ _ _ _ _ _ _ h _=>h.elim
theorem yV(he:PE X e (low X.K cls E2 te))(hs:swapsWith e none pos.line X.env=pure false):PS X (.Expr e pos) (bv X.K cls E2 λD E σ M=>te σ M (λ_ M1=>D.nx σ M1) (E σ)):=
 (lG he hs).imp λD2 σ H hl_=>ex9 hl_ λσ3 M D3 E3 rm ds lk h er=>aZ rm ds (lk.at ds) h λv H1 x M1 dx rm1 t1 q1=>er.nx σ H1 σ3 M1 rm1 (ds.mono t1) t1 q1
theorem Cs(he:PE X e (low X.K cls E2 te)):PS X (.Return (some e) pos) (bv X.K cls E2 λD E σ M=>te σ M D.rt (E σ)):=
 (zo he).imp λD2 σ H hl_=>ex9 hl_ λσ3 M D3 E3 rm ds lk h er=>aZ rm ds (lk.at ds) h λv H1 x M1 dx rm1 t1 q1=>er.rt v H1 x M1 dx rm1 t1 q1
theorem Ep(hc:PT X c (cB X.K cls E2 tA))(ha:PSs X a (bv X.K cls E2 t))(hb:PSs X b (bv X.K cls E2 u)) :
  PS X (.If c a b pos) (bv X.K cls E2 λD E σ M=>tA σ M (λk M1=>if k=true then t D E σ M1 else u D E σ M1) (E σ)):=
 (CA hc ha hb).imp λD2 σ H hl_=>ex9 hl_ λσ3 M D3 E3 rm ds lk h er=>iN rm ds (lk.at ds) h λk H1 M1 rm1 t1 q1=>by
  cases k with
  |true=>rw[Hg rfl]at q1 ⊢;exact⟨σ3,M1,D3,E3,rm1,ds.mono t1,lk.mono t1,q1,er.mono t1⟩
  |false=>rw[Hc Hq]at q1 ⊢;exact⟨σ3,M1,D3,E3,rm1,ds.mono t1,lk.mono t1,q1,er.mono t1⟩
theorem xQ(hN:X.N.Nodup)(hi:X.N[i]?=some x)(hx:Loc X.env.scope x)(he:PE X e (low X.K cls E2 te))(hs:swapsWith e (some (.Name x pos')) pos.line X.env=pure false)(hf:X.fn x=true\/X.env.scope.names.lookup x=some .local) :
  PS X (.Assign [.Name x pos'] e pos) (bv X.K cls E2 λD E σ M=>te σ M (λx M1=>D.nx (σ.set i (some x)) M1) (E σ)):=
 (xU hN hi hx he hs hf).imp λD2 σ H hl_=>ex9 hl_ λσ3 M D3 E3 rm ds lk h er=>aZ rm ds (lk.at ds) h λv H1 x M1 dx rm1 t1 q1=>er.nx _ _ _ _ rm1 ((ds.mono t1).set dx) t1 q1
theorem yi(hN:X.N.Nodup)(hi:X.N[i]?=some x)(hx:Loc X.env.scope x)(hf:X.fn x=true\/X.env.scope.names.lookup x=some .local):PG X (.Name x pos) (rY X.K (wpG (.name i))):=
 (i8 hN hi hx hf).imp λv σ H Q2 ⟨d,σ3,M,Q,dv,rm,ds,h,back⟩=>back _ _ _ _ rm (ds.set dv) (.refl _) h
noncomputable def c9(N:List Str)(sc:Scope)(fn:Bool):List Nat->List Expr->Bool
 |[],[]=>true
 |i::is,.Name x _::es=>(N[i]? == some x)&&(sc.names.lookup x == some .local||(fn&&sc.names.lookup x == some .cell))&&c9 N sc fn is es
 |_,_=>false
noncomputable def j2(is:List Nat)(xs:List α)(σ:List (Option α)):List (Option α):=(is.zip xs).foldl (λσ p=>σ.set p.1 (some p.2)) σ
theorem ll(hN:X.N.Nodup)(hfn:fn=true->∀x,X.fn x=true):∀{is:List Nat}{es:List Expr},c9 X.N X.env.scope fn is es=true->
  PGs X es (λvs σ H Q=>vs.length=is.length/\Q (j2 is vs σ) H)/\(assignEach es X.env).length=is.length/\(assignEach es X.env).findIdx? (·.1)=none
 |[],[],_=>⟨λpins s σ H vs us Q I r ⟨e,h⟩=>vL pins s σ H vs us Q I r ⟨List.length_eq_zero_iff.mp e,by cases List.length_eq_zero_iff.mp e;exact h⟩,rfl,rfl⟩
 |[],_::_,h=>by simp[c9]at h
 |i::is,es,h=>by
  unfold c9 at h;split at h
  ·rename_i heq;cases heq
  ·rename_i i' is' x px es' heq;cases heq;simp only[G9,Hs,Bool.or_eq_true]at h;obtain⟨⟨h1,h2⟩,h3⟩:=h;obtain⟨ih,il,ix⟩:=ll hN hfn h3;have hg:PG X (.Name x px) (pR i):=by
    rcases h2 with h2|⟨h2,h4⟩
    ·exact i8 hN h1 (.inl h2) (.inr h2)
    ·exact i8 hN h1 (.inr h4) (.inl (hfn h2 x))
   refine⟨λpins s σ H vs us Q I r ⟨e,q⟩=>?_,by show (assignEach es' X.env).length+1=is.length+1;rw[il],?_⟩
   ·cases vs with
    |nil=>cases e
    |cons v vs=>exact tM hg ih rfl pins s σ H (v::vs) us Q I r ⟨v,vs,rfl,by simpa using e,q⟩
   ·show List.findIdx? (·.1) ((false,assign (.Name x px) X.env)::assignEach es' X.env)=none;rw[List.findIdx?_cons];simp[ix]
  ·cases h
theorem jz{K:Iz}:∀{is:List Nat}{ds:List D}{vs:List V}{σ3:St3}{σ:St},DenL K H ds vs->DenS K H σ3 σ->DenS K H (j2 is ds σ3) (j2 is vs σ)
 |[],_,_,_,_,_,h=>by simpa [j2] using h
 |i::is,[],vs,_,_,dl,h=>by cases (show vs=[] from dl);simpa [j2] using h
 |i::is,d::ds,vs,_,_,dl,h=>by
  obtain⟨v,r,rfl,dv,dl⟩:=dl;exact jz (is:=is) dl (h.set (i:=i) dv)
theorem BF(hc:X.calm=true)(hN:X.N.Nodup)(hfn:fn=true->∀x,X.fn x=true)(ok:c9 X.N X.env.scope fn is es=true):PG X (.Tuple es k pos) (rY X.K (wpG (.tup is))):=by
 obtain⟨h1,h2,h3⟩:=ll hN hfn ok;refine (zw hc h1 h2 h3).imp λv σ H Q2 ⟨d,σ3,M,Q,dv,rm,ds,h,back⟩=>?_
 simp only[wpG]at h;split at h
 ·rename_i es';obtain⟨p,vs,rfl,sq,dl⟩:=dv;obtain⟨z,q⟩:=h;exact⟨p,vs,rfl,sq,by rw[<-dl.length];exact z,by rw[<-dl.length];exact z,back _ _ _ _ rm (jz dl ds) (.refl _) q⟩
 ·exact h.elim
theorem CI(hp:PassesOwn (model X.prog X.w) X.A X.env X.xe)(hc:X.calm=true)(hi:PI X tg iter (kj X.K cls E2 wi))(hg:PG X tg (rY X.K g))(hb:PSs X body (bv X.K cls E2 t))
  (hs:∀x,foldedSetIterable iter X.env x=pure x):PS X (.For tg iter body [] pos) (bv X.K cls E2 λD E σ M=>wi σ M (λds S M1=>jX g (λD σ M=>t D E σ M) S D ds σ M1) (E σ)):=by
 refine (zP hp hc hi hg hb hs).imp λD2 σ H hl_=>ex9 hl_ λσ3 M D3 E3 rm ds0 lk h er=>⟨σ3,M,_,E3 σ3,rm,ds0,lk.at ds0,h,λJ H1 ds S M1 ok rm1 tm1 hP=>?_⟩
 refine⟨λi m σ' H'=>∃σ3' M',m=ds.length-i/\i<=ds.length/\RelM X.K M' H'/\DenS X.K H' σ3' σ'/\TM X.K H1 H'/\jX g (λD σ M=>t D E3 σ M) S D3 (ds.drop i) σ3' M',⟨ds.length,σ3,M1,by simp,Nat.zero_le _,rm1,ds0.mono tm1,.refl _,hP⟩,?_⟩
 rintro i m σ' H' ⟨σ3',M',rfl,hil,rm',ds',tm',p⟩;by_cases hlt:i<ds.length
 ·rw[List.drop_eq_getElem_cons hlt]at p;obtain⟨s',p⟩:=p;refine .inr ⟨ok.go i H' M' tm' rm' s' hlt,λσ4 H4=>∃σ34 M4,RelM X.K M4 H4/\DenS X.K H4 σ34 σ4/\TM X.K H1 H4/\jX g (λD σ M=>t D E3 σ M) S D3 (ds.drop (i+1)) σ34 M4,?_,?_⟩
  ·rintro σ4 H4 ⟨σ34,M4,e1,e2,e3,e4⟩;exact⟨ds.length-(i+1),by omega,σ34,M4,rfl,hlt,e1,e2,e3,e4⟩
  ·intro x H2 y;obtain⟨tm2,rm2,d,hd,dv⟩:=ok.yld i H' M' x H2 tm' rm' s' hlt y;rw[Hy hlt]at hd;cases hd;refine⟨_,σ3',M',_,dv,rm2,ds'.mono tm2,p,λσ5 H5 σ35 M5 rm5 ds5 tm5 q5=>?_⟩
   have tmA:TM X.K H1 H5:=(tm'.trans tm2).trans tm5;exact⟨σ35,M5,_,E3,rm5,ds5,lk.mono (tm1.trans tmA),q5,⟨λσ6 H6 σ36 M6 rm6 ds6 tm6 q6=>⟨σ36,M6,rm6,ds6,tmA.trans tm6,q6⟩,λv H6 d6 M6 dv6 rm6 tm6 q6=>er.rt v H6 d6 M6 dv6 rm6 (tm1.trans (tmA.trans tm6)) q6,
    λσ6 H6 σ36 M6 rm6 ds6 tm6 q6=>er.nx σ6 H6 σ36 M6 rm6 ds6 (tm1.trans (tmA.trans tm6)) q6,λσ6 H6 σ36 M6 rm6 ds6 tm6 q6=>⟨σ36,M6,rm6,ds6,tmA.trans tm6,q6⟩⟩⟩
 ·have e:i=ds.length:=by omega
  subst e;rw[List.drop_length]at p;exact .inl ⟨ok.stop H' M' tm' rm' p.1,er.nx σ' H' σ3' M' rm' ds' (tm1.trans tm') p.2⟩
theorem wM(hp:PassesOwn (model X.prog X.w) X.A X.env X.xe)(hc:PT X c (cB X.K cls E2 tA))(hb:PSs X body (bv X.K cls E2 t)) :
  PS X (.While c body [] pos) (bv X.K cls E2 λD E σ M=>∃P:Nat->St3->MH->Prop,(∃m,P m σ M)/\∀m σ M,P m σ M->tA σ M (λb M1=>if b=true then
   t {D with nx:=λσ' M'=>∃m',m' < m/\P m' σ' M',ct:=λσ' M'=>∃m',m' < m/\P m' σ' M',bk:=D.nx} E σ M1 else D.nx σ M1) (E σ)):=by
 refine (uM hp hc hb).imp λD2 σ H hl_=>ex9 hl_ λσ3 M D3 E3 rm ds lk h er=>?_
 obtain⟨P,⟨m0,p0⟩,step⟩:=h;refine⟨λm σ' H'=>∃σ3' M',RelM X.K M' H'/\DenS X.K H' σ3' σ'/\TM X.K H H'/\P m σ3' M',⟨m0,σ3,M,rm,ds,.refl _,p0⟩,?_⟩
 rintro m σ' H' ⟨σ3',M',rm',ds',tm',p⟩;refine iN rm' ds' ((lk.mono tm').at ds') (step m σ3' M' p) λb H1 M1 rm1 tm1 q=>?_
 cases b with
 |true=>
  rw[Hg rfl]at q ⊢;refine⟨λσ4 H4=>∃σ34 M4 m',m' < m/\RelM X.K M4 H4/\DenS X.K H4 σ34 σ4/\TM X.K H H4/\P m' σ34 M4,?_,?_⟩
  ·rintro σ4 H4 ⟨σ34,M4,m',hm,e1,e2,e3,e4⟩;exact⟨m',hm,σ34,M4,e1,e2,e3,e4⟩
  ·have tmA:=tm'.trans tm1;exact⟨σ3',M1,_,E3,rm1,ds'.mono tm1,lk.mono tmA,q,⟨λσ6 H6 σ36 M6 rm6 ds6 tm6 ⟨m',hm,q6⟩=>⟨σ36,M6,m',hm,rm6,ds6,tmA.trans tm6,q6⟩,λv H6 d6 M6 dv6 rm6 tm6 q6=>er.rt v H6 d6 M6 dv6 rm6 (tmA.trans tm6) q6,
    λσ6 H6 σ36 M6 rm6 ds6 tm6 q6=>er.nx σ6 H6 σ36 M6 rm6 ds6 (tmA.trans tm6) q6,λσ6 H6 σ36 M6 rm6 ds6 tm6 ⟨m',hm,q6⟩=>⟨σ36,M6,m',hm,rm6,ds6,tmA.trans tm6,q6⟩⟩⟩
 |false=>
  rw[Hc Hq]at q ⊢;exact er.nx σ' H1 σ3' M1 rm1 (ds'.mono tm1) (tm'.trans tm1) q
theorem vJ(hx:mw X E)(hE:E2=λ_=>E)(hc:X.calm=true)(hg:Gl X x)(hm:X.mg x=some (.ref (cls i)))(q:vV X.K (cls i))(ha:PA X (e::es) (dI X.K cls E2 tr))(hdb:(x == ("__debug__" : Str))=false)
  (he:starEach (e::es) X.env=(false,eval e X.env)::starEach es X.env) (hpl:(backTo cpos (starEach es X.env)).any (·.1)=false) :
  PS X (.Raise (some (.Call (.Name x np) (e::es) [] cpos)) none pos) (bv X.K cls E2 λ_ E σ M=>tr σ M (λxs M1=>xs.length<=sizeLine/\E σ ⟨i,none⟩ M1) (E σ)):=by
 subst hE;exact (ul hx hc hg hm q ha hdb he hpl).imp λD2 σ H hl_=>ex9 hl_ λσ3 M D3 E3 rm ds lk h er=>eu rm ds (lk.at ds) h λvs H1 xs M1 dl rm1 t1 ⟨z,q⟩=>⟨by rw[<-dl.length];exact z,lk σ3 σ ⟨i,none⟩ M1 H1 t1 (ds.mono t1) rm1 q none rfl⟩
theorem uF{E:XK}{x:Str}{np cpos:Pos}{i f:Nat}{xin:Nat->Option Nat}{fI:Addr}{fd:FuncData}{ps:List Str}{es:List Expr}{tr:St3->MH->(List D->MH->Prop)->XN->Prop}(hx:jj X E)(hE:E2=λ_=>E)(hc:X.calm=true)(hg:Gl X x)(hm:X.mg x=some (.ref (cls i)))(q:XIni X.K (cls i) fI (fnm f))
  (F:FnOk X.prog X.w X.K X.mg X.base (CX1 X.prog X.w) 1 fI fd ps (iK (cpF f) X.K (cls i) (fnm f))) (hr:Room 2 X.A)(hb:Binds X.K fd ps []) (hf:xin i=some f) (ha:PA X (e::es) (dI X.K cls E2 tr)) (hdb:(x == ("__debug__" : Str))=false)
  (he:starEach (e::es) X.env=(false,eval e X.env)::starEach es X.env) (hpl:(backTo cpos (starEach es X.env)).any (·.1)=false) :
  PS X (.Raise (some (.Call (.Name x np) (e::es) [] cpos)) none pos) (bv X.K cls E2 λ_ E σ M=>tr σ M (λxs M1=>match xs with
   |[y]=>dn (xin i) λf=>rXp f y M1 λy'=>E σ ⟨i,some (f,y')⟩ M1
   |_=>False) (E σ)):=by
 subst hE;refine (qL hx hc hg hm q F hr hb ha hdb he hpl).imp λD2 σ H hl_=>ex9 hl_ λσ3 M D3 E3 rm ds lk h er=>eu rm ds (lk.at ds) h λvs H1 xs M1 dl rm1 t1 q=>?_
 split at q
 ·rename_i y;rw[hf]at q;obtain⟨v,r,e1,dv,e2⟩:=dl;cases (show r=[] from e2);subst e1;simp only[dn,rXp]at q;refine⟨v,rfl,λz dx ob n=>?_,λz=>?_⟩
  ·rw[z,Hc Hq]at q;exact lk σ3 σ ⟨i,some (f,y)⟩ M1 _ (t1.trans (.new n)) (ds.mono (t1.trans (.new n))) (rm1.grow n) q (some dx) ⟨dx,ob,v,rfl,ag,dv.mono (.new n)⟩
  ·rw[z,Hg rfl]at q;split at q
   ·rename_i es ee;obtain⟨p,ws,rfl,hq,dl2⟩:=bq rm1 ee dv;refine⟨p,ws,rfl,hq.elim .inl SqM.sq,λq' o dx ob n1 n2 nn=>?_⟩
    have tA:TM X.K H1 (upd H1 q' (.frz o (.lst ws))):=.new n1;have n3:upd H1 q' (.frz o (.lst ws)) dx=none:=by rw[ae nn];exact n2
    have tB:=tA.trans (.new (o:=.frz ob (.xd [(fnm f,.ref q')])) n3);exact lk σ3 σ ⟨i,some (f,.rol es)⟩ M1 _ (t1.trans tB) (ds.mono (t1.trans tB)) ((rm1.grow n1).grow n3) q (some dx) ⟨dx,ob,.ref q',rfl,ag,⟨q',ws,rfl,.inl ⟨o,by rw[ae (He nn),ag]⟩,dl2.mono tB⟩⟩
   ·exact q.elim
 ·exact q.elim
theorem C6{apos cpos:Pos}(ho:PE X o (low X.K cls E2 to))(he:PE X e (low X.K cls E2 te))(hbase:attributeBase o "append" X.env (eval o X.env)=eval o X.env)
  (hline:(apos.endLine == cpos.line)=true) (hs:starEach [e] X.env=[(false,eval e X.env)]) :
  PS X (.Expr (.Call (.Attribute o "append" apos) [e] [] cpos) pos) (bv X.K cls E2 λD E σ M=>to σ M (λx M1=>match x with
  |.ref a=>match M1 a with
   |some (.lst _)=>te σ M1 (λy M2=>match M2 a with
    |some (.lst ds)=>ds.length<sizeLine/\D.nx σ (put M2 a (.lst (ds++[y])))
    |_=>False) (E σ)
   |_=>False
  |_=>False) (E σ)):=by
 have hm:MtR X "list.append" rAppend:=k6;have h1:=Cy (X:=X) PySem.F.plainAttrs_list PySem.F.slot_list_append PySem.F.type_list_append hm ho (aI he pa_nil hs) hbase (by rw[hs];rfl) hline hs (by rfl)
 refine (lG h1 (by rfl)).imp λD2 σ H hl_=>ex9 hl_ λσ3 M D3 E3 rm ds lk h er=>?_
 refine aZ rm ds (lk.at ds) h λv H1 x M1 dx rm1 t1 q1=>?_
 split at q1
 ·rename_i a;cases (show v=.ref a from dx);split at q1
  ·rename_i ds0 e0;obtain⟨vs0,f0,_⟩:=rm1 a _ e0;refine⟨.inl ⟨rfl,vs0,.of f0⟩,aZ rm1 (ds.mono t1) ((lk.mono t1).at (ds.mono t1)) q1 λu H2 y M2 dy rm2 t2 q2=>?_⟩
   split at q2
   ·rename_i ds1 e1;obtain⟨vs,f1,dl⟩:=rm2 a _ e1;refine⟨a,vs,u,rfl,rfl,f1,by rw[<-dl.length];exact q2.1,?_⟩
    have tw:TM X.K H2 (upd H2 a (.lst (vs++[u]))):=.put f1 (λ_=>λz=>nomatch z) λ_ _=>λz=>nomatch z
    exact er.nx _ _ _ _ (rm2.write (u:=.lst (ds1++[y])) f1 (λ_=>λz=>nomatch z) (λ_ _=>λz=>nomatch z) ⟨_,ag,(dl.append (.one dy)).mono tw⟩) (((ds.mono t1).mono t2).mono tw) ((t1.trans t2).trans tw) q2.2
   ·exact q2.elim
  ·exact q1.elim
 ·exact q1.elim
end
abbrev no2:St->XK:=λ_ _ _ _=>False
theorem tZ{K:Iz}(h:DenS K H σ3 σ):DenS K H (ao js σ3) (jQ js σ):=by
 refine⟨by simp[ao,jQ],λi d e=>?_⟩
 unfold ao at e;unfold jQ;rw[HB]at e ⊢;cases q:js[i]? with
 |none=>rw[q]at e;cases e
 |some o=>
  rw[q]at e;cases o with
  |none=>cases e
  |some j=>
   rw[Option.map_some,Option.bind_some]at e;cases z:σ3[j]? with
   |none=>rw[z]at e;cases e
   |some y=>
    rw[z]at e;have e:some (id y)=some (some d):=e;have e:y=some d:=Hv e;subst e;obtain⟨v,e1,e2⟩:=h.2 j d z;refine⟨v,?_,e2⟩;rw[Option.map_some,Option.bind_some,e1];rfl
section
variable {X:Cx}
theorem j3(rm:RelM X.K M H)(ds0:DenS X.K H σ3 σ)(lk:LkE X.K cls H E3 (E2 σ))
  (h:wi σ3 M (λds S M1=>∀p,M1 p=none->dX g (λσ M Q=>tt σ M Q (λ_ _=>False)) (λσ M Q=>te σ M Q (λ_ _=>False)) S p Q ds [] (ao js σ3) (put M1 p (.lst []))) E3) (back:Back X.K H Q Q2) :
  pW js (kj X.K cls E2 wi) (rY X.K g) (cB X.K cls no2 tt) (low X.K cls no2 te) σ H Q2:=by
 refine⟨σ3,M,_,E3,rm,ds0,lk,h,λJ H1 ds S M1 ok rm1 tm1 hP p hp=>?_⟩
 have hP:=hP p (rm1.fresh hp);refine⟨λi m σc H'=>∃σ3c ys M',m=ds.length-i/\i<=ds.length/\RelM X.K M' H'/\DenS X.K H' σ3c σc/\TM X.K H1 H'/\dX g (λσ M Q=>tt σ M Q (λ_ _=>False)) (λσ M Q=>te σ M Q (λ_ _=>False)) S p Q (ds.drop i) ys σ3c M',
  ⟨ds.length,_,[],_,by simp,Nat.zero_le _,rm1.lay (u:=.lst []) hp ⟨[],ag,.nil⟩,(tZ ds0).mono (tm1.trans (.new hp)),.new hp,hP⟩,?_⟩
 rintro i m σc H' ⟨σ3c,ys,M',rfl,hil,rm',ds',tm',q⟩;by_cases hlt:i<ds.length
 ·rw[List.drop_eq_getElem_cons hlt]at q;obtain⟨s',hl,q⟩:=q;refine .inr ⟨ok.go i H' M' tm' rm' s' hlt,λx H2 y=>?_⟩
  obtain⟨tm2,rm2,d,hd,dv⟩:=ok.yld i H' M' x H2 tm' rm' s' hlt y;rw[Hy hlt]at hd;cases hd;refine⟨_,σ3c,M',_,dv,rm2,ds'.mono tm2,q,λσ5 H5 σ35 M5 rm5 ds5 tm5 q5=>?_⟩
  refine⟨σ35,M5,_,_,rm5,ds5,LkE.no,q5,λb H6 M6 rm6 tm6 q6=>?_⟩
  have tmA:TM X.K H1 H6:=((tm'.trans tm2).trans tm5).trans tm6;cases b with
  |true=>
   rw[Hg rfl]at q6;dsimp only;rw[Hg rfl];refine⟨σ35,M6,_,_,rm6,ds5.mono tm6,LkE.no,q6,λv H7 y M7 dy rm7 tm7 ⟨e7,q7⟩=>?_⟩
   obtain⟨vs,f7,dl⟩:=rm7 p _ e7;have tw:TM X.K H7 (upd H7 p (.lst (vs++[v]))):=.put f7 (λ_=>λz=>nomatch z) λ_ _=>λz=>nomatch z
   exact⟨vs,f7,by rw[<-dl.length];exact hl,ds.length-(i+1),by omega,σ35,ys++[y],_,rfl,hlt,rm7.write (u:=.lst (ys++[y])) f7 (λ_=>λz=>nomatch z) (λ_ _=>λz=>nomatch z) ⟨_,ag,(dl.append (.one dy)).mono tw⟩,((ds5.mono tm6).mono tm7).mono tw,(tmA.trans tm7).trans tw,q7⟩
  |false=>
   rw[Hc Hq]at q6;dsimp only;rw[Hc Hq];exact⟨ds.length-(i+1),by omega,σ35,ys,M6,rfl,hlt,rm6,ds5.mono tm6,tmA,q6⟩
 ·have e:i=ds.length:=by omega
  subst e;rw[List.drop_length]at q;exact .inl ⟨ok.stop H' M' tm' rm' q.1,back _ _ _ _ gW rm' (tm1.trans tm') q.2⟩
variable (hok:eK N js scope X.env.scope X.N=true) (hcalm:X.calm=true) (hi:PI X tg iter (kj X.K cls E2 wi))
  (hg:∀C s2 H2 fp pn,PG (compCx X scope C N s2 H2 fp pn) tg (rY X.K g)) (ht:∀C s2 H2 fp pn,PIf (compCx X scope C N s2 H2 fp pn) ifs (cB X.K cls no2 tt)) (he:∀C s2 H2 fp pn,PE (compCx X scope C N s2 H2 fp pn) elt (low X.K cls no2 te))
  (hs:∀x,foldedSetIterable iter X.env x=pure x)
include hok hcalm hi hg ht he hs
theorem pS:PE X (.ListComp elt [⟨tg,iter,ifs,0⟩] scope pos) (low X.K cls E2 λσ M Q E=>wi σ M (λds S M1=>∀p,M1 p=none->dX g (λσ M Q=>tt σ M Q (λ_ _=>False)) (λσ M Q=>te σ M Q (λ_ _=>False)) S p Q ds [] (ao js σ) (put M1 p (.lst []))) E):=
 (vh hok hcalm hi hg ht he hs).imp λσ H Q2 hl_=>ex9 hl_ λσ3 M Q E3 rm ds lk h back=>j3 rm ds lk h back
theorem AN(fz:Bool):PE X (.ListComp elt [⟨tg,iter,ifs,0⟩] scope pos) (low X.K cls E2 λσ M Q E=>wi σ M (λds S M1=>∀p,M1 p=none->dX g (λσ M Q=>tt σ M Q (λ_ _=>False)) (λσ M Q=>te σ M Q (λ_ _=>False)) S p (if fz=true then gA Q else Q) ds [] (ao js σ) (put M1 p (.lst []))) E):=by
 cases fz with
 |false=>exact pS hok hcalm hi hg ht he hs
 |true=>exact zS (pS hok hcalm hi hg ht he hs)
theorem o6{spos:Pos}(hN:X.N.Nodup)(hy:X.N[i]?=some y)(hl:X.env.scope.names.lookup y=some .local)(hsw:swapsWith (.ListComp elt [⟨tg,iter,ifs,0⟩] scope pos) (some (.Name y py)) spos.line X.env=pure true)(fz:Bool) :
  PS X (.Assign [.Name y py] (.ListComp elt [⟨tg,iter,ifs,0⟩] scope pos) spos) (bv X.K cls E2 λD E σ M=>wi σ M (λds S M1=>∀p,M1 p=none->dX g (λσ M Q=>tt σ M Q (λ_ _=>False)) (λσ M Q=>te σ M Q (λ_ _=>False)) S p (if fz=true then gA (λx M1=>D.nx (σ.set i (some x)) M1) else (λx M1=>D.nx (σ.set i (some x)) M1)) ds [] (ao js σ) (put M1 p (.lst []))) (E σ)):=by
 cases fz with
 |false=>exact (jU hN hy hl hok hcalm hi hg ht he hs hsw).imp λD2 σ H hl_=>ex9 hl_ λσ3 M D3 E3 rm ds lk h er=>j3 rm ds (lk.at ds) h λv H1 x M1 dx rm1 t1 q1=>er.nx _ _ _ _ rm1 ((ds.mono t1).set dx) t1 q1
 |true=>
  refine λpins s σ H D2 I hl_=>ex9 hl_ λσ3 M D3 E3 rm ds lk h er=>?_
  refine thn (jU hN hy hl hok hcalm hi hg ht he hs hsw pins s σ H {D2 with nx:=λσ' H'=>∃x v M1,σ'=σ.set i (some v)/\Den X.K H' x v/\RelM X.K M1 H'/\TM X.K H H'/\gA (λx M1=>D3.nx (σ3.set i (some x)) M1) x M1} I
   (j3 rm ds (lk.at ds) h λv H1 x M1 dx rm1 t1 q1=>⟨x,v,M1,rfl,dx,rm1,t1,q1⟩)) λfl s1 q=>?_
  cases fl with
  |next=>
   obtain⟨σ',H',I1,x,v,M1,rfl,dx,rm1,t1,q1⟩:=q;unfold gA at q1;split at q1
   ·rename_i a;cases (show v=.ref a from dx);split at q1
    ·rename_i es e;obtain⟨vs,e1,dl⟩:=rm1 a _ e;obtain⟨o,I2⟩:=I1.freeze e1;exact⟨_,_,I2,er.nx _ _ _ _ (rm1.freeze e1) ((ds.mono (t1.trans (.freeze e1))).set (gq dl e1)) (t1.trans (.freeze e1)) q1⟩
    ·exact q1.elim
   ·exact q1.elim
  |brk=>exact q
  |cont=>exact q
  |ret u=>exact q
end
def pc(K:Iz)(cls:Nat->Addr)(t:XE->Ends3->St3->MH->Prop):Ends->St->XK:=λD2 σ c dx H=>∃i σ3 M D3,(c=.ref (cls i.c)/\XD K H i dx)/\RelM K M H/\DenS K H σ3 σ/\t i D3 σ3 M/\ER K H D3 D2
theorem ER.goes{K:Iz}{D2:Ends}(er:ER K H D3 D2)(i:Nat):ER K H (nu D3 i) (D2.goes i):=
 ⟨λσ' H' σ3' M' rm ds t q=>er.nx _ _ _ _ rm ds.drop t q,er.rt,λσ' H' σ3' M' rm ds t q=>er.bk _ _ _ _ rm ds.drop t q,λσ' H' σ3' M' rm ds t q=>er.ct _ _ _ _ rm ds.drop t q⟩
section
variable {X:Cx}{cls:Nat->Addr}{E2:St->XK}{c n:Str}{k j ne:Nat}{sub:Nat->Nat->Bool}{b0:Stmt}{suite:List Stmt}{np hpos pos:Pos}{ax:List ExceptHandler}{tb:Ends3->(St3->XN)->St3->MH->Prop}{tr:XE->Ends3->St3->MH->Prop}
theorem yT:PH X [] (pc X.K cls λ_ _ _ _=>False):=λ_ _ _ _ _ _ _ _ _ ⟨_,_,_,_,_,_,_,h,_⟩=>h.elim
theorem CH(hg:Gl X c)(hm:X.mg c=some (.ref (cls k)))(hsub:∀i,i<ne->PySem.W.exmOne X.K (.ref (cls i)) (.ref (cls k))=some (sub i k))(hN:X.N.Nodup)(hj:X.N[j]?=some n)(hl:X.env.scope.names.lookup n=some .local)
  (hs:∀v,PSs (X.marked v) (b0::suite) (bv X.K cls no2 tb)) (hr:PH X ax (pc X.K cls tr)) (hdb:(c == ("__debug__" : Str))=false) :
  PH X (.ExceptHandler (some (.Name c np)) (some n) (b0::suite) hpos::ax) (pc X.K cls λi D σ M=>i.c<ne/\if sub i.c k=true then (∀a,M a=none->tb (nu D j) (λ_ _ _=>False) (σ.set j (some (.ref a))) (put M a (.exc i (.ref (cls i.c))))) else tr i D σ M):=by
 intro pins s σ H D a cv dx xi ⟨i,σ3,M,D3,⟨e,xd⟩,rm,ds,⟨hi,h⟩,er⟩;subst e;refine Bc (i:=j) hg hm hN hj hl hs hr hdb pins s σ H D a _ dx xi ?_;have z:=hsub i.c hi;cases q:sub i.c k with
 |true=>
  rw[q]at z;rw[Hg q]at h;refine .inl ⟨z,λa' ha=>?_⟩
  have tn:TM X.K H (upd H a' (wN a' (.ref (cls i.c)) dx)):=.new ha;exact⟨_,_,_,_,rm.lay (u:=.exc i (.ref (cls i.c))) ha ⟨dx,ag,xd.mono tn⟩,(ds.mono tn).set gW,(λ_ _ _ _ _ _ _ _ w=>w.elim),h a' (rm.fresh ha),(er.goes j).mono tn⟩
 |false=>
  rw[q]at z;rw[Hc (by rw[q];exact Hq)]at h
  exact .inr ⟨z,i,σ3,M,D3,⟨rfl,xd⟩,rm,ds,h,er⟩
theorem Di(hg:Gl X c)(hm:X.mg c=some (.ref (cls k)))(hsub:∀i,i<ne->PySem.W.exmOne X.K (.ref (cls i)) (.ref (cls k))=some (sub i k))
  (hs:∀v,PSs (X.marked v) (b0::suite) (bv X.K cls no2 tb)) (hr:PH X ax (pc X.K cls tr)) (hdb:(c == ("__debug__" : Str))=false) :
  PH X (.ExceptHandler (some (.Name c np)) none (b0::suite) hpos::ax) (pc X.K cls λi D σ M=>i.c<ne/\if sub i.c k=true then tb D (λ_ _ _=>False) σ M else tr i D σ M):=by
 intro pins s σ H D a cv dx xi ⟨i,σ3,M,D3,⟨e,xd⟩,rm,ds,⟨hi,h⟩,er⟩;subst e;refine Bw hg hm hs hr hdb pins s σ H D a _ dx xi ?_;have z:=hsub i.c hi;cases q:sub i.c k with
 |true=>
  rw[q]at z;rw[Hg q]at h;exact .inl ⟨z,σ3,M,D3,_,rm,ds,(λ_ _ _ _ _ _ _ _ w=>w.elim),h,er⟩
 |false=>
  rw[q]at z;rw[Hc (by rw[q];exact Hq)]at h
  exact .inr ⟨z,i,σ3,M,D3,⟨rfl,xd⟩,rm,ds,h,er⟩
theorem wo(hst:X.stack=X.env::X.outer)(hfr:X.env.frame=some X.env.locals)(hex:X.ex=[])(hh:PH X (h0::hs) th) :
  PS X (.Try body (h0::hs) [] [] pos) (λD σ H=>∀pn W,aR (CX1 X.prog X.w) (X.tryX pn W) (λσ cls d H=>th D σ cls d H)->∃t,PSs (X.tryX pn W) body t/\t D σ H):=by
 intro pins s σ H D I h;have key:∀(W:Value->Shared->Prop),aR (CX1 X.prog X.w) (X.tryX pins W) (λσ cls d H=>th D σ cls d H)->wpAny (model X.prog X.w) X.A (execs body X.env) (SP (X.tryX pins W) [] D) W s:=λW hP=>by
  obtain⟨t,ht,q⟩:=h pins W hP;exact ht [] s σ H D (I.tryX _) q
 refine wpAny_Try_except (Ig (key _ ?hx) (λf s1 q=>?_) (λe s1 q=>q))
 case hx=>
  intro pins' σ1 H1 s1 e s' I' hc;have I1:=I'.untry I.ok;obtain⟨a,cls,B,H2,dx,rfl,os,bare,un,hok,⟨fl0,dd0⟩,ha,inc,he⟩:=hc;have hnew:=wI fl0 inc;obtain⟨a0,fl⟩:=fl0;have hfl:Heap.FlyingW B (X.env::X.outer) a cls a0 s'.heap:=hst▸fl;have hA:X.A.frames=some (X.env::X.outer):=hst▸I.ok.frames;refine tF hA hfr hfl dd0 λh4 held up4 dd4=>qw held dd4 λh5 fl5 up5 dd5=>?_
  refine hh pins _ σ1 H2 D a cls dx ⟨B,a0,I1.behind (s':=s') (h4:=h5) hex os bare un hok inc fl5.1 (up4.trans up5),⟨hst▸fl5,dd5⟩,ha,?_,λp hp z=>?_,λh6 st6 up6=>I1.behind (s':=s') (h4:=h6) hex os bare un hok inc st6 ((up4.trans up5).trans up6)⟩ he
  ·cases q:X.s₀.heap.get? a with
   |none=>rfl
   |some o=>
    obtain⟨o1,e1⟩:=I1.base.there a o q (by rw[hex];exact λz=>nomatch z)
    rw[hnew]at e1;cases e1
  ·have e1:=(I1.pin p hp).1;rw[z,hnew]at e1;cases e1
 ·match f,q with
  |.next,⟨σ',H',J,q⟩=>exact wpAny_execs_nil ⟨σ',H',J.untry I.ok,q⟩
  |.brk,⟨σ',H',J,q⟩=>exact⟨σ',H',J.untry I.ok,q⟩
  |.cont,⟨σ',H',J,q⟩=>exact⟨σ',H',J.untry I.ok,q⟩
  |.ret u,⟨v,σ',H',J,r,q⟩=>exact⟨v,σ',H',J.untry I.ok,r,q⟩
theorem Cg(hst:X.stack=X.env::X.outer)(hfr:X.env.frame=some X.env.locals)(hex:X.ex=[])(hh:PH X (h0::hs) (pc X.K cls th))
  (hb:∀pn W E2',aR (CX1 X.prog X.w) (X.tryX pn W) E2'->PSs (X.tryX pn W) body (bv X.K cls E2' tb)) :
  PS X (.Try body (h0::hs) [] [] pos) (bv X.K cls E2 λD _ σ M=>tb D (λσ' i M'=>th i D σ' M') σ M):=
 (wo hst hfr hex hh).imp λD2 σ H ⟨σ3,M,D3,E3,rm,ds,lk,h,er⟩ pn W hP=>⟨_,hb pn W _ hP,σ3,M,D3,_,rm,ds,λσ3' σ' i M' H' t ds' rm' q dx xd=>⟨i,σ3',M',D3,⟨rfl,xd⟩,rm',ds',q,er.mono t⟩,h,er⟩
end
section
variable {X:Cx}{s:Shared}{kvs:List (Key×V)}{o:Obj}
theorem yQ{h:Heap}(ok:ObjOk P w H h a (.dK kvs))(g:h.get? a=some o):DOb o (kvs.map λx=>(kV x.1,x.2))/\o.ExactDict/\(a == sysModules)=false:=by
 obtain⟨z,nm,vs,kv,o',es,ep,g',xd,hd,ko,pr,_⟩:=ok;cases g.symm.trans g';have key:∀{l:List DictEntry}{vs:List (Key×Value)}{kvs:List (Key×V)},Pairs (aB P w) l vs->KV kvs vs->l.length=kvs.length/\∀(i:Nat) p e,(kvs.map λx=>(kV x.1,x.2))[i]?=some p->l[i]?=some e->RelV p.1 e.key/\RelV p.2 e.val:=by
  intro l vs kvs pr
  induction pr generalizing kvs with
  |nil=>
   intro kv;cases kv;exact⟨rfl,λi p e h=>by simp at h⟩
  |@cons e q es qs h1 h2 _ ih=>
   intro kv;cases kv with
   |@cons p _ ps _ hp t=>
    obtain⟨l1,l2⟩:=ih t;refine⟨by rw[HA,HA,l1],λi p' e' h3 h4=>?_⟩
    cases i with
    |zero=>
     simp at h3 h4;subst h3 h4;refine⟨?_,by rw[h2];exact hp.2⟩
     rw[pG,<-hp.1]at h1;rcases aC h1 with ⟨i,t,e1,e2⟩|⟨x,t,e1,e2⟩
     ·rw[e1,e2];exact⟨t,rfl⟩
     ·rw[e1,e2];exact⟨t,rfl⟩
    |succ i=>
     rw[Hl,List.getElem?_cons_succ]at h3;rw[List.getElem?_cons_succ]at h4;exact l2 i p' e' h3 h4
 obtain⟨l1,l2⟩:=key pr kv;exact⟨⟨es,ep,xd,hd,by rw[Hm,<-l1,Array.length_toList],λi p e h1 h2=>l2 i p e h1 (by rw[Array.getElem?_toList];exact h2)⟩,xd,nm⟩
end
section
variable {X:Cx}{apos cpos:Pos}
end
end L2
namespace L2
open PySem PySem.Spec PyProof.Rows PySem.W
noncomputable def Itk(d:Addr)(o:Obj)(vs:List V):It:=
 ⟨λi H=>(∃u,H d=some (.frz o u))/\i<vs.length,λi H v H'=>H'=H/\vs[i]?=some v,λi H=>(∃u,H d=some (.frz o u))/\vs.length<=i⟩
theorem qS{K:Iz}(d it:Addr){o:Obj}{vs:List V}{es:Array DictEntry}(hd:o.data=.dict es ep)(hz:es.size=vs.length)
  (hr:∀(i:Nat) v e,vs[i]?=some v->es[i]?=some e->RelV v e.val) (hne:d≠it):Turn P w K tg (Itk d o vs) [it] it (λi h=>h.IsValIter it d i es.size ep) where
 mem:=by simp
 obj:=λi h st b hb=>by
  obtain⟨o1,h1,h2,h3⟩:=st;have e':b=it:=by simpa using hb
  subst e';exact⟨_,h1,λv z=>by rw[h3]at z;cases z⟩
 keep:=λi h h' st k=>st.at λo e=>k it (by simp) o e
 item:=by
  intro X hP hw hK hc i pins s σ H E I hf st hg;subst hP hw hK;obtain⟨⟨u,hu⟩,hi⟩:=hg;have he:es[i]?=some es[i]:=by simp[show i<es.size by omega]
  have hp':vs[i]?=some vs[i]:=by simp[hi]
  have rk:=hr i _ _ hp' he;obtain⟨f0,f1,f2,f3,f4,f5⟩:=hf it (by simp)
  refine sY st (I.frzGet hu) hd he λh' hit' hs'=>?_
  have I2:Inv X pins σ H {s with heap:=h',toks:=s.toks}:=I.turned (t':=s.toks) (λb o hb e1=>hs'.extBut b o hb e1) f0 f1 f3 f4 f5
  refine⟨_,rfl,letGo_valiter (s':={s with heap:=h'}) hit' ?_⟩
  refine⟨vs[i],H,I2,rk,⟨rfl,hp'⟩,hit',λb hb=>?_⟩
  have e':b=it:=by simpa using hb
  subst e';exact f0
 done:=by
  intro X hP hw hK hc i pins s σ H E I hf st hg;subst hP hw hK;obtain⟨⟨u,hu⟩,hi⟩:=hg;obtain⟨f0,f1,f2,f3,f4,f5⟩:=hf it (by simp)
  exact sP (I.ok.hd hc) st (I.frzGet hu) hd (by omega) λh' eb=>⟨rfl,I.turned (t':=s.toks) (λb o hb e=>eb b o hb e) f0 f1 f3 f4 f5⟩
 self:=λ_ _ _ _ _ st h=>wpAny_pyIter_valiter st h
section
variable {X:Cx}{apos cpos:Pos}
theorem u4(ho:PE X o t2)(hbase:attributeBase o "values" X.env (eval o X.env)=eval o X.env)(hline:(apos.endLine == cpos.line)=true):PI X tg (.Call (.Attribute o "values" apos) [] [] cpos) (λσ H R=>t2 σ H λv H1=>∃d ob kvs,v=.ref d/\H1 d=some (.frz ob (.dK kvs))/\∀p,H1 p=none->R (Itk d ob (kvs.map (·.2))) (upd H1 p (.ext λh=>h.IsValuesView p d))):=by
 intro pins s σ H R I h;refine wpAny_Call_method0_late hbase hline (thn (ho pins s σ H _ I h) λv s0 ⟨x,H1,I1,r1,d,ob,kvs,e1,e3,q⟩=>?_)
 subst e1;cases r1;have go:=I1.frzGet e3;obtain⟨⟨es,ep,_,hd,hz,hr⟩,xd,nm⟩:=yQ (I1.hok _ _ e3).2 (I1.hok _ _ e3).1;refine⟨"dict","dict.values",PySem.F.plainAttrs_dict,PySem.F.slot_dict_values,PySem.F.type_dict_values,⟨_,go,xd.1⟩,λa ha=>?_,Calls.callWith_builtin rfl (PySem.evalArgs_none ?_)⟩
 ·cases ha;exact⟨_,go,xd.2.1⟩
 have hp:H1 s0.heap.objs.size=none:=I1.hok.fresh (Hh _);refine call_meetsIn PySem.F.slot_dict_values ⟨_,go,xd.1⟩ PySem.F.entry_dict_values (PySem.F.args_dict_values_1 _) (rK nm) ⟨⟨_,go,xd.1⟩,?_⟩;have q:=q s0.heap.objs.size hp;have I3:Inv X pins σ (upd H1 s0.heap.objs.size (.ext λh=>h.IsValuesView s0.heap.objs.size d)) {s0 with heap:=s0.heap.push {cls:=.type "dict_values",data:=.fields #[.ref d]},toks:=s0.toks}:=
  I1.laid (o:=.ext λh=>h.IsValuesView s0.heap.objs.size d) (λb o e1=>Hd _ e1) (Hh _) ⟨⟨_,Hn _ rfl,rfl,rfl⟩,⟨_,Hn _ rfl⟩,λh1 h2 ⟨ov,g1,g2,g3⟩ k=>⟨ov,k _ g1,g2,g3⟩⟩
 generalize hpz:s0.heap.push {cls:=.type "dict_values",data:=.fields #[.ref d]}=h1 at *
 have go2:h1.get? d=some ob:=by rw[<-hpz];exact Hd _ go
 have vw:h1.IsValuesView s0.heap.objs.size d:=by rw[<-hpz];exact⟨_,Hn _ rfl,rfl,rfl⟩
 refine rH (s:={s0 with heap:=h1}) vw go2 hd ?_
 have hf:=I3.hok.fresh (Hh h1.objs.size);exact⟨_,[h1.objs.size],_,_,_,rfl,I3.kept (t':=s0.toks) (λb o e=>Hd _ e),qS d h1.objs.size hd (by rw[hz];simp) (λi v e hv he=>by
  rw[HB]at hv;cases a1:kvs[i]? with
  |none=>rw[a1]at hv;cases hv
  |some kw=>
   rw[a1]at hv;cases hv;exact (hr i (kV kw.1,kw.2) e (by rw[HB,a1];rfl) he).2) (Hx (Hi go2)),⟨_,Hn _ rfl,rfl,rfl⟩,λb hb=>by
  have e':b=h1.objs.size:=by simpa using hb
  subst e';exact I3.fpOk (Hh _) hf,q⟩
theorem zg(ho:PE X o (low X.K cls E2 to))(hbase:attributeBase o "values" X.env (eval o X.env)=eval o X.env)(hline:(apos.endLine == cpos.line)=true) :
  PI X tg (.Call (.Attribute o "values" apos) [] [] cpos) (kj X.K cls E2 λσ M R E=>to σ M (λx M1=>match x with
  |.dik ks ds=>R ds (λ_=>True) M1
  |_=>False) E):=
 (u4 ho hbase hline).imp λσ H R2 hl_=>ex9 hl_ λσ3 M R E3 rm ds lk h k=>aZ rm ds lk h λv H1 x M1 dx rm1 t1 q1=>by
  cases x with
  |dik ks es=>
   obtain⟨d,vs,ob,rfl,e,hl,dl⟩:=dx;refine⟨d,ob,_,rfl,e,λp hp=>?_⟩
   have t2:TM X.K H1 (upd H1 p (.ext λh=>h.IsValuesView p d)):=.new hp
   have l1:=dl.length;have ev:(ks.zip vs).map (·.2)=vs:=List.map_snd_zip (by omega)
   rw[ev];refine k _ _ _ _ _ ⟨λi H M t rm s hi=>⟨⟨_,t.g _ _ _ (t2.g _ _ _ e)⟩,by omega⟩,λi H M x H' t rm s hi y=>?_,λH M t rm s=>⟨⟨_,t.g _ _ _ (t2.g _ _ _ e)⟩,by omega⟩⟩ (rm1.grow hp) (t1.trans t2) q1
   obtain⟨rfl,hv⟩:=y;obtain⟨dd,e1,e2⟩:=(dl.mono (t2.trans t)).get' hv;exact⟨.refl _,rm,dd,e1,e2⟩
  |_=>exact q1.elim
end
section
variable {X:Cx}{apos cpos:Pos}
end
end L2
namespace L2
open PySem PySem.Spec PyProof.Rows
section
variable {X:Cx}{s:Shared}
end
section
variable {X:Cx}{apos cpos:Pos}
end
end L2
namespace L2
open PySem PySem.Spec PyProof.Rows PySem.W
section
variable {X:Cx}
end
end L2
namespace L2
open PySem PySem.Spec PyProof.Rows
section
variable {X:Cx}{cls:Nat->Addr}{E2:St->XK}{tg o:Expr}
end
section
variable {X:Cx}{apos cpos:Pos}
end
structure Cfg where
 N:List Str
 sc:Scope
 fns:List (Option Str×Nat)
 exc:List Str
 kln:List Str
 gln:List Str
 xin:List (Nat×Nat)
 calm:Bool
 own:Bool
 tr:Bool
 fn:Bool
 cel:List (Str×NameKind):=[]
noncomputable def glB(c:Cfg)(x:Str):Bool:=c.sc.names.lookup x == some .globalImplicit
noncomputable def yO(sc:Scope)(x:Str):Bool:=match sc.names.lookup x with
 |some .local=>true
 |some .cell=>true
 |some .free=>true
 |_=>false
noncomputable def wT(c:Cfg)(x:Str):Bool:=c.sc.names.lookup x == some .local||(c.fn&&c.sc.names.lookup x == some .cell)||(c.cel.lookup x == some .cell&&c.sc.names.lookup x == some .cell)
noncomputable def c8:Expr->Bool
 |.Starred ..=>false
 |_=>true
noncomputable def mF:Expr->Bool
 |.Set ..=>false
 |_=>true
noncomputable def nK:Expr->Bool
 |.ListComp ..=>false
 |.SetComp ..=>false
 |.DictComp ..=>false
 |_=>true
noncomputable def C5:Expr->Bool
 |.Tuple ..=>false
 |_=>true
noncomputable def lN:Expr->Bool
 |.Slice ..=>false
 |_=>true
noncomputable def xN:Expr->Bool
 |.Call ..=>false
 |_=>true
noncomputable def mU:Expr->Bool
 |.Call (.Name _ _) [] [] _=>false
 |_=>true
noncomputable def qu:Expr->Bool
 |.UnaryOp ..=>false
 |.BoolOp ..=>false
 |.IfExp ..=>false
 |.Compare ..=>false
 |_=>true
noncomputable def jo:BI->String
 |.len=>"len"|.max=>"max"|.list _=>"list"|.all=>"all"|.any=>"any"
noncomputable def jN:BM->String
 |.get=>"get"|.popd=>"pop"
noncomputable def biNames:List Str:=["len","abs","max","min","str","list","tuple","isinstance","range","int","bool","dict","ValueError","enumerate","all","any","sum","zip","reversed","sorted"]
noncomputable def yp(sc osc:Scope):Scope:={sc with names:=sc.names.map λ(n,k)=>if (k == .free&&osc.kind == .function&&osc.names.lookup n == some .cell) then (n,.cell) else (n,k)}
noncomputable def Cfg.comp(c:Cfg)(N:List Str)(sc:Scope):Cfg:={c with N:=N,sc:=yp sc c.sc,own:=false,tr:=false,fn:=false,cel:=sc.names}
noncomputable def Cfg.trying(c:Cfg):Cfg:={c with own:=false}
noncomputable def Cfg.caught(c:Cfg):Cfg:={c with calm:=false,own:=false,tr:=false}
noncomputable def okG(c:Cfg):ITg->Expr->Bool
 |.name i,e=>match e with
  |.Name x _=>(c.N[i]? == some x)&&wT c x
  |_=>false
 |.tup is,e=>match e with
  |.Tuple es _ _=>c.calm&&c9 c.N c.sc c.fn is es
  |_=>false
noncomputable def uL:II->Expr->Bool
 |.enum _,e=>match e with
  |.Tuple ..=>true
  |_=>false
 |.zip _ _,e=>match e with
  |.Tuple ..=>true
  |_=>false
 |_,_=>true
mutual
noncomputable def okE:IE->Cfg->Expr->Bool
 |.var i,c,e=>match e with
  |.Name x _=>(c.N[i]? == some x)&&yO c.sc x&&!(x == ("__debug__" : Str))&&!(x == ("__classdict__" : Str))
  |_=>false
 |.con d,_,e=>match e with
  |.Constant k _ _=>match k,d with
   |.int i,.int j=>decide (i=j)
   |.bool i,.bl j=>decide (i=j)
   |.none,.non=>true
   |.str i,.str j=>decide (i=j)
   |_,_=>false
  |_=>false
 |.bin op a b,c,e=>match e with
  |.BinOp x op' y _=>decide (op=op')&&okE a c x&&okE b c y
  |_=>false
 |.neg a,c,e=>match e with
  |.UnaryOp op x _=>decide (op=.USub)&&okE a c x
  |_=>false
 |.cat _ a b,c,e=>match e with
  |.BinOp x op' y _=>decide (op'=.Add)&&okE a c x&&okE b c y
  |_=>false
 |.cmp op a b,c,e=>match e with
  |.Compare x [op'] [y] _=>decide (op=op')&&mF y&&okE a c x&&okE b c y
  |_=>false
 |.chain op1 op2 a b d,c,e=>match e with
  |.Compare x [op1',op2'] [y,z] _=>decide (op1=op1')&&decide (op2=op2')&&mF z&&okE a c x&&okE b c y&&okE d c z
  |_=>false
 |.and a b,c,e=>match e with
  |.BoolOp op (x::y::r) p=>decide (op=.And)&&okE a c x&&(match r with|[]=>okE b c y|_::_=>okE b c (.BoolOp .And (y::r) p))
  |_=>false
 |.or a b,c,e=>match e with
  |.BoolOp op (x::y::r) p=>decide (op=.Or)&&okE a c x&&(match r with|[]=>okE b c y|_::_=>okE b c (.BoolOp .Or (y::r) p))
  |_=>false
 |.not a,c,e=>match e with
  |.UnaryOp op x _=>decide (op=.Not)&&okE a c x
  |_=>false
 |.ifx t a b,c,e=>match e with
  |.IfExp x y z _=>okT t c x&&okE a c y&&okE b c z
  |_=>false
 |.tup es,c,e=>match e with
  |.Tuple xs _ _=>okA es c xs
  |_=>false
 |.lst _ es,c,e=>match e with
  |.List xs _=>okA es c xs
  |_=>false
 |.frz a,c,e=>okE a c e
 |.ix a b,c,e=>match e with
  |.Subscript x y _=>lN y&&okE a c x&&okE b c y
  |_=>false
 |.sl _ a lo hi,c,e=>match e with
  |.Subscript x (.Slice l h none _) _=>okE a c x&&okO lo c l&&okO hi c h
  |_=>false
 |.call f es,c,e=>match e with
  |.Call (.Name x _) args [] _=>c.calm&&(match c.fns[f]? with|some p=>decide (some x=p.1)&&decide (args.length=p.2)|none=>false)&&glB c x&&!(x == ("__debug__" : Str))&&okA es c args
  |_=>false
 |.bi b es,c,e=>match e with
  |.Call (.Name x _) args [] _=>c.calm&&decide (x=(jo b:Str))&&glB c x&&!args.isEmpty&&okA es c args
  |_=>false
 |.isB a t,c,e=>match e with
  |.Call (.Name x _) [y,.Name z _] [] _=>decide (x=("isinstance" : Str))&&decide (z=(cF t:Str))&&glB c x&&glB c z&&c8 y&&okE a c y
  |_=>false
 |.isC a k,c,e=>match e with
  |.Call (.Name x _) [y,.Name z _] [] _=>decide (x=("isinstance" : Str))&&(c.exc[k]? == some z)&&glB c x&&glB c z&&!(z == ("__debug__" : Str))&&c8 y&&okE a c y
  |_=>false
 |.comp _ N js tg it cond elt,c,e=>match e with
  |.ListComp el [⟨tgE,iter,ifs,as⟩] scope _=>c.calm&&decide (as=0)&&uL it tgE&&mF iter&&eK N js scope c.sc c.N&&okI it c iter&&okG (c.comp N scope) tg tgE&&wx cond (c.comp N scope) ifs&&okE elt (c.comp N scope) el
  |_=>false
 |.fld a f,c,e=>match e with
  |.Attribute x m _=>decide (m=fnm f)&&mU x&&okE a c x
  |_=>false
 |.make _ i es,c,e=>match e with
  |.Call (.Name x _) args [] _=>c.calm&&(c.kln[i]? == some x)&&glB c x&&!(x == ("__debug__" : Str))&&okA es c args
  |_=>false
 |.meth a m es,c,e=>match e with
  |.Call (.Attribute x n ap) args [] cp=>c.calm&&decide (n=fnm m)&&mU x&&(ap.endLine == cp.line)&&decide (args.length<30)&&okE a c x&&okA es c args
  |_=>false
 |.ini i es,c,e=>match e with
  |.Call (.Attribute (.Name x _) n ap) args [] cp=>c.calm&&decide (n=("__init__" : Str))&&(c.kln[i]? == some x)&&glB c x&&!(x == ("__debug__" : Str))&&(ap.endLine == cp.line)&&decide (args.length<30)&&!args.isEmpty&&okA es c args
  |_=>false
 |.isK a j,c,e=>match e with
  |.Call (.Name x _) [y,.Name z _] [] _=>decide (x=("isinstance" : Str))&&(c.kln[j]? == some z)&&glB c x&&glB c z&&!(z == ("__debug__" : Str))&&c8 y&&okE a c y
  |_=>false
 |.glo k,c,e=>match e with
  |.Name x _=>(c.gln[k]? == some x)&&glB c x&&!(x == ("__debug__" : Str))
  |_=>false
 |.bm b o es,c,e=>match e with
  |.Call (.Attribute x n ap) args [] cp=>c.calm&&decide (n=(jN b:Str))&&mU x&&(ap.endLine == cp.line)&&decide (args.length<30)&&okE o c x&&okA es c args
  |_=>false
 |.dnew _,_,e=>match e with
  |.Dict [] [] _=>true
  |_=>false
 |.rep _ a b,c,e=>match e with
  |.BinOp x op' y _=>decide (op'=.Mult)&&okE a c x&&okE b c y
  |_=>false
 |.lzip _ a b,c,e=>match e with
  |.Call (.Name x _) [.Call (.Name x' _) [y,z] [] _] [] _=>c.calm&&decide (x=("list" : Str))&&glB c x&&decide (x'=("zip" : Str))&&glB c x'&&c8 y&&c8 z&&okE a c y&&okE b c z
  |_=>false
noncomputable def okT:IT->Cfg->Expr->Bool
 |.val a,c,e=>qu e&&okE a c e
 |.cmp op a b,c,e=>match e with
  |.Compare x [op'] [y] _=>decide (op=op')&&mF y&&okE a c x&&okE b c y
  |_=>false
 |.chain op1 op2 a b d,c,e=>match e with
  |.Compare x [op1',op2'] [y,z] _=>decide (op1=op1')&&decide (op2=op2')&&mF z&&okE a c x&&okE b c y&&okE d c z
  |_=>false
 |.chain3 op1 op2 op3 a b d f,c,e=>match e with
  |.Compare x [op1',op2',op3'] [y,z,u] _=>decide (op1=op1')&&decide (op2=op2')&&decide (op3=op3')&&mF u&&okE a c x&&okE b c y&&okE d c z&&okE f c u
  |_=>false
 |.and a b,c,e=>match e with
  |.BoolOp op (x::y::r) p=>decide (op=.And)&&okT a c x&&(match r with|[]=>okT b c y|_::_=>okT b c (.BoolOp .And (y::r) p))
  |_=>false
 |.or a b,c,e=>match e with
  |.BoolOp op (x::y::r) p=>decide (op=.Or)&&okT a c x&&(match r with|[]=>okT b c y|_::_=>okT b c (.BoolOp .Or (y::r) p))
  |_=>false
 |.not a,c,e=>match e with
  |.UnaryOp op x _=>decide (op=.Not)&&okT a c x
  |_=>false
noncomputable def okA:IA->Cfg->List Expr->Bool
 |.nil,_,es=>es.isEmpty
 |.cons a r,c,es=>match es with
  |x::xs=>c8 x&&okE a c x&&okA r c xs
  |[]=>false
noncomputable def okO:IO->Cfg->Option Expr->Bool
 |.no,_,o=>o.isNone
 |.yes a,c,o=>match o with
  |some x=>okE a c x
  |none=>false
noncomputable def wx:ITO->Cfg->List Expr->Bool
 |.no,_,es=>es.isEmpty
 |.yes t,c,es=>match es with
  |[x]=>okT t c x
  |_=>false
noncomputable def okI:II->Cfg->Expr->Bool
 |.seq a,c,e=>okE a c e
 |.enum a,c,e=>match e with
  |.Call (.Name x _) [y] [] _=>decide (x=("enumerate" : Str))&&glB c x&&c8 y&&okE a c y
  |_=>false
 |.zip a b,c,e=>match e with
  |.Call (.Name x _) [y,z] [] _=>decide (x=("zip" : Str))&&glB c x&&c8 y&&c8 z&&okE a c y&&okE b c z
  |_=>false
 |.revd a,c,e=>match e with
  |.Call (.Name x _) [y] [] _=>decide (x=("reversed" : Str))&&glB c x&&c8 y&&okE a c y
  |_=>false
 |.vals a,c,e=>match e with
  |.Call (.Attribute x n ap) [] [] cp=>decide (n=("values" : Str))&&mU x&&(ap.endLine == cp.line)&&okE a c x
  |_=>false
 |.rng1 a,c,e=>match e with
  |.Call (.Name x _) [y] [] _=>decide (x=("range" : Str))&&glB c x&&c8 y&&okE a c y
  |_=>false
end
noncomputable def swB(c:Cfg)(scope:Scope)(x:Str)(l1 l2:Nat):Bool:=c.sc.kind == .function&&c.sc.names.lookup x == some .local&&l1 == l2&&!(scope.names.any λ(n,k)=>n == x&&(k == .local||k == .cell))
mutual
noncomputable def okS:IS->Cfg->Stmt->Bool
 |.set i a,c,s=>match s with
  |.Assign [.Name x px] e _=>(c.N[i]? == some x)&&wT c x&&okE a c e&&(nK e||match e,a with
   |.ListComp _ _ scope pos,.comp ..=>swB c scope x px.line pos.line||c.sc.names.lookup x == some .cell
   |_,_=>false)
  |_=>false
 |.expr a,c,s=>match s with
  |.Expr e _=>nK e&&okE a c e
  |_=>false
 |.ret a,c,s=>match s with
  |.Return (some e) _=>okE a c e
  |_=>false
 |.ifs t a b,c,s=>match s with
  |.If x y z _=>okT t c x&&iX a c y&&iX b c z
  |_=>false
 |.for_ tg it body,c,s=>match s with
  |.For tgE iter b [] _=>c.own&&uL it tgE&&c.calm&&mF iter&&okG c tg tgE&&okI it c iter&&iX body c b
  |_=>false
 |.whl t body,c,s=>match s with
  |.While x b [] _=>c.own&&okT t c x&&iX body c b
  |_=>false
 |.raiseI k es,c,s=>match s with
  |.Raise (some (.Call (.Name x _) args [] _)) none _=>(c.xin.lookup k).isSome&&c.own&&c.calm&&(c.exc[k]? == some x)&&glB c x&&!(x == ("__debug__" : Str))&&!args.isEmpty&&okA es c args
  |_=>false
 |.raise k es,c,s=>match s with
  |.Raise (some (.Call (.Name x _) args [] _)) none _=>(c.xin.lookup k).isNone&&c.own&&c.calm&&(c.exc[k]? == some x)&&glB c x&&!(x == ("__debug__" : Str))&&!args.isEmpty&&okA es c args
  |_=>false
 |.try_ body hs,c,s=>match s with
  |.Try b handlers [] [] _=>c.tr&&!handlers.isEmpty&&iX body c.trying b&&ud hs c handlers
  |_=>false
 |.app o a,c,s=>match s with
  |.Expr (.Call (.Attribute x m ap) [y] [] cp) _=>decide (m=("append" : Str))&&xN x&&(ap.endLine == cp.line)&&c8 y&&okE o c x&&okE a c y
  |_=>false
 |.del _,_,_=>false
 |.dead,_,_=>true
 |.fset o f a,c,s=>match s with
  |.Assign [.Attribute x m _] v _=>decide (m=fnm f)&&nK v&&okE o c x&&okE a c v
  |_=>false
 |.ixset o i a,c,s=>match s with
  |.Assign [.Subscript x y _] v _=>lN y&&nK v&&okE o c x&&okE i c y&&okE a c v
  |_=>false
noncomputable def iX:ISs->Cfg->List Stmt->Bool
 |.nil,_,sts=>sts.isEmpty
 |.cons s r,c,sts=>match s with
  |.del _=>iX r c sts
  |s=>match sts with
   |st::ax=>okS s c st&&iX r c ax
   |[]=>false
noncomputable def ud:IHs->Cfg->List ExceptHandler->Bool
 |.nil,_,hs=>hs.isEmpty
 |.cons k nm body r,c,hs=>match hs with
  |.ExceptHandler (some (.Name x _)) nmE bodyE _::ax=>(c.exc[k]? == some x)&&glB c x&&!(x == ("__debug__" : Str))&&(match nm,nmE with
   |none,none=>true
   |some j,some n=>(c.N[j]? == some n)&&c.sc.names.lookup n == some .local
   |_,_=>false)&&!bodyE.isEmpty&&iX body c.caught bodyE&&ud r c ax
  |_=>false
end
structure Good (c:Cfg)(W:WC)(X:Cx)(E2:St->XK):Prop where
 N:X.N=c.N
 nd:c.N.Nodup
 sc:X.env.scope=c.sc
 un:X.A.units+64<cLine
 calm:c.calm=true->X.calm=true
 fnx:c.fn=true->∀x,X.fn x=true
 cel:∀x,c.cel.lookup x=some .cell->X.fn x=true
 own:c.own=true->PassesOwn (model X.prog X.w) X.A X.env X.xe/\∃E,(E2=λ_=>E)/\mw X E/\jj X E/\Room 2 X.A
 tr:c.tr=true->X.stack=X.env::X.outer/\X.env.frame=some X.env.locals/\X.ex=[]
 fns:c.calm=true->∃k,Room (k+1) X.A/\∀f,f<c.fns.length->qX X W.cls k (W.fad f) (W.call f)
 fnn:∀f x n,c.fns[f]?=some (some x,n)->X.mg x=some (.ref (W.fad f))
 kok:∀i,i<W.nk->KOk X.K W.toWB W.fad i
 kin:∀i,i<W.nk->∃f,W.ini i=some f
 kfi:∀i f,i<W.nk->W.ini i=some f->f<c.fns.length
 kfm:∀i m f,i<W.nk->W.mth i m=some f->f<c.fns.length
 knm:∀i x,c.kln[i]?=some x->X.mg x=some (.ref (W.kls i))/\i<W.nk
 glo:∀k x,c.gln[k]?=some x->∃u v,X.mg x=some u/\RelV v u/\∀H,Den X.K H (W.glo k) v
 exc:∀i x,c.exc[i]?=some x->X.mg x=some (.ref (W.cls i))/\(c.xin.lookup i=none->vV X.K (W.cls i))/\∀j,j<W.ne->PySem.W.exmOne X.K (.ref (W.cls j)) (.ref (W.cls i))=some (W.sub j i)
 exi:∀i,i<W.ne->ExcI X.K (W.cls i)/\PySem.W.kitOne X.K (.ref (W.cls i)) (.type "ValueError")=some true/\∀j x,c.exc[j]?=some x->PySem.W.kitOne X.K (.ref (W.cls i)) (.ref (W.cls j))=some (W.sub i j)
 xi:∀i f,c.xin.lookup i=some f->W.xin i=some f/\∃fI fd ps,XIni X.K (W.cls i) fI (fnm f)/\Binds X.K fd ps []/\FnOk X.prog X.w X.K X.mg X.base (CX1 X.prog X.w) 1 fI fd ps (iK (cpF f) X.K (W.cls i) (fnm f))
 xn:∀i f,i<W.ne->W.xin i=some f->NoAttr X.K (W.cls i) (fnm f)
 bi:∀x∈biNames,X.mg x=none
 dig:zE X.K
 pass:aR (CX1 X.prog X.w) X E2
section
variable {c:Cfg}{X:Cx}
theorem Good.gl(G:Good c W X E2)(h:glB c x=true):Gl X x:=by
 show X.env.scope.names.lookup x=_;rw[G.sc];exact Hs.mp h
theorem Good.loc(G:Good c W X E2)(h:wT c x=true):Loc X.env.scope x/\(X.fn x=true\/X.env.scope.names.lookup x=some .local):=by
 unfold wT at h;rw[G.sc];simp only[Bool.or_eq_true,G9,Hs]at h;rcases h with (h|⟨h1,h2⟩)|⟨h1,h2⟩
 ·exact⟨.inl h,.inr h⟩
 ·exact⟨.inr h2,.inl (G.fnx h1 x)⟩
 ·exact⟨.inr h2,.inl (G.cel x h1)⟩
theorem Good.vis(G:Good c W X E2)(h:yO c.sc x=true):Vis X.env.scope x:=by
 rw[G.sc];unfold yO at h;split at h
 ·exact .inl (by assumption)
 ·exact .inr (.inl (by assumption))
 ·exact .inr (.inr (by assumption))
 ·cases h
theorem Good.at{i:Nat}{x:Str}(G:Good c W X E2)(h:(c.N[i]? == some x)=true):X.N[i]?=some x:=by rw[G.N];exact Hs.mp h
theorem Good.ndX(G:Good c W X E2):X.N.Nodup:=by rw[G.N];exact G.nd
theorem Good.names(G:Good c W X E2)(h:c9 c.N c.sc c.fn is es=true):c9 X.N X.env.scope c.fn is es=true:=by rw[G.N,G.sc];exact h
theorem Good.trying(G:Good c W X E2)(h:aR (CX1 X.prog X.w) (X.tryX pn V') E2'):Good c.trying W (X.tryX pn V') E2':=
 ⟨G.N,G.nd,G.sc,G.un,G.calm,G.fnx,G.cel,(λz=>nomatch z),G.tr,G.fns,G.fnn,G.kok,G.kin,G.kfi,G.kfm,G.knm,G.glo,G.exc,G.exi,G.xi,G.xn,G.bi,G.dig,h⟩
theorem uY:aR (CX1 P w) X no2:=λ_ _ _ _ _ _ _ h=>by
 obtain⟨_,_,_,_,_,_,_,_,_,_,_,_,_,he⟩:=h;exact he.elim
theorem Good.caught(G:Good c W X E2)(v:Value):Good c.caught W (X.marked v) no2:=
 ⟨G.N,G.nd,G.sc,G.un,(λz=>nomatch z),G.fnx,G.cel,(λz=>nomatch z),(λz=>nomatch z),(λz=>nomatch z),G.fnn,G.kok,G.kin,G.kfi,G.kfm,G.knm,G.glo,G.exc,G.exi,G.xi,G.xn,G.bi,G.dig,uY⟩
theorem Good.comp(G:Good c W X E2){N:List Str}{js:List (Option Nat)}{scope:Scope}(h:eK N js scope c.sc c.N=true)(C:Addr)(s2:Shared)(H2:Hp)(fp:List Addr)(pn:List (Addr×Obj)):Good (c.comp N scope) W (compCx X scope C N s2 H2 fp pn) no2:=by
 have hc:=lv h;refine⟨rfl,hc.nd,?_,G.un,G.calm,(λz=>nomatch z),(λx z=>Hs.mpr z),(λz=>nomatch z),(λz=>nomatch z),G.fns,G.fnn,G.kok,G.kin,G.kfi,G.kfm,G.knm,G.glo,G.exc,G.exi,G.xi,G.xn,G.bi,G.dig,uY⟩
 show relabel scope X.env=yp scope c.sc;unfold relabel yp;rw[<-G.sc];rfl
end
theorem ba(h:c8 e=true):starEach (e::es) env=(false,eval e env)::starEach es env:=by
 cases e<;>first|rfl|cases h
theorem uh(h:mF e=true):∀x,foldedSetIterable e env x=pure x:=by
 intro x;cases e<;>first|rfl|cases h
theorem gF(h:mF e=true):behindInMarks op e=false:=by
 cases e<;>first|rfl|cases h
theorem mz(h:nK e=true):swapsWith e t n env=pure false:=by
 cases e<;>first|rfl|cases h
theorem rh{e:Expr}(h:qu e=true):∀whole,isTrue e env whole=(do let v<-whole;standAt e.pos;holding [v] (truthy v)):=by
 intro whole;cases e<;>first|rfl|cases h
theorem vi(h:lN e=true):md e:=by
 intro o i;cases e<;>first|rfl|cases h
theorem AG{e:Expr}{m:Str}{env:Env}{whole:Sem Value}(h:xN e=true):attributeBase e m env whole=whole:=by
 cases e<;>first|rfl|cases h
theorem fH{e:Expr}{m:Str}{env:Env}{whole:Sem Value}(h:mU e=true):attributeBase e m env whole=whole:=by
 cases e with
 |Call f as ks p=>
  cases f with
  |Name x px=>
   cases as with
   |nil=>
    cases ks with
    |nil=>cases h
    |cons _ _=>rfl
   |cons _ _=>rfl
  |_=>rfl
 |_=>rfl
theorem Ar(h:lN i=true):∀v,assign (.Subscript o i p) env v=(do
   let ov<-holding [v] (eval o env)
   let iv<-holding [v,ov] (eval i env)
   standAt p
   holding [v,ov,iv] (setItem ov iv v)
   release [v,ov,iv] []):=by
 intro v;cases i<;>first|rfl|cases h
theorem cP(pos:Pos):∀{r:IA}{c:Cfg}{es:List Expr}{env:Env},okA r c es=true->(backTo pos (starEach es env)).any (·.1)=false
 |.nil,c,es,env,h=>by
  simp only[okA]at h;cases es with
  |nil=>rfl
  |cons _ _=>cases h
 |.cons a r,c,es,env,h=>by
  cases es with
  |nil=>simp[okA]at h
  |cons x xs=>
   simp only[okA,G9]at h;rw[ba h.1.1];show (false||(backTo pos (starEach xs env)).any (·.1))=false
   rw[cP pos h.2];rfl
theorem xH(h:PE X a t):PE X (.BoolOp op [a] pos) t:=zd h
theorem AF(b:BI):((jo b:String):Str)∈biNames:=by
 cases b with
 |list fz=>cases fz<;>decide +kernel
 |_=>decide +kernel
theorem yy(t:BT):((cF t:String):Str)∈biNames:=by cases t<;>decide +kernel
theorem wJ{X:Cx}(hu:X.A.units+64<cLine)(hc:X.calm=true)(hd:zE X.K)(hg:Gl X (jo b:String))(hm:X.mg (jo b:String)=none)(ha:PA X (e::es) (dI X.K cls E2 tr))
  (he:starEach (e::es) X.env=(false,eval e X.env)::starEach es X.env) (hpl:(backTo pos (starEach es X.env)).any (·.1)=false):PE X (.Call (.Name (jo b:String) p) (e::es) [] pos) (low X.K cls E2 λσ M Q E=>tr σ M (λxs M1=>rBi b xs M1 Q) E):=by
 cases b with
 |len=>exact jc yu hg hm (by decide +kernel) ha (by decide +kernel) (by decide +kernel) he hpl
 |max=>exact jc (yB hc) hg hm (by decide +kernel) ha (by decide +kernel) (by decide +kernel) he hpl
 |list fz=>exact wA (wS fz hc) hg hm (by cases fz<;>decide +kernel) ha (by cases fz<;>decide +kernel) (by cases fz<;>decide +kernel) he hpl
 |all=>exact jc (xy true hc) hg hm (by decide +kernel) ha (by decide +kernel) (by decide +kernel) he hpl
 |any=>exact jc (xy false hc) hg hm (by decide +kernel) ha (by decide +kernel) (by decide +kernel) he hpl
theorem wG{X:Cx}{apos pos:Pos}(hu:X.A.units+64<cLine)(ho:PE X o (low X.K cls E2 to))(ha:PA X (e::es) (dI X.K cls E2 tr))
  (hb:attributeBase o (jN b:String) X.env (eval o X.env)=eval o X.env) (hn:(e::es).length<30) (hl:(apos.endLine == pos.line)=true) (he:starEach (e::es) X.env=(false,eval e X.env)::starEach es X.env) (hpl:(backTo pos (starEach es X.env)).any (·.1)=false) :
  PE X (.Call (.Attribute o (jN b:String) apos) (e::es) [] pos) (low X.K cls E2 λσ M Q E=>to σ M (λx M1=>tyB b x M1=true/\tr σ M1 (λxs M2=>rBm b x xs M2 Q) E) E):=by
 cases b with
 |get=>exact Bt PySem.F.plainAttrs_dict PySem.F.slot_dict_get PySem.F.type_dict_get (sN hu) jd ho ha hb hn hl he hpl
 |popd=>exact Bt PySem.F.plainAttrs_dict PySem.F.slot_dict_pop PySem.F.type_dict_pop (pN hu) jd ho ha hb hn hl he hpl
theorem sR{X:Cx}{apos pos:Pos}(hu:X.A.units+64<cLine)(ho:PE X o (low X.K cls E2 to))
  (hb:attributeBase o (jN b:String) X.env (eval o X.env)=eval o X.env) (hl:(apos.endLine == pos.line)=true) :
  PE X (.Call (.Attribute o (jN b:String) apos) [] [] pos) (low X.K cls E2 λσ M Q E=>to σ M (λx M1=>tyB b x M1=true/\rBm b x [] M1 Q) E):=by
 cases b with
 |get=>exact xK PySem.F.plainAttrs_dict PySem.F.slot_dict_get PySem.F.type_dict_get (sN hu) jd ho hb hl
 |popd=>exact xK PySem.F.plainAttrs_dict PySem.F.slot_dict_pop PySem.F.type_dict_pop (pN hu) jd ho hb hl
theorem cL(h:okA (.cons a r) c es=true):∃x xs,es=x::xs/\c8 x=true/\okE a c x=true/\okA r c xs=true:=by
 cases es with
 |nil=>simp[okA]at h
 |cons x xs=>
  simp only[okA,G9]at h;exact⟨x,xs,rfl,h.1.1,h.1.2,h.2⟩
noncomputable def Fz:IT->Bool
 |.and _ _=>true
 |.or _ _=>true
 |_=>false
section
variable {W:WC}
theorem sG:∀(tg:ITg) {c:Cfg}{e:Expr}{X:Cx}{E2:St->XK},okG c tg e=true->Good c W X E2->PG X e (rY X.K (wpG tg))
 |.name i,c,e,X,E2,h,G=>by
  simp only[okG]at h;split at h
  ·simp only[G9]at h;obtain⟨l1,l2⟩:=G.loc h.2;exact yi G.ndX (G.at h.1) l1 l2
  ·cases h
 |.tup is,c,e,X,E2,h,G=>by
  simp only[okG]at h;split at h
  ·simp only[G9]at h;exact BF (G.calm h.1) G.ndX G.fnx (G.names h.2)
  ·cases h
mutual
theorem sE:∀(ie:IE) {c:Cfg}{e:Expr}{X:Cx}{E2:St->XK},okE ie c e=true->Good c W X E2->PE X e (low X.K W.cls E2 (wpE W ie))
 |.var i,c,e,X,E2,h,G=>by
  unfold okE at h;split at h
  ·simp only[G9,Bool.not_eq_true']at h;exact CP (G.at h.1.1.1) (G.vis h.1.1.2) h.1.2 h.2
  ·cases h
 |.con d,c,e,X,E2,h,G=>by
  unfold okE at h;split at h
  ·split at h
   ·cases Iu h;exact nj AI λ_=>rfl
   ·cases Iu h;exact nj Dj λ_=>rfl
   ·exact nj AQ λ_=>rfl
   ·cases Iu h;exact nj t6 λ_=>rfl
   ·cases h
  ·cases h
 |.bin op a b,c,e,X,E2,h,G=>by
  unfold okE at h;split at h
  ·simp only[G9,Hk]at h;obtain⟨⟨rfl,h1⟩,h2⟩:=h;exact Al (yW op) (sE a h1 G) (sE b h2 G)
  ·cases h
 |.neg a,c,e,X,E2,h,G=>by
  unfold okE at h;split at h
  ·simp only[G9,Hk]at h;obtain⟨rfl,h1⟩:=h;exact EW (ta:=wpE W a) (r:=rNeg) yt (sE a h1 G)
  ·cases h
 |.cat fz a b,c,e,X,E2,h,G=>by
  unfold okE at h;split at h
  ·simp only[G9,Hk]at h;obtain⟨⟨rfl,h1⟩,h2⟩:=h;exact BL (sE a h1 G) (sE b h2 G)
  ·cases h
 |.cmp op a b,c,e,X,E2,h,G=>by
  unfold okE at h;split at h
  ·simp only[G9,Hk]at h;obtain⟨⟨⟨rfl,h0⟩,h1⟩,h2⟩:=h;exact A1 (dW G.un op) (sE a h1 G) (sE b h2 G) (gF h0)
  ·cases h
 |.chain op1 op2 a b d,c,e,X,E2,h,G=>by
  unfold okE at h;split at h
  ·simp only[G9,Hk]at h;obtain⟨⟨⟨⟨⟨rfl,rfl⟩,h0⟩,h1⟩,h2⟩,h3⟩:=h;exact v9 (dW G.un op1) (dW G.un op2) (sE a h1 G) (sE b h2 G) (sE d h3 G) (gF h0)
  ·cases h
 |.and a b,c,e,X,E2,h,G=>by
  unfold okE at h;split at h
  ·rename_i op x y r p;simp only[G9,Hk]at h;obtain⟨⟨rfl,h1⟩,h2⟩:=h;cases r with
   |nil=>exact xO (sE a h1 G) (xH (sE b h2 G))
   |cons z r=>exact xO (sE a h1 G) (sE b h2 G)
  ·cases h
 |.or a b,c,e,X,E2,h,G=>by
  unfold okE at h;split at h
  ·rename_i op x y r p;simp only[G9,Hk]at h;obtain⟨⟨rfl,h1⟩,h2⟩:=h;cases r with
   |nil=>exact BR (sE a h1 G) (xH (sE b h2 G))
   |cons z r=>exact BR (sE a h1 G) (sE b h2 G)
  ·cases h
 |.not a,c,e,X,E2,h,G=>by
  unfold okE at h;split at h
  ·simp only[G9,Hk]at h;obtain⟨rfl,h1⟩:=h;exact Cw (sE a h1 G)
  ·cases h
 |.ifx t a b,c,e,X,E2,h,G=>by
  unfold okE at h;split at h
  ·simp only[G9]at h;exact FA (sT t h.1.1 G).1 (sE a h.1.2 G) (sE b h.2 G)
  ·cases h
 |.tup es,c,e,X,E2,h,G=>by
  unfold okE at h;split at h
  ·exact CQ (sA es h G)
  ·cases h
 |.lst fz es,c,e,X,E2,h,G=>by
  unfold okE at h;split at h
  ·exact Cn (sA es h G)
  ·cases h
 |.frz a,c,e,X,E2,h,G=>by
  unfold okE at h;exact A2 (sE a h G)
 |.ix a b,c,e,X,E2,h,G=>by
  unfold okE at h;split at h
  ·simp only[G9]at h;exact Ez G.un (sE a h.1.2 G) (sE b h.2 G) (vi h.1.1)
  ·cases h
 |.sl fz a lo hi,c,e,X,E2,h,G=>by
  unfold okE at h;split at h
  ·simp only[G9]at h;exact En (sE a h.1.1 G) (sO lo h.1.2 G) (sO hi h.2 G)
  ·cases h
 |.call f es,c,e,X,E2,h,G=>by
  unfold okE at h;split at h
  ·rename_i x px args pos;simp only[G9,Bool.not_eq_true']at h;obtain⟨⟨⟨⟨h0,h1⟩,h2⟩,h3⟩,h4⟩:=h;split at h1
   ·rename_i p hp;simp only[G9,Hk]at h1;obtain⟨h1,_⟩:=h1;obtain⟨p1,p2⟩:=p;cases h1;obtain⟨k,hr,hF⟩:=G.fns h0;obtain⟨fd,ps,sp0,m2,m3,m5⟩:=hF f (Hr.mp hp).1;have m1:=G.fnn f x p2 hp;have m4:=hr.mono (Il k);have hA:=sA es h4 G;cases args with
    |nil=>
     cases es with
     |nil=>exact xh m5 m4 (G.gl h2) m1 m2 m3 G.pass h3
     |cons _ _=>simp[okA]at h4
    |cons z zs=>
     cases es with
     |nil=>simp[okA]at h4
     |cons ea er=>
      obtain⟨_,_,e1,n1,_,n3⟩:=cL h4;cases e1;exact Ao m5 m4 (G.gl h2) m1 m2 m3 G.pass hA h3 (ba n1) (cP _ n3)
   ·cases h1
  ·cases h
 |.bi b es,c,e,X,E2,h,G=>by
  unfold okE at h;split at h
  ·rename_i x px args pos;simp only[G9,Hk]at h;obtain⟨⟨⟨⟨h0,rfl⟩,h2⟩,h3⟩,h4⟩:=h;have hA:=sA es h4 G;cases args with
   |nil=>cases h3
   |cons z zs=>
    cases es with
    |nil=>simp[okA]at h4
    |cons ea er=>
     obtain⟨_,_,e1,n1,_,n3⟩:=cL h4;cases e1;exact wJ G.un (G.calm h0) G.dig (G.gl h2) (G.bi _ (AF b)) hA (ba n1) (cP _ n3)
  ·cases h
 |.isB a t,c,e,X,E2,h,G=>by
  unfold okE at h;split at h
  ·simp only[G9,Hk]at h;obtain⟨⟨⟨⟨⟨rfl,rfl⟩,h2⟩,h3⟩,h4⟩,h5⟩:=h;exact Ce (sE a h5 G) (G.gl h2) (G.bi _ (by decide +kernel)) (G.gl h3) (G.bi _ (yy t)) (ba h4)
  ·cases h
 |.isC a k,c,e,X,E2,h,G=>by
  unfold okE at h;split at h
  ·simp only[G9,Hk,Hs,Bool.not_eq_true']at h;obtain⟨⟨⟨⟨⟨⟨rfl,h1⟩,h2⟩,h3⟩,h4⟩,h5⟩,h6⟩:=h;exact CF (sE a h6 G) (G.gl h2) (G.bi _ (by decide +kernel)) (G.gl h3) (G.exc _ _ h1).1 h4 (λi hi=>⟨(G.exi i hi).1,(G.exi i hi).2.2 _ _ h1⟩) (ba h5)
  ·cases h
 |.comp fz N js tg it cond elt,c,e,X,E2,h,G=>by
  unfold okE at h;split at h
  ·simp only[G9,Hk]at h;obtain⟨⟨⟨⟨⟨⟨⟨⟨h0,rfl⟩,ht⟩,h1⟩,h2⟩,h3⟩,h4⟩,h5⟩,h6⟩:=h;have hok:=h2;rw[<-G.sc,<-G.N]at hok;exact AN hok (G.calm h0) (sI it h3 G ht) (λC s2 H2 fp pn=>sG tg h4 (G.comp h2 C s2 H2 fp pn)) (λC s2 H2 fp pn=>sTO cond h5 (G.comp h2 C s2 H2 fp pn)) (λC s2 H2 fp pn=>sE elt h6 (G.comp h2 C s2 H2 fp pn)) (uh h1) fz
  ·cases h
 |.fld a f,c,e,X,E2,h,G=>by
  unfold okE at h;split at h
  ·simp only[G9,Hk]at h;obtain⟨⟨rfl,h1⟩,h2⟩:=h;exact B3 G.kok (sE a h2 G) (fH h1)
  ·cases h
 |.make fz i es,c,e,X,E2,h,G=>by
  unfold okE at h;split at h
  ·rename_i x px args pos;simp only[G9,Bool.not_eq_true']at h;obtain⟨⟨⟨⟨h0,h1⟩,h2⟩,h3⟩,h4⟩:=h;obtain⟨m1,hi⟩:=G.knm i x (Hs.mp h1);obtain⟨k,hr,hF⟩:=G.fns h0;have hA:=sA es h4 G;cases q:W.ini i with
   |none=>exact absurd q (by obtain⟨f,hf⟩:=G.kin i hi;rw[hf];exact λz=>nomatch z)
   |some f=>
    have F:=hF f (G.kfi i f hi q);cases args with
    |nil=>
     cases es with
     |nil=>exact (wQ (B:=W.toWB) (fz:=fz) (G.gl h2) m1 h3 ((G.kok i hi).mkr f q) F hr G.pass).imp λσ H Q2 hl_=>ex9 hl_ λσ3 M Q E3 rm ds lk hh back=>⟨σ3,M,Q,E3,rm,ds,lk,by simp only[wpE,wpA,q,dn]at hh;exact hh.2,back⟩
     |cons _ _=>simp[okA]at h4
    |cons z zs=>
     cases es with
     |nil=>simp[okA]at h4
     |cons ea er=>
      obtain⟨_,_,e1,n1,_,n3⟩:=cL h4;cases e1;have hA2:PA X (z::zs) (dI X.K W.cls E2 λσ M Q E=>wpA W (.cons ea er) σ M (λxs M1=>i<W.nk/\Q xs M1) E):=hA.imp λσ H Q2 hl_=>ex9 hl_ λσ3 M Q E3 rm ds lk hh back=>⟨σ3,M,_,E3,rm,ds,lk,hh,λvs H' xs M' a b c d=>back vs H' xs M' a b c d.2⟩
      exact (zp (B:=W.toWB) (fz:=fz) (G.gl h2) m1 h3 ((G.kok i hi).mkr f q) F hr G.pass hA2 (ba n1) (cP _ n3)).imp λσ H Q2 hl_=>ex9 hl_ λσ3 M Q E3 rm ds lk hh back=>⟨σ3,M,Q,E3,rm,ds,lk,by simp only[wpE,q,dn]at hh;exact hh,back⟩
  ·cases h
 |.meth a m es,c,e,X,E2,h,G=>by
  unfold okE at h;split at h
  ·rename_i x n ap args cp;simp only[G9,Hk]at h;obtain⟨⟨⟨⟨⟨⟨h0,rfl⟩,h1⟩,h2⟩,h3⟩,h4⟩,h5⟩:=h;obtain⟨k,hr,hF⟩:=G.fns h0;have hA:=sA es h5 G;cases args with
   |nil=>
    cases es with
    |nil=>exact xr (B:=W.toWB) G.kok (λi m f hi q=>hF f (G.kfm i m f hi q)) (hr.mono (Il k)) G.pass (sE a h4 G) (fH h1) h2
    |cons _ _=>simp[okA]at h5
   |cons z zs=>
    cases es with
    |nil=>simp[okA]at h5
    |cons ea er=>
     obtain⟨_,_,e1,n1,_,n3⟩:=cL h5;cases e1;exact Ap (B:=W.toWB) G.kok (λi m f hi q=>hF f (G.kfm i m f hi q)) (hr.mono (Il k)) G.pass (sE a h4 G) hA (fH h1) h2 h3 (ba n1) (cP _ n3)
  ·cases h
 |.ini i es,c,e,X,E2,h,G=>by
  unfold okE at h;split at h
  ·rename_i x px n ap args cp;simp only[G9,Hk,Bool.not_eq_true']at h;obtain⟨⟨⟨⟨⟨⟨⟨⟨h0,rfl⟩,h1⟩,h2⟩,h3⟩,h4⟩,h5⟩,h6⟩,h7⟩:=h;obtain⟨m1,hi⟩:=G.knm i x (Hs.mp h1);obtain⟨k,hr,hF⟩:=G.fns h0;have hA:=sA es h7 G;cases args with
   |nil=>cases h6
   |cons z zs=>
    cases es with
    |nil=>simp[okA]at h7
    |cons ea er=>
     obtain⟨_,_,e1,n1,_,n3⟩:=cL h7;cases e1;cases q:W.ini i with
     |none=>exact absurd q (by obtain⟨f,hf⟩:=G.kin i hi;rw[hf];exact λz=>nomatch z)
     |some f=>
      have hA2:PA X (z::zs) (dI X.K W.cls E2 λσ M Q E=>wpA W (.cons ea er) σ M (λxs M1=>i<W.nk/\Q xs M1) E):=hA.imp λσ H Q2 hl_=>ex9 hl_ λσ3 M Q E3 rm ds lk hh back=>⟨σ3,M,_,E3,rm,ds,lk,hh,λvs H' xs M' a b c d=>back vs H' xs M' a b c d.2⟩
      exact (B7 (B:=W.toWB) (G.gl h2) m1 h3 ((G.kok i hi).ci f q) (hF f (G.kfi i f hi q)) (hr.mono (Il k)) G.pass hA2 h4 h5 (ba n1) (cP _ n3)).imp λσ H Q2 hl_=>ex9 hl_ λσ3 M Q E3 rm ds lk hh back=>⟨σ3,M,Q,E3,rm,ds,lk,by simp only[wpE,q,dn]at hh;exact hh,back⟩
  ·cases h
 |.isK a j,c,e,X,E2,h,G=>by
  unfold okE at h;split at h
  ·simp only[G9,Hk,Hs,Bool.not_eq_true']at h;obtain⟨⟨⟨⟨⟨⟨rfl,h1⟩,h2⟩,h3⟩,h4⟩,h5⟩,h6⟩:=h;exact Ci (B:=W.toWB) G.kok (sE a h6 G) (G.gl h2) (G.bi _ (by decide +kernel)) (G.gl h3) (G.knm _ _ h1).1 h4 (ba h5)
  ·cases h
 |.glo k,c,e,X,E2,h,G=>by
  unfold okE at h;split at h
  ·rename_i x px;simp only[G9,Bool.not_eq_true']at h;obtain⟨u,v,m1,r,hd⟩:=G.glo k x (Hs.mp h.1.1);exact Bi (G.gl h.1.2) m1 r h.2 hd
  ·cases h
 |.bm b o es,c,e,X,E2,h,G=>by
  unfold okE at h;split at h
  ·rename_i x n ap args cp;simp only[G9,Hk]at h;obtain⟨⟨⟨⟨⟨⟨h0,rfl⟩,h1⟩,h2⟩,h3⟩,h4⟩,h5⟩:=h;have hA:=sA es h5 G;cases args with
   |nil=>
    cases es with
    |nil=>exact sR G.un (sE o h4 G) (fH h1) h2
    |cons _ _=>simp[okA]at h5
   |cons z zs=>
    cases es with
    |nil=>simp[okA]at h5
    |cons ea er=>
     obtain⟨_,_,e1,n1,_,n3⟩:=cL h5;cases e1;exact wG G.un (sE o h4 G) hA (fH h1) h3 h2 (ba n1) (cP _ n3)
  ·cases h
 |.dnew tk,c,e,X,E2,h,G=>by
  unfold okE at h;split at h
  ·exact yF tk
  ·cases h
 |.rep fz a b,c,e,X,E2,h,G=>by
  unfold okE at h;split at h
  ·simp only[G9,Hk]at h;obtain⟨⟨rfl,h1⟩,h2⟩:=h;exact A6 (sE a h1 G) (sE b h2 G)
  ·cases h
 |.lzip fz a b,c,e,X,E2,h,G=>by
  unfold okE at h;split at h
  ·simp only[G9,Hk]at h;obtain⟨⟨⟨⟨⟨⟨⟨⟨h0,rfl⟩,h1⟩,rfl⟩,h2⟩,h3⟩,h4⟩,h5⟩,h6⟩:=h;exact z7 (G.calm h0) (G.gl h1) (G.bi _ (by decide +kernel)) (G.gl h2) (G.bi _ (by decide +kernel)) (sE a h5 G) (sE b h6 G) (by rw[ba h3,ba h4];rfl) (ba h4)
  ·cases h
theorem sT:∀(it:IT) {c:Cfg}{e:Expr}{X:Cx}{E2:St->XK},okT it c e=true->Good c W X E2->PT X e (cB X.K W.cls E2 (wpT W it))/\(Fz it=true->PW X e (cB X.K W.cls E2 (wpT W it)))
 |.val a,c,e,X,E2,h,G=>by
  unfold okT at h;simp only[G9]at h;exact⟨CN (sE a h.2 G) (rh h.1),λz=>nomatch z⟩
 |.cmp op a b,c,e,X,E2,h,G=>by
  unfold okT at h;split at h
  ·simp only[G9,Hk]at h;obtain⟨⟨⟨rfl,h0⟩,h1⟩,h2⟩:=h;exact⟨A3 (dW G.un op) (sE a h1 G) (sE b h2 G) (gF h0),λz=>nomatch z⟩
  ·cases h
 |.chain op1 op2 a b d,c,e,X,E2,h,G=>by
  unfold okT at h;split at h
  ·simp only[G9,Hk]at h;obtain⟨⟨⟨⟨⟨rfl,rfl⟩,h0⟩,h1⟩,h2⟩,h3⟩:=h;exact⟨vT (dW G.un op1) (dW G.un op2) (sE a h1 G) (sE b h2 G) (sE d h3 G) (gF h0),λz=>nomatch z⟩
  ·cases h
 |.chain3 op1 op2 op3 a b d f,c,e,X,E2,h,G=>by
  unfold okT at h;split at h
  ·simp only[G9,Hk]at h;obtain⟨⟨⟨⟨⟨⟨⟨rfl,rfl⟩,rfl⟩,h0⟩,h1⟩,h2⟩,h3⟩,h4⟩:=h;exact⟨ur (dW G.un op1) (dW G.un op2) (dW G.un op3) (sE a h1 G) (sE b h2 G) (sE d h3 G) (sE f h4 G) (gF h0),λz=>nomatch z⟩
  ·cases h
 |.and a b,c,e,X,E2,h,G=>by
  unfold okT at h;split at h
  ·rename_i op x y r p;simp only[G9,Hk]at h;obtain⟨⟨rfl,h1⟩,h2⟩:=h;have hA:=(sT a h1 G).1;cases r with
   |nil=>exact⟨(pO hA (qi (sT b h2 G).1)).pt,λ_=>pO hA (qi (sT b h2 G).1)⟩
   |cons z r=>
    have hB:=(sT b h2 G).2;cases b with
    |and b1 b2=>exact⟨(pO hA (hB rfl)).pt,λ_=>pO hA (hB rfl)⟩
    |val b1=>simp[okT,qu]at h2
    |cmp=>simp[okT]at h2
    |chain=>simp[okT]at h2
    |chain3=>simp[okT]at h2
    |or=>simp[okT]at h2
    |not=>simp[okT]at h2
  ·cases h
 |.or a b,c,e,X,E2,h,G=>by
  unfold okT at h;split at h
  ·rename_i op x y r p;simp only[G9,Hk]at h;obtain⟨⟨rfl,h1⟩,h2⟩:=h;have hA:=(sT a h1 G).1;cases r with
   |nil=>exact⟨(we hA (tX (sT b h2 G).1)).pt,λ_=>we hA (tX (sT b h2 G).1)⟩
   |cons z r=>
    have hB:=(sT b h2 G).2;cases b with
    |or b1 b2=>exact⟨(we hA (hB rfl)).pt,λ_=>we hA (hB rfl)⟩
    |val b1=>simp[okT,qu]at h2
    |cmp=>simp[okT]at h2
    |chain=>simp[okT]at h2
    |chain3=>simp[okT]at h2
    |and=>simp[okT]at h2
    |not=>simp[okT]at h2
  ·cases h
 |.not a,c,e,X,E2,h,G=>by
  unfold okT at h;split at h
  ·simp only[G9,Hk]at h;obtain⟨rfl,h1⟩:=h;exact⟨BQ (sT a h1 G).1,λz=>nomatch z⟩
  ·cases h
theorem sA:∀(ia:IA) {c:Cfg}{es:List Expr}{X:Cx}{E2:St->XK},okA ia c es=true->Good c W X E2->PA X es (dI X.K W.cls E2 (wpA W ia))
 |.nil,c,es,X,E2,h,G=>by
  simp only[okA]at h;cases es with
  |nil=>exact BC
  |cons _ _=>cases h
 |.cons a r,c,es,X,E2,h,G=>by
  obtain⟨x,xs,rfl,h1,h2,h3⟩:=cL h;exact Av (sE a h2 G) (sA r h3 G) (ba h1)
theorem sO:∀(io:IO) {c:Cfg}{o:Option Expr}{X:Cx}{E2:St->XK},okO io c o=true->Good c W X E2->PO X o (r0 X.K W.cls E2 (wpO W io))
 |.no,c,o,X,E2,h,G=>by
  simp only[okO]at h;cases o with
  |none=>exact Ej
  |some _=>cases h
 |.yes a,c,o,X,E2,h,G=>by
  cases o with
  |none=>simp[okO]at h
  |some x=>
   simp only[okO]at h;exact BD (sE a h G)
theorem sTO:∀(io:ITO) {c:Cfg}{es:List Expr}{X:Cx}{E2:St->XK},wx io c es=true->Good c W X E2->PIf X es (cB X.K W.cls E2 (gO W io))
 |.no,c,es,X,E2,h,G=>by
  simp only[wx]at h;cases es with
  |nil=>exact λpins s σ H Q2 I ⟨σ3,M,Q,E3,rm,ds,lk,h,back⟩=>vS pins s σ H Q2 I (back _ _ _ rm (.refl _) h)
  |cons _ _=>cases h
 |.yes t,c,es,X,E2,h,G=>by
  unfold wx at h;split at h
  ·exact xa (sT t h G).1
  ·cases h
theorem sI:∀(ii:II) {c:Cfg}{e:Expr}{X:Cx}{E2:St->XK}{tg:Expr},okI ii c e=true->Good c W X E2->uL ii tg=true->PI X tg e (kj X.K W.cls E2 (wpI W ii))
 |.seq a,c,e,X,E2,tg,h,G,_=>by
  unfold okI at h;exact Cr (sE a h G)
 |.enum a,c,e,X,E2,tg,h,G,ht=>by
  unfold okI at h;split at h
  ·simp only[G9,Hk]at h;obtain⟨⟨⟨rfl,h1⟩,h2⟩,h3⟩:=h;have hA:=sE a h3 G;cases tg<;>first
    |exact zQ (G.gl h1) (G.bi _ (by decide +kernel)) hA (ba h2)
    |(simp[uL]at ht)
  ·cases h
 |.zip a b,c,e,X,E2,tg,h,G,ht=>by
  unfold okI at h;split at h
  ·simp only[G9,Hk]at h;obtain⟨⟨⟨⟨⟨rfl,h1⟩,h2⟩,h3⟩,h4⟩,h5⟩:=h;have hA:=sE a h4 G;have hB:=sE b h5 G;cases tg<;>first
    |exact Dr (G.gl h1) (G.bi _ (by decide +kernel)) hA hB (by rw[ba h2,ba h3];rfl) (ba h3)
    |(simp[uL]at ht)
  ·cases h
 |.revd a,c,e,X,E2,tg,h,G,_=>by
  unfold okI at h;split at h
  ·simp only[G9,Hk]at h;obtain⟨⟨⟨rfl,h1⟩,h2⟩,h3⟩:=h;exact A5 (G.gl h1) (G.bi _ (by decide +kernel)) (sE a h3 G) (ba h2)
  ·cases h
 |.vals a,c,e,X,E2,tg,h,G,_=>by
  unfold okI at h;split at h
  ·simp only[G9,Hk]at h;obtain⟨⟨⟨rfl,h1⟩,h2⟩,h3⟩:=h;exact zg (sE a h3 G) (fH h1) h2
  ·cases h
 |.rng1 a,c,e,X,E2,tg,h,G,_=>by
  unfold okI at h;split at h
  ·simp only[G9,Hk]at h;obtain⟨⟨⟨rfl,h1⟩,h2⟩,h3⟩:=h;exact EL (G.gl h1) (G.bi _ (by decide +kernel)) (sE a h3 G) (ba h2)
  ·cases h
end
end
theorem sU{X:Cx}(G:Good c W X E2){pos px spos:Pos}(h:swB c scope x px.line pos.line=true) :
  swapsWith (.ListComp el gs scope pos) (some (.Name x px)) spos.line X.env=pure true:=by
 unfold swB at h;simp only[G9]at h;have h1:X.env.scope.kind=.function:=by rw[G.sc];exact Hs.mp h.1.1.1
 have h2:X.env.kindOf x=some .local:=by show X.env.scope.names.lookup x=_;rw[G.sc];exact Hs.mp h.1.1.2
 have hb:(X.env.blockKind == .function)=true:=by
  unfold Env.blockKind;rw[h1];rfl
 show (pure (X.env.blockKind == .function&&X.env.kindOf x == some .local&&px.line == pos.line&&!(scope.names.any λ(n,k)=>n == x&&(k == .local||k == .cell))):Sem Bool)=pure true
 rw[hb,h2,h.1.2,h.2];rfl
theorem zq{c:Cfg}{X:Cx}(G:Good c W X E2){spos:Pos}(h:(c.sc.names.lookup x == some .cell)=true) :
  swapsWith (.ListComp el gs scope pos) (some (.Name x px)) spos.line X.env=pure false:=by
 have h2:X.env.kindOf x=some .cell:=by show X.env.scope.names.lookup x=_;rw[G.sc];exact Hs.mp h
 show (pure (X.env.blockKind == .function&&X.env.kindOf x == some .local&&px.line == pos.line&&!(scope.names.any λ(n,k)=>n == x&&(k == .local||k == .cell))):Sem Bool)=pure false
 rw[h2,show ((some NameKind.cell:Option NameKind) == some .local)=false from rfl,Bool.and_false];rfl
theorem vC{c:Cfg}(h:swB c scope x a b=true):c.sc.names.lookup x=some .local:=by
 unfold swB at h;simp only[G9,Hs]at h;exact h.1.1.2
section
variable {W:WC}
theorem uT{fz:Bool}{N:List Str}{js:List (Option Nat)}{tg:ITg}{it:II}{cond:ITO}{elt:IE}{c:Cfg}{X:Cx}{E2:St->XK}{i:Nat}{x:Str}{px spos pos:Pos}{el:Expr}{gs:List Comprehension}{scope:Scope}
  (h:okE (.comp fz N js tg it cond elt) c (.ListComp el gs scope pos)=true) (hi:(c.N[i]? == some x)=true) (hsw:swB c scope x px.line pos.line=true) (G:Good c W X E2) :
  PS X (.Assign [.Name x px] (.ListComp el gs scope pos) spos) (bv X.K W.cls E2 (wpS W (.set i (.comp fz N js tg it cond elt)))):=by
 have sp:=sU (spos:=spos) (el:=el) (gs:=gs) G hsw;unfold okE at h;split at h
 ·rename_i el' tgE iter ifs as scope' pos' heq;cases heq;simp only[G9,Hk]at h;obtain⟨⟨⟨⟨⟨⟨⟨⟨h0,rfl⟩,ht⟩,h1⟩,h2⟩,h3⟩,h4⟩,h5⟩,h6⟩:=h;have hok:=h2;rw[<-G.sc,<-G.N]at hok;exact o6 hok (G.calm h0) (sI it h3 G ht) (λC s2 H2 fp pn=>sG tg h4 (G.comp h2 C s2 H2 fp pn)) (λC s2 H2 fp pn=>sTO cond h5 (G.comp h2 C s2 H2 fp pn)) (λC s2 H2 fp pn=>sE elt h6 (G.comp h2 C s2 H2 fp pn)) (uh h1) G.ndX (G.at hi) (by rw[G.sc];exact vC hsw) sp fz
 ·cases h
mutual
theorem sS:∀(is:IS) {c:Cfg}{s:Stmt}{X:Cx}{E2:St->XK},okS is c s=true->Good c W X E2->PS X s (bv X.K W.cls E2 (wpS W is))
 |.set i a,c,s,X,E2,h,G=>by
  unfold okS at h;split at h
  ·simp only[G9,Bool.or_eq_true]at h;obtain⟨⟨⟨h1,h2⟩,h3⟩,h4⟩:=h;obtain⟨l1,l2⟩:=G.loc h2;rcases h4 with h4|h4
   ·exact xQ G.ndX (G.at h1) l1 (sE a h3 G) (mz h4) l2
   ·split at h4
    ·rcases Bool.or_eq_true_iff.mp h4 with h4|h4
     ·exact uT h3 h1 h4 G
     ·exact xQ G.ndX (G.at h1) l1 (sE _ h3 G) (zq G h4) l2
    ·cases h4
  ·cases h
 |.expr a,c,s,X,E2,h,G=>by
  unfold okS at h;split at h
  ·simp only[G9]at h;exact yV (sE a h.2 G) (mz h.1)
  ·cases h
 |.ret a,c,s,X,E2,h,G=>by
  unfold okS at h;split at h
  ·exact Cs (sE a h G)
  ·cases h
 |.dead,c,s,X,E2,h,G=>zu
 |.ifs t a b,c,s,X,E2,h,G=>by
  unfold okS at h;split at h
  ·simp only[G9]at h;exact Ep (sT t h.1.1 G).1 (sSs a h.1.2 G) (sSs b h.2 G)
  ·cases h
 |.for_ tg it body,c,s,X,E2,h,G=>by
  unfold okS at h;split at h
  ·simp only[G9]at h;obtain⟨⟨⟨⟨⟨⟨h1,ht⟩,h2⟩,h3⟩,h4⟩,h5⟩,h6⟩:=h;exact CI (G.own h1).1 (G.calm h2) (sI it h5 G ht) (sG tg h4 G) (sSs body h6 G) (uh h3)
  ·cases h
 |.whl t body,c,s,X,E2,h,G=>by
  unfold okS at h;split at h
  ·simp only[G9]at h;exact wM (G.own h.1.1).1 (sT t h.1.2 G).1 (sSs body h.2 G)
  ·cases h
 |.raiseI k es,c,s,X,E2,h,G=>by
  unfold okS at h;split at h
  ·rename_i x px args cp pos;simp only[G9,Bool.not_eq_true']at h;obtain⟨⟨⟨⟨⟨⟨⟨h0,h1⟩,h2⟩,h3⟩,h4⟩,h5⟩,h6⟩,h7⟩:=h;obtain⟨_,E,hE,hR,hRD,hr2⟩:=G.own h1;obtain⟨m1,_,_⟩:=G.exc k x (Hs.mp h3);obtain⟨f,hf⟩:=Iv.mp h0;obtain⟨hxf,fI,fd,ps,xi,bd,F⟩:=G.xi k f hf;have hA:=sA (W:=W) es h7 G;cases args with
   |nil=>cases h6
   |cons z zs=>
    cases es with
    |nil=>simp[okA]at h7
    |cons ea er=>
     obtain⟨_,_,e1,n1,_,n3⟩:=cL h7;cases e1;exact uF hRD hE (G.calm h2) (G.gl h4) m1 xi F hr2 bd hxf hA h5 (ba n1) (cP _ n3)
  ·cases h
 |.raise k es,c,s,X,E2,h,G=>by
  unfold okS at h;split at h
  ·rename_i x px args cp pos;simp only[G9,Bool.not_eq_true']at h;obtain⟨⟨⟨⟨⟨⟨⟨h0,h1⟩,h2⟩,h3⟩,h4⟩,h5⟩,h6⟩,h7⟩:=h;obtain⟨_,E,hE,hR,hRD,hr2⟩:=G.own h1;obtain⟨m1,m2,_⟩:=G.exc k x (Hs.mp h3);have hA:=sA (W:=W) es h7 G;cases args with
   |nil=>cases h6
   |cons z zs=>
    cases es with
    |nil=>simp[okA]at h7
    |cons ea er=>
     obtain⟨_,_,e1,n1,_,n3⟩:=cL h7;cases e1;exact vJ hR hE (G.calm h2) (G.gl h4) m1 (m2 (Option.isNone_iff_eq_none.mp h0)) hA h5 (ba n1) (cP _ n3)
  ·cases h
 |.try_ body hs,c,s,X,E2,h,G=>by
  unfold okS at h;split at h
  ·rename_i b handlers pos;simp only[G9]at h;obtain⟨⟨⟨h1,h2⟩,h3⟩,h4⟩:=h;obtain⟨t1,t2,t3⟩:=G.tr h1;have hH:=sHs hs h4 G;cases handlers with
   |nil=>cases h2
   |cons h0 hr=>exact Cg t1 t2 t3 hH λpn V' E2' hP=>sSs body h3 (G.trying hP)
  ·cases h
 |.app o a,c,s,X,E2,h,G=>by
  unfold okS at h;split at h
  ·simp only[G9,Hk]at h;obtain⟨⟨⟨⟨⟨rfl,h1⟩,h2⟩,h3⟩,h4⟩,h5⟩:=h;exact C6 (sE o h4 G) (sE a h5 G) (AG h1) h2 (ba h3)
  ·cases h
 |.del i,c,s,X,E2,h,G=>by
  unfold okS at h;cases h
 |.fset o f a,c,s,X,E2,h,G=>by
  unfold okS at h;split at h
  ·simp only[G9,Hk]at h;obtain⟨⟨⟨rfl,h1⟩,h2⟩,h3⟩:=h;exact zn (B:=W.toWB) G.kok (sE o h2 G) (sE a h3 G) (mz h1)
  ·cases h
 |.ixset o i a,c,s,X,E2,h,G=>by
  unfold okS at h;split at h
  ·simp only[G9]at h;obtain⟨⟨⟨⟨h0,h1⟩,h2⟩,h3⟩,h4⟩:=h;exact wb G.un (sE o h2 G) (sE i h3 G) (sE a h4 G) (Ar h0) (by unfold swapsWithSole;exact mz h1) (by rfl) (by rfl)
  ·cases h
theorem sSs:∀(is:ISs) {c:Cfg}{sts:List Stmt}{X:Cx}{E2:St->XK},iX is c sts=true->Good c W X E2->PSs X sts (bv X.K W.cls E2 (aO W is))
 |.nil,c,sts,X,E2,h,G=>by
  simp only[iX]at h;cases sts with
  |nil=>exact B9
  |cons _ _=>cases h
 |.cons s r,c,sts,X,E2,h,G=>by
  unfold iX at h;split at h
  ·exact Bm (sSs r h G)
  ·split at h
   ·simp only[G9]at h;exact Ay (t:=wpS W s) (u:=aO W r) (sS s h.1 G) (sSs r h.2 G)
   ·cases h
theorem sHs:∀(ih:IHs) {c:Cfg}{hs:List ExceptHandler}{X:Cx}{E2:St->XK},ud ih c hs=true->Good c W X E2->PH X hs (pc X.K W.cls (wpH W ih))
 |.nil,c,hs,X,E2,h,G=>by
  simp only[ud]at h;cases hs with
  |nil=>exact yT
  |cons _ _=>cases h
 |.cons k nm body r,c,hs,X,E2,h,G=>by
  unfold ud at h;split at h
  ·rename_i x px nmE bodyE hp ax;simp only[G9,Bool.not_eq_true']at h;obtain⟨⟨⟨⟨⟨⟨h1,h2⟩,h3⟩,h4⟩,h5⟩,h6⟩,h7⟩:=h;obtain⟨m1,m2,m3⟩:=G.exc k x (Hs.mp h1);have hB:=λv=>sSs body h6 (G.caught v)
   have hR:=sHs r h7 G;cases bodyE with
   |nil=>cases h5
   |cons b0 suite=>
    cases nm with
    |none=>
     cases nmE with
     |none=>exact Di (G.gl h2) m1 m3 hB hR h3
     |some n=>cases h4
    |some j=>
     cases nmE with
     |none=>cases h4
     |some n=>
      simp only[G9,Hs]at h4;exact CH (G.gl h2) m1 m3 G.ndX (by rw[G.N];exact h4.1) (by rw[G.sc];exact h4.2) hB hR h3
  ·cases h
end
end
theorem cU:∀{l:List (Nat×Nat)}{m f:Nat},l.lookup m=some f->(m,f)∈l
 |[],_,_,h=>by cases h
 |(a,b)::r,m,f,h=>by
  rw[HX]at h;by_cases e:m=a
  ·subst e;simp at h;subst h;exact Hf
  ·have:(m == a)=false:=by simpa using e
   rw[this]at h;exact Hb _ (cU h)
theorem ixc{α:Type}{P:Nat->α->Prop}{a:α}{r:List α}(h0:P 0 a)(hr:∀i x,r[i]?=some x->P (i+1) x):∀i x,(a::r)[i]?=some x->P i x
 |0,x,h=>by cases h;exact h0
 |i+1,x,h=>hr i x h
theorem ixn{α:Type}{P:Nat->α->Prop}:∀i x,([]:List α)[i]?=some x->P i x:=λi x h=>by simp at h
theorem us0{P:List Value->Prop}(h:P []):∀us:List Value,us.length=0->P us:=λus e=>(List.eq_nil_of_length_eq_zero e)▸h
theorem usS{n:Nat}{P:List Value->Prop}(h:∀a,∀us:List Value,us.length=n->P (a::us)):∀us:List Value,us.length=n+1->P us:=λus e=>by
 cases us with
 |nil=>cases e
 |cons a r=>exact h a r (Nat.succ.inj e)
structure FB where
 np:Nat
 nl:Nat
 cl:Bool
 body:ISs
 df:List Int:=[]
noncomputable def FB.full(fb:FB)(ds:List D):List D:=ds++(fb.df.drop (ds.length+fb.df.length-fb.np)).map D.int
noncomputable def oR(nl:Nat)(ds:List D):St3:=ds.map some++List.replicate (nl-ds.length) none
def aa(T:List FB)(B:WB):Nat->Nat->List D->MH->VK3->XN->Prop
 |0,_,_,_,_,_=>False
 |n+1,f,ds,M,Q,E=>match T[f]? with
  |none=>False
  |some fb=>(fb.full ds).length=fb.np/\aO {toWB:=B,call:=aa T B n} fb.body {nx:=λ_ M'=>Q .non (kp fb.cl M M'),rt:=λv M'=>Q v (kp fb.cl M M')} (λ_ i M'=>E i (ar M M')) (oR fb.nl (fb.full ds)) M
structure FL where
 name:Str
 qual:Str
 glob:Bool
 cl:Bool
 st:Stmt
 N:List Str
 ps:List Str
 body:ISs
 gn:Str:=name
 df:List Int:=[]
noncomputable def mC(N ps:List Str)(sc:Scope):Bool:=(sc.kind == .function)&&!sc.isCoroutine&&!sc.isGenerator&&decide N.Nodup&&(N.take ps.length == ps)&&
 ps.all (λx=>sc.names.lookup x == some .local||sc.names.lookup x == some .cell)&&sc.names.all (λy=>y.2 != .free)
theorem kT(h:mC N ps sc=true):FnScope N ps sc:=by
 unfold mC at h;simp only[G9,Bool.not_eq_true',Hs,Hk,HC,Bool.or_eq_true,bne_iff_ne]at h;obtain⟨⟨⟨⟨⟨⟨h1,h2⟩,h3⟩,h4⟩,h5⟩,h6⟩,h7⟩:=h;exact⟨h1,h2,h3,h4,h5,h6,h7⟩
structure NM where
 exc:List Str
 kln:List Str
 gln:List Str
 xin:List (Nat×Nat)
noncomputable def FL.cfg(l:FL)(fns:List (Option Str×Nat))(n:NM):Cfg:={N:=l.N,sc:=az l.st,fns:=fns,exc:=n.exc,kln:=n.kln,gln:=n.gln,xin:=n.xin,calm:=true,own:=true,tr:=true,fn:=true}
noncomputable def FL.fb(l:FL):FB:=⟨l.ps.length,l.N.length,l.cl,l.body,l.df⟩
noncomputable def FL.ok(l:FL)(fns:List (Option Str×Nat))(n:NM):Bool:=mC l.N l.ps (az l.st)&&iX l.body (l.cfg fns n) (bb l.st)
noncomputable def fR(L:List FL):List (Option Str×Nat):=L.map λl=>(if l.glob=true then some l.gn else none,l.ps.length)
structure FunD (K:Iz)(x qual:Str)(st:Stmt)(f:Addr)(fd:FuncData):Prop where
 ex:∃(oc:Value) (od:Option Addr) (dV kV doc pm:Value) (an:Option Addr) (cdv ct:Value) (osl:Array (Option Value)),
  fd=PySem.W.fnOf x qual (cg st) (bb st) (az st) dV kV doc pm an cdv ct/\K.lookup f=some ⟨oc,od,.func fd,osl⟩/\PySem.W.codeIn K cdv qual=true
 kp:PySem.W.keepIn K (.ref f)=true
structure Top (K:Iz)(mg:Str->Option Value)(L:List FL)(n:NM)(B:WB):Prop where
 ok:∀l∈L,l.ok (fR L) n=true
 fn:∀f l,L[f]?=some l->∃fd,FunD K l.name l.qual l.st (B.fad f) fd/\(l.glob=true->mg l.gn=some (.ref (B.fad f)))/\(l.df=[]->∀us:List Value,us.length=l.ps.length->bindArgs fd ⟨us,[]⟩=pure (l.ps.zip us))/\∃dv,Vals (l.df.map V.int) dv/\∀j,Binds K fd l.ps (dv.drop j)
 exi:∀i,i<B.ne->ExcI K (B.cls i)/\PySem.W.kitOne K (.ref (B.cls i)) (.type "ValueError")=some true/\∀j x,n.exc[j]?=some x->PySem.W.kitOne K (.ref (B.cls i)) (.ref (B.cls j))=some (B.sub i j)
 exc:∀i x,n.exc[i]?=some x->mg x=some (.ref (B.cls i))/\(n.xin.lookup i=none->vV K (B.cls i))/\∀j,j<B.ne->PySem.W.exmOne K (.ref (B.cls j)) (.ref (B.cls i))=some (B.sub j i)
 kok:∀i,i<B.nk->KOk K B B.fad i
 kin:∀i,i<B.nk->∃f,B.ini i=some f
 kfi:∀i f,i<B.nk->B.ini i=some f->f<L.length
 kfm:∀i m f,i<B.nk->B.mth i m=some f->f<L.length
 knm:∀i x,n.kln[i]?=some x->mg x=some (.ref (B.kls i))/\i<B.nk
 glo:∀k x,n.gln[k]?=some x->∃u v,mg x=some u/\RelV v u/\∀H,Den K H (B.glo k) v
 bi:∀x∈biNames,mg x=none
 dig:zE K
 xi:∀i f,n.xin.lookup i=some f->B.xin i=some f/\∃fI fd ps,XIni K (B.cls i) fI (fnm f)/\Binds K fd ps []/\∀(P:Program)(w:World)(base:Heap),FnOk P w K mg base (CX1 P w) 1 fI fd ps (iK (cpF f) K (B.cls i) (fnm f))
 xn:∀i f,i<B.ne->B.xin i=some f->NoAttr K (B.cls i) (fnm f)
section
variable {w:World}{K:Iz}{L:List FL}{B:WB}
noncomputable def spF(K:Iz)(cls:Nat->Addr)(l:FL)(t3:List D->MH->VK3->XN->Prop):Sp:=λvs H Q E=>vs.length=l.ps.length/\spX K cls t3 vs H Q E
theorem FB.full_at{fb:FB}{ds:List D}(h:ds.length=fb.np):fb.full ds=ds:=by
 unfold FB.full;rw[List.drop_of_length_le (by omega),List.map_nil,Ia]
theorem k7:∀{vs:List V}{us:List Value} (j:Nat),Vals vs us->Vals (vs.drop j) (us.drop j)
 |_,_,0,h=>h
 |_,_,_+1,.nil=>.nil
 |_,_,j+1,.cons _ h=>k7 j h
theorem C8{l:FL}(hl:L[f]?=some l){dv:List Value}(hv:Vals (l.df.map V.int) dv)(hb:∀j,Binds K fd l.ps (dv.drop j)):BdT K B.cls fd l.ps (aa (L.map FL.fb) B n f) (spF K B.cls l (aa (L.map FL.fb) B n f)):=by
 rintro vs H Q E ⟨ds,M,Q3,E3,dl,rm,h,back,lk⟩;cases n with
 |zero=>exact h.elim
 |succ n=>
  have hT:(L.map FL.fb)[f]?=some l.fb:=by rw[HB,hl];rfl
  have h0:=h;simp only[aa,hT]at h0;have e:=h0.1;have hlen:=dl.length;refine⟨(l.df.map V.int).drop (ds.length+l.df.length-l.ps.length),dv.drop (ds.length+l.df.length-l.ps.length),k7 _ hv,hb _,?_,?_⟩
  ·have e2:(l.fb.full ds).length=l.ps.length:=e;unfold FB.full at e2;rw[HJ,Hm]at e2;rw[HJ,List.length_drop,Hm,<-hlen];rw[List.length_drop]at e2;exact e2
  ·refine⟨l.fb.full ds,M,Q3,E3,?_,rm,?_,back,lk⟩
   ·unfold FB.full;rw[<-List.map_drop];exact dl.append DenL.of_int
   ·simp only[aa,hT];rw[FB.full_at e];exact h0
theorem uH(T:Top K mg L nm B):∀(n f:Nat)(l:FL),L[f]?=some l->∀(fd:FuncData),FunD K l.name l.qual l.st (B.fad f) fd->FnOk P w K mg base (CX1 P w) (2*n+2) (B.fad f) fd l.ps (spF K B.cls l (aa (L.map FL.fb) B n f)):=by
 intro n
 induction n with
 |zero=>
  intro f l hl fd F;exact⟨λvs H Q E h=>h.1,λA outer s H args us vs Q E hr e0 hb r ⟨_,_,_,_,_,_,_,h,_⟩=>h.elim⟩
 |succ n ih=>
  intro f l hl fd F;have hT:(L.map FL.fb)[f]?=some l.fb:=by rw[HB,hl];rfl
  have hm:l∈L:=HL hl;have okl:=T.ok l hm;unfold FL.ok at okl;rw[G9]at okl;have S:=kT okl.1;obtain⟨oc,od,dV,kV,doc,pm,an,cdv,ct,osl,rfl,lk,hcd⟩:=F.ex;have un:∀ds M Q E,aa (L.map FL.fb) B (n+1) f ds M Q E->ds.length=l.ps.length->aO {toWB:=B,call:=aa (L.map FL.fb) B n} l.body {nx:=λ_ M'=>Q .non (kp l.cl M M'),rt:=λv M'=>Q v (kp l.cl M M')} (λ_ i M'=>E i (ar M M')) (oR l.N.length ds) M:=λds M Q E h e=>by
   simp only[aa,hT]at h;rw[FB.full_at (fb:=l.fb) e]at h;exact h.2
  show FnOk P w K mg base (CX1 P w) (2*n+3+1) _ _ _ _;refine uS lk hcd S (λvs H Q E h=>?_) λA outer s H vs Q E hr hsp=>?_
  ·exact h.1
  ·obtain⟨hle,ds,M,Q3,E3,dl,rm,h,back,lkE⟩:=hsp;have h:=un _ _ _ _ h (by rw[dl.length];exact hle)
   have len:(fR L).length=L.length:=by unfold fR;rw[Hm]
   have G:Good (l.cfg (fR L) nm) {toWB:=B,call:=aa (L.map FL.fb) B n} (cJ (CX1 P w) P w K mg base l.N l.qual (az l.st) (B.fad f) cdv A outer s H E) (λ_=>E):=by
    refine⟨rfl,S.nd,rfl,hr.units,λ_=>rfl,λ_ _=>rfl,(λ_ z=>nomatch z),λ_=>⟨Eg,E,rfl,vY,uW,hr.mono (by omega)⟩,λ_=>⟨rfl,rfl,rfl⟩,λ_=>⟨2*n+2,hr,λg hg=>?_⟩,λg x k hg=>?_,T.kok,T.kin,λi g hi q=>?_,λi m g hi q=>?_,T.knm,T.glo,T.exc,T.exi,(λi f hi=>?_),T.xn,T.bi,T.dig,λpins σ H' s' e s'' I hc=>By pins σ H' s' e s'' I hc⟩
    ·have hg:g<(fR L).length:=hg;rw[len]at hg;obtain⟨fd2,F2,_,_,dv2,v2,b2⟩:=T.fn g L[g] (by simp[hg])
     exact⟨fd2,_,_,F2.kp,C8 (by simp[hg]) v2 b2,ih g L[g] (by simp[hg]) fd2 F2⟩
    ·have hg:(fR L)[g]?=some (some x,k):=hg;unfold fR at hg;rw[HB]at hg;cases q:L[g]? with
     |none=>rw[q]at hg;cases hg
     |some l2=>
      rw[q]at hg;obtain⟨fd2,F2,m2,_⟩:=T.fn g l2 q;have e:((if l2.glob=true then some l2.gn else none),l2.ps.length)=(some x,k):=Hv hg
      by_cases z:l2.glob=true
      ·rw[Hg z]at e;cases e;exact m2 z
      ·rw[Hc z]at e;cases e
    ·show g<(fR L).length;rw[len];exact T.kfi i g hi q
    ·show g<(fR L).length;rw[len];exact T.kfm i m g hi q
    ·obtain⟨a,fI,fd3,ps3,x3,b3,F3⟩:=T.xi i f hi;exact⟨a,fI,fd3,ps3,x3,b3,F3 P w base⟩
   exact⟨_,sSs l.body okl.2 G,oR l.N.length ds,M,_,_,rm,oF dl,λσ3 σ i M' H' t _ rm' q dx xd=>lkE i _ H' t (rm'.sub λ_ _ z=>kS z) q dx xd,h,
    ⟨λσ' H' σ3' M' rm' ds' tm q=>back _ _ _ _ uV (rm'.sub λ_ _ z=>sF z) tm q,λv H' d M' dv rm' tm q=>back _ _ _ _ dv (rm'.sub λ_ _ z=>sF z) tm q,λ_ _ _ _ _ _ _ z=>z.elim,λ_ _ _ _ _ _ _ z=>z.elim⟩⟩
end
noncomputable abbrev scr(ns:List Int):D:=.rol (ns.map D.int)
theorem walkD{l:PySem.W.OpenLaw}{k f:Nat}{q:Program}{loose:List Str}{XP:(Str->Option Value)->Heap->Prop}{YP:World->Heap->Prop}{d:DefRec}{K:Params->Iz}{fl:FL}{x:Str}{L:List FL}{nm:NM}{BB:(Nat->Addr)->(Nat->Addr)->(Nat->Addr)->WB}
  (hn:l.most=some 63) (hdf:d.params.defaults=[]) (hr:Room (2*k+2) callerA) (hY:∀(w:World)(h:Heap),YP w h->(K w.params).In h) (hf:L[f]?=some fl) (hps:fl.ps=[x]) (hname:fl.gn=d.name) (hgl:fl.glob=true)
  (T:∀(w:World)(mg:Str->Option Value)(h:Heap),(K w.params).In h->h.Ns mainGlobals mg->∃cls kls fad,Top (K w.params) mg L nm (BB cls kls fad))
  (main:∀(cls kls fad:Nat->Addr)(ns:List Int),ns.length<=63->aa (L.map FL.fb) (BB cls kls fad) k f [scr ns] (λ_=>none) (λd _=>d=.bl true) (λ_ _=>False)) (hd0:fl.df=[]:=by rfl) :
  PySem.W.WalkO q loose XP YP l.row.toRowW d [] (λf vs=>PySem.call f vs):=by
 refine Att.attach_call hn hdf λw s₀ s₁ mg mb fa o pm cd doc a vs ns G Y ho hd hcd hmg hobj hints hlen hg=>?_
 have KX:=hY w _ Y;obtain⟨cls,kls,fad,T⟩:=T w mg _ KX G.T.g;obtain⟨fd,F,m1,b1,_⟩:=T.fn f fl hf;have m1:=m1 hgl;rw[hname,hmg]at m1;have m1:=Value.ref.inj (Hv m1);subst m1;refine sB (K:=K w.params) (CX:=CX1 l.prog w) (fd:=fd) (x:=x) (sp:=spF (K w.params) (BB cls kls fad).cls fl (aa (L.map FL.fb) (BB cls kls fad) k f)) KX G.T.g G.T.b G.T.builtins G.T.nolimit hg hobj hints (Hw hlen (by decide)) hr (λbase kb gb=>by rw[<-hps];exact uH T k f fl hf fd F) (λs u=>?_) (λH hO hS=>?_) λH e s' h=>?_
 ·have hb:=b1 hd0 [u] (by rw[hps];rfl)
  rw[hps]at hb;exact .of_eq hb
 ·have sq:SqF (K w.params) H a (ns.map V.int):=by
   cases hk:(K w.params).lookup a with
   |some ob=>
    have e:=KX a ob hk;rw[hobj]at e;cases e;exact .inr ⟨vs,_,hk,by rw[hints.length];exact Hw hlen (by decide),ij hints⟩
   |none=>
    rcases hS with (h|⟨ob,h⟩)|⟨ob,_,_,h,_⟩
    ·rcases hO a with z|⟨o2,xs,z⟩
     ·rw[h]at z;cases z
     ·rw[h]at z;cases z
    ·exact .inl ⟨ob,h⟩
    ·rw[hk]at h;cases h
  refine⟨by rw[hps];rfl,[scr ns],λ_=>none,λd _=>d=.bl true,λ_ _=>False,.one ⟨a,_,rfl,sq,.of_int⟩,λa o e=>(by cases e),main cls kls fad ns hlen,λv H' d M' dv _ _ q=>?_,λ_ _ _ _ _ h=>h.elim⟩
  subst q;exact dv
 ·obtain⟨_,_,_,_,_,_,_,_,_,_,_,_,_,he⟩:=h;exact he
theorem Fun.bindsE{K:Iz}{st:Stmt}{ps:List Str}(F:Fun K x qual st f fd)
  (h:∀(kV doc pm:Value)(an:Option Addr)(cdv ct:Value)(us:List Value),us.length=ps.length->bindArgs (PySem.W.fnOf x qual (cg st) (bb st) (az st) .none kV doc pm an cdv ct) ⟨us,[]⟩=pure (ps.zip us)):∀us:List Value,us.length=ps.length->bindArgs fd ⟨us,[]⟩=pure (ps.zip us):=by
 obtain⟨oc,od,kV,doc,pm,an,cdv,ct,osl,rfl,lk,hcd⟩:=F.ex;exact h kV doc pm an cdv ct
noncomputable def tO(sl pr b:Str)(sc:Scope)(ap cp:Pos):Bool:=(ap.endLine == cp.line)&&(sc.names.lookup b == some .globalImplicit)&&mC [sl,pr] [sl,pr] sc&&
 !(b == ("__debug__" : Str))&&!(sl == ("__debug__" : Str))&&!(pr == ("__debug__" : Str))&&!(sl == ("__classdict__" : Str))&&!(pr == ("__classdict__" : Str))
theorem AV{P:Program}{w:World}{K:Iz}{mg:Str->Option Value}{base:Heap}{fI C D:Addr}{name qual:Str}{params:Arguments}{scope:Scope}{body:List Stmt}{kV doc pm cdv ct oc:Value}{an od:Option Addr}{osl:Array (Option Value)}{b sl pr f tx:Str}{j:Nat}{px ap p1 p2 cp p3 p4 p5 p6 p7:Pos}
  (hbd:body=[.Expr (.Call (.Attribute (.Name b px) "__init__" ap) [.Name sl p1,.Constant (.str tx) j p2] [] cp) p3,.Assign [.Attribute (.Name sl p4) f p5] (.Name pr p6) p7])
  (h:tO sl pr b scope ap cp=true) (lk:K.lookup fI=some ⟨oc,od,.func (PySem.W.fnOf name qual params body scope .none kV doc pm an cdv ct),osl⟩) (hcd:PySem.W.codeIn K cdv qual=true) (hm:mg b=some (.ref D)) (hb:BIni K D)(q:XIni K C fI f) :
  FnOk P w K mg base (CX1 P w) 1 fI (PySem.W.fnOf name qual params body scope .none kV doc pm an cdv ct) [sl,pr] (iK false K C f):=by
 subst hbd;unfold tO at h;simp only[G9,Bool.not_eq_true']at h;obtain⟨⟨⟨⟨⟨⟨⟨h7,h8⟩,h9⟩,h10⟩,h11⟩,h12⟩,h13⟩,h14⟩:=h;exact yh lk hcd (kT h9) (Hs.mp h8) hm h7 hb q h10 h11 h12 h13 h14
end L2
namespace L2
open PySem
noncomputable def nZ(K:Iz)(a:Addr):Option FuncData:=match K.lookup a with
 |some ⟨_,_,.func fd,_⟩=>some fd
 |_=>none
noncomputable def fdN(l:FL)(fd:FuncData):FuncData:=PySem.W.fnOf l.name l.qual (cg l.st) (bb l.st) (az l.st) (if l.df.isEmpty=true then .none else fd.defaults) fd.kwdefaults fd.doc fd.pyModule fd.annotations fd.code fd.closureTuple
noncomputable def fnB(K:Iz)(B:WB)(l:FL)(i:Nat):Bool:=(match nZ K (B.fad i) with
 |some fd=>PySem.W.codeIn K fd.code l.qual
 |none=>false)&&PySem.W.keepIn K (.ref (B.fad i))&&(!l.glob||PySem.W.nsIn K mainGlobals l.gn == some (some (.ref (B.fad i))))
theorem wk{K:Iz}(h:nZ K a=some fd):∃oc od sl,K.lookup a=some ⟨oc,od,.func fd,sl⟩:=by
 unfold nZ at h;split at h
 ·rename_i oc od fd' sl e;cases h;exact⟨oc,od,sl,e⟩
 ·cases h
noncomputable def CT(K:Iz)(C:Addr):Bool:=PySem.W.hasDictIn K C&&PySem.W.findIn K (.ref C) "__getattribute__" == some (some (.builtin "BaseException.__getattribute__"))&&PySem.W.findIn K (.ref C) "__getattr__" == some none&&PySem.W.findIn K (.ref C) "__class__" == some (some (.builtin "object.__class__"))&&PySem.W.mroIn K C (.type "object") == some true&&PySem.W.mroIn K C (.type "BaseException") == some true&&PySem.W.kitOne K (.ref C) (.type "ValueError") == some true
noncomputable def Cb(K:Iz):Bool:=PySem.W.specialIn K (.builtin "object.__class__") "__get__" == some (some (.builtin "getset_descriptor.__get__"))&&PySem.W.takesIn K (.builtin "object.__class__") == some true&&PySem.W.nsIn K cStatics "sys.int_max_str_digits" == some none&&biNames.all λx=>PySem.W.nsIn K mainGlobals x == some none
noncomputable def B8(K:Iz)(B:WB)(n:NM):Bool:=(List.range B.ne).all (λi=>CT K (B.cls i)&&(List.range n.exc.length).all λj=>PySem.W.kitOne K (.ref (B.cls i)) (.ref (B.cls j)) == some (B.sub i j)&&PySem.W.exmOne K (.ref (B.cls i)) (.ref (B.cls j)) == some (B.sub i j))&&
 n.exc.zipIdx.all λp=>PySem.W.nsIn K mainGlobals p.1 == some (some (.ref (B.cls p.2)))&&((n.xin.lookup p.2).isSome||PySem.W.excIn K (B.cls p.2) bmV "ValueError.__new__")
noncomputable def kB(K:Iz)(B:WB)(fT:List (List Nat))(mT:List (List (Nat×Nat)))(iT:List Nat)(i:Nat):Bool:=
 PySem.W.plainGet K (B.kls i) Str.empty&&PySem.W.hasDictIn K (B.kls i)&&PySem.W.plainOver K (B.kls i)&&PySem.W.findIn K (.ref (B.kls i)) "__setattr__" == some (some (.builtin "object.__setattr__"))&&
 (fT.getD i []).all (λf=>PySem.W.findIn K (.ref (B.kls i)) (fnm f) == some none)&&
 (mT.getD i []).all (λp=>PySem.W.findIn K (.ref (B.kls i)) (fnm p.1) == some (some (.ref (B.fad p.2)))&&PySem.W.isFn K (.ref (B.fad p.2))&&PySem.W.keepIn K (.ref (B.fad p.2)))&&
 (match iT[i]? with
  |some f=>PySem.W.makesIn K (B.kls i)&&PySem.W.findIn K (.ref (B.kls i)) "__init__" == some (some (.ref (B.fad f)))&&PySem.W.isFn K (.ref (B.fad f))&&PySem.W.keepIn K (.ref (B.kls i))&&PySem.W.specialIn K (.ref (B.kls i)) "__getattribute__" == some (some (.builtin "type.__getattribute__"))&&PySem.W.readsIn K (B.kls i) (.type "type")&&
   (match PySem.W.findCls K (.ref (B.kls i)) (.type "type") "__init__" with
    |some (.val (.ref g))=>g == B.fad f
    |_=>false)
  |none=>false)&&
 PySem.W.findIn K (.ref (B.kls i)) "__class__" == some (some (.builtin "object.__class__"))&&PySem.W.mroIn K (B.kls i) (.type "object") == some true&&
 (List.range B.nk).all λj=>PySem.W.kitOne K (.ref (B.kls i)) (.ref (B.kls j)) == some (B.ksub i j)
noncomputable def BK(L m:Nat)(mT:List (List (Nat×Nat)))(iT:List Nat):Bool:=iT.length == m&&iT.all (λf=>decide (f<L))&&mT.all λl=>l.all λp=>decide (p.2<L)
theorem iE(h:(List.range n).all p=true)(hi:i<n):p i=true:=HC.mp h i (List.mem_range.mpr hi)
theorem pE{l:List α}(h:l.zipIdx.all p=true)(hx:l[i]?=some x):p (x,i)=true:=by
 refine HC.mp h (x,i) ?_;rw[List.mem_zipIdx_iff_getElem?];exact hx
theorem A7{K:Iz}{L:List FL}{B:WB}(h:L.all (λl=>l.df.isEmpty)=true):∀(f:Nat)(l:FL),L[f]?=some l->l.df≠[]->∀fd,nZ K (B.fad f)=some fd->∃dv,Vals (l.df.map V.int) dv/\∀j,Binds K fd l.ps (dv.drop j):=λf l hl z=>absurd (List.isEmpty_iff.mp (HC.mp h l (HL hl))) z
theorem Top.of{K:Iz}{h:Heap}{L:List FL}{n:NM}{B:WB}{fT:List (List Nat)}{mT:List (List (Nat×Nat))}(X:K.In h)(Gn:h.Ns mainGlobals mg)
  (h1:L.all (λl=>l.ok (fR L) n)=true)
  (h2:L.zipIdx.map (λp=>nZ K (B.fad p.2))=L.zipIdx.map λp=>(nZ K (B.fad p.2)).map (fdN p.1))
  (h3:L.zipIdx.all (λp=>fnB K B p.1 p.2)=true)
  (h4:∀(f:Nat)(l:FL),L[f]?=some l->∀us:List Value,us.length=l.ps.length->∀(kV doc pm:Value)(an:Option Addr)(cdv ct:Value),bindArgs (PySem.W.fnOf l.name l.qual (cg l.st) (bb l.st) (az l.st) .none kV doc pm an cdv ct) ⟨us,[]⟩=pure (l.ps.zip us))
  (h5:Cb K=true) (h6:B8 K B n=true)
  (h7:(List.range B.nk).all (kB K B fT mT iT)=true) (h8:BK L.length B.nk mT iT=true)
  (hf:∀i f,B.fok i f=(fT.getD i []).contains f) (hm:∀i m,B.mth i m=(mT.getD i []).lookup m) (hi:∀i,B.ini i=iT[i]?)
  (h9:n.kln.zipIdx.all (λp=>PySem.W.nsIn K mainGlobals p.1 == some (some (.ref (B.kls p.2)))&&decide (p.2<B.nk))=true)
  (glo:∀(k:Nat)(x:Str),n.gln[k]?=some x->∃u v,mg x=some u/\RelV v u/\∀H,Den K H (B.glo k) v)
  (xi:∀i f,n.xin.lookup i=some f->B.xin i=some f/\∃fI fd ps,XIni K (B.cls i) fI (fnm f)/\Binds K fd ps []/\∀(P:Program)(w:World)(base:Heap),FnOk P w K mg base (CX1 P w) 1 fI fd ps (iK (cpF f) K (B.cls i) (fnm f)))
  (xn:∀i f,i<B.ne->B.xin i=some f->NoAttr K (B.cls i) (fnm f))
  (hd:∀(f:Nat)(l:FL),L[f]?=some l->l.df≠[]->∀fd,nZ K (B.fad f)=some fd->∃dv,Vals (l.df.map V.int) dv/\∀j,Binds K fd l.ps (dv.drop j)):Top K mg L n B:=by
 unfold Cb at h5;simp only[G9,Hs]at h5;obtain⟨⟨⟨o1,o2⟩,o3⟩,o4⟩:=h5;unfold B8 at h6;rw[G9]at h6;obtain⟨e1,e2⟩:=h6;unfold BK at h8;simp only[G9,Hs]at h8;obtain⟨⟨t1,t2⟩,t3⟩:=h8;have ki:∀i,i<B.nk->kB K B fT mT iT i=true:=λi hi=>iE h7 hi
 refine⟨λl hl=>HC.mp h1 l hl,λf l hl=>?_,λi hi=>?_,λi x hx=>?_,λi hi'=>?_,λi hi'=>?_,λi f hi' hf'=>?_,λi m f hi' hf'=>?_,λi x hx=>?_,glo,λx hx=>?_,o3,xi,xn⟩
 ·have g:=pE h3 hl;unfold fnB at g;simp only[G9]at g;obtain⟨⟨g1,g2⟩,g3⟩:=g;have hz:L.zipIdx[f]?=some (l,f):=by
   rw[List.getElem?_zipIdx,hl];simp
  have e:=congrArg (λz:List (Option FuncData)=>z[f]?) h2
  simp only[HB,hz,Option.map_some,Option.some.injEq]at e;cases hfd:nZ K (B.fad f) with
  |none=>rw[hfd]at g1;cases g1
  |some fd=>
   rw[hfd]at e g1;simp only[Option.map_some,Option.some.injEq]at e;obtain⟨oc,od,sl,lk⟩:=wk hfd;have hb:l.df=[]->∀us:List Value,us.length=l.ps.length->bindArgs fd ⟨us,[]⟩=pure (l.ps.zip us):=λz us hu=>by
    rw[e];unfold fdN;rw[z];exact h4 f l hl us hu _ _ _ _ _ _
   refine⟨fd,⟨⟨oc,od,_,fd.kwdefaults,fd.doc,fd.pyModule,fd.annotations,fd.code,fd.closureTuple,sl,e,lk,g1⟩,g2⟩,λz=>?_,hb,?_⟩
   ·rw[z]at g3;exact PySem.W.mg_of X Gn (Hs.mp (by simpa using g3))
   ·by_cases z:l.df=[]
    ·exact⟨[],by rw[z];exact .nil,λj=>by rw[List.drop_nil];exact .all (hb z)⟩
    ·exact hd f l hl z fd hfd
 ·have g:=iE e1 hi;rw[G9]at g;obtain⟨g1,g2⟩:=g;unfold CT at g1;simp only[G9,Hs]at g1;obtain⟨⟨⟨⟨⟨⟨a1,a2⟩,a3⟩,a4⟩,a5⟩,a6⟩,a7⟩:=g1;refine⟨⟨a1,a2,a3,a4,o1,o2,a5,a6⟩,a7,λj x hx=>?_⟩
  have hj:j<n.exc.length:=(Hr.mp hx).1;have g:=iE g2 hj;rw[G9,Hs]at g;exact g.1
 ·have g:=pE e2 hx;rw[G9,Hs]at g;refine⟨PySem.W.mg_of X Gn g.1,λz=>?_,λj hj=>?_⟩
  ·have g2:=g.2;rw[show n.xin.lookup (x,i).2=none from z]at g2;have g3:PySem.W.excIn K (B.cls i) bmV "ValueError.__new__"=true:=by simpa using g2
   exact g3
  ·have q:=iE e1 hj;rw[G9]at q;have hi:i<n.exc.length:=(Hr.mp hx).1;have g:=iE q.2 hi;rw[G9,Hs,Hs]at g;exact g.2
 ·have g:=ki i hi';unfold kB at g;simp only[G9,Hs]at g;obtain⟨⟨⟨⟨⟨⟨⟨⟨⟨a1,a2⟩,a3⟩,a4⟩,a5⟩,a6⟩,a7⟩,a8⟩,a9⟩,a10⟩:=g;have iI:∀f,B.ini i=some f->PySem.W.makesIn K (B.kls i)=true/\PySem.W.findIn K (.ref (B.kls i)) "__init__"=some (some (.ref (B.fad f)))/\PySem.W.isFn K (.ref (B.fad f))=true/\PySem.W.keepIn K (.ref (B.kls i))=true/\PySem.W.specialIn K (.ref (B.kls i)) "__getattribute__"=some (some (.builtin "type.__getattribute__"))/\PySem.W.readsIn K (B.kls i) (.type "type")=true/\PySem.W.findCls K (.ref (B.kls i)) (.type "type") "__init__"=some (.val (.ref (B.fad f))):=λf hf=>by
   rw[hi i]at hf;rw[hf]at a7;simp only[G9,Hs]at a7;obtain⟨⟨⟨⟨⟨⟨b1,b2⟩,b3⟩,b4⟩,b5⟩,b6⟩,b7⟩:=a7;refine⟨b1,b2,b3,b4,b5,b6,?_⟩;split at b7
   ·rename_i g hg;rw[hg,Hs.mp b7]
   ·cases b7
  refine⟨⟨a1,a2,a3,a4⟩,λf hf'=>?_,λm f hm'=>?_,λf hf'=>?_,λf hf'=>?_,⟨a8,o1,o2,a9⟩,λj hj=>?_⟩
  ·rw[hf i f]at hf';exact Hs.mp (HC.mp a5 f (List.contains_iff_mem.mp hf'))
  ·rw[hm i m]at hm';have q:=HC.mp a6 (m,f) (cU hm');simp only[G9,Hs]at q;exact⟨q.1.1,q.1.2,q.2⟩
  ·obtain⟨b1,b2,b3,b4,_⟩:=iI f hf';exact⟨b1,b2,b3,b4⟩
  ·obtain⟨_,_,_,_,b5,b6,b7⟩:=iI f hf';exact⟨b5,b6,b7⟩
  ·exact Hs.mp (iE a10 hj)
 ·rw[hi i];have:i<iT.length:=by rw[t1];exact hi'
  exact⟨iT[i],Hy this⟩
 ·rw[hi i]at hf';exact Iu (HC.mp t2 f (HL hf'))
 ·rw[hm i m]at hf';have q:=cU hf';by_cases z:i<mT.length
  ·rw[List.getD_eq_getElem?_getD,Hy z]at q;exact Iu (HC.mp (HC.mp t3 _ (Iy z)) _ q)
  ·rw[List.getD_eq_getElem?_getD,List.getElem?_eq_none (by omega)]at q
   cases q
 ·have g:=pE h9 hx;rw[G9,Hs]at g;exact⟨PySem.W.mg_of X Gn g.1,Iu g.2⟩
 ·exact PySem.W.mg_none_of X Gn (Hs.mp (HC.mp o4 x hx))
theorem n1{P:List Value->Prop}(h:∀a,P [a]):∀us:List Value,us.length=1->P us:=usS λa=>us0 (h a)
theorem n2{P:List Value->Prop}(h:∀a b,P [a,b]):∀us:List Value,us.length=2->P us:=usS λa=>usS λb=>us0 (h a b)
theorem n3{P:List Value->Prop}(h:∀a b c,P [a,b,c]):∀us:List Value,us.length=3->P us:=usS λa=>usS λb=>usS λc=>us0 (h a b c)
theorem n4{P:List Value->Prop}(h:∀a b c d,P [a,b,c,d]):∀us:List Value,us.length=4->P us:=usS λa=>usS λb=>usS λc=>usS λd=>us0 (h a b c d)
theorem n5{P:List Value->Prop}(h:∀a b c d e,P [a,b,c,d,e]):∀us:List Value,us.length=5->P us:=usS λa=>usS λb=>usS λc=>usS λd=>usS λe=>us0 (h a b c d e)
end L2
namespace L2
noncomputable def oi:Option Int->D
 |none=>.non
 |some i=>.int i
noncomputable abbrev pr(a b:Option Int):D:=.tup [oi a,oi b]
theorem bh{i j:Int}(h1:0<j)(h2:j<10 ^ 250):fQ i j=True:=by
 refine eq_true ⟨h1,oy ?_⟩;omega
theorem xE{i j:Int}(h1 : -(10 ^ 240)<i)(h2:i<10 ^ 240)(h3 : -(10 ^ 240)<j)(h4:j<10 ^ 240):jV i j=True:=by
 refine eq_true ⟨oy ?_,oy ?_⟩<;>omega
theorem vz{i j:Int}(h1:0<=j)(h2:j<=1000000)(h3:i.natAbs<2 ^ 64):uQ i j=True:=eq_true ⟨h1,h2,h3⟩
theorem rO{α:Type}(a:α)(l:List α):atI (a::l) 0=some a:=by simp[atI,ixN]
theorem rg{α:Type}(a b:α)(l:List α):atI (a::b::l) 1=some b:=cf (j:=1) rfl
theorem rj{α:Type}(a b c:α)(l:List α):atI (a::b::c::l) 2=some c:=cf (j:=2) rfl
theorem tL{α:Type}(a b c d:α)(l:List α):atI (a::b::c::d::l) 3=some d:=cf (j:=3) rfl
end L2
namespace L2
open PySem
section
variable {W:WC}{σ:St3}
@[simp ↓] theorem G6:wpE W (.var 0) (some v::σ) M Q E=Q v M:=rfl
@[simp ↓] theorem GW:wpE W (.var 1) (y0::some v::σ) M Q E=Q v M:=rfl
@[simp ↓] theorem GT:wpE W (.var 2) (y0::y1::some v::σ) M Q E=Q v M:=rfl
@[simp ↓] theorem G3:wpE W (.var 3) (y0::y1::y2::some v::σ) M Q E=Q v M:=rfl
@[simp ↓] theorem GZ:wpE W (.var 4) (y0::y1::y2::y3::some v::σ) M Q E=Q v M:=rfl
@[simp ↓] theorem GS:wpE W (.var 5) (y0::y1::y2::y3::y4::some v::σ) M Q E=Q v M:=rfl
@[simp ↓] theorem GV:wpE W (.var 6) (y0::y1::y2::y3::y4::y5::some v::σ) M Q E=Q v M:=rfl
@[simp ↓] theorem G7:wpE W (.var 7) (y0::y1::y2::y3::y4::y5::y6::some v::σ) M Q E=Q v M:=rfl
@[simp ↓] theorem GU:wpE W (.var 8) (y0::y1::y2::y3::y4::y5::y6::y7::some v::σ) M Q E=Q v M:=rfl
@[simp ↓] theorem GP:wpE W (.var 9) (y0::y1::y2::y3::y4::y5::y6::y7::y8::some v::σ) M Q E=Q v M:=rfl
@[simp ↓] theorem F0:wpE W (.var 10) (y0::y1::y2::y3::y4::y5::y6::y7::y8::y9::some v::σ) M Q E=Q v M:=rfl
@[simp ↓] theorem Bl:wpE W (.var 11) (y0::y1::y2::y3::y4::y5::y6::y7::y8::y9::y10::some v::σ) M Q E=Q v M:=rfl
@[simp ↓] theorem GJ:wpE W (.var 12) (y0::y1::y2::y3::y4::y5::y6::y7::y8::y9::y10::y11::some v::σ) M Q E=Q v M:=rfl
@[simp ↓] theorem GG:wpE W (.var 13) (y0::y1::y2::y3::y4::y5::y6::y7::y8::y9::y10::y11::y12::some v::σ) M Q E=Q v M:=rfl
@[simp ↓] theorem FN:wpE W (.con v) σ M Q E=Q v M:=rfl
@[simp ↓] theorem Gx{op a b}:wpE W (.bin op a b) σ M Q E=wpE W a σ M (λx M1=>wpE W b σ M1 (λy M2=>mG op x y M2 Q) E) E:=rfl
@[simp ↓] theorem GH{a}:wpE W (.neg a) σ M Q E=wpE W a σ M (λx M1=>rNeg x M1 Q) E:=rfl
@[simp ↓] theorem Ge{fz a b}:wpE W (.cat fz a b) σ M Q E=wpE W a σ M (λx M1=>wpE W b σ M1 (λy M2=>dM fz x y M2 Q) E) E:=rfl
@[simp ↓] theorem GM{op a b}:wpE W (.cmp op a b) σ M Q E=wpE W a σ M (λx M1=>wpE W b σ M1 (λy M2=>aq op x y M2 Q) E) E:=rfl
@[simp ↓] theorem D6{op op' a b c}:wpE W (.chain op op' a b c) σ M Q E=wpE W a σ M (λx M1=>wpE W b σ M1 (λy M2=>aq op x y M2 λr M3=>match r with
  |.bl k=>if k=true then wpE W c σ M3 (λz M4=>aq op' y z M4 Q) E else Q (.bl false) M3
  |_=>False) E) E:=rfl
@[simp ↓] theorem GL{a b}:wpE W (.and a b) σ M Q E=wpE W a σ M (λx M1=>match x with
  |.bl c=>if c=true then wpE W b σ M1 Q E else Q (.bl false) M1
  |_=>False) E:=rfl
@[simp ↓] theorem Gf{a}:wpE W (.not a) σ M Q E=wpE W a σ M (λx M1=>match x with
  |.bl c=>Q (.bl (!c)) M1
  |_=>False) E:=rfl
@[simp ↓] theorem GD{c a b}:wpE W (.ifx c a b) σ M Q E=wpT W c σ M (λk M1=>if k=true then wpE W a σ M1 Q E else wpE W b σ M1 Q E) E:=rfl
@[simp ↓] theorem FH{es}:wpE W (.tup es) σ M Q E=wpA W es σ M (λxs M1=>xs.length<=sizeLine/\Q (.tup xs) M1) E:=rfl
@[simp ↓] theorem FK{fz es}:wpE W (.lst fz es) σ M Q E=wpA W es σ M (λxs M1=>cA fz xs M1 Q) E:=rfl
@[simp ↓] theorem Gr{e}:wpE W (.frz e) σ M Q E=wpE W e σ M (aU Q) E:=rfl
@[simp ↓] theorem G2{a b}:wpE W (.ix a b) σ M Q E=wpE W a σ M (λx M1=>wpE W b σ M1 (λy M2=>au x y M2 Q) E) E:=rfl
@[simp ↓] theorem GY{fz a lo hi}:wpE W (.sl fz a lo hi) σ M Q E=wpE W a σ M (λx M1=>wpO W lo σ M1 (λl M2=>wpO W hi σ M2 (λh M3=>gy fz x l h M3 Q) E) E) E:=rfl
@[simp ↓] theorem Em{f es}:wpE W (.call f es) σ M Q E=wpA W es σ M (λxs M1=>W.call f xs M1 Q E) E:=rfl
@[simp ↓] theorem GX{b es}:wpE W (.bi b es) σ M Q E=wpA W es σ M (λxs M1=>rBi b xs M1 Q) E:=rfl
@[simp ↓] theorem GF{e t}:wpE W (.isB e t) σ M Q E=wpE W e σ M (λx M1=>i3 t x M1 Q) E:=rfl
@[simp ↓] theorem F6{e c}:wpE W (.isC e c) σ M Q E=wpE W e σ M (λx M1=>n9 W.ne W.cls (λi=>W.sub i c) x M1 Q) E:=rfl
@[simp ↓] theorem FT{e f}:wpE W (.fld e f) σ M Q E=wpE W e σ M (λx M1=>bY W.toWB f x M1 Q) E:=rfl
@[simp ↓] theorem DS{i es}:wpE W (.make true i es) σ M Q E=wpA W es σ M (λxs M1=>i<W.nk/\dn (W.ini i) λf=>∀p,M1 p=none->W.call f (.ref p::xs) (put M1 p (.ins i (W.kls i) [] [])) (λv M2=>v=.non/\aU Q (.ref p) M2) (λi M'=>E i (L2.del M' p))) E:=rfl
@[simp ↓] theorem D9{i es}:wpE W (.make false i es) σ M Q E=wpA W es σ M (λxs M1=>i<W.nk/\dn (W.ini i) λf=>∀p,M1 p=none->W.call f (.ref p::xs) (put M1 p (.ins i (W.kls i) [] [])) (λv M2=>v=.non/\Q (.ref p) M2) (λi M'=>E i (L2.del M' p))) E:=rfl
@[simp ↓] theorem FF{e m es}:wpE W (.meth e m es) σ M Q E=wpE W e σ M (λx M1=>bz W.toWB m x M1 λf=>wpA W es σ M1 (λxs M2=>W.call f (x::xs) M2 Q E) E) E:=rfl
@[simp ↓] theorem GB{i es}:wpE W (.ini i es) σ M Q E=wpA W es σ M (λxs M1=>i<W.nk/\dn (W.ini i) λf=>W.call f xs M1 Q E) E:=rfl
@[simp ↓] theorem FJ{e j}:wpE W (.isK e j) σ M Q E=wpE W e σ M (λx M1=>ot W.toWB j x M1 Q) E:=rfl
@[simp ↓] theorem FZ{k}:wpE W (.glo k) σ M Q E=Q (W.glo k) M:=rfl
@[simp ↓] theorem GQ{b o es}:wpE W (.bm b o es) σ M Q E=wpE W o σ M (λx M1=>tyB b x M1=true/\wpA W es σ M1 (λxs M2=>rBm b x xs M2 Q) E) E:=rfl
@[simp ↓] theorem Fh{fz a b}:wpE W (.lzip fz a b) σ M Q E=wpE W a σ M (λx M1=>wpE W b σ M1 (λy M2=>rLz fz x y M2 Q) E) E:=rfl
@[simp ↓] theorem FS{fz a b}:wpE W (.rep fz a b) σ M Q E=wpE W a σ M (λx M1=>wpE W b σ M1 (λy M2=>gI fz x y M2 Q) E) E:=rfl
@[simp] theorem AW:ar M M=M:=by
 funext a;unfold ar;split<;>simp_all
@[simp] theorem Dq(h:M p=none):ar M (put M' p o)=ar M M':=by
 funext a;unfold ar put;split
 ·rename_i x e;split
  ·rename_i z;subst z;rw[h]at e;cases e
  ·rfl
 ·rfl
@[simp] theorem cT(h:M p=some u):ar M (put M' p o)=put (ar M M') p o:=by
 funext a;unfold ar put;by_cases z:a=p
 ·subst z;simp[h]
 ·simp[z]
@[simp] theorem DQ:ar (put M p o) (put M' p u)=put (ar M M') p u:=by
 funext a;unfold ar put;by_cases z:a=p
 ·subst z;simp
 ·simp[z]
@[simp ↓] theorem CW:dn (some f) R=R f:=rfl
@[simp ↓] theorem Dv{B:WB}{f i C ns ds}:bY B f (.obj i C ns ds) M Q=((C=B.kls i/\i<B.nk/\B.fok i f=true)/\gx f ns ds M Q):=rfl
@[simp ↓] theorem Be{f n ns d ds}:gx f (n::ns) (d::ds) M Q=if n=f then Q d M else gx f ns ds M Q:=by
 unfold gx;rw[cq];by_cases h:n=f
 ·rw[Hg h,Hg h]
 ·rw[Hc h,Hc h]
@[simp ↓] theorem D4{B:WB}{m i C ns ds}:bz B m (.obj i C ns ds) M R=((C=B.kls i/\i<B.nk/\cq m ns ds=none)/\dn (B.mth i m) R):=rfl
@[simp] theorem AX:cq f [] ds=none:=by unfold cq;rfl
@[simp] theorem yL:cq f (n::ns) (d::ds)=if n=f then some d else cq f ns ds:=by rw[cq]
@[simp ↓] theorem DR{B:WB}{j i C ns ds}:ot B j (.obj i C ns ds) M Q=((C=B.kls i/\i<B.nk/\j<B.nk)/\Q (.bl (B.ksub i j)) M):=rfl
@[simp] theorem AZ:cm f []=[f]:=rfl
@[simp] theorem yo:cm f (n::ns)=if n=f then n::ns else n::cm f ns:=rfl
@[simp] theorem AY:cr f y [] ds=[y]:=by unfold cr;rfl
@[simp] theorem yX:cr f y (n::ns) (d::ds)=if n=f then y::ds else d::cr f y ns ds:=by rw[cr]
@[simp ↓] theorem D7{ds}(h:M a=none):aU Q (.ref a) (put M a (.lst ds))=Q (.rol ds) M:=by
 simp only[aU,af,da h]
@[simp ↓] theorem DY{i C ns ds}(h:M a=none):aU Q (.ref a) (put M a (.ins i C ns ds))=eD ds M (λr M'=>Q (.obj i C ns r) M'):=by
 simp only[aU,af,da h]
@[simp ↓] theorem Ba:eD [] M R=R [] M:=rfl
@[simp ↓] theorem Do{i ds}:eD (.int i::ds) M R=eD ds M (λr M'=>R (.int i::r) M'):=rfl
@[simp ↓] theorem Cv{i ds}:eD (.tup i::ds) M R=eD ds M (λr M'=>R (.tup i::r) M'):=rfl
@[simp ↓] theorem DP{fz ds lo hi}:gy fz (.tup ds) lo hi M Q=(whole ds.length lo hi=false/\Q (.tup (c5 ds lo hi)) M):=rfl
@[simp ↓] theorem mj{ds lo hi}:gy true (.rol ds) lo hi M Q=((c5 ds lo hi).length<=sizeLine/\Q (.rol (c5 ds lo hi)) M):=rfl
@[simp ↓] theorem cat_tup{fz a b}:dM fz (.tup a) (.tup b) M Q=(a.length+b.length<=sizeLine/\Q (.tup (a++b)) M):=rfl
@[simp ↓] theorem Ft{tk}:wpE W (.dnew tk) σ M Q E=∀p,M p=none->Q (.ref p) (put M p (if tk=true then .dt [] [] else .dk [] [])):=rfl
theorem j8{ks ds}(h:M a=some (.dk ks ds)):tyB .get (.ref a) M=true:=by simp[tyB,fN,h]
theorem pM{ks ds}(h:M a=some (.dk ks ds)):rBm .get (.ref a) [.int i,z] M Q=Q ((getD ks ds (.inl i)).getD z) M:=by simp[rBm,iy,fN,h,mP]
theorem gY{ks ds}(h:M a=some (.dk ks ds)):bJ (.ref a) (.int i) y M R=(ks.length<sizeLine/\R (put M a (.dk (aj ks (.inl i)) (am ks ds (.inl i) y)))):=by simp[bJ,h,mP]
theorem fy{ds}(h:M a=some (.lst ds))(hj:ixN ds.length i=some j):bJ (.ref a) (.int i) y M R=R (put M a (.lst (ds.set j y))):=by simp[bJ,h,hj]
theorem cu[DecidableEq κ]:∀{ks:List κ}{ds:List D}{k x:κ}{y:D},ks.length=ds.length->getD (aj ks k) (am ks ds k y) x=if k=x then some y else getD ks ds x
 |[],ds,k,x,y,_=>by
  simp only[aj,am];by_cases h:k=x
  ·simp[getD,h]
  ·cases ds<;>simp[getD,h]
 |k'::ks,[],k,x,y,h=>by simp at h
 |k'::ks,d::ds,k,x,y,h=>by
  simp only[aj,am];have hl:ks.length=ds.length:=by simpa using h
  by_cases e:k'=k
  ·subst e;by_cases h2:k'=x<;>simp[getD,h2]
  ·simp only[Hc e,getD];by_cases h2:k'=x
   ·subst h2;rw[Hg rfl,Hc (He e),Hg rfl]
   ·rw[Hc h2,Hc h2];exact cu hl
theorem bU[DecidableEq κ]:∀{ks:List κ}{ds:List D}{k:κ}{y:D},ks.length=ds.length->(aj ks k).length=(am ks ds k y).length
 |[],ds,k,y,_=>by simp[aj,am]
 |k'::ks,[],k,y,h=>by simp at h
 |k'::ks,d::ds,k,y,h=>by
  have hl:ks.length=ds.length:=by simpa using h
  simp only[aj,am];by_cases e:k'=k
  ·simp[e,hl]
  ·simp only[Hc e,HA];rw[bU (k:=k) (y:=y) hl]
@[simp ↓] theorem yS{ne:Nat}{cls:Nat->Addr}{r:Nat->Bool}{a:Addr}{c:Nat}{pl:Option (Nat×D)}:n9 ne cls r (.ref a) (put M a (.exc ⟨c,pl⟩ (.ref (cls c)))) Q=(c<ne/\Q (.bl (r c)) (put M a (.exc ⟨c,pl⟩ (.ref (cls c))))):=by
 simp[n9,af]
@[simp ↓] theorem DH{c body r i De}:wpH W (.cons c none body r) i De σ M=(i.c<W.ne/\if W.sub i.c c=true then aO W body De (λ_ _ _=>False) σ M else wpH W r i De σ M):=rfl
@[simp ↓] theorem DC{c j body r i De}:wpH W (.cons c (some j) body r) i De σ M=(i.c<W.ne/\if W.sub i.c c=true then (∀a,M a=none->aO W body (nu De j) (λ_ _ _=>False) (σ.set j (some (.ref a))) (put M a (.exc i (.ref (W.cls i.c))))) else wpH W r i De σ M):=rfl
def iV(W:WC)(tg:ITg)(cond:ITO)(elt:IE)(S:MH->Prop)(p:Addr)(Q:VK3):List D->List D->St3->MH->Prop:=dX (wpG tg) (λσ M Q=>gO W cond σ M Q (λ_ _=>False)) (λσ M Q=>wpE W elt σ M Q (λ_ _=>False)) S p Q
def fS(W:WC)(tg:ITg)(cond:ITO)(elt:IE)(S:MH->Prop)(Q:VK3)(ds:List D)(σ:St3)(M:MH):Prop:=∀p,M p=none->iV W tg cond elt S p (gA Q) ds [] σ (put M p (.lst []))
@[simp ↓] theorem Dy{N js tg it cond elt}:wpE W (.comp true N js tg it cond elt) σ M Q E=wpI W it σ M (λds S M1=>fS W tg cond elt S Q ds (ao js σ) M1) E:=rfl
@[simp ↓] theorem D8{N js tg it cond elt}:wpE W (.comp false N js tg it cond elt) σ M Q E=wpI W it σ M (λds S M1=>∀p,M1 p=none->iV W tg cond elt S p Q ds [] (ao js σ) (put M1 p (.lst []))) E:=rfl
@[simp ↓] theorem EN{e}:wpT W (.val e) σ M QB E=wpE W e σ M (λx M1=>match x with
  |.bl k=>QB k M1
  |_=>False) E:=rfl
@[simp ↓] theorem Fe{op a b}:wpT W (.cmp op a b) σ M QB E=wpE W a σ M (λx M1=>wpE W b σ M1 (λy M2=>aq op x y M2 λr M3=>match r with
  |.bl k=>QB k M3
  |_=>False) E) E:=rfl
@[simp ↓] theorem gf{a b}:wpT W (.and a b) σ M QB E=wpT W a σ M (λc M1=>if c=true then wpT W b σ M1 QB E else QB false M1) E:=rfl
@[simp ↓] theorem p8{a b}:wpT W (.or a b) σ M QB E=wpT W a σ M (λc M1=>if c=true then QB true M1 else wpT W b σ M1 QB E) E:=rfl
@[simp ↓] theorem E1{a}:wpT W (.not a) σ M QB E=wpT W a σ M (λc M1=>QB (!c) M1) E:=rfl
@[simp ↓] theorem Ff:wpA W .nil σ M QL E=QL [] M:=rfl
@[simp ↓] theorem DM{e r}:wpA W (.cons e r) σ M QL E=wpE W e σ M (λx M1=>wpA W r σ M1 (λxs M2=>QL (x::xs) M2) E) E:=rfl
@[simp ↓] theorem FM:wpO W .no σ M QO E=QO none M:=rfl
@[simp ↓] theorem E4{e}:wpO W (.yes e) σ M QO E=wpE W e σ M (λx M1=>match x with
  |.int i=>QO (some i) M1
  |_=>False) E:=rfl
@[simp ↓] theorem EE{e}:gO W (.yes e) σ M QB E=wpT W e σ M QB E:=rfl
def mK(R:List D->(MH->Prop)->MH->Prop):VK3:=λx M1=>match x with
  |.tup ds=>R ds (λ_=>True) M1
  |.rol ds=>R ds (λ_=>True) M1
  |.ref a=>match M1 a with
   |some (.lst ds)=>R ds (λM=>M a=some (.lst ds)) M1
   |_=>False
  |.str z=>R (iM z) (λ_=>True) M1
  |_=>False
@[simp ↓] theorem Dp{ds}:mK R (.tup ds) M=R ds (λ_=>True) M:=rfl
@[simp ↓] theorem CJ{ds}:mK R (.rol ds) M=R ds (λ_=>True) M:=rfl
theorem eO{a ds}(h:M a=some (.lst ds)):mK R (.ref a) M=R ds (λM=>M a=some (.lst ds)) M:=by
 unfold mK;simp only[h]
@[simp ↓] theorem EV{e}:wpI W (.seq e) σ M R E=wpE W e σ M (mK R) E:=rfl
@[simp ↓] theorem DJ{a}:wpI W (.enum a) σ M R E=wpE W a σ M (λx M1=>match x with
  |.rol ds=>R (cH 0 ds) (λ_=>True) M1
  |.ref a=>match M1 a with
   |some (.lst ds)=>R (cH 0 ds) (λM=>M a=some (.lst ds)) M1
   |_=>False
  |_=>False) E:=rfl
@[simp ↓] theorem DV{a}:wpI W (.revd a) σ M R E=wpE W a σ M (λx M1=>match x with
  |.rol ds=>R ds.reverse (λ_=>True) M1
  |_=>False) E:=rfl
@[simp ↓] theorem DF{a}:wpI W (.vals a) σ M R E=wpE W a σ M (λx M1=>match x with
  |.dik ks ds=>R ds (λ_=>True) M1
  |_=>False) E:=rfl
@[simp ↓] theorem Ec{a b}:wpI W (.zip a b) σ M R E=wpE W a σ M (λx M1=>wpE W b σ M1 (λy M2=>rLs x M2 λxs S=>rLs y M2 λys S'=>R (eA xs ys) (λM=>S M/\S' M) M2) E) E:=rfl
@[simp] theorem EI{k}:rLs (.rol xs) M k=k xs λ_=>True:=rfl
@[simp ↓] theorem DT{a}:wpI W (.rng1 a) σ M R E=wpE W a σ M (λx M1=>match x with
  |.int j=>-(2 ^ 62)<=j/\j<2 ^ 62/\R (rng 0 j.toNat) (λ_=>True) M1
  |_=>False) E:=rfl
end
section
variable {W:WC}{σ:St3}{De:Ends3}{x:Option D}
@[simp ↓] theorem G5{i}:wpS W (.del i) De ES σ M=(match σ[i]? with
  |some (some x)=>aU (λy M'=>De.nx (σ.set i (some y)) M') x M
  |_=>False):=rfl
@[simp ↓] theorem yU:aO W .nil De ES σ M=De.nx σ M:=rfl
@[simp ↓] theorem xf{s r}:aO W (.cons s r) De ES (x::σ) M=wpS W s {De with nx:=λσ' M'=>aO W r De ES σ' M'} ES (x::σ) M:=rfl
@[simp ↓] theorem EA{e}:wpS W (.set 1 e) De ES (y0::x::σ) M=wpE W e (y0::x::σ) M (λv M1=>De.nx (y0::some v::σ) M1) (ES (y0::x::σ)):=rfl
@[simp ↓] theorem Eu{e}:wpS W (.set 2 e) De ES (y0::y1::x::σ) M=wpE W e (y0::y1::x::σ) M (λv M1=>De.nx (y0::y1::some v::σ) M1) (ES (y0::y1::x::σ)):=rfl
@[simp ↓] theorem Fw{e}:wpS W (.set 3 e) De ES (y0::y1::y2::x::σ) M=wpE W e (y0::y1::y2::x::σ) M (λv M1=>De.nx (y0::y1::y2::some v::σ) M1) (ES (y0::y1::y2::x::σ)):=rfl
@[simp ↓] theorem Ef{e}:wpS W (.set 4 e) De ES (y0::y1::y2::y3::x::σ) M=wpE W e (y0::y1::y2::y3::x::σ) M (λv M1=>De.nx (y0::y1::y2::y3::some v::σ) M1) (ES (y0::y1::y2::y3::x::σ)):=rfl
@[simp ↓] theorem Fl{e}:wpS W (.set 5 e) De ES (y0::y1::y2::y3::y4::x::σ) M=wpE W e (y0::y1::y2::y3::y4::x::σ) M (λv M1=>De.nx (y0::y1::y2::y3::y4::some v::σ) M1) (ES (y0::y1::y2::y3::y4::x::σ)):=rfl
@[simp ↓] theorem Fo{e}:wpS W (.set 6 e) De ES (y0::y1::y2::y3::y4::y5::x::σ) M=wpE W e (y0::y1::y2::y3::y4::y5::x::σ) M (λv M1=>De.nx (y0::y1::y2::y3::y4::y5::some v::σ) M1) (ES (y0::y1::y2::y3::y4::y5::x::σ)):=rfl
@[simp ↓] theorem EO{e}:wpS W (.set 7 e) De ES (y0::y1::y2::y3::y4::y5::y6::x::σ) M=wpE W e (y0::y1::y2::y3::y4::y5::y6::x::σ) M (λv M1=>De.nx (y0::y1::y2::y3::y4::y5::y6::some v::σ) M1) (ES (y0::y1::y2::y3::y4::y5::y6::x::σ)):=rfl
@[simp ↓] theorem Eo{e}:wpS W (.set 8 e) De ES (y0::y1::y2::y3::y4::y5::y6::y7::x::σ) M=wpE W e (y0::y1::y2::y3::y4::y5::y6::y7::x::σ) M (λv M1=>De.nx (y0::y1::y2::y3::y4::y5::y6::y7::some v::σ) M1) (ES (y0::y1::y2::y3::y4::y5::y6::y7::x::σ)):=rfl
@[simp ↓] theorem Fg{e}:wpS W (.set 9 e) De ES (y0::y1::y2::y3::y4::y5::y6::y7::y8::x::σ) M=wpE W e (y0::y1::y2::y3::y4::y5::y6::y7::y8::x::σ) M (λv M1=>De.nx (y0::y1::y2::y3::y4::y5::y6::y7::y8::some v::σ) M1) (ES (y0::y1::y2::y3::y4::y5::y6::y7::y8::x::σ)):=rfl
@[simp ↓] theorem DG{e}:wpS W (.set 10 e) De ES (y0::y1::y2::y3::y4::y5::y6::y7::y8::y9::x::σ) M=wpE W e (y0::y1::y2::y3::y4::y5::y6::y7::y8::y9::x::σ) M (λv M1=>De.nx (y0::y1::y2::y3::y4::y5::y6::y7::y8::y9::some v::σ) M1) (ES (y0::y1::y2::y3::y4::y5::y6::y7::y8::y9::x::σ)):=rfl
@[simp ↓] theorem DI{e}:wpS W (.set 11 e) De ES (y0::y1::y2::y3::y4::y5::y6::y7::y8::y9::y10::x::σ) M=wpE W e (y0::y1::y2::y3::y4::y5::y6::y7::y8::y9::y10::x::σ) M (λv M1=>De.nx (y0::y1::y2::y3::y4::y5::y6::y7::y8::y9::y10::some v::σ) M1) (ES (y0::y1::y2::y3::y4::y5::y6::y7::y8::y9::y10::x::σ)):=rfl
@[simp ↓] theorem Dz{e}:wpS W (.set 12 e) De ES (y0::y1::y2::y3::y4::y5::y6::y7::y8::y9::y10::y11::x::σ) M=wpE W e (y0::y1::y2::y3::y4::y5::y6::y7::y8::y9::y10::y11::x::σ) M (λv M1=>De.nx (y0::y1::y2::y3::y4::y5::y6::y7::y8::y9::y10::y11::some v::σ) M1) (ES (y0::y1::y2::y3::y4::y5::y6::y7::y8::y9::y10::y11::x::σ)):=rfl
@[simp ↓] theorem DK{e}:wpS W (.set 13 e) De ES (y0::y1::y2::y3::y4::y5::y6::y7::y8::y9::y10::y11::y12::x::σ) M=wpE W e (y0::y1::y2::y3::y4::y5::y6::y7::y8::y9::y10::y11::y12::x::σ) M (λv M1=>De.nx (y0::y1::y2::y3::y4::y5::y6::y7::y8::y9::y10::y11::y12::some v::σ) M1) (ES (y0::y1::y2::y3::y4::y5::y6::y7::y8::y9::y10::y11::y12::x::σ)):=rfl
@[simp ↓] theorem DW{j}:(nu De j).nx σ M=De.nx (σ.set j none) M:=rfl
def eI(B:WB)(f:Nat)(y:D)(R:MH->Prop):VK3:=λx M2=>match x with
  |.ref a=>match M2 a with
   |some (.ins i C ns ds)=>(C=B.kls i/\i<B.nk/\B.fok i f=true/\ns.length<1000)/\R (put M2 a (.ins i C (cm f ns) (cr f y ns ds)))
   |_=>False
  |_=>False
@[simp ↓] theorem BZ{B:WB}{i C ns ds}:eI B f y R (.ref a) (put M a (.ins i C ns ds))=((C=B.kls i/\i<B.nk/\B.fok i f=true/\ns.length<1000)/\R (put M a (.ins i C (cm f ns) (cr f y ns ds)))):=by
 simp[eI,af,bP]
def vy(is:List Nat)(σ:St3)(k:St3->MH->Prop):VK3:=λx M1=>match x with
  |.tup ds=>ds.length=is.length/\k ((is.zip ds).foldl (λσ p=>σ.set p.1 (some p.2)) σ) M1
  |_=>False
@[simp ↓] theorem vp{i j a b k}:vy [i,j] σ k (.tup [a,b]) M=k ((σ.set i (some a)).set j (some b)) M:=by
 simp[vy]
@[simp ↓] theorem DU{e}:wpS W (.expr e) De ES σ M=wpE W e σ M (λ_ M1=>De.nx σ M1) (ES σ):=rfl
@[simp ↓] theorem EJ{e}:wpS W (.ret e) De ES σ M=wpE W e σ M De.rt (ES σ):=rfl
@[simp ↓] theorem DD:wpS W .dead De ES σ M=False:=rfl
@[simp ↓] theorem DL{o f e}:wpS W (.fset o f e) De ES σ M=wpE W e σ M (λy M1=>wpE W o σ M1 (eI W.toWB f y (De.nx σ)) (ES σ)) (ES σ):=rfl
@[simp ↓] theorem Cf{o i e}:wpS W (.ixset o i e) De ES σ M=wpE W e σ M (λy M1=>wpE W o σ M1 (λx M2=>wpE W i σ M2 (λk M3=>bJ x k y M3 λM4=>De.nx σ M4) (ES σ)) (ES σ)) (ES σ):=rfl
@[simp ↓] theorem Fk{c a b}:wpS W (.ifs c a b) De ES σ M=wpT W c σ M (λk M1=>if k=true then aO W a De ES σ M1 else aO W b De ES σ M1) (ES σ):=rfl
def aY(W:WC)(tg:ITg)(body:ISs)(ES:St3->XN)(S:MH->Prop)(De:Ends3):List D->St3->MH->Prop:=jX (wpG tg) (λD σ M=>aO W body D ES σ M) S De
@[simp ↓] theorem Fb{tg it body}:wpS W (.for_ tg it body) De ES σ M=wpI W it σ M (λds S M1=>aY W tg body ES S De ds σ M1) (ES σ):=rfl
theorem aX{tg body S}:aY W tg body ES S De [] σ M=(S M/\De.nx σ M):=rfl
theorem av{tg body S d r}:aY W tg body ES S De (d::r) σ M=(S M/\wpG tg d σ M λσ2 M2=>aO W body {De with nx:=aY W tg body ES S De r,ct:=aY W tg body ES S De r,bk:=De.nx} ES σ2 M2):=rfl
@[simp ↓] theorem CZ{c es}:wpS W (.raise c es) De ES σ M=wpA W es σ M (λxs M1=>xs.length<=sizeLine/\ES σ ⟨c,none⟩ M1) (ES σ):=rfl
@[simp ↓] theorem A0{c e}:wpS W (.raiseI c (.cons e .nil)) De ES σ M=wpE W e σ M (λy M1=>dn (W.xin c) λf=>rXp f y M1 λy'=>ES σ ⟨c,some (f,y')⟩ M1) (ES σ):=rfl
@[simp ↓] theorem Fd{body hs}:wpS W (.try_ body hs) De ES σ M=aO W body De (λσ' i M'=>wpH W hs i De σ' M') σ M:=rfl
def uA(W:WC)(e:IE)(De:Ends3)(E:XN)(σ:St3):VK3:=λx M1=>match x with
  |.ref a=>match M1 a with
   |some (.lst _)=>wpE W e σ M1 (λy M2=>match M2 a with
    |some (.lst ds)=>ds.length<sizeLine/\De.nx σ (put M2 a (.lst (ds++[y])))
    |_=>False) E
   |_=>False
  |_=>False
@[simp ↓] theorem z9{o e}:wpS W (.app o e) De ES σ M=wpE W o σ M (uA W e De (ES σ) σ) (ES σ):=rfl
def lA(p:Addr)(De:Ends3)(σ:St3):VK3:=λy M2=>match M2 p with
    |some (.lst ds)=>ds.length<sizeLine/\De.nx σ (put M2 p (.lst (ds++[y])))
    |_=>False
@[simp ↓] theorem DZ{e E p ds}:uA W e De E σ (.ref p) (put M p (.lst ds))=wpE W e σ (put M p (.lst ds)) (lA p De σ) E:=by
 unfold uA;simp only[af];rfl
@[simp ↓] theorem C0{p ds y}:lA p De σ y (put M p (.lst ds))=(ds.length<sizeLine/\De.nx σ (put M p (.lst (ds++[y])))):=by
 unfold lA;simp only[af,bP]
@[simp ↓] theorem qB{i d k}:wpG (.name i) d σ M k=k (σ.set i (some d)) M:=rfl
@[simp ↓] theorem Am{is d k}:wpG (.tup is) d σ M k=vy is σ k d M:=rfl
end
section
variable {i j:Int}{x:D}
@[simp ↓] theorem Gz:mG .Add (.int i) (.int j) M Q=Q (.int (i+j)) M:=rfl
@[simp ↓] theorem FX:mG .Sub (.int i) (.int j) M Q=Q (.int (i-j)) M:=rfl
@[simp ↓] theorem FR:mG .Mult (.int i) (.int j) M Q=(jV i j/\Q (.int (i*j)) M):=rfl
@[simp ↓] theorem FY:mG .FloorDiv (.int i) (.int j) M Q=(fQ i j/\Q (.int (i / j)) M):=rfl
@[simp ↓] theorem FV:mG .Mod (.int i) (.int j) M Q=(0<j/\Q (.int (i % j)) M):=rfl
@[simp ↓] theorem F7:mG .Pow (.int i) (.int j) M Q=(uQ i j/\Q (.int (i ^ j.toNat)) M):=rfl
@[simp ↓] theorem F8:rNeg (.int i) M Q=Q (.int (-i)) M:=rfl
@[simp ↓] theorem G4:aq .Lt (.int i) (.int j) M Q=Q (.bl (decide (i<j))) M:=rfl
@[simp ↓] theorem GO:aq .LtE (.int i) (.int j) M Q=Q (.bl (decide (i<=j))) M:=rfl
@[simp ↓] theorem GN:aq .Gt (.int i) (.int j) M Q=Q (.bl (decide (j<i))) M:=rfl
@[simp ↓] theorem FP:aq .Eq (.int i) (.int j) M Q=Q (.bl (decide (i=j))) M:=by simp[aq,cK,rs,ai,plN,eqD]
@[simp ↓] theorem GK:aq .NotEq (.int i) (.int j) M Q=Q (.bl (!decide (i=j))) M:=by simp[aq,cK,rs,ai,plN,eqD]
@[simp ↓] theorem F5:aq .Eq (.str s) (.str t) M Q=Q (.bl (decide (s=t))) M:=by simp[aq,cK,rs,ai,plN,eqD]
@[simp ↓] theorem Gb:aq .Is x .non M Q=Q (.bl x.isN) M:=by simp[aq,qT]
@[simp ↓] theorem EU:aq .IsNot x .non M Q=Q (.bl (!x.isN)) M:=by simp[aq,qT]
@[simp] theorem DN:(D.int i).isN=false:=rfl
@[simp] theorem Dw:D.non.isN=true:=rfl
@[simp ↓] theorem Gu{d l}:au (.tup (d::l)) (.int 0) M Q=Q d M:=by simp[au,aD,rO]
@[simp ↓] theorem GI{d e l}:au (.tup (d::e::l)) (.int 1) M Q=Q e M:=by simp[au,aD,rg]
@[simp ↓] theorem Gc{d e f l}:au (.tup (d::e::f::l)) (.int 2) M Q=Q f M:=by simp[au,aD,rj]
@[simp ↓] theorem F9{d e f g l}:au (.tup (d::e::f::g::l)) (.int 3) M Q=Q g M:=by simp[au,aD,tL]
@[simp ↓] theorem Gj{d e f g h l}:au (.tup (d::e::f::g::h::l)) (.int 4) M Q=Q h M:=by
 have:atI (d::e::f::g::h::l) 4=some h:=cf (j:=4) rfl;simp[au,aD,this]
theorem hZ{ds y}(h:M a=some (.lst ds)):au (.ref a) y M Q=au (.rol ds) y M Q:=by
 cases y<;>simp[au,aD,ai,h]
@[simp ↓] theorem Bp{ds}:rBi (.list true) [.rol ds] M Q=(ds.length<=sizeLine/\Q (.rol ds) M):=rfl
@[simp ↓] theorem Gh{d l}:au (.rol (d::l)) (.int 0) M Q=Q d M:=by simp[au,aD,ai,rO]
@[simp ↓] theorem Gw{d e l}:au (.rol (d::e::l)) (.int 1) M Q=Q e M:=by simp[au,aD,ai,rg]
@[simp ↓] theorem FI{d e f l}:au (.rol (d::e::f::l)) (.int 2) M Q=Q f M:=by simp[au,aD,ai,rj]
@[simp ↓] theorem GC{d e f g l}:au (.rol (d::e::f::g::l)) (.int 3) M Q=Q g M:=by simp[au,aD,ai,tL]
@[simp ↓] theorem D1{ds}:rBi .len [.tup ds] M Q=Q (.int ds.length) M:=rfl
@[simp ↓] theorem D0{ds}:rBi .len [.rol ds] M Q=Q (.int ds.length) M:=rfl
@[simp ↓] theorem Eb:rBi .max [.int i,.int j] M Q=Q (.int (if j > i then j else i)) M:=rfl
@[simp ↓] theorem F4{ds}:cA true ds M Q=(ds.length<=sizeLine/\Q (.rol ds) M):=by simp[cA]
@[simp ↓] theorem E7{ds es}:dM true (.rol ds) (.rol es) M Q=((ds++es).length<=sizeLine/\Q (.rol (ds++es)) M):=by simp[dM,ai,cA]
@[simp ↓] theorem Gp{ds}:cA false ds M Q=(ds.length<=sizeLine/\∀p,M p=none->Q (.ref p) (put M p (.lst ds))):=by simp[cA]
theorem aH(h:n<=1000):(n<=sizeLine)=True:=eq_true (Hw h (by decide))
@[simp ↓] theorem Du{t}:i3 t (.int i) M Q=Q (.bl (match t with|.int=>true|_=>false)) M:=rfl
@[simp ↓] theorem D5{t ds}:i3 t (.tup ds) M Q=Q (.bl (match t with|.tuple=>true|_=>false)) M:=rfl
end
section
variable {W:WC}{tg:ITg}{cond:ITO}{elt:IE}{p:Addr}{Q:VK3}{σ:St3}{M:MH}{ys:List D}
@[simp ↓] theorem Dx{ds}:gA Q (.ref p) (put M p (.lst ds))=Q (.rol ds) (L2.del (put M p (.lst ds)) p):=by
 simp only[gA,af]
def Fm(M:MH):Prop:=∃n,∀p,n<=p->M p=none
theorem Fm.nil:Fm (λ_=>none):=⟨0,λ_ _=>rfl⟩
theorem qW{M:MH}(h:Fm M){p:Prop}:(∀a:Addr,M a=none->p)=p:=propext ⟨λf=>let ⟨n,k⟩:=h;f n (k n (Hh _)),λf _ _=>f⟩
theorem Fm.put{M:MH}(h:Fm M)(p:Addr)(o:DO):Fm (put M p o):=by
 obtain⟨n,h⟩:=h;refine⟨max n (p+1),λq hq=>?_⟩
 rw[ah (Nat.ne_of_gt (Nat.lt_of_succ_le (Hw (Nat.le_max_right n (p+1)) hq)))];exact h q (Hw (Nat.le_max_left _ _) hq)
theorem aw{M:MH}(hM:Fm M){P:Addr->Prop}{q:Prop}(h:∀p,M p=none->P p=q):(∀p,M p=none->P p)=q:=by
 rw[<-qW hM (p:=q)];exact forall_congr λp=>implies_congr_ctx rfl λhp=>h p hp
theorem Bu{cs:List Int}(h1 : -(cs.length:Int)<=i)(h2:i<cs.length):∃x,atI (cs.map D.int) i=some (.int x):=by
 unfold atI ixN;rw[Hm];by_cases h:0<=i
 ·have hk:i.toNat<cs.length:=by omega
  rw[Hg h,Hg h2];exact⟨cs[i.toNat],by simp[Hy hk]⟩
 ·have hk:(i+cs.length).toNat<cs.length:=by omega
  rw[Hc h,Hg h1];exact⟨cs[(i+cs.length).toNat],by simp[Hy hk]⟩
theorem bS(h:atI ds i=some x):au (.rol ds) (.int i) M Q=Q x M:=by simp[au,aD,ai,h]
theorem aG(h:put M p o q=none):q≠p/\M q=none:=by
 unfold put at h;split at h
 ·cases h
 ·exact⟨by assumption,h⟩
def Ext(M M':MH):Prop:=Fm M'/\∀a o,M a=some o->M' a=some o
theorem Ext.put{M:MH}(hM:Fm M){p:Addr}(h:M p=none)(o:DO):Ext M (put M p o):=⟨hM.put _ _,λa u e=>by rw[ah (λz=>by rw[z,h]at e;cases e)];exact e⟩
section
variable {W:WC}{σ:St3}{M:MH}{Q:VK3}{tg:ITg}{cond:ITO}{elt:IE}{p:Addr}{S:MH->Prop}
theorem rX{ys:List D}(hp:M p=none)(hS:S (put M p (.lst ys))):iV W tg cond elt S p (gA Q) [] ys σ (put M p (.lst ys))=Q (.rol ys) M:=by
 show (S (put M p (.lst ys))/\gA Q (.ref p) (put M p (.lst ys)))=_;simp[gA,af,hS,da hp]
theorem jJ{d:D}{r ys:List D}:iV W tg cond elt S p Q (d::r) ys σ M=(S M/\ys.length<sizeLine/\wpG tg d σ M λσ2 M2=>gO W cond σ2 M2 (λb M3=>if b=true then wpE W elt σ2 M3 (λy M4=>M4 p=some (.lst ys)/\iV W tg cond elt S p Q r (ys++[y]) σ2 (put M4 p (.lst (ys++[y])))) (λ_ _=>False) else iV W tg cond elt S p Q r ys σ2 M3) (λ_ _=>False)):=rfl
theorem dN(P:St3->Prop)(st:D->St3)(c:D->Bool)(f:D->D):∀(ds ys:List D)(σ:St3) {M:MH},P σ->Fm M->M p=none->ys.length+ds.length<sizeLine->(∀M',Ext M M'->S M')->
  (∀d∈ds,P (st d)/\∀σ,P σ->∀(M:MH)(k:St3->MH->Prop),wpG tg d σ M k=k (st d) M)->
  (∀d∈ds,∀M',Ext M M'->∀Q:Bool->MH->Prop,gO W cond (st d) M' Q (λ_ _=>False)=Q (c d) M')->
  (∀d∈ds,c d=true->∀M',Ext M M'->∀Q,wpE W elt (st d) M' Q (λ_ _=>False)=Q (f d) M')->
  iV W tg cond elt S p Q ds ys σ (put M p (.lst ys))=Q (.ref p) (put M p (.lst (ys++(ds.filter c).map f)))
 |[],ys,σ,M,h0,hM,hp,hl,hS,hg,hc,he=>by
  show (S (put M p (.lst ys))/\Q (.ref p) (put M p (.lst ys)))=_;simp[hS _ (.put hM hp _)]
 |d::ds,ys,σ,M,h0,hM,hp,hl,hS,hg,hc,he=>by
  have hl':ys.length+(ds.length+1)<sizeLine:=hl;obtain⟨g1,g2⟩:=hg d Hf;rw[jJ,g2 σ h0,hc d Hf _ (.put hM hp _),eq_true (hS _ (.put hM hp _)),true_and];cases q:c d with
  |true=>
   rw[Hg rfl,he d Hf q _ (.put hM hp _),af,bP];rw[dN P st c f ds (ys++[f d]) (st d) g1 hM hp (by rw[HJ,List.length_singleton];omega) hS (λe h=>hg e (Hb _ h)) (λe h=>hc e (Hb _ h)) (λe h=>he e (Hb _ h))]
   simp only[List.filter_cons,q,if_true,Hl,List.append_assoc,List.singleton_append,true_and];rw[eq_true (show ys.length<sizeLine by omega),true_and]
  |false=>
   rw[Hc Hq];rw[dN P st c f ds ys (st d) g1 hM hp (by omega) hS (λe h=>hg e (Hb _ h)) (λe h=>hc e (Hb _ h)) (λe h=>he e (Hb _ h))]
   simp only[List.filter_cons,q,HE,if_false];rw[eq_true (show ys.length<sizeLine by omega),true_and]
theorem kf(P:St3->Prop)(st:D->St3)(c:D->Bool)(f:D->D):∀(ds ys:List D)(σ:St3) {M:MH},P σ->Fm M->M p=none->ys.length+ds.length<sizeLine->(∀M',Ext M M'->S M')->
  (∀d∈ds,P (st d)/\∀σ,P σ->∀(M:MH)(k:St3->MH->Prop),wpG tg d σ M k=k (st d) M)->
  (∀d∈ds,∀M',Ext M M'->∀Q:Bool->MH->Prop,gO W cond (st d) M' Q (λ_ _=>False)=Q (c d) M')->
  (∀d∈ds,c d=true->∀M',Ext M M'->∀Q,wpE W elt (st d) M' Q (λ_ _=>False)=Q (f d) M')->
  iV W tg cond elt S p (gA Q) ds ys σ (put M p (.lst ys))=Q (.rol (ys++(ds.filter c).map f)) M
 |[],ys,σ,M,h0,hM,hp,hl,hS,hg,hc,he=>by rw[rX hp (hS _ (.put hM hp _))];simp
 |d::ds,ys,σ,M,h0,hM,hp,hl,hS,hg,hc,he=>by
  have hl':ys.length+(ds.length+1)<sizeLine:=hl;obtain⟨g1,g2⟩:=hg d Hf;rw[jJ,g2 σ h0,hc d Hf _ (.put hM hp _),eq_true (hS _ (.put hM hp _)),true_and];cases q:c d with
  |true=>
   rw[Hg rfl,he d Hf q _ (.put hM hp _),af,bP];rw[kf P st c f ds (ys++[f d]) (st d) g1 hM hp (by rw[HJ,List.length_singleton];omega) hS (λe h=>hg e (Hb _ h)) (λe h=>hc e (Hb _ h)) (λe h=>he e (Hb _ h))]
   simp only[List.filter_cons,q,if_true,Hl,List.append_assoc,List.singleton_append,true_and];rw[eq_true (show ys.length<sizeLine by omega),true_and]
  |false=>
   rw[Hc Hq];rw[kf P st c f ds ys (st d) g1 hM hp (by omega) hS (λe h=>hg e (Hb _ h)) (λe h=>hc e (Hb _ h)) (λe h=>he e (Hb _ h))]
   simp only[List.filter_cons,q,HE,if_false];rw[eq_true (show ys.length<sizeLine by omega),true_and]
theorem dF{ds:List D}(P:St3->Prop)(st:D->St3)(c:D->Bool)(f:D->D)(h0:P σ)(hM:Fm M)(hl:ds.length<10000)
  (hg:∀d∈ds,P (st d)/\∀σ,P σ->∀(M:MH)(k:St3->MH->Prop),wpG tg d σ M k=k (st d) M)
  (hc:∀d∈ds,∀M',Ext M M'->∀Q:Bool->MH->Prop,gO W cond (st d) M' Q (λ_ _=>False)=Q (c d) M')
  (he:∀d∈ds,c d=true->∀M',Ext M M'->∀Q,wpE W elt (st d) M' Q (λ_ _=>False)=Q (f d) M') (hS:∀M',Ext M M'->S M':=by exact λ_ _=>trivial) :
  fS W tg cond elt S Q ds σ M=Q (.rol ((ds.filter c).map f)) M:=by
 have hl':([]:List D).length+ds.length<sizeLine:=by rw[List.length_nil,Nat.zero_add];exact Nat.lt_trans hl (by decide)
 exact aw hM λp hp=>by
  rw[kf P st c f ds [] σ h0 hM hp hl' hS hg hc he];simp
theorem cN{ax:St3}{x:Option D}{ds:List D}(c:D->Bool)(f:D->D)(hM:Fm M)(hl:ds.length<10000)
  (hc:∀d∈ds,∀M',Ext M M'->∀Q:Bool->MH->Prop,gO W cond (some d::ax) M' Q (λ_ _=>False)=Q (c d) M')
  (he:∀d∈ds,c d=true->∀M',Ext M M'->∀Q,wpE W elt (some d::ax) M' Q (λ_ _=>False)=Q (f d) M') (hS:∀M',Ext M M'->S M':=by exact λ_ _=>trivial) :
  fS W (.name 0) cond elt S Q ds (x::ax) M=Q (.rol ((ds.filter c).map f)) M:=
 dF (λσ=>∃y,σ=y::ax) (λd=>some d::ax) c f ⟨x,rfl⟩ hM hl (λd _=>⟨⟨_,rfl⟩,λσ ⟨y,e⟩ M k=>by subst e;rfl⟩) hc he hS
theorem le{ax:St3}{x:Option D}{ds:List D}(f:D->D)(hM:Fm M)(hl:ds.length<10000)
  (he:∀d∈ds,∀M',Ext M M'->∀Q,wpE W elt (some d::ax) M' Q (λ_ _=>False)=Q (f d) M') (hS:∀M',Ext M M'->S M':=by exact λ_ _=>trivial) :
  fS W (.name 0) .no elt S Q ds (x::ax) M=Q (.rol (ds.map f)) M:=by
 rw[cN (λ_=>true) f hM hl (λ_ _ _ _ _=>rfl) (λd hd _=>he d hd) hS]
 rw[List.filter_eq_self.mpr (λ_ _=>rfl)]
end
theorem pZ(P:St3->Prop)(h0:P σ)(step:∀d∈ds,∀σ,P σ->∀k:St3->MH->Prop,(∀σ',P σ'->k σ' M)->wpG tg d σ M λσ2 M2=>aO W body {De with nx:=k,ct:=k,bk:=De.nx} ES σ2 M2)(done:∀σ,P σ->De.nx σ M) :
  aY W tg body ES (λ_=>True) De ds σ M:=by
 induction ds generalizing σ with
 |nil=>rw[aX];exact⟨trivial,done σ h0⟩
 |cons d ds ih=>
  rw[av];exact⟨trivial,step d Hf σ h0 _ λσ' p=>ih p λe he=>step e (Hb _ he)⟩
theorem uk(P:St3->Prop)(hS:S M)(h0:P σ)(step:∀d∈ds,∀σ,P σ->∀k:St3->MH->Prop,(∀σ',P σ'->k σ' M)->wpG tg d σ M λσ2 M2=>aO W body {De with nx:=k,ct:=k,bk:=De.nx} ES σ2 M2)(done:∀σ,P σ->De.nx σ M) :
  aY W tg body ES S De ds σ M:=by
 induction ds generalizing σ with
 |nil=>rw[aX];exact⟨hS,done σ h0⟩
 |cons d ds ih=>
  rw[av];exact⟨hS,step d Hf σ h0 _ λσ' p=>ih p λe he=>step e (Hb _ he)⟩
theorem qq(P:St3->MH->Prop)(hS:∀σ M,P σ M->S M)(h0:P σ M)(step:∀d∈ds,∀σ M,P σ M->∀k:St3->MH->Prop,(∀σ' M',P σ' M'->k σ' M')->wpG tg d σ M λσ2 M2=>aO W body {De with nx:=k,ct:=k,bk:=De.nx} ES σ2 M2)(done:∀σ M,P σ M->De.nx σ M) :
  aY W tg body ES S De ds σ M:=by
 induction ds generalizing σ M with
 |nil=>rw[aX];exact⟨hS _ _ h0,done _ _ h0⟩
 |cons d ds ih=>
  rw[av];exact⟨hS _ _ h0,step d Hf _ _ h0 _ λσ' M' p=>ih p λe he=>step e (Hb _ he)⟩
theorem rG(g:α->D)(f:α->Bool)(xs:List α)(h:∀x∈xs,g x=.bl (f x)):eQ (xs.map g)=some (xs.map f):=by
 induction xs with
 |nil=>rfl
 |cons a r ih=>
  rw[Hl,h a Hf];simp only[eQ];rw[ih λx hx=>h x (Hb _ hx)]
  rfl
theorem wt(f:α->Bool){xs:List α}(h:∀x∈xs,g x=.bl (f x)):rBi .all [.rol (xs.map g)] M Q=Q (.bl (xs.all f)) M:=by
 simp only[rBi,ai,rG g f xs h];simp[List.all_map,Function.comp_def]
end
end L2
namespace L2
open PySem PySem.NumText PyProof.Rows StrLaws
end L2
namespace HD
open PySem PySem.W PyProof.Rows L2
noncomputable def pw:Program:=PySem.Challenge.pw_driftmeet_k52_what_is_heard
noncomputable def top(i:Nat):Stmt:=PySem.Challenge.pw_driftmeet_k52_what_is_heard.main.body.getD i (.Pass ⟨0,0,0,0⟩)
noncomputable abbrev R(a:Nat):Value:=.ref a
noncomputable abbrev I(i:Nat):Value:=.int i 0
noncomputable abbrev e(P:Params)(s:String)(t:Nat)(v:Value):DictEntry:=⟨PyData.keyHash P s,.str s t,v⟩
noncomputable abbrev co(n:String)(a:Nat)(m:String)(b c d e g h i j:Nat)(k:Bool)(l o q r s:Nat):Data:=.fields #[.str n a,.str m b,.str "/claim/cut.py" c,I d,I e,I g,I h,I i,R j,.bool k,I l,R o,.none,.none,.none,.none,I q,I r,.str "/claim/cut.py" s]
noncomputable abbrev cp(n:String)(a:Nat)(m:String)(b c d e g h i j:Nat)(k:Bool)(l o x y z q r s:Nat):Data:=.fields #[.str n a,.str m b,.str "/claim/cut.py" c,I d,I e,I g,I h,I i,R j,.bool k,I l,R o,.none,R x,R y,R z,I q,I r,.str "/claim/cut.py" s]
noncomputable abbrev v0:Value:=.type "dict"
noncomputable abbrev v1:Value:=.type "object"
noncomputable abbrev v2:Value:=.str "driftmeet.errors" 194
noncomputable abbrev v3:Value:=.type "type"
noncomputable abbrev v4:Value:=.builtin "object.__new__"
noncomputable abbrev v5:Value:=.type "ValueError"
noncomputable abbrev v6:Value:=.str "driftmeet.happenings" 360
noncomputable abbrev v7:Value:=.builtin "ValueError.__new__"
noncomputable abbrev F:=Params->Obj
noncomputable abbrev fo(n q:String)(s:Stmt)(m:String)(t c:Nat):F:=λ_=>⟨.type "function",none,.func (fnOf n q (cg s) (bb s) (az s) .none .none .none (.str m t) none (.ref c) .none),#[]⟩
noncomputable abbrev fp(n q:String)(s:Stmt):F:=λ_=>⟨.none,none,.func {fnOf n q (cg s) (bb s) (az s) .none .none .none .none none .none .none with globals:=0,builtins:=0},#[]⟩
noncomputable abbrev vf(l:Array Value):F:=λ_=>⟨.none,none,.fields l,#[]⟩
noncomputable abbrev tu(l:Array Value):F:=λ_=>⟨.type "tuple",none,.seq l 0,#[]⟩
noncomputable abbrev cd(d:Data):F:=λ_=>⟨.type "code",none,d,#[]⟩
noncomputable abbrev bf(a:String)(b:Nat):F:=λ_=>⟨.type "builtin_function_or_method",none,.fields #[.builtin a,.ref b],#[]⟩
noncomputable abbrev n(o:F)(x y:Params->W.BT):Params->W.BT:=λP=>.node (o P) (x P) (y P)
noncomputable abbrev z:Params->W.BT:=λ_=>.nil
noncomputable abbrev l(o:F):Params->W.BT:=λP=>.node (o P) .nil .nil
noncomputable abbrev x0(a:String)(b:Nat)(c:String)(d:Nat)(f:Nat)(g:Nat)(h:Nat):F:=cd (cp a b c (b+1) (b+2) d f 0 0 3 g true 181 (g+1) (g+2) (g+3) (g+4) h d (h+1))
noncomputable abbrev x1(a:String)(b:String)(c:Nat)(d:Nat):F:=fp a b (ak (top c) d)
noncomputable abbrev x2(a:String)(b:String)(c:Nat)(d:Nat)(f:String)(g:Nat)(h:Nat):F:=fo a b (ak (top c) d) f g h
noncomputable abbrev x3(a:String)(b:Nat):F:=fp a a (top b)
noncomputable abbrev x4(a:String)(b:Nat)(c:String)(d:Nat)(f:Nat):F:=fo a a (top b) c d f
noncomputable abbrev x5(a:String)(b:Nat)(c:String)(d:String):F:=tu #[(.str a b),(.str c (b+1)),(.str d (b+2))]
noncomputable abbrev x6(a:String)(b:Nat)(c:Nat)(d:Nat):F:=cd (co a b a (b+1) (b+2) c 0 0 0 0 d false 181 (d+1) (b+3) c (b+4))
noncomputable abbrev x7(a:Nat)(b:Nat)(c:String)(d:Nat):F:=λ_=>⟨(.type "frame"),none,.plain,#[some (R a),some (R 3),some (R b),none,some (.str c d),none,some (R 0)]⟩
noncomputable abbrev x8(a:Nat):F:=λ_=>⟨(.type "super"),none,(.fields #[(R a),(R a),(R a)]),#[]⟩
noncomputable abbrev x9(a:Nat):F:=bf "object.__init_subclass__" a
noncomputable abbrev x10(a:String)(b:Nat)(c:String):F:=tu #[(.str a b),(.str c (b+1))]
noncomputable abbrev x11(a:String)(b:Nat):F:=tu #[(.str a b)]
noncomputable abbrev x12(a:Nat)(b:String)(c:Nat)(d:Nat):F:=λP=>⟨v0,none,(.dict #[e P "__module__" a v2,e P "__qualname__" (a+2) (.str b (a+1)),e P "__firstlineno__" (a+4) (.int c (a+3)),e P "__static_attributes__" (a+5) (R d)] 4),#[]⟩
noncomputable abbrev x13(a:String)(b:Nat)(c:Nat)(d:Nat):F:=λ_=>⟨v3,none,(.cls ⟨a,[(R 31)],[(R b),(R 31),v5,(.type "Exception"),(.type "BaseException"),v1],(b-1),a,true,[],[],false,none,false⟩),#[some (R c),none,some (.str a d),some (.str a (d+8)),some v7,some (.bool true)]⟩
noncomputable abbrev x14(a:String)(b:Nat)(c:String)(d:String)(f:String):F:=tu #[(.str a b),(.str c (b+1)),(.str d (b+2)),(.str f (b+3))]
noncomputable abbrev x15(a:Nat)(b:Nat)(c:Nat):F:=λP=>⟨v0,none,(.dict #[e P "__module__" a v2,e P "__firstlineno__" (a+4) (.int b (a+3)),e P "__static_attributes__" (a+5) (R c),e P "__doc__" (a+6) .none] 2),#[]⟩
noncomputable abbrev x16(a:String)(b:Nat)(c:Nat)(d:Nat)(f:Nat):F:=cd (.fields #[(.str a b),(.str a (b+1)),(.str "/claim/cut.py" (b+2)),(I c),(I d),(I 0),(I 0),(I 3),(R f),(.bool true),(I 181),(R (f+1)),.none,.none,.none,(R (f+2)),(I (b+3)),(I c),(.str "/claim/cut.py" (b+4))])
noncomputable abbrev x17(a:Nat)(b:Nat):F:=λ_=>⟨(.type "getset_descriptor"),none,(.fields #[(.str "__weakref__" a),(R b),(.builtin "ExceptionGroup.__weakref__"),.none]),#[]⟩
noncomputable abbrev x18(a:Nat)(b:Nat)(c:Nat)(d:Nat)(f:String)(g:Nat)(h:Nat)(i:String)(j:Nat)(k:Nat)(m:String)(o:Nat)(p:Nat):F:=λP=>⟨v0,none,(.dict #[e P "__module__" a v6,e P "__firstlineno__" (a+4) (.int b (a+3)),e P "__init__" c (R d),e P f g (R h),e P i j (R k),e P m o (R (k+1)),e P "__doc__" (o+1) .none] p),#[]⟩
noncomputable abbrev x19(a:Nat)(b:Nat):F:=λ_=>⟨(.type "getset_descriptor"),none,(.fields #[(.str "__dict__" a),(R b),(.builtin "function.__dict__"),(.builtin "function.__dict__#set")]),#[]⟩
noncomputable abbrev x20(a:Nat)(b:String)(c:Nat)(d:Nat)(f:Nat)(g:Nat):F:=λP=>⟨v0,none,(.dict #[e P "__module__" a v6,e P "__qualname__" (a+2) (.str b (a+1)),e P "__firstlineno__" (a+4) (.int c (a+3)),e P "__init__" d (R f),e P "row" (d+7) (R (f+7)),e P "own_bounds" (d+16) (R (f+14)),e P "__static_attributes__" g (R (f+15))] 7),#[]⟩
noncomputable abbrev x21(a:Nat)(b:Nat)(c:Nat):F:=vf #[(I a),(I 4),(R b),(I c),(I 4),(R (b+7)),(I (c+3)),(I 4),(R (b+14))]
noncomputable abbrev x22(a:String)(b:Nat)(c:Nat):F:=λ_=>⟨v3,none,(.cls ⟨a,[(R 161)],[(R b),(R 161),v1],(b-1),a,true,[],[],false,none,false⟩),#[some (R (b-30)),none,some (.str a c),some (.str a (c+8)),some v4,some (.bool true)]⟩
noncomputable abbrev x23(a:String)(b:Nat)(c:Nat):F:=λ_=>⟨v3,none,(.cls ⟨a,[v1],[(R b),v1],(b-1),a,true,[],[],false,none,false⟩),#[none,none,some (.str a c),some (.str a (c+8)),some v4,some (.bool true)]⟩
noncomputable abbrev x24(a:Nat)(b:Nat)(c:String)(d:Nat)(f:Nat)(g:String)(h:Nat)(i:Nat):F:=λP=>⟨v0,none,(.dict #[e P "__module__" a v2,e P "__firstlineno__" (a+4) (.int b (a+3)),e P c d (R f),e P g (d+2) (R h),e P "__doc__" (d+3) .none] i),#[]⟩
noncomputable abbrev x25(a:Nat)(b:String)(c:Nat)(d:String)(f:Nat)(g:Nat)(h:Nat)(i:Nat):F:=λP=>⟨v0,none,(.dict #[e P "__module__" a (.str b c),e P "__qualname__" (a+2) (.str d (a+1)),e P "__firstlineno__" (a+4) (.int f (a+3)),e P "__init__" g (R h),e P "__static_attributes__" i (R (h+1))] 5),#[]⟩
noncomputable def o0:F:=tu #[]
noncomputable def o1:F:=vf #[]
noncomputable def o2:F:=x6 "<module>" 182 1 11
noncomputable def o3:F:=x7 13 3 "__main__" 164
noncomputable def o11:F:=λ_=>⟨(.type "builtin_function_or_method"),none,(.fields #[(.builtin "type.__prepare__"),v3]),#[]⟩
noncomputable def o20:F:=tu #[(R 31)]
noncomputable def wc:F:=tu #[(R 161)]
noncomputable def env:Env:={scope:=pw.main.scope,locals:=mainNs,globals:=mainNs,cells:=[],code:=(R 13),frame:=some 14}
noncomputable def bE:List Stmt:=behindTheImports pw
noncomputable def b(i:Nat):Stmt:=bE.getD i (.Pass ⟨0,0,0,0⟩)
noncomputable def cE:Code:=.body bE env
noncomputable def qF:List Frame:=[topFrame ⟨0,0,0,0⟩]
noncomputable def an:Option Value:=(some (R 6))
noncomputable def hA(P:Params):Heap:=⟨⟨[boot_o_0 P,boot_o_1 P,boot_o_2 P,boot_o_3 P,boot_o_4 P,boot_o_5 P,boot_o_6 P,boot_o_7 P,boot_o_8 P,boot_o_9 P,boot_o_10 P,o0 P,o1 P,o2 P,o3 P]⟩,{}⟩
noncomputable def sA(w:World)(os:OsState):Shared:=⟨hA w.params,⟨[]⟩,{},187,os⟩
noncomputable def t0:Params->W.BT:=(n boot_o_0 (n boot_o_1 (n boot_o_3 (l boot_o_7) (l o0)) (n boot_o_5 (l boot_o_9) (l o2))) (n boot_o_2 (n boot_o_4 (l boot_o_8) (l o1)) (n boot_o_6 (l boot_o_10) (l o3))))
noncomputable def s0(w:World)(os:OsState):SharedT:=⟨t0 w.params,15,{},⟨[]⟩,{},187,os⟩
noncomputable def t1:Params->W.BT:=(n boot_o_0 (n boot_o_1 (n (λP=>⟨v0,none,(.dict #[e P "__name__" 165 (.str "law_driftmeet_k52_what_is_heard" 948),e P "__doc__" 166 .none,e P "__package__" 167 .none,e P "__loader__" 168 (.builtin "__main__.__loader__#opaque"),e P "__spec__" 169 .none,e P "__annotations__" 170 (R 6),e P "__builtins__" 171 (R 4),e P "__file__" 173 (.str "/claim/cut.py" 172),e P "__cached__" 174 .none,e P "_wall" 193 (R 21),e P "DriftError" 213 (R 31),e P "NoStretch" 229 (R 44),e P "NoHand" 245 (R 56),e P "NoClock" 261 (R 68),e P "NoWay" 277 (R 80),e P "NoHappening" 293 (R 92),e P "Backward" 318 (R 111),e P "NoLetter" 334 (R 123),e P "NoName" 350 (R 135),e P "is_whole" 359 (R 144),e P "Happening" 392 (R 161),e P "Look" 433 (R 196),e P "Sight" 478 (R 229),e P "Send" 521 (R 262),e P "Take" 564 (R 295),e P "are_wholes" 570 (R 302),e P "is_letter" 577 (R 309),e P "happening" 585 (R 316),e P "count_on" 596 (R 323),e P "names" 606 (R 330),e P "Ahead" 645 (R 354),e P "refuse_by_clock" 655 (R 365),e P "refuse_by_kind" 664 (R 372),e P "check" 675 (R 379),e P "place" 685 (R 386),e P "last_of" 691 (R 391),e P "count_letter" 700 (R 398),e P "past" 714 (R 405),e P "cut" 720 (R 410),e P "view" 729 (R 417),e P "Meeting" 821 (R 483),e P "MOST_HANDS" 825 (.int 6 824),e P "refuse_clock" 833 (R 494),e P "refuse_lengths" 841 (R 501),e P "World" 947 (R 574),e P "_law_cell_at" 957 (R 585),e P "_law_ways" 969 (R 592),e P "_law_row" 982 (R 599),e P "_law_log" 988 (R 604),e P "_law_names" 998 (R 611),e P "_law_part" 1010 (R 618),e P "_law_right" 1016 (R 623),e P "_law_refused" 1026 (R 630),e P "_law_spoilt" 1032 (R 635),e P "_law_let_by" 1041 (R 642),e P "_law_offered" 1055 (R 649),e P "_law_all_right" 1067 (R 656),e P "law" 1073 (R 661)] 58),#[]⟩) (n boot_o_7 (n o0 (n (λ_=>⟨v3,none,(.cls ⟨"DriftError",[v5],[(R 31),v5,(.type "Exception"),(.type "BaseException"),v1],30,"DriftError",true,[],[(R 44),(R 56),(R 68),(R 80),(R 92),(R 111),(R 123),(R 135)],false,none,false⟩),#[some (R 22),none,some (.str "DriftError" 196),some (.str "DriftError" 204),some v7,some (.bool true)]⟩) (n o1 (n o11 (n (x5 "self" 511 "world" "name") (l (tu #[(.str "self" 857),(.str "clocks" 858),(.str "ways" 859),(.str "short" 860),(.str "long" 861),(.str "one" 862),(.str "other" 863),(.str "least" 864),(.str "most" 865)])) z) (n o0 (l o0) z)) (n (x1 "own_bounds" "Look.own_bounds" 15 2) (n (x5 "counts" 591 "hand" "ahead") (l (x19 941 574)) z) (l o1))) (n o20 (n (x10 "hand" 383 "reading") (n o1 (l (x2 "hands" "World.hands" 41 4 "driftmeet.worlds" 822 542)) z) (l (x3 "view" 34))) (n o0 (n (x2 "enter" "Ahead.enter" 25 1 "driftmeet.logs" 586 350) (l (x14 "_law_log_here" 992 "_law_many" "_law_found" "_law_row_here")) z) (l (x0 "between" 802 "Meeting.between" 196 4 474 809))))) (n o20 (n (x15 269 13 78) (n (x0 "is_whole" 353 "is_whole" 27 1 138 357) (n (x7 270 267 "driftmeet.happenings" 360) (l (x1 "refuse_hand" "World.refuse_hand" 41 2)) z) (n o0 (l (x0 "_law_all_right" 1056 "_law_all_right" 372 3 650 1065)) z)) (n o1 (n (vf #[(I 109),(I 4),(R 343),(I 114),(I 4),(R 350)]) (l (x0 "_law_ways" 958 "_law_ways" 261 2 586 967)) z) (l o0))) (n (x13 "Backward" 111 95 294) (n (x5 "self" 408 "hand" "reading") (n o0 (l o1) z) (l (x2 "__init__" "Meeting.__init__" 36 0 "driftmeet.meeting" 730 430))) (n o0 (n o1 (l (x4 "_law_right" 49 "law_driftmeet_k52_what_is_heard" 948 622)) z) (l o0))))) (n o11 (n o1 (n o20 (n (x13 "NoName" 135 126 335) (n (x8 262) (l o0) z) (n (x4 "last_of" 30 "driftmeet.logs" 586 390) (l (x3 "_law_offered" 53)) z)) (n wc (n o0 (l (x3 "_law_cell_at" 43)) z) (l (x5 "self" 779 "hand" "last")))) (n o1 (n o11 (n (x22 "Take" 295 522) (l o0) z) (l (x6 "Meeting" 734 167 421))) (n (x9 229) (n o0 (l o0) z) (l (x9 483))))) (n (x15 237 9 54) (n o1 (n (x7 150 147 "driftmeet.happenings" 360) (n o0 (l (x0 "refuse_pair" 888 "World.refuse_pair" 233 3 530 894)) z) (l o1)) (n (x11 "self" 460) (n (x0 "__init__" 619 "Ahead.__init__" 109 1 338 623) (l (x4 "_law_row" 45 "law_driftmeet_k52_what_is_heard" 948 598)) z) (l (x1 "when" "Meeting.when" 36 6)))) (n (x6 "NoLetter" 321 22 117) (n o0 (n o1 (l (x5 "self" 932 "one" "other")) z) (l o0)) (n o1 (n (tu #[(.str "world" 668),(.str "log" 669),(.str "ahead" 670),(.str "row" 671),(.str "one" 672)]) (l o0) z) (l o11)))))) (n o0 (n (x3 "_wall" 0) (n o20 (n (x15 253 11 66) (n (x6 "NoName" 337 24 129) (n (x2 "own_bounds" "Send.own_bounds" 17 2 "driftmeet.happenings" 360 258) (l (x2 "__init__" "World.__init__" 41 0 "driftmeet.worlds" 822 514)) z) (n o0 (l o0) z)) (n (x18 400 35 413 179 "row" 420 186 "own_bounds" 429 193 "__static_attributes__" 430 2) (n (x4 "count_on" 23 "driftmeet.logs" 586 322) (l o0) z) (l (x0 "tell" 768 "Meeting.tell" 181 2 446 773)))) (n (vf #[(I 19),(I 4),(R 107)]) (n (x17 388 161) (n (x0 "own_bounds" 551 "Take.own_bounds" 77 3 286 557) (l o0) z) (l o11)) (n (x10 "early" 473 "late") (n (x19 639 354) (l (x4 "_law_names" 47 "law_driftmeet_k52_what_is_heard" 948 610)) z) (l (x23 "Meeting" 483 732))))) (n o1 (n o20 (n (x25 369 "driftmeet.happenings" 360 "Happening" 30 382 158 385) (n o0 (l o1) z) (n (x3 "past" 32) (l (x3 "law" 55)) z)) (n (x0 "__init__" 446 "Sight.__init__" 47 5 206 454) (n o1 (l (tu #[(.str "_law_here" 973),(.str "_law_reading" 974),(.str "_law_tos" 975),(.str "_law_letters" 976),(.str "_law_cell" 977),(.str "_law_kind" 978),(.str "_law_early" 979)])) z) (l o0))) (n o11 (n (x2 "__init__" "Look.__init__" 15 0 "driftmeet.happenings" 360 178) (n (x3 "is_letter" 20) (l (x0 "clock" 921 "World.clock" 248 2 558 926)) z) (l o0)) (n (x1 "__init__" "Send.__init__" 17 0) (n (x0 "refuse_by_kind" 656 "refuse_by_kind" 127 3 366 662) (l o0) z) (l (x3 "refuse_lengths" 40)))))) (n (x6 "DriftError" 198 5 25) (n (x15 221 7 42) (n o1 (n o1 (n (x20 529 "Take" 68 543 278 561) (l o0) z) (n o0 (l o1) z)) (n (x21 47 211 52) (n o0 (l o1) z) (l (x2 "heard" "Meeting.heard" 36 4 "driftmeet.meeting" 730 458)))) (n (x0 "__init__" 306 "Backward.__init__" 19 2 102 311) (n (x6 "Look" 395 35 169) (n o1 (l (x1 "has_way" "World.has_way" 41 6)) z) (l (x10 "self" 747 "world"))) (n o0 (n (x3 "refuse_by_clock" 26) (l o0) z) (l o0)))) (n o20 (n (x15 285 15 90) (n o0 (n (x1 "row" "Take.row" 18 1) (l (x11 "self" 900)) z) (l o0)) (n (x2 "row" "Sight.row" 16 1 "driftmeet.happenings" 360 218) (n (x5 "self" 629 "one" "name") (l (x16 "_law_log" 983 280 3 600)) z) (l o1))) (n (x13 "NoLetter" 123 114 319) (n o0 (n (x0 "happening" 578 "happening" 83 1 310 583) (l (x2 "way" "World.way" 41 8 "driftmeet.worlds" 822 570)) z) (l (x1 "with_row" "Meeting.with_row" 36 2))) (n (x0 "row" 501 "Send.row" 63 1 246 505) (n (x4 "check" 28 "driftmeet.logs" 586 378) (l (x4 "_law_spoilt" 51 "law_driftmeet_k52_what_is_heard" 948 634)) z) (l (x6 "World" 844 210 505)))))))) (n boot_o_5 (n boot_o_9 (n (x11 "k" 190) (n (x8 31) (n (x7 64 61 "driftmeet.errors" 194) (n o0 (n (x1 "own_bounds" "Send.own_bounds" 17 2) (l (x1 "__init__" "World.__init__" 41 0)) z) (n (x0 "place" 676 "place" 141 2 380 683) (l (x0 "_law_let_by" 1033 "_law_let_by" 355 2 636 1039)) z)) (n (x2 "own_bounds" "Look.own_bounds" 15 2 "driftmeet.happenings" 360 192) (n (x3 "count_on" 23) (l (x8 574)) z) (l o0))) (n (x25 301 "driftmeet.errors" 194 "Backward" 17 313 108 315) (n (λ_=>⟨v3,none,(.cls ⟨"Happening",[v1],[(R 161),v1],160,"Happening",true,[],[(R 196),(R 229),(R 262),(R 295)],false,none,false⟩),#[none,none,some (.str "Happening" 362),some (.str "Happening" 370),some v4,some (.bool true)]⟩) (n o0 (l o1) z) (l (x4 "view" 34 "driftmeet.logs" 586 416))) (n (x0 "own_bounds" 464 "Sight.own_bounds" 55 3 220 470) (n (λP=>⟨v0,none,(.dict #[e P "__module__" 614 (.str "driftmeet.logs" 586),e P "__firstlineno__" 618 (.int 107 617),e P "__init__" 625 (R 344),e P "enter" 634 (R 351),e P "__static_attributes__" 638 (R 352),e P "__dict__" 640 (R 355),e P "__weakref__" 642 (R 356),e P "__doc__" 643 .none] 4),#[]⟩) (l (x3 "_law_names" 47)) z) (l (x10 "rows" 812 "world"))))) (n (x12 237 "NoHand" 9 54) (n (x8 80) (n o0 (n o1 (l (x2 "refuse_hand" "World.refuse_hand" 41 2 "driftmeet.worlds" 822 528)) z) (n (tu #[(.str "world" 704),(.str "log" 705),(.str "name" 706),(.str "where" 707),(.str "counts" 708),(.str "heads" 709),(.str "other" 710),(.str "row" 711)]) (l o0) z)) (n o0 (n (x7 336 333 "driftmeet.logs" 586) (l o0) z) (l (x0 "news" 785 "Meeting.news" 190 3 460 791)))) (n (x9 111) (n (x1 "__init__" "Look.__init__" 15 0) (n (x11 "thing" 574) (l o0) z) (l o1)) (n (x14 "self" 494 "hand" "reading" "to") (n o0 (l o1) z) (l (x10 "least" 837 "most")))))) (n o0 (n (x7 40 37 "driftmeet.errors" 194) (n (x12 269 "NoWay" 13 78) (n (x9 135) (n wc (l (x0 "enter_way" 869 "World.enter_way" 222 5 516 877)) z) (n o1 (l (x4 "_law_offered" 53 "law_driftmeet_k52_what_is_heard" 948 648)) z)) (n (x20 441 "Sight" 45 456 212 475) (n (x0 "names" 597 "names" 101 1 324 604) (l (x4 "_law_cell_at" 43 "law_driftmeet_k52_what_is_heard" 948 584)) z) (l (x1 "heard" "Meeting.heard" 36 4)))) (n o0 (n o0 (n (x9 295) (l (x5 "self" 915 "one" "other")) z) (l o0)) (n o11 (n (x14 "world" 649 "ahead" "one" "last") (l (x0 "_law_part" 999 "_law_part" 306 2 612 1008)) z) (l o1)))) (n (x8 56) (n (x7 88 85 "driftmeet.errors" 194) (n o1 (n (x11 "self" 547) (l o0) z) (l (x16 "cut" 715 162 2 406))) (n (x1 "row" "Sight.row" 16 1) (n o0 (l o1) z) (l (x2 "when" "Meeting.when" 36 6 "driftmeet.meeting" 730 472)))) (n o0 (n (x0 "row" 414 "Look.row" 40 1 180 418) (n o0 (l (x1 "way" "World.way" 41 8)) z) (l (x5 "self" 762 "row" "grown"))) (n o0 (n (x3 "check" 28) (l (x3 "_law_spoilt" 51)) z) (l o0)))))) (n o2 (n (x4 "_wall" 0 "__main__" 164 20) (n (x12 221 "NoStretch" 7 42) (n (x8 68) (n o0 (n (x18 486 57 500 245 "row" 507 252 "own_bounds" 516 259 "__static_attributes__" 518 2) (l o1) z) (n (x3 "last_of" 30) (l (tu #[(.str "_law_meeting" 1045),(.str "_law_hands" 1046),(.str "_law_log_here" 1047),(.str "_law_row_here" 1048),(.str "_law_cell" 1049),(.str "_law_spoilt_here" 1050),(.str "_law_hand" 1051),(.str "_law_found" 1052)])) z)) (n (x8 196) (n o1 (l (x10 "_law_script" 953 "_law_k")) z) (l o0))) (n (x7 100 97 "driftmeet.errors" 194) (n (x9 161) (n (x11 "letter" 560) (l (x0 "has_hand" 904 "World.has_hand" 242 2 544 909)) z) (l o0)) (n (x22 "Sight" 229 434) (n (x8 354) (l o1) z) (l (x17 817 483))))) (n (x7 52 49 "driftmeet.errors" 194) (n (x12 285 "NoHappening" 15 90) (n (vf #[(I 32),(I 4),(R 157)]) (n (x0 "__init__" 534 "Take.__init__" 70 4 272 541) (l o0) z) (n (x4 "past" 32 "driftmeet.logs" 586 404) (l (x4 "law" 55 "law_driftmeet_k52_what_is_heard" 948 660)) z)) (n o0 (n o0 (l (x3 "_law_row" 45)) z) (l (x10 "self" 797 "hand")))) (n o0 (n o1 (n (x4 "is_letter" 20 "driftmeet.happenings" 360 308) (l o0) z) (l (x0 "log" 752 "Meeting.log" 173 1 432 756))) (n (x2 "__init__" "Send.__init__" 17 0 "driftmeet.happenings" 360 244) (n o0 (l (x0 "_law_refused" 1017 "_law_refused" 338 2 624 1024)) z) (l (x4 "refuse_lengths" 40 "driftmeet.worlds" 822 500)))))) (n o0 (n (x8 44) (n (x7 76 73 "driftmeet.errors" 194) (n o0 (n (x21 70 277 74) (l (x10 "self" 883 "hand")) z) (n (x0 "count_letter" 692 "count_letter" 149 2 392 698) (l o0) z)) (n (x7 204 201 "driftmeet.happenings" 360) (n (λP=>⟨v0,none,(.dict #[e P "__module__" 614 (.str "driftmeet.logs" 586),e P "__qualname__" 616 (.str "Ahead" 615),e P "__firstlineno__" 618 (.int 107 617),e P "__init__" 625 (R 344),e P "enter" 634 (R 351),e P "__static_attributes__" 638 (R 352)] 6),#[]⟩) (l o0) z) (l o1))) (n (x11 "last" 314) (n o0 (n (x16 "are_wholes" 565 79 2 298) (l (x2 "has_way" "World.has_way" 41 6 "driftmeet.worlds" 822 556)) z) (l (x1 "__init__" "Meeting.__init__" 36 0))) (n (x6 "Send" 481 57 235) (n (x4 "refuse_by_clock" 26 "driftmeet.logs" 586 364) (l (x3 "_law_right" 49)) z) (l (x0 "refuse_clock" 826 "refuse_clock" 200 2 488 831))))) (n (x12 253 "NoClock" 11 66) (n (x8 92) (n (x0 "__init__" 374 "Happening.__init__" 32 3 152 380) (n (x2 "row" "Take.row" 18 1 "driftmeet.happenings" 360 284) (l (x1 "hands" "World.hands" 41 4)) z) (l (x5 "world" 724 "log" "name"))) (n o1 (n (x1 "enter" "Ahead.enter" 25 1) (l o0) z) (l o0))) (n (x9 123) (n (x5 "self" 424 "world" "name") (n o0 (l (λP=>⟨v0,none,(.dict #[e P "__module__" 849 (.str "driftmeet.worlds" 822),e P "__firstlineno__" 853 (.int 210 852),e P "__init__" 868 (R 515),e P "enter_way" 879 (R 522),e P "refuse_hand" 887 (R 529),e P "refuse_pair" 896 (R 536),e P "hands" 903 (R 543),e P "has_hand" 911 (R 550),e P "has_way" 920 (R 557),e P "clock" 928 (R 564),e P "way" 937 (R 571),e P "__static_attributes__" 940 (R 572),e P "__dict__" 942 (R 575),e P "__weakref__" 944 (R 576),e P "__doc__" 945 .none] 4),#[]⟩)) z) (l (x2 "with_row" "Meeting.with_row" 36 2 "driftmeet.meeting" 730 444))) (n o0 (n o1 (l o1) z) (l o0)))))))) (n boot_o_2 (n boot_o_4 (n boot_o_8 (n o1 (n (x17 209 31) (n (x6 "NoClock" 248 11 62) (n (x12 342 "NoName" 24 133) (n o0 (l o0) z) (n (x3 "place" 29) (l (x3 "_law_let_by" 52)) z)) (n (x0 "own_bounds" 421 "Look.own_bounds" 43 3 187 427) (n o0 (l (x17 943 574)) z) (l (x10 "self" 771 "row")))) (n o11 (n (x18 369 30 382 158 "__static_attributes__" 385 159 "__dict__" 387 162 "__weakref__" 389 4) (n (x5 "self" 554 "world" "name") (l o0) z) (l (x0 "view" 721 "view" 164 3 411 727))) (n (x1 "own_bounds" "Sight.own_bounds" 16 2) (n (x5 "counts" 635 "readings" "untaken") (l o0) z) (l (x2 "between" "Meeting.between" 36 7 "driftmeet.meeting" 730 479))))) (n o11 (n (x13 "NoWay" 80 71 262) (n (x4 "is_whole" 12 "driftmeet.wholes" 351 143) (n o0 (l (x0 "refuse_hand" 880 "World.refuse_hand" 229 2 523 885)) z) (n o1 (l (x4 "_law_all_right" 54 "law_driftmeet_k52_what_is_heard" 948 655)) z)) (n (tu #[(.str "self" 449),(.str "hand" 450),(.str "reading" 451),(.str "early" 452),(.str "late" 453)]) (n (x6 "Ahead" 609 107 334) (l (x4 "_law_ways" 44 "law_driftmeet_k52_what_is_heard" 948 591)) z) (l (x1 "news" "Meeting.news" 36 5)))) (n (x8 111) (n o0 (n o1 (l (x10 "self" 924 "hand")) z) (l o0)) (n o1 (n (x5 "world" 659 "ahead" "one") (l o0) z) (l o1))))) (n (x12 203 "DriftError" 5 29) (n (x6 "NoStretch" 216 7 38) (n o11 (n (x8 135) (n (x9 262) (l (x1 "enter_way" "World.enter_way" 41 1)) z) (n o0 (l (x0 "_law_offered" 1042 "_law_offered" 362 5 643 1053)) z)) (n o11 (n (x3 "names" 24) (l (x0 "_law_cell_at" 950 "_law_cell_at" 257 2 579 955)) z) (l o0))) (n (x10 "self" 309 "last") (n (x20 400 "Look" 35 413 179 430) (n (x8 295) (l o1) z) (l (x7 423 420 "driftmeet.meeting" 730))) (n wc (n o1 (l (x3 "_law_part" 48)) z) (l o0)))) (n (x13 "NoHand" 56 47 230) (n (x6 "NoHappening" 280 15 86) (n o0 (n o1 (l (x2 "refuse_pair" "World.refuse_pair" 41 3 "driftmeet.worlds" 822 535)) z) (l (x3 "cut" 33))) (n o0 (n (x2 "__init__" "Ahead.__init__" 25 0 "driftmeet.logs" 586 343) (l o0) z) (l (x0 "when" 794 "Meeting.when" 193 2 467 799)))) (n (x7 119 116 "driftmeet.errors" 194) (n (x1 "row" "Look.row" 15 1) (n (x10 "row" 581 "word") (l o0) z) (l o1)) (n (x11 "self" 504) (n o0 (l o1) z) (l (λP=>⟨v0,none,(.dict #[e P "__module__" 849 (.str "driftmeet.worlds" 822),e P "__qualname__" 851 (.str "World" 850),e P "__firstlineno__" 853 (.int 210 852),e P "__init__" 868 (R 515),e P "enter_way" 879 (R 522),e P "refuse_hand" 887 (R 529),e P "refuse_pair" 896 (R 536),e P "hands" 903 (R 543),e P "has_hand" 911 (R 550),e P "has_way" 920 (R 557),e P "clock" 928 (R 564),e P "way" 937 (R 571),e P "__static_attributes__" 940 (R 572)] 13),#[]⟩))))))) (n (vf #[(I 1),(I 0),(R 20),(I 5),(I 0),(R 27),(I 7),(I 0),(R 40),(I 9),(I 0),(R 52),(I 11),(I 0),(R 64),(I 13),(I 0),(R 76),(I 15),(I 0),(R 88),(I 17),(I 0),(R 100),(I 22),(I 0),(R 119),(I 24),(I 0),(R 131),(I 27),(I 0),(R 143),(I 30),(I 0),(R 150),(I 35),(I 0),(R 171),(I 45),(I 0),(R 204),(I 57),(I 0),(R 237),(I 68),(I 0),(R 270),(I 79),(I 0),(R 301),(I 81),(I 0),(R 308),(I 83),(I 0),(R 315),(I 97),(I 0),(R 322),(I 101),(I 0),(R 329),(I 107),(I 0),(R 336),(I 121),(I 0),(R 364),(I 127),(I 0),(R 371),(I 134),(I 0),(R 378),(I 141),(I 0),(R 385),(I 146),(I 0),(R 390),(I 149),(I 0),(R 397),(I 153),(I 0),(R 404),(I 162),(I 0),(R 409),(I 164),(I 0),(R 416),(I 167),(I 0),(R 423),(I 200),(I 0),(R 493),(I 205),(I 0),(R 500),(I 210),(I 0),(R 507),(I 257),(I 0),(R 584),(I 261),(I 0),(R 591),(I 270),(I 0),(R 598),(I 280),(I 0),(R 603),(I 299),(I 0),(R 610),(I 306),(I 0),(R 617),(I 321),(I 0),(R 622),(I 338),(I 0),(R 629),(I 347),(I 0),(R 634),(I 355),(I 0),(R 641),(I 362),(I 0),(R 648),(I 372),(I 0),(R 655),(I 382),(I 0),(R 660)]) (n (x0 "_wall" 187 "_wall" 1 1 15 191) (n o11 (n (x13 "NoClock" 68 59 246) (n (x7 131 128 "driftmeet.errors" 194) (n (x11 "to" 517) (l o0) z) (n o1 (l o1) z)) (n (x22 "Look" 196 393) (n o0 (l o1) z) (l (x2 "tell" "Meeting.tell" 36 3 "driftmeet.meeting" 730 451)))) (n (x6 "Backward" 296 17 98) (n (x8 161) (n (x2 "own_bounds" "Take.own_bounds" 18 2 "driftmeet.happenings" 360 291) (l (x1 "has_hand" "World.has_hand" 41 5)) z) (l (λP=>⟨v0,none,(.dict #[e P "__module__" 739 (.str "driftmeet.meeting" 730),e P "__qualname__" 741 (.str "Meeting" 740),e P "__firstlineno__" 743 (.int 167 742),e P "__init__" 751 (R 431),e P "log" 758 (R 438),e P "with_row" 767 (R 445),e P "tell" 775 (R 452),e P "heard" 784 (R 459),e P "news" 793 (R 466),e P "when" 801 (R 473),e P "between" 811 (R 480),e P "__static_attributes__" 814 (R 481)] 12),#[]⟩))) (n (x18 441 45 456 212 "row" 463 219 "own_bounds" 472 226 "__static_attributes__" 475 2) (n (x17 641 354) (l o0) z) (l (x19 815 483))))) (n (x6 "NoHand" 232 9 50) (n o11 (n o0 (n (x1 "__init__" "Take.__init__" 18 0) (l (x5 "self" 891 "one" "other")) z) (n (x0 "past" 701 "past" 153 3 399 712) (l (x16 "law" 1068 382 1 657)) z)) (n (x2 "__init__" "Sight.__init__" 16 0 "driftmeet.happenings" 360 211) (n (x11 "self" 622) (l o0) z) (l o1))) (n (x12 326 "NoLetter" 22 121) (n o0 (n (x0 "is_letter" 571 "is_letter" 81 1 303 575) (l (x2 "clock" "World.clock" 41 7 "driftmeet.worlds" 822 563)) z) (l (x1 "log" "Meeting.log" 36 1))) (n (x0 "__init__" 491 "Send.__init__" 59 4 239 498) (n (x4 "refuse_by_kind" 27 "driftmeet.logs" 586 371) (l (x3 "_law_refused" 50)) z) (l (x0 "refuse_lengths" 834 "refuse_lengths" 205 2 495 839)))))) (n (x7 27 24 "driftmeet.errors" 194) (n (x13 "NoStretch" 44 35 214) (n (x6 "NoWay" 264 13 74) (n (x11 "thing" 356) (n o0 (l o1) z) (n (x3 "count_letter" 31) (l (tu #[(.str "_law_meeting" 1059),(.str "_law_log_here" 1060),(.str "_law_hands" 1061),(.str "_law_hand" 1062),(.str "_law_found" 1063),(.str "_law_kept" 1064)])) z)) (n (x6 "Sight" 436 45 202) (n o11 (l (tu #[(.str "_law_hands" 961),(.str "_law_cell" 962),(.str "_law_ways_here" 963),(.str "_law_number" 964),(.str "_law_one" 965),(.str "_law_other" 966)])) z) (l o0))) (n (x2 "__init__" "Backward.__init__" 8 0 "driftmeet.errors" 194 107) (n (x7 171 168 "driftmeet.happenings" 360) (n (x3 "are_wholes" 19) (l (x0 "has_way" 912 "World.has_way" 245 3 551 918)) z) (l o0)) (n (x21 59 244 63) (n (x0 "refuse_by_clock" 646 "refuse_by_clock" 121 3 359 653) (l o1) z) (l (x3 "refuse_clock" 39))))) (n o11 (n (x13 "NoHappening" 92 83 278) (n (x1 "__init__" "Happening.__init__" 14 0) (n (x0 "row" 544 "Take.row" 74 1 279 548) (l o0) z) (l o1)) (n o0 (n o0 (l (x4 "_law_log" 46 "law_driftmeet_k52_what_is_heard" 948 603)) z) (l (x14 "self" 805 "hand" "x" "y")))) (n (x8 123) (n o1 (n (x4 "happening" 21 "driftmeet.happenings" 360 315) (l (x10 "kept_clocks" 938 "kept_ways")) z) (l (x0 "with_row" 759 "Meeting.with_row" 176 2 439 765))) (n (x2 "row" "Send.row" 17 1 "driftmeet.happenings" 360 251) (n o0 (l o0) z) (l (x7 507 504 "driftmeet.worlds" 822)))))))) (n boot_o_6 (n boot_o_10 (n o0 (n (x9 31) (n o0 (n o1 (n (x0 "own_bounds" 508 "Send.own_bounds" 66 3 253 514) (l (x0 "__init__" 854 "World.__init__" 212 3 509 866)) z) (n (x4 "place" 29 "driftmeet.logs" 586 385) (l (x4 "_law_let_by" 52 "law_driftmeet_k52_what_is_heard" 948 641)) z)) (n o0 (n (x0 "count_on" 588 "count_on" 97 2 317 594) (l (x9 574)) z) (l (x1 "tell" "Meeting.tell" 36 3)))) (n o0 (n (x19 386 161) (n (x1 "own_bounds" "Take.own_bounds" 18 2) (l (x10 "self" 907 "hand")) z) (l o0)) (n (x2 "own_bounds" "Sight.own_bounds" 16 2 "driftmeet.happenings" 360 225) (n (x23 "Ahead" 354 607) (l (x0 "_law_names" 989 "_law_names" 299 1 605 996)) z) (l (λP=>⟨v0,none,(.dict #[e P "__module__" 739 (.str "driftmeet.meeting" 730),e P "__firstlineno__" 743 (.int 167 742),e P "__init__" 751 (R 431),e P "log" 758 (R 438),e P "with_row" 767 (R 445),e P "tell" 775 (R 452),e P "heard" 784 (R 459),e P "news" 793 (R 466),e P "when" 801 (R 473),e P "between" 811 (R 480),e P "__static_attributes__" 814 (R 481),e P "__dict__" 816 (R 484),e P "__weakref__" 818 (R 485),e P "__doc__" 819 .none] 4),#[]⟩))))) (n o0 (n (x9 80) (n o11 (n (x14 "self" 537 "hand" "reading" "letter") (l o0) z) (n o0 (l o1) z)) (n (x1 "__init__" "Sight.__init__" 16 0) (n o0 (l o1) z) (l (x2 "news" "Meeting.news" 36 5 "driftmeet.meeting" 730 465)))) (n o20 (n (x0 "__init__" 405 "Look.__init__" 37 3 173 411) (n o0 (l (x1 "clock" "World.clock" 41 7)) z) (l (x11 "self" 755))) (n o0 (n (x3 "refuse_by_kind" 27) (l (x14 "_law_meeting" 1020 "_law_hand" "_law_word" "e")) z) (l o0))))) (n o1 (n o0 (n o0 (n o0 (n o11 (l (x2 "enter_way" "World.enter_way" 41 1 "driftmeet.worlds" 822 521)) z) (n (x5 "counts" 695 "one" "sender") (l o0) z)) (n o0 (n (x4 "names" 24 "driftmeet.logs" 586 329) (l o0) z) (l (x0 "heard" 776 "Meeting.heard" 185 2 453 782)))) (n (x1 "__init__" "Backward.__init__" 8 0) (n (x21 37 178 40) (n o0 (l o0) z) (l o1)) (n (x20 486 "Send" 57 500 245 518) (n o0 (l (x4 "_law_part" 48 "law_driftmeet_k52_what_is_heard" 948 617)) z) (l (x10 "short" 829 "long"))))) (n (x9 56) (n o0 (n (x5 "self" 377 "hand" "reading") (n o0 (l o1) z) (l (x4 "cut" 33 "driftmeet.logs" 586 409))) (n (x0 "row" 457 "Sight.row" 52 1 213 461) (n o1 (l (x3 "_law_log" 46)) z) (l o0))) (n (x15 326 22 121) (n (x2 "row" "Look.row" 15 1 "driftmeet.happenings" 360 185) (n (x3 "happening" 21) (l (x0 "way" 929 "World.way" 251 3 565 935)) z) (l o0)) (n (x1 "row" "Send.row" 17 1) (n (x0 "check" 665 "check" 134 2 373 673) (l (x16 "_law_spoilt" 1027 347 4 631)) z) (l (vf #[(I 212),(I 4),(R 514),(I 222),(I 4),(R 521),(I 229),(I 4),(R 528),(I 233),(I 4),(R 535),(I 239),(I 4),(R 542),(I 242),(I 4),(R 549),(I 245),(I 4),(R 556),(I 248),(I 4),(R 563),(I 251),(I 4),(R 570)]))))))) (n o3 (n (tu #[v5]) (n o0 (n (x9 68) (n (x15 342 24 133) (n (x22 "Send" 262 479) (l (tu #[(.str "self" 872),(.str "one" 873),(.str "other" 874),(.str "least" 875),(.str "most" 876)])) z) (n (x16 "last_of" 686 146 2 387) (l o0) z)) (n (x9 196) (n (x14 "log" 600 "counts" "told" "row") (l o0) z) (l o1))) (n o0 (n wc (n (x18 529 68 543 278 "row" 550 285 "own_bounds" 559 292 "__static_attributes__" 561 2) (l (x2 "has_hand" "World.has_hand" 41 5 "driftmeet.worlds" 822 549)) z) (l (vf #[(I 169),(I 4),(R 430),(I 173),(I 4),(R 437),(I 176),(I 4),(R 444),(I 181),(I 4),(R 451),(I 185),(I 4),(R 458),(I 190),(I 4),(R 465),(I 193),(I 4),(R 472),(I 196),(I 4),(R 479)]))) (n (x8 229) (n (x9 354) (l (tu #[(.str "_law_found" 1002),(.str "_law_log_here" 1003),(.str "_law_row_here" 1004),(.str "_law_there" 1005),(.str "_law_at" 1006),(.str "_law_here" 1007)])) z) (l (x8 483))))) (n o0 (n o0 (n (x6 "Happening" 364 30 148) (n (x2 "__init__" "Take.__init__" 18 0 "driftmeet.happenings" 360 277) (l (x1 "refuse_pair" "World.refuse_pair" 41 3)) z) (l o0)) (n o1 (n (x1 "__init__" "Ahead.__init__" 25 0) (l (x0 "_law_row" 970 "_law_row" 270 5 593 980)) z) (l o0))) (n o1 (n (x11 "self" 417) (n o0 (l o1) z) (l (x2 "log" "Meeting.log" 36 1 "driftmeet.meeting" 730 437))) (n o0 (n o1 (l (x4 "_law_refused" 50 "law_driftmeet_k52_what_is_heard" 948 629)) z) (l o0))))) (n (x24 203 5 "__static_attributes__" 208 29 "__weakref__" 32 3) (n (x9 44) (n o0 (n (x3 "is_whole" 12) (n (x6 "Take" 524 68 268) (l o0) z) (n (x4 "count_letter" 31 "driftmeet.logs" 586 397) (l (x3 "_law_all_right" 54)) z)) (n o0 (n o0 (l (x3 "_law_ways" 44)) z) (l (x5 "self" 788 "hand" "letter")))) (n (x24 301 17 "__init__" 313 108 "__static_attributes__" 109 2) (n o1 (n (x4 "are_wholes" 19 "driftmeet.happenings" 360 301) (l o0) z) (l (x0 "__init__" 744 "Meeting.__init__" 169 2 425 749))) (n (x7 237 234 "driftmeet.happenings" 360) (n o0 (l (x16 "_law_right" 1011 321 3 619)) z) (l (x4 "refuse_clock" 39 "driftmeet.worlds" 822 493))))) (n o0 (n (x9 92) (n (x2 "__init__" "Happening.__init__" 14 0 "driftmeet.happenings" 360 157) (n o0 (l (x0 "hands" 897 "World.hands" 239 1 537 901)) z) (l o0)) (n (x5 "self" 467 "world" "name") (n (x0 "enter" 626 "Ahead.enter" 114 2 345 632) (l o1) z) (l (x1 "between" "Meeting.between" 36 7)))) (n o20 (n o0 (n o1 (l (x23 "World" 574 842)) z) (l o0)) (n o1 (n (x14 "log" 679 "name" "where" "other") (l (x5 "_law_meeting" 1036 "_law_row_here" "_law_word")) z) (l o1)))))))))
noncomputable def s1(w:World)(os:OsState):SharedT:=⟨t1 w.params,662,{},⟨[]⟩,{},1074,os⟩
noncomputable def t2:Params->W.BT:=t1
noncomputable def s2(w:World)(os:OsState):SharedT:=⟨t2 w.params,662,{},⟨[]⟩,{},1074,os⟩
theorem pre:∀w:World,(λos=>topGo treeTable pw w 11 an 12 ⟨boot_heap w.params,⟨[]⟩,boot_drawn,boot_toks,os⟩ (topStub pw))=λos=>some (sA w os,⟨denote treeTable cE,cE,⟨0,0,0,0⟩,qF⟩):=λw=>by kernel_rfl
theorem blk:∀w:World,(λos=>segRun treeTable pw w 11 an 1 1 (sA w os) (blockOf bE env cE ⟨0,0,0,0⟩ qF))=λos=>some (.next,(s0 w os).abs,cE,⟨0,0,0,0⟩):=λw=>by kernel_rfl
noncomputable def g0:List Stmt:=[b 0,b 1,b 2,b 3,b 4,b 5,b 6,b 7,b 8,b 9,b 10,b 11,b 12,b 13,b 14,b 15,b 16,b 17,b 18,b 19,b 20,b 21,b 22,b 23,b 24,b 25,b 26,b 27,b 28,b 29,b 30,b 31,b 32,b 33,b 34,b 35,b 36,b 37,b 38,b 39,b 40,b 41,b 42,b 43,b 44,b 45,b 46,b 47,b 48,b 49,b 50,b 51,b 52,b 53,b 54,b 55]
theorem p0:∀w:World,(λos=>segRunT treeTable pw w 11 an 1 5607 (s0 w os) (piecesOf g0 env cE ⟨0,0,0,0⟩ qF))=λos=>some (.next,s1 w os,cE,⟨382,0,410,111⟩):=λw=>by kernel_rfl
theorem fin:∀w:World,(λos=>topRun treeTable pw w 11 an 2 (s1 w os).abs (restOf [] env cE ⟨382,0,410,111⟩ qF))=λos=>some (s2 w os).abs:=λw=>by kernel_rfl
theorem Br:bE=g0++([]):=by kernel_rfl
theorem Ey(w:World)(os:OsState):topRun treeTable pw w 11 an (5607+(2)) (s0 w os).abs (restOf (g0++([])) env cE ⟨0,0,0,0⟩ qF)=some (s2 w os).abs:=piece_app (segRun_of (congrFun (p0 w) os)) (congrFun (fin w) os)
theorem run(w:World)(os:OsState):topRun treeTable pw w 11 an (12+(1+(5607+(2)))) ⟨boot_heap w.params,⟨[]⟩,boot_drawn,boot_toks,os⟩ (topStub pw)=some (s2 w os).abs:=go_top (congrFun (pre w) os) (piece_block (congrFun (blk w) os) (by rw[Br];exact Ey w os))
noncomputable def view:Program:={pw with main:={pw.main with body:=[top 55]}}
noncomputable def loose:List Str:=(["_wall","DriftError","NoStretch","NoHand","NoClock","NoWay","NoHappening","Backward","NoLetter","NoName","is_whole","Happening","Look","Sight","Send","Take","are_wholes","is_letter","happening","count_on","names","Ahead","refuse_by_clock","refuse_by_kind","check","place","last_of","count_letter","past","cut","view","Meeting","MOST_HANDS","refuse_clock","refuse_lengths","World","_law_cell_at","_law_ways","_law_row","_law_log","_law_names","_law_part","_law_right","_law_refused","_law_spoilt","_law_let_by","_law_offered","_law_all_right"]:List String).map Str.ofString
noncomputable def as:List Addr:=[2,3,15,17,18,20,21,22,29,30,31,32,35,42,43,44,47,54,55,56,59,66,67,68,71,78,79,80,83,90,91,92,95,102,104,105,107,108,109,110,111,114,121,122,123,126,133,134,135,138,140,141,143,144,152,154,155,157,158,159,160,161,162,163,166,173,175,176,178,179,180,182,183,185,186,187,189,190,192,193,194,195,196,199,206,208,209,211,212,213,215,216,218,219,220,222,223,225,226,227,228,229,232,239,241,242,244,245,246,248,249,251,252,253,255,256,258,259,260,261,262,265,272,274,275,277,278,279,281,282,284,285,286,288,289,291,292,293,294,295,298,301,302,303,305,306,308,309,310,312,313,315,316,317,319,320,322,323,324,326,327,329,330,338,340,341,343,344,345,347,348,350,351,352,353,354,355,356,359,361,362,364,365,366,368,369,371,372,373,375,376,378,379,380,382,383,385,386,387,390,391,392,394,395,397,398,399,401,402,404,405,406,409,410,411,413,414,416,417,425,427,428,430,431,432,434,435,437,438,439,441,442,444,445,446,448,449,451,452,453,455,456,458,459,460,462,463,465,466,467,469,470,472,473,474,476,477,479,480,481,482,483,484,485,488,490,491,493,494,495,497,498,500,501,509,511,512,514,515,516,518,519,521,522,523,525,526,528,529,530,532,533,535,536,537,539,540,542,543,544,546,547,549,550,551,553,554,556,557,558,560,561,563,564,565,567,568,570,571,572,573,574,575,576,579,581,582,584,585,586,588,589,591,592,593,595,596,598,599,600,603,604,605,607,608,610,611,612,614,615,617,618,619,622,623,624,626,627,629,630,631,634,635,636,638,639,641,642,643,645,646,648,649,650,652,653,655,656,657,660,661]
noncomputable def K(P:Params):Frag:=as.map λa=>(a,((t2 P).get a).getD ⟨.none,none,.plain,#[]⟩)
theorem as_eq:∀P,as=(K P).map (·.1):=λP=>by kernel_rfl
noncomputable def h1(P:Params):Heap:=absHeap (t2 P) 662 {}
noncomputable def f1(w:World)(os:OsState):Shared:=⟨h1 w.params,⟨[]⟩,{},1074,os⟩
noncomputable def Xt(s:Shared):Bool:=xlAt view [] s&&recOk (RowW.records PySem.Challenge.rw_driftmeet_k52_what_is_heard.row.toRowW) s
theorem lk1:∀w:World,(λos=>(staticsOk (importedModules pw.main.body) (boot_heap w.params) (h1 w.params)&&namesBound pw (h1 w.params)&&gensDone (f1 w os)&&laidKept (boot_heap w.params) (h1 w.params)))=λ_=>true:=λw=>by kernel_rfl
theorem lk2:∀w:World,(λos=>openSeen view loose (importedModules pw.main.body) Xt true (f1 w os))=λ_=>openGood view loose:=λw=>by kernel_rfl
theorem lk3:∀w:World,(λos=>(Hook.obs (kHook K as as_eq)) (f1 w os))=λ_=>(Hook.val (kHook K as as_eq)) w:=λw=>by kernel_rfl
theorem left:LeftO pw view loose Xt (Hook.obs (kHook K as as_eq)) (Hook.val (kHook K as as_eq)) 11338:=LeftO.of_pieces (boot_open (by kernel_rfl) (by decide) (λs=>by kernel_rfl)) (H₀:=boot_heap) (H₁:=h1) (gs₀:=⟨[]⟩) (m₀:=11) (ann:=an) (M:=12+(1+(5607+(2)))) (λw=>by kernel_rfl) (λw os=>run w os) (by decide) λw=>funext λos=>looks_pair (congrFun (lk1 w) os) (looks_pair (congrFun (lk2 w) os) (congrFun (lk3 w) os))
end HD
namespace G
open PySem L2
noncomputable def top(i:Nat):Stmt:=PySem.Challenge.pw_driftmeet_k52_what_is_heard.main.body.getD i (.Pass ⟨0,0,0,0⟩)
noncomputable abbrev V0:IE:=.var 0
noncomputable abbrev V1:IE:=.var 1
noncomputable abbrev V2:IE:=.var 2
noncomputable abbrev V3:IE:=.var 3
noncomputable abbrev V4:IE:=.var 4
noncomputable abbrev V5:IE:=.var 5
noncomputable abbrev V6:IE:=.var 6
noncomputable abbrev V7:IE:=.var 7
noncomputable abbrev V8:IE:=.var 8
noncomputable abbrev V9:IE:=.var 9
noncomputable abbrev V10:IE:=.var 10
noncomputable abbrev V11:IE:=.var 11
noncomputable abbrev V12:IE:=.var 12
noncomputable abbrev V13:IE:=.var 13
noncomputable abbrev I0:IE:=.con (.int 0)
noncomputable abbrev I1:IE:=.con (.int 1)
noncomputable abbrev I2:IE:=.con (.int 2)
noncomputable abbrev I3:IE:=.con (.int 3)
noncomputable abbrev I4:IE:=.con (.int 4)
noncomputable abbrev I5:IE:=.con (.int 5)
noncomputable abbrev I6:IE:=.con (.int 6)
noncomputable abbrev I7:IE:=.con (.int 7)
noncomputable abbrev I9:IE:=.con (.int 9)
noncomputable abbrev Ar1(a0:IE):IA:=.cons a0 .nil
noncomputable abbrev Ar2(a0 a1:IE):IA:=.cons a0 (.cons a1 .nil)
noncomputable abbrev Ar3(a0 a1 a2:IE):IA:=.cons a0 (.cons a1 (.cons a2 .nil))
noncomputable abbrev Ar4(a0 a1 a2 a3:IE):IA:=.cons a0 (.cons a1 (.cons a2 (.cons a3 .nil)))
noncomputable abbrev Ar5(a0 a1 a2 a3 a4:IE):IA:=.cons a0 (.cons a1 (.cons a2 (.cons a3 (.cons a4 .nil))))
noncomputable abbrev S1(a0:IS):ISs:=.cons a0 .nil
noncomputable abbrev S2(a0 a1:IS):ISs:=.cons a0 (.cons a1 .nil)
noncomputable abbrev S3(a0 a1 a2:IS):ISs:=.cons a0 (.cons a1 (.cons a2 .nil))
noncomputable abbrev S4(a0 a1 a2 a3:IS):ISs:=.cons a0 (.cons a1 (.cons a2 (.cons a3 .nil)))
noncomputable abbrev S5(a0 a1 a2 a3 a4:IS):ISs:=.cons a0 (.cons a1 (.cons a2 (.cons a3 (.cons a4 .nil))))
noncomputable abbrev S6(a0 a1 a2 a3 a4 a5:IS):ISs:=.cons a0 (.cons a1 (.cons a2 (.cons a3 (.cons a4 (.cons a5 .nil)))))
noncomputable abbrev S7(a0 a1 a2 a3 a4 a5 a6:IS):ISs:=.cons a0 (.cons a1 (.cons a2 (.cons a3 (.cons a4 (.cons a5 (.cons a6 .nil))))))
noncomputable abbrev S10(a0 a1 a2 a3 a4 a5 a6 a7 a8 a9:IS):ISs:=.cons a0 (.cons a1 (.cons a2 (.cons a3 (.cons a4 (.cons a5 (.cons a6 (.cons a7 (.cons a8 (.cons a9 .nil)))))))))
noncomputable abbrev S11(a0 a1 a2 a3 a4 a5 a6 a7 a8 a9 a10:IS):ISs:=.cons a0 (.cons a1 (.cons a2 (.cons a3 (.cons a4 (.cons a5 (.cons a6 (.cons a7 (.cons a8 (.cons a9 (.cons a10 .nil))))))))))
noncomputable abbrev S14(a0 a1 a2 a3 a4 a5 a6 a7 a8 a9 a10 a11 a12 a13:IS):ISs:=.cons a0 (.cons a1 (.cons a2 (.cons a3 (.cons a4 (.cons a5 (.cons a6 (.cons a7 (.cons a8 (.cons a9 (.cons a10 (.cons a11 (.cons a12 (.cons a13 .nil)))))))))))))
noncomputable abbrev fL(n q:String)(g c:Bool)(s:Stmt)(N:List Str)(k:Nat)(b:ISs):FL:={name:=n,qual:=q,glob:=g,cl:=c,st:=s,N:=N,ps:=N.take k,body:=b}
noncomputable abbrev fl(n:String):=fL n n true
abbrev runF(T:List FB)(B:WB)(n:Nat)(b:ISs)(σ:St3)(M:MH)(Q:VK3)(E:XN):Prop:=aO {toWB:=B,call:=aa T B n} b {nx:=λ_ M'=>Q .non (ar M M'),rt:=λv M'=>Q v (ar M M')} (λ_ i M'=>E i (ar M M')) σ M
noncomputable def gh:ISs:=S1 (.ret (.and (.isB V0 .int) (.not (.isB V0 .bool))))
noncomputable def ay:ISs:=S2 (.fset V0 211529960 V1) (.fset V0 456806758904562 V2)
noncomputable def dj:ISs:=S1 (.expr (.ini 0 (Ar3 V0 V1 V2)))
noncomputable def oM:ISs:=S1 .dead
noncomputable def cW:ISs:=S3 (.expr (.ini 0 (Ar3 V0 V1 V2))) (.fset V0 32709062885 V3) (.fset V0 213725420 V4)
noncomputable def nr:ISs:=S1 .dead
noncomputable def dh:ISs:=S2 (.expr (.ini 0 (Ar3 V0 V1 V2))) (.fset V0 14324 V3)
noncomputable def oS:ISs:=S1 .dead
noncomputable def dB:ISs:=S2 (.expr (.ini 0 (Ar3 V0 V1 V2))) (.fset V0 3944367338220 V3)
noncomputable def oW:ISs:=S1 .dead
noncomputable def eg:ISs:=S1 (.ret (.and (.cmp .Eq (.bi .len (Ar1 V0)) V1) (.bi .all (Ar1 (.comp true ["thing"] [none] (.name 0) (.seq V0) .no (.call 0 (Ar1 V0)))))))
noncomputable def eY:ISs:=S1 (.ret (.and (.isB V0 .tuple) (.call 10 (Ar2 V0 I2))))
noncomputable def bu:ISs:=S7 (.ifs (.or (.not (.val (.isB V0 .tuple))) (.cmp .Eq (.bi .len (Ar1 V0)) I0)) (S1 .dead) .nil) (.set 1 (.ix V0 I0)) (.ifs (.and (.cmp .Eq V1 (.con (.str "look"))) (.val (.call 10 (Ar2 (.sl true V0 (.yes I1) .no) I2)))) (S1 (.ret (.make true 1 (Ar2 (.ix V0 I1) (.ix V0 I2))))) .nil) (.ifs (.and (.cmp .Eq V1 (.con (.str "sight"))) (.val (.call 10 (Ar2 (.sl true V0 (.yes I1) .no) I4)))) (S1 (.ret (.make true 2 (Ar4 (.ix V0 I1) (.ix V0 I2) (.ix V0 I3) (.ix V0 I4))))) .nil) (.ifs (.and (.cmp .Eq V1 (.con (.str "send"))) (.val (.call 10 (Ar2 (.sl true V0 (.yes I1) .no) I3)))) (S1 (.ret (.make true 3 (Ar3 (.ix V0 I1) (.ix V0 I2) (.ix V0 I3))))) .nil) (.ifs (.and (.cmp .Eq V1 (.con (.str "take"))) (.and (.val (.call 10 (Ar2 (.sl true V0 (.yes I1) (.yes I3)) I2))) (.and (.cmp .Eq (.bi .len (Ar1 V0)) I4) (.val (.call 11 (Ar1 (.ix V0 I3))))))) (S1 (.ret (.make true 4 (Ar3 (.ix V0 I1) (.ix V0 I2) (.ix V0 I3))))) .nil) .dead
noncomputable def gz:ISs:=S3 (.set 2 (.bm .get V0 (Ar2 V1 I0))) (.ixset V0 V1 (.bin .Add V2 I1)) (.ret (.tup (Ar2 V1 V2)))
noncomputable def dY:ISs:=S1 (.app V2 (.call 13 (Ar2 V1 (.ix V3 I1))))
noncomputable def mf:ISs:=S4 (.set 1 (.dnew false)) (.set 2 (.lst false .nil)) (.for_ (.name 3) (.seq V0) dY) (.ret (.frz V2))
noncomputable def cX:ISs:=S3 (.fset V0 3982741043171 (.dnew false)) (.fset V0 65196051402355442 (.dnew false)) (.fset V0 487284377728885 (.dnew true))
noncomputable def dq:ISs:=S4 (.set 2 (.call 13 (Ar2 (.fld V0 3982741043171) (.fld V1 211529960)))) (.ixset (.fld V0 65196051402355442) (.fld V1 211529960) (.fld V1 456806758904562)) (.ifs (.val (.isK V1 3)) (S1 (.ixset (.fld V0 487284377728885) V2 (.fld V1 14324))) .nil) (.ifs (.val (.isK V1 4)) (S1 (.expr (.bm .popd (.fld V0 487284377728885) (Ar1 (.fld V1 3944367338220))))) .nil)
noncomputable def bD:ISs:=S3 (.ifs (.not (.val (.meth V0 56782141471387880 (Ar1 (.fld V2 211529960))))) (S1 (.raise 2 (Ar1 (.con (.str "the world has no such hand"))))) .nil) (.set 3 (.bm .get (.fld V1 65196051402355442) (Ar1 (.fld V2 211529960)))) (.ifs (.and (.cmp .IsNot V3 (.con .non)) (.cmp .Lt (.fld V2 456806758904562) V3)) (S1 (.raiseI 6 (Ar1 V3))) .nil)
noncomputable def be:ISs:=S3 (.ifs (.and (.val (.isK V2 2)) (.cmp .Gt (.fld V2 32709062885) (.fld V2 213725420))) (S1 .dead) .nil) (.ifs (.and (.val (.isK V2 3)) (.not (.val (.meth V0 535528667410664 (Ar2 (.fld V2 211529960) (.fld V2 14324)))))) (S1 .dead) .nil) (.ifs (.and (.val (.isK V2 4)) (.cmp .NotEq (.bm .get (.fld V1 487284377728885) (Ar1 (.fld V2 3944367338220))) (.fld V2 211529960))) (S1 (.raise 7 (Ar1 (.con (.str "no such letter waits for this hand"))))) .nil)
noncomputable def aN:ISs:=S4 (.set 4 (.call 12 (Ar1 V3))) (.expr (.call 17 (Ar3 V0 V2 V4))) (.expr (.call 18 (Ar3 V0 V2 V4))) (.expr (.meth V2 30815369061 (Ar1 V4)))
noncomputable def ms:ISs:=S2 (.set 2 (.make false 5 .nil)) (.for_ (.name 3) (.seq V1) aN)
noncomputable def ed:ISs:=S1 (.ifs (.cmp .Eq V3 V1) (S1 (.ret V2)) .nil)
noncomputable def lI:ISs:=S2 (.for_ (.tup [2,3]) (.enum (.call 14 (Ar1 V0))) ed) .dead
noncomputable def fx:ISs:=S2 (.set 2 (.comp true ["name","hand"] [none,some 1] (.name 0) (.seq (.call 14 (Ar1 V0))) (.yes (.cmp .Eq (.ix V0 I0) V1)) V0)) (.ret (.ifx (.cmp .Gt (.bi .len (Ar1 V2)) I0) (.ix V2 (.neg I1)) (.con .non)))
noncomputable def aM:ISs:=S1 (.ifs (.val (.isK V1 4)) (S2 (.set 2 (.ix (.fld V1 3944367338220) I0)) (.ixset V0 V2 (.bi .max (Ar2 (.ix V0 V2) (.bin .Add (.ix (.fld V1 3944367338220) I1) I1))))) .nil)
noncomputable def dE:ISs:=S1 (.ifs (.cmp .Lt (.ix V6 I1) (.ix V4 (.ix V6 I0))) (S1 (.expr (.call 22 (Ar2 V4 (.call 12 (Ar1 V7)))))) .nil)
noncomputable def pf:ISs:=S6 (.set 3 (.call 20 (Ar2 V1 V2))) (.set 4 (.rep false (.lst true (Ar1 I0)) (.meth V0 31081607400 .nil))) (.ixset V4 (.ix V2 I0) (.bin .Add (.ix V2 I1) I1)) (.set 5 (.sl true (.lzip true (.call 14 (Ar1 V1)) V1) .no (.yes (.bin .Add V3 I1)))) (.for_ (.tup [6,7]) (.revd V5) dE) (.ret (.frz V4))
noncomputable def tQ:ISs:=S1 (.ret (.comp false ["name","row","counts"] [none,none,some 1] (.tup [0,1]) (.zip (.call 14 (Ar1 V0)) V0) (.yes (.cmp .Lt (.ix V0 I1) (.ix V2 (.ix V0 I0)))) V1))
noncomputable def ow:ISs:=S1 (.ret (.call 24 (Ar2 V1 (.call 23 (Ar3 V0 V1 V2)))))
noncomputable def bW:ISs:=S2 (.fset V0 27071920119 V1) (.fset V0 243136498 (.lst true .nil))
noncomputable def kJ:ISs:=S1 .dead
noncomputable def bp:ISs:=S3 (.set 2 (.cat true (.fld V0 243136498) (.lst true (Ar1 V1)))) (.expr (.call 19 (Ar2 (.fld V0 27071920119) V2))) (.ret V2)
noncomputable def bI:ISs:=S2 (.fset V0 243136498 (.meth V0 67483170351428855 (Ar1 V1))) (.ret (.ix (.call 14 (Ar1 (.fld V0 243136498))) (.neg I1)))
noncomputable def aS:ISs:=S3 (.expr (.meth (.fld V0 27071920119) 119080781550527859766002 (Ar1 V1))) (.set 2 (.call 21 (Ar2 (.fld V0 243136498) V1))) (.ret (.ifx (.cmp .Is V2 (.con .non)) (.lst false .nil) (.call 25 (Ar3 (.fld V0 27071920119) (.fld V0 243136498) V2))))
noncomputable def cY:ISs:=S2 (.ifs (.cmp .Lt V0 I1) (S1 .dead) .nil) (.ifs (.cmp .Lt V1 V0) (S1 .dead) .nil)
noncomputable def bT:ISs:=S2 (.ifs (.cmp .Lt V0 I0) (S1 .dead) .nil) (.ifs (.and (.cmp .IsNot V1 (.con .non)) (.cmp .Lt V1 V0)) (S1 .dead) .nil)
noncomputable def bF:ISs:=S1 (.expr (.call 31 (Ar2 V3 V4)))
noncomputable def bL:ISs:=S1 (.expr (.meth V0 8774101686596482917 (Ar4 V5 V6 V7 V8)))
noncomputable def cS:ISs:=S5 (.ifs (.or (.cmp .Lt (.bi .len (Ar1 V1)) I1) (.cmp .Gt (.bi .len (Ar1 V1)) (.glo 0))) (S1 .dead) .nil) (.for_ (.tup [3,4]) (.seq V1) bF) (.fset V0 136762133858116729320171 (.bi (.list false) (Ar1 V1))) (.fset V0 8355170983792620267 (.dnew true)) (.for_ (.tup [5,6,7,8]) (.seq V2) bL)
noncomputable def bO:ISs:=S4 (.expr (.meth V0 135562951883986971505394 (Ar2 V1 V2))) (.ifs (.cmp .In (.tup (Ar2 V1 V2)) (.fld V0 8355170983792620267)) (S1 .dead) .nil) (.expr (.call 32 (Ar2 V3 V4))) (.ixset (.fld V0 8355170983792620267) (.tup (Ar2 V1 V2)) (.tup (Ar2 V3 V4)))
noncomputable def aK:ISs:=S1 (.ifs (.not (.val (.meth V0 56782141471387880 (Ar1 V1)))) (S1 (.raise 2 (Ar1 (.con (.str "the world has no such hand"))))) .nil)
noncomputable def bj:ISs:=S3 (.expr (.meth V0 119080781550527859766002 (Ar1 V1))) (.expr (.meth V0 119080781550527859766002 (Ar1 V2))) (.ifs (.cmp .Eq V1 V2) (S1 .dead) .nil)
noncomputable def b8:ISs:=S1 (.ret (.bi .len (Ar1 (.fld V0 136762133858116729320171))))
noncomputable def bg:ISs:=S1 (.ret (.chain .LtE .Lt I0 V1 (.meth V0 31081607400 .nil)))
noncomputable def cy:ISs:=S1 (.ret (.cmp .In (.tup (Ar2 V1 V2)) (.fld V0 8355170983792620267)))
noncomputable def nR:ISs:=S3 .dead .dead .dead
noncomputable def cb:ISs:=S2 (.ifs (.cmp .Lt V1 (.bi .len (Ar1 V0))) (S1 (.ret (.ix V0 V1))) .nil) (.ret I0)
noncomputable def aT:ISs:=S2 (.set 3 (.bin .Mod (.bin .Add (.bin .Add (.bin .Mult V3 V3) (.bin .Mult (.con (.int 48271)) V3)) V5) (.con (.int 2147483647)))) (.ifs (.and (.cmp .NotEq V4 V5) (.cmp .Gt (.bin .Mod V3 I3) I0)) (S1 (.app V2 (.tup (Ar2 V4 V5)))) .nil)
noncomputable def cj:ISs:=S1 (.for_ (.name 5) (.rng1 V0) aT)
noncomputable def f6:ISs:=S4 (.set 2 (.lst false .nil)) (.set 3 (.bin .Add (.bin .Mod V1 (.con (.int 2147483647))) (.con (.int 48271)))) (.for_ (.name 4) (.rng1 V0) cj) (.ret (.frz V2))
noncomputable def cQ:ISs:=S6 (.set 5 (.bin .Mod (.bin .FloorDiv V4 I6) I7)) (.ifs (.or (.cmp .Lt V5 I2) (.and (.cmp .Eq V5 I2) (.cmp .Eq V2 (.lst true .nil)))) (S1 (.ret (.tup (Ar3 (.con (.str "look")) (.ix V0 I0) V1)))) .nil) (.ifs (.and (.cmp .Gt V5 I3) (.cmp .NotEq V3 (.lst true .nil))) (S1 (.ret (.tup (Ar4 (.con (.str "take")) (.ix V0 I0) V1 (.ix V3 (.bin .Mod (.bin .FloorDiv V4 (.con (.int 42))) (.bi .len (Ar1 V3)))))))) .nil) (.ifs (.cmp .NotEq V2 (.lst true .nil)) (S1 (.ret (.tup (Ar4 (.con (.str "send")) (.ix V0 I0) V1 (.ix V2 (.bin .Mod (.bin .FloorDiv V4 (.con (.int 42))) (.bi .len (Ar1 V2)))))))) .nil) (.set 6 (.bin .Sub (.bin .Mod (.bin .FloorDiv V4 (.con (.int 42))) (.bin .Pow (.con (.int 10)) (.con (.int 30)))) (.con (.int 500)))) (.ret (.tup (Ar5 (.con (.str "sight")) (.ix V0 I0) V1 V6 (.bin .Add V6 (.bin .Mod (.bin .FloorDiv V4 I5) I3)))))
noncomputable def aQ:ISs:=S10 (.set 8 (.bin .Mod V7 V0)) (.ixset V3 V8 (.bin .Add (.ix V3 V8) (.ix (.lst true (Ar4 I0 I1 (.bin .Mod (.bin .FloorDiv V7 (.con (.int 42))) (.con (.int 50))) (.bin .Mod (.bin .FloorDiv V7 (.con (.int 42))) (.bin .Pow (.con (.int 10)) (.con (.int 30)))))) (.bin .Mod (.bin .FloorDiv V7 I7) I4)))) (.set 9 (.tup (Ar2 V8 (.ix V4 V8)))) (.set 10 (.comp true ["_law_one","_law_other","_law_hand"] [none,none,some 8] (.tup [0,1]) (.seq V1) (.yes (.cmp .Eq V0 V2)) V1)) (.set 11 (.comp true ["_law_name","_law_to","_law_hand"] [none,none,some 8] (.tup [0,1]) (.seq V5) (.yes (.cmp .Eq V1 V2)) V0)) (.set 12 (.call 43 (Ar5 V9 (.ix V3 V8) V10 V11 V7))) (.ifs (.cmp .Eq (.ix V12 I0) (.con (.str "send"))) (S1 (.app V5 (.tup (Ar2 V9 (.ix V12 I3))))) .nil) (.ifs (.cmp .Eq (.ix V12 I0) (.con (.str "take"))) (S1 (.set 5 (.comp false ["_law_pair","_law_row_here"] [none,some 12] (.name 0) (.seq V5) (.yes (.cmp .NotEq (.ix V0 I0) (.ix V1 I3))) V0))) .nil) (.ixset V4 V8 (.bin .Add (.ix V4 V8) I1)) (.app V6 V12)
noncomputable def iA:ISs:=S6 (.set 3 (.comp false ["_law_k","_law_cells"] [none,some 2] (.name 0) (.rng1 V0) .no (.ifx (.cmp .Lt V0 (.bi .len (Ar1 V1))) (.bin .Sub (.bin .Mod (.ix V1 V0) (.con (.int 2001))) (.con (.int 1000))) I0))) (.set 4 (.rep false (.lst true (Ar1 I0)) V0)) (.set 5 (.lst false .nil)) (.set 6 (.lst false .nil)) (.for_ (.name 7) (.seq V2) aQ) (.ret (.frz V6))
noncomputable def bM:ISs:=S2 (.ixset V1 (.ix V3 I1) (.bin .Add (.bm .get V1 (Ar2 (.ix V3 I1) I0)) I1)) (.app V2 (.tup (Ar2 (.ix V3 I1) (.bin .Sub (.ix V1 (.ix V3 I1)) I1))))
noncomputable def eW:ISs:=S4 (.set 1 (.dnew false)) (.set 2 (.lst false .nil)) (.for_ (.name 3) (.seq V0) bM) (.ret (.frz V2))
noncomputable def fP:ISs:=S1 (.ifs (.or (.not (.val (.isB V2 .tuple))) (.cmp .Lt (.bi .len (Ar1 V2)) I3)) (S1 (.ret (.con (.bl false)))) .nil)
noncomputable def fZ:ISs:=S1 (.set 4 (.bin .Add V4 I1))
noncomputable def b9:ISs:=S3 (.whl (.and (.cmp .Lt V4 (.bi .len (Ar1 V1))) (.cmp .NotEq (.ix V3 V4) V5)) fZ) (.ifs (.or (.cmp .Eq V4 (.bi .len (Ar1 V1))) (.cmp .NotEq (.ix V1 V4) V2)) (S1 (.ret (.con (.bl false)))) .nil) (.set 4 (.bin .Add V4 I1))
noncomputable def f8:ISs:=S6 (.ifs (.not (.val (.isB V0 .list))) (S1 (.ret (.con (.bl false)))) .nil) (.for_ (.name 2) (.seq V0) fP) (.set 3 (.call 45 (Ar1 V1))) (.set 4 I0) (.for_ (.tup [2,5]) (.zip V0 (.call 45 (Ar1 V0))) b9) (.ret (.con (.bl true)))
noncomputable def ff:ISs:=S1 (.ifs (.cmp .NotIn V7 V6) (S1 (.ret (.con (.bl false)))) .nil)
noncomputable def bG:ISs:=S1 (.ixset V8 (.ix V9 I0) V9)
noncomputable def cZ:ISs:=S1 (.ifs (.and (.cmp .NotEq (.ix V9 I0) V2) (.or (.cmp .NotIn V9 V6) (.cmp .NotIn V9 V4))) (S1 (.ret (.con (.bl false)))) .nil)
noncomputable def de:ISs:=S11 (.set 3 (.comp true ["_law_name","_law_hand"] [none,some 2] (.name 0) (.seq (.call 45 (Ar1 V1))) (.yes (.cmp .Eq (.ix V0 I0) V1)) V0)) (.ifs (.cmp .Eq V3 (.lst true .nil)) (S1 (.ret (.cmp .Eq V0 (.lst true .nil)))) .nil) (.set 4 (.comp true ["_law_row_here"] [none] (.name 0) (.seq V0) (.yes (.cmp .Eq (.ix V0 I0) (.con (.str "take")))) (.ix V0 I3))) (.set 5 (.call 45 (Ar1 V0))) (.set 6 (.comp true ["_law_row_here","_law_here"] [none,none] (.tup [0,1]) (.zip V0 V5) (.yes (.cmp .Eq (.ix V0 I0) (.con (.str "send")))) V1)) (.for_ (.name 7) (.seq V4) ff) (.set 8 (.dnew false)) (.for_ (.name 9) (.seq V5) bG) (.del 8) (.for_ (.name 9) (.vals V8) cZ) (.ret (.cmp .Eq (.bm .get V8 (Ar2 V2 (.con .non))) (.ix V3 (.neg I1))))
noncomputable def dm:ISs:=S3 (.set 2 (.con (.str "told"))) (.try_ (S1 (.expr (.meth V0 27084223208 (Ar1 V1)))) (.cons 0 (some 3) (S2 (.set 2 (.con (.str "other"))) (.ifs (.and (.val (.isC V3 2)) (.not (.val (.isC V3 8)))) (S1 (.set 2 (.con (.str "none")))) .nil)) .nil)) (.ret (.cmp .Eq V2 (.con (.str "none"))))
noncomputable def bH:ISs:=S4 (.set 4 (.comp true ["_law_other","_law_row_here"] [none,some 2] (.name 0) (.seq V1) (.yes (.cmp .Eq (.ix V0 I1) (.ix V1 I1))) (.ix V0 I2))) (.ifs (.and (.cmp .Eq (.ix V2 I0) (.con (.str "take"))) (.cmp .Eq (.bin .Mod V3 I2) I0)) (S2 (.set 5 (.bin .Mod (.bin .Add (.bin .Add (.ix V2 I1) I1) (.bin .Mod (.bin .FloorDiv V3 I2) (.bin .Sub V0 I1))) V0)) (.ret (.tup (Ar4 (.con (.str "take")) V5 (.bin .Pow (.con (.int 10)) (.con (.int 40))) (.ix V2 I3))))) .nil) (.ifs (.cmp .NotEq V4 (.lst true .nil)) (S1 (.ret (.cat true (.cat true (.sl true V2 .no (.yes I2)) (.tup (Ar1 (.bin .Sub (.bin .Sub (.ix V4 (.neg I1)) I1) (.bin .Mod V3 (.bin .Pow (.con (.int 10)) I9)))))) (.sl true V2 (.yes I3) .no)))) .nil) (.ret (.cat true (.cat true (.sl true V2 .no (.yes I1)) (.tup (Ar1 V0))) (.sl true V2 (.yes I2) .no)))
noncomputable def d5:ISs:=S3 (.set 2 (.con (.str "told"))) (.try_ (S1 (.expr (.meth V0 228274932 (Ar1 V1)))) (.cons 0 none (S1 (.set 2 (.con (.str "none")))) .nil)) (.ret (.cmp .Eq V2 (.con (.str "told"))))
noncomputable def bX:ISs:=S1 (.ifs (.cmp .Lt V6 V1) (S2 (.set 7 (.meth V0 27084223208 (Ar1 V6))) (.ifs (.or (.not (.val (.call 46 (Ar2 V7 V2)))) (.not (.val (.call 47 (Ar3 V7 V2 V6))))) (S1 (.ret (.con (.bl false)))) .nil)) .nil)
noncomputable def dA:ISs:=S4 (.set 5 (.call 49 (Ar4 V1 V2 V3 V4))) (.ifs (.val (.call 50 (Ar2 V0 V5))) (S1 (.ret (.con (.bl false)))) .nil) (.for_ (.name 6) (.seq (.tup (Ar2 (.ix V3 I1) (.ix V5 I1)))) bX) (.ret (.con (.bl true)))
noncomputable def cV:ISs:=S5 (.set 4 (.meth V0 27084223208 (Ar1 V3))) (.ifs (.or (.not (.val (.call 46 (Ar2 V4 V1)))) (.not (.val (.call 47 (Ar3 V4 V1 V3))))) (S1 (.ret (.con (.bl false)))) .nil) (.set 5 (.bi (.list true) (Ar1 V4))) (.app V4 (.con .non)) (.ifs (.cmp .NotEq (.meth V0 27084223208 (Ar1 V3)) V5) (S1 (.ret (.con (.bl false)))) .nil)
noncomputable def cx:ISs:=S2 (.for_ (.name 3) (.rng1 V2) cV) (.ret (.con (.bl true)))
noncomputable def fg:ISs:=S6 (.ifs (.cmp .In V12 V8) (S3 (.ifs (.not (.val (.call 52 (Ar3 V6 (.sl true V4 .no (.yes V12)) V1)))) (S1 (.ret (.con (.bl false)))) .nil) (.app V10 (.frz (.meth V6 27084223208 (Ar1 (.bin .Mod V12 V1))))) (.app V11 (.bi (.list true) (Ar1 (.ix V10 (.neg I1)))))) .nil) (.set 13 (.con (.bl true))) (.ifs (.cmp .Eq (.bin .Mod (.bin .FloorDiv (.ix V3 V12) (.con (.int 11))) I3) I0) (S1 (.set 13 (.call 51 (Ar5 V6 V1 (.sl true V4 .no (.yes V12)) (.ix V4 V12) (.bin .FloorDiv (.ix V3 V12) (.con (.int 33))))))) .nil) (.ifs (.not (.val V13)) (S1 (.ret (.con (.bl false)))) .nil) (.expr (.meth V6 228274932 (Ar1 (.ix V4 V12)))) (.ifs (.cmp .Lt V12 V9) (S1 (.expr (.meth V7 228274932 (Ar1 (.ix V4 V12))))) .nil)
noncomputable def tR:ISs:=S14 (.set 1 (.bin .Add I1 (.bin .Mod (.call 41 (Ar2 V0 I0)) I6))) (.set 2 (.call 42 (Ar2 V1 (.bin .FloorDiv (.call 41 (Ar2 V0 I0)) I6)))) (.set 3 (.sl true V0 (.yes I3) (.yes (.con (.int 60))))) (.set 4 (.call 44 (Ar3 V1 V2 V3))) (.set 5 (.make true 7 (Ar2 (.rep true (.lst true (Ar1 (.tup (Ar2 I1 I2)))) V1) (.comp true ["_law_one","_law_other"] [none,none] (.tup [0,1]) (.seq V2) .no (.tup (Ar4 V0 V1 I0 (.con .non))))))) (.set 6 (.make false 6 (Ar1 V5))) (.set 7 (.make false 6 (Ar1 V5))) (.set 8 (.cat true (.lst true (Ar1 I0)) (.comp true ["_law_k","_law_script","_law_log_here"] [none,some 0,some 4] (.name 0) (.seq (.tup (Ar2 I1 I2))) .no (.bin .Mod (.call 41 (Ar2 V1 V0)) (.bin .Add I1 (.bi .len (Ar1 V2))))))) (.set 9 (.bin .FloorDiv (.bi .len (Ar1 V4)) I2)) (.set 10 (.lst false .nil)) (.set 11 (.lst false .nil)) (.for_ (.name 12) (.rng1 (.bi .len (Ar1 V4))) fg) (.ifs (.or (.not (.val (.call 52 (Ar3 V6 V4 V1)))) (.not (.val (.call 52 (Ar3 V7 (.sl true V4 .no (.yes V9)) V1))))) (S1 (.ret (.con (.bl false)))) .nil) (.ret (.and (.cmp .Eq V10 V11) (.and (.call 48 (Ar2 V6 V1)) (.call 48 (Ar2 V6 (.neg I1))))))
noncomputable def on:FL:=fl "is_whole" true (top 12) ["thing"] 1 gh
noncomputable def gw:FL:=fL "__init__" "Happening.__init__" false true (ak (top 14) 0) ["self","hand","reading"] 3 ay
noncomputable def kL:FL:=fL "__init__" "Look.__init__" false true (ak (top 15) 0) ["self","hand","reading"] 3 dj
noncomputable def ou:FL:=fL "row" "Look.row" false true (ak (top 15) 1) ["self"] 1 oM
noncomputable def jy:FL:=fL "__init__" "Sight.__init__" false true (ak (top 16) 0) ["self","hand","reading","early","late"] 5 cW
noncomputable def mJ:FL:=fL "row" "Sight.row" false true (ak (top 16) 1) ["self"] 1 nr
noncomputable def kl:FL:=fL "__init__" "Send.__init__" false true (ak (top 17) 0) ["self","hand","reading","to"] 4 dh
noncomputable def pp:FL:=fL "row" "Send.row" false true (ak (top 17) 1) ["self"] 1 oS
noncomputable def kD:FL:=fL "__init__" "Take.__init__" false true (ak (top 18) 0) ["self","hand","reading","letter"] 4 dB
noncomputable def pj:FL:=fL "row" "Take.row" false true (ak (top 18) 1) ["self"] 1 oW
noncomputable def lO:FL:=fl "are_wholes" true (top 19) ["things","number"] 2 eg
noncomputable def nM:FL:=fl "is_letter" true (top 20) ["thing"] 1 eY
noncomputable def mS:FL:=fl "happening" true (top 21) ["row","word"] 1 bu
noncomputable def o8:FL:=fl "count_on" true (top 23) ["counts","hand","ahead"] 2 gz
noncomputable def vo:FL:=fl "names" true (top 24) ["log","counts","told","row"] 1 mf
noncomputable def jG:FL:=fL "__init__" "Ahead.__init__" false false (ak (top 25) 0) ["self"] 1 cX
noncomputable def kF:FL:=fL "enter" "Ahead.enter" false true (ak (top 25) 1) ["self","one","name"] 2 dq
noncomputable def gU:FL:=fl "refuse_by_clock" true (top 26) ["world","ahead","one","last"] 3 bD
noncomputable def im:FL:=fl "refuse_by_kind" true (top 27) ["world","ahead","one"] 3 be
noncomputable def wu:FL:=fl "check" true (top 28) ["world","log","ahead","row","one"] 2 ms
noncomputable def vm:FL:=fl "place" true (top 29) ["log","name","where","other"] 2 lI
noncomputable def qZ:FL:=fl "last_of" true (top 30) ["log","hand","mine"] 2 fx
noncomputable def jt:FL:=fl "count_letter" true (top 31) ["counts","one","sender"] 2 aM
noncomputable def zZ:FL:=fl "past" true (top 32) ["world","log","name","where","counts","heads","other","row"] 3 pf
noncomputable def Ds:FL:=fl "cut" false (top 33) ["log","counts"] 2 tQ
noncomputable def zz:FL:=fl "view" false (top 34) ["world","log","name"] 3 ow
noncomputable def iz:FL:=fL "__init__" "Meeting.__init__" false false (ak (top 36) 0) ["self","world"] 2 bW
noncomputable def kO:FL:=fL "log" "Meeting.log" false true (ak (top 36) 1) ["self"] 1 kJ
noncomputable def f9:FL:=fL "with_row" "Meeting.with_row" false true (ak (top 36) 2) ["self","row","grown"] 2 bp
noncomputable def jv:FL:=fL "tell" "Meeting.tell" false true (ak (top 36) 3) ["self","row"] 2 bI
noncomputable def iZ:FL:=fL "heard" "Meeting.heard" false false (ak (top 36) 4) ["self","hand","last"] 2 aS
noncomputable def jW:FL:=fl "refuse_clock" true (top 39) ["short","long"] 2 cY
noncomputable def ig:FL:=fl "refuse_lengths" true (top 40) ["least","most"] 2 bT
noncomputable def jB:FL:=fL "__init__" "World.__init__" false false (ak (top 41) 0) ["self","clocks","ways","short","long","one","other","least","most"] 3 cS
noncomputable def gR:FL:=fL "enter_way" "World.enter_way" false true (ak (top 41) 1) ["self","one","other","least","most"] 5 bO
noncomputable def fK:FL:=fL "refuse_hand" "World.refuse_hand" false true (ak (top 41) 2) ["self","hand"] 2 aK
noncomputable def fM:FL:=fL "refuse_pair" "World.refuse_pair" false true (ak (top 41) 3) ["self","one","other"] 3 bj
noncomputable def kg:FL:=fL "hands" "World.hands" false true (ak (top 41) 4) ["self"] 1 b8
noncomputable def ik:FL:=fL "has_hand" "World.has_hand" false true (ak (top 41) 5) ["self","hand"] 2 bg
noncomputable def i7:FL:=fL "has_way" "World.has_way" false true (ak (top 41) 6) ["self","one","other"] 3 cy
noncomputable def nN:FL:=fL "way" "World.way" false true (ak (top 41) 8) ["self","one","other"] 3 nR
noncomputable def kI:FL:=fl "_law_cell_at" true (top 43) ["_law_script","_law_k"] 2 cb
noncomputable def oQ:FL:=fl "_law_ways" true (top 44) ["_law_hands","_law_cell","_law_ways_here","_law_number","_law_one","_law_other"] 2 f6
noncomputable def qI:FL:=fl "_law_row" true (top 45) ["_law_here","_law_reading","_law_tos","_law_letters","_law_cell","_law_kind","_law_early"] 5 cQ
noncomputable def sf:FL:=fl "_law_log" true (top 46) ["_law_hands","_law_ways_here","_law_cells","_law_readings","_law_many","_law_letters","_law_log_here","_law_cell","_law_hand","_law_here","_law_tos","_law_mine","_law_row_here"] 3 iA
noncomputable def mL:FL:=fl "_law_names" true (top 47) ["_law_log_here","_law_many","_law_found","_law_row_here"] 1 eW
noncomputable def oz:FL:=fl "_law_part" true (top 48) ["_law_found","_law_log_here","_law_row_here","_law_there","_law_at","_law_here"] 2 f8
noncomputable def nV:FL:=fl "_law_right" true (top 49) ["_law_found","_law_log_here","_law_hand","_law_own","_law_taken","_law_kept","_law_sends","_law_letter","_law_last","_law_name"] 3 de
noncomputable def kz:FL:=fl "_law_refused" true (top 50) ["_law_meeting","_law_hand","_law_word","e"] 2 dm
noncomputable def mv:FL:=fl "_law_spoilt" true (top 51) ["_law_hands","_law_log_here","_law_row_here","_law_cell","_law_last","_law_strange"] 4 bH
noncomputable def lU:FL:=fl "_law_let_by" true (top 52) ["_law_meeting","_law_row_here","_law_word"] 2 d5
noncomputable def kH:FL:=fl "_law_offered" true (top 53) ["_law_meeting","_law_hands","_law_log_here","_law_row_here","_law_cell","_law_spoilt_here","_law_hand","_law_found"] 5 dA
noncomputable def iY:FL:=fl "_law_all_right" true (top 54) ["_law_meeting","_law_log_here","_law_hands","_law_hand","_law_found","_law_kept"] 3 cx
noncomputable def l_law:FL:=fl "law" true (top 55) ["_law_script","_law_hands","_law_ways_here","_law_cells","_law_log_here","_law_made","_law_meeting","_law_beside","_law_turns","_law_half","_law_held","_law_kept","_law_k","_law_good"] 1 tR
noncomputable def L:List FL:=[on,gw,kL,ou,jy,mJ,kl,pp,kD,pj,lO,nM,mS,o8,vo,jG,kF,gU,im,wu,vm,qZ,jt,zZ,Ds,zz,iz,kO,f9,jv,iZ,jW,ig,jB,gR,fK,fM,kg,ik,i7,nN,kI,oQ,qI,sf,mL,oz,nV,kz,mv,lU,kH,iY,l_law]
noncomputable def xinT:List (Nat×Nat):=[(6,245166316)]
noncomputable def nm:NM:=⟨["DriftError","NoStretch","NoHand","NoClock","NoWay","NoHappening","Backward","NoLetter","NoName"],["Happening","Look","Sight","Send","Take","Ahead","Meeting","World"],["MOST_HANDS"],xinT⟩
noncomputable def xin(i:Nat):Option Nat:=xinT.lookup i
noncomputable def subT:List (List Bool):=[[true,false,false,false,false,false,false,false,false],[true,true,false,false,false,false,false,false,false],[true,false,true,false,false,false,false,false,false],[true,false,false,true,false,false,false,false,false],[true,false,false,false,true,false,false,false,false],[true,false,false,false,false,true,false,false,false],[true,false,false,false,false,false,true,false,false],[true,false,false,false,false,false,false,true,false],[true,false,false,false,false,false,false,false,true]]
noncomputable def sub(i j:Nat):Bool:=(subT.getD i []).getD j false
noncomputable def ksubT:List (List Bool):=[[true,false,false,false,false,false,false,false],[true,true,false,false,false,false,false,false],[true,false,true,false,false,false,false,false],[true,false,false,true,false,false,false,false],[true,false,false,false,true,false,false,false],[false,false,false,false,false,true,false,false],[false,false,false,false,false,false,true,false],[false,false,false,false,false,false,false,true]]
noncomputable def ksub(i j:Nat):Bool:=(ksubT.getD i []).getD j false
noncomputable def fokT:List (List Nat):=[[211529960,456806758904562],[211529960,456806758904562],[32709062885,213725420,211529960,456806758904562],[14324,211529960,456806758904562],[3944367338220,211529960,456806758904562],[3982741043171,65196051402355442,487284377728885],[27071920119,243136498],[136762133858116729320171,8355170983792620267]]
noncomputable def fok(i f:Nat):Bool:=(fokT.getD i []).contains f
noncomputable def mthT:List (List (Nat×Nat)):=[[],[(1964018,3)],[(1964018,5)],[(1964018,7)],[(1964018,9)],[(30815369061,16)],[(27084223208,30),(1701868,27),(228274932,29),(67483170351428855,28)],[(8774101686596482917,34),(31081607400,37),(56782141471387880,38),(535528667410664,39),(119080781550527859766002,35),(135562951883986971505394,36),(1994999,40)]]
noncomputable def mth(i m:Nat):Option Nat:=(mthT.getD i []).lookup m
noncomputable def Bg:List Nat:=[1,2,4,6,8,15,26,33]
noncomputable def ini(i:Nat):Option Nat:=Bg[i]?
noncomputable def gloT:List D:=[.int 6]
noncomputable def glo(k:Nat):D:=gloT.getD k .non
noncomputable def B(cls kls fad:Nat->Addr):WB:={ne:=9,cls:=cls,sub:=sub,nk:=8,kls:=kls,ksub:=ksub,fok:=fok,mth:=mth,ini:=ini,xin:=xin,glo:=glo,fad:=fad}
section
variable {cls kls fad:Nat->Addr}
@[simp] theorem G0:(B cls kls fad).ne=9:=rfl
@[simp] theorem Gk:(B cls kls fad).cls=cls:=rfl
@[simp] theorem FW:(B cls kls fad).sub=sub:=rfl
@[simp] theorem GR:(B cls kls fad).nk=8:=rfl
@[simp] theorem FO:(B cls kls fad).kls=kls:=rfl
@[simp] theorem Et:(B cls kls fad).ksub=ksub:=rfl
@[simp] theorem FG:(B cls kls fad).fok=fok:=rfl
@[simp] theorem Go:(B cls kls fad).mth=mth:=rfl
@[simp] theorem Ga:(B cls kls fad).ini=ini:=rfl
@[simp] theorem Gi:(B cls kls fad).xin=xin:=rfl
@[simp] theorem GE:(B cls kls fad).glo=glo:=rfl
end
@[simp] theorem DX:sub 2 0=true:=rfl
@[simp] theorem DE:sub 2 2=true:=rfl
@[simp] theorem DB:sub 2 8=false:=rfl
@[simp] theorem Gg:xin 6=some 245166316:=rfl
@[simp] theorem Gs:ini 0=some 1:=rfl
@[simp] theorem BJ:ksub 1 2=false:=rfl
@[simp] theorem Cz:ksub 1 3=false:=rfl
@[simp] theorem Cp:ksub 1 4=false:=rfl
@[simp] theorem Ag:fok 1 211529960=true:=by decide
@[simp] theorem u8:fok 1 456806758904562=true:=by decide
@[simp] theorem Gm:ini 1=some 2:=rfl
@[simp] theorem A8:ksub 2 3=false:=rfl
@[simp] theorem CD:ksub 2 4=false:=rfl
@[simp] theorem xG:fok 2 32709062885=true:=by decide
@[simp] theorem xV:fok 2 213725420=true:=by decide
@[simp] theorem zh:fok 2 211529960=true:=by decide
@[simp] theorem vb:fok 2 456806758904562=true:=by decide
@[simp] theorem Gq:ini 2=some 4:=rfl
@[simp] theorem Dh:ksub 3 2=false:=rfl
@[simp] theorem CC:ksub 3 3=true:=rfl
@[simp] theorem C1:ksub 3 4=false:=rfl
@[simp] theorem B6:fok 3 14324=true:=by decide
@[simp] theorem yN:fok 3 211529960=true:=by decide
@[simp] theorem va:fok 3 456806758904562=true:=by decide
@[simp] theorem Gv:ini 3=some 6:=rfl
@[simp] theorem Ct:ksub 4 2=false:=rfl
@[simp] theorem Co:ksub 4 3=false:=rfl
@[simp] theorem A4:ksub 4 4=true:=rfl
@[simp] theorem ve:fok 4 3944367338220=true:=by decide
@[simp] theorem yK:fok 4 211529960=true:=by decide
@[simp] theorem vc:fok 4 456806758904562=true:=by decide
@[simp] theorem FQ:ini 4=some 8:=rfl
@[simp] theorem vK:fok 5 3982741043171=true:=by decide
@[simp] theorem tE:fok 5 65196051402355442=true:=by decide
@[simp] theorem u9:fok 5 487284377728885=true:=by decide
@[simp] theorem xx:mth 5 30815369061=some 16:=by decide
@[simp] theorem GA:ini 5=some 15:=rfl
@[simp] theorem xB:fok 6 27071920119=true:=by decide
@[simp] theorem An:fok 6 243136498=true:=by decide
@[simp] theorem Gy:ini 6=some 26:=rfl
@[simp] theorem ql:fok 7 136762133858116729320171=true:=by decide
@[simp] theorem sj:fok 7 8355170983792620267=true:=by decide
@[simp] theorem F1:ini 7=some 33:=rfl
@[simp] theorem FU:glo 0=.int 6:=rfl
theorem Aq:fnm 245166316=("last" : Str):=by decide +kernel
noncomputable def T:List FB:=L.map FL.fb
theorem Eh:L.map FL.fb=T:=rfl
section
variable {B:WB}{M:MH}{Q:VK3}{E:XN}{n:Nat}
theorem oZ{x0:D}:aa T B (n+1) 0 [x0] M Q E=runF T B n gh [some x0] M Q E:=propext ⟨λh=>h.2,λh=>⟨rfl,h⟩⟩
theorem aP{x0 x1 x2:D}:aa T B (n+1) 1 [x0,x1,x2] M Q E=runF T B n ay [some x0,some x1,some x2] M Q E:=propext ⟨λh=>h.2,λh=>⟨rfl,h⟩⟩
theorem kh{x0 x1 x2:D}:aa T B (n+1) 2 [x0,x1,x2] M Q E=runF T B n dj [some x0,some x1,some x2] M Q E:=propext ⟨λh=>h.2,λh=>⟨rfl,h⟩⟩
theorem jD{x0 x1 x2 x3 x4:D}:aa T B (n+1) 4 [x0,x1,x2,x3,x4] M Q E=runF T B n cW [some x0,some x1,some x2,some x3,some x4] M Q E:=propext ⟨λh=>h.2,λh=>⟨rfl,h⟩⟩
theorem kn{x0 x1 x2 x3:D}:aa T B (n+1) 6 [x0,x1,x2,x3] M Q E=runF T B n dh [some x0,some x1,some x2,some x3] M Q E:=propext ⟨λh=>h.2,λh=>⟨rfl,h⟩⟩
theorem kG{x0 x1 x2 x3:D}:aa T B (n+1) 8 [x0,x1,x2,x3] M Q E=runF T B n dB [some x0,some x1,some x2,some x3] M Q E:=propext ⟨λh=>h.2,λh=>⟨rfl,h⟩⟩
theorem lX{x0 x1:D}:aa T B (n+1) 10 [x0,x1] M Q E=runF T B n eg [some x0,some x1] M Q E:=propext ⟨λh=>h.2,λh=>⟨rfl,h⟩⟩
theorem mQ{x0:D}:aa T B (n+1) 11 [x0] M Q E=runF T B n eY [some x0] M Q E:=propext ⟨λh=>h.2,λh=>⟨rfl,h⟩⟩
theorem db{x0:D}:aa T B (n+1) 12 [x0] M Q E=runF T B n bu [some x0,none] M Q E:=propext ⟨λh=>h.2,λh=>⟨rfl,h⟩⟩
theorem pB{x0 x1:D}:aa T B (n+1) 13 [x0,x1] M Q E=runF T B n gz [some x0,some x1,none] M Q E:=propext ⟨λh=>h.2,λh=>⟨rfl,h⟩⟩
theorem vk{x0:D}:aa T B (n+1) 14 [x0] M Q E=runF T B n mf [some x0,none,none,none] M Q E:=propext ⟨λh=>h.2,λh=>⟨rfl,h⟩⟩
theorem jq{x0:D}:aa T B (n+1) 15 [x0] M Q E=aO {toWB:=B,call:=aa T B n} cX {nx:=λ_ M'=>Q .non M',rt:=λv M'=>Q v M'} (λ_ i M'=>E i (ar M M')) [some x0] M:=propext ⟨λh=>h.2,λh=>⟨rfl,h⟩⟩
theorem ky{x0 x1:D}:aa T B (n+1) 16 [x0,x1] M Q E=runF T B n dq [some x0,some x1,none] M Q E:=propext ⟨λh=>h.2,λh=>⟨rfl,h⟩⟩
theorem gM{x0 x1 x2:D}:aa T B (n+1) 17 [x0,x1,x2] M Q E=runF T B n bD [some x0,some x1,some x2,none] M Q E:=propext ⟨λh=>h.2,λh=>⟨rfl,h⟩⟩
theorem dL{x0 x1 x2:D}:aa T B (n+1) 18 [x0,x1,x2] M Q E=runF T B n be [some x0,some x1,some x2] M Q E:=propext ⟨λh=>h.2,λh=>⟨rfl,h⟩⟩
theorem wW{x0 x1:D}:aa T B (n+1) 19 [x0,x1] M Q E=runF T B n ms [some x0,some x1,none,none,none] M Q E:=propext ⟨λh=>h.2,λh=>⟨rfl,h⟩⟩
theorem vX{x0 x1:D}:aa T B (n+1) 20 [x0,x1] M Q E=runF T B n lI [some x0,some x1,none,none] M Q E:=propext ⟨λh=>h.2,λh=>⟨rfl,h⟩⟩
theorem lF{x0 x1:D}:aa T B (n+1) 21 [x0,x1] M Q E=runF T B n fx [some x0,some x1,none] M Q E:=propext ⟨λh=>h.2,λh=>⟨rfl,h⟩⟩
theorem bN{x0 x1:D}:aa T B (n+1) 22 [x0,x1] M Q E=runF T B n aM [some x0,some x1,none] M Q E:=propext ⟨λh=>h.2,λh=>⟨rfl,h⟩⟩
theorem yA{x0 x1 x2:D}:aa T B (n+1) 23 [x0,x1,x2] M Q E=runF T B n pf [some x0,some x1,some x2,none,none,none,none,none] M Q E:=propext ⟨λh=>h.2,λh=>⟨rfl,h⟩⟩
theorem Ck{x0 x1:D}:aa T B (n+1) 24 [x0,x1] M Q E=aO {toWB:=B,call:=aa T B n} tQ {nx:=λ_ M'=>Q .non M',rt:=λv M'=>Q v M'} (λ_ i M'=>E i (ar M M')) [some x0,some x1] M:=propext ⟨λh=>h.2,λh=>⟨rfl,h⟩⟩
theorem zm{x0 x1 x2:D}:aa T B (n+1) 25 [x0,x1,x2] M Q E=aO {toWB:=B,call:=aa T B n} ow {nx:=λ_ M'=>Q .non M',rt:=λv M'=>Q v M'} (λ_ i M'=>E i (ar M M')) [some x0,some x1,some x2] M:=propext ⟨λh=>h.2,λh=>⟨rfl,h⟩⟩
theorem iF{x0 x1:D}:aa T B (n+1) 26 [x0,x1] M Q E=aO {toWB:=B,call:=aa T B n} bW {nx:=λ_ M'=>Q .non M',rt:=λv M'=>Q v M'} (λ_ i M'=>E i (ar M M')) [some x0,some x1] M:=propext ⟨λh=>h.2,λh=>⟨rfl,h⟩⟩
theorem gv{x0 x1:D}:aa T B (n+1) 28 [x0,x1] M Q E=runF T B n bp [some x0,some x1,none] M Q E:=propext ⟨λh=>h.2,λh=>⟨rfl,h⟩⟩
theorem eJ{x0 x1:D}:aa T B (n+1) 29 [x0,x1] M Q E=runF T B n bI [some x0,some x1] M Q E:=propext ⟨λh=>h.2,λh=>⟨rfl,h⟩⟩
theorem cz{x0 x1:D}:aa T B (n+1) 30 [x0,x1] M Q E=aO {toWB:=B,call:=aa T B n} aS {nx:=λ_ M'=>Q .non M',rt:=λv M'=>Q v M'} (λ_ i M'=>E i (ar M M')) [some x0,some x1,none] M:=propext ⟨λh=>h.2,λh=>⟨rfl,h⟩⟩
theorem jE{x0 x1:D}:aa T B (n+1) 31 [x0,x1] M Q E=runF T B n cY [some x0,some x1] M Q E:=propext ⟨λh=>h.2,λh=>⟨rfl,h⟩⟩
theorem iC{x0 x1:D}:aa T B (n+1) 32 [x0,x1] M Q E=runF T B n bT [some x0,some x1] M Q E:=propext ⟨λh=>h.2,λh=>⟨rfl,h⟩⟩
theorem j6{x0 x1 x2:D}:aa T B (n+1) 33 [x0,x1,x2] M Q E=aO {toWB:=B,call:=aa T B n} cS {nx:=λ_ M'=>Q .non M',rt:=λv M'=>Q v M'} (λ_ i M'=>E i (ar M M')) [some x0,some x1,some x2,none,none,none,none,none,none] M:=propext ⟨λh=>h.2,λh=>⟨rfl,h⟩⟩
theorem gQ{x0 x1 x2 x3 x4:D}:aa T B (n+1) 34 [x0,x1,x2,x3,x4] M Q E=runF T B n bO [some x0,some x1,some x2,some x3,some x4] M Q E:=propext ⟨λh=>h.2,λh=>⟨rfl,h⟩⟩
theorem cG{x0 x1:D}:aa T B (n+1) 35 [x0,x1] M Q E=runF T B n aK [some x0,some x1] M Q E:=propext ⟨λh=>h.2,λh=>⟨rfl,h⟩⟩
theorem fO{x0 x1 x2:D}:aa T B (n+1) 36 [x0,x1,x2] M Q E=runF T B n bj [some x0,some x1,some x2] M Q E:=propext ⟨λh=>h.2,λh=>⟨rfl,h⟩⟩
theorem fV{x0:D}:aa T B (n+1) 37 [x0] M Q E=runF T B n b8 [some x0] M Q E:=propext ⟨λh=>h.2,λh=>⟨rfl,h⟩⟩
theorem dC{x0 x1:D}:aa T B (n+1) 38 [x0,x1] M Q E=runF T B n bg [some x0,some x1] M Q E:=propext ⟨λh=>h.2,λh=>⟨rfl,h⟩⟩
theorem i5{x0 x1 x2:D}:aa T B (n+1) 39 [x0,x1,x2] M Q E=runF T B n cy [some x0,some x1,some x2] M Q E:=propext ⟨λh=>h.2,λh=>⟨rfl,h⟩⟩
theorem fU{x0 x1:D}:aa T B (n+1) 41 [x0,x1] M Q E=runF T B n cb [some x0,some x1] M Q E:=propext ⟨λh=>h.2,λh=>⟨rfl,h⟩⟩
theorem pi{x0 x1:D}:aa T B (n+1) 42 [x0,x1] M Q E=runF T B n f6 [some x0,some x1,none,none,none,none] M Q E:=propext ⟨λh=>h.2,λh=>⟨rfl,h⟩⟩
theorem fv{x0 x1 x2 x3 x4:D}:aa T B (n+1) 43 [x0,x1,x2,x3,x4] M Q E=runF T B n cQ [some x0,some x1,some x2,some x3,some x4,none,none] M Q E:=propext ⟨λh=>h.2,λh=>⟨rfl,h⟩⟩
theorem se{x0 x1 x2:D}:aa T B (n+1) 44 [x0,x1,x2] M Q E=runF T B n iA [some x0,some x1,some x2,none,none,none,none,none,none,none,none,none,none] M Q E:=propext ⟨λh=>h.2,λh=>⟨rfl,h⟩⟩
theorem nX{x0:D}:aa T B (n+1) 45 [x0] M Q E=runF T B n eW [some x0,none,none,none] M Q E:=propext ⟨λh=>h.2,λh=>⟨rfl,h⟩⟩
theorem o5{x0 x1:D}:aa T B (n+1) 46 [x0,x1] M Q E=runF T B n f8 [some x0,some x1,none,none,none,none] M Q E:=propext ⟨λh=>h.2,λh=>⟨rfl,h⟩⟩
theorem iJ{x0 x1 x2:D}:aa T B (n+1) 47 [x0,x1,x2] M Q E=runF T B n de [some x0,some x1,some x2,none,none,none,none,none,none,none] M Q E:=propext ⟨λh=>h.2,λh=>⟨rfl,h⟩⟩
theorem kM{x0 x1:D}:aa T B (n+1) 48 [x0,x1] M Q E=runF T B n dm [some x0,some x1,none,none] M Q E:=propext ⟨λh=>h.2,λh=>⟨rfl,h⟩⟩
theorem d8{x0 x1 x2 x3:D}:aa T B (n+1) 49 [x0,x1,x2,x3] M Q E=runF T B n bH [some x0,some x1,some x2,some x3,none,none] M Q E:=propext ⟨λh=>h.2,λh=>⟨rfl,h⟩⟩
theorem my{x0 x1:D}:aa T B (n+1) 50 [x0,x1] M Q E=runF T B n d5 [some x0,some x1,none] M Q E:=propext ⟨λh=>h.2,λh=>⟨rfl,h⟩⟩
theorem kN{x0 x1 x2 x3 x4:D}:aa T B (n+1) 51 [x0,x1,x2,x3,x4] M Q E=runF T B n dA [some x0,some x1,some x2,some x3,some x4,none,none,none] M Q E:=propext ⟨λh=>h.2,λh=>⟨rfl,h⟩⟩
theorem i6{x0 x1 x2:D}:aa T B (n+1) 52 [x0,x1,x2] M Q E=runF T B n cx [some x0,some x1,some x2,none,none,none] M Q E:=propext ⟨λh=>h.2,λh=>⟨rfl,h⟩⟩
theorem Dn{x0:D}:aa T B (n+1) 53 [x0] M Q E=runF T B n tR [some x0,none,none,none,none,none,none,none,none,none,none,none,none,none] M Q E:=propext ⟨λh=>h.2,λh=>⟨rfl,h⟩⟩
end
theorem top_mk{P:Params}{h:Heap}{mg:Str->Option Value}(X:(HD.K P).In h)(Gn:h.Ns mainGlobals mg)
  {qt0:Tok}
  (gl0:PySem.W.nsIn (HD.K P) mainGlobals "MOST_HANDS"=some (some (.int (6) qt0)))
  {h6:Addr}{xod6 xan6:Option Addr}{xsl6:Array (Option Value)}{xoc6 xkV6 xdc6 xpm6 xcd6 xct6:Value}
  (x6:di (HD.K P) 111=true)
  (xi6:PySem.W.findIn (HD.K P) (.ref 111) "__init__"=some (some (.ref h6)))
  (xl6:(HD.K P).lookup h6=some ⟨xoc6,xod6,.func (PySem.W.fnOf "__init__" "Backward.__init__" (cg (ak (top 8) 0)) (bb (ak (top 8) 0)) (az (ak (top 8) 0)) .none xkV6 xdc6 xpm6 xan6 xcd6 xct6),xsl6⟩)
  {xtx6:Str}{xj6:Nat}{xpx6 xap6 xp16 xp26 xcp6 xp36 xp46 xp56 xp66 xp76 xp86 xp96:Pos}
  (xw6:bb (ak (top 8) 0)=[.Expr (.Call (.Attribute (.Name "DriftError" xpx6) "__init__" xap6) [.Name "self" xp16,.Constant (.str xtx6) xj6 xp26] [] xcp6) xp36,.Assign [.Attribute (.Name "self" xp46) "last" xp56] (.Name "last" xp66) xp76])
  (xz6:tO "self" "last" "DriftError" (az (ak (top 8) 0)) xap6 xcp6=true)
  (xd6:PySem.W.codeIn (HD.K P) xcd6 "Backward.__init__"=true)
  (xk6:PySem.W.keepIn (HD.K P) (.ref h6)=true)
  (xt6:PySem.W.typeIn (HD.K P) (.ref h6)=some (.type "function"))
  : ∃cls kls fad,Top (HD.K P) mg L nm (B cls kls fad):=by
 refine⟨λi=>([31,44,56,68,80,92,111,123,135]:List Nat).getD i 0,λi=>([161,196,229,262,295,354,483,574]:List Nat).getD i 0,λi=>([144,158,179,186,212,219,245,252,278,285,302,309,316,323,330,344,351,365,372,379,386,391,398,405,410,417,431,438,445,452,459,494,501,515,522,529,536,543,550,557,571,585,592,599,604,611,618,623,630,635,642,649,656,661]:List Nat).getD i 0,Top.of (fT:=fokT) (mT:=mthT) (iT:=Bg) X Gn (by kernel_rfl) (by kernel_rfl) (by kernel_rfl) (ixc (n1 (by intros;rfl)) (ixc (n3 (by intros;rfl)) (ixc (n3 (by intros;rfl)) (ixc (n1 (by intros;rfl)) (ixc (n5 (by intros;rfl)) (ixc (n1 (by intros;rfl)) (ixc (n4 (by intros;rfl)) (ixc (n1 (by intros;rfl)) (ixc (n4 (by intros;rfl)) (ixc (n1 (by intros;rfl)) (ixc (n2 (by intros;rfl)) (ixc (n1 (by intros;rfl)) (ixc (n1 (by intros;rfl)) (ixc (n2 (by intros;rfl)) (ixc (n1 (by intros;rfl)) (ixc (n1 (by intros;rfl)) (ixc (n2 (by intros;rfl)) (ixc (n3 (by intros;rfl)) (ixc (n3 (by intros;rfl)) (ixc (n2 (by intros;rfl)) (ixc (n2 (by intros;rfl)) (ixc (n2 (by intros;rfl)) (ixc (n2 (by intros;rfl)) (ixc (n3 (by intros;rfl)) (ixc (n2 (by intros;rfl)) (ixc (n3 (by intros;rfl)) (ixc (n2 (by intros;rfl)) (ixc (n1 (by intros;rfl)) (ixc (n2 (by intros;rfl)) (ixc (n2 (by intros;rfl)) (ixc (n2 (by intros;rfl)) (ixc (n2 (by intros;rfl)) (ixc (n2 (by intros;rfl)) (ixc (n3 (by intros;rfl)) (ixc (n5 (by intros;rfl)) (ixc (n2 (by intros;rfl)) (ixc (n3 (by intros;rfl)) (ixc (n1 (by intros;rfl)) (ixc (n2 (by intros;rfl)) (ixc (n3 (by intros;rfl)) (ixc (n3 (by intros;rfl)) (ixc (n2 (by intros;rfl)) (ixc (n2 (by intros;rfl)) (ixc (n5 (by intros;rfl)) (ixc (n3 (by intros;rfl)) (ixc (n1 (by intros;rfl)) (ixc (n2 (by intros;rfl)) (ixc (n3 (by intros;rfl)) (ixc (n2 (by intros;rfl)) (ixc (n4 (by intros;rfl)) (ixc (n2 (by intros;rfl)) (ixc (n5 (by intros;rfl)) (ixc (n3 (by intros;rfl)) (ixc (n1 (by intros;rfl)) (ixn))))))))))))))))))))))))))))))))))))))))))))))))))))))) (by kernel_rfl) (by kernel_rfl) (by kernel_rfl) (by kernel_rfl) (λ_ _=>rfl) (λ_ _=>rfl) (λ_=>rfl) (by kernel_rfl) ?_ ?_ ?_ (A7 (by kernel_rfl))⟩
 ·intro k x hi
  match k,hi with
  |0,hi=>cases hi;exact⟨_,.int (6),PySem.W.mg_of X Gn gl0,⟨_,rfl⟩,λH=>rfl⟩
  |n+1,hi=>simp[nm]at hi
 ·intro i f hx;have hx:=cU (show [(6,245166316)].lookup i=some f from hx);simp only[Hj,Prod.mk.injEq,HI,or_false]at hx;rcases hx with ⟨rfl,rfl⟩
  ·refine⟨rfl,h6,_,["self","last"],?_,.all ((zG (st:=ak (top 8) 0) xl6 xd6 xk6).bindsE λ_ _ _ _ _ _=>usS λ_=>usS λ_=>us0 rfl),λP w base=>?_⟩<;>rw[Aq]
   ·exact⟨x6,xi6,xt6,by kernel_rfl,by kernel_rfl,by kernel_rfl,by kernel_rfl,by kernel_rfl⟩
   ·exact AV xw6 xz6 xl6 xd6 (PySem.W.mg_of X Gn (v:=.ref 31) (by kernel_rfl)) ⟨by kernel_rfl,by kernel_rfl,by kernel_rfl⟩ ⟨x6,xi6,xt6,by kernel_rfl,by kernel_rfl,by kernel_rfl,by kernel_rfl,by kernel_rfl⟩
 ·intro i f hi hx;have hx:=cU (show [(6,245166316)].lookup i=some f from hx);simp only[Hj,Prod.mk.injEq,HI,or_false]at hx;rcases hx with ⟨rfl,rfl⟩
  ·show PySem.W.findIn (HD.K P) (.ref 111) (fnm 245166316)=some none
   kernel_rfl
end G
namespace G
open L2
section
variable {cls kls fad:Nat->PySem.Addr}{M:MH}{Q:VK3}{E:XN}{n:Nat}{p q d:PySem.Addr}{cl ds:List D}{ks:List (List Int)}
noncomputable abbrev fC:Nat:=136762133858116729320171
noncomputable abbrev fW:Nat:=8355170983792620267
structure Wd (kls:Nat->PySem.Addr)(M:MH)(p q d:PySem.Addr)(cl:List D) (ks:List (List Int)) (ds:List D):Prop where
 ip:M p=some (.ins 7 (kls 7) [fC,fW] [.ref q,.ref d])
 iq:M q=some (.lst cl)
 id:M d=some (.dt ks ds)
theorem C4(h:Wd kls M p q d cl ks ds):bY (B cls kls fad) fC (.ref p) M Q=Q (.ref q) M:=by
 simp[bY,h.ip,gx,fC,fW]
theorem xI(h:Wd kls M p q d cl ks ds):bY (B cls kls fad) fW (.ref p) M Q=Q (.ref d) M:=by
 simp[bY,h.ip,gx,fC,fW]
theorem g8{m f:Nat}{R:Nat->Prop}(h:Wd kls M p q d cl ks ds)(hm:mth 7 m=some f)(h1:fC≠m)(h2:fW≠m):bz (B cls kls fad) m (.ref p) M R=R f:=by
 simp[bz,h.ip,hm,h1,h2,dn]
theorem wV(h:Wd kls M p q d cl ks ds):aa T (B cls kls fad) (n+1) 37 [.ref p] M Q E=Q (.int cl.length) M:=by
 simp[fV,b8,C4 h];simp[rBi,ai,aD,h.iq]
theorem oH{i:Int}(h:Wd kls M p q d cl ks ds):aa T (B cls kls fad) (n+2) 38 [.ref p,.int i] M Q E=Q (.bl (decide (0<=i)&&decide (i<cl.length))) M:=by
 simp[dC,bg];by_cases h0:0<=i
 ·simp[h0];rw[g8 h (f:=37) (by decide) (by decide) (by decide),wV h]
  simp
 ·simp[h0]
noncomputable def okH(n:Nat)(i:Int):Bool:=decide (0<=i)&&decide (i<n)
theorem fY{i:Int}(h:Wd kls M p q d cl ks ds)(ho:okH cl.length i=true):aa T (B cls kls fad) (n+3) 35 [.ref p,.int i] M Q E=Q .non M:=by
 simp[cG,aK];rw[g8 h (f:=38) (by decide) (by decide) (by decide),oH h]
 unfold okH at ho;rw[ho];simp
theorem kA{i j:Int}(h:Wd kls M p q d cl ks ds)(h1:okH cl.length i=true)(h2:okH cl.length j=true)(h3:i≠j):aa T (B cls kls fad) (n+4) 36 [.ref p,.int i,.int j] M Q E=Q .non M:=by
 simp[fO,bj];rw[g8 h (f:=35) (by decide) (by decide) (by decide),fY h h1]
 rw[g8 h (f:=35) (by decide) (by decide) (by decide),fY h h2]
 simp[h3]
noncomputable def v8(l:Int)(m:Option Int):Bool:=decide (l<0)||(match m with|some m=>decide (m<l)|none=>false)
theorem rZ{l:Int}{m:Option Int}(hb:v8 l m=false):aa T (B cls kls fad) (n+1) 32 [.int l,oi m] M Q E=Q .non M:=by
 simp only[v8,Bool.or_eq_false_iff,decide_eq_false_iff_not]at hb;simp only[iC,bT];cases m with
 |none=>simp[hb.1,oi]
 |some m=>
  have h2:¬ m<l:=of_decide_eq_false hb.2;simp[hb.1,h2,oi]
noncomputable def w6(p:Int×Int):Bool:=decide (p.1<1)||decide (p.2<p.1)
theorem xj{a b:Int}(hb:w6 (a,b)=false):aa T (B cls kls fad) (n+1) 31 [.int a,.int b] M Q E=Q .non M:=by
 simp only[w6,Bool.or_eq_false_iff,decide_eq_false_iff_not]at hb;simp[jE,cY,hb.1,hb.2]
theorem Cd{i j:Int}(h:Wd kls M p q d cl ks ds)(hl:ks.length=ds.length):aq .In (.tup [.int i,.int j]) (.ref d) M Q=Q (.bl (decide ([i,j]∈ks))) M:=by
 have e:(getD ks ds [i,j]).isSome=decide ([i,j]∈ks):=by
  clear h
  induction ks generalizing ds with
  |nil=>cases ds<;>simp[getD]
  |cons k ks ih=>
   cases ds with
   |nil=>simp at hl
   |cons x ds=>
    simp only[getD];by_cases e:k=[i,j]
    ·simp[e]
    ·rw[Hc e,ih (by simpa using hl)]
     simp[He e]
 simp[aq,lJ,aD,ai,h.id,iy,fN,iw,kE,fX,e]
theorem mZ{k:List Int}:∀{ks:List (List Int)},k∉ks->aj ks k=ks++[k]
 |[],_=>rfl
 |a::ks,h=>by
  have h1:a≠k:=λe=>h (by simp[e])
  have h2:k∉ks:=λe=>h (by simp[e])
  simp[aj,h1,mZ h2]
noncomputable def way(l:Int)(m:Option Int):D:=.tup [.int l,oi m]
theorem vd{i j l:Int}{m:Option Int}(h:Wd kls M p q d cl ks ds)(hl:ks.length=ds.length)(hz:ks.length<1000)(h1:okH cl.length i=true)(h2:okH cl.length j=true)(h3:i≠j)(h4:[i,j]∉ks)(h5:v8 l m=false):aa T (B cls kls fad) (n+5) 34 [.ref p,.int i,.int j,.int l,oi m] M Q E=Q .non (put M d (.dt (aj ks [i,j]) (am ks ds [i,j] (way l m)))):=by
 have hs:ks.length<PySem.sizeLine:=Ho hz (by decide)
 simp[gQ,bO];rw[g8 h (f:=36) (by decide) (by decide) (by decide),kA h h1 h2 h3]
 simp[aH];rw[show bY (B cls kls fad) 8355170983792620267 (.ref p) M _=_ from xI h];rw[Cd h hl];simp[h4];rw[rZ h5];rw[show bY (B cls kls fad) 8355170983792620267 (.ref p) M _=_ from xI h];simp[bJ,h.id,kE,fX,hs,cT h.id,way]
noncomputable def cD(p:Int×Int):D:=.tup [.int p.1,.int p.2]
structure Wy where
 i:Int
 j:Int
 l:Int
 m:Option Int
noncomputable def wD(w:Wy):D:=.tup [.int w.i,.int w.j,.int w.l,oi w.m]
theorem eN{M:MH}{a b:PySem.Addr}{x y z:DO}(h:a≠b):put (put (put M a x) b y) a z=put (put M a z) b y:=by
 funext c;unfold put;by_cases h1:c=a
 ·subst h1;simp[h]
 ·simp[h1]
theorem hV{M:MH}{a b c:PySem.Addr}{x y w z:DO}(h:a≠b)(h':a≠c):put (put (put (put M a x) b y) c w) a z=put (put (put M a z) b y) c w:=by
 funext e;unfold put;by_cases h1:e=a
 ·subst h1;simp[h,h']
 ·simp[h1]
theorem fJ{R:MH->Prop}{f:Nat}{y:D}{i:Nat}{C:PySem.Addr}{ns:List Nat}{es:List D}(h:M p=some (.ins i C ns es)):eI (B cls kls fad) f y R (.ref p) M=((C=(B cls kls fad).kls i/\i<(B cls kls fad).nk/\(B cls kls fad).fok i f=true/\ns.length<1000)/\R (put M p (.ins i C (cm f ns) (cr f y ns es)))):=by
 simp[eI,h]
noncomputable def pr(w:Wy):List Int:=[w.i,w.j]
noncomputable def wv(w:Wy):D:=way w.l w.m
structure Wy.good (n:Nat)(w:Wy):Prop where
 i:okH n w.i=true
 j:okH n w.j=true
 ne:w.i≠w.j
 l:v8 w.l w.m=false
theorem nH{k:List Int}{v:D}:∀{ks:List (List Int)}{ds:List D},ks.length=ds.length->k∉ks->am ks ds k v=ds++[v]
 |[],[],_,_=>rfl
 |a::ks,e::ds,hl,h=>by
  have h1:a≠k:=λz=>h (by simp[z])
  have h2:k∉ks:=λz=>h (by simp[z])
  simp[am,h1,nH (by simpa using hl) h2]
theorem lg{S:MH->Prop}(hS:S M){De:Ends3}{ES:St3->XN}{R:Prop}{x0 x1 x2 x5 x6 x7 x8:Option D}:∀(cks:List (Int×Int)) (x3 x4:Option D),(∀c∈cks,w6 c=false)->(∀x y,De.nx [x0,x1,x2,x,y,x5,x6,x7,x8] M=R)->
  aY ⟨(B cls kls fad),aa T (B cls kls fad) (n+1)⟩ (.tup [3,4]) bF ES S De (cks.map cD) [x0,x1,x2,x3,x4,x5,x6,x7,x8] M=R
 |[],x3,x4,_,hR=>by simp[aX,hR,hS]
 |(c1,c2)::r,x3,x4,hc,hR=>by
  have ih:=lg hS (De:=De) (ES:=ES) (R:=R) (x0:=x0) (x1:=x1) (x2:=x2) (x5:=x5) (x6:=x6) (x7:=x7) (x8:=x8) r (some (.int c1)) (some (.int c2)) (λc h=>hc c (Hb _ h)) hR
  have h':=hc (c1,c2) Hf;rw[Hl,av];simp only[bF,cD]at ih ⊢;rw[<-ih];simp[xj,h',hS]
theorem jS{S:MH->Prop}{Mb:MH}(hS:∀ks ds,S (put Mb d (.dt ks ds)))(hw:∀ks ds,Wd kls (put Mb d (.dt ks ds)) p q d cl ks ds){De:Ends3}{ES:St3->XN}{R:Prop}{x1 x2 x3 x4:Option D}:∀(wy:List Wy) (ks:List (List Int)) (ds:List D)(x5 x6 x7 x8:Option D),ks.length=ds.length->ks.length+wy.length<500->
  (∀w∈wy,w.good cl.length)->(wy.map pr).Nodup->(∀w∈wy,pr w∉ks)->(∀x5 x6 x7 x8,De.nx [some (.ref p),x1,x2,x3,x4,x5,x6,x7,x8] (put Mb d (.dt (ks++wy.map pr) (ds++wy.map wv)))=R)->
  aY ⟨(B cls kls fad),aa T (B cls kls fad) (n+5)⟩ (.tup [5,6,7,8]) bL ES S De (wy.map wD) [some (.ref p),x1,x2,x3,x4,x5,x6,x7,x8] (put Mb d (.dt ks ds))=R
 |[],ks,ds,x5,x6,x7,x8,hl,hz,hg,hn,hk,hR=>by
  have:=hR x5 x6 x7 x8;simp at this;simp[aX,this,hS]
 |w::r,ks,ds,x5,x6,x7,x8,hl,hz,hg,hn,hk,hR=>by
  simp only[HA]at hz;have g:=hg w Hf;have hin:[w.i,w.j]∉ks:=hk w Hf;rw[Hl,HF]at hn;have ih:=jS hS hw (De:=De) (ES:=ES) (R:=R) (x1:=x1) (x2:=x2) (x3:=x3) (x4:=x4) r (ks++[[w.i,w.j]]) (ds++[way w.l w.m]) (some (.int w.i)) (some (.int w.j)) (some (.int w.l)) (some (oi w.m)) (by simp[hl]) (by simp;omega) (λv hv=>hg v (Hb _ hv)) hn.2 (λv hv=>by
   intro z;rcases HU.mp z with z|z
   ·exact hk v (Hb _ hv) z
   ·exact hn.1 (by rw[show pr w=pr v from (HY.mp z).symm];exact List.mem_map_of_mem hv)) (λa b c e=>by
    have:=hR a b c e;simpa [pr,wv] using this)
  rw[Hl,av];simp only[bL,wD]at ih ⊢;have h1:okH cl.length w.i=true/\okH cl.length w.j=true/\w.i≠w.j:=⟨g.i,g.j,g.ne⟩;simp[vy,hS];rw[g8 (hw ks ds) (f:=34) (by decide) (by decide) (by decide),vd (hw ks ds) hl (by omega) g.i g.j g.ne hin g.l,bP,mZ hin,nH hl hin]
  simpa using ih
noncomputable def wO(kls:Nat->PySem.Addr)(cks:List (Int×Int))(wy:List Wy):D:=.obj 7 (kls 7) [fC,fW] [.rol (cks.map cD),.dit (wy.map pr) (wy.map wv)]
theorem vn{cks:List (Int×Int)}{wy:List Wy}(hM:Fm M)(h1:1<=cks.length)(h6:cks.length<=6)(hc:∀c∈cks,w6 c=false)(h2:wy.length<400)(hw1:∀w∈wy,w.good cks.length)(hn:(wy.map pr).Nodup) :
  (∀p,M p=none->aa T (B cls kls fad) (n+6) 33 [.ref p,.rol (cks.map cD),.rol (wy.map wD)] (put M p (.ins 7 (kls 7) [] [])) (λv M2=>v=.non/\aU Q (.ref p) M2) (λi M'=>E i (del M' p)))=Q (wO kls cks wy) M:=by
 refine aw hM λp hp=>?_
 have hz:cks.length<=PySem.sizeLine:=Hw (show cks.length<=1000 by omega) (by decide)
 have hB:¬ (cks.length:Int)<1:=by omega
 have hC:¬ (6:Int)<cks.length:=by omega
 have hB':¬ cks.length<1:=by omega
 have hC':¬ 6<cks.length:=by omega
 have hne:¬ cks=[]:=λz=>by simp[z]at h1
 simp[j6,cS,hB,hC,hB',hC',hne];refine iff_of_eq (lg (S:=λ_=>True) trivial cks none none hc λx y=>?_)
 simp[rBi,aD,ai,hz];refine iff_of_eq (aw (hM.put _ _) λq hq=>?_)
 obtain⟨hqp,hq⟩:=aG hq;rw[show eI (B cls kls fad) 136762133858116729320171 (.ref q) _ (.ref p) (put (put M p (.ins 7 (kls 7) [] [])) q (.lst (cks.map cD)))=_ from fJ (by rw[ah (He hqp),af])]
 simp;rw[eN (He hqp)];refine iff_of_eq (aw ((hM.put _ _).put _ _) λd hd=>?_)
 obtain⟨hdq,hd⟩:=aG hd;obtain⟨hdp,hd⟩:=aG hd;rw[show eI (B cls kls fad) 8355170983792620267 (.ref d) _ (.ref p) (put (put (put M p (.ins 7 (kls 7) [136762133858116729320171] [.ref q])) q (.lst (cks.map cD))) d (.dt [] []))=_ from fJ (by rw[ah (He hdp),ah (He hqp),af])]
 simp;rw[hV (He hqp) (He hdp)];have hw:∀ks ds,Wd kls (put (put (put M p (.ins 7 (kls 7) [fC,fW] [.ref q,.ref d])) q (.lst (cks.map cD))) d (.dt ks ds)) p q d (cks.map cD) ks ds:=λks ds=>
  ⟨by rw[ah (He hdp),ah (He hqp),af],by rw[ah (He hdq),af],af⟩
 refine iff_of_eq (jS (S:=λ_=>True) (λks ds=>trivial) hw wy [] [] none none none none rfl (by simp;omega) (by simpa using hw1) hn (λw _ z=>by cases z) λx5 x6 x7 x8=>?_)
 rw[List.nil_append,List.nil_append];simp only[aU];rw[(hw _ _).ip];simp only[eD];have e1:∀ks' ds',del (put (put (put M p (.ins 7 (kls 7) [fC,fW] [.ref q,.ref d])) q (.lst (cks.map cD))) d (.dt ks' ds')) p q=some (.lst (cks.map cD)):=λks' ds'=>by
  unfold del;rw[Hc hqp];exact (hw ks' ds').iq
 rw[e1];have e2:∀ks' ds',del (del (put (put (put M p (.ins 7 (kls 7) [fC,fW] [.ref q,.ref d])) q (.lst (cks.map cD))) d (.dt ks' ds')) p) q d=some (.dt ks' ds'):=λks' ds'=>by
  unfold del;rw[Hc hdq,Hc hdp];exact (hw ks' ds').id
 simp only[e2];have e3:∀ks' ds',del (del (del (put (put (put M p (.ins 7 (kls 7) [fC,fW] [.ref q,.ref d])) q (.lst (cks.map cD))) d (.dt ks' ds')) p) q) d=M:=λks' ds'=>by
  funext a;unfold del put;by_cases a1:a=d
  ·subst a1;simp[hd]
  ·by_cases a2:a=q
   ·subst a2;simp[hq,a1]
   ·by_cases a3:a=p
    ·subst a3;simp[hp,a1,a2]
    ·simp[a1,a2,a3]
 rw[e3];rfl
theorem oo(ns:List Int)(k:Nat):∃x:Int,∀{n:Nat}{M:MH}{Q:VK3}{E:XN},aa T (B cls kls fad) (n+1) 41 [scr ns,.int k] M Q E=Q (.int x) M:=by
 by_cases h:k<ns.length
 ·obtain⟨x,hx⟩:=Bu (cs:=ns) (i:=k) (by omega) (by omega)
  refine⟨x,?_⟩;intro n M Q E;have h':(k:Int)<ns.length:=by omega
  simp[fU,cb,scr,bS hx,h]
 ·refine⟨0,?_⟩;intro n M Q E;simp[fU,cb,scr,h]
theorem jC(lo:Int)(k:Nat):rng lo (k+1)=.int lo::rng (lo+1) k:=by
 simp only[rng,List.range_succ_eq_map,Hl,HG];congr 1
 ·simp
 ·apply List.map_congr_left;intro i _;simp;omega
variable {cks:List (Int×Int)}{wy:List Wy}
theorem o_c:bY (B cls kls fad) 136762133858116729320171 (wO kls cks wy) M Q=Q (.rol (cks.map cD)) M:=by simp[wO,fC,fW]
theorem o_w:bY (B cls kls fad) 8355170983792620267 (wO kls cks wy) M Q=Q (.dit (wy.map pr) (wy.map wv)) M:=by simp[wO,fC,fW]
theorem o_m{m f:Nat}{R:Nat->Prop}(hm:mth 7 m=some f)(h1:fC≠m)(h2:fW≠m):bz (B cls kls fad) m (wO kls cks wy) M R=R f:=by
 simp[wO,hm,h1,h2]
theorem o1{R:Nat->Prop}:bz (B cls kls fad) 31081607400 (wO kls cks wy) M R=R 37:=o_m (by decide) (by decide) (by decide)
theorem m8:aa T (B cls kls fad) (n+1) 37 [wO kls cks wy] M Q E=Q (.int cks.length) M:=by
 simp[fV,b8,o_c]
theorem iW{i:Int}:aa T (B cls kls fad) (n+2) 38 [wO kls cks wy,.int i] M Q E=Q (.bl (okH cks.length i)) M:=by
 simp[dC,bg,okH];by_cases h0:0<=i
 ·simp[h0,o1,m8]
 ·simp[h0]
theorem eP{i:Int}:aa T (B cls kls fad) (n+3) 35 [wO kls cks wy,.int i] M Q E=if okH cks.length i=true then Q .non M else E ⟨2,none⟩ M:=by
 simp[cG,aK];rw[o_m (f:=38) (by decide) (by decide) (by decide),iW]
 cases okH cks.length i<;>simp[aH]
theorem sw{k:List Int}:∀{wy:List Wy},(getD (wy.map pr) (wy.map wv) k).isSome=decide (k∈wy.map pr)
 |[]=>by simp[getD]
 |w::r=>by
  have ih:=sw (k:=k) (wy:=r);simp only[Hl,getD];by_cases e:pr w=k
  ·simp[e]
  ·rw[Hc e,ih];simp[He e]
theorem AH{i j:Int}:aq .In (.tup [.int i,.int j]) (.dit (wy.map pr) (wy.map wv)) M Q=Q (.bl (decide ([i,j]∈wy.map pr))) M:=by
 have e:=sw (k:=[i,j]) (wy:=wy);simp[aq,lJ,aD,ai,iy,fN,iw,kE,fX,e]
theorem oU{i j:Int}:aa T (B cls kls fad) (n+1) 39 [wO kls cks wy,.int i,.int j] M Q E=Q (.bl (decide ([i,j]∈wy.map pr))) M:=by
 simp only[i5,cy];simp[aH,↓o_w,↓AH]
end
section
variable {cls kls fad:Nat->PySem.Addr}{M:MH}{Q:VK3}{E:XN}{n:Nat}{p q:PySem.Addr}{cks:List (Int×Int)}{wy:List Wy}
theorem j9{i:Int}:aa T (B cls kls fad) (n+1) 0 [.int i] M Q E=Q (.bl true) M:=by
 simp[oZ,gh]
theorem yw{a b:Int}{E:PySem.Addr->XN}(hM:Fm M):(∀p,M p=none->aa T (B cls kls fad) (n+2) 2 [.ref p,.int a,.int b] (put M p (.ins 1 (kls 1) [] [])) (λv M2=>v=.non/\aU Q (.ref p) M2) (E p))=Q (.obj 1 (kls 1) [211529960,456806758904562] [.int a,.int b]) M:=
 aw hM λp hp=>by simp[kh,dj,aP,ay,hp]
theorem xt{a b c d:Int}{E:PySem.Addr->XN}(hM:Fm M):(∀p,M p=none->aa T (B cls kls fad) (n+2) 4 [.ref p,.int a,.int b,.int c,.int d] (put M p (.ins 2 (kls 2) [] [])) (λv M2=>v=.non/\aU Q (.ref p) M2) (E p))=Q (.obj 2 (kls 2) [211529960,456806758904562,32709062885,213725420] [.int a,.int b,.int c,.int d]) M:=
 aw hM λp hp=>by simp[jD,cW,aP,ay,hp]
theorem zi{a b c:Int}{E:PySem.Addr->XN}(hM:Fm M):(∀p,M p=none->aa T (B cls kls fad) (n+2) 6 [.ref p,.int a,.int b,.int c] (put M p (.ins 3 (kls 3) [] [])) (λv M2=>v=.non/\aU Q (.ref p) M2) (E p))=Q (.obj 3 (kls 3) [211529960,456806758904562,14324] [.int a,.int b,.int c]) M:=
 aw hM λp hp=>by simp[kn,dh,aP,ay,hp]
theorem yn{a b:Int}{c:List D}{E:PySem.Addr->XN}(hM:Fm M):(∀p,M p=none->aa T (B cls kls fad) (n+2) 8 [.ref p,.int a,.int b,.tup c] (put M p (.ins 4 (kls 4) [] [])) (λv M2=>v=.non/\aU Q (.ref p) M2) (E p))=Q (.obj 4 (kls 4) [211529960,456806758904562,3944367338220] [.int a,.int b,.tup c]) M:=
 aw hM λp hp=>by simp[kG,dB,aP,ay,hp]
inductive Rw where
 |look (h r:Int)|sight (h r e l:Int)|send (h r t:Int)|take (h r a b:Int)
noncomputable def Rw.d:Rw->D
 |.look h r=>.tup [.str "look",.int h,.int r]
 |.sight h r e l=>.tup [.str "sight",.int h,.int r,.int e,.int l]
 |.send h r t=>.tup [.str "send",.int h,.int r,.int t]
 |.take h r a b=>.tup [.str "take",.int h,.int r,.tup [.int a,.int b]]
noncomputable def Rw.o(kls:Nat->PySem.Addr):Rw->D
 |.look h r=>.obj 1 (kls 1) [211529960,456806758904562] [.int h,.int r]
 |.sight h r e l=>.obj 2 (kls 2) [211529960,456806758904562,32709062885,213725420] [.int h,.int r,.int e,.int l]
 |.send h r t=>.obj 3 (kls 3) [211529960,456806758904562,14324] [.int h,.int r,.int t]
 |.take h r a b=>.obj 4 (kls 4) [211529960,456806758904562,3944367338220] [.int h,.int r,.tup [.int a,.int b]]
theorem ol{ns:List Int}{k:Int}(hM:Fm M)(hl:ns.length<1000):aa T (B cls kls fad) (n+2) 10 [.tup (ns.map D.int),.int k] M Q E=Q (.bl (decide ((ns.length:Int)=k))) M:=by
 simp[lX,eg];by_cases h:(ns.length:Int)=k
 ·simp[h,ao];rw[le (λ_=>.bl true) hM (by rw[Hm];omega) (λd hd M' hM' Q'=>by
   obtain⟨i,_,rfl⟩:=Ht.mp hd;simp[j9])]
  rw[wt (λ_=>true) (λ_ _=>rfl)]
  have:∀l:List Int,(l.all λ_=>true)=true:=λl=>HC.mpr λ_ _=>rfl
  simp[this]
 ·simp[h]
theorem yq{a b k:Int}(hM:Fm M):aa T (B cls kls fad) (n+2) 10 [.tup [.int a,.int b],.int k] M Q E=Q (.bl (decide (2=k))) M:=ol (ns:=[a,b]) hM (by simp)
theorem Ee{a b c k:Int}(hM:Fm M):aa T (B cls kls fad) (n+2) 10 [.tup [.int a,.int b,.int c],.int k] M Q E=Q (.bl (decide (3=k))) M:=ol (ns:=[a,b,c]) hM (by simp)
theorem Ea{a b c d k:Int}(hM:Fm M):aa T (B cls kls fad) (n+2) 10 [.tup [.int a,.int b,.int c,.int d],.int k] M Q E=Q (.bl (decide (4=k))) M:=ol (ns:=[a,b,c,d]) hM (by simp)
theorem sv{a b:Int}(hM:Fm M):aa T (B cls kls fad) (n+3) 11 [.tup [.int a,.int b]] M Q E=Q (.bl true) M:=by
 simp[mQ,eY,yq hM]
theorem fh(r:Rw)(hM:Fm M):aa T (B cls kls fad) (n+4) 12 [r.d] M Q E=Q (r.o kls) M:=by
 cases r with
 |look h r=>simp +decide [db,bu,Rw.d,Rw.o,whole,HT.sIx,c5,yq hM,yw hM,rO,rg,rj]
 |sight h r e l=>simp +decide [db,bu,Rw.d,Rw.o,whole,HT.sIx,c5,Ea hM,xt hM,rO,rg,rj,tL]
 |send h r t=>simp +decide [db,bu,Rw.d,Rw.o,whole,HT.sIx,c5,Ee hM,zi hM,rO,rg,rj,tL]
 |take h r a b=>simp +decide [db,bu,Rw.d,Rw.o,whole,HT.sIx,c5,yq hM,sv hM,yn hM,rO,rg,rj,tL]
end
section
variable {cls kls fad:Nat->PySem.Addr}{M:MH}{Q:VK3}{E:XN}{n:Nat}{p q a b d:PySem.Addr}{cks:List (Int×Int)}{wy:List Wy}
noncomputable abbrev fCn:Nat:=3982741043171
noncomputable abbrev fRd:Nat:=65196051402355442
noncomputable abbrev fUn:Nat:=487284377728885
structure St where
 kc:List Key
 dc:List D
 kr:List Key
 dr:List D
 ku:List (List Int)
 du:List D
noncomputable def HS(M0:MH)(a b d:PySem.Addr)(S:St):MH:=put (put (put M0 a (.dk S.kc S.dc)) b (.dk S.kr S.dr)) d (.dt S.ku S.du)
structure Ah (kls:Nat->PySem.Addr)(M0:MH)(p a b d:PySem.Addr):Prop where
 ip:M0 p=some (.ins 5 (kls 5) [fCn,fRd,fUn] [.ref a,.ref b,.ref d])
 pa:p≠a
 pb:p≠b
 pd:p≠d
 ab:a≠b
 ad:a≠d
 bd:b≠d
variable {M0:MH}{S:St}
theorem Ah.gp(h:Ah kls M0 p a b d):HS M0 a b d S p=some (.ins 5 (kls 5) [fCn,fRd,fUn] [.ref a,.ref b,.ref d]):=by
 unfold HS;rw[ah h.pd,ah h.pb,ah h.pa];exact h.ip
theorem Ah.ga(h:Ah kls M0 p a b d):HS M0 a b d S a=some (.dk S.kc S.dc):=by
 unfold HS;rw[ah h.ad,ah h.ab,af]
theorem Ah.gb(h:Ah kls M0 p a b d):HS M0 a b d S b=some (.dk S.kr S.dr):=by
 unfold HS;rw[ah h.bd,af]
theorem Ah.gd(h:Ah kls M0 p a b d):HS M0 a b d S d=some (.dt S.ku S.du):=af
theorem Ah.sa(h:Ah kls M0 p a b d){x:List Key}{y:List D}:put (HS M0 a b d S) a (.dk x y)=HS M0 a b d {S with kc:=x,dc:=y}:=by
 unfold HS;rw[hV h.ab h.ad]
theorem Ah.sb(h:Ah kls M0 p a b d){x:List Key}{y:List D}:put (HS M0 a b d S) b (.dk x y)=HS M0 a b d {S with kr:=x,dr:=y}:=by
 unfold HS;rw[eN h.bd]
theorem Ah.sd(h:Ah kls M0 p a b d){x:List (List Int)}{y:List D}:put (HS M0 a b d S) d (.dt x y)=HS M0 a b d {S with ku:=x,du:=y}:=by
 unfold HS;rw[bP]
theorem Ah.keep(h:Ah kls M0 p a b d){S':St}:ar (HS M0 a b d S) (HS M0 a b d S')=HS M0 a b d S':=by
 show ar (HS M0 a b d S) (put (put (put M0 a (.dk S'.kc S'.dc)) b (.dk S'.kr S'.dr)) d (.dt S'.ku S'.du))=_;rw[cT h.gd,cT h.gb,cT h.ga];have e:ar (HS M0 a b d S) M0=M0:=by
  funext x;unfold ar;by_cases x1:x=d
  ·subst x1;simp[h.gd]
  ·by_cases x2:x=b
   ·subst x2;simp[h.gb]
   ·by_cases x3:x=a
    ·subst x3;simp[h.ga]
    ·have:HS M0 a b d S x=M0 x:=by unfold HS;rw[ah x1,ah x2,ah x3]
     rw[this];cases M0 x<;>rfl
 rw[e];rfl
theorem Ah.fc(h:Ah kls M0 p a b d):bY (B cls kls fad) fCn (.ref p) (HS M0 a b d S) Q=Q (.ref a) (HS M0 a b d S):=by
 simp[bY,h.gp,gx,fCn,fRd,fUn]
theorem Ah.fr(h:Ah kls M0 p a b d):bY (B cls kls fad) fRd (.ref p) (HS M0 a b d S) Q=Q (.ref b) (HS M0 a b d S):=by
 simp[bY,h.gp,gx,fCn,fRd,fUn]
theorem Ah.fu(h:Ah kls M0 p a b d):bY (B cls kls fad) fUn (.ref p) (HS M0 a b d S) Q=Q (.ref d) (HS M0 a b d S):=by
 simp[bY,h.gp,gx,fCn,fRd,fUn]
noncomputable def Rw.h:Rw->Int
 |.look h _=>h
 |.sight h _ _ _=>h
 |.send h _ _=>h
 |.take h _ _ _=>h
noncomputable def Rw.r:Rw->Int
 |.look _ r=>r
 |.sight _ r _ _=>r
 |.send _ r _=>r
 |.take _ r _ _=>r
theorem uU{r:Rw}:bY (B cls kls fad) 211529960 (r.o kls) M Q=Q (.int r.h) M:=by
 cases r<;>simp[Rw.o,Rw.h]
theorem uj{r:Rw}:bY (B cls kls fad) 456806758904562 (r.o kls) M Q=Q (.int r.r) M:=by
 cases r<;>simp[Rw.o,Rw.r]
theorem p9{ks:List Key}{ds:List D}{h c:Int}(hM:M a=some (.dk ks ds))(hz:ks.length<1000)(hc:(getD ks ds (.inl h)).getD (.int 0)=.int c) :
  aa T (B cls kls fad) (n+1) 13 [.ref a,.int h] M Q E=Q (.tup [.int h,.int c]) (put M a (.dk (aj ks (.inl h)) (am ks ds (.inl h) (.int (c+1))))):=by
 have hs:ks.length<PySem.sizeLine:=Ho hz (by decide)
 simp[pB,gz,j8 hM,pM hM,hc,gY hM,hs,cT hM,aH]
noncomputable def St.step(S:St)(c:Int)(r:Rw):St:=
 let T:St:={S with kc:=aj S.kc (.inl r.h),dc:=am S.kc S.dc (.inl r.h) (.int (c+1)),kr:=aj S.kr (.inl r.h),dr:=am S.kr S.dr (.inl r.h) (.int r.r)}
 match r with
 |.send h _ t=>{T with ku:=aj S.ku [h,c],du:=am S.ku S.du [h,c] (.int t)}
 |.take _ _ i j=>{T with ku:=aF S.ku [i,j],du:=aV S.ku S.du [i,j]}
 |_=>T
def Rw.there(r:Rw)(S:St):Prop:=match r with
 |.take h _ i j=>getD S.ku S.du [i,j]=some (.int h)
 |_=>True
theorem uO{r:Rw}{c:Int}(A:Ah kls M0 p a b d)(hc:(getD S.kc S.dc (.inl r.h)).getD (.int 0)=.int c)(z1:S.kc.length<1000)(z2:S.kr.length<1000)(z3:S.ku.length<1000)(ht:r.there S) :
  aa T (B cls kls fad) (n+2) 16 [.ref p,r.o kls] (HS M0 a b d S) Q E=Q .non (HS M0 a b d (S.step c r)):=by
 have fc:=λ{S:St}{Q:VK3}=>A.fc (cls:=cls) (fad:=fad) (S:=S) (Q:=Q)
 have fr:=λ{S:St}{Q:VK3}=>A.fr (cls:=cls) (fad:=fad) (S:=S) (Q:=Q)
 have fu:=λ{S:St}{Q:VK3}=>A.fu (cls:=cls) (fad:=fad) (S:=S) (Q:=Q)
 have oh:=λ{M:MH}{Q:VK3}=>uU (cls:=cls) (fad:=fad) (kls:=kls) (M:=M) (Q:=Q) (r:=r)
 have or:=λ{M:MH}{Q:VK3}=>uj (cls:=cls) (fad:=fad) (kls:=kls) (M:=M) (Q:=Q) (r:=r)
 have cc:=λ{Q:VK3}{E:XN}=>p9 (cls:=cls) (kls:=kls) (fad:=fad) (n:=n) (Q:=Q) (E:=E) (A.ga (S:=S)) z1 hc
 have s2:S.kr.length<PySem.sizeLine:=Ho z2 (by decide)
 have s3:S.ku.length<PySem.sizeLine:=Ho z3 (by decide)
 have ix:=λ{S:St}{i:Int}{y:D}{R:MH->Prop}=>gY (i:=i) (y:=y) (R:=R) (A.gb (S:=S))
 simp only[ky,dq];simp only[fCn]at fc;simp only[fRd]at fr;simp only[fUn]at fu;simp[↓fc,↓oh,↓cc,↓fr,↓or,A.sa,↓ix,s2,A.sb];cases r with
 |look h v=>simp[Rw.o,A.keep,St.step]
 |sight h v e l=>simp[Rw.o,A.keep,St.step]
 |send h v t=>
  simp[Rw.o,↓fu,bJ,A.gd,kE,fX,s3,A.sd,A.keep,St.step,Rw.h,Rw.r]
 |take h v i j=>
  have ht':getD S.ku S.du [i,j]=some (.int h):=ht;simp[Rw.o,↓fu,tyB,fN,iw,rBm,A.gd,kE,fX,ht',A.sd,A.keep,St.step,Rw.h,Rw.r]
end
section
variable {cls kls fad:Nat->PySem.Addr}{M:MH}{Q:VK3}{E:XN}{n:Nat}{p q a b d:PySem.Addr}{cks:List (Int×Int)}{wy:List Wy}{M0:MH}{S:St}{r:Rw}
noncomputable def flK(wy:List Wy)(S:St)(r:Rw):Option XE:=match r with
 |.look ..=>none
 |.sight _ _ e l=>if l<e then some ⟨1,none⟩ else none
 |.send h _ t=>if [h,t]∈wy.map pr then none else some ⟨4,none⟩
 |.take h _ i j=>match getD S.ku S.du [i,j] with
  |some (.int l)=>if l=h then none else some ⟨7,none⟩
  |_=>some ⟨7,none⟩
noncomputable def flC(H:Nat)(S:St)(r:Rw):Option XE:=if okH H r.h=true then (match getD S.kr S.dr (.inl r.h) with
 |some (.int l)=>if r.r<l then some ⟨6,some (245166316,.int l)⟩ else none
 |_=>none) else some ⟨2,none⟩
noncomputable def flt(H:Nat)(wy:List Wy)(S:St)(r:Rw):Option XE:=match flC H S r with
 |some i=>some i
 |none=>flK wy S r
def nW(o:Option XE)(M:MH)(Q:VK3)(E:XN):Prop:=match o with
 |some i=>E i M
 |none=>Q .non M
def allI(ds:List D):Prop:=∀d∈ds,∃l:Int,d=.int l
theorem nP{κ:Type}[DecidableEq κ]{k:κ}{d:D}:∀{ks:List κ}{ds:List D},getD ks ds k=some d->d∈ds
 |[],ds,h=>by simp[getD]at h
 |q::ks,[],h=>by simp[getD]at h
 |q::ks,x::ds,h=>by
  simp only[getD]at h;split at h
  ·cases h;exact Hf
  ·exact Hb _ (nP h)
theorem allI.get{κ:Type}[DecidableEq κ]{ks:List κ}{ds:List D}(h:allI ds)(k:κ):getD ks ds k=none\/∃l:Int,getD ks ds k=some (.int l):=by
 cases e:getD ks ds k with
 |none=>exact .inl rfl
 |some d=>obtain⟨l,rfl⟩:=h d (nP e);exact .inr ⟨l,rfl⟩
theorem vN{ks:List Key}{ds:List D}{i:Int}(h:M a=some (.dk ks ds)):rBm .get (.ref a) [.int i] M Q=Q ((getD ks ds (.inl i)).getD .non) M:=by simp[rBm,iy,fN,h,mP]
theorem pL{ks:List (List Int)}{ds:List D}{i j:Int}(h:M a=some (.dt ks ds)):rBm .get (.ref a) [.tup [.int i,.int j]] M Q=Q ((getD ks ds [i,j]).getD .non) M:=by simp[rBm,iy,fN,iw,h,kE,fX]
theorem lj(A:Ah kls M0 p a b d)(hr:allI S.dr):aa T (B cls kls fad) (n+3) 17 [wO kls cks wy,.ref p,r.o kls] (HS M0 a b d S) Q E=nW (flC cks.length S r) (HS M0 a b d S) Q E:=by
 have fr:=λ{S:St}{Q:VK3}=>A.fr (cls:=cls) (fad:=fad) (S:=S) (Q:=Q)
 have oh:=λ{M:MH}{Q:VK3}=>uU (cls:=cls) (fad:=fad) (kls:=kls) (M:=M) (Q:=Q) (r:=r)
 have or:=λ{M:MH}{Q:VK3}=>uj (cls:=cls) (fad:=fad) (kls:=kls) (M:=M) (Q:=Q) (r:=r)
 have om:∀{M:MH}{R:Nat->Prop},bz (B cls kls fad) 56782141471387880 (wO kls cks wy) M R=R 38:=λ{M R}=>o_m (by decide) (by decide) (by decide)
 have hh:=λ{M:MH}{Q:VK3}{E:XN}=>iW (cls:=cls) (kls:=kls) (fad:=fad) (n:=n) (M:=M) (Q:=Q) (E:=E) (cks:=cks) (wy:=wy) (i:=r.h)
 have g1:=λ{i:Int}{Q:VK3}=>vN (i:=i) (Q:=Q) (A.gb (S:=S))
 simp only[fRd]at fr;simp only[gM,bD];unfold flC;by_cases h0:okH cks.length r.h=true
 ·rcases hr.get (ks:=S.kr) (.inl r.h:Key) with e|⟨l,e⟩
  ·simp[↓oh,↓om,↓hh,h0,↓fr,j8 (A.gb (S:=S)),↓g1,e,nW,D.isN]
  ·by_cases h1:r.r<l
   ·simp[↓oh,↓om,↓hh,h0,↓fr,j8 (A.gb (S:=S)),↓g1,e,↓or,h1,nW,D.isN,rXp,L2.cpF]
   ·simp[↓oh,↓om,↓hh,h0,↓fr,j8 (A.gb (S:=S)),↓g1,e,↓or,h1,nW,D.isN]
 ·simp[↓oh,↓om,↓hh,h0,nW,aH]
theorem jn(h:flK wy S r=none):r.there S:=by
 cases r with
 |take h' v i j=>
  dsimp only[flK]at h;show getD S.ku S.du [i,j]=some (.int h');split at h
  ·split at h
   ·rename_i e l;rw[e,l]
   ·cases h
  ·cases h
 |_=>trivial
theorem tY(A:Ah kls M0 p a b d)(hf:flK wy S r=none):aa T (B cls kls fad) (n+2) 18 [wO kls cks wy,.ref p,r.o kls] (HS M0 a b d S) Q E=Q .non (HS M0 a b d S):=by
 have fu:=λ{S:St}{Q:VK3}=>A.fu (cls:=cls) (fad:=fad) (S:=S) (Q:=Q)
 have om:∀{M:MH}{R:Nat->Prop},bz (B cls kls fad) 535528667410664 (wO kls cks wy) M R=R 39:=λ{M R}=>o_m (by decide) (by decide) (by decide)
 have hw:=λ{M:MH}{Q:VK3}{E:XN}{i j:Int}=>oU (cls:=cls) (kls:=kls) (fad:=fad) (n:=n) (M:=M) (Q:=Q) (E:=E) (cks:=cks) (wy:=wy) (i:=i) (j:=j)
 have g1:=λ{i j:Int}{Q:VK3}=>pL (i:=i) (j:=j) (Q:=Q) (A.gd (S:=S))
 have tg:tyB .get (.ref d) (HS M0 a b d S)=true:=by simp[tyB,fN,iw,A.gd]
 simp only[fUn]at fu;simp only[dL,be];cases r with
 |look h v=>simp[Rw.o]
 |sight h v e l=>
  have h1:¬ l<e:=λz=>by simp[flK,z]at hf
  simp[Rw.o,h1]
 |send h v t=>
  have h1:[h,t]∈wy.map pr:=Classical.byContradiction λz=>by simp only[flK,Hc z]at hf;cases hf
  simp[Rw.o,↓om,↓hw,h1]
 |take h v i j=>
  have e:=jn hf;simp[Rw.o,↓fu,tg,↓g1,show getD S.ku S.du [i,j]=some (.int h) from e]
theorem qR{h v i j l:Int}(A:Ah kls M0 p a b d)(e:getD S.ku S.du [i,j]=some (.int l))(h1:¬ l=h):aa T (B cls kls fad) (n+2) 18 [wO kls cks wy,.ref p,(Rw.take h v i j).o kls] (HS M0 a b d S) Q E=E ⟨7,none⟩ (HS M0 a b d S):=by
 have fu:=λ{S:St}{Q:VK3}=>A.fu (cls:=cls) (fad:=fad) (S:=S) (Q:=Q)
 have g1:=λ{i j:Int}{Q:VK3}=>pL (i:=i) (j:=j) (Q:=Q) (A.gd (S:=S))
 have tg:tyB .get (.ref d) (HS M0 a b d S)=true:=by simp[tyB,fN,iw,A.gd]
 simp only[fUn]at fu;simp only[dL,be];simp[Rw.o,↓fu,tg,↓g1,e,h1,aH]
noncomputable def bw(c:Int->Nat)(h:Int):Int->Nat:=λx=>if x=h then c x+1 else c x
structure SI (S:St)(c:Int->Nat)(m:Nat):Prop where
 l1:S.kc.length=S.dc.length
 l2:S.kr.length=S.dr.length
 l3:S.ku.length=S.du.length
 z1:S.kc.length<=m
 z2:S.kr.length<=m
 z3:S.ku.length<=m
 hc:∀h,(getD S.kc S.dc (.inl h)).getD (.int 0)=.int (c h)
 hr:allI S.dr
 hu:allI S.du
theorem nF{κ:Type}[DecidableEq κ]{k:κ}{y x:D}:∀{ks:List κ}{ds:List D},x∈am ks ds k y->x=y\/x∈ds
 |[],ds,h=>by
  cases ds<;>simp[am]at h<;>simp[h]
 |q::ks,[],h=>by simp[am]at h;exact .inl h
 |q::ks,d::ds,h=>by
  simp only[am]at h;split at h
  ·rcases Hj.mp h with h|h
   ·exact .inl h
   ·exact .inr (Hb _ h)
  ·rcases Hj.mp h with h|h
   ·exact .inr (h▸Hf)
   ·rcases nF h with h|h
    ·exact .inl h
    ·exact .inr (Hb _ h)
theorem allI.put{κ:Type}[DecidableEq κ]{ks:List κ}{ds:List D}(h:allI ds){k:κ}{i:Int}:allI (am ks ds k (.int i)):=λd hd=>by
 rcases nF hd with rfl|hd
 ·exact⟨i,rfl⟩
 ·exact h d hd
theorem kP{κ:Type}[DecidableEq κ]{k:κ}{x:D}:∀{ks:List κ}{ds:List D},x∈aV ks ds k->x∈ds
 |[],ds,h=>by simpa [aV] using h
 |q::ks,[],h=>by simp[aV]at h
 |q::ks,d::ds,h=>by
  simp only[aV]at h;split at h
  ·exact Hb _ h
  ·rcases Hj.mp h with h|h
   ·exact h▸Hf
   ·exact Hb _ (kP h)
theorem j7{κ:Type}[DecidableEq κ]{k:κ}:∀{ks:List κ}{ds:List D},ks.length=ds.length->(aF ks k).length=(aV ks ds k).length/\(aF ks k).length<=ks.length
 |[],[],_=>by simp[aF,aV]
 |q::ks,d::ds,h=>by
  have ih:=j7 (k:=k) (ks:=ks) (ds:=ds) (by simpa using h)
  simp only[aF,aV];split
  ·exact⟨by simpa using h,by simp⟩
  ·simp;exact ih
theorem SI.step{c:Int->Nat}{m:Nat}(I:SI S c m):SI (S.step (c r.h) r) (bw c r.h) (m+1):=by
 have p1:=br (ks:=S.kc) (k:=(.inl r.h:Key));have p2:=br (ks:=S.kr) (k:=(.inl r.h:Key));have z1:=I.z1;have z2:=I.z2;have z3:=I.z3;have base:∀(ku:List (List Int)) (du:List D),ku.length=du.length->ku.length<=m+1->allI du->SI {S with kc:=aj S.kc (.inl r.h),dc:=am S.kc S.dc (.inl r.h) (.int (c r.h+1)),kr:=aj S.kr (.inl r.h),dr:=am S.kr S.dr (.inl r.h) (.int r.r),ku:=ku,du:=du} (bw c r.h) (m+1):=λku du a1 a2 a3=>
  ⟨bU I.l1,bU I.l2,a1,by show (aj S.kc _).length<=_;omega,by show (aj S.kr _).length<=_;omega,a2,λx=>by
   show (getD (aj S.kc _) (am S.kc S.dc _ _) _).getD _=_;rw[cu I.l1];by_cases e:r.h=x
   ·subst e;simp[bw]
   ·have e2:¬ ((Sum.inl r.h:Key)=Sum.inl x):=λz=>e (Sum.inl.inj z)
    rw[Hc e2,I.hc x];simp[bw,He e],I.hr.put,a3⟩
 cases r with
 |look h v=>exact base _ _ I.l3 (by omega) I.hu
 |sight h v e l=>exact base _ _ I.l3 (by omega) I.hu
 |send h v t=>
  exact base _ _ (bU I.l3) (Hw br (by omega)) I.hu.put
 |take h v i j=>
  obtain⟨d1,d2⟩:=j7 (k:=[i,j]) I.l3;exact base _ _ d1 (by omega) λd hd=>I.hu d (kP hd)
def cO(H:Nat)(wy:List Wy):St->(Int->Nat)->List Rw->Prop
 |_,_,[]=>True
 |S,c,r::rs=>flt H wy S r=none/\cO H wy (S.step (c r.h) r) (bw c r.h) rs
noncomputable def d9:St->(Int->Nat)->List Rw->St
 |S,_,[]=>S
 |S,c,r::rs=>d9 (S.step (c r.h) r) (bw c r.h) rs
noncomputable def rM:(Int->Nat)->List Rw->(Int->Nat)
 |c,[]=>c
 |c,r::rs=>rM (bw c r.h) rs
theorem nO{H:Nat}(h:flt H wy S r=none):flC H S r=none/\flK wy S r=none:=by
 unfold flt at h;split at h
 ·cases h
 ·rename_i e;exact⟨e,h⟩
theorem ww{R:Nat->Prop}(A:Ah kls M0 p a b d):bz (B cls kls fad) 30815369061 (.ref p) (HS M0 a b d S) R=R 16:=by
 simp[bz,A.gp,dn,fCn,fRd,fUn]
theorem u6{m:Nat}{c:Int->Nat}{De:Ends3}{ES:St3->XN}{x1 x4:Option D}(A:Ah kls M0 p a b d)(I:SI S c m)(hm:m<900)(hf:flt cks.length wy S r=none)(hM:Fm (HS M0 a b d S)) :
  aO ⟨(B cls kls fad),aa T (B cls kls fad) (n+4)⟩ aN De ES [some (wO kls cks wy),x1,some (.ref p),some r.d,x4] (HS M0 a b d S)=De.nx [some (wO kls cks wy),x1,some (.ref p),some r.d,some (r.o kls)] (HS M0 a b d (S.step (c r.h) r)):=by
 obtain⟨f1,f2⟩:=nO hf;have h1:=λ{Q:VK3}{E:XN}=>fh (cls:=cls) (kls:=kls) (fad:=fad) (n:=n) (Q:=Q) (E:=E) r hM
 have h2:=λ{Q:VK3}{E:XN}=>lj (cls:=cls) (fad:=fad) (n:=n+1) (Q:=Q) (E:=E) (cks:=cks) (wy:=wy) (r:=r) A I.hr
 have h3:=λ{Q:VK3}{E:XN}=>tY (cls:=cls) (fad:=fad) (n:=n+2) (Q:=Q) (E:=E) (cks:=cks) (wy:=wy) (r:=r) A f2
 have h4:=λ{Q:VK3}{E:XN}=>uO (cls:=cls) (fad:=fad) (n:=n+2) (Q:=Q) (E:=E) A (I.hc r.h) (by have:=I.z1;omega) (by have:=I.z2;omega) (by have:=I.z3;omega) (jn f2)
 have me:=λ{R:Nat->Prop}=>ww (cls:=cls) (fad:=fad) (S:=S) (R:=R) A
 simp only[aN];simp[↓h1,↓h2,f1,nW,↓h3,↓me,↓h4]
theorem Fm.hs(h:Fm M0):Fm (HS M0 a b d S):=((h.put _ _).put _ _).put _ _
theorem nw{De:Ends3}{ES:St3->XN}{x1:Option D}{R:Prop}{tl:List D}(A:Ah kls M0 p a b d)(hM:Fm M0):∀(rs:List Rw)(S:St)(c:Int->Nat)(m:Nat)(x3 x4:Option D),SI S c m->m+rs.length<900->cO cks.length wy S c rs->
  (∀x3 x4,aY ⟨(B cls kls fad),aa T (B cls kls fad) (n+4)⟩ (.name 3) aN ES (λ_=>True) De tl [some (wO kls cks wy),x1,some (.ref p),x3,x4] (HS M0 a b d (d9 S c rs))=R)->
  aY ⟨(B cls kls fad),aa T (B cls kls fad) (n+4)⟩ (.name 3) aN ES (λ_=>True) De (rs.map Rw.d++tl) [some (wO kls cks wy),x1,some (.ref p),x3,x4] (HS M0 a b d S)=R
 |[],S,c,m,x3,x4,I,hm,hf,hR=>hR x3 x4
 |r::rs,S,c,m,x3,x4,I,hm,hf,hR=>by
  simp only[HA]at hm;have ih:=nw (De:=De) (ES:=ES) (x1:=x1) (R:=R) (tl:=tl) A hM rs (S.step (c r.h) r) (bw c r.h) (m+1) (some r.d) (some (r.o kls)) I.step (by omega) hf.2 hR
  rw[Hl,List.cons_append,av];have one:=u6 (cls:=cls) (fad:=fad) (n:=n) (De:={De with nx:=aY ⟨(B cls kls fad),aa T (B cls kls fad) (n+4)⟩ (.name 3) aN ES (λ_=>True) De (rs.map Rw.d++tl),ct:=aY ⟨(B cls kls fad),aa T (B cls kls fad) (n+4)⟩ (.name 3) aN ES (λ_=>True) De (rs.map Rw.d++tl),bk:=De.nx}) (ES:=ES) (x1:=x1) (x4:=x4) (wy:=wy) (cks:=cks) A I (by omega) hf.1 (Fm.hs hM)
  rw[true_and,qB];show aO _ _ _ _ [some (wO kls cks wy),x1,some (.ref p),some r.d,x4] _=R;rw[one];exact ih
end
section
variable {cls kls fad:Nat->PySem.Addr}{M:MH}{Q:VK3}{E:XN}{n:Nat}{p q a b d:PySem.Addr}{cks:List (Int×Int)}{wy:List Wy}{M0:MH}{S:St}{r:Rw}{c:Int->Nat}{m:Nat}
noncomputable def S0:St:=⟨[],[],[],[],[],[]⟩
theorem si0:SI S0 (λ_=>0) 0:=⟨rfl,rfl,rfl,Hh _,Hh _,Hh _,(λ_=>rfl),(λ_ h=>by cases h),(λ_ h=>by cases h)⟩
theorem qM{M:MH}{a b c e:PySem.Addr}{x y w u z:DO}(h:a≠b)(h':a≠c)(h2:a≠e):put (put (put (put (put M a x) b y) c w) e u) a z=put (put (put (put M a z) b y) c w) e u:=by
 funext k;unfold put;by_cases h1:k=a
 ·subst h1;simp[h,h',h2]
 ·simp[h1]
theorem mY{rows:List Rw}{tl:List D}{R:Prop}(hM:Fm M)(hl:rows.length<400)(hf:cO cks.length wy S0 (λ_=>0) rows)
  (hR:∀(M0:MH) p a b d x3 x4,Ah kls M0 p a b d->Fm M0->(∀S,ar M (HS M0 a b d S)=M)->
   aY ⟨(B cls kls fad),aa T (B cls kls fad) (n+4)⟩ (.name 3) aN (λ_ i M'=>E i (ar M M')) (λ_=>True) {nx:=λ_ M'=>Q .non (ar M M'),rt:=λv M'=>Q v (ar M M')} tl [some (wO kls cks wy),some (.rol (rows.map Rw.d++tl)),some (.ref p),x3,x4] (HS M0 a b d (d9 S0 (λ_=>0) rows))=R) :
  aa T (B cls kls fad) (n+5) 19 [wO kls cks wy,.rol (rows.map Rw.d++tl)] M Q E=R:=by
 simp only[wW,ms];simp;refine iff_of_eq (aw hM λp hp=>?_)
 simp only[jq,cX];simp;refine iff_of_eq (aw (hM.put _ _) λa ha=>?_)
 obtain⟨hap,ha⟩:=aG ha;rw[show eI (B cls kls fad) 3982741043171 (.ref a) _ (.ref p) (put (put M p (.ins 5 (kls 5) [] [])) a (.dk [] []))=_ from fJ (by rw[ah (He hap),af])]
 simp;rw[eN (He hap)];refine iff_of_eq (aw ((hM.put _ _).put _ _) λb hb=>?_)
 obtain⟨hba,hb⟩:=aG hb;obtain⟨hbp,hb⟩:=aG hb;rw[show eI (B cls kls fad) 65196051402355442 (.ref b) _ (.ref p) (put (put (put M p (.ins 5 (kls 5) [3982741043171] [.ref a])) a (.dk [] [])) b (.dk [] []))=_ from fJ (by rw[ah (He hbp),ah (He hap),af])]
 simp;rw[hV (He hap) (He hbp)];refine iff_of_eq (aw (((hM.put _ _).put _ _).put _ _) λd hd=>?_)
 obtain⟨hdb,hd⟩:=aG hd;obtain⟨hda,hd⟩:=aG hd;obtain⟨hdp,hd⟩:=aG hd;rw[show eI (B cls kls fad) 487284377728885 (.ref d) _ (.ref p) (put (put (put (put M p (.ins 5 (kls 5) [3982741043171,65196051402355442] [.ref a,.ref b])) a (.dk [] [])) b (.dk [] [])) d (.dt [] []))=_ from fJ (by rw[ah (He hdp),ah (He hbp),ah (He hap),af])]
 simp;rw[qM (He hap) (He hbp) (He hdp)];have A:Ah kls (put M p (.ins 5 (kls 5) [fCn,fRd,fUn] [.ref a,.ref b,.ref d])) p a b d:=⟨af,He hap,He hbp,He hdp,He hba,He hda,He hdb⟩;have kp:∀S,ar M (HS (put M p (.ins 5 (kls 5) [fCn,fRd,fUn] [.ref a,.ref b,.ref d])) a b d S)=M:=λS=>by
  funext k;unfold ar HS put;by_cases k1:k=d
  ·subst k1;simp[hd]
  ·by_cases k2:k=b
   ·subst k2;simp[hb]
   ·by_cases k3:k=a
    ·subst k3;simp[ha]
    ·by_cases k4:k=p
     ·subst k4;simp[hp]
     ·simp[k1,k2,k3,k4];cases M k<;>rfl
 exact iff_of_eq (nw (n:=n) (tl:=tl) A (hM.put _ _) rows S0 (λ_=>0) 0 none none si0 (by omega) hf λx3 x4=>hR _ p a b d x3 x4 A (hM.put _ _) kp)
theorem ua{rows:List Rw}(hM:Fm M)(hl:rows.length<400)(hf:cO cks.length wy S0 (λ_=>0) rows) :
  aa T (B cls kls fad) (n+5) 19 [wO kls cks wy,.rol (rows.map Rw.d)] M Q E=Q .non M:=by
 have:=mY (cls:=cls) (kls:=kls) (fad:=fad) (n:=n) (Q:=Q) (E:=E) (tl:=[]) (R:=Q .non M) hM hl hf λM0 p a b d x3 x4 A F kp=>by simp[aX,kp]
 rwa [Ia]at this
theorem tP{rows:List Rw}{x:XE}(hM:Fm M)(hl:rows.length<400)(hf:cO cks.length wy S0 (λ_=>0) rows)(I:SI (d9 S0 (λ_=>0) rows) c m)
  (hx:flC cks.length (d9 S0 (λ_=>0) rows) r=some x\/flC cks.length (d9 S0 (λ_=>0) rows) r=none/\x=⟨7,none⟩/\∃h v i j l:Int,r=.take h v i j/\getD (d9 S0 (λ_=>0) rows).ku (d9 S0 (λ_=>0) rows).du [i,j]=some (.int l)/\¬ l=h) :
  aa T (B cls kls fad) (n+5) 19 [wO kls cks wy,.rol ((rows++[r]).map Rw.d)] M Q E=E x M:=by
 rw[Io,List.map_singleton];refine mY (tl:=[r.d]) hM hl hf λM0 p a b d x3 x4 A F kp=>?_
 generalize d9 S0 (λ_=>0) rows=S at *
 have h1:=λ{Q:VK3}{E:XN}=>fh (cls:=cls) (kls:=kls) (fad:=fad) (n:=n) (Q:=Q) (E:=E) r (Fm.hs (S:=S) (a:=a) (b:=b) (d:=d) F)
 have h2:=λ{Q:VK3}{E:XN}=>lj (cls:=cls) (fad:=fad) (n:=n+1) (Q:=Q) (E:=E) (cks:=cks) (wy:=wy) (r:=r) A I.hr
 rw[av,true_and,qB];simp only[aN];rcases hx with hx|⟨hc,rfl,h,v,i,j,l,rfl,e,hn⟩
 ·simp[↓h1,↓h2,hx,nW,kp]
 ·have h3:=λ{Q:VK3}{E:XN}=>qR (cls:=cls) (kls:=kls) (fad:=fad) (n:=n+2) (Q:=Q) (E:=E) (cks:=cks) (wy:=wy) (v:=v) A e hn
  simp[↓h1,↓h2,hc,nW,↓h3,kp]
end
section
variable {cls kls fad:Nat->PySem.Addr}{M:MH}{Q:VK3}{E:XN}{n:Nat}{p q a b d m:PySem.Addr}{cks:List (Int×Int)}{wy:List Wy}{M0:MH}
variable {r:Rw}
noncomputable def nmF:List Int->(Int->Nat)->List (Int×Nat)
 |[],_=>[]
 |h::r,c=>(h,c h)::nmF r (bw c h)
noncomputable def nD(p:Int×Nat):D:=.tup [.int p.1,.int p.2]
theorem lm:au r.d (.int 1) M Q=Q (.int r.h) M:=by cases r<;>simp[Rw.d,Rw.h]
theorem jL{a b:PySem.Addr}(hab:a≠b){M0:MH}{De:Ends3}{ES:St3->XN}{R:Prop}{log:Option D}:∀(rs:List Rw)(ks:List Key)(ds acc:List D)(c:Int->Nat)(x3:Option D),ks.length=ds.length->ks.length+rs.length<500->acc.length+rs.length<500->(∀h,(getD ks ds (.inl h)).getD (.int 0)=.int (c h))->
  (∀ks' ds' x,De.nx [log,some (.ref a),some (.ref b),x] (put (put M0 a (.dk ks' ds')) b (.lst (acc++(nmF (rs.map Rw.h) c).map nD)))=R)->
  aY ⟨(B cls kls fad),aa T (B cls kls fad) (n+1)⟩ (.name 3) dY ES (λ_=>True) De (rs.map Rw.d) [log,some (.ref a),some (.ref b),x3] (put (put M0 a (.dk ks ds)) b (.lst acc))=R
 |[],ks,ds,acc,c,x3,_,_,_,_,hR=>by
  have:=hR ks ds x3;simp[nmF]at this;simp[aX,this]
 |r::rs,ks,ds,acc,c,x3,hl,h1,h2,hc,hR=>by
  have ha:(put (put M0 a (.dk ks ds)) b (.lst acc)) a=some (.dk ks ds):=by rw[ah hab,af]
  simp only[HA]at h1 h2;have hs:acc.length<PySem.sizeLine:=Ho (show acc.length<1000 by omega) (by decide)
  have ih:=jL hab (M0:=M0) (De:=De) (ES:=ES) (R:=R) (log:=log) rs (aj ks (.inl r.h)) (am ks ds (.inl r.h) (.int (c r.h+1))) (acc++[nD (r.h,c r.h)]) (bw c r.h) (some r.d) (bU hl) (by have:=br (ks:=ks) (k:=(.inl r.h:Key));omega) (by simp;omega) (λx=>by
    rw[cu hl];by_cases e:r.h=x
    ·subst e;simp[bw]
    ·have e2:¬ ((Sum.inl r.h:Key)=Sum.inl x):=λz=>e (Sum.inl.inj z)
     rw[Hc e2,hc x];simp[bw,He e]) (by
    intro ks' ds' x;have:=hR ks' ds' x;simpa [nmF] using this)
  have i1:=λ{M:MH}{Q:VK3}=>lm (M:=M) (Q:=Q) (r:=r)
  rw[Hl,av];simp[dY,↓i1,p9 (n:=n) ha (by omega) (hc r.h),eN hab,hs]
  simpa [nD,dY] using ih
theorem gJ(rs:List Rw)(hl:rs.length<400)(hM:Fm M):aa T (B cls kls fad) (n+2) 14 [.rol (rs.map Rw.d)] M Q E=Q (.rol ((nmF (rs.map Rw.h) λ_=>0).map nD)) M:=by
 simp[vk,mf];refine iff_of_eq (aw hM λa ha=>?_)
 simp[aH];refine iff_of_eq (aw (hM.put _ _) λb hb=>?_)
 obtain⟨hab,hb⟩:=aG hb;refine jL (He hab) rs [] [] [] _ _ rfl (by simp;omega) (by simp;omega) (λh=>rfl) λks' ds' x=>?_
 simp[ha,hb,ah hab]
theorem uz:∀(hs:List Int)(c:Int->Nat)(h:Int),nmF (hs++[h]) c=nmF hs c++[(h,c h+hs.count h)]
 |[],c,h=>by simp[nmF]
 |x::hs,c,h=>by
  rw[List.cons_append,nmF,nmF,uz hs (bw c x) h];have:bw c x h+hs.count h=c h+(x::hs).count h:=by
   unfold bw;by_cases z:h=x
   ·subst z;simp;omega
   ·rw[Hc z,List.count_cons_of_ne (He z)]
  rw[this];rfl
theorem tW{De:Ends3}{ES:St3->XN}{W:WC}{log:Option D}{h:Int}{c:Nat}:∀(pre post:List (Int×Nat)) (k:Nat)(x2 x3:Option D),(∀p∈pre,¬ (p.1=h/\p.2=c))->
  aY W (.tup [2,3]) ed ES (λ_=>True) De (cH k ((pre++(h,c)::post).map nD)) [log,some (.tup [.int h,.int c]),x2,x3] M=De.rt (.int ((k+pre.length:Nat):Int)) M
 |[],post,k,x2,x3,_=>by
  rw[List.nil_append,Hl,cH,av];simp[ed,nD,aq,cK,rs,ai,plN,eqD,bx]
 |p::l,post,k,x2,x3,hn=>by
  have ih:=tW (De:=De) (ES:=ES) (W:=W) (log:=log) l post (k+1) (some (.int k)) (some (nD p)) (λq hq=>hn q (Hb _ hq))
  have h0:=hn p Hf;rw[List.cons_append,Hl,cH,av];have e:(decide (p.1=h)&&decide ((p.2:Int)=(c:Int)))=false:=by
   rw[Bool.and_eq_false_iff];by_cases e1:p.1=h
   ·exact .inr (HN λz=>h0 ⟨e1,by omega⟩)
   ·exact .inl (HN e1)
  have e3:k+(p::l).length=k+1+l.length:=by simp;omega
  rw[e3,<-ih];simp[ed,nD,aq,cK,rs,ai,plN,eqD,bx,e]
theorem lH:∀(hs:List Int)(c:Int->Nat)(p:Int×Nat),p∈nmF hs c->p.1∈hs/\c p.1<=p.2/\p.2<c p.1+hs.count p.1
 |[],_,_,h=>by cases h
 |h::r,c,p,hp=>by
  rcases Hj.mp hp with rfl|hp
  ·simp
  ·obtain⟨h1,h2,h3⟩:=lH r _ p hp;unfold bw at h2 h3;by_cases e:p.1=h
   ·subst e;simp at h2 h3 ⊢;omega
   ·rw[Hc e]at h2 h3;rw[List.count_cons_of_ne (He e)];exact⟨Hb _ h1,h2,h3⟩
theorem xw:∀(hs:List Int)(c:Int->Nat)(j:Nat)(h:Int),hs[j]?=some h->nmF hs c=nmF (hs.take j) c++(h,c h+(hs.take j).count h)::(nmF hs c).drop (j+1)/\∀p∈nmF (hs.take j) c,¬ (p.1=h/\p.2=c h+(hs.take j).count h)
 |[],_,_,_,e=>by simp at e
 |x::r,c,0,h,e=>by
  simp at e;subst e;simp[nmF]
 |x::r,c,j+1,h,e=>by
  have e':r[j]?=some h:=by simpa using e
  obtain⟨h1,h2⟩:=xw r (bw c x) j h e';have hb:bw c x h+(r.take j).count h=c h+((x::r).take (j+1)).count h:=by
   unfold bw;by_cases z:h=x
   ·subst z;simp;omega
   ·rw[Hc z,List.take_succ_cons,List.count_cons_of_ne (He z)]
  rw[hb]at h1 h2;refine⟨?_,λp hp hq=>?_⟩
  ·simp only[nmF,List.take_succ_cons,List.cons_append,List.drop_succ_cons];rw[List.take_succ_cons]at h1;rw[<-h1]
  ·rw[List.take_succ_cons]at hp;rcases Hj.mp hp with rfl|hp
   ·obtain⟨q1,q2⟩:=hq;simp at q1 q2;subst q1;simp at q2<;>omega
   ·exact h2 p hp hq
theorem g9:∀(hs:List Int)(c:Int->Nat),(nmF hs c).length=hs.length
 |[],_=>rfl
 |h::r,c=>by simp[nmF,g9 r]
theorem o7{rs:List Rw}(hl:rs.length<400)(hM:Fm M){j:Nat}{h:Int}(hj:(rs.map Rw.h)[j]?=some h):aa T (B cls kls fad) (n+3) 20 [.rol (rs.map Rw.d),.tup [.int h,.int (((rs.map Rw.h).take j).count h:Nat)]] M Q E=Q (.int j) M:=by
 obtain⟨h1,h2⟩:=xw _ (λ_=>0) j h hj
 have hlen:(nmF ((rs.map Rw.h).take j) (λ_=>0)).length=j:=by
  rw[g9,List.length_take];have:=(Hr.mp hj).1;omega
 simp[vX,lI,gJ rs hl hM];rw[Nat.zero_add]at h1 h2;rw[h1];refine iff_of_eq ((tW _ _ 0 none none h2).trans ?_);rw[hlen];simp
end
section
variable {cls kls fad:Nat->PySem.Addr}{M:MH}{Q:VK3}{E:XN}{n:Nat}{p q a b c d m:PySem.Addr}{cks:List (Int×Int)}{wy:List Wy}{M0:MH}{r:Rw}
noncomputable def upC(C:List Int):Rw->List Int
 |.take _ _ a b=>C.set a.toNat (max (C.getD a.toNat 0) (b+1))
 |_=>C
def Rw.ltr(H:Nat):Rw->Prop
 |.take _ _ a _=>0<=a/\a<H
 |_=>True
theorem qt{C:List Int}:(upC C r).length=C.length:=by cases r<;>simp[upC]
theorem jb{k m:Nat}(h:k<m):ixN m (k:Int)=some k:=by
 have h1:(k:Int)<m:=by omega
 simp[ixN,h]
theorem eE{C:List Int}{k:Nat}(h:k<C.length):atI (C.map D.int) (k:Int)=some (.int (C.getD k 0)):=cf (by simp[h])
theorem EZ{C:List Int}(hM:M c=some (.lst (C.map D.int)))(hr:r.ltr C.length):aa T (B cls kls fad) (n+1) 22 [.ref c,r.o kls] M Q E=Q .non (put M c (.lst ((upC C r).map D.int))):=by
 have e0:put M c (.lst (C.map D.int))=M:=by
  funext x;unfold put;by_cases e:x=c
  ·subst e;simp[hM]
  ·simp[e]
 cases r with
 |take h r a b=>
  obtain⟨h0,h1⟩:=hr;obtain⟨k,rfl⟩:∃k:Nat,a=k:=⟨a.toNat,by omega⟩
  have hk:k<C.length:=by omega
  have i1:∀{Q:VK3},au (.ref c) (.int (k:Int)) M Q=Q (.int (C.getD k 0)) M:=λ{Q}=>by rw[hZ hM,bS (eE hk)]
  have i2:∀{y:D}{R:MH->Prop},bJ (.ref c) (.int (k:Int)) y M R=R (put M c (.lst ((C.map D.int).set k y))):=λ{y R}=>fy hM (jb (by simpa using hk))
  have hm:∀x y:Int,(if x<y then y else x)=max x y:=λx y=>by split<;>omega
  simp[bN,aM,Rw.o,upC,↓i1,↓i2,rBi,cT hM,List.map_set,hm]
 |look h r=>simp[bN,aM,Rw.o,upC,e0]
 |sight h r e l=>simp[bN,aM,Rw.o,upC,e0]
 |send h r t=>simp[bN,aM,Rw.o,upC,e0]
noncomputable def dR(C:List Int)(x:(Int×Nat)×Rw):List Int:=if (x.1.2:Int)<C.getD x.1.1.toNat 0 then upC C x.2 else C
theorem rp{C:List Int}{x:(Int×Nat)×Rw}:(dR C x).length=C.length:=by
 unfold dR;split
 ·exact qt
 ·rfl
noncomputable def pD(x:(Int×Nat)×Rw):D:=.tup [nD x.1,x.2.d]
theorem lB{De:Ends3}{ES:St3->XN}{R:Prop}{y0 y1 y2 y3 y5:Option D}(hM:Fm M0){H:Nat}:∀(L:List ((Int×Nat)×Rw)) (C:List Int)(x6 x7:Option D),C.length=H->(∀x∈L,0<=x.1.1/\x.1.1<H/\x.2.ltr H)->
  (∀x6 x7,De.nx [y0,y1,y2,y3,some (.ref c),y5,x6,x7] (put M0 c (.lst ((L.foldl dR C).map D.int)))=R)->
  aY ⟨(B cls kls fad),aa T (B cls kls fad) (n+4)⟩ (.tup [6,7]) dE ES (λ_=>True) De (L.map pD) [y0,y1,y2,y3,some (.ref c),y5,x6,x7] (put M0 c (.lst (C.map D.int)))=R
 |[],C,x6,x7,_,_,hR=>by
  have:=hR x6 x7;simp at this;simp[aX,this]
 |x::L,C,x6,x7,hl,hx,hR=>by
  obtain⟨h0,h1,h2⟩:=hx x Hf;obtain⟨⟨h,k⟩,r⟩:=x;simp only at h0 h1 h2;obtain⟨j,rfl⟩:∃j:Nat,h=j:=⟨h.toNat,by omega⟩
  have hj:j<C.length:=by omega
  have hput:put M0 c (.lst (C.map D.int)) c=some (.lst (C.map D.int)):=af;have i1:∀{Q:VK3},au (.ref c) (.int (j:Int)) (put M0 c (.lst (C.map D.int))) Q=Q (.int (C.getD j 0)) (put M0 c (.lst (C.map D.int))):=λ{Q}=>by rw[hZ hput,bS (eE hj)]
  have ih:=lB (De:=De) (ES:=ES) (R:=R) (y0:=y0) (y1:=y1) (y2:=y2) (y3:=y3) (y5:=y5) hM L (dR C ((j,k),r)) (some (nD (j,k))) (some r.d) (by rw[rp];exact hl) (λx hx'=>hx x (Hb _ hx')) (by simpa using hR)
  rw[Hl,av];generalize aY ⟨(B cls kls fad),aa T (B cls kls fad) (n+4)⟩ (.tup [6,7]) dE ES (λ_=>True) De (L.map pD)=K at ih ⊢
  have hh:∀{M:MH}{Q:VK3}{E:XN},Fm M->aa T (B cls kls fad) (n+4) 12 [r.d] M Q E=Q (r.o kls) M:=λ{M Q E} hM=>fh r hM
  have hc:∀{Q:VK3}{E:XN},aa T (B cls kls fad) (n+4) 22 [.ref c,r.o kls] (put M0 c (.lst (C.map D.int))) Q E=Q .non (put (put M0 c (.lst (C.map D.int))) c (.lst ((upC C r).map D.int))):=λ{Q E}=>EZ (n:=n+3) hput (by rw[hl];exact h2)
  rw[<-ih];by_cases e:(k:Int)<C.getD j 0
  ·have e':dR C (((j:Int),k),r)=upC C r:=by simp only[dR,Ii];rw[Hg e]
   rw[e'];simp only[dE,pD,nD];simp[↓i1,↓hh (hM.put _ _),↓hc,e,bP,nD];intro z;exact absurd z (by simp at e;omega)
  ·have e':dR C (((j:Int),k),r)=C:=by simp only[dR,Ii];rw[Hc e]
   rw[e'];simp only[dE,pD,nD];simp[↓i1,e,nD];intro z;exact absurd z (by simpa using e)
noncomputable def nms(rs:List Rw):List (Int×Nat):=nmF (rs.map Rw.h) λ_=>0
noncomputable def dg(H:Nat)(h:Int)(k:Nat):List Int:=(List.replicate H (0:Int)).set h.toNat ((k:Int)+1)
noncomputable def k9(H:Nat)(rs:List Rw)(j:Nat)(h:Int)(k:Nat):List Int:=(((nms rs).zip rs).take (j+1)).reverse.foldl dR (dg H h k)
theorem tq(xs:List D)(j:Nat)(h:j<xs.length):c5 xs none (some ((j:Int)+1))=xs.take (j+1):=by
 have:HT.sIx xs.length xs.length (some ((j:Int)+1))=j+1:=by
  unfold HT.sIx;simp;split<;>omega
 simp only[c5,this];simp[HT.sIx]
theorem Af{rs:List Rw}(hl:rs.length<400)(hM:Fm M)(h1:1<=cks.length)(h6:cks.length<=6){j:Nat}{h:Int}(hj:(rs.map Rw.h)[j]?=some h)(hr:∀r∈rs,0<=r.h/\r.h<cks.length/\r.ltr cks.length) :
  aa T (B cls kls fad) (n+5) 23 [wO kls cks wy,.rol (rs.map Rw.d),.tup [.int h,.int (((rs.map Rw.h).take j).count h:Nat)]] M Q E=Q (.rol ((k9 cks.length rs j h (((rs.map Rw.h).take j).count h)).map D.int)) M:=by
 have hjl:j<rs.length:=by have:=(Hr.mp hj).1;simpa using this
 have hh:0<=h/\h<cks.length:=by
  obtain⟨x,hx,e⟩:=Ht.mp (HL hj);rw[<-e];exact⟨(hr x hx).1,(hr x hx).2.1⟩
 obtain⟨k,rfl⟩:∃k:Nat,h=k:=⟨h.toNat,by omega⟩
 have hk:k<cks.length:=by omega
 have hf:(List.replicate cks.length [D.int 0]).flatten=(List.replicate cks.length (0:Int)).map D.int:=by
  rw[List.flatten_replicate_singleton];simp
 have hs:cks.length<=PySem.sizeLine:=by rw[PySem.sizeLine_eq];omega
 have hp:∀{M:MH}{Q:VK3}{E:XN},Fm M->aa T (B cls kls fad) (n+4) 20 [.rol (rs.map Rw.d),.tup [.int (k:Int),.int (((rs.map Rw.h).take j).count (k:Int):Nat)]] M Q E=Q (.int j) M:=λ{M Q E} hM=>o7 (n:=n+1) hl hM hj
 have hn:∀{M:MH}{Q:VK3}{E:XN},Fm M->aa T (B cls kls fad) (n+4) 14 [.rol (rs.map Rw.d)] M Q E=Q (.rol ((nms rs).map nD)) M:=λ{M Q E} hM=>gJ (n:=n+2) rs hl hM
 have hw:∀{M:MH}{Q:VK3}{E:XN},aa T (B cls kls fad) (n+4) 37 [wO kls cks wy] M Q E=Q (.int cks.length) M:=λ{M Q E}=>m8 (n:=n+3)
 have hb1 : -(2 ^ 63:Int)<=cks.length:=by omega
 have hb2:(cks.length:Int)<2 ^ 63:=by omega
 generalize hcc:((rs.map Rw.h).take j).count (k:Int)=cc at hp ⊢;simp only[yA,pf];simp[↓hp hM,↓o1,↓hw,gI,ai,hf,hs,cA];have hb3:(cks.length:Int)<9223372036854775808:=by omega
 have sz1:1<=PySem.sizeLine:=by decide
 simp only[hb3,sz1,true_and];refine iff_of_eq (aw hM λc hc=>?_)
 have e1:(List.replicate cks.length (D.int 0)).set k (.int ((cc:Int)+1))=(dg cks.length (k:Int) cc).map D.int:=by
  unfold dg;rw[List.map_set,Ii];simp
 rw[fy af (j:=k) (jb (by simpa using hk)),bP,e1,hn (hM.put _ _)]
 have ez:eA ((nms rs).map nD) (rs.map Rw.d)=((nms rs).zip rs).map pD:=by
  unfold eA;rw[List.zip_map,HG];rfl
 have zl:((nms rs).zip rs).length=rs.length:=by simp[nms,g9]
 have z1:(((nms rs).zip rs).map pD).length<=PySem.sizeLine:=by rw[Hm,zl,PySem.sizeLine_eq];omega
 have z2:((((nms rs).zip rs).map pD).take (j+1)).length<=PySem.sizeLine:=Hw (by rw[List.length_take];omega) z1
 have ec:=tq (((nms rs).zip rs).map pD) j (by rw[Hm,zl];exact hjl)
 simp only[rLz,cA,ez,z1,true_and,if_true,gy,ai,ec,z2];rw[<-List.map_take,<-List.map_reverse];refine lB hM (H:=cks.length) _ _ none none (by simp[dg]) (λx hx=>?_) λx6 x7=>?_
 ·obtain⟨x1,x2⟩:=x;have hx':=List.of_mem_zip (List.mem_of_mem_take (List.mem_reverse.mp hx));obtain⟨y,hy,ey⟩:=Ht.mp (lH _ _ _ hx'.1).1;have g:=hr y hy;rw[ey]at g;exact⟨g.1,g.2.1,(hr x2 hx'.2).2.2⟩
 ·simp[aU,af,da hc,hc,k9]
end
section
theorem gH:∀(hs:List Int)(c:Int->Nat)(i i':Nat)(h:Int)(k k':Nat),i<i'->(nmF hs c)[i]?=some (h,k)->(nmF hs c)[i']?=some (h,k')->k<k'
 |[],_,_,_,_,_,_,_,e,_=>by simp[nmF]at e
 |x::r,c,0,i'+1,h,k,k',_,e1,e2=>by
  simp[nmF]at e1 e2;obtain⟨rfl,rfl⟩:=e1;have:=(lH r _ _ (HL e2)).2.1;simp[bw]at this;omega
 |x::r,c,i+1,i'+1,h,k,k',hi,e1,e2=>by
  simp[nmF]at e1 e2;exact gH r _ i i' h k k' (by omega) e1 e2
 |x::r,c,i,0,_,_,_,hi,_,_=>by omega
theorem uE:∀(hs:List Int)(c:Int->Nat)(j:Nat)(h:Int),hs[j]?=some h->(nmF hs c)[j]?=some (h,c h+(hs.take j).count h)
 |[],_,_,_,e=>by simp at e
 |x::r,c,0,h,e=>by
  simp at e;subst e;simp[nmF]
 |x::r,c,j+1,h,e=>by
  have e':r[j]?=some h:=by simpa using e
  have:=uE r (bw c x) j h e';have hb:bw c x h+(r.take j).count h=c h+((x::r).take (j+1)).count h:=by
   unfold bw;by_cases z:h=x
   ·subst z;simp;omega
   ·rw[Hc z,List.take_succ_cons,List.count_cons_of_ne (He z)]
  rw[hb]at this;simpa [nmF] using this
theorem pJ{rs:List Rw}{j:Nat}{r:Rw}(e:rs[j]?=some r):(nms rs)[j]?=some (r.h,((rs.map Rw.h).take j).count r.h):=by
 have:=uE (rs.map Rw.h) (λ_=>0) j r.h (by rw[HB,e];rfl)
 rw[Nat.zero_add]at this;exact this
theorem pP{rs:List Rw}{j:Nat}{h:Int}{k:Nat}(e:(nms rs)[j]?=some (h,k)):∃r,rs[j]?=some r/\r.h=h/\k=((rs.map Rw.h).take j).count h:=by
 have hl:j<rs.length:=by
  have:=(Hr.mp e).1;simpa [nms,g9] using this
 have er:rs[j]?=some rs[j]:=Hy hl;have:=pJ er;rw[e]at this;simp at this;exact⟨rs[j],er,this.1.symm,by rw[this.1];exact this.2⟩
noncomputable def g(C:List Int)(h:Int):Int:=C.getD h.toNat 0
structure WFL (H:Nat)(rs:List Rw):Prop where
 hd:∀r∈rs,0<=r.h/\r.h<H
 tk:∀(i:Nat) h r a b,rs[i]?=some (.take h r a b)->∃(i' k:Nat)(r' t':Int),i' < i/\(nms rs)[i']?=some (a,k)/\b=(k:Int)/\rs[i']?=some (.send a r' t')
structure PI (H:Nat)(rs:List Rw)(j:Nat)(nh:Int)(nk:Nat)(t:Nat)(C:List Int):Prop where
 len:C.length=H
 a0:∀h,0<=g C h
 a1:∀h:Int,0<=h->h<H->0<g C h->∃(i k:Nat),i<=j/\(nms rs)[i]?=some (h,k)/\g C h=(k:Int)+1
 b:g C nh=(nk:Int)+1
 c:∀(i:Nat) h (k:Nat) h' r a b,t<=i->rs[i]?=some (.take h' r a b)->(nms rs)[i]?=some (h,k)->(k:Int)<g C h->b<g C a
 d:∀h:Int,0<=h->h<H->h≠nh->0<g C h->(∃(i' k:Nat)(r' t':Int),rs[i']?=some (.send h r' t')/\(nms rs)[i']?=some (h,k)/\g C h=(k:Int)+1)/\
  ∃(i k':Nat) (h' hh r b:Int),rs[i]?=some (.take hh r h b)/\b+1=g C h/\(nms rs)[i]?=some (h',k')/\(k':Int)<g C h'
variable {H:Nat}{rs:List Rw}{j t:Nat}{nh:Int}{nk:Nat}{C:List Int}
theorem WFL.nm(W:WFL H rs){i:Nat}{h:Int}{k:Nat}(e:(nms rs)[i]?=some (h,k)):0<=h/\h<H:=by
 obtain⟨r,e1,e2,_⟩:=pP e;rw[<-e2];exact W.hd r (HL e1)
theorem PI.start(W:WFL H rs)(hj:(nms rs)[j]?=some (nh,nk)):PI H rs j nh nk (j+1) (dg H nh nk):=by
 obtain⟨h0,h1⟩:=W.nm hj;have hg:∀y:Int,g (dg H nh nk) y=if y.toNat=nh.toNat then (nk:Int)+1 else 0:=λy=>by
  unfold g dg;have hl:nh.toNat<H:=by omega
  by_cases e:y.toNat=nh.toNat
  ·rw[Hg e,e];simp[hl]
  ·rw[Hc e];rw[List.getD_eq_getElem?_getD,Ih (He e)];by_cases z:y.toNat<H
   ·simp[z]
   ·simp[List.getElem?_eq_none (show (List.replicate H (0:Int)).length<=y.toNat by simp;omega)]
 refine⟨by simp[dg],λh=>?_,λh h0' h1' hp=>?_,?_,λi h k h' r a b hi hr hn hk=>?_,λh h0' h1' hne hp=>?_⟩
 ·rw[hg];split<;>omega
 ·rw[hg]at hp;split at hp
  ·rename_i e;have e':h=nh:=by omega
   subst e';exact⟨j,nk,Hh _,hj,by rw[hg,Hg rfl]⟩
  ·omega
 ·rw[hg,Hg rfl]
 ·exfalso;rw[hg]at hk;split at hk
  ·rename_i e;have hh:=(W.nm hn).1;have e':h=nh:=by omega
   subst e';have:=gH _ _ j i h nk k (by omega) hj hn
   omega
  ·omega
 ·exfalso;rw[hg]at hp;split at hp
  ·omega
  ·omega
theorem PI.same{h:Int}{k:Nat}(I:PI H rs j nh nk (t+1) C)(hn:(nms rs)[t]?=some (h,k))(hx:∀h' r a b,rs[t]?=some (.take h' r a b)->¬ (k:Int)<g C h):PI H rs j nh nk t C:=
 ⟨I.len,I.a0,I.a1,I.b,λi h2 k2 h' r a b hi hr hn2 hk=>by
  by_cases e:i=t
  ·subst e;rw[hn]at hn2;cases hn2;exact absurd hk (hx _ _ _ _ hr)
  ·exact I.c i h2 k2 h' r a b (by omega) hr hn2 hk,I.d⟩
theorem PI.step(W:WFL H rs)(hj:(nms rs)[j]?=some (nh,nk))(ht:t<=j){h:Int}{k:Nat}{r:Rw}(hn:(nms rs)[t]?=some (h,k))(hr:rs[t]?=some r)(I:PI H rs j nh nk (t+1) C):PI H rs j nh nk t (dR C ((h,k),r)):=by
 unfold dR;by_cases hk:(k:Int)<C.getD h.toNat 0
 ·show PI H rs j nh nk t (if (k:Int)<C.getD h.toNat 0 then upC C r else C)
  rw[Hg hk];cases r with
  |look h1 r1=>exact I.same hn λh' r a b e=>by rw[hr]at e;cases e
  |sight h1 r1 e1 l1=>exact I.same hn λh' r a b e=>by rw[hr]at e;cases e
  |send h1 r1 t1=>exact I.same hn λh' r a b e=>by rw[hr]at e;cases e
  |take h1 r1 a b=>
   obtain⟨i',kb,rb,tb,l1,l2,rfl,l4⟩:=W.tk t _ _ _ _ hr;obtain⟨a0,a1⟩:=W.nm l2;have hal:a.toNat<C.length:=by rw[I.len];omega
   have hg:∀y:Int,g (upC C (.take h1 r1 a kb)) y=if y.toNat=a.toNat then max (g C a) ((kb:Int)+1) else g C y:=λy=>by
    unfold g upC;by_cases e:y.toNat=a.toNat
    ·rw[Hg e,e];simp[hal]
    ·rw[Hc e,List.getD_eq_getElem?_getD,Ih (He e),List.getD_eq_getElem?_getD]
   have hge:∀y,g C y<=g (upC C (.take h1 r1 a kb)) y:=λy=>by
    rw[hg];split
    ·rename_i e;have:g C y=g C a:=by unfold g;rw[e]
     omega
    ·omega
   have hk':(k:Int)<g C h:=hk;refine⟨by rw[qt];exact I.len,λy=>Int.le_trans (I.a0 y) (hge y),λy y0 y1 hp=>?_,?_,λi h2 k2 h' r a2 b2 hi hr2 hn2 hk2=>?_,λy y0 y1 hne hp=>?_⟩
   ·rw[hg]at hp ⊢;split at hp
    ·rename_i e;have e':y=a:=by omega
     subst e';rw[Hg rfl];by_cases z:g C y<(kb:Int)+1
     ·exact⟨i',kb,by omega,l2,by omega⟩
     ·have q:=I.a0 y;obtain⟨i,k,q1,q2,q3⟩:=I.a1 y y0 y1 (by omega)
      exact⟨i,k,q1,q2,by omega⟩
    ·rename_i e;rw[Hc e];exact I.a1 y y0 y1 hp
   ·rw[hg];have hb:=I.b;split
    ·rename_i e;have n0:=(W.nm hj).1;have e':nh=a:=by omega
     subst e';have:=gH _ _ i' j nh kb nk (by omega) l2 hj
     omega
    ·exact hb
   ·by_cases e:i=t
    ·subst e;rw[hr]at hr2;cases hr2;rw[hg,Hg rfl];omega
    ·have h20:=(W.nm hn2).1;have:(k2:Int)<g C h2:=by
      rw[hg]at hk2;split at hk2
      ·rename_i e2;have e':h2=a:=by omega
       subst e';have:=gH _ _ i' i h2 kb k2 (by omega) l2 hn2
       omega
      ·exact hk2
     have:=I.c i h2 k2 h' r a2 b2 (by omega) hr2 hn2 this
     have:=hge a2;omega
   ·have up:∀{h:Int},(∃(i k':Nat)(h' hh r b:Int),rs[i]?=some (.take hh r h b)/\b+1=g C h/\(nms rs)[i]?=some (h',k')/\(k':Int)<g C h')->g (upC C (.take h1 r1 a kb)) h=g C h->∃(i k':Nat)(h' hh r b:Int),rs[i]?=some (.take hh r h b)/\b+1=g (upC C (.take h1 r1 a kb)) h/\(nms rs)[i]?=some (h',k')/\(k':Int)<g (upC C (.take h1 r1 a kb)) h':=λ{h} ⟨i,k',h',hh,r,b,q1,q2,q3,q4⟩ e=>⟨i,k',h',hh,r,b,q1,by rw[e];exact q2,q3,by have:=hge h';omega⟩
    have hgy:=hg y;split at hgy
    ·rename_i e;have e':y=a:=by omega
     subst e';by_cases z:g C y<(kb:Int)+1
     ·exact⟨⟨i',kb,rb,tb,l4,l2,by omega⟩,t,k,h,h1,r1,kb,hr,by omega,hn,by have:=hge h;omega⟩
     ·have q:=I.a0 y;obtain⟨⟨i2,k2,r2,t2,q1,q2,q3⟩,w⟩:=I.d y y0 y1 hne (by omega)
      exact⟨⟨i2,k2,r2,t2,q1,q2,by omega⟩,up w (by omega)⟩
    ·rw[hgy]at hp;obtain⟨⟨i2,k2,r2,t2,q1,q2,q3⟩,w⟩:=I.d y y0 y1 hne hp;exact⟨⟨i2,k2,r2,t2,q1,q2,by omega⟩,up w hgy⟩
 ·show PI H rs j nh nk t (if (k:Int)<C.getD h.toNat 0 then _ else _)
  rw[Hc hk];exact I.same hn λh' r a b e=>hk
theorem PI.all(W:WFL H rs)(hj:(nms rs)[j]?=some (nh,nk)):∀(l pre:List ((Int×Nat)×Rw)),((nms rs).zip rs).take (j+1)=pre++l->PI H rs j nh nk pre.length (l.foldr (λx C=>dR C x) (dg H nh nk))
 |[],pre,e=>by
  have hl:pre.length=j+1:=by
   have:=congrArg List.length e;have hjl:=(Hr.mp hj).1;simp[nms,g9]at this hjl;omega
  rw[hl];exact PI.start W hj
 |x::l,pre,e=>by
  have ih:=PI.all W hj l (pre++[x]) (by rw[e];simp)
  rw[HJ,List.length_singleton]at ih;have hx:(((nms rs).zip rs).take (j+1))[pre.length]?=some x:=by rw[e];simp
  have hlt:pre.length<j+1:=by
   have:=(Hr.mp hx).1;simp at this;omega
  rw[List.getElem?_take_of_lt hlt]at hx;obtain⟨⟨h,k⟩,r⟩:=x;obtain⟨e1,e2⟩:=List.getElem?_zip_eq_some.mp hx;rw[List.foldr_cons];exact ih.step W hj (by omega) e1 e2
theorem PI.past(W:WFL H rs)(hj:(nms rs)[j]?=some (nh,nk)):PI H rs j nh nk 0 (k9 H rs j nh nk):=by
 have:=PI.all W hj _ [] (List.nil_append _).symm;unfold k9;rw[List.foldl_reverse];exact this
end
section
variable {S:St}{r:Rw}{pre:List Rw}{c:Int->Nat}{H:Nat}{wy:List Wy}{i j:Int}
noncomputable def ofH(pre:List Rw)(h:Int):List Rw:=pre.filter λr=>decide (r.h=h)
noncomputable def aW(pre:List Rw)(i j:Int):Option Rw:=if 0<=j then (ofH pre i)[j.toNat]? else none
noncomputable def Rw.tk(i j:Int):Rw->Bool
 |.take _ _ a b=>decide (a=i)&&decide (b=j)
 |_=>false
noncomputable def tkn(pre:List Rw)(i j:Int):Bool:=pre.any (Rw.tk i j)
noncomputable def Rw.un:Rw->Option D
 |.send _ _ t=>some (.int t)
 |_=>none
noncomputable def unF(pre:List Rw)(i j:Int):Option D:=if tkn pre i j=true then none else (aW pre i j).bind Rw.un
structure UI (pre:List Rw)(S:St)(c:Int->Nat):Prop where
 si:SI S c pre.length
 nd:S.ku.Nodup
 cc:∀h,c h=(ofH pre h).length
 kr:∀h,getD S.kr S.dr (.inl h)=(ofH pre h).getLast?.map λr=>D.int r.r
 un:∀i j,getD S.ku S.du [i,j]=unF pre i j
 tk:∀i j,tkn pre i j=true->(aW pre i j).isSome=true
theorem ni{κ:Type}[DecidableEq κ]{k:κ}{v:D}:∀{ks:List κ}{ds:List D},getD ks ds k=some v->k∈ks
 |[],ds,h=>by simp[getD]at h
 |q::ks,[],h=>by simp[getD]at h
 |q::ks,d::ds,h=>by
  simp only[getD]at h;split at h
  ·rename_i e;rw[e];exact Hf
  ·exact Hb _ (ni h)
theorem k8{κ:Type}[DecidableEq κ]{k x:κ}:∀{ks:List κ}{ds:List D},ks.Nodup->ks.length=ds.length->getD (aF ks k) (aV ks ds k) x=if k=x then none else getD ks ds x
 |[],[],_,_=>by simp[aF,aV,getD]
 |q::ks,d::ds,hn,hl=>by
  have ih:=k8 (k:=k) (x:=x) (ks:=ks) (ds:=ds) (HF.mp hn).2 (by simpa using hl)
  simp only[aF,aV];by_cases e:q=k
  ·subst e;rw[Hg rfl,Hg rfl];by_cases e2:q=x
   ·subst e2;rw[Hg rfl];cases z:getD ks ds q with
    |none=>rfl
    |some v=>exact absurd (ni z) (HF.mp hn).1
   ·rw[Hc e2];simp[getD,e2]
  ·rw[Hc e,Hc e];by_cases e2:q=x
   ·subst e2;rw[Hc (He e)];simp[getD]
   ·simp only[getD,Hc e2];exact ih
theorem lu{κ:Type}[DecidableEq κ]{k x:κ}:∀{ks:List κ},x∈aF ks k->x∈ks
 |[],h=>by simpa [aF] using h
 |q::ks,h=>by
  simp only[aF]at h;split at h
  ·exact Hb _ h
  ·rcases Hj.mp h with h|h
   ·exact h▸Hf
   ·exact Hb _ (lu h)
theorem nU{κ:Type}[DecidableEq κ]{k:κ}:∀{ks:List κ},ks.Nodup->(aF ks k).Nodup
 |[],_=>by simp[aF]
 |q::ks,h=>by
  simp only[aF];split
  ·exact (HF.mp h).2
  ·exact HF.mpr ⟨λz=>(HF.mp h).1 (lu z),nU (HF.mp h).2⟩
theorem ju{κ:Type}[DecidableEq κ]{k x:κ}:∀{ks:List κ},x∈aj ks k->x=k\/x∈ks
 |[],h=>by simp[aj]at h;exact .inl h
 |q::ks,h=>by
  simp only[aj]at h;split at h
  ·exact .inr h
  ·rcases Hj.mp h with h|h
   ·exact .inr (h▸Hf)
   ·rcases ju h with h|h
    ·exact .inl h
    ·exact .inr (Hb _ h)
theorem l7{κ:Type}[DecidableEq κ]{k:κ}:∀{ks:List κ},ks.Nodup->(aj ks k).Nodup
 |[],_=>by simp[aj]
 |q::ks,h=>by
  simp only[aj];split
  ·exact h
  ·rename_i e;refine HF.mpr ⟨λz=>?_,l7 (HF.mp h).2⟩
   rcases ju z with z|z
   ·exact e z
   ·exact (HF.mp h).1 z
theorem cM:ofH (pre++[r]) i=if r.h=i then ofH pre i++[r] else ofH pre i:=by
 unfold ofH;rw[List.filter_append];by_cases e:r.h=i<;>simp[e]
theorem eZ:aW (pre++[r]) i j=if r.h=i/\j=(ofH pre i).length then some r else aW pre i j:=by
 unfold aW;rw[cM];by_cases e:r.h=i
 ·rw[Hg e];by_cases h0:0<=j
  ·rw[Hg h0,Hg h0];by_cases h1:j=(ofH pre i).length
   ·rw[Hg ⟨e,h1⟩,h1];simp
   ·rw[Hc λz=>h1 z.2]
    by_cases h2:j.toNat<(ofH pre i).length
    ·rw[List.getElem?_append_left h2]
    ·rw[List.getElem?_append_right (by omega),List.getElem?_eq_none (by simp;omega),List.getElem?_eq_none (by omega)]
  ·rw[Hc h0,Hc h0,Hc λz=>h0 (by omega)]
 ·have e2:¬ (r.h=i/\j=(ofH pre i).length):=λz=>e z.1
  rw[Hc e,Hc e2]
theorem gT:aW (pre++[r]) r.h ((ofH pre r.h).length:Nat)=some r:=by rw[eZ,Hg ⟨rfl,rfl⟩]
theorem fE:tkn (pre++[r]) i j=(tkn pre i j||r.tk i j):=by simp[tkn]
theorem fG:aW pre i ((ofH pre i).length:Nat)=none:=by simp[aW]
theorem oY(U:UI pre S c):unF pre i ((ofH pre i).length:Nat)=none:=by
 unfold unF;rw[fG];split<;>rfl
theorem sZ(U:UI pre S c):tkn pre i ((ofH pre i).length:Nat)=false:=by
 cases e:tkn pre i ((ofH pre i).length:Nat) with
 |false=>rfl
 |true=>have:=U.tk _ _ e;rw[fG]at this;cases this
theorem UI.step(U:UI pre S c)(hf:flt H wy S r=none):UI (pre++[r]) (S.step (c r.h) r) (bw c r.h):=by
 have th:=jn (nO hf).2;have si:=U.si.step (r:=r);have hk:∀h,getD (aj S.kr (.inl r.h)) (am S.kr S.dr (.inl r.h) (.int r.r)) (.inl h)=(ofH (pre++[r]) h).getLast?.map λr=>D.int r.r:=λh=>by
  rw[cu U.si.l2,cM];by_cases e:r.h=h
  ·subst e;simp
  ·have e2:¬ ((Sum.inl r.h:Key)=Sum.inl h):=λz=>e (Sum.inl.inj z)
   rw[Hc e2,Hc e];exact U.kr h
 have cc:∀h,bw c r.h h=(ofH (pre++[r]) h).length:=λh=>by
  rw[cM];unfold bw;by_cases e:h=r.h
  ·subst e;simp[U.cc]
  ·rw[Hc e,Hc (He e)];exact U.cc h
 have tk:∀i j,tkn (pre++[r]) i j=true->(aW (pre++[r]) i j).isSome=true:=λi j h=>by
  rw[eZ];split
  ·rfl
  ·rw[fE,Bool.or_eq_true]at h;rcases h with h|h
   ·exact U.tk i j h
   ·cases r with
    |take h' v a b=>
     simp only[Rw.tk,G9,Hk]at h;obtain⟨rfl,rfl⟩:=h;have e:getD S.ku S.du [a,b]=some (.int h'):=th;rw[U.un]at e;unfold unF at e;split at e
     ·cases e
     ·cases z:aW pre a b with
      |none=>rw[z]at e;cases e
      |some _=>rfl
    |_=>cases h
 have old:∀i j,r.tk i j=false->¬ (r.h=i/\j=(ofH pre i).length)->unF (pre++[r]) i j=unF pre i j:=λi j h1 h2=>by
  unfold unF;rw[fE,h1,Bool.or_false,eZ,Hc h2]
 have cl:pre.length+1=(pre++[r]).length:=by simp
 rw[cl]at si;cases r with
 |look h v=>
  refine⟨si,U.nd,cc,hk,λi j=>?_,tk⟩
  show getD S.ku S.du [i,j]=_;rw[U.un];by_cases e:h=i/\j=(ofH pre i).length
  ·obtain⟨rfl,rfl⟩:=e;rw[oY U];unfold unF;rw[show aW (pre++[_]) h _=_ from gT];split<;>rfl
  ·exact (old i j rfl e).symm
 |sight h v e l=>
  refine⟨si,U.nd,cc,hk,λi j=>?_,tk⟩
  show getD S.ku S.du [i,j]=_;rw[U.un];by_cases e:h=i/\j=(ofH pre i).length
  ·obtain⟨rfl,rfl⟩:=e;rw[oY U];unfold unF;rw[show aW (pre++[_]) h _=_ from gT];split<;>rfl
  ·exact (old i j rfl e).symm
 |send h v t=>
  refine⟨si,l7 U.nd,cc,hk,λi j=>?_,tk⟩
  show getD (aj S.ku [h,(c h:Int)]) (am S.ku S.du [h,(c h:Int)] (.int t)) [i,j]=_;rw[cu U.si.l3,U.un,U.cc];by_cases e:h=i/\j=(ofH pre i).length
  ·obtain⟨rfl,rfl⟩:=e;rw[Hg rfl];unfold unF;rw[fE,sZ U,show aW (pre++[_]) h _=_ from gT];rfl
  ·rw[Hc λz=>e (by
    simp only[List.cons.injEq,and_true]at z;exact⟨z.1,by rw[<-z.2,z.1]⟩)]
   exact (old i j rfl e).symm
 |take h v a b=>
  refine⟨si,nU U.nd,cc,hk,λi j=>?_,tk⟩
  show getD (aF S.ku [a,b]) (aV S.ku S.du [a,b]) [i,j]=_;rw[k8 U.nd U.si.l3];by_cases e0:a=i/\b=j
  ·obtain⟨rfl,rfl⟩:=e0;rw[Hg rfl];unfold unF;rw[fE];simp[Rw.tk]
  ·rw[Hc λz=>e0 (by simpa using z),U.un]
   have tf:(Rw.take h v a b).tk i j=false:=by
    simp only[Rw.tk];by_cases z:a=i
    ·have:¬ b=j:=λy=>e0 ⟨z,y⟩
     simp[this]
    ·simp[z]
   by_cases e:h=i/\j=(ofH pre i).length
   ·obtain⟨rfl,rfl⟩:=e;rw[oY U];unfold unF;rw[show aW (pre++[_]) h _=_ from gT];split<;>rfl
   ·exact (old i j tf e).symm
theorem ui0:UI [] S0 (λ_=>0):=⟨si0,List.nodup_nil,(λ_=>rfl),(λ_=>rfl),(λi j=>by unfold unF aW ofH tkn;simp[S0,getD]),(λi j h=>by simp[tkn]at h)⟩
noncomputable abbrev RS(pre:List Rw):St:=d9 S0 (λ_=>0) pre
end
section
variable {S:St}{r x:Rw}{rs pre:List Rw}{c:Int->Nat}{H:Nat}{wy:List Wy}{C D:List Int}{j:Nat}{nh:Int}{nk:Nat}
noncomputable abbrev NR:=(Int×Nat)×Rw
noncomputable abbrev Zs(rs:List Rw):List NR:=(nms rs).zip rs
noncomputable def kp(C:List Int)(x:NR):Bool:=decide ((x.1.2:Int)<g C x.1.1)
noncomputable def bQ(C:List Int)(rs:List Rw):List Rw:=((Zs rs).filter (kp C)).map Prod.snd
theorem jk{P:List Rw->Prop}(h0:P [])(hs:∀l x,P l->P (l++[x])):∀l,P l:=λl=>by
 have:∀(post pre:List Rw),P pre->P (pre++post):=λpost=>by
  induction post with
  |nil=>intro pre h;simpa using h
  |cons x post ih=>intro pre h;have:=ih _ (hs pre x h);simpa using this
 exact this l [] h0
theorem fF:(nms rs).length=rs.length:=by simp[nms,g9]
theorem u0{h:Int}:(rs.map Rw.h).count h=(ofH rs h).length:=by
 unfold ofH
 induction rs with
 |nil=>rfl
 |cons x rs ih=>
  rw[Hl,List.count_cons,List.filter_cons,ih];by_cases e:x.h=h<;>simp[e]
theorem jg:nms (rs++[x])=nms rs++[(x.h,(ofH rs x.h).length)]:=by
 unfold nms;rw[Io,List.map_singleton,uz,u0,Nat.zero_add]
theorem jM:Zs (rs++[x])=Zs rs++[((x.h,(ofH rs x.h).length),x)]:=by
 unfold Zs;rw[jg,List.zip_append fF];rfl
theorem Bb{y:NR}(h:y∈Zs rs):y.1.1=y.2.h:=by
 induction rs using jk with
 |h0=>cases h
 |hs l x ih=>
  rw[jM]at h;rcases HU.mp h with h|h
  ·exact ih h
  ·rw[HY.mp h]
theorem wd:bQ C (rs++[x])=bQ C rs++if ((ofH rs x.h).length:Int)<g C x.h then [x] else []:=by
 unfold bQ;rw[jM,List.filter_append,Io];by_cases h:((ofH rs x.h).length:Int)<g C x.h<;>simp[kp,h]
theorem qz:Zs (bQ C rs)=(Zs rs).filter (kp C)/\∀h,ofH (bQ C rs) h=(ofH rs h).take (g C h).toNat:=by
 induction rs using jk with
 |h0=>exact⟨rfl,λh=>by simp[bQ,ofH,Zs,nms,nmF]⟩
 |hs l x ih=>
  obtain⟨A,B⟩:=ih;rw[wd,jM,List.filter_append];by_cases h:((ofH l x.h).length:Int)<g C x.h
  ·have e:ofH (bQ C l) x.h=ofH l x.h:=by rw[B,List.take_of_length_le (by omega)]
   rw[Hg h,jM,A,e];refine⟨by simp[kp,h],λy=>?_⟩
   rw[cM,cM];by_cases z:x.h=y
   ·subst z;rw[Hg rfl,Hg rfl,e,List.take_of_length_le (by simp;omega)]
   ·rw[Hc z,Hc z];exact B y
  ·rw[Hc h,Ia];refine⟨by simp[kp,h,A],λy=>?_⟩
   rw[cM];by_cases z:x.h=y
   ·subst z;rw[Hg rfl,List.take_append_of_le_length (by omega)];exact B _
   ·rw[Hc z];exact B y
theorem sent_Z{a b:Int}:aW rs a b=some r<->∃k:Nat,b=k/\((a,k),r)∈Zs rs:=by
 induction rs using jk with
 |h0=>simp[aW,ofH,Zs,nms,nmF]
 |hs l x ih=>
  rw[eZ,jM];by_cases e:x.h=a/\b=(ofH l a).length
  ·obtain⟨rfl,rfl⟩:=e;rw[Hg ⟨rfl,rfl⟩];constructor
   ·intro h;cases h;exact⟨_,rfl,by simp⟩
   ·rintro⟨k,hk,h⟩;rcases HU.mp h with h|h
    ·have:=ih.mpr ⟨k,hk,h⟩;rw[show ((ofH l x.h).length:Int)=((ofH l x.h).length:Nat) from rfl,fG]at this;cases this
    ·simp at h;rw[h.2]
  ·rw[Hc e,ih];constructor
   ·rintro⟨k,hk,h⟩;exact⟨k,hk,Im _ h⟩
   ·rintro⟨k,hk,h⟩;rcases HU.mp h with h|h
    ·exact⟨k,hk,h⟩
    ·simp at h;exact absurd ⟨h.1.1.symm,by rw[hk,h.1.2,h.1.1]⟩ e
structure Gd (H:Nat)(wy:List Wy)(pre:List Rw)(r:Rw):Prop where
 hd:0<=r.h/\r.h<H
 rd:∀x,(ofH pre r.h).getLast?=some x->x.r<=r.r
 ub:r.r<10 ^ 40
 sg:∀h v e l,r=.sight h v e l->e<=l
 sn:∀h v t,r=.send h v t->[h,t]∈wy.map pr
 tk:∀h v a b,r=.take h v a b->tkn pre a b=false/\∃v',aW pre a b=some (.send a v' h)
inductive Good (H:Nat) (wy:List Wy):List Rw->Prop where
 |nil:Good H wy []
 |snoc {rs:List Rw}{x:Rw} (h:Good H wy rs) (d:Gd H wy rs x):Good H wy (rs++[x])
theorem m7:∀(rs:List Rw)(S:St)(c:Int->Nat),cO H wy S c rs->flt H wy (d9 S c rs) x=none->cO H wy S c (rs++[x])
 |[],S,c,_,h=>⟨h,trivial⟩
 |r::rs,S,c,f,h=>⟨f.1,m7 rs _ _ f.2 h⟩
theorem jA:∀(rs:List Rw)(S:St)(c:Int->Nat),d9 S c (rs++[x])=(d9 S c rs).step (rM c rs x.h) x/\rM c (rs++[x])=bw (rM c rs) x.h
 |[],S,c=>⟨rfl,rfl⟩
 |r::rs,S,c=>jA rs _ _
theorem Gd.flt(d:Gd H wy rs x)(U:UI rs S c):flt H wy S x=none:=by
 have h1:flC H S x=none:=by
  unfold flC;rw[Hg (by simp[okH,d.hd.1,d.hd.2]),U.kr]
  cases e:(ofH rs x.h).getLast? with
  |none=>rfl
  |some y=>have:=d.rd y e;simp;omega
 unfold G.flt;rw[h1];cases x with
 |look h v=>rfl
 |sight h v e l=>have:=d.sg _ _ _ _ rfl;simp[flK];omega
 |send h v t=>simp only[flK,Hg (d.sn _ _ _ rfl)]
 |take h v a b=>
  obtain⟨t1,v',t2⟩:=d.tk _ _ _ _ rfl;simp only[flK,U.un,unF,t1,t2];simp[Rw.un]
theorem Good.fine(h:Good H wy rs):cO H wy S0 (λ_=>0) rs/\UI rs (d9 S0 (λ_=>0) rs) (rM (λ_=>0) rs):=by
 induction h with
 |nil=>exact⟨trivial,ui0⟩
 |@snoc rs x _ d ih=>
  have hf:=d.flt ih.2;refine⟨m7 _ _ _ ih.1 hf,?_⟩;rw[(jA rs S0 (λ_=>0)).1,(jA rs S0 (λ_=>0)).2]
  exact ih.2.step hf
theorem BG{y:NR}(h:y∈Zs rs):∃i:Nat,rs[i]?=some y.2/\(nms rs)[i]?=some y.1:=by
 obtain⟨i,hi⟩:=List.mem_iff_getElem?.mp h;obtain⟨a1,a2⟩:=List.getElem?_zip_eq_some.mp hi;exact⟨i,a2,a1⟩
theorem wX{i:Nat}{v:Int×Nat}(h1:rs[i]?=some r)(h2:(nms rs)[i]?=some v):(v,r)∈Zs rs:=HL (List.getElem?_zip_eq_some.mpr ⟨h2,h1⟩)
theorem Good.wfl(h:Good H wy rs):WFL H rs:=by
 induction h with
 |nil=>exact⟨λ_ h=>(by cases h),λi h r a b e=>by simp at e⟩
 |@snoc rs x _ d W=>
  refine⟨λr hr=>?_,λi h v a b e=>?_⟩
  ·rcases HU.mp hr with hr|hr
   ·exact W.hd r hr
   ·rw[HY.mp hr];exact d.hd
  ·have up:∀{i:Nat}{y:Rw},rs[i]?=some y->(rs++[x])[i]?=some y:=λ{i y} z=>by rw[List.getElem?_append_left (Hr.mp z).1];exact z
   have un:∀{i:Nat}{y:Int×Nat},(nms rs)[i]?=some y->(nms (rs++[x]))[i]?=some y:=λ{i y} z=>by rw[jg,List.getElem?_append_left (Hr.mp z).1];exact z
   by_cases hi:i<rs.length
   ·rw[List.getElem?_append_left hi]at e;obtain⟨i',k,r',t',h1,h2,h3,h4⟩:=W.tk i _ _ _ _ e;exact⟨i',k,r',t',h1,un h2,h3,up h4⟩
   ·have hl:=(Hr.mp e).1;have:i=rs.length:=by simp at hl;omega
    subst this;simp at e;obtain⟨_,v',h2⟩:=d.tk _ _ _ _ e;obtain⟨k,hk,hz⟩:=sent_Z.mp h2;obtain⟨i',q1,q2⟩:=BG hz;exact⟨i',k,v',h,(Hr.mp q1).1,un q2,hk,up q1⟩
theorem Good.take(G:Good H wy rs)(m:Nat):Good H wy (rs.take m):=by
 induction G with
 |nil=>simpa using Good.nil
 |@snoc rs x G d ih=>
  by_cases h:m<=rs.length
  ·rw[List.take_append_of_le_length h];exact ih
  ·rw[List.take_of_length_le (by simp;omega)];exact .snoc G d
end
section
variable {cls kls fad:Nat->PySem.Addr}{M:MH}{Q:VK3}{E:XN}{n:Nat}{cks:List (Int×Int)}{rs:List Rw}{H:Nat}{wy:List Wy}{C:List Int}{A Bs A' B':List NR}{x x':NR}
noncomputable def pv(H:Nat)(A:List NR)(x:NR):List Int:=(A++[x]).reverse.foldl dR (dg H x.1.1 x.1.2)
theorem ss:(Zs rs).length=rs.length:=by rw[List.length_zip,fF,Nat.min_self]
theorem pX(hz:Zs rs=A++x::Bs):rs[A.length]?=some x.2/\(nms rs)[A.length]?=some x.1:=by
 have:(Zs rs)[A.length]?=some x:=by rw[hz];simp
 exact (List.getElem?_zip_eq_some.mp this).symm
theorem pY(hz:Zs rs=A++x::Bs):k9 H rs A.length x.1.1 x.1.2=pv H A x:=by
 unfold k9 pv;rw[show (nms rs).zip rs=A++x::Bs from hz,List.take_append,List.take_of_length_le (by omega)]
 simp
theorem xM(G:Good H wy rs)(hz:Zs rs=A++x::Bs):PI H rs A.length x.1.1 x.1.2 0 (pv H A x):=by
 rw[<-pY hz];exact PI.past G.wfl (pX hz).2
theorem Ad:eA ((nms rs).map nD) (rs.map Rw.d)=(Zs rs).map pD:=by
 unfold eA Zs;rw[List.zip_map,HG];rfl
noncomputable def cC(C:List Int):D->Bool
 |.tup [.tup [.int h,.int k],_]=>decide (k<g C h)
 |_=>false
noncomputable def cR:D->D
 |.tup [_,d]=>d
 |_=>.non
theorem yM:(((Zs rs).map pD).filter (cC C)).map cR=(bQ C rs).map Rw.d:=by
 unfold bQ;rw[List.filter_map,HG,HG];have e1:(cC C∘pD)=kp C:=by funext e;simp[cC,pD,nD,kp]
 have e2:(cR∘pD)=(Rw.d∘Prod.snd):=by funext e;simp[cR,pD]
 rw[e1,e2]
theorem Bh(hl:rs.length<400)(hM:Fm M)(hC:C.length=H)(hr:∀r∈rs,0<=r.h/\r.h<H)(hQ:∀p,M p=none->Q (.ref p) (put M p (.lst ((bQ C rs).map Rw.d)))):aa T (B cls kls fad) (n+3) 24 [.rol (rs.map Rw.d),.rol (C.map D.int)] M Q E:=by
 have hn:∀{M:MH}{Q:VK3}{E:XN},Fm M->aa T (B cls kls fad) (n+2) 14 [.rol (rs.map Rw.d)] M Q E=Q (.rol ((nms rs).map nD)) M:=λ{M Q E} hM=>gJ rs hl hM
 rw[Ck];simp[tQ,hn hM,Ad,ao];intro p hp;rw[dN (λσ=>∃x0 x1,σ=[x0,x1,some (.rol (C.map D.int))]) (λd=>match d with
  |.tup [u,v]=>[some u,some v,some (.rol (C.map D.int))]
  |_=>[]) (cC C) cR _ [] _ ⟨none,none,rfl⟩ hM hp (by rw[PySem.sizeLine_eq,Hm,ss];simp;omega) (λ_ _=>trivial) (λd hd=>by
   obtain⟨e,he,rfl⟩:=Ht.mp hd;refine⟨⟨_,_,rfl⟩,?_⟩;rintro σ ⟨x0,x1,rfl⟩ M k;simp[pD]) (λd hd M' hE Q'=>by
   obtain⟨e,he,rfl⟩:=Ht.mp hd;have e1:=Bb he;obtain⟨w1,w2⟩:=hr _ (List.of_mem_zip he).2;rw[<-e1]at w1 w2;obtain⟨⟨h,k⟩,r⟩:=e;simp only at w1 w2;obtain⟨h',rfl⟩:∃h':Nat,h=h':=⟨h.toNat,by omega⟩
   have hx:∀{M:MH}{Q:VK3},au (.rol (C.map D.int)) (.int (h':Int)) M Q=Q (.int (C.getD h' 0)) M:=λ{M Q}=>bS (eE (by omega))
   simp[pD,nD,gO,↓hx];simp[cC,g]) (λd hd _ M' hE Q'=>by
   obtain⟨e,he,rfl⟩:=Ht.mp hd;simp[pD,cR])]
 rw[List.nil_append,yM];exact hQ p hp
theorem Good.ltr(G:Good H wy rs):∀r∈rs,0<=r.h/\r.h<H/\r.ltr H:=λr hr=>by
 have W:=G.wfl;refine⟨(W.hd r hr).1,(W.hd r hr).2,?_⟩;cases r with
 |take h v a b=>
  obtain⟨i,hi⟩:=List.mem_iff_getElem?.mp hr;obtain⟨i',k,r',t',_,h2,h3,h4⟩:=W.tk i _ _ _ _ hi;have:=W.nm h2;simp only[Rw.ltr];omega
 |_=>trivial
theorem zY(G:Good cks.length wy rs)(h1:1<=cks.length)(h6:cks.length<=6)(hl:rs.length<400)(hM:Fm M)(hz:Zs rs=A++x::Bs)(hQ:∀p,M p=none->Q (.ref p) (put M p (.lst ((bQ (pv cks.length A x) rs).map Rw.d)))):aa T (B cls kls fad) (n+6) 25 [wO kls cks wy,.rol (rs.map Rw.d),nD x.1] M Q E:=by
 obtain⟨a1,a2⟩:=pX hz;have hx:=Bb (rs:=rs) (y:=x) (by rw[hz];simp)
 have a3:=pJ a1;rw[a2]at a3;have a4:x.1.2=((rs.map Rw.h).take A.length).count x.1.1:=by rw[Option.some.injEq]at a3;rw[a3]
 have hp:=λ{Q:VK3}{E:XN}=>Af (cls:=cls) (kls:=kls) (fad:=fad) (n:=n) (M:=M) (Q:=Q) (E:=E) (wy:=wy) (cks:=cks) (rs:=rs) (j:=A.length) (h:=x.1.1) hl hM h1 h6 (by rw[HB,a1,hx];rfl) G.ltr
 rw[<-a4,pY hz]at hp;rw[zm];simp[ow,nD,hp];exact Bh (n:=n+2) hl hM (xM G hz).len (λr hr=>G.wfl.hd r hr) hQ
end
section
variable {cls kls fad:Nat->PySem.Addr}{M:MH}{Q:VK3}{E:XN}{n:Nat}{cks:List (Int×Int)}{wy:List Wy}{H:Nat}{rs vs:List Rw}{r:Rw}
theorem eR{a b:PySem.Addr}(hab:a≠b){M0:MH}{De:Ends3}{ES:St3->XN}{R:Prop}{log:Option D}{W:WC}{S:MH->Prop}(hS:∀ks ds acc,S (put (put M0 a (.dk ks ds)) b (.lst acc))):∀(rs:List Rw)(ks:List Key)(ds acc:List D)(c:Int->Nat)(x3:Option D),ks.length=ds.length->ks.length+rs.length<500->acc.length+rs.length<500->(∀h,(getD ks ds (.inl h)).getD (.int 0)=.int (c h))->
  (∀ks' ds' x,De.nx [log,some (.ref a),some (.ref b),x] (put (put M0 a (.dk ks' ds')) b (.lst (acc++(nmF (rs.map Rw.h) c).map nD)))=R)->
  aY W (.name 3) bM ES S De (rs.map Rw.d) [log,some (.ref a),some (.ref b),x3] (put (put M0 a (.dk ks ds)) b (.lst acc))=R
 |[],ks,ds,acc,c,x3,_,_,_,_,hR=>by
  have:=hR ks ds x3;simp[nmF]at this;simp[aX,this,hS]
 |r::rs,ks,ds,acc,c,x3,hl,h1,h2,hc,hR=>by
  have ha:(put (put M0 a (.dk ks ds)) b (.lst acc)) a=some (.dk ks ds):=by rw[ah hab,af]
  simp only[HA]at h1 h2;have hs:acc.length<PySem.sizeLine:=Ho (show acc.length<1000 by omega) (by decide)
  have hks:ks.length<PySem.sizeLine:=Ho (show ks.length<1000 by omega) (by decide)
  have ih:=eR hab hS (De:=De) (ES:=ES) (R:=R) (log:=log) (W:=W) rs (aj ks (.inl r.h)) (am ks ds (.inl r.h) (.int (c r.h+1))) (acc++[nD (r.h,c r.h)]) (bw c r.h) (some r.d) (bU hl) (by have:=br (ks:=ks) (k:=(.inl r.h:Key));omega) (by simp;omega) (λx=>by
    rw[cu hl];by_cases e:r.h=x
    ·subst e;simp[bw]
    ·have e2:¬ ((Sum.inl r.h:Key)=Sum.inl x):=λz=>e (Sum.inl.inj z)
     rw[Hc e2,hc x];simp[bw,He e]) (by
    intro ks' ds' x;have:=hR ks' ds' x;simpa [nmF] using this)
  have i1:=λ{M:MH}{Q:VK3}=>lm (M:=M) (Q:=Q) (r:=r)
  have ha2:(put (put M0 a (.dk (aj ks (.inl r.h)) (am ks ds (.inl r.h) (.int (c r.h+1))))) b (.lst acc)) a=some (.dk (aj ks (.inl r.h)) (am ks ds (.inl r.h) (.int (c r.h+1)))):=by rw[ah hab,af]
  have i2:∀{Q:VK3},au (.ref a) (.int r.h) (put (put M0 a (.dk (aj ks (.inl r.h)) (am ks ds (.inl r.h) (.int (c r.h+1))))) b (.lst acc)) Q=Q (.int (c r.h+1)) (put (put M0 a (.dk (aj ks (.inl r.h)) (am ks ds (.inl r.h) (.int (c r.h+1))))) b (.lst acc)):=λ{Q}=>by
   simp[au,aD,ai,ha2,iy,fN,mP,cu hl]
  rw[Hl,av];simp[bM,hS,↓i1,j8 ha,pM ha,hc r.h,gY ha,hks,eN hab,↓i2,hs,aH];simpa [nD,bM] using ih
def Ls(M:MH)(x:D)(rs:List Rw):Prop:=x=.rol (rs.map Rw.d)\/∃p,x=.ref p/\M p=some (.lst (rs.map Rw.d))
theorem fk{x:D}(hx:Ls M x rs)(hl:rs.length<400)(hM:Fm M):aa T (B cls kls fad) (n+1) 45 [x] M Q E=Q (.rol ((nms rs).map nD)) M:=by
 simp[nX,eW];refine iff_of_eq (aw hM λa ha=>?_)
 simp[aH];refine iff_of_eq (aw (hM.put _ _) λb hb=>?_)
 obtain⟨hab,hb'⟩:=aG hb;rcases hx with rfl|⟨p,rfl,hp⟩
 ·refine eR (He hab) (λ_ _ _=>trivial) rs [] [] [] _ _ rfl (by simp;omega) (by simp;omega) (λh=>rfl) λks' ds' x=>?_
  simp[ha,hb',ah hab,nms]
 ·have na:p≠a:=λe=>by rw[e,ha]at hp;cases hp
  have nb:p≠b:=λe=>by rw[e,hb']at hp;cases hp
  rw[eO (by rw[ah nb,ah na];exact hp)]
  refine eR (He hab) (λ_ _ _=>by rw[ah nb,ah na];exact hp) rs [] [] [] _ _ rfl (by simp;omega) (by simp;omega) (λh=>rfl) λks' ds' x=>?_
  simp[ha,hb',ah hab,nms]
theorem tT:eqD r.d r.d=true:=by cases r<;>simp[Rw.d,eqD,bx]
theorem j1{m:Nat}:plN (m+2) r.d=true:=by cases r<;>simp[Rw.d,plN]
theorem AC:cK true r.d r.d M Q=Q (.bl false) M:=by
 have e:L2.rs M r.d=r.d:=by cases r<;>rfl
 simp only[cK,e,pl,j1,tT,true_and];rfl
theorem qm:bx (rs.map Rw.d) (rs.map Rw.d)=true:=by
 induction rs with
 |nil=>simp[bx]
 |cons r rs ih=>simp[bx,tT,ih]
theorem vv{u v:D}{neg:Bool}(h1:ai M u=some (rs.map Rw.d))(h2:ai M v=some (rs.map Rw.d)):cK neg u v M Q=Q (.bl (!neg)) M:=by
 have hp:pls (rs.map Rw.d)=true:=by simp[pls,j1]
 have h7:pl (.rol (rs.map Rw.d))=true:=by simp[pl,plN,j1]
 simp only[cK,L2.rs,h1,h2,hp,if_true,h7,true_and,eqD,qm];simp
noncomputable def mD(p:Int×Int):D:=.tup [.int p.1,.int p.2]
theorem BH{p q:Int×Int}:eqD (mD p) (mD q)=decide (p=q):=by
 obtain⟨a,b⟩:=p;obtain⟨c,d⟩:=q;simp[mD,eqD,bx]
theorem xo{p q:Int×Int}{neg:Bool}:cK neg (mD p) (mD q) M Q=Q (.bl (neg ^^ decide (p=q))) M:=by
 have e:∀p,L2.rs M (mD p)=mD p:=λ_=>rfl
 have e2:∀p,pl (mD p)=true:=λ_=>by simp[mD,pl,plN]
 simp only[cK,e,e2,true_and,BH]
theorem Bf{l:List (Int×Int)}{p:Int×Int}{z:D}{neg:Bool}(h:aD M z=some (l.map mD)):lJ neg (mD p) z M Q=Q (.bl (neg ^^ decide (p∈l))) M:=by
 have hp:pls (l.map mD)=true:=by simp[plN,mD]
 have hr:res M (mD p)=mD p:=rfl;have hx:pl (mD p)=true:=by simp[mD,pl,plN]
 have ha:((l.map mD).any λd=>eqD d (mD p))=decide (p∈l):=by
  clear h hp
  induction l with
  |nil=>rfl
  |cons q l ih=>
   rw[Hl,List.any_cons,ih,BH];by_cases e:q=p
   ·simp[e]
   ·simp[e,He e]
 simp only[lJ,h,hp,hr,hx,true_and,ha]
noncomputable def pz(p:Int×Nat):Int×Int:=(p.1,p.2)
theorem pK{p:Int×Nat}:nD p=mD (pz p):=rfl
theorem AB{p q:Int×Nat}:pz p=pz q<->p=q:=by
 obtain⟨a,b⟩:=p;obtain⟨c,d⟩:=q;simp[pz];omega
noncomputable abbrev rL(rs:List Rw):D:=.rol (rs.map Rw.d)
noncomputable abbrev nL(rs:List Rw):D:=.rol ((nms rs).map nD)
noncomputable def zD(x:NR):D:=.tup [x.2.d,nD x.1]
theorem ui:eA (rs.map Rw.d) ((nms rs).map nD)=(Zs rs).map zD:=by
 have:∀(l:List (Int×Nat)) (rs:List Rw),eA (rs.map Rw.d) (l.map nD)=(l.zip rs).map zD:=λl=>by
  induction l with
  |nil=>intro rs;cases rs<;>rfl
  |cons x l ih=>
   intro rs;cases rs with
   |nil=>rfl
   |cons r rs=>have:=ih rs;unfold eA at this ⊢;simp only[Hl,List.zip_cons_cons,this];rfl
 exact this _ _
theorem yE{W:WC}{cn:IT}{body:ISs}{De:Ends3}{ES:St3->XN}{σ:St3}:wpS W (.whl cn body) De ES σ M=∃P:Nat->St3->MH->Prop,(∃m,P m σ M)/\∀m σ M,P m σ M->wpT W cn σ M (λb M1=>if b=true then aO W body {De with nx:=λσ' M'=>∃m',m' < m/\P m' σ' M',ct:=λσ' M'=>∃m',m' < m/\P m' σ' M',bk:=De.nx} ES σ M1 else De.nx σ M1) (ES σ):=rfl
theorem kZ{W:WC}{q:NR->Bool}{De:Ends3}{ES:St3->XN}{y0:Option D}{S:MH->Prop}(hS:S M)(hl:rs.length<400):∀(F P L:List NR)(x2 x5:Option D),Zs rs=P++L->L.filter q=F->
  (∀x2 x4 x5,De.nx [y0,some (rL rs),x2,some (nL rs),x4,x5] M)->
  aY W (.tup [2,5]) b9 ES S De (F.map zD) [y0,some (rL rs),x2,some (nL rs),some (.int (P.length:Nat)),x5] M
 |[],P,L,x2,x5,_,_,hR=>by rw[List.map_nil,aX];exact⟨hS,hR _ _ _⟩
 |y::F,P,L,x2,x5,hz,hf,hR=>by
  obtain⟨l1,l2,rfl,_,_,hf2⟩:=List.filter_eq_cons_iff.mp hf;have ih:=λx2 x5=>kZ (W:=W) (De:=De) (ES:=ES) (y0:=y0) hS hl F (P++l1++[y]) l2 x2 x5 (by rw[hz];simp) hf2 hR
  rw[Hl,av];refine⟨hS,?_⟩;have hz':Zs rs=(P++l1)++y::l2:=by rw[hz];simp
  obtain⟨a1,a2⟩:=pX hz';have hlt:(P++l1).length<rs.length:=(Hr.mp a1).1;have ht:(P++l1++[y]).length=(P++l1).length+1:=by simp;omega
  have hp:P.length+l1.length=(P++l1).length:=by simp
  rw[ht]at ih;generalize (P++l1).length=t0 at *
  have ix:∀{m:Nat}{v:Int×Nat}{M:MH}{Q:VK3},(nms rs)[m]?=some v->au (nL rs) (.int (m:Int)) M Q=Q (nD v) M:=λ{m v M Q} h=>bS (cf (by simp[h]))
  have ir:∀{M:MH}{Q:VK3},au (rL rs) (.int (t0:Int)) M Q=Q y.2.d M:=λ{M Q}=>bS (cf (by rw[HB,a1];rfl))
  have nq:∀m:Nat,m<t0->(nms rs)[m]?≠some y.1:=λm hm e=>by
   have:=gH _ _ m _ y.1.1 y.1.2 y.1.2 hm e a2;omega
  generalize aY W (.tup [2,5]) b9 ES S De (F.map zD)=K at ih ⊢;simp only[Am,zD,vp];simp[b9,yE];refine⟨λm σ M'=>M'=M/\∃at_:Nat,at_+m=t0/\σ=[y0,some (rL rs),some y.2.d,some (nL rs),some (.int (at_:Int)),some (nD y.1)],⟨l1.length,rfl,P.length,hp,rfl⟩,?_⟩
  rintro m σ M' ⟨rfl,at_,hm,rfl⟩;have hat:at_<rs.length:=by omega
  cases m with
  |zero=>
   rw[Nat.add_zero]at hm;subst hm;have n1:¬ (at_:Int)=rs.length:=by omega
   simp[ix a2,pK,aq,xo,hlt,n1,ir,AC];simpa using ih _ _
  |succ m=>
   obtain⟨v,hv⟩:∃v,(nms rs)[at_]?=some v:=⟨_,Hy (by rw[fF];exact hat)⟩
   have hne:¬ v=y.1:=λe=>nq at_ (by omega) (e▸hv)
   simp[ix hv,pK,aq,xo,AB,hne,hat,fZ];exact⟨m,by omega,at_+1,by omega,by simp⟩
theorem lM{C:List Int}(hl:rs.length<400):(bQ C rs).length<400:=by
 have:(bQ C rs).length<=(Zs rs).length:=by unfold bQ;rw[Hm];exact List.length_filter_le ..
 rw[ss]at this;omega
theorem tz{C:List Int}{p:PySem.Addr}(hp:M p=some (.lst ((bQ C rs).map Rw.d)))(hl:rs.length<400)(hM:Fm M)(hQ:Q (.bl true) M):aa T (B cls kls fad) (n+2) 46 [.ref p,rL rs] M Q E:=by
 have h1:∀{Q:VK3}{E:XN},aa T (B cls kls fad) (n+1) 45 [rL rs] M Q E=Q (nL rs) M:=λ{Q E}=>fk (.inl rfl) hl hM
 have h2:∀{Q:VK3}{E:XN},aa T (B cls kls fad) (n+1) 45 [.ref p] M Q E=Q (nL (bQ C rs)) M:=λ{Q E}=>fk (.inr ⟨p,rfl,hp⟩) (lM hl) hM
 have il:∀{Q:VK3},i3 .list (.ref p) M Q=Q (.bl true) M:=λ{Q}=>by simp[i3,hp]
 rw[o5];simp[f8,↓il];rw[eO hp];refine uk (P:=λσ=>∃x2,σ=[some (.ref p),some (rL rs),x2,none,none,none]) hp ⟨none,rfl⟩ ?_ ?_
 ·rintro d hd σ ⟨x2,rfl⟩ k hk;obtain⟨r,hr,rfl⟩:=Ht.mp hd;have it:∀{Q:VK3},i3 .tuple r.d M Q=Q (.bl true) M:=λ{Q}=>by cases r<;>simp[Rw.d,i3]
  obtain⟨m,h3,ln⟩:∃m:Int,¬ m<3/\∀{Q:VK3},rBi .len [r.d] M Q=Q (.int m) M:=by cases r<;>exact⟨_,by simp,rfl⟩
  simp[wpG,fP,↓it,ln,h3];exact hk _ ⟨_,rfl⟩
 ·rintro σ ⟨x2,rfl⟩;simp[h1,h2,rLs,hp];rw[ui];refine kZ (q:=kp C) hp hl _ [] (Zs rs) x2 none rfl qz.1.symm λx2 x4 x5=>?_
  simpa using hQ
end
section
variable {cls kls fad:Nat->PySem.Addr}{M:MH}{Q:VK3}{E:XN}{n:Nat}{H:Nat}{wy:List Wy}{rs vs:List Rw}{r:Rw}{C:List Int}{A Bs:List NR}{x:NR}
noncomputable def Rw.s:Rw->PySem.Str
 |.look ..=>"look"
 |.sight ..=>"sight"
 |.send ..=>"send"
 |.take ..=>"take"
noncomputable def Rw.isT:Rw->Bool
 |.take ..=>true
 |_=>false
noncomputable def Rw.isS:Rw->Bool
 |.send ..=>true
 |_=>false
noncomputable def Rw.lt:Rw->Int×Int
 |.take _ _ a b=>(a,b)
 |_=>(0,0)
theorem m6:au r.d (.int 0) M Q=Q (.str r.s) M:=by cases r<;>simp[Rw.d,Rw.s]
theorem oq:decide (r.s=PySem.Str.ofString "take")=r.isT:=by cases r<;>rfl
theorem uR:decide (r.s=PySem.Str.ofString "send")=r.isS:=by cases r<;>rfl
theorem AA(h:r.isT=true):au r.d (.int 3) M Q=Q (mD r.lt) M:=by
 cases r with
 |take h v a b=>simp[au,aD,ai,Rw.d,atI,ixN,mD,Rw.lt]
 |_=>cases h
noncomputable def tkL(vs:List Rw):List (Int×Int):=(vs.filter Rw.isT).map Rw.lt
noncomputable def sdL(vs:List Rw):List (Int×Int):=((Zs vs).filter λx=>x.2.isS).map λx=>pz x.1
noncomputable def wC(s:PySem.Str):D->Bool
 |.tup (.str t::_)=>decide (t=s)
 |_=>false
noncomputable def w3:D->D
 |.tup [_,_,_,d]=>d
 |_=>.non
theorem wY{W:WC}{p:PySem.Addr}(hp:M p=some (.lst (vs.map Rw.d)))(hl:vs.length<400)(hM:Fm M):fS W (.name 0) (.yes (.cmp .Eq (.ix V0 I0) (.con (.str "take")))) (.ix V0 I3) (λM=>M p=some (.lst (vs.map Rw.d))) Q (vs.map Rw.d) [none] M=Q (.rol ((tkL vs).map mD)) M:=by
 rw[cN (wC "take") w3 hM (by simp;omega) (λd hd M' hE Q'=>by
  obtain⟨r,hr,rfl⟩:=Ht.mp hd;have e:wC "take" r.d=r.isT:=by cases r<;>rfl
  simp[gO,m6,oq,e]) (λd hd hc M' hE Q'=>by
  obtain⟨r,hr,rfl⟩:=Ht.mp hd;have e:wC "take" r.d=r.isT:=by cases r<;>rfl
  rw[e]at hc;have e3:w3 r.d=mD r.lt:=by
   cases r with
   |take h v a b=>rfl
   |_=>cases hc
  simp[AA hc,e3]) λM' hE=>hE.2 _ _ hp]
 congr 2;unfold tkL;rw[List.filter_map,HG,HG];have e1:(wC "take"∘Rw.d)=Rw.isT:=by funext r;cases r<;>rfl
 rw[e1];apply List.map_congr_left;intro r hr;have:=(List.mem_filter.mp hr).2;cases r with
 |take h v a b=>rfl
 |_=>cases this
noncomputable def zC:D->Bool
 |.tup [d,_]=>wC "send" d
 |_=>false
noncomputable def z1:D->D
 |.tup [_,d]=>d
 |_=>.non
theorem vt{W:WC}{p:PySem.Addr}(hp:M p=some (.lst (vs.map Rw.d)))(hl:vs.length<400)(hM:Fm M):fS W (.tup [0,1]) (.yes (.cmp .Eq (.ix V0 I0) (.con (.str "send")))) V1 (λM=>M p=some (.lst (vs.map Rw.d))) Q ((Zs vs).map zD) [none,none] M=Q (.rol ((sdL vs).map mD)) M:=by
 rw[dF (λσ=>∃a b,σ=[a,b]) (λd=>match d with
  |.tup [u,v]=>[some u,some v]
  |_=>[]) zC z1 ⟨none,none,rfl⟩ hM (by rw[Hm,ss];omega) (λd hd=>by
   obtain⟨y,_,rfl⟩:=Ht.mp hd;exact⟨⟨_,_,rfl⟩,by rintro σ ⟨a,b,rfl⟩ M k;simp[zD]⟩) (λd hd M' hE Q'=>by
   obtain⟨y,_,rfl⟩:=Ht.mp hd;have e:zC (.tup [y.2.d,nD y.1])=y.2.isS:=by obtain⟨n,r⟩:=y;cases r<;>rfl
   simp[zD,gO,m6,uR,e]) (λd hd _ M' hE Q'=>by
   obtain⟨y,_,rfl⟩:=Ht.mp hd;simp[zD,z1]) λM' hE=>hE.2 _ _ hp]
 congr 2;unfold sdL;rw[List.filter_map,HG,HG];have e1:(zC∘zD)=λx=>x.2.isS:=by funext y;obtain⟨n,r⟩:=y;cases r<;>rfl
 rw[e1];rfl
noncomputable def bR(rs:List Rw)(h:Int):Option (Int×Nat):=((nms rs).filter λq=>decide (q.1=h)).getLast?
theorem qd{h:Int}:bR rs h=if (ofH rs h).length=0 then none else some (h,(ofH rs h).length-1):=by
 unfold bR
 induction rs using jk with
 |h0=>simp[nms,nmF,ofH]
 |hs l x ih=>
  rw[jg,List.filter_append,cM];by_cases e:x.h=h
  ·subst e;simp
  ·rw[Hc e,List.filter_cons_of_neg (by simpa using e),List.filter_nil,Ia];exact ih
noncomputable def oC(h:Int):D->Bool
 |.tup (.int a::_)=>decide (a=h)
 |_=>false
noncomputable abbrev owL(rs:List Rw)(h:Int):D:=.rol (((nms rs).filter λq=>decide (q.1=h)).map nD)
theorem qr{W:WC}{h:Int}(hl:rs.length<400)(hM:Fm M):fS W (.name 0) (.yes (.cmp .Eq (.ix V0 I0) V1)) V0 (λ_=>True) Q ((nms rs).map nD) [none,some (.int h)] M=Q (owL rs h) M:=by
 rw[cN (oC h) (λd=>d) hM (by simp[fF];omega) (λd hd M' hE Q'=>by
  obtain⟨q,_,rfl⟩:=Ht.mp hd;simp[nD,oC]) (λd hd _ M' hE Q'=>by simp)]
 rw[List.filter_map,HG];rfl
theorem xL{h:Int}{q:Int×Nat}(e:bR rs h=some q):au (owL rs h) (.int (-1)) M Q=Q (nD q) M:=by
 unfold bR at e;obtain⟨l,e⟩:=List.getLast?_eq_some_iff.mp e;refine bS ?_;rw[e,Io];have h1:(1:Int)<=(l.length:Int)+1:=by omega
 have h2:(-1+((l.length:Int)+1)).toNat=l.length:=by omega
 simp[atI,ixN,h1,h2]
structure LD (pre:List (Int×Nat)) (ks:List Key)(ds:List D):Prop where
 nd:ks.Nodup
 len:ks.length=ds.length
 sz:ks.length<=pre.length
 kk:∀k∈ks,∃h:Int,k=.inl h
 gt:∀h:Int,getD ks ds (.inl h)=((pre.filter λq=>decide (q.1=h)).getLast?).map nD
theorem qA{d:D}:∀{ks:List Key}{ds:List D},ks.Nodup->ks.length=ds.length->d∈ds->∃k∈ks,getD ks ds k=some d
 |[],[],_,_,h=>by cases h
 |k::ks,x::ds,hn,hl,h=>by
  rw[HF]at hn;rcases Hj.mp h with rfl|h
  ·exact⟨k,Hf,by simp[getD]⟩
  ·obtain⟨j,hj,e⟩:=qA hn.2 (by simpa using hl) h
   exact⟨j,Hb _ hj,by simp only[getD];rw[Hc λz=>hn.1 (by rw[z];exact hj)];exact e⟩
theorem LD.put{pre:List (Int×Nat)}{ks:List Key}{ds:List D}{q:Int×Nat}(I:LD pre ks ds):LD (pre++[q]) (aj ks (.inl q.1)) (am ks ds (.inl q.1) (nD q)):=by
 refine⟨l7 I.nd,bU I.len,by have:=br (ks:=ks) (k:=(.inl q.1:Key));have:=I.sz;simp;omega,λk hk=>?_,λh=>?_⟩
 ·rcases ju hk with rfl|hk
  ·exact⟨_,rfl⟩
  ·exact I.kk k hk
 ·rw[cu I.len,List.filter_append];by_cases e:q.1=h
  ·subst e;simp
  ·rw[Hc λz=>e (Sum.inl.inj z)];simp[e,I.gt]
theorem kR{W:WC}{a:PySem.Addr}{De:Ends3}{ES:St3->XN}{y0 y1 y2 y3 y4 y5 y6 y7:Option D}(hl:vs.length<400):∀(post pre:List (Int×Nat)) (ks:List Key)(ds:List D)(x9:Option D),nms vs=pre++post->LD pre ks ds->
  (∀ks ds x9,LD (nms vs) ks ds->De.nx [y0,y1,y2,y3,y4,y5,y6,y7,some (.ref a),x9] (put M a (.dk ks ds)))->
  aY W (.name 9) bG ES (λ_=>True) De (post.map nD) [y0,y1,y2,y3,y4,y5,y6,y7,some (.ref a),x9] (put M a (.dk ks ds))
 |[],pre,ks,ds,x9,hz,I,hR=>by
  rw[Ia]at hz;rw[List.map_nil,aX];exact⟨trivial,hR ks ds x9 (by rw[hz];exact I)⟩
 |q::post,pre,ks,ds,x9,hz,I,hR=>by
  have hs:ks.length<PySem.sizeLine:=by
   have:=congrArg List.length hz;rw[fF]at this;simp at this;have:=I.sz;rw[PySem.sizeLine_eq];omega
  have hM:put M a (.dk ks ds) a=some (.dk ks ds):=af;have ih:=λx9=>kR (W:=W) (De:=De) (ES:=ES) (y0:=y0) (y1:=y1) (y2:=y2) (y3:=y3) (y4:=y4) (y5:=y5) (y6:=y6) (y7:=y7) hl post (pre++[q]) _ _ x9 (by rw[hz];simp) I.put hR
  rw[Hl,av];refine⟨trivial,?_⟩;generalize aY W (.name 9) bG ES (λ_=>True) De (post.map nD)=K at ih ⊢
  simp[nD,bG,gY hM,hs,bP];exact ih _
theorem ux{p:PySem.Addr}{h:Int}(hp:M p=some (.lst []))(hl:rs.length<400)(hM:Fm M)(e:bR rs h=none)(hQ:Q (.bl true) M):aa T (B cls kls fad) (n+2) 47 [.ref p,rL rs,.int h] M Q E:=by
 have hn:∀{Q:VK3}{E:XN},aa T (B cls kls fad) (n+1) 45 [rL rs] M Q E=Q (nL rs) M:=λ{Q E}=>fk (.inl rfl) hl hM
 unfold bR at e;rw[iJ];simp[de,hn,ao,qr hl hM,List.getLast?_eq_none_iff.mp e,aq,cK,L2.rs,ai,hp,plN,eqD,bx];exact hQ
theorem wF{p:PySem.Addr}{h:Int}{nm:Int×Nat}(hp:M p=some (.lst (vs.map Rw.d)))(hlr:rs.length<400)(hl:vs.length<400)(hM:Fm M)(h0:bR rs h=some nm)(h1:∀p∈tkL vs,p∈sdL vs)(h2:∀y q,bR vs y=some q->y≠h->pz q∈sdL vs/\pz q∈tkL vs)(h3:bR vs h=some nm)(hQ:Q (.bl true) M):aa T (B cls kls fad) (n+2) 47 [.ref p,rL rs,.int h] M Q E:=by
 have hn:∀{Q:VK3}{E:XN},aa T (B cls kls fad) (n+1) 45 [rL rs] M Q E=Q (nL rs) M:=λ{Q E}=>fk (.inl rfl) hlr hM
 have hv:∀{Q:VK3}{E:XN},aa T (B cls kls fad) (n+1) 45 [.ref p] M Q E=Q (nL vs) M:=λ{Q E}=>fk (.inr ⟨p,rfl,hp⟩) hl hM
 have sq:∀{l:List (Int×Int)}{M:MH},aD M (.rol (l.map mD))=some (l.map mD):=λ{l M}=>rfl
 have ne:∀{Q:VK3},aq .Eq (owL rs h) (.rol []) M Q=Q (.bl false) M:=λ{Q}=>by
  unfold bR at h0;obtain⟨l,e⟩:=List.getLast?_eq_some_iff.mp h0;have e2:((nms rs).filter λq=>decide (q.1=h)).map nD=((l++[nm]).map pz).map mD:=by rw[e,HG];rfl
  simp only[aq,owL,e2];have:∀{l:List (Int×Int)},cK false (.rol (l.map mD)) (.rol []) M Q=Q (.bl l.isEmpty) M:=λ{l}=>by cases l<;>simp[cK,L2.rs,ai,plN,eqD,bx,mD]
  rw[this,show ((l++[nm]).map pz).isEmpty=false by cases l<;>rfl]
 rw[iJ];simp[de,hn,ao,qr hlr hM,↓ne,eO hp,wY hp hl hM,hv,rLs,hp,ui,vt hp hl hM];refine pZ (P:=λσ=>∃x7,σ=[some (.ref p),some (rL rs),some (.int h),some (owL rs h),some (.rol ((tkL vs).map mD)),some (nL vs),some (.rol ((sdL vs).map mD)),x7,none,none]) ⟨none,rfl⟩ ?_ ?_
 ·rintro d hd σ ⟨x7,rfl⟩ k hk;obtain⟨p,hp,rfl⟩:=Ht.mp hd;simp[wpG,ff,aq,Bf sq,h1 p hp];exact hk _ ⟨_,rfl⟩
 ·rintro σ ⟨x7,rfl⟩;simp;intro a ha;refine kR hl (nms vs) [] [] [] none rfl ⟨List.nodup_nil,rfl,Nat.zero_le _,(λp hp=>by cases hp),λh=>rfl⟩ λks ds x9 I=>?_
  simp[aU,af,da ha];refine pZ (P:=λσ=>∃x9,σ=[some (.ref p),some (rL rs),some (.int h),some (owL rs h),some (.rol ((tkL vs).map mD)),some (nL vs),some (.rol ((sdL vs).map mD)),x7,some (.dik ks ds),x9]) ⟨_,rfl⟩ ?_ ?_
  ·rintro d hd σ ⟨x9,rfl⟩ kk hkk;obtain⟨k,hk,e⟩:=qA I.nd I.len hd;obtain⟨y,rfl⟩:=I.kk k hk;rw[I.gt]at e;obtain⟨q,e',rfl⟩:=Option.map_eq_some_iff.mp e;have hq:q.1=y:=by simpa using (List.mem_filter.mp (List.mem_of_getLast? e')).2
   by_cases z:q.1=h
   ·simp[wpG,cZ,nD,z];exact hkk _ ⟨_,rfl⟩
   ·obtain⟨s1,s2⟩:=h2 y q e' (λw=>z (hq.trans w))
    have i0:∀{Q:VK3},au (mD (pz q)) (.int 0) M Q=Q (.int q.1) M:=λ{Q}=>by simp[mD,pz]
    simp[wpG,cZ,pK,↓i0,z,aq,Bf sq,s1,s2];exact hkk _ ⟨_,rfl⟩
  ·rintro σ ⟨x9,rfl⟩;have g:=I.gt h;rw[show ((nms vs).filter λq=>decide (q.1=h)).getLast?=some nm from h3]at g
   simp[tyB,fN,rBm,iy,mP,g,xL h0,aq,pK,xo];exact hQ
end
section
variable {H:Nat}{wy:List Wy}{rs:List Rw}{C:List Int}{j:Nat}{nh:Int}{nk:Nat}
theorem pI{y:NR}(hy:y∈Zs rs)(hk:kp C y=true):y∈Zs (bQ C rs):=by rw[qz.1];exact List.mem_filter.mpr ⟨hy,hk⟩
theorem xb(W:WFL H rs)(I:PI H rs j nh nk 0 C):∀p∈tkL (bQ C rs),p∈sdL (bQ C rs):=λp hp=>by
 obtain⟨r,hr,rfl⟩:=Ht.mp hp;obtain⟨hr,ht⟩:=List.mem_filter.mp hr;obtain⟨y,hy,rfl⟩:=Ht.mp hr;obtain⟨hy,hk⟩:=List.mem_filter.mp hy;obtain⟨i,q1,q2⟩:=BG hy;cases e:y.2 with
 |take h v a b=>
  rw[e]at q1;have hb:=I.c i y.1.1 y.1.2 h v a b (Nat.zero_le _) q1 q2 (by simpa [kp] using hk)
  obtain⟨i',k,r',t',_,h2,rfl,h4⟩:=W.tk i _ _ _ _ q1;exact Ht.mpr ⟨((a,k),.send a r' t'),List.mem_filter.mpr ⟨pI (wX h4 h2) (by simpa [kp] using hb),rfl⟩,rfl⟩
 |_=>rw[e]at ht;cases ht
theorem xA{i:Nat}{h:Int}{k:Nat}(e:(nms rs)[i]?=some (h,k)):k<(ofH rs h).length:=by
 have:=(lH _ _ _ (HL e)).2.2;simp only[Nat.zero_add]at this
 rwa [u0]at this
theorem qQ(W:WFL H rs)(I:PI H rs j nh nk 0 C){h:Int}{q:Int×Nat}(e:bR (bQ C rs) h=some q):q.1=h/\g C h=(q.2:Int)+1/\0<=h/\h<H:=by
 rw[qd,qz.2,List.length_take]at e;split at e
 ·cases e
 ·rename_i hm;obtain⟨r,hr⟩:∃r,r∈ofH rs h:=List.exists_mem_of_length_pos (by omega)
  obtain⟨hr,hh⟩:=List.mem_filter.mp hr;have hh:r.h=h:=by simpa using hh
  obtain⟨w1,w2⟩:=W.hd r hr;rw[hh]at w1 w2;obtain⟨i,k,_,l2,l3⟩:=I.a1 h w1 w2 (by omega)
  have:=xA l2;cases e;exact⟨rfl,by simp only;omega,w1,w2⟩
theorem vH(W:WFL H rs)(I:PI H rs j nh nk 0 C):∀y q,bR (bQ C rs) y=some q->y≠nh->pz q∈sdL (bQ C rs)/\pz q∈tkL (bQ C rs):=λh q e hne=>by
 obtain⟨rfl,hg,w1,w2⟩:=qQ W I e;obtain⟨⟨i1,k1,r1,t1,a1,a2,a3⟩,i2,k2,h2,hh,r2,b,b1,b2,b3,b4⟩:=I.d _ w1 w2 hne (by omega)
 obtain⟨h,k⟩:=q;simp only at *
 obtain rfl:k1=k:=by omega
 obtain rfl:b=(k1:Int):=by omega
 refine⟨Ht.mpr ⟨((h,k1),.send h r1 t1),List.mem_filter.mpr ⟨pI (wX a1 a2) (by simp[kp,hg];omega),rfl⟩,rfl⟩,?_⟩
 have hm:Rw.take hh r2 h k1∈bQ C rs:=Ht.mpr ⟨((h2,k2),.take hh r2 h k1),List.mem_filter.mpr ⟨wX b1 b3,by simp[kp,b4]⟩,rfl⟩
 exact Ht.mpr ⟨_,List.mem_filter.mpr ⟨hm,rfl⟩,rfl⟩
theorem vM(I:PI H rs j nh nk 0 C)(hj:(nms rs)[j]?=some (nh,nk)):bR (bQ C rs) nh=some (nh,nk):=by
 have h1:=I.b;have h2:=xA hj;rw[qd,qz.2,List.length_take,Hc (by omega)]
 exact congrArg some (Prod.ext rfl (by simp only;omega))
theorem wU{h:Int}{q:Int×Nat}(e:bR rs h=some q):∃A x Bs,Zs rs=A++x::Bs/\x.1=q/\q.1=h:=by
 have hm:=List.mem_filter.mp (List.mem_of_getLast? e);obtain⟨i,hi⟩:=List.mem_iff_getElem?.mp hm.1;obtain⟨r,e1,_,_⟩:=pP hi;obtain⟨A,B,hz⟩:=List.append_of_mem (wX e1 hi);exact⟨A,_,B,hz,rfl,by simpa using hm.2⟩
end
section
variable {cls kls fad:Nat->PySem.Addr}{M:MH}{Q:VK3}{E:XN}{n:Nat}{p:PySem.Addr}{cks:List (Int×Int)}{wy:List Wy}{rs:List Rw}{r:Rw}{h:Int}
theorem gZ{M':MH}(h:∀q o,M q=some o->M' q=some o):ar M M'=M:=by
 funext a;unfold ar;cases e:M a with
 |none=>rfl
 |some o=>simp[h _ _ e]
theorem km:ar M M=M:=gZ λ_ _ h=>h
theorem qo{M':MH}(h:∀q o,M q=some o->M' q=some o)(hp:M' p=none):M p=none:=by
 cases e:M p with
 |none=>rfl
 |some o=>have:=h _ _ e;rw[hp]at this;cases this
noncomputable abbrev mt(kls:Nat->PySem.Addr)(cks:List (Int×Int))(wy:List Wy)(rs:List Rw):DO:=.ins 6 (kls 6) [27071920119,243136498] [wO kls cks wy,rL rs]
theorem jh(hp:M p=some (mt kls cks wy rs)):bY (B cls kls fad) 27071920119 (.ref p) M Q=Q (wO kls cks wy) M:=by simp[bY,hp,gx]
theorem lY(hp:M p=some (mt kls cks wy rs)):bY (B cls kls fad) 243136498 (.ref p) M Q=Q (rL rs) M:=by simp[bY,hp,gx]
theorem lW{m f:Nat}{R:Nat->Prop}(hp:M p=some (mt kls cks wy rs))(hm:mth 6 m=some f)(h1:27071920119≠m)(h2:243136498≠m):bz (B cls kls fad) m (.ref p) M R=R f:=by
 simp[bz,hp,hm,h1,h2,dn]
theorem uG{R:MH->Prop}(hR:R (put M p (mt kls cks wy []))):aa T (B cls kls fad) (n+1) 26 [.ref p,wO kls cks wy] (put M p (.ins 6 (kls 6) [] [])) (λv M2=>v=.non/\R M2) E:=by
 simp[iF,bW];exact hR
theorem sV(hp:M p=some (mt kls cks wy rs))(hl:rs.length<300):aa T (B cls kls fad) (n+6) 28 [.ref p,r.d] M Q E=aa T (B cls kls fad) (n+5) 19 [wO kls cks wy,rL (rs++[r])] M (λ_ M'=>Q (rL (rs++[r])) (ar M M')) (λi M'=>E i (ar M M')):=by
 have fw:=λ{Q:VK3}=>jh (cls:=cls) (fad:=fad) (Q:=Q) hp
 have fr:=λ{Q:VK3}=>lY (cls:=cls) (fad:=fad) (Q:=Q) hp
 have hs:rs.length+1<=PySem.sizeLine:=by rw[PySem.sizeLine_eq];omega
 have hc:∀{Q:VK3},dM true (rL rs) (.rol [r.d]) M Q=Q (rL (rs++[r])) M:=λ{Q}=>by simp[dM,ai,cA,hs,rL]
 simp[gv,bp,↓fw,↓fr,↓hc,aH]
theorem ue(G:Good cks.length wy (rs++[r]))(hM:Fm M)(hp:M p=some (mt kls cks wy rs))(hl:rs.length<300):aa T (B cls kls fad) (n+7) 29 [.ref p,r.d] M Q E=Q (nD (r.h,(ofH rs r.h).length)) (put M p (mt kls cks wy (rs++[r]))):=by
 have hw:∀{R:Nat->Prop},bz (B cls kls fad) 67483170351428855 (.ref p) M R=R 28:=λ{R}=>lW hp (by decide) (by decide) (by decide)
 have ck:∀{Q:VK3}{E:XN},aa T (B cls kls fad) (n+5) 19 [wO kls cks wy,rL (rs++[r])] M Q E=Q .non M:=λ{Q E}=>ua hM (by simp;omega) G.fine.1
 have fs:∀{y:D}{R:MH->Prop},eI (B cls kls fad) 243136498 y R (.ref p) M=R (put M p (.ins 6 (kls 6) [27071920119,243136498] [wO kls cks wy,y])):=λ{y R}=>by rw[fJ hp];simp[cm,cr]
 have fr:=λ{Q:VK3}=>lY (cls:=cls) (fad:=fad) (Q:=Q) (show put M p (mt kls cks wy (rs++[r])) p=some (mt kls cks wy (rs++[r])) from af)
 have cn:∀{M:MH}{Q:VK3}{E:XN},Fm M->aa T (B cls kls fad) (n+6) 14 [rL (rs++[r])] M Q E=Q (nL (rs++[r])) M:=λ{M Q E} hM=>gJ (n:=n+4) (rs++[r]) (by simp;omega) hM
 have ix:∀{M:MH}{Q:VK3},au (nL (rs++[r])) (.int (-1)) M Q=Q (nD (r.h,(ofH rs r.h).length)) M:=λ{M Q}=>by
  refine bS ?_;rw[jg,Io];have h1:(1:Int)<=(rs.length:Int)+1:=by omega
  have h2:(-1+((rs.length:Int)+1)).toNat=rs.length:=by omega
  simp[atI,ixN,fF,h1,h2]
 simp[eJ,bI,↓hw];rw[sV hp hl,ck];simp only[km];simp[↓fs,↓fr,↓cn (hM.put _ _),↓ix,cT hp,km]
theorem rQ{x:XE}(G:Good cks.length wy rs)(hM:Fm M)(hp:M p=some (mt kls cks wy rs))(hl:rs.length<300)
  (hx:flC cks.length (d9 S0 (λ_=>0) rs) r=some x\/flC cks.length (d9 S0 (λ_=>0) rs) r=none/\x=⟨7,none⟩/\∃h v i j l:Int,r=.take h v i j/\getD (d9 S0 (λ_=>0) rs).ku (d9 S0 (λ_=>0) rs).du [i,j]=some (.int l)/\¬ l=h):aa T (B cls kls fad) (n+7) 29 [.ref p,r.d] M Q E=E x M:=by
 have hw:∀{R:Nat->Prop},bz (B cls kls fad) 67483170351428855 (.ref p) M R=R 28:=λ{R}=>lW hp (by decide) (by decide) (by decide)
 have ck:∀{Q:VK3}{E:XN},aa T (B cls kls fad) (n+5) 19 [wO kls cks wy,rL (rs++[r])] M Q E=E x M:=λ{Q E}=>tP hM (by omega) G.fine.1 G.fine.2.si hx
 simp[eJ,bI,↓hw];rw[sV hp hl,ck,km,km]
theorem zR(hl:rs.length<400)(hM:Fm M):aa T (B cls kls fad) (n+3) 21 [rL rs,.int h] M Q E=Q (match bR rs h with|some q=>nD q|none=>.non) M:=by
 have cn:∀{Q:VK3}{E:XN},aa T (B cls kls fad) (n+2) 14 [rL rs] M Q E=Q (nL rs) M:=λ{Q E}=>gJ rs hl hM
 cases e:bR rs h with
 |none=>
  have e':=List.getLast?_eq_none_iff.mp (show ((nms rs).filter λq=>decide (q.1=h)).getLast?=none from e)
  simp[lF,fx,cn,ao,qr hl hM,e']
 |some q=>
  have ix:=λ{M:MH}{Q:VK3}=>xL (M:=M) (Q:=Q) e
  obtain⟨l,e'⟩:=List.getLast?_eq_some_iff.mp (show ((nms rs).filter λq=>decide (q.1=h)).getLast?=some q from e)
  have ln:∀{Q:VK3},rBi .len [owL rs h] M Q=Q (.int ((l.length:Int)+1)) M:=λ{Q}=>by simp[e']
  have h0:(0:Int)<(l.length:Int)+1:=by omega
  simp[lF,fx,cn,ao,qr hl hM,↓ln,h0,ix]
structure HV (cls kls fad:Nat->PySem.Addr)(rs:List Rw)(h:Int)(vs:List Rw):Prop where
 len:vs.length<400
 part:∀{n:Nat}{M:MH}{Q:VK3}{E:XN}{p:PySem.Addr},Fm M->M p=some (.lst (vs.map Rw.d))->Q (.bl true) M->aa T (B cls kls fad) (n+2) 46 [.ref p,rL rs] M Q E
 right:∀{n:Nat}{M:MH}{Q:VK3}{E:XN}{p:PySem.Addr},Fm M->M p=some (.lst (vs.map Rw.d))->Q (.bl true) M->aa T (B cls kls fad) (n+2) 47 [.ref p,rL rs,.int h] M Q E
theorem wf:bQ [] rs=[]:=by simp[bQ,kp,g]
theorem l8(G:Good cks.length wy rs)(h1:1<=cks.length)(h6:cks.length<=6)(hl:rs.length<300)(ho:okH cks.length h=true):∃vs,HV cls kls fad rs h vs/\∀{n:Nat}{M:MH}{Q:VK3}{E:XN}{p:PySem.Addr},Fm M->M p=some (mt kls cks wy rs)->(∀q,M q=none->Q (.ref q) (put M q (.lst (vs.map Rw.d))))->aa T (B cls kls fad) (n+7) 30 [.ref p,.int h] M Q E:=by
 have om:∀{M:MH}{R:Nat->Prop},bz (B cls kls fad) 119080781550527859766002 (wO kls cks wy) M R=R 35:=λ{M R}=>o_m (by decide) (by decide) (by decide)
 have rf:∀{n:Nat}{M:MH}{Q:VK3}{E:XN},aa T (B cls kls fad) (n+6) 35 [wO kls cks wy,.int h] M Q E=Q .non M:=λ{n M Q E}=>by rw[eP (n:=n+3),Hg ho]
 have lo:∀{n:Nat}{M:MH}{Q:VK3}{E:XN},Fm M->aa T (B cls kls fad) (n+6) 21 [rL rs,.int h] M Q E=Q (match bR rs h with|some q=>nD q|none=>.non) M:=λ{n M Q E} hM=>zR (n:=n+3) (by omega) hM
 cases e:bR rs h with
 |none=>
  refine⟨[],⟨by simp,λ{n M Q E p} hM hp hQ=>tz (C:=[]) (by rw[wf];exact hp) (by omega) hM hQ,λ{n M Q E p} hM hp hQ=>ux hp (by omega) hM e hQ⟩,λ{n M Q E p} hM hp hQ=>?_⟩
  have fw:=λ{Q:VK3}=>jh (cls:=cls) (fad:=fad) (Q:=Q) hp
  have fr:=λ{Q:VK3}=>lY (cls:=cls) (fad:=fad) (Q:=Q) hp
  rw[cz];simp[aS,↓fw,↓fr,↓om,↓rf,↓lo hM,e];exact hQ
 |some q=>
  obtain⟨A,x,Bs,hz,rfl,e1⟩:=wU e;have I:=xM G hz;have W:=G.wfl;subst e1;refine⟨bQ (pv cks.length A x) rs,⟨lM (by omega),λ{n M Q E p} hM hp hQ=>tz hp (by omega) hM hQ,λ{n M Q E p} hM hp hQ=>wF hp (by omega) (lM (by omega)) hM e (xb W I) (vH W I) (vM I (pX hz).2) hQ⟩,λ{n M Q E p} hM hp hQ=>?_⟩
  have fw:=λ{Q:VK3}=>jh (cls:=cls) (fad:=fad) (Q:=Q) hp
  have fr:=λ{Q:VK3}=>lY (cls:=cls) (fad:=fad) (Q:=Q) hp
  have nn:(nD x.1).isN=false:=rfl;rw[cz];simp[aS,↓fw,↓fr,↓om,↓rf,↓lo hM,e,nn];exact zY (n:=n) G h1 h6 (by omega) hM hz hQ
theorem oX(ho:okH cks.length h=false)(hp:M p=some (mt kls cks wy rs)):aa T (B cls kls fad) (n+7) 30 [.ref p,.int h] M Q E=E ⟨2,none⟩ M:=by
 have om:∀{M:MH}{R:Nat->Prop},bz (B cls kls fad) 119080781550527859766002 (wO kls cks wy) M R=R 35:=λ{M R}=>o_m (by decide) (by decide) (by decide)
 have rf:∀{M:MH}{Q:VK3}{E:XN},aa T (B cls kls fad) (n+6) 35 [wO kls cks wy,.int h] M Q E=E ⟨2,none⟩ M:=λ{M Q E}=>by rw[eP (n:=n+3),ho];simp
 have fw:=λ{Q:VK3}=>jh (cls:=cls) (fad:=fad) (Q:=Q) hp
 simp[cz,aS,↓fw,↓om,↓rf,km]
theorem lf(ho:okH cks.length h=false)(hM:Fm M)(hp:M p=some (mt kls cks wy rs)):aa T (B cls kls fad) (n+8) 48 [.ref p,.int h] M Q E=Q (.bl true) M:=by
 have mh:∀{R:Nat->Prop},bz (B cls kls fad) 27084223208 (.ref p) M R=R 30:=λ{R}=>lW hp (by decide) (by decide) (by decide)
 have hd:∀{Q:VK3}{E:XN},aa T (B cls kls fad) (n+7) 30 [.ref p,.int h] M Q E=E ⟨2,none⟩ M:=λ{Q E}=>oX ho hp
 rw[kM];simp[dm,↓mh,↓hd];exact iff_of_eq (aw hM λa ha=>by simp +decide [ha])
end
section
variable {cls kls fad:Nat->PySem.Addr}{M:MH}{Q:VK3}{E:XN}{n:Nat}
theorem ft{W:WC}{e:IE}{De:Ends3}{E:XN}{σ:St3}{p:PySem.Addr}{ds:List D}(h:M p=some (.lst ds)):uA W e De E σ (.ref p) M=wpE W e σ M (lA p De σ) E:=by
 unfold uA;simp only[h];rfl
theorem dO{De:Ends3}{σ:St3}{p:PySem.Addr}{ds:List D}{y:D}(h:M p=some (.lst ds)):lA p De σ y M=(ds.length<PySem.sizeLine/\De.nx σ (put M p (.lst (ds++[y])))):=by
 unfold lA;simp only[h]
noncomputable def qD(x:Nat×Nat):D:=.tup [.int x.1,.int x.2]
structure PS (H i j:Nat) (ps:List (Nat×Nat)):Prop where
 nd:ps.Nodup
 len:ps.length<=i*6+j
 at_:∀p∈ps,p.1<H/\p.2<H/\p.1≠p.2/\(p.1<i\/p.1=i/\p.2<j)
theorem BN{W:WC}{H i:Nat}{a:PySem.Addr}(hH:H<=6)(hi:i<H){De:Ends3}{ES:St3->XN}{y1:Option D}:∀(k j:Nat) (ps:List (Nat×Nat)) (z:Int)(x5:Option D),j+k=H->PS H i j ps->0<=z->z<10 ^ 12->
  (∀ps z x5,PS H (i+1) 0 ps->0<=z->z<10 ^ 12->De.nx [some (.int H),y1,some (.ref a),some (.int z),some (.int i),x5] (put M a (.lst (ps.map qD))))->
  aY W (.name 5) aT ES (λ_=>True) De (rng j k) [some (.int H),y1,some (.ref a),some (.int z),some (.int i),x5] (put M a (.lst (ps.map qD)))
 |0,j,ps,z,x5,hj,P,z0,z1,hR=>by
  rw[show rng (j:Int) 0=[] from rfl,aX];refine⟨trivial,hR ps z x5 ⟨P.nd,by have:=P.len;omega,λp hp=>?_⟩ z0 z1⟩
  have:=P.at_ p hp;omega
 |k+1,j,ps,z,x5,hj,P,z0,z1,hR=>by
  have c1:jV z z=True:=xE (by omega) (by omega) (by omega) (by omega)
  have c2:jV 48271 z=True:=xE (by decide) (by decide) (by omega) (by omega)
  have hm:0<=(z*z+48271*z+(j:Int)) % 2147483647/\(z*z+48271*z+(j:Int)) % 2147483647<2147483647:=⟨Iw _ (by decide),Ir _ (by decide)⟩
  generalize hx:(z*z+48271*z+(j:Int)) % 2147483647=x at hm;have ih:=λps x5 P=>BN (W:=W) (a:=a) (De:=De) (ES:=ES) (y1:=y1) hH hi k (j+1) ps x x5 (by omega) P hm.1 (by omega) hR
  rw[jC,av];refine⟨trivial,?_⟩;have e1:(j:Int)+1=((j+1:Nat):Int):=by omega
  rw[e1];generalize aY W (.name 5) aT ES (λ_=>True) De (rng ((j+1:Nat):Int) k)=K at ih ⊢
  have g1:put M a (.lst (ps.map qD)) a=some (.lst (ps.map qD)):=af;have hz:ps.length<PySem.sizeLine:=by have:=P.len;rw[PySem.sizeLine_eq];omega
  have old:PS H i (j+1) ps:=⟨P.nd,by have:=P.len;omega,λp hp=>by have:=P.at_ p hp;omega⟩
  by_cases e:i=j
  ·have e2:(i:Int)=j:=by omega
   simp[wpG,aT,c1,c2,hx,bh,e2];rw[<-e2];exact ih _ _ old
  ·have e2:¬ (i:Int)=j:=by omega
   by_cases hp:0<x % 3
   ·simp[wpG,aT,c1,c2,hx,bh,e2,hp,ft g1,dO g1,hz,bP,aH];have:=ih (ps++[(i,j)]) (some (.int j)) ⟨by
     rw[List.nodup_append];exact⟨P.nd,by simp,λp hp q hq z=>by
      rw[HY.mp hq]at z;have:=P.at_ p hp;rw[z]at this;simp only at this;omega⟩,by have:=P.len;simp;omega,λp hp=>by
     rcases HU.mp hp with hp|hp
     ·have:=P.at_ p hp;exact⟨this.1,this.2.1,this.2.2.1,by omega⟩
     ·rw[HY.mp hp];exact⟨hi,by omega,e,.inr ⟨rfl,Nat.lt_succ_self _⟩⟩⟩
    simpa [qD] using this
   ·simp[wpG,aT,c1,c2,hx,bh,e2,hp];exact ih _ _ old
theorem xz{W:WC}{H:Nat}{a:PySem.Addr}(hH:H<=6){De:Ends3}{ES:St3->XN}{y1:Option D}:∀(k i:Nat) (ps:List (Nat×Nat)) (z:Int)(x4 x5:Option D),i+k=H->PS H i 0 ps->0<=z->z<10 ^ 12->
  (∀ps x3 x4 x5,PS H H 0 ps->De.nx [some (.int H),y1,some (.ref a),x3,x4,x5] (put M a (.lst (ps.map qD))))->
  aY W (.name 4) cj ES (λ_=>True) De (rng i k) [some (.int H),y1,some (.ref a),some (.int z),x4,x5] (put M a (.lst (ps.map qD)))
 |0,i,ps,z,x4,x5,hi,P,z0,z1,hR=>by
  obtain rfl:i=H:=by omega
  rw[show rng (i:Int) 0=[] from rfl,aX];exact⟨trivial,hR ps _ x4 x5 P⟩
 |k+1,i,ps,z,x4,x5,hi,P,z0,z1,hR=>by
  have ih:=λps z x4 x5 P z0 z1=>xz (W:=W) (a:=a) (De:=De) (ES:=ES) (y1:=y1) hH k (i+1) ps z x4 x5 (by omega) P z0 z1 hR
  rw[jC,av];refine⟨trivial,?_⟩;have e1:(i:Int)+1=((i+1:Nat):Int):=by omega
  rw[e1];generalize aY W (.name 4) cj ES (λ_=>True) De (rng ((i+1:Nat):Int) k)=K at ih ⊢
  have hb2:(H:Int)<4611686018427387904:=by omega
  simp[wpG,cj,hb2];exact BN hH (by omega) H 0 ps z x5 (by omega) P z0 z1 λps z x5 P z0 z1=>ih ps z _ x5 P z0 z1
theorem zk{H:Nat}{c:Int}(hH:H<=6)(hQ:∀ps:List (Nat×Nat),PS H H 0 ps->Q (.rol (ps.map qD)) M):aa T (B cls kls fad) (n+1) 42 [.int H,.int c] M Q E:=by
 rw[pi];have hb2:(H:Int)<4611686018427387904:=by omega
 simp[f6,hb2,bh];intro a ha;refine xz hH H 0 [] _ none none (by omega) ⟨List.nodup_nil,Nat.zero_le _,λp hp=>by cases hp⟩ (by omega) (by omega) λps x3 x4 x5 P=>?_
 simp[aU,af,da ha];exact hQ ps P
theorem oA{l:List Int}{op:Bool}:cK op (.rol (l.map D.int)) (.rol []) M Q=Q (.bl (op ^^ l.isEmpty)) M:=by
 cases l<;>simp[cK,rs,ai,plN,eqD,bx]
theorem EY{l:List (Int×Int)}{op:Bool}:cK op (.rol (l.map mD)) (.rol []) M Q=Q (.bl (op ^^ l.isEmpty)) M:=by
 cases l<;>simp[cK,rs,ai,plN,eqD,bx,mD]
theorem uu{α:Type}{l:List α}(h:l≠[])(m:Int):∃(j:Nat) (x:α),m % (l.length:Int)=j/\l[j]?=some x/\x∈l/\0<l.length:=by
 have h0:0<l.length:=List.length_pos_iff.mpr h;have h1:=Iw m (show (l.length:Int)≠0 by omega)
 have h2:=Ir m (show (0:Int)<l.length by omega)
 have h3:(m % (l.length:Int)).toNat<l.length:=by omega
 exact⟨(m % (l.length:Int)).toNat,l[(m % (l.length:Int)).toNat],by omega,Hy h3,Iy h3,h0⟩
structure RowOk (h r:Int)(tos:List Int) (mine:List (Int×Int)) (x:Rw):Prop where
 h:x.h=h
 r:x.r=r
 sg:∀h v e l,x=.sight h v e l->e<=l
 sn:∀h v t,x=.send h v t->t∈tos
 tk:∀h v a b,x=.take h v a b->(a,b)∈mine
theorem Bk(h mm r c:Int)(tos:List Int)(mine:List (Int×Int)):∃x:Rw,RowOk h r tos mine x/\∀{n:Nat}{M:MH}{Q:VK3}{E:XN},aa T (B cls kls fad) (n+1) 43 [.tup [.int h,.int mm],.int r,.rol (tos.map D.int),.rol (mine.map mD),.int c] M Q E=Q x.d M:=by
 have e1:∀{M:MH}{Q:VK3},aq .Eq (.rol (tos.map D.int)) (.rol []) M Q=Q (.bl (tos.isEmpty)) M:=λ{M Q}=>by simp only[aq];rw[oA];simp
 have e2:∀{M:MH}{Q:VK3},aq .NotEq (.rol (tos.map D.int)) (.rol []) M Q=Q (.bl (!tos.isEmpty)) M:=λ{M Q}=>by simp only[aq];rw[oA];simp
 have e3:∀{M:MH}{Q:VK3},aq .NotEq (.rol (mine.map mD)) (.rol []) M Q=Q (.bl (!mine.isEmpty)) M:=λ{M Q}=>by simp only[aq];rw[EY];simp
 have lk:RowOk h r tos mine (.look h r):=⟨rfl,rfl,(λ_ _ _ _ e=>nomatch e),(λ_ _ _ e=>nomatch e),λ_ _ _ _ e=>nomatch e⟩
 obtain⟨kd,hk⟩:∃kd,c / 6 % 7=kd:=⟨_,rfl⟩;obtain⟨bA,tA⟩:∃bA:Bool,∀{W:WC}{x y z u v:Option D}{M:MH}{R:Bool->MH->Prop}{E:XN},wpT W (.or (.cmp .Lt V5 I2) (.and (.cmp .Eq V5 I2) (.cmp .Eq V2 (.lst true .nil)))) [x,y,some (.rol (tos.map D.int)),z,u,some (.int kd),v] M R E=R bA M:=by
  by_cases k1:kd<2
  ·exact⟨true,by intros;simp[k1]⟩
  ·by_cases k2:kd=2
   ·subst k2;exact⟨tos.isEmpty,by intros;simp[aH,↓e1]⟩
   ·exact⟨false,by intros;simp[k1,k2]⟩
 obtain⟨bB,nB,tB⟩:∃bB:Bool,(bB=true->mine≠[])/\∀{W:WC}{x y z u v:Option D}{M:MH}{R:Bool->MH->Prop}{E:XN},wpT W (.and (.cmp .Gt V5 I3) (.cmp .NotEq V3 (.lst true .nil))) [x,y,z,some (.rol (mine.map mD)),u,some (.int kd),v] M R E=R bB M:=by
  by_cases k1:3<kd
  ·exact⟨!mine.isEmpty,by simp,by intros;simp[k1,aH,↓e3]⟩
  ·exact⟨false,by simp,by intros;simp[k1]⟩
 cases bA with
 |true=>
  refine⟨_,lk,?_⟩;intro n M Q E;simp[-p8,-gf,fv,cQ,bh,hk,↓tA,aH,Rw.d]
 |false=>
  cases bB with
  |true=>
   obtain⟨j,t,a1,a2,a3,a4⟩:=uu (nB rfl) (c / 42);refine⟨.take h r t.1 t.2,⟨rfl,rfl,(λ_ _ _ _ e=>nomatch e),(λ_ _ _ e=>nomatch e),λ_ _ _ _ e=>by cases e;exact a3⟩,?_⟩
   intro n M Q E;have hat:atI (mine.map mD) (j:Int)=some (mD t):=cf (by simp[a2])
   simp[-p8,-gf,fv,cQ,bh,hk,↓tA,↓tB,a1,bS hat,a4,aH,Rw.d,mD]
  |false=>
   by_cases ht:tos=[]
   ·have e2':∀{M:MH}{Q:VK3},aq .NotEq (.rol (tos.map D.int)) (.rol []) M Q=Q (.bl false) M:=λ{M Q}=>by rw[e2,ht];rfl
    refine⟨.sight h r (c / 42 % 10 ^ 30-500) (c / 42 % 10 ^ 30-500+c / 5 % 3),⟨rfl,rfl,(λ_ _ _ _ e=>by cases e;omega),(λ_ _ _ e=>nomatch e),λ_ _ _ _ e=>nomatch e⟩,?_⟩
    intro n M Q E;simp[-p8,-gf,fv,cQ,bh,vz,hk,↓tA,↓tB,↓e2',aH,Rw.d]
   ·obtain⟨j,t,a1,a2,a3,a4⟩:=uu ht (c / 42);refine⟨.send h r t,⟨rfl,rfl,(λ_ _ _ _ e=>nomatch e),(λ_ _ _ e=>by cases e;exact a3),λ_ _ _ _ e=>nomatch e⟩,?_⟩
    intro n M Q E;have hat:atI (tos.map D.int) (j:Int)=some (.int t):=cf (by simp[a2])
    simp[-p8,-gf,fv,cQ,bh,hk,↓tA,↓tB,↓e2,ht,a1,bS hat,a4,aH,Rw.d]
end
section
variable {cls kls fad:Nat->PySem.Addr}{M:MH}{Q:VK3}{E:XN}{n:Nat}
noncomputable abbrev Lt:=(Int×Int)×Int
noncomputable def lD(p:Lt):D:=.tup [mD p.1,.int p.2]
theorem CL(P:Int->Prop){a b c d i:Int}(h0:0<=i)(h3:i<4)(ha:P a)(hb:P b)(hc:P c)(hd:P d):∃x:Int,P x/\∀{M:MH}{Q:VK3},au (.rol [.int a,.int b,.int c,.int d]) (.int i) M Q=Q (.int x) M:=by
 have:i=0\/i=1\/i=2\/i=3:=by omega
 rcases this with rfl|rfl|rfl|rfl
 ·exact⟨a,ha,by intro M Q;simp⟩
 ·exact⟨b,hb,by intro M Q;simp⟩
 ·exact⟨c,hc,by intro M Q;simp⟩
 ·exact⟨d,hd,by intro M Q;simp⟩
structure LS (M:MH)(H:Nat)(a b d a4:PySem.Addr)(rd mn:List Int)(ls:List Lt)(rs:List Rw)(M':MH):Prop where
 h1:H<=rd.length
 h2:mn.length=H
 ia:M' a=some (.lst (rd.map D.int))
 ib:M' b=some (.lst (mn.map D.int))
 ic:M' a4=some (.lst (ls.map lD))
 id:M' d=some (.lst (rs.map Rw.d))
 ab:a≠b
 ac:a≠a4
 ad:a≠d
 bc:b≠a4
 bd:b≠d
 cd:a4≠d
 old:∀x o,M x=some o->M' x=some o
 fa:M a=none
 fb:M b=none
 fc:M a4=none
 fd:M d=none
 fm:Fm M'
variable {H:Nat}{wy:List Wy}{a b d a4:PySem.Addr}{rd mn:List Int}{ls:List Lt}{rs:List Rw}{M':MH}
theorem bo{p:PySem.Addr}{o:DO}(h:∀x u,M x=some u->M' x=some u)(hp:M p=none):∀x u,M x=some u->put M' p o x=some u:=λx u e=>by
 rw[ah (λz=>by rw[z,hp]at e;cases e)];exact h x u e
theorem LS.sa(I:LS M H a b d a4 rd mn ls rs M'){rd':List Int}(h:H<=rd'.length):LS M H a b d a4 rd' mn ls rs (put M' a (.lst (rd'.map D.int))):=
 ⟨h,I.h2,af,by rw[ah (He I.ab)];exact I.ib,by rw[ah (He I.ac)];exact I.ic,by rw[ah (He I.ad)];exact I.id,I.ab,I.ac,I.ad,I.bc,I.bd,I.cd,bo I.old I.fa,I.fa,I.fb,I.fc,I.fd,I.fm.put _ _⟩
theorem LS.sb(I:LS M H a b d a4 rd mn ls rs M'){mn':List Int}(h:mn'.length=H):LS M H a b d a4 rd mn' ls rs (put M' b (.lst (mn'.map D.int))):=
 ⟨I.h1,h,by rw[ah I.ab];exact I.ia,af,by rw[ah (He I.bc)];exact I.ic,by rw[ah (He I.bd)];exact I.id,I.ab,I.ac,I.ad,I.bc,I.bd,I.cd,bo I.old I.fb,I.fa,I.fb,I.fc,I.fd,I.fm.put _ _⟩
theorem LS.sc(I:LS M H a b d a4 rd mn ls rs M'){ls':List Lt}:LS M H a b d a4 rd mn ls' rs (put M' a4 (.lst (ls'.map lD))):=
 ⟨I.h1,I.h2,by rw[ah I.ac];exact I.ia,by rw[ah I.bc];exact I.ib,af,by rw[ah (He I.cd)];exact I.id,I.ab,I.ac,I.ad,I.bc,I.bd,I.cd,bo I.old I.fc,I.fa,I.fb,I.fc,I.fd,I.fm.put _ _⟩
theorem LS.sn(I:LS M H a b d a4 rd mn ls rs M'){ls':List Lt}{p:PySem.Addr}(hp:M' p=none):LS M H a b d p rd mn ls' rs (put M' p (.lst (ls'.map lD))):=by
 have n1:a≠p:=λz=>by have:=I.ia;rw[z,hp]at this;cases this
 have n2:b≠p:=λz=>by have:=I.ib;rw[z,hp]at this;cases this
 have n3:d≠p:=λz=>by have:=I.id;rw[z,hp]at this;cases this
 have fp:=qo I.old hp;exact⟨I.h1,I.h2,by rw[ah n1];exact I.ia,by rw[ah n2];exact I.ib,af,by rw[ah n3];exact I.id,I.ab,n1,I.ad,n2,I.bd,He n3,bo I.old fp,I.fa,I.fb,fp,I.fd,I.fm.put _ _⟩
theorem LS.sd(I:LS M H a b d a4 rd mn ls rs M'){x:Rw}:LS M H a b d a4 rd mn ls (rs++[x]) (put M' d (.lst ((rs++[x]).map Rw.d))):=
 ⟨I.h1,I.h2,by rw[ah I.ad];exact I.ia,by rw[ah I.bd];exact I.ib,by rw[ah I.cd];exact I.ic,af,I.ab,I.ac,I.ad,I.bc,I.bd,I.cd,bo I.old I.fd,I.fa,I.fb,I.fc,I.fd,I.fm.put _ _⟩
structure LP (H:Nat)(wy:List Wy)(rs:List Rw)(rd mn:List Int)(ls:List Lt):Prop where
 G:Good H wy rs
 up:∀k:Nat,rd.getD k 0<=1000+rs.length*10 ^ 30
 mn:∀k:Nat,k<H->mn.getD k 0=((ofH rs k).length:Int)
 rd:∀k:Nat,k<H->∀x,(ofH rs k).getLast?=some x->x.r<=rd.getD k 0
 ls:∀p∈ls,tkn rs p.1.1 p.1.2=false/\∃v,aW rs p.1.1 p.1.2=some (.send p.1.1 v p.2)
theorem ji{l:List Int}{k j:Nat}{v:Int}(h:k<l.length):(l.set k v).getD j 0=if j=k then v else l.getD j 0:=by
 rw[List.getD_eq_getElem?_getD,List.getElem?_set];by_cases e:k=j
 ·subst e;simp[h]
 ·rw[Hc e,Hc (He e),List.getD_eq_getElem?_getD]
theorem LP.gd{k:Nat}{x:Rw}{g:Int}{tos:List Int}{mine:List (Int×Int)}(P:LP H wy rs rd mn ls)(hl:rs.length<400)(hk:k<H)(hg:0<=g/\g<10 ^ 30)(R:RowOk (k:Int) (rd.getD k 0+g) tos mine x)(ht:∀t∈tos,[(k:Int),t]∈wy.map pr)(hm:∀p∈mine,(p,(k:Int))∈ls):Gd H wy rs x:=by
 have up:=P.up k;refine⟨by rw[R.h];omega,λy hy=>?_,by rw[R.r];omega,R.sg,λh v t e=>?_,λh v a b e=>?_⟩
 ·rw[R.h]at hy;have:=P.rd k hk y hy;rw[R.r];omega
 ·have e1:h=k:=by have:=R.h;rw[e]at this;exact this
  rw[e1];exact ht t (R.sn h v t e)
 ·have e1:h=k:=by have:=R.h;rw[e]at this;exact this
  obtain⟨t1,v',t2⟩:=P.ls _ (hm _ (R.tk h v a b e));rw[e1];exact⟨t1,v',t2⟩
theorem LP.app{k:Nat}{x:Rw}{g:Int}{ls':List Lt}(P:LP H wy rs rd mn ls)(h1:H<=rd.length)(h2:mn.length=H)(hk:k<H)(hx:x.h=k)(hr:x.r=rd.getD k 0+g)(hg:0<=g/\g<10 ^ 30)(d:Gd H wy rs x)(hls:∀p∈ls',tkn (rs++[x]) p.1.1 p.1.2=false/\∃v,aW (rs++[x]) p.1.1 p.1.2=some (.send p.1.1 v p.2)):LP H wy (rs++[x]) (rd.set k (rd.getD k 0+g)) (mn.set k (mn.getD k 0+1)) ls':=by
 refine⟨.snoc P.G d,λj=>?_,λj hj=>?_,λj hj y hy=>?_,hls⟩
 ·rw[ji (by omega),HJ,List.length_singleton]
  have:=P.up j;have:=P.up k;split<;>omega
 ·rw[ji (by omega),cM,hx]
  have:=P.mn j hj;by_cases e:j=k
  ·subst e;rw[Hg rfl,Hg rfl,this];simp
  ·rw[Hc e,Hc (by omega)];exact this
 ·rw[ji (by omega)]
  rw[cM,hx]at hy;by_cases e:j=k
  ·subst e;rw[Hg rfl]at hy ⊢;simp at hy;rw[<-hy,hr];exact Int.le_refl _
  ·rw[Hc (by omega)]at hy
   rw[Hc e];exact P.rd j hj y hy
theorem LP.wait{x:Rw}(P:LP H wy rs rd mn ls){p:Lt}(hp:p∈ls)(hx:x.tk p.1.1 p.1.2=false):tkn (rs++[x]) p.1.1 p.1.2=false/\∃v,aW (rs++[x]) p.1.1 p.1.2=some (.send p.1.1 v p.2):=by
 obtain⟨t1,v,t2⟩:=P.ls p hp;refine⟨by rw[fE,t1,hx];rfl,v,?_⟩
 rw[eZ];split
 ·rename_i e;rw[e.2,fG]at t2;cases t2
 ·exact t2
end
section
variable {cls kls fad:Nat->PySem.Addr}{M:MH}{Q:VK3}{E:XN}{n:Nat}{H:Nat}{wy:List Wy}{a b d a4:PySem.Addr}{rd mn:List Int}{ls:List Lt}{rs:List Rw}{M':MH}
noncomputable def vD(ps:List (Nat×Nat))(k:Nat):List Int:=(ps.filter λp=>decide ((p.1:Int)=(k:Int))).map λp=>((p.2:Nat):Int)
noncomputable def qg(ls:List Lt)(k:Nat):List (Int×Int):=(ls.filter λp=>decide (p.2=(k:Int))).map Prod.fst
noncomputable def jY:D->D
 |.tup [x,_]=>x
 |_=>.non
noncomputable def jH:D->D
 |.tup [_,x]=>x
 |_=>.non
noncomputable def isI(k:Int):D->Bool
 |.int t=>decide (t=k)
 |_=>false
noncomputable def zf(p:Int×Int):D->Bool
 |.tup [.tup [.int a,.int b],_]=>!decide ((a,b)=p)
 |_=>false
theorem zN{p:Int×Int}{q:Lt}:zf p (lD q)=!decide (q.1=p):=rfl
theorem CK{W:WC}{ps:List (Nat×Nat)}{k:Nat}(hM:Fm M)(hl:ps.length<=36):fS W (.tup [0,1]) (.yes (.cmp .Eq V0 V2)) V1 (λ_=>True) Q (ps.map qD) [none,none,some (.int k)] M=Q (.rol ((vD ps k).map D.int)) M:=by
 rw[dF (λσ=>∃a b,σ=[a,b,some (.int k)]) (λd=>[some (jY d),some (jH d),some (.int k)]) (λd=>isI k (jY d)) jH ⟨_,_,rfl⟩ hM (by simp;omega) (λd hd=>by
   obtain⟨p,_,rfl⟩:=Ht.mp hd;exact⟨⟨_,_,rfl⟩,by rintro σ ⟨a,b,rfl⟩ M k;simp[qD,jY,jH]⟩) (λd hd M' hE Q=>by
   obtain⟨p,_,rfl⟩:=Ht.mp hd;simp[qD,jY,isI]) (λd hd _ M' hE Q=>by
   obtain⟨p,_,rfl⟩:=Ht.mp hd;simp[qD,jH]) (λM' hE=>trivial)]
 unfold vD;rw[List.filter_map,HG,HG];rfl
theorem yf{W:WC}{k:Nat}(hM:Fm M)(h4:M a4=some (.lst (ls.map lD)))(hl:ls.length<400):fS W (.tup [0,1]) (.yes (.cmp .Eq V1 V2)) V0 (λM=>M a4=some (.lst (ls.map lD))) Q (ls.map lD) [none,none,some (.int k)] M=Q (.rol ((qg ls k).map mD)) M:=by
 rw[dF (λσ=>∃a b,σ=[a,b,some (.int k)]) (λd=>[some (jY d),some (jH d),some (.int k)]) (λd=>isI k (jH d)) jY ⟨_,_,rfl⟩ hM (by simp;omega) (λd hd=>by
   obtain⟨p,_,rfl⟩:=Ht.mp hd;exact⟨⟨_,_,rfl⟩,by rintro σ ⟨a,b,rfl⟩ M k;simp[lD,jY,jH]⟩) (λd hd M' hE Q=>by
   obtain⟨p,_,rfl⟩:=Ht.mp hd;simp[lD,jH,isI]) (λd hd _ M' hE Q=>by
   obtain⟨p,_,rfl⟩:=Ht.mp hd;simp[lD,jY]) (λM' hE=>hE.2 _ _ h4)]
 unfold qg;rw[List.filter_map,HG,HG];rfl
noncomputable def Au:ISs:=.cons (.ixset V4 V8 (.bin .Add (.ix V4 V8) I1)) (.cons (.app V6 V12) .nil)
noncomputable def BE:ISs:=.cons (.ifs (.cmp .Eq (.ix V12 I0) (.con (.str "send"))) (S1 (.app V5 (.tup (Ar2 V9 (.ix V12 I3))))) .nil) (.cons (.ifs (.cmp .Eq (.ix V12 I0) (.con (.str "take"))) (S1 (.set 5 (.comp false ["_law_pair","_law_row_here"] [none,some 12] (.name 0) (.seq V5) (.yes (.cmp .NotEq (.ix V0 I0) (.ix V1 I3))) V0))) .nil) Au)
theorem Cq:aQ=.cons (.set 8 (.bin .Mod V7 V0)) (.cons (.ixset V3 V8 (.bin .Add (.ix V3 V8) (.ix (.lst true (Ar4 I0 I1 (.bin .Mod (.bin .FloorDiv V7 (.con (.int 42))) (.con (.int 50))) (.bin .Mod (.bin .FloorDiv V7 (.con (.int 42))) (.bin .Pow (.con (.int 10)) (.con (.int 30)))))) (.bin .Mod (.bin .FloorDiv V7 I7) I4)))) (.cons (.set 9 (.tup (Ar2 V8 (.ix V4 V8)))) (.cons (.set 10 (.comp true ["_law_one","_law_other","_law_hand"] [none,none,some 8] (.tup [0,1]) (.seq V1) (.yes (.cmp .Eq V0 V2)) V1)) (.cons (.set 11 (.comp true ["_law_name","_law_to","_law_hand"] [none,none,some 8] (.tup [0,1]) (.seq V5) (.yes (.cmp .Eq V1 V2)) V0)) (.cons (.set 12 (.call 43 (Ar5 V9 (.ix V3 V8) V10 V11 V7))) BE))))):=rfl
def Tx(H:Nat)(ps:List (Nat×Nat))(wy:List Wy):Prop:=∀p∈ps,[(p.1:Int),(p.2:Int)]∈wy.map pr
theorem nY{mm:Nat}(hmm:mm<400)(hH:0<H)(h6:H<10){ps:List (Nat×Nat)}(hps:ps.length<=36)(hT:Tx H ps wy){De:Ends3}{ES:St3->XN}{cl:Option D}(hR:∀rd mn ls (rs:List Rw) a4 M' x7 x8 x9 x10 x11 x12,rs.length=mm->LS M H a b d a4 rd mn ls rs M'->LP H wy rs rd mn ls->De.nx [some (.int H),some (.rol (ps.map qD)),cl,some (.ref a),some (.ref b),some (.ref a4),some (.ref d),x7,x8,x9,x10,x11,x12] M'):∀(cs:List Int) {rd mn ls a4 M'} {rs:List Rw} (x7 x8 x9 x10 x11 x12:Option D),rs.length+cs.length=mm->ls.length<=rs.length->LS M H a b d a4 rd mn ls rs M'->LP H wy rs rd mn ls->
  aY ⟨(B cls kls fad),aa T (B cls kls fad) (n+2)⟩ (.name 7) aQ ES (λ_=>True) De (cs.map D.int) [some (.int H),some (.rol (ps.map qD)),cl,some (.ref a),some (.ref b),some (.ref a4),some (.ref d),x7,x8,x9,x10,x11,x12] M'
 |[],rd,mn,ls,a4,M',rs,x7,x8,x9,x10,x11,x12,hl,hz,I,P=>by
  rw[List.map_nil,aX];exact⟨trivial,hR _ _ _ _ _ _ _ _ _ _ _ _ (by simpa using hl) I P⟩
 |c::cs,rd,mn,ls,a4,M',rs,x7,x8,x9,x10,x11,x12,hl,hz,I,P=>by
  simp only[HA]at hl;obtain⟨k,hk⟩:∃k:Nat,c % (H:Int)=k:=⟨(c % (H:Int)).toNat,by have:=Iw c (show (H:Int)≠0 by omega);omega⟩
  have hkH:k<H:=by have:=Ir c (show (0:Int)<H by omega);omega
  have hkr:k<rd.length:=by have:=I.h1;omega
  have hkm:k<mn.length:=by rw[I.h2];omega
  obtain⟨g,hg0,hg⟩:=CL (λg=>0<=g/\g<10 ^ 30) (a:=0) (b:=1) (c:=c / 42 % 50) (d:=c / 42 % 1000000000000000000000000000000) (i:=c / 7 % 4) (by omega) (by omega) (by omega) (by omega) (by omega) (by omega)
  have hi:ixN (rd.map D.int).length (k:Int)=some k:=jb (by simpa using hkr)
  have him:ixN (mn.map D.int).length (k:Int)=some k:=jb (by simpa using hkm)
  have I1:=I.sa (rd':=rd.set k (rd.getD k 0+g)) (by simpa using I.h1)
  have e1:(rd.map D.int).set k (.int (rd.getD k 0+g))=(rd.set k (rd.getD k 0+g)).map D.int:=by simp[List.map_set]
  have em:(mn.map D.int).set k (.int (mn.getD k 0+1))=(mn.set k (mn.getD k 0+1)).map D.int:=by simp[List.map_set]
  have hx2:=eE (C:=rd.set k (rd.getD k 0+g)) (k:=k) (by simpa using hkr)
  rw[ji hkr,Hg rfl]at hx2;have cd:fQ c (H:Int)=True:=bh (by omega) (by omega)
  generalize hM1:put M' a (.lst ((rd.set k (rd.getD k 0+g)).map D.int))=M1 at I1;obtain⟨row,R,hr⟩:=Bk (cls:=cls) (kls:=kls) (fad:=fad) (k:Int) (mn.getD k 0) (rd.getD k 0+g) c (vD ps k) (qg ls k);have gd:Gd H wy rs row:=P.gd (by omega) hkH hg0 R (λt ht=>by
   obtain⟨p,hp,rfl⟩:=Ht.mp ht;obtain⟨hp,e⟩:=List.mem_filter.mp hp;have:=hT p hp
   rwa [show (p.1:Int)=k by simpa using e]at this) (λp hp=>by
   obtain⟨q,hq,rfl⟩:=Ht.mp hp;obtain⟨hq,e⟩:=List.mem_filter.mp hq;rw[show q=(q.1,(k:Int)) by rw[<-show q.2=(k:Int) by simpa using e]]at hq
   exact hq)
  have q1:∀{Q:VK3},au (.ref a) (.int (k:Int)) M' Q=Q (.int (rd.getD k 0)) M':=λ{Q}=>by rw[hZ I.ia,bS (eE hkr)]
  have q2:∀{R:MH->Prop},bJ (.ref a) (.int (k:Int)) (.int (rd.getD k 0+g)) M' R=R M1:=λ{R}=>by rw[fy I.ia hi,e1,hM1]
  have q3:∀{Q:VK3},au (.ref a) (.int (k:Int)) M1 Q=Q (.int (rd.getD k 0+g)) M1:=λ{Q}=>by rw[hZ I1.ia,bS hx2]
  have w1:∀{M2:MH}{Q:VK3},M2 b=some (.lst (mn.map D.int))->au (.ref b) (.int (k:Int)) M2 Q=Q (.int (mn.getD k 0)) M2:=λ{M2 Q} h=>by rw[hZ h,bS (eE hkm)]
  have hsz:rs.length<PySem.sizeLine:=by rw[PySem.sizeLine_eq];omega
  have hsl:ls.length<PySem.sizeLine:=by rw[PySem.sizeLine_eq];omega
  rw[Hl,av];refine⟨trivial,?_⟩;have fin:∀{ls':List Lt}{p:PySem.Addr}{M2:MH},ls'.length<=rs.length+1->(∀q∈ls',tkn (rs++[row]) q.1.1 q.1.2=false/\∃v,aW (rs++[row]) q.1.1 q.1.2=some (.send q.1.1 v q.2))->LS M H a b d p (rd.set k (rd.getD k 0+g)) mn ls' rs M2->
    aO ⟨(B cls kls fad),aa T (B cls kls fad) (n+2)⟩ Au {De with nx:=aY ⟨(B cls kls fad),aa T (B cls kls fad) (n+2)⟩ (.name 7) aQ ES (λ_=>True) De (cs.map D.int),bk:=De.nx,ct:=aY ⟨(B cls kls fad),aa T (B cls kls fad) (n+2)⟩ (.name 7) aQ ES (λ_=>True) De (cs.map D.int)} ES
     [some (.int H),some (.rol (ps.map qD)),cl,some (.ref a),some (.ref b),some (.ref p),some (.ref d),some (.int c),some (.int k),some (.tup [.int k,.int (mn.getD k 0)]),some (.rol ((vD ps k).map D.int)),some (.rol ((qg ls k).map mD)),some row.d] M2:=λ{ls' p M2} hl' hls' I2=>by
   have P2:=P.app (k:=k) (x:=row) (ls':=ls') I.h1 I.h2 hkH R.h R.r hg0 gd hls';have ih:=λx7 x8 x9 x10 x11 x12=>nY hmm hH h6 hps hT (ES:=ES) (cl:=cl) hR cs x7 x8 x9 x10 x11 x12 (rs:=rs++[row]) (by simp;omega) (by simp;exact hl') ((I2.sb (mn':=mn.set k (mn.getD k 0+1)) (by simpa using I2.h2)).sd) P2
   generalize aY ⟨(B cls kls fad),aa T (B cls kls fad) (n+2)⟩ (.name 7) aQ ES (λ_=>True) De (cs.map D.int)=K at ih ⊢
   have hdd:put M2 b (.lst ((mn.set k (mn.getD k 0+1)).map D.int)) d=some (.lst (rs.map Rw.d)):=by rw[ah (He I2.bd)];exact I2.id
   have w2:∀{R:MH->Prop},bJ (.ref b) (.int (k:Int)) (.int (mn.getD k 0+1)) M2 R=R (put M2 b (.lst ((mn.set k (mn.getD k 0+1)).map D.int))):=λ{R}=>by rw[fy I2.ib him,em]
   have w1':=λ{Q:VK3}=>w1 (Q:=Q) I2.ib
   generalize mn.getD k 0=mk at *
   generalize put M2 b (.lst ((mn.set k (mk+1)).map D.int))=M3 at ih hdd w2;simp[Au,↓w1',↓w2,ft hdd,dO hdd,hsz];simpa using ih _ _ _ _ _ _
  generalize aY ⟨(B cls kls fad),aa T (B cls kls fad) (n+2)⟩ (.name 7) aQ ES (λ_=>True) De (cs.map D.int)=K at fin ⊢
  have w1':=λ{Q:VK3}=>w1 (Q:=Q) I1.ib
  generalize hmk:mn.getD k 0=mk at *
  rw[Cq];simp[wpG,ao,vz,aH,cd,hk,↓q1,bh,↓hg,↓q2];refine⟨hH,?_⟩;rw[w1',CK I1.fm hps,eO I1.ic,yf I1.fm I1.ic (by omega),q3,hr (n:=n+1)]
  have keep:∀q∈ls,row.tk q.1.1 q.1.2=false->tkn (rs++[row]) q.1.1 q.1.2=false/\∃v,aW (rs++[row]) q.1.1 q.1.2=some (.send q.1.1 v q.2):=λq hq e=>P.wait hq e
  have eS:∀{M:MH}{Q:VK3},aq .Eq (.str row.s) (.str "send") M Q=Q (.bl row.isS) M:=λ{M Q}=>by rw[<-uR];simp
  have eT:∀{M:MH}{Q:VK3},aq .Eq (.str row.s) (.str "take") M Q=Q (.bl row.isT) M:=λ{M Q}=>by rw[<-oq];simp
  simp[BE,↓m6,↓eS];cases hrow:row with
  |look h v=>
   subst hrow;simp[Rw.isS,m6,↓eT,Rw.isT];exact fin (by omega) (λq hq=>keep q hq rfl) I1
  |sight h v e l=>
   subst hrow;simp[Rw.isS,m6,↓eT,Rw.isT];exact fin (by omega) (λq hq=>keep q hq rfl) I1
  |send h v t=>
   subst hrow;have r3:∀{M:MH}{Q:VK3},au (Rw.send h v t).d (.int 3) M Q=Q (.int t) M:=λ{M Q}=>by simp[au,aD,ai,Rw.d,atI,ixN]
   simp[Rw.isS,ft I1.ic,↓r3,aH,dO I1.ic,hsl,m6,↓eT,Rw.isT];have hh:h=(k:Int):=R.h;have:=fin (ls':=ls++[(((k:Int),mk),t)]) (by simp;exact hz) (λq hq=>by
    rcases HU.mp hq with z|z
    ·exact keep q z rfl
    ·rw[HY.mp z];have hm:=P.mn k hkH;rw[hmk]at hm;have hs:=gT (pre:=rs) (r:=.send h v t);have hx:(Rw.send h v t).h=(k:Int):=R.h;refine⟨?_,v,?_⟩
     ·show tkn (rs++[_]) (k:Int) mk=false;rw[fE,hm,sZ P.G.fine.2];rfl
     ·show aW (rs++[_]) (k:Int) mk=some (.send k v t);rw[hx,<-hm]at hs;rw[hs,hh]) I1.sc
   simpa [lD,mD] using this
  |take h v x y=>
   subst hrow;simp[Rw.isS,m6,↓eT,Rw.isT,eO I1.ic,ao];intro p hp;have r3:∀{M:MH}{Q:VK3},au (Rw.take h v x y).d (.int 3) M Q=Q (mD (x,y)) M:=λ{M Q}=>AA rfl
   have l0:∀{q:Lt}{M:MH}{Q:VK3},au (lD q) (.int 0) M Q=Q (mD q.1) M:=λ{q M Q}=>by simp[lD]
   rw[dN (λσ=>∃a,σ=[a,some (Rw.take h v x y).d]) (λd=>[some d,some (Rw.take h v x y).d]) (zf (x,y)) (λd=>d) _ [] _ ⟨_,rfl⟩ I1.fm hp (by rw[PySem.sizeLine_eq];simp;omega) (λM' hE=>hE.2 _ _ I1.ic) (λd hd=>⟨⟨_,rfl⟩,λσ ⟨a,e⟩ M k=>by subst e;rfl⟩) (λd hd M' hE Q=>by
    obtain⟨q,_,rfl⟩:=Ht.mp hd;simp[gO,↓l0,↓r3,aq,xo,zN]) (λd hd _ M' hE Q=>by simp)]
   have ef:((ls.map lD).filter (zf (x,y))).map (λd=>d)=(ls.filter λq=>!decide (q.1=(x,y))).map lD:=by
    rw[List.filter_map,List.map_id'];rfl
   rw[List.nil_append,ef];refine fin (ls':=ls.filter λq=>!decide (q.1=(x,y))) (by have:=List.length_filter_le (λq:Lt=>!decide (q.1=(x,y))) ls;omega) (λq hq=>?_) (I1.sn hp)
   obtain⟨hq,e⟩:=List.mem_filter.mp hq;refine keep q hq ?_;have e:¬ q.1=(x,y):=by simpa using e
   simp only[Rw.tk,Bool.and_eq_false_iff,decide_eq_false_iff_not];by_cases e1:x=q.1.1
   ·exact .inr λe2=>e (by rw[e1,e2])
   ·exact .inl e1
end
section
variable {cls kls fad:Nat->PySem.Addr}{M:MH}{Q:VK3}{E:XN}{n:Nat}{H:Nat}{wy:List Wy}
noncomputable def rdF(cs:List Int)(i:Nat):Int:=if i<cs.length then cs.getD i 0 % 2001-1000 else 0
theorem xY{cs:List Int}{i:Nat}:rdF cs i<=1000:=by unfold rdF;split<;>omega
theorem BX(hH:0<H)(h6:H<10){ps:List (Nat×Nat)}(hps:ps.length<=36)(hT:Tx H ps wy)(cs:List Int)(hl:cs.length<300)(hM:Fm M)(hQ:∀rs:List Rw,rs.length=cs.length->Good H wy rs->Q (.rol (rs.map Rw.d)) M):aa T (B cls kls fad) (n+3) 44 [.int H,.rol (ps.map qD),.rol (cs.map D.int)] M Q E:=by
 have hs:H<=PySem.sizeLine:=by rw[PySem.sizeLine_eq];omega
 have hb2:(H:Int)<9223372036854775808:=by omega
 have hb3:(H:Int)<4611686018427387904:=by omega
 rw[se];simp[iA,hb3,ao];intro a ha;rw[dN (λσ=>∃x,σ=[x,some (.rol (cs.map D.int))]) (λd=>[some d,some (.rol (cs.map D.int))]) (λ_=>true) (λd=>match d with
  |.int i=>.int (rdF cs i.toNat)
  |_=>.non) _ [] _ ⟨none,rfl⟩ hM ha (by rw[PySem.sizeLine_eq];simp[rng];omega) (λ_ _=>trivial) (λd hd=>⟨⟨_,rfl⟩,λσ ⟨x,e⟩ M k=>by subst e;rfl⟩) (λd hd M' hE Q=>rfl) (λd hd _ M' hE Q=>by
   obtain⟨i,hi,rfl⟩:=Ht.mp hd;rw[Int.zero_add];by_cases h:i<cs.length
   ·have hx:∀{Q:VK3},au (.rol (cs.map D.int)) (.int (i:Int)) M' Q=Q (.int (cs.getD i 0)) M':=λ{Q}=>bS (eE h)
    simp[h,↓hx,bh,rdF]
   ·simp[h,rdF])]
 have er:((rng 0 H).filter λ_=>true).map (λd=>match d with
  |.int i=>D.int (rdF cs i.toNat)
  |_=>.non)=((List.range H).map (rdF cs)).map D.int:=by
  rw[List.filter_eq_self.mpr (λ_ _=>rfl),rng,HG,HG]
  apply List.map_congr_left;intro i _;simp
 rw[List.nil_append,er];simp[cA,gI,ai,aH];refine⟨⟨hb2,hs⟩,hs,λb hb c hc d hd=>?_⟩
 obtain⟨hba,hb'⟩:=aG hb;obtain⟨hcb,hc'⟩:=aG hc;obtain⟨hca,hc''⟩:=aG hc';obtain⟨hdc,hd'⟩:=aG hd;obtain⟨hdb,hd''⟩:=aG hd';obtain⟨hda,hd3⟩:=aG hd'';refine nY (mm:=cs.length) (by omega) (a:=a) (b:=b) (d:=d) (M:=M) hH h6 hps hT (λrd mn ls rs a4 M' x7 x8 x9 x10 x11 x12 hl I P=>?_) cs (rd:=(List.range H).map (rdF cs)) (mn:=List.replicate H 0) (ls:=[]) (rs:=[]) (a4:=c) _ _ _ _ _ _ (by simp) (by simp) ?_ ?_
 ·simp[aU,I.id];rw[gZ λx o e=>by unfold L2.del;rw[Hc (λz=>by rw[z,I.fd]at e;cases e)];exact I.old _ _ e]
  exact hQ rs hl P.G
 ·refine⟨by simp,by simp,?_,?_,?_,?_,He hba,He hca,He hda,He hcb,He hdb,He hdc,?_,ha,hb',hc'',hd3,(((hM.put _ _).put _ _).put _ _).put _ _⟩
  ·rw[ah (He hda),ah (He hca),ah (He hba),af];simp
  ·rw[ah (He hdb),ah (He hcb),af];simp
  ·rw[ah (He hdc),af];rfl
  ·rw[af];rfl
  ·exact bo (bo (bo (bo (λ_ _ e=>e) ha) hb') hc'') hd3
 ·refine⟨.nil,λk=>?_,(λk hk=>by simp[hk,ofH]),(λk hk x hx=>by simp[ofH]at hx),(λ_ h=>by cases h)⟩
  rw[List.getD_eq_getElem?_getD,HB];by_cases hk:k<H
  ·simp[hk];exact xY
  ·simp[hk]
end
section
variable {cls kls fad:Nat->PySem.Addr}{M:MH}{Q:VK3}{E:XN}{n:Nat}{H:Nat}{wy:List Wy}{rs:List Rw}{r:Rw}
theorem EQ:au r.d (.int 2) M Q=Q (.int r.r) M:=by cases r<;>simp[Rw.d,Rw.r]
theorem Good.row(G:Good H wy rs):∀x∈rs,x.r<10 ^ 40/\∀h v t,x=.send h v t->[h,t]∈wy.map pr:=by
 induction G with
 |nil=>exact λ_ h=>by cases h
 |snoc _ d ih=>
  intro x hx;rcases HU.mp hx with hx|hx
  ·exact ih x hx
  ·rw[HY.mp hx];exact⟨d.ub,d.sn⟩
noncomputable def Rw.wr(v:Int):Rw->Rw
 |.look h _=>.look h v
 |.sight h _ e l=>.sight h v e l
 |.send h _ t=>.send h v t
 |.take h _ a b=>.take h v a b
noncomputable def Rw.wh(h:Int):Rw->Rw
 |.look _ v=>.look h v
 |.sight _ v e l=>.sight h v e l
 |.send _ v t=>.send h v t
 |.take _ v a b=>.take h v a b
noncomputable def Rw.t3:Rw->List D
 |.look ..=>[]
 |.sight _ _ e l=>[.int e,.int l]
 |.send _ _ t=>[.int t]
 |.take _ _ a b=>[.tup [.int a,.int b]]
theorem Fv:gy true r.d none (some 1) M Q=Q (.tup [.str r.s]) M:=by cases r<;>simp +decide [Rw.d,Rw.s,whole,c5,HT.sIx]
theorem Fu:gy true r.d (some 2) none M Q=Q (.tup (.int r.r::r.t3)) M:=by cases r<;>simp +decide [Rw.d,Rw.r,Rw.t3,whole,c5,HT.sIx]
theorem El:gy true r.d none (some 2) M Q=Q (.tup [.str r.s,.int r.h]) M:=by cases r<;>simp +decide [Rw.d,Rw.s,Rw.h,whole,c5,HT.sIx]
theorem Er:gy true r.d (some 3) none M Q=Q (.tup r.t3) M:=by cases r<;>simp +decide [Rw.d,Rw.t3,whole,c5,HT.sIx]
theorem tK:r.t3.length<=2:=by cases r<;>simp[Rw.t3]
theorem Fj{v:Int}:(r.wr v).d=.tup (.str r.s::.int r.h::.int v::r.t3):=by cases r<;>rfl
theorem Ei{v:Int}:(r.wh v).d=.tup (.str r.s::.int v::.int r.r::r.t3):=by cases r<;>rfl
theorem B1{v:Int}:(r.wh v).h=v:=by cases r<;>rfl
theorem zy{v:Int}:(r.wr v).h=r.h/\(r.wr v).r=v:=by cases r<;>exact⟨rfl,rfl⟩
noncomputable def lsC(h:Int):D->Bool
 |.tup (_::.int a::_)=>decide (a=h)
 |_=>false
noncomputable def lsR:D->D
 |.tup (_::_::d::_)=>d
 |_=>.non
theorem xc{W:WC}(hl:rs.length<400)(hM:Fm M):fS W (.name 0) (.yes (.cmp .Eq (.ix V0 I1) (.ix V1 I1))) (.ix V0 I2) (λ_=>True) Q (rs.map Rw.d) [none,some r.d] M=Q (.rol (((ofH rs r.h).map Rw.r).map D.int)) M:=by
 have e:∀y:Rw,lsC r.h y.d=decide (y.h=r.h):=λy=>by cases y<;>rfl
 rw[cN (lsC r.h) lsR hM (by simp;omega) (λd hd M' hE Q'=>by
  obtain⟨y,_,rfl⟩:=Ht.mp hd;simp[gO,lm,e]) (λd hd _ M' hE Q'=>by
  obtain⟨y,_,rfl⟩:=Ht.mp hd;have e2:lsR y.d=.int y.r:=by cases y<;>rfl
  simp[EQ,e2])]
 rw[List.filter_map,HG,HG];have e1:(lsC r.h∘Rw.d)=λy=>decide (y.h=r.h):=funext e
 rw[e1];congr 2;exact List.map_congr_left λy _=>by cases y<;>rfl
def Bad(H:Nat)(rs:List Rw)(x:Rw)(e:XE):Prop:=flC H (RS rs) x=some e\/flC H (RS rs) x=none/\e=⟨7,none⟩/\∃h v i j l:Int,x=.take h v i j/\getD (RS rs).ku (RS rs).du [i,j]=some (.int l)/\¬ l=h
theorem uK(G:Good H wy rs)(d:Gd H wy rs r)(hw:∀w∈wy,w.good H)(hl:rs.length<300)(h6:H<=6)(c:Int):∃(x:Rw)(e:XE),(0<=x.h/\x.h<=H)/\(e.c=2\/e.c=6\/e.c=7)/\Bad H rs x e/\∀{n:Nat}{M:MH}{Q:VK3}{E:XN},Fm M->aa T (B cls kls fad) (n+1) 49 [.int H,rL rs,r.d,.int c] M Q E=Q x.d M:=by
 have U:=G.fine.2;have hd:=d.hd;have eT:∀{M:MH}{Q:VK3},aq .Eq (.str r.s) (.str "take") M Q=Q (.bl r.isT) M:=λ{M Q}=>by rw[<-oq];simp
 have tA:∀{W:WC}{x y z u:Option D}{M:MH}{R:Bool->MH->Prop}{E:XN},wpT W (.and (.cmp .Eq (.ix V2 I0) (.con (.str "take"))) (.cmp .Eq (.bin .Mod V3 I2) I0)) [x,y,some r.d,some (.int c),z,u] M R E=R (r.isT&&decide (c % 2=0)) M:=λ{W x y z u M R E}=>by
  simp[m6,↓eT,bh];cases r.isT<;>simp
 have ls:=λ{W:WC}{M:MH}{Q:VK3} (hM:Fm M)=>xc (W:=W) (M:=M) (Q:=Q) (rs:=rs) (r:=r) (by omega) hM
 cases bA:r.isT&&decide (c % 2=0) with
 |true=>
  rw[G9]at bA;cases r with
  |take h v a b=>
   obtain⟨t1,v',t2⟩:=d.tk _ _ _ _ rfl;obtain⟨k,_,hz⟩:=sent_Z.mp t2;obtain⟨w,hwm,e⟩:=Ht.mp ((G.row _ (List.of_mem_zip hz).2).2 _ _ _ rfl);have g:=hw w hwm;simp only[pr,List.cons.injEq,and_true]at e;obtain⟨rfl,rfl⟩:=e;have g1:=g.i;have g2:=g.j;have g3:=g.ne;simp only[okH,G9,Hk]at g1 g2;obtain⟨q,hq⟩:∃q,c / 2 % ((H:Int)-1)=q:=⟨_,rfl⟩;have q0:0<=q:=by rw[<-hq];exact Iw _ (by omega)
   have q1:q<(H:Int)-1:=by rw[<-hq];exact Ir _ (by omega)
   obtain⟨s,hs⟩:∃s,(w.j+1+q) % (H:Int)=s:=⟨_,rfl⟩;have s0:0<=s:=by rw[<-hs];exact Iw _ (by omega)
   have s1:s<H:=by rw[<-hs];exact Ir _ (by omega)
   have s2:¬ w.j=s:=λz=>by
    rw[<-z]at hs;have:=Int.emod_add_mul_ediv (w.j+1+q) H;rw[hs]at this;have:(H:Int)*((w.j+1+q) / H)=1+q:=by omega
    have h0:0<(w.j+1+q) / H:=Classical.byContradiction λz=>by
     have:=Int.mul_le_mul_of_nonneg_left (show (w.j+1+q) / H<=0 by omega) (show (0:Int)<=H by omega)
     omega
    have:=Int.mul_le_mul_of_nonneg_left (show 1<=(w.j+1+q) / H by omega) (show (0:Int)<=H by omega)
    omega
   refine⟨.take s (10 ^ 40) w.i b,⟨7,none⟩,⟨s0,by show s<=H;omega⟩,by simp,.inr ⟨?_,rfl,s,_,w.i,b,w.j,rfl,?_,s2⟩,?_⟩
   ·unfold flC;rw[Hg (by simp[okH,Rw.h,s0,s1]),U.kr]
    cases e:(ofH rs (Rw.take s (10 ^ 40) w.i b).h).getLast? with
    |none=>rfl
    |some y=>
     have:=(G.row y (List.mem_filter.mp (List.mem_of_getLast? e)).1).1;show (if (10:Int) ^ 40<y.r then _ else _)=_
     rw[Hc (by omega)]
   ·rw[U.un,unF,t1,t2];rfl
   ·intro n M Q E hM;have cd1:fQ (c / 2) ((H:Int)-1)=True:=bh (by omega) (by omega)
    have cd2:fQ (w.j+1+q) (H:Int)=True:=bh (by omega) (by omega)
    have r1:∀{M:MH}{Q:VK3},au (Rw.take w.j v w.i b).d (.int 1) M Q=Q (.int w.j) M:=λ{M Q}=>lm
    have r3:∀{M:MH}{Q:VK3},au (Rw.take w.j v w.i b).d (.int 3) M Q=Q (mD (w.i,b)) M:=λ{M Q}=>AA rfl
    have p1:(1:Int)<H:=by omega
    have p2:0<H:=by omega
    rw[show (Rw.take s (10 ^ 40) w.i b).d=.tup [.str "take",.int s,.int (10 ^ 40),mD (w.i,b)] from rfl];simp[-gf,d8,bH,ao,ls hM,↓tA,bA.1,bA.2,↓r1,↓r3,bh,cd1,hq,cd2,hs,vz,aH,p1,p2]
  |_=>cases bA.1
 |false=>
  have z2:2+(r.t3.length+1)<=PySem.sizeLine:=by have:=tK (r:=r);rw[PySem.sizeLine_eq];omega
  have z3:3+r.t3.length<=PySem.sizeLine:=by have:=tK (r:=r);rw[PySem.sizeLine_eq];omega
  cases e:(ofH rs r.h).getLast? with
  |none=>
   have e':=List.getLast?_eq_none_iff.mp e;refine⟨r.wh H,⟨2,none⟩,by rw[B1];omega,by simp,.inl ?_,?_⟩
   ·unfold flC;rw[B1,Hc (by simp[okH])]
   ·intro n M Q E hM;have em:∀{M:MH}{Q:VK3},aq .NotEq (.rol []) (.rol []) M Q=Q (.bl false) M:=λ{M Q}=>by simp[aq,cK,L2.rs,ai,plN,eqD,bx]
    simp[-gf,d8,bH,ao,ls hM,↓tA,bA,e',↓em,↓Fv,↓Fu,aH,Ei,dM,ai,z2]
  |some y=>
   obtain⟨l,e'⟩:=List.getLast?_eq_some_iff.mp e;refine⟨r.wr (y.r-1-c % 10 ^ 9),⟨6,some (245166316,.int y.r)⟩,by rw[zy.1];omega,by simp,.inl ?_,?_⟩
   ·unfold flC;rw[zy.1,zy.2,Hg (by simp[okH,hd.1,hd.2]),U.kr,e]
    show (if y.r-1-c % 10 ^ 9<y.r then _ else _)=_
    rw[Hg (by omega)]
   ·intro n M Q E hM;have em:∀{M:MH}{Q:VK3},aq .NotEq (.rol (((ofH rs r.h).map Rw.r).map D.int)) (.rol []) M Q=Q (.bl true) M:=λ{M Q}=>by simp only[aq];rw[oA,show ((ofH rs r.h).map Rw.r).isEmpty=false by rw[e'];cases l<;>rfl];rfl
    have ix:∀{M:MH}{Q:VK3},au (.rol (((ofH rs r.h).map Rw.r).map D.int)) (.int (-1)) M Q=Q (.int y.r) M:=λ{M Q}=>by
     refine bS ?_;rw[e',Io,Io];have h1:(1:Int)<=(l.length:Int)+1:=by omega
     have h2:(-1+((l.length:Int)+1)).toNat=l.length:=by omega
     simp[atI,ixN,h1,h2]
    simp[-gf,d8,bH,ao,ls hM,↓tA,bA,↓em,↓ix,↓El,↓Er,bh,vz,aH,Fj,dM,ai,z3]
end
section
variable {cls kls fad:Nat->PySem.Addr}{M:MH}{Q:VK3}{E:XN}{n:Nat}{p:PySem.Addr}{cks:List (Int×Int)}{wy:List Wy}{rs:List Rw}{r:Rw}
theorem u7{x:Rw}{e:XE}(G:Good cks.length wy rs)(hM:Fm M)(hp:M p=some (mt kls cks wy rs))(hl:rs.length<300)(he:e.c=2\/e.c=6\/e.c=7)(hx:Bad cks.length rs x e):aa T (B cls kls fad) (n+8) 50 [.ref p,x.d] M Q E=Q (.bl false) M:=by
 have mh:∀{R:Nat->Prop},bz (B cls kls fad) 228274932 (.ref p) M R=R 29:=λ{R}=>lW hp (by decide) (by decide) (by decide)
 have hd:∀{Q:VK3}{E:XN},aa T (B cls kls fad) (n+7) 29 [.ref p,x.d] M Q E=E e M:=λ{Q E}=>rQ G hM hp hl hx
 have s1:e.c<9:=by omega
 have s2:sub e.c 0=true:=by rcases he with h|h|h<;>rw[h]<;>decide
 simp +decide [my,d5,↓mh,↓hd,s1,s2,km]
theorem rF(G:Good cks.length wy rs)(d:Gd cks.length wy rs r)(hw:∀w∈wy,w.good cks.length)(h1:1<=cks.length)(h6:cks.length<=6)(hl:rs.length<300)(hM:Fm M)(hp:M p=some (mt kls cks wy rs)){c:Int}(hQ:Q (.bl true) M):aa T (B cls kls fad) (n+9) 51 [.ref p,.int cks.length,rL rs,r.d,.int c] M Q E:=by
 obtain⟨x,e,hx,he,hb,sp⟩:=uK (cls:=cls) (kls:=kls) (fad:=fad) G d hw hl h6 c;have sp:=λ{Q:VK3}{E:XN}=>sp (n:=n+7) (Q:=Q) (E:=E) hM
 have lb:=λ{Q:VK3}{E:XN}=>u7 (cls:=cls) (fad:=fad) (n:=n) (Q:=Q) (E:=E) G hM hp hl he hb
 have i1:=λ{M:MH}{Q:VK3}=>lm (M:=M) (Q:=Q) (r:=r)
 have i2:=λ{M:MH}{Q:VK3}=>lm (M:=M) (Q:=Q) (r:=x)
 have hd:=d.hd;rw[kN];simp[dA,↓sp,↓lb,↓i1,↓i2,aH];refine qq (P:=λσ M'=>Fm M'/\(∀q o,M q=some o->M' q=some o)/\∃x6 x7,σ=[some (.ref p),some (.int cks.length),some (rL rs),some r.d,some (.int c),some x.d,x6,x7]) (λ_ _ _=>trivial) ⟨hM,(λ_ _ h=>h),none,none,rfl⟩ ?_ ?_
 ·rintro y hy σ M' ⟨hM',old,x6,x7,rfl⟩ k hk;obtain⟨h,rfl,h0,hh⟩:∃h:Int,y=.int h/\0<=h/\h<=cks.length:=by
   simp only[Hj,HI,or_false]at hy;rcases hy with rfl|rfl
   ·exact⟨_,rfl,by omega,by omega⟩
   ·exact⟨_,rfl,hx⟩
  by_cases hlt:h<cks.length
  ·obtain⟨vs,V,hv⟩:=l8 (cls:=cls) (kls:=kls) (fad:=fad) G h1 h6 hl (h:=h) (by simp[okH,h0,hlt])
   have mh:∀{R:Nat->Prop},bz (B cls kls fad) 27084223208 (.ref p) M' R=R 30:=λ{R}=>lW (old _ _ hp) (by decide) (by decide) (by decide)
   simp[wpG,bX,hlt,↓mh];refine hv (n:=n+1) hM' (old _ _ hp) λq hq=>?_
   have hM2:=hM'.put q (.lst (vs.map Rw.d));refine V.part (n:=n+6) hM2 af ?_;simp;refine V.right (n:=n+6) hM2 af ?_;simp;exact hk _ _ ⟨hM2,bo old (qo old hq),_,_,rfl⟩
  ·simp[wpG,bX,hlt];exact hk _ _ ⟨hM',old,_,_,rfl⟩
 ·rintro σ M' ⟨hM',old,x6,x7,rfl⟩;simp[gZ old];exact hQ
theorem sK(G:Good cks.length wy rs)(h1:1<=cks.length)(h6:cks.length<=6)(hl:rs.length<300)(hM:Fm M)(hp:M p=some (mt kls cks wy rs))(hQ:Q (.bl true) M):aa T (B cls kls fad) (n+9) 52 [.ref p,rL rs,.int cks.length] M Q E:=by
 have hb:(cks.length:Int)<4611686018427387904:=by omega
 rw[i6];simp[cx,hb];refine qq (P:=λσ M'=>Fm M'/\(∀q o,M q=some o->M' q=some o)/\∃x3 x4 x5,σ=[some (.ref p),some (rL rs),some (.int cks.length),x3,x4,x5]) (λ_ _ _=>trivial) ⟨hM,(λ_ _ h=>h),none,none,none,rfl⟩ ?_ ?_
 ·rintro y hy σ M' ⟨hM',old,x3,x4,x5,rfl⟩ k hk;obtain⟨h,hh,rfl⟩:=Ht.mp hy;have hh:h<cks.length:=List.mem_range.mp hh;rw[Int.zero_add];obtain⟨vs,V,hv⟩:=l8 (cls:=cls) (kls:=kls) (fad:=fad) G h1 h6 hl (h:=h) (by simp[okH,hh])
  have mh:∀{M':MH}{R:Nat->Prop},M' p=some (mt kls cks wy rs)->bz (B cls kls fad) 27084223208 (.ref p) M' R=R 30:=λ{M' R} hp=>lW hp (by decide) (by decide) (by decide)
  have z1:vs.length<PySem.sizeLine:=by have:=V.len;rw[PySem.sizeLine_eq];omega
  have z2:vs.length<=PySem.sizeLine:=Nat.le_of_lt z1;simp[wpG,cV,↓mh (old _ _ hp)];refine hv (n:=n+1) hM' (old _ _ hp) λq hq=>?_
  have old2:=λ{o}=>bo (o:=o) old (qo old hq)
  refine V.part (n:=n+6) (hM'.put _ _) af ?_;simp;refine V.right (n:=n+6) (hM'.put _ _) af ?_;have lc:∀{Q:VK3},rBi (.list true) [.ref q] (put M' q (.lst (vs.map Rw.d))) Q=Q (rL vs) (put M' q (.lst (vs.map Rw.d))):=λ{Q}=>by simp[rBi,aD,ai,af,cA,z2]
  simp[↓lc,ft (show put M' q (.lst (vs.map Rw.d)) q=_ from af),dO (show put M' q (.lst (vs.map Rw.d)) q=_ from af),bP,z1,↓mh (old2 _ _ hp)];refine hv (n:=n+1) (hM'.put _ _) (old2 _ _ hp) λq2 hq2=>?_
  simp only[aq];rw[vv (rs:=vs) (by simp[ai,af]) rfl]
  simp;exact hk _ _ ⟨(hM'.put _ _).put _ _,bo old2 (qo old2 hq2),_,_,_,rfl⟩
 ·rintro σ M' ⟨hM',old,x3,x4,x5,rfl⟩;simp[gZ old];exact hQ
end
section
variable {cls kls fad:Nat->PySem.Addr}{M:MH}{Q:VK3}{E:XN}{n:Nat}{p q a b:PySem.Addr}{cks:List (Int×Int)}{wy:List Wy}{rs:List Rw}{hs:List (List Rw)}{k hf:Nat}
theorem Ch{u v:D}(h1:ai M u=some (hs.map rL))(h2:ai M v=some (hs.map rL)):cK false u v M Q=Q (.bl true) M:=by
 have hp:pls (hs.map rL)=true:=by simp[pls,plN,j1]
 have h7:pl (.rol (hs.map rL))=true:=by simp[pl,plN,j1]
 have he:bx (hs.map rL) (hs.map rL)=true:=by
  clear h1 h2 hp h7
  induction hs with
  |nil=>simp[bx]
  |cons r rs ih=>simp[bx,eqD,qm,ih]
 simp only[cK,L2.rs,h1,h2,hp,if_true,h7,true_and,eqD,he];simp
theorem oO(xs:List D)(k:Nat)(h:k<=xs.length):c5 xs none (some (k:Int))=xs.take k:=by
 have:HT.sIx xs.length xs.length (some (k:Int))=k:=by
  unfold HT.sIx;simp;split<;>omega
 simp only[c5,this];simp[HT.sIx]
theorem Good.gd{H:Nat}{l:List Rw}{x:Rw}(h:Good H wy (l++[x])):Gd H wy l x:=by
 generalize e:l++[x]=m at h;cases h with
 |nil=>simp at e
 |snoc _ d=>
  obtain⟨rfl,e2⟩:=List.append_inj' e rfl;cases e2;exact d
structure LI (kls:Nat->PySem.Addr) (cks:List (Int×Int)) (wy:List Wy)(rs:List Rw)(hf:Nat)(p q a b:PySem.Addr)(k:Nat) (hs:List (List Rw)) (M:MH):Prop where
 ip:M p=some (mt kls cks wy (rs.take k))
 iq:M q=some (mt kls cks wy (rs.take (min k hf)))
 ia:M a=some (.lst (hs.map rL))
 ib:M b=some (.lst (hs.map rL))
 pq:p≠q
 pa:p≠a
 pb:p≠b
 qa:q≠a
 qb:q≠b
 ab:a≠b
 fm:Fm M
noncomputable def zB:ISs:=.cons (.ifs (.not (.val V13)) (S1 (.ret (.con (.bl false)))) .nil) (.cons (.expr (.meth V6 228274932 (Ar1 (.ix V4 V12)))) (.cons (.ifs (.cmp .Lt V12 V9) (S1 (.expr (.meth V7 228274932 (Ar1 (.ix V4 V12))))) .nil) .nil))
noncomputable def lw_b:ISs:=.cons (.set 13 (.con (.bl true))) (.cons (.ifs (.cmp .Eq (.bin .Mod (.bin .FloorDiv (.ix V3 V12) (.con (.int 11))) I3) I0) (S1 (.set 13 (.call 51 (Ar5 V6 V1 (.sl true V4 .no (.yes V12)) (.ix V4 V12) (.bin .FloorDiv (.ix V3 V12) (.con (.int 33))))))) .nil) zB)
theorem Fa:fg=.cons (.ifs (.cmp .In V12 V8) (S3 (.ifs (.not (.val (.call 52 (Ar3 V6 (.sl true V4 .no (.yes V12)) V1)))) (S1 (.ret (.con (.bl false)))) .nil) (.app V10 (.frz (.meth V6 27084223208 (Ar1 (.bin .Mod V12 V1))))) (.app V11 (.bi (.list true) (Ar1 (.ix V10 (.neg I1)))))) .nil) lw_b:=rfl
variable {De:Ends3}{ES:St3->XN}{y0 y2 y5 y8 x13:Option D}{cs:List Int}
noncomputable abbrev Fr(cks:List (Int×Int))(rs:List Rw)(cs:List Int)(hf:Nat)(p q a b:PySem.Addr)(y0 y2 y5 y8 x12 x13:Option D):St3:=[y0,some (.int cks.length),y2,some (.rol (cs.map D.int)),some (rL rs),y5,some (.ref p),some (.ref q),y8,some (.int hf),some (.ref a),some (.ref b),x12,x13]
theorem Cl(G:Good cks.length wy rs)(hw:∀w∈wy,w.good cks.length)(h1:1<=cks.length)(h6:cks.length<=6)(hl:rs.length<300)(hc:cs.length=rs.length)(hk:k<rs.length)(I:LI kls cks wy rs hf p q a b k hs M)(hR:∀M' x13,LI kls cks wy rs hf p q a b (k+1) hs M'->De.nx (Fr cks rs cs hf p q a b y0 y2 y5 y8 (some (.int k)) x13) M') :
  aO ⟨(B cls kls fad),aa T (B cls kls fad) 9⟩ lw_b De ES (Fr cks rs cs hf p q a b y0 y2 y5 y8 (some (.int k)) x13) M:=by
 have et:rs.take (k+1)=rs.take k++[rs[k]]:=List.take_succ_eq_append_getElem hk;have G1:Good cks.length wy (rs.take k++[rs[k]]):=et▸G.take (k+1);have tl:(rs.take k).length<300:=by rw[List.length_take];omega
 have ix:∀{M:MH}{Q:VK3},au (rL rs) (.int (k:Int)) M Q=Q (rs[k]).d M:=λ{M Q}=>bS (cf (by simp[hk]))
 have ic:∀{M:MH}{Q:VK3},au (.rol (cs.map D.int)) (.int (k:Int)) M Q=Q (.int (cs.getD k 0)) M:=λ{M Q}=>bS (eE (by omega))
 have z1:(rs.take k).length<=PySem.sizeLine:=by rw[PySem.sizeLine_eq];omega
 have sl:∀{M:MH}{Q:VK3},gy true (rL rs) none (some (k:Int)) M Q=Q (rL (rs.take k)) M:=λ{M Q}=>by
  rw[mj,oO _ _ (by simp;omega),<-List.map_take,Hm,eq_true z1,true_and]
 have mp:∀{R:Nat->Prop},bz (B cls kls fad) 228274932 (.ref p) M R=R 29:=λ{R}=>lW I.ip (by decide) (by decide) (by decide)
 have tp:∀{Q:VK3}{E:XN},aa T (B cls kls fad) 9 29 [.ref p,(rs[k]).d] M Q E=Q (nD ((rs[k]).h,(ofH (rs.take k) (rs[k]).h).length)) (put M p (mt kls cks wy (rs.take (k+1)))):=λ{Q E}=>by rw[et];exact ue (n:=2) G1 I.fm I.ip tl
 have mq:∀{R:Nat->Prop},bz (B cls kls fad) 228274932 (.ref q) (put M p (mt kls cks wy (rs.take (k+1)))) R=R 29:=λ{R}=>lW (by rw[ah (He I.pq)];exact I.iq) (by decide) (by decide) (by decide)
 have I1:∀{M':MH},M' p=some (mt kls cks wy (rs.take (k+1)))->M' q=some (mt kls cks wy (rs.take (min (k+1) hf)))->(∀x,x≠p->x≠q->M' x=M x)->Fm M'->LI kls cks wy rs hf p q a b (k+1) hs M':=λ{M'} e1 e2 e3 f=>⟨e1,e2,by rw[e3 _ (He I.pa) (He I.qa)];exact I.ia,by rw[e3 _ (He I.pb) (He I.qb)];exact I.ib,I.pq,I.pa,I.pb,I.qa,I.qb,I.ab,f⟩
 have ax:aO ⟨(B cls kls fad),aa T (B cls kls fad) 9⟩ zB De ES (Fr cks rs cs hf p q a b y0 y2 y5 y8 (some (.int k)) (some (.bl true))) M:=by
  simp[zB,Fr,↓ix,↓mp,↓tp];by_cases hh:k<hf
  ·simp[hh,↓ix,↓mq];have e:min k hf=k:=by omega
   have iq:=I.iq;rw[e]at iq;rw[ue (n:=2) G1 (I.fm.put _ _) (by rw[ah (He I.pq)];exact iq) tl]
   refine hR _ _ (I1 (by rw[ah I.pq,af]) (by rw[af,show min (k+1) hf=k+1 by omega,et]) (λx x1 x2=>by rw[ah x2,ah x1]) ((I.fm.put _ _).put _ _))
  ·simp[hh];exact hR _ _ (I1 af (by rw[ah (He I.pq),I.iq,show min (k+1) hf=min k hf by omega]) (λx x1 x2=>by rw[ah x1]) (I.fm.put _ _))
 by_cases hm:cs.getD k 0 / 11 % 3=0
 ·have hm':cs[k]?.getD 0 / 11 % 3=0:=by rwa [<-List.getD_eq_getElem?_getD]
  simp[lw_b,Fr,↓ic,bh,hm',↓sl,↓ix];exact rF (n:=0) (G.take k) G1.gd hw h1 h6 tl I.fm I.ip ax
 ·have hm':¬ cs[k]?.getD 0 / 11 % 3=0:=by rwa [<-List.getD_eq_getElem?_getD]
  simp[lw_b,Fr,↓ic,bh,hm'];exact ax
end
section
variable {cls kls fad:Nat->PySem.Addr}{M:MH}{p q a b:PySem.Addr}{cks:List (Int×Int)}{wy:List Wy}{rs:List Rw}{hf:Nat}{De:Ends3}{ES:St3->XN}{y0 y2 y5:Option D}{cs ts:List Int}
theorem BP(k:Int)(ts:List Int):∃c:Bool,∀{M:MH}{Q:VK3},aq .In (.int k) (.rol (ts.map D.int)) M Q=Q (.bl c) M:=by
 refine⟨(ts.map D.int).any λd=>eqD d (.int k),?_⟩
 intro M Q;have hp:pls (ts.map D.int)=true:=by simp[plN]
 simp only[aq,lJ,aD,ai,hp,res,true_and];simp[plN]
theorem pU(G:Good cks.length wy rs)(hw:∀w∈wy,w.good cks.length)(h1:1<=cks.length)(h6:cks.length<=6)(hl:rs.length<300)(hc:cs.length=rs.length)(hR:∀M' hs x12 x13,LI kls cks wy rs hf p q a b rs.length hs M'->De.nx (Fr cks rs cs hf p q a b y0 y2 y5 (some (.rol (ts.map D.int))) x12 x13) M'):∀(m k:Nat) (hs:List (List Rw)) (M:MH)(x12 x13:Option D),k+m=rs.length->hs.length<=k->LI kls cks wy rs hf p q a b k hs M->
  aY ⟨(B cls kls fad),aa T (B cls kls fad) 9⟩ (.name 12) fg ES (λ_=>True) De (rng k m) (Fr cks rs cs hf p q a b y0 y2 y5 (some (.rol (ts.map D.int))) x12 x13) M
 |0,k,hs,M,x12,x13,hk,hz,I=>by
  rw[Nat.add_zero]at hk;subst hk;exact⟨trivial,hR M hs x12 x13 I⟩
 |m+1,k,hs,M,x12,x13,hk,hz,I=>by
  have ih:=λhs M x13=>pU G hw h1 h6 hl hc hR m (k+1) hs M (some (.int k)) x13 (by omega)
  rw[jC,av];refine⟨trivial,?_⟩;rw[show (k:Int)+1=((k+1:Nat):Int) by omega]
  generalize aY ⟨(B cls kls fad),aa T (B cls kls fad) 9⟩ (.name 12) fg ES (λ_=>True) De (rng ((k+1:Nat):Int) m)=K at ih ⊢
  have bt:=λ{hs:List (List Rw)}{M:MH} (hz:hs.length<=k+1) (I:LI kls cks wy rs hf p q a b k hs M)=>Cl (cls:=cls) (fad:=fad) (De:={De with nx:=K,ct:=K,bk:=De.nx}) (ES:=ES) (y0:=y0) (y2:=y2) (y5:=y5) (y8:=some (.rol (ts.map D.int))) (x13:=x13) G hw h1 h6 hl hc (by omega) I λM' x13 I'=>ih hs M' x13 hz I'
  obtain⟨c,ct⟩:=BP k ts;rw[Fa];cases c with
  |false=>
   simp[Fr,wpG,↓ct];exact bt (by omega) I
  |true=>
   have tl:(rs.take k).length<300:=by rw[List.length_take];omega
   have z1:(rs.take k).length<=PySem.sizeLine:=by rw[PySem.sizeLine_eq];omega
   have sl:∀{M:MH}{Q:VK3},gy true (rL rs) none (some (k:Int)) M Q=Q (rL (rs.take k)) M:=λ{M Q}=>by
    rw[mj,oO _ _ (by simp;omega),<-List.map_take,Hm,eq_true z1,true_and]
   have g0:=Iw (k:Int) (show (cks.length:Int)≠0 by omega)
   have g1:=Ir (k:Int) (show (0:Int)<cks.length by omega)
   obtain⟨vs,V,hv⟩:=l8 (cls:=cls) (kls:=kls) (fad:=fad) (G.take k) h1 h6 tl (h:=(k:Int) % cks.length) (by simp[okH,g0,g1])
   have mh:∀{R:Nat->Prop},bz (B cls kls fad) 27084223208 (.ref p) M R=R 30:=λ{R}=>lW I.ip (by decide) (by decide) (by decide)
   have cd:fQ (k:Int) (cks.length:Int)=True:=bh (by omega) (by omega)
   have z2:hs.length<PySem.sizeLine:=by rw[PySem.sizeLine_eq];omega
   have z3:vs.length<=PySem.sizeLine:=by have:=V.len;rw[PySem.sizeLine_eq];omega
   have p0:0<cks.length:=by omega
   simp[Fr,wpG,↓ct,↓sl];refine sK (n:=0) (G.take k) h1 h6 tl I.fm I.ip ?_;simp[ft I.ia,↓mh,cd,p0];refine hv (n:=2) I.fm I.ip λv hv=>?_
   have ea:put M a (.lst (hs.map rL++[rL vs])) a=some (.lst (hs.map rL++[rL vs])):=af;have eb:put M a (.lst (hs.map rL++[rL vs])) b=some (.lst (hs.map rL)):=by rw[ah (He I.ab)];exact I.ib
   have ix:∀{Q:VK3},au (.ref a) (.int (-1)) (put M a (.lst (hs.map rL++[rL vs]))) Q=Q (rL vs) (put M a (.lst (hs.map rL++[rL vs]))):=λ{Q}=>by
    rw[hZ ea];refine bS ?_;have h1:(1:Int)<=(hs.length:Int)+1:=by omega
    have h2:(-1+((hs.length:Int)+1)).toNat=hs.length:=by omega
    simp[atI,ixN,h1,h2]
   have lc:∀{M:MH}{Q:VK3},rBi (.list true) [rL vs] M Q=Q (rL vs) M:=λ{M Q}=>by simp[rBi,aD,ai,cA,z3]
   simp only[aU,af,da hv];rw[dO I.ia,Hm];refine⟨z2,?_⟩;simp only[xf,z9,Bl,yU];rw[ft eb];simp[↓ix,↓lc];rw[dO eb,Hm];refine⟨z2,?_⟩;refine bt (hs:=hs++[vs]) (by simp;omega) ⟨?_,?_,?_,?_,I.pq,I.pa,I.pb,I.qa,I.qb,I.ab,(I.fm.put _ _).put _ _⟩
   ·rw[ah I.pb,ah I.pa];exact I.ip
   ·rw[ah I.qb,ah I.qa];exact I.iq
   ·rw[ah I.ab,af];simp
   ·rw[af];simp
end
section
noncomputable def wq(x:Nat×Nat):Wy:=⟨x.1,x.2,0,none⟩
noncomputable def cpW(d:D):D:=match d with
 |.tup [a,b]=>.tup [a,b,.int 0,.non]
 |_=>.non
variable {cls kls fad:Nat->PySem.Addr}{cks:List (Int×Int)}{wy:List Wy}{rs:List Rw}
noncomputable def zr:ISs:=.cons (.set 6 (.make false 6 (Ar1 V5))) (.cons (.set 7 (.make false 6 (Ar1 V5))) (.cons (.set 8 (.cat true (.lst true (Ar1 I0)) (.comp true ["_law_k","_law_script","_law_log_here"] [none,some 0,some 4] (.name 0) (.seq (.tup (Ar2 I1 I2))) .no (.bin .Mod (.call 41 (Ar2 V1 V0)) (.bin .Add I1 (.bi .len (Ar1 V2))))))) (.cons (.set 9 (.bin .FloorDiv (.bi .len (Ar1 V4)) I2)) (.cons (.set 10 (.lst false .nil)) (.cons (.set 11 (.lst false .nil)) (.cons (.for_ (.name 12) (.rng1 (.bi .len (Ar1 V4))) fg) (.cons (.ifs (.or (.not (.val (.call 52 (Ar3 V6 V4 V1)))) (.not (.val (.call 52 (Ar3 V7 (.sl true V4 .no (.yes V9)) V1))))) (S1 (.ret (.con (.bl false)))) .nil) (.cons (.ret (.and (.cmp .Eq V10 V11) (.and (.call 48 (Ar2 V6 V1)) (.call 48 (Ar2 V6 (.neg I1)))))) .nil))))))))
theorem EH(G:Good cks.length wy rs)(hw:∀w∈wy,w.good cks.length)(h1:1<=cks.length)(h6:cks.length<=6)(hl:rs.length<300){M:MH}(hM0:Fm M){cs ns:List Int}(hc:cs.length=rs.length){De:Ends3}{ES:St3->XN}{y2:Option D}(hQ:∀M',De.rt (.bl true) M') :
  aO ⟨(B cls kls fad),aa T (B cls kls fad) 9⟩ zr De ES [some (scr ns),some (.int cks.length),y2,some (.rol (cs.map D.int)),some (rL rs),some (wO kls cks wy),none,none,none,none,none,none,none,none] M:=by
 obtain⟨c1,e1⟩:=oo (cls:=cls) (kls:=kls) (fad:=fad) ns 1;obtain⟨c2,e2⟩:=oo (cls:=cls) (kls:=kls) (fad:=fad) ns 2;have e1':∀{M:MH}{Q:VK3}{E:XN},aa T (B cls kls fad) 9 41 [scr ns,.int 1] M Q E=Q (.int c1) M:=e1;have e2':∀{M:MH}{Q:VK3}{E:XN},aa T (B cls kls fad) 9 41 [scr ns,.int 2] M Q E=Q (.int c2) M:=e2;have hb:(rs.length:Int)<4611686018427387904:=by omega
 have hm:(0:Int)<1+rs.length:=by omega
 have cd:∀i:Int,fQ i (1+(rs.length:Int))=True:=λi=>bh (by omega) (by omega)
 obtain⟨hf,ef,hfl⟩:∃hf:Nat,(rs.length:Int) / 2=hf/\hf<=rs.length:=⟨rs.length / 2,by omega,by omega⟩
 simp[zr,bh,ef,aH,hb,ao];intro p hp;refine uG (n:=8) ?_;intro q hq;refine uG (n:=8) ?_;obtain⟨hqp,hq'⟩:=aG hq;have hM:Fm (put (put M p (mt kls cks wy [])) q (mt kls cks wy [])):=(hM0.put _ _).put _ _;rw[le (λd=>match d with
  |.int i=>.int ((if i=1 then c1 else c2) % (1+rs.length))
  |_=>.non) hM (by simp) (λd hd M' hE Q'=>by
   simp only[Hj,HI,or_false]at hd;rcases hd with rfl|rfl
   ·simp[e1',cd,hm]
   ·simp[e2',cd,hm])]
 simp[dM,ai,cA,aH];intro a ha b hb';obtain⟨haq,ha1⟩:=aG ha;obtain⟨hap,_⟩:=aG ha1;obtain⟨hba,hb1⟩:=aG hb';obtain⟨hbq,hb2⟩:=aG hb1;obtain⟨hbp,_⟩:=aG hb2;have I:LI kls cks wy rs hf p q a b 0 [] (put (put (put (put M p (mt kls cks wy [])) q (mt kls cks wy [])) a (.lst [])) b (.lst [])):=
  ⟨by rw[ah (He hbp),ah (He hap),ah (He hqp),af];rfl,by rw[ah (He hbq),ah (He haq),af,Nat.zero_min];rfl,by rw[ah (He hba),af];rfl,by rw[af];rfl,He hqp,He hap,He hbp,He haq,He hbq,He hba,(hM.put _ _).put _ _⟩
 refine pU (ts:=[0,c1 % (1+rs.length),c2 % (1+rs.length)]) G hw h1 h6 hl hc (λM' hs x12 x13 I'=>?_) rs.length 0 [] _ none none (by omega) (by simp) I
 have ip:=I'.ip;have iq:=I'.iq;rw[List.take_of_length_le (Hh _)]at ip;rw[Nat.min_eq_right hfl]at iq;have tl:(rs.take hf).length<300:=by rw[List.length_take];omega
 have z1:(rs.take hf).length<=PySem.sizeLine:=by rw[PySem.sizeLine_eq];omega
 have sl:∀{M:MH}{Q:VK3},gy true (rL rs) none (some (hf:Int)) M Q=Q (rL (rs.take hf)) M:=λ{M Q}=>by
  rw[mj,oO _ _ (by simpa using hfl),<-List.map_take,Hm,eq_true z1,true_and]
 have eq:∀{Q:VK3},aq .Eq (.ref a) (.ref b) M' Q=Q (.bl true) M':=λ{Q}=>by
  simp only[aq];exact Ch (hs:=hs) (by simp[ai,I'.ia]) (by simp[ai,I'.ib])
 have n1:∀{Q:VK3}{E:XN},aa T (B cls kls fad) 9 48 [.ref p,.int cks.length] M' Q E=Q (.bl true) M':=λ{Q E}=>lf (n:=1) (by simp[okH]) I'.fm ip
 have n2:∀{Q:VK3}{E:XN},aa T (B cls kls fad) 9 48 [.ref p,.int (-1)] M' Q E=Q (.bl true) M':=λ{Q E}=>lf (n:=1) (by simp[okH]) I'.fm ip
 simp[Fr,↓sl];refine sK (n:=0) G h1 h6 hl I'.fm ip ?_;simp;refine sK (n:=0) (G.take hf) h1 h6 tl I'.fm iq ?_;simp[↓eq,↓n1,↓n2];exact hQ _
theorem CY:tR=.cons (.set 1 (.bin .Add I1 (.bin .Mod (.call 41 (Ar2 V0 I0)) I6))) (.cons (.set 2 (.call 42 (Ar2 V1 (.bin .FloorDiv (.call 41 (Ar2 V0 I0)) I6)))) (.cons (.set 3 (.sl true V0 (.yes I3) (.yes (.con (.int 60))))) (.cons (.set 4 (.call 44 (Ar3 V1 V2 V3))) (.cons (.set 5 (.make true 7 (Ar2 (.rep true (.lst true (Ar1 (.tup (Ar2 I1 I2)))) V1) (.comp true ["_law_one","_law_other"] [none,none] (.tup [0,1]) (.seq V2) .no (.tup (Ar4 V0 V1 I0 (.con .non))))))) zr)))):=rfl
theorem main(cls kls fad:Nat->PySem.Addr)(ns:List Int)(hl:ns.length<=63):aa (L.map FL.fb) (B cls kls fad) 10 53 [scr ns] (λ_=>none) (λd _=>d=.bl true) (λ_ _=>False):=by
 rw[Eh];simp only[Dn,CY];obtain⟨c0,h0⟩:=oo (cls:=cls) (kls:=kls) (fad:=fad) ns 0;have h0':∀{M:MH}{Q:VK3}{E:XN},aa T (B cls kls fad) 9 41 [scr ns,.int 0] M Q E=Q (.int c0) M:=h0;obtain⟨H,hH⟩:∃H:Nat,1+c0 % 6=H:=⟨(1+c0 % 6).toNat,by omega⟩
 have H1:1<=H:=by omega
 have H6:H<=6:=by omega
 obtain⟨cs,hcs,hcl⟩:∃cs:List Int,c5 (ns.map D.int) (some 3) (some 60)=cs.map D.int/\cs.length<=63:=by
  refine⟨_,by unfold c5;rw[<-List.map_drop,<-List.map_take],?_⟩
  rw[List.length_take,List.length_drop];omega
 have hzc:cs.length<=PySem.sizeLine:=by rw[PySem.sizeLine_eq];omega
 simp[h0',hH,bh,aH];refine zk (n:=8) H6 λps P=>?_
 simp[hcs,hzc];obtain⟨wy,hwy⟩:∃wy,wy=ps.map wq:=⟨_,rfl⟩;obtain⟨cks,hcks⟩:∃cks,cks=List.replicate H ((1:Int),(2:Int)):=⟨_,rfl⟩;have lk:cks.length=H:=by rw[hcks];exact List.length_replicate
 have l36:ps.length<=36:=by have:=P.len;omega
 have hT:Tx H ps wy:=λp hp=>by rw[hwy,HG];exact Ht.mpr ⟨p,hp,rfl⟩
 refine BX (n:=6) (wy:=wy) (by omega) (by omega) l36 hT cs (by omega) Fm.nil λrs hrl G=>?_
 have hz:H<=PySem.sizeLine:=by rw[PySem.sizeLine_eq];omega
 have er:∀{M:MH}{Q:VK3},gI true (.rol [.tup [.int 1,.int 2]]) (.int H) M Q=Q (.rol (cks.map cD)) M:=λ{M Q}=>by
  have e:(List.replicate H [D.tup [.int 1,.int 2]]).flatten=cks.map cD:=by rw[List.flatten_replicate_singleton,hcks,List.map_replicate];rfl
  have a2:(H:Int)<9223372036854775808:=by omega
  have a3:cks.length<=PySem.sizeLine:=by rw[lk];exact hz
  simp[gI,ai,cA,e,a2,hz,a3]
 simp[↓er,ao,aH];rw[dF (λσ=>∃a b,σ=[a,b]) (λd=>[some (jY d),some (jH d)]) (λ_=>true) cpW ⟨_,_,rfl⟩ Fm.nil (by simp;omega) (λd hd=>by
   obtain⟨x,hp,rfl⟩:=Ht.mp hd;exact⟨⟨_,_,rfl⟩,by rintro σ ⟨a,b,rfl⟩ M k;simp[qD,jY,jH]⟩) (λd hd M' hE Q=>rfl) (λd hd _ M' hE Q=>by
   obtain⟨x,hp,rfl⟩:=Ht.mp hd;simp[cpW,qD,jY,jH,aH])]
 have ef:((ps.map qD).filter λ_=>true).map cpW=wy.map wD:=by
  rw[List.filter_eq_self.mpr (λ_ _=>rfl),hwy,HG,HG]
  rfl
 rw[ef];have hg:∀w∈wy,w.good cks.length:=λw hw=>by
  rw[hwy]at hw;obtain⟨x,hx,rfl⟩:=Ht.mp hw;obtain⟨g1,g2,g3,_⟩:=P.at_ x hx;rw[lk];exact⟨by simp[okH,wq];omega,by simp[okH,wq];omega,λe=>g3 (Int.ofNat_inj.mp e),rfl⟩
 have nd:(wy.map pr).Nodup:=by
  rw[hwy,HG];refine List.Pairwise.map _ (λx y h e=>h ?_) P.nd
  simp[pr,wq]at e;exact Prod.ext (by omega) (by omega)
 have mk:=λ{Q:VK3}{E:XN}=>vn (cls:=cls) (kls:=kls) (fad:=fad) (M:=λ_=>none) (n:=3) (Q:=Q) (E:=E) (cks:=cks) (wy:=wy) Fm.nil (by omega) (by omega) (λc hc=>by rw[hcks]at hc;rw[List.eq_of_mem_replicate hc];rfl) (by rw[hwy,Hm];omega) hg nd
 refine (mk (E:=λ_ _=>False)).mpr ?_
 rw[<-lk]at G ⊢;exact EH G hg (by omega) (by omega) (by omega) Fm.nil (by omega) λ_=>rfl
end
end G
open PySem PySem.W PyProof.Rows
set_option maxRecDepth 100000 in
set_option maxHeartbeats 0 in
theorem PySem.Challenge.cw_driftmeet_k52_what_is_heard_holds : PySem.Challenge.rw_driftmeet_k52_what_is_heard.Holds := by
 w_on
 refine PySem.W.holds_law (by decide +kernel) λsaid=>?_
 refine holds_open (q:=HD.view) (loose:=HD.loose) (Xt:=HD.Xt) (XP:=XL HD.view []) (Yf:=Hook.obs (kHook HD.K HD.as HD.as_eq)) (Ya:=Hook.val (kHook HD.K HD.as HD.as_eq)) (YP:=Hook.says (kHook HD.K HD.as HD.as_eq)) (N:=11338) HD.left (Hook.of (kHook HD.K HD.as HD.as_eq)) (Hook.keeps (kHook HD.K HD.as HD.as_eq)) (λs e=>xl_of s (Bool.and_eq_true_iff.mp e).1) XL.keeps (by rfl) (by rfl) (by rfl) (λs e=>recFacts_of (Bool.and_eq_true_iff.mp e).2) (by kernel_rfl) (by first|assumption|decide +kernel) (by decide +kernel) ⟨rfl,rfl,rfl,rfl,rfl,by decide +kernel⟩ ?hw ?hc
 (case hw=>w_witness2)
 k_fill
 refine L2.walkD (l:=PySem.Challenge.rw_driftmeet_k52_what_is_heard) (k:=10) (f:=53) (fl:=G.l_law) (x:="_law_script") (L:=G.L) (nm:=G.nm) (BB:=G.B) rfl rfl ⟨rfl,by decide,by decide⟩ (λw h Y=>PySem.W.kIn_of Y) rfl rfl rfl rfl ?F (λcls kls fad ns hl=>G.main cls kls fad ns hl)
 case F=>
  intro w mg h KX Gn
  refine' G.top_mk (qt0:=824) (h6:=108) (xod6:=none) (xan6:=none) (xsl6:=#[]) (xoc6:=.type "function") (xkV6:=.none) (xdc6:=.none) (xpm6:=.str "driftmeet.errors" 194) (xcd6:=.ref 107) (xct6:=.none) KX Gn ?gl0 ?x6 ?xi6 ?xl6 ?xw6 ?xz6 ?xd6 ?xk6 ?xt6
  (case gl0=>kernel_rfl)
  (case x6=>kernel_rfl)
  (case xi6=>kernel_rfl)
  (case xl6=>kernel_rfl)
  (case xw6=>rfl)
  (case xz6=>kernel_rfl)
  (case xd6=>kernel_rfl)
  (case xk6=>kernel_rfl)
  (case xt6=>kernel_rfl)
  all_goals exact⟨0,0,0,0⟩
