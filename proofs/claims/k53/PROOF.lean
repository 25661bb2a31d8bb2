import PyProof.Rows.All
import Wide.All
import OpenK.AllK
import Wide.FinOn
import Lean
import PyProof.EqAt
import PyProof.EqKinds
import PyProof.TupleCall
import PySem.Challenge.RW_driftmeet_k53_news
set_option Elab.async false
set_option linter.all false
set_option maxRecDepth 100000
set_option maxHeartbeats 4000000
namespace L2
open PySem PySem.Spec PyProof.Rows
abbrev Kc:=PySem.W.Frag
def IU:=@wpAny_bind
def IV:=@Bool.and_eq_true
def IW:=@Heap.get?_push_of_some
def IX:=@List.mem_cons_of_mem
def IY:=@if_neg
def IZ:=@wpAny_pure
def Ja:=@Ne.symm
def Jb:=@List.mem_cons
def Jc:=@if_pos
def Jd:=@List.mem_cons_self
def Je:=@decide_eq_true_eq
def Jf:=@Heap.lt_size
def Jg:=@Nat.le_refl
def Jh:=@List.length_map
def Ji:=@List.map_cons
def Jj:=@List.size_toArray
def Jk:=@List.getElem?_eq_some_iff
def Jl:=@beq_iff_eq
def Jm:=@Nat.lt_of_lt_of_le
def Jn:=@Option.some.inj
def Jo:=@List.nodup_cons
def Jp:=@Heap.get?_push_size
def Jq:=@Heap.get?_update_other
def Jr:=@List.length_cons
def Js:=@Nat.ne_of_lt
def Jt:=@List.getElem?_eq_getElem
def Ju:=@List.mem_singleton
def Jv:=@List.mem_append
def Jw:=@Nat.le_trans
def Jx:=@Bool.false_ne_true
def Jy:=@List.mem_of_getElem?
def Jz:=@List.mem_append_right
def JA:=@beq_eq_false_iff_ne
def JB:=@List.all_eq_true
def JD:=@Heap.get?_update_self
def JE:=@Bool.false_eq_true
def JF:=@List.not_mem_nil
def JG:=@List.length_append
def JH:=@wpAny_holding
def JI:=@tupleKind_room_in1
def JJ:=@List.getElem?_map
def JK:=@List.lookup_cons
def JL:=@decide_eq_false
def JM:=@List.map_map
def JN:=@Nat.lt_irrefl
def JO:=@List.mem_append_left
def JP:=@List.getElem?_set_ne
def JQ:=@List.mem_map
def JR:=@wpAny_field
def JS:=@wpAny_truthy_bool
def JT:=@wpAny_mono
def JU:=@List.find?_cons
def JV:=@List.append_nil
def JW:=@List.map_append
def JX:=@wpAny_newObj_type
def JY:=@Array.getElem?_eq_some_iff
def JZ:=@Nat.le_succ
def J0:=@Nat.le_add_right
def J1:=@Int.emod_lt_of_pos
def J2:=@of_decide_eq_true
def J3:=@List.getElem_mem
def J4:=@Option.isSome_iff_exists
def J5:=@Int.emod_nonneg
def J6:=@Bool.and_eq_true_iff
def J7:=@wpAny_call_entry
def J8:=@Obj.data_mapFields
def Ka:=@Int.toNat_natCast
def Kb:=@wpAny_setField
end L2
namespace L2
open PySem PySem.Spec PyProof.Rows
noncomputable abbrev Key:=Sum Int Str
noncomputable def lA:Key->Value->Bool
 |.inl k,v=>Value.isInt k v
 |.inr x,v=>Value.isStrOf x v
noncomputable def F8(w:World):Key->Int
 |.inl k=>hashInt k
 |.inr x=>hashStr w x
theorem aH:∀{k:Key}{v:Value},lA k v=true->(∃i t,k=Sum.inl i/\v=Value.int i t)\/(∃x t,k=Sum.inr x/\v=Value.str x t)
 |.inl i,v,h=>by
  obtain⟨t,e⟩:=Value.isInt_shape (k:=i) (v:=v) h;exact .inl ⟨i,t,rfl,e⟩
 |.inr x,v,h=>by
  obtain⟨t,e⟩:=Value.isStrOf_shape (x:=x) (v:=v) h;exact .inr ⟨x,t,rfl,e⟩
theorem sW(i:Int)(t:Tok):lA (.inl i) (.int i t)=true:=by simp[lA,Value.isInt]
theorem sH(x:Str)(t:Tok):lA (.inr x) (.str x t)=true:=by simp[lA,Value.isStrOf]
theorem z7(a b:Int):decide ((Sum.inl a:Key)=Sum.inl b)=(a == b):=by
 by_cases e:a=b
 ·subst e;simp
 ·have h:¬ (Sum.inl a:Key)=Sum.inl b:=λq=>e (Sum.inl.inj q)
  rw[JL h];exact (JA.mpr e).symm
theorem A4(a b:Str):decide ((Sum.inr a:Key)=Sum.inr b)=decide (a=b):=by
 by_cases e:a=b
 ·subst e;simp
 ·have h:¬ (Sum.inr a:Key)=Sum.inr b:=λq=>e (Sum.inr.inj q)
  rw[JL h,JL e]
theorem AR(a:Int)(b:Str):decide ((Sum.inl a:Key)=Sum.inr b)=false:=JL (λq=>nomatch q)
theorem BD(a:Str)(b:Int):decide ((Sum.inr a:Key)=Sum.inl b)=false:=JL (λq=>nomatch q)
noncomputable def aI(prog:Program)(w:World):PySem.KeyKind prog w Key where
 is:=lA
 hash:=F8 w
 inj:=λv a b ha hb=>by
  rcases aH ha with ⟨i,t,rfl,rfl⟩|⟨x,t,rfl,rfl⟩
  ·rcases aH hb with ⟨j,u,rfl,e⟩|⟨y,u,rfl,e⟩
   ·injection e with e1 _;rw[e1]
   ·exact nomatch e
  ·rcases aH hb with ⟨j,u,rfl,e⟩|⟨y,u,rfl,e⟩
   ·exact nomatch e
   ·injection e with e1 _;rw[e1]
 byValue:=λk v h=>by
  rcases aH h with ⟨i,t,rfl,rfl⟩|⟨x,t,rfl,rfl⟩<;>rfl
 pyHash:=λhv h=>by
  rcases aH hv with ⟨i,t,rfl,rfl⟩|⟨x,t,rfl,rfl⟩
  ·exact wpAny_pyHash_int h
  ·exact wpAny_pyHash_str h
 eqBool:=λhu hv h=>by
  rcases aH hu with ⟨i,t,rfl,rfl⟩|⟨x,t,rfl,rfl⟩
  ·rcases aH hv with ⟨j,u,rfl,rfl⟩|⟨y,u,rfl,rfl⟩
   ·rw[z7]at h;exact wpAny_eqBool_int h
   ·rw[AR]at h;exact SeqAt.EqAt.int_str i t y u _ _ _ _ h
  ·rcases aH hv with ⟨j,u,rfl,rfl⟩|⟨y,u,rfl,rfl⟩
   ·rw[BD]at h;exact SeqAt.EqAt.str_int x t j u _ _ _ _ h
   ·rw[A4]at h;exact wpAny_eqBool_str h
 «strs»:=λk x t v h=>by
  rcases aH h with ⟨i,u,rfl,e⟩|⟨y,u,rfl,e⟩
  ·exact nomatch e
  ·injection e with e1 _
   subst e1;cases v<;>rfl
theorem m8(prog:Program)(w:World)(i:Int)(t:Tok):(aI prog w).is (.inl i) (.int i t)=true:=sW i t
theorem oV(prog:Program)(w:World)(x:Str)(t:Tok):(aI prog w).is (.inr x) (.str x t)=true:=sH x t
inductive V where
 |i_|bl (b:Bool)|int (i:Int)|str (x:Str)|OL (b:Array UInt8)|flt (b:UInt64)|ref (a:Addr)|ty (n:String)
 deriving DecidableEq
def RelV:V->Value->Prop
 |.i_,u=>u=Value.none
 |.bl b,u=>u=Value.bool b
 |.int i,u=>∃t,u=Value.int i t
 |.str x,u=>∃t,u=Value.str x t
 |.OL b,u=>∃t,u=Value.bytes b t
 |.flt b,u=>∃t,u=Value.float b t
 |.ref a,u=>u=Value.ref a
 |.ty n,u=>u=Value.type n
abbrev Vals:List V->List Value->Prop:=Paired RelV
theorem Vals.length{xs:List V}{us:List Value}(r:Vals xs us):xs.length=us.length:=Paired.length r
theorem Vals.get:∀{xs:List V}{us:List Value}{i:Nat}{x:V},Vals xs us->xs[i]?=some x->∃u,us[i]?=some u/\RelV x u
 |_,_,_,_,.nil,e=>by simp at e
 |_,_,0,_,.cons r _,e=>by simp at e;subst e;exact⟨_,rfl,r⟩
 |_,_,i+1,x,.cons _ t,e=>by
  obtain⟨u,h1,h2⟩:=Vals.get (i:=i) (x:=x) t (by simpa using e)
  exact⟨u,by simpa using h1,h2⟩
theorem Vals.set(r:RelV x u):∀{xs:List V}{us:List Value} (i:Nat),Vals xs us->Vals (xs.set i x) (us.set i u)
 |_,_,_,.nil=>.nil
 |_,_,0,.cons _ t=>.cons r t
 |_,_,i+1,.cons q t=>.cons q (Vals.set r i t)
theorem Vals.append:∀{xs ys:List V}{us ws:List Value},Vals xs us->Vals ys ws->Vals (xs++ys) (us++ws)
 |_,_,_,_,.nil,s=>s
 |_,_,_,_,.cons r t,s=>.cons r (Vals.append t s)
theorem Vals.take:∀{xs:List V}{us:List Value} (n:Nat),Vals xs us->Vals (xs.take n) (us.take n)
 |_,_,0,_=>.nil
 |_,_,_+1,.nil=>.nil
 |_,_,n+1,.cons r t=>.cons r (Vals.take n t)
theorem Vals.drop:∀{xs:List V}{us:List Value} (n:Nat),Vals xs us->Vals (xs.drop n) (us.drop n)
 |_,_,0,r=>r
 |_,_,_+1,.nil=>.nil
 |_,_,n+1,.cons _ t=>Vals.drop n t
def RelO:Option V->Option Value->Prop
 |some v,some u=>RelV v u
 |none,none=>True
 |_,_=>False
def KV:List (κ×V)->List (κ×Value)->Prop:=Paired λ(p:κ×V) (q:κ×Value)=>p.1=q.1/\RelV p.2 q.2
noncomputable def kV:Key->V
 |.inl i=>.int i
 |.inr x=>.str x
inductive HO where
 |lst (xs:List V)
 |tup (xs:List V)
 |dK (l_:List (Key×V))|dT (l_:List (List Key×V))
 |set (S:Int->Bool) (n:Nat)
 |ins (C dx:Addr) (fs:List (Str×V))
 |own (x:Addr)
 |xd (fs:List (Str×V))
 |met (f x:Addr)
 |rng (lo hi:Int)
 |t_ (o:Obj) (u:HO)
 |L_ (ps:Array Value)
 |ext (φ:Heap->Prop)
noncomputable abbrev Hp:=Addr->Option HO
noncomputable def upd(H:Hp)(a:Addr)(o:HO):Hp:=λb=>if b=a then some o else H b
theorem ag:upd H a o a=some o:=by unfold upd;rw[Jc rfl]
theorem ae(h:b≠a):upd H a o b=H b:=by unfold upd;rw[IY h]
theorem dU{H:Hp}{a b:Addr}{o u:HO}(h:H a=some o)(h':H b=some u)(d:o≠u):a≠b:=by
 intro e;subst e;rw[h]at h';exact d (Jn h')
theorem aA{H:Hp}{a b:Addr}{o:HO}(h:H a=some o)(h':H b=none):a≠b:=by
 intro e;subst e;rw[h]at h';cases h'
section
variable (P:Program) (w:World)
def ObjOk(H:Hp)(h:Heap)(a:Addr):HO->Prop
 |.lst xs=>xs.length<=sizeLine/\∃(its:List Value) (n:Nat),Vals xs its/\h.get? a=some {cls:=.type "list",data:=.seq its.toArray n}
 |.tup xs=>xs.length<=sizeLine/\∃its:List Value,Vals xs its/\IsTup h a its.toArray
 |.dK l_=>l_.length<=sizeLine/\(a == sysModules)=false/\∃vs,KV l_ vs/\h.DictOf (aI P w) a vs
 |.dT l_=>l_.length<=sizeLine/\(a == sysModules)=false/\∃xs:List (List Key×Addr×Value),
   Paired (λ(p:List Key×V) (q:List Key×Addr×Value)=>p.1=q.1/\H q.2.1=some (.tup (p.1.map kV))/\RelV p.2 q.2.2) l_ xs/\
   ∃o es ep,h.get? a=some o/\o.ExactDict/\o.data=.dict es ep/\es.toList=xs.map (entryOfKey (tupleKind (aI P w)))/\(xs.map (·.1)).Nodup
 |.set S n=>h.SetOf (intKind P w) a S n
 |.ins C dx fs=>H dx=some (.own a)/\fs.length<=1000/\dx≠a/\h.get? a=some (PySem.W.instObj C dx)/\
   ∃mA,h.Ns1 dx mA/\(∀f,RelO (fs.lookup f) (mA f))/\PySem.Within mA (fs.map (·.1))
 |.own _=>∃o,h.get? a=some o
 |.xd fs=>∃mA,h.Ns1 a mA/\∀f,RelO (fs.lookup f) (mA f)
 |.rng lo hi=>∃t u v,h.get? a=some {cls:=.type "range",data:=.fields #[.int lo t,.int hi u,.int 1 v]}
 |.t_ o u=>h.get? a=some o/\ObjOk H h a u
 |.L_ ps=>h.get? a=some {cls:=.none,data:=.fields ps}
 |.met f x=>h.get? a=some (PySem.W.methodObj (.ref f) (.ref x))
 |.ext φ=>φ h/\(∃o,h.get? a=some o)/\∀h1 h2:Heap,φ h1->(∀o,h1.get? a=some o->h2.get? a=some o)->φ h2
def HOk(H:Hp)(h:Heap):Prop:=∀a o,H a=some o->ObjOk P w H h a o
end
section
variable {P:Program}{w:World}{H H':Hp}{h h':Heap}{a:Addr}{o:HO}
theorem ObjOk.lt(x:ObjOk P w H h a o):a<h.objs.size:=by
 cases o with
 |lst xs=>obtain⟨_,_,_,_,e⟩:=x;exact Jf e
 |tup xs=>obtain⟨_,_,_,p⟩:=x;exact p.lt
 |dK l_=>obtain⟨_,_,_,_,o,_,_,e,_⟩:=x;exact Jf e
 |dT l_=>obtain⟨_,_,_,_,o,_,_,e,_⟩:=x;exact Jf e
 |set S n=>obtain⟨o,_,_,_,e,_⟩:=x;exact Jf e
 |ins C dx fs=>obtain⟨_,_,_,e,_⟩:=x;exact Jf e
 |own y=>obtain⟨_,e⟩:=x;exact Jf e
 |xd fs=>obtain⟨_,⟨_,_,_,e,_⟩,_⟩:=x;exact Jf e
 |rng lo hi=>obtain⟨_,_,_,e⟩:=x;exact Jf e
 |t_ ob u=>obtain⟨e,_⟩:=x;exact Jf e
 |L_ ps=>exact Jf (show h.get? a=some _ from x)
 |met f y=>exact Jf (show h.get? a=some _ from x)
 |ext φ=>obtain⟨_,⟨_,e⟩,_⟩:=x;exact Jf e
theorem Paired.mapP:∀{NF:List α}{NG:List β},Paired F NF NG->(∀a b,F a b->G a b)->Paired G NF NG
 |_,_,.nil,_=>.nil
 |_,_,.cons r t,f=>.cons (f _ _ r) (Paired.mapP t f)
theorem ObjOk.stay(x:ObjOk P w H h a o)(k:∀b u,(b=a\/H b=some (.own a))->h.get? b=some u->h'.get? b=some u)
  (ho:∀b,H b=some (.own a)->H' b=some (.own a)) (ht:∀b xs,H b=some (.tup xs)->H' b=some (.tup xs)):ObjOk P w H' h' a o:=by
 induction o with
 |lst xs=>obtain⟨z,its,n,r,e⟩:=x;exact⟨z,its,n,r,k _ _ (.inl rfl) e⟩
 |tup xs=>obtain⟨z,its,r,ob,e,c⟩:=x;exact⟨z,its,r,ob,k _ _ (.inl rfl) e,c⟩
 |dK l_=>obtain⟨z,y,vs,r,ob,es,ep,e,c⟩:=x;exact⟨z,y,vs,r,ob,es,ep,k _ _ (.inl rfl) e,c⟩
 |dT l_=>
  obtain⟨z,y,xs,r,ob,es,ep,e,c⟩:=x;exact⟨z,y,xs,Paired.mapP r λp q z=>⟨z.1,ht _ _ z.2.1,z.2.2⟩,ob,es,ep,k _ _ (.inl rfl) e,c⟩
 |set S n=>obtain⟨ob,es,ep,t,e,c⟩:=x;exact⟨ob,es,ep,t,k _ _ (.inl rfl) e,c⟩
 |ins C dx fs=>
  obtain⟨d,z,ne,e,mA,⟨od,es,ep,e2,c⟩,r⟩:=x;exact⟨ho _ d,z,ne,k _ _ (.inl rfl) e,mA,⟨od,es,ep,k _ _ (.inr d) e2,c⟩,r⟩
 |own y=>obtain⟨ob,e⟩:=x;exact⟨ob,k _ _ (.inl rfl) e⟩
 |xd fs=>obtain⟨mA,⟨od,es,ep,e,c⟩,r⟩:=x;exact⟨mA,⟨od,es,ep,k _ _ (.inl rfl) e,c⟩,r⟩
 |rng lo hi=>obtain⟨t,u,v,e⟩:=x;exact⟨t,u,v,k _ _ (.inl rfl) e⟩
 |t_ ob u ih=>obtain⟨e,q⟩:=x;exact⟨k _ _ (.inl rfl) e,ih q⟩
 |L_ ps=>
  have e:h.get? a=some {cls:=.none,data:=.fields ps}:=x;show h'.get? a=some {cls:=.none,data:=.fields ps};exact k a _ (.inl rfl) e
 |met f y=>
  have e:h.get? a=some (PySem.W.methodObj (.ref f) (.ref y)):=x;show h'.get? a=some (PySem.W.methodObj (.ref f) (.ref y));exact k a _ (.inl rfl) e
 |ext φ=>obtain⟨p,⟨o,e⟩,st⟩:=x;exact⟨st _ _ p λo q=>k _ _ (.inl rfl) q,⟨o,k _ _ (.inl rfl) e⟩,st⟩
theorem HOk.lt(x:HOk P w H h)(e:H a=some o):a<h.objs.size:=(x a o e).lt
theorem HOk.fresh(x:HOk P w H h)(e:h.objs.size<=a):H a=none:=by
 cases q:H a with
 |none=>rfl
 |some u=>exact absurd (Jm (x.lt q) e) (JN _)
theorem HOk.kept(x:HOk P w H h)(k:∀b u,h.get? b=some u->h'.get? b=some u):HOk P w H h':=λa o e=>
 (x a o e).stay (λb u _ q=>k b u q) (λ_ q=>q) λ_ _ q=>q
theorem HOk.laid(x:HOk P w H h)(k:∀b u,h.get? b=some u->h'.get? b=some u)(hp:h.objs.size<=a)(new:ObjOk P w (upd H a o) h' a o):HOk P w (upd H a o) h':=λb u e=>by
 have hn:=x.fresh hp;by_cases hb:b=a
 ·subst hb;rw[ag]at e;cases e;exact new
 ·rw[ae hb]at e;exact (x b u e).stay (λc v _ q=>k c v q) (λc q=>by rw[ae (aA q hn)];exact q) λc xs q=>by rw[ae (aA q hn)];exact q
end
def Rd(H:Hp)(a:Addr)(u:HO):Prop:=H a=some u\/∃o,H a=some (.t_ o u)
theorem Rd.ok{P:Program}{w:World}{H:Hp}{h:Heap}{a:Addr}{u:HO}(r:Rd H a u)(x:HOk P w H h):ObjOk P w H h a u:=by
 rcases r with r|⟨o,r⟩
 ·exact x a u r
 ·obtain⟨_,q⟩:=x a _ r;exact q
def Mut:Option HO->Prop
 |some (.lst _)=>True
 |some (.dK _)=>True
 |some (.dT _)=>True
 |some (.set _ _)=>True
 |some (.ins _ _ _)=>True
 |some (.ext _)=>True
 |_=>False
section
variable {P:Program}{w:World}{h h':Heap}{x e:Addr}
theorem HOk.write(ok:HOk P w H h)(mu:Mut (H x))(he:e=x\/H e=some (.own x))(k:∀b u,b≠e->h.get? b=some u->h'.get? b=some u)(Mt:∃u,h'.get? e=some u)
  (new:ObjOk P w (upd H x o') h' x o'):HOk P w (upd H x o') h':=λb u q=>by
 have NH:∀c y,H c=some (.own y)->c≠x:=λc y r z=>by subst z;rw[r]at mu;exact mu
 have Dg:∀c xs,H c=some (.tup xs)->c≠x:=λc xs r z=>by subst z;rw[r]at mu;exact mu
 by_cases hb:b=x
 ·subst hb;rw[ag]at q;cases q;exact new
 ·rw[ae hb]at q;by_cases MK:b=e
  ·have q':H b=some (.own x):=by
    rcases he with z|z
    ·exact absurd (MK.trans z) hb
    ·rw[MK];exact z
   rw[q]at q';cases q';obtain⟨v,hv⟩:=Mt;exact⟨v,by rw[MK];exact hv⟩
  ·refine (ok b u q).stay (λc v hc r=>k c v ?_ r) (λc r=>by rw[ae (NH c b r)];exact r) λc xs r=>by rw[ae (Dg c xs r)];exact r
   rcases hc with rfl|hc
   ·exact MK
   ·rintro rfl;rcases he with z|z
    ·exact NH c b hc z
    ·rw[hc]at z;cases z;exact hb rfl
end
structure Un (fs ex:List Addr)(H H':Hp)(h h':Heap):Prop where
 keep:∀b o,h.get? b=some o->H b=none->b∉fs->b∉ex->h'.get? b=some o
 slot:∀b o,h.get? b=some o->H b=none->b∈fs->b∉ex->∃sl,h'.get? b=some {o with slots:=sl}
 free:∀b o,h.get? b=some o->H b=none->b∉ex->H' b=none
 there:∀b o,h.get? b=some o->b∉ex->∃o',h'.get? b=some o'
 tups:∀b xs,H b=some (.tup xs)->H' b=some (.tup xs)
 D_:∀b o u,H b=some (.t_ o u)->H' b=some (.t_ o u)
 I_:∀b ps,H b=some (.L_ ps)->∃Lc,H' b=some (.L_ (ps++Lc))
section
variable {fs T1 ex T2:List Addr}{H H1 H2:Hp}{h h1 h2 h':Heap}{a x e:Addr}{o:HO}
theorem Un.any(u:Un fs ex H H1 h h1)(q:h.get? b=some ob)(n:H b=none)(hx:b∉ex):∃sl,h1.get? b=some {ob with slots:=sl}:=by
 by_cases hb:b∈fs
 ·exact u.slot b ob q n hb hx
 ·exact⟨ob.slots,u.keep b ob q n hb hx⟩
theorem Un.kept(k:∀b u,h.get? b=some u->h'.get? b=some u):Un fs ex H H h h':=
 ⟨λb ob q _ _ _=>k b ob q,λb ob q _ _ _=>⟨ob.slots,k b ob q⟩,λ_ _ _ n _=>n,λb ob q _=>⟨ob,k b ob q⟩,λ_ _ q=>q,λ_ _ _ q=>q,λ_ ps q=>⟨#[],by rw[q];simp⟩⟩
theorem Un.refl:Un fs ex H H h h:=Un.kept λ_ _ q=>q
theorem Un.laid(k:∀b u,h.get? b=some u->h'.get? b=some u)(hp:h.objs.size<=a)(hn:H a=none):Un fs ex H (upd H a o) h h' where
 keep:=λb u q _ _ _=>k b u q
 slot:=λb u q _ _ _=>⟨u.slots,k b u q⟩
 free:=λb u q n _=>by rw[ae (Js (Jm (Jf q) hp))];exact n
 there:=λb u q _=>⟨u,k b u q⟩
 tups:=λb xs q=>by rw[ae (aA q hn)];exact q
 D_:=λb u xs q=>by rw[ae (aA q hn)];exact q
 I_:=λb ps q=>⟨#[],by rw[ae (aA q hn),q];simp⟩
theorem Un.write(mu:Mut (H x))(he:e=x\/H e=some (.own x))(k:∀b u,b≠e->h.get? b=some u->h'.get? b=some u)(Mt:∃u,h'.get? e=some u):Un fs ex H (upd H x o) h h':=by
 have hx:∀b,H b=none->b≠x:=λb n z=>by subst z;rw[n]at mu;exact mu
 have hb:∀b,H b=none->b≠e:=λb n z=>by
  subst z;rcases he with r|r
  ·exact hx b n r
  ·rw[n]at r;cases r
 have hm:∀b u,H b=some u->¬ Mut (some u)->b≠x:=λb u q nm z=>by subst z;rw[q]at mu;exact nm mu
 refine⟨λb u q n _ _=>k b u (hb b n) q,λb u q n _ _=>⟨u.slots,k b u (hb b n) q⟩,λb u q n _=>by rw[ae (hx b n)];exact n,λb u q _=>?_,
  λb xs q=>by rw[ae (hm b _ q λz=>z)];exact q,λb u xs q=>by rw[ae (hm b _ q λz=>z)];exact q,λb ps q=>⟨#[],by rw[ae (hm b _ q λz=>z),q];simp⟩⟩
 by_cases MK:b=e
 ·subst MK;exact Mt
 ·exact⟨u,k b u MK q⟩
end
noncomputable def trk(h:Heap)(H:Hp):List Addr:=(List.range h.objs.size).filter λa=>(H a).isSome
noncomputable def mY(h:Heap)(H:Hp):Heap:=PySem.W.hideAll h (trk h H)
theorem sm(h:Heap)(H:Hp):(mY h H).objs.size=h.objs.size:=PySem.W.hideAll_size _ _
theorem tU{h:Heap}(e:h.get? b=some o)(n:H b=none):(mY h H).get? b=some o:=
 PySem.W.hideAll_get _ e λhm=>by
  have q:(H b).isSome=true:=(List.mem_filter.mp hm).2;rw[n]at q;simp at q
theorem v8{h:Heap}(e:(mY h H).get? b=some o):h.get? b=some o/\H b=none:=by
 have e':h.get? b=some o:=PySem.W.of_hideAll (trk h H) e;refine⟨e',?_⟩;cases q:H b with
 |none=>rfl
 |some x=>
  have hm:b∈trk h H:=List.mem_filter.mpr ⟨List.mem_range.mpr (Jf e'),by simp[q]⟩
  have z:(mY h H).get? b=none:=PySem.W.hideAll_none (trk h H) hm;rw[z]at e;cases e
noncomputable def xz(g h:Heap)(L:Addr):List (Addr×Obj):=(List.range h.objs.size).filterMap λa=>if a=L\/(g.get? a).isSome=true then none else (h.get? a).map λo=>(a,o)
noncomputable def aC(g h:Heap)(L d:Addr):List (Addr×Obj):=(xz g h L).filter λp=>decide (p.1≠d)
structure Mod (K:Kc)(mg:Str->Option Value)(base:Heap):Prop where
 kin:K.In base
 glob:base.Ns mainGlobals mg
 blt:∃mb,base.Ns builtinsNs mb/\∀x:Str,x≠"__name__"->mb x=bootBuiltins x
 nolimit:base.NoLimit
structure Cx where
 prog:Program
 w:World
 K:Kc
 mg:Str->Option Value
 base:Heap
 A:Around
 N:List Str
 s₀:Shared
 H₀:Hp
 env:Env
 outer:List Env
 stack:List Env
 ex:List Addr
 fn:Str->Bool
 calm:Bool
 pn:List (Addr×Obj)
 xe:Value->Shared->Prop
noncomputable def frs(l:List Env):List Addr:=l.filterMap (·.frame)
noncomputable abbrev Cx.fs(X:Cx):List Addr:=frs X.outer
def Vis(sc:Scope)(x:Str):Prop:=sc.names.lookup x=some .local\/sc.names.lookup x=some .cell\/sc.names.lookup x=some .free
def Loc(sc:Scope)(x:Str):Prop:=sc.names.lookup x=some .local\/sc.names.lookup x=some .cell
def Dj(env:Env)(h:Heap)(m:Str->Option Value)(x:Str)(u:Value):Prop:=
 (env.kindOf x=some .local/\m x=some u)\/((env.kindOf x=some .cell\/env.kindOf x=some .free)/\∃c,env.cells.lookup x=some c/\h.IsCell c (some u))
structure Cx.Ok (X:Cx):Prop where
 mod:Mod X.K X.mg X.base
 kind:X.env.scope.kind=.function
 glob:X.env.globals=mainGlobals
 blt:X.env.builtins=builtinsNs
 above:X.s₀.heap.objs.size<=X.env.locals
 inj:∀x y c,X.env.cells.lookup x=some c->X.env.cells.lookup y=some c->x=y
 has:∀x,(X.env.kindOf x=some .cell\/X.env.kindOf x=some .free)->∃c,X.env.cells.lookup x=some c
 cab:∀x c,X.fn x=true->X.env.cells.lookup x=some c->X.s₀.heap.objs.size<=c
 hd:X.calm=true->X.A.handled=none
 frames:X.A.frames=some X.stack
 stk:X.stack=X.outer\/(X.stack=X.env::X.outer/\X.env.frame=some X.env.locals)
 exf:∀b∈X.ex,b≠X.env.locals/\∀x c,X.env.cells.lookup x=some c->c≠b
 bs:∀b o,X.base.get? b=some o->X.s₀.heap.get? b=some o/\X.H₀ b=none
 bsz:X.base.objs.size<=X.s₀.heap.objs.size
 noex:∀b o,X.base.get? b=some o->b∉X.ex
 exfs:∀b∈X.ex,b∉X.fs
 funs:X.s₀.heap.FunFrames X.base X.outer
 frf:∀b∈X.fs,X.H₀ b=none
structure Inv (X:Cx) (a_:List (Addr×Obj)) (Z:List (Option V)) (H:Hp)(s:Shared):Prop where
 ok:X.Ok
 os:s.os=X.s₀.os
 bare:AllBare s.gens
 base:Un X.fs X.ex X.H₀ H X.s₀.heap s.heap
 loc:∃m,s.heap.Ns X.env.locals m/\∀(i:Nat)(x:Str)(v:V),X.N[i]?=some x->Z[i]?=some (some v)->Vis X.env.scope x->∃u,RelV v u/\Dj X.env s.heap m x u
 cell:∀x c,X.env.cells.lookup x=some c->∃v,s.heap.IsCell c v
 free:H X.env.locals=none
 freeC:∀x c,X.env.cells.lookup x=some c->H c=none
 pin:∀p∈X.pn++a_,s.heap.get? p.1=some p.2/\H p.1=none/\p.1≠X.env.locals/\p.1∉X.fs/\∀v,p.2.data≠.cell v
 h_:HOk X.prog X.w H s.heap
 len:Z.length=X.N.length
section
variable {X:Cx}{Z:List (Option V)}{s:Shared}{h':Heap}
theorem Cx.Ok.nofr(ok:X.Ok)(e:X.base.get? b=some o):b∉X.fs:=λhb=>by
 have:=(ok.funs.mem hb).1;rw[e]at this;cases this
theorem Inv.bs(I:Inv X a_ Z H s):∀b o,X.base.get? b=some o->s.heap.get? b=some o/\H b=none:=λb o e=>
 ⟨I.base.keep b o (I.ok.bs b o e).1 (I.ok.bs b o e).2 (I.ok.nofr e) (I.ok.noex b o e),I.base.free b o (I.ok.bs b o e).1 (I.ok.bs b o e).2 (I.ok.noex b o e)⟩
theorem Inv.bk(I:Inv X a_ Z H s):∀b o,X.base.get? b=some o->s.heap.get? b=some o:=λb o e=>(I.bs b o e).1
theorem Inv.mod(I:Inv X a_ Z H s):Mod X.K X.mg X.base:=I.ok.mod
theorem Inv.kIn(I:Inv X a_ Z H s):X.K.In s.heap:=I.ok.mod.kin.keeps I.bk
theorem Inv.lt(I:Inv X a_ Z H s):X.env.locals<s.heap.objs.size:=let ⟨_,hn,_⟩:=I.loc;hn.lt
theorem Inv.sz(I:Inv X a_ Z H s):X.s₀.heap.objs.size<=s.heap.objs.size:=Jw I.ok.above (Nat.le_of_lt I.lt)
theorem Inv.nofs(I:Inv X a_ Z H s)(h:s.heap.objs.size<=a):a∉X.fs:=λhb=>by
 obtain⟨_,o,ho,_⟩:=I.ok.funs.mem hb;exact absurd (Jm (Jf ho) (Jw I.sz h)) (JN _)
theorem Inv.cne(I:Inv X a_ Z H s):∀x c,X.env.cells.lookup x=some c->c≠X.env.locals:=λx c e z=>by
 obtain⟨v,o,ho,hd⟩:=I.cell x c e;obtain⟨m,⟨o',es,ep,KJ,LA,_⟩,_⟩:=I.loc;rw[z,KJ]at ho;cases ho;rw[LA]at hd;cases hd
theorem Inv.funs(I:Inv X a_ Z H s):s.heap.FunFrames X.base X.outer:=by
 have all:∀(l:List Env),(∀b∈frs l,b∈X.fs)->X.s₀.heap.FunFrames X.base l->s.heap.FunFrames X.base l:=by
  intro l
  induction l with
  |nil=>intro _ _;trivial
  |cons env r ih=>
   intro hs hl;obtain⟨hk,⟨L,o,hf,hn,ho,hd⟩,hr⟩:=hl;have hL:L∈X.fs:=hs L (by unfold frs;rw[List.filterMap_cons,hf];exact Jd)
   obtain⟨sl,e⟩:=I.base.slot L o ho (I.ok.frf L hL) hL λz=>I.ok.exfs L z hL
   exact⟨hk,⟨L,_,hf,hn,e,hd⟩,ih (λb hb=>hs b (by unfold frs;rw[List.filterMap_cons,hf];exact IX _ hb)) hr⟩
 exact all X.outer (λ_ hb=>hb) I.ok.funs
theorem Inv.stack(I:Inv X a_ Z H s):s.heap.FunFrames X.base X.stack:=by
 rcases I.ok.stk with e|⟨e,hf⟩
 ·rw[e];exact I.funs
 ·rw[e];obtain⟨m,hn,_⟩:=I.loc;refine .cons (by rw[I.ok.kind];decide) hf hn ?_ I.funs
  exact Heap.get?_none_of_le (Jw I.ok.bsz I.ok.above)
theorem Inv.stkSub(I:Inv X a_ Z H s):∀b∈frs X.stack,b∈X.env.locals::X.fs:=λb hb=>by
 rcases I.ok.stk with e|⟨e,hf⟩
 ·rw[e]at hb;exact IX _ hb
 ·rw[e]at hb;unfold frs at hb;rw[List.filterMap_cons,hf]at hb;exact hb
theorem Inv.stkFree(I:Inv X a_ Z H s):∀b∈frs X.stack,H b=none:=λb hb=>by
 rcases Jb.mp (I.stkSub b hb) with e|hb
 ·rw[e];exact I.free
 ·obtain⟨_,o,ho,_⟩:=I.ok.funs.mem hb;exact I.base.free b o ho (I.ok.frf b hb) λz=>I.ok.exfs b z hb
theorem Inv.step{g':Array GenState}{t':Nat}{d':Drawn}{ch:List Addr}(I:Inv X a_ Z H s)
  (LZ:∀b∈ch,(b∈X.ex\/X.s₀.heap.objs.size<=b)/\b≠X.env.locals/\(∀x c,X.env.cells.lookup x=some c->c≠b)/\∀p∈X.pn++a_,p.1≠b)
  (keep:∀b o,b≠X.env.locals->b∉X.fs->b∉ch->s.heap.get? b=some o->H b=none->h'.get? b=some o)
  (slot:∀b o,b≠X.env.locals->b∈X.fs->b∉ch->s.heap.get? b=some o->H b=none->∃sl,h'.get? b=some {o with slots:=sl}) (free:∀b o,b∉ch->s.heap.get? b=some o->H b=none->H' b=none)
  (there:∀b o,b∉ch->s.heap.get? b=some o->∃o',h'.get? b=some o')
  (tups:∀b xs,H b=some (.tup xs)->H' b=some (.tup xs)) (D_:∀b o u,H b=some (.t_ o u)->H' b=some (.t_ o u)) (I_:∀b ps,H b=some (.L_ ps)->∃Lc,H' b=some (.L_ (ps++Lc)))
  (ns:∀m,s.heap.Ns X.env.locals m->h'.Ns X.env.locals m)(h_:HOk X.prog X.w H' h')(hg:AllBare g') :
  Inv X a_ Z H' {s with heap:=h',gens:=g',drawn:=d',toks:=t'}:=by
 have QQ:∀b o,X.s₀.heap.get? b=some o->b≠X.env.locals:=λb o e=>Js (Jm (Jf e) I.ok.above)
 have Mu:∀b o,X.s₀.heap.get? b=some o->b∉X.ex->b∉ch:=λb o e hx hb=>by
  rcases (LZ b hb).1 with z|z
  ·exact hx z
  ·exact absurd (Jm (Jf e) z) (JN _)
 have K3:∀x c,X.env.cells.lookup x=some c->∀v,s.heap.IsCell c v->h'.IsCell c v:=λx c e v ⟨o,ho,hd⟩=>by
  have NI:c∉ch:=λz=>(LZ c z).2.2.1 x c e rfl
  by_cases hc:c∈X.fs
  ·obtain⟨sl,q⟩:=slot c o (I.cne x c e) hc NI ho (I.freeC x c e);exact⟨_,q,hd⟩
  ·exact⟨o,keep c o (I.cne x c e) hc NI ho (I.freeC x c e),hd⟩
 refine⟨I.ok,I.os,hg,⟨λb o e n hb hx=>?_,λb o e n hb hx=>?_,λb o e n hx=>?_,λb o e hx=>?_,λb xs e=>tups b xs (I.base.tups b xs e),λb o xs e=>D_ b o xs (I.base.D_ b o xs e),λb ps e=>?_⟩,?_,λx c e=>?_,?_,λx c e=>?_,λp hp=>?_,h_,I.len⟩
 ·exact keep b o (QQ b o e) hb (Mu b o e hx) (I.base.keep b o e n hb hx) (I.base.free b o e n hx)
 ·obtain⟨sl,e1⟩:=I.base.slot b o e n hb hx;obtain⟨OM,e2⟩:=slot b _ (QQ b o e) hb (Mu b o e hx) e1 (I.base.free b o e n hx);exact⟨OM,e2⟩
 ·obtain⟨o',e1⟩:=I.base.there b o e hx;exact free b o' (Mu b o e hx) e1 (I.base.free b o e n hx)
 ·obtain⟨o',e1⟩:=I.base.there b o e hx;exact there b o' (Mu b o e hx) e1
 ·obtain⟨m1,e1⟩:=I.base.I_ b ps e;obtain⟨m2,e2⟩:=I_ b _ e1;exact⟨m1++m2,by rw[e2,Array.append_assoc]⟩
 ·obtain⟨m,hn,hl⟩:=I.loc;refine⟨m,ns m hn,λi x v e1 e2 e3=>?_⟩
  obtain⟨u,r,l⟩:=hl i x v e1 e2 e3;refine⟨u,r,?_⟩;rcases l with l|⟨k,c,e,z⟩
  ·exact .inl l
  ·exact .inr ⟨k,c,e,K3 x c e _ z⟩
 ·obtain⟨v,z⟩:=I.cell x c e;exact⟨v,K3 x c e v z⟩
 ·obtain⟨m,⟨o,_,_,ho,_⟩,_⟩:=I.loc;exact free _ o (λz=>(LZ _ z).2.1 rfl) ho I.free
 ·obtain⟨v,o,ho,hd⟩:=I.cell x c e;exact free c o (λz=>(LZ c z).2.2.1 x c e rfl) ho (I.freeC x c e)
 ·obtain⟨e,n,ne,nf,d⟩:=I.pin p hp;have NI:p.1∉ch:=λz=>(LZ p.1 z).2.2.2 p hp rfl
  exact⟨keep p.1 p.2 ne nf NI e n,free p.1 p.2 NI e n,ne,nf,d⟩
theorem Inv.un{t':Nat}(I:Inv X a_ Z H s)(u:Un X.fs [] H H' s.heap h')(h_:HOk X.prog X.w H' h'):Inv X a_ Z H' {s with heap:=h',toks:=t'}:=by
 obtain⟨m,⟨o,es,ep,ho,r⟩,_⟩:=id I.loc;obtain⟨sl,hL⟩:=u.any ho I.free (by simp)
 exact I.step (g':=s.gens) (d':=s.drawn) (ch:=[]) (λ_ z=>nomatch z) (λb o _ hb _ e n=>u.keep b o e n hb (by simp)) (λb o _ hb _ e n=>u.slot b o e n hb (by simp)) (λb o _ e n=>u.free b o e n (by simp)) (λb o _ e=>u.there b o e (by simp)) u.tups u.D_ u.I_ (λm' hm=>by
  obtain⟨o',ML,Pf,KJ,r'⟩:=hm;rw[ho]at KJ;cases KJ;exact⟨_,ML,Pf,hL,r'⟩) h_ I.bare
theorem Inv.call{g':Array GenState}{t':Nat}{d':Drawn}{ch:List Addr}(I:Inv X a_ Z H s)(u:Un (frs X.stack) ch H H' s.heap h')(h_:HOk X.prog X.w H' h')(hg:AllBare g')
  (LZ:∀b∈ch,(b∈X.ex\/X.s₀.heap.objs.size<=b)/\b≠X.env.locals/\(∀x c,X.env.cells.lookup x=some c->c≠b)/\∀p∈X.pn++a_,p.1≠b) :
  Inv X a_ Z H' {s with heap:=h',gens:=g',drawn:=d',toks:=t'}:=by
 obtain⟨m,⟨o,es,ep,ho,r⟩,_⟩:=id I.loc;obtain⟨sl,hL⟩:=u.any ho I.free λz=>(LZ _ z).2.1 rfl
 exact I.step (ch:=ch) LZ (λb o hL hb hc e n=>u.keep b o e n (λz=>(Jb.mp (I.stkSub b z)).elim hL hb) hc) (λb o _ _ hc e n=>u.any e n hc) (λb o hc e n=>u.free b o e n hc) (λb o hc e=>u.there b o e hc) u.tups u.D_ u.I_ (λm' hm=>by
  obtain⟨o',ML,Pf,KJ,r'⟩:=hm;rw[ho]at KJ;cases KJ;exact⟨_,ML,Pf,hL,r'⟩) h_ hg
theorem Inv.turned{t':Nat}{it:Addr}(I:Inv X a_ Z H s)(k:∀b o,b≠it->s.heap.get? b=some o->h'.get? b=some o)(hn:H it=none)(hL:it≠X.env.locals)
  (h1:it∈X.ex\/X.s₀.heap.objs.size<=it) (h2:∀x c,X.env.cells.lookup x=some c->c≠it) (h3:∀p∈X.pn++a_,p.1≠it):Inv X a_ Z H {s with heap:=h',toks:=t'}:=by
 have Mv:∀b u,H b=some u->b≠it:=λb u e z=>by rw[z,hn]at e;cases e
 refine I.step (g':=s.gens) (d':=s.drawn) (ch:=[it]) (λb hb=>?_) (λb o _ _ hc e _=>k b o (λz=>hc (by simp[z])) e) (λb o _ _ hc e _=>⟨o.slots,k b o (λz=>hc (by simp[z])) e⟩) (λ_ _ _ _ n=>n)
  (λb o hc e=>⟨o,k b o (λz=>hc (by simp[z])) e⟩) (λ_ _ e=>e) (λ_ _ _ e=>e) (λb ps e=>⟨#[],by rw[e];simp⟩) (λm hm=>?_) (λb u e=>?_) I.bare
 ·have e:b=it:=by simpa using hb
  subst e;exact⟨h1,hL,h2,h3⟩
 ·obtain⟨o,es,ep,ho,r⟩:=hm;exact⟨o,es,ep,k _ o (Ja hL) ho,r⟩
 ·refine (I.h_ b u e).stay (λc v hc q=>k c v ?_ q) (λ_ q=>q) λ_ _ q=>q
  rcases hc with z|z
  ·rw[z];exact Mv b u e
  ·exact Mv c _ z
theorem Inv.tok(I:Inv X a_ Z H s)(t:Nat):Inv X a_ Z H {s with toks:=t}:=I.un (h':=s.heap) (t':=t) Un.refl I.h_
theorem Inv.kept(I:Inv X a_ Z H s)(k:∀b u,s.heap.get? b=some u->h'.get? b=some u):Inv X a_ Z H {s with heap:=h',toks:=t'}:=I.un (Un.kept k) (I.h_.kept k)
theorem Inv.laid(I:Inv X a_ Z H s)(k:∀b u,s.heap.get? b=some u->h'.get? b=some u)(hp:s.heap.objs.size<=a)(new:ObjOk X.prog X.w (upd H a o) h' a o) :
  Inv X a_ Z (upd H a o) {s with heap:=h',toks:=t'}:=I.un (Un.laid k hp (I.h_.fresh hp)) (I.h_.laid k hp new)
theorem Inv.write(I:Inv X a_ Z H s)(mu:Mut (H x))(he:e=x\/H e=some (.own x))(k:∀b u,b≠e->s.heap.get? b=some u->h'.get? b=some u)(Mt:∃u,h'.get? e=some u)
  (new:ObjOk X.prog X.w (upd H x o) h' x o):Inv X a_ Z (upd H x o) {s with heap:=h',toks:=t'}:=I.un (Un.write mu he k Mt) (I.h_.write mu he k Mt new)
theorem Inv.pins_of(I:Inv X a_ Z H s)(h:∀p∈Mw,s.heap.get? p.1=some p.2/\H p.1=none/\p.1≠X.env.locals/\p.1∉X.fs/\∀v,p.2.data≠.cell v):Inv X Mw Z H s:=
 ⟨I.ok,I.os,I.bare,I.base,I.loc,I.cell,I.free,I.freeC,λp hp=>(Jv.mp hp).elim (λz=>I.pin p (JO _ z)) (h p),I.h_,I.len⟩
theorem j4{N:List Str}(hN:N.Nodup){i j:Nat}{x:Str}(a:N[i]?=some x)(b:N[j]?=some x):i=j:=by
 obtain⟨h1,e1⟩:=Jk.mp a;obtain⟨h2,e2⟩:=Jk.mp b;exact (List.getElem_inj hN).mp (e1.trans e2.symm)
theorem rW{M:Model}{A:Around}{E:Value->Shared->Prop}{i:Nat}{x:Str}{v:V}{u:Value}{Q:Unit->Shared->Prop}(I:Inv X a_ Z H s)(hN:X.N.Nodup)(hi:X.N[i]?=some x)(hx:Loc X.env.scope x)(r:RelV v u)
  (h:∀s',Inv X a_ (Z.set i (some v)) H s'->(∃a,Heap.SameBut a s.heap s'.heap/\(a=X.env.locals\/X.env.cells.lookup x=some a))->Q () s') (hf:X.fn x=true\/X.env.scope.names.lookup x=some .local:=by first|exact .inl rfl|exact .inr rfl|assumption):wpAny M A (storeName X.env x u) Q E s:=by
 obtain⟨m,hn,hl⟩:=id I.loc;have Pg:(X.env.scope.kind == .class||(X.env.scope.kind == .module&&X.env.locals != X.env.globals))=false:=by rw[I.ok.kind];rfl
 have NJ:i<Z.length:=by rw[I.len];exact (Jk.mp hi).1
 have cne:=I.cne;have tracked:∀{a:Addr}{h':Heap},(∃o,s.heap.get? a=some o/\H a=none)->Heap.SameBut a s.heap h'->HOk X.prog X.w H h':=λ{a h'} ha hs b ob e=>by
  obtain⟨_,_,Mx⟩:=ha;refine (I.h_ b ob e).stay (λc w' hc q=>(hs.2 c ?_).trans q) (λ_ q=>q) λ_ _ q=>q
  rintro rfl;rcases hc with rfl|hc
  ·rw[Mx]at e;cases e
  ·rw[Mx]at hc;cases hc
 rcases hx with hk|hk
 ·refine wpAny_storeName_local hk hn (λh' Ph hs=>?_) Pg
  obtain⟨oL,_,_,QR,_⟩:=id hn;refine h _ ⟨I.ok,I.os,I.bare,⟨λb o e n hb hx=>?_,λb o e n hb hx=>?_,I.base.free,λb o e hx=>?_,I.base.tups,I.base.D_,I.base.I_⟩,⟨_,Ph,λj y v' e1 e2 e3=>?_⟩,λy c e=>?_,I.free,I.freeC,λp hp=>?_,tracked ⟨oL,QR,I.free⟩ hs,by simpa using I.len⟩ ⟨_,hs,.inl rfl⟩
  ·exact (hs.2 b (Js (Jm (Jf e) I.ok.above))).trans (I.base.keep b o e n hb hx)
  ·obtain⟨sl,e1⟩:=I.base.slot b o e n hb hx;exact⟨sl,(hs.2 b (Js (Jm (Jf e) I.ok.above))).trans e1⟩
  ·obtain⟨o',e1⟩:=I.base.there b o e hx;exact⟨o',(hs.2 b (Js (Jm (Jf e) I.ok.above))).trans e1⟩
  ·by_cases hj:j=i
   ·subst hj;rw[hi]at e1;cases e1;rw[List.getElem?_set_self NJ]at e2;cases e2;exact⟨u,r,.inl ⟨hk,by simp⟩⟩
   ·rw[JP (Ja hj)]at e2;obtain⟨u',r',q⟩:=hl j y v' e1 e2 e3;refine⟨u',r',?_⟩;rcases q with ⟨k,e⟩|⟨k,c,e,z⟩
    ·refine .inl ⟨k,?_⟩;have:y≠x:=λe=>hj (j4 hN e1 (e▸hi))
     simp[this,e]
    ·exact .inr ⟨k,c,e,z.sameBut hs (cne y c e)⟩
  ·obtain⟨w',z⟩:=I.cell y c e;exact⟨w',z.sameBut hs (cne y c e)⟩
  ·obtain⟨e,n,ne,nf,d⟩:=I.pin p hp;exact⟨(hs.2 p.1 ne).trans e,n,ne,nf,d⟩
 ·have Ls:X.fn x=true:=by
   rcases hf with z|z
   ·exact z
   ·rw[z]at hk;cases hk
  obtain⟨c,hc⟩:=I.ok.has x (.inl hk);obtain⟨w',z⟩:=I.cell x c hc;refine wpAny_storeName_cell I.ok.kind hk hc z (λh' ON hs=>?_)
  obtain⟨oc,QS,Pj⟩:=id z;refine h {s with heap:=h'} ⟨I.ok,I.os,I.bare,⟨λb o e n hb hx=>?_,λb o e n hb hx=>?_,I.base.free,λb o e hx=>?_,I.base.tups,I.base.D_,I.base.I_⟩,⟨m,hn.sameBut hs (Ja (cne x c hc)),λj y v' e1 e2 e3=>?_⟩,λy c' e=>?_,I.free,I.freeC,λp hp=>?_,tracked ⟨oc,QS,I.freeC x c hc⟩ hs,by simpa using I.len⟩ ⟨c,hs,.inr hc⟩
  ·exact (hs.2 b (Js (Jm (Jf e) (I.ok.cab x c Ls hc)))).trans (I.base.keep b o e n hb hx)
  ·obtain⟨sl,e1⟩:=I.base.slot b o e n hb hx;exact⟨sl,(hs.2 b (Js (Jm (Jf e) (I.ok.cab x c Ls hc)))).trans e1⟩
  ·obtain⟨o',e1⟩:=I.base.there b o e hx;exact⟨o',(hs.2 b (Js (Jm (Jf e) (I.ok.cab x c Ls hc)))).trans e1⟩
  ·by_cases hj:j=i
   ·subst hj;rw[hi]at e1;cases e1;rw[List.getElem?_set_self NJ]at e2;cases e2;exact⟨u,r,.inr ⟨.inl hk,c,hc,ON⟩⟩
   ·rw[JP (Ja hj)]at e2;obtain⟨u',r',q⟩:=hl j y v' e1 e2 e3;refine⟨u',r',?_⟩;rcases q with q|⟨k,c',e,z'⟩
    ·exact .inl q
    ·refine .inr ⟨k,c',e,z'.sameBut hs ?_⟩;rintro rfl;exact hj (j4 hN e1 (I.ok.inj _ _ _ e hc▸hi))
  ·by_cases Pk:c'=c
   ·subst Pk;exact⟨_,ON⟩
   ·obtain⟨w2,z2⟩:=I.cell y c' e;exact⟨w2,z2.sameBut hs Pk⟩
  ·obtain⟨e,n,ne,nf,d⟩:=I.pin p hp;refine⟨(hs.2 p.1 ?_).trans e,n,ne,nf,d⟩;intro q;rw[q,QS]at e;have q':oc=p.2:=Jn e;exact d w' (by rw[<-q'];exact Pj)
theorem jD(I:Inv X a_ Z H s)(hN:X.N.Nodup)(hi:X.N[i]?=some x)(hx:Loc X.env.scope x)(r:RelV v u)
  (h:∀s',Inv X a_ (Z.set i (some v)) H s'->Q () s') (hf:X.fn x=true\/X.env.scope.names.lookup x=some .local:=by first|exact .inl rfl|exact .inr rfl|assumption):wpAny M A (storeName X.env x u) Q E s:=
 rW I hN hi hx r (λs' I' _=>h s' I') hf
theorem Inv.call'{s':Shared}(I:Inv X a_ Z H s)(ho:s'.os=s.os)(u:Un (frs X.stack) ch H H' s.heap s'.heap)(h_:HOk X.prog X.w H' s'.heap)(hg:AllBare s'.gens)
  (LZ:∀b∈ch,(b∈X.ex\/X.s₀.heap.objs.size<=b)/\b≠X.env.locals/\(∀x c,X.env.cells.lookup x=some c->c≠b)/\∀p∈X.pn++a_,p.1≠b):Inv X a_ Z H' s':=by
 obtain⟨h',g',d',t',o'⟩:=s';have e:o'=s.os:=ho;subst e;exact I.call (g':=g') (t':=t') (d':=d') u h_ hg LZ
end
noncomputable abbrev XK:=Value->Option Addr->Hp->Prop
noncomputable abbrev St:=List (Option V)
noncomputable abbrev VK:=V->Hp->Prop
noncomputable abbrev TE:=St->Hp->VK->Prop
noncomputable abbrev TT:=St->Hp->(Bool->Hp->Prop)->Prop
noncomputable abbrev TA:=St->Hp->(List V->Hp->Prop)->Prop
structure Ends where
 nx:St->Hp->Prop
 rt:VK
 bk:St->Hp->Prop:=λ_ _=>False
 ct:St->Hp->Prop:=λ_ _=>False
noncomputable abbrev TS:=Ends->St->Hp->Prop
def EP(X:Cx)(a_:List (Addr×Obj))(Z:St)(Q:VK)(u:Value)(s':Shared):Prop:=∃v H',Inv X a_ Z H' s'/\RelV v u/\Q v H'
def TP(X:Cx)(a_:List (Addr×Obj))(Z:St)(Q:Bool->Hp->Prop)(b:Bool)(s':Shared):Prop:=∃H',Inv X a_ Z H' s'/\Q b H'
def AP(X:Cx)(a_:List (Addr×Obj))(Z:St)(Q:List V->Hp->Prop)(us:List Value)(s':Shared):Prop:=∃vs H',Inv X a_ Z H' s'/\Vals vs us/\Q vs H'
def SP(X:Cx)(a_:List (Addr×Obj))(D:Ends)(f:Flow)(s':Shared):Prop:=
 match f with
 |.next=>∃n_ H',Inv X a_ n_ H' s'/\D.nx n_ H'
 |.brk=>∃n_ H',Inv X a_ n_ H' s'/\D.bk n_ H'
 |.cont=>∃n_ H',Inv X a_ n_ H' s'/\D.ct n_ H'
 |.ret u=>∃v n_ H',Inv X a_ n_ H' s'/\RelV v u/\D.rt v H'
def PE(X:Cx)(e:Expr)(t:TE):Prop:=
 ∀(a_:List (Addr×Obj)) (s:Shared)(Z:St)(H:Hp)(Q:VK),Inv X a_ Z H s->t Z H Q->wpAny (model X.prog X.w) X.A (eval e X.env) (EP X a_ Z Q) X.xe s
def PT(X:Cx)(e:Expr)(t:TT):Prop:=
 ∀(a_:List (Addr×Obj)) (s:Shared)(Z:St)(H:Hp)(Q:Bool->Hp->Prop),Inv X a_ Z H s->t Z H Q->wpAny (model X.prog X.w) X.A (isTrue e X.env (eval e X.env)) (TP X a_ Z Q) X.xe s
def PW(X:Cx)(e:Expr)(t:TT):Prop:=
 ∀(whole:Sem Value) (a_:List (Addr×Obj)) (s:Shared)(Z:St)(H:Hp)(Q:Bool->Hp->Prop),Inv X a_ Z H s->t Z H Q->wpAny (model X.prog X.w) X.A (isTrue e X.env whole) (TP X a_ Z Q) X.xe s
theorem PW.pt(h:PW X e t):PT X e t:=h _
def PA(X:Cx)(es:List Expr)(t:TA):Prop:=
 ∀(pos:Pos) (a_:List (Addr×Obj)) (s:Shared)(Z:St)(H:Hp)(Q:List V->Hp->Prop),Inv X a_ Z H s->t Z H Q->wpAny (model X.prog X.w) X.A (spliced (backTo pos (starEach es X.env))) (AP X a_ Z Q) X.xe s
def PS(X:Cx)(st:Stmt)(t:TS):Prop:=
 ∀(a_:List (Addr×Obj)) (s:Shared)(Z:St)(H:Hp)(D:Ends),Inv X a_ Z H s->t D Z H->wpAny (model X.prog X.w) X.A (exec st X.env) (SP X a_ D) X.xe s
def PSs(X:Cx)(st:List Stmt)(t:TS):Prop:=
 ∀(a_:List (Addr×Obj)) (s:Shared)(Z:St)(H:Hp)(D:Ends),Inv X a_ Z H s->t D Z H->wpAny (model X.prog X.w) X.A (execs st X.env) (SP X a_ D) X.xe s
theorem thn{α:Type}{t:Sem α}{Q Q':α->Shared->Prop}{M:Model}{A:Around}{E:Value->Shared->Prop}{s:Shared}(h:wpAny M A t Q E s)(hQ:∀a s,Q a s->Q' a s):wpAny M A t Q' E s:=JT h hQ λ_ _ x=>x
section
variable {X:Cx}
theorem bin{a b:Expr}{ta tb:TE}(ha:PE X a ta)(hb:PE X b tb){a_:List (Addr×Obj)}{s:Shared}{Z:St}{H:Hp}{R:V->V->Hp->Prop}(I:Inv X a_ Z H s)(h:ta Z H λx H1=>tb Z H1 λy H2=>R x y H2)
  {α:Type}{Q:α->Shared->Prop}{f:Value->Value->Sem α}
  (hf:∀v u s2 x y H2,Inv X a_ Z H2 s2->RelV x v->RelV y u->R x y H2->wpAny (model X.prog X.w) X.A (f v u) Q X.xe s2) :
  wpAny (model X.prog X.w) X.A (eval a X.env) (λv p_=>wpAny (model X.prog X.w) X.A (eval b X.env) (λu Kw=>wpAny (model X.prog X.w) X.A (f v u) Q X.xe Kw) X.xe p_) X.xe s:=by
 refine thn (ha a_ s Z H _ I h) λv s1 ⟨x,H1,I1,r1,q1⟩=>?_
 refine thn (hb a_ s1 Z H1 _ I1 q1) λu s2 ⟨y,H2,I2,r2,q2⟩=>?_
 exact hf v u s2 x y H2 I2 r1 r2 q2
noncomputable def tL(i:Nat):TE:=λZ H Q=>∃v,Z[i]?=some (some v)/\Q v H
noncomputable def tC(v:V):TE:=λ_ H Q=>Q v H
theorem jV(hN:X.N[i]?=some x)(hv:Vis X.env.scope x)(hd:(x == ("__debug__" : Str))=false:=by decide)(Kx:(x == ("__classdict__" : Str))=false:=by decide):PE X (.Name x pos) (tL i):=by
 intro a_ s Z H Q I h;obtain⟨v,e,h⟩:=h;obtain⟨m,hn,hl⟩:=I.loc;obtain⟨u,r,l⟩:=hl i x v hN e hv;have fin:EP X a_ Z Q u s:=⟨v,H,I,r,h⟩;rcases l with ⟨hk,hm⟩|⟨hk,c,hc,My⟩
 ·exact wpAny_Name (wpAny_loadName_local I.ok.kind hk hn hm fin) hd
 ·rcases hk with hk|hk
  ·exact wpAny_Name (wpAny_loadName_cell I.ok.kind hk hc My fin) hd
  ·exact wpAny_Name (wpAny_loadName_free I.ok.kind hk hc My fin Kx) hd
theorem Bn{i j pos}:PE X (.Constant (.int i) j pos) (tC (.int i)):=λ_ _ _ H _ I h=>wpAny_Constant_int ⟨.int i,H,I.tok _,⟨_,rfl⟩,h⟩
theorem DZ{b j pos}:PE X (.Constant (.bool b) j pos) (tC (.bl b)):=λ_ _ _ H _ I h=>Constant_bool ⟨.bl b,H,I,rfl,h⟩
theorem vi{j pos}:PE X (.Constant .none j pos) (tC .i_):=λ_ _ _ H _ I h=>Constant_none ⟨.i_,H,I,rfl,h⟩
theorem uM{x j pos}:PE X (.Constant (.str x) j pos) (tC (.str x)):=λ_ _ _ H _ I h=>Calls.Constant_str ⟨.str x,H,I.tok _,⟨_,rfl⟩,h⟩
def Gl(X:Cx)(x:Str):Prop:=X.env.kindOf x=some .globalImplicit
theorem bF(I:Inv X a_ Z H s)(hg:Gl X x)(hm:X.mg x=some u)(h:Q u s)
  (hd:(x == ("__debug__" : Str))=false:=by decide):wpAny (model X.prog X.w) X.A (eval (.Name x pos) X.env) Q E s:=
 Calls.Name_function_global I.ok.kind hg (Calls.loadGlobal_global (by rw[I.ok.glob];exact I.mod.glob.keeps I.bk) hm h) hd
theorem dF(I:Inv X a_ Z H s)(hg:Gl X x)(hm:X.mg x=none)(hv:bootBuiltins x=some u)(h:Q u s)
  (hn:x≠"__name__":=by decide) (hd:(x == ("__debug__" : Str))=false:=by decide):wpAny (model X.prog X.w) X.A (eval (.Name x pos) X.env) Q E s:=by
 obtain⟨mb,h1,h2⟩:=I.mod.blt;exact Calls.Name_function_global I.ok.kind hg (Calls.loadGlobal_builtin (by rw[I.ok.glob];exact I.mod.glob.keeps I.bk) hm (by rw[I.ok.blt];exact h1.keeps I.bk) ((h2 x hn).trans hv) h) hd
theorem g7(hg:Gl X x)(hm:X.mg x=some u)(r:RelV v u)(hd:(x == ("__debug__" : Str))=false:=by decide):PE X (.Name x pos) (tC v):=
 λ_ _ _ H _ I h=>bF I hg hm ⟨v,H,I,r,h⟩ hd
theorem wa(hg:Gl X x)(hm:X.mg x=none)(hv:bootBuiltins x=some u)(r:RelV v u)(hn:x≠"__name__":=by decide)(hd:(x == ("__debug__" : Str))=false:=by decide):PE X (.Name x pos) (tC v):=
 λ_ _ _ H _ I h=>dF I hg hm hv ⟨v,H,I,r,h⟩ hn hd
variable {a b:Expr}{ta tb:TE}{pos:Pos}
noncomputable def tB(t:TE):TT:=λZ H Q=>t Z H λx H1=>∃c,x=.bl c/\Q c H1
theorem yY{e:Expr}(h:PE X e t)(he:∀whole,isTrue e X.env whole=(do let v<-whole;standAt e.pos;holding [v] (truthy v)):=by intro _;rfl):PT X e (tB t):=by
 intro a_ s Z H Q I hw;refine isTrue_plain (thn (h a_ s Z H _ I hw) λv s1 ⟨x,H1,I1,r1,q1⟩=>?_) (he _)
 obtain⟨d,rfl,q⟩:=q1;cases r1;exact JS ⟨H1,I1,q⟩
variable {tA NK:TT}{aC:List Expr}
noncomputable def GH(t u:TT):TT:=λZ H Q=>t Z H λc H1=>if c=true then u Z H1 Q else Q false H1
noncomputable def tOr(t u:TT):TT:=λZ H Q=>t Z H λc H1=>if c=true then Q true H1 else u Z H1 Q
noncomputable def GJ(t:TT):TT:=λZ H Q=>t Z H λc H1=>Q (!c) H1
theorem wM(ha:PT X a tA):PW X (.BoolOp .And [a] pos) tA:=by
 intro wh a_ s Z H Q I h;refine isTrue_and (thn (ha a_ s Z H Q I h) λc s1 e=>?_)
 cases c with
 |true=>exact isTrue_and_nil e
 |false=>exact e
theorem zQ(ha:PT X a tA):PW X (.BoolOp .Or [a] pos) tA:=by
 intro wh a_ s Z H Q I h;refine isTrue_or (thn (ha a_ s Z H Q I h) λc s1 e=>?_)
 cases c with
 |false=>exact isTrue_or_nil e
 |true=>exact e
theorem Ab(ha:PT X a tA)(hb:PW X (.BoolOp .And (b::aC) pos) NK):PW X (.BoolOp .And (a::b::aC) pos) (GH tA NK):=by
 intro wh a_ s Z H Q I h;refine isTrue_and (thn (ha a_ s Z H _ I h) λc s1 ⟨H1,I1,q1⟩=>?_)
 cases c with
 |true=>exact hb wh a_ s1 Z H1 Q I1 q1
 |false=>exact⟨H1,I1,q1⟩
theorem CU(ha:PT X a tA)(hb:PW X (.BoolOp .Or (b::aC) pos) NK):PW X (.BoolOp .Or (a::b::aC) pos) (tOr tA NK):=by
 intro wh a_ s Z H Q I h;refine isTrue_or (thn (ha a_ s Z H _ I h) λc s1 ⟨H1,I1,q1⟩=>?_)
 cases c with
 |true=>exact⟨H1,I1,q1⟩
 |false=>exact hb wh a_ s1 Z H1 Q I1 q1
theorem AH(ha:PT X a tA):PT X (.UnaryOp .Not a pos) (GJ tA):=by
 intro a_ s Z H Q I h;exact isTrue_not (ha a_ s Z H (λc H1=>Q (!c) H1) I h)
noncomputable def Ds(ta tb:TE):TE:=λZ H Q=>ta Z H λx H1=>∃c,x=.bl c/\if c=true then tb Z H1 Q else Q (.bl false) H1
noncomputable def FC(ta tb:TE):TE:=λZ H Q=>ta Z H λx H1=>∃c,x=.bl c/\if c=true then Q (.bl true) H1 else tb Z H1 Q
noncomputable def Em(ta:TE):TE:=λZ H Q=>ta Z H λx H1=>∃c,x=.bl c/\Q (.bl (!c)) H1
theorem Bl{op}(h:PE X a t):PE X (.BoolOp op [a] pos) t:=λa_ s Z H Q I hw=>BoolOp_one (h a_ s Z H Q I hw)
theorem AB(ha:PE X a ta)(hb:PE X (.BoolOp .And (b::aC) pos) tb):PE X (.BoolOp .And (a::b::aC) pos) (Ds ta tb):=by
 intro a_ s Z H Q I h;refine BoolOp_and (thn (ha a_ s Z H _ I h) λv s1 ⟨x,H1,I1,r1,q1⟩=>?_)
 obtain⟨c,rfl,q1⟩:=q1;cases r1;refine JS ?_;cases c with
 |true=>exact hb a_ s1 Z H1 Q I1 q1
 |false=>exact⟨.bl false,H1,I1,rfl,q1⟩
theorem Dm(ha:PE X a ta)(hb:PE X (.BoolOp .Or (b::aC) pos) tb):PE X (.BoolOp .Or (a::b::aC) pos) (FC ta tb):=by
 intro a_ s Z H Q I h;refine BoolOp_or (thn (ha a_ s Z H _ I h) λv s1 ⟨x,H1,I1,r1,q1⟩=>?_)
 obtain⟨c,rfl,q1⟩:=q1;cases r1;refine JS ?_;cases c with
 |false=>exact hb a_ s1 Z H1 Q I1 q1
 |true=>exact⟨.bl true,H1,I1,rfl,q1⟩
theorem zw(ha:PE X a ta):PE X (.UnaryOp .Not a pos) (Em ta):=by
 intro a_ s Z H Q I h;refine UnaryOp_ (thn (ha a_ s Z H _ I h) λv s1 ⟨x,H1,I1,r1,q1⟩=>?_)
 obtain⟨c,rfl,q1⟩:=q1;cases r1;exact not_of (JS ⟨.bl (!c),H1,I1,rfl,q1⟩)
noncomputable def tIf(t:TT)(ta tb:TE):TE:=λZ H Q=>t Z H λc H1=>if c=true then ta Z H1 Q else tb Z H1 Q
theorem vD(hc:PT X c tA)(ha:PE X a ta)(hb:PE X b tb):PE X (.IfExp c a b pos) (tIf tA ta tb):=by
 intro a_ s Z H Q I h;refine wpAny_IfExp (thn (hc a_ s Z H _ I h) λd s1 ⟨H1,I1,q1⟩=>?_)
 cases d with
 |true=>exact ha a_ s1 Z H1 Q I1 q1
 |false=>exact hb a_ s1 Z H1 Q I1 q1
end
def SqL(K:Kc)(H:Hp)(a:Addr)(xs:List V):Prop:=
 Rd H a (.lst xs)\/
  ∃(o:Obj) (its:Array Value) (n:Nat),K.lookup a=some o/\o.cls=.type "list"/\o.dict=none/\o.data=.seq its n/\its.size<=sizeLine/\Vals xs its.toList
def SqT(K:Kc)(H:Hp)(a:Addr)(xs:List V):Prop:=
 Rd H a (.tup xs)\/
  ∃(o:Obj) (its:Array Value) (n:Nat),K.lookup a=some o/\o.cls=.type "tuple"/\o.data=.seq its n/\its.size<=sizeLine/\Vals xs its.toList
noncomputable def FE:Value->Option V
 |.none=>some .i_
 |.bool b=>some (.bl b)
 |.int i _=>some (.int i)
 |.str x _=>some (.str x)
 |.bytes b _=>some (.OL b)
 |.float b _=>some (.flt b)
 |.ref a=>some (.ref a)
 |.type n=>some (.ty n)
 |_=>none
theorem RelV.abs(r:RelV x u):FE u=some x:=by
 cases x with
 |i_=>cases r;rfl
 |bl _=>cases r;rfl
 |int _=>obtain⟨t,rfl⟩:=r;rfl
 |str _=>obtain⟨t,rfl⟩:=r;rfl
 |OL _=>obtain⟨t,rfl⟩:=r;rfl
 |flt _=>obtain⟨t,rfl⟩:=r;rfl
 |ref _=>cases r;rfl
 |ty _=>cases r;rfl
theorem RelV.inj(r:RelV x u)(q:RelV y u):x=y:=Jn (r.abs.symm.trans q.abs)
theorem Vals.inj:∀{xs ys:List V}{us:List Value},Vals xs us->Vals ys us->xs=ys
 |_,_,_,.nil,.nil=>rfl
 |_,_,_,.cons r t,.cons r' t'=>by rw[r.inj r',Vals.inj t t']
section
variable {X:Cx}{s:Shared}{a:Addr}{xs ys:List V}
theorem SqL.of{K:Kc}(h:H a=some (.lst xs)):SqL K H a xs:=.inl (.inl h)
theorem SqT.of{K:Kc}(h:H a=some (.tup xs)):SqT K H a xs:=.inl (.inl h)
theorem Inv.list(I:Inv X a_ Z H s)(h:SqL X.K H a xs):∃its:List Value,Vals xs its/\PlainL s.heap a its.toArray/\xs.length<=sizeLine:=by
 rcases h with h|⟨o,its,n,hk,hc,hd,hs,hz,r⟩
 ·obtain⟨z,its,n,r,e⟩:=h.ok I.h_;exact⟨its,r,⟨_,n,e,rfl,rfl,rfl⟩,z⟩
 ·refine⟨its.toList,r,⟨o,n,I.kIn a o hk,hc,hd,by simpa using hs⟩,?_⟩
  have e:=r.length;simp only[Array.length_toList]at e;omega
theorem Inv.tuple(I:Inv X a_ Z H s)(h:SqT X.K H a xs):∃its:List Value,Vals xs its/\IsTup s.heap a its.toArray/\xs.length<=sizeLine:=by
 rcases h with h|⟨o,its,n,hk,hc,hs,hz,r⟩
 ·obtain⟨z,its,r,p⟩:=h.ok I.h_;exact⟨its,r,p,z⟩
 ·refine⟨its.toList,r,⟨o,I.kIn a o hk,hc,n,by simpa using hs⟩,?_⟩
  have e:=r.length;simp only[Array.length_toList]at e;omega
theorem Inv.list_inj(I:Inv X a_ Z H s)(h:SqL X.K H a xs)(h':SqL X.K H a ys):xs=ys:=by
 obtain⟨its,r,⟨o,n,e,_,_,d⟩,_⟩:=I.list h;obtain⟨its',r',⟨o',n',e',_,_,d'⟩,_⟩:=I.list h';rw[e]at e';cases e';rw[d]at d';injection d' with d1 _
 have:its=its':=by simpa using congrArg Array.toList d1
 subst this;exact r.inj r'
theorem Inv.tuple_inj(I:Inv X a_ Z H s)(h:SqT X.K H a xs)(h':SqT X.K H a ys):xs=ys:=by
 obtain⟨its,r,⟨o,e,_,n,d⟩,_⟩:=I.tuple h;obtain⟨its',r',⟨o',e',_,n',d'⟩,_⟩:=I.tuple h';rw[e]at e';cases e';rw[d]at d';injection d' with d1 _
 have:its=its':=by simpa using congrArg Array.toList d1
 subst this;exact r.inj r'
end
section
variable {X:Cx}{s:Shared}
end
section
variable {X:Cx}{st:Stmt}{aC:List Stmt}{t u:TS}{e:Expr}{te:TE}{pos:Pos}
noncomputable def tNext:TS:=λD Z H=>D.nx Z H
noncomputable def GB(t u:TS):TS:=λD Z H=>t {D with nx:=u D} Z H
theorem pss_nil:PSs X [] tNext:=λ_ _ Z H _ I h=>wpAny_execs_nil ⟨Z,H,I,h⟩
theorem nH(h1:PS X st t)(h2:PSs X aC u):PSs X (st::aC) (GB t u):=by
 intro a_ s Z H D I h;refine wpAny_execs_cons (thn (h1 a_ s Z H {D with nx:=u D} I h) λf s1 q=>?_)
 cases f with
 |next=>
  obtain⟨n_,H',I',q⟩:=q;exact h2 a_ s1 n_ H' D I' q
 |ret v=>exact q
 |brk=>exact q
 |cont=>exact q
theorem xR(h1:PS X st t):PSs X [st] t:=by
 intro a_ s Z H D I h;refine wpAny_execs_cons (thn (h1 a_ s Z H D I h) λf s1 q=>?_)
 cases f with
 |next=>exact wpAny_execs_nil q
 |ret v=>exact q
 |brk=>exact q
 |cont=>exact q
theorem Inv.quiet(I:Inv X a_ Z H s):interactive X.env=false:=by simp[interactive,I.ok.kind]
noncomputable def D4(te:TE):TS:=λD Z H=>te Z H λ_ H1=>D.nx Z H1
theorem mf(he:PE X e te)(hs:swapsWith e none pos.line X.env=pure false:=by rfl):PS X (.Expr e pos) (D4 te):=by
 intro a_ s Z H D I h;exact wpAny_Expr_any (thn (he a_ s Z H _ I h) λv s1 ⟨x,H1,I1,r1,q1⟩=>⟨Z,H1,I1,q1⟩) I.quiet hs
noncomputable def GQ(te:TE):TS:=λD Z H=>te Z H D.rt
theorem zg(he:PE X e te):PS X (.Return (some e) pos) (GQ te):=by
 intro a_ s Z H D I h;exact wpAny_Return_some (thn (he a_ s Z H _ I h) λv s1 ⟨x,H1,I1,r1,q1⟩=>⟨x,Z,H1,I1,r1,q1⟩)
noncomputable def FR(c:TT)(t u:TS):TS:=λD Z H=>c Z H λb H1=>if b=true then t D Z H1 else u D Z H1
theorem EB(hc:PT X c tc)(ha:PSs X a t)(hb:PSs X b u):PS X (.If c a b pos) (FR tc t u):=by
 intro a_ s Z H D I h;refine wpAny_If (thn (hc a_ s Z H _ I h) λd s1 ⟨H1,I1,q1⟩=>?_)
 cases d with
 |true=>exact ha a_ s1 Z H1 D I1 q1
 |false=>exact hb a_ s1 Z H1 D I1 q1
end
noncomputable abbrev TG:=V->St->Hp->(St->Hp->Prop)->Prop
noncomputable abbrev TGs:=List V->St->Hp->(St->Hp->Prop)->Prop
def PG(X:Cx)(KI:Expr)(t:TG):Prop:=
 ∀(a_:List (Addr×Obj)) (s:Shared)(Z:St)(H:Hp)(v:V)(u:Value)(Q:St->Hp->Prop),Inv X a_ Z H s->RelV v u->t v Z H Q->
  wpAny (model X.prog X.w) X.A (assign KI X.env u) (λ_ s'=>∃n_ H',Inv X a_ n_ H' s'/\Q n_ H') X.xe s
def PGs(X:Cx)(ts:List Expr)(t:TGs):Prop:=
 ∀(a_:List (Addr×Obj)) (s:Shared)(Z:St)(H:Hp)(vs:List V)(us:List Value)(Q:St->Hp->Prop),Inv X a_ Z H s->Vals vs us->t vs Z H Q->
  wpAny (model X.prog X.w) X.A (assignInOrder ((assignEach ts X.env).map (·.2)) us) (λ_ s'=>∃n_ H',Inv X a_ n_ H' s'/\Q n_ H') X.xe s
noncomputable abbrev TSet:=V->V->V->Hp->(Hp->Prop)->Prop
def AF(X:Cx)(t:TSet):Prop:=
 ∀(a_:List (Addr×Obj)) (s:Shared)(Z:St)(H:Hp)(o i v:V)(ov iv u:Value)(Q:Hp->Prop),Inv X a_ Z H s->RelV o ov->RelV i iv->RelV v u->t o i v H Q->
  wpAny (model X.prog X.w) X.A (setItem ov iv u) (λ_ s'=>∃H',Inv X a_ Z H' s'/\Q H') X.xe s
section
variable {X:Cx}{pos:Pos}
noncomputable def qz(i:Nat):TG:=λv Z H Q=>Q (Z.set i (some v)) H
theorem jt(hN:X.N.Nodup)(hi:X.N[i]?=some x)(hx:Loc X.env.scope x)(hf:X.fn x=true\/X.env.scope.names.lookup x=some .local:=by first|exact .inl rfl|exact .inr rfl|assumption):PG X (.Name x pos) (qz i):=by
 intro a_ s Z H v u Q I r h;exact wpAny_assign_Name (jD I hN hi hx r (λs' I'=>⟨_,H,I',h⟩) hf)
noncomputable def gNil:TGs:=λvs Z H Q=>vs=[]/\Q Z H
noncomputable def D6(t:TG)(u:TGs):TGs:=λvs Z H Q=>∃v r,vs=v::r/\t v Z H λn_ H'=>u r n_ H' Q
theorem xw:PGs X [] gNil:=by
 intro a_ s Z H vs us Q I r h;obtain⟨e,h⟩:=h;subst e;cases r;exact assignInOrder_nil ⟨Z,H,I,h⟩
theorem ve(h1:PG X e t)(h2:PGs X es u)
  (hs:(assignEach (e::es) X.env).map (·.2)=assign e X.env::(assignEach es X.env).map (·.2):=by rfl):PGs X (e::es) (D6 t u):=by
 intro a_ s Z H vs us Q I r h;obtain⟨v,vr,e1,h⟩:=h;subst e1;cases r with
 |cons r rr=>
  rw[hs];refine assignInOrder_cons (thn (h1 a_ s Z H _ _ _ I r h) λ_ s1 ⟨Pl,H1,I1,q1⟩=>?_)
  exact h2 a_ s1 Pl H1 _ _ Q I1 rr q1
noncomputable def FM(K:Kc)(n:Nat)(t:TGs):TG:=λv Z H Q=>∃a xs,v=.ref a/\SqT K H a xs/\xs.length=n/\t xs Z H Q
theorem z9(hc:X.calm=true)(h:PGs X es t)
  (hn:(assignEach es X.env).length=n:=by rfl) (Ks:(assignEach es X.env).findIdx? (·.1)=none:=by rfl):PG X (.Tuple es k pos) (FM X.K n t):=by
 intro a_ s Z H v u Q I r hw;obtain⟨a,xs,e1,hq,hl,hw⟩:=hw;subst e1;cases r;obtain⟨its,rv,ht,hz⟩:=I.tuple hq;refine assign_Tuple_tuple (I.ok.hd hc) ht (by simp[hn,<-hl,rv.length]) Ks λh' hx=>?_
 have I1:Inv X a_ Z H {s with heap:=h'}:=I.kept (t':=s.toks) λb o e=>hx b o (Js (Jf e)) e
 exact h a_ _ Z H xs _ Q I1 (by simpa using rv) hw
noncomputable def Gi(to ti:TE)(t:TSet):TG:=λv Z H Q=>to Z H λo H1=>ti Z H1 λi H2=>t o i v H2 λH3=>Q Z H3
theorem BK(ho:PE X o to)(hi:PE X i ti)(hs:AF X t)
  (ha:∀v,assign (.Subscript o i pos) X.env v=(do
   let ov<-holding [v] (eval o X.env)
   let iv<-holding [v,ov] (eval i X.env)
   standAt pos
   holding [v,ov,iv] (setItem ov iv v)
   release [v,ov,iv] []):=by intro _;rfl):PG X (.Subscript o i pos) (Gi to ti t):=by
 intro a_ s Z H v u Q I r h;rw[ha];refine IU (JH (thn (ho a_ s Z H _ I h) λov s1 ⟨x,H1,I1,r1,q1⟩=>?_))
 refine IU (JH (thn (hi a_ s1 Z H1 _ I1 q1) λiv s2 ⟨y,H2,I2,r2,q2⟩=>?_))
 refine IU (wpAny_standAt (IU (JH (thn (hs a_ s2 Z H2 x y v ov iv u _ I2 r1 r2 r q2) λ_ s3 ⟨H3,I3,q3⟩=>?_))))
 exact wpAny_release ⟨Z,H3,I3,q3⟩
noncomputable def zB(te:TE)(g:TG):TS:=λD Z H=>te Z H λx H1=>g x Z H1 D.nx
theorem BR(he:PE X e te)(hg:PG X tg g)(hs:swapsWithSole [tg] e pos.line X.env=pure false:=by rfl)(hw:swappedStores [tg] e X.env=pure none:=by rfl)
  (h1:(assignEach [tg] X.env).map (·.2)=[assign tg X.env]:=by rfl):PS X (.Assign [tg] e pos) (zB te g):=by
 intro a_ s Z H D I h;refine wpAny_Assign_stores (thn (he a_ s Z H _ I h) λv s1 ⟨x,H1,I1,r1,q1⟩=>?_) hs hw
 rw[h1];exact thn (hg a_ s1 Z H1 x v _ I1 r1 q1) λ_ s2 q=>q
theorem zi(hN:X.N.Nodup)(hi:X.N[i]?=some x)(hx:Loc X.env.scope x)(he:PE X e te)(hs:swapsWith e (some (.Name x G_)) pos.line X.env=pure false:=by rfl)(hf:X.fn x=true\/X.env.scope.names.lookup x=some .local:=by first|exact .inl rfl|exact .inr rfl|assumption) :
  PS X (.Assign [.Name x G_] e pos) (zB te (qz i)):=by
 intro a_ s Z H D I h;refine wpAny_Assign_Name (thn (he a_ s Z H _ I h) λv s1 ⟨y,H1,I1,r1,q1⟩=>?_) hs
 exact jD I1 hN hi hx r1 (λs2 I2=>⟨_,H1,I2,q1⟩) hf
end
section
variable {X:Cx}{pos:Pos}
end
structure It where
 go:Nat->Hp->Prop
 yld:Nat->Hp->V->Hp->Prop
 stop:Nat->Hp->Prop
def g5(X:Cx)(a_:List (Addr×Obj))(H:Hp)(b:Addr):Prop:=
 H b=none/\b≠X.env.locals/\b∉X.fs/\(b∈X.ex\/X.s₀.heap.objs.size<=b)/\(∀x c,X.env.cells.lookup x=some c->c≠b)/\∀p∈X.pn++a_,p.1≠b
theorem Inv.fpOk{s:Shared}(I:Inv X a_ Z H s)(hb:s.heap.objs.size<=b)(hn:H' b=none):g5 X a_ H' b:=by
 refine⟨hn,Nat.ne_of_gt (Jm I.lt hb),I.nofs hb,.inr (Jw I.sz hb),λx c e z=>?_,λp hp z=>?_⟩
 ·obtain⟨v,q⟩:=I.cell x c e;exact absurd (Jm q.lt (by rw[z];exact hb)) (JN _)
 ·exact absurd (Jm (Jf (I.pin p hp).1) (by rw[z];exact hb)) (JN _)
structure Turn (P:Program)(w:World)(K:Kc)(tg:Expr)(J:It)(fp:List Addr)(it:Addr)(tn:Nat->Heap->Prop):Prop where
 mem:it∈fp
 obj:∀i h,tn i h->∀b∈fp,∃o,h.get? b=some o/\∀v,o.data≠.cell v
 keep:∀i h h',tn i h->(∀b∈fp,∀o,h.get? b=some o->h'.get? b=some o)->tn i h'
 item:∀(X:Cx),X.prog=P->X.w=w->X.K=K->X.calm=true->∀(i:Nat) (a_:List (Addr×Obj)) (s:Shared)(Z:St)(H:Hp)(E:Value->Shared->Prop),Inv X a_ Z H s->(∀b∈fp,g5 X a_ H b)->tn i s.heap->J.go i H->
  wpAny (model P w) X.A (pyNext (.ref it)) (λr s1=>∃u,r=some u/\
   wpAny (model P w) X.A (letOwnedTupleGo tg (.ref it) u) (λ_ s2=>∃x H',Inv X a_ Z H' s2/\RelV x u/\J.yld i H x H'/\tn (i+1) s2.heap/\∀b∈fp,H' b=none) E s1) E s
 done:∀(X:Cx),X.prog=P->X.w=w->X.K=K->X.calm=true->∀(i:Nat) (a_:List (Addr×Obj)) (s:Shared)(Z:St)(H:Hp)(E:Value->Shared->Prop),Inv X a_ Z H s->(∀b∈fp,g5 X a_ H b)->tn i s.heap->J.stop i H->
  wpAny (model P w) X.A (pyNext (.ref it)) (λr s1=>r=none/\Inv X a_ Z H s1) E s
 self:∀(A:Around)(i:Nat)(s:Shared)(Q:Value->Shared->Prop)(E:Value->Shared->Prop),tn i s.heap->Q (.ref it) s->wpAny (model P w) A (pyIter (.ref it)) Q E s
noncomputable abbrev TI:=St->Hp->(It->Hp->Prop)->Prop
def PIE(X:Cx)(a_:List (Addr×Obj))(Z:St)(tg:Expr)(R:It->Hp->Prop)(Pn:Value)(s2:Shared):Prop:=
 ∃(it:Addr)(fp:List Addr)(tn:Nat->Heap->Prop)(J:It)(H':Hp),Pn=.ref it/\Inv X a_ Z H' s2/\Turn X.prog X.w X.K tg J fp it tn/\tn 0 s2.heap/\(∀b∈fp,g5 X a_ H' b)/\R J H'
def PI(X:Cx)(tg iter:Expr)(wi:TI):Prop:=
 ∀(a_:List (Addr×Obj)) (s:Shared)(Z:St)(H:Hp)(R:It->Hp->Prop),Inv X a_ Z H s->wi Z H R->
  wpAny (model X.prog X.w) X.A (eval iter X.env) (λv s1=>wpAny (model X.prog X.w) X.A (pyIter v) (PIE X a_ Z tg R) X.xe s1) X.xe s
theorem qH {s : Shared} {o : Obj} (ho : s.heap.get? it = some o) (hc : o.cls = .type n) (hd : o.data = .fields vs)
    (hn : ["enumerate", "zip", "dict_itemiterator", "dict_reverseitemiterator", "odict_iterator", "itertools.zip_longest", "itertools.pairwise"].contains n = false) (hQ : Q () s) : wpAny M A (letOwnedTupleGo tg (.ref it) u) Q E s := by
  unfold letOwnedTupleGo;cases tg <;> first
    | exact IZ hQ
    | (cases u <;> first
        | exact IZ hQ
        | (refine IU (wpAny_load ho ?_)
           rw [hc, hd];show wpAny M A (if (["enumerate", "zip", "dict_itemiterator", "dict_reverseitemiterator", "odict_iterator", "itertools.zip_longest", "itertools.pairwise"].contains n && vs[0]? == some (rawInt _)) = true then _ else _) Q E s
           rw [IY (by intro h; rw [hn, Bool.false_and] at h; cases h)]
           exact IZ hQ))
noncomputable def Itl(K:Kc)(a:Addr):It:=
 ⟨λi H=>∃xs x,SqL K H a xs/\xs[i]?=some x,λi H x H'=>H'=H/\∀xs,SqL K H a xs->xs[i]?=some x,λi H=>∃xs,SqL K H a xs/\xs.length<=i⟩
noncomputable def Itt(K:Kc)(a:Addr):It:=
 ⟨λi H=>∃xs x,SqT K H a xs/\xs[i]?=some x,λi H x H'=>H'=H/\∀xs,SqT K H a xs->xs[i]?=some x,λi H=>∃xs,SqT K H a xs/\xs.length<=i⟩
noncomputable def Itr(lo:Int)(n:Nat):It:=⟨λi _=>i<n,λi H x H'=>H'=H/\x=.int (lo+i),λi _=>n<=i⟩
theorem rX{K:Kc}(a it:Addr):Turn P w K tg (Itl K a) [it] it (λi h=>h.IsListIter it a i) where
 mem:=by simp
 obj:=λi h st b hb=>by
  have e:b=it:=by simpa using hb
  subst e;obtain⟨o,e,c,d⟩:=st;exact⟨o,e,λv z=>by rw[d]at z;cases z⟩
 keep:=λi h h' st k=>st.at λo e=>k it (by simp) o e
 item:=by
  intro X hP hw hK hc i a_ s Z H E I hf st hg;subst hP hw hK;obtain⟨xs,x,hq,hx⟩:=hg;obtain⟨its,rv,p,hz⟩:=I.list hq;obtain⟨u,hu,ru⟩:=rv.get hx;obtain⟨f0,f1,f2,f3,f4,f5⟩:=hf it (by simp)
  refine wpAny_pyNext_list_item st p.isList (x:=u) (by simpa using hu) λh' KR sb=>?_
  have I1:Inv X a_ Z H {s with heap:=h'}:=I.turned (t':=s.toks) (λb o hb e=>(sb.2 b hb).trans e) f0 f1 f3 f4 f5
  obtain⟨o,e,c,d⟩:=id KR;exact⟨u,rfl,qH (s:={s with heap:=h'}) e c d (by decide) ⟨x,H,I1,ru,⟨rfl,λys hy=>by rw[I.list_inj hy hq];exact hx⟩,KR,λb hb=>(hf b hb).1⟩⟩
 done:=by
  intro X hP hw hK hc i a_ s Z H E I hf st hg;subst hP hw hK;obtain⟨xs,hq,hx⟩:=hg;obtain⟨its,rv,p,hz⟩:=I.list hq;obtain⟨f0,f1,f2,f3,f4,f5⟩:=hf it (by simp)
  have hl:=rv.length;exact wpAny_pyNext_list_end (I.ok.hd hc) st p.isList (by simp;omega) λh' eb=>⟨rfl,I.turned (t':=s.toks) (λb o hb e=>eb b o hb e) f0 f1 f3 f4 f5⟩
 self:=λ_ _ _ _ _ st h=>wpAny_pyIter_listiter st h
theorem pT{K:Kc}(a it:Addr):Turn P w K tg (Itt K a) [it] it (λi h=>h.IsTupleIter it a i) where
 mem:=by simp
 obj:=λi h st b hb=>by
  have e:b=it:=by simpa using hb
  subst e;obtain⟨o,e,c,d⟩:=st;exact⟨o,e,λv z=>by rw[d]at z;cases z⟩
 keep:=λi h h' st k=>st.at λo e=>k it (by simp) o e
 item:=by
  intro X hP hw hK hc i a_ s Z H E I hf st hg;subst hP hw hK;obtain⟨xs,x,hq,hx⟩:=hg;obtain⟨its,rv,p,hz⟩:=I.tuple hq;obtain⟨u,hu,ru⟩:=rv.get hx;obtain⟨f0,f1,f2,f3,f4,f5⟩:=hf it (by simp)
  refine wpAny_pyNext_tuple_item st (show s.heap.IsTuple a its.toArray from p) (x:=u) (by simpa using hu) λh' KR sb=>?_
  have I1:Inv X a_ Z H {s with heap:=h'}:=I.turned (t':=s.toks) (λb o hb e=>(sb.2 b hb).trans e) f0 f1 f3 f4 f5
  obtain⟨o,e,c,d⟩:=id KR;exact⟨u,rfl,qH (s:={s with heap:=h'}) e c d (by decide) ⟨x,H,I1,ru,⟨rfl,λys hy=>by rw[I.tuple_inj hy hq];exact hx⟩,KR,λb hb=>(hf b hb).1⟩⟩
 done:=by
  intro X hP hw hK hc i a_ s Z H E I hf st hg;subst hP hw hK;obtain⟨xs,hq,hx⟩:=hg;obtain⟨its,rv,p,hz⟩:=I.tuple hq;obtain⟨f0,f1,f2,f3,f4,f5⟩:=hf it (by simp)
  have hl:=rv.length;exact wpAny_pyNext_tuple_end (I.ok.hd hc) st (show s.heap.IsTuple a its.toArray from p) (by simp;omega) λh' eb=>⟨rfl,I.turned (t':=s.toks) (λb o hb e=>eb b o hb e) f0 f1 f3 f4 f5⟩
 self:=λ_ _ _ _ _ st h=>wpAny_pyIter_tupleiter st h
theorem pK{K:Kc}(it:Addr)(lo:Int)(n:Nat):Turn P w K tg (Itr lo n) [it] it (λi h=>IsRangeIter h it (lo+(i:Nat)*1) ((n:Int)-(i:Nat)) 1) where
 mem:=by simp
 obj:=λi h st b hb=>by
  have e:b=it:=by simpa using hb
  subst e;exact⟨_,st,λv z=>by
   have z':Data.fields _=Data.cell v:=z;cases z'⟩
 keep:=λi h h' st k=>k it (by simp) _ st
 item:=by
  intro X hP hw hK hc i a_ s Z H E I hf st hg;subst hP hw hK;obtain⟨f0,f1,f2,f3,f4,f5⟩:=hf it (by simp)
  have W:=Walks.range (prog:=X.prog) (w:=X.w) (I.ok.hd hc) it lo 1 n;refine W.item i s _ _ hg st λv h' tk hv KR kk=>?_
  obtain⟨t,rfl⟩:=hv;have I1:Inv X a_ Z H {s with heap:=h',toks:=tk}:=I.turned (λb o hb e=>kk b o (by simpa using hb) e) f0 f1 f3 f4 f5
  refine⟨_,rfl,qH (s:={s with heap:=h',toks:=tk}) (n:="range_iterator") KR rfl rfl (by decide) ⟨.int (lo+i),H,I1,⟨t,?_⟩,⟨rfl,rfl⟩,KR,λb hb=>(hf b hb).1⟩⟩
  rw[Int.mul_one]
 done:=by
  intro X hP hw hK hc i a_ s Z H E I hf st hg;subst hP hw hK;obtain⟨f0,f1,f2,f3,f4,f5⟩:=hf it (by simp)
  exact wpAny_pyNext_range_end (I.ok.hd hc) st (by have:n<=i:=hg;omega) λh' eb=>⟨rfl,I.turned (t':=s.toks) (λb o hb e=>eb b o hb e) f0 f1 f3 f4 f5⟩
 self:=λ_ _ _ _ _ st h=>wpAny_pyIter_rangeiter st h
section
variable {X:Cx}
theorem u7{s:Shared}{lo:Int}(I:Inv X a_ Z H s)(h1 : -(2 ^ 62)<=lo)(h2:lo<2 ^ 62)(h3 : -(2 ^ 62)<=hi)(h4:hi<2 ^ 62)
  (q:R (Itr lo (hi-lo).toNat) H):wpAny (model X.prog X.w) X.A (pyIter (.ref s.heap.objs.size)) (PIE X a_ Z tg R) E {s with heap:=s.heap.push {cls:=.type "range",data:=.fields #[.int lo t,.int hi u,.int 1 v]},toks:=tk}:=by
 refine wpAny_pyIter_range (IsRange.new ..) (small_one h1 h2 h3 h4) ?_;have I1:Inv X a_ Z H {s with heap:=s.heap.push {cls:=.type "range",data:=.fields #[.int lo t,.int hi u,.int 1 v]},toks:=tk}:=I.kept λb o e=>IW _ e
 refine⟨(s.heap.push {cls:=.type "range",data:=.fields #[.int lo t,.int hi u,.int 1 v]}).objs.size,[(s.heap.push {cls:=.type "range",data:=.fields #[.int lo t,.int hi u,.int 1 v]}).objs.size],_,_,H,rfl,
  I1.kept (t':=tk) λb o e=>IW _ e,pK _ lo (hi-lo).toNat,?_,λb hb=>?_,q⟩
 ·have e1:lo+((0:Nat):Int)*1=lo:=by simp
  have e2:(((hi-lo).toNat:Nat):Int)-((0:Nat):Int)=Builtin.Range.rangeSize lo hi 1:=by rw[rangeSize_one];split<;>omega
  show IsRangeIter _ _ (lo+((0:Nat):Int)*1) ((((hi-lo).toNat:Nat):Int)-((0:Nat):Int)) 1;rw[e1,e2];exact Jp _ rfl
 ·have e:b=(s.heap.push {cls:=.type "range",data:=.fields #[.int lo t,.int hi u,.int 1 v]}).objs.size:=by simpa using hb
  subst e;exact I1.fpOk (Jg _) (I1.h_.fresh (Jg _))
noncomputable def DR(ta:TA):TI:=λZ H R=>ta Z H λvs H1=>∃j:Int,vs=[.int j]/\-(2 ^ 62)<=j/\j<2 ^ 62/\R (Itr 0 j.toNat) H1
theorem rY(hg:Gl X "range")(hm:X.mg "range"=none)(ha:PA X [a] ta)(hs:starEach [a] X.env=[(false,eval a X.env)]:=by rfl):PI X tg (.Call (.Name "range" p) [a] [] pos) (DR ta):=by
 intro a_ s Z H R I h;refine Call_ (dF I hg hm boot_range (PyProof.Rows.callWith_type1 (thn (ha pos a_ s Z H _ I h) λus s1 ⟨vs,H1,I1,r1,q1⟩=>?_) hs rfl))
 obtain⟨j,e,q1,q2,q⟩:=q1;subst e;cases r1 with
 |cons r rr=>
  cases rr;obtain⟨t,rfl⟩:=r;exact call_range_1 (u7 I1 (by omega) (by omega) q1 q2 (by simpa using q))
noncomputable def Fv(wi:TI)(g:TG)(tb:TS):TS:=λD Z H=>wi Z H λJ H1=>∃W:Nat->Nat->St->Hp->Prop,(∃m,W 0 m Z H1)/\∀i m Z H,W i m Z H->
 (J.stop i H/\D.nx Z H)\/(J.go i H/\∃N:St->Hp->Prop,(∀n_ H',N n_ H'->∃m',m' < m/\W (i+1) m' n_ H')/\∀x H',J.yld i H x H'->g x Z H' λKo H2=>tb {D with nx:=N,ct:=N,bk:=D.nx} Ko H2)
noncomputable def j1(fp:List Addr)(h:Heap):List (Addr×Obj):=fp.filterMap λb=>(h.get? b).map λo=>(b,o)
theorem eE{h:Heap}(hb:b∈fp)(e:h.get? b=some o):(b,o)∈j1 fp h:=List.mem_filterMap.mpr ⟨b,hb,by rw[e];rfl⟩
theorem sY{h:Heap}{p:Addr×Obj}(hp:p∈j1 fp h):p.1∈fp/\h.get? p.1=some p.2:=by
 obtain⟨b,hb,e⟩:=List.mem_filterMap.mp hp;cases q:h.get? b with
 |none=>rw[q]at e;cases e
 |some o=>
  rw[q]at e;have e':(b,o)=p:=Jn e;subst e';exact⟨hb,q⟩
theorem Inv.pinned{s:Shared}(I:Inv X a_ Z H s)(hf:∀b∈fp,g5 X a_ H b)(ho:∀b∈fp,∃o,s.heap.get? b=some o/\∀v,o.data≠.cell v):Inv X (a_++j1 fp s.heap) Z H s:=
 I.pins_of λp hp=>(Jv.mp hp).elim (λz=>I.pin p (Jz _ z)) λz=>by
  obtain⟨hb,e⟩:=sY z;obtain⟨f0,f1,f2,_⟩:=hf p.1 hb;obtain⟨o,e',d⟩:=ho p.1 hb;rw[e]at e';cases e';exact⟨e,f0,f1,f2,d⟩
theorem Inv.unpinned(I:Inv X (a_++pl) Z H s):Inv X a_ Z H s:=I.pins_of λp hp=>I.pin p (Jz _ (JO _ hp))
theorem zf(hp:PassesOwn (model X.prog X.w) X.A X.env X.xe)(hc:X.calm=true)(hi:PI X tg iter wi)(hg:PG X tg g)(hb:PSs X body tb)
  (hs:∀x,foldedSetIterable iter X.env x=pure x:=by intro _;rfl):PS X (.For tg iter body [] pos) (Fv wi g tb):=by
 intro a_ s Z H D I h;refine wpAny_For (thn (hi a_ s Z H _ I h) λv s1 h1=>thn h1 λPn s2 h2=>?_) hs
 obtain⟨it,fp,tn,J,H2,e,I2,T,OO,f2,W,⟨m0,w0⟩,LY⟩:=h2;subst e;have MM:∀{H':Hp},(∀b∈fp,H' b=none)->∀b∈fp,g5 X a_ H' b:=λhn b hb=>⟨hn b hb,(f2 b hb).2⟩
 refine codeAny_forLoop_any (λn s'=>∃i n_ H',Inv X a_ n_ H' s'/\tn i s'.heap/\(∀b∈fp,H' b=none)/\W i n n_ H') ?_ m0 ⟨0,Z,H2,I2,OO,λb hb=>(f2 b hb).1,w0⟩
 rintro n s3 ⟨i,f_,H3,I3,NN,OP,w3⟩;rcases LY i n f_ H3 w3 with ⟨stop,qn⟩|⟨go,N,hN,step⟩
 ·refine wpAny_passesOwn hp (thn (T.done X rfl rfl rfl hc i a_ s3 f_ H3 X.xe I3 (MM OP) NN stop) λr s4 ⟨hr,I4⟩=>?_)
  subst hr;exact wpAny_execs_nil ⟨f_,H3,I4,qn⟩
 ·refine wpAny_passesOwn hp (thn (T.item X rfl rfl rfl hc i a_ s3 f_ H3 X.xe I3 (MM OP) NN go) λr s4 ⟨u,hr,h4⟩=>?_)
  subst hr;refine wpAny_passesOwn hp (thn h4 λ_ s5 ⟨x,H5,I5,r5,y5,Po,RN⟩=>?_)
  have RO:=I5.pinned (MM RN) (T.obj _ _ Po);refine wpAny_passesOwn hp (thn (hg _ s5 f_ H5 x u _ RO r5 (step x H5 y5)) λ_ s6 ⟨MN,H6,I6,q6⟩=>?_)
  refine wpAny_passesOwn hp (thn (hb _ s6 MN H6 _ I6 q6) λf s7 q7=>?_)
  have again:∀{KU:St}{H7:Hp},Inv X (a_++j1 fp s5.heap) KU H7 s7->N KU H7->∃m,m<n/\∃i n_ H',Inv X a_ n_ H' s7/\tn i s7.heap/\(∀b∈fp,H' b=none)/\W i m n_ H':=λ{KU H7} I7 n7=>by
   obtain⟨m',hm,w7⟩:=hN KU H7 n7;refine⟨m',hm,i+1,KU,H7,I7.unpinned,T.keep _ _ _ Po λb hb o e=>(I7.pin (b,o) (Jz _ (Jz _ (eE hb e)))).1,λb hb=>?_,w7⟩
   obtain⟨o,e,d⟩:=T.obj _ _ Po b hb;exact (I7.pin (b,o) (Jz _ (Jz _ (eE hb e)))).2.1
  cases f with
  |next=>obtain⟨KU,H7,I7,n7⟩:=q7;exact again I7 n7
  |cont=>obtain⟨KU,H7,I7,n7⟩:=q7;exact again I7 n7
  |brk=>obtain⟨KU,H7,I7,q7⟩:=q7;exact⟨KU,H7,I7.unpinned,q7⟩
  |ret v=>obtain⟨x7,KU,H7,I7,r7,q7⟩:=q7;exact⟨x7,KU,H7,I7.unpinned,r7,q7⟩
end
noncomputable abbrev R2:=V->V->Hp->VK->Prop
def OpR(X:Cx)(f:Value->Value->Sem Value)(r:R2):Prop:=
 ∀(a_:List (Addr×Obj)) (s:Shared)(Z:St)(H:Hp)(x y:V)(v u:Value)(Q:VK),Inv X a_ Z H s->RelV x v->RelV y u->r x y H Q->
  wpAny (model X.prog X.w) X.A (f v u) (EP X a_ Z Q) X.xe s
def UnR(X:Cx)(f:Value->Sem Value)(r:V->Hp->VK->Prop):Prop:=
 ∀(a_:List (Addr×Obj)) (s:Shared)(Z:St)(H:Hp)(x:V)(v:Value)(Q:VK),Inv X a_ Z H s->RelV x v->r x H Q->
  wpAny (model X.prog X.w) X.A (f v) (EP X a_ Z Q) X.xe s
def CallR(X:Cx)(f:Value)(r:List V->Hp->VK->Prop):Prop:=
 ∀(a_:List (Addr×Obj)) (s:Shared)(Z:St)(H:Hp)(xs:List V)(us:List Value)(Q:VK),Inv X a_ Z H s->Vals xs us->r xs H Q->
  wpAny (model X.prog X.w) X.A (call f us) (EP X a_ Z Q) X.xe s
noncomputable def tOp(r:R2)(ta tb:TE):TE:=λZ H Q=>ta Z H λx H1=>tb Z H1 λy H2=>r x y H2 Q
noncomputable def tUn(r:V->Hp->VK->Prop)(ta:TE):TE:=λZ H Q=>ta Z H λx H1=>r x H1 Q
def rI(C:Int->Int->Prop)(g:Int->Int->V):R2:=λx y H Q=>∃i j,x=.int i/\y=.int j/\C i j/\Q (g i j) H
def rI0(g:Int->Int->V):R2:=λx y H Q=>∃i j,x=.int i/\y=.int j/\Q (g i j) H
def rU(g:Int->V):V->Hp->VK->Prop:=λx H Q=>∃i,x=.int i/\Q (g i) H
section
variable {X:Cx}{a b c:Expr}{ta tb tc:TE}{pos:Pos}
theorem zN(ha:PE X a ta)(hb:PE X b tb){a_:List (Addr×Obj)}{s:Shared}{Z:St}{H:Hp}{R:V->V->Hp->Prop}(I:Inv X a_ Z H s)
  (h:ta Z H λx H1=>tb Z H1 λy H2=>R x y H2) {Q:Value->Shared->Prop}{f:Value->Value->Sem Value}
  (hf:∀v u s2 x y H2,Inv X a_ Z H2 s2->RelV x v->RelV y u->R x y H2->wpAny (model X.prog X.w) X.A (f v u) Q X.xe s2) :
  wpAny (model X.prog X.w) X.A (eval a X.env) (λv p_=>wpAny (model X.prog X.w) X.A (eval b X.env) (λu Kw=>wpAny (model X.prog X.w) X.A (f v u) Q X.xe Kw) X.xe p_) X.xe s:=by
 refine thn (ha a_ s Z H _ I h) λv s1 ⟨x,H1,I1,r1,q1⟩=>?_
 refine thn (hb a_ s1 Z H1 _ I1 q1) λu s2 ⟨y,H2,I2,r2,q2⟩=>?_
 exact hf v u s2 x y H2 I2 r1 r2 q2
theorem CY{op:Operator}{r:R2}(ho:OpR X (binaryOp op) r)(ha:PE X a ta)(hb:PE X b tb):PE X (.BinOp a op b pos) (tOp r ta tb):=by
 intro a_ s Z H Q I h;exact wpAny_BinOp (zN ha hb I h λv u s2 x y H2 I2 rx ry q=>ho a_ s2 Z H2 x y v u Q I2 rx ry q)
theorem Ej(ho:UnR X (unaryOp op) r)(ha:PE X a ta):PE X (.UnaryOp op a pos) (tUn r ta):=by
 intro a_ s Z H Q I h;exact UnaryOp_ (thn (ha a_ s Z H _ I h) λv s1 ⟨x,H1,I1,r1,q1⟩=>ho a_ s1 Z H1 x v Q I1 r1 q1)
theorem opI{f:Value->Value->Sem Value}{C:Int->Int->Prop}{g:Int->Int->Int}
  (rule:∀(i j:Int)(t u:Tok)(s:Shared)(Q:Value->Shared->Prop)(E:Value->Shared->Prop),C i j->Q (.int (g i j) s.toks) {s with toks:=s.toks+1}->wpAny (model X.prog X.w) X.A (f (.int i t) (.int j u)) Q E s) :
  OpR X f (rI C λi j=>.int (g i j)):=by
 intro a_ s Z H x y v u Q I rx ry h;obtain⟨i,j,rfl,rfl,hc,q⟩:=h;obtain⟨t,rfl⟩:=rx;obtain⟨t',rfl⟩:=ry;exact rule i j t t' s _ _ hc ⟨.int (g i j),H,I.tok _,⟨_,rfl⟩,q⟩
theorem A1{f:Value->Value->Sem Value}{g:Int->Int->Int}
  (rule:∀(i j:Int)(t u:Tok)(s:Shared)(Q:Value->Shared->Prop)(E:Value->Shared->Prop),Q (.int (g i j) s.toks) {s with toks:=s.toks+1}->wpAny (model X.prog X.w) X.A (f (.int i t) (.int j u)) Q E s) :
  OpR X f (rI0 λi j=>.int (g i j)):=by
 intro a_ s Z H x y v u Q I rx ry h;obtain⟨i,j,rfl,rfl,q⟩:=h;obtain⟨t,rfl⟩:=rx;obtain⟨t',rfl⟩:=ry;exact rule i j t t' s _ _ ⟨.int (g i j),H,I.tok _,⟨_,rfl⟩,q⟩
theorem xA{f:Value->Value->Sem Value}{g:Int->Int->Bool}
  (rule:∀(i j:Int)(t u:Tok)(s:Shared)(Q:Value->Shared->Prop)(E:Value->Shared->Prop),Q (.bool (g i j)) s->wpAny (model X.prog X.w) X.A (f (.int i t) (.int j u)) Q E s) :
  OpR X f (rI0 λi j=>.bl (g i j)):=by
 intro a_ s Z H x y v u Q I rx ry h;obtain⟨i,j,rfl,rfl,q⟩:=h;obtain⟨t,rfl⟩:=rx;obtain⟨t',rfl⟩:=ry;exact rule i j t t' s _ _ ⟨.bl (g i j),H,I,rfl,q⟩
def uN(i j:Int):Prop:=0<=j/\j<=1000000/\i.natAbs<2 ^ 64
theorem pN(k:Nat):(0:Int)<=2 ^ k:=by
 rw[two_pow_cast];exact Int.natCast_nonneg _
theorem zd:OpR X (binaryOp .Add) (rI0 λi j=>.int (i+j)):=A1 λ_ _ _ _ _ _ _ q=>add_int q
theorem Bm:OpR X (binaryOp .Sub) (rI0 λi j=>.int (i-j)):=A1 λ_ _ _ _ _ _ _ q=>sub_int q
theorem BN:OpR X (binaryOp .Mod) (rI (λ_ j=>0<j) λi j=>.int (i % j)):=opI λi j _ _ _ _ _ hc q=>by
 have h1:(0:Int)<j:=hc;exact mod_int' (by omega) (by rw[Int.fmod_eq_emod_of_nonneg i (by omega)];exact q)
theorem A3:OpR X (binaryOp .Pow) (rI uN λi j=>.int (i ^ j.toNat)):=opI λ_ _ _ _ _ _ _ hc q=>pow_int_small hc.1 hc.2.1 hc.2.2 q
theorem Bx:OpR X (binaryOp .RShift) (rI (λ_ j=>0<=j) λi j=>.int (i / 2 ^ j.toNat)):=opI λi j _ _ _ _ _ hc q=>
 rshift_int hc (by rw[Int.fdiv_eq_ediv_of_nonneg i (pN _)];exact q)
theorem Ba:OpR X (binaryOp .BitAnd) (rI0 λi j=>.int (Builtin.bitAnd i j)):=A1 λ_ _ _ _ _ _ _ q=>and_int q
theorem unI{f:Value->Sem Value}{g:Int->Int}
  (rule:∀(i:Int)(t:Tok)(s:Shared)(Q:Value->Shared->Prop)(E:Value->Shared->Prop),Q (.int (g i) s.toks) {s with toks:=s.toks+1}->wpAny (model X.prog X.w) X.A (f (.int i t)) Q E s) :
  UnR X f (rU λi=>.int (g i)):=by
 intro a_ s Z H x v Q I rx h;obtain⟨i,rfl,q⟩:=h;obtain⟨t,rfl⟩:=rx;exact rule i t s _ _ ⟨.int (g i),H,I.tok _,⟨_,rfl⟩,q⟩
theorem At:UnR X (unaryOp .USub) (rU λi=>.int (-i)):=unI λ_ _ _ _ _ q=>neg_int q
end
section
variable {X:Cx}{a b c:Expr}{ta tb tc:TE}{pos:Pos}
theorem vp(I:Inv X a_ Z H s)(q:Q (.bl k) H)(e:k=k'):EP X a_ Z Q (.bool k') s:=by
 subst e;exact⟨.bl k,H,I,rfl,q⟩
theorem EA:OpR X (compareOp .Lt) (rI0 λi j=>.bl (decide (i<j))):=xA λ_ _ _ _ _ _ _ q=>lt_int q
theorem Cw:OpR X (compareOp .LtE) (rI0 λi j=>.bl (decide (i<=j))):=xA λ_ _ _ _ _ _ _ q=>le_int q
theorem Eg:OpR X (compareOp .Gt) (rI0 λi j=>.bl (decide (j<i))):=xA λ_ _ _ _ _ _ _ q=>gt_int q
theorem El:OpR X (compareOp .GtE) (rI0 λi j=>.bl (decide (j<=i))):=xA λ_ _ _ _ _ _ _ q=>ge_int q
theorem Br:OpR X (compareOp .Is) (λx y H Q=>y=.i_/\Q (.bl (decide (x=.i_))) H):=by
 intro a_ s Z H x y v u Q I rx ry h;obtain⟨rfl,q⟩:=h;cases ry;refine is_none_gen (vp I q ?_);cases x<;>first
  |(cases rx;rfl)
  |(obtain⟨t,rfl⟩:=rx;rfl)
theorem xI:OpR X (compareOp .IsNot) (λx y H Q=>y=.i_/\Q (.bl (!decide (x=.i_))) H):=by
 intro a_ s Z H x y v u Q I rx ry h;obtain⟨rfl,q⟩:=h;cases ry;refine isnot_none_gen (vp I q ?_);cases x<;>first
  |(cases rx;rfl)
  |(obtain⟨t,rfl⟩:=rx;rfl)
theorem vN{op:CmpOp}{r:R2}(ho:OpR X (compareOp op) r)(ha:PE X a ta)(hb:PE X b tb)(hm:behindInMarks op b=false):PE X (.Compare a [op] [b] pos) (tOp r ta tb):=by
 intro a_ s Z H Q I h;exact wpAny_Compare1 (zN ha hb I h λv u s2 x y H2 I2 rx ry q=>ho a_ s2 Z H2 x y v u Q I2 rx ry q) hm
noncomputable def Dd(t:TE):TT:=λZ H Q=>t Z H λx H'=>∃k,x=.bl k/\Q k H'
theorem xr(ho:OpR X (compareOp op) r)(ha:PE X a ta)(hb:PE X b tb)(hm:behindInMarks op b=false):PT X (.Compare a [op] [b] pos) (Dd (tOp r ta tb)):=by
 intro a_ s Z H Q I h;refine wpAny_isTrue_Compare1 (thn (ha a_ s Z H _ I h) λv s1 ⟨x,H1,I1,r1,q1⟩=>thn (hb a_ s1 Z H1 _ I1 q1) λu s2 ⟨y,H2,I2,r2,q2⟩=>
  thn (ho a_ s2 Z H2 x y v u _ I2 r1 r2 q2) λc s3 ⟨z,H3,I3,r3,k,e,q3⟩=>?_) hm
 subst e;cases r3;exact JS ⟨H3,I3,q3⟩
noncomputable def za(r r':R2)(ta tb tc:TE):TE:=λZ H Q=>ta Z H λx H1=>tb Z H1 λy H2=>r x y H2 λz H3=>∃k,z=.bl k/\
 (if k=true then tc Z H3 λw' H4=>r' y w' H4 Q else Q (.bl false) H3)
theorem tS(ho:OpR X (compareOp op) r)(KJ:OpR X (compareOp KL) r')(ha:PE X a ta)(hb:PE X b tb)(hc:PE X c tc)
  (hm:lastMarks [op,KL] [b,c]=false:=by with_unfolding_all rfl):PE X (.Compare a [op,KL] [b,c] pos) (za r r' ta tb tc):=by
 intro a_ s Z H Q I h;refine Compare_chain (thn (ha a_ s Z H _ I h) λv s1 ⟨x,H1,I1,r1,q1⟩=>chain_link (thn (hb a_ s1 Z H1 _ I1 q1) λu s2 ⟨y,H2,I2,r2,q2⟩=>
  thn (ho a_ s2 Z H2 x y v u _ I2 r1 r2 q2) λd s3 ⟨z,H3,I3,r3,k,e,q3⟩=>?_)) hm
 subst e;cases r3;refine JS ?_;cases k with
 |false=>exact ite_ff ⟨.bl false,H3,I3,rfl,q3⟩
 |true=>exact ite_tt (chain_last (thn (hc a_ s3 Z H3 _ I3 q3) λw' s4 ⟨z',H4,I4,r4,q4⟩=>KJ a_ s4 Z H4 y z' u w' Q I4 r2 r4 q4))
theorem jQ:(sizeLine:Nat)<2 ^ 63:=by rw[sizeLine_eq];decide
theorem jf(r:Vals [x] us):∃u,us=[u]/\RelV x u:=by
 cases r with
 |cons r1 r2=>cases r2;exact⟨_,rfl,r1⟩
theorem Du(r:Vals [x,y] us):∃u w',us=[u,w']/\RelV x u/\RelV y w':=by
 cases r with
 |cons r1 r2=>
  cases r2 with
  |cons r3 r4=>cases r4;exact⟨_,_,rfl,r1,r3⟩
theorem sC(hc:X.calm=true):CallR X (.builtin "max") (λxs H Q=>∃i j,xs=[.int i,.int j]/\Q (.int (if j > i then j else i)) H):=by
 intro a_ s Z H xs us Q I r h;obtain⟨i,j,rfl,q⟩:=h;obtain⟨u,w',rfl,⟨t,rfl⟩,⟨t',rfl⟩⟩:=Du r;refine max_two_ints (I.ok.hd hc) λh' tk k=>⟨_,H,I.kept k,?_,q⟩
 by_cases hj:j > i
 ·rw[Jc hj,Jc hj];exact⟨_,rfl⟩
 ·rw[IY hj,IY hj];exact⟨_,rfl⟩
end
structure ObjM (h:Heap)(x dx C:Addr)(mA:Str->Option Value):Prop where
 obj:h.get? x=some (PySem.W.instObj C dx)
 ns:h.Ns1 dx mA
 ne:dx≠x
theorem rO{h:Heap}(n:h.Ns1 dx mA):∃od,h.get? dx=some od/\∀name,PySem.W.lookIn name od=some (mA name):=by
 obtain⟨o,es,ep,ho,hd,hk,_,hm⟩:=n;refine⟨o,ho,λname=>?_⟩
 have e:=hm name;unfold nsFind findBy at e;rw[<-Array.find?_toList]at e;unfold PySem.W.lookIn;rw[hd];dsimp only;split
 ·rename_i y q;rw[q]at e;exact congrArg some e
 ·rename_i q;rw[q]at e;have a:es.toList.any (·.refKey)=false:=by
   rw[List.any_eq_false];intro y hy;obtain⟨z,t,Lj⟩:=hk y (Array.mem_toList_iff.mp hy);simp[DictEntry.refKey,Lj]
  have a':¬ es.toList.any (·.refKey)=true:=by rw[a];exact Jx
  rw[IY a'];exact congrArg some e
theorem ObjM.look(I:ObjM h x dx C mA):∃od,PySem.W.InstAt h x (PySem.W.instObj C dx) C (some od)/\∀name,PySem.W.lookIn name od=some (mA name):=
 let ⟨od,ho,hl⟩:=rO I.ns
 ⟨od,⟨I.obj,rfl,rfl,ho⟩,hl⟩
section
variable {w:World}{A:Around}{s:Shared}{K:Kc}{x:Addr}
theorem xQ(X:K.In s.heap)(I:ObjM s.heap x dx C mA)(hg:PySem.W.plainGet K C name=true)(hh:PySem.W.hasDictIn K C=true)
  (ha:PySem.W.findIn K (.ref C) name=some none) (hv:mA name=some v) (RP:PySem.W.handedIn v=true) (h:Q v {s with toks:=s.toks+1}) :
  wpAny (model prog w) A (getAttr (.ref x) name expr) Q E s:=by
 obtain⟨od,J,hl⟩:=I.look;exact PySem.W.get_value X J (PySem.W.plainGet_of hg).1 (PySem.W.findObj_own hh ha rfl (by rw[hl,hv])) RP h
theorem uz(X:K.In s.heap)(I:ObjM s.heap x dx C mA)(hg:PySem.W.plainGet K C name=true)
  (hf:PySem.W.findIn K (.ref C) name=some (some (.ref f))) (ht:PySem.W.isFn K (.ref f)=true) (hv:mA name=none) (h:Q (.ref f,[.ref x]) s) :
  wpAny (model prog w) A (getMethod (.ref x) name pl) Q E s:=by
 obtain⟨od,J,hl⟩:=I.look;exact PySem.W.method_fn X J (PySem.W.plainGet_of hg).1 (PySem.W.plainGet_of hg).2 hf (Jl.mp ht) (by show (PySem.W.lookIn name od).map (·.isSome)=some false;rw[hl,hv];rfl) h
theorem wB{ns:List Str}(X:K.In s.heap)(I:ObjM s.heap x dx C mA)
  (hs:PySem.W.findIn K (.ref C) "__setattr__"=some (some (.builtin "object.__setattr__"))) (hp:PySem.W.plainOver K C=true) (ht:PySem.W.takerIn K C name=some none) (hh:PySem.W.hasDictIn K C=true)
  (hw:PySem.Within mA ns) (hsz:ns.length<=sizeLine)
  (h:∀h',ObjM h' x dx C (λy=>if y=name then some v else mA y)->Heap.SameBut dx s.heap h'->Q () {s with heap:=h',toks:=s.toks+2}) :
  wpAny (model prog w) A (setAttr (.ref x) name v) Q E s:=by
 obtain⟨od,J,hl⟩:=I.look;refine PySem.W.set_plain X J hs (PySem.W.osa_open (s:={s with toks:=s.toks+1}) (r:=none) X J hp ht λb=>?_)
 obtain⟨cd,hc,LA⟩:=PySem.W.any_some hh;have hx:s.heap.get? x=some ⟨.ref C,some dx,.plain,#[]⟩:=I.obj;refine IU (IZ (IU (IU (wpAny_loadPart hx (IU (PySem.W.Looks.here (s:={s with toks:=s.toks+1}) (PySem.W.looks_clsIn X hc) ?_))))))
 rw[LA];refine IZ (a:=some dx) (IU (IZ (IU ?_)));refine wpAny_nsSet1 (s:={s with toks:=s.toks+1}) I.ns λh' L4 KA=>?_
 obtain⟨oD,RQ,RR,Pp,Pq,LB⟩:=L4.count (PySem.Within.cons name v hw);refine IU (wpAny_lookBehind Pp (by rw[Pq];exact pastItsLine_dict (Jw LB (by rw[Jr];omega))) ?_)
 exact IZ (h _ ⟨(KA.2 _ (Ja I.ne)).trans I.obj,L4,I.ne⟩ KA)
theorem tZ(X:K.In s.heap)(hm:PySem.W.makesIn K C=true)
  (hi:PySem.W.findIn K (.ref C) "__init__"=some (some (.ref f))) (hf:PySem.W.typeIn K (.ref f)=some (.type "function"))
  (h:codeAny (model prog w) (A.under (.builtin "type.__call__" ⟨.ref C::vs,kw⟩)) (.call (.ref f) ⟨.ref (s.heap.objs.size+1)::vs,kw⟩) (PySem.W.InitBack (s.heap.objs.size+1) R)
   {s with heap:=(s.heap.push PySem.W.emptyDict).push (PySem.W.instObj C s.heap.objs.size)}) :
  codeAny (model prog w) A (.call (.ref C) ⟨vs,kw⟩) R s:=by
 obtain⟨hh,g,d,t,os⟩:=s;exact PySem.W.make_core (PySem.W.makes_of X hm) (PySem.W.looks_findIn X hi) (λself=>PySem.W.bind_fn X self hf) (.inl rfl) h
end
noncomputable def dQ(f:Str)(v:V):List (Str×V)->List (Str×V)
 |[]=>[(f,v)]
 |(g,x)::r=>if g=f then (g,v)::r else (g,x)::dQ f v r
theorem i6(f g:Str)(v:V):∀fs:List (Str×V),(dQ f v fs).lookup g=if g=f then some v else fs.lookup g
 |[]=>by
  show List.lookup g [(f,v)]=_;by_cases h:g=f
  ·have hb:(g == f)=true:=Jl.mpr h;simp only[List.lookup,hb,Jc h]
  ·have hb:(g == f)=false:=JA.mpr h;simp only[List.lookup,hb,IY h]
 |(k,x)::r=>by
  have ih:=i6 f g v r;rw[show dQ f v ((k,x)::r)=(if k=f then (k,v)::r else (k,x)::dQ f v r) from rfl]
  by_cases hk:k=f
  ·rw[Jc hk];by_cases h:g=k
   ·have hb:(g == k)=true:=Jl.mpr h;simp only[List.lookup,hb,Jc (h.trans hk)]
   ·have hb:(g == k)=false:=JA.mpr h;simp only[List.lookup,hb,IY (λe:g=f=>h (e.trans hk.symm))]
  ·rw[IY hk];by_cases h:g=k
   ·have hb:(g == k)=true:=Jl.mpr h;simp only[List.lookup,hb,IY (λe:g=f=>hk (h.symm.trans e))]
   ·have hb:(g == k)=false:=JA.mpr h;simp only[List.lookup,hb];exact ih
theorem i4(f:Str)(v:V):∀fs:List (Str×V),f∈(dQ f v fs).map (·.1)/\∀g,g∈fs.map (·.1)->g∈(dQ f v fs).map (·.1)
 |[]=>⟨by simp[dQ],λg h=>by simp at h⟩
 |(k,x)::r=>by
  obtain⟨i1,i2⟩:=i4 f v r;rw[show dQ f v ((k,x)::r)=(if k=f then (k,v)::r else (k,x)::dQ f v r) from rfl]
  by_cases hk:k=f
  ·rw[Jc hk];subst hk;exact⟨by simp,λg h=>by simpa using h⟩
  ·rw[IY hk];refine⟨?_,λg h=>?_⟩
   ·rw[Ji];exact IX _ i1
   ·rw[Ji]at h ⊢;rcases Jb.mp h with e|e
    ·exact Jb.mpr (.inl e)
    ·exact IX _ (i2 g e)
theorem i9(f:Str)(v:V):∀fs:List (Str×V),(dQ f v fs).length<=fs.length+1
 |[]=>by simp[dQ]
 |(k,x)::r=>by
  have ih:=i9 f v r;rw[show dQ f v ((k,x)::r)=(if k=f then (k,v)::r else (k,x)::dQ f v r) from rfl]
  by_cases hk:k=f
  ·rw[Jc hk,Jr,Jr];omega
  ·rw[IY hk,Jr,Jr];omega
theorem RelO.some_of(r:RelO (some v) o):∃u,o=some u/\RelV v u:=by
 cases o with
 |none=>exact (show False from r).elim
 |some u=>exact⟨u,rfl,r⟩
theorem RelO.none_of(r:RelO none o):o=none:=by
 cases o with
 |none=>rfl
 |some u=>exact (show False from r).elim
theorem r8(r:RelV v u):PySem.W.handedIn u=true:=by
 cases v with
 |i_=>cases (show u=Value.none from r);rfl
 |bl b=>cases (show u=Value.bool b from r);rfl
 |int i=>obtain⟨t,e⟩:=(show ∃t,u=Value.int i t from r);cases e;rfl
 |str x=>obtain⟨t,e⟩:=(show ∃t,u=Value.str x t from r);cases e;rfl
 |OL b=>obtain⟨t,e⟩:=(show ∃t,u=Value.bytes b t from r);cases e;rfl
 |flt b=>obtain⟨t,e⟩:=(show ∃t,u=Value.float b t from r);cases e;rfl
 |ref a=>cases (show u=Value.ref a from r);rfl
 |ty n=>cases (show u=Value.type n from r);rfl
section
variable {P:Program}{w:World}{h h':Heap}{a:Addr}{fs:List (Str×V)}
theorem xy(h_:HOk P w H h)(e:H a=some (.ins C dx fs)):∃mA,ObjM h a dx C mA/\(∀f,RelO (fs.lookup f) (mA f))/\PySem.Within mA (fs.map (·.1))/\fs.length<=1000/\H dx=some (.own a):=by
 obtain⟨d,z,ne,ob,mA,n,r,q⟩:=(show ObjOk P w H h a (.ins C dx fs) from h_ a _ e);exact⟨mA,⟨ob,n,ne⟩,r,q,z,d⟩
end
structure Cls (K:Kc)(C:Addr):Prop where
 pg:PySem.W.plainGet K C Str.empty=true
 hd:PySem.W.hasDictIn K C=true
 po:PySem.W.plainOver K C=true
 sa:PySem.W.findIn K (.ref C) "__setattr__"=some (some (.builtin "object.__setattr__"))
theorem Cls.get{K:Kc}{C:Addr}(c:Cls K C)(f:Str):PySem.W.plainGet K C f=true:=c.pg
def NoAttr(K:Kc)(C:Addr)(f:Str):Prop:=PySem.W.findIn K (.ref C) f=some none
theorem NoAttr.taker{K:Kc}(n:NoAttr K C f):PySem.W.takerIn K C f=some none:=by
 unfold PySem.W.takerIn;rw[show PySem.W.findIn K (.ref C) f=some none from n];rfl
structure Meth (K:Kc)(C:Addr)(m:Str)(f:Addr):Prop where
 at_:PySem.W.findIn K (.ref C) m=some (some (.ref f))
 fn:PySem.W.isFn K (.ref f)=true
 kp:PySem.W.keepIn K (.ref f)=true
section
variable {X:Cx}{s:Shared}{a:Addr}{fs:List (Str×V)}{A:Around}
theorem qp(I:Inv X a_ Z H s)(e:H a=some (.ins C dx fs))(c:Cls X.K C)(n:NoAttr X.K C f)(hl:fs.length<1000)(ry:RelV y u)
  (h:∀s',Inv X a_ Z (upd H a (.ins C dx (dQ f y fs))) s'->Q () s'):wpAny (model X.prog X.w) A (setAttr (.ref a) f u) Q E s:=by
 obtain⟨mA,O,r,wi,_,ho⟩:=xy I.h_ e;have hz:(fs.map (·.1)).length<=sizeLine:=by rw[Jh,sizeLine_eq];omega
 refine wB I.kIn O c.sa c.po n.taker c.hd wi hz λh' O' sb=>h _ ?_
 have hd:∃o,h'.get? dx=some o:=let ⟨o,_,_,e',_⟩:=O'.ns;⟨o,e'⟩
 refine I.write (x:=a) (e:=dx) (by rw[e];exact True.intro) (.inr ho) (λb q hb z=>(sb.2 b hb).trans z) hd ?_
 refine⟨by rw[ae O.ne];exact ho,?_,O.ne,O'.obj,_,O'.ns,λg=>?_,λg hg=>?_⟩
 ·have:=i9 f y fs;omega
 ·show RelO ((dQ f y fs).lookup g) (if g=f then some u else mA g)
  rw[i6];by_cases q:g=f
  ·rw[Jc q,Jc q];exact ry
  ·rw[IY q,IY q];exact r g
 ·by_cases q:g=f
  ·rw[q];exact (i4 f y fs).1
  ·refine (i4 f y fs).2 g (wi g λz=>hg ?_)
   show (if g=f then some u else mA g)=none
   rw[IY q];exact z
theorem Inv.made(I:Inv X a_ Z H s):Inv X a_ Z (upd (upd H s.heap.objs.size (.own (s.heap.objs.size+1))) (s.heap.objs.size+1) (.ins C s.heap.objs.size []))
  {s with heap:=(s.heap.push PySem.W.emptyDict).push (PySem.W.instObj C s.heap.objs.size)}:=by
 have e1:(s.heap.push PySem.W.emptyDict).get? s.heap.objs.size=some PySem.W.emptyDict:=Jp s.heap rfl;have e2:((s.heap.push PySem.W.emptyDict).push (PySem.W.instObj C s.heap.objs.size)).get? (s.heap.objs.size+1)=some (PySem.W.instObj C s.heap.objs.size):=by
  have:=Jp (s.heap.push PySem.W.emptyDict) (o:=PySem.W.instObj C s.heap.objs.size) rfl
  rwa [Heap.size_push]at this
 have e3:(s.heap.push PySem.W.emptyDict).Ns s.heap.objs.size (λ_=>none):=⟨PySem.W.emptyDict,#[],_,e1,rfl,(λe he=>absurd he (by simp)),λ_=>rfl⟩
 have I1:=I.laid (a:=s.heap.objs.size) (o:=.own (s.heap.objs.size+1)) (h':=s.heap.push PySem.W.emptyDict) (t':=s.toks) (λb u q=>IW _ q) (Jg _) ⟨_,e1⟩
 refine I1.laid (a:=s.heap.objs.size+1) (o:=.ins C s.heap.objs.size []) (t':=s.toks) (λb u q=>IW _ q) (Nat.le_of_eq (Heap.size_push _ _)) ?_
 have ne:s.heap.objs.size≠s.heap.objs.size+1:=Js (Nat.lt_succ_self _);refine⟨by rw[ae ne,ag],Nat.zero_le _,ne,e2,λ_=>none,(Heap.Ns1.of_empty e3).at λo q=>IW _ q,λ_=>True.intro,λy hy=>absurd rfl hy⟩
theorem wl(hb:attributeBase e f env (eval e env)=eval e env)
  (h:wpAny (model prog w) A (eval e env) (λo p_=>wpAny (model prog w) A (getAttr o f true) Q E p_) E s):wpAny (model prog w) A (eval (.Attribute e f pos) env) Q E s:=
 Attribute_any_ h (by rw[arm_eval_Attribute,hb])
end
noncomputable def Gm(K:Kc)(ta tv:TE)(f:Str):TS:=λD Z H=>tv Z H λy H1=>ta Z H1 λx H2=>∃a C dx fs,x=.ref a/\H2 a=some (.ins C dx fs)/\Cls K C/\NoAttr K C f/\fs.length<1000/\
 D.nx Z (upd H2 a (.ins C dx (dQ f y fs)))
section
variable {X:Cx}{o:Expr}{pos:Pos}
theorem Ag(ha:PE X o ta)(hv:PE X value tv)(hs:swapsWith value (some (.Attribute o f G_)) pos.line X.env=pure false):PS X (.Assign [.Attribute o f G_] value pos) (Gm X.K ta tv f):=by
 intro a_ s Z H D I h;refine plainObj_wpAny_Assign_Attribute (thn (hv a_ s Z H _ I h) λu s1 ⟨y,H1,I1,ry,q⟩=>thn (ha a_ s1 Z H1 _ I1 q) λov s2 ⟨x,H2,I2,rx,a,C,dx,fs,ex,ea,c,n,l,q2⟩=>?_) hs
 subst ex;obtain rfl:ov=Value.ref a:=rx;exact qp I2 ea c n l ry λs3 I3=>⟨Z,_,I3,q2⟩
end
section
variable {X:Cx}{s:Shared}{A:Around}{c:Value}{b:Bool}
end
structure Room (k:Nat)(A:Around):Prop where
 hd:A.handled=none
 dp:A.depth+3*k+5<recursionLimit
 un:A.units+16*k+200<cLine
theorem Room.mono(r:Room k A)(h:j<=k):Room j A:=⟨r.hd,by have:=r.dp;omega,by have:=r.un;omega⟩
theorem Room.deeper{A:Around}(r:Room (k+1) A)(env:Env):Room k (A.deeper env):=
 ⟨r.hd,by have:=r.dp;show A.depth+1+3*k+5<_;omega,by have:=r.un;show A.units+3+16*k+200<_;omega⟩
theorem pf{A:Around}:(A.under (.builtin "type.__call__" ⟨.ref C::us,kw⟩)).depth=A.depth+1:=by
 first|rfl|simp[Around.under,Code.weight,Code.isCreation,Code.isGuard,Code.isCaller,Code.frames,Code.isFrame,guardIds]
theorem pF{A:Around}:(A.under (.builtin "type.__call__" ⟨.ref C::us,kw⟩)).units=A.units+1:=by
 first|rfl|simp[Around.under,Code.cUnits,Code.frames,Code.isFrame]
theorem Room.make{A:Around}(r:Room (k+1) A)(C:Addr)(us:List Value)(kw:List (Str×Value)):Room k (A.under (.builtin "type.__call__" ⟨.ref C::us,kw⟩)):=
 ⟨r.hd,by have:=r.dp;rw[pf];omega,by have:=r.un;rw[pF];omega⟩
theorem Room.depth{A:Around}(r:Room k A):A.depth<recursionLimit:=by have:=r.dp;omega
theorem Room.units{A:Around}(r:Room k A):A.units+64<cLine:=by have:=r.un;omega
noncomputable def tNil:TA:=λ_ H Q=>Q [] H
noncomputable def yi(ta:TE)(tr:TA):TA:=λZ H Q=>ta Z H λx H1=>tr Z H1 λxs H2=>Q (x::xs) H2
section
variable {X:Cx}{pos:Pos}
theorem pa_nil:PA X [] tNil:=λ_ _ _ _ H Q I h=>Calls.spliced_nil ⟨[],H,I,.nil,h⟩
theorem aB(ha:PE X e te)(hr:PA X es t)(hs:starEach (e::es) X.env=(false,eval e X.env)::starEach es X.env:=by rfl):PA X (e::es) (yi te t):=by
 intro pos a_ s Z H Q I h;rw[hs];show wpAny _ _ (spliced ((false,eval e X.env)::backTo pos (starEach es X.env))) _ _ s;refine Calls.spliced_cons (thn (ha a_ s Z H _ I h) λu s1 ⟨x,H1,I1,r1,q1⟩=>?_)
 exact thn (hr pos a_ s1 Z H1 _ I1 q1) λus s2 ⟨xs,H2,I2,r2,q2⟩=>⟨x::xs,H2,I2,.cons r1 r2,q2⟩
noncomputable def Fs(t:TA):TE:=λZ H Q=>t Z H λxs H1=>xs.length<=sizeLine/\∀p,H1 p=none->Q (.ref p) (upd H1 p (.tup xs))
noncomputable def FG(t:TA):TE:=λZ H Q=>t Z H λxs H1=>xs.length<=sizeLine/\∀p,H1 p=none->Q (.ref p) (upd H1 p (.lst xs))
theorem Bv{x1}(h:PA X es t):PE X (.Tuple es x1 pos) (Fs t):=by
 intro a_ s Z H Q I hq;refine wpAny_Tuple_spliced (thn (h pos a_ s Z H _ I hq) λus s1 ⟨xs,H1,I1,r,z,q⟩=>⟨by rw[<-r.length];exact z,?_⟩)
 have hf:H1 s1.heap.objs.size=none:=I1.h_.fresh (Jg _);refine⟨.ref s1.heap.objs.size,upd H1 s1.heap.objs.size (.tup xs),I1.laid (t':=s1.toks) (λb u e=>IW _ e) (Jg _) ?_,rfl,q _ hf⟩
 exact⟨z,us,r,⟨_,Jp _ rfl,rfl,_,rfl⟩⟩
theorem AL(h:PA X es t):PE X (.List es pos) (FG t):=by
 intro a_ s Z H Q I hq;refine wpAny_List_spliced (thn (h pos a_ s Z H _ I hq) λus s1 ⟨xs,H1,I1,r,z,q⟩=>⟨by rw[<-r.length];exact z,?_⟩)
 have hf:H1 s1.heap.objs.size=none:=I1.h_.fresh (Jg _);refine⟨.ref s1.heap.objs.size,upd H1 s1.heap.objs.size (.lst xs),I1.laid (t':=s1.toks) (λb u e=>IW _ e) (Jg _) ?_,rfl,q _ hf⟩
 exact⟨z,us,0,r,Jp _ rfl⟩
end
noncomputable abbrev Sp:=List V->Hp->VK->XK->Prop
noncomputable abbrev CXT:=List Env->Hp->Shared->XK->Value->Shared->Prop
structure Env0 (P:Program)(w:World)(K:Kc)(mg:Str->Option Value)(base:Heap)(A:Around)(outer:List Env)(s:Shared)(H:Hp):Prop where
 frames:A.frames=some outer
 mod:Mod K mg base
 bs:∀b o,base.get? b=some o->s.heap.get? b=some o/\H b=none
 bsz:base.objs.size<=s.heap.objs.size
 funs:s.heap.FunFrames base outer
 frf:∀b∈frs outer,H b=none
 h_:HOk P w H s.heap
 bare:AllBare s.gens
def CE(outer:List Env)(P:Program)(w:World)(H:Hp)(s:Shared)(Q:VK)(u:Value)(s':Shared):Prop:=
 ∃v H',s'.os=s.os/\AllBare s'.gens/\Un (frs outer) [] H H' s.heap s'.heap/\HOk P w H' s'.heap/\RelV v u/\Q v H'
def CR(CX:CXT)(outer:List Env)(P:Program)(w:World)(H:Hp)(s:Shared)(Q:VK)(E:XK)(r:Result)(s':Shared):Prop:=
 match r with
 |.ok (.ret u)=>CE outer P w H s Q u s'
 |.ok _=>False
 |.error e=>CX outer H s E e s'
structure FnOk (P:Program)(w:World)(K:Kc)(mg:Str->Option Value)(base:Heap)(CX:CXT)(k:Nat)(f:Addr)(fd:FuncData)(ps:List Str)(sp:Sp):Prop where
 len:∀vs H Q E,sp vs H Q E->vs.length=ps.length
 run:∀(A:Around)(outer:List Env)(s:Shared)(H:Hp)(args:Args)(us:List Value)(vs:List V)(Q:VK)(E:XK),Room k A->Env0 P w K mg base A outer s H->BindsTo s fd args (ps.zip us)->Vals vs us->sp vs H Q E->
  codeAny (model P w) A (.call (.ref f) args) (CR CX outer P w H s Q E) s
theorem Env0.make{K:Kc}{A:Around}(e:Env0 P w K mg base A outer s H)(C:Addr)(us:List Value)(kw:List (Str×Value)) :
  Env0 P w K mg base (A.under (.builtin "type.__call__" ⟨.ref C::us,kw⟩)) outer s H:=⟨by first|exact e.frames|(simpa [Around.under,Code.envs,Code.isFrame,pushEnvs] using e.frames),e.mod,e.bs,e.bsz,e.funs,e.frf,e.h_,e.bare⟩
section
variable {X:Cx}{s:Shared}
theorem Inv.env0(I:Inv X a_ Z H s):Env0 X.prog X.w X.K X.mg X.base X.A X.stack s H:=
 ⟨I.ok.frames,I.ok.mod,I.bs,Jw I.ok.bsz I.sz,I.stack,I.stkFree,I.h_,I.bare⟩
theorem Inv.after(I:Inv X a_ Z H s)(h:CE X.stack X.prog X.w H s Q u s'):EP X a_ Z Q u s':=by
 obtain⟨v,H',os,bare,un,h_,r,q⟩:=h;obtain⟨hh,g,d,t,RT⟩:=s';obtain rfl:RT=s.os:=os;exact⟨v,H',I.call (h':=hh) (g':=g) (d':=d) (t':=t) (ch:=[]) un h_ bare (λb z=>absurd z (by simp)),r,q⟩
end
def Binds(K:Kc)(fd:FuncData)(ps:List Str)(ds:List Value):Prop:=
 ∀(s:Shared)(us:List Value),K.In s.heap->(us++ds).length=ps.length->BindsTo s fd ⟨us,[]⟩ (ps.zip (us++ds))
theorem Binds.all{K:Kc}{ps:List Str}(h:∀us:List Value,us.length=ps.length->bindArgs fd ⟨us,[]⟩=pure (ps.zip us)):Binds K fd ps []:=λs us _ hl=>by
 rw[JV]at hl ⊢;exact .of_eq (h us hl)
def zj(CX:CXT)(X:Cx)(E:XK):Prop:=∀(a_:List (Addr×Obj)) (Z:St)(H:Hp)(s:Shared)(e:Value)(s':Shared),Inv X a_ Z H s->CX X.stack H s E e s'->X.xe e s'
section
variable {X:Cx}{k:Nat}{ps:List Str}{x:Str}{p pos o_:Pos}{o:Expr}
structure Mk (K:Kc)(C f:Addr):Prop where
 makes:PySem.W.makesIn K C=true
 init:PySem.W.findIn K (.ref C) "__init__"=some (some (.ref f))
 fn:PySem.W.isFn K (.ref f)=true
 kp:PySem.W.keepIn K (.ref C)=true
end
section
variable {X:Cx}{k:Nat}{ps ks:List Str}{x:Str}{p pos o_:Pos}{o:Expr}
end
structure FnScope (N P:List Str)(sc:Scope):Prop where
 kind:sc.kind=.function
 co:sc.isCoroutine=false
 gen:sc.isGenerator=false
 nd:N.Nodup
 pre:N.take P.length=P
 par:∀x∈P,sc.names.lookup x=some .local\/sc.names.lookup x=some .cell
 nofree:∀y∈sc.names,y.2≠.free
theorem k8{kindOf:Str->Option NameKind}{x:Str}:∀{K4:List (Str×Value)}{m:Str->Option Value},(∀v,(x,v)∉K4)->bindL kindOf K4 m x=m x
 |[],_,_=>rfl
 |(n,v)::r,m,h=>by
  unfold bindL;rw[k8 λw hw=>h w (IX _ hw)]
  split
  ·have:x≠n:=by rintro rfl;exact h v Jd
   simp[this]
  ·rfl
theorem lR{kindOf:Str->Option NameKind}{x:Str}:∀{K4:List (Str×Value)}{m:Str->Option Value},(∀v,(x,v)∉K4)->bindC kindOf K4 m x=m x
 |[],_,_=>rfl
 |(n,v)::r,m,h=>by
  unfold bindC;rw[lR λw hw=>h w (IX _ hw)]
  split
  ·rfl
  ·have:x≠n:=by rintro rfl;exact h v Jd
   simp[this]
theorem lf{kindOf:Str->Option NameKind}{x:Str}{v:Value}:∀{P:List Str}{vs:List Value}{i:Nat}{m:Str->Option Value},P.Nodup->P[i]?=some x->vs[i]?=some v->kindOf x=some .local->
  bindL kindOf (P.zip vs) m x=some v
 |[],_,_,_,_,h,_,_=>by simp at h
 |_::_,[],_,_,_,_,h,_=>by simp at h
 |p::P,w::vs,0,m,nd,h1,h2,hk=>by
  simp at h1 h2;subst h1;subst h2;show bindL kindOf ((p,w)::P.zip vs) m p=_;unfold bindL;rw[k8 λv hv=>(Jo.mp nd).1 (List.of_mem_zip hv).1,Jc hk]
  simp
 |p::P,w::vs,i+1,m,nd,h1,h2,hk=>by
  show bindL kindOf ((p,w)::P.zip vs) m x=_;unfold bindL;exact lf (i:=i) (Jo.mp nd).2 (by simpa using h1) (by simpa using h2) hk
theorem lx{kindOf:Str->Option NameKind}{x:Str}{v:Value}:∀{P:List Str}{vs:List Value}{i:Nat}{m:Str->Option Value},P.Nodup->P[i]?=some x->vs[i]?=some v->kindOf x≠some .local->
  bindC kindOf (P.zip vs) m x=some v
 |[],_,_,_,_,h,_,_=>by simp at h
 |_::_,[],_,_,_,_,h,_=>by simp at h
 |p::P,w::vs,0,m,nd,h1,h2,hk=>by
  simp at h1 h2;subst h1;subst h2;show bindC kindOf ((p,w)::P.zip vs) m p=_;unfold bindC;rw[lR λv hv=>(Jo.mp nd).1 (List.of_mem_zip hv).1,IY hk]
  simp
 |p::P,w::vs,i+1,m,nd,h1,h2,hk=>by
  show bindC kindOf ((p,w)::P.zip vs) m x=_;unfold bindC;exact lx (i:=i) (Jo.mp nd).2 (by simpa using h1) (by simpa using h2) hk
noncomputable def start(N:List Str)(vs:List V):St:=vs.map some++List.replicate (N.length-vs.length) none
noncomputable def cC(CX:CXT)(P:Program)(w:World)(K:Kc)(mg:Str->Option Value)(base:Heap)(N:List Str)(qual:Str)(scope:Scope)(f:Addr)(cd:Value)(A:Around)(outer:List Env)(s:Shared)(H:Hp)(E:XK):Cx where
 prog:=P
 w:=w
 K:=K
 mg:=mg
 base:=base
 A:=A.deeper (envOfC qual scope s.heap.objs.size f cd)
 N:=N
 s₀:=s
 H₀:=H
 env:=envOfC qual scope s.heap.objs.size f cd
 outer:=outer
 stack:=envOfC qual scope s.heap.objs.size f cd::outer
 ex:=[]
 calm:=true
 fn:=λ_=>true
 pn:=[]
 xe:=λe s'=>wpAny (model P w) (A.deeper (envOfC qual scope s.heap.objs.size f cd)) (leaving (envOfC qual scope s.heap.objs.size f cd) e) (λ_ NO=>CX outer H s E e NO) (λe' NO=>CX outer H s E e' NO) s'
theorem nX{sc:Scope}(h:sc.names.lookup x=some .cell):∃c,(cellsFrom n sc.names []).lookup x=some c:=by
 have q:=PySem.W.cellsFrom_some sc.names n [] (.inl h);exact J4.mp q
theorem sr{K:Kc}{ps:List Str}{scope:Scope}{A:Around}{s:Shared}{vs:List V}
  (S:FnScope N ps scope) (hd:A.handled=none) (e0:Env0 P w K mg base A outer s H) (hl:vs.length=ps.length) (r:Vals vs us)
  (x:InCallC s s.heap.objs.size (bindL (envOfC qual scope s.heap.objs.size f cd).kindOf (ps.zip us) λ_=>none) (cellsFrom (s.heap.objs.size+1) scope.names []) (bindC (envOfC qual scope s.heap.objs.size f cd).kindOf (ps.zip us) λ_=>none) s1) :
  Inv (cC CX P w K mg base N qual scope f cd A outer s H E) [] (start N vs) H s1:=by
 have E_:ps.length<=N.length:=by have:=congrArg List.length S.pre;rw[List.length_take]at this;omega
 obtain⟨h1,tk,rfl,hk⟩:=x.done;have NP:∀b:Addr,b∉(cC CX P w K mg base N qual scope f cd A outer s H E).ex:=λb z=>absurd (show b∈([]:List Addr) from z) (by simp)
 refine⟨⟨e0.mod,S.kind,rfl,rfl,Jg _,λy z c h1 h2=>?_,λy hy=>?_,λy c _ h=>?_,λ_=>hd,Around.frames_deeper e0.frames,.inr ⟨rfl,rfl⟩,λb z=>absurd z (NP b),e0.bs,e0.bsz,λb _ _=>NP b,λb z=>absurd z (NP b),e0.funs,e0.frf⟩,
  rfl,e0.bare,Un.kept hk,⟨_,x.toInCall.ns,λi y v h1 h2 h3=>?_⟩,λy c h=>⟨_,x.cell y c h⟩,e0.h_.fresh (Jg _),λy c h=>?_,λp hp=>absurd (show p∈([]:List (Addr×Obj)) from hp) (by simp),e0.h_.kept hk,?_⟩
 ·exact name_of_addr x.apart (PySem.mem_of_lookup h1) (PySem.mem_of_lookup h2)
 ·have hy:scope.names.lookup y=some .cell\/scope.names.lookup y=some .free:=hy;rcases hy with hy|hy
  ·exact nX hy
  ·exact absurd rfl (S.nofree _ (PySem.mem_of_lookup hy))
 ·exact Nat.le_of_lt (x.above y c (PySem.mem_of_lookup h))
 ·have hi:i<vs.length:=by
   unfold start at h2;by_cases hi:i<vs.length
   ·exact hi
   ·rw[List.getElem?_append_right (by simpa using hi)]at h2
    rw[List.getElem?_replicate]at h2;split at h2<;>cases h2
  have ha:vs[i]?=some v:=by
   unfold start at h2;rw[List.getElem?_append_left (by simpa using hi),JJ]at h2
   cases e:vs[i]? with
   |none=>rw[e]at h2;cases h2
   |some a=>rw[e]at h2;cases h2;rfl
  obtain⟨u,hu,rv⟩:=r.get ha;have hp:ps[i]?=some y:=by
   rw[<-S.pre,List.getElem?_take_of_lt (by omega)];exact h1
  have QT:ps.Nodup:=by rw[<-S.pre];exact S.nd.sublist (List.take_sublist _ _)
  refine⟨u,rv,?_⟩;rcases S.par y (Jy hp) with k|k
  ·exact .inl ⟨k,lf QT hp hu k⟩
  ·obtain⟨c,e⟩:=nX (n:=s.heap.objs.size+1) k;refine .inr ⟨.inl k,c,e,?_⟩;have q:=x.cell y c e;rw[lx QT hp hu (by show scope.names.lookup y≠_;rw[k];decide)]at q
   exact q
 ·exact e0.h_.fresh (Nat.le_of_lt (x.above y c (PySem.mem_of_lookup h)))
 ·unfold start;show _=N.length;rw[JG,Jh,List.length_replicate];omega
theorem uP{CX:CXT}{P:Program}{w:World}{K:Kc}{mg:Str->Option Value}{base:Heap}{k:Nat}{f:Addr}{name qual:Str}{params:Arguments}{body:List Stmt}{scope:Scope}{dV kV doc pm Kd ct oc:Value}{an od:Option Addr}
  {KW:Array (Option Value)}{N ps:List Str}{sp:Sp} (lk:K.lookup f=some ⟨oc,od,.func (PySem.W.fnOf name qual params body scope dV kV doc pm an Kd ct),KW⟩) (Kx:PySem.W.codeIn K Kd qual=true) (S:FnScope N ps scope)
  (len:∀vs H Q E,sp vs H Q E->vs.length=ps.length)
  (NQ:∀(A:Around)(outer:List Env)(s:Shared)(H:Hp)(vs:List V)(Q:VK)(E:XK),Room k (A.deeper (envOfC qual scope s.heap.objs.size f Kd))->sp vs H Q E->
   ∃t,PSs (cC CX P w K mg base N qual scope f Kd A outer s H E) body t/\t {nx:=λ_ H'=>Q .i_ H',rt:=Q} (start N vs) H) :
  FnOk P w K mg base CX (k+1) f (PySem.W.fnOf name qual params body scope dV kV doc pm an Kd ct) ps sp:=by
 refine⟨len,λA outer s H args us vs Q E hr e0 hb r LC=>?_⟩
 have hl:=len _ _ _ _ LC;have KX:K.In s.heap:=e0.mod.kin.keeps λb o e=>(e0.bs b o e).1
 have TZ:s.heap.NoLimit:=e0.mod.nolimit.keeps λb o e=>(e0.bs b o e).1
 have NS:∀y∈ps.zip us,scope.names.lookup y.1=some .local\/(scope.names.lookup y.1=some .cell/\((cellsFrom (s.heap.objs.size+1) scope.names []).lookup y.1).isSome=true):=λ⟨n,v⟩ hy=>by
  rcases S.par n (List.of_mem_zip hy).1 with q|q
  ·exact .inl q
  ·exact .inr ⟨q,PySem.W.cellsFrom_some _ _ _ (.inl q)⟩
 refine codeAny_call_function hr.depth (KX _ _ lk) rfl S.co S.gen rfl (PySem.W.codeRec_of KX Kx) (hb _ _ _ _ ?_);refine wpAny_newFunctionEnv_cells S.kind NS λenv he s1 x=>?_
 subst he;refine⟨TZ.keeps x.toInCall.keep,codeAny_func ?_⟩;obtain⟨t,ht,hq⟩:=NQ A outer s H vs Q E (hr.deeper _) LC;have I:Inv (cC CX P w K mg base N qual scope f Kd A outer s H E) [] (start N vs) H s1:=sr S hr.hd e0 hl r x;refine JT (ht [] s1 (start N vs) H _ I hq) (λfl s' hs=>?_) λe s' hs=>hs
 have fin:∀{n_:St}{H':Hp}{v:V}{u:Value},Inv (cC CX P w K mg base N qual scope f Kd A outer s H E) [] n_ H' s'->RelV v u->Q v H'->CE outer P w H s Q u s':=
  λ{n_ H' v u} J rv q=>⟨v,H',J.os,J.bare,J.base,J.h_,rv,q⟩
 cases fl with
 |ret u=>
  obtain⟨v,n_,H',J,rv,q⟩:=hs;exact fin J rv q
 |next=>
  obtain⟨n_,H',J,q⟩:=hs;exact fin (v:=V.i_) (u:=Value.none) J rfl q
 |brk=>
  obtain⟨_,_,_,q⟩:=hs;exact False.elim q
 |cont=>
  obtain⟨_,_,_,q⟩:=hs;exact False.elim q
section
variable {X:Cx}{x:Str}{p pos:Pos}{id:String}
noncomputable def tCB(r:List V->Hp->VK->Prop)(t:TA):TE:=λZ H Q=>t Z H λvs H1=>r vs H1 Q
theorem fq(hc:CallR X (.builtin id) r)(hg:Gl X x)(hm:X.mg x=none)(hv:bootBuiltins x=some (.builtin id))(ha:PA X (e::es) t)(hn:x≠"__name__":=by decide)(A_:(x == ("__debug__" : Str))=false:=by decide)
  (he:starEach (e::es) X.env=(false,eval e X.env)::starEach es X.env:=by rfl) (E_:(backTo pos (starEach es X.env)).any (·.1)=false:=by rfl):PE X (.Call (.Name x p) (e::es) [] pos) (tCB r t):=by
 intro a_ s Z H Q I h;refine wpAny_Call_Name_kw (dF I hg hm hv ?_ hn A_);exact PyProof.Rows.callWith_builtin1 (thn (ha pos a_ s Z H _ I h) λus s1 ⟨vs,H1,I1,r1,q1⟩=>hc a_ s1 Z H1 vs us Q I1 r1 q1) he E_
theorem sf(hc:CallR X (.type T) r)(hg:Gl X x)(hm:X.mg x=none)(hv:bootBuiltins x=some (.type T))(ha:PA X (e::es) t)(hn:x≠"__name__":=by decide)(A_:(x == ("__debug__" : Str))=false:=by decide)
  (he:starEach (e::es) X.env=(false,eval e X.env)::starEach es X.env:=by rfl) (E_:(backTo pos (starEach es X.env)).any (·.1)=false:=by rfl):PE X (.Call (.Name x p) (e::es) [] pos) (tCB r t):=by
 intro a_ s Z H Q I h;refine wpAny_Call_Name_kw (dF I hg hm hv ?_ hn A_);exact PyProof.Rows.callWith_type1 (thn (ha pos a_ s Z H _ I h) λus s1 ⟨vs,H1,I1,r1,q1⟩=>hc a_ s1 Z H1 vs us Q I1 r1 q1) he E_
end
section
variable [DecidableEq κ]
noncomputable def eY(l_:List (κ×V))(k:κ):Option V:=(l_.find? λkv=>decide (kv.1=k)).map (·.2)
noncomputable def fJ(l_:List (κ×V))(k:κ)(v:V):List (κ×V):=
 if (l_.any λkv=>decide (kv.1=k))=true then l_.map (λkv=>if kv.1=k then (kv.1,v) else kv) else l_++[(k,v)]
theorem fG{p:κ×V}(e:p.1=k):eY (p::r) k=some p.2:=by simp[eY,JU,e]
theorem dZ{p:κ×V}(e:¬ p.1=k):eY (p::r) k=eY r k:=by simp[eY,JU,e]
theorem oG(k:κ):∀l_:List (κ×V),(l_.any λkv=>decide (kv.1=k))=(eY l_ k).isSome
 |[]=>rfl
 |p::r=>by
  rw[List.any_cons];by_cases e:p.1=k
  ·simp only[fG e,decide_eq_true e,Bool.true_or,Option.isSome_some]
  ·rw[dZ e,JL e,Bool.false_or];exact oG k r
theorem je(l_:List (κ×V))(k:κ)(v:V):(fJ l_ k v).length<=l_.length+1:=by
 unfold fJ;split
 ·rw[Jh];omega
 ·rw[JG,Jr,List.length_nil];omega
theorem RelO.isSome_eq{o:Option V}{u:Option Value}(r:RelO o u):o.isSome=u.isSome:=by
 cases o with
 |none=>cases u with
  |none=>rfl
  |some _=>exact (show False from r).elim
 |some _=>cases u with
  |none=>exact (show False from r).elim
  |some _=>rfl
theorem RelO.getD{o:Option V}{u:Option Value}(r:RelO o u)(rd:RelV d d'):RelV (o.getD d) (u.getD d'):=by
 cases o with
 |none=>cases u with
  |none=>exact rd
  |some _=>exact (show False from r).elim
 |some _=>cases u with
  |none=>exact (show False from r).elim
  |some _=>exact r
theorem KV.val(r:KV l_ vs)(k:κ):RelO (eY l_ k) (valueAt vs k):=by
 unfold KV at r
 induction r with
 |nil=>exact True.intro
 |@cons p q ps qs h t ih=>
  obtain⟨h1,h2⟩:=h;by_cases e:p.1=k
  ·have e':q.1=k:=h1.symm.trans e;have b:valueAt (q::qs) k=some q.2:=by simp[valueAt,JU,e']
   rw[fG e,b];exact h2
  ·have e':¬ q.1=k:=λz=>e (h1.trans z)
   have b:valueAt (q::qs) k=valueAt qs k:=by simp[valueAt,JU,e']
   rw[dZ e,b];exact ih
theorem KV.any{l_:List (κ×V)}{vs:List (κ×Value)}(r:KV l_ vs)(k:κ):(l_.any λkv=>decide (kv.1=k))=vs.any λkv=>decide (kv.1=k):=by
 unfold KV at r
 induction r with
 |nil=>rfl
 |cons h t ih=>rw[List.any_cons,List.any_cons,ih,h.1]
theorem KV.repl{l_:List (κ×V)}{vs:List (κ×Value)}(r:KV l_ vs)(k:κ)(ry:RelV y u) :
  KV (l_.map λkv=>if kv.1=k then (kv.1,y) else kv) (vs.map λkv=>if kv.1=k then (kv.1,u) else kv):=by
 unfold KV at r ⊢
 induction r with
 |nil=>exact .nil
 |@cons p q ps qs h t ih=>
  rw[Ji,Ji];refine .cons ?_ ih;obtain⟨h1,h2⟩:=h;by_cases e:p.1=k
  ·rw[Jc e,Jc (h1.symm.trans e)];exact⟨h1,ry⟩
  ·rw[IY e,IY (λz=>e (h1.trans z))];exact⟨h1,h2⟩
theorem KV.put(r:KV l_ vs)(k:κ)(ry:RelV y u):KV (fJ l_ k y) (stored vs k u):=by
 unfold fJ stored;rw[r.any k];by_cases e:(vs.any λkv=>decide (kv.1=k))=true
 ·rw[Jc e,Jc e];exact r.repl k ry
 ·rw[IY e,IY e];exact Paired.snoc r ⟨rfl,ry⟩
theorem KV.keys{l_:List (κ×V)}{vs:List (κ×Value)}(r:KV l_ vs):l_.map (·.1)=vs.map (·.1):=by
 unfold KV at r
 induction r with
 |nil=>rfl
 |cons h t ih=>rw[Ji,Ji,ih,h.1]
theorem KV.length{l_:List (κ×V)}{vs:List (κ×Value)}(r:KV l_ vs):l_.length=vs.length:=Paired.length r
end
theorem kz(r:RelV (kV k) u):(aI P w).is k u=true:=by
 cases k with
 |inl i=>obtain⟨t,e⟩:=(show ∃t,u=Value.int i t from r);subst e;exact m8 P w i t
 |inr x=>obtain⟨t,e⟩:=(show ∃t,u=Value.str x t from r);subst e;exact oV P w x t
theorem lH:∀{ks:List Key}{us:List Value},Vals (ks.map kV) us->ItemsAre (aI P w) ks us
 |[],_,r=>by rw[List.map_nil]at r;cases r;exact .nil
 |k::ks,_,r=>by
  rw[Ji]at r;cases r with
  |cons h t=>exact .cons (kz h) (lH t)
abbrev KT(H:Hp):List (List Key×V)->List (List Key×Addr×Value)->Prop:=Paired λp q=>p.1=q.1/\H q.2.1=some (.tup (p.1.map kV))/\RelV p.2 q.2.2
theorem KT.val(r:KT H l_ xs)(k:List Key):RelO (eY l_ k) ((atKey xs k).map (·.2)):=by
 induction r with
 |nil=>exact True.intro
 |@cons p q ps qs h t ih=>
  obtain⟨h1,_,h2⟩:=h;by_cases e:p.1=k
  ·have e':q.1=k:=h1.symm.trans e;have b:atKey (q::qs) k=some q.2:=by simp[atKey,JU,e']
   rw[fG e,b];exact h2
  ·have e':¬ q.1=k:=λz=>e (h1.trans z)
   have b:atKey (q::qs) k=atKey qs k:=by simp[atKey,JU,e']
   rw[dZ e,b];exact ih
theorem KT.repl{l_:List (List Key×V)}{xs:List (List Key×Addr×Value)}(r:KT H l_ xs)(k:List Key)(ry:RelV y u) :
  KT H (l_.map λkv=>if kv.1=k then (kv.1,y) else kv) (xs.map (putAt k u)):=by
 induction r with
 |nil=>exact .nil
 |@cons p q ps qs h t ih=>
  rw[Ji,Ji];refine .cons ?_ ih;obtain⟨h1,h2,h3⟩:=h;unfold putAt;by_cases e:p.1=k
  ·rw[Jc e,Jc (h1.symm.trans e)];exact⟨h1,h2,ry⟩
  ·rw[IY e,IY (λz=>e (h1.trans z))];exact⟨h1,h2,h3⟩
theorem KT.put(r:KT H l_ xs)(k:List Key)(hb:H b=some (.tup (k.map kV)))(ry:RelV y u) :
  KT H (fJ l_ k y) (storedH xs k b u):=by
 have e:(l_.any λkv=>decide (kv.1=k))=(atKey xs k).isSome:=by
  rw[oG,(r.val k).isSome_eq,Option.isSome_map]
 unfold fJ storedH;rw[e];by_cases q:(atKey xs k).isSome=true
 ·rw[Jc q,Jc q];exact r.repl k ry
 ·rw[IY q,IY q];exact Paired.snoc r ⟨rfl,hb,ry⟩
theorem KT.keeps(r:KT H l_ xs)(ht:∀b ys,H b=some (.tup ys)->H' b=some (.tup ys)):KT H' l_ xs:=
 Paired.mapP r λ_ _ z=>⟨z.1,ht _ _ z.2.1,z.2.2⟩
section
variable {w:World}{h:Heap}{a:Addr}
theorem yC(ok:HOk P w H h)(e:Rd H a u):ObjOk P w H h a u:=e.ok ok
theorem ja{l_:List (Key×V)}(ok:HOk P w H h)(e:Rd H a (.dK l_)):l_.length<=sizeLine/\(a == sysModules)=false/\∃vs,KV l_ vs/\h.DictOf (aI P w) a vs:=
 show ObjOk P w H h a (.dK l_) from yC ok e
theorem yQ{l_:List (Key×V)}(ok:HOk P w H h)(e:H a=some (.dK l_)):l_.length<=sizeLine/\(a == sysModules)=false/\∃vs,KV l_ vs/\h.DictOf (aI P w) a vs:=ja ok (.inl e)
theorem gP{ks:List Key}(ok:HOk P w H h)(e:H a=some (.tup (ks.map kV))):(tupleKind (aI P w)).is h ks a:=by
 obtain⟨_,its,r,o,h1,h2,n,h3⟩:=(show ObjOk P w H h a (.tup (ks.map kV)) from ok a _ e);exact⟨o,its.toArray,n,h1,h2,h3,by simpa using lH r⟩
theorem lB{l_:List (List Key×V)}(ok:HOk P w H h)(e:Rd H a (.dT l_)):l_.length<=sizeLine/\(a == sysModules)=false/\
  ∃xs,KT H l_ xs/\h.DictOfH (tupleKind (aI P w)) a xs:=by
 obtain⟨z,y,xs,r,o,es,ep,h1,h2,h3,h4,h5⟩:=(show ObjOk P w H h a (.dT l_) from yC ok e);refine⟨z,y,xs,r,o,es,ep,h1,h2,h3,h4,λx hx=>?_,h5⟩
 have all:∀{l:List (List Key×V)}{m:List (List Key×Addr×Value)},KT H l m->∀x∈m,(tupleKind (aI P w)).is h x.1 x.2.1:=by
  intro l m q
  induction q with
  |nil=>intro x hx;exact nomatch hx
  |@cons p q ps qs hq t ih=>
   intro x hx;rcases Jb.mp hx with e|hx
   ·subst e;exact gP ok (by rw[<-hq.1];exact hq.2.1)
   ·exact ih x hx
 exact all r x hx
theorem D1{l_:List (List Key×V)}(ok:HOk P w H h)(e:H a=some (.dT l_)):l_.length<=sizeLine/\(a == sysModules)=false/\
  ∃xs,KT H l_ xs/\h.DictOfH (tupleKind (aI P w)) a xs:=lB ok (.inl e)
end
def DGet(H:Hp)(a:Addr)(y:V)(r:Option V):Prop:=
 (∃l_ k,Rd H a (.dK l_)/\y=kV k/\r=eY l_ k)\/∃l_ k b,Rd H a (.dT l_)/\y=.ref b/\H b=some (.tup (k.map kV))/\r=eY l_ k
def DPut(H:Hp)(a:Addr)(y v:V)(H':Hp):Prop:=
 (∃l_ k,H a=some (.dK l_)/\y=kV k/\l_.length<sizeLine/\H'=upd H a (.dK (fJ l_ k v)))\/
 ∃l_ k b,H a=some (.dT l_)/\y=.ref b/\H b=some (.tup (k.map kV))/\l_.length<sizeLine/\H'=upd H a (.dT (fJ l_ k v))
section
variable {X:Cx}{s:Shared}{a:Addr}{y:V}{o:Option V}{A:Around}
theorem sk(hu:A.units+1<cLine)(I:Inv X a_ Z H s)(g:DGet H a y (some v))(ry:RelV y u)(h:∀w' s',Inv X a_ Z H s'->RelV v w'->Q w' s') :
  wpAny (model X.prog X.w) A (getItem (.ref a) u) Q E s:=by
 rcases g with ⟨l_,k,e,ey,l⟩|⟨l_,k,b,e,ey,eb,l⟩
 ·subst ey;obtain⟨z,hd,vs,H_,dd⟩:=ja I.h_ e;obtain⟨w',hw,Kp⟩:=RelO.some_of (v:=v) (o:=valueAt vs k) (by rw[l];exact H_.val k)
  exact wpAny_getItem_of (kz ry) dd.mapOf hw (h w' _ (I.tok _) Kp)
 ·subst ey;cases (show u=Value.ref b from ry);obtain⟨z,hd,xs,H_,dd⟩:=lB I.h_ e;obtain⟨w',hw,Kp⟩:=RelO.some_of (v:=v) (o:=(atKey xs k).map (·.2)) (by rw[l];exact H_.val k)
  obtain⟨p,hp,Pr⟩:=Option.map_eq_some_iff.mp hw;refine wpAny_getItem_heap (JI hu) (gP I.h_ eb) dd hp ?_;rw[Pr];exact h w' _ (I.tok _) Kp
theorem FN(hu:A.units+1<cLine)(I:Inv X a_ Z H s)(g:DGet H a y o)(ry:RelV y u)(h:∀s',Inv X a_ Z H s'->Q (.bool o.isSome) s') :
  wpAny (model X.prog X.w) A (compareOp .In u (.ref a)) Q E s:=by
 rcases g with ⟨l_,k,e,ey,l⟩|⟨l_,k,b,e,ey,eb,l⟩
 ·subst ey;obtain⟨z,hd,vs,H_,dd⟩:=ja I.h_ e;refine wpAny_in_of (kz ry) hd dd.mapOf ?_;rw[<-(H_.val k).isSome_eq,<-l];exact h _ (I.tok _)
 ·subst ey;cases (show u=Value.ref b from ry);obtain⟨z,hd,xs,H_,dd⟩:=lB I.h_ e;refine wpAny_in_heap (JI hu) (gP I.h_ eb) hd dd ?_;have q:=(H_.val k).isSome_eq;rw[Option.isSome_map]at q;rw[<-q,<-l];exact h _ (I.tok _)
theorem xM(hu:A.units+1<cLine)(I:Inv X a_ Z H s)(g:DGet H a y o)(ry:RelV y u)(h:∀s',Inv X a_ Z H s'->Q (.bool (!o.isSome)) s') :
  wpAny (model X.prog X.w) A (compareOp .NotIn u (.ref a)) Q E s:=by
 rcases g with ⟨l_,k,e,ey,l⟩|⟨l_,k,b,e,ey,eb,l⟩
 ·subst ey;obtain⟨z,hd,vs,H_,dd⟩:=ja I.h_ e;refine wpAny_notIn_of (kz ry) hd dd.mapOf ?_;rw[<-(H_.val k).isSome_eq,<-l];exact h _ (I.tok _)
 ·subst ey;cases (show u=Value.ref b from ry);obtain⟨z,hd,xs,H_,dd⟩:=lB I.h_ e;refine wpAny_notIn_heap (JI hu) (gP I.h_ eb) hd dd ?_;have q:=(H_.val k).isSome_eq;rw[Option.isSome_map]at q;rw[<-q,<-l];exact h _ (I.tok _)
theorem jp{h':Heap}(I:Inv X a_ Z H s)(mu:Mut (H a))(hs:Heap.SameBut a s.heap h')(he:∃q,h'.get? a=some q)(new:ObjOk X.prog X.w (upd H a ob) h' a ob) :
  Inv X a_ Z (upd H a ob) {s with heap:=h',toks:=t'}:=
 I.write (x:=a) (e:=a) mu (.inl rfl) (λb q hb z=>(hs.2 b hb).trans z) he new
theorem zC{h':Heap}{l_:List (Key×V)}(z:l_.length<=sizeLine)(hd:(a == sysModules)=false)(H_:KV l_ vs)(dd:h'.DictOf (aI P w) a vs) :
  ObjOk P w H' h' a (.dK l_):=⟨z,hd,vs,H_,dd⟩
theorem tz(hu:A.units+1<cLine)(I:Inv X a_ Z H s)(g:DPut H a y v H')(ry:RelV y u)(rv:RelV v r)(h:∀s',Inv X a_ Z H' s'->Q () s') :
  wpAny (model X.prog X.w) A (setItem (.ref a) u r) Q E s:=by
 rcases g with ⟨l_,k,e,ey,l,eH⟩|⟨l_,k,b,e,ey,eb,l,eH⟩
 ·subst ey eH;obtain⟨z,hd,vs,H_,dd⟩:=yQ I.h_ e;have hz:vs.length<=sizeLine:=by rw[<-H_.length];exact z
  have hl:(fJ l_ k v).length<=sizeLine:=by have:=je l_ k v;omega
  refine wpAny_setItem_pairs (hsz:=hz) (kz ry) dd λh' Mz hs=>h _ ?_
  have he:∃q,h'.get? a=some q:=let ⟨q,_,_,hq,_⟩:=Mz;⟨q,hq⟩
  exact jp I (by rw[e];exact True.intro) hs he (zC hl hd (H_.put k rv) Mz)
 ·subst ey eH;cases (show u=Value.ref b from ry);obtain⟨z,hd,xs,H_,dd⟩:=D1 I.h_ e;have hz:xs.length<=sizeLine:=by rw[<-Paired.length H_];exact z
  have hl:(fJ l_ k v).length<=sizeLine:=by have:=je l_ k v;omega
  refine wpAny_setItem_heap (hsz:=hz) (JI hu) (gP I.h_ eb) dd λh' Mz hs=>h _ ?_
  obtain⟨q,es,ep,hq,h2,h3,h4,_,h5⟩:=Mz;refine jp I (by rw[e];exact True.intro) hs ⟨q,hq⟩ ⟨hl,hd,_,(H_.put k eb rv).keeps λc ys ec=>?_,q,es,ep,hq,h2,h3,h4,h5⟩
  rw[ae (dU ec e (λz=>nomatch z))]
  exact ec
end
section
variable {X:Cx}{s:Shared}{a:Addr}{l_:List (Key×V)}{A:Around}
end
section
variable {X:Cx}{o:Expr}{pos:Pos}
end
section
variable {X:Cx}
end
structure M1 (X:Cx)(o:Expr)(m:Str)(o_:Pos)(e:Expr)(m_:Pos):Prop where
 base:attributeBase o m X.env (eval o X.env)=eval o X.env
 few:((backTo m_ (starEach [e] X.env)).all (λx=>!x.1)&&(backToKw m_ (keywordEach [] X.env)).all (λx=>x.1.isSome)
  &&decide (([e]:List Expr).length+([]:List Keyword).length+(if ([]:List Keyword).isEmpty then 0 else 1)<30))=true
 line:(o_.endLine == m_.line)=true
 trees:backTo m_ (starEach [e] X.env)=[(false,eval e X.env)]
structure M2 (X:Cx)(o:Expr)(m:Str)(o_:Pos)(e f:Expr)(m_:Pos):Prop where
 base:attributeBase o m X.env (eval o X.env)=eval o X.env
 few:((backTo m_ (starEach [e,f] X.env)).all (λx=>!x.1)&&(backToKw m_ (keywordEach [] X.env)).all (λx=>x.1.isSome)
  &&decide (([e,f]:List Expr).length+([]:List Keyword).length+(if ([]:List Keyword).isEmpty then 0 else 1)<30))=true
 line:(o_.endLine == m_.line)=true
 trees:backTo m_ (starEach [e,f] X.env)=[(false,eval e X.env),(false,eval f X.env)]
section
variable {X:Cx}{s:Shared}{a:Addr}{y d:V}{o:Option V}{A:Around}
theorem AZ(hu:A.units+1<cLine)(I:Inv X a_ Z H s)(g:DGet H a y o)(ry:RelV y u)(h:∀w' s',Inv X a_ Z H s'->RelV (o.getD .i_) w'->Q w' s') :
  wpAny (model X.prog X.w) A (call (.builtin "dict.get") [.ref a,u]) Q E s:=by
 rcases g with ⟨l_,k,e,ey,l⟩|⟨l_,k,b,e,ey,eb,l⟩
 ·subst ey;obtain⟨z,hd,vs,H_,dd⟩:=ja I.h_ e;refine call_meetsIn PySem.F.slot_dict_get dd.typeIs PySem.F.entry_dict_get (PySem.F.args_dict_get_2 _ _) (meets_dict_get (aI X.prog X.w) a (kz ry) hd) ⟨_,dd.mapOf,h _ _ (I.tok _) ?_⟩;rw[l];exact (H_.val k).getD rfl
 ·subst ey;cases (show u=Value.ref b from ry);obtain⟨z,hd,xs,H_,dd⟩:=lB I.h_ e;refine call_meetsIn PySem.F.slot_dict_get dd.typeIs PySem.F.entry_dict_get (PySem.F.args_dict_get_2 _ _) (meetsH_dict_get (tupleKind (aI X.prog X.w)) a b hd) ⟨JI hu,k,xs,gP I.h_ eb,dd,h _ _ (I.tok _) ?_⟩;rw[l];exact (H_.val k).getD rfl
theorem Ax(hu:A.units+1<cLine)(I:Inv X a_ Z H s)(g:DGet H a y o)(ry:RelV y u)(rd:RelV d r)(h:∀w' s',Inv X a_ Z H s'->RelV (o.getD d) w'->Q w' s') :
  wpAny (model X.prog X.w) A (call (.builtin "dict.get") [.ref a,u,r]) Q E s:=by
 rcases g with ⟨l_,k,e,ey,l⟩|⟨l_,k,b,e,ey,eb,l⟩
 ·subst ey;obtain⟨z,hd,vs,H_,dd⟩:=ja I.h_ e;refine call_meetsIn PySem.F.slot_dict_get dd.typeIs PySem.F.entry_dict_get (PySem.F.args_dict_get_3 _ _ _) (meets_dict_get_default (aI X.prog X.w) a (kz ry) hd r) ⟨_,dd.mapOf,h _ _ (I.tok _) ?_⟩;rw[l];exact (H_.val k).getD rd
 ·subst ey;cases (show u=Value.ref b from ry);obtain⟨z,hd,xs,H_,dd⟩:=lB I.h_ e;refine call_meetsIn PySem.F.slot_dict_get dd.typeIs PySem.F.entry_dict_get (PySem.F.args_dict_get_3 _ _ _) (meetsH_dict_get_default (tupleKind (aI X.prog X.w)) a b hd r) ⟨JI hu,k,xs,gP I.h_ eb,dd,h _ _ (I.tok _) ?_⟩;rw[l];exact (H_.val k).getD rd
end
section
variable {X:Cx}{o:Expr}
end
section
variable {X:Cx}{s:Shared}{a:Addr}{l_:List (Key×V)}{A:Around}
end
section
variable {X:Cx}{s:Shared}{a:Addr}{y:V}{A:Around}
end
end L2
namespace HT
open PySem PyProof.Rows
section
open PySem.SeqAt
open PySem.AutoSeq1 (wpAny_loadPart')
open PySem.MeetsSeq PySem.MeetsSeq2 PySem.MeetsSeq3
end
section
variable {w:World}{A:Around}{s:Shared}
theorem cat_tup{vs ws:List Value}(ht:IsTup s.heap t vs.toArray)(hb:IsTup s.heap b ws.toArray)(hv:vs≠[])
  (h1:ws=[]->Q (.ref t) s) (h2:ws≠[]->Q (.ref s.heap.objs.size) {s with heap:=s.heap.push {cls:=.type "tuple",data:=.seq (vs++ws).toArray}})
  (hsz:vs.length+ws.length<=sizeLine):wpAny (model prog w) A (binaryOp .Add (.ref t) (.ref b)) Q E s:=by
 obtain⟨⟨cls,dd,data,sl⟩,ho,hc,n,hd⟩:=id ht;obtain⟨⟨Pt,Nn,data2,Lk⟩,MO,hc2,n2,hd2⟩:=id hb;simp only at hc hd hc2 hd2;subst hc hd hc2 hd2;have e:vs.toArray++ws.toArray=(vs++ws).toArray:=by simp
 by_cases hw:ws=[]
 ·exact concat_meets ⟨_,ho,rfl⟩ ⟨_,MO,rfl⟩ noFill_tuple_add seq_tuple_add PySem.F.slot_tuple_add PySem.F.entry_tuple_add (PySem.F.args_tuple_add_2 _ _)
   (tuple_addW1 t b vs.toArray ws.toArray n n2 dd Nn sl Lk (by simpa using hv) (by simp[hw])) ⟨ho,MO,h1 hw⟩
 ·refine concat_meets ⟨_,ho,rfl⟩ ⟨_,MO,rfl⟩ noFill_tuple_add seq_tuple_add PySem.F.slot_tuple_add PySem.F.entry_tuple_add (PySem.F.args_tuple_add_2 _ _)
   (tuple_addW2 t b vs.toArray ws.toArray n n2 dd Nn sl Lk (by simpa using hv) (by simpa using hw) (by rw[List.size_toArray,List.size_toArray];exact hsz)) ⟨ho,MO,?_⟩
  rw[e];exact h2 hw
noncomputable def sIx(n d:Nat):Option Int->Nat
 |none=>d
 |some v=>if v<0 then (v+(n:Int)).toNat else min v.toNat n
theorem AS(n d:Nat)(hd:d<=n)(o:Option Int):sIx n d o<=n:=by
 cases o with
 |none=>exact hd
 |some v=>
  show (if v<0 then (v+(n:Int)).toNat else min v.toNat n)<=n
  by_cases hv:v<0
  ·rw[if_pos hv];omega
  ·rw[if_neg hv];exact Nat.min_le_right _ _
theorem qI(v:Int)(n d:Nat):(if v<0 then max (v+(n:Int)) 0 else min v (n:Int))=((sIx n d (some v):Nat):Int):=by
 show (if v<0 then max (v+(n:Int)) 0 else min v (n:Int))=(((if v<0 then (v+(n:Int)).toNat else min v.toNat n):Nat):Int)
 by_cases hv:v<0
 ·simp only[if_pos hv];omega
 ·simp only[if_neg hv];omega
theorem pE(lo hi:Option Int)(n:Nat):Builtin.Slice.sliceAdjust lo hi 1 (n:Int)=(((sIx n 0 lo:Nat):Int),((sIx n n hi:Nat):Int)):=by
 have h1:¬ ((1:Int)<0):=by omega
 unfold Builtin.Slice.sliceAdjust;simp only[h1,if_false];refine Prod.ext ?_ ?_
 ·cases lo with
  |none=>rfl
  |some v=>exact qI v n 0
 ·cases hi with
  |none=>rfl
  |some v=>exact qI v n n
theorem pX(i j:Nat):Builtin.Slice.slicePlaces (i:Int) (j:Int) 1=j-i:=by
 unfold Builtin.Slice.slicePlaces;have h1:(1:Int) > 0:=by omega
 simp only[h1,if_true,Int.ediv_one];split<;>omega
theorem j0(p:IsPart v o)(h:Q o s):wpAny (model prog w) A (Builtin.Slice.slicePartIndex v) Q E s:=by
 cases p with
 |none=>exact slicePart_none h
 |int i t=>exact slicePart_int h
theorem iZ{sl:Addr}{vl vu:Value}{lo hi:Option Int}{n:Nat}{Q:Int×Int×Nat->Shared->Prop}(hs:s.heap.IsSliceOf sl vl vu .none)(pl:IsPart vl lo)(pu:IsPart vu hi)
  (h:Q (((sIx n 0 lo:Nat):Int),1,sIx n n hi-sIx n 0 lo) s):wpAny (model prog w) A (Builtin.Slice.sliceApplied (.ref sl) (pure (n:Int))) Q E s:=by
 obtain⟨os,NT,OQ,OR⟩:=id hs;unfold Builtin.Slice.sliceApplied Builtin.Slice.sliceFields;refine wpAny_bind (wpAny_bind (wpAny_field NT OR (x:=vl) rfl (wpAny_bind (wpAny_field NT OR (x:=vu) rfl (wpAny_bind (wpAny_field NT OR (x:=.none) rfl (wpAny_pure ?_)))))));refine wpAny_bind (slicePart_none ?_);show wpAny _ _ (if ((1:Int) == 0)=true then _ else _) _ _ s
 rw[if_neg (by decide)]
 refine wpAny_bind (j0 pl (wpAny_bind (j0 pu (wpAny_bind (wpAny_pure ?_)))));show wpAny _ _ (match Builtin.Slice.sliceAdjust lo hi 1 (n:Int) with|(lo,hi)=>pure (lo,(1:Int),Builtin.Slice.slicePlaces lo hi 1)) _ _ s
 rw[pE lo hi n];show wpAny _ _ (pure (((sIx n 0 lo:Nat):Int),(1:Int),Builtin.Slice.slicePlaces ((sIx n 0 lo:Nat):Int) ((sIx n n hi:Nat):Int) 1)) _ _ s;rw[pX];exact wpAny_pure h
theorem ut(xs:Array Value)(i k:Nat):((List.range k).filterMap λ(m:Nat)=>xs[((i:Int)+(m:Int)*1).toNat]?).toArray=((xs.toList.drop i).take k).toArray:=by
 have e:(λ(m:Nat)=>xs[((i:Int)+(m:Int)*1).toNat]?)=λm=>xs[i+m]?:=by
  funext m;have:((i:Int)+(m:Int)*1).toNat=i+m:=by omega
  rw[this]
 rw[e];have:=pick_run xs i k;rw[List.filterMap_map]at this;have e2:((λx=>xs[x]?)∘λx=>i+x)=λm=>xs[i+m]?:=rfl
 rw[e2]at this;rw[this]
theorem getItem_tuple_cut{items:Array Value}{lo:Option Int}(ht:IsTup s.heap t items)(hs:s.heap.IsSliceOf sl vl vu .none)(pl:IsPart vl lo)(pu:IsPart vu hi)
  (hw:¬ (sIx items.size 0 lo=0/\sIx items.size items.size hi=items.size))
  (h:Q (.ref s.heap.objs.size) {s with heap:=s.heap.push {cls:=.type "tuple",data:=.seq ((items.toList.drop (sIx items.size 0 lo)).take (sIx items.size items.size hi-sIx items.size 0 lo)).toArray}})
  (hsz:items.size<=sizeLine):wpAny (model prog w) A (getItem (.ref t) (.ref sl)) Q E s:=by
 have Ld:sizeOk (.seq ((items.toList.drop (sIx items.size 0 lo)).take (sIx items.size items.size hi-sIx items.size 0 lo)).toArray):=by
  show ((items.toList.drop (sIx items.size 0 lo)).take (sIx items.size items.size hi-sIx items.size 0 lo)).toArray.size<=sizeLine;rw[List.size_toArray,List.length_take,List.length_drop,Array.length_toList];omega
 have hj:sIx items.size items.size hi<=items.size:=AS _ _ (Nat.le_refl _) hi;obtain⟨os,NT,OQ,OR⟩:=id hs;have RU:s.TypeIs (.ref sl) "slice":=⟨os,NT,OQ⟩;unfold getItem
 try with_reducible refine wpAny_holding ?_
 first|refine wpAny_bind (wpAny_pure ?_)|skip
 refine wpAny_bind (wpAny_sequenceKey ht.typeIs (by decide) ?_)
 refine wpAny_bind (wpAny_callSpecial?_slot (name:=Str.ofString "__getitem__") ht.typeIs PyProof.Rows.slot_tuple_getitem
  (wpAny_call_entry PyProof.Rows.slot_tuple_getitem ht.typeIs entry_tuple_getitem ?_ (args_tuple_getitem _ _)))
 show wpAny _ _ (Builtin.Tuple.tupleItemsOf (.ref t) >>=_) _ _ s;refine wpAny_bind (tupleItemsOf_ ht ?_);refine wpAny_bind (wpAny_typeOf RU ?_);rw[if_pos (by decide)]
 refine wpAny_bind (iZ hs pl pu ?_);have NU:¬ ((((sIx items.size 0 lo:Nat):Int) == 0&&(1:Int) == 1&&(sIx items.size items.size hi-sIx items.size 0 lo) == items.size)=true):=by
  intro q;rw[Bool.and_eq_true,Bool.and_eq_true]at q;have q1:((sIx items.size 0 lo:Nat):Int)=0:=eq_of_beq q.1.1;have q2:sIx items.size items.size hi-sIx items.size 0 lo=items.size:=eq_of_beq q.2;exact hw ⟨by omega,by omega⟩
 show wpAny _ _ (if (((sIx items.size 0 lo:Nat):Int) == 0&&(1:Int) == 1&&(sIx items.size items.size hi-sIx items.size 0 lo) == items.size)=true then _ else _) _ _ s
 rw[if_neg NU,ut]
 first
  |exact wpAny_bind (m:=Builtin.Tuple.tupleExact _) (wpAny_newObj_type (wpAny_pure ⟨_,rfl,wpAny_pure h⟩) Ld)
  |exact wpAny_bind (m:=Builtin.Tuple.tupleExact _) (wpAny_newObj_type (wpAny_bind (wpAny_pure (wpAny_pure ⟨_,rfl,wpAny_pure h⟩))) Ld)
  |exact wpAny_bind (wpAny_bind (m:=Builtin.Tuple.tupleExact _) (wpAny_newObj_type (wpAny_pure (wpAny_pure ⟨_,rfl,wpAny_pure h⟩)) Ld))
  |exact wpAny_bind (wpAny_bind (m:=Builtin.Tuple.tupleExact _) (wpAny_newObj_type (wpAny_pure ⟨_,rfl,wpAny_pure h⟩) Ld))
end
end HT
namespace L2
open PySem PySem.Spec PyProof.Rows
noncomputable abbrev TO:=St->Hp->(Option Int->Hp->Prop)->Prop
def PO(X:Cx)(e:Option Expr)(t:TO):Prop:=
 ∀(a_:List (Addr×Obj)) (s:Shared)(Z:St)(H:Hp)(Q:Option Int->Hp->Prop),Inv X a_ Z H s->t Z H Q->
  wpAny (model X.prog X.w) X.A (evalPart e X.env) (λu s'=>∃o H',Inv X a_ Z H' s'/\IsPart u o/\Q o H') X.xe s
noncomputable def tNoPart:TO:=λ_ H Q=>Q none H
noncomputable def DI(t:TE):TO:=λZ H Q=>t Z H λx H1=>∃i,x=.int i/\Q (some i) H1
theorem p8{ns:List Int}:∀{us:List Value},Vals (ns.map V.int) us->IntsAre us ns:=by
 induction ns with
 |nil=>intro us r;rw[List.map_nil]at r;cases r;exact .nil
 |cons n ns ih=>
  intro us r;rw[Ji]at r;cases r with
  |cons r1 r2=>
   obtain⟨t,e⟩:=r1;subst e;exact .cons n t (ih r2)
section
variable {X:Cx}{lo:Option Expr}
theorem po_none:PO X none tNoPart:=by
 intro a_ s Z H Q I h;rw[evalPart_none];exact IZ ⟨none,H,I,.none,h⟩
theorem wI(h:PE X e te):PO X (some e) (DI te):=by
 intro a_ s Z H Q I hw;rw[evalPart_some];refine thn (h a_ s Z H _ I hw) λu s1 ⟨x,H1,I1,r1,q1⟩=>?_
 obtain⟨i,rfl,q⟩:=q1;obtain⟨t,rfl⟩:=r1;exact⟨some i,H1,I1,.int i t,q⟩
def SlR(X:Cx)(r:V->Option Int->Option Int->Hp->VK->Prop):Prop:=
 ∀(a_:List (Addr×Obj)) (s:Shared)(Z:St)(H:Hp)(x:V)(v vl vu:Value)(lo hi:Option Int)(sl:Addr)(Q:VK),Inv X a_ Z H s->RelV x v->s.heap.IsSliceOf sl vl vu .none->IsPart vl lo->IsPart vu hi->r x lo hi H Q->
  ∃T id,typeLookup (.type T) "__getitem__"=pure (some (.builtin id))/\s.TypeIs v T/\wpAny (model X.prog X.w) X.A (getItem v (.ref sl)) (EP X a_ Z Q) X.xe s
noncomputable def tSl(r:V->Option Int->Option Int->Hp->VK->Prop)(te:TE)(tl th:TO):TE:=λZ H Q=>te Z H λx H1=>tl Z H1 λl H2=>th Z H2 λu H3=>r x l u H3 Q
theorem uF(hr:SlR X r)(he:PE X e te)(hl:PO X lo tl)(hu:PO X hi th):PE X (.Subscript e (.Slice lo hi none p2) pos) (tSl r te tl th):=by
 intro a_ s Z H Q I h;refine Subscript_ (thn (he a_ s Z H _ I h) λv s1 ⟨x,H1,I1,r1,q1⟩=>?_)
 refine wpAny_Slice (thn (hl a_ s1 Z H1 _ I1 q1) λvl s2 ⟨l,H2,I2,pl,q2⟩=>thn (hu a_ s2 Z H2 _ I2 q2) λvu s3 ⟨u,H3,I3,pu,q3⟩=>?_)
 rw[evalPart_none];refine IZ ?_;have I4:Inv X a_ Z H3 {s3 with heap:=s3.heap.push {cls:=.type "slice",data:=.fields #[vl,vu,.none]}}:=I3.kept (t':=s3.toks) λb ob q=>IW _ q
 obtain⟨T,id,hT,ht,hg⟩:=hr a_ {s3 with heap:=s3.heap.push {cls:=.type "slice",data:=.fields #[vl,vu,.none]}} Z H3 x v vl vu l u s3.heap.objs.size Q I4 r1 (Heap.IsSliceOf.new ..) pl pu q3
 show wpAny (model X.prog X.w) X.A (subscriptTail e (.Slice lo hi none p2) v (.ref s3.heap.objs.size)) (EP X a_ Z Q) X.xe {s3 with heap:=s3.heap.push {cls:=.type "slice",data:=.fields #[vl,vu,.none]}}
 exact tail_any (ops:=[.ref s3.heap.objs.size,v]) ht hT hg (by with_unfolding_all rfl)
noncomputable def qj(xs:List V)(lo hi:Option Int):List V:=(xs.drop (HT.sIx xs.length 0 lo)).take (HT.sIx xs.length xs.length hi-HT.sIx xs.length 0 lo)
theorem i5(xs:List V)(lo hi:Option Int):(qj xs lo hi).length<=xs.length:=by
 unfold qj;rw[List.length_take,List.length_drop];omega
def GV(K:Kc):V->Option Int->Option Int->Hp->VK->Prop:=λx lo hi H Q=>∃a xs,x=.ref a/\SqT K H a xs/\
 ¬ (HT.sIx xs.length 0 lo=0/\HT.sIx xs.length xs.length hi=xs.length)/\∀p,H p=none->Q (.ref p) (upd H p (.tup (qj xs lo hi)))
theorem yW:SlR X (GV X.K):=by
 intro a_ s Z H x v vl vu lo hi sl Q I rx hs pl pu h;obtain⟨a,xs,rfl,hx,hw,q⟩:=h;cases rx;obtain⟨its,r,ht,hz⟩:=I.tuple hx;have u_:its.toArray.size=xs.length:=by rw[Jj];exact r.length.symm
 refine⟨"tuple",_,PyProof.Rows.slot_tuple_getitem.lookup,ht.typeIs,?_⟩;refine HT.getItem_tuple_cut ht hs pl pu (by rw[u_];exact hw) ?_ (by rw[u_];exact hz)
 rw[u_];refine⟨.ref s.heap.objs.size,_,I.laid (t':=s.toks) (o:=.tup (qj xs lo hi)) (λb ob q=>IW _ q) (Jg _) ?_,rfl,q _ (I.h_.fresh (Jg _))⟩
 exact⟨Jw (i5 xs lo hi) hz,_,(r.drop (HT.sIx xs.length 0 lo)).take (HT.sIx xs.length xs.length hi-HT.sIx xs.length 0 lo),IsTup.new _ _⟩
def Ea(K:Kc):R2:=λx y H Q=>∃a b xs ys,x=.ref a/\y=.ref b/\SqT K H a xs/\SqT K H b ys/\xs≠[]/\xs.length+ys.length<=sizeLine/\
 (ys=[]->Q (.ref a) H)/\(ys≠[]->∀p,H p=none->Q (.ref p) (upd H p (.tup (xs++ys))))
theorem Vals.nil_iff(r:Vals xs us):us=[]<->xs=[]:=by
 cases r with
 |nil=>simp
 |cons _ _=>simp
theorem wx:OpR X (binaryOp .Add) (Ea X.K):=by
 intro a_ s Z H x y v u Q I rx ry h;obtain⟨a,b,xs,ys,rfl,rfl,ha,hb,hx,hz,q1,q2⟩:=h;cases rx;cases ry;obtain⟨its,r1,p1,_⟩:=I.tuple ha;obtain⟨q_,r2,p2,_⟩:=I.tuple hb;refine HT.cat_tup p1 p2 (λz=>hx (r1.nil_iff.mp z)) (λz=>⟨.ref a,H,I,rfl,q1 (r2.nil_iff.mp z)⟩) (λz=>?_) (by rw[<-r1.length,<-r2.length];exact hz)
 refine⟨.ref s.heap.objs.size,_,I.laid (t':=s.toks) (o:=.tup (xs++ys)) (λb ob q=>IW _ q) (Jg _) ?_,rfl,q2 (λw=>z (r2.nil_iff.mpr w)) _ (I.h_.fresh (Jg _))⟩
 exact⟨by rw[JG];exact hz,_,r1.append r2,IsTup.new _ _⟩
end
noncomputable def ixN(n:Nat)(i:Int):Option Nat:=if 0<=i then (if i<n then some i.toNat else none) else if -(n:Int)<=i then some (i+n).toNat else none
noncomputable def atI(xs:List α)(i:Int):Option α:=(ixN xs.length i).bind λj=>xs[j]?
theorem rD(h:ixN n i=some j):seqIndex? i n=some j/\j<n/\-(n:Int)<=i/\i<n:=by
 unfold ixN at h;by_cases h0:0<=i
 ·rw[Jc h0]at h;by_cases h1:i<n
  ·rw[Jc h1]at h;have e:i.toNat=j:=Jn h;exact⟨by rw[seqIndex_of h0 h1,e],by omega,by omega,h1⟩
  ·rw[IY h1]at h;cases h
 ·rw[IY h0]at h;by_cases h1 : -(n:Int)<=i
  ·rw[Jc h1]at h;have e:(i+n).toNat=j:=Jn h;exact⟨by rw[seqIndex_neg (by omega) h1,e],by omega,h1,by omega⟩
  ·rw[IY h1]at h;cases h
theorem mz{xs:List α}(h:atI xs i=some v):∃j,seqIndex? i xs.length=some j/\xs[j]?=some v/\j<xs.length/\-(xs.length:Int)<=i/\i<xs.length:=by
 unfold atI at h;cases e:ixN xs.length i with
 |none=>rw[e]at h;cases h
 |some j=>
  rw[e]at h;obtain⟨h1,h2,h3,h4⟩:=rD e;exact⟨j,h1,h,h2,h3,h4⟩
theorem cK{α:Type}{xs:List α}{j:Nat}{v:α}(h:xs[j]?=some v):atI xs (j:Int)=some v:=by
 have hj:j<xs.length:=(Jk.mp h).1;have e:ixN xs.length (j:Int)=some j:=by
  unfold ixN;rw[Jc (by omega),Jc (by omega)];simp
 unfold atI;rw[e];exact h
def l8(b:Expr):Prop:=∀o i,subscripted b false o i=operate [o,i] (getItem o i)
def IxR(X:Cx)(r:R2):Prop:=
 ∀(value Km:Expr) (a_:List (Addr×Obj)) (s:Shared)(Z:St)(H:Hp)(x y:V)(v u:Value)(Q:VK),Inv X a_ Z H s->RelV x v->RelV y u->r x y H Q->
  subscripted Km false v u=operate [v,u] (getItem v u)->wpAny (model X.prog X.w) X.A (subscriptTail value Km v u) (EP X a_ Z Q) X.xe s
def MtR(X:Cx)(id:String)(r:V->List V->Hp->VK->Prop):Prop:=
 ∀(a_:List (Addr×Obj)) (s:Shared)(Z:St)(H:Hp)(x:V)(xs:List V)(v:Value)(us:List Value)(Q:VK),Inv X a_ Z H s->RelV x v->Vals xs us->r x xs H Q->
  wpAny (model X.prog X.w) X.A (call (.builtin id) (v::us)) (EP X a_ Z Q) X.xe s
section
variable {X:Cx}{a:Expr}
theorem IxR.or(h:IxR X r)(h':IxR X r'):IxR X (λx y H Q=>r x y H Q\/r' x y H Q):=by
 intro value Km a_ s Z H x y v u Q I rx ry q hs;rcases q with q|q
 ·exact h value Km a_ s Z H x y v u Q I rx ry q hs
 ·exact h' value Km a_ s Z H x y v u Q I rx ry q hs
theorem CL(hr:IxR X r)(ha:PE X a ta)(hb:PE X b tb)(hs:l8 b):PE X (.Subscript a b pos) (tOp r ta tb):=by
 intro a_ s Z H Q I h;exact Subscript_ (zN ha hb I h λv u s2 x y H2 I2 rx ry q=>hr a b a_ s2 Z H2 x y v u Q I2 rx ry q (hs _ _))
def D5(K:Kc):R2:=λx y H Q=>∃p xs i v,x=.ref p/\y=.int i/\SqL K H p xs/\atI xs i=some v/\Q v H
def CI(K:Kc):R2:=λx y H Q=>∃p xs i v,x=.ref p/\y=.int i/\SqT K H p xs/\atI xs i=some v/\Q v H
def rIxS:R2:=λx y H Q=>∃z i c,x=.str z/\y=.int i/\z.length<=sizeLine/\atI z.cps.toList i=some c/\Q (.str ⟨#[c]⟩) H
theorem ix_list:IxR X (D5 X.K):=by
 intro value Km a_ s Z H x y v u Q I rx ry h hs;obtain⟨p,xs,i,z,rfl,rfl,hq,he,q⟩:=h;cases rx;obtain⟨t,rfl⟩:=ry;obtain⟨its,r,pl,hz⟩:=I.list hq;obtain⟨j,h1,h2,h3,h4,h5⟩:=mz he;obtain⟨w,ew,Kp⟩:=r.get h2;have hl:=r.length;have hn:=jQ;have fin:EP X a_ Z Q w s:=⟨z,H,I,Kp,q⟩;by_cases h0:0<=i
 ·have hj:i.toNat=j:=by
   rw[seqIndex_of h0 h5]at h1;exact Jn h1
  exact item_listR pl.isList h0 (by omega) (by rw[hj];simpa using ew) fin hs
 ·have hj:(i+(its.toArray.size:Int)).toNat=j:=by
   rw[seqIndex_neg (by omega) h4]at h1
   rw[Jj,<-hl];exact Jn h1
  exact subscriptTail_builtinR (x:=w) pl.isList.typeIs slot_list_getitem.lookup
   (wpAny_getItem_list_neg (Q:=λr s'=>r=w/\EP X a_ Z Q r s') pl.isList (by omega) (by rw[Jj]<;>omega) (by omega) (by rw[hj];simpa using ew) ⟨rfl,fin⟩) hs
theorem ix_tup:IxR X (CI X.K):=by
 intro value Km a_ s Z H x y v u Q I rx ry h hs;obtain⟨p,xs,i,z,rfl,rfl,hq,he,q⟩:=h;cases rx;obtain⟨t,rfl⟩:=ry;obtain⟨its,r,pl,hz⟩:=I.tuple hq;obtain⟨j,h1,h2,h3,h4,h5⟩:=mz he;obtain⟨w,ew,Kp⟩:=r.get h2;have hl:=r.length;have hn:=jQ;have fin:EP X a_ Z Q w s:=⟨z,H,I,Kp,q⟩;exact subscriptTail_builtinR (x:=w) pl.typeIs slot_tuple_getitem.lookup
  (getItem_tuple (j:=j) (Q:=λr s'=>r=w/\EP X a_ Z Q r s') pl (by omega) (by omega) (by rw[Jj,<-hl];exact h1) (by simpa using ew) ⟨rfl,fin⟩) hs
theorem Az:IxR X rIxS:=by
 intro value Km a_ s Z H x y v u Q I rx ry h hs;obtain⟨z,i,c,rfl,rfl,hz,he,q⟩:=h;obtain⟨t,rfl⟩:=rx;obtain⟨t',rfl⟩:=ry;obtain⟨j,h1,h2,h3,h4,h5⟩:=mz he;have hl:z.cps.toList.length=z.length:=by simp[Str.length]
 rw[hl]at h1 h4 h5;have hn:=jQ;exact tail_any (typeIs_str s z t) slot_str_getitem.lookup (getItem_str (c:=c) (by
  have e1:decide (i < -(2 ^ 63:Int))=false:=JL (by omega)
  have e2:decide (i>=2 ^ 63)=false:=JL (by omega)
  rw[e1,e2,Bool.or_false]) (by rw[h1];simpa using h2) ⟨.str ⟨#[c]⟩,H,I.tok _,⟨_,rfl⟩,q⟩) hs
def rIx(K:Kc):R2:=λx y H Q=>D5 K x y H Q\/CI K x y H Q\/rIxS x y H Q
theorem zR:IxR X (rIx X.K):=ix_list.or (ix_tup.or Az)
theorem pI(its:List Value)(n j:Nat)(u:Value):Obj.mapSeq (·.setIfInBounds j u) {cls:=.type "list",data:=.seq its.toArray n}={cls:=.type "list",data:=.seq (its.set j u).toArray n}:=by
 simp[Obj.mapSeq]
theorem Inv.lst{s:Shared}(I:Inv X a_ Z H s)(h:H p=some (.lst xs)) :
  ∃(its:List Value) (n:Nat),Vals xs its/\s.heap.get? p=some {cls:=.type "list",data:=.seq its.toArray n}/\xs.length<=sizeLine:=by
 obtain⟨z,its,n,r,e⟩:=I.h_ p _ h;exact⟨its,n,r,e,z⟩
theorem Inv.lstUpd{a_:List (Addr×Obj)}{Z:St}{H:Hp}{s:Shared}{p:Addr}{xs ys:List V}{its its':List Value}{n n':Nat}{f:Obj->Obj}(I:Inv X a_ Z H s)(h:H p=some (.lst xs))
  (ho:s.heap.get? p=some {cls:=.type "list",data:=.seq its.toArray n}) (hf:f {cls:=.type "list",data:=.seq its.toArray n}={cls:=.type "list",data:=.seq its'.toArray n'}) (r:Vals ys its') (hz:ys.length<=sizeLine) (t:Nat) :
  Inv X a_ Z (upd H p (.lst ys)) {s with heap:=s.heap.update p f,toks:=t}:=by
 have e:(s.heap.update p f).get? p=some {cls:=.type "list",data:=.seq its'.toArray n'}:=by
  rw[JD f ho (by rw[hf]<;>rfl),hf]
 refine I.write (x:=p) (e:=p) (by rw[h];trivial) (.inl rfl) (λb u hb q=>(Jq _ _ (Ja hb)).trans q) ⟨_,e⟩ ?_
 exact⟨hz,its',n',r,e⟩
def rSetL:V->V->V->Hp->(Hp->Prop)->Prop:=λo i v H Q=>∃p xs k j,o=.ref p/\i=.int k/\H p=some (.lst xs)/\ixN xs.length k=some j/\Q (upd H p (.lst (xs.set j v)))
theorem tK:AF X rSetL:=by
 intro a_ s Z H o i v ov iv u Q I ro ri rv h;obtain⟨p,xs,k,j,rfl,rfl,hp,hj,q⟩:=h;cases ro;obtain⟨t,rfl⟩:=ri;obtain⟨its,n,r,ho,hz⟩:=I.lst hp;obtain⟨h1,h2,h3,h4⟩:=rD hj;have hl:=r.length;have hn:=jQ;have I':Inv X a_ Z (upd H p (.lst (xs.set j v))) {s with heap:=s.heap.update p (Obj.mapSeq (·.setIfInBounds j u))}:=
  I.lstUpd hp ho (pI its n j u) (r.set rv j) (by rw[List.length_set];exact hz) s.toks
 by_cases h0:0<=k
 ·have hk:k.toNat=j:=by
   rw[seqIndex_of h0 h4]at h1;exact Jn h1
  exact PySem.W.ki_setAt ho h0 (by omega) (by rw[Jj,<-hl];exact h4) (by rw[hk];exact⟨_,I',q⟩)
 ·have hk:(k+(its.toArray.size:Int)).toNat=j:=by
   rw[seqIndex_neg (by omega) h3]at h1
   rw[Jj,<-hl];exact Jn h1
  exact PySem.W.ki_setBack ho (by omega) (by rw[Jj,<-hl];exact h3) (by omega) (by rw[hk];exact⟨_,I',q⟩)
theorem my(lo hi:Option Int)(n:Nat):(sliceBounds lo hi none n).1=((HT.sIx n 0 lo:Nat):Int)/\(sliceBounds lo hi none n).2.1=((HT.sIx n n hi:Nat):Int)/\(sliceBounds lo hi none n).2.2=1:=by
 refine⟨?_,?_,rfl⟩
 ·cases lo with
  |none=>simp[sliceBounds,HT.sIx]
  |some i=>
   simp only[sliceBounds,HT.sIx,Option.getD_none,show (1:Int) > 0 by decide,if_true]
   by_cases h:i<0
   ·simp only[h,if_true]<;>omega
   ·simp only[h,if_false]<;>omega
 ·cases hi with
  |none=>simp[sliceBounds,HT.sIx]
  |some i=>
   simp only[sliceBounds,HT.sIx,Option.getD_none,show (1:Int) > 0 by decide,if_true]
   by_cases h:i<0
   ·simp only[h,if_true]<;>omega
   ·simp only[h,if_false]<;>omega
theorem kP(its:List Value)(lo hi:Option Int):slicePick its.toArray lo hi none=((its.drop (HT.sIx its.length 0 lo)).take (HT.sIx its.length its.length hi-HT.sIx its.length 0 lo)).toArray:=by
 obtain⟨h1,h2,h3⟩:=my lo hi its.toArray.size;unfold slicePick;rw[h1,h2,h3];simp only[sliceRange_one,pick_run,Jj]<;>rfl
theorem lY:CallR X (.builtin "len") (λxs H Q=>∃p ys,xs=[.ref p]/\(SqL X.K H p ys\/SqT X.K H p ys)/\Q (.int ys.length) H):=by
 intro a_ s Z H xs us Q I r h;obtain⟨p,ys,rfl,hq,q⟩:=h;obtain⟨u,rfl,rx⟩:=jf r;cases rx;have hn:=jQ;rcases hq with hq|hq
 ·obtain⟨its,r',pl,hz⟩:=I.list hq;have u_:=r'.length;exact Calls.call_len_list pl.isList (by simp only[Jj]<;>omega) ⟨.int ys.length,H,I.tok _,⟨s.toks+1,by rw[Jj,u_]⟩,q⟩
 ·obtain⟨its,r',pl,hz⟩:=I.tuple hq;have u_:=r'.length;exact len_tuple pl (by simp only[Jj]<;>omega) ⟨.int ys.length,H,I.tok _,⟨s.toks+1,by rw[Jj,u_]⟩,q⟩
theorem mJ:CallR X (.type "list") (λxs H Q=>∃p ys,xs=[.ref p]/\(SqL X.K H p ys\/SqT X.K H p ys)/\∀l,H l=none->Q (.ref l) (upd H l (.lst ys))):=by
 intro a_ s Z H xs us Q I r h;obtain⟨p,ys,rfl,hq,q⟩:=h;obtain⟨u,rfl,rx⟩:=jf r;cases rx;have fin:∀(its:List Value),Vals ys its->ys.length<=sizeLine->∀(h':Heap)(c':Nat),(∀b o',s.heap.get? b=some o'->h'.get? b=some o')->
   h'.get? s.heap.objs.size=some {cls:=.type "list",dict:=none,data:=.seq its.toArray c',slots:=#[]}->EP X a_ Z Q (.ref s.heap.objs.size) {s with heap:=h'}:=λits r' hz h' c' kp e=>
  ⟨.ref s.heap.objs.size,_,I.laid (t':=s.toks) kp (Jg _) (show ObjOk X.prog X.w _ h' _ (.lst ys) from⟨hz,its,c',r',e⟩),rfl,q _ (I.h_.fresh (Jg _))⟩
 rcases hq with hq|hq
 ·obtain⟨its,r',pl,hz⟩:=I.list hq;have u_:=r'.length;obtain⟨o,ho,hc,n,hd⟩:=pl.isList;exact call_list_seq p (.inl rfl) ho hc hd (λh' c' kp e=>fin its r' hz h' c' kp e) (by simp only[Jj]<;>omega)
 ·obtain⟨its,r',pl,hz⟩:=I.tuple hq;have u_:=r'.length;obtain⟨o,ho,hc,n,hd⟩:=pl;exact call_list_seq p (.inr rfl) ho hc hd (λh' c' kp e=>fin its r' hz h' c' kp e) (by simp only[Jj]<;>omega)
def tyV(K:Kc)(T:String)(x:V)(H:Hp):Prop:=match x with
 |.str _=>T = "str"
 |.int _=>T = "int"
 |.ref p=>(T = "list"/\∃xs,SqL K H p xs)\/(T = "tuple"/\∃o,K.lookup p=some o/\o.cls=.type "tuple"/\o.dict=none)\/
   (T = "dict"/\((∃l_,H p=some (.dK l_))\/∃l_,H p=some (.dT l_)))\/(T = "set"/\∃S n,H p=some (.set S n))
 |_=>False
theorem AK{s:Shared}(I:Inv X a_ Z H s)(r:RelV x v)(ty:tyV X.K T x H) :
  s.TypeIs v T/\∀a,v=.ref a->∃ob,s.heap.get? a=some ob/\ob.dict=none:=by
 cases x with
 |str z=>
  obtain⟨t,rfl⟩:=r;cases (show T = "str" from ty);exact⟨typeIs_str s z t,λ_ e=>nomatch e⟩
 |int i=>
  obtain⟨t,rfl⟩:=r;cases (show T = "int" from ty);exact⟨typeIs_int s i t,λ_ e=>nomatch e⟩
 |ref p=>
  cases r;rcases ty with ⟨rfl,xs,hq⟩|⟨rfl,o,hk,hc,hd⟩|⟨rfl,hk⟩|⟨rfl,S,n,hk⟩
  ·obtain⟨its,_,pl,_⟩:=I.list hq;refine⟨pl.isList.typeIs,λa e=>?_⟩
   cases e;obtain⟨o,n,e,c,hd,_⟩:=pl;exact⟨o,e,hd⟩
  ·refine⟨⟨o,I.kIn p o hk,hc⟩,λa e=>?_⟩
   cases e;exact⟨o,I.kIn _ o hk,hd⟩
  ·have z:∃o,s.heap.get? p=some o/\o.ExactDict:=by
    rcases hk with ⟨l_,hk⟩|⟨l_,hk⟩
    ·obtain⟨_,_,_,_,o,_,_,e,ex,_⟩:=I.h_ p _ hk;exact⟨o,e,ex⟩
    ·obtain⟨_,_,_,_,o,_,_,e,ex,_⟩:=I.h_ p _ hk;exact⟨o,e,ex⟩
   obtain⟨o,e,ex⟩:=z;refine⟨⟨o,e,ex.1⟩,λa e2=>?_⟩
   cases e2;exact⟨o,e,ex.2.1⟩
  ·obtain⟨o,_,_,_,e,ex,_⟩:=I.h_ p _ hk;refine⟨⟨o,e,ex.1⟩,λa e2=>?_⟩
   cases e2;exact⟨o,e,ex.2.1⟩
 |_=>exact False.elim ty
noncomputable def tBM(K:Kc)(T:String)(r:V->List V->Hp->VK->Prop)(to:TE)(t:TA):TE:=λZ H Q=>to Z H λx H1=>tyV K T x H1/\t Z H1 λxs H2=>r x xs H2 Q
variable {o:Expr}{id:String}
theorem B5(pa:PlainAttrs T)(slot:Slot T name id)(Ma:typeOf (.builtin id)=pure (.type "method_descriptor"))(hm:MtR X id r)(ho:PE X o to)(ha:PA X (e::es) t)
  (Kf:attributeBase o name X.env (eval o X.env)=eval o X.env:=by rfl)
  (MP:((backTo m_ (starEach (e::es) X.env)).all (λx=>!x.1)&&(backToKw m_ (keywordEach [] X.env)).all (λx=>x.1.isSome)
   &&decide ((e::es).length+([]:List Keyword).length+(if ([]:List Keyword).isEmpty then 0 else 1)<30))=true:=by rfl)
  (Kg:(o_.endLine == m_.line)=true:=by rfl) (hs:starEach (e::es) X.env=(false,eval e X.env)::starEach es X.env:=by rfl) (Kt:(backTo m_ (starEach es X.env)).any (·.1)=false:=by rfl) :
  PE X (.Call (.Attribute o name o_) (e::es) [] m_) (tBM X.K T r to t):=by
 intro a_ s Z H Q I h;refine wpAny_Call_method_late Kf MP Kg rfl (thn (ho a_ s Z H _ I h) λv s1 ⟨x,H1,I1,r1,ty,q1⟩=>?_)
 obtain⟨h1,h2⟩:=AK I1 r1 ty;refine⟨T,id,pa,slot,Ma,h1,h2,?_⟩;have hA:=ha m_ a_ s1 Z H1 _ I1 q1;rw[hs]at hA ⊢;refine Calls.callWith_builtin (by show (false||(backTo m_ (starEach es X.env)).any (·.1))=false;rw[Kt]<;>rfl) (Calls.evalArgs_plain ?_)
 exact thn hA λus s2 ⟨vs,H2,I2,r2,q2⟩=>hm a_ s2 Z H2 x vs v us Q I2 r1 r2 q2
end
def MtM(X:Cx)(id:String)(r:V->List V->Hp->VK->Prop):Prop:=
 ∀(a_:List (Addr×Obj)) (s:Shared)(Z:St)(H:Hp)(x:V)(xs:List V)(v:Value)(us:List Value)(Q:VK),Inv X a_ Z H s->RelV x v->Vals xs us->r x xs H Q->
  wpAny (model X.prog X.w) X.A (call (.builtin id) (v::us)) (EP X a_ Z Q) X.xe s
theorem Vals.one{x:V}{us:List Value}(h:Vals [x] us):∃u,us=[u]/\RelV x u:=by
 cases h with|cons r t=>cases t;exact⟨_,rfl,r⟩
theorem Vals.two{x y:V}{us:List Value}(h:Vals [x,y] us):∃u v,us=[u,v]/\RelV x u/\RelV y v:=by
 cases h with|cons r t=>cases t with|cons q t=>cases t;exact⟨_,_,rfl,r,q⟩
theorem Vals.rep(h:Vals xs us):∀k:Nat,Vals (List.replicate k xs).flatten (List.replicate k us).flatten
 |0=>.nil
 |k+1=>by
  rw[List.replicate_succ,List.replicate_succ,List.flatten_cons,List.flatten_cons];exact Vals.append h (Vals.rep h k)
theorem ly(its:List Value):∀(k:Nat)(acc:List Value),
  List.foldl (λx1 x2=>x1++x2) acc.toArray (List.replicate k its.toArray)=(acc++(List.replicate k its).flatten).toArray
 |0,acc=>by simp
 |k+1,acc=>by
  have e:acc.toArray++its.toArray=(acc++its).toArray:=by simp
  have e2:(acc++its)++(List.replicate k its).flatten=acc++(List.replicate (k+1) its).flatten:=by
   rw[List.replicate_succ,List.flatten_cons,List.append_assoc]
  rw[<-e2,<-ly its k (acc++its),<-e,List.replicate_succ,List.foldl_cons]
section
variable {X:Cx}{s:Shared}{l:Addr}{xs ys:List V}
theorem Inv.lset{its its':List Value}{n:Nat}{f:Array Value->Array Value}{t':Nat}(I:Inv X a_ Z H s)(hH:H l=some (.lst xs))
  (e:s.heap.get? l=some {cls:=.type "list",data:=.seq its.toArray n}) (hf:f its.toArray=its'.toArray) (hv:Vals ys its') (hz:ys.length<=sizeLine) :
  Inv X a_ Z (upd H l (.lst ys)) {s with heap:=s.heap.update l (Obj.mapSeq f),toks:=t'}:=by
 have q:=PySem.IsL.update e f;rw[hf]at q;refine I.write (x:=l) (e:=l) (by rw[hH];exact trivial) (.inl rfl) (λb' u hb hu=>(Jq s.heap (Obj.mapSeq f) (Ja hb)).trans hu) ⟨_,q⟩ ?_
 exact⟨hz,its',_,hv,q⟩
theorem Inv.lnew(I:Inv X a_ Z H s)(hv:Vals ys its)(hz:ys.length<=sizeLine) :
  Inv X a_ Z (upd H s.heap.objs.size (.lst ys)) {s with heap:=s.heap.push {cls:=.type "list",data:=.seq its.toArray},toks:=t'}:=
 I.laid (λ_ _ q=>IW _ q) (Jg _) ⟨hz,its,0,hv,Jp _ rfl⟩
theorem Inv.fresh(I:Inv X a_ Z H s):H s.heap.objs.size=none:=I.h_.fresh (Jg _)
theorem Inv.lstM(I:Inv X a_ Z H s)(hH:H l=some (.lst xs)):xs.length<=sizeLine/\∃(its:List Value) (n:Nat),Vals xs its/\xs.length=its.length/\s.heap.get? l=some {cls:=.type "list",data:=.seq its.toArray n}:=by
 obtain⟨z,its,n,r,e⟩:=I.h_ l _ hH;exact⟨z,its,n,r,r.length,e⟩
theorem vd{n:Nat}(h:n<=sizeLine):Builtin.List.listTooLong n=false:=by
 unfold Builtin.List.listTooLong;exact JL (by omega)
end
section
variable {X:Cx}
def rAppend:V->List V->Hp->VK->Prop:=λx vs H Q=>∃l xs y,x=.ref l/\vs=[y]/\H l=some (.lst xs)/\xs.length<sizeLine/\Q .i_ (upd H l (.lst (xs++[y])))
theorem lO:MtM X "list.append" rAppend:=by
 intro a_ s Z H x vs v us Q I rx rv h;obtain⟨l,xs,y,rfl,rfl,hH,hz,q⟩:=h;cases rx;obtain⟨u,rfl,ru⟩:=rv.one;obtain⟨z,its,n,r,hl,e⟩:=I.lstM hH;refine call_meets F.slot_list_append ⟨_,e,rfl⟩ F.entry_list_append (F.args_list_append_2 _ _) (PySem.list_append l its.toArray n u (by rw[Jj];omega)) ⟨e,?_⟩
 refine⟨.i_,_,I.lset (its':=its++[u]) hH e (by simp) (r.append (.cons ru .nil)) ?_,rfl,q⟩
 rw[JG,List.length_singleton];omega
theorem xW(xs:List α)(k:Nat):(List.replicate k xs).flatten.length=k*xs.length:=by
 induction k with
 |zero=>simp
 |succ k ih=>rw[List.replicate_succ,List.flatten_cons,JG,ih,Nat.succ_mul,Nat.add_comm]
end
section
variable {w:World}{A:Around}{s:Shared}
set_option maxRecDepth 100000 in
end
section
variable {X:Cx}
end
end L2
namespace Att
open PySem PySem.W PySem.Calls PyProof.Rows
theorem ji:∀(ns:List Int)(vs:List Value),WellAll P h vs (ns.map WData.int)->IntsAre vs ns:=by
 intro ns
 induction ns with
 |nil=>
  intro vs w;rw[List.map_nil]at w;cases w;exact .nil
 |cons n ns ih=>
  intro vs w;rw[List.map_cons]at w;cases w with
  |cons a b=>
   cases a;exact .cons _ _ (ih _ b)
theorem rS{l:OpenLaw}(hn:l.most=some n){h:Heap}
  (Mc:l.row.toRowW.claim.pre args=true) (Pu:WellAll P h OG args) :
  ∃a vs ns,OG=[Value.ref a]/\args=[WData.list (ns.map WData.int)]/\h.get? a=some {cls:=.type "list",data:=.seq vs.toArray}/\IntsAre vs ns/\ns.length<=n:=by
 have RV:WShape.hasAll [] args [.list .int]=true:=(pre_splitW Mc).1;have hc:l.pre.holds [] {args:=args}=true:=(pre_splitW Mc).2;obtain⟨d,r,rfl,h1,h2⟩:=hasAllW_cons RV;obtain rfl:=hasAllW_nil h2;obtain⟨xs,rfl,h3⟩:=hasW_list h1;obtain⟨ns,rfl⟩:=items_int h3;have u_:ns.length<=n:=by
  unfold OpenLaw.pre at hc;have h4:(WTm.not (.lt (.lit (.int (n:Int))) (.len (.arg 0)))).holds [] {args:=[.list (ns.map .int)]}=true:=by
   have h4:=(holds_andW hc).1;rw[hn]at h4;exact h4
  have h5:=condW_of h4 (w_not (w_lt w_lit (w_len_list (w_arg rfl))));rw[List.length_map]at h5;refine Nat.le_of_not_lt λq=>?_
  have q':(n:Int)<((ns.length:Nat):Int):=by omega
  first
   |(rw[decide_eq_true q']at h5;exact absurd h5 (by decide))
   |(simp at h5;omega)
 cases Pu with
 |cons w1 w2=>
  cases w2;cases w1 with
  |list ho Pw=>exact⟨_,_,ns,rfl,rfl,ho,ji ns _ Pw,u_⟩
theorem tq(l:OpenLaw)(args:List WData):l.row.toRowW.claim.post args (.bool true) args=true:=
 postW_of (r:=l.row.toRowW) (X:=(true == true))
  (show WShape.has [] (.bool true) .bool=true by first|rfl|decide|simp[WShape.has,WShape.arms,WShape.armsAll])
  (show (WTm.eq .res (.lit (.bool true))).value [] {args:=args,res:=some (.bool true),after:=args}=some (.bool (true == true)) from w_eq_bool (w_res rfl) w_lit) rfl
theorem attach_call{l:OpenLaw}{d:DefRec}
  (hn:l.most=some n) (Px:d.params.defaults=[])
  (call:∀(w:World)(s₀ p_:Shared)(mg mb:Str->Option Value)(fa:Addr)(o:Obj)(pm cd doc:Value)(a:Addr)(vs:List Value)(ns:List Int),
   Ground q loose [] XP w s₀ mg mb p_.heap->YP w p_.heap->
   p_.heap.get? fa=some o->o.data=.func (docDef d.name d.params d.body d.scope pm cd doc)->p_.heap.CodeRec cd d.name->mg d.name=some (.ref fa)->
   p_.heap.get? a=some {cls:=.type "list",data:=.seq vs.toArray}->IntsAre vs ns->ns.length<=n->p_.gens=#[]->
   codeAny (model l.prog w) callerA (.call (.ref fa) ⟨[.ref a],[]⟩) (λr s'=>r=.ok (.ret (.bool true))/\OldK p_.heap s'.heap/\s'.os=p_.os/\AllBare s'.gens) p_) :
  WalkO q loose XP YP l.row.toRowW d [] (λf vs=>PySem.call f vs):=by
 intro w s₀ p_ mg mb G Y fa o pm cd doc dV kV ho hd Kx hD Py hg args OG as Mc hlay hrd Pu Np;obtain rfl:dV=.none:=Dflts.none hD Px;obtain rfl:kV=.none:=Dflts.noKw hD;obtain⟨a,vs,ns,rfl,rfl,Md,K5,u_⟩:=rS hn Mc Pu;refine enter_call (codeAny_mono (call w s₀ p_ mg mb fa o pm cd doc a vs ns G Y ho (fd_plain hd) Kx Py Md K5 u_ hg) λr s' hq=>?_)
 obtain⟨rfl,h2,h3,h4⟩:=hq;exact⟨.inl ⟨.bool true,.bool true,[],rfl,λ_=>rfl,.bool true,tq l _,λ_=>⟨List.Pairwise.nil,λ_ hm=>(nomatch hm)⟩⟩,h2,h3,h4⟩
section
variable {w:World}{A:Around}{s:Shared}{K:Frag}
end
end Att
namespace L2
open PySem PySem.Spec PyProof.Rows
theorem iQ:∀{vs:List Value}{ns:List Int},IntsAre vs ns->Vals (ns.map V.int) vs
 |_,_,.nil=>.nil
 |_,_,.cons n t h=>.cons ⟨t,rfl⟩ (iQ h)
def EC(H:Hp):Prop:=∀b,H b=none\/∃o xs,H b=some (.t_ o (.lst xs))
theorem vB{K:Kc}{p_:Shared}
  (KX:K.In p_.heap)(Me:p_.heap.Ns mainGlobals mg)(hb:p_.heap.Ns builtinsNs mb) (RW:∀x:Str,x≠"__name__"->mb x=bootBuiltins x) (Pz:p_.heap.NoLimit) (hg:p_.gens=#[])
  (ha:p_.heap.get? a=some {cls:=.type "list",data:=.seq vs.toArray}) (hi:IntsAre vs ns) (hl:ns.length<=sizeLine) (hr:Room k callerA)
  (F:∀base:Heap,K.In base->base.Ns mainGlobals mg->FnOk P w K mg base CX k fa fd [x] sp) (NV:∀(s:Shared)(u:Value),BindsTo s fd ⟨[u],[]⟩ [(x,u)])
  (LC:∀H:Hp,EC H->SqL K H a (ns.map V.int)->sp [.ref a] H (λv _=>v=.bl true) λ_ _ _=>False)
  (RX:∀H e s',CX [] H p_ (λ_ _ _=>False) e s'->False) :
  codeAny (model P w) callerA (.call (.ref fa) ⟨[.ref a],[]⟩) (λr s'=>r=.ok (.ret (.bool true))/\OldK p_.heap s'.heap/\s'.os=p_.os/\AllBare s'.gens) p_:=by
 have rv:=iQ hi;have PB:=hi.length;have OH:∀H:Hp,EC H->SqL K H a (ns.map V.int)->HOk P w H p_.heap->(∀b,H b≠none->b=a)->(H a≠none->K.lookup a=none)->
   codeAny (model P w) callerA (.call (.ref fa) ⟨[.ref a],[]⟩) (λr s'=>r=.ok (.ret (.bool true))/\OldK p_.heap s'.heap/\s'.os=p_.os/\AllBare s'.gens) p_:=by
  intro H hO hS h_ hA hK;have Le:∀{b:Addr}{o:Obj},p_.heap.get? b=some o->H b=none->(mY p_.heap H).get? b=some o:=λe n=>tU e n
  have NP:∀{b:Addr}{o:Obj}{es:Array DictEntry}{ep:Nat},p_.heap.get? b=some o->o.data=.dict es ep->H b=none:=λ{b o es ep} e d=>by
   cases q:H b with
   |none=>rfl
   |some u=>
    have e':b=a:=hA b (by rw[q];simp)
    subst e';rw[ha]at e;cases e;have d':Data.seq vs.toArray _=Data.dict es ep:=d;cases d'
  have OS:∀{b:Addr}{m:Str->Option Value},p_.heap.Ns b m->(mY p_.heap H).Ns b m:=λ{b m} ⟨o,es,ep,e,d,r⟩=>⟨o,es,ep,Le e (NP e d),d,r⟩
  have QU:K.In (mY p_.heap H):=λb o e=>Le (KX b o e) (by
   cases q:H b with
   |none=>rfl
   |some u=>
    have e':b=a:=hA b (by rw[q];simp)
    subst e';rw[hK (by rw[q];simp)]at e;cases e)
  have hM:Mod K mg (mY p_.heap H):=⟨QU,OS Me,⟨mb,OS hb,RW⟩,let ⟨mc,h1,h2⟩:=Pz;⟨mc,OS h1,h2⟩⟩
  have e0:Env0 P w K mg (mY p_.heap H) callerA [] p_ H:=⟨rfl,hM,λb o e=>v8 e,Nat.le_of_eq (sm _ _),trivial,λb hb=>absurd (show b∈([]:List Addr) from hb) (by simp),h_,.of_eq hg⟩
  refine codeAny_mono ((F _ QU (OS Me)).run callerA [] p_ H ⟨[.ref a],[]⟩ [.ref a] [.ref a] _ _ hr e0 (NV p_ (.ref a)) (.cons rfl .nil) (LC H hO hS)) λr s' h=>?_
  cases r with
  |error e=>exact (RX H e s' h).elim
  |ok fl=>
   cases fl with
   |next=>exact False.elim h
   |brk=>exact False.elim h
   |cont=>exact False.elim h
   |ret u=>
    obtain⟨v,H',os,bare,un,PC,r',q⟩:=h;have q':v=.bl true:=q;subst q';obtain rfl:u=Value.bool true:=r';refine⟨rfl,OldK.of_keep λb o e=>?_,os,bare⟩
    cases q:H b with
    |none=>exact un.keep b o e q (by intro z;exact absurd (show b∈([]:List Addr) from z) (by simp)) (by simp)
    |some u=>
     rcases hO b with z|⟨ob,xs,z⟩
     ·rw[q]at z;cases z
     ·have z2:=un.D_ b ob _ z;obtain⟨e1,_⟩:=h_ b _ z;obtain⟨e2,_⟩:=PC b _ z2;rw[e]at e1;cases e1;exact e2
 cases hk:K.lookup a with
 |some o=>
  have e:=KX a o hk;rw[ha]at e;cases e;refine OH (λ_=>none) (λ_=>.inl rfl) (.inr ⟨_,vs.toArray,_,hk,rfl,rfl,rfl,by rw[Jj,PB];exact hl,by simpa using rv⟩) (λb u z=>by have z':(none:Option HO)=some u:=z;cases z') (λb z=>absurd rfl z) λz=>absurd rfl z
 |none=>
  refine OH (λb=>if b=a then some (.t_ {cls:=.type "list",data:=.seq vs.toArray} (.lst (ns.map V.int))) else none) (λb=>?_) (.inl (.inr ⟨{cls:=.type "list",data:=.seq vs.toArray},Jc rfl⟩)) (λb u z=>?_) (λb z=>?_) λ_=>hk
  ·by_cases hb:b=a
   ·exact .inr ⟨_,_,Jc hb⟩
   ·exact .inl (IY hb)
  ·by_cases hb:b=a
   ·have z':=(Jc hb).symm.trans z;cases z';subst hb;exact⟨ha,by rw[Jh];exact hl,vs,_,rv,ha⟩
   ·have z':=(IY hb).symm.trans z;cases z'
  ·by_cases hb:b=a
   ·exact hb
   ·exact absurd (IY hb) z
noncomputable def ak(s:Stmt)(j:Nat):Stmt:=match s with
 |.ClassDef _ _ _ body _ _ _ _ _ _ _=>body.getD j (.Pass ⟨0,0,0,0⟩)
 |_=>.Pass ⟨0,0,0,0⟩
noncomputable def bV(s:Stmt):Arguments:=match s with
 |.FunctionDef _ a _ _ _ _ _ _ _ _=>a
 |_=>{posonlyargs:=[],args:=[],vararg:=none,kwonlyargs:=[],kw_defaults:=[],kwarg:=none,defaults:=[]}
noncomputable def bn(s:Stmt):List Stmt:=match s with
 |.FunctionDef _ _ b _ _ _ _ _ _ _=>b
 |_=>[]
noncomputable def aw(s:Stmt):Scope:=match s with
 |.FunctionDef _ _ _ _ _ _ sc _ _ _=>sc
 |_=>{kind:=.function,names:=[],isGenerator:=false,isCoroutine:=false}
structure Fun (K:Kc)(x qual:Str)(st:Stmt)(f:Addr)(fd:FuncData):Prop where
 ex:∃(oc:Value) (od:Option Addr) (kV doc pm:Value) (an:Option Addr) (Kd ct:Value) (KW:Array (Option Value)),
  fd=PySem.W.fnOf x qual (bV st) (bn st) (aw st) .none kV doc pm an Kd ct/\K.lookup f=some ⟨oc,od,.func fd,KW⟩/\PySem.W.codeIn K Kd qual=true
 kp:PySem.W.keepIn K (.ref f)=true
section
variable {K:Kc}
theorem AO{x qual:Str}{st:Stmt}{f:Addr}{oc:Value}{od an:Option Addr}{KW:Array (Option Value)}{kV doc pm Kd ct:Value}(l:K.lookup f=some ⟨oc,od,.func (PySem.W.fnOf x qual (bV st) (bn st) (aw st) .none kV doc pm an Kd ct),KW⟩)
  (c:PySem.W.codeIn K Kd qual=true) (k:PySem.W.keepIn K (.ref f)=true):Fun K x qual st f (PySem.W.fnOf x qual (bV st) (bn st) (aw st) .none kV doc pm an Kd ct):=⟨⟨oc,od,kV,doc,pm,an,Kd,ct,KW,rfl,l,c⟩,k⟩
end
section
variable {X:Cx}
theorem pv(i:Nat)(hN:X.N[i]?=some x:=by rfl)(hv:Vis X.env.scope x:=by first|exact Or.inl rfl|exact Or.inr (Or.inl rfl)|exact Or.inr (Or.inr rfl))(hd:(x == ("__debug__" : Str))=false:=by decide)
  (Kx:(x == ("__classdict__" : Str))=false:=by decide):PE X (.Name x pos) (tL i):=jV hN hv hd Kx
end
section
variable {κ:Type} [DecidableEq κ]
end
def DA(h:Heap)(e:Addr)(d:Option Addr):Prop:=∃o,h.get? e=some o/\o.dict=d
theorem kE(f:Array Value->Array Value)(o:Obj):(Obj.mapFields f o).dict=o.dict:=by
 obtain⟨c,d,x,sl⟩:=o;cases x<;>rfl
section
variable {A:Around}{s:Shared}{base:Heap}{env:Env}
theorem rp{oe:Obj}{vs:Array Value}(K8:A.frames=some (env::outer))(hl:s.heap.FunFrames base (env::outer))(hf:env.frame=some L)(he:s.heap.get? e=some oe)(MQ:base.StaysIn s.heap)(MR:base.get? e=none)
  (hd:oe.data=.fields vs) (hsz:1<vs.size) (h0:vs[0]?=some a0) (k:∀h',Heap.NotedW base (env::outer) e oe.cls a0 (rawInt L) s.heap h'->DA h' e oe.dict->Q () {s with heap:=h'}) :
  wpAny M A (do let fr<-frameOf env;let pl<-entryPlaceOf L hadNext;let t<-EntryCells.newEntry head fr .none (rawInt L) .none pl;setField (.ref e) 1 t) Q E s:=by
 have OI:e∉(env::outer).filterMap (·.frame):=λz=>by
  obtain⟨_,o,ho,nf⟩:=hl.mem z;cases he.symm.trans ho;exact nf vs hd
 refine IU (wpAny_frameOf_fun K8 hl hf λg1 NW=>IU (wpAny_entryPlaceOf λpl E_=>?_))
 unfold EntryCells.newEntry newFields;refine IU (JX ?_ (E_.sizeOk5 _ _ _ _ _));generalize hT:({cls:=.type "traceback",dict:=none,data:=.fields ([head,.ref L,.none,rawInt L,.none]++(if pl.isEmpty then List.replicate 6 Value.none else pl)).toArray}:Obj)=oT
 have e1:g1.get? e=some oe:=(NW.2.1 e OI).trans he;have b1:base.StaysIn g1:=λb o q=>(NW.2.1 b λz=>by rw[(hl.mem z).1]at q;cases q).trans (MQ b o q)
 have e2:(g1.push oT).get? e=some oe:=IW oT e1;refine Kb e2 hd hsz (k _ ?_ ?_)
 ·have ne:g1.objs.size≠e:=Nat.ne_of_gt (Jf e1);have d3:=J8 hd (·.setIfInBounds 1 (Value.ref g1.objs.size));have e3:=JD (Obj.mapFields (·.setIfInBounds 1 (Value.ref g1.objs.size))) e2 (Obj.isFreed_of_fields d3);have t3:(g1.push oT).get? g1.objs.size=some oT:=Jp g1 (by rw[<-hT];rfl)
  have t4:((g1.push oT).update e (Obj.mapFields (·.setIfInBounds 1 (Value.ref g1.objs.size)))).get? g1.objs.size=some oT:=(Jq _ _ (Ja ne)).trans t3;have stay:∀b o,b≠e->g1.get? b=some o->((g1.push oT).update e (Obj.mapFields (·.setIfInBounds 1 (Value.ref g1.objs.size)))).get? b=some o:=λb o n q=>
   (Jq _ _ (Ja n)).trans (IW oT q)
  have Kn:∀b o,s.heap.get? b=some o->(∀ws,o.data≠.fields ws)->b≠e:=λb o q nf z=>by
   subst z;cases he.symm.trans q;exact nf vs hd
  refine⟨λb o q=>stay b o (λz=>by rw[z,MR]at q;cases q) (b1 b o q),hl.of_keeps λb o q nf=>?_,⟨_,_,g1.objs.size,oT,_,e3,⟨Obj.cls_mapFields _ _,?_⟩,d3,by simp[hsz],b1.fresh,ne,t4,by rw[<-hT],?_⟩,λb o q nf=>?_⟩
  ·obtain⟨sl,z⟩:=NW.2.2 b o q;exact⟨_,stay b _ (Kn b o q nf) z,rfl⟩
  ·rw[Array.getElem?_setIfInBounds_ne (by decide)];exact h0
  ·first|(simp;done)|(rcases E_ with rfl|⟨_,_,_,_,_,_,_,rfl⟩<;>simp)
  ·obtain⟨sl,z⟩:=NW.2.2 b o q;exact⟨sl,stay b _ (Kn b o q nf) z⟩
 ·have d3:=J8 hd (·.setIfInBounds 1 (Value.ref g1.objs.size));exact⟨_,JD (Obj.mapFields (·.setIfInBounds 1 (Value.ref g1.objs.size))) e2 (Obj.isFreed_of_fields d3),kE _ _⟩
theorem jF(MQ:base.StaysIn s.heap)(hl:s.heap.FunFrames base l)(ht:s.heap.TracedAtW base e cls a0 fl)(hd:DA s.heap e d)
  (k:∀h',base.StaysIn h'->h'.FunFrames base l->h'.TracedW base e cls a0->s.heap.UpToSlots h'->DA h' e d->Q () {s with heap:=h'}):wpAny M A (setFlight (.ref e) none) Q E s:=by
 obtain⟨oe,vs,T,oT,ts,he,hc,hv,h1,nT,ne,hT,dT,h3⟩:=ht;obtain⟨RY,MS,hd⟩:=hd;cases he.symm.trans MS;have sz:3<ts.size:=(JY.mp h3).1;unfold setFlight;refine IU (JR he hv h1 ?_);rw[Jc (by simp:(Value.ref T != Value.none)=true)]
 have KS:∀b,b≠T->(s.heap.update T (Obj.mapFields (·.setIfInBounds 3 ((none:Option Addr).elim Value.none λf=>rawInt f)))).get? b=s.heap.get? b:=λb n=>Jq _ _ (Ja n)
 have plain:∀b o,s.heap.get? b=some o->(∀ws,o.data≠.fields ws)->b≠T:=λb o q nf z=>by
  subst z;cases hT.symm.trans q;exact nf ts dT
 have ee:=(KS e (Ja ne)).trans he;refine Kb hT dT sz (k _ (λb o q=>(KS b λz=>by rw[z,nT]at q;cases q).trans (MQ b o q)) (hl.of_keeps λb o q nf=>⟨o,(KS b (plain b o q nf)).trans q,rfl⟩) ⟨oe,vs,T,_,_,ee,hc,hv,h1,nT,ne,JD _ hT (Obj.isFreed_of_fields (J8 dT _)),J8 dT _,by simp[sz]⟩
  (λb o q nf=>⟨o.slots,(KS b (plain b o q nf)).trans q⟩) ⟨oe,ee,hd⟩)
theorem vz(K8:A.frames=some (env::outer))(hf:env.frame=some L)(fl:Heap.FlyingW base (env::outer) e cls a0 s.heap)(hd:DA s.heap e d)
  (k:∀h',Heap.HeldW base (env::outer) e cls a0 L h'->s.heap.UpToSlots h'->DA h' e d->Q () {s with heap:=h'}):wpAny M A (noteFrame (.ref e) env) Q E s:=by
 obtain⟨MQ,MR,hl,oe,vs,T,oT,ts,he,⟨rfl,h0⟩,hv,h1,nT,ne,hT,dT,h3⟩:=fl;obtain⟨RY,MS,rfl⟩:=hd;cases he.symm.trans MS;unfold noteFrame;simp only[hf];refine IU (JR he hv h1 ?_);rw[Jc (by simp:(Value.ref T != Value.none)=true)]
 refine IU (JR hT dT h3 ?_);rw[IY (by simp[rawInt]:¬ ((Value.none == rawInt L)=true))]
 refine IU (Kb hT dT (JY.mp h3).1 ?_);have KS:∀b,b≠T->(s.heap.update T (Obj.mapFields (·.setIfInBounds 3 Value.none))).get? b=s.heap.get? b:=λb n=>Jq _ _ (Ja n)
 have plain:∀b o,s.heap.get? b=some o->(∀ws,o.data≠.fields ws)->b≠T:=λb o q nf z=>by
  subst z;cases hT.symm.trans q;exact nf ts dT
 exact rp K8 (hl.of_keeps λb o q nf=>⟨o,(KS b (plain b o q nf)).trans q,rfl⟩) hf ((KS e (Ja ne)).trans he) (λb o q=>(KS b λz=>by rw[z,nT]at q;cases q).trans (MQ b o q)) MR hv (JY.mp h1).1 h0
  λh' ⟨x1,x2,x3,x4⟩ dd=>k h' ⟨x1,MR,x2,x3⟩ (λb o q nf=>x4 b o ((KS b (plain b o q nf)).trans q) nf) dd
theorem qA(hh:Heap.HeldW base l e cls a0 L s.heap)(hd:DA s.heap e d)(k:∀h',Heap.FlyingW base l e cls a0 h'->s.heap.UpToSlots h'->DA h' e d->Q () {s with heap:=h'}):wpAny M A (setFlight (.ref e) none) Q E s:=
 jF hh.1 hh.2.2.1 hh.2.2.2 hd λh' k1 k2 k3 k4 k5=>k h' ⟨k1,hh.2.1,k2,k3⟩ k4 k5
theorem qt(fl:Heap.FlyingW base l e cls a0 s.heap)(hd:DA s.heap e d)(k:∀h',Heap.FlyingW base l e cls a0 h'->s.heap.UpToSlots h'->DA h' e d->Q () {s with heap:=h'}):wpAny M A (setFlight (.ref e) none) Q E s:=
 jF fl.1 fl.2.2.1 fl.2.2.2.at hd λh' k1 k2 k3 k4 k5=>k h' ⟨k1,fl.2.1,k2,k3⟩ k4 k5
theorem fA{h:Heap}(x:h.FunFrames base (env::outer)):h.FunFrames base outer:=x.2.2
theorem vF(K8:A.frames=some (env::outer))(hf:env.frame=some L)(fl:Heap.FlyingW base (env::outer) e cls a0 s.heap)(hd:DA s.heap e d)
  (k:∀h',Heap.FlyingW base outer e cls a0 h'->s.heap.UpToSlots h'->DA h' e d->Q () {s with heap:=h'}):wpAny M A (leaving env (.ref e)) Q E s:=by
 unfold leaving;refine IU (vz K8 hf fl hd λh1 x1 u1 d1=>qA x1 d1 λh2 x2 u2 d2=>k h2 ⟨x2.1,x2.2.1,fA x2.2.2.1,x2.2.2.2⟩ (u1.trans u2) d2)
theorem wY{oe:Obj}(K8:A.frames=some (env::outer))(hf:env.frame=some L)(MQ:base.StaysIn s.heap)(hl:s.heap.FunFrames base (env::outer))(he:s.heap.get? e=some oe)(MR:base.get? e=none)(hv:oe.data=.fields vs)(h0:vs[0]?=some a0)(h1:vs[1]?=some .none)
  (k:∀h',Heap.FlyingW base outer e oe.cls a0 h'->s.heap.UpToSlots h'->DA h' e oe.dict->Q () {s with heap:=h'}):wpAny M A (leaving env (.ref e)) Q E s:=by
 unfold leaving noteFrame;simp only[hf];refine IU (IU (JR he hv h1 ?_));rw[IY (by decide)]
 refine rp K8 hl hf he MQ MR hv (JY.mp h1).1 h0 λh1 x1 d1=>?_
 exact jF x1.1 x1.2.1 x1.2.2.1 d1 λh2 k1 k2 k3 k4 k5=>k h2 ⟨k1,MR,fA k2,k3⟩ (Heap.UpToSlots.trans x1.2.2.2 k4) k5
end
section
variable {h h':Heap}{o:HO}
theorem ObjOk.isAt(x:ObjOk P w H h a o):∃ob,h.get? a=some ob:=by
 cases o with
 |lst xs=>obtain⟨_,_,_,_,e⟩:=x;exact⟨_,e⟩
 |tup xs=>obtain⟨_,_,_,ob,e,_⟩:=x;exact⟨_,e⟩
 |set S n=>obtain⟨ob,_,_,_,e,_⟩:=x;exact⟨_,e⟩
 |ins C dx fs=>obtain⟨_,_,_,e,_⟩:=x;exact⟨_,e⟩
 |own y=>exact x
 |xd fs=>obtain⟨_,⟨ob,_,_,e,_⟩,_⟩:=x;exact⟨_,e⟩
 |rng lo hi=>obtain⟨_,_,_,e⟩:=x;exact⟨_,e⟩
 |t_ ob u=>exact⟨_,x.1⟩
 |L_ ps=>exact⟨_,x⟩
 |met f y=>exact⟨_,x⟩
 |ext φ=>exact x.2.1
 |_=>obtain⟨_,_,_,_,ob,_,_,e,_⟩:=x;exact⟨_,e⟩
theorem HOk.keptT(x:HOk P w H h)(k:∀b u ob,H b=some u->h.get? b=some ob->h'.get? b=some ob):HOk P w H h':=λa o e=>
 (x a o e).stay (λb u hb q=>hb.elim (λz=>by subst z;exact k _ _ _ e q) (λz=>k _ _ _ z q)) (λ_ q=>q) λ_ _ q=>q
end
def Fly(B:Heap)(l:List Env)(a:Addr)(cls:Value)(h:Heap):Prop:=∃a0,Heap.FlyingW B l a cls a0 h
def Within(B:Heap)(l:List Env)(hs:Heap)(H':Hp)(h':Heap):Prop:=
 ∀b ob,h'.get? b=some ob->(H' b≠none\/((∃o',hs.get? b=some o')/\b∉frs l))->B.get? b=some ob
noncomputable def CX1(P:Program)(w:World):CXT:=λouter H s E e s'=>
 ∃(a:Addr) (cls:Value) (B:Heap) (H':Hp) (dx:Option Addr),e=.ref a/\s'.os=s.os/\AllBare s'.gens/\Un (frs outer) [] H H' s.heap s'.heap/\HOk P w H' s'.heap/\
  (Fly B outer a cls s'.heap/\DA s'.heap a dx)/\H' a=none/\Within B outer s.heap H' s'.heap/\E cls dx H'
theorem Inv.notrk{s:Shared}(I:Inv X a_ Z H s)(hn:s.heap.get? e=none):H e=none:=by
 cases q:H e with
 |none=>rfl
 |some u=>
  obtain⟨ob,z⟩:=(I.h_ e u q).isAt;rw[hn]at z;cases z
theorem Inv.oldNe{X:Cx}(I:Inv X a_ Z H s)(q:X.s₀.heap.get? b=some o)(hb:b∉X.fs):b∉frs X.stack:=λhm=>by
 rcases Jb.mp (I.stkSub b hm) with z|z
 ·have:=Jm (Jf q) I.ok.above;rw[z]at this;exact absurd this (JN _)
 ·exact hb z
section
variable {K:Kc}{s:Shared}
theorem lh{s1:Shared}{oe:Obj}{h':Heap}
  (I:Inv (cC (CX1 P w) P w K mg base N qual scope f cd A outer s H E) a_ Z H1 s1) (hk:∀b o,s1.heap.get? b=some o->b≠e->h'.get? b=some o) (RZ:∀o,s1.heap.get? e=some o->∃vs,o.data=.fields vs) (QV:H1 e=none) (NU:s.heap.get? e=none)
  (OT:h'.get? e=some oe) (hv:oe.data=.fields vs) (R0:vs[0]?=some a0) (R1:vs[1]?=some .none) (he:E oe.cls oe.dict H1) :
  (cC (CX1 P w) P w K mg base N qual scope f cd A outer s H E).xe (.ref e) {s1 with heap:=h'}:=by
 have K8:((cC (CX1 P w) P w K mg base N qual scope f cd A outer s H E).A).frames=some (envOfC qual scope s.heap.objs.size f cd::outer):=I.ok.frames;have hl:s1.heap.FunFrames base (envOfC qual scope s.heap.objs.size f cd::outer):=I.stack;have LD:∀env∈(envOfC qual scope s.heap.objs.size f cd::outer),∀b,env.frame=some b->b∈e::frs (envOfC qual scope s.heap.objs.size f cd::outer):=λenv he b hb=>IX _ (List.mem_filterMap.mpr ⟨env,he,hb⟩)
 have hB:∀b o,(PySem.W.hideAll s1.heap (e::frs (envOfC qual scope s.heap.objs.size f cd::outer))).get? b=some o->s1.heap.get? b=some o/\b≠e:=λb o q=>⟨PySem.W.of_hideAll _ q,λz=>by
  subst z;rw[PySem.W.hideAll_none _ Jd]at q;cases q⟩
 have R4:s1.heap.FunFrames (PySem.W.hideAll s1.heap (e::frs (envOfC qual scope s.heap.objs.size f cd::outer))) (envOfC qual scope s.heap.objs.size f cd::outer):=PySem.W.funFrames_hide hl LD;show wpAny _ _ (leaving _ _) _ _ _;refine wY (base:=PySem.W.hideAll s1.heap (e::frs (envOfC qual scope s.heap.objs.size f cd::outer))) K8 rfl (λb o q=>hk b o (hB b o q).1 (hB b o q).2) (R4.of_keeps λb o q nf=>⟨o,hk b o q (λz=>by
  subst z;obtain⟨ws,dw⟩:=RZ o q;exact nf ws dw),rfl⟩) OT (PySem.W.hideAll_none _ Jd) hv R0 R1 λh2 fl up dd=>?_
 have tB:∀b u ob,H1 b=some u->s1.heap.get? b=some ob->(PySem.W.hideAll s1.heap (e::frs (envOfC qual scope s.heap.objs.size f cd::outer))).get? b=some ob:=λb u ob hb q=>
  PySem.W.hideAll_get _ q λhm=>by
   rcases Jb.mp hm with z|hm
   ·rw[z,QV]at hb;cases hb
   ·have z:=I.stkFree b hm;rw[hb]at z;cases z
 have one:∀b o,s.heap.get? b=some o->b≠e:=λb o q z=>by rw[z,NU]at q;cases q
 have oB:∀b o ob,s.heap.get? b=some o->b∉frs outer->s1.heap.get? b=some ob->(PySem.W.hideAll s1.heap (e::frs (envOfC qual scope s.heap.objs.size f cd::outer))).get? b=some ob:=λb o ob q hb q1=>
  PySem.W.hideAll_get _ q1 λhm=>(Jb.mp hm).elim (one b o q) (I.oldNe q hb)
 have st:=fl.1;have slot:∀b o,s.heap.get? b=some o->H b=none->b∈frs outer->∃sl,h2.get? b=some {o with slots:=sl}:=λb o q n hb=>by
  obtain⟨sl,e1⟩:=I.base.slot b o q n hb (λz=>nomatch z)
  obtain⟨_,o2,e2,nf⟩:=I.ok.funs.mem hb;have e3:o2=o:=Jn (e2.symm.trans q);subst e3;obtain⟨Lk,e4⟩:=up b _ (hk _ _ e1 (one b _ q)) nf;exact⟨Lk,e4⟩
 refine⟨e,oe.cls,_,H1,oe.dict,rfl,I.os,I.bare,⟨λb o q n hb _=>?_,λb o q n hb _=>slot b o q n hb,λb o q n _=>I.base.free b o q n (λz=>nomatch z),λb o q _=>?_,I.base.tups,I.base.D_,I.base.I_⟩,?_,⟨⟨_,fl⟩,dd⟩,QV,λb ob q hb=>?_,he⟩
 ·exact st b o (oB b o o q hb (I.base.keep b o q n hb (λz=>nomatch z)))
 ·by_cases hb:b∈frs outer
  ·obtain⟨sl,z⟩:=slot b o q (I.ok.frf b hb) hb;exact⟨_,z⟩
  ·obtain⟨o',e1⟩:=I.base.there b o q (λz=>nomatch z)
   exact⟨o',st b o' (oB b o o' q hb e1)⟩
 ·exact I.h_.keptT λb u ob hb q=>st b ob (tB b u ob hb q)
 ·rcases hb with hb|⟨⟨o',KJ⟩,hb⟩
  ·cases z:H1 b with
   |none=>exact absurd z hb
   |some u=>
    obtain⟨o1,e1⟩:=(I.h_ b u z).isAt;have e2:=tB b u o1 z e1;have e3:o1=ob:=Jn ((st b o1 e2).symm.trans q);rw[<-e3];exact e2
  ·obtain⟨o1,e1⟩:=I.base.there b o' KJ (λz=>nomatch z)
   have e2:=oB b o' o1 KJ hb e1;have e3:o1=ob:=Jn ((st b o1 e2).symm.trans q);rw[<-e3];exact e2
theorem sM{s1:Shared}
  (I:Inv (cC (CX1 P w) P w K mg base N qual scope f cd A outer s H E) a_ Z H1 s1) (hx:Heap.MadeExcOf s1.heap h' e cls args)(he:E cls none H1) :
  (cC (CX1 P w) P w K mg base N qual scope f cd A outer s H E).xe (.ref e) {s1 with heap:=h'}:=by
 obtain⟨t,e1,_,_⟩:=hx.there;refine lh I (λb o q _=>hx.keeps b o q) (λo q=>by rw[hx.new]at q;cases q) (I.notrk hx.new) ?_ e1 rfl rfl rfl he
 cases q:s.heap.get? e with
 |none=>rfl
 |some o=>
  obtain⟨o1,z⟩:=I.base.there e o q (λz=>nomatch z)
  rw[hx.new]at z;cases z
theorem vE(hE:∀c d H',E' c d H'->E c d H')
  (I:Inv (cC (CX1 P w) P w K mg base N qual scope f cd A outer s H E) a_ Z H1 s1) (hc:CX1 P w (envOfC qual scope s.heap.objs.size f cd::outer) H1 s1 E' e s') :
  (cC (CX1 P w) P w K mg base N qual scope f cd A outer s H E).xe e s':=by
 obtain⟨a,cls,B,H2,dx,rfl,os,bare,un,h_,⟨⟨a0,fl⟩,dd⟩,ha,K6,he⟩:=hc;have K8:((cC (CX1 P w) P w K mg base N qual scope f cd A outer s H E).A).frames=some (envOfC qual scope s.heap.objs.size f cd::outer):=I.ok.frames;show wpAny _ _ (leaving _ _) _ _ _;refine vF K8 rfl fl dd λh2 QW up Nn=>?_
 have st:=QW.1;have nil:∀b:Addr,b∉([]:List Addr):=λb z=>nomatch z
 have slot:∀b o,s.heap.get? b=some o->H b=none->b∈frs outer->∃sl,h2.get? b=some {o with slots:=sl}:=λb o q n hb=>by
  obtain⟨sl,e1⟩:=I.base.slot b o q n hb (nil b);obtain⟨NW,e2⟩:=un.any e1 (I.base.free b o q n (nil b)) (nil b);obtain⟨_,o2,e3,nf⟩:=I.ok.funs.mem hb;have e4:o2=o:=Jn (e3.symm.trans q);subst e4;obtain⟨Lk,e5⟩:=up b _ e2 nf;exact⟨Lk,e5⟩
 have old:∀b o,s.heap.get? b=some o->b∉frs outer->∃ob,s'.heap.get? b=some ob/\B.get? b=some ob:=λb o q hb=>by
  obtain⟨o1,e1⟩:=I.base.there b o q (nil b);obtain⟨o2,e2⟩:=un.there b o1 e1 (nil b);exact⟨o2,e2,K6 b o2 e2 (.inr ⟨⟨o1,e1⟩,I.oldNe q hb⟩)⟩
 refine⟨a,cls,B,H2,dx,rfl,os.trans I.os,bare,⟨λb o q n hb _=>?_,λb o q n hb _=>slot b o q n hb,λb o q n _=>?_,λb o q _=>?_,λb xs q=>un.tups b xs (I.base.tups b xs q),λb o u q=>un.D_ b o u (I.base.D_ b o u q),λb ps q=>?_⟩,?_,⟨⟨a0,QW⟩,Nn⟩,ha,λb ob q hb=>?_,hE _ _ _ he⟩
 ·have e1:=I.base.keep b o q n hb (nil b);have e2:=un.keep b o e1 (I.base.free b o q n (nil b)) (I.oldNe q hb) (nil b);exact st b o (K6 b o e2 (.inr ⟨⟨o,e1⟩,I.oldNe q hb⟩))
 ·obtain⟨o1,e1⟩:=I.base.there b o q (nil b);exact un.free b o1 e1 (I.base.free b o q n (nil b)) (nil b)
 ·by_cases hb:b∈frs outer
  ·obtain⟨sl,z⟩:=slot b o q (I.ok.frf b hb) hb;exact⟨_,z⟩
  ·obtain⟨ob,_,e2⟩:=old b o q hb;exact⟨ob,st b ob e2⟩
 ·obtain⟨m1,e1⟩:=I.base.I_ b ps q;obtain⟨m2,e2⟩:=un.I_ b _ e1;exact⟨m1++m2,by rw[e2,Array.append_assoc]⟩
 ·exact h_.keptT λb u ob hb q=>st b ob (K6 b ob q (.inl (by rw[hb];exact λz=>nomatch z)))
 ·rcases hb with hb|⟨⟨o',KJ⟩,hb⟩
  ·cases z:H2 b with
   |none=>exact absurd z hb
   |some u=>
    obtain⟨o1,e1⟩:=(h_ b u z).isAt;have e2:=K6 b o1 e1 (.inl hb);have e3:o1=ob:=Jn ((st b o1 e2).symm.trans q);rw[<-e3];exact e2
  ·obtain⟨o1,e1,e2⟩:=old b o' KJ hb;have e3:o1=ob:=Jn ((st b o1 e2).symm.trans q);rw[<-e3];exact e2
theorem CK:zj (CX1 P w) (cC (CX1 P w) P w K mg base N qual scope f cd A outer s H E) E:=λ_ _ _ _ _ _ I h=>vE (λ_ _ _ z=>z) I h
theorem Gg:PassesOwn (model P w) (cC (CX1 P w) P w K mg base N qual scope f cd A outer s H E).A (cC (CX1 P w) P w K mg base N qual scope f cd A outer s H E).env (cC (CX1 P w) P w K mg base N qual scope f cd A outer s H E).xe:=
 PassesOwn.leaving
end
def ma(X:Cx)(E:XK):Prop:=∀(a_:List (Addr×Obj)) (Z:St)(H:Hp)(s:Shared)(e:Addr)(cls:Value)(args:List Value)(h':Heap),Inv X a_ Z H s->Heap.MadeExcOf s.heap h' e cls args->E cls none H->X.xe (.ref e) {s with heap:=h'}
def jr(X:Cx)(E:XK):Prop:=∀(a_:List (Addr×Obj)) (Z:St)(H:Hp)(s:Shared)(e:Addr)(oe:Obj)(vs:Array Value)(a0:Value),Inv X a_ Z H s->H e=none->X.s₀.heap.get? e=none->s.heap.get? e=some oe->oe.data=.fields vs->vs[0]?=some a0->vs[1]?=some .none->E oe.cls oe.dict H->X.xe (.ref e) s
theorem vc{K:Kc} :
  jr (cC (CX1 P w) P w K mg base N qual scope f cd A outer s H E) E:=λ_ _ _ s1 e oe vs a0 I ht h0 OT hv v0 v1 he=>lh (h':=s1.heap) I (λ_ _ q _=>q) (λo q=>by
 cases OT.symm.trans q;exact⟨vs,hv⟩) ht h0 OT hv v0 v1 he
theorem wN{K:Kc} :
  ma (cC (CX1 P w) P w K mg base N qual scope f cd A outer s H E) E:=λ_ _ _ _ _ _ _ _ I hx he=>sM I hx he
abbrev bmV:List Value:=[.type "ValueError",.type "Exception",.type "BaseException",.type "object"]
def xT(K:Kc)(C:Addr):Prop:=PySem.W.excIn K C bmV "ValueError.__new__"=true
noncomputable def AN(E:XK)(C:Addr)(t:TA):TS:=λ_ Z H=>t Z H λvs H1=>vs.length<=sizeLine/\E (.ref C) none H1
theorem wb{K:Kc}{h:Heap}(X:K.In h)(z:PySem.W.excIn K C bmB nid=true) :
  ∃bm M nm qn bs b1 sn sb b2 co dd x0 x1 x2 x3 x5 mN,h.get? C=some (excClassObj nm qn C M bs bm b1 sn sb b2 co dd x0 x1 x2 x3 x5 nid)/\h.Ns M mN/\mN "__init__"=none/\OwnTail h bmB bm:=by
 unfold PySem.W.excIn at z;split at z
 next dd cd sl ho=>
  split at z
  next C' bm x0 x1 x2 x3 n x5 hm hs=>
   rw[IV,IV,IV,IV,IV,Jl,Jl,Jl]at z;have z1:=z.1.1.1.1.1;have z2:=z.1.1.1.1.2;have z3:=z.1.1.1.2;have z4:=z.1.1.2;have z5:=z.1.2;have z6:=z.2;subst z1;subst z2;cases cd with
   |mk nm bs mro ns qn hd sn sub ab col del=>
    cases hm;cases del with
    |true=>cases z3
    |false=>
     have es:sl=#[x0,x1,x2,x3,some (.builtin n),x5]:=by
      cases sl with
      |mk l=>cases hs;rfl
     subst es;exact⟨bm,ns,nm,qn,bs,hd,sn,sub,ab,col,dd,x0,x1,x2,x3,x5,_,X _ _ ho,.of_isNs (PySem.W.isNs_of_in X z5),PySem.W.nsMap_none_of_in X z5 z6,PySem.W.tail_of_in X z4⟩
  next=>cases z
 next=>cases z
section
variable {X:Cx}
theorem uu(hx:ma X E)(hc:X.calm=true)(hg:Gl X x)(hm:X.mg x=some (.ref C))(q:xT X.K C)(ha:PA X (e::es) t)(A_:(x == ("__debug__" : Str))=false:=by decide)
  (he:starEach (e::es) X.env=(false,eval e X.env)::starEach es X.env:=by rfl) (E_:(backTo m_ (starEach es X.env)).any (·.1)=false:=by rfl) :
  PS X (.Raise (some (.Call (.Name x np) (e::es) [] m_)) none pos) (AN E C t):=by
 intro a_ s Z H D I h;obtain⟨bm,M,nm,qn,bs,b1,sn,sb,b2,co,dd,x0,x1,x2,x3,x5,mN,hC,hN,R5,T⟩:=wb I.ok.mod.kin q;refine wpAny_Raise_call_subT (C:=C) (nm:=nm) (q:=qn) (N:=M) (bs:=bs) (bm:=bm) (hdct:=b1) (sn:=sn) (sub:=sb) (ab:=b2) (col:=co) (dd:=dd) (k0:=x0) (k1:=x1) (k2:=x2) (k3:=x3) (k5:=x5)
  PySem.F.excBase_ValueError (mN:=mN) (T.hasType PySem.F.excBase_ValueError.hasBase) (I.ok.hd hc) ?pl R5 (bF I hg hm ⟨rfl,?_⟩ A_)
 case pl=>
  rw[he];show (false||(backTo m_ (starEach es X.env)).any (·.1))=false
  rw[E_];rfl
 have h2:=ha m_ a_ s Z H _ I h;rw[he]at h2 ⊢;refine Calls.evalArgs_plain (thn h2 λus s2 z_=>?_)
 obtain⟨vs,H2,I2,r,z,q2⟩:=z_;exact⟨rfl,by rw[<-r.length];exact z,I2.bk _ _ hC,hN.keeps I2.bk,T.keeps I2.bk,λh' a LF=>hx a_ Z H2 s2 a _ us h' I2 LF q2⟩
end
def aO(CX:CXT)(X:Cx)(E:St->XK):Prop:=∀(a_:List (Addr×Obj)) (Z:St)(H:Hp)(s:Shared)(e:Value)(s':Shared),Inv X a_ Z H s->CX X.stack H s (E Z) e s'->X.xe e s'
section
variable {X:Cx}{p:Pos}{o:Expr}
end
section
variable {X:Cx}{Z:St}{s1 s':Shared}{B:Heap}
theorem Inv.behind(I:Inv X a_ Z H1 s1)(hex:X.ex=[])(os:s'.os=s1.os)(bare:AllBare s'.gens)(un:Un (frs X.stack) [] H1 H2 s1.heap s'.heap)(h_:HOk X.prog X.w H2 s'.heap)
  (K6:Within B X.stack s1.heap H2 s'.heap)(st:B.StaysIn h4)(up:s'.heap.UpToSlots h4):Inv X a_ Z H2 {s' with heap:=h4}:=by
 have nil:∀b:Addr,b∉([]:List Addr):=λb z=>nomatch z
 have ex:∀b:Addr,b∉X.ex:=λb=>by rw[hex];exact nil b
 have Lf:∀b o,s1.heap.get? b=some o->H1 b=none->(∀vs,o.data≠.fields vs)->∃sl,h4.get? b=some {o with slots:=sl}:=λb o q n nf=>by
  obtain⟨sl,e1⟩:=un.any q n (nil b);obtain⟨Lk,e2⟩:=up b _ e1 nf;exact⟨Lk,e2⟩
 have K3:∀x c,X.env.cells.lookup x=some c->∀v,s1.heap.IsCell c v->h4.IsCell c v:=λx c e v ⟨o,ho,hd⟩=>by
  obtain⟨sl,z⟩:=Lf c o ho (I.freeC x c e) λvs q=>by rw[hd]at q;cases q
  exact⟨_,z,hd⟩
 refine⟨I.ok,os.trans I.os,bare,⟨λb o q n hb _=>?_,λb o q n hb _=>?_,λb o q n _=>?_,λb o q _=>?_,λb xs q=>un.tups b xs (I.base.tups b xs q),λb o u q=>un.D_ b o u (I.base.D_ b o u q),λb ps q=>?_⟩,?_,λx c e=>?_,?_,λx c e=>?_,λp hp=>?_,?_,I.len⟩
 ·have e1:=I.base.keep b o q n hb (ex b);have e2:=un.keep b o e1 (I.base.free b o q n (ex b)) (I.oldNe q hb) (nil b);exact st b o (K6 b o e2 (.inr ⟨⟨o,e1⟩,I.oldNe q hb⟩))
 ·obtain⟨sl,e1⟩:=I.base.slot b o q n hb (ex b);obtain⟨_,o2,e3,nf⟩:=I.ok.funs.mem hb;have e4:o2=o:=Jn (e3.symm.trans q);subst e4;obtain⟨Lk,e5⟩:=Lf b _ e1 (I.base.free b _ q n (ex b)) nf;exact⟨Lk,e5⟩
 ·obtain⟨o1,e1⟩:=I.base.there b o q (ex b);exact un.free b o1 e1 (I.base.free b o q n (ex b)) (nil b)
 ·obtain⟨o1,e1⟩:=I.base.there b o q (ex b);by_cases hb:b∈X.fs
  ·obtain⟨_,o2,e3,nf⟩:=I.ok.funs.mem hb;obtain⟨sl,e4⟩:=I.base.slot b o2 e3 (I.ok.frf b hb) hb (ex b);obtain⟨Lk,e5⟩:=Lf b _ e4 (I.base.free b _ e3 (I.ok.frf b hb) (ex b)) nf;exact⟨_,e5⟩
  ·obtain⟨o2,e2⟩:=un.there b o1 e1 (nil b);exact⟨o2,st b o2 (K6 b o2 e2 (.inr ⟨⟨o1,e1⟩,I.oldNe q hb⟩))⟩
 ·obtain⟨m1,e1⟩:=I.base.I_ b ps q;obtain⟨m2,e2⟩:=un.I_ b _ e1;exact⟨m1++m2,by rw[e2,Array.append_assoc]⟩
 ·obtain⟨m,⟨o,es,ep,ho,hd,r⟩,hl⟩:=I.loc;obtain⟨sl,z⟩:=Lf _ o ho I.free λvs q=>by rw[hd]at q;cases q
  refine⟨m,⟨_,es,ep,z,hd,r⟩,λi x v e1 e2 e3=>?_⟩
  obtain⟨u,r',l⟩:=hl i x v e1 e2 e3;refine⟨u,r',l.elim .inl λ⟨k,c,e,z⟩=>.inr ⟨k,c,e,K3 x c e _ z⟩⟩
 ·obtain⟨v,z⟩:=I.cell x c e;exact⟨v,K3 x c e v z⟩
 ·obtain⟨m,⟨o,_,_,ho,_⟩,_⟩:=I.loc;exact un.free _ o ho I.free (nil _)
 ·obtain⟨v,o,ho,_⟩:=I.cell x c e;exact un.free c o ho (I.freeC x c e) (nil _)
 ·obtain⟨e,n,ne,nf,d⟩:=I.pin p hp;have nb:p.1∉frs X.stack:=λhm=>(Jb.mp (I.stkSub _ hm)).elim ne nf
  have e2:=un.keep p.1 p.2 e n nb (nil _);exact⟨st _ _ (K6 _ _ e2 (.inr ⟨⟨_,e⟩,nb⟩)),un.free p.1 p.2 e n (nil _),ne,nf,d⟩
 ·exact h_.keptT λb u ob hb q=>st b ob (K6 b ob q (.inl (by rw[hb];exact λz=>nomatch z)))
theorem wR(fl:Fly B X.stack a cls s'.heap)(K6:Within B X.stack s1.heap H2 s'.heap):s1.heap.get? a=none:=by
 obtain⟨a0,f1,f2,f3,oe,vs,T,oT,ts,he,hc,hd,_⟩:=fl;cases q:s1.heap.get? a with
 |none=>rfl
 |some o=>
  have z:=K6 a oe he (.inr ⟨⟨o,q⟩,λhm=>by
   obtain⟨_,o2,e2,nf⟩:=f3.mem hm;rw[he]at e2;cases e2;exact nf vs hd⟩)
  rw[f2]at z;cases z
end
noncomputable def wC(a:Addr)(cls:Value)(dx:Option Addr):HO:=.ext λh=>∃o vs,h.get? a=some o/\o.cls=cls/\o.data=.fields vs/\o.dict=dx
section
variable {X:Cx}{Z:St}{s:Shared}
theorem Inv.trackExc{o:Obj}(I:Inv X a_ Z H s)(hn:H a=none)(ho:s.heap.get? a=some o)(hc:o.cls=cls)(hd:o.data=.fields vs)(R6:o.dict=dx)(h0:X.s₀.heap.get? a=none)(hp:∀p∈X.pn++a_,p.1≠a) :
  Inv X a_ Z (upd H a (wC a cls dx)) s:=by
 have ne:∀b u,H b=some u->b≠a:=λb u q=>aA q hn
 have nL:X.env.locals≠a:=λz=>by
  obtain⟨m,⟨o',_,_,KJ,LA,_⟩,_⟩:=I.loc;rw[z,ho]at KJ;cases KJ;rw[hd]at LA;cases LA
 have nC:∀x c,X.env.cells.lookup x=some c->c≠a:=λx c e z=>by
  obtain⟨v,o',KJ,LA⟩:=I.cell x c e;rw[z,ho]at KJ;cases KJ;rw[hd]at LA;cases LA
 refine⟨I.ok,I.os,I.bare,⟨I.base.keep,I.base.slot,λb o' q n hx=>?_,I.base.there,λb xs q=>?_,λb o' u q=>?_,λb ps q=>?_⟩,I.loc,I.cell,?_,λx c e=>?_,λp QX=>?_,λb u q=>?_,I.len⟩
 ·rw[ae λz=>by rw[z,h0]at q;cases q]
  exact I.base.free b o' q n hx
 ·have z:=I.base.tups b xs q;rw[ae (ne _ _ z)];exact z
 ·have z:=I.base.D_ b o' u q;rw[ae (ne _ _ z)];exact z
 ·obtain⟨m,z⟩:=I.base.I_ b ps q;exact⟨m,by rw[ae (ne _ _ z)];exact z⟩
 ·rw[ae nL];exact I.free
 ·rw[ae (nC x c e)];exact I.freeC x c e
 ·obtain⟨e,n,r⟩:=I.pin p QX;exact⟨e,by rw[ae (hp p QX)];exact n,r⟩
 ·by_cases hb:b=a
  ·subst hb;rw[ag]at q;cases q;exact⟨⟨o,vs,ho,hc,hd,R6⟩,⟨o,ho⟩,λh1 h2 ⟨o1,R7,e1,e2,e3⟩ k=>⟨o1,R7,k _ e1,e2,e3⟩⟩
  ·rw[ae hb]at q;exact (I.h_ b u q).stay (λ_ _ _ z=>z) (λc z=>by rw[ae (ne _ _ z)];exact z) λc xs z=>by rw[ae (ne _ _ z)];exact z
theorem Inv.goes{h':Heap}(hi:X.N[i]?=some n)(hN:X.N.Nodup)(I:Inv X a_ Z H s)(hm:s.heap.Ns X.env.locals m)
  (hl:∀(j:Nat)(x:Str)(w:V),X.N[j]?=some x->Z[j]?=some (some w)->Vis X.env.scope x->∃u,RelV w u/\Dj X.env s.heap m x u)
  (hn:h'.Ns X.env.locals (λx=>if x=n then v else m x)) (hs:Heap.SameBut X.env.locals s.heap h'):Inv X a_ (Z.set i none) H {s with heap:=h',toks:=t'}:=by
 obtain⟨oL,_,_,QR,_⟩:=id hm;have old:∀b o,X.s₀.heap.get? b=some o->h'.get? b=s.heap.get? b:=λb o e=>hs.2 b (Js (Jm (Jf e) I.ok.above))
 refine⟨I.ok,I.os,I.bare,⟨λb o q n hb hx=>(old b o q).trans (I.base.keep b o q n hb hx),λb o q n hb hx=>?_,I.base.free,λb o q hx=>?_,I.base.tups,I.base.D_,I.base.I_⟩,⟨_,hn,λj y w e1 e2 e3=>?_⟩,λy c e=>?_,I.free,I.freeC,λp hp=>?_,λb u q=>?_,by rw[List.length_set];exact I.len⟩
 ·obtain⟨sl,z⟩:=I.base.slot b o q n hb hx;exact⟨sl,(old b o q).trans z⟩
 ·obtain⟨o',z⟩:=I.base.there b o q hx;exact⟨o',(old b o q).trans z⟩
 ·have hj:j≠i:=λz=>by
   subst z;rw[List.getElem?_set_self']at e2;cases q:Z[j]? with
   |_=>rw[q]at e2;cases e2
  rw[JP (Ja hj)]at e2;obtain⟨u,r,l⟩:=hl j y w e1 e2 e3;refine⟨u,r,?_⟩;rcases l with ⟨k,e⟩|⟨k,c,e,z⟩
  ·refine .inl ⟨k,?_⟩;have:y≠n:=λe=>hj (j4 hN e1 (e▸hi))
   show (if y=n then v else m y)=some u
   rw[IY this];exact e
  ·exact .inr ⟨k,c,e,z.sameBut hs (I.cne y c e)⟩
 ·obtain⟨w',z⟩:=I.cell y c e;exact⟨w',z.sameBut hs (I.cne y c e)⟩
 ·obtain⟨e,n,ne,nf,d⟩:=I.pin p hp;exact⟨(hs.2 p.1 ne).trans e,n,ne,nf,d⟩
 ·refine (I.h_ b u q).stay (λc w' hc z=>(hs.2 c ?_).trans z) (λ_ z=>z) λ_ _ z=>z
  rintro rfl;rcases hc with rfl|hc
  ·rw[I.free]at q;cases q
  ·rw[I.free]at hc;cases hc
end
noncomputable abbrev Cx.marked(X:Cx)(v:Value):Cx:={X with A:=X.A.mark (some v),calm:=false,xe:=λ_ _=>False}
noncomputable abbrev Cx.tryX(X:Cx)(pn:List (Addr×Obj))(W:Value->Shared->Prop):Cx:={X with pn:=X.pn++pn,xe:=W}
section
variable {X:Cx}
theorem Inv.marked(I:Inv X a_ Z H s)(v:Value):Inv (X.marked v) a_ Z H s:=
 ⟨⟨I.ok.mod,I.ok.kind,I.ok.glob,I.ok.blt,I.ok.above,I.ok.inj,I.ok.has,I.ok.cab,(λz=>nomatch z),I.ok.frames,I.ok.stk,I.ok.exf,I.ok.bs,I.ok.bsz,I.ok.noex,I.ok.exfs,I.ok.funs,I.ok.frf⟩,I.os,I.bare,I.base,I.loc,I.cell,I.free,I.freeC,I.pin,I.h_,I.len⟩
theorem Inv.unmark{v:Value}(ok:X.Ok)(I:Inv (X.marked v) a_ Z H s):Inv X a_ Z H s:=⟨ok,I.os,I.bare,I.base,I.loc,I.cell,I.free,I.freeC,I.pin,I.h_,I.len⟩
theorem Cx.Ok.tryX(ok:X.Ok)(pn:List (Addr×Obj))(W:Value->Shared->Prop):(X.tryX pn W).Ok:=
 ⟨ok.mod,ok.kind,ok.glob,ok.blt,ok.above,ok.inj,ok.has,ok.cab,ok.hd,ok.frames,ok.stk,ok.exf,ok.bs,ok.bsz,ok.noex,ok.exfs,ok.funs,ok.frf⟩
theorem Inv.tryX(I:Inv X a_ Z H s)(W:Value->Shared->Prop):Inv (X.tryX a_ W) [] Z H s:=
 ⟨I.ok.tryX _ _,I.os,I.bare,I.base,I.loc,I.cell,I.free,I.freeC,λp hp=>I.pin p (by rw[JV]at hp;exact hp),I.h_,I.len⟩
theorem Inv.untry(ok:X.Ok)(I:Inv (X.tryX pn W) a_ Z H s):Inv X pn Z H s:=
 ⟨ok,I.os,I.bare,I.base,I.loc,I.cell,I.free,I.freeC,λp hp=>I.pin p (JO _ hp),I.h_,I.len⟩
end
def XI(X:Cx)(a_:List (Addr×Obj))(Z:St)(H:Hp)(a:Addr)(cls:Value)(dx:Option Addr)(s:Shared):Prop:=
 ∃B a0,Inv X a_ Z H s/\(Heap.FlyingW B X.stack a cls a0 s.heap/\DA s.heap a dx)/\H a=none/\X.s₀.heap.get? a=none/\(∀p∈X.pn++a_,p.1≠a)/\∀h4,B.StaysIn h4->s.heap.UpToSlots h4->Inv X a_ Z H {s with heap:=h4}
def PH(X:Cx)(hs:List ExceptHandler)(t:Ends->St->XK):Prop:=
 ∀(a_:List (Addr×Obj)) (s:Shared)(Z:St)(H:Hp)(D:Ends)(a:Addr)(cls:Value)(dx:Option Addr),XI X a_ Z H a cls dx s->t D Z cls dx H->wpAny (model X.prog X.w) X.A (handleBy (.ref a) X.env hs) (SP X a_ D) X.xe s
noncomputable def Ends.goes(D:Ends)(i:Nat):Ends:=⟨λZ H=>D.nx (Z.set i none) H,D.rt,λZ H=>D.bk (Z.set i none) H,λZ H=>D.ct (Z.set i none) H⟩
def Gx(K:Kc)(C:Addr)(i:Nat)(ts:TS)(tr:Ends->St->XK):Ends->St->XK:=λD Z cls d H=>
 (PySem.W.exmOne K cls (.ref C)=some true/\∀a,H a=none->ts (D.goes i) (Z.set i (some (.ref a))) (upd H a (wC a cls d)))\/(PySem.W.exmOne K cls (.ref C)=some false/\tr D Z cls d H)
def GC(K:Kc)(C:Addr)(ts:TS)(tr:Ends->St->XK):Ends->St->XK:=λD Z cls d H=>
 (PySem.W.exmOne K cls (.ref C)=some true/\ts D Z H)\/(PySem.W.exmOne K cls (.ref C)=some false/\tr D Z cls d H)
section
variable {X:Cx}{c n:Str}{C:Addr}{b0:Stmt}{Kj:List Stmt}{np Ll pos:Pos}{aC:List ExceptHandler}{ts:TS}{tr:Ends->St->XK}{i:Nat}
theorem g6{M:Model}{B h:Heap}{l:List Env}{a:Addr}{cls a0:Value}(fl:Heap.FlyingW B l a cls a0 h):PySem.W.Looks M h (typeOf (.ref a)) cls:=by
 obtain⟨ob,R8,hc⟩:=fl.there;exact hc▸(PySem.W.Looks.ld R8).andThen .now
theorem DU(hg:Gl X c)(hm:X.mg c=some (.ref C))(hN:X.N.Nodup)(hi:X.N[i]?=some n)(hl:X.env.scope.names.lookup n=some .local)(hs:∀v,PSs (X.marked v) (b0::Kj) ts)(hr:PH X aC tr)(A_:(c == ("__debug__" : Str))=false:=by decide) :
  PH X (.ExceptHandler (some (.Name c np)) (some n) (b0::Kj) Ll::aC) (Gx X.K C i ts tr):=by
 intro a_ s Z H D a cls dx xi h;obtain⟨B,a0,I,⟨fl,dd⟩,ha,h0,hp,stab⟩:=id xi;rcases h with ⟨em,k⟩|⟨em,k⟩
 ·refine wpAny_handleBy_cons (codeAny_handlers_test (bF (I.marked (.ref a)) hg hm ?_ A_)) (by intro q;cases q)
  refine (PySem.W.exm_one I.kIn (g6 fl) em).here ?_;refine codeAny_handlers_suite_as (qt fl dd λh6 OU NX QY=>?_)
  have I6:=stab h6 OU.1 NX;obtain⟨oe,vs,e1,e2,e3,_⟩:=OU.first
  have e4:oe.dict=dx:=by
   obtain⟨o',z1,z2⟩:=QY;cases e1.symm.trans z1;exact z2
  have I7:=I6.trackExc (cls:=cls) ha e1 e2 e3 e4 h0 hp;refine jD (X:=X.marked (.ref a)) (v:=.ref a) (I7.marked (.ref a)) hN hi (.inl hl) rfl (λs7 I8=>?_) (.inr hl)
  refine JT (hs (.ref a) a_ s7 _ _ (D.goes i) I8 (k a ha)) (λfl s8 q=>?_) (λ_ _ z=>False.elim z)
  have Mf:(X.env.scope.kind == .class||(X.env.scope.kind == .module&&X.env.locals != X.env.globals))=false:=by rw[I.ok.kind];rfl
  have fin:∀n_ H',Inv (X.marked (.ref a)) a_ n_ H' s8->∀(Q:Unit->Shared->Prop),(∀s9,Inv X a_ (n_.set i none) H' s9->Q () s9)->
    wpAny (model X.prog X.w) X.A (do bindName X.env n .none;unbindBehindTheSuite X.env n Ll) Q X.xe s8:=λn_ H' J Q kq=>by
   have J':=J.unmark I.ok;obtain⟨m,LF,L5⟩:=J'.loc;exact wpAny_nameGoes_keeps hl LF Mf λh' v hn NY=>kq _ (Inv.goes hi hN J' LF L5 hn NY)
  match fl,q with
  |.next,⟨n_,H',J,q⟩=>exact fin n_ H' J _ λs9 J9=>⟨_,_,J9,q⟩
  |.brk,⟨n_,H',J,q⟩=>exact fin n_ H' J _ λs9 J9=>⟨_,_,J9,q⟩
  |.cont,⟨n_,H',J,q⟩=>exact fin n_ H' J _ λs9 J9=>⟨_,_,J9,q⟩
  |.ret u,⟨v,n_,H',J,r,q⟩=>exact fin n_ H' J _ λs9 J9=>⟨v,_,_,J9,r,q⟩
 ·refine wpAny_handleBy_cons (codeAny_handlers_test (bF (I.marked (.ref a)) hg hm ?_ A_)) (by intro q;cases q)
  refine (PySem.W.exm_one I.kIn (g6 fl) em).here ?_;exact hr a_ s Z H D a cls dx xi k
theorem CQ(hg:Gl X c)(hm:X.mg c=some (.ref C))(hs:∀v,PSs (X.marked v) (b0::Kj) ts)(hr:PH X aC tr)(A_:(c == ("__debug__" : Str))=false:=by decide) :
  PH X (.ExceptHandler (some (.Name c np)) none (b0::Kj) Ll::aC) (GC X.K C ts tr):=by
 intro a_ s Z H D a cls dx xi h;obtain⟨B,a0,I,⟨fl,dd⟩,ha,h0,hp,stab⟩:=id xi;rcases h with ⟨em,k⟩|⟨em,k⟩
 ·refine wpAny_handleBy_cons (codeAny_handlers_test (bF (I.marked (.ref a)) hg hm ?_ A_)) (by intro q;cases q)
  refine (PySem.W.exm_one I.kIn (g6 fl) em).here ?_;refine codeAny_handlers_suite (qt fl dd λh6 OU NX QY=>?_)
  have I6:=stab h6 OU.1 NX;refine JT (hs (.ref a) a_ _ _ _ D (I6.marked (.ref a)) k) (λfl s8 q=>?_) (λ_ _ z=>False.elim z)
  match fl,q with
  |.next,⟨n_,H',J,q⟩=>exact⟨_,_,J.unmark I.ok,q⟩
  |.brk,⟨n_,H',J,q⟩=>exact⟨_,_,J.unmark I.ok,q⟩
  |.cont,⟨n_,H',J,q⟩=>exact⟨_,_,J.unmark I.ok,q⟩
  |.ret u,⟨v,n_,H',J,r,q⟩=>exact⟨v,_,_,J.unmark I.ok,r,q⟩
 ·refine wpAny_handleBy_cons (codeAny_handlers_test (bF (I.marked (.ref a)) hg hm ?_ A_)) (by intro q;cases q)
  refine (PySem.W.exm_one I.kIn (g6 fl) em).here ?_;exact hr a_ s Z H D a cls dx xi k
end
end L2
namespace L2
open PySem PySem.Spec PySem.Calls PyProof.Rows
noncomputable def dI(K:Kc)(C:Addr):Bool:=match K.lookup C with
 |some ⟨.type "type",_,.cls k,sl⟩=>(match k.mro with
  |.ref C2::above=>C2 == C&&!k.hasDel&&PySem.W.tailIn K bmV above&&(match sl.toList with
   |[_,_,_,_,some (.builtin mk),_]=>mk == "ValueError.__new__"
   |_=>false)
  |_=>false)
 |_=>false
theorem g4{K:Kc}{h:Heap}(X:K.In h)(z:dI K C=true) :
  ∃bm M nm qn bs b1 sn sb b2 co dd x0 x1 x2 x3 x5,h.get? C=some (excClassObj nm qn C M bs bm b1 sn sb b2 co dd x0 x1 x2 x3 x5 "ValueError.__new__")/\OwnTail h bmV bm:=by
 unfold dI at z;split at z
 ·rename_i dd k sl ho;split at z
  ·rename_i C2 above hm;rw[IV,IV,IV,Jl]at z;obtain⟨⟨⟨rfl,z2⟩,z3⟩,z4⟩:=z;split at z4
   ·rename_i x0 x1 x2 x3 mk x5 hs;rw[Jl]at z4;subst z4;cases k with
    |mk nm bs mro ns qn hd sn sub ab col del=>
     cases hm;cases del with
     |true=>cases z2
     |false=>
      have es:sl=#[x0,x1,x2,x3,some (.builtin "ValueError.__new__"),x5]:=by
       cases sl with
       |mk l=>cases hs;rfl
      subst es;exact⟨above,ns,nm,qn,bs,hd,sn,sub,ab,col,dd,x0,x1,x2,x3,x5,X _ _ ho,PySem.W.tail_of_in X z3⟩
   ·cases z4
  ·cases z
 ·cases z
noncomputable abbrev exB:ExcBaseFacts "ValueError" "ValueError.__new__" "ValueError.__init__" bmV:=PySem.F.excBase_ValueError
section
variable {A:Around}{h:Heap}{os:OsState}{K:Kc}
theorem u0{us:List Value}(X:K.In h)(z:dI K C=true)(hi:PySem.W.findIn K (.ref C) "__init__"=some (some (.ref fI)))(hf:PySem.W.typeIn K (.ref fI)=some (.type "function"))(hl:us.length<=sizeLine)
  (k:∀h' e,h.objs.size<=e->Heap.MadeExcOf h h' e (.ref C) us->wpAny (model prog w) (A.under (.builtin "type.__call__" ⟨.ref C::us,[]⟩)) (call (.ref fI) (.ref e::us)) (λr s'=>r=.none/\Q (.ref e) s') E ⟨h',g,d,t,os⟩) :
  wpAny (model prog w) A (call (.ref C) us) Q E ⟨h,g,d,t,os⟩:=by
 obtain⟨bm,M,nm,qn,bs,b1,sn,sb,b2,co,dd,x0,x1,x2,x3,x5,hC,T⟩:=g4 X z;have F:=exB;have f1:=tc_lookup;have f2:=tc_bind (.ref C);have hT:(⟨h,g,d,t,os⟩:Shared).TypeIs (.ref C) "type":=⟨_,hC,rfl⟩;refine wpAny_call (codeAny_of_tree ?_);show wpAny _ _ (callAny (.ref C) _) _ _ _
 repeat (any_goals (first|assumption|with_reducible refine wpAny_loadPart_at hC ?_|wp_step))
 refine⟨rfl,codeAny_call_builtin_at (Code.quiet_builtin _ (by decide +kernel)) entry_typeCall (wpAny_check_type_call_sub hC ?_)⟩
 repeat (first|with_reducible refine wpAny_loadPart_at hC ?_|with_reducible refine wpAny_madeBy_exc hC ?_|wp_step)
 refine codeAny_call_builtin_code (Code.quiet_builtin _ F.quiet) (wpAny_check_new_subU F F.hasB T hC (codeAny_exc_new_subU F F.hasB F T hC ?_ hl));show wpAny _ _ _ _ _ ⟨(h.push {cls:=.type "tuple",data:=.seq us.toArray}).push {cls:=.ref C,data:=.fields #[.ref h.objs.size,.none,.none,.none,.bool false,.none]},g,d,t,os⟩;generalize R9:({cls:=.type "tuple",data:=.seq us.toArray}:Obj)=oT;generalize PD:({cls:=.ref C,data:=.fields #[.ref h.objs.size,.none,.none,.none,.bool false,.none]}:Obj)=oE;have kp:∀b o,h.get? b=some o->((h.push oT).push oE).get? b=some o:=λb o q=>IW _ (IW _ q)
 have gC:=kp _ _ hC;have gE:((h.push oT).push oE).get? (h.objs.size+1)=some oE:=Heap.get?_push_at (by rw[Heap.size_push]) (by rw[<-PD];rfl)
 have cE:oE.cls=.ref C:=by rw[<-PD]
 have has:(Value.ref C::bm).contains (.ref C)=true:=by simp
 have X1:K.In ((h.push oT).push oE):=X.keeps kp;unfold isInstance
 repeat (first|(with_reducible refine wpAny_loadPart_at gE ?_;rw[cE])|(with_reducible refine wpAny_isSubtype_exc gC ?_;rw[has])|wp_step)
 show wpAny _ _ (typeLookup (.ref C) _) _ _ _;refine (PySem.W.looks_findIn X1 hi).here ?_;refine JH (IU ((PySem.W.bind_fn X1 _ hf).here (IU (JT (k _ (h.objs.size+1) (JZ _) ⟨kp,Heap.get?_none_of_le (JZ _),h.objs.size,?_,Heap.get?_none_of_le (Jg _),?_⟩) (λr s' hr=>?_) λ_ _ x=>x))))
 ·rw[gE,<-PD]
 ·rw[<-R9];exact IW _ (Heap.get?_push_at rfl rfl)
 ·obtain⟨rfl,hQ⟩:=hr
  wp_walk
  exact hQ
theorem uB{oe:Obj}{us:List Value}(X:K.In h)(z:dI K C=true)(he:h.get? e=some oe)(hc:oe.cls=.ref C)(hd:oe.data=.fields vs)(h0:vs[0]?=some (.ref t0))(hl:us.length<=sizeLine)
  (k:Q .none ⟨(h.push {cls:=.type "tuple",data:=.seq us.toArray}).update e (Obj.mapFields (·.setIfInBounds 0 (.ref h.objs.size))),g,d,t,os⟩):wpAny (model prog w) A (call (.builtin "ValueError.__init__") (.ref e::us)) Q E ⟨h,g,d,t,os⟩:=by
 obtain⟨bm,M,nm,qn,bs,b1,sn,sb,b2,co,dd,x0,x1,x2,x3,x5,hC,T⟩:=g4 X z;refine wpAny_call (codeAny_call_builtin exB.init.plain exB.initEntry (wpAny_check_init_subU exB T hC he hc ?_));unfold Builtin.«BaseException.__init__»;dsimp only;rw[IY (by simp)]
 unfold newTuple Builtin.BaseException.bexcPut;have e1:=IW (h:=h) {cls:=.type "tuple",data:=.seq us.toArray} he;refine IU (JX ?_ (by show us.toArray.size<=sizeLine;rw[Jj];exact hl))
 exact IU (IU (JR e1 hd h0 (IU (Kb e1 hd (JY.mp h0).1 (wpAny_letGo (IZ k))))))
theorem oU(T:OwnTail h bmV bm):refuseLoop self "__setattr__" bm=pure ():=by
 induction T with
 |base=>exact PySem.F.store_ValueError.passes self
 |own _ _ _ _ ih=>rw[refuseLoop_ref];exact ih
theorem ue{oe:Obj}{s:Shared}(X:K.In s.heap)(z:dI K C=true)(he:s.heap.get? e=some oe)(hc:oe.cls=.ref C)(hd:oe.data=.fields vs)(OV:oe.dict=none)
  (Ls:PySem.W.findIn K (.ref C) name=some none) (PF:PySem.W.hasDictIn K C=true) (hm:PySem.W.mroIn K C (.type "object")=some true)
  (k:∀h' t',h'.get? e=some {oe with dict:=some s.heap.objs.size}->h'.Ns1 s.heap.objs.size (λy=>if y=name then some v else none)->(∀b o,b≠e->s.heap.get? b=some o->h'.get? b=some o)->R (.ok (.ret .none)) {s with heap:=h',toks:=t'}) :
  codeAny (model prog w) A (.call (.builtin "object.__setattr__") ⟨[.ref e,.str name tk,v],[]⟩) R s:=by
 obtain⟨bm,M,nm,qn,bs,b1,sn,sb,b2,co,dd,x0,x1,x2,x3,x5,hC,T⟩:=g4 X z;have SF:=PySem.F.store_ValueError;have LT:PySem.W.Looks (model prog w) s.heap (typeOf (.ref e)) (.ref C):=hc▸(PySem.W.Looks.ld he).andThen .now;have sub:PySem.W.Looks (model prog w) s.heap (isInstance (.ref e) (.type "object")) true:=LT.andThen (PySem.W.looks_mroIn X hm);obtain⟨cd,Kx,R_⟩:=PySem.W.any_some PF;have LM:PySem.W.Looks (model prog w) s.heap (mroOf (.ref C)) cd.mro:=(PySem.W.looks_clsIn X Kx).andThen .now;have em:cd.mro=.ref C::bm:=by
  unfold PySem.W.clsIn at Kx;split at Kx
  ·rename_i c' d' QZ OM ho;cases Kx;have:=X _ _ ho;rw[hC]at this;cases this;rfl
  ·cases Kx
 refine codeAny_call_builtin SF.slot.plain SF.entry (@PySem.W.check_slot (model prog w) _ _ s "object.__setattr__" "object" "__setattr__" (.ref e) [.str name tk,v] [] _ SF.kind SF.split sub (SF.args (.ref e) (.str name tk) v) ?_);rw[PySem.W.osa_eq,refuse_eq];refine IU (IU (LT.here (IU (LM.here ?_))));rw[em,refuseLoop_ref,oU T];refine IZ (IU (LT.here (IU ((PySem.W.looks_findIn X Ls).here (IU (IZ ?_))))));dsimp only;obtain⟨oc,od,T3,KW⟩:=oe;dsimp only at hc hd OV;subst hc hd OV;refine IU (IZ (IU (IU (wpAny_loadPart he (IU ((PySem.W.looks_clsIn X Kx).here ?_))))));rw[R_];refine IU (wpAny_alloc' ?_);have ne:e≠s.heap.objs.size:=Js (Jf he);have e1:(s.heap.push {cls:=.type "dict",data:=.dict #[]}).get? e=some ⟨.ref C,none,.fields vs,KW⟩:=IW _ he;refine IU (wpAny_update' e1 (IZ ?_));generalize hH:(s.heap.push {cls:=.type "dict",data:=.dict #[]}).update e (λo=>{cls:=o.cls,dict:=some s.heap.objs.size,data:=o.data,slots:=o.slots})=H1
 have gd:H1.get? s.heap.objs.size=some {cls:=.type "dict",data:=.dict #[]}:=by
  rw[<-hH];exact (Heap.get?_update_ne _ _ _ _ ne.symm).trans (Heap.get?_push_at rfl rfl)
 have ge:H1.get? e=some ⟨.ref C,some s.heap.objs.size,.fields vs,KW⟩:=by
  rw[<-hH];exact JD _ e1 rfl
 have gk:∀b o,b≠e->s.heap.get? b=some o->H1.get? b=some o:=λb o n q=>by
  rw[<-hH];exact (Heap.get?_update_ne _ _ _ _ n).trans (IW _ q)
 have nd:H1.Ns s.heap.objs.size (λ_=>none):=⟨_,#[],_,gd,rfl,λx hx=>absurd hx (by simp),λ_=>rfl⟩
 show wpAny _ _ (Builtin.ObjectAttr.storeInDict s.heap.objs.size (.str name tk) name v) _ _ _;unfold Builtin.ObjectAttr.storeInDict Builtin.ObjectAttr.newKeyGuard;refine IU (IZ (IU (wpAny_nsSet1 (Heap.Ns1.of_empty nd) λh' n' hs=>?_)))
 obtain⟨oD,RQ,RR,Pp,Pq,LB⟩:=n'.count (PySem.Within.cons name v PySem.Within.nil);refine IU (wpAny_lookBehind Pp (by rw[Pq];exact pastItsLine_dict (Jw LB (by rw[Jr,List.length_nil,sizeLine_eq];omega))) ?_)
 exact IZ (k h' _ ((hs.2 e ne).trans ge) n' λb o n q=>(hs.2 b (Js (Jf q))).trans (gk b o n q))
theorem ww{oe:Obj}{s:Shared}(X:K.In s.heap)(z:dI K C=true)(he:s.heap.get? e=some oe)(hc:oe.cls=.ref C)(hd:oe.data=.fields vs)(OV:oe.dict=none)
  (Sa:PySem.W.findIn K (.ref C) "__setattr__"=some (some (.builtin "object.__setattr__"))) (Ls:PySem.W.findIn K (.ref C) name=some none) (PF:PySem.W.hasDictIn K C=true) (hm:PySem.W.mroIn K C (.type "object")=some true)
  (k:∀h' t',h'.get? e=some {oe with dict:=some s.heap.objs.size}->h'.Ns1 s.heap.objs.size (λy=>if y=name then some v else none)->(∀b o,b≠e->s.heap.get? b=some o->h'.get? b=some o)->Q () {s with heap:=h',toks:=t'}) :
  wpAny (model prog w) A (setAttr (.ref e) name v) Q E s:=by
 have LT:PySem.W.Looks (model prog w) s.heap (typeOf (.ref e)) (.ref C):=hc▸(PySem.W.Looks.ld he).andThen .now;have f3:=PySem.F.store_ValueError.slot.bind (.ref e);unfold setAttr callSpecial? specialOf;refine IU (wpAny_mkText (IU (IU (IU (LT.at ((PySem.W.looks_findIn X Sa).at (JH (IU ?_))))))));rw[f3];refine IZ (IU (wpAny_call (ue (s:={s with toks:=s.toks+1}) X z he hc hd OV Ls PF hm λh' t' q1 q2 q3=>?_)))
 exact IZ (IZ (k h' t' q1 q2 q3))
end
section
variable {pos:Pos}
theorem g9{args:List Expr}(h1:(backTo pos (starEach args env)).any (·.1)=false)(h2:args.length<30):methodCallForm (args.length+([]:List Keyword).length) (backTo pos (starEach args env)) (backToKw pos (keywordEach [] env))=true:=by
 unfold methodCallForm;have a:(backTo pos (starEach args env)).all (!·.1)=true:=by
  rw[JB];intro x hx;have:=List.any_eq_false.mp h1 x hx;simpa using this
 rw[a];have:(backToKw pos (keywordEach [] env)).all (·.1.isSome)=true:=rfl;rw[this];have h3:(backToKw pos (keywordEach ([]:List Keyword) env)).isEmpty=true:=rfl;simp only[h3,if_true,List.length_nil,Bool.true_and,Nat.add_zero,Je];exact h2
theorem fP{o_:Pos}{args:List Expr}(hb:attributeBase o m env (eval o env)=eval o env)
  (hf:methodCallForm (args.length+([]:List Keyword).length) (backTo pos (starEach args env)) (backToKw pos (keywordEach [] env))=true) (hl:(o_.endLine == pos.line)=true) :
  eval (.Call (.Attribute o m o_) args [] pos) env=(do
   let ov<-eval o env
   standAt o_.atName
   let (f,first)<-holding [ov] (getMethod ov m (do return (<-importBound o env).getD true))
   callWith pos f first (backTo pos (starEach args env)) (backToKw pos (keywordEach [] env))):=by
 rw[arm_eval_Call,hb];unfold methodCall calleeOf methodCallPos;simp only[hf,hl];rfl
end
noncomputable def hU(e C:Addr):HO:=.ext λh=>∃t0,h.get? e=some {cls:=.ref C,data:=.fields #[.ref t0,.none,.none,.none,.bool false,.none]}
noncomputable def gU(e C dx:Addr):HO:=.ext λh=>∃t0,h.get? e=some {cls:=.ref C,dict:=some dx,data:=.fields #[.ref t0,.none,.none,.none,.bool false,.none]}
theorem ra{h:Heap}(q:h.get? e=some {cls:=.ref C,data:=.fields #[.ref t0,.none,.none,.none,.bool false,.none]}):ObjOk P w H h e (hU e C):=
 ⟨⟨t0,q⟩,⟨_,q⟩,λ_ _ ⟨t1,z⟩ k=>⟨t1,k _ z⟩⟩
theorem vW{h:Heap}(q:h.get? e=some {cls:=.ref C,dict:=some dx,data:=.fields #[.ref t0,.none,.none,.none,.bool false,.none]}):ObjOk P w H h e (gU e C dx):=
 ⟨⟨t0,q⟩,⟨_,q⟩,λ_ _ ⟨t1,z⟩ k=>⟨t1,k _ z⟩⟩
structure XIni (K:Kc)(C fI:Addr)(f:Str):Prop where
 cl:dI K C=true
 ini:PySem.W.findIn K (.ref C) "__init__"=some (some (.ref fI))
 fn:PySem.W.typeIn K (.ref fI)=some (.type "function")
 sa:PySem.W.findIn K (.ref C) "__setattr__"=some (some (.builtin "object.__setattr__"))
 at_:PySem.W.findIn K (.ref C) f=some none
 hd:PySem.W.hasDictIn K C=true
 ob:PySem.W.mroIn K C (.type "object")=some true
 kp:PySem.W.keepIn K (.ref C)=true
structure BIni (K:Kc)(D:Addr):Prop where
 ga:PySem.W.specialIn K (.ref D) "__getattribute__"=some (some (.builtin "type.__getattribute__"))
 rd:PySem.W.readsIn K D (.type "type")=true
 at_:PySem.W.findCls K (.ref D) (.type "type") "__init__"=some (.val (.builtin "ValueError.__init__"))
noncomputable def tXI(K:Kc)(t:TA):TE:=λZ H Q=>t Z H λvs H1=>∃a r C,vs=.ref a::r/\dI K C=true/\H1 a=some (hU a C)/\r.length<=sizeLine/\Q .i_ H1
noncomputable def sXF(C:Addr)(f:Str)(ta tv:TE):TS:=λD Z H=>tv Z H λy H1=>ta Z H1 λx H2=>∃a,x=.ref a/\H2 a=some (hU a C)/\∀dx o,H2 dx=none->dx≠a->D.nx Z (upd (upd H2 a (gU a C dx)) dx (.t_ o (.xd [(f,y)])))
section
variable {X:Cx}{D:Addr}{o_ pos:Pos}
theorem wZ(hg:Gl X x)(hm:X.mg x=some (.ref D))(A_:(x == ("__debug__" : Str))=false)(b:BIni X.K D)(ha:PA X (e::es) t)(hl:(o_.endLine == pos.line)=true)(hn:(e::es).length<30)
  (he:starEach (e::es) X.env=(false,eval e X.env)::starEach es X.env) (E_:(backTo pos (starEach es X.env)).any (·.1)=false) :
  PE X (.Call (.Attribute (.Name x px) "__init__" o_) (e::es) [] pos) (tXI X.K t):=by
 intro a_ s Z H Q I h;have Ks:(backTo pos (starEach (e::es) X.env)).any (·.1)=false:=by
  rw[he];show ((false,_)::backTo pos (starEach es X.env)).any (·.1)=false;rw[List.any_cons,E_];rfl
 have hT:PE X (.Name x px) (tC (.ref D)):=g7 hg hm rfl A_;refine PySem.W.methodCall_KW (thn (hT a_ s Z H (λv H1=>v=.ref D/\H1=H) I ⟨rfl,rfl⟩) λu s1 ⟨v,H1,I1,r1,e1,e2⟩=>?_) (fP (by rfl) (g9 Ks hn) hl)
 subst e1 e2;obtain rfl:u=Value.ref D:=r1;refine PySem.W.method_cls I1.kIn b.ga (PySem.W.cls_value I1.kIn b.rd b.at_ (by decide +kernel) ?_)
 have I2:=I1.tok (s1.toks+1);rw[he];refine PySem.W.callWith_of (P:=λh=>X.K.In h) (by show ((false||(backTo pos (starEach es X.env)).any (·.1))||false)=false;rw[E_];rfl) (λ_ _=>⟨.machine,.inr (.inl rfl),.now⟩) (PySem.Calls.evalArgs_plain ?_)
 have h2:=ha pos a_ _ Z H1 _ I2 h;rw[he]at h2;refine thn h2 λus s2 ⟨vs,H2,I3,r,a,rs,C,ev,z,ea,hz,q⟩=>⟨I3.kIn,?_⟩
 subst ev;cases r with
 |@cons v u vs us rv r=>
  obtain rfl:u=Value.ref a:=rv;have oa:=I3.h_ a _ ea;obtain⟨⟨t0,go⟩,_,_⟩:=oa;obtain⟨h2,g2,d2,t2,T4⟩:=s2;refine uB (oe:=_) (t0:=t0) I3.kIn z go rfl rfl rfl (by rw[<-r.length];exact hz) ?_
  refine⟨.i_,H2,?_,rfl,q⟩;have ge:((h2.push {cls:=.type "tuple",data:=.seq us.toArray}).update a (Obj.mapFields (·.setIfInBounds 0 (.ref h2.objs.size)))).get? a=some {cls:=.ref C,data:=.fields #[.ref h2.objs.size,.none,.none,.none,.bool false,.none]}:=
   JD _ (IW _ go) rfl
  have w:=I3.write (x:=a) (e:=a) (o:=hU a C) (h':=(h2.push {cls:=.type "tuple",data:=.seq us.toArray}).update a (Obj.mapFields (·.setIfInBounds 0 (.ref h2.objs.size)))) (t':=t2) (by rw[ea];exact True.intro) (.inl rfl)
   (λb ob n q=>(Jq _ _ (Ja n)).trans (IW _ q)) ⟨_,ge⟩ (ra ge)
  have eq:upd H2 a (hU a C)=H2:=by
   funext b;by_cases hb:b=a
   ·rw[hb,ag,ea]
   ·rw[ae hb]
  rw[eq]at w;exact w
theorem xG(q:XIni X.K C fI f)(ha:PE X o ta)(hv:PE X value tv)(hs:swapsWith value (some (.Attribute o f G_)) pos.line X.env=pure false):PS X (.Assign [.Attribute o f G_] value pos) (sXF C f ta tv):=by
 intro a_ s Z H D I h;refine plainObj_wpAny_Assign_Attribute (thn (hv a_ s Z H _ I h) λu s1 ⟨y,H1,I1,ry,h1⟩=>thn (ha a_ s1 Z H1 _ I1 h1) λov s2 ⟨x,H2,I2,rx,a,ex,ea,h2⟩=>?_) hs
 subst ex;obtain rfl:ov=Value.ref a:=rx;obtain⟨⟨t0,go⟩,_,_⟩:=I2.h_ a _ ea;refine ww (vs:=#[.ref t0,.none,.none,.none,.bool false,.none]) I2.kIn q.cl go rfl rfl rfl q.sa q.at_ q.hd q.ob λh' t' g1 g2 g3=>?_
 obtain⟨od,es,ep,gd,gr⟩:=id g2;have hn:H2 s2.heap.objs.size=none:=I2.h_.fresh (Jg _);have ne:s2.heap.objs.size≠a:=Nat.ne_of_gt (Jf go);have Sb:HOk X.prog X.w (upd H2 a (gU a C s2.heap.objs.size)) h':=I2.h_.write (x:=a) (e:=a) (by rw[ea];exact True.intro) (.inl rfl) (λb u n q=>g3 b u n q) ⟨_,g1⟩ (vW g1)
 have un:∀b u,H2 b=some u->(∀φ,u≠.ext φ)->upd (upd H2 a (gU a C s2.heap.objs.size)) s2.heap.objs.size (.t_ od (.xd [(f,y)])) b=some u:=λb u q nx=>by
  rw[ae (aA q hn),ae (λz=>by rw[z,ea]at q;cases q;exact nx _ rfl)]
  exact q
 refine⟨Z,_,I2.un (t':=t') ⟨λb ob z n _ _=>g3 b ob (λw=>by rw[w,ea]at n;cases n) z,λb ob z n _ _=>⟨ob.slots,g3 b ob (λw=>by rw[w,ea]at n;cases n) z⟩,λb ob z n _=>?_,λb ob z _=>?_,λb xs z=>un b _ z (λ_ w=>nomatch w),λb ob u z=>un b _ z (λ_ w=>nomatch w),λb ps z=>⟨#[],by rw[Array.append_empty];exact un b _ z (λ_ w=>nomatch w)⟩⟩ (λb u z=>?_),h2 _ od hn ne⟩
 ·rw[ae (Js (Jf z)),ae (λw=>by rw[w,ea]at n;cases n)]
  exact n
 ·by_cases w:b=a
  ·subst w;exact⟨_,g1⟩
  ·exact⟨_,g3 b ob w z⟩
 ·by_cases w:b=s2.heap.objs.size
  ·subst w;rw[ag]at z;cases z;refine⟨gd,_,g2,λn=>?_⟩
   show RelO (List.lookup n [(f,y)]) (if n=f then some u else none)
   by_cases wn:n=f
   ·rw[Jc wn,wn,JK,beq_self_eq_true];exact ry
   ·rw[IY wn,JK,JA.mpr wn];exact True.intro
  ·rw[ae w]at z;refine (Sb b u z).stay (λ_ _ _ q=>q) (λc q=>?_) λc xs q=>?_
   ·rw[ae λe=>?_]
    ·exact q
    ·rw[e,ae ne,hn]at q;cases q
   ·rw[ae λe=>?_]
    ·exact q
    ·rw[e,ae ne,hn]at q;cases q
noncomputable def forget(H:Hp)(a:Addr):Hp:=λb=>if b=a then none else H b
theorem dB:forget H a a=none:=Jc rfl
theorem dP(h:b≠a):forget H a b=H b:=IY h
theorem Inv.forget(I:Inv X a_ Z H s)(ea:H a=some (.ext φ)):Inv X a_ Z (forget H a) s:=by
 have un:∀b u,H b=some u->(∀φ,u≠.ext φ)->L2.forget H a b=some u:=λb u q nx=>by
  rw[dP (λz=>by rw[z,ea]at q;cases q;exact nx _ rfl)]
  exact q
 have nn:∀b,H b=none->L2.forget H a b=none:=λb n=>by
  by_cases w:b=a
  ·rw[w];exact dB
  ·rw[dP w];exact n
 refine⟨I.ok,I.os,I.bare,⟨I.base.keep,I.base.slot,λb ob q n x=>nn b (I.base.free b ob q n x),I.base.there,λb xs q=>un b _ (I.base.tups b xs q) (λ_ w=>nomatch w),λb ob u q=>un b _ (I.base.D_ b ob u q) (λ_ w=>nomatch w),λb ps q=>?_⟩,I.loc,I.cell,nn _ I.free,λx c e=>nn _ (I.freeC x c e),λp hp=>?_,λb u q=>?_,I.len⟩
 ·obtain⟨m,z⟩:=I.base.I_ b ps q;exact⟨m,un b _ z (λ_ w=>nomatch w)⟩
 ·obtain⟨e,n,r⟩:=I.pin p hp;exact⟨e,nn _ n,r⟩
 ·have w:b≠a:=λw=>by rw[w,dB]at q;cases q
  rw[dP w]at q;exact (I.h_ b u q).stay (λ_ _ _ z=>z) (λc z=>un c _ z (λ_ w=>nomatch w)) λc xs z=>un c _ z (λ_ w=>nomatch w)
theorem sZ{K:Kc}{A:Around}(hh:A.handled=none)(z:dI K C=true)
  (h:wpAny (model prog w) A (eval ce env) (λv s1=>∃a t0 dx,v=.ref a/\K.In s1.heap/\s1.heap.get? a=some {cls:=.ref C,dict:=some dx,data:=.fields #[.ref t0,.none,.none,.none,.bool false,.none]}/\E (.ref a) s1) E s) :
  wpAny (model prog w) A (exec (.Raise (some ce) none pos) env) Q E s:=by
 rw[arm_exec_Raise];refine IU (wpAny_standAt ?_);simp only[evalOpt,Option.map];unfold raiseStmt;refine IU (IU (JT h (λv s1 ⟨a,t0,dx,ev,X,go,he⟩=>IU (wpAny_standAt (IZ ?_))) λ_ _ x=>x))
 subst ev;obtain⟨bm,M,nm,qn,bs,b1,sn,sb,b2,co,dd,x0,x1,x2,x3,x5,hC,T⟩:=g4 X z;have has:(Value.ref C::bm).contains (.type "BaseException")=true:=by rw[List.contains_cons,T.hasType exB.hasBase,Bool.or_true]
 obtain⟨hp,g,d,tk,os⟩:=s1
 repeat (first|with_reducible refine wpAny_loadPart_at go ?_|with_reducible refine wpAny_loadPart_at hC ?_|(with_reducible refine wpAny_isSubtype_exc hC ?_;rw[has])|wp_step)
 exact wpAny_raiseNew_none hh he
noncomputable def i7(cp:Bool)(K:Kc)(C:Addr)(f:Str):Sp:=λvs H Q _=>∃a v,vs=[.ref a,v]/\H a=some (hU a C)/\(cp=false->∀dx ob,H dx=none->dx≠a->Q .i_ (upd (upd H a (gU a C dx)) dx (.t_ ob (.xd [(f,v)]))))/\
 (cp=true->∃p ws,v=.ref p/\SqL K H p ws/\∀q dx ob,H q=none->H dx=none->dx≠a->dx≠q->Q .i_ (upd (upd (upd H q (.lst ws)) a (gU a C dx)) dx (.t_ ob (.xd [(f,.ref q)]))))
end
theorem Aa{P:Program}{w:World}{K:Kc}{mg:Str->Option Value}{base:Heap}{fI C D:Addr}{name qual:Str}{params:Arguments}{scope:Scope}{kV doc pm Kd ct oc:Value}{an od:Option Addr}{KW:Array (Option Value)}{b sl pr f tx:Str}{j:Nat}{px o_ p1 p2 cp p3 p4 p5 p6 p7:Pos}
  (lk:K.lookup fI=some ⟨oc,od,.func (PySem.W.fnOf name qual params [.Expr (.Call (.Attribute (.Name b px) "__init__" o_) [.Name sl p1,.Constant (.str tx) j p2] [] cp) p3,.Assign [.Attribute (.Name sl p4) f p5] (.Name pr p6) p7] scope .none kV doc pm an Kd ct),KW⟩)
  (Kx:PySem.W.codeIn K Kd qual=true) (S:FnScope [sl,pr] [sl,pr] scope) (hg:scope.names.lookup b=some .globalImplicit) (hm:mg b=some (.ref D)) (hl:(o_.endLine == cp.line)=true) (hb:BIni K D)(q:XIni K C fI f)
  (Sd:(b == ("__debug__" : Str))=false) (Q0:(sl == ("__debug__" : Str))=false) (Se:(pr == ("__debug__" : Str))=false) (Nq:(sl == ("__classdict__" : Str))=false) (Sf:(pr == ("__classdict__" : Str))=false) :
  FnOk P w K mg base (CX1 P w) 1 fI (PySem.W.fnOf name qual params [.Expr (.Call (.Attribute (.Name b px) "__init__" o_) [.Name sl p1,.Constant (.str tx) j p2] [] cp) p3,.Assign [.Attribute (.Name sl p4) f p5] (.Name pr p6) p7] scope .none kV doc pm an Kd ct) [sl,pr] (i7 false K C f):=by
 refine uP (k:=0) lk Kx S (λvs H Q E ⟨_,_,e,_⟩=>by subst e;rfl) λA outer s H vs Q E hr LC=>?_
 obtain⟨a,v,ev,ea,h,_⟩:=LC;have h:=h rfl;subst ev;have vs:∀x∈[sl,pr],Vis scope x:=λx hx=>(S.par x hx).elim .inl λz=>.inr (.inl z)
 have h0:PE (cC (CX1 P w) P w K mg base [sl,pr] qual scope fI Kd A outer s H E) (.Name sl p1) (tL 0):=jV rfl (vs _ (by simp)) Q0 Nq
 have h4:PE (cC (CX1 P w) P w K mg base [sl,pr] qual scope fI Kd A outer s H E) (.Name sl p4) (tL 0):=jV rfl (vs _ (by simp)) Q0 Nq
 have h1:PE (cC (CX1 P w) P w K mg base [sl,pr] qual scope fI Kd A outer s H E) (.Name pr p6) (tL 1):=jV rfl (vs _ (by simp)) Se Sf
 refine⟨_,nH (mf (wZ (D:=D) hg hm Sd hb (aB h0 (aB uM pa_nil)) hl (by simp) rfl rfl)) (xR (xG q h4 h1 rfl)),?_⟩
 refine⟨.ref a,rfl,?_⟩;refine⟨a,[.str tx],C,rfl,q.cl,ea,by rw[sizeLine_eq];simp,?_⟩
 exact⟨v,rfl,.ref a,rfl,a,rfl,ea,λdx ob n ne=>h dx ob n ne⟩
end L2
namespace L2
open PySem PySem.Spec PyProof.Rows
noncomputable def aN(names:List (Str×NameKind))(cs:List (Str×Addr))(acc:List (Str×Addr)):List (Str×Addr):=match names with
 |[]=>acc
 |(n,k)::r=>if k=.free then (match cs.lookup n with|some c=>aN r cs ((n,c)::acc)|none=>aN r cs acc) else aN r cs acc
theorem bO{cs:List (Str×Addr)}:∀{names:List (Str×NameKind)}{acc:List (Str×Addr)},(∀p∈acc,cs.lookup p.1=some p.2)->∀p∈aN names cs acc,cs.lookup p.1=some p.2
 |[],_,h,p,hp=>h p hp
 |(n,k)::r,acc,h,p,hp=>by
  unfold aN at hp;split at hp
  ·split at hp
   next c e=>
    refine bO (λq hq=>?_) p hp
    rcases Jb.mp hq with z|z
    ·subst z;exact e
    ·exact h q z
   next=>exact bO h p hp
  ·exact bO h p hp
theorem ef:∀{names:List (Str×NameKind)}{acc:List (Str×Addr)}{p:Str×Addr},p∈acc->p∈aN names cs acc
 |[],_,_,h=>h
 |(n,k)::r,acc,p,h=>by
  unfold aN;split
  ·split
   ·exact ef (IX _ h)
   ·exact ef h
  ·exact ef h
theorem eR{cs:List (Str×Addr)}(e:cs.lookup x=some c):∀{names:List (Str×NameKind)}{acc:List (Str×Addr)},(x,NameKind.free)∈names->(x,c)∈aN names cs acc
 |(n,k)::r,acc,h=>by
  rcases Jb.mp h with z|z
  ·cases z;unfold aN;rw[Jc rfl,e];exact ef Jd
  ·unfold aN;split
   ·split
    ·exact eR e z
    ·exact eR e z
   ·exact eR e z
theorem fg{l:List (Str×Addr)}(h:(x,c)∈l)(u:∀p∈l,p.1=x->p.2=c):l.lookup x=some c:=by
 induction l with
 |nil=>cases h
 |cons p r ih=>
  obtain⟨n,d⟩:=p;by_cases e:x=n
  ·subst e;rw[JK,beq_self_eq_true];exact congrArg some (u (x,d) Jd rfl)
  ·rw[JK];rw[JA.mpr e];rcases Jb.mp h with z|z
   ·cases z;exact absurd rfl e
   ·exact ih z λq hq=>u q (IX _ hq)
theorem bH{l:List (Str×Addr)}(h:l.lookup x=some c):(x,c)∈l:=PySem.mem_of_lookup h
theorem oW{cs:List (Str×Addr)}(hm:(x,NameKind.free)∈names)(e:cs.lookup x=some c):(aN names cs []).lookup x=some c:=by
 refine fg (eR e hm) λp hp hx=>?_
 have z:=bO (acc:=[]) (λp hp=>nomatch hp) p hp
 rw[hx,e]at z;exact (Jn z).symm
theorem rM{env:Env}(e:env.cells.lookup n=some c):cellOf env n=pure c:=by
 unfold cellOf;rw[e]
theorem kJ{scope:Scope}{env:Env}(h:∀y∈scope.names,y.2=.free->∃c,env.cells.lookup y.1=some c):closureFor scope env=pure (aN scope.names env.cells []):=by
 have go:∀(names:List (Str×NameKind)) (acc:List (Str×Addr)),(∀y∈names,y.2=.free->∃c,env.cells.lookup y.1=some c)->
   (forIn names acc λx r=>match x with
    |(n,k)=>if (k == NameKind.free)=true then do let c<-cellOf env n;pure (ForInStep.yield ((n,c)::r)) else pure (ForInStep.yield r):Sem (List (Str×Addr)))=pure (aN names env.cells acc):=by
  intro names
  induction names with
  |nil=>intro acc _;rfl
  |cons y r ih=>
   intro acc hy;obtain⟨n,k⟩:=y;rw[List.forIn_cons];by_cases hk:k=NameKind.free
   ·subst hk;obtain⟨c,e⟩:=hy (n,.free) Jd rfl;simp only[beq_self_eq_true,if_true];rw[rM e];show (forIn r ((n,c)::acc) _:Sem _)=_;rw[ih _ λz hz=>hy z (IX _ hz)]
    conv=>rhs;unfold aN
    simp only[if_true,e]
   ·have hb:(k == NameKind.free)=false:=by simpa using hk
    simp only[hb,JE,if_false];show (forIn r acc _:Sem _)=_;rw[ih _ λz hz=>hy z (IX _ hz)]
    conv=>rhs;unfold aN
    simp only[hk,if_false]
 have e:=go scope.names [] h;show ((forIn scope.names [] λx r=>match x with
    |(n,k)=>if (k == NameKind.free)=true then do let c<-cellOf env n;pure (ForInStep.yield ((n,c)::r)) else pure (ForInStep.yield r):Sem (List (Str×Addr))) >>=λz=>pure z)=_
 rw[e];rfl
theorem aK:∀(names:List (Str×NameKind)) (n:Nat) (acc:List (Str×Addr)),cellsFrom n names acc=cellsFrom n names []++acc
 |[],_,_=>rfl
 |(x,k)::r,n,acc=>by
  unfold cellsFrom;split
  ·rw[aK r (n+1) ((x,n)::acc),aK r (n+1) [(x,n)],List.append_assoc];rfl
  ·exact aK r n acc
theorem aD:∀{names:List (Str×NameKind)}{n:Nat}{p:Str×Addr},p∈cellsFrom n names []->(p.1,NameKind.cell)∈names/\n<=p.2
 |[],_,_,h=>nomatch h
 |(x,k)::r,n,p,h=>by
  unfold cellsFrom at h;split at h
  ·rename_i hk;rw[aK]at h;rcases Jv.mp h with z|z
   ·obtain⟨a,b⟩:=aD z;exact⟨IX _ a,by omega⟩
   ·obtain rfl:=Ju.mp z;exact⟨by rw[show k=NameKind.cell from by simpa using hk];exact Jd,Jg _⟩
  ·obtain⟨a,b⟩:=aD h;exact⟨IX _ a,b⟩
theorem cB:∀{names:List (Str×NameKind)}{n:Nat}{x:Str},(x,NameKind.cell)∈names->∃c,(x,c)∈cellsFrom n names []
 |(y,k)::r,n,x,h=>by
  rcases Jb.mp h with z|z
  ·cases z;unfold cellsFrom;rw[Jc (by rfl),aK]
   exact⟨n,Jz _ Jd⟩
  ·unfold cellsFrom;split
   ·obtain⟨c,e⟩:=cB z (n:=n+1);rw[aK];exact⟨c,JO _ e⟩
   ·exact cB z
theorem eK:∀{l:List (Str×Addr)}{x:Str}{c:Addr},(x,c)∈l->∃c',l.lookup x=some c'
 |(y,d)::r,x,c,h=>by
  rw[JK];cases e:x == y with
  |true=>exact⟨d,rfl⟩
  |false=>
   rcases Jb.mp h with z|z
   ·cases z;simp at e
   ·exact eK z
theorem iK
  (hQ:Q {scope:=scope,locals:=s.heap.objs.size,globals:=globals,cells:=cellsFrom (s.heap.objs.size+1) scope.names []++cl,qual:=qual,func:=none,code:=outer.code,frame:=outer.frame,builtins:=outer.builtins} {s with heap:=pushCells (s.heap.push {cls:=.type "dict",data:=.dict #[]}) scope.names}) :
  wpAny M A (newFunctionEnv scope globals cl [] qual none .none (some outer)) Q E s:=by
 simp only[newFunctionEnv,Option.isSome_some,if_true];refine IU (wpAny_alloc ?_);refine IU (wpAny_layCells _ (λname kind cells=>by cases hkc:kind == NameKind.cell<;>simp[hkc]) _ _ _ _ ?_)
 rw[show ({s with heap:=s.heap.push {cls:=.type "dict",data:=.dict #[]}}:Shared).heap.objs.size=s.heap.objs.size+1 from Heap.size_push ..,aK]
 refine IU ?_;rw[List.forIn_nil];exact IZ (IZ hQ)
noncomputable def fj(N:List Str)(js:List (Option Nat))(sc Lu:Scope)(oN:List Str):Bool:=
 N.length == js.length&&decide N.Nodup&&
 (N.zip js).all (λp=>match p.2 with
  |none=>sc.names.lookup p.1 == some .local||sc.names.lookup p.1 == some .cell
  |some j=>oN[j]? == some p.1&&sc.names.contains (p.1,NameKind.free)&&Lu.names.lookup p.1 == some .cell)&&
 decide (sc.names.map (·.1)).Nodup&&sc.names.all (λy=>(y.2 != .free||Lu.names.lookup y.1 == some .cell)&&(y.2 != .local||sc.names.lookup y.1 == some .local))&&(sc.kind == .function)&&(Lu.kind == .function)
noncomputable def jC(js:List (Option Nat))(Z:St):St:=js.map λo=>o.bind λj=>(Z[j]?).bind id
noncomputable abbrev compCx(X:Cx)(scope:Scope)(C:Addr)(N:List Str)(s2:Shared)(H2:Hp)(fp:List Addr)(a_:List (Addr×Obj)):Cx:=
 {X with env:=compEnvC scope (cellsFrom (C+1) scope.names []++aN scope.names X.env.cells []) C X.env,N:=N,s₀:=s2,H₀:=H2,outer:=X.stack,stack:=X.stack,ex:=fp,fn:=λx=>scope.names.lookup x == some .cell,pn:=X.pn++a_,xe:=λ_ _=>False}
theorem ig{env:Env}(hk:env.scope.kind=.function)(hc:env.kindOf x=some .cell):∀{names:List (Str×NameKind)},(x,NameKind.free)∈names->(∀y∈names,y.1=x->y.2=.free)->
  (names.map λ(n,k)=>if (k == .free&&env.scope.kind == .function&&env.kindOf n == some .cell) then (n,.cell) else (n,k)).lookup x=some NameKind.cell
 |(n,k)::r,hm,hu=>by
  show List.lookup x ((if (k == NameKind.free&&env.scope.kind == .function&&env.kindOf n == some .cell)=true then (n,NameKind.cell) else (n,k))::_)=_
  by_cases e:x=n
  ·subst e;have ek:k=.free:=hu (x,k) Jd rfl;subst ek;simp only[hk,hc,beq_self_eq_true,Bool.and_self,if_true];rw[JK,beq_self_eq_true]
  ·have LF:(x,NameKind.free)∈r:=by
    rcases Jb.mp hm with z|z
    ·cases z;exact absurd rfl e
    ·exact z
   have ih:=ig hk hc LF λy hy=>hu y (IX _ hy)
   split
   ·rw[JK,JA.mpr e];exact ih
   ·rw[JK,JA.mpr e];exact ih
structure CompOk (N:List Str) (js:List (Option Nat)) (sc Lu:Scope)(oN:List Str):Prop where
 len:N.length=js.length
 nd:N.Nodup
 own:∀(i:Nat)(x:Str),N[i]?=some x->js[i]?=some none->sc.names.lookup x=some .local\/sc.names.lookup x=some .cell
 fr:∀(i:Nat)(x:Str)(j:Nat),N[i]?=some x->js[i]?=some (some j)->oN[j]?=some x/\(x,NameKind.free)∈sc.names/\Lu.names.lookup x=some .cell
 ndn:(sc.names.map (·.1)).Nodup
 nf:∀y∈sc.names,y.2=.free->Lu.names.lookup y.1=some .cell
 nl:∀y∈sc.names,y.2=.local->sc.names.lookup y.1=some .local
 k1:sc.kind=.function
 k2:Lu.kind=.function
theorem lF(h:fj N js sc Lu oN=true):CompOk N js sc Lu oN:=by
 unfold fj at h;simp only[IV,Jl,Je,JB,Bool.or_eq_true,bne_iff_ne]at h;obtain⟨⟨⟨⟨⟨⟨h1,h2⟩,h3⟩,h4⟩,h5⟩,h6⟩,h7⟩:=h;have zip:∀(i:Nat)(x:Str)(o:Option Nat),N[i]?=some x->js[i]?=some o->(x,o)∈N.zip js:=λi x o e1 e2=>
  Jy (i:=i) (by rw[List.getElem?_zip_eq_some];exact⟨e1,e2⟩)
 refine⟨h1,h2,λi x e1 e2=>?_,λi x j e1 e2=>?_,h4,λy hy e=>?_,λy hy e=>?_,h6,h7⟩
 ·have z:=h3 _ (zip i x _ e1 e2);simpa using z
 ·have z:=h3 _ (zip i x _ e1 e2);simp only[IV,Jl]at z;exact⟨z.1.1,List.contains_iff_mem.mp z.1.2,z.2⟩
 ·rcases (h5 y hy).1 with z|z
  ·exact absurd e z
  ·exact z
 ·rcases (h5 y hy).2 with z|z
  ·exact absurd e z
  ·exact z
theorem fk{env:Env}:∀{names:List (Str×NameKind)},
  (names.map λ(n,k)=>if (k == .free&&env.scope.kind == .function&&env.kindOf n == some .cell) then (n,.cell) else (n,k)).lookup x=some k->∃k',(x,k')∈names/\(k'=k\/k'=.free)
 |[],h=>by cases h
 |(n,k0)::r,h=>by
  have h:List.lookup x ((if (k0 == NameKind.free&&env.scope.kind == .function&&env.kindOf n == some .cell)=true then (n,NameKind.cell) else (n,k0))::_)=_:=h
  by_cases e:x=n
  ·subst e;split at h
   next hc=>
    refine⟨k0,Jd,.inr ?_⟩;have:=(J6.mp (J6.mp hc).1).1;simpa using this
   next=>
    rw[JK,beq_self_eq_true]at h;exact⟨k0,Jd,.inl (Jn h)⟩
  ·have h':List.lookup x (r.map λ(n,k)=>if (k == .free&&env.scope.kind == .function&&env.kindOf n == some .cell) then (n,.cell) else (n,k))=some k:=by
    split at h
    ·rw[JK,JA.mpr e]at h;exact h
    ·rw[JK,JA.mpr e]at h;exact h
   obtain⟨k',m,z⟩:=fk h';exact⟨k',IX _ m,z⟩
theorem sK(I:Nat->Shared->Prop)
  (LY:∀n s,I n s->wpAny (model prog w) A (pyNext it) (λr s1=>match r with
   |none=>R (.ok .next) s1
   |some v=>wpAny (model prog w) A (letOwnedTupleGo KI it v) (λ_ s2=>wpAny (model prog w) A (assign KI env v) (λ_ s3=>
     wpAny (model prog w) A (forIn ifs true λc r=>if r=true then do let ok<-isTrue c env (eval c env);pure (ForInStep.yield ok) else pure (ForInStep.yield r)) (λok s4=>
      if ok=true then wpAny (model prog w) A (eval y_ env) (λx s5=>wpAny (model prog w) A (call (.builtin "list.append") [acc,x]) (λ_ s6=>∃m,m<n/\I m s6) (λ_ _=>False) s5) (λ_ _=>False) s4
      else ∃m,m<n/\I m s4) (λ_ _=>False) s3) (λ_ _=>False) s2) (λ_ _=>False) s1) (λ_ _=>False) s)
  (n:Nat)(h:I n s):codeAny (model prog w) A (.compLoop (.ListComp y_ [⟨KI,iter,ifs,0⟩] scope pos) 0 it acc env) R s:=by
 have no:∀{α:Type}{t:Sem α}{Q:α->Shared->Prop}{E:Value->Shared->Prop}{z:Shared},wpAny (model prog w) A t Q (λ_ _=>False) z->wpAny (model prog w) A t Q E z:=λh=>wpAny_noRaise h
 refine codeAny_loop rfl I (λn s hI=>?_) n h
 show wpAny _ A ((compTurn (.ListComp y_ [⟨KI,iter,ifs,0⟩] scope pos) 0 it acc env).onRaise (λx=>do noteFrame x env;theTreesLotGoes x)) _ _ s
 refine wpAny_noted ?_;rw[compTurn_list];refine IU (wpAny_standAt (IU (no (JT (LY n s hI) (λr s1 h1=>?_) λ_ _ z=>z))))
 cases r with
 |none=>exact IZ h1
 |some v=>
  refine IU (no (JT h1 (λ_ s2 h2=>?_) λ_ _ z=>z))
  refine IU (no (JT h2 (λ_ s3 h3=>?_) λ_ _ z=>z))
  refine IU (no (JT h3 (λok s4 h4=>?_) λ_ _ z=>z))
  cases ok with
  |false=>exact IZ ⟨rfl,h4⟩
  |true=>
   refine IU (IU (no (JT h4 (λx s5 h5=>?_) λ_ _ z=>z)))
   exact IU (no (JT h5 (λ_ s6 h6=>IZ (IZ ⟨rfl,h6⟩)) λ_ _ z=>z))
def PIf(X:Cx)(ifs:List Expr)(tt:TT):Prop:=∀(a_:List (Addr×Obj)) (s:Shared)(Z:St)(H:Hp)(Q:Bool->Hp->Prop),Inv X a_ Z H s->tt Z H Q->
 wpAny (model X.prog X.w) X.A (forIn ifs true λc r=>if r=true then do let ok<-isTrue c X.env (eval c X.env);pure (ForInStep.yield ok) else pure (ForInStep.yield r)) (TP X a_ Z Q) X.xe s
noncomputable def tYes:TT:=λ_ H Q=>Q true H
theorem xJ:PIf X [] tYes:=λa_ s Z H Q I h=>wpAny_tests_nil ⟨H,I,h⟩
theorem xl(h:PT X c t):PIf X [c] t:=λa_ s Z H Q I q=>wpAny_tests_one (h a_ s Z H Q I q)
noncomputable def rj(js:List (Option Nat))(wi:TI)(g:TG)(tt:TT)(te:TE):TE:=λZ H Q=>wi Z H λJ H1=>∀p,H1 p=none->∃W:Nat->Nat->St->Hp->Prop,(∃m,W 0 m (jC js Z) (upd H1 p (.lst [])))/\
 ∀(i:Nat) m Lm H,W i m Lm H->(J.stop i H/\Q (.ref p) H)\/(J.go i H/\∀x H',J.yld i H x H'->g x Lm H' λKo H2=>tt Ko H2 λb H3=>
  if b=true then te Ko H3 λy H4=>∃ys,H4 p=some (.lst ys)/\ys.length<sizeLine/\∃m',m' < m/\W (i+1) m' Ko (upd H4 p (.lst (ys++[y]))) else ∃m',m' < m/\W (i+1) m' Ko H3)
section
variable {X:Cx}
theorem n8(h_:fj N js scope X.env.scope X.N=true)(F_:X.calm=true)(hi:PI X tg iter wi)
  (hg:∀C s2 H2 fp pn,PG (compCx X scope C N s2 H2 fp pn) tg g) (ht:∀C s2 H2 fp pn,PIf (compCx X scope C N s2 H2 fp pn) ifs tt) (he:∀C s2 H2 fp pn,PE (compCx X scope C N s2 H2 fp pn) y_ te)
  (hs:∀x,foldedSetIterable iter X.env x=pure x) (I:Inv X a_ Z H s)(h:rj js wi g tt te Z H Q)
  (fin:∀(D C:Addr)(s5:Shared)(H4:Hp)(m5:Str->Option Value),s5.heap.Ns C m5->g5 X a_ H4 C->(∀h',Heap.SameBut C s5.heap h'->Inv X a_ Z H4 {s5 with heap:=h'})->Q (.ref D) H4->compPost (model X.prog X.w) X.A X.xe use Qf (.ref D) C (.ok .next) s5) :
  wpAny (model X.prog X.w) X.A (comprehension (.ListComp y_ [⟨tg,iter,ifs,0⟩] scope pos) scope X.env G_ (newList []) false (eval iter X.env) use) Qf X.xe s:=by
 have O:=lF h_;have LG:∀y∈scope.names,y.2=.free->∃c,X.env.cells.lookup y.1=some c:=λy hy e=>I.ok.has y.1 (.inl (O.nf y hy e))
 refine wpAny_comprehension_free (use:=use) rfl hs (kJ LG) O.k1 O.nl (thn (hi a_ s Z H _ I h) λxv s1 h1=>thn h1 λPn s2 h2=>?_)
 obtain⟨it,fp,tn,J,H2,rfl,I2,T,OO,f2,hQ⟩:=h2;refine JX (iK ?_);dsimp only;have NZ:(s2.heap.push {cls:=.type "list",dict:=none,data:=.seq ([]:List Value).toArray}).objs.size=s2.heap.objs.size+1:=Heap.size_push ..;have Q1:((s2.heap.push {cls:=.type "list",dict:=none,data:=.seq ([]:List Value).toArray}).push {cls:=.type "dict",data:=.dict #[]}).objs.size=s2.heap.objs.size+1+1:=by rw[Heap.size_push,NZ]
 have Me:(pushCells ((s2.heap.push {cls:=.type "list",dict:=none,data:=.seq ([]:List Value).toArray}).push {cls:=.type "dict",data:=.dict #[]}) scope.names).Ns (s2.heap.objs.size+1) (λ_=>none):=by
  rw[<-NZ];exact (Heap.Ns.new _ (.type "dict")).keeps (pushCells_keeps _ _)
 have keep:∀b o,s2.heap.get? b=some o->(pushCells ((s2.heap.push {cls:=.type "list",dict:=none,data:=.seq ([]:List Value).toArray}).push {cls:=.type "dict",data:=.dict #[]}) scope.names).get? b=some o:=λb o e=>
  pushCells_keeps _ _ b o (IW _ (IW _ e))
 have Q4:(pushCells ((s2.heap.push {cls:=.type "list",dict:=none,data:=.seq ([]:List Value).toArray}).push {cls:=.type "dict",data:=.dict #[]}) scope.names).get? s2.heap.objs.size=some {cls:=.type "list",data:=.seq ([]:List Value).toArray}:=
  pushCells_keeps _ _ _ _ (IW _ (Jp _ rfl))
 have OW:=cellsFrom_ok scope.names ((s2.heap.push {cls:=.type "list",dict:=none,data:=.seq ([]:List Value).toArray}).push {cls:=.type "dict",data:=.dict #[]}) (s2.heap.objs.size+1+1) [] ⟨λ_ _ hm=>(nomatch hm),List.Pairwise.nil⟩ (by rw[Q1];exact Jg _)
 rw[Q1]at OW;rw[NZ];generalize pushCells ((s2.heap.push {cls:=.type "list",dict:=none,data:=.seq ([]:List Value).toArray}).push {cls:=.type "dict",data:=.dict #[]}) scope.names=Mg at Me keep Q4 OW ⊢;have Q5:H2 s2.heap.objs.size=none:=I2.h_.fresh (Jg _);have Sg:H2 (s2.heap.objs.size+1)=none:=I2.h_.fresh (JZ _);have Sh:s2.heap.objs.size+1≠s2.heap.objs.size:=Nat.succ_ne_self _;obtain⟨W,⟨m0,w0⟩,LY⟩:=hQ s2.heap.objs.size Q5;have Ky:∀b∈fp,b<s2.heap.objs.size:=λb hb=>by
  obtain⟨o,e,_⟩:=T.obj 0 _ OO b hb;exact Jf e
 have lk:∀x c,(cellsFrom (s2.heap.objs.size+1+1) scope.names []++aN scope.names X.env.cells []).lookup x=some c->(x,c)∈cellsFrom (s2.heap.objs.size+1+1) scope.names []\/X.env.cells.lookup x=some c:=λx c e=>by
  rcases Jv.mp (bH e) with z|z
  ·exact .inl z
  ·exact .inr (bO (acc:=[]) (λp hp=>nomatch hp) _ z)
 have old:∀x c,X.env.cells.lookup x=some c->c<s2.heap.objs.size:=λx c e=>by
  obtain⟨v,o,ho,hd⟩:=I2.cell x c e;exact Jf ho
 have cne:∀b∈fp,∀x c,(cellsFrom (s2.heap.objs.size+1+1) scope.names []++aN scope.names X.env.cells []).lookup x=some c->c≠b:=λb hb x c e=>by
  rcases lk x c e with z|z
  ·have a1:=(aD z).2;exact Nat.ne_of_gt (Jm (Ky b hb) (Jw (J0 _ 2) a1))
  ·exact (f2 b hb).2.2.2.2.1 x c z
 let Xc:Cx:=compCx X scope (s2.heap.objs.size+1) N s2 H2 fp a_
 have Si:Xc.Ok:=by
  refine⟨I2.ok.mod,O.k1,I2.ok.glob,I2.ok.blt,JZ _,λx y c e1 e2=>?_,λx hx=>?_,λx c e1 e2=>?_,I2.ok.hd,I2.ok.frames,.inl rfl,λb hb=>?_,I2.bs,Jw I2.ok.bsz I2.sz,λb o e hb=>?_,λb hb hm=>?_,I2.stack,I2.stkFree⟩
  ·rcases lk x c e1 with z1|z1<;>rcases lk y c e2 with z2|z2
   ·exact name_of_addr OW.apart z1 z2
   ·have a1:=(aD z1).2;exact absurd (Jm (old _ _ z2) (Jw (J0 _ 2) a1)) (JN _)
   ·have a1:=(aD z2).2;exact absurd (Jm (old _ _ z1) (Jw (J0 _ 2) a1)) (JN _)
   ·exact I2.ok.inj x y c z1 z2
  ·have hx:(relabel scope X.env).names.lookup x=some .cell\/(relabel scope X.env).names.lookup x=some .free:=hx;have KQ:(x,NameKind.free)∈scope.names\/(x,NameKind.cell)∈scope.names:=by
    rcases hx with hx|hx
    ·obtain⟨k',m,z⟩:=fk hx;rcases z with z|z
     ·subst z;exact .inr m
     ·subst z;exact .inl m
    ·obtain⟨k',m,z⟩:=fk hx;rcases z with z|z<;>(subst z;exact .inl m)
   rcases KQ with KQ|KQ
   ·obtain⟨c,e⟩:=LG _ KQ rfl;exact eK (Jz _ (bH (oW KQ e)))
   ·obtain⟨c,e⟩:=cB KQ (n:=s2.heap.objs.size+1+1);exact eK (JO _ e)
  ·have e1:scope.names.lookup x=some .cell:=Jl.mp e1;obtain⟨c1,h1⟩:=cB (PySem.mem_of_lookup e1) (n:=s2.heap.objs.size+1+1);obtain⟨c2,h2⟩:=eK h1;have e2:(cellsFrom (s2.heap.objs.size+1+1) scope.names []++aN scope.names X.env.cells []).lookup x=some c:=e2;rw[List.lookup_append,h2]at e2;cases e2;have a1:=(aD (bH h2)).2;exact Jw (J0 _ 2) a1
  ·exact⟨Js (Nat.lt_succ_of_lt (Ky b hb)),λx c e=>cne b hb x c e⟩
  ·rcases (f2 b hb).2.2.2.1 with z|z
   ·exact I2.ok.noex b o e z
   ·exact absurd (Jm (Jf e) (Jw I2.ok.bsz z)) (JN _)
  ·rcases Jb.mp (I2.stkSub b hm) with z|z
   ·exact (f2 b hb).2.1 z
   ·exact (f2 b hb).2.2.1 z
 have I3:Inv Xc [] (jC js Z) (upd H2 s2.heap.objs.size (.lst [])) {s2 with heap:=Mg}:=by
  refine⟨Si,rfl,I2.bare,Un.laid keep (Jg _) Q5,⟨_,Me,λi x v e1 e2 e3=>?_⟩,λx c e=>?_,?_,λx c e=>?_,λp hp=>?_,?_,?_⟩
  ·have e2:(js.map λo=>o.bind λj=>(Z[j]?).bind id)[i]?=some (some v):=e2
   rw[JJ]at e2;cases q:js[i]? with
   |none=>rw[q]at e2;cases e2
   |some o=>
    rw[q]at e2;cases o with
    |none=>cases e2
    |some j=>
     obtain⟨a1,a2,a3⟩:=O.fr i x j e1 q;have hv:Z[j]?=some (some v):=by
      cases z:Z[j]? with
      |none=>rw[Option.map_some,Option.bind_some,z]at e2;cases e2
      |some y=>
       rw[Option.map_some,Option.bind_some,z]at e2;have e2:some (id y)=some (some v):=e2;rw[show y=some v from Jn e2]
     obtain⟨m,hn,hl⟩:=I2.loc;obtain⟨u,r,l⟩:=hl j x v a1 hv (.inr (.inl a3));refine⟨u,r,?_⟩;rcases l with ⟨k,_⟩|⟨k,c,e,o,ho,hd⟩
     ·rw[show X.env.kindOf x=some .cell from a3]at k;cases k
     ·have only:∀y∈scope.names,y.1=x->y.2=.free:=λy hy N0=>?_
      ·refine .inr ⟨.inl (ig I2.ok.kind a3 a2 only),c,fg (Jz _ (bH (oW a2 e))) (λp hp hx=>?_),o,keep _ _ ho,hd⟩
       rcases Jv.mp hp with z|z
       ·have:=only _ (aD z).1 hx;cases this
       ·have z:=bO (acc:=[]) (λp hp=>nomatch hp) p z
        rw[hx,e]at z;exact (Jn z).symm
      obtain⟨i1,h1,MT⟩:=List.mem_iff_getElem.mp hy;obtain⟨i2,h2,MU⟩:=List.mem_iff_getElem.mp a2;have:i1=i2:=by
       refine (List.getElem_inj (h₀:=by rw[Jh];exact h1) (h₁:=by rw[Jh];exact h2) O.ndn).mp ?_
       rw[List.getElem_map,List.getElem_map,MT,MU];exact N0
      subst this;rw[MT]at MU;rw[MU]
  ·rcases lk x c e with z|z
   ·exact⟨none,(OW.empty x c z).1⟩
   ·obtain⟨v,o,ho,hd⟩:=I2.cell x c z;exact⟨v,o,keep _ _ ho,hd⟩
  ·show upd H2 _ _ (s2.heap.objs.size+1)=none;rw[ae Sh];exact Sg
  ·rcases lk x c e with z|z
   ·have a1:=(aD z).2;show upd H2 _ _ c=none;rw[ae (Nat.ne_of_gt (Jm (Nat.lt_add_of_pos_right (by decide:0<2)) a1))]
    exact I2.h_.fresh (Jw (J0 _ 2) a1)
   ·have a2:=old _ _ z;show upd H2 _ _ c=none;rw[ae (Js a2)];exact I2.freeC x c z
  ·have hp:p∈X.pn++a_:=by rw[JV]at hp;exact hp
   obtain⟨e,n,ne,nf,d⟩:=I2.pin p hp;refine⟨keep _ _ e,by rw[ae (Js (Jf e))];exact n,Js (Nat.lt_succ_of_lt (Jf e)),λhm=>?_,d⟩
   rcases Jb.mp (I2.stkSub _ hm) with z|z
   ·exact ne z
   ·exact nf z
  ·exact I2.h_.laid keep (Jg _) ⟨Nat.zero_le _,[],0,.nil,Q4⟩
  ·show (js.map _).length=N.length;rw[Jh,O.len]
 have PJ:∀{H':Hp},(∀b∈fp,H' b=none)->∀b∈fp,g5 Xc [] H' b:=λ{H'} hn b hb=>by
  refine⟨hn b hb,Js (Nat.lt_succ_of_lt (Ky b hb)),λhm=>?_,.inl hb,λx c e=>cne b hb x c e,λp hp=>(f2 b hb).2.2.2.2.2 p (by rw[JV]at hp;exact hp)⟩
  rcases Jb.mp (I2.stkSub b hm) with z|z
  ·exact (f2 b hb).2.1 z
  ·exact (f2 b hb).2.2.1 z
 have NN:tn 0 Mg:=T.keep 0 _ _ OO λb hb o e=>keep b o e
 have OP:∀b∈fp,(upd H2 s2.heap.objs.size (.lst [])) b=none:=λb hb=>by
  rw[ae (Js (Ky b hb))];exact (f2 b hb).1
 have OJ:codeAny (model X.prog X.w) X.A (.compLoop (.ListComp y_ [⟨tg,iter,ifs,0⟩] scope pos) 0 (.ref it) (.ref s2.heap.objs.size) (compEnvC scope (cellsFrom (s2.heap.objs.size+1+1) scope.names []++aN scope.names X.env.cells []) (s2.heap.objs.size+1) X.env))
   (compPost (model X.prog X.w) X.A X.xe use Qf (.ref s2.heap.objs.size) (s2.heap.objs.size+1)) {s2 with heap:=Mg}:=by
  refine sK (λn s'=>∃i Lm H',Inv Xc [] Lm H' s'/\tn i s'.heap/\(∀b∈fp,H' b=none)/\W i n Lm H') ?_ m0 ⟨0,_,_,I3,NN,OP,w0⟩
  rintro n s4 ⟨i,Lm,H4,I4,Q6,Q7,w4⟩;rcases LY i n Lm H4 w4 with ⟨stop,q⟩|⟨go,step⟩
  ·refine thn (T.done Xc rfl rfl rfl F_ i [] s4 Lm H4 (λ_ _=>False) I4 (PJ Q7) Q6 stop) λr s5 ⟨hr,I5⟩=>?_
   subst hr;obtain⟨m5,Sj,_⟩:=I5.loc;have MV:Un (frs X.stack) fp H2 H4 s2.heap s5.heap:=I5.base;have Mu:∀b o,s2.heap.get? b=some o->b≠s2.heap.objs.size+1:=λb o e=>Js (Nat.lt_succ_of_lt (Jf e))
   have fC:H4 (s2.heap.objs.size+1)=none:=I5.free;refine fin _ _ _ H4 m5 Sj (I2.fpOk (JZ _) fC) (λh' KP=>?_) q
   refine I2.call' (s':={s5 with heap:=h'}) (ch:=fp) I5.os ⟨λb o q n hb hx=>(KP.2 b (Mu b o q)).trans (MV.keep b o q n hb hx),λb o q n hb hx=>?_,MV.free,λb o q hx=>?_,MV.tups,MV.D_,MV.I_⟩ ?_ I5.bare (λb hb=>⟨(f2 b hb).2.2.2.1,(f2 b hb).2.1,(f2 b hb).2.2.2.2.1,(f2 b hb).2.2.2.2.2⟩)
   ·obtain⟨sl,z⟩:=MV.slot b o q n hb hx;exact⟨sl,(KP.2 b (Mu b o q)).trans z⟩
   ·obtain⟨o',z⟩:=MV.there b o q hx;exact⟨o',(KP.2 b (Mu b o q)).trans z⟩
   ·exact I5.h_.keptT λb u ob hb q=>(KP.2 b λz=>by rw[z,fC]at hb;cases hb).trans q
  ·refine thn (T.item Xc rfl rfl rfl F_ i [] s4 Lm H4 (λ_ _=>False) I4 (PJ Q7) Q6 go) λr s5 z_=>?_
   obtain⟨u,hr,h5⟩:=z_;subst hr;refine thn h5 λ_ s6 z_=>?_
   obtain⟨x,H6,I6,r6,y6,N1,Sk⟩:=z_;have Sl:=I6.pinned (PJ Sk) (T.obj _ _ N1);refine thn (hg _ _ _ _ _ _ s6 Lm H6 x u _ Sl r6 (step x H6 y6)) λ_ s7 z_=>?_
   obtain⟨KU,H7,I7,q7⟩:=z_;refine thn (ht _ _ _ _ _ _ s7 KU H7 _ I7 q7) λok s8 z_=>?_
   obtain⟨H8,I8,q8⟩:=z_;have c_:∀{H9:Hp}{s9:Shared}{PK:St},Inv Xc ([]++j1 fp s6.heap) PK H9 s9->Inv Xc [] PK H9 s9/\tn (i+1) s9.heap/\∀b∈fp,H9 b=none:=λ{H9 s9 PK} I9=>by
    refine⟨I9.unpinned,T.keep _ _ _ N1 λb hb o e=>(I9.pin (b,o) (Jz _ (Jz _ (eE hb e)))).1,λb hb=>?_⟩
    obtain⟨o,e,d⟩:=T.obj _ _ N1 b hb;exact (I9.pin (b,o) (Jz _ (Jz _ (eE hb e)))).2.1
   cases ok with
   |false=>
    rw[IY Jx]at q8 ⊢;obtain⟨m',hm,w8⟩:=q8;obtain⟨b1,b2,b3⟩:=c_ I8;exact⟨m',hm,i+1,KU,H8,b1,b2,b3,w8⟩
   |true=>
    rw[Jc rfl]at q8 ⊢;refine thn (he _ _ _ _ _ _ s8 KU H8 _ I8 q8) λy s9 z_=>?_
    obtain⟨z,H9,I9,r9,ys,e9,hl,m',hm,w9⟩:=z_;refine thn (lO (X:=Xc) _ s9 KU H9 (.ref s2.heap.objs.size) [z] (.ref s2.heap.objs.size) [y] (λ_ Q8=>Q8=upd H9 s2.heap.objs.size (.lst (ys++[z]))) I9 rfl (.cons r9 .nil) ⟨_,ys,z,rfl,rfl,e9,hl,rfl⟩) λ_ T5 z_=>?_
    obtain⟨_,Q8,Sm,_,Sn⟩:=z_;subst Sn;obtain⟨b1,b2,b3⟩:=c_ Sm;exact⟨m',hm,i+1,KU,_,b1,b2,b3,w9⟩
 exact codeAny_compStart_list OJ (T.self _ 0 _ _ _ NN OJ)
theorem wS(h_:fj N js scope X.env.scope X.N=true)(F_:X.calm=true)(hi:PI X tg iter wi)
  (hg:∀C s2 H2 fp pn,PG (compCx X scope C N s2 H2 fp pn) tg g) (ht:∀C s2 H2 fp pn,PIf (compCx X scope C N s2 H2 fp pn) ifs tt) (he:∀C s2 H2 fp pn,PE (compCx X scope C N s2 H2 fp pn) y_ te)
  (hs:∀x,foldedSetIterable iter X.env x=pure x:=by intro _;rfl):PE X (.ListComp y_ [⟨tg,iter,ifs,0⟩] scope pos) (rj js wi g tt te):=λa_ s Z H Q I h=>by
 rw[eval_ListComp];exact n8 (use:=none) h_ F_ hi hg ht he hs I h λD C s5 H4 m5 hn _ KQ q=>⟨m5,hn,λh' NY=>⟨.ref D,H4,KQ h' NY,rfl,q⟩⟩
theorem jv{spos:Pos}(hN:X.N.Nodup)(hy:X.N[i]?=some y)(hl:X.env.scope.names.lookup y=some .local)(h_:fj N js scope X.env.scope X.N=true)(F_:X.calm=true)(hi:PI X tg iter wi)
  (hg:∀C s2 H2 fp pn,PG (compCx X scope C N s2 H2 fp pn) tg g) (ht:∀C s2 H2 fp pn,PIf (compCx X scope C N s2 H2 fp pn) ifs tt) (he:∀C s2 H2 fp pn,PE (compCx X scope C N s2 H2 fp pn) y_ te)
  (hs:∀x,foldedSetIterable iter X.env x=pure x) (MW:swapsWith (.ListComp y_ [⟨tg,iter,ifs,0⟩] scope pos) (some (.Name y py)) spos.line X.env=pure true) :
  PS X (.Assign [.Name y py] (.ListComp y_ [⟨tg,iter,ifs,0⟩] scope pos) spos) (zB (rj js wi g tt te) (qz i)):=by
 intro a_ s Z H D I h;rw[exec_Assign_Name_used _ _ _ _ MW];refine IU (wpAny_standAt (IU ?_));show wpAny _ _ (do let _<-comprehension (.ListComp y_ [⟨tg,iter,ifs,0⟩] scope pos) scope X.env _ (newList []) false (eval iter X.env) (some (assign (.Name y py) X.env))) _ _ s
 refine IU (JT (n8 (use:=some (assign (.Name y py) X.env)) (Qf:=λ_ s'=>SP X a_ D .next s') h_ F_ hi hg ht he hs I h λDa C s5 H4 m5 hn fp KQ q=>?_) (λ_ s' hq=>IZ (IZ hq)) λ_ _ z=>z)
 show wpAny _ _ (assign (.Name y py) X.env (.ref Da)) _ _ _;have J:Inv X a_ Z H4 s5:=KQ s5.heap (Heap.SameBut.refl _ _);obtain⟨oC,es,ep,eC,rC⟩:=id hn;obtain⟨f0,f1,f2,f3,f4,f5⟩:=id fp;have JC:Inv X (a_++[(C,oC)]) Z H4 s5:=J.pins_of λp hp=>by
  rcases Jv.mp hp with z|z
  ·exact J.pin p (Jz _ z)
  ·have e:p=(C,oC):=by simpa using z
   subst e;exact⟨eC,f0,f1,f2,λv hv=>by
    have z:=rC.1;rw[show oC.data=.cell v from hv]at z;cases z⟩
 refine thn ((jt (pos:=py) hN hy (.inl hl) (.inr hl)) _ s5 Z H4 (.ref Da) (.ref Da) (λn_ H'=>H'=H4/\D.nx n_ H') JC rfl ⟨rfl,q⟩) λ_ s6 z_=>?_
 obtain⟨MN,H6,I6,e6,q6⟩:=z_;subst e6;have So:s6.heap.get? C=some oC:=(I6.pin (C,oC) (Jz _ (Jz _ (by simp)))).1
 refine⟨m5,hn.at' λo e=>?_,λh' KP=>⟨MN,H6,?_,q6⟩⟩
 ·rw[eC]at e;cases e;exact So
 ·exact (Inv.unpinned I6).turned (t':=s6.toks) (it:=C) (λb o hb e=>(KP.2 b hb).trans e) f0 f1 f3 f4 f5
end
end L2
namespace L2
open PySem PySem.Spec PySem.Calls PyProof.Rows PySem.W PySem.Builtin PySem.Builtin.ObjectAttr PySem.Builtin.Getset_descriptor
section
variable {h:Heap}{os:OsState}{o:Obj}{K:Kc}
theorem wf(X:K.In h)(hx:h.get? a=some o)(hc:o.cls=.ref C)(hm:PySem.W.mroIn K C (.type "object")=some true)(hq:R (.ok (.ret (.ref C))) ⟨h,g,d,t,os⟩) :
  codeAny (model prog w) A (.call (.builtin "getset_descriptor.__get__") ⟨[.builtin "object.__class__",.ref a,tp],[]⟩) R ⟨h,g,d,t,os⟩:=by
 have L0:PySem.W.Looks (model prog w) h (typeOf (.ref a)) (.ref C):=hc▸(PySem.W.Looks.ld hx).andThen .now;have L1:=PySem.W.looks_mroIn (M:=model prog w) X hm;refine codeAny_call_builtin KF.slot_gs.plain KF.entry_gs (KF.slot_gs.check _ _ _ _ _ _ _ _ KF.type_class (KF.args_gs _ _ _) ?_);unfold Builtin.«getset_descriptor.__get__» descrGet;rw[dga_obj];refine IU (IZ ?_);unfold descrGetter descrCheckInstance descrNameAndClass isInstance;simp only[KF.owner_class]
 repeat lk
 refine⟨Code.quiet_builtin _ (by decide +kernel),codeAny_builtin KF.entry_class ?_⟩
 unfold Builtin.«object.__class__» shownTypeOf
 repeat lk
 exact hq
theorem nE(X:K.In h)(ha:findIn K (.ref C) name=some (some b))(hg:specialIn K b "__get__"=some (some gg))(ht:takesIn K b=some true):Looks M h (find (.ref a) (.ref C) name) (.bind gg b):=by
 have L1:=looks_findIn (M:=M) X ha;have L2:Looks M h (getOf (some b)) (some gg):=looks_specialIn X hg;have L3:=looks_takesIn (M:=M) X ht;refine L1.andThen (L2.andThen ?_);exact (show Looks M h (dataDescriptor? (some b) (some gg)) (some (gg,b)) from L3.andThen .now).andThen (Looks.tag .now)
variable (Q9:findIn K (.ref C) "__getattribute__"=some (some (.builtin "BaseException.__getattribute__"))) (Q_:findIn K (.ref C) "__getattr__"=some none) (Mf:findIn K (.ref C) "__class__"=some (some (.builtin "object.__class__")))
 (hn:specialIn K (.builtin "object.__class__") "__get__"=some (some (.builtin "getset_descriptor.__get__"))) (Nr:takesIn K (.builtin "object.__class__")=some true) (hm:mroIn K C (.type "object")=some true) (OX:mroIn K C (.type "BaseException")=some true)
include Mf hn Nr hm in
theorem sh(X:K.In h)(hx:h.get? a=some o)(hc:o.cls=.ref C)(hq:Q (.done (.ret (.ref C))) ⟨h,g,d,t,os⟩) :
  wpAny (model prog w) A (Builtin.«object.__getattribute__» ⟨[.ref a,.str "__class__" tk],[]⟩) Q E ⟨h,g,d,t,os⟩:=by
 have L0:Looks (model prog w) h (typeOf (.ref a)) (.ref C):=hc▸(Looks.ld hx).andThen .now;have L1:=nE (M:=model prog w) (a:=a) X Mf hn Nr;refine IU (IZ (IU (IZ (IU (L0.at (IU (L1.at ?_)))))));show wpAny _ _ (bindTo _ _ _ _) _ _ _;refine IU (JH (wpAny_call (wf X hx hc hm ?_)));exact IZ hq
include OX in
theorem sJ(X:K.In h)(hx:h.get? a=some o)(hc:o.cls=.ref C)(hq:Q () ⟨h,g,d,t,os⟩):wpAny M A (checkBuiltinCall "BaseException.__getattribute__" ⟨[.ref a,nameV],[]⟩) Q E ⟨h,g,d,t,os⟩:=by
 have hk:builtinKind "BaseException.__getattribute__"=some .slot:=by decide +kernel
 have MX:splitId "BaseException.__getattribute__"=some ("BaseException","__getattribute__"):=by decide +kernel
 have L0:Looks M h (typeOf (.ref a)) (.ref C):=hc▸(Looks.ld hx).andThen .now;have L1:=looks_mroIn (M:=M) X OX;have ha:=F.args_bexc_ga (.ref a) nameV;simp only[checkBuiltinCall,hk,MX];refine IU ?_
 ·unfold isInstance;refine IU (L0.at (L1.at ?_))
  repeat (first|assumption|wp_step)
include Q9 Q_ Mf hn Nr hm OX in
theorem tN(X:K.In h)(hx:h.get? a=some o)(hc:o.cls=.ref C)(hq:Q (some (.ref C)) ⟨h,g,d,t+1,os⟩):wpAny (model prog w) A (getAttr? (.ref a) "__class__") Q E ⟨h,g,d,t,os⟩:=by
 have L0:Looks (model prog w) h (typeOf (.ref a)) (.ref C):=hc▸(Looks.ld hx).andThen .now;have L1:=looks_findIn (M:=model prog w) X Q9;have L2:=looks_findIn (M:=model prog w) X Q_;have FB:Slot "ValueError" "__getattribute__" "BaseException.__getattribute__":=F.excAttr_ValueError.ga;have f3:=FB.bind (.ref a);unfold getAttr? getAttrBy? getAttrBy;refine IU (wpAny_mkText (IU (wpAny_attempt (JH (IU (L0.at (IU (L1.at ?_))))))));show wpAny _ _ (getAttrByItsOwn _ _ _ _ _ _) _ _ _;refine IU (L2.at (IU (wpAny_attempt (JH ?_))));unfold callGetattribute;show wpAny _ _ (boundAndCalled _ _ _) _ _ _;unfold boundAndCalled;rw[f3];refine IU (IZ ?_);refine wpAny_call (codeAny_call_builtin FB.plain F.entry_bexc_ga (sJ OX X hx hc (sh Mf hn Nr hm X hx hc ?_)));exact IZ (IZ hq)
end
structure ExcI (K:Kc)(C:Addr):Prop where
 hd:PySem.W.hasDictIn K C=true
 ga:findIn K (.ref C) "__getattribute__"=some (some (.builtin "BaseException.__getattribute__"))
 gn:findIn K (.ref C) "__getattr__"=some none
 cl:findIn K (.ref C) "__class__"=some (some (.builtin "object.__class__"))
 n:specialIn K (.builtin "object.__class__") "__get__"=some (some (.builtin "getset_descriptor.__get__"))
 tk:takesIn K (.builtin "object.__class__")=some true
 m:mroIn K C (.type "object")=some true
 mB:mroIn K C (.type "BaseException")=some true
theorem ul{K:Kc}(X:ExcI K C):KitX K (.ref a) (.ref C) (λh=>∃o,h.get? a=some o/\o.cls=.ref C) where
 ty:=λM h _ ⟨o,hx,hc⟩=>hc▸(Looks.ld hx).andThen .now
 it:=λ_ _ Y _=>by
  obtain⟨Sq,LB,_⟩:=any_some X.hd;unfold clsIn at LB;split at LB
  ·rename_i c' d' QZ OM ho;intro A' Q' E' s' k q;unfold isType loadHead;exact IU (wpAny_loadPart (k _ _ (Y _ _ ho)) (IZ q))
  ·cases LB
 ne:=λh tp dd its n sl Y Sr=>by
  obtain⟨Sq,LB,_⟩:=any_some X.hd;refine Bool.eq_false_iff.mpr λq=>?_
  have e:C=tp:=Value.ref.inj (Jl.mp q);subst e;unfold clsIn at LB;split at LB
  ·rename_i c' d' QZ OM ho;have z:=(Y _ _ ho).symm.trans Sr;cases z
  ·cases LB
 ca:=λ{prog w A E Q s} Y ⟨o,hx,hc⟩ k=>tN X.ga X.gn X.cl X.n X.tk X.m X.mB Y hx hc k
end L2
namespace L2
open PySem PySem.Spec PySem.Calls PyProof.Rows PySem.W PySem.Builtin PySem.Builtin.ObjectAttr
section
variable {h:Heap}{os:OsState}{o:Obj}{K:Kc}
end
end L2
namespace L2
open PySem PySem.Spec PySem.Calls PyProof.Rows PySem.W
section
variable {α β:Type}{n:Nat}{f:Nat->Nat->Bool}{p:Array Nat}
def iD(n:Nat)(f:Nat->Nat->Bool)(P:α->Prop):KasT α->Prop
 |.ret a=>P a
 |.ask i j k=>i<n/\j<n/\iD n f P (k (f i j))
theorem cO{g:α->KasT β}{P:β->Prop}:∀{t:KasT α},iD n f (λa=>iD n f P (g a)) t->iD n f P (t.bind g)
 |.ret _,h=>h
 |.ask _ _ _,h=>⟨h.1,h.2.1,cO h.2.2⟩
theorem bv{P P':α->Prop}(hq:∀a,P a->P' a):∀{t:KasT α},iD n f P t->iD n f P' t
 |.ret _,h=>hq _ h
 |.ask _ _ _,h=>⟨h.1,h.2.1,bv hq h.2.2⟩
theorem nI{P:α->Prop}{cmp}{Q:α->Shared->Prop}{s:Shared}(hc:∀i j C,i<n->j<n->C (f i j) s->cmp i j C s)(hq:∀a,P a->Q a s):∀{t:KasT α},iD n f P t->t.kasWp cmp Q s
 |.ret _,h=>hq _ h
 |.ask i j k,h=>hc i j _ h.1 h.2.1 (nI hc hq h.2.2)
structure Ordr (n:Nat)(f:Nat->Nat->Bool):Prop where
 tr:∀{i j k},f i j=true->f j k=true->f i k=true
 as:∀{i j},f i j=true->f j i=false
 tot:∀{i j},i<n->j<n->i≠j->f i j=false->f j i=true
abbrev Pm(n:Nat)(p:Array Nat):Prop:=p.toList.Perm (List.range n)
theorem Pm.sz(h:Pm n p):p.size=n:=by have:=h.length_eq;simpa using this
theorem Pm.lt(h:Pm n p){i:Nat}(hi:i<n):p.getD i 0<n:=by
 have hs:=h.sz;have:p.getD i 0∈p.toList:=by simp[Array.getD,show i<p.size by omega]
 exact List.mem_range.mp (h.mem_iff.mp this)
theorem Pm.inj(h:Pm n p){i j:Nat}(hi:i<n)(hj:j<n)(e:i≠j):p.getD i 0≠p.getD j 0:=λz=>by
 have hs:=h.sz;have nd:p.toList.Nodup:=h.nodup_iff.mpr List.nodup_range;refine e ((List.getElem?_inj (by simpa [hs] using hi) nd).mp ?_)
 simpa [Array.getD,show i<p.size by omega,show j<p.size by omega] using z
abbrev Up(f:Nat->Nat->Bool)(p:Array Nat)(m:Nat):Prop:=∀i j,i<j->j<m->f (p.getD i 0) (p.getD j 0)=true
abbrev Dn(f:Nat->Nat->Bool)(p:Array Nat)(m:Nat):Prop:=∀i j,i<j->j<m->f (p.getD j 0) (p.getD i 0)=true
theorem tR(O:Ordr n f)(hp:Pm n p):∀(u m:Nat),1<=m->m+u=n->Up f p m->iD n f (λm'=>m<=m'/\m'<=n/\Up f p m'/\(m' < n->f (p.getD m' 0) (p.getD (m' - 1) 0)=true)) (kas_asc p u m)
 |0,m,h1,hm,h=>⟨Jg _,by omega,h,λz=>by omega⟩
 |u+1,m,h1,hm,h=>by
  refine⟨hp.lt (by omega),hp.lt (by omega),?_⟩
  cases c:f (p.getD m 0) (p.getD (m-1) 0) with
  |true=>exact⟨Jg _,by omega,h,λ_=>c⟩
  |false=>
   have c':=O.tot (hp.lt (by omega)) (hp.lt (by omega)) (hp.inj (by omega) (by omega) (by omega)) c
   exact bv (λ_ z=>⟨by omega,z.2⟩) (tR O hp u (m+1) (by omega) (by omega) λi j hi hj=>by
    by_cases e:j<m
    ·exact h i j hi e
    ·obtain rfl:j=m:=by omega
     by_cases e2:i=j-1
     ·rw[e2];exact c'
     ·exact O.tr (h i (j-1) (by omega) (by omega)) c')
theorem uH(O:Ordr n f)(hp:Pm n p):∀(u m:Nat),1<=m->m+u=n->Dn f p m->iD n f (λr=>r.1=p/\m<=r.2.1/\r.2.1<=n/\r.2.2=0/\Dn f p r.2.1) (kas_desc u p m 0)
 |0,m,h1,hm,h=>⟨rfl,Jg _,by show m<=n;omega,rfl,h⟩
 |u+1,m,h1,hm,h=>by
  refine⟨hp.lt (by omega),hp.lt (by omega),?_⟩
  cases c:f (p.getD m 0) (p.getD (m-1) 0) with
  |true=>
   exact bv (λ_ z=>⟨z.1,by omega,z.2.2⟩) (uH O hp u (m+1) (by omega) (by omega) λi j hi hj=>by
    by_cases e:j<m
    ·exact h i j hi e
    ·obtain rfl:j=m:=by omega
     by_cases e2:i=j-1
     ·rw[e2];exact c
     ·exact O.tr c (h i (j-1) (by omega) (by omega)))
  |false=>
   have c':=O.tot (hp.lt (by omega)) (hp.lt (by omega)) (hp.inj (by omega) (by omega) (by omega)) c
   refine⟨hp.lt (by omega),hp.lt (by omega),?_⟩
   rw[c'];exact⟨rfl,Jg _,by show m<=n;omega,rfl,h⟩
theorem jn{q:Array Nat}{i j:Nat}(h:q[i]?=p[j]?):q.getD i 0=p.getD j 0:=by
 rw[Array.getD_eq_getD_getElem?,Array.getD_eq_getD_getElem?,h]
theorem vL(O:Ordr n f)(hp:Pm n p)(h2:2<=n):iD n f (λr=>1<=r.1/\r.1<=n/\Pm n r.2/\Up f r.2 r.1) (kas_count n p):=by
 refine cO (bv (λm hm=>?_) (tR O hp (n-1) 1 (Jg _) (by omega) λi j hi hj=>by omega))
 obtain⟨h1,hn,hu,hl⟩:=hm;by_cases e:m=n
 ·simp only[e,beq_self_eq_true,if_true];exact⟨by show 1<=n;omega,Jg _,hp,e▸hu⟩
 ·have e':(m == n)=false:=by simpa using e
  simp only[e',JE,if_false];by_cases e2:m > 1
  ·rw[Jc e2];refine⟨hp.lt (by omega),hp.lt (by omega),?_⟩
   rw[hu 0 (m-1) (by omega) (by omega)]
   exact⟨h1,hn,hp,hu⟩
  ·obtain rfl:m=1:=by omega
   rw[IY e2];have hl:=hl (by omega)
   refine cO (bv (λr hr=>?_) (uH O hp (n-2) 2 (by omega) (by omega) λi j hi hj=>by
    obtain rfl:i=0:=by omega
    obtain rfl:j=1:=by omega
    exact hl))
   obtain⟨q,m,z⟩:=r;obtain⟨rfl,a1,a2,a3,a4⟩:=hr;simp only at a1 a2 a3 a4;subst a3;simp only[JN,gt_iff_lt,if_false];have hq:Pm n (kas_rev q 0 m):=(mirror_perm q 0 m _).toList.trans hp;have hs:=hp.sz;have ge:∀i,i<m->(kas_rev q 0 m).getD i 0=q.getD (m-1-i) 0:=λi hi=>jn (by
    unfold kas_rev;rw[getElem?_mirror_all (show m<=q.size from hs▸a2),Jc ⟨Nat.zero_le _,hi⟩];congr 1;omega)
   refine cO (bv (λm' hm=>?_) (tR O hq (n-m) m (by omega) (by omega) λi j hi hj=>by
    rw[ge i (by omega),ge j hj]
    exact a4 _ _ (by omega) (by omega)))
   exact⟨by show 1<=m';omega,hm.2.1,hq,hm.2.2.1⟩
theorem lW(O:Ordr n f)(hp:Pm n p){k:Nat}(hk:k<n)(hu:Up f p k):∀(u l r:Nat),r<=k->l<=r->r-l<=u->(∀i,i<l->f (p.getD i 0) (p.getD k 0)=true)->(∀i,r<=i->i<k->f (p.getD k 0) (p.getD i 0)=true)->
  iD n f (λl'=>l'<=k/\(∀i,i<l'->f (p.getD i 0) (p.getD k 0)=true)/\∀i,l'<=i->i<k->f (p.getD k 0) (p.getD i 0)=true) (kas_place p k u l r)
 |0,l,r,h1,h2,h3,h4,h5=>by
  obtain rfl:l=r:=by omega
  exact⟨h1,h4,h5⟩
 |u+1,l,r,h1,h2,h3,h4,h5=>by
  unfold kas_place;by_cases e:l>=r
  ·rw[Jc e];obtain rfl:l=r:=by omega
   exact⟨h1,h4,h5⟩
  ·rw[IY e];have hm:(l+r) / 2<k:=by omega
   refine⟨hp.lt hk,hp.lt (by omega),?_⟩
   cases c:f (p.getD k 0) (p.getD ((l+r) / 2) 0) with
   |true=>
    refine lW O hp hk hu u l _ (by omega) (by omega) (by omega) h4 λi hi Ss=>?_
    by_cases e2:i=(l+r) / 2
    ·rw[e2];exact c
    ·exact O.tr c (hu _ _ (by omega) Ss)
   |false=>
    have c':=O.tot (hp.lt hk) (hp.lt (by omega)) (hp.inj hk (by omega) (by omega)) c
    refine lW O hp hk hu u _ r h1 (by omega) (by omega) (λi hi=>?_) h5
    by_cases e2:i=(l+r) / 2
    ·rw[e2];exact c'
    ·exact O.tr (hu _ _ (by omega) hm) c'
theorem ye(O:Ordr n f):∀(u k:Nat)(p:Array Nat),k+u=n->Pm n p->Up f p k->iD n f (λp=>Pm n p/\Up f p n) (kas_bin u p k)
 |0,k,p,hk,hp,hu=>by
  cases (show k=n by omega);exact⟨hp,hu⟩
 |u+1,k,p,hk,hp,hu=>by
  have hs:=hp.sz;refine cO (bv (λl hl=>?_) (lW O hp (by omega) hu k 0 k (Jg _) (Nat.zero_le _) (by omega) (λi hi=>by omega) λi hi hk=>by omega))
  obtain⟨l1,l2,l3⟩:=hl;refine ye O u (k+1) _ (by omega) ((bubble_perm p k _).toList.trans hp) λi j hi hj=>?_
  have ge:∀i,i<k+1->((bubble p k (k-l)).getD i 0=p.getD k 0/\i=l)\/((bubble p k (k-l)).getD i 0=p.getD (i-1) 0/\l<i)\/((bubble p k (k-l)).getD i 0=p.getD i 0/\i<l):=λi hi=>by
   have e:=getElem?_bubble (xs:=p) (src:=k) (by omega) (k-l) (by omega) i
   split at e
   ·exact .inl ⟨jn e,by omega⟩
   ·split at e
    ·exact .inr (.inl ⟨jn e,by omega⟩)
    ·exact .inr (.inr ⟨jn e,by omega⟩)
  rcases ge i (by omega) with ⟨e1,g1⟩|⟨e1,g1⟩|⟨e1,g1⟩<;>rcases ge j hj with ⟨e2,g2⟩|⟨e2,g2⟩|⟨e2,g2⟩<;>rw[e1,e2]
  ·omega
  ·exact l3 _ (by omega) (by omega)
  ·omega
  ·omega
  ·exact hu _ _ (by omega) (by omega)
  ·omega
  ·exact l2 _ g1
  ·by_cases z:i=j-1
   ·omega
   ·exact hu _ _ (by omega) (by omega)
  ·exact hu _ _ hi (by omega)
theorem Ac(O:Ordr n f)(h2:2<=n):iD n f (λp=>Pm n p/\Up f p n) (kas_sort n):=by
 refine cO (bv (λr hr=>?_) (vL O (p:=(List.range n).toArray) (.refl _) h2))
 obtain⟨a1,a2,a3,a4⟩:=hr;by_cases e:r.1<n
 ·rw[Jc e,show max r.1 1=r.1 by omega]
  exact ye O _ _ _ (by omega) a3 a4
 ·rw[IY e];have:r.1=n:=by omega
  exact⟨a3,this▸a4⟩
end
noncomputable def ltP(p q:Int×Int):Bool:=if p.1=q.1 then decide (p.2<q.2) else decide (p.1<q.1)
noncomputable abbrev IP:=Int×Int
noncomputable abbrev atP(ps:List IP)(i:Nat):IP:=ps.getD i (0,0)
theorem A6{a b c:IP}(h1:ltP a b=true)(h2:ltP b c=true):ltP a c=true:=by
 unfold ltP at *
 split at h1<;>split at h2<;>split<;>simp only[Je]at *<;>omega
theorem ur{a b:IP}(h1:ltP a b=true):ltP b a=false:=by
 unfold ltP at *
 split at h1<;>split<;>simp only[Je,decide_eq_false_iff_not]at *<;>omega
theorem xf{a b:IP}(hn:a≠b)(h1:ltP a b=false):ltP b a=true:=by
 have:¬ (a.1=b.1/\a.2=b.2):=λz=>hn (Prod.ext z.1 z.2)
 unfold ltP at *
 split at h1<;>split<;>simp only[Je,decide_eq_false_iff_not]at *<;>omega
theorem Bc{ps:List IP}(hd:ps.Nodup){i j:Nat}(hi:i<ps.length)(hj:j<ps.length)(e:atP ps i=atP ps j):i=j:=
 (List.getElem?_inj hi hd).mp (by simpa [hi,hj] using e)
theorem Cz{ps:List IP}(hd:ps.Nodup):Ordr ps.length λi j=>ltP (atP ps i) (atP ps j):=
 ⟨A6,ur,λhi hj e h=>xf (λz=>e (Bc hd hi hj z)) h⟩
def qR(h:Heap)(v:Value)(p:IP):Prop:=∃t o m tx ty,v=.ref t/\h.get? t=some o/\o.cls=.type "tuple"/\o.data=.seq #[.int p.1 tx,.int p.2 ty] m
section
variable {s:Shared}
theorem wt{p q:IP}(hu:qR s.heap u p)(hv:qR s.heap v q)(h:Q (ltP p q) s):wpAny (model prog w) A (keyLt' (tuples' true) u v) Q E s:=by
 obtain⟨t,o,m,tx,ty,rfl,g,_,d⟩:=hu;obtain⟨t',o',m',Su,Ra,rfl,g',_,d'⟩:=hv;refine kat_lt g d g' d' ?_;show KatLex prog w A true false Q [(.int p.1 tx,.int q.1 Su),(.int p.2 ty,.int q.2 Ra)] 0 s;unfold ltP at h;refine kat_cons (wpAny_eqBool_int ?_);by_cases e:p.1=q.1
 ·rw[Jl.mpr e];rw[Jc e]at h;refine kat_yes (kat_cons (wpAny_eqBool_int ?_));by_cases e2:p.2=q.2
  ·rw[Jl.mpr e2];have:decide (p.2<q.2)=false:=JL (by omega)
   rw[this]at h;exact kat_yes (kat_nil h)
  ·rw[JA.mpr e2];exact kat_no (kat_one _ _ (show wpAny _ _ (compareOp .Lt (.int p.2 ty) (.int q.2 Ra)) _ _ _ from wpAny_lt_int h))
 ·rw[JA.mpr e];rw[IY e]at h;exact kat_no (oneLt_int h)
def Pv(h:Heap):List Value->List IP->Prop
 |[],ps=>ps=[]
 |v::vs,ps=>∃p r,ps=p::r/\qR h v p/\Pv h vs r
theorem Pv.length:∀{vs:List Value}{ps:List IP},Pv h vs ps->vs.length=ps.length
 |[],_,e=>by rw[show _=[] from e];rfl
 |v::vs,_,e=>by obtain⟨p,r,rfl,_,t⟩:=e;rw[Jr,Jr,t.length]
theorem Pv.get:∀{vs:List Value}{ps:List IP}{i:Nat},Pv h vs ps->i<ps.length->qR h (vs.getD i .none) (ps.getD i (0,0))
 |[],_,i,e,hi=>by rw[e]at hi;simp at hi
 |v::vs,_,0,e,hi=>by obtain⟨p,r,rfl,a,t⟩:=e;simpa using a
 |v::vs,_,i+1,e,hi=>by
  obtain⟨p,r,rfl,a,t⟩:=e;simpa using t.get (i:=i) (by simpa using hi)
theorem Pv.keeps{h h':Heap}(k:∀b o,h.get? b=some o->o.cls=.type "tuple"->h'.get? b=some o):∀{vs:List Value}{ps:List IP},Pv h vs ps->Pv h' vs ps
 |[],_,e=>e
 |v::vs,_,e=>by
  obtain⟨p,r,rfl,⟨t,o,m,tx,ty,e1,g,c,d⟩,z⟩:=e;exact⟨p,r,rfl,⟨t,o,m,tx,ty,e1,k _ _ g c,c,d⟩,z.keeps k⟩
theorem Pv.tups:∀{vs:List Value}{ps:List IP},Pv h vs ps->∃fs,KatTups h vs fs/\fs.length=ps.length/\∀v∈fs,∃x t,v=Value.int x t
 |[],_,e=>by rw[e];exact⟨[],KatTups.nil,rfl,λ_ h=>nomatch h⟩
 |v::vs,_,e=>by
  obtain⟨p,r,rfl,⟨t,o,m,tx,ty,rfl,g,c,d⟩,z⟩:=e;obtain⟨fs,a,b,c'⟩:=z.tups;exact⟨.int p.1 tx::fs,KatTups.cons g c d rfl a,by rw[Jr,Jr,b],λv hv=>(Jb.mp hv).elim (λe=>⟨_,_,e⟩) (c' v)⟩
noncomputable def c9(vs:List Value)(is:List Nat):List Value:=is.map λi=>vs.getD i .none
def SoI(ps:List IP)(is:List Nat):Prop:=is.Perm (List.range ps.length)/\(is.map (atP ps)).Pairwise λa b=>ltP a b=true
theorem ze{ps:List IP}{p:Array Nat}(h1:Pm ps.length p)(h2:Up (λi j=>ltP (atP ps i) (atP ps j)) p ps.length):SoI ps p.toList:=by
 refine⟨h1,List.pairwise_iff_getElem.mpr λi j hi hj OY=>?_⟩
 have hs:=h1.sz;simp at hi hj;have:=h2 i j OY (by omega)
 simpa [Array.getD,hi,hj] using this
theorem o8{vs:List Value}{ps:List IP}(ho:s.heap.get? a=some (seqObj "list" vs.toArray n))(hv:Pv s.heap vs ps)(h5:ps.length<64)(hd:ps.Nodup)
  (h:∀is:List Nat,SoI ps is->P (.done (.ret .none)) {s with heap:=sortedHeap s.heap a vs (c9 vs is).toArray}):wpAny (model prog w) A (Builtin.«list.sort» ⟨[.ref a],[]⟩) P E s:=by
 have hl:=hv.length;have ha:a<s.heap.objs.size:=Jf ho;rw[list_sort_plain];refine IU (listItems_at ho rfl (IU (listUpdate_at ho rfl ?_ (by rw[Jj,sizeLine_eq];omega) (Nat.zero_le _))))
 obtain⟨e1,Rb⟩:∃e1,(s.heap.update a (Obj.mapSeq λ_=>(#[]:Array Value))).get? a=some (seqObj "list" #[] e1):=⟨_,get?_update_seq ho λ_=>#[]⟩
 refine IU (seqEpoch_at Rb rfl (IU (wpAny_newTuple ?_ (by show vs.length<=_;rw[sizeLine_eq];omega))))
 refine IU (wpAny_newList (JH ?_) (Nat.zero_le _));show wpAny (model prog w) A _ P E {s with heap:=((s.heap.update a (Obj.mapSeq λ_=>(#[]:Array Value))).push (seqObj "tuple" vs.toArray 0)).push (seqObj "list" #[] 0)}
 dsimp only;have kp:∀b o,s.heap.get? b=some o->o.cls=.type "tuple"->(((s.heap.update a (Obj.mapSeq λ_=>(#[]:Array Value))).push (seqObj "tuple" vs.toArray 0)).push (seqObj "list" #[] 0)).get? b=some o:=λb o g c=>by
  have nb:b≠a:=λz=>by subst z;rw[ho]at g;cases g;exact absurd c (by simp[seqObj])
  exact IW _ (IW _ ((Jq _ _ (Ja nb)).trans g))
 have N2:(((s.heap.update a (Obj.mapSeq λ_=>(#[]:Array Value))).push (seqObj "tuple" vs.toArray 0)).push (seqObj "list" #[] 0)).get? a=some (seqObj "list" #[] e1):=IW _ (IW _ Rb)
 have OZ:=hv.keeps kp;generalize hH:((s.heap.update a (Obj.mapSeq λ_=>(#[]:Array Value))).push (seqObj "tuple" vs.toArray 0)).push (seqObj "list" #[] 0)=H6 at N2 OZ ⊢
 have hq:∀is,SoI ps is->P (.done (.ret .none)) {s with heap:=H6.update a (Obj.mapSeq λ_=>(c9 vs is).toArray)}:=by rw[<-hH];exact h
 have lz:∀is,SoI ps is->(c9 vs is).length=ps.length:=λis hi=>by unfold c9;rw[Jh,hi.1.length_eq,List.length_range]
 by_cases h2:vs.toArray.size<2
 ·rw[Jc h2,Jc h2];refine IU (IZ ?_);rw[StateT.run_pure];refine IU (IZ ?_);dsimp only;rw[Jj]at h2;have so:SoI ps (List.range ps.length):=⟨.refl _,List.pairwise_iff_getElem.mpr λi j hi hj OY=>by simp at hj;omega⟩
  have OI:(arrOf (SortSt.mk' general' (vs.toArray.zip vs.toArray) #[] 7 none)).map (·.2)=(c9 vs (List.range ps.length)).toArray:=by
   show (vs.toArray.zip vs.toArray).map (·.2)=_;unfold c9;cases vs with
   |nil=>
    rw[<-hl];simp
   |cons v r=>
    cases r with
    |nil=>
     rw[<-hl];simp
    |cons v2 r=>exact absurd h2 (by simp)
  rw[OI];refine IU (seqEpoch_at (s:={s with heap:=H6}) N2 rfl (IU (listUpdate_at (s:={s with heap:=H6}) N2 rfl ?_ (Nat.zero_le _) (by rw[Jj,lz _ so,sizeLine_eq];omega))))
  simp only[bne_self_eq_false,JE,if_false];exact IZ (hq _ so)
 ·rw[IY h2,IY h2];rw[Jj]at h2;obtain⟨fs,ft,fl,PL⟩:=OZ.tups;refine IU (kat_kind (s:={s with heap:=H6}) (T:=.type "int") ft (by omega) (λv hv=>?_) (by decide) ?_)
  ·obtain⟨x,t,rfl⟩:=PL v hv;exact .now
  have LH:∀(i j:Nat)(C:Bool->Shared->Prop),i<ps.length->j<ps.length->C (ltP (atP ps i) (atP ps j)) {s with heap:=H6}->kas_ask prog w A (tuples' (Value.type "int" != Value.type "tuple")) vs i j C {s with heap:=H6}:=λi j C hi hj q=>
   wt (s:={s with heap:=H6}) (OZ.get hi) (OZ.get hj) q
  refine IU (JT (kat_run (Q:=λKR s'=>∃p:Array Nat,arrOf KR=p.map (kas_item (vs.toArray.zip vs.toArray))/\failedOf KR=none/\SoI ps p.toList/\s'={s with heap:=H6}) (G:=λp s'=>SoI ps p.toList/\s'={s with heap:=H6})
   rfl (by omega) (by omega) (λp' KR s' a1 a2 a3 a4=>⟨p',a2,a3,a4.1,a4.2⟩) ?_) ?_ λ_ _ e=>e)
  ·rw[hl];exact nI LH (λp hp=>⟨ze hp.1 hp.2,rfl⟩) (Ac (Cz hd) (by omega))
  ·rintro⟨⟨⟩,KR⟩ s' ⟨p,Sv,hf,hp,rfl⟩;dsimp only;have OI:(arrOf KR).map (·.2)=(c9 vs p.toList).toArray:=kat_snds rfl Sv;rw[OI];refine IU (seqEpoch_at (s:={s with heap:=H6}) N2 rfl (IU (listUpdate_at (s:={s with heap:=H6}) N2 rfl ?_ (Nat.zero_le _) (by rw[Jj,lz _ hp,sizeLine_eq];omega))))
   rw[hf];simp only[bne_self_eq_false,JE,if_false];exact IZ (hq _ hp)
end
end L2
namespace L2
open PySem PySem.Spec PySem.Calls PyProof.Rows PySem.W
open AutoSeq1 (wpAny_loadPart')
open MeetsSeq MeetsSeq2 MeetsSeq3
section
variable {A:Around}{s:Shared}
end
end L2
namespace L2
open PySem PySem.Spec PyProof.Rows
section
variable {A:Around}{s:Shared}{St:Nat->Heap->Prop}{xs:Array (Int×Tok)}
theorem oA(W:Walks prog w A.in1 I fp wr n P St)(bt:Nat->Nat->Bool)(LH:CmpOf prog w A.in1 .Gt P bt)(S:Addr)(Nt:S∉fp) :
  ∀(k j:Nat)(s:Shared)(vb:Value)(c:Nat),n-(j+1)=k->j+1<=n->St (j+1) s.heap->P (argBest bt j) vb->s.heap.get? S=some {cls:=.type "list",dict:=none,data:=.seq #[vb,vb] c,slots:=#[]}->
  (∀v h' tk,P (argBest bt (n-1)) v->(∀b o,b∉wr->b≠S->s.heap.get? b=some o->h'.get? b=some o)->R (.ok (.ret v)) {s with heap:=h',toks:=tk})->
  codeAny (model prog w) A (.builtin "max.loop" ⟨[.ref I,.none,.ref S],kw⟩) R s:=by
 have O0:S∉wr:=λh=>Nt (W.sub _ h)
 have KC:(toString "max"++toString ".loop" : String) = "max.loop":=by decide
 intro k
 induction k with
 |zero=>
  intro j s vb c hk hj Ks O1 hS hR;have LD:j+1=n:=by omega
  refine codeAny_builtin F.entry_max_loop ?_;rw[Around.under_plainId F.plain_max_loop _];show wpAny _ A.in1 (seqItems? (.ref S) >>=_) _ _ s;refine IU (wpAny_seqItems hS rfl ?_);show wpAny _ A.in1 (tryCatch (pyNext (.ref I)) _ >>=_) _ _ s;refine IU (wpAny_tryCatch (W.done s _ _ (LD▸Ks) λh' tk Lg=>?_))
  have L6:=Lg S _ O0 hS;show wpAny _ A.in1 (updateSeq S (λ_=>#[]) >>=_) _ _ _
  refine IU (wpAny_updateSeq L6 rfl (IU (wpAny_letGo (IZ ?_))));exact hR vb _ tk (by rw[<-LD];exact O1) λb o MY Mh e=>(Jq _ _ (Ja Mh)).trans (Lg b o MY e)
 |succ k ih=>
  intro j s vb c hk hj Ks O1 hS hR;have Kk:j+1<n:=by omega
  refine codeAny_builtin F.entry_max_loop ?_;rw[Around.under_plainId F.plain_max_loop _];show wpAny _ A.in1 (seqItems? (.ref S) >>=_) _ _ s;refine IU (wpAny_seqItems hS rfl ?_);show wpAny _ A.in1 (tryCatch (pyNext (.ref I)) _ >>=_) _ _ s;refine IU (wpAny_tryCatch (W.item (j+1) s _ _ Kk Ks λv h' tk hP K9 Lg=>?_))
  have L6:=Lg S _ O0 hS;show wpAny _ A.in1 (tryCatch (holding [v,v] (richCompare .Gt v vb >>=_)) _ >>=_) _ _ _;refine IU (wpAny_tryCatch (JH (IU (LH (j+1) (argBest bt j) v vb _ _ _ hP O1 ?_))));refine IU (JH (JS (IU (wpAny_letGo (IZ ?_)))));cases hb:bt (j+1) (argBest bt j) with
  |true=>
   simp only[if_true];refine IU (wpAny_updateSeq L6 rfl (IU (wpAny_letGo ?_)));rw[KC];refine IZ ⟨plainId_quiet F.plain_max_loop _,ih (j+1) _ v _ (by omega) Kk (W.frame _ _ _ K9 λb PM o e=>?_) (by simp only[argBest,hb,if_true];exact hP) (JD _ L6 rfl) λv' N3 LJ Nu LK=>?_⟩
   ·exact (Jq _ _ (λh:S=b=>Nt (by rw[h];exact PM))).trans e
   ·exact hR v' N3 LJ Nu λb o MY Mh e=>LK b o MY Mh ((Jq _ _ (Ja Mh)).trans (Lg b o MY e))
  |false=>
   simp only[JE,if_false];refine IU (wpAny_letGo ?_);rw[KC];refine IZ ⟨plainId_quiet F.plain_max_loop _,ih (j+1) _ vb c (by omega) Kk K9 (by simp only[argBest,hb,JE,if_false];exact O1) L6 λv' N3 LJ Nu LK=>?_⟩
   exact hR v' N3 LJ Nu λb o MY Mh e=>LK b o MY Mh (Lg b o MY e)
theorem uQ(hh:A.handled=none)(hl:s.heap.IsList l (intItems xs))(ha:argsOk "max" ⟨[.ref l],kw⟩)(hb:Builtin.Builtins.bindParams "max" ["key","default"] 0 ⟨[],kw⟩=pure [none,dv])(Nv:dv=none->0<xs.size)
  (h0:xs.size=0->∀d h' tk,dv=some d->(∀b o,s.heap.get? b=some o->h'.get? b=some o)->Q d {s with heap:=h',toks:=tk})
  (h:0<xs.size->∀v h' tk,(intItems xs)[argBest (λi j=>decide (numAt xs i > numAt xs j)) (xs.size-1)]?=some v->(∀b o,s.heap.get? b=some o->h'.get? b=some o)->Q v {s with heap:=h',toks:=tk}) :
  wpAny (model prog w) A (call (.builtin "max") [.ref l] kw) Q E s:=by
 have KC:(toString "max"++toString ".loop" : String) = "max.loop":=by decide
 refine kmk_tree F.kind_max F.plain_max F.entry_max ha ?_;show wpAny _ A.in1 (Builtin.Builtins.bindParams "max" ["key","default"] 0 ⟨[],kw⟩ >>=_) _ _ s;refine IU (wpAny_of_eq hb ?_);refine IU (IZ ?_);refine IU (iter_intList hl λKw e st Sw Sx=>?_)
 refine IU (JX ?_);have Nt:Kw.heap.objs.size∉[s.heap.objs.size,l]:=λhm=>JN _ (Sw _ hm)
 have W:=Walks.list (prog:=prog) (w:=w) (A:=A.in1) hh s.heap.objs.size l Sx (intItems xs);have O0:Kw.heap.objs.size∉[s.heap.objs.size]:=λh=>Nt (W.sub _ h)
 have hsz:(intItems xs).size=xs.size:=by simp[intItems]
 have LH:=CmpOf.ints_gt (prog:=prog) (w:=w) (A:=A.in1) (numAt xs) (λ_ _=>intItems_at)
 rw[KC];refine IZ ⟨plainId_quiet F.plain_max_loop _,?_⟩;refine codeAny_builtin F.entry_max_loop ?_;rw[Around.under_plainId F.plain_max_loop _];have Ks:(λi h=>h.IsListIter s.heap.objs.size l i/\h.IsList l (intItems xs)) 0 (Kw.heap.push {cls:=.type "list",data:=.seq #[]}):=W.frame 0 Kw.heap _ st λb _ o e=>IW _ e
 have hS:(Kw.heap.push {cls:=.type "list",data:=.seq #[]}).get? Kw.heap.objs.size=some {cls:=.type "list",dict:=none,data:=.seq #[] 0,slots:=#[]}:=Jp _ rfl;show wpAny _ A.in1 (seqItems? (.ref _) >>=_) _ _ _;refine IU (wpAny_seqItems hS rfl ?_);show wpAny _ A.in1 (tryCatch (pyNext (.ref _)) _ >>=_) _ _ _;have kp:∀{h':Heap},(∀b o,b∉[s.heap.objs.size]->(Kw.heap.push {cls:=.type "list",data:=.seq #[]}).get? b=some o->h'.get? b=some o)->∀b o,s.heap.get? b=some o->h'.get? b=some o:=λ{h'} hk=>by
  subst e;exact old_kept λb o hb e=>hk b o hb (IW _ e)
 by_cases hz:xs.size=0
 ·have K9:=Ks;refine IU (wpAny_tryCatch (W.done _ _ _ (by rw[hsz,hz];exact Ks) λh' tk Lg=>?_))
  cases dv with
  |none=>exact absurd (Nv rfl) (by omega)
  |some d=>
   show wpAny _ A.in1 (rule _ >>=_) _ _ _;refine IU (wpAny_rule (IZ ?_));have:=h0 hz d h' tk rfl (kp Lg);subst e;exact this
 ·have hn:0<xs.size:=by omega
  refine IU (wpAny_tryCatch (W.item 0 _ _ _ (by rw[hsz];exact hn) Ks λv h' tk hP K9 Lg=>?_))
  have L6:=Lg _ _ O0 hS;show wpAny _ A.in1 (updateSeq _ (λ_=>#[v,v]) >>=_) _ _ _
  refine IU (wpAny_updateSeq L6 rfl ?_);rw[KC];refine IZ ⟨plainId_quiet F.plain_max_loop _,oA W _ LH _ Nt _ 0 _ v _ rfl (by rw[hsz];exact hn) (W.frame _ _ _ K9 λb PM o e=>?_) hP (JD _ L6 rfl) λv' N3 LJ Nu LK=>?_⟩
  ·exact (Jq _ _ (λh:_=b=>Nt (by rw[h];exact PM))).trans e
  ·have:=h hn v' N3 LJ (by rw[hsz]at Nu;exact Nu) (λb o e2=>by
    have Kk:b<Kw.heap.objs.size:=by subst e;exact Jf (IW _ e2)
    refine LK b o (λhm=>?_) (Js Kk) ((Jq _ _ (Nat.ne_of_gt Kk)).trans (kp Lg b o e2))
    rcases Jb.mp hm with e1|hm
    ·exact absurd (e1▸Jf e2) (JN _)
    ·cases hm)
   subst e;exact this
end
end L2
namespace L2
open PySem PySem.Spec PySem.Calls PyProof.Rows PySem.W
open AutoSeq1 (wpAny_loadPart')
def P2(h:Heap)(v:Value)(p:Int×Int):Prop:=∃a n t u dd sl,v=.ref a/\h.get? a=some {cls:=.type "tuple",dict:=dd,data:=.seq #[.int p.1 t,.int p.2 u] n,slots:=sl}
section
variable {prog:Program}{w:World}{A:Around}{s:Shared}{St:Nat->Heap->Prop}{I l:Addr}{fp wr:List Addr}{n:Nat}{P:Nat->Value->Prop}{R:Result->Shared->Prop}{kw:List (Str×Value)}{Q:Value->Shared->Prop}{E:Value->Shared->Prop}
end
end L2
namespace L2
open PySem PySem.Spec PyProof.Rows
inductive D where
 |i_|bl (b:Bool)|int (i:Int)|str (x:Str)|tup (ds:List D)|g_ (ds:List D)|ref (a:Addr)
 |obj (i:Nat) (C:Addr) (ns:List Nat) (ds:List D)|Ln (ks:List Key) (ds:List D)|K_ (ks:List (List Int)) (ds:List D)
noncomputable def pR:Nat->Nat->List Nat
 |0,_=>[]
 |k+1,n=>if n=0 then [] else (n % 128)::pR k (n / 128)
noncomputable def fnm(n:Nat):Str:=⟨(pR n n).toArray⟩
noncomputable def xx:List Nat->Nat
 |[]=>0
 |d::r=>d+128*xx r
theorem jY:∀(k n:Nat),n<=k->xx (pR k n)=n
 |0,n,h=>by have:n=0:=Nat.le_zero.mp h;subst this;rfl
 |k+1,n,h=>by
  unfold pR;by_cases z:n=0
  ·rw[Jc z];exact z.symm
  ·rw[IY z];show n % 128+128*xx (pR k (n / 128))=n;rw[jY k (n / 128) (by omega)]
   omega
theorem mi(h:fnm a=fnm b):a=b:=by
 have e:pR a a=pR b b:=by
  have:=congrArg (λx:Str=>x.cps.toList) h
  simpa [fnm] using this
 have:=congrArg xx e
 rwa [jY a a (Jg _),jY b b (Jg _)]at this
noncomputable def tH(k:List Int):Int:=reduceHash (Builtin.Tuple.tupleHashOf (k.map hashInt))
def dW(a:Addr)(xs:List (List Int×Addr×Value)):Heap->Prop:=λh=>∃o es ep,h.get? a=some o/\o.ExactDict/\o.data=.dict es ep/\es.toList=xs.map λx=>(⟨tH x.1,.ref x.2.1,x.2.2⟩:DictEntry)
structure TabOk (K:Kc)(H:Hp)(a:Addr) (ks:List (List Int)) (xs:List (List Int×Addr×Value)) (vs:List V):Prop where
 kx:xs.map (·.1)=ks
 nd:ks.Nodup
 sz:ks.length<=sizeLine
 no:(a == sysModules)=false
 vx:Vals vs (xs.map (·.2.2))
 at_:∀x∈xs,SqT K H x.2.1 (x.1.map V.int)
def SqM(K:Kc)(a:Addr)(xs:List V):Prop:=∃(its:List Value) (n:Nat),K.lookup a=some {cls:=.type "list",data:=.seq its.toArray n}/\its.length<=sizeLine/\Vals xs its
def SqF(K:Kc)(H:Hp)(a:Addr)(xs:List V):Prop:=(∃o,H a=some (.t_ o (.lst xs)))\/SqM K a xs
theorem SqM.sq{K:Kc}(h:SqM K a xs):SqL K H a xs:=by
 obtain⟨its,n,e,z,r⟩:=h;exact .inr ⟨_,its.toArray,n,e,rfl,rfl,rfl,by simpa using z,by simpa using r⟩
theorem SqF.sq{K:Kc}(h:SqF K H a xs):SqL K H a xs:=by
 rcases h with h|h
 ·exact .inl (.inr h)
 ·exact h.sq
mutual
def Den(K:Kc)(H:Hp):D->V->Prop
 |.i_,v=>v=.i_
 |.bl b,v=>v=.bl b
 |.int i,v=>v=.int i
 |.str x,v=>v=.str x
 |.tup ds,v=>∃p vs,v=.ref p/\SqT K H p vs/\DenL K H ds vs
 |.g_ ds,v=>∃p vs,v=.ref p/\SqF K H p vs/\DenL K H ds vs
 |.ref a,v=>v=.ref a
 |.obj _ C ns ds,v=>∃p vs o dx,v=.ref p/\H p=some (.t_ o (.ins C dx ((ns.map fnm).zip vs)))/\ns.length=vs.length/\DenL K H ds vs
 |.Ln ks ds,v=>∃p vs o,v=.ref p/\H p=some (.t_ o (.dK (ks.zip vs)))/\ks.length=vs.length/\DenL K H ds vs
 |.K_ ks ds,v=>∃p vs o xs,v=.ref p/\H p=some (.t_ o (.ext (dW p xs)))/\TabOk K H p ks xs vs/\DenL K H ds vs
def DenL(K:Kc)(H:Hp):List D->List V->Prop
 |[],vs=>vs=[]
 |d::ds,vs=>∃v r,vs=v::r/\Den K H d v/\DenL K H ds r
end
structure TM (K:Kc)(H H':Hp):Prop where
 t:∀p xs,SqT K H p xs->SqT K H' p xs
 f:∀p xs,SqF K H p xs->SqF K H' p xs
 g:∀p o u,H p=some (.t_ o u)->H' p=some (.t_ o u)
theorem TM.refl{K:Kc}(H:Hp):TM K H H:=⟨λ_ _ h=>h,λ_ _ h=>h,λ_ _ _ h=>h⟩
theorem TM.trans{K:Kc}(a:TM K H H1)(b:TM K H1 H2):TM K H H2:=⟨λp xs h=>b.t p xs (a.t p xs h),λp xs h=>b.f p xs (a.f p xs h),λp o u h=>b.g p o u (a.g p o u h)⟩
theorem TM.un{K:Kc}(t:∀b xs,H b=some (.tup xs)->H' b=some (.tup xs))(f:∀b o u,H b=some (.t_ o u)->H' b=some (.t_ o u)):TM K H H':=⟨λq xs h=>by
 rcases h with (h|⟨ob,h⟩)|h
 ·exact .inl (.inl (t _ _ h))
 ·exact .inl (.inr ⟨ob,f _ _ _ h⟩)
 ·exact .inr h,λq xs h=>by
 rcases h with ⟨ob,h⟩|h
 ·exact .inl ⟨ob,f _ _ _ h⟩
 ·exact .inr h,f⟩
theorem TM.new{K:Kc}(hp:H p=none):TM K H (upd H p o):=
 .un (λb xs h=>by rw[ae (aA h hp)];exact h) λb ob u h=>by rw[ae (aA h hp)];exact h
theorem TM.put{K:Kc}(hp:H p=some u)(h1:∀xs,u≠.tup xs)(h2:∀ob v,u≠.t_ ob v):TM K H (upd H p o):=
 .un (λb xs h=>by rw[ae (dU h hp λz=>h1 _ z.symm)];exact h) λb ob u h=>by rw[ae (dU h hp λz=>h2 _ _ z.symm)];exact h
section
variable {K:Kc}
mutual
theorem Den.mono(t:TM K H H'):∀{d:D}{v:V},Den K H d v->Den K H' d v
 |.i_,_,h=>h
 |.bl _,_,h=>h
 |.int _,_,h=>h
 |.str _,_,h=>h
 |.ref _,_,h=>h
 |.tup ds,v,h=>by
  obtain⟨p,vs,e,s,l⟩:=h;exact⟨p,vs,e,t.t _ _ s,DenL.mono t l⟩
 |.g_ ds,v,h=>by
  obtain⟨p,vs,e,s,l⟩:=h;exact⟨p,vs,e,t.f _ _ s,DenL.mono t l⟩
 |.obj i C ns ds,v,h=>by
  obtain⟨p,vs,o,dx,e,s,z,l⟩:=h;exact⟨p,vs,o,dx,e,t.g _ _ _ s,z,DenL.mono t l⟩
 |.Ln ks ds,v,h=>by
  obtain⟨p,vs,o,e,s,z,l⟩:=h;exact⟨p,vs,o,e,t.g _ _ _ s,z,DenL.mono t l⟩
 |.K_ ks ds,v,h=>by
  obtain⟨p,vs,o,xs,e,s,z,l⟩:=h;exact⟨p,vs,o,xs,e,t.g _ _ _ s,⟨z.kx,z.nd,z.sz,z.no,z.vx,λx hx=>t.t _ _ (z.at_ x hx)⟩,DenL.mono t l⟩
theorem DenL.mono(t:TM K H H'):∀{ds:List D}{vs:List V},DenL K H ds vs->DenL K H' ds vs
 |[],_,h=>h
 |d::ds,vs,h=>by
  obtain⟨v,r,e,a,b⟩:=h;exact⟨v,r,e,Den.mono t a,DenL.mono t b⟩
end
theorem DenL.length:∀{ds:List D}{vs:List V},DenL K H ds vs->ds.length=vs.length
 |[],_,h=>by cases h;rfl
 |d::ds,vs,h=>by
  obtain⟨v,r,rfl,_,b⟩:=h;rw[Jr,Jr,DenL.length b]
theorem DenL.get:∀{ds:List D}{vs:List V}{i:Nat}{d:D},DenL K H ds vs->ds[i]?=some d->∃v,vs[i]?=some v/\Den K H d v
 |[],_,_,_,_,e=>by simp at e
 |d::ds,vs,0,d',h,e=>by
  obtain⟨v,r,rfl,a,b⟩:=h;simp at e;subst e;exact⟨v,rfl,a⟩
 |d::ds,vs,i+1,d',h,e=>by
  obtain⟨v,r,rfl,a,b⟩:=h;obtain⟨u,e1,e2⟩:=DenL.get (i:=i) b (by simpa using e)
  exact⟨u,by simpa using e1,e2⟩
theorem DenL.get':∀{ds:List D}{vs:List V}{i:Nat}{v:V},DenL K H ds vs->vs[i]?=some v->∃d,ds[i]?=some d/\Den K H d v
 |[],_,_,_,h,e=>by cases h;simp at e
 |d::ds,vs,0,v',h,e=>by
  obtain⟨v,r,rfl,a,b⟩:=h;simp at e;subst e;exact⟨d,rfl,a⟩
 |d::ds,vs,i+1,v',h,e=>by
  obtain⟨v,r,rfl,a,b⟩:=h;obtain⟨u,e1,e2⟩:=DenL.get' (i:=i) b (by simpa using e)
  exact⟨u,by simpa using e1,e2⟩
theorem DenL.append:∀{ds es:List D}{vs ws:List V},DenL K H ds vs->DenL K H es ws->DenL K H (ds++es) (vs++ws)
 |[],_,_,_,h,g=>by cases h;exact g
 |d::ds,_,_,_,h,g=>by
  obtain⟨v,r,rfl,a,b⟩:=h;exact⟨v,r++_,rfl,a,DenL.append b g⟩
theorem DenL.nil:DenL K H [] []:=rfl
theorem DenL.cons(a:Den K H d v)(b:DenL K H ds vs):DenL K H (d::ds) (v::vs):=⟨v,vs,rfl,a,b⟩
theorem DenL.one(a:Den K H d v):DenL K H [d] [v]:=.cons a .nil
theorem DenL.take:∀{ds:List D}{vs:List V} (n:Nat),DenL K H ds vs->DenL K H (ds.take n) (vs.take n)
 |_,_,0,_=>rfl
 |[],_,n+1,h=>by cases h;rfl
 |d::ds,_,n+1,h=>by
  obtain⟨v,r,rfl,a,b⟩:=h;exact⟨v,r.take n,rfl,a,DenL.take n b⟩
theorem DenL.drop:∀{ds:List D}{vs:List V} (n:Nat),DenL K H ds vs->DenL K H (ds.drop n) (vs.drop n)
 |_,_,0,h=>h
 |[],_,n+1,h=>by cases h;rfl
 |d::ds,_,n+1,h=>by
  obtain⟨v,r,rfl,a,b⟩:=h;exact DenL.drop n b
theorem DenL.set(a:Den K H d v):∀{ds:List D}{vs:List V} (i:Nat),DenL K H ds vs->DenL K H (ds.set i d) (vs.set i v)
 |[],_,_,h=>by cases h;rfl
 |_::ds,_,0,h=>by
  obtain⟨_,r,rfl,_,b⟩:=h;exact⟨v,r,rfl,a,b⟩
 |e::ds,_,i+1,h=>by
  obtain⟨u,r,rfl,c,b⟩:=h;exact⟨u,_,rfl,c,DenL.set a i b⟩
theorem DenL.int_of:∀{ns:List Int}{vs:List V},DenL K H (ns.map D.int) vs->vs=ns.map V.int
 |[],_,h=>h
 |n::ns,vs,h=>by
  obtain⟨v,r,rfl,a,b⟩:=h;rw[DenL.int_of b];cases (show v=.int n from a);rfl
theorem DenL.of_int:∀{ns:List Int},DenL K H (ns.map D.int) (ns.map V.int)
 |[]=>rfl
 |n::ns=>⟨.int n,ns.map V.int,rfl,rfl,DenL.of_int⟩
end
structure XE where
 c:Nat
 pl:Option (Nat×D)
def XD(K:Kc)(H:Hp)(i:XE)(dx:Option Addr):Prop:=match i.pl with
 |none=>dx=none
 |some (f,y)=>∃p o v,dx=some p/\H p=some (.t_ o (.xd [(fnm f,v)]))/\Den K H y v
theorem XD.mono{K:Kc}(t:TM K H H')(h:XD K H i dx):XD K H' i dx:=by
 obtain⟨c,pl⟩:=i;cases pl with
 |none=>exact h
 |some q=>
  obtain⟨p,o,v,e,g,d⟩:=h;exact⟨p,o,v,e,t.g _ _ _ g,d.mono t⟩
inductive DO where
 |lst (ds:List D)
 |dk (ks:List Key) (ds:List D)
 |dt (ks:List (List Int)) (ds:List D)
 |ins (i:Nat) (C:Addr) (ns:List Nat) (ds:List D)
 |exc (i:XE) (cls:Value)
 |MZ (φ:Heap->Prop)
noncomputable abbrev MH:=Addr->Option DO
noncomputable def put(M:MH)(a:Addr)(o:DO):MH:=λb=>if b=a then some o else M b
theorem ah:put M a o a=some o:=Jc rfl
theorem af(h:b≠a):put M a o b=M b:=IY h
theorem cM:put (put M a o) a u=put M a u:=by
 funext b;unfold put;split<;>rfl
def OD(K:Kc)(H:Hp)(a:Addr):DO->Prop
 |.lst ds=>∃vs,H a=some (.lst vs)/\DenL K H ds vs
 |.dk ks ds=>∃vs,H a=some (.dK (ks.zip vs))/\ks.length=vs.length/\DenL K H ds vs
 |.dt ks ds=>∃vs xs,H a=some (.ext (dW a xs))/\TabOk K H a ks xs vs/\DenL K H ds vs
 |.ins _ C ns ds=>∃dx vs,H a=some (.ins C dx ((ns.map fnm).zip vs))/\ns.length=vs.length/\DenL K H ds vs
 |.exc i cls=>∃dx,H a=some (wC a cls dx)/\XD K H i dx
 |.MZ φ=>H a=some (.ext φ)
def RelM(K:Kc)(M:MH)(H:Hp):Prop:=∀a o,M a=some o->OD K H a o
noncomputable abbrev St3:=List (Option D)
def DenS(K:Kc)(H:Hp)(f_:St3)(Z:St):Prop:=f_.length=Z.length/\∀(i:Nat)(d:D),f_[i]?=some (some d)->∃v,Z[i]?=some (some v)/\Den K H d v
section
variable {K:Kc}
theorem OD.tracked(h:OD K H a o):∃u,H a=some u:=by
 cases o with
 |dt ks ds=>obtain⟨_,_,e,_⟩:=h;exact⟨_,e⟩
 |ins i C ns ds=>obtain⟨_,_,e,_⟩:=h;exact⟨_,e⟩
 |MZ φ=>exact⟨_,h⟩
 |_=>obtain⟨_,e,_⟩:=h;exact⟨_,e⟩
theorem RelM.fresh(r:RelM K M H)(hp:H p=none):M p=none:=by
 cases e:M p with
 |none=>rfl
 |some o=>
  obtain⟨u,z⟩:=(r p o e).tracked;rw[hp]at z;cases z
theorem OD.stay(t:TM K H H')(e:H' a=H a)(h:OD K H a o):OD K H' a o:=by
 cases o with
 |lst ds=>obtain⟨vs,q,l⟩:=h;exact⟨vs,e.trans q,l.mono t⟩
 |dk ks ds=>obtain⟨vs,q,n,l⟩:=h;exact⟨vs,e.trans q,n,l.mono t⟩
 |dt ks ds=>obtain⟨vs,xs,q,z,l⟩:=h;exact⟨vs,xs,e.trans q,⟨z.kx,z.nd,z.sz,z.no,z.vx,λx hx=>t.t _ _ (z.at_ x hx)⟩,l.mono t⟩
 |ins i C ns ds=>obtain⟨dx,vs,q,n,l⟩:=h;exact⟨dx,vs,e.trans q,n,l.mono t⟩
 |exc i cls=>obtain⟨dx,q,x⟩:=h;exact⟨dx,e.trans q,x.mono t⟩
 |MZ φ=>exact e.trans h
theorem RelM.grow(r:RelM K M H)(hp:H p=none):RelM K M (upd H p o):=λa u e=>by
 obtain⟨x,z⟩:=(r a u e).tracked;exact (r a u e).stay (.new hp) (ae (aA z hp))
theorem RelM.lay(r:RelM K M H)(hp:H p=none)(h:OD K (upd H p o) p u):RelM K (put M p u) (upd H p o):=λa x e=>by
 by_cases ha:a=p
 ·subst ha;rw[ah]at e;cases e;exact h
 ·rw[af ha]at e;exact r.grow hp a x e
theorem RelM.write(r:RelM K M H)(hp:H p=some w)(h1:∀xs,w≠.tup xs)(h2:∀ob v,w≠.t_ ob v)(h:OD K (upd H p o) p u):RelM K (put M p u) (upd H p o):=λa x e=>by
 by_cases ha:a=p
 ·subst ha;rw[ah]at e;cases e;exact h
 ·rw[af ha]at e;exact (r a x e).stay (.put hp h1 h2) (ae ha)
def Sub(M' M:MH):Prop:=∀a o,M' a=some o->M a=some o
theorem RelM.sub(r:RelM K M H)(s:Sub M' M):RelM K M' H:=λa o e=>r a o (s a o e)
theorem DenS.mono(t:TM K H H')(h:DenS K H f_ Z):DenS K H' f_ Z:=⟨h.1,λi d e=>let ⟨v,e1,e2⟩:=h.2 i d e;⟨v,e1,e2.mono t⟩⟩
theorem DenS.set{f_:St3}{Z:St}(h:DenS K H f_ Z)(e:Den K H d v):DenS K H (f_.set i (some d)) (Z.set i (some v)):=by
 refine⟨by rw[List.length_set,List.length_set];exact h.1,λj d' q=>?_⟩
 by_cases hj:i=j
 ·subst hj;rw[List.getElem?_set]at q ⊢;rw[Jc rfl]at q ⊢;rw[<-h.1];split at q
  next hl=>
   cases q;exact⟨v,Jc hl,e⟩
  next=>cases q
 ·rw[JP hj]at q ⊢;exact h.2 j d' q
theorem DenS.drop{f_:St3}{Z:St}(h:DenS K H f_ Z):DenS K H (f_.set i none) (Z.set i none):=by
 refine⟨by rw[List.length_set,List.length_set];exact h.1,λj d' q=>?_⟩
 by_cases hj:i=j
 ·subst hj;rw[List.getElem?_set,Jc rfl]at q;split at q<;>cases q
 ·rw[JP hj]at q ⊢;exact h.2 j d' q
theorem pL{N:List Str}{ds:List D}(h:DenL K H ds vs):DenS K H (ds.map some++List.replicate (N.length-ds.length) none) (start N vs):=by
 have hl:=h.length;refine⟨by unfold start;simp[hl],λi d e=>?_⟩
 by_cases hi:i<ds.length
 ·rw[List.getElem?_append_left (by simpa using hi),JJ]at e
  have e':ds[i]?=some d:=by
   cases q:ds[i]? with
   |none=>rw[q]at e;cases e
   |some x=>rw[q]at e;cases e;rfl
  obtain⟨v,e1,e2⟩:=h.get e';refine⟨v,?_,e2⟩;unfold start;rw[List.getElem?_append_left (by simpa [<-hl] using hi),JJ,e1]
  rfl
 ·rw[List.getElem?_append_right (by simpa using hi),List.getElem?_replicate]at e
  split at e<;>cases e
end
noncomputable abbrev VK3:=D->MH->Prop
noncomputable abbrev TE3:=St3->MH->VK3->Prop
noncomputable abbrev TT3:=St3->MH->(Bool->MH->Prop)->Prop
structure Ends3 where
 nx:St3->MH->Prop
 rt:VK3
 bk:St3->MH->Prop:=λ_ _=>False
 ct:St3->MH->Prop:=λ_ _=>False
noncomputable abbrev TS3:=Ends3->St3->MH->Prop
structure ER (K:Kc)(H:Hp)(D3:Ends3)(D2:Ends):Prop where
 nx:∀n_ H' w_ M',RelM K M' H'->DenS K H' w_ n_->TM K H H'->D3.nx w_ M'->D2.nx n_ H'
 rt:∀v H' d M',Den K H' d v->RelM K M' H'->TM K H H'->D3.rt d M'->D2.rt v H'
 bk:∀n_ H' w_ M',RelM K M' H'->DenS K H' w_ n_->TM K H H'->D3.bk w_ M'->D2.bk n_ H'
 ct:∀n_ H' w_ M',RelM K M' H'->DenS K H' w_ n_->TM K H H'->D3.ct w_ M'->D2.ct n_ H'
theorem ER.mono{K:Kc}(r:ER K H D3 D2)(t:TM K H H1):ER K H1 D3 D2:=
 ⟨λa b c d h1 h2 h3 h4=>r.nx a b c d h1 h2 (t.trans h3) h4,λa b c d h1 h2 h3 h4=>r.rt a b c d h1 h2 (t.trans h3) h4,λa b c d h1 h2 h3 h4=>r.bk a b c d h1 h2 (t.trans h3) h4,λa b c d h1 h2 h3 h4=>r.ct a b c d h1 h2 (t.trans h3) h4⟩
section
variable {K:Kc}
theorem hZ:Den K H (.int i) (.int i):=rfl
theorem bG{b:Bool}:Den K H (.bl b) (.bl b):=rfl
theorem nA:Den K H .i_ .i_:=rfl
theorem hV:Den K H (.ref a) (.ref a):=rfl
theorem wo(h:SqT K H p vs)(l:DenL K H ds vs):Den K H (.tup ds) (.ref p):=⟨p,vs,rfl,h,l⟩
end
noncomputable abbrev R3:=D->D->MH->VK3->Prop
abbrev Back(K:Kc)(H:Hp)(Q:VK3)(Q2:VK):Prop:=∀v H' d M',Den K H' d v->RelM K M' H'->TM K H H'->Q d M'->Q2 v H'
def Op3(X:Cx)(f:Value->Value->Sem Value)(r3:R3):Prop:=∃r2,OpR X f r2/\∀(H:Hp)(x y:D)(v u:V)(M:MH)(Q:VK3)(Q2:VK),Den X.K H x v->Den X.K H y u->RelM X.K M H->r3 x y M Q->Back X.K H Q Q2->r2 v u H Q2
def Un3(X:Cx)(f:Value->Sem Value)(r3:D->MH->VK3->Prop):Prop:=∃r2,UnR X f r2/\∀(H:Hp)(x:D)(v:V)(M:MH)(Q:VK3)(Q2:VK),Den X.K H x v->RelM X.K M H->r3 x M Q->Back X.K H Q Q2->r2 v H Q2
def uG(X:Cx)(f:Value)(r3:List D->MH->VK3->Prop):Prop:=∃r2,CallR X f r2/\∀(H:Hp)(xs:List D)(vs:List V)(M:MH)(Q:VK3)(Q2:VK),DenL X.K H xs vs->RelM X.K M H->r3 xs M Q->Back X.K H Q Q2->r2 vs H Q2
def rI3(C:Int->Int->Prop)(g:Int->Int->D):R3:=λx y M Q=>∃i j,x=.int i/\y=.int j/\C i j/\Q (g i j) M
section
variable {X:Cx}{a b c e:Expr}{ta tb tc te:TE3}{pos:Pos}
noncomputable def q3(t:TE3):TT3:=λZ M Q=>t Z M λx M1=>∃k,x=.bl k/\Q k M1
variable {tA NK:TT3}{aC:List Expr}
theorem vX{K:Kc}(h:DenL K H ds vs)(e:atI ds i=some d):∃v,atI vs i=some v/\Den K H d v:=by
 unfold atI at e ⊢;rw[<-h.length];cases q:ixN ds.length i with
 |none=>rw[q]at e;cases e
 |some j=>
  rw[q]at e;obtain⟨v,e1,e2⟩:=h.get (show ds[j]?=some d from e);exact⟨v,e1,e2⟩
def Is(M:MH)(x:D)(ds:List D):Prop:=x=.g_ ds\/∃a,x=.ref a/\M a=some (.lst ds)
theorem RelM.list{K:Kc}(rm:RelM K M H)(h:Is M x ds)(dv:Den K H x v):∃p vs,v=.ref p/\SqL K H p vs/\DenL K H ds vs:=by
 rcases h with rfl|⟨a,rfl,h⟩
 ·obtain⟨p,vs,e,s,l⟩:=dv;exact⟨p,vs,e,s.sq,l⟩
 ·obtain⟨vs,e,l⟩:=rm a _ h;exact⟨a,vs,dv,.of e,l⟩
def isIB:V->D->Prop:=λv d=>(∃i,v=.int i/\d=.int i)\/(∃b,v=.bl b/\d=.bl b)
theorem isIB.den{K:Kc}(h:isIB v d):Den K H d v:=by
 rcases h with ⟨i,rfl,rfl⟩|⟨b,rfl,rfl⟩<;>rfl
theorem ko(h:OpR X f (rI C g))(hg:∀i j,isIB (g i j) (g3 i j)):Op3 X f (rI3 C g3):=
 ⟨_,h,λH x y v u M Q Q2 dx dy rm ⟨i,j,e1,e2,hc,q⟩ k=>by
  subst e1;subst e2;cases (show v=.int i from dx);cases (show u=.int j from dy);exact⟨i,j,rfl,rfl,hc,k _ H _ M (hg i j).den rm (.refl _) q⟩⟩
def me(g:Int->Int->D):R3:=λx y M Q=>∃i j,x=.int i/\y=.int j/\Q (g i j) M
theorem eA(h:OpR X f (rI0 g))(hg:∀i j,isIB (g i j) (g3 i j)):Op3 X f (me g3):=
 ⟨_,h,λH x y v u M Q Q2 dx dy rm ⟨i,j,e1,e2,q⟩ k=>by
  subst e1;subst e2;cases (show v=.int i from dx);cases (show u=.int j from dy);exact⟨i,j,rfl,rfl,k _ H _ M (hg i j).den rm (.refl _) q⟩⟩
noncomputable def big:Nat:=2 ^ 4096
theorem qg(h:n<10 ^ 250):n<big:=Jm h (by decide +kernel)
def jA(i j:Int):Prop:=(i.natAbs<big/\j.natAbs<big)
theorem i8{k:Int}(h:k.natAbs<big):Builtin.Int.intBits k<=2 ^ 20:=by
 unfold Builtin.Int.intBits;by_cases h0:k.natAbs=0
 ·have:k=0:=by omega
  subst this;decide
 ·have T6:k.natAbs.log2<4096:=(Nat.log2_lt h0).mpr h;split<;>omega
theorem xD:OpR X (binaryOp .Mult) (rI jA λi j=>.int (i*j)):=opI λ_ _ _ _ _ _ _ hc q=>mul_int q (.of_bits (i8 hc.1) (i8 hc.2))
def gq(_ j:Int):Prop:=0<j/\j.toNat<big
theorem uX:OpR X (binaryOp .FloorDiv) (rI gq λi j=>.int (i / j)):=opI λi j _ _ _ _ _ hc q=>by
 have h1:(0:Int)<j:=hc.1;have h2:j.toNat<big:=hc.2;refine floordiv_int (by omega) (by rw[Int.fdiv_eq_ediv_of_nonneg i (by omega)];exact q) (.inl (PyProof.noPylong_of_log2 ?_))
 have h3:j.natAbs<2 ^ 4096:=by
  have e:j.natAbs=j.toNat:=by omega
  rw[e];exact h2
 have h0:j.natAbs≠0:=by omega
 have:=(Nat.log2_lt h0).mpr h3;omega
theorem Ch:Op3 X (binaryOp .Add) (me λi j=>.int (i+j)):=eA zd λ_ _=>.inl ⟨_,rfl,rfl⟩
theorem Db:Op3 X (binaryOp .Sub) (me λi j=>.int (i-j)):=eA Bm λ_ _=>.inl ⟨_,rfl,rfl⟩
theorem Ee:Op3 X (binaryOp .Mult) (rI3 jA λi j=>.int (i*j)):=ko xD λ_ _=>.inl ⟨_,rfl,rfl⟩
theorem yV:Op3 X (binaryOp .FloorDiv) (rI3 gq λi j=>.int (i / j)):=ko uX λ_ _=>.inl ⟨_,rfl,rfl⟩
theorem Ew:Op3 X (binaryOp .Mod) (rI3 (λ_ j=>0<j) λi j=>.int (i % j)):=ko BN λ_ _=>.inl ⟨_,rfl,rfl⟩
theorem D0:Op3 X (binaryOp .Pow) (rI3 uN λi j=>.int (i ^ j.toNat)):=ko A3 λ_ _=>.inl ⟨_,rfl,rfl⟩
theorem Ed:Op3 X (binaryOp .RShift) (rI3 (λ_ j=>0<=j) λi j=>.int (i / 2 ^ j.toNat)):=ko Bx λ_ _=>.inl ⟨_,rfl,rfl⟩
theorem Eu:Op3 X (binaryOp .BitAnd) (me λi j=>.int (Builtin.bitAnd i j)):=eA Ba λ_ _=>.inl ⟨_,rfl,rfl⟩
theorem Gw:Op3 X (compareOp .Lt) (me λi j=>.bl (decide (i<j))):=eA EA λ_ _=>.inr ⟨_,rfl,rfl⟩
theorem Fw:Op3 X (compareOp .LtE) (me λi j=>.bl (decide (i<=j))):=eA Cw λ_ _=>.inr ⟨_,rfl,rfl⟩
theorem Gs:Op3 X (compareOp .Gt) (me λi j=>.bl (decide (j<i))):=eA Eg λ_ _=>.inr ⟨_,rfl,rfl⟩
theorem F7:Op3 X (compareOp .GtE) (me λi j=>.bl (decide (j<=i))):=eA El λ_ _=>.inr ⟨_,rfl,rfl⟩
def rU3(g:Int->Int):D->MH->VK3->Prop:=λx M Q=>∃i,x=.int i/\Q (.int (g i)) M
theorem DH:Un3 X (unaryOp .USub) (rU3 λi=>-i):=⟨_,At,λH x v M Q Q2 dx rm ⟨i,e,q⟩ k=>by
 subst e;cases (show v=.int i from dx);exact⟨i,rfl,k _ H _ M hZ rm (.refl _) q⟩⟩
noncomputable def D.isN:D->Bool
 |.i_=>true
 |_=>false
theorem qN{K:Kc}{d:D}(h:Den K H d v):decide (v=.i_)=d.isN:=by
 cases d with
 |i_=>cases (show v=.i_ from h);rfl
 |bl b=>cases (show v=.bl b from h);rfl
 |int i=>cases (show v=.int i from h);rfl
 |str x=>cases (show v=.str x from h);rfl
 |tup ds=>obtain⟨p,vs,rfl,_⟩:=h;rfl
 |g_ ds=>obtain⟨p,vs,rfl,_⟩:=h;rfl
 |ref a=>cases (show v=.ref a from h);rfl
 |Ln ks ds=>obtain⟨p,vs,_,rfl,_⟩:=h;rfl
 |_=>obtain⟨p,vs,_,_,rfl,_⟩:=h;rfl
def rIs3:R3:=λx y M Q=>y=.i_/\Q (.bl x.isN) M
def rIsN3:R3:=λx y M Q=>y=.i_/\Q (.bl (!x.isN)) M
theorem Ft:Op3 X (compareOp .Is) rIs3:=⟨_,Br,λH x y v u M Q Q2 dx dy rm ⟨e,q⟩ k=>by
 subst e;refine⟨dy,?_⟩;rw[qN dx];exact k _ H _ M bG rm (.refl _) q⟩
theorem w5:Op3 X (compareOp .IsNot) rIsN3:=⟨_,xI,λH x y v u M Q Q2 dx dy rm ⟨e,q⟩ k=>by
 subst e;refine⟨dy,?_⟩;rw[qN dx];exact k _ H _ M bG rm (.refl _) q⟩
variable {id:String}
def rLen3:List D->MH->VK3->Prop:=λxs M Q=>∃x ds,xs=[x]/\(Is M x ds\/x=.tup ds)/\Q (.int ds.length) M
theorem DP:uG X (.builtin "len") rLen3:=⟨_,lY,λH xs vs M Q Q2 dl rm ⟨x,ds,e,h,q⟩ k=>by
 subst e;obtain⟨v,r,rfl,dv,rfl⟩:=dl;rcases h with h|rfl
 ·obtain⟨a,ys,rfl,sq,l⟩:=rm.list h dv;exact⟨a,ys,rfl,.inl sq,by rw[<-l.length];exact k _ H _ M hZ rm (.refl _) q⟩
 ·obtain⟨a,ys,rfl,sq,l⟩:=dv;exact⟨a,ys,rfl,.inr sq,by rw[<-l.length];exact k _ H _ M hZ rm (.refl _) q⟩⟩
def rMax3:List D->MH->VK3->Prop:=λxs M Q=>∃i j,xs=[.int i,.int j]/\Q (.int (if j > i then j else i)) M
theorem Cg(hc:X.calm=true):uG X (.builtin "max") rMax3:=⟨_,sC hc,λH xs vs M Q Q2 dl rm ⟨i,j,e,q⟩ k=>by
 subst e;obtain⟨v,r,rfl,dv,w,r',rfl,dw,rfl⟩:=dl;cases (show v=.int i from dv);cases (show w=.int j from dw);exact⟨i,j,rfl,k _ H _ M hZ rm (.refl _) q⟩⟩
end
abbrev BackS(K:Kc)(H:Hp)(Q:St3->MH->Prop)(Q2:St->Hp->Prop):Prop:=∀n_ H' w_ M',RelM K M' H'->DenS K H' w_ n_->TM K H H'->Q w_ M'->Q2 n_ H'
section
variable {X:Cx}{st:Stmt}{aC:List Stmt}{t u:TS3}{e:Expr}{te:TE3}{pos:Pos}
structure ItOk (K:Kc)(H0:Hp)(J:It)(ds:List D)(S:MH->Prop):Prop where
 go:∀(i:Nat) H M,TM K H0 H->RelM K M H->S M->i<ds.length->J.go i H
 yld:∀(i:Nat) H M x H',TM K H0 H->RelM K M H->S M->i<ds.length->J.yld i H x H'->TM K H H'/\RelM K M H'/\∃d,ds[i]?=some d/\Den K H' d x
 stop:∀H M,TM K H0 H->RelM K M H->S M->J.stop ds.length H
noncomputable def rng(lo:Int)(n:Nat):List D:=(List.range n).map λ(i:Nat)=>D.int (lo+i)
theorem mE(lo:Int)(n:Nat):(rng lo n).length=n:=by unfold rng;rw[Jh,List.length_range]
theorem Bi{lo:Int}(h:i<n):(rng lo n)[i]?=some (.int (lo+i)):=by
 unfold rng;rw[JJ,List.getElem?_range h];rfl
theorem zx{K:Kc}{lo:Int}:ItOk K H0 (Itr lo n) (rng lo n) (λ_=>True):=by
 refine⟨λi H M _ _ _ hi=>?_,λi H M x H' _ rm _ hi y=>?_,λH M _ _ _=>?_⟩
 ·rw[mE]at hi;exact hi
 ·rw[mE]at hi;obtain⟨e,y⟩:=y;subst e;subst y;exact⟨.refl _,rm,_,Bi hi,rfl⟩
 ·rw[mE];exact Jg _
end
section
variable {K:Kc}
end
section
variable {X:Cx}
end
noncomputable abbrev XN:=XE->MH->Prop
noncomputable def del(M:MH)(a:Addr):MH:=λb=>if b=a then none else M b
theorem fU(h:M a=none):del (put M a o) a=M:=by
 funext b;unfold del put;by_cases e:b=a
 ·subst e;rw[Jc rfl,h]
 ·rw[IY e,IY e]
theorem mV(h:del M a b=some o):b≠a/\M b=some o:=by
 unfold del at h;split at h
 ·cases h
 ·exact⟨by assumption,h⟩
noncomputable def ar(M M':MH):MH:=λa=>match M a with
 |some _=>M' a
 |none=>none
theorem lq(h:ar M M' a=some o):M' a=some o:=by
 unfold ar at h;split at h
 ·exact h
 ·cases h
noncomputable def kp(b:Bool)(M M':MH):MH:=if b=true then ar M M' else M'
theorem tX(h:kp b M M' a=some o):M' a=some o:=by
 cases b with
 |true=>exact lq h
 |false=>exact h
inductive BI where
 |len  |max  |list (fz:Bool)  |all  |any  |sorted (fz:Bool)
inductive BM where
 |get  |KN
inductive BT where
 |int|bool|str|tuple|list|dict
mutual
inductive IE where
 |var (i:Nat)
 |con (d:D)
 |bin (op:Operator) (a b:IE)
 |neg (a:IE)
 |cat (fz:Bool) (a b:IE)
 |cmp (op:CmpOp) (a b:IE)
 |chain (op KL:CmpOp) (a b c:IE)
 |and (a b:IE)
 |or (a b:IE)
 |not (a:IE)
 |Mi (c:IT) (a b:IE)
 |tup (es:IA)
 |lst (fz:Bool) (es:IA)
 |t_ (e:IE)
 |ix (a b:IE)
 |sl (fz:Bool) (a:IE) (lo hi:IO)
 |call (f:Nat) (es:IA)
 |bi (b:BI) (es:IA)
 |Lv (e:IE) (t:BT)
 |MA (e:IE) (c:Nat)
 |mm (mx dflt:Bool) (e:IE)
 |comp (fz:Bool) (N:List Str) (js:List (Option Nat)) (tg:ITg) (it:II) (cond:ITO) (y_:IE)
 |fld (e:IE) (f:Nat)
 |make (fz:Bool) (i:Nat) (es:IA)
 |x_ (e:IE) (m:Nat) (es:IA)
 |ini (i:Nat) (es:IA)
 |Lw (e:IE) (j:Nat)
 |glo (k:Nat)
 |bm (b:BM) (o:IE) (es:IA)
 |rep (fz:Bool) (a b:IE)
 |Ku (tk:Bool)
 |LL (fz:Bool) (a b:IE)
inductive IT where
 |val (e:IE)
 |cmp (op:CmpOp) (a b:IE)
 |and (a b:IT)
 |or (a b:IT)
 |not (a:IT)
inductive IA where
 |nil|cons (e:IE) (r:IA)
inductive IO where
 |no|yes (e:IE)
inductive ITO where
 |no|yes (e:IT)
inductive II where
 |seq (e:IE)
 |KD (a:IE)
 |enum (a:IE)
 |zip (a b:IE)
 |LN (a:IE)
inductive ITg where
 |name (i:Nat)|tup (is:List Nat)
end
mutual
inductive IS where
 |set (i:Nat) (e:IE)
 |expr (e:IE)
 |ret (e:IE)
 |ifs (c:IT) (a b:ISs)
 |Kh (tg:ITg) (it:II) (body:ISs)
 |raise (c:Nat) (es:IA)
 |KG (c:Nat) (es:IA)
 |Lo (body:ISs) (hs:IHs)
 |app (o e:IE)
 |del (i:Nat)
 |Ke (o:IE) (f:Nat) (e:IE)
 |v_ (o i e:IE)
 |dead
inductive ISs where
 |nil|cons (s:IS) (r:ISs)
inductive IHs where
 |nil|cons (c:Nat) (nm:Option Nat) (body:ISs) (r:IHs)
end
noncomputable def ai(M:MH):D->Option (List D)
 |.g_ ds=>some ds
 |.ref a=>match M a with
  |some (.lst ds)=>some ds
  |_=>none
 |_=>none
noncomputable def az(M:MH):D->Option (List D)
 |.tup ds=>some ds
 |x=>ai M x
noncomputable def res(M:MH)(x:D):D:=match ai M x with
 |some ds=>.g_ ds
 |none=>x
def cf(fz:Bool)(ds:List D)(M:MH)(Q:VK3):Prop:=ds.length<=sizeLine/\if fz=true then Q (.g_ ds) M else ∀p,M p=none->Q (.ref p) (put M p (.lst ds))
noncomputable def plN:Nat->D->Bool
 |_,.ref _=>false
 |n,.tup ds=>match n with
  |0=>false
  |m+1=>ds.all (plN m)
 |n,.g_ ds=>match n with
  |0=>false
  |m+1=>ds.all (plN m)
 |_,.obj _ _ _ _=>false
 |_,.Ln _ _=>false
 |_,.K_ _ _=>false
 |_,_=>true
noncomputable abbrev pl(x:D):Bool:=plN 8 x
noncomputable abbrev pls(ds:List D):Bool:=ds.all (plN 8)
mutual
noncomputable def eqD:D->D->Bool
 |.i_,y=>match y with
  |.i_=>true
  |_=>false
 |.bl a,y=>match y with
  |.bl b=>a == b
  |.int b=>decide ((if a=true then (1:Int) else 0)=b)
  |_=>false
 |.int a,y=>match y with
  |.int b=>decide (a=b)
  |.bl b=>decide (a=if b=true then (1:Int) else 0)
  |_=>false
 |.str a,y=>match y with
  |.str b=>decide (a=b)
  |_=>false
 |.tup a,y=>match y with
  |.tup b=>bN a b
  |_=>false
 |.g_ a,y=>match y with
  |.g_ b=>bN a b
  |_=>false
 |.ref _,_=>false
 |.obj _ _ _ _,_=>false
 |.Ln _ _,_=>false
 |.K_ _ _,_=>false
noncomputable def bN:List D->List D->Bool
 |[],y=>match y with
  |[]=>true
  |_=>false
 |a::r,y=>match y with
  |b::t=>eqD a b&&bN r t
  |_=>false
end
def rII(C:Int->Int->Prop)(g:Int->Int->D)(x y:D)(M:MH)(Q:VK3):Prop:=match x,y with
 |.int i,.int j=>C i j/\Q (g i j) M
 |_,_=>False
def rI2(g:Int->Int->D)(x y:D)(M:MH)(Q:VK3):Prop:=match x,y with
 |.int i,.int j=>Q (g i j) M
 |_,_=>False
def u8(x y:D)(M:MH)(Q:VK3):Prop:=match x,y with
 |.int i,.int j=>Q (.int (i+j)) M
 |.tup a,.tup b=>a.length+b.length<=sizeLine/\Q (.tup (a++b)) M
 |_,_=>False
def vm(x y:D)(M:MH)(Q:VK3):Prop:=match x,y with
 |.int i,.int j=>jA i j/\Q (.int (i*j)) M
 |_,_=>False
def mS:Operator->D->D->MH->VK3->Prop
 |.Add=>u8
 |.Sub=>rI2 λi j=>.int (i-j)
 |.Mult=>vm
 |.FloorDiv=>rII gq λi j=>.int (i / j)
 |.Mod=>rII (λ_ j=>0<j) λi j=>.int (i % j)
 |.Pow=>rII uN λi j=>.int (i ^ j.toNat)
 |.RShift=>rII (λ_ j=>0<=j) λi j=>.int (i / 2 ^ j.toNat)
 |.BitAnd=>rI2 λi j=>.int (Builtin.bitAnd i j)
 |_=>λ_ _ _ _=>False
def rNeg(x:D)(M:MH)(Q:VK3):Prop:=match x with
 |.int i=>Q (.int (-i)) M
 |_=>False
def dn(fz:Bool)(x y:D)(M:MH)(Q:VK3):Prop:=match ai M x,ai M y with
 |some a,some b=>cf fz (a++b) M Q
 |_,_=>match x,y with
  |.tup a,.tup b=>a.length+b.length<=sizeLine/\Q (.tup (a++b)) M
  |_,_=>False
def gY(fz:Bool)(x y:D)(M:MH)(Q:VK3):Prop:=match ai M x,y with
 |some a,.int k=>(-(2 ^ 63)<=k/\k<2 ^ 63/\a.length*k.toNat<=sizeLine)/\cf fz (List.replicate k.toNat a).flatten M Q
 |_,_=>False
noncomputable def rs(M:MH)(x:D):D:=match ai M x with
 |some ds=>.g_ (if pls ds=true then ds else ds.map (res M))
 |none=>x
def dh(neg:Bool)(x y:D)(M:MH)(Q:VK3):Prop:=pl (rs M x)=true/\pl (rs M y)=true/\Q (.bl (neg ^^ eqD (rs M x) (rs M y))) M
def tD(neg:Bool)(x y:D)(M:MH)(Q:VK3):Prop:=match y with
 |.i_=>Q (.bl (neg ^^ x.isN)) M
 |.bl b=>match x with
  |.bl a=>Q (.bl (neg ^^ (a == b))) M
  |.i_=>Q (.bl neg) M
  |_=>False
 |_=>False
noncomputable def sj:D->Option Key
 |.int i=>some (.inl i)
 |.str s=>some (.inr s)
 |_=>none
noncomputable def c8:List D->Option (List Int)
 |[]=>some []
 |.int i::r=>match c8 r with
  |some ns=>some (i::ns)
  |none=>none
 |_::_=>none
noncomputable def gx:D->Option (List Int)
 |.tup es=>c8 es
 |_=>none
noncomputable def getD[DecidableEq κ]:List κ->List D->κ->Option D
 |k::ks,d::ds,x=>if k=x then some d else getD ks ds x
 |_,_,_=>none
noncomputable def aj[DecidableEq κ]:List κ->κ->List κ
 |[],x=>[x]
 |k::ks,x=>if k=x then k::ks else k::aj ks x
noncomputable def am[DecidableEq κ]:List κ->List D->κ->D->List D
 |k::ks,d::ds,x,y=>if k=x then y::ds else d::am ks ds x y
 |_,_,_,y=>[y]
noncomputable def eX(M:MH):D->Option (List Key×List D)
 |.Ln ks ds=>some (ks,ds)
 |.ref a=>match M a with
  |some (.dk ks ds)=>some (ks,ds)
  |_=>none
 |_=>none
noncomputable def gG(M:MH):D->Option (List (List Int)×List D)
 |.K_ ks ds=>some (ks,ds)
 |.ref a=>match M a with
  |some (.dt ks ds)=>some (ks,ds)
  |_=>none
 |_=>none
noncomputable def iW(M:MH)(x y:D):Option (Option D):=match eX M x with
 |some (ks,ds)=>match sj y with
  |some k=>some (getD ks ds k)
  |none=>none
 |none=>match gG M x with
  |some (ks,ds)=>match gx y with
   |some k=>some (getD ks ds k)
   |none=>none
  |none=>none
def l6(neg:Bool)(x y:D)(M:MH)(Q:VK3):Prop:=match az M y with
 |some ds=>pl (res M x)=true/\pls ds=true/\Q (.bl (neg ^^ ds.any λd=>eqD d (res M x))) M
 |none=>match iW M y x with
  |some o=>Q (.bl (neg ^^ o.isSome)) M
  |none=>False
def au:CmpOp->D->D->MH->VK3->Prop
 |.Eq=>dh false
 |.NotEq=>dh true
 |.Lt=>rI2 λi j=>.bl (decide (i<j))
 |.LtE=>rI2 λi j=>.bl (decide (i<=j))
 |.Gt=>rI2 λi j=>.bl (decide (j<i))
 |.GtE=>rI2 λi j=>.bl (decide (j<=i))
 |.Is=>tD false
 |.IsNot=>tD true
 |.In=>l6 false
 |.NotIn=>l6 true
def aq(x y:D)(M:MH)(Q:VK3):Prop:=match az M x with
 |some ds=>match y with
  |.int i=>match atI ds i with
   |some d=>Q d M
   |none=>False
  |_=>False
 |none=>match iW M x y with
  |some (some d)=>Q d M
  |some none=>False
  |none=>False
noncomputable def dg(xs:List D)(lo hi:Option Int):List D:=(xs.drop (HT.sIx xs.length 0 lo)).take (HT.sIx xs.length xs.length hi-HT.sIx xs.length 0 lo)
noncomputable def whole(n:Nat)(lo hi:Option Int):Bool:=HT.sIx n 0 lo == 0&&HT.sIx n n hi == n
def iH(fz:Bool)(x:D)(lo hi:Option Int)(M:MH)(Q:VK3):Prop:=match x with
 |.tup ds=>whole ds.length lo hi=false/\Q (.tup (dg ds lo hi)) M
 |x=>match ai M x with
  |some ds=>cf fz (dg ds lo hi) M Q
  |none=>False
noncomputable def fE:List D->Option (List Bool)
 |[]=>some []
 |.bl i::r=>match fE r with
  |some ns=>some (i::ns)
  |none=>none
 |_::_=>none
noncomputable def tyB:BM->D->MH->Bool
 |.get,x,M=>(eX M x).isSome||(gG M x).isSome
 |.KN,x,M=>(eX M x).isSome||(gG M x).isSome
noncomputable def ax[DecidableEq κ]:List κ->κ->List κ
 |[],_=>[]
 |q::ks,k=>if q=k then ks else q::ax ks k
noncomputable def aJ[DecidableEq κ]:List κ->List D->κ->List D
 |q::ks,d::ds,k=>if q=k then ds else d::aJ ks ds k
 |_,ds,_=>ds
def rBm:BM->D->List D->MH->VK3->Prop
 |.get,x,ys,M,Q=>match ys with
  |[y]=>match iW M x y with
   |some o=>Q (o.getD .i_) M
   |none=>False
  |[y,z]=>match iW M x y with
   |some o=>Q (o.getD z) M
   |none=>False
  |_=>False
 |.KN,x,ys,M,Q=>match x,ys with
  |.ref a,[y]=>match M a,gx y with
   |some (.dt ks ds),some k=>match getD ks ds k with
    |some d=>Q d (put M a (.dt (ax ks k) (aJ ks ds k)))
    |none=>False
   |_,_=>False
  |_,_=>False
noncomputable def dJ:List D->Option (List IP)
 |[]=>some []
 |.tup [.int a,.int b]::r=>match dJ r with
  |some ps=>some ((a,b)::ps)
  |none=>none
 |_::_=>none
noncomputable def prI(p:IP):D:=.tup [.int p.1,.int p.2]
theorem lp:∀{ds:List D}{ps:List IP},dJ ds=some ps->ds=ps.map prI
 |[],ps,h=>by cases (show []=ps from Jn h);rfl
 |d::ds,ps,h=>by
  unfold dJ at h;split at h
  ·rename_i e;cases e
  ·rename_i e;cases e;split at h
   ·rename_i hp;cases h;rw[lp hp];rfl
   ·cases h
  ·cases h
theorem kX:∀(ps:List IP),dJ (ps.map prI)=some ps
 |[]=>rfl
 |p::ps=>by simp[dJ,prI,kX ps]
def rBi:BI->List D->MH->VK3->Prop
 |.len,xs,M,Q=>match xs with
  |[x]=>match az M x with
   |some ds=>Q (.int ds.length) M
   |none=>False
  |_=>False
 |.max,xs,M,Q=>match xs with
  |[.int i,.int j]=>Q (.int (if j > i then j else i)) M
  |_=>False
 |.list fz,xs,M,Q=>match xs with
  |[x]=>match az M x with
   |some ds=>cf fz ds M Q
   |none=>False
  |_=>False
 |.sorted fz,xs,M,Q=>match xs with
  |[x]=>match ai M x with
   |some ds=>match dJ ds with
    |some ps=>(ps.length<64/\ps.Nodup)/\∀qs:List IP,qs.Perm ps->qs.Pairwise (λa b=>ltP a b=true)->cf fz (qs.map prI) M Q
    |none=>False
   |none=>False
  |_=>False
 |.all,xs,M,Q=>match xs with
  |[x]=>match ai M x with
   |some ds=>match fE ds with
    |some bs=>Q (.bl (bs.all id)) M
    |none=>False
   |none=>False
  |_=>False
 |.any,xs,M,Q=>match xs with
  |[x]=>match ai M x with
   |some ds=>match fE ds with
    |some bs=>Q (.bl (bs.any id)) M
    |none=>False
   |none=>False
  |_=>False
def hW(t:BT)(x:D)(M:MH)(Q:VK3):Prop:=match x with
 |.i_=>Q (.bl false) M
 |.bl _=>Q (.bl (match t with|.int=>true|.bool=>true|_=>false)) M
 |.int _=>Q (.bl (match t with|.int=>true|_=>false)) M
 |.str _=>Q (.bl (match t with|.str=>true|_=>false)) M
 |.tup _=>Q (.bl (match t with|.tuple=>true|_=>false)) M
 |.g_ _=>Q (.bl (match t with|.list=>true|_=>false)) M
 |.ref a=>match M a with
  |some (.lst _)=>Q (.bl (match t with|.list=>true|_=>false)) M
  |some (.dk _ _)=>Q (.bl (match t with|.dict=>true|_=>false)) M
  |some (.dt _ _)=>Q (.bl (match t with|.dict=>true|_=>false)) M
  |_=>False
 |.Ln _ _=>Q (.bl (match t with|.dict=>true|_=>false)) M
 |.K_ _ _=>Q (.bl (match t with|.dict=>true|_=>false)) M
 |.obj _ _ _ _=>False
def ny(ne:Nat)(cls:Nat->Addr)(r:Nat->Bool)(x:D)(M:MH)(Q:VK3):Prop:=match x with
 |.ref a=>match M a with
  |some (.exc i v)=>i.c<ne/\v=.ref (cls i.c)/\Q (.bl (r i.c)) M
  |_=>False
 |_=>False
noncomputable def lP:List D->Option (List Int)
 |[]=>some []
 |.int i::r=>match lP r with
  |some ns=>some (i::ns)
  |none=>none
 |_::_=>none
noncomputable def mmI(mx:Bool)(a b:Int):Int:=if mx=true then (if b > a then b else a) else (if b<a then b else a)
def rMM(mx dflt:Bool)(x:D)(M:MH)(Q:VK3):Prop:=mx=true/\dflt=true/\match ai M x with
 |some ds=>match lP ds with
  |some []=>Q .i_ M
  |some (n::ns)=>Q (.int (ns.foldl (mmI true) n)) M
  |none=>False
 |none=>False
structure WB where
 ne:Nat
 cls:Nat->Addr
 sub:Nat->Nat->Bool
 nk:Nat
 b_:Nat->Addr
 ksub:Nat->Nat->Bool
 fok:Nat->Nat->Bool
 mth:Nat->Nat->Option Nat
 ini:Nat->Option Nat
 xin:Nat->Option Nat
 glo:Nat->D
 d_:Nat->Addr
structure WC extends WB where
 call:Nat->List D->MH->VK3->XN->Prop
noncomputable def cq(f:Nat):List Nat->List D->Option D
 |n::ns,d::ds=>if n=f then some d else cq f ns ds
 |_,_=>none
noncomputable def b9(f:Nat):List Nat->List Nat
 |n::ns=>if n=f then n::ns else n::b9 f ns
 |[]=>[f]
noncomputable def cb(f:Nat)(y:D):List Nat->List D->List D
 |n::ns,d::ds=>if n=f then y::ds else d::cb f y ns ds
 |_,_=>[y]
def gB(f:Nat)(ns:List Nat)(ds:List D)(M:MH)(Q:VK3):Prop:=match cq f ns ds with
 |some d=>Q d M
 |none=>False
def bT(B:WB)(f:Nat)(x:D)(M:MH)(Q:VK3):Prop:=match x with
 |.obj i C ns ds=>(C=B.b_ i/\i<B.nk/\B.fok i f=true)/\gB f ns ds M Q
 |.ref a=>match M a with
  |some (.ins i C ns ds)=>(C=B.b_ i/\i<B.nk/\B.fok i f=true)/\gB f ns ds M Q
  |_=>False
 |_=>False
def dM(o:Option Nat)(R:Nat->Prop):Prop:=match o with
 |some f=>R f
 |none=>False
def bh(B:WB)(m:Nat)(x:D)(M:MH)(R:Nat->Prop):Prop:=match x with
 |.obj i C ns ds=>(C=B.b_ i/\i<B.nk/\cq m ns ds=none)/\dM (B.mth i m) R
 |.ref a=>match M a with
  |some (.ins i C ns ds)=>(C=B.b_ i/\i<B.nk/\cq m ns ds=none)/\dM (B.mth i m) R
  |_=>False
 |_=>False
def qh(B:WB)(j:Nat)(x:D)(M:MH)(Q:VK3):Prop:=match x with
 |.obj i C _ _=>(C=B.b_ i/\i<B.nk/\j<B.nk)/\Q (.bl (B.ksub i j)) M
 |.ref a=>match M a with
  |some (.ins i C _ _)=>(C=B.b_ i/\i<B.nk/\j<B.nk)/\Q (.bl (B.ksub i j)) M
  |_=>False
 |_=>False
def jg(Q:VK3):VK3:=λx M=>match x with
 |.ref a=>match M a with
  |some (.lst ds)=>Q (.g_ ds) (del M a)
  |_=>False
 |_=>False
def eW:List D->MH->(List D->MH->Prop)->Prop
 |[],M,R=>R [] M
 |d::ds,M,R=>match d with
  |.ref a=>match M a with
   |some (.lst es)=>eW ds (del M a) λr M'=>R (.g_ es::r) M'
   |some (.dk ks es)=>eW ds (del M a) λr M'=>R (.Ln ks es::r) M'
   |some (.dt ks es)=>eW ds (del M a) λr M'=>R (.K_ ks es::r) M'
   |_=>eW ds M λr M'=>R (.ref a::r) M'
  |d=>eW ds M λr M'=>R (d::r) M'
def be(Q:VK3):VK3:=λx M=>match x with
 |.ref a=>match M a with
  |some (.lst ds)=>Q (.g_ ds) (del M a)
  |some (.dk ks ds)=>Q (.Ln ks ds) (del M a)
  |some (.dt ks ds)=>Q (.K_ ks ds) (del M a)
  |some (.ins i C ns ds)=>eW ds (del M a) λr M'=>Q (.obj i C ns r) M'
  |_=>False
 |_=>False
def wpG:ITg->D->St3->MH->(St3->MH->Prop)->Prop
 |.name i,d,Z,M,Q=>Q (Z.set i (some d)) M
 |.tup is,d,Z,M,Q=>match d with
  |.tup ds=>ds.length=is.length/\Q ((is.zip ds).foldl (λZ p=>Z.set p.1 (some p.2)) Z) M
  |_=>False
noncomputable def ao(js:List (Option Nat))(Z:St3):St3:=js.map λo=>o.bind λj=>(Z[j]?).bind id
def eO(g:D->St3->MH->(St3->MH->Prop)->Prop)(tt:St3->MH->(Bool->MH->Prop)->Prop)(te:St3->MH->VK3->Prop)(S:MH->Prop)(p:Addr)(Q:VK3):List D->List D->St3->MH->Prop
 |[],_,_,M=>S M/\Q (.ref p) M
 |d::r,ys,Z,M=>S M/\ys.length<sizeLine/\g d Z M λKo M2=>tt Ko M2 λb M3=>if b=true then te Ko M3 λy M4=>M4 p=some (.lst ys)/\eO g tt te S p Q r (ys++[y]) Ko (put M4 p (.lst (ys++[y]))) else eO g tt te S p Q r ys Ko M3
def aY(x k y:D)(M:MH)(R:MH->Prop):Prop:=match x with
 |.ref a=>match M a,k with
  |some (.lst ds),.int i=>(match ixN ds.length i with
   |some j=>R (put M a (.lst (ds.set j y)))
   |none=>False)
  |some (.dk ks ds),k=>(match sj k with
   |some q=>ks.length<sizeLine/\R (put M a (.dk (aj ks q) (am ks ds q y)))
   |none=>False)
  |some (.dt ks ds),k=>(match gx k with
   |some q=>ks.length<sizeLine/\R (put M a (.dt (aj ks q) (am ks ds q y)))
   |none=>False)
  |_,_=>False
 |_=>False
noncomputable def cz:Nat->List D->List D
 |_,[]=>[]
 |k,d::r=>.tup [.int k,d]::cz (k+1) r
noncomputable def gy(xs ys:List D):List D:=(xs.zip ys).map λp=>.tup [p.1,p.2]
def rLs(x:D)(M:MH)(k:List D->(MH->Prop)->Prop):Prop:=match x with
 |.g_ xs=>k xs λ_=>True
 |.ref b=>match M b with
  |some (.lst ys)=>k ys λM=>M b=some (.lst ys)
  |_=>False
 |_=>False
noncomputable def cpF(f:Nat):Bool:=f == 217822450
def rXp(f:Nat)(y:D)(M:MH)(R:D->Prop):Prop:=if cpF f=true then (match ai M y with
 |some ds=>R (.g_ ds)
 |none=>False) else R y
def rLz(fz:Bool)(x y:D)(M:MH)(Q:VK3):Prop:=match x,y with
 |.g_ xs,.g_ ys=>cf fz (gy xs ys) M Q
 |_,_=>False
section
variable (W:WC)
mutual
def wpE:IE->St3->MH->VK3->XN->Prop
 |.var i,Z,M,Q,_=>match Z[i]? with
  |some (some d)=>Q d M
  |_=>False
 |.con d,_,M,Q,_=>Q d M
 |.bin op a b,Z,M,Q,E=>wpE a Z M (λx M1=>wpE b Z M1 (λy M2=>mS op x y M2 Q) E) E
 |.neg a,Z,M,Q,E=>wpE a Z M (λx M1=>rNeg x M1 Q) E
 |.cat fz a b,Z,M,Q,E=>wpE a Z M (λx M1=>wpE b Z M1 (λy M2=>dn fz x y M2 Q) E) E
 |.cmp op a b,Z,M,Q,E=>wpE a Z M (λx M1=>wpE b Z M1 (λy M2=>au op x y M2 Q) E) E
 |.chain op KL a b c,Z,M,Q,E=>wpE a Z M (λx M1=>wpE b Z M1 (λy M2=>au op x y M2 λr M3=>match r with
  |.bl k=>if k=true then wpE c Z M3 (λz M4=>au KL y z M4 Q) E else Q (.bl false) M3
  |_=>False) E) E
 |.and a b,Z,M,Q,E=>wpE a Z M (λx M1=>match x with
  |.bl c=>if c=true then wpE b Z M1 Q E else Q (.bl false) M1
  |_=>False) E
 |.or a b,Z,M,Q,E=>wpE a Z M (λx M1=>match x with
  |.bl c=>if c=true then Q (.bl true) M1 else wpE b Z M1 Q E
  |_=>False) E
 |.not a,Z,M,Q,E=>wpE a Z M (λx M1=>match x with
  |.bl c=>Q (.bl (!c)) M1
  |_=>False) E
 |.Mi c a b,Z,M,Q,E=>wpT c Z M (λk M1=>if k=true then wpE a Z M1 Q E else wpE b Z M1 Q E) E
 |.tup es,Z,M,Q,E=>wpA es Z M (λxs M1=>xs.length<=sizeLine/\Q (.tup xs) M1) E
 |.lst fz es,Z,M,Q,E=>wpA es Z M (λxs M1=>cf fz xs M1 Q) E
 |.t_ e,Z,M,Q,E=>wpE e Z M (be Q) E
 |.ix a b,Z,M,Q,E=>wpE a Z M (λx M1=>wpE b Z M1 (λy M2=>aq x y M2 Q) E) E
 |.sl fz a lo hi,Z,M,Q,E=>wpE a Z M (λx M1=>wpO lo Z M1 (λl M2=>wpO hi Z M2 (λh M3=>iH fz x l h M3 Q) E) E) E
 |.call f es,Z,M,Q,E=>wpA es Z M (λxs M1=>W.call f xs M1 Q E) E
 |.bi b es,Z,M,Q,E=>wpA es Z M (λxs M1=>rBi b xs M1 Q) E
 |.Lv e t,Z,M,Q,E=>wpE e Z M (λx M1=>hW t x M1 Q) E
 |.MA e c,Z,M,Q,E=>wpE e Z M (λx M1=>ny W.ne W.cls (λi=>W.sub i c) x M1 Q) E
 |.mm mx dflt e,Z,M,Q,E=>wpE e Z M (λx M1=>rMM mx dflt x M1 Q) E
 |.comp fz _ js tg it cond y_,Z,M,Q,E=>wpI it Z M (λds S M1=>∀p,M1 p=none->
   eO (wpG tg) (λZ M Q=>fK cond Z M Q (λ_ _=>False)) (λZ M Q=>wpE y_ Z M Q (λ_ _=>False)) S p (if fz=true then jg Q else Q) ds [] (ao js Z) (put M1 p (.lst []))) E
 |.fld e f,Z,M,Q,E=>wpE e Z M (λx M1=>bT W.toWB f x M1 Q) E
 |.make fz i es,Z,M,Q,E=>wpA es Z M (λxs M1=>i<W.nk/\dM (W.ini i) λf=>∀p,M1 p=none->
   W.call f (.ref p::xs) (put M1 p (.ins i (W.b_ i) [] [])) (λv M2=>v=.i_/\if fz=true then be Q (.ref p) M2 else Q (.ref p) M2) (λi M'=>E i (del M' p))) E
 |.x_ e m es,Z,M,Q,E=>wpE e Z M (λx M1=>bh W.toWB m x M1 λf=>wpA es Z M1 (λxs M2=>W.call f (x::xs) M2 Q E) E) E
 |.ini i es,Z,M,Q,E=>wpA es Z M (λxs M1=>i<W.nk/\dM (W.ini i) λf=>W.call f xs M1 Q E) E
 |.Lw e j,Z,M,Q,E=>wpE e Z M (λx M1=>qh W.toWB j x M1 Q) E
 |.glo k,_,M,Q,_=>Q (W.glo k) M
 |.bm b o es,Z,M,Q,E=>wpE o Z M (λx M1=>tyB b x M1=true/\wpA es Z M1 (λxs M2=>rBm b x xs M2 Q) E) E
 |.Ku tk,_,M,Q,_=>∀p,M p=none->Q (.ref p) (put M p (if tk=true then .dt [] [] else .dk [] []))
 |.rep fz a b,Z,M,Q,E=>wpE a Z M (λx M1=>wpE b Z M1 (λy M2=>gY fz x y M2 Q) E) E
 |.LL fz a b,Z,M,Q,E=>wpE a Z M (λx M1=>wpE b Z M1 (λy M2=>rLz fz x y M2 Q) E) E
def wpT:IT->St3->MH->(Bool->MH->Prop)->XN->Prop
 |.val e,Z,M,Q,E=>wpE e Z M (λx M1=>match x with
  |.bl k=>Q k M1
  |_=>False) E
 |.cmp op a b,Z,M,Q,E=>wpE a Z M (λx M1=>wpE b Z M1 (λy M2=>au op x y M2 λr M3=>match r with
  |.bl k=>Q k M3
  |_=>False) E) E
 |.and a b,Z,M,Q,E=>wpT a Z M (λc M1=>if c=true then wpT b Z M1 Q E else Q false M1) E
 |.or a b,Z,M,Q,E=>wpT a Z M (λc M1=>if c=true then Q true M1 else wpT b Z M1 Q E) E
 |.not a,Z,M,Q,E=>wpT a Z M (λc M1=>Q (!c) M1) E
def wpA:IA->St3->MH->(List D->MH->Prop)->XN->Prop
 |.nil,_,M,Q,_=>Q [] M
 |.cons e r,Z,M,Q,E=>wpE e Z M (λx M1=>wpA r Z M1 (λxs M2=>Q (x::xs) M2) E) E
def wpO:IO->St3->MH->(Option Int->MH->Prop)->XN->Prop
 |.no,_,M,Q,_=>Q none M
 |.yes e,Z,M,Q,E=>wpE e Z M (λx M1=>match x with
  |.int i=>Q (some i) M1
  |_=>False) E
def fK:ITO->St3->MH->(Bool->MH->Prop)->XN->Prop
 |.no,_,M,Q,_=>Q true M
 |.yes e,Z,M,Q,E=>wpT e Z M Q E
def wpI:II->St3->MH->(List D->(MH->Prop)->MH->Prop)->XN->Prop
 |.seq e,Z,M,R,E=>wpE e Z M (λx M1=>match x with
  |.tup ds=>R ds (λ_=>True) M1
  |.g_ ds=>R ds (λ_=>True) M1
  |.ref a=>match M1 a with
   |some (.lst ds)=>R ds (λM=>M a=some (.lst ds)) M1
   |_=>False
  |_=>False) E
 |.enum a,Z,M,R,E=>wpE a Z M (λx M1=>match x with
  |.g_ ds=>R (cz 0 ds) (λ_=>True) M1
  |.ref a=>match M1 a with
   |some (.lst ds)=>R (cz 0 ds) (λM=>M a=some (.lst ds)) M1
   |_=>False
  |_=>False) E
 |.zip a b,Z,M,R,E=>wpE a Z M (λx M1=>wpE b Z M1 (λy M2=>rLs x M2 λxs S=>rLs y M2 λys S'=>R (gy xs ys) (λM=>S M/\S' M) M2) E) E
 |.LN a,Z,M,R,E=>wpE a Z M (λx M1=>match x with
  |.g_ ds=>R ds.reverse (λ_=>True) M1
  |_=>False) E
 |.KD a,Z,M,R,E=>wpE a Z M (λx M1=>match x with
  |.int j=>-(2 ^ 62)<=j/\j<2 ^ 62/\R (rng 0 j.toNat) (λ_=>True) M1
  |_=>False) E
end
def jJ(g:D->St3->MH->(St3->MH->Prop)->Prop)(tb:Ends3->St3->MH->Prop)(S:MH->Prop)(D:Ends3):List L2.D->St3->MH->Prop
 |[],Z,M=>S M/\D.nx Z M
 |d::r,Z,M=>S M/\g d Z M λKo M2=>tb {D with nx:=jJ g tb S D r,ct:=jJ g tb S D r,bk:=D.nx} Ko M2
noncomputable def oh(D:Ends3)(i:Nat):Ends3:=⟨λZ M=>D.nx (Z.set i none) M,D.rt,λZ M=>D.bk (Z.set i none) M,λZ M=>D.ct (Z.set i none) M⟩
mutual
def wpS:IS->Ends3->(St3->XN)->St3->MH->Prop
 |.set i e,D,E,Z,M=>wpE W e Z M (λx M1=>D.nx (Z.set i (some x)) M1) (E Z)
 |.expr e,D,E,Z,M=>wpE W e Z M (λ_ M1=>D.nx Z M1) (E Z)
 |.ret e,D,E,Z,M=>wpE W e Z M D.rt (E Z)
 |.ifs c a b,D,E,Z,M=>wpT W c Z M (λk M1=>if k=true then aP a D E Z M1 else aP b D E Z M1) (E Z)
 |.Kh tg it body,D,E,Z,M=>wpI W it Z M (λds S M1=>jJ (wpG tg) (λD Z M=>aP body D E Z M) S D ds Z M1) (E Z)
 |.raise c es,_,E,Z,M=>wpA W es Z M (λxs M1=>xs.length<=sizeLine/\E Z ⟨c,none⟩ M1) (E Z)
 |.KG c es,_,E,Z,M=>wpA W es Z M (λxs M1=>match xs with
  |[y]=>dM (W.xin c) λf=>rXp f y M1 λy'=>E Z ⟨c,some (f,y')⟩ M1
  |_=>False) (E Z)
 |.Lo body hs,D,E,Z,M=>aP body D (λn_ i M'=>wpH hs i D n_ M') Z M
 |.app o e,D,E,Z,M=>wpE W o Z M (λx M1=>match x with
  |.ref a=>match M1 a with
   |some (.lst _)=>wpE W e Z M1 (λy M2=>match M2 a with
    |some (.lst ds)=>ds.length<sizeLine/\D.nx Z (put M2 a (.lst (ds++[y])))
    |_=>False) (E Z)
   |_=>False
  |_=>False) (E Z)
 |.del i,D,_,Z,M=>match Z[i]? with
  |some (some x)=>be (λy M'=>D.nx (Z.set i (some y)) M') x M
  |_=>False
 |.Ke o f e,D,E,Z,M=>wpE W e Z M (λy M1=>wpE W o Z M1 (λx M2=>match x with
  |.ref a=>match M2 a with
   |some (.ins i C ns ds)=>(C=W.b_ i/\i<W.nk/\W.fok i f=true/\ns.length<1000)/\D.nx Z (put M2 a (.ins i C (b9 f ns) (cb f y ns ds)))
   |_=>False
  |_=>False) (E Z)) (E Z)
 |.v_ o i e,D,E,Z,M=>wpE W e Z M (λy M1=>wpE W o Z M1 (λx M2=>wpE W i Z M2 (λk M3=>aY x k y M3 λM4=>D.nx Z M4) (E Z)) (E Z)) (E Z)
 |.dead,_,_,_,_=>False
def aP:ISs->Ends3->(St3->XN)->St3->MH->Prop
 |.nil,D,_,Z,M=>D.nx Z M
 |.cons s r,D,E,Z,M=>wpS s {D with nx:=λn_ M'=>aP r D E n_ M'} E Z M
def wpH:IHs->XE->Ends3->St3->MH->Prop
 |.nil,_,_,_,_=>False
 |.cons c nm body r,i,D,Z,M=>i.c<W.ne/\if W.sub i.c c=true then (match nm with
  |none=>aP body D (λ_ _ _=>False) Z M
  |some j=>∀a,M a=none->aP body (oh D j) (λ_ _ _=>False) (Z.set j (some (.ref a))) (put M a (.exc i (.ref (W.cls i.c))))) else wpH r i D Z M
end
end
def LkE(K:Kc)(cls:Nat->Addr)(H:Hp)(E3:XN)(E:XK):Prop:=∀i M' H',TM K H H'->RelM K M' H'->E3 i M'->∀dx,XD K H' i dx->E (.ref (cls i.c)) dx H'
def LkS(K:Kc)(cls:Nat->Addr)(H:Hp)(E3:St3->XN)(E2:St->XK):Prop:=∀f_ Z i M' H',TM K H H'->DenS K H' f_ Z->RelM K M' H'->E3 f_ i M'->∀dx,XD K H' i dx->E2 Z (.ref (cls i.c)) dx H'
section
variable {K:Kc}
theorem LkE.mono(h:LkE K cls H E3 E)(t:TM K H H1):LkE K cls H1 E3 E:=λi M' H' t' r q=>h i M' H' (t.trans t') r q
theorem LkS.mono(h:LkS K cls H E3 E2)(t:TM K H H1):LkS K cls H1 E3 E2:=λf_ Z i M' H' t' d r q=>h f_ Z i M' H' (t.trans t') d r q
theorem LkS.at(h:LkS K cls H E3 E2)(ds:DenS K H f_ Z):LkE K cls H (E3 f_) (E2 Z):=λi M' H' t r q=>h f_ Z i M' H' t (ds.mono t) r q
theorem LkE.no:LkE K cls H (λ_ _=>False) E:=λ_ _ _ _ _ h=>h.elim
theorem Back.mono(h:Back K H Q Q2)(t:TM K H H1):Back K H1 Q Q2:=λv H' d M' a b c e=>h v H' d M' a b (t.trans c) e
end
section
variable (K:Kc) (cls:Nat->Addr) (E2:St->XK)
noncomputable def low(t:St3->MH->VK3->XN->Prop):TE:=λZ H Q2=>∃f_ M Q E3,RelM K M H/\DenS K H f_ Z/\LkE K cls H E3 (E2 Z)/\t f_ M Q E3/\Back K H Q Q2
noncomputable def de(t:St3->MH->(Bool->MH->Prop)->XN->Prop):TT:=λZ H Q2=>∃f_ M Q E3,RelM K M H/\DenS K H f_ Z/\LkE K cls H E3 (E2 Z)/\t f_ M Q E3/\∀b H' M',RelM K M' H'->TM K H H'->Q b M'->Q2 b H'
noncomputable def dY(t:St3->MH->(List D->MH->Prop)->XN->Prop):TA:=λZ H Q2=>∃f_ M Q E3,RelM K M H/\DenS K H f_ Z/\LkE K cls H E3 (E2 Z)/\t f_ M Q E3/\∀vs H' ds M',DenL K H' ds vs->RelM K M' H'->TM K H H'->Q ds M'->Q2 vs H'
noncomputable def ss(t:St3->MH->(Option Int->MH->Prop)->XN->Prop):TO:=λZ H Q2=>∃f_ M Q E3,RelM K M H/\DenS K H f_ Z/\LkE K cls H E3 (E2 Z)/\t f_ M Q E3/\∀o H' M',RelM K M' H'->TM K H H'->Q o M'->Q2 o H'
noncomputable def l7(t:St3->MH->(List D->(MH->Prop)->MH->Prop)->XN->Prop):TI:=λZ H R2=>∃f_ M R E3,RelM K M H/\DenS K H f_ Z/\LkE K cls H E3 (E2 Z)/\t f_ M R E3/\∀J H' ds S M',ItOk K H' J ds S->RelM K M' H'->TM K H H'->R ds S M'->R2 J H'
noncomputable def bM(t:Ends3->(St3->XN)->St3->MH->Prop):TS:=λD2 Z H=>∃f_ M D3 E3,RelM K M H/\DenS K H f_ Z/\LkS K cls H E3 E2/\t D3 E3 f_ M/\ER K H D3 D2
noncomputable def sv(t:D->St3->MH->(St3->MH->Prop)->Prop):TG:=λv Z H Q2=>∃d f_ M Q,Den K H d v/\RelM K M H/\DenS K H f_ Z/\t d f_ M Q/\BackS K H Q Q2
end
section
variable {X:Cx}{st:Stmt}
theorem PE.imp(h:PE X e t)(f:∀Z H Q,t' Z H Q->t Z H Q):PE X e t':=λa_ s Z H Q I q=>h a_ s Z H Q I (f Z H Q q)
theorem PT.imp(h:PT X e t)(f:∀Z H Q,t' Z H Q->t Z H Q):PT X e t':=λa_ s Z H Q I q=>h a_ s Z H Q I (f Z H Q q)
theorem PW.imp(h:PW X e t)(f:∀Z H Q,t' Z H Q->t Z H Q):PW X e t':=λwhole a_ s Z H Q I q=>h whole a_ s Z H Q I (f Z H Q q)
theorem PA.imp(h:PA X es t)(f:∀Z H Q,t' Z H Q->t Z H Q):PA X es t':=λpos a_ s Z H Q I q=>h pos a_ s Z H Q I (f Z H Q q)
theorem PO.imp(h:PO X o t)(f:∀Z H Q,t' Z H Q->t Z H Q):PO X o t':=λa_ s Z H Q I q=>h a_ s Z H Q I (f Z H Q q)
theorem PI.imp(h:PI X tg e t)(f:∀Z H Q,t' Z H Q->t Z H Q):PI X tg e t':=λa_ s Z H Q I q=>h a_ s Z H Q I (f Z H Q q)
theorem PS.imp(h:PS X st t)(f:∀D Z H,t' D Z H->t D Z H):PS X st t':=λa_ s Z H D I q=>h a_ s Z H D I (f D Z H q)
theorem PSs.imp(h:PSs X Lx t)(f:∀D Z H,t' D Z H->t D Z H):PSs X Lx t':=λa_ s Z H D I q=>h a_ s Z H D I (f D Z H q)
theorem PG.imp(h:PG X e t)(f:∀v Z H Q,t' v Z H Q->t v Z H Q):PG X e t':=λa_ s Z H v u Q I r q=>h a_ s Z H v u Q I r (f v Z H Q q)
end
section
variable {X:Cx}{s:Shared}
theorem HOk.freeze(x:HOk P w H h)(e:H a=some (.lst xs)):∃o,HOk P w (upd H a (.t_ o (.lst xs))) h:=by
 obtain⟨o,ho⟩:=(x a _ e).isAt;refine⟨o,λb u q=>?_⟩
 have own:∀c y,H c=some (.own y)->(upd H a (.t_ o (.lst xs))) c=some (.own y):=λc y z=>by
  rw[ae (dU z e (λw=>nomatch w))];exact z
 have tup:∀c ys,H c=some (.tup ys)->(upd H a (.t_ o (.lst xs))) c=some (.tup ys):=λc ys z=>by
  rw[ae (dU z e (λw=>nomatch w))];exact z
 by_cases hb:b=a
 ·subst hb;rw[ag]at q;cases q;exact⟨ho,(x b _ e).stay (λ_ _ _ q=>q) (λc z=>own c _ z) λc ys z=>tup c ys z⟩
 ·rw[ae hb]at q;exact (x b u q).stay (λ_ _ _ q=>q) (λc z=>own c _ z) λc ys z=>tup c ys z
theorem Inv.freeze(I:Inv X a_ Z H s)(e:H a=some (.lst xs)):∃o,Inv X a_ Z (upd H a (.t_ o (.lst xs))) s:=by
 obtain⟨o,ok⟩:=I.h_.freeze e;have ne:∀b,H b=none->b≠a:=λb z=>λq=>by rw[q,e]at z;cases z
 refine⟨o,⟨I.ok,I.os,I.bare,⟨I.base.keep,I.base.slot,λb ob q n hx=>?_,I.base.there,λb ys q=>?_,λb ob u q=>?_,λb ps q=>?_⟩,I.loc,I.cell,?_,λx c z=>?_,λp hp=>?_,ok,I.len⟩⟩
 ·have z:=I.base.free b ob q n hx;rw[ae (ne b z)];exact z
 ·have z:=I.base.tups b ys q;rw[ae (dU z e (λw=>nomatch w))];exact z
 ·have z:=I.base.D_ b ob u q;rw[ae (dU z e (λw=>nomatch w))];exact z
 ·obtain⟨Lc,z⟩:=I.base.I_ b ps q;exact⟨Lc,by rw[ae (dU z e (λw=>nomatch w))];exact z⟩
 ·rw[ae (ne _ I.free)];exact I.free
 ·rw[ae (ne _ (I.freeC x c z))];exact I.freeC x c z
 ·obtain⟨p1,p2,p3⟩:=I.pin p hp;exact⟨p1,by rw[ae (ne _ p2)];exact p2,p3⟩
end
section
variable {K:Kc}{xs:List V}
theorem TM.freeze(e:H a=some (.lst xs)):TM K H (upd H a (.t_ o (.lst xs))):=
 .put e (λ_=>λz=>nomatch z) λ_ _=>λz=>nomatch z
theorem RelM.freeze(r:RelM K M H)(e:H a=some (.lst xs)):RelM K (del M a) (upd H a (.t_ o (.lst xs))):=λb u q=>by
 obtain⟨ne,q⟩:=mV q;exact (r b u q).stay (.freeze e) (ae ne)
theorem gJ(h:DenL K H ds xs)(e:H a=some (.lst xs)):Den K (upd H a (.t_ o (.lst xs))) (.g_ ds) (.ref a):=⟨a,xs,rfl,.inl ⟨o,ag⟩,h.mono (.freeze e)⟩
end
theorem bR{X:Cx}
  (I:Inv X a_ Z (upd H p (.lst vs)) s) (hp:H p=none) (dl:DenL X.K H ds vs)(rm:RelM X.K M H)(tm:TM X.K H0 H)(h:cf fz ds M Q)(c_:Back X.K H0 Q Q2):EP X a_ Z Q2 (.ref p) s:=by
 obtain⟨_,h⟩:=h;cases fz with
 |true=>
  rw[Jc rfl]at h;obtain⟨o,I2⟩:=I.freeze ag;refine⟨.ref p,_,I2,rfl,c_ _ _ _ _ (gJ (o:=o) (dl.mono (.new hp)) ag) ?_ (tm.trans ((TM.new hp).trans (.freeze ag))) h⟩;have r2:RelM X.K (put M p (.lst ds)) (upd H p (.lst vs)):=rm.lay hp ⟨vs,ag,dl.mono (.new hp)⟩;have r3:=r2.freeze (o:=o) (xs:=vs) ag;rw[fU (rm.fresh hp)]at r3;exact r3
 |false=>
  rw[IY Jx]at h;exact⟨.ref p,_,I,rfl,c_ _ _ _ _ hV (rm.lay (u:=.lst ds) hp ⟨vs,ag,dl.mono (.new hp)⟩) (tm.trans (.new hp)) (h p (rm.fresh hp))⟩
def RdL(K:Kc)(H:Hp)(p:Addr)(vs:List V):Prop:=Rd H p (.lst vs)\/SqM K p vs
theorem RdL.sq{K:Kc}(h:RdL K H p vs):SqL K H p vs:=by
 rcases h with h|h
 ·exact .inl h
 ·exact h.sq
theorem SqF.rd{K:Kc}(h:SqF K H p vs):RdL K H p vs:=by
 rcases h with h|h
 ·exact .inl (.inr h)
 ·exact .inr h
theorem bg{K:Kc}(rm:RelM K M H)(h:ai M x=some ds)(dv:Den K H x v):∃p vs,v=.ref p/\RdL K H p vs/\DenL K H ds vs:=by
 cases x with
 |g_ es=>
  cases (show es=ds from Jn h);obtain⟨p,vs,e,s,l⟩:=dv;exact⟨p,vs,e,s.rd,l⟩
 |ref a=>
  have h:(match M a with|some (.lst ds)=>some ds|_=>none)=some ds:=h
  split at h
  next es q=>
   cases h;obtain⟨vs,e,l⟩:=rm a _ q;exact⟨a,vs,dv,.inl (.inl e),l⟩
  next=>cases h
 |_=>cases h
theorem iE{K:Kc}(rm:RelM K M H)(h:az M x=some ds)(dv:Den K H x v):∃p vs,v=.ref p/\(SqL K H p vs\/SqT K H p vs)/\DenL K H ds vs:=by
 cases x with
 |tup es=>
  cases (show es=ds from Jn h);obtain⟨p,vs,e,s,l⟩:=dv;exact⟨p,vs,e,.inr s,l⟩
 |g_ es=>obtain⟨p,vs,e,s,l⟩:=bg rm (show ai M (.g_ es)=some ds from h) dv;exact⟨p,vs,e,.inl s.sq,l⟩
 |ref a=>obtain⟨p,vs,e,s,l⟩:=bg rm (show ai M (.ref a)=some ds from h) dv;exact⟨p,vs,e,.inl s.sq,l⟩
 |_=>cases h
theorem Inv.rdL{X:Cx}{s:Shared}{xs:List V}(I:Inv X a_ Z H s)(h:RdL X.K H l xs):xs.length<=sizeLine/\∃(its:List Value) (n:Nat),Vals xs its/\xs.length=its.length/\s.heap.get? l=some {cls:=.type "list",data:=.seq its.toArray n}:=by
 rcases h with h|⟨its,n,e,z,r⟩
 ·obtain⟨z,its,n,r,e⟩:=h.ok I.h_;exact⟨z,its,n,r,r.length,e⟩
 ·exact⟨by rw[r.length];exact z,its,n,r,r.length,I.kIn _ _ e⟩
noncomputable def tP:HO->Bool
 |.lst _=>true
 |.dK _=>true
 |.dT _=>true
 |.ins _ _ _=>true
 |.ext _=>true
 |_=>false
theorem mG(h:tP u=true):(∀y,HO.own y≠u)/\(∀xs,HO.tup xs≠u)/\(∀o v,HO.t_ o v≠u)/\∀ps,HO.L_ ps≠u:=by
 cases u<;>first
  |(cases h;done)
  |exact⟨λ_ z=>(by cases z),λ_ z=>(by cases z),λ_ _ z=>(by cases z),λ_ z=>(by cases z)⟩
section
variable {X:Cx}
theorem HOk.frzU(x:HOk P w H h)(e:H a=some u)(hu:tP u=true):∃o,HOk P w (upd H a (.t_ o u)) h:=by
 obtain⟨n1,n2,_,_⟩:=mG hu;obtain⟨o,ho⟩:=(x a _ e).isAt;refine⟨o,λb v q=>?_⟩
 have own:∀c y,H c=some (.own y)->(upd H a (.t_ o u)) c=some (.own y):=λc y z=>by
  rw[ae (dU z e (n1 y))];exact z
 have tup:∀c ys,H c=some (.tup ys)->(upd H a (.t_ o u)) c=some (.tup ys):=λc ys z=>by
  rw[ae (dU z e (n2 ys))];exact z
 by_cases hb:b=a
 ·subst hb;rw[ag]at q;cases q;exact⟨ho,(x b _ e).stay (λ_ _ _ q=>q) (λc z=>own c _ z) λc ys z=>tup c ys z⟩
 ·rw[ae hb]at q;exact (x b v q).stay (λ_ _ _ q=>q) (λc z=>own c _ z) λc ys z=>tup c ys z
theorem Inv.frzU(I:Inv X a_ Z H s)(e:H a=some u)(hu:tP u=true):∃o,Inv X a_ Z (upd H a (.t_ o u)) s:=by
 obtain⟨n1,n2,n3,n4⟩:=mG hu;obtain⟨o,ok⟩:=I.h_.frzU e hu;have ne:∀b,H b=none->b≠a:=λb z=>λq=>by rw[q,e]at z;cases z
 refine⟨o,⟨I.ok,I.os,I.bare,⟨I.base.keep,I.base.slot,λb ob q n hx=>?_,I.base.there,λb ys q=>?_,λb ob u q=>?_,λb ps q=>?_⟩,I.loc,I.cell,?_,λx c z=>?_,λp hp=>?_,ok,I.len⟩⟩
 ·have z:=I.base.free b ob q n hx;rw[ae (ne b z)];exact z
 ·have z:=I.base.tups b ys q;rw[ae (dU z e (n2 _))];exact z
 ·have z:=I.base.D_ b ob u q;rw[ae (dU z e (n3 _ _))];exact z
 ·obtain⟨Lc,z⟩:=I.base.I_ b ps q;exact⟨Lc,by rw[ae (dU z e (n4 _))];exact z⟩
 ·rw[ae (ne _ I.free)];exact I.free
 ·rw[ae (ne _ (I.freeC x c z))];exact I.freeC x c z
 ·obtain⟨p1,p2,p3⟩:=I.pin p hp;exact⟨p1,by rw[ae (ne _ p2)];exact p2,p3⟩
end
section
variable {K:Kc}
theorem TM.frzU(e:H a=some u)(hu:tP u=true):TM K H (upd H a (.t_ o u)):=by
 obtain⟨_,n2,n3,_⟩:=mG hu;exact .put e (λxs z=>n2 xs z.symm) λob v z=>n3 ob v z.symm
theorem RelM.frzU(r:RelM K M H)(e:H a=some u)(hu:tP u=true):RelM K (del M a) (upd H a (.t_ o u)):=λb v q=>by
 obtain⟨ne,q⟩:=mV q;exact (r b v q).stay (.frzU e hu) (ae ne)
end
noncomputable def fzD:DO->D
 |.lst ds=>.g_ ds
 |.dk ks ds=>.Ln ks ds
 |.dt ks ds=>.K_ ks ds
 |.ins i C ns ds=>.obj i C ns ds
 |.exc _ _=>.i_
 |.MZ _=>.i_
theorem fO{X:Cx}(I:Inv X a_ Z H s)(rm:RelM X.K M H)(e:M a=some o)(ho:(∀i c,o≠.exc i c)/\∀φ,o≠.MZ φ) :
  ∃H',Inv X a_ Z H' s/\TM X.K H H'/\RelM X.K (del M a) H'/\Den X.K H' (fzD o) (.ref a):=by
 cases o with
 |lst ds=>
  obtain⟨vs,e1,dl⟩:=rm a _ e;obtain⟨ob,I2⟩:=I.frzU e1 rfl;exact⟨_,I2,.frzU e1 rfl,rm.frzU e1 rfl,a,vs,rfl,.inl ⟨ob,ag⟩,dl.mono (.frzU e1 rfl)⟩
 |dk ks ds=>
  obtain⟨vs,e1,hl,dl⟩:=rm a _ e;obtain⟨ob,I2⟩:=I.frzU e1 rfl;exact⟨_,I2,.frzU e1 rfl,rm.frzU e1 rfl,a,vs,ob,rfl,ag,hl,dl.mono (.frzU e1 rfl)⟩
 |dt ks ds=>
  obtain⟨vs,xs,e1,z,dl⟩:=rm a _ e;obtain⟨ob,I2⟩:=I.frzU e1 rfl;have t:TM X.K H (upd H a (.t_ ob (.ext (dW a xs)))):=.frzU e1 rfl;exact⟨_,I2,t,rm.frzU e1 rfl,a,vs,ob,xs,rfl,ag,⟨z.kx,z.nd,z.sz,z.no,z.vx,λx hx=>t.t _ _ (z.at_ x hx)⟩,dl.mono t⟩
 |ins i C ns ds=>
  obtain⟨dx,vs,e1,hl,dl⟩:=rm a _ e;obtain⟨ob,I2⟩:=I.frzU e1 rfl;exact⟨_,I2,.frzU e1 rfl,rm.frzU e1 rfl,a,vs,ob,dx,rfl,ag,hl,dl.mono (.frzU e1 rfl)⟩
 |exc i c=>exact absurd rfl (ho.1 i c)
 |MZ φ=>exact absurd rfl (ho.2 φ)
theorem gM{X:Cx}:∀{ds:List D}{vs:List V}{H:Hp}{M:MH}{R:List D->MH->Prop},Inv X a_ Z H s->RelM X.K M H->DenL X.K H ds vs->eW ds M R->
  ∃H' M' r,Inv X a_ Z H' s/\TM X.K H H'/\RelM X.K M' H'/\DenL X.K H' r vs/\R r M'
 |[],vs,H,M,R,I,rm,dl,h=>⟨H,M,[],I,.refl _,rm,dl,h⟩
 |d::ds,_,H,M,R,I,rm,dl,h=>by
  obtain⟨v,r,rfl,dv,dl⟩:=dl;have keep:∀(d:D),Den X.K H d v->eW ds M (λr M'=>R (d::r) M')->∃H' M' r',Inv X a_ Z H' s/\TM X.K H H'/\RelM X.K M' H'/\DenL X.K H' r' (v::r)/\R r' M':=λd dv h=>by
   obtain⟨H',M',r',I',t,s_,N4,q⟩:=gM I rm dl h;exact⟨H',M',d::r',I',t,s_,.cons (dv.mono t) N4,q⟩
  have fz:∀(a:Addr)(o:DO),v=.ref a->M a=some o->((∀i c,o≠.exc i c)/\∀φ,o≠.MZ φ)->eW ds (del M a) (λr M'=>R (fzD o::r) M')->∃H' M' r',Inv X a_ Z H' s/\TM X.K H H'/\RelM X.K M' H'/\DenL X.K H' r' (v::r)/\R r' M':=λa o e eM ne h=>by
   subst e;obtain⟨H1,I1,t1,k_,d1⟩:=fO I rm eM ne;obtain⟨H',M',r',I',t,s_,N4,q⟩:=gM I1 k_ (dl.mono t1) h;exact⟨H',M',_::r',I',t1.trans t,s_,.cons (d1.mono t) N4,q⟩
  cases d with
  |ref a=>
   simp only[eW]at h;have e:v=.ref a:=dv;split at h
   ·rename_i es q;exact fz a (.lst es) e q ⟨(λ_ _ z=>nomatch z),(λ_ z=>nomatch z)⟩ h
   ·rename_i ks es q;exact fz a (.dk ks es) e q ⟨(λ_ _ z=>nomatch z),(λ_ z=>nomatch z)⟩ h
   ·rename_i ks es q;exact fz a (.dt ks es) e q ⟨(λ_ _ z=>nomatch z),(λ_ z=>nomatch z)⟩ h
   ·exact keep _ dv h
  |_=>exact keep _ dv (by simpa only[eW] using h)
theorem ju{X:Cx}(I:Inv X a_ Z H s)(rm:RelM X.K M H)(dx:Den X.K H x v)(h:be Q x M) :
  ∃H' M' d,Inv X a_ Z H' s/\TM X.K H H'/\RelM X.K M' H'/\Den X.K H' d v/\Q d M':=by
 unfold be at h;split at h
 ·rename_i a;cases (show v=.ref a from dx);split at h
  ·rename_i es q;obtain⟨H1,I1,t1,k_,d1⟩:=fO (o:=.lst es) I rm q ⟨(λ_ _ z=>nomatch z),(λ_ z=>nomatch z)⟩
   exact⟨H1,_,_,I1,t1,k_,d1,h⟩
  ·rename_i ks es q;obtain⟨H1,I1,t1,k_,d1⟩:=fO (o:=.dk ks es) I rm q ⟨(λ_ _ z=>nomatch z),(λ_ z=>nomatch z)⟩
   exact⟨H1,_,_,I1,t1,k_,d1,h⟩
  ·rename_i ks es q;obtain⟨H1,I1,t1,k_,d1⟩:=fO (o:=.dt ks es) I rm q ⟨(λ_ _ z=>nomatch z),(λ_ z=>nomatch z)⟩
   exact⟨H1,_,_,I1,t1,k_,d1,h⟩
  ·rename_i i C ns es q;obtain⟨H1,I1,t1,k_,d1⟩:=fO (o:=.ins i C ns es) I rm q ⟨(λ_ _ z=>nomatch z),(λ_ z=>nomatch z)⟩
   obtain⟨a',vs,ob,KO,e',he,hl,dl⟩:=d1;cases e';obtain⟨H2,M2,r,I2,t2,C_,Kz,q2⟩:=gM I1 k_ dl h;refine⟨H2,M2,.obj i C ns r,I2,t1.trans t2,C_,?_,q2⟩;exact⟨a,vs,ob,KO,rfl,t2.g _ _ _ he,hl,Kz⟩
  ·exact h.elim
 ·exact h.elim
end L2
namespace L2
open PySem PySem.Spec PySem.Calls PyProof.Rows
noncomputable def wF(E:XK)(cp:Bool)(K:Kc)(C:Addr)(f:Str)(t:TA):TS:=λ_ Z H=>t Z H λvs H1=>∃v,vs=[v]/\(cp=false->∀dx ob,H1 dx=none->E (.ref C) (some dx) (upd H1 dx (.t_ ob (.xd [(f,v)]))))/\
 (cp=true->∃p ws,v=.ref p/\SqL K H1 p ws/\∀q o dx ob,H1 q=none->H1 dx=none->dx≠q->E (.ref C) (some dx) (upd (upd H1 q (.t_ o (.lst ws))) dx (.t_ ob (.xd [(f,.ref q)]))))
theorem SqL.new{K:Kc}(h:SqL K H p ws)(hn:H a=none):SqL K (upd H a o) p ws:=by
 rcases h with (h|⟨ob,h⟩)|h
 ·exact .inl (.inl (by rw[ae (aA h hn)];exact h))
 ·exact .inl (.inr ⟨ob,by rw[ae (aA h hn)];exact h⟩)
 ·exact .inr h
section
variable {X:Cx}{D:Addr}
theorem tE(hx:jr X E)(hc:X.calm=true)(hg:Gl X x)(hm:X.mg x=some (.ref C))(q:XIni X.K C fI f)(F:FnOk X.prog X.w X.K X.mg X.base (CX1 X.prog X.w) k fI fd ps (i7 cp X.K C f))(hr:Room (k+1) X.A)(hb:Binds X.K fd ps [])(ha:PA X (e::es) t)
  (A_:(x == ("__debug__" : Str))=false) (he:starEach (e::es) X.env=(false,eval e X.env)::starEach es X.env) (E_:(backTo m_ (starEach es X.env)).any (·.1)=false) :
  PS X (.Raise (some (.Call (.Name x np) (e::es) [] m_)) none pos) (wF E cp X.K C f t):=by
 intro a_ s Z H D I h;refine sZ (K:=X.K) (I.ok.hd hc) q.cl (wpAny_Call_Name_kw (bF I hg hm (PySem.W.callWith_K (h₀:=X.base) I.ok.mod.kin q.kp (thn (ha m_ a_ s Z H _ I h) λus s1 ⟨vs,H1,I1,r,v,ev,q0,q1⟩=>⟨I1.kIn,?_⟩) he E_) A_))
 subst ev;cases r with
 |@cons _ u _ us rv r=>
 cases r with
 |nil=>
 obtain⟨h1,g1,d1,t1,T7⟩:=s1;refine u0 I1.kIn q.cl q.ini q.fn (by rw[sizeLine_eq];simp) λh' a hsz hm=>?_
 obtain⟨t0,go,_,_⟩:=hm.there;have I2:=I1.laid (a:=a) (o:=hU a C) (h':=h') (t':=t1) hm.keeps hsz (ra go);have hn:H1 a=none:=I1.h_.fresh hsz;have r2:Vals [V.ref a,v] [Value.ref a,u]:=.cons rfl (.cons rv .nil);have LC:i7 cp X.K C f [V.ref a,v] (upd H1 a (hU a C)) (λr H'=>r=.i_/\((cp=false/\∃dx ob,H1 dx=none/\dx≠a/\H'=upd (upd (upd H1 a (hU a C)) a (gU a C dx)) dx (.t_ ob (.xd [(f,v)])))\/
   (cp=true/\∃ws q dx ob,H1 q=none/\q≠a/\H1 dx=none/\dx≠a/\dx≠q/\(∀o,E (.ref C) (some dx) (upd (upd H1 q (.t_ o (.lst ws))) dx (.t_ ob (.xd [(f,.ref q)]))))/\H'=upd (upd (upd (upd H1 a (hU a C)) q (.lst ws)) a (gU a C dx)) dx (.t_ ob (.xd [(f,.ref q)]))))) (λ_ _ _=>False):=by
  refine⟨a,v,rfl,ag,λz dx ob n ne=>⟨rfl,.inl ⟨z,dx,ob,by rw[ae ne]at n;exact n,ne,rfl⟩⟩,λz=>?_⟩
  obtain⟨p,ws,ep,sq,qE⟩:=q1 z;refine⟨p,ws,ep,sq.new hn,λq dx ob nq nd ne nn=>⟨rfl,.inr ⟨z,ws,q,dx,ob,?_⟩⟩⟩
  have Rc:q≠a:=λw=>by rw[w,ag]at nq;cases nq
  rw[ae Rc]at nq;rw[ae ne]at nd;exact⟨nq,Rc,nd,ne,nn,λo=>qE q o dx ob nq nd nn,rfl⟩
 have hl:([Value.ref a,u]++([]:List Value)).length=ps.length:=by
  rw[<-F.len _ _ _ _ LC];rfl
 have Lh:=hb _ [Value.ref a,u] I2.kIn hl;rw[JV]at Lh;refine wpAny_call (codeAny_mono (F.run _ X.stack _ _ ⟨[Value.ref a,u],[]⟩ [Value.ref a,u] _ _ _ (hr.make C [u] []) (I2.env0.make C [u] []) Lh r2 LC) λr s' hq=>?_)
 match r,hq with
 |.error e,hq=>
  obtain⟨_,_,_,_,_,_,_,_,_,_,_,_,_,z⟩:=hq;exact z.elim
 |.ok (.ret u'),hq=>
  obtain⟨v',H',I3,Rf,e1,hh⟩:=I2.after hq;subst e1;rcases hh with ⟨zc,dx,ob,n,ne,eH⟩|⟨zc,ws,q',dx,ob,nq,qa,n,ne,nn,qE,eH⟩
  ·subst eH;have ea:upd (upd (upd H1 a (hU a C)) a (gU a C dx)) dx (.t_ ob (.xd [(f,v)])) a=some (gU a C dx):=by rw[ae (Ja ne),ag]
   obtain⟨⟨t1,N5⟩,_,_⟩:=I3.h_ a _ ea;have I4:=I3.forget ea;have eF:forget (upd (upd (upd H1 a (hU a C)) a (gU a C dx)) dx (.t_ ob (.xd [(f,v)]))) a=upd H1 dx (.t_ ob (.xd [(f,v)])):=by
    funext b;by_cases w:b=a
    ·rw[w,dB,ae (Ja ne),hn]
    ·rw[dP w];by_cases w2:b=dx
     ·rw[w2,ag,ag]
     ·rw[ae w2,ae w2,ae w,ae w]
   rw[eF]at I4;exact⟨Rf,a,t1,dx,rfl,I3.kIn,N5,hx a_ Z _ s' a _ _ _ I4 (by rw[ae (Ja ne)];exact hn) (Heap.get?_none_of_le (Jw I1.sz hsz)) N5 rfl rfl rfl (q0 zc dx ob n)⟩
  ·subst eH;have ea:upd (upd (upd (upd H1 a (hU a C)) q' (.lst ws)) a (gU a C dx)) dx (.t_ ob (.xd [(f,.ref q')])) a=some (gU a C dx):=by rw[ae (Ja ne),ag]
   obtain⟨⟨t1,N5⟩,_,_⟩:=I3.h_ a _ ea;have I4:=I3.forget ea;have eF:forget (upd (upd (upd (upd H1 a (hU a C)) q' (.lst ws)) a (gU a C dx)) dx (.t_ ob (.xd [(f,.ref q')]))) a=upd (upd H1 q' (.lst ws)) dx (.t_ ob (.xd [(f,.ref q')])):=by
    funext b;by_cases w:b=a
    ·rw[w,dB,ae (Ja ne),ae (Ja qa),hn]
    ·rw[dP w];by_cases w2:b=dx
     ·rw[w2,ag,ag]
     ·rw[ae w2,ae w2,ae w];by_cases w3:b=q'
      ·rw[w3,ag,ag]
      ·rw[ae w3,ae w3,ae w]
   rw[eF]at I4;obtain⟨o,I5⟩:=I4.freeze (a:=q') (xs:=ws) (by rw[ae (Ja nn),ag])
   have eG:upd (upd (upd H1 q' (.lst ws)) dx (.t_ ob (.xd [(f,.ref q')]))) q' (.t_ o (.lst ws))=upd (upd H1 q' (.t_ o (.lst ws))) dx (.t_ ob (.xd [(f,.ref q')])):=by
    funext b;by_cases w:b=q'
    ·rw[w,ag,ae (Ja nn),ag]
    ·rw[ae w];by_cases w2:b=dx
     ·rw[w2,ag,ag]
     ·rw[ae w2,ae w2,ae w,ae w]
   rw[eG]at I5;exact⟨Rf,a,t1,dx,rfl,I3.kIn,N5,hx a_ Z _ s' a _ _ _ I5 (by rw[ae (Ja ne),ae (Ja qa)];exact hn) (Heap.get?_none_of_le (Jw I1.sz hsz)) N5 rfl rfl rfl (qE o)⟩
 |.ok .next,hq=>exact hq.elim
 |.ok .brk,hq=>exact hq.elim
 |.ok .cont,hq=>exact hq.elim
end
end L2
namespace L2
open PySem PySem.Spec PyProof.Rows
section
variable {X:Cx}
theorem kg:∀{xs ys:List D},bN xs ys=true->xs.length=ys.length
 |[],[],_=>rfl
 |[],_::_,h=>by simp[bN]at h
 |_::_,[],h=>by simp[bN]at h
 |x::xs,y::ys,h=>by
  simp only[bN,IV]at h;rw[Jr,Jr,kg h.2]
theorem gD:∀{xs ys:List D},xs.length=ys.length->bN xs ys=(List.range xs.length).all λj=>eqD (xs.getD j .i_) (ys.getD j .i_)
 |[],[],_=>by simp[bN]
 |[],_::_,h=>by simp at h
 |_::_,[],h=>by simp at h
 |x::xs,y::ys,h=>by
  have ih:=gD (xs:=xs) (ys:=ys) (by simpa using h)
  simp only[bN,Jr,List.range_succ_eq_map,List.all_cons,List.all_map,ih];rfl
theorem uo{xs ys:List D}:bN xs ys=((List.range (min xs.length ys.length)).all (λj=>eqD (xs.getD j .i_) (ys.getD j .i_))&&(xs.length == ys.length)):=by
 by_cases h:xs.length=ys.length
 ·rw[gD h,h,Nat.min_self,beq_self_eq_true,Bool.and_true]
 ·have e1:(xs.length == ys.length)=false:=JA.mpr h;rw[e1,Bool.and_false];cases q:bN xs ys with
  |false=>rfl
  |true=>exact absurd (kg q) h
theorem qY{K:Kc}(I:Inv X a_ Z H s)(hK:K=X.K):∀(n:Nat) {x y:D}{v:V},plN n x=true->plN n y=true->Den K H x v->Den K H y v->x=y:=by
 subst hK;have lists:∀(n:Nat),(∀{x y:D}{v:V},plN n x=true->plN n y=true->Den X.K H x v->Den X.K H y v->x=y)->∀{xs ys:List D}{vs:List V},xs.all (plN n)=true->ys.all (plN n)=true->DenL X.K H xs vs->DenL X.K H ys vs->xs=ys:=by
  intro n ih xs
  induction xs with
  |nil=>
   intro ys vs _ _ h1 h2;cases (show vs=[] from h1);cases ys with
   |nil=>rfl
   |cons y ys=>obtain⟨_,_,e,_⟩:=h2;cases e
  |cons x xs PN=>
   intro ys vs p1 p2 h1 h2;obtain⟨v,r,rfl,d1,l1⟩:=h1;cases ys with
   |nil=>cases (show v::r=[] from h2)
   |cons y ys=>
    obtain⟨v',r',e,d2,l2⟩:=h2;cases e;simp only[List.all_cons,IV]at p1 p2;rw[ih p1.1 p2.1 d1 d2,PN p1.2 p2.2 l1 l2]
 have MB:∀{p:Addr}{vs ws:List V},SqT X.K H p vs->SqF X.K H p ws->False:=λ{p vs ws} h1 h2=>by
  obtain⟨its,_,t1,_⟩:=I.tuple h1;obtain⟨z,q_,n2,_,_,e2⟩:=I.rdL h2.rd;obtain⟨o,e1,c1,_⟩:=(show s.heap.IsTuple p its.toArray from t1);rw[e2]at e1;cases e1;injection c1 with z;exact absurd z (by decide)
 have tt:∀{p:Addr}{vs ws:List V},SqT X.K H p vs->SqT X.K H p ws->vs=ws:=λ{p vs ws} q1 q2=>by
  obtain⟨its,r1,t1,_⟩:=I.tuple q1;obtain⟨q_,r2,t2,_⟩:=I.tuple q2;obtain⟨o1,e1,c1,n1,f1⟩:=(show s.heap.IsTuple p its.toArray from t1);obtain⟨o2,e2,c2,n2,f2⟩:=(show s.heap.IsTuple p q_.toArray from t2);rw[e1]at e2;cases e2;rw[f1]at f2;have:its=q_:=by injection f2 with z;simpa using z
  subst this;exact r1.inj r2
 have ff:∀{p:Addr}{vs ws:List V},SqF X.K H p vs->SqF X.K H p ws->vs=ws:=λ{p vs ws} q1 q2=>by
  obtain⟨_,its,n1,r1,_,e1⟩:=I.rdL q1.rd;obtain⟨_,q_,n2,r2,_,e2⟩:=I.rdL q2.rd;rw[e1]at e2;have:its=q_:=by
   have z:=Jn e2;injection z with z1 z2 z3 z4
   injection z3 with z5 z6
   simpa using z5
  subst this;exact r1.inj r2
 intro n
 induction n with
 |zero=>
  intro x y v p1 p2 d1 d2;cases x<;>cases y<;>first|(cases p1;done)|(cases p2;done)|(cases (show v=_ from d1);cases (show _=_ from d2)<;>rfl)
 |succ n ih=>
  intro x y v p1 p2 d1 d2;cases x<;>cases y<;>first|(cases p1;done)|(cases p2;done)|(cases (show v=_ from d1);cases (show _=_ from d2)<;>rfl)|(cases (show v=_ from d1);obtain⟨_,_,e,_⟩:=d2;cases e;done)|(obtain⟨_,_,rfl,_⟩:=d1;cases (show _=_ from d2);done)|(obtain⟨p,vs,rfl,q1,l1⟩:=d1;obtain⟨p',La,e,q2,l2⟩:=d2;cases e;first|exact (MB q1 q2).elim|exact (MB q2 q1).elim|(first|cases tt q1 q2|cases ff q1 q2);rw[lists n ih (by simpa [plN] using p1) (by simpa [plN] using p2) l1 l2])
theorem uc:∀(n:Nat) {x:D},plN n x=true->eqD x x=true:=by
 have lists:∀(n:Nat),(∀{x:D},plN n x=true->eqD x x=true)->∀{xs:List D},xs.all (plN n)=true->bN xs xs=true:=by
  intro n ih xs
  induction xs with
  |nil=>intro _;rfl
  |cons x xs PN=>
   intro h;simp only[List.all_cons,IV]at h;simp only[bN,IV];exact⟨ih h.1,PN h.2⟩
 intro n
 induction n with
 |zero=>exact λ{x} h=>by cases x<;>first|(cases h;done)|simp[eqD]
 |succ n ih=>exact λ{x} h=>by cases x<;>first|(cases h;done)|(simp only[eqD];exact lists n ih (by simpa [plN] using h))|simp[eqD]
theorem nO{K:Kc}(I:Inv X a_ Z H s)(hK:K=X.K)(n:Nat)(p1:plN n x=true)(p2:plN n y=true)(d1:Den K H x v)(d2:Den K H y v):eqD x y=true:=by
 rw[qY I hK n p1 p2 d1 d2];exact uc n p2
theorem Bg(a b:Bool):eqD (.bl a) (.bl b)=(a == b):=by simp[eqD]
theorem zA(a:Bool)(b:Int):eqD (.bl a) (.int b)=((if a then 1 else 0) == b):=by simp[eqD];rfl
theorem A0(a:Int)(b:Bool):eqD (.int a) (.bl b)=(a == (if b then 1 else 0)):=by simp[eqD];rfl
theorem Af(a b:Int):eqD (.int a) (.int b)=(a == b):=by simp[eqD];rfl
theorem AQ(a b:Str):eqD (.str a) (.str b)=(a == b):=by simp[eqD];rfl
abbrev Eq3(A:Around)(s:Shared)(v u:Value)(k:Bool):Prop:=SeqAt.RcAt A s v u k/\SeqAt.RcNeAt A s v u (!k)/\SeqAt.EqAt A s v u k
inductive Seen (s:Shared):D->Value->Prop where
 |i_:Seen s .i_ .none
 |bl (b:Bool):Seen s (.bl b) (.bool b)
 |int (i:Int) (t:Tok):Seen s (.int i) (.int i t)
 |str (x:Str) (t:Tok):Seen s (.str x) (.str x t)
 |tup {ds:List D}{p:Addr}{its:List Value} (h:s.heap.IsTuple p its.toArray):Seen s (.tup ds) (.ref p)
 |g_ {ds:List D}{p:Addr}{its:List Value} (h:s.heap.IsList p its.toArray):Seen s (.g_ ds) (.ref p)
theorem jo{X:Cx}(I:Inv X a_ Z H s)(p:plN n x=true)(d:Den X.K H x v)(r:RelV v v2):Seen s x v2:=by
 cases x with
 |i_=>cases (show v=.i_ from d);cases r;exact .i_
 |bl b=>cases (show v=.bl b from d);cases r;exact .bl b
 |int i=>cases (show v=.int i from d);obtain⟨t,rfl⟩:=r;exact .int i t
 |str i=>cases (show v=.str i from d);obtain⟨t,rfl⟩:=r;exact .str i t
 |tup ds=>
  obtain⟨q,vs,rfl,sq,_⟩:=d;cases r;obtain⟨its,_,t,_⟩:=I.tuple sq;exact .tup (its:=its) t
 |g_ ds=>
  obtain⟨q,vs,rfl,sq,_⟩:=d;cases r;obtain⟨its,_,t,_⟩:=I.list sq.sq;exact .g_ (its:=its) t.isList
 |ref a=>simp[plN]at p
 |obj _ _ _ _=>simp[plN]at p
 |Ln _ _=>simp[plN]at p
 |K_ _ _=>simp[plN]at p
theorem tQ{A:Around}(hx:Seen s x v)(hy:Seen s y u)(hu:A.units<cLine)(seq:∀ds es,(x=.tup ds/\y=.tup es)\/(x=.g_ ds/\y=.g_ es)->Eq3 A s v u (eqD x y)):Eq3 A s v u (eqD x y):=by
 cases hx with
 |i_=>
  cases hy with
  |i_=>exact⟨.none_none,.none_none,.same _⟩
  |bl b=>exact⟨.none_bool b,.none_bool b,.none_bool b⟩
  |int b tb=>exact⟨.none_int b tb,.none_int b tb,.none_int b tb⟩
  |str b tb=>exact⟨.none_str b tb,.none_str b tb,.none_str b tb⟩
  |@tup es p2 q_ h2=>exact⟨.none_tuple h2 hu,.none_tuple h2 hu,.none_tuple h2 hu⟩
  |@g_ es p2 q_ h2=>exact⟨.none_list h2 hu,.none_list h2 hu,.none_list h2 hu⟩
 |bl a=>
  cases hy with
  |i_=>exact⟨.bool_none a,.bool_none a,.bool_none a⟩
  |bl b=>rw[Bg];exact⟨.bool_bool a b,.bool_bool a b,.bool_bool a b⟩
  |int b tb=>rw[zA];exact⟨.bool_int a b tb,.bool_int a b tb,.bool_int a b tb⟩
  |str b tb=>exact⟨.bool_str a b tb,.bool_str a b tb,.bool_str a b tb⟩
  |@tup es p2 q_ h2=>exact⟨.bool_tuple a h2 hu,.bool_tuple a h2 hu,.bool_tuple a h2 hu⟩
  |@g_ es p2 q_ h2=>exact⟨.bool_list a h2 hu,.bool_list a h2 hu,.bool_list a h2 hu⟩
 |int a ta=>
  cases hy with
  |i_=>exact⟨.int_none a ta,.int_none a ta,.int_none a ta⟩
  |bl b=>rw[A0];exact⟨.int_bool a ta b,.int_bool a ta b,.int_bool a ta b⟩
  |int b tb=>rw[Af];exact⟨.int_int a ta b tb,.int_int a ta b tb,.int_int a ta b tb⟩
  |str b tb=>exact⟨.int_str a ta b tb,.int_str a ta b tb,.int_str a ta b tb⟩
  |@tup es p2 q_ h2=>exact⟨.int_tuple a ta h2 hu,.int_tuple a ta h2 hu,.int_tuple a ta h2 hu⟩
  |@g_ es p2 q_ h2=>exact⟨.int_list a ta h2 hu,.int_list a ta h2 hu,.int_list a ta h2 hu⟩
 |str a ta=>
  cases hy with
  |i_=>exact⟨.str_none a ta,.str_none a ta,.str_none a ta⟩
  |bl b=>exact⟨.str_bool a ta b,.str_bool a ta b,.str_bool a ta b⟩
  |int b tb=>exact⟨.str_int a ta b tb,.str_int a ta b tb,.str_int a ta b tb⟩
  |str b tb=>rw[AQ];exact⟨.str_str a ta b tb,.str_str a ta b tb,.str_str a ta b tb⟩
  |@tup es p2 q_ h2=>exact⟨.str_tuple a ta h2 hu,.str_tuple a ta h2 hu,.str_tuple a ta h2 hu⟩
  |@g_ es p2 q_ h2=>exact⟨.str_list a ta h2 hu,.str_list a ta h2 hu,.str_list a ta h2 hu⟩
 |@tup ds p its h=>
  cases hy with
  |i_=>exact⟨.tuple_none h hu,.tuple_none h hu,.tuple_none h hu⟩
  |bl b=>exact⟨.tuple_bool b h hu,.tuple_bool b h hu,.tuple_bool b h hu⟩
  |int b tb=>exact⟨.tuple_int b tb h hu,.tuple_int b tb h hu,.tuple_int b tb h hu⟩
  |str b tb=>exact⟨.tuple_str b tb h hu,.tuple_str b tb h hu,.tuple_str b tb h hu⟩
  |@tup es p2 q_ h2=>exact seq ds es (.inl ⟨rfl,rfl⟩)
  |@g_ es p2 q_ h2=>exact⟨.tuple_list h h2 hu,.tuple_list h h2 hu,.tuple_list h h2 hu⟩
 |@g_ ds p its h=>
  cases hy with
  |i_=>exact⟨.list_none h hu,.list_none h hu,.list_none h hu⟩
  |bl b=>exact⟨.list_bool b h hu,.list_bool b h hu,.list_bool b h hu⟩
  |int b tb=>exact⟨.list_int b tb h hu,.list_int b tb h hu,.list_int b tb h hu⟩
  |str b tb=>exact⟨.list_str b tb h hu,.list_str b tb h hu,.list_str b tb h hu⟩
  |@tup es p2 q_ h2=>exact⟨.list_tuple h h2 hu,.list_tuple h h2 hu,.list_tuple h h2 hu⟩
  |@g_ es p2 q_ h2=>exact seq ds es (.inr ⟨rfl,rfl⟩)
theorem CM{K:Kc}(I:Inv X a_ Z H s)(hK:K=X.K):∀(n:Nat) {A:Around}{x y:D}{v u:V}{v2 u2:Value},plN n x=true->plN n y=true->Den K H x v->Den K H y u->RelV v v2->RelV u u2->A.units+n<cLine->
  Eq3 A s v2 u2 (eqD x y):=by
 subst hK;have items:∀(n:Nat),(∀{A:Around}{x y:D}{v u:V}{v2 u2:Value},plN n x=true->plN n y=true->Den X.K H x v->Den X.K H y u->RelV v v2->RelV u u2->A.units+n<cLine->
   Eq3 A s v2 u2 (eqD x y))->∀{A:Around}{xs ys:List D}{vs us:List V}{its q_:List Value},xs.all (plN n)=true->ys.all (plN n)=true->DenL X.K H xs vs->DenL X.K H ys us->Vals vs its->Vals us q_->A.units+(n+1)<cLine->
   ∀j (h1:j<its.toArray.size)(h2:j<q_.toArray.size),SeqAt.EqAt A.in1 s its.toArray[j] q_.toArray[j] (eqD (xs.getD j .i_) (ys.getD j .i_)):=by
  intro n ih A xs ys vs us its q_ p1 p2 l1 l2 r1 r2 hu j h1 h2;have h1:j<its.length:=by simpa using h1
  have h2:j<q_.length:=by simpa using h2
  have hx:j<xs.length:=by rw[l1.length,r1.length];exact h1
  have hy:j<ys.length:=by rw[l2.length,r2.length];exact h2
  obtain⟨v,e1,d1⟩:=l1.get (i:=j) (d:=xs[j]) (by simp[hx])
  obtain⟨u,e2,d2⟩:=l2.get (i:=j) (d:=ys[j]) (by simp[hy])
  obtain⟨v2,e3,rv⟩:=r1.get e1;obtain⟨u2,e4,ru⟩:=r2.get e2;rw[show its.toArray[j]=v2 by simpa [h1] using e3,show q_.toArray[j]=u2 by simpa [h2] using e4,show xs.getD j .i_=xs[j] by simp[hx],show ys.getD j .i_=ys[j] by simp[hy]]
  exact (ih (JB.mp p1 _ (J3 hx)) (JB.mp p2 _ (J3 hy)) d1 d2 rv ru (by show A.units+1+n<cLine;omega)).2.2
 intro n
 induction n with
 |zero=>
  intro A x y v u v2 u2 p1 p2 d1 d2 r1 r2 hu;refine tQ (jo I p1 d1 r1) (jo I p2 d2 r2) (by omega) λds es z=>?_
  rcases z with ⟨rfl,rfl⟩|⟨rfl,rfl⟩<;>cases p1
 |succ n ih=>
  intro A x y v u v2 u2 p1 p2 d1 d2 r1 r2 hu;refine tQ (jo I p1 d1 r1) (jo I p2 d2 r2) (by omega) λds es z=>?_
  rcases z with ⟨rfl,rfl⟩|⟨rfl,rfl⟩
  ·obtain⟨p,vs,rfl,q1,l1⟩:=id d1;obtain⟨p',us,rfl,q2,l2⟩:=id d2;cases r1;cases r2;obtain⟨its,v1,t1,_⟩:=I.tuple q1;obtain⟨q_,v2,t2,_⟩:=I.tuple q2;have he:=items n ih (A:=A) (by simpa [plN] using p1) (by simpa [plN] using p2) l1 l2 v1 v2 hu
   have ee:eqD (.tup ds) (.tup es)=((List.range (min its.toArray.size q_.toArray.size)).all (λj=>eqD (ds.getD j .i_) (es.getD j .i_))&&its.toArray.size == q_.toArray.size):=by
    simp only[eqD];rw[uo,l1.length,v1.length,l2.length,v2.length];rfl
   have rc:=SeqAt.RcAt.tuples (A:=A) t1 t2 (by omega) he
   rw[<-ee]at rc;have rn:=SeqAt.RcNeAt.tuples (A:=A) t1 t2 (by omega) he
   rw[<-ee]at rn;refine⟨rc,rn,?_⟩;by_cases hp:p=p'
   ·subst hp;rw[nO I rfl (n+1) p1 p2 d1 d2];exact .same _
   ·exact .of_refs hp rc
  ·obtain⟨p,vs,rfl,q1,l1⟩:=id d1;obtain⟨p',us,rfl,q2,l2⟩:=id d2;cases r1;cases r2;obtain⟨its,v1,t1,_⟩:=I.list q1.sq;obtain⟨q_,v2,t2,_⟩:=I.list q2.sq;have he:=items n ih (A:=A) (by simpa [plN] using p1) (by simpa [plN] using p2) l1 l2 v1 v2 hu
   have PQ:SeqAt.RcAt A s (.ref p) (.ref p') (eqD (.g_ ds) (.g_ es))/\SeqAt.RcNeAt A s (.ref p) (.ref p') (!eqD (.g_ ds) (.g_ es)):=by
    by_cases hl:its.toArray.size=q_.toArray.size
    ·have ee:eqD (.g_ ds) (.g_ es)=(List.range its.toArray.size).all λj=>eqD (ds.getD j .i_) (es.getD j .i_):=by
      have e1:ds.length=es.length:=by rw[l1.length,v1.length,l2.length,v2.length];simpa using hl
      simp only[eqD];rw[gD e1,l1.length,v1.length];rfl
     rw[ee];exact⟨.lists t1.isList t2.isList hl (by omega) he,.lists t1.isList t2.isList hl (by omega) he⟩
    ·have ee:eqD (.g_ ds) (.g_ es)=false:=by
      simp only[eqD];cases q:bN ds es with
      |false=>rfl
      |true=>
       have:=kg q;rw[l1.length,v1.length,l2.length,v2.length]at this;exact absurd (by simpa using this) hl
     rw[ee];exact⟨.lists_lengths t1.isList t2.isList (by simpa using hl) (by omega),.lists_lengths t1.isList t2.isList (by simpa using hl) (by omega)⟩
   refine⟨PQ.1,PQ.2,?_⟩;by_cases hp:p=p'
   ·subst hp;rw[nO I rfl (n+1) p1 p2 d1 d2];exact .same _
   ·exact .of_refs hp PQ.1
end
def VO(X:Cx)(f:Value->Value->Sem Value)(r:D->D->MH->VK3->Prop):Prop:=
 ∀(a_:List (Addr×Obj)) (s:Shared)(Z:St)(H:Hp)(x y:D)(v u:V)(v2 u2:Value)(M:MH)(Q:VK3)(Q2:VK),Inv X a_ Z H s->RelV v v2->RelV u u2->Den X.K H x v->Den X.K H y u->RelM X.K M H->r x y M Q->Back X.K H Q Q2->
  wpAny (model X.prog X.w) X.A (f v2 u2) (EP X a_ Z Q2) X.xe s
def VU(X:Cx)(f:Value->Sem Value)(r:D->MH->VK3->Prop):Prop:=
 ∀(a_:List (Addr×Obj)) (s:Shared)(Z:St)(H:Hp)(x:D)(v:V)(v2:Value)(M:MH)(Q:VK3)(Q2:VK),Inv X a_ Z H s->RelV v v2->Den X.K H x v->RelM X.K M H->r x M Q->Back X.K H Q Q2->
  wpAny (model X.prog X.w) X.A (f v2) (EP X a_ Z Q2) X.xe s
def VC(X:Cx)(f:Value)(r:List D->MH->VK3->Prop):Prop:=
 ∀(a_:List (Addr×Obj)) (s:Shared)(Z:St)(H:Hp)(xs:List D)(vs:List V)(us:List Value)(M:MH)(Q:VK3)(Q2:VK),Inv X a_ Z H s->Vals vs us->DenL X.K H xs vs->RelM X.K M H->r xs M Q->Back X.K H Q Q2->
  wpAny (model X.prog X.w) X.A (call f us) (EP X a_ Z Q2) X.xe s
section
variable {X:Cx}
theorem VO.of3(h:Op3 X f r):VO X f r:=by
 obtain⟨r2,h2,hl⟩:=h;exact λa_ s Z H x y v u v2 u2 M Q Q2 I rv ru dx dy rm q c_=>h2 a_ s Z H v u v2 u2 Q2 I rv ru (hl H x y v u M Q Q2 dx dy rm q c_)
theorem VU.of3(h:Un3 X f r):VU X f r:=by
 obtain⟨r2,h2,hl⟩:=h;exact λa_ s Z H x v v2 M Q Q2 I rv dx rm q c_=>h2 a_ s Z H v v2 Q2 I rv (hl H x v M Q Q2 dx rm q c_)
theorem VC.of3(h:uG X f r):VC X f r:=by
 obtain⟨r2,h2,hl⟩:=h;exact λa_ s Z H xs vs us M Q Q2 I rv dx rm q c_=>h2 a_ s Z H vs us Q2 I rv (hl H xs vs M Q Q2 dx rm q c_)
theorem VO.imp(h:VO X f r)(g:∀x y M Q,r' x y M Q->r x y M Q):VO X f r':=
 λa_ s Z H x y v u v2 u2 M Q Q2 I rv ru dx dy rm q c_=>h a_ s Z H x y v u v2 u2 M Q Q2 I rv ru dx dy rm (g x y M Q q) c_
theorem VU.imp(h:VU X f r)(g:∀x M Q,r' x M Q->r x M Q):VU X f r':=
 λa_ s Z H x v v2 M Q Q2 I rv dx rm q c_=>h a_ s Z H x v v2 M Q Q2 I rv dx rm (g x M Q q) c_
theorem VC.imp(h:VC X f r)(g:∀x M Q,r' x M Q->r x M Q):VC X f r':=
 λa_ s Z H x v v2 M Q Q2 I rv dx rm q c_=>h a_ s Z H x v v2 M Q Q2 I rv dx rm (g x M Q q) c_
theorem iX(h:rI2 g x y M Q):me g x y M Q:=by
 unfold rI2 at h;split at h
 ·exact⟨_,_,rfl,rfl,h⟩
 ·exact h.elim
theorem md(h:rII C g x y M Q):rI3 C g x y M Q:=by
 unfold rII at h;split at h
 ·exact⟨_,_,rfl,rfl,h⟩
 ·exact h.elim
theorem xg{s:Shared}{ws:List Value}(ht:IsTup s.heap t #[])(hb:IsTup s.heap b ws.toArray)(h:Q (.ref b) s):wpAny (model prog w) A (binaryOp .Add (.ref t) (.ref b)) Q E s:=by
 obtain⟨⟨cls,dd,data,sl⟩,ho,hc,n,hd⟩:=id ht;obtain⟨⟨Pt,Nn,data2,Lk⟩,MO,hc2,n2,hd2⟩:=id hb;simp only at hc hd hc2 hd2;subst hc hd hc2 hd2;exact concat_meets ⟨_,ho,rfl⟩ ⟨_,MO,rfl⟩ noFill_tuple_add seq_tuple_add PySem.F.slot_tuple_add PySem.F.entry_tuple_add (PySem.F.args_tuple_add_2 _ _) (tuple_addW0 t b #[] ws.toArray n n2 dd Nn sl Lk rfl) ⟨ho,MO,h⟩
theorem qG{a b:List D}(I:Inv X a_ Z H s)(rv:RelV v v2)(ru:RelV u u2)(dx:Den X.K H (.tup a) v)(dy:Den X.K H (.tup b) u)(rm:RelM X.K M H)
  (q:a.length+b.length<=sizeLine/\Q (.tup (a++b)) M) (c_:Back X.K H Q Q2):wpAny (model X.prog X.w) X.A (binaryOp .Add v2 u2) (EP X a_ Z Q2) X.xe s:=by
 obtain⟨p1,vs,rfl,PR,N6⟩:=dx;obtain⟨p2,us,rfl,Mj,Kz⟩:=dy;obtain⟨h2,q⟩:=q;by_cases h1:a=[]
 ·subst h1;cases (show vs=[] from N6);cases rv;cases ru;obtain⟨its,r1,Sy,_⟩:=I.tuple PR;obtain⟨q_,r2,Sz,_⟩:=I.tuple Mj;cases r1;exact xg Sy Sz ⟨.ref p2,H,I,rfl,c_ _ _ (.tup b) _ ⟨p2,us,rfl,Mj,Kz⟩ rm (.refl _) q⟩
 refine wx a_ s Z H _ _ v2 u2 Q2 I rv ru ⟨p1,p2,vs,us,rfl,rfl,PR,Mj,λz=>?_,by rw[<-N6.length,<-Kz.length];exact h2,λz=>?_,λ_ p hp=>?_⟩
 ·have:=N6.length;rw[z]at this;cases a with
  |nil=>exact h1 rfl
  |cons _ _=>cases this
 ·have hb:b=[]:=List.length_eq_zero_iff.mp (by rw[Kz.length,z];rfl)
  subst hb;rw[JV]at q;exact c_ _ _ (.tup a) _ ⟨p1,vs,rfl,PR,N6⟩ rm (.refl _) q
 ·exact c_ _ _ (.tup (a++b)) _ ⟨p,_,rfl,.of ag,(N6.append Kz).mono (.new hp)⟩ (rm.grow hp) (.new hp) q
theorem BE(op:Operator):VO X (binaryOp op) (mS op):=by
 cases op with
 |Add=>
  intro a_ s Z H x y v u v2 u2 M Q Q2 I rv ru dx dy rm q c_;have q':u8 x y M Q:=q;clear q;unfold u8 at q';split at q'
  ·exact VO.of3 Ch a_ s Z H _ _ v u v2 u2 M Q Q2 I rv ru dx dy rm ⟨_,_,rfl,rfl,q'⟩ c_
  ·exact qG I rv ru dx dy rm q' c_
  ·exact q'.elim
 |Sub=>exact (VO.of3 Db).imp λ_ _ _ _ h=>iX h
 |Mult=>
  intro a_ s Z H x y v u v2 u2 M Q Q2 I rv ru dx dy rm q c_;have q':vm x y M Q:=q;clear q;unfold vm at q';split at q'
  ·exact VO.of3 Ee a_ s Z H _ _ v u v2 u2 M Q Q2 I rv ru dx dy rm ⟨_,_,rfl,rfl,q'⟩ c_
  ·exact q'.elim
 |FloorDiv=>exact (VO.of3 yV).imp λ_ _ _ _ h=>md h
 |Mod=>exact (VO.of3 Ew).imp λ_ _ _ _ h=>md h
 |Pow=>exact (VO.of3 D0).imp λ_ _ _ _ h=>md h
 |RShift=>exact (VO.of3 Ed).imp λ_ _ _ _ h=>md h
 |BitAnd=>exact (VO.of3 Eu).imp λ_ _ _ _ h=>iX h
 |_=>exact λa_ s Z H x y v u v2 u2 M Q Q2 I rv ru dx dy rm q c_=>False.elim q
theorem zM:VU X (unaryOp .USub) rNeg:=(VU.of3 DH).imp λx M Q h=>by
 unfold rNeg at h;split at h
 ·exact⟨_,rfl,h⟩
 ·exact h.elim
theorem zD(fz:Bool):VO X (binaryOp .Add) (dn fz):=by
 intro a_ s Z H x y v u v2 u2 M Q Q2 I rv ru dx dy rm q c_;unfold dn at q;split at q
 next a b ea eb=>
  obtain⟨l,xs,rfl,hH,dl⟩:=bg rm ea dx;obtain⟨b',zs,rfl,hB,Kz⟩:=bg rm eb dy;cases rv;cases ru;obtain⟨z,its,n,r,hl,e⟩:=I.rdL hH;obtain⟨z2,q_,n2,r2,L7,e2⟩:=I.rdL hB;have u_:xs.length+zs.length<=sizeLine:=by
   have:=q.1;rw[JG,dl.length,Kz.length]at this;exact this
  refine PySem.P.add_list e e2 ?_ (by rw[Jj,Jj];omega)
  have ea:its.toArray++q_.toArray=(its++q_).toArray:=by simp
  rw[ea];exact bR (I.lnew (t':=s.toks) (r.append r2) (by rw[JG];omega)) I.fresh (dl.append Kz) rm (.refl _) q c_
 next=>
  split at q
  ·exact qG I rv ru dx dy rm q c_
  ·exact q.elim
theorem vM{K:Kc}(rm:RelM K M H)(dx:Den K H x v)(hp:pl (res M x)=true) :
  (∃a ds,x=.ref a/\M a=some (.lst ds)/\res M x=.g_ ds)\/(res M x=x):=by
 cases x with
 |ref a=>
  cases e:M a with
  |none=>
   have:res M (.ref a)=.ref a:=by simp[res,ai,e]
   rw[this]at hp;simp[plN]at hp
  |some o=>
   cases o with
   |lst ds=>exact .inl ⟨a,ds,rfl,e,by simp[res,ai,e]⟩
   |_=>
    have:res M (.ref a)=.ref a:=by simp[res,ai,e]
    rw[this]at hp;simp[plN]at hp
 |g_ ds=>exact .inr rfl
 |_=>exact .inr rfl
theorem tV(I:Inv X a_ Z H s)(rm:RelM X.K M H)(dx:Den X.K H x v)(hp:pl (res M x)=true) :
  ∃H',Inv X a_ Z H' s/\TM X.K H H'/\Den X.K H' (res M x) v:=by
 rcases vM rm dx hp with ⟨a,ds,rfl,q,e⟩|e
 ·obtain⟨vs,e1,l⟩:=rm a _ q;obtain⟨o,I2⟩:=I.freeze e1;refine⟨_,I2,.freeze e1,?_⟩;rw[e];cases (show v=.ref a from dx);exact gJ l e1
 ·rw[e];exact⟨H,I,.refl _,dx⟩
def mR(K:Kc)(M:MH)(H:Hp):Prop:=∀a ds,M a=some (.lst ds)->∃vs,(H a=some (.lst vs)\/∃o,H a=some (.t_ o (.lst vs)))/\DenL K H ds vs
theorem RelM.z{K:Kc}(rm:RelM K M H):mR K M H:=λa ds q=>by
 obtain⟨vs,e,l⟩:=rm a _ q;exact⟨vs,.inl e,l⟩
theorem Cv(I:Inv X a_ Z H s)(rz:mR X.K M H)(q:M a=some (.lst ds)) :
  ∃H',Inv X a_ Z H' s/\TM X.K H H'/\mR X.K M H'/\∃vs,SqF X.K H' a vs/\DenL X.K H' ds vs/\DenL X.K H ds vs:=by
 obtain⟨vs,e|⟨o,e⟩,l⟩:=rz a ds q
 ·obtain⟨o,I2⟩:=I.freeze e;have t:TM X.K H (upd H a (.t_ o (.lst vs))):=.freeze e;refine⟨_,I2,t,λb es qb=>?_,vs,.inl ⟨o,ag⟩,l.mono t,l⟩
  obtain⟨us,e2,l2⟩:=rz b es qb;by_cases hb:b=a
  ·subst hb;rw[q]at qb;cases qb;exact⟨vs,.inr ⟨o,ag⟩,l.mono t⟩
  ·refine⟨us,?_,l2.mono t⟩;rw[ae hb];exact e2
 ·exact⟨H,I,.refl _,rz,vs,.inl ⟨o,e⟩,l,l⟩
theorem Ca(I:Inv X a_ Z H s)(rz:mR X.K M H)(dx:Den X.K H x v) :
  ∃H',Inv X a_ Z H' s/\TM X.K H H'/\mR X.K M H'/\Den X.K H' (res M x) v:=by
 cases x with
 |ref a=>
  cases e:M a with
  |none=>
   have:res M (.ref a)=.ref a:=by simp[res,ai,e]
   rw[this];exact⟨H,I,.refl _,rz,dx⟩
  |some o=>
   cases o with
   |lst ds=>
    obtain⟨H',I2,t,M8,vs,sq,l,_⟩:=Cv I rz e;have:res M (.ref a)=.g_ ds:=by simp[res,ai,e]
    rw[this];exact⟨H',I2,t,M8,a,vs,dx,sq,l⟩
   |_=>
    have:res M (.ref a)=.ref a:=by simp[res,ai,e]
    rw[this];exact⟨H,I,.refl _,rz,dx⟩
 |g_ ds=>exact⟨H,I,.refl _,rz,dx⟩
 |_=>exact⟨H,I,.refl _,rz,dx⟩
theorem ui:∀{ds:List D}{vs:List V}{H:Hp},Inv X a_ Z H s->mR X.K M H->DenL X.K H ds vs->
  ∃H',Inv X a_ Z H' s/\TM X.K H H'/\mR X.K M H'/\DenL X.K H' (ds.map (res M)) vs
 |[],vs,H,I,rz,dl=>⟨H,I,.refl _,rz,dl⟩
 |d::ds,vs,H,I,rz,dl=>by
  obtain⟨v,r,rfl,dv,dr⟩:=dl;obtain⟨H1,I1,t1,PU,d1⟩:=Ca I rz dv;obtain⟨H2,I2,t2,M8,d2⟩:=ui I1 PU (dr.mono t1);exact⟨H2,I2,t1.trans t2,M8,v,r,rfl,d1.mono t2,d2⟩
theorem yM(I:Inv X a_ Z H s)(rz:mR X.K M H)(dx:Den X.K H x v) :
  ∃H',Inv X a_ Z H' s/\TM X.K H H'/\mR X.K M H'/\Den X.K H' (rs M x) v:=by
 cases x with
 |ref a=>
  cases e:M a with
  |none=>
   have:rs M (.ref a)=.ref a:=by simp[rs,ai,e]
   rw[this];exact⟨H,I,.refl _,rz,dx⟩
  |some o=>
   cases o with
   |lst ds=>
    have:rs M (.ref a)=.g_ (if pls ds=true then ds else ds.map (res M)):=by simp[rs,ai,e]
    rw[this];obtain⟨H',I2,t,M8,vs,sq,l,_⟩:=Cv I rz e;split
    ·exact⟨H',I2,t,M8,a,vs,dx,sq,l⟩
    ·obtain⟨H3,I3,t3,PV,l3⟩:=ui I2 M8 l;exact⟨H3,I3,t.trans t3,PV,a,vs,dx,t3.f _ _ sq,l3⟩
   |_=>
    have:rs M (.ref a)=.ref a:=by simp[rs,ai,e]
    rw[this];exact⟨H,I,.refl _,rz,dx⟩
 |g_ ds=>
  have:rs M (.g_ ds)=.g_ (if pls ds=true then ds else ds.map (res M)):=by simp[rs,ai]
  rw[this];split
  ·exact⟨H,I,.refl _,rz,dx⟩
  ·obtain⟨p,vs,e,sq,l⟩:=dx;obtain⟨H3,I3,t3,PV,l3⟩:=ui I rz l;exact⟨H3,I3,t3,PV,p,vs,e,t3.f _ _ sq,l3⟩
 |_=>exact⟨H,I,.refl _,rz,dx⟩
theorem DE(I:Inv X a_ Z H s)(rm:RelM X.K M H)(dx:Den X.K H x v)(dy:Den X.K H y u) :
  ∃H',Inv X a_ Z H' s/\Den X.K H' (rs M x) v/\Den X.K H' (rs M y) u:=by
 obtain⟨H1,I1,t1,PU,d1⟩:=yM I rm.z dx;obtain⟨H2,I2,t2,M8,d2⟩:=yM I1 PU (dy.mono t1);exact⟨H2,I2,d1.mono t2,d2⟩
theorem yL(hu:X.A.units+64<cLine)(neg:Bool):VO X (compareOp (if neg=true then .NotEq else .Eq)) (dh neg):=by
 intro a_ s Z H x y v u v2 u2 M Q Q2 I rv ru dx dy rm q c_;obtain⟨h1,h2,q⟩:=q;obtain⟨H',I',d1,d2⟩:=DE I rm dx dy;obtain⟨rc,rn,_⟩:=CM I' rfl 8 (A:=X.A) h1 h2 d1 d2 rv ru (by omega)
 have fin:=c_ _ _ _ _ (bG (K:=X.K) (H:=H)) rm (.refl _) q;cases neg with
 |true=>
  refine rn _ _ _ _ ⟨.bl _,H,I,rfl,?_⟩;rw[Bool.true_xor]at fin;exact fin
 |false=>
  refine rc _ _ _ _ ⟨.bl _,H,I,rfl,?_⟩;rw[Bool.false_xor]at fin;exact fin
end
section
variable {K:Kc}
theorem j8[DecidableEq κ]:∀{ks:List κ}{ds:List D}{vs:List V}{k:κ},DenL K H ds vs->ks.length=vs.length->
  (∀d,getD ks ds k=some d->∃v,eY (ks.zip vs) k=some v/\Den K H d v)/\(getD ks ds k=none->eY (ks.zip vs) k=none)
 |[],_,vs,k,_,_=>⟨λd e=>by simp[getD]at e,λ_=>by simp[eY]⟩
 |q::ks,[],vs,k,dl,hl=>by cases (show vs=[] from dl);cases hl
 |q::ks,d0::ds,_,k,dl,hl=>by
  obtain⟨v,r,rfl,dv,dl⟩:=dl;have ih:=j8 (ks:=ks) (k:=k) dl (by simpa using hl)
  by_cases z:q=k
  ·refine⟨λd e=>?_,λe=>?_⟩
   ·simp only[getD,Jc z]at e;cases e;exact⟨v,fG (p:=(q,v)) z,dv⟩
   ·simp only[getD,Jc z]at e;cases e
  ·refine⟨λd e=>?_,λe=>?_⟩
   ·simp only[getD,IY z]at e;obtain⟨w,h1,h2⟩:=ih.1 d e;exact⟨w,(dZ (p:=(q,v)) z).trans h1,h2⟩
   ·simp only[getD,IY z]at e;exact (dZ (p:=(q,v)) z).trans (ih.2 e)
theorem oF(h:sj y=some k)(d:Den K H y u):u=kV k:=by
 cases y with
 |int i=>cases (show some (Sum.inl i)=some k from h);exact d
 |str x=>cases (show some (Sum.inr x)=some k from h);exact d
 |_=>cases h
theorem k6:∀{es:List D}{vs:List V}{k:List Int},c8 es=some k->DenL K H es vs->vs=k.map V.int
 |[],vs,k,h,dl=>by cases (show some []=some k from h);exact dl
 |d::es,_,k,h,dl=>by
  obtain⟨v,r,rfl,dv,dl⟩:=dl;cases d with
  |int i=>
   simp only[c8]at h;split at h
   ·rename_i ns q;cases h;rw[k6 q dl];cases (show v=.int i from dv);rfl
   ·cases h
  |_=>cases h
theorem jH{k:List Int}(h:gx y=some k)(d:Den K H y u):∃b,u=.ref b/\SqT K H b (k.map V.int):=by
 cases y with
 |tup es=>
  obtain⟨b,vs,e,sq,dl⟩:=d;refine⟨b,e,?_⟩;rw[<-k6 h dl];exact sq
 |_=>cases h
theorem nz{ks:List Key}(h:eX M x=some (ks,ds))(rm:RelM K M H)(d:Den K H x v):∃p vs,v=.ref p/\Rd H p (.dK (ks.zip vs))/\ks.length=vs.length/\DenL K H ds vs:=by
 cases x with
 |Ln KH Kl=>
  cases h;obtain⟨p,vs,o,rfl,e,hl,dl⟩:=d;exact⟨p,vs,rfl,.inr ⟨o,e⟩,hl,dl⟩
 |ref a=>
  simp only[eX]at h;split at h
  ·rename_i q;cases h;obtain⟨vs,e,hl,dl⟩:=rm a _ q;exact⟨a,vs,d,.inl e,hl,dl⟩
  ·cases h
 |_=>cases h
theorem m6(h:gG M x=some (ks,ds))(rm:RelM K M H)(d:Den K H x v):∃p vs xs,v=.ref p/\Rd H p (.ext (dW p xs))/\TabOk K H p ks xs vs/\DenL K H ds vs:=by
 cases x with
 |K_ KH Kl=>
  cases h;obtain⟨p,vs,o,xs,rfl,e,z,dl⟩:=d;exact⟨p,vs,xs,rfl,.inr ⟨o,e⟩,z,dl⟩
 |ref a=>
  simp only[gG]at h;split at h
  ·rename_i q;cases h;obtain⟨vs,xs,e,z,dl⟩:=rm a _ q;exact⟨a,vs,xs,d,.inl e,z,dl⟩
  ·cases h
 |_=>cases h
theorem TabOk.len{ks:List (List Int)}{vs:List V}(z:TabOk K H a ks xs vs):ks.length=vs.length:=by
 rw[<-z.kx,Jh,z.vx.length,Jh]
theorem dO:∀{xs:List (List Int×Addr×Value)}{vs:List V} (k:List Int),Vals vs (xs.map (·.2.2))->RelO (eY ((xs.map (·.1)).zip vs) k) ((atKey xs k).map (·.2))
 |[],vs,k,r=>by cases r;exact True.intro
 |x::xs,vs,k,r=>by
  rw[Ji]at r;cases r with
  |@cons v _ vs _ h t=>
   have ih:=dO k t;by_cases e:x.1=k
   ·have b:atKey (x::xs) k=some x.2:=by simp[atKey,JU,e]
    rw[Ji,List.zip_cons_cons,fG (p:=(x.1,v)) e,b];exact h
   ·have b:atKey (x::xs) k=atKey xs k:=by simp[atKey,JU,e]
    rw[Ji,List.zip_cons_cons,dZ (p:=(x.1,v)) e,b];exact ih
end
inductive DRd (X:Cx) (H:Hp) (a:Addr) (u:V):Option V->Prop where
 |k {l_:List (Key×V)}{k:Key} (e:Rd H a (.dK l_)) (hu:u=kV k):DRd X H a u (eY l_ k)
 |t {ks:List (List Int)}{xs:List (List Int×Addr×Value)}{vs:List V}{k:List Int}{b:Addr} (e:Rd H a (.ext (dW a xs))) (z:TabOk X.K H a ks xs vs) (hu:u=.ref b) (sq:SqT X.K H b (k.map V.int)):DRd X H a u (eY (ks.zip vs) k)
def OptDen(K:Kc)(H:Hp):Option D->Option V->Prop
 |some d,some v=>Den K H d v
 |none,none=>True
 |_,_=>False
theorem ir{X:Cx}(h:iW M x y=some o)(rm:RelM X.K M H)(dx:Den X.K H x v)(dy:Den X.K H y u):∃a ov,v=.ref a/\DRd X H a u ov/\OptDen X.K H o ov:=by
 unfold iW at h;split at h
 ·rename_i ks ds e;split at h
  ·rename_i k ek;cases h;obtain⟨p,vs,rfl,rd,hl,dl⟩:=nz e rm dx;refine⟨p,_,rfl,.k rd (oF ek dy),?_⟩;have g:=j8 (k:=k) dl hl;cases q:getD ks ds k with
   |none=>rw[g.2 q];exact True.intro
   |some d=>obtain⟨w,h1,h2⟩:=g.1 d q;rw[h1];exact h2
  ·cases h
 ·split at h
  ·rename_i ks ds e;split at h
   ·rename_i k ek;cases h;obtain⟨p,vs,xs,rfl,rd,z,dl⟩:=m6 e rm dx;obtain⟨b,hb,sq⟩:=jH ek dy;refine⟨p,_,rfl,.t rd z hb sq,?_⟩;have g:=j8 (k:=k) dl z.len;cases q:getD ks ds k with
    |none=>rw[g.2 q];exact True.intro
    |some d=>obtain⟨w,h1,h2⟩:=g.1 d q;rw[h1];exact h2
   ·cases h
  ·cases h
section
variable {X:Cx}{s:Shared}{o:Option V}{A:Around}
theorem jX:∀{ks:List Int}{us:List Value},Vals (ks.map V.int) us->ItemsAre (intKind P w) ks us
 |[],_,r=>by rw[List.map_nil]at r;cases r;exact .nil
 |k::ks,_,r=>by
  rw[Ji]at r;cases r with
  |cons h t=>
   obtain⟨tk,rfl⟩:=h;exact .cons (by show Value.isInt k (.int k tk)=true;simp[Value.isInt]) (jX t)
theorem fx{k:List Int}(I:Inv X a_ Z H s)(sq:SqT X.K H b (k.map V.int)):(tupleKind (intKind X.prog X.w)).is s.heap k b:=by
 obtain⟨its,r,⟨o,e,c,n,d⟩,_⟩:=I.tuple sq;exact⟨o,its.toArray,n,e,c,d,by simpa using jX r⟩
theorem b8(I:Inv X a_ Z H s)(e:Rd H a (.ext (dW a xs)))(z:TabOk X.K H a ks xs vs):s.heap.DictOfH (tupleKind (intKind X.prog X.w)) a xs:=by
 obtain⟨⟨ob,es,ep,h1,h2,h3,h4⟩,_⟩:=(show ObjOk X.prog X.w H s.heap a (.ext (dW a xs)) from e.ok I.h_);exact⟨ob,es,ep,h1,h2,h3,h4,λx hx=>fx I (z.at_ x hx),by rw[z.kx];exact z.nd⟩
theorem DRd.isDict(I:Inv X a_ Z H s)(g:DRd X H a y o):s.TypeIs (.ref a) "dict":=by
 cases g with
 |k e _=>obtain⟨_,_,vs,_,dd⟩:=ja I.h_ e;exact dd.typeIs
 |t e z _ _=>exact (b8 I e z).typeIs
theorem sQ(hu:A.units+1<cLine)(I:Inv X a_ Z H s)(g:DRd X H a y o)(ho:o=some v)(ry:RelV y u)(h:∀w' s',Inv X a_ Z H s'->RelV v w'->Q w' s') :
  wpAny (model X.prog X.w) A (getItem (.ref a) u) Q E s:=by
 cases g with
 |k e hk=>exact sk hu I (.inl ⟨_,_,e,hk,ho.symm⟩) ry h
 |@t ks xs vs k b e z hb sq=>
  subst hb;cases (show u=Value.ref b from ry);have dd:=b8 I e z;have H_:=dO (vs:=vs) k z.vx;rw[z.kx]at H_;obtain⟨w',hw,Kp⟩:=RelO.some_of (v:=v) (o:=(atKey xs k).map (·.2)) (by rw[<-ho];exact H_)
  obtain⟨p,hp,Pr⟩:=Option.map_eq_some_iff.mp hw;refine wpAny_getItem_heap (JI hu) (fx I sq) dd hp ?_;rw[Pr];exact h w' _ (I.tok _) Kp
theorem Gf(neg:Bool)(hu:A.units+1<cLine)(I:Inv X a_ Z H s)(g:DRd X H a y o)(ry:RelV y u)(h:∀s',Inv X a_ Z H s'->Q (.bool (neg ^^ o.isSome)) s') :
  wpAny (model X.prog X.w) A (compareOp (if neg=true then .NotIn else .In) u (.ref a)) Q E s:=by
 cases g with
 |k e hk=>
  cases neg with
  |true=>exact xM hu I (.inl ⟨_,_,e,hk,rfl⟩) ry λs' I'=>by have:=h s' I';rw[Bool.true_xor]at this;exact this
  |false=>exact FN hu I (.inl ⟨_,_,e,hk,rfl⟩) ry λs' I'=>by have:=h s' I';rw[Bool.false_xor]at this;exact this
 |@t ks xs vs k b e z hb sq=>
  subst hb;cases (show u=Value.ref b from ry);have dd:=b8 I e z;have H_:=dO (vs:=vs) k z.vx;rw[z.kx]at H_;have q:=H_.isSome_eq;rw[Option.isSome_map]at q;rw[q]at h;cases neg with
  |true=>
   refine wpAny_notIn_heap (JI hu) (fx I sq) z.no dd ?_;have:=h _ (I.tok (s.toks+(tupleKind (intKind X.prog X.w)).draws k));rw[Bool.true_xor]at this;exact this
  |false=>
   refine wpAny_in_heap (JI hu) (fx I sq) z.no dd ?_;have:=h _ (I.tok (s.toks+(tupleKind (intKind X.prog X.w)).draws k));rw[Bool.false_xor]at this;exact this
theorem zT(hu:A.units+1<cLine)(I:Inv X a_ Z H s)(g:DRd X H a y o)(ry:RelV y u)(h:∀w' s',Inv X a_ Z H s'->RelV (o.getD .i_) w'->Q w' s') :
  wpAny (model X.prog X.w) A (call (.builtin "dict.get") [.ref a,u]) Q E s:=by
 cases g with
 |k e hk=>exact AZ hu I (.inl ⟨_,_,e,hk,rfl⟩) ry h
 |@t ks xs vs k b e z hb sq=>
  subst hb;cases (show u=Value.ref b from ry);have dd:=b8 I e z;have H_:=dO (vs:=vs) k z.vx;rw[z.kx]at H_;exact call_meetsIn PySem.F.slot_dict_get dd.typeIs PySem.F.entry_dict_get (PySem.F.args_dict_get_2 _ _) (meetsH_dict_get (tupleKind (intKind X.prog X.w)) a b z.no) ⟨JI hu,k,xs,fx I sq,dd,h _ _ (I.tok _) (H_.getD rfl)⟩
theorem zr(hu:A.units+1<cLine)(I:Inv X a_ Z H s)(g:DRd X H a y o)(ry:RelV y u)(rd:RelV d r)(h:∀w' s',Inv X a_ Z H s'->RelV (o.getD d) w'->Q w' s') :
  wpAny (model X.prog X.w) A (call (.builtin "dict.get") [.ref a,u,r]) Q E s:=by
 cases g with
 |k e hk=>exact Ax hu I (.inl ⟨_,_,e,hk,rfl⟩) ry rd h
 |@t ks xs vs k b e z hb sq=>
  subst hb;cases (show u=Value.ref b from ry);have dd:=b8 I e z;have H_:=dO (vs:=vs) k z.vx;rw[z.kx]at H_;exact call_meetsIn PySem.F.slot_dict_get dd.typeIs PySem.F.entry_dict_get (PySem.F.args_dict_get_3 _ _ _) (meetsH_dict_get_default (tupleKind (intKind X.prog X.w)) a b z.no r) ⟨JI hu,k,xs,fx I sq,dd,h _ _ (I.tok _) (H_.getD rd)⟩
end
section
variable {K:Kc}
theorem rV[DecidableEq κ]{l:List (κ×V)}:fJ ((q,w)::l) k v=if q=k then (q,v)::l.map (λkv=>if kv.1=k then (kv.1,v) else kv) else (q,w)::fJ l k v:=by
 unfold fJ;by_cases e:q=k
 ·simp[e]
 ·by_cases g:(l.any λkv=>decide (kv.1=k))=true
  ·simp[e,g]
  ·simp[e,g]
theorem oK[DecidableEq κ]:∀{ks:List κ}{vs:List V},¬ k∈ks->(ks.zip vs).map (λkv=>if kv.1=k then (kv.1,v) else kv)=ks.zip vs
 |[],_,_=>by simp
 |q::ks,[],_=>by simp
 |q::ks,w::vs,h=>by
  have hq:¬ q=k:=λz=>h (by simp[z])
  have ih:=oK (k:=k) (v:=v) (ks:=ks) (vs:=vs) λm=>h (IX _ m)
  simp only[List.zip_cons_cons,Ji,IY hq,ih]
theorem nc[DecidableEq κ]:∀{ks:List κ}{ds:List D}{vs:List V}{k:κ}{y:D}{v:V},ks.Nodup->DenL K H ds vs->ks.length=vs.length->Den K H y v->
  ∃La,fJ (ks.zip vs) k v=(aj ks k).zip La/\(aj ks k).length=La.length/\DenL K H (am ks ds k y) La
 |[],ds,vs,k,y,v,_,dl,hl,dy=>by
  cases vs with
  |nil=>exact⟨[v],rfl,rfl,by unfold am;exact .one dy⟩
  |cons _ _=>cases hl
 |q::ks,[],vs,k,y,v,_,dl,hl,dy=>by cases (show vs=[] from dl);cases hl
 |q::ks,d::ds,_,k,y,v,nd,dl,hl,dy=>by
  obtain⟨w,r,rfl,dw,dl⟩:=dl;obtain⟨n1,n2⟩:=Jo.mp nd;rw[List.zip_cons_cons,rV];by_cases e:q=k
  ·subst e;rw[Jc rfl,oK n1];refine⟨v::r,?_,?_,?_⟩
   ·simp[aj]
   ·simpa [aj] using hl
   ·simp only[am,Jc];exact .cons dy dl
  ·rw[IY e];obtain⟨La,h1,h2,h3⟩:=nc (k:=k) (v:=v) n2 dl (by simpa using hl) dy
   refine⟨w::La,?_,?_,?_⟩
   ·simp[aj,IY e,h1]
   ·simp[aj,IY e,h2]
   ·simp only[am,IY e];exact .cons dw h3
theorem nY{x:List Int×Addr×Value}{xs:List (List Int×Addr×Value)}:storedH (x::xs) k b r=if x.1=k then (x.1,x.2.1,r)::xs.map (putAt k r) else x::storedH xs k b r:=by
 unfold storedH;by_cases e:x.1=k
 ·have b':atKey (x::xs) k=some x.2:=by simp[atKey,JU,e]
  rw[b',Jc e];simp[putAt,e]
 ·have b':atKey (x::xs) k=atKey xs k:=by simp[atKey,JU,e]
  rw[b',IY e];by_cases g:(atKey xs k).isSome=true
  ·rw[Jc g,Jc g];simp[putAt,e]
  ·rw[IY g,IY g];rfl
theorem jN:∀{xs:List (List Int×Addr×Value)},¬ k∈xs.map (·.1)->xs.map (putAt k r)=xs
 |[],_=>rfl
 |x::xs,h=>by
  have hq:¬ x.1=k:=λz=>h (by simp[z])
  rw[Ji,jN λm=>h (IX _ m)]
  simp[putAt,hq]
theorem kC:∀{xs:List (List Int×Addr×Value)}{ds:List D}{vs:List V}{k:List Int}{b:Addr}{r:Value}{y:D}{v:V},(xs.map (·.1)).Nodup->Vals vs (xs.map (·.2.2))->RelV v r->DenL K H ds vs->Den K H y v->
  ∃La,(storedH xs k b r).map (·.1)=aj (xs.map (·.1)) k/\Vals La ((storedH xs k b r).map (·.2.2))/\DenL K H (am (xs.map (·.1)) ds k y) La/\∀x∈storedH xs k b r,(x.1=k/\x.2.1=b)\/∃x'∈xs,x'.1=x.1/\x'.2.1=x.2.1
 |[],ds,vs,k,b,r,y,v,_,vr,rv,dl,dy=>by
  cases vr;cases ds with
  |cons _ _=>obtain⟨_,_,z,_⟩:=dl;cases z
  |nil=>exact⟨[v],rfl,.cons rv .nil,by unfold am;exact .one dy,λx hx=>.inl (by simp[storedH,atKey]at hx;simp[hx])⟩
 |x::xs,ds,vs,k,b,r,y,v,nd,vr,rv,dl,dy=>by
  rw[Ji]at vr nd;cases vr with
  |@cons w _ vs _ h t=>
   cases ds with
   |nil=>cases (show w::vs=[] from dl)
   |cons d ds=>
    obtain⟨w',r',e',dw,dl⟩:=dl;cases e';obtain⟨n1,n2⟩:=Jo.mp nd;rw[nY];by_cases e:x.1=k
    ·rw[Jc e,jN (by rw[<-e];exact n1)]
     refine⟨v::vs,?_,.cons rv t,?_,λz hz=>?_⟩
     ·simp[aj,e]
     ·simp only[Ji,am,Jc e];exact .cons dy dl
     ·rcases Jb.mp hz with rfl|hz
      ·exact .inr ⟨x,Jd,rfl,rfl⟩
      ·exact .inr ⟨z,IX _ hz,rfl,rfl⟩
    ·rw[IY e];obtain⟨La,h1,h2,h3,h4⟩:=kC (k:=k) (b:=b) n2 t rv dl dy;refine⟨w::La,?_,.cons h h2,?_,λz hz=>?_⟩
     ·simp only[Ji,aj,IY e,h1]
     ·simp only[Ji,am,IY e];exact .cons dw h3
     ·rcases Jb.mp hz with rfl|hz
      ·exact .inr ⟨z,Jd,rfl,rfl⟩
      ·rcases h4 z hz with q|⟨x',Ly,q⟩
       ·exact .inl q
       ·exact .inr ⟨x',IX _ Ly,q⟩
theorem bS[DecidableEq κ]:∀{ks:List κ}{k:κ},(aj ks k).length<=ks.length+1
 |[],_=>by simp[aj]
 |q::ks,k=>by
  unfold aj;split
  ·simp
  ·have:=bS (ks:=ks) (k:=k);simp only[Jr];omega
theorem putD1_mem[DecidableEq κ]:∀{ks:List κ}{k x:κ},x∈aj ks k<->x∈ks\/x=k
 |[],k,x=>by simp[aj]
 |q::ks,k,x=>by
  unfold aj;split
  ·rename_i e;subst e;simp;intro z;exact .inl z
  ·rw[Jb,putD1_mem,Jb,or_assoc]
theorem jd[DecidableEq κ]:∀{ks:List κ}{k:κ},ks.Nodup->(aj ks k).Nodup
 |[],k,_=>by simp[aj]
 |q::ks,k,h=>by
  obtain⟨n1,n2⟩:=Jo.mp h;unfold aj;split
  ·exact h
  ·rename_i e;refine Jo.mpr ⟨λm=>?_,jd n2⟩
   rcases putD1_mem.mp m with z|z
   ·exact n1 z
   ·exact e z
end
section
variable {X:Cx}{A:Around}{ks:List Key}
theorem ou:∀{ks:List κ}{vs:List V},ks.length=vs.length->(ks.zip vs).map (·.1)=ks
 |[],_,_=>by simp
 |q::ks,[],h=>by cases h
 |q::ks,v::vs,h=>by simp[ou (ks:=ks) (vs:=vs) (by simpa using h)]
theorem uY{vs:List V}(I:Inv X a_ Z H s)(e:H a=some (.dK (ks.zip vs)))(hl:ks.length=vs.length):ks.Nodup:=by
 obtain⟨_,_,ws,H_,_,_,_,_,_,_,_,_,nd⟩:=yQ I.h_ e;rw[<-H_.keys,ou hl]at nd;exact nd
theorem zZ{k:Key}{y:D}{v w:V}{R:MH->Prop}{R2:Hp->Prop}(hu:A.units+1<cLine)(I:Inv X a_ Z H s)(rm:RelM X.K M H)(q:M a=some (.dk ks ds))(hk:w=kV k)(Kp:RelV w u)(dy:Den X.K H y v)(rv:RelV v r)(hz:ks.length<sizeLine)
  (h:R (put M a (.dk (aj ks k) (am ks ds k y)))) (c_:∀H' M',RelM X.K M' H'->TM X.K H H'->R M'->R2 H'):wpAny (model X.prog X.w) A (setItem (.ref a) u r) (λ_ s'=>∃H',Inv X a_ Z H' s'/\R2 H') E s:=by
 obtain⟨vs,e,hl,dl⟩:=rm a _ q;subst hk;obtain⟨La,h1,h2,h3⟩:=nc (k:=k) (v:=v) (uY I e hl) dl hl dy;refine tz hu I (.inl ⟨_,k,e,rfl,?_,rfl⟩) Kp rv λs' I'=>⟨_,I',?_⟩
 ·rw[List.length_zip,hl,Nat.min_self,<-hl];exact hz
 ·have tw:TM X.K H (upd H a (.dK (fJ (ks.zip vs) k v))):=.put e (λ_ z=>by cases z) λ_ _ z=>by cases z
  exact c_ _ _ (rm.write (u:=.dk (aj ks k) (am ks ds k y)) e (λ_ z=>by cases z) (λ_ _ z=>by cases z) ⟨La,by rw[ag,h1],h2,h3.mono tw⟩) tw h
theorem AI{kt:List (List Int)}{k:List Int}{y:D}{v:V}{b:Addr}{R:MH->Prop}{R2:Hp->Prop}(hu:A.units+1<cLine)(I:Inv X a_ Z H s)(rm:RelM X.K M H)(q:M a=some (.dt kt ds))(sq:SqT X.K H b (k.map V.int))(dy:Den X.K H y v)(rv:RelV v r)(hz:kt.length<sizeLine)
  (h:R (put M a (.dt (aj kt k) (am kt ds k y)))) (c_:∀H' M',RelM X.K M' H'->TM X.K H H'->R M'->R2 H'):wpAny (model X.prog X.w) A (setItem (.ref a) (.ref b) r) (λ_ s'=>∃H',Inv X a_ Z H' s'/\R2 H') E s:=by
 obtain⟨vs,xs,e,z,dl⟩:=rm a _ q;have dd:=b8 I (.inl e) z;have nd:(xs.map (·.1)).Nodup:=by rw[z.kx];exact z.nd
 obtain⟨La,h1,h2,h3,h4⟩:=kC (k:=k) (b:=b) nd z.vx rv dl dy;rw[z.kx]at h1 h3;have hsz:xs.length<=sizeLine:=by
  have:=congrArg List.length z.kx;rw[Jh]at this;omega
 refine wpAny_setItem_heap (hsz:=hsz) (JI hu) (fx I sq) dd λh' Mz hs=>?_
 obtain⟨ob,es,ep,hq,hx,hd,he,_,_⟩:=Mz;have tw:TM X.K H (upd H a (.ext (dW a (storedH xs k b r)))):=.put e (λ_ z=>by cases z) λ_ _ z=>by cases z
 have tb:dW a (storedH xs k b r) h':=⟨ob,es,ep,hq,hx,hd,he⟩;have I':Inv X a_ Z (upd H a (.ext (dW a (storedH xs k b r)))) {s with heap:=h',toks:=s.toks+(tupleKind (intKind X.prog X.w)).draws k}:=
  jp I (by rw[e];exact True.intro) hs ⟨ob,hq⟩ ⟨tb,⟨ob,hq⟩,λg1 g2 ⟨o1,N7,N8,a1,a2,a3,a4⟩ kk=>⟨o1,N7,N8,kk _ a1,a2,a3,a4⟩⟩
 refine⟨_,I',c_ _ _ (rm.write (u:=.dt (aj kt k) (am kt ds k y)) e (λ_ z=>by cases z) (λ_ _ z=>by cases z) ⟨La,_,ag,⟨h1,jd z.nd,Jw bS hz,z.no,h2,λx Ly=>?_⟩,h3.mono tw⟩) tw h⟩
 rcases h4 x Ly with ⟨q1,q2⟩|⟨x',m,q1,q2⟩
 ·rw[q1,q2];exact tw.t _ _ sq
 ·rw[<-q1,<-q2];exact tw.t _ _ (z.at_ x' m)
end
end L2
namespace L2
open PySem PySem.Spec PyProof.Rows PySem.W
section
variable {A:Around}{s:Shared}{ob:Obj}{es:Array DictEntry}{e:DictEntry}
end
end L2
namespace L2
open PySem PySem.Spec PyProof.Rows
section
variable {X:Cx}
theorem yw(neg:Bool):VO X (compareOp (if neg=true then .IsNot else .Is)) (tD neg):=by
 intro a_ s Z H x y v u v2 u2 M Q Q2 I rv ru dx dy rm q c_;unfold tD at q;split at q
 ·cases (show u=.i_ from dy);cases neg with
  |true=>exact VO.of3 w5 a_ s Z H x .i_ v .i_ v2 u2 M Q Q2 I rv ru dx dy rm ⟨rfl,by rw[Bool.true_xor]at q;exact q⟩ c_
  |false=>exact VO.of3 Ft a_ s Z H x .i_ v .i_ v2 u2 M Q Q2 I rv ru dx dy rm ⟨rfl,by rw[Bool.false_xor]at q;exact q⟩ c_
 ·rename_i b;cases (show u=.bl b from dy);cases ru;have fin:∀k,Q (.bl k) M->EP X a_ Z Q2 (.bool k) s:=λk q=>⟨.bl k,H,I,rfl,c_ _ _ _ _ bG rm (.refl _) q⟩
  split at q
  ·rename_i a;cases (show v=.bl a from dx);cases rv;have e:((Value.bool a == Value.bool b):Bool)=(a == b):=by cases a<;>cases b<;>rfl
   cases neg with
   |true=>exact wpAny_isNot_plain rfl (by rw[e];rw[Bool.true_xor]at q;exact fin _ q)
   |false=>exact wpAny_is_plain rfl (by rw[e];rw[Bool.false_xor]at q;exact fin _ q)
  ·cases (show v=.i_ from dx);cases rv;cases neg with
   |true=>exact wpAny_isNot_other rfl (λz=>nomatch z) (fin _ q)
   |false=>exact wpAny_is_other rfl (λz=>nomatch z) (fin _ q)
  ·exact q.elim
 ·exact q.elim
theorem uO:∀{ds:List D}{us:List β},Paired R ds us->(∀d u,d∈ds->R d u->e u=f d)->us.any e=ds.any f
 |_,_,.nil,_=>rfl
 |d::ds,u::us,.cons r t,h=>by
  rw[List.any_cons,List.any_cons,h d u Jd r,uO t λd u hd=>h d u (IX _ hd)]
theorem lU{K:Kc}:∀{ds:List D}{vs:List V}{us:List Value},DenL K H ds vs->Vals vs us->Paired (λd u=>∃v,Den K H d v/\RelV v u) ds us
 |[],_,_,h,r=>by cases (show _=[] from h);cases r;exact .nil
 |d::ds,_,_,h,r=>by
  obtain⟨v,r',rfl,dv,dl⟩:=h;cases r with
  |cons r1 r2=>exact .cons ⟨v,dv,r1⟩ (lU dl r2)
theorem Paired.mem_right:∀{l:List α}{m:List β},Paired R l m->∀b∈m,∃a∈l,R a b
 |_,_,.nil,b,hb=>by cases hb
 |a::l,c::m,.cons r t,b,hb=>by
  rcases Jb.mp hb with rfl|hb
  ·exact⟨a,Jd,r⟩
  ·obtain⟨a',h1,h2⟩:=Paired.mem_right t b hb;exact⟨a',IX _ h1,h2⟩
theorem yO(hu:X.A.units+64<cLine)(neg:Bool):VO X (compareOp (if neg=true then .NotIn else .In)) (l6 neg):=by
 intro a_ s Z H x y v u v2 u2 M Q Q2 I rv ru dx dy rm q c_;unfold l6 at q;split at q
 ·rename_i ds SA;obtain⟨p1,p2,q⟩:=q;obtain⟨p,vs,rfl,hq,dl⟩:=iE rm SA dy;cases ru;obtain⟨H',I',t',d1⟩:=tV I rm dx p1;have N4:=dl.mono t';have fin:EP X a_ Z Q2 (.bool (neg ^^ ds.any λd=>eqD d (res M x))) s:=⟨.bl _,H,I,rfl,c_ _ _ _ _ bG rm (.refl _) q⟩
  classical
  have KQ:∀{its:List Value},Vals vs its->∃e:Value->Bool,its.any e=(ds.any λd=>eqD d (res M x))/\∀w∈its,SeqAt.EqAt X.A.in1 s w v2 (e w):=λ{its} r=>by
   have pd:=lU N4 r
   let e:Value->Bool:=λw=>if h:∃d∈ds,∃v,Den X.K H' d v/\RelV v w then eqD h.choose (res M x) else false
   have he:∀d w,d∈ds->(∃v,Den X.K H' d v/\RelV v w)->e w=eqD d (res M x):=λd w hd ⟨v',dv,Kp⟩=>by
    have h:∃d∈ds,∃v,Den X.K H' d v/\RelV v w:=⟨d,hd,v',dv,Kp⟩;obtain⟨hm,SD,MC,SE⟩:=h.choose_spec;have:SD=v':=SE.inj Kp;subst this;have e1:h.choose=d:=qY I' rfl 8 (JB.mp p2 _ hm) (JB.mp p2 _ hd) MC dv;show (if h:∃d∈ds,∃v,Den X.K H' d v/\RelV v w then eqD h.choose (res M x) else false)=_
    rw[dif_pos h,e1]
   refine⟨e,uO pd he,λw hw=>?_⟩
   obtain⟨d,hd,v',dv,Kp⟩:=Paired.mem_right pd w hw;rw[he d w hd ⟨v',dv,Kp⟩];exact (CM I' rfl 8 (A:=X.A.in1) (JB.mp p2 _ hd) p1 dv d1 Kp rv (by show X.A.units+1+8<cLine;omega)).2.2
  rcases hq with hq|hq
  ·obtain⟨its,r,M9,hz⟩:=I.list hq;obtain⟨e,e1,e2⟩:=KQ r;have ea:its.toArray.any e=ds.any λd=>eqD d (res M x):=by rw[<-e1];simp
   cases neg with
   |true=>exact SeqAt.notIn_listAt e M9.isList (λw hw=>e2 w (by simpa using hw)) (by rw[ea];rw[Bool.true_xor]at fin;exact fin)
   |false=>exact SeqAt.in_listAt e M9.isList (λw hw=>e2 w (by simpa using hw)) (by rw[ea];rw[Bool.false_xor]at fin;exact fin)
  ·obtain⟨its,r,M9,hz⟩:=I.tuple hq;obtain⟨e,e1,e2⟩:=KQ r;have ea:its.toArray.any e=ds.any λd=>eqD d (res M x):=by rw[<-e1];simp
   cases neg with
   |true=>exact SeqAt.notIn_tupleAt e M9 (λw hw=>e2 w (by simpa using hw)) (by rw[ea];rw[Bool.true_xor]at fin;exact fin)
   |false=>exact SeqAt.in_tupleAt e M9 (λw hw=>e2 w (by simpa using hw)) (by rw[ea];rw[Bool.false_xor]at fin;exact fin)
 ·split at q
  ·rename_i o e;obtain⟨a,ov,rfl,g,od⟩:=ir (X:=X) e rm dy dx;cases ru;refine Gf neg (by omega) I g rv λs' I'=>⟨.bl (neg ^^ ov.isSome),H,I',rfl,c_ _ _ (.bl _) _ bG rm (.refl _) ?_⟩
   have:o.isSome=ov.isSome:=by
    cases o<;>cases ov<;>first|rfl|exact od.elim
   rw[<-this];exact q
  ·exact q.elim
theorem mW(hu:X.A.units+64<cLine)(op:CmpOp):VO X (compareOp op) (au op):=by
 cases op with
 |Eq=>exact yL hu false
 |NotEq=>exact yL hu true
 |Lt=>exact (VO.of3 Gw).imp λ_ _ _ _ h=>iX h
 |LtE=>exact (VO.of3 Fw).imp λ_ _ _ _ h=>iX h
 |Gt=>exact (VO.of3 Gs).imp λ_ _ _ _ h=>iX h
 |GtE=>exact (VO.of3 F7).imp λ_ _ _ _ h=>iX h
 |Is=>exact yw false
 |IsNot=>exact yw true
 |In=>exact yO hu false
 |NotIn=>exact yO hu true
theorem lE{K:Kc}(h:DenL K H [d] vs):∃v,vs=[v]/\Den K H d v:=by
 obtain⟨v,r,rfl,dv,rfl⟩:=h;exact⟨v,rfl,dv⟩
noncomputable abbrev rLen0:=rBi .len
theorem wm:VC X (.builtin "len") rLen0:=(VC.of3 DP).imp λxs M Q h=>by
 simp only[rLen0,rBi]at h;split at h
 ·rename_i x;split at h
  ·rename_i ds e;refine⟨x,ds,rfl,?_,h⟩;cases x with
   |tup es=>exact .inr (by rw[show es=ds from Jn e])
   |g_ es=>exact .inl (.inl (by rw[show es=ds from Jn e]))
   |ref a=>
    cases q:M a with
    |none=>simp[az,ai,q]at e
    |some o=>
     cases o with
     |lst es=>exact .inl (.inr ⟨a,rfl,by rw[q];simp[az,ai,q]at e;rw[e]⟩)
     |_=>simp[az,ai,q]at e
   |_=>cases e
  ·exact h.elim
 ·exact h.elim
theorem Ad:VC X (.builtin "len") (rBi .len):=wm
theorem zz(hc:X.calm=true):VC X (.builtin "max") (rBi .max):=(VC.of3 (Cg hc)).imp λxs M Q h=>by
 simp only[rBi]at h;split at h
 ·exact⟨_,_,rfl,h⟩
 ·exact h.elim
theorem wK(fz:Bool)(hc:X.calm=true):VC X (.type "list") (rBi (.list fz)):=by
 intro a_ s Z H xs vs us M Q Q2 I r dl rm q c_;simp only[rBi]at q;split at q
 ·rename_i x;split at q
  ·rename_i ds e;obtain⟨v,rfl,dv⟩:=lE dl;obtain⟨p,vs,rfl,hq,Kz⟩:=iE rm e dv;refine thn (mJ a_ s Z H _ us (λw H'=>∃l,w=.ref l/\H l=none/\H'=upd H l (.lst vs)) I r ⟨p,vs,rfl,hq,λl hl=>⟨l,rfl,hl,rfl⟩⟩) λu s1 z_=>?_
   obtain⟨w,H1,I1,r1,l,e1,hl,e2⟩:=z_;subst e1;subst e2;cases r1;exact bR I1 hl Kz rm (.refl _) q c_
  ·exact q.elim
 ·exact q.elim
end
end L2
namespace L2
open PySem PySem.Spec PyProof.Rows PySem.W
theorem sX{s:Shared}{vs:List Value}{ps:List IP}(hl:s.heap.IsList l vs.toArray)(hv:Pv s.heap vs ps)(h5:ps.length<64)(hd:ps.Nodup)
  (h:∀is h' a c,SoI ps is->s.heap.objs.size<=a->(∀b o,s.heap.get? b=some o->h'.get? b=some o)->h'.get? a=some (seqObj "list" (c9 vs is).toArray c)->Q (.ref a) {s with heap:=h'}):wpAny (model prog w) A (call (.builtin "sorted") [.ref l]) Q E s:=by
 have hz:=hv.length;refine Calls.call_function_entry kind_sorted plain_sorted entry_sorted (args_sorted1 _) ?_;unfold Builtin.«sorted»;refine IU (m:=checkCount "sorted" 1 1 _) (IZ (IU (collect_list hl (IU (wpAny_newList ?_ (by rw[sizeLine_eq];omega))) (by rw[sizeLine_eq];omega))))
 have sz:((s.heap.push (seqObj "list" #[] 0)).update s.heap.objs.size (Obj.mapSeq (·++vs.toArray))).objs.size=s.heap.objs.size+1:=by rw[Heap.size_update,size_push']
 have k1:∀b o,s.heap.get? b=some o->((s.heap.push (seqObj "list" #[] 0)).update s.heap.objs.size (Obj.mapSeq (·++vs.toArray))).get? b=some o:=λb o q=>
  (Heap.get?_update_ne _ _ _ _ (Js (Jf q))).trans (IW _ q)
 generalize (s.heap.push (seqObj "list" #[] 0)).update s.heap.objs.size (Obj.mapSeq (·++vs.toArray))=H1 at sz k1 ⊢;have k2:∀b o,s.heap.get? b=some o->(H1.push (seqObj "list" vs.toArray 0)).get? b=some o:=λb o q=>IW _ (k1 b o q)
 have ho:(H1.push (seqObj "list" vs.toArray 0)).get? H1.objs.size=some (seqObj "list" vs.toArray 0):=Jp _ rfl;show wpAny _ _ _ _ _ {s with heap:=H1.push (seqObj "list" vs.toArray 0)}
 refine IU (JH (J7 slot_list_sort ⟨_,ho,rfl⟩ entry_list_sort ?_ (args_list_sort _)));refine o8 (s:={s with heap:=H1.push (seqObj "list" vs.toArray 0)}) ho (hv.keeps λb o g _=>k2 b o g) h5 hd λis so=>?_
 refine⟨_,rfl,IZ ⟨_,rfl,?_⟩⟩;have nb:∀b o,s.heap.get? b=some o->b≠H1.objs.size:=λb o g=>by rw[sz];exact Js (Nat.lt_succ_of_lt (Jf g))
 obtain⟨c,g⟩:∃c,(sortedHeap (H1.push (seqObj "list" vs.toArray 0)) H1.objs.size vs (c9 vs is).toArray).get? H1.objs.size=some (seqObj "list" (c9 vs is).toArray c):=by
  obtain⟨e1,g1⟩:∃e1,((H1.push (seqObj "list" vs.toArray 0)).update H1.objs.size (Obj.mapSeq λ_=>(#[]:Array Value))).get? H1.objs.size=some (seqObj "list" #[] e1):=⟨_,get?_update_seq ho λ_=>#[]⟩
  exact⟨_,get?_update_seq (IW _ (IW _ g1)) λ_=>(c9 vs is).toArray⟩
 refine h is _ _ c so (by rw[sz];omega) (λb o q=>?_) g
 unfold sortedHeap;rw[Jq _ _ (Ja (nb b o q))];exact IW _ (IW _ ((Jq _ _ (Ja (nb b o q))).trans (k2 b o q)))
theorem Cc{X:Cx}{s:Shared}(I:Inv X a_ Z H s):∀{ds:List D}{vs:List V}{us:List Value}{ps:List IP},dJ ds=some ps->DenL X.K H ds vs->Vals vs us->Pv s.heap us ps/\ds.length=ps.length:=by
 intro ds
 induction ds with
 |nil=>
  intro vs us ps h dl r;cases (show []=ps from Jn h);cases dl;cases r;exact⟨rfl,rfl⟩
 |cons d ds ih=>
  intro vs us ps h dl r;unfold dJ at h;split at h
  ·rename_i e;cases e
  ·rename_i a b Kl e;cases e;split at h
   ·rename_i SG hp;cases h;obtain⟨v,rs,rfl,dv,dl⟩:=dl;cases r with
    |cons rv r=>
     obtain⟨p1,p2⟩:=ih hp dl r;obtain⟨t,ws,rfl,sq,dw⟩:=dv;obtain⟨v1,r1,rfl,d1,v2,r2,rfl,d2,e3⟩:=dw;cases (show r2=[] from e3);cases (show v1=.int a from d1);cases (show v2=.int b from d2);cases rv;obtain⟨its,ri,⟨o,g,c,n,hd⟩,_⟩:=I.tuple sq;cases ri with
     |@cons _ u1 _ _ q1 ri=>
     cases ri with
     |@cons _ u2 _ _ q2 ri=>
     cases ri;obtain⟨t1,rfl⟩:=q1;obtain⟨t2,rfl⟩:=q2;exact⟨⟨(a,b),SG,rfl,⟨t,o,n,t1,t2,rfl,g,c,hd⟩,p1⟩,by rw[Jr,Jr,p2]⟩
   ·cases h
  ·cases h
theorem kY{vs:List V}{us:List Value}(r:Vals vs us):∀(is:List Nat),(∀i∈is,i<vs.length)->Vals (is.map λi=>vs.getD i .i_) (is.map λi=>us.getD i .none)
 |[],_=>.nil
 |i::is,h=>by
  refine .cons ?_ (kY r is λj hj=>h j (IX _ hj))
  have hi:=h i Jd;have e:vs[i]?=some (vs.getD i .i_):=by simp[hi]
  obtain⟨u,hu,ru⟩:=r.get e;have:us.getD i .none=u:=by rw[List.getD_eq_getElem?_getD,hu];rfl
  show RelV (vs.getD i .i_) (us.getD i .none);rw[this];exact ru
theorem og{K:Kc}{ds:List D}{vs:List V}(dl:DenL K H ds vs):∀(is:List Nat),(∀i∈is,i<ds.length)->DenL K H (is.map λi=>ds.getD i .i_) (is.map λi=>vs.getD i .i_)
 |[],_=>rfl
 |i::is,h=>by
  refine .cons ?_ (og dl is λj hj=>h j (IX _ hj))
  have hi:=h i Jd;have e:ds[i]?=some (ds.getD i .i_):=by simp[hi]
  obtain⟨v,hv,dv⟩:=dl.get e;have:vs.getD i .i_=v:=by rw[List.getD_eq_getElem?_getD,hv];rfl
  show Den K H (ds.getD i .i_) (vs.getD i .i_);rw[this];exact dv
theorem t8{ps:List IP}{is:List Nat}(h:SoI ps is):(is.map (atP ps)).Perm ps:=by
 have e:(List.range ps.length).map (atP ps)=ps:=List.ext_getElem (by simp) λi h1 h2=>by simp[h2]
 have:=h.1.map (atP ps)
 rwa [e]at this
theorem rG(fz:Bool):VC X (.builtin "sorted") (rBi (.sorted fz)):=by
 intro a_ s Z H xs vs us M Q Q2 I r dl rm q c_;simp only[rBi]at q;split at q
 ·rename_i x;split at q
  ·rename_i ds e;split at q
   ·rename_i ps hp;obtain⟨⟨h5,hd⟩,q⟩:=q;obtain⟨v,rfl,dv⟩:=lE dl;obtain⟨p,ws,rfl,hq,Kz⟩:=bg rm e dv;obtain⟨u,rfl,ru⟩:=jf r;cases ru;obtain⟨_,its,n,ri,_,g⟩:=I.rdL hq;obtain⟨pv,lz⟩:=Cc I hp Kz ri;refine sX (vs:=its) ⟨_,g,rfl,_,rfl⟩ pv h5 hd λis h' a c so ha k g'=>?_
    have hn:H a=none:=I.h_.fresh ha;have li:∀i∈is,i<ds.length:=λi hi=>by rw[lz];exact List.mem_range.mp (so.1.mem_iff.mp hi)
    have vr:=kY ri is (λi hi=>by rw[<-Kz.length];exact li i hi)
    have I1:Inv X a_ Z (upd H a (.lst (is.map λi=>ws.getD i .i_))) {s with heap:=h',toks:=s.toks}:=I.laid (o:=.lst (is.map λi=>ws.getD i .i_)) k ha ⟨by rw[Jh,so.1.length_eq,List.length_range,sizeLine_eq];omega,_,_,vr,g'⟩
    have dp:=og Kz is li;rw[show (is.map λi=>ds.getD i .i_)=(is.map (atP ps)).map prI from by
     rw[lp hp,JM];refine List.map_congr_left λi hi=>?_
     have:i<ps.length:=by rw[<-lz];exact li i hi
     simp[this]]at dp
    exact bR I1 hn dp rm (.refl _) (q _ (t8 so) so.2) c_
   ·exact q.elim
  ·exact q.elim
 ·exact q.elim
end L2
namespace L2
open PySem PySem.Spec PyProof.Rows
theorem ex9{α β γ δ:Sort _}{P1 P2 P3 P4 P5:α->β->γ->δ->Prop}{R:Prop}(h:∃a b c d,P1 a b c d/\P2 a b c d/\P3 a b c d/\P4 a b c d/\P5 a b c d)(k:∀a b c d,P1 a b c d->P2 a b c d->P3 a b c d->P4 a b c d->P5 a b c d->R):R:=
 h.elim λa h=>h.elim λb h=>h.elim λc h=>h.elim λd h=>k a b c d h.1 h.2.1 h.2.2.1 h.2.2.2.1 h.2.2.2.2
def GR(K:Kc)(r:D->D->MH->VK3->Prop):R2:=λv u H Q2=>∃x y M Q,Den K H x v/\Den K H y u/\RelM K M H/\r x y M Q/\Back K H Q Q2
def GA(K:Kc)(r:D->MH->VK3->Prop):V->Hp->VK->Prop:=λv H Q2=>∃x M Q,Den K H x v/\RelM K M H/\r x M Q/\Back K H Q Q2
def FX(K:Kc)(r:List D->MH->VK3->Prop):List V->Hp->VK->Prop:=λvs H Q2=>∃xs M Q,DenL K H xs vs/\RelM K M H/\r xs M Q/\Back K H Q Q2
section
variable {X:Cx}
theorem VO.op{f:Value->Value->Sem Value}{r:D->D->MH->VK3->Prop}(h:VO X f r):OpR X f (GR X.K r):=λa_ s Z H v u v2 u2 Q2 I rv ru ⟨x,y,M,Q,dx,dy,rm,q,c_⟩=>h a_ s Z H x y v u v2 u2 M Q Q2 I rv ru dx dy rm q c_
theorem VU.op{f:Value->Sem Value}{r:D->MH->VK3->Prop}(h:VU X f r):UnR X f (GA X.K r):=λa_ s Z H v v2 Q2 I rv ⟨x,M,Q,dx,rm,q,c_⟩=>h a_ s Z H x v v2 M Q Q2 I rv dx rm q c_
theorem VC.op{f:Value}{r:List D->MH->VK3->Prop}(h:VC X f r):CallR X f (FX X.K r):=λa_ s Z H vs us Q2 I rv ⟨xs,M,Q,dx,rm,q,c_⟩=>h a_ s Z H xs vs us M Q Q2 I rv dx rm q c_
end
section
variable {K:Kc}
theorem pe{ta tb:St3->MH->VK3->XN->Prop}{R3:D->D->MH->Prop}{R2:V->V->Hp->Prop}(rm:RelM K M H)(ds:DenS K H f_ Z)(lk:LkE K cls H E3 (E2 Z))
  (h:ta f_ M (λx M1=>tb f_ M1 (λy M2=>R3 x y M2) E3) E3) (k:∀v u H' x y M',Den K H' x v->Den K H' y u->RelM K M' H'->TM K H H'->R3 x y M'->R2 v u H') :
  low K cls E2 ta Z H λv H1=>low K cls E2 tb Z H1 λu H2=>R2 v u H2:=
 ⟨f_,M,_,E3,rm,ds,lk,h,λv H1 x M1 dv k_ t1 h1=>⟨f_,M1,_,E3,k_,ds.mono t1,lk.mono t1,h1,λu H2 y M2 du C_ t2 h2=>k v u H2 x y M2 (dv.mono t2) du C_ (t1.trans t2) h2⟩⟩
theorem bo{ta:St3->MH->VK3->XN->Prop}{R3:VK3}{R2:VK}(rm:RelM K M H)(ds:DenS K H f_ Z)(lk:LkE K cls H E3 (E2 Z))(h:ta f_ M R3 E3)(k:∀v H' x M',Den K H' x v->RelM K M' H'->TM K H H'->R3 x M'->R2 v H') :
  low K cls E2 ta Z H R2:=⟨f_,M,R3,E3,rm,ds,lk,h,k⟩
end
section
variable {X:Cx}{cls:Nat->Addr}{E2:St->XK}{a b c e:Expr}{ta tb tc te:St3->MH->VK3->XN->Prop}{pos:Pos}
theorem DB{i:Nat}{x:Str}(hN:X.N[i]?=some x)(hv:Vis X.env.scope x)(hd:(x == ("__debug__" : Str))=false)(Kx:(x == ("__classdict__" : Str))=false) :
  PE X (.Name x pos) (low X.K cls E2 λZ M Q _=>match Z[i]? with|some (some d)=>Q d M|_=>False):=
 (jV hN hv hd Kx).imp λZ H Q2 j_=>ex9 j_ λf_ M Q E3 rm ds lk h c_=>by
  try dsimp only at h
  split at h
  ·rename_i d e;obtain⟨v,e1,e2⟩:=ds.2 i d e;exact⟨v,e1,c_ _ _ _ _ e2 rm (.refl _) h⟩
  ·exact h.elim
theorem oP{v:V}{d:D}(h:PE X e (tC v))(hd:∀H,Den X.K H d v):PE X e (low X.K cls E2 λ_ M Q _=>Q d M):=
 h.imp λZ H Q2 j_=>ex9 j_ λf_ M Q E3 rm ds lk h c_=>c_ _ _ _ _ (hd H) rm (.refl _) h
theorem yZ{op:Operator}{r:D->D->MH->VK3->Prop}(ho:VO X (binaryOp op) r)(ha:PE X a (low X.K cls E2 ta))(hb:PE X b (low X.K cls E2 tb)) :
  PE X (.BinOp a op b pos) (low X.K cls E2 λZ M Q E=>ta Z M (λx M1=>tb Z M1 (λy M2=>r x y M2 Q) E) E):=
 (CY ho.op ha hb).imp λZ H Q2 j_=>ex9 j_ λf_ M Q E3 rm ds lk h c_=>pe rm ds lk h λv u H' x y M' dx dy s_ t q=>⟨x,y,M',Q,dx,dy,s_,q,c_.mono t⟩
theorem G2{op:UnaryOp}{r:D->MH->VK3->Prop}(ho:VU X (unaryOp op) r)(ha:PE X a (low X.K cls E2 ta)) :
  PE X (.UnaryOp op a pos) (low X.K cls E2 λZ M Q E=>ta Z M (λx M1=>r x M1 Q) E):=
 (Ej ho.op ha).imp λZ H Q2 j_=>ex9 j_ λf_ M Q E3 rm ds lk h c_=>bo rm ds lk h λv H' x M' dx s_ t q=>⟨x,M',Q,dx,s_,q,c_.mono t⟩
theorem DM{op:CmpOp}{r:D->D->MH->VK3->Prop}(ho:VO X (compareOp op) r)(ha:PE X a (low X.K cls E2 ta))(hb:PE X b (low X.K cls E2 tb))(hm:behindInMarks op b=false) :
  PE X (.Compare a [op] [b] pos) (low X.K cls E2 λZ M Q E=>ta Z M (λx M1=>tb Z M1 (λy M2=>r x y M2 Q) E) E):=
 (vN ho.op ha hb hm).imp λZ H Q2 j_=>ex9 j_ λf_ M Q E3 rm ds lk h c_=>pe rm ds lk h λv u H' x y M' dx dy s_ t q=>⟨x,y,M',Q,dx,dy,s_,q,c_.mono t⟩
abbrev boolQ(Q:Bool->MH->Prop):VK3:=λr M=>match r with
 |.bl k=>Q k M
 |_=>False
theorem lC{K:Kc}{H:Hp}{Q:Bool->MH->Prop}{Q2:Bool->Hp->Prop}(k:∀b H' M',RelM K M' H'->TM K H H'->Q b M'->Q2 b H'):Back K H (boolQ Q) λx H1=>∃k,x=.bl k/\Q2 k H1:=λv H' d M' dv rm t q=>by
 unfold boolQ at q;split at q
 ·exact⟨_,dv,k _ _ _ rm t q⟩
 ·exact q.elim
theorem Cf{op:CmpOp}{r:D->D->MH->VK3->Prop}(ho:VO X (compareOp op) r)(ha:PE X a (low X.K cls E2 ta))(hb:PE X b (low X.K cls E2 tb))(hm:behindInMarks op b=false) :
  PT X (.Compare a [op] [b] pos) (de X.K cls E2 λZ M Q E=>ta Z M (λx M1=>tb Z M1 (λy M2=>r x y M2 (boolQ Q)) E) E):=
 (xr ho.op ha hb hm).imp λZ H Q2 j_=>ex9 j_ λf_ M Q E3 rm ds lk h c_=>pe rm ds lk h λv u H' x y M' dx dy s_ t q=>⟨x,y,M',_,dx,dy,s_,q,(lC c_).mono t⟩
theorem Dk(ha:PE X a (low X.K cls E2 ta))(he:∀whole,isTrue a X.env whole=(do let v<-whole;standAt a.pos;holding [v] (truthy v))):PT X a (de X.K cls E2 λZ M Q E=>ta Z M (boolQ Q) E):=
 (yY ha he).imp λZ H Q2 j_=>ex9 j_ λf_ M Q E3 rm ds lk h c_=>bo rm ds lk h λv H' x M' dx s_ t q=>lC c_ v H' x M' dx s_ t q
variable {tA tB:St3->MH->(Bool->MH->Prop)->XN->Prop}{aC:List Expr}
theorem j2{K:Kc}{Z:St}{H:Hp}{f_:St3}{M:MH}{E3:XN}{R3:Bool->MH->Prop}{R2:Bool->Hp->Prop}(rm:RelM K M H)(ds:DenS K H f_ Z)(lk:LkE K cls H E3 (E2 Z))(h:tA f_ M R3 E3)(k:∀b H' M',RelM K M' H'->TM K H H'->R3 b M'->R2 b H') :
  de K cls E2 tA Z H R2:=⟨f_,M,R3,E3,rm,ds,lk,h,k⟩
theorem qS(ha:PT X a (de X.K cls E2 tA)):PW X (.BoolOp .And [a] pos) (de X.K cls E2 tA):=wM ha
theorem uA(ha:PT X a (de X.K cls E2 tA)):PW X (.BoolOp .Or [a] pos) (de X.K cls E2 tA):=zQ ha
theorem q9(ha:PT X a (de X.K cls E2 tA))(hb:PW X (.BoolOp .And (b::aC) pos) (de X.K cls E2 tB)) :
  PW X (.BoolOp .And (a::b::aC) pos) (de X.K cls E2 λZ M Q E=>tA Z M (λc M1=>if c=true then tB Z M1 Q E else Q false M1) E):=
 (Ab ha hb).imp λZ H Q2 j_=>ex9 j_ λf_ M Q E3 rm ds lk h c_=>j2 rm ds lk h λc H' M' s_ t q=>by
  cases c with
  |true=>rw[Jc rfl]at q ⊢;exact j2 s_ (ds.mono t) (lk.mono t) q λb H2 M2 r2 t2 q2=>c_ b H2 M2 r2 (t.trans t2) q2
  |false=>rw[IY Jx]at q ⊢;exact c_ _ _ _ s_ t q
theorem xX(ha:PT X a (de X.K cls E2 tA))(hb:PW X (.BoolOp .Or (b::aC) pos) (de X.K cls E2 tB)) :
  PW X (.BoolOp .Or (a::b::aC) pos) (de X.K cls E2 λZ M Q E=>tA Z M (λc M1=>if c=true then Q true M1 else tB Z M1 Q E) E):=
 (CU ha hb).imp λZ H Q2 j_=>ex9 j_ λf_ M Q E3 rm ds lk h c_=>j2 rm ds lk h λc H' M' s_ t q=>by
  cases c with
  |true=>rw[Jc rfl]at q ⊢;exact c_ _ _ _ s_ t q
  |false=>rw[IY Jx]at q ⊢;exact j2 s_ (ds.mono t) (lk.mono t) q λb H2 M2 r2 t2 q2=>c_ b H2 M2 r2 (t.trans t2) q2
theorem Dq(ha:PT X a (de X.K cls E2 tA)):PT X (.UnaryOp .Not a pos) (de X.K cls E2 λZ M Q E=>tA Z M (λc M1=>Q (!c) M1) E):=
 (AH ha).imp λZ H Q2 j_=>ex9 j_ λf_ M Q E3 rm ds lk h c_=>j2 rm ds lk h λc H' M' s_ t q=>c_ _ _ _ s_ t q
theorem yH(ha:PE X a (low X.K cls E2 ta))(hb:PE X (.BoolOp .And (b::aC) pos) (low X.K cls E2 tb)) :
  PE X (.BoolOp .And (a::b::aC) pos) (low X.K cls E2 λZ M Q E=>ta Z M (λx M1=>match x with|.bl c=>if c=true then tb Z M1 Q E else Q (.bl false) M1|_=>False) E):=
 (AB ha hb).imp λZ H Q2 j_=>ex9 j_ λf_ M Q E3 rm ds lk h c_=>bo rm ds lk h λv H' x M' dx s_ t q=>by
  split at q
  ·rename_i c;cases (show v=.bl c from dx);refine⟨c,rfl,?_⟩;cases c with
   |true=>rw[Jc rfl]at q ⊢;exact bo s_ (ds.mono t) (lk.mono t) q λv2 H2 x2 M2 d2 r2 t2 q2=>c_ v2 H2 x2 M2 d2 r2 (t.trans t2) q2
   |false=>rw[IY Jx]at q ⊢;exact c_ _ _ _ _ bG s_ t q
  ·exact q.elim
theorem CW(ha:PE X a (low X.K cls E2 ta))(hb:PE X (.BoolOp .Or (b::aC) pos) (low X.K cls E2 tb)) :
  PE X (.BoolOp .Or (a::b::aC) pos) (low X.K cls E2 λZ M Q E=>ta Z M (λx M1=>match x with|.bl c=>if c=true then Q (.bl true) M1 else tb Z M1 Q E|_=>False) E):=
 (Dm ha hb).imp λZ H Q2 j_=>ex9 j_ λf_ M Q E3 rm ds lk h c_=>bo rm ds lk h λv H' x M' dx s_ t q=>by
  split at q
  ·rename_i c;cases (show v=.bl c from dx);refine⟨c,rfl,?_⟩;cases c with
   |true=>rw[Jc rfl]at q ⊢;exact c_ _ _ _ _ bG s_ t q
   |false=>rw[IY Jx]at q ⊢;exact bo s_ (ds.mono t) (lk.mono t) q λv2 H2 x2 M2 d2 r2 t2 q2=>c_ v2 H2 x2 M2 d2 r2 (t.trans t2) q2
  ·exact q.elim
theorem CP(ha:PE X a (low X.K cls E2 ta)):PE X (.UnaryOp .Not a pos) (low X.K cls E2 λZ M Q E=>ta Z M (λx M1=>match x with|.bl c=>Q (.bl (!c)) M1|_=>False) E):=
 (zw ha).imp λZ H Q2 j_=>ex9 j_ λf_ M Q E3 rm ds lk h c_=>bo rm ds lk h λv H' x M' dx s_ t q=>by
  split at q
  ·rename_i c;cases (show v=.bl c from dx);exact⟨c,rfl,c_ _ _ _ _ bG s_ t q⟩
  ·exact q.elim
theorem FK(hc:PT X c (de X.K cls E2 tA))(ha:PE X a (low X.K cls E2 ta))(hb:PE X b (low X.K cls E2 tb)) :
  PE X (.IfExp c a b pos) (low X.K cls E2 λZ M Q E=>tA Z M (λk M1=>if k=true then ta Z M1 Q E else tb Z M1 Q E) E):=
 (vD hc ha hb).imp λZ H Q2 j_=>ex9 j_ λf_ M Q E3 rm ds lk h c_=>j2 rm ds lk h λk H' M' s_ t q=>by
  cases k with
  |true=>rw[Jc rfl]at q ⊢;exact bo s_ (ds.mono t) (lk.mono t) q λv2 H2 x2 M2 d2 r2 t2 q2=>c_ v2 H2 x2 M2 d2 r2 (t.trans t2) q2
  |false=>rw[IY Jx]at q ⊢;exact bo s_ (ds.mono t) (lk.mono t) q λv2 H2 x2 M2 d2 r2 t2 q2=>c_ v2 H2 x2 M2 d2 r2 (t.trans t2) q2
theorem vR{op KL:CmpOp}{r r':D->D->MH->VK3->Prop}(ho:VO X (compareOp op) r)(KJ:VO X (compareOp KL) r')(ha:PE X a (low X.K cls E2 ta))(hb:PE X b (low X.K cls E2 tb))(hc:PE X c (low X.K cls E2 tc))(hm:lastMarks [op,KL] [b,c]=false) :
  PE X (.Compare a [op,KL] [b,c] pos) (low X.K cls E2 λZ M Q E=>ta Z M (λx M1=>tb Z M1 (λy M2=>r x y M2 λz M3=>match z with
   |.bl k=>if k=true then tc Z M3 (λz M4=>r' y z M4 Q) E else Q (.bl false) M3
   |_=>False) E) E):=
 (tS ho.op KJ.op ha hb hc hm).imp λZ H Q2 j_=>ex9 j_ λf_ M Q E3 rm ds lk h c_=>pe rm ds lk h λv u H' x y M' dx dy s_ t q=>⟨x,y,M',_,dx,dy,s_,q,λw H1 z M1 dz k_ t1 q1=>by
  split at q1
  ·rename_i k;refine⟨k,dz,?_⟩;cases k with
   |true=>rw[Jc rfl]at q1 ⊢;exact bo k_ ((ds.mono t).mono t1) ((lk.mono t).mono t1) q1 λv2 H2 x2 M2 d2 r2 t2 q2=>⟨y,x2,M2,Q,(dy.mono t1).mono t2,d2,r2,q2,(c_.mono t).mono (t1.trans t2)⟩
   |false=>rw[IY Jx]at q1 ⊢;exact c_ _ _ _ _ bG k_ (t.trans t1) q1
  ·exact q1.elim⟩
variable {es:List Expr}{tr:St3->MH->(List D->MH->Prop)->XN->Prop}
theorem eV{K:Kc}{Z:St}{H:Hp}{f_:St3}{M:MH}{E3:XN}{R3:List D->MH->Prop}{R2:List V->Hp->Prop}(rm:RelM K M H)(ds:DenS K H f_ Z)(lk:LkE K cls H E3 (E2 Z))(h:tr f_ M R3 E3)(k:∀vs H' xs M',DenL K H' xs vs->RelM K M' H'->TM K H H'->R3 xs M'->R2 vs H') :
  dY K cls E2 tr Z H R2:=⟨f_,M,R3,E3,rm,ds,lk,h,k⟩
theorem B8:PA X [] (dY X.K cls E2 λ_ M Q _=>Q [] M):=pa_nil.imp λZ H Q2 j_=>ex9 j_ λf_ M Q E3 rm ds lk h c_=>c_ _ _ _ _ .nil rm (.refl _) h
theorem zt(ha:PE X e (low X.K cls E2 te))(hr:PA X es (dY X.K cls E2 tr))(hs:starEach (e::es) X.env=(false,eval e X.env)::starEach es X.env) :
  PA X (e::es) (dY X.K cls E2 λZ M Q E=>te Z M (λx M1=>tr Z M1 (λxs M2=>Q (x::xs) M2) E) E):=
 (aB ha hr hs).imp λZ H Q2 j_=>ex9 j_ λf_ M Q E3 rm ds lk h c_=>bo rm ds lk h λv H1 x M1 dx k_ t1 q1=>eV k_ (ds.mono t1) (lk.mono t1) q1 λvs H2 xs M2 dl C_ t2 q2=>c_ _ _ _ _ (.cons (dx.mono t2) dl) C_ (t1.trans t2) q2
theorem B3{x1}(h:PA X es (dY X.K cls E2 tr)):PE X (.Tuple es x1 pos) (low X.K cls E2 λZ M Q E=>tr Z M (λxs M1=>xs.length<=sizeLine/\Q (.tup xs) M1) E):=
 (Bv h).imp λZ H Q2 j_=>ex9 j_ λf_ M Q E3 rm ds lk h c_=>eV rm ds lk h λvs H' xs M' dl s_ t ⟨z,q⟩=>⟨by rw[<-dl.length];exact z,λp hp=>
  c_ _ _ _ _ (wo (.of ag) (dl.mono (.new hp))) (s_.grow hp) (t.trans (.new hp)) q⟩
theorem Et{t2:TE}(h:PE X e t2){t:St3->MH->VK3->XN->Prop}{fz:Bool}
  (f:∀Z H f_ M Q E3 (R2:VK),RelM X.K M H->DenS X.K H f_ Z->LkE X.K cls H E3 (E2 Z)->t f_ M Q E3->(∀H' vs ds M' p,H' p=none->DenL X.K H' ds vs->RelM X.K M' H'->TM X.K H H'->cf fz ds M' Q->R2 (.ref p) (upd H' p (.lst vs)))->t2 Z H R2):PE X e (low X.K cls E2 t):=by
 refine λa_ s Z H Q2 I j_=>ex9 j_ λf_ M Q E3 rm ds lk q c_=>?_
 refine thn (h a_ s Z H (λv H1=>∃p H' vs ds M',v=.ref p/\H1=upd H' p (.lst vs)/\H' p=none/\DenL X.K H' ds vs/\RelM X.K M' H'/\TM X.K H H'/\cf fz ds M' Q) I
  (f Z H f_ M Q E3 _ rm ds lk q λH' vs ds M' p hp dl s_ t' n=>⟨p,H',vs,ds,M',rfl,rfl,hp,dl,s_,t',n⟩)) λu s1 ⟨v,H1,I1,r1,p,H',vs,Kl,M',e1,e2,hp,dl,s_,t',n⟩=>?_
 subst e1;subst e2;cases r1;exact bR I1 hp dl s_ t' n c_
theorem Cb(h:PA X es (dY X.K cls E2 tr)):PE X (.List es pos) (low X.K cls E2 λZ M Q E=>tr Z M (λxs M1=>cf fz xs M1 Q) E):=
 Et (fz:=fz) (AL h) λZ H f_ M Q E3 R2 rm ds lk q k=>eV rm ds lk q λvs H' xs M' dl s_ t n=>⟨by rw[<-dl.length];exact n.1,λp hp=>k H' vs xs M' p hp dl s_ t n⟩
theorem BH(hu:X.A.units+64<cLine):IxR X (λv u H Q2=>∃x y M Q,Den X.K H x v/\Den X.K H y u/\RelM X.K M H/\aq x y M Q/\Back X.K H Q Q2):=by
 intro value Km a_ s Z H v u v2 u2 Q2 I rv ru ⟨x,y,M,Q,dx,dy,rm,q,c_⟩ hs;unfold aq at q;split at q
 ·rename_i es e;split at q
  ·rename_i i;cases (show u=.int i from dy);split at q
   ·rename_i d e2;obtain⟨p,vs,rfl,hq,dl⟩:=iE rm e dx;obtain⟨w,e4,e5⟩:=vX dl e2;refine zR value Km a_ s Z H _ _ v2 u2 Q2 I rv ru ?_ hs;rcases hq with hq|hq
    ·exact .inl ⟨p,vs,i,w,rfl,rfl,hq,e4,c_ _ _ _ _ e5 rm (.refl _) q⟩
    ·exact .inr (.inl ⟨p,vs,i,w,rfl,rfl,hq,e4,c_ _ _ _ _ e5 rm (.refl _) q⟩)
   ·exact q.elim
  ·exact q.elim
 ·split at q
  ·rename_i d e;obtain⟨a,ov,rfl,g,od⟩:=ir (X:=X) e rm dx dy;cases rv;cases ov with
   |none=>exact od.elim
   |some w=>exact tail_any (g.isDict I) PySem.F.slot_dict_getitem.lookup (sQ (by omega) I g rfl ru λw' s' I' Kp=>⟨w,H,I',Kp,c_ _ _ _ _ od rm (.refl _) q⟩) hs
  ·exact q.elim
  ·exact q.elim
theorem GZ(hu:X.A.units+64<cLine)(ha:PE X a (low X.K cls E2 ta))(hb:PE X b (low X.K cls E2 tb))(hs:l8 b):PE X (.Subscript a b pos) (low X.K cls E2 λZ M Q E=>ta Z M (λx M1=>tb Z M1 (λy M2=>aq x y M2 Q) E) E):=
 (CL (BH hu) ha hb hs).imp λZ H Q2 j_=>ex9 j_ λf_ M Q E3 rm ds lk h c_=>pe rm ds lk h λv u H' x y M' dx dy s_ t q=>⟨x,y,M',Q,dx,dy,s_,q,c_.mono t⟩
variable {lo hi:Option Expr}{tl th:St3->MH->(Option Int->MH->Prop)->XN->Prop}{p2:Pos}
theorem Gj:PO X none (ss X.K cls E2 λ_ M Q _=>Q none M):=po_none.imp λZ H Q2 j_=>ex9 j_ λf_ M Q E3 rm ds lk h c_=>c_ _ _ _ rm (.refl _) h
theorem D9(h:PE X e (low X.K cls E2 te)):PO X (some e) (ss X.K cls E2 λZ M Q E=>te Z M (λx M1=>match x with|.int i=>Q (some i) M1|_=>False) E):=
 (wI h).imp λZ H Q2 j_=>ex9 j_ λf_ M Q E3 rm ds lk h c_=>bo rm ds lk h λv H1 x M1 dx k_ t1 q1=>by
  split at q1
  ·exact⟨_,dx,c_ _ _ _ k_ t1 q1⟩
  ·exact q1.elim
theorem yl{t:St3->MH->(Option Int->MH->Prop)->XN->Prop}{K:Kc}{Z:St}{H:Hp}{f_:St3}{M:MH}{E3:XN}{R3:Option Int->MH->Prop}{R2:Option Int->Hp->Prop}(rm:RelM K M H)(ds:DenS K H f_ Z)(lk:LkE K cls H E3 (E2 Z))(h:t f_ M R3 E3)(k:∀o H' M',RelM K M' H'->TM K H H'->R3 o M'->R2 o H') :
  ss K cls E2 t Z H R2:=⟨f_,M,R3,E3,rm,ds,lk,h,k⟩
theorem Er(ha:PE X a (low X.K cls E2 ta))(hb:PE X b (low X.K cls E2 tb)) :
  PE X (.BinOp a .Add b pos) (low X.K cls E2 λZ M Q E=>ta Z M (λx M1=>tb Z M1 (λy M2=>dn fz x y M2 Q) E) E):=yZ (zD fz) ha hb
theorem C8(h:PE X e (low X.K cls E2 te)):PE X e (low X.K cls E2 λZ M Q E=>te Z M (be Q) E):=by
 refine λa_ s Z H Q2 I j_=>ex9 j_ λf_ M Q E3 rm ds lk q c_=>?_
 refine thn (h a_ s Z H (λv H1=>∃d M1,Den X.K H1 d v/\RelM X.K M1 H1/\TM X.K H H1/\be Q d M1) I ⟨f_,M,_,E3,rm,ds,lk,q,λv H' d M' a b c e=>⟨d,M',a,b,c,e⟩⟩) λu s1 z_=>?_
 obtain⟨v,H1,I1,r1,d,M1,dv,k_,t1,q1⟩:=z_;obtain⟨H2,M2,d2,I2,t2,C_,MC,q2⟩:=ju I1 k_ dv q1;exact⟨v,H2,I2,r1,c_ _ _ _ _ MC C_ (t1.trans t2) q2⟩
theorem BG(h:PE X e (low X.K cls E2 te)):PE X e (low X.K cls E2 λZ M Q E=>te Z M (jg Q) E):=by
 refine λa_ s Z H Q2 I j_=>ex9 j_ λf_ M Q E3 rm ds lk q c_=>?_
 refine thn (h a_ s Z H (λv H1=>∃d M1,Den X.K H1 d v/\RelM X.K M1 H1/\TM X.K H H1/\jg Q d M1) I ⟨f_,M,_,E3,rm,ds,lk,q,λv H' d M' a b c e=>⟨d,M',a,b,c,e⟩⟩) λu s1 z_=>?_
 obtain⟨v,H1,I1,r1,d,M1,dv,k_,t1,q1⟩:=z_;have q1:be Q d M1:=by
  unfold jg at q1;split at q1
  ·split at q1
   ·rename_i a Kl e;simp only[be,e];exact q1
   ·exact q1.elim
  ·exact q1.elim
 obtain⟨H2,M2,d2,I2,t2,C_,MC,q2⟩:=ju I1 k_ dv q1;exact⟨v,H2,I2,r1,c_ _ _ _ _ MC C_ (t1.trans t2) q2⟩
end
theorem uZ{K:Kc}(h:CX1 P w outer H s (λc d H'=>TM K H H'->E c d H') e s'):CX1 P w outer H s E e s':=by
 obtain⟨a,cls,B,H',dx,h1,h2,h3,un,h_,fl,ha,K6,he⟩:=h;exact⟨a,cls,B,H',dx,h1,h2,h3,un,h_,fl,ha,K6,he (.un un.tups un.D_)⟩
section
variable {X:Cx}{cls:Nat->Addr}{E2:St->XK}{k:Nat}{f:Addr}{fd:FuncData}{ps:List Str}{x:Str}{p pos:Pos}{e:Expr}{es:List Expr}{tr:St3->MH->(List D->MH->Prop)->XN->Prop}{t3:List D->MH->VK3->XN->Prop}
noncomputable def spX(K:Kc)(cls:Nat->Addr)(t3:List D->MH->VK3->XN->Prop):Sp:=λvs H Q E=>∃ds M Q3 E3,DenL K H ds vs/\RelM K M H/\t3 ds M Q3 E3/\Back K H Q3 Q/\LkE K cls H E3 E
def BdT(K:Kc)(cls:Nat->Addr)(fd:FuncData)(ps:List Str)(t3:List D->MH->VK3->XN->Prop)(sp:Sp):Prop:=∀vs H Q E,spX K cls t3 vs H Q E->∃M_ ds,Vals M_ ds/\Binds K fd ps ds/\sp (vs++M_) H Q E
theorem im(F:FnOk X.prog X.w X.K X.mg X.base (CX1 X.prog X.w) k f fd ps sp)(hr:Room k X.A)(hb:BdT X.K cls fd ps t3 sp)(hx:aO (CX1 X.prog X.w) X E2)
  (I:Inv X a_ Z H s)(r:Vals vs us) (h:spX X.K cls t3 vs H Q (λc d H'=>TM X.K H H'->E2 Z c d H')):wpAny (model X.prog X.w) X.A (call (.ref f) us) (EP X a_ Z Q) X.xe s:=by
 obtain⟨M_,Na,hv,bd,h'⟩:=hb _ _ _ _ h;have r2:Vals (vs++M_) (us++Na):=r.append hv;have hl:(us++Na).length=ps.length:=by rw[<-r2.length];exact F.len _ _ _ _ h'
 refine wpAny_call (codeAny_mono (F.run X.A X.stack s H ⟨us,[]⟩ (us++Na) (vs++M_) Q _ hr I.env0 (bd s us I.kIn hl) r2 h') λz s' hq=>?_)
 match z,hq with
 |.error e,hq=>exact hx a_ Z H s e s' I (uZ hq)
 |.ok (.ret u),hq=>exact I.after hq
 |.ok .next,hq=>exact hq.elim
 |.ok .brk,hq=>exact hq.elim
 |.ok .cont,hq=>exact hq.elim
theorem kA{Z:St}{H:Hp}{xs:List D}{vs:List V}{M:MH}{Q:VK3}{Q2:VK}{E3:XN}(dl:DenL X.K H xs vs)(rm:RelM X.K M H)(lk:LkE X.K cls H E3 (E2 Z))(q:t3 xs M Q E3)(c_:Back X.K H Q Q2) :
  spX X.K cls t3 vs H Q2 (λc d H'=>TM X.K H H'->E2 Z c d H'):=
 ⟨xs,M,Q,E3,dl,rm,q,c_,λi M' H' t s_ q dx xd _=>lk i M' H' t s_ q dx xd⟩
theorem As(F:FnOk X.prog X.w X.K X.mg X.base (CX1 X.prog X.w) k f fd ps sp)(hr:Room k X.A)(hg:Gl X x)(hm:X.mg x=some (.ref f))(hk:PySem.W.keepIn X.K (.ref f)=true)(hb:BdT X.K cls fd ps t3 sp)(hx:aO (CX1 X.prog X.w) X E2)
  (ha:PA X (e::es) (dY X.K cls E2 tr)) (A_:(x == ("__debug__" : Str))=false) (he:starEach (e::es) X.env=(false,eval e X.env)::starEach es X.env) (E_:(backTo pos (starEach es X.env)).any (·.1)=false) :
  PE X (.Call (.Name x p) (e::es) [] pos) (low X.K cls E2 λZ M Q E=>tr Z M (λxs M1=>t3 xs M1 Q E) E):=λa_ s Z H Q2 I j_=>ex9 j_ λf_ M Q E3 rm ds lk h c_=>
 wpAny_Call_Name_kw (bF I hg hm (PySem.W.callWith_K (h₀:=X.base) I.ok.mod.kin hk (thn (ha pos a_ s Z H _ I (eV (R2:=λvs H1=>spX X.K cls t3 vs H1 Q2 (λc d H'=>TM X.K H1 H'->E2 Z c d H')) rm ds lk h
  λvs H1 xs M1 dl k_ t1 q1=>kA dl k_ (lk.mono t1) q1 (c_.mono t1))) λus s1 ⟨vs,H1,I1,r,q⟩=>⟨I1.kIn,im F hr hb hx I1 r q⟩) he E_) A_)
theorem wg(F:FnOk X.prog X.w X.K X.mg X.base (CX1 X.prog X.w) k f fd ps sp)(hr:Room k X.A)(hg:Gl X x)(hm:X.mg x=some (.ref f))(hk:PySem.W.keepIn X.K (.ref f)=true)(hb:BdT X.K cls fd ps t3 sp)(hx:aO (CX1 X.prog X.w) X E2)(A_:(x == ("__debug__" : Str))=false) :
  PE X (.Call (.Name x p) [] [] pos) (low X.K cls E2 λZ M Q E=>t3 [] M Q E):=λa_ s Z H Q2 I j_=>ex9 j_ λf_ M Q E3 rm ds lk h c_=>
 wpAny_Call_Name_kw (bF I hg hm (PySem.W.callWith_K0 I.kIn hk (im (us:=[]) F hr hb hx I .nil (kA (xs:=[]) .nil rm lk h c_))) A_)
theorem iC{id:String}(hc:VC X (.builtin id) r)(hg:Gl X x)(hm:X.mg x=none)(hv:bootBuiltins x=some (.builtin id))(ha:PA X (e::es) (dY X.K cls E2 tr))(hn:x≠"__name__")(A_:(x == ("__debug__" : Str))=false)
  (he:starEach (e::es) X.env=(false,eval e X.env)::starEach es X.env) (E_:(backTo pos (starEach es X.env)).any (·.1)=false):PE X (.Call (.Name x p) (e::es) [] pos) (low X.K cls E2 λZ M Q E=>tr Z M (λxs M1=>r xs M1 Q) E):=
 (fq hc.op hg hm hv ha hn A_ he E_).imp λZ H Q2 j_=>ex9 j_ λf_ M Q E3 rm ds lk h c_=>eV rm ds lk h λvs H1 xs M1 dl k_ t1 q1=>⟨xs,M1,Q,dl,k_,q1,c_.mono t1⟩
theorem wG(hc:VC X (.type T) r)(hg:Gl X x)(hm:X.mg x=none)(hv:bootBuiltins x=some (.type T))(ha:PA X (e::es) (dY X.K cls E2 tr))(hn:x≠"__name__")(A_:(x == ("__debug__" : Str))=false)
  (he:starEach (e::es) X.env=(false,eval e X.env)::starEach es X.env) (E_:(backTo pos (starEach es X.env)).any (·.1)=false):PE X (.Call (.Name x p) (e::es) [] pos) (low X.K cls E2 λZ M Q E=>tr Z M (λxs M1=>r xs M1 Q) E):=
 (sf hc.op hg hm hv ha hn A_ he E_).imp λZ H Q2 j_=>ex9 j_ λf_ M Q E3 rm ds lk h c_=>eV rm ds lk h λvs H1 xs M1 dl k_ t1 q1=>⟨xs,M1,Q,dl,k_,q1,c_.mono t1⟩
noncomputable def cx:BT->String
 |.int=>"int"|.bool=>"bool"|.str=>"str"|.tuple=>"tuple"|.list=>"list"|.dict=>"dict"
theorem AX{a_:List (Addr×Obj)}{Z:St}{H:Hp}{s:Shared}{A:Around}{Ex:Value->Shared->Prop}{t:BT}{x:D}{v:V}{v2:Value}{M:MH}{Q:VK3}{Q2:VK}(I:Inv X a_ Z H s)(rv:RelV v v2)(dx:Den X.K H x v)(rm:RelM X.K M H)(q:hW t x M Q)(c_:Back X.K H Q Q2) :
  wpAny (model X.prog X.w) A (call (.builtin "isinstance") [v2,.type (cx t)]) (EP X a_ Z Q2) Ex s:=by
 have fin:∀b,Q (.bl b) M->∀tk,EP X a_ Z Q2 (.bool b) {s with toks:=tk}:=λb q tk=>⟨.bl b,H,I.tok _,rfl,c_ _ _ _ _ bG rm (.refl _) q⟩
 cases x with
 |i_=>cases (show v=.i_ from dx);cases rv;cases t<;>exact PySem.W.kia_one PySem.W.kitx_none I.kIn True.intro rfl (λz=>nomatch z) (fin _ q)
 |bl b=>cases (show v=.bl b from dx);cases rv;cases t<;>exact PySem.W.kia_one PySem.W.kitx_bool I.kIn True.intro rfl (λz=>nomatch z) (fin _ q)
 |int i=>cases (show v=.int i from dx);obtain⟨tk,rfl⟩:=rv;cases t<;>exact PySem.W.kia_one PySem.W.kitx_int I.kIn True.intro rfl (λz=>nomatch z) (fin _ q)
 |str i=>cases (show v=.str i from dx);obtain⟨tk,rfl⟩:=rv;cases t<;>exact PySem.W.kia_one PySem.W.kitx_str I.kIn True.intro rfl (λz=>nomatch z) (fin _ q)
 |tup ds=>
  obtain⟨a,vs,rfl,sq,_⟩:=dx;cases rv;obtain⟨its,_,tt,_⟩:=I.tuple sq;obtain⟨o,h1,h2,_⟩:=(show s.heap.IsTuple a its.toArray from tt);cases t<;>exact PySem.W.kia_one PySem.W.kitx_tuple I.kIn ⟨o,h1,h2⟩ rfl (λz=>nomatch z) (fin _ q)
 |g_ ds=>
  obtain⟨a,vs,rfl,sq,_⟩:=dx;cases rv;obtain⟨_,its,n,_,_,h1⟩:=I.rdL sq.rd;cases t<;>exact PySem.W.kia_one PySem.W.kitx_list I.kIn ⟨_,h1,rfl⟩ rfl (λz=>nomatch z) (fin _ q)
 |ref a=>
  cases (show v=.ref a from dx);cases rv;simp only[hW]at q;split at q
  ·rename_i ds e;obtain⟨vs,e1,_⟩:=rm a _ e;obtain⟨_,its,n,_,_,h1⟩:=I.rdL (.inl (.inl e1));cases t<;>exact PySem.W.kia_one PySem.W.kitx_list I.kIn ⟨_,h1,rfl⟩ rfl (λz=>nomatch z) (fin _ q)
  ·rename_i ks ds e;obtain⟨vs,e1,_,_⟩:=rm a _ e;obtain⟨_,_,_,_,o,_,_,h1,h2,_⟩:=I.h_ a _ e1;cases t<;>exact PySem.W.kia_one PySem.W.kitx_dict I.kIn ⟨o,h1,h2.1⟩ rfl (λz=>nomatch z) (fin _ q)
  ·rename_i ks ds e;obtain⟨vs,xs,e1,_⟩:=rm a _ e;obtain⟨⟨o,es,ep,h1,h2,_⟩,_⟩:=(show ObjOk X.prog X.w H s.heap a (.ext (dW a xs)) from I.h_ a _ e1);cases t<;>exact PySem.W.kia_one PySem.W.kitx_dict I.kIn ⟨o,h1,h2.1⟩ rfl (λz=>nomatch z) (fin _ q)
  ·exact q.elim
 |Ln ks ds=>
  obtain⟨a,vs,ob,rfl,e1,_⟩:=dx;cases rv;obtain⟨_,_,_,ws,_,p⟩:=(show ObjOk X.prog X.w H s.heap a (.t_ ob (.dK (ks.zip vs))) from I.h_ a _ e1);obtain⟨o,es,ep,h1,h2,_⟩:=p;cases t<;>exact PySem.W.kia_one PySem.W.kitx_dict I.kIn ⟨o,h1,h2.1⟩ rfl (λz=>nomatch z) (fin _ q)
 |K_ ks ds=>
  obtain⟨a,vs,ob,xs,rfl,e1,_⟩:=dx;cases rv;obtain⟨_,⟨o,es,ep,h1,h2,_⟩,_⟩:=(show ObjOk X.prog X.w H s.heap a (.t_ ob (.ext (dW a xs))) from I.h_ a _ e1);cases t<;>exact PySem.W.kia_one PySem.W.kitx_dict I.kIn ⟨o,h1,h2.1⟩ rfl (λz=>nomatch z) (fin _ q)
 |obj i C ns ds=>exact (show False from q).elim
theorem Dp(ha:PE X e (low X.K cls E2 te))(hg:Gl X "isinstance")(hm:X.mg "isinstance"=none)(N9:Gl X (cx t))(N_:X.mg (cx t)=none)(hs:starEach (e::[.Name (cx t) p2]) X.env=(false,eval e X.env)::starEach [.Name (cx t) p2] X.env) :
  PE X (.Call (.Name "isinstance" p) [e,.Name (cx t) p2] [] pos) (low X.K cls E2 λZ M Q E=>te Z M (λx M1=>hW t x M1 Q) E):=by
 have hT:PE X (.Name (cx t) p2) (tC (.ty (cx t))):=by
  cases t<;>exact wa N9 N_ (by decide +kernel) rfl
 have hc:CallR X (.builtin "isinstance") (λvs H Q2=>∃x v M Q,vs=[v,.ty (cx t)]/\Den X.K H x v/\RelM X.K M H/\hW t x M Q/\Back X.K H Q Q2):=by
  refine λa_ s Z H vs us Q2 I r j_=>ex9 j_ λx v M Q e dx rm q c_=>?_
  subst e;obtain⟨u,w,rfl,ru,rw⟩:=Vals.two r;cases (show w=Value.type (cx t) from rw);exact AX I ru dx rm q c_
 refine (fq hc hg hm (by decide +kernel) (aB ha (aB hT pa_nil (by rfl)) hs) (by decide +kernel) (by decide +kernel) hs (by rfl)).imp λZ H Q2 j_=>ex9 j_ λf_ M Q E3 rm ds lk h c_=>?_
 exact bo rm ds lk h λv H1 x M1 dx k_ t1 q1=>⟨x,v,M1,Q,rfl,dx,k_,q1,c_.mono t1⟩
end
section
variable {X:Cx}
theorem Aw{K:Kc}(sq:SqT K H0 p vs)(dl:DenL K H0 ds vs):ItOk K H0 (Itt K p) ds (λ_=>True):=by
 refine⟨λi H M t rm s hi=>?_,λi H M x H' t rm s hi y=>?_,λH M t rm s=>?_⟩
 ·have KY:i<vs.length:=by rw[<-dl.length];exact hi
  exact⟨vs,vs[i],t.t _ _ sq,by simp[KY]⟩
 ·obtain⟨e,y⟩:=y;subst e;obtain⟨d,e1,e2⟩:=(dl.mono t).get' (y vs (t.t _ _ sq));exact⟨.refl _,rm,d,e1,e2⟩
 ·exact⟨vs,t.t _ _ sq,by rw[dl.length];exact Jg _⟩
theorem AY{K:Kc}(sq:SqF K H0 p vs)(dl:DenL K H0 ds vs):ItOk K H0 (Itl K p) ds (λ_=>True):=by
 refine⟨λi H M t rm s hi=>?_,λi H M x H' t rm s hi y=>?_,λH M t rm s=>?_⟩
 ·have KY:i<vs.length:=by rw[<-dl.length];exact hi
  exact⟨vs,vs[i],(t.f _ _ sq).sq,by simp[KY]⟩
 ·obtain⟨e,y⟩:=y;subst e;obtain⟨d,e1,e2⟩:=(dl.mono t).get' (y vs (t.f _ _ sq).sq);exact⟨.refl _,rm,d,e1,e2⟩
 ·exact⟨vs,(t.f _ _ sq).sq,by rw[dl.length];exact Jg _⟩
theorem AU{K:Kc}:ItOk K H0 (Itl K p) ds (λM=>M p=some (.lst ds)):=by
 refine⟨λi H M t rm s hi=>?_,λi H M x H' t rm s hi y=>?_,λH M t rm s=>?_⟩
 ·obtain⟨vs,e,dl⟩:=rm p _ s;have KY:i<vs.length:=by rw[<-dl.length];exact hi
  exact⟨vs,vs[i],.of e,by simp[KY]⟩
 ·obtain⟨vs,e,dl⟩:=rm p _ s;obtain⟨e',y⟩:=y;subst e';obtain⟨d,e1,e2⟩:=dl.get' (y vs (.of e));exact⟨.refl _,rm,d,e1,e2⟩
 ·obtain⟨vs,e,dl⟩:=rm p _ s;exact⟨vs,.of e,by rw[dl.length];exact Jg _⟩
theorem lQ(I:Inv X a_ Z H s)(hq:SqL X.K H a xs)(q:R (Itl X.K a) H):wpAny (model X.prog X.w) X.A (pyIter (.ref a)) (PIE X a_ Z tg R) Ex s:=by
 obtain⟨its,rv,p,hz⟩:=I.list hq;refine wpAny_pyIter_list p.isList ?_;refine⟨s.heap.objs.size,[s.heap.objs.size],_,_,H,rfl,I.kept (t':=s.toks) λb o e=>IW _ e,rX a _,⟨_,Jp _ rfl,rfl,rfl⟩,λb hb=>?_,q⟩
 have e:b=s.heap.objs.size:=by simpa using hb
 subst e;exact I.fpOk (Jg _) (I.h_.fresh (Jg _))
theorem tO(I:Inv X a_ Z H s)(hq:SqT X.K H a xs)(q:R (Itt X.K a) H):wpAny (model X.prog X.w) X.A (pyIter (.ref a)) (PIE X a_ Z tg R) Ex s:=by
 obtain⟨its,rv,p,hz⟩:=I.tuple hq;refine wpAny_pyIter_tuple (show s.heap.IsTuple a its.toArray from p) ?_;refine⟨s.heap.objs.size,[s.heap.objs.size],_,_,H,rfl,I.kept (t':=s.toks) λb o e=>IW _ e,pT a _,⟨_,Jp _ rfl,rfl,rfl⟩,λb hb=>?_,q⟩
 have e:b=s.heap.objs.size:=by simpa using hb
 subst e;exact I.fpOk (Jg _) (I.h_.fresh (Jg _))
theorem CC(hl:PE X l (low X.K cls E2 te)):PI X tg l (l7 X.K cls E2 λZ M R E=>te Z M (λx M1=>match x with
  |.tup ds=>R ds (λ_=>True) M1
  |.g_ ds=>R ds (λ_=>True) M1
  |.ref a=>match M1 a with
   |some (.lst ds)=>R ds (λM=>M a=some (.lst ds)) M1
   |_=>False
  |_=>False) E):=by
 refine λa_ s Z H R2 I j_=>ex9 j_ λf_ M R E3 rm ds lk h k=>?_
 refine thn (hl a_ s Z H _ I ⟨f_,M,_,E3,rm,ds,lk,h,λv H' d M' a b c e=>(⟨d,M',a,b,c,e⟩:(λv H'=>∃d M',Den X.K H' d v/\RelM X.K M' H'/\TM X.K H H'/\(match d with
  |.tup ds=>R ds (λ_=>True) M'
  |.g_ ds=>R ds (λ_=>True) M'
  |.ref a=>match M' a with
   |some (.lst ds)=>R ds (λM=>M a=some (.lst ds)) M'
   |_=>False
  |_=>False)) v H')⟩) λu s1 ⟨v,H1,I1,r1,d,M1,dv,k_,t1,q1⟩=>?_
 split at q1
 ·obtain⟨p,vs,rfl,sq,dl⟩:=dv;cases r1;exact tO I1 sq (k _ _ _ _ _ (Aw sq dl) k_ t1 q1)
 ·obtain⟨p,vs,rfl,sq,dl⟩:=dv;cases r1;exact lQ I1 sq.sq (k _ _ _ _ _ (AY sq dl) k_ t1 q1)
 ·rename_i a;cases (show v=.ref a from dv);cases r1;split at q1
  ·rename_i Kl e;obtain⟨vs,e1,dl⟩:=k_ a _ e;exact lQ I1 (.of e1) (k _ _ _ _ _ AU k_ t1 q1)
  ·exact q1.elim
 ·exact q1.elim
theorem Fu(hg:Gl X "range")(hm:X.mg "range"=none)(ha:PE X a (low X.K cls E2 ta))(hs:starEach [a] X.env=[(false,eval a X.env)]):PI X tg (.Call (.Name "range" p) [a] [] pos) (l7 X.K cls E2 λZ M R E=>ta Z M (λx M1=>match x with
  |.int j=>-(2 ^ 62)<=j/\j<2 ^ 62/\R (rng 0 j.toNat) (λ_=>True) M1
  |_=>False) E):=
 (rY hg hm (aB ha pa_nil hs) hs).imp λZ H R2 j_=>ex9 j_ λf_ M R E3 rm ds lk h k=>bo rm ds lk h λv H1 x M1 dx k_ t1 q1=>by
  split at q1
  ·rename_i j;cases (show v=.int j from dx);exact⟨j,rfl,q1.1,q1.2.1,k _ _ _ _ _ zx k_ t1 q1.2.2⟩
  ·exact q1.elim
end
section
variable {X:Cx}
theorem zh(hX:∀i,i<ne->ExcI X.K (cls i)/\PySem.W.kitOne X.K (.ref (cls i)) cv=some (r i))
  (I:Inv X a_ Z H s)(rv:RelV v v2)(dx:Den X.K H x v)(rm:RelM X.K M H)(q:ny ne cls r x M Q)(c_:Back X.K H Q Q2) :
  wpAny (model X.prog X.w) A (call (.builtin "isinstance") [v2,cv]) (EP X a_ Z Q2) Ex s:=by
 unfold ny at q;split at q
 ·rename_i a;cases (show v=.ref a from dx);cases rv;split at q
  ·rename_i i w e;obtain⟨hi,rfl,q⟩:=q;obtain⟨h1,h2⟩:=hX i.c hi;obtain⟨T8,e0,_⟩:=rm a _ e;have ho:=I.h_ _ _ e0;obtain⟨⟨o,vs,g1,g2,_⟩,_,_⟩:=ho;exact PySem.W.kia_one (ul h1) I.kIn ⟨o,g1,g2⟩ h2 (λz=>nomatch z) λtk=>⟨.bl _,H,I.tok _,rfl,c_ _ _ _ _ bG rm (.refl _) q⟩
  ·exact q.elim
 ·exact q.elim
theorem Dx(ha:PE X e (low X.K cls E2 te))(hg:Gl X "isinstance")(hm:X.mg "isinstance"=none)(N9:Gl X x)(N_:X.mg x=some (.ref (cls j)))(A_:(x == ("__debug__" : Str))=false)
  (hX:∀i,i<ne->ExcI X.K (cls i)/\PySem.W.kitOne X.K (.ref (cls i)) (.ref (cls j))=some (r i)) (hs:starEach (e::[.Name x p2]) X.env=(false,eval e X.env)::starEach [.Name x p2] X.env) :
  PE X (.Call (.Name "isinstance" p) [e,.Name x p2] [] pos) (low X.K cls E2 λZ M Q E=>te Z M (λx M1=>ny ne cls r x M1 Q) E):=by
 have hT:PE X (.Name x p2) (tC (.ref (cls j))):=g7 N9 N_ rfl A_;have hc:CallR X (.builtin "isinstance") (λvs H Q2=>∃x v M Q,vs=[v,.ref (cls j)]/\Den X.K H x v/\RelM X.K M H/\ny ne cls r x M Q/\Back X.K H Q Q2):=by
  intro a_ s Z H vs us Q2 I r ⟨x,v,M,Q,e,dx,rm,q,c_⟩;subst e;obtain⟨u,w,rfl,ru,rw⟩:=Vals.two r;cases (show w=Value.ref (cls j) from rw);exact zh hX I ru dx rm q c_
 refine (fq hc hg hm (by decide +kernel) (aB ha (aB hT pa_nil (by rfl)) hs) (by decide +kernel) (by decide +kernel) hs (by rfl)).imp λZ H Q2 j_=>ex9 j_ λf_ M Q E3 rm ds lk h c_=>?_
 exact bo rm ds lk h λv H1 x M1 dx k_ t1 q1=>⟨x,v,M1,Q,rfl,dx,k_,q1,c_.mono t1⟩
end
section
variable {K:Kc}
theorem gH:∀{ns:List Nat}{ds:List D}{vs:List V}{f:Nat}{d:D},DenL K H ds vs->cq f ns ds=some d->∃v,((ns.map fnm).zip vs).lookup (fnm f)=some v/\Den K H d v
 |[],_,_,_,_,_,e=>by simp[cq]at e
 |n::ns,[],_,_,_,_,e=>by simp[cq]at e
 |n::ns,d0::ds,_,f,d,dl,e=>by
  obtain⟨v,r,rfl,dv,dl⟩:=dl;simp only[cq]at e;by_cases z:n=f
  ·rw[Jc z]at e;cases e;subst z;exact⟨v,by simp[List.lookup],dv⟩
  ·rw[IY z]at e;obtain⟨u,h1,h2⟩:=gH dl e;refine⟨u,?_,h2⟩;have nb:(fnm f == fnm n)=false:=JA.mpr λq=>z (mi q).symm
   simp[List.lookup,nb,h1]
theorem gL:∀{ns:List Nat}{ds:List D}{vs:List V}{f:Nat},DenL K H ds vs->ns.length=vs.length->cq f ns ds=none->((ns.map fnm).zip vs).lookup (fnm f)=none
 |[],_,_,_,_,_,_=>by simp
 |n::ns,[],vs,_,dl,hl,_=>by cases (show vs=[] from dl);cases hl
 |n::ns,d0::ds,_,f,dl,hl,e=>by
  obtain⟨v,r,rfl,dv,dl⟩:=dl;simp only[cq]at e;by_cases z:n=f
  ·rw[Jc z]at e;cases e
  ·rw[IY z]at e;have h1:=gL dl (by simpa using hl) e
   have nb:(fnm f == fnm n)=false:=JA.mpr λq=>z (mi q).symm
   simp[List.lookup,nb,h1]
theorem nJ:∀{ns:List Nat}{ds:List D}{vs:List V}{f:Nat}{y:D}{u:V},DenL K H ds vs->ns.length=vs.length->Den K H y u->
  ∃ws,dQ (fnm f) u ((ns.map fnm).zip vs)=((b9 f ns).map fnm).zip ws/\(b9 f ns).length=ws.length/\DenL K H (cb f y ns ds) ws
 |[],ds,vs,f,y,u,dl,hl,dy=>by
  cases vs with
  |nil=>exact⟨[u],rfl,rfl,by unfold cb;exact .one dy⟩
  |cons _ _=>cases hl
 |n::ns,[],vs,f,y,u,dl,hl,dy=>by cases (show vs=[] from dl);cases hl
 |n::ns,d::ds,_,f,y,u,dl,hl,dy=>by
  obtain⟨v,r,rfl,dv,dl⟩:=dl;have L5:ns.length=r.length:=by simpa using hl
  by_cases z:n=f
  ·subst z;refine⟨u::r,?_,?_,?_⟩
   ·simp[dQ,b9]
   ·simp[b9,L5]
   ·simp only[cb,Jc];exact .cons dy dl
  ·obtain⟨ws,h1,h2,h3⟩:=nJ (f:=f) (u:=u) dl L5 dy;have nf:¬ fnm n=fnm f:=λq=>z (mi q)
   refine⟨v::ws,?_,?_,?_⟩
   ·simp only[Ji,List.zip_cons_cons,dQ,IY nf,b9,IY z];rw[h1]
   ·simp[b9,IY z,h2]
   ·simp only[cb,IY z];exact .cons dv h3
end
theorem pS{fs:List (Str×V)}(h_:HOk P w H h)(e:Rd H a (.ins C dx fs)):∃mA,ObjM h a dx C mA/\(∀f,RelO (fs.lookup f) (mA f))/\H dx=some (.own a):=by
 obtain⟨d,z,ne,ob,mA,n,r,q⟩:=(show ObjOk P w H h a (.ins C dx fs) from e.ok h_);exact⟨mA,⟨ob,n,ne⟩,r,d⟩
section
variable {X:Cx}{fs:List (Str×V)}
theorem uW(I:Inv X a_ Z H s)(e:Rd H a (.ins C dx fs))(c:Cls X.K C)(n:NoAttr X.K C f)(l:fs.lookup f=some v)
  (h:∀u s',Inv X a_ Z H s'->RelV v u->Q u s'):wpAny (model X.prog X.w) A (getAttr (.ref a) f b) Q E s:=by
 obtain⟨mA,O,r,_⟩:=pS I.h_ e;obtain⟨u,hu,ru⟩:=RelO.some_of (v:=v) (o:=mA f) (by rw[<-l];exact r f)
 exact xQ I.kIn O (c.get f) c.hd n hu (r8 ru) (h u _ (I.tok _) ru)
theorem nP{m:Str}{g:Addr}{pl:Sem Bool}{Q:Value×List Value->Shared->Prop}(I:Inv X a_ Z H s)(e:Rd H a (.ins C dx fs))(c:Cls X.K C)(k:Meth X.K C m g)(l:fs.lookup m=none)
  (h:Q (.ref g,[.ref a]) s):wpAny (model X.prog X.w) A (getMethod (.ref a) m pl) Q E s:=by
 obtain⟨mA,O,r,_⟩:=pS I.h_ e;have hn:mA m=none:=RelO.none_of (by rw[<-l];exact r m)
 exact uz I.kIn O (c.get m) k.at_ k.fn hn h
end
structure ClsI (K:Kc)(C f:Addr):Prop where
 ga:PySem.W.specialIn K (.ref C) "__getattribute__"=some (some (.builtin "type.__getattribute__"))
 rd:PySem.W.readsIn K C (.type "type")=true
 at_:PySem.W.findCls K (.ref C) (.type "type") "__init__"=some (.val (.ref f))
structure TyI (K:Kc)(C:Addr):Prop where
 ha:PySem.W.findIn K (.ref C) "__class__"=some (some (.builtin "object.__class__"))
 hn:PySem.W.specialIn K (.builtin "object.__class__") "__get__"=some (some (.builtin "getset_descriptor.__get__"))
 Nr:PySem.W.takesIn K (.builtin "object.__class__")=some true
 hm:PySem.W.mroIn K C (.type "object")=some true
structure KOk (K:Kc)(B:WB)(d_:Nat->Addr)(i:Nat):Prop where
 cl:Cls K (B.b_ i)
 na:∀f,B.fok i f=true->NoAttr K (B.b_ i) (fnm f)
 mt:∀m f,B.mth i m=some f->Meth K (B.b_ i) (fnm m) (d_ f)
 mkr:∀f,B.ini i=some f->Mk K (B.b_ i) (d_ f)
 ci:∀f,B.ini i=some f->ClsI K (B.b_ i) (d_ f)
 ty:TyI K (B.b_ i)
 is:∀j,j<B.nk->PySem.W.kitOne K (.ref (B.b_ i)) (.ref (B.b_ j))=some (B.ksub i j)
section
variable {X:Cx}{B:WB}
theorem wW{K:Kc}(hk:∀i,i<B.nk->KOk K B d_ i)(dx:Den K H x v)(rm:RelM K M H)(h:bT B f x M Q) :
  ∃a C dx fs u d,v=.ref a/\Rd H a (.ins C dx fs)/\Cls K C/\NoAttr K C (fnm f)/\fs.lookup (fnm f)=some u/\Den K H d u/\Q d M:=by
 unfold bT at h;split at h
 ·rename_i i C ns ds;obtain⟨p,vs,ob,KO,rfl,e,hl,dl⟩:=dx;obtain⟨⟨rfl,hi,hf⟩,h⟩:=h;unfold gB at h;split at h
  ·rename_i d q;obtain⟨u,h1,h2⟩:=gH dl q;exact⟨p,_,KO,_,u,d,rfl,.inr ⟨ob,e⟩,(hk i hi).cl,(hk i hi).na f hf,h1,h2,h⟩
  ·exact h.elim
 ·rename_i a;split at h
  ·rename_i i C ns ds q;obtain⟨KO,vs,e,hl,dl⟩:=rm a _ q;obtain⟨⟨rfl,hi,hf⟩,h⟩:=h;unfold gB at h;split at h
   ·rename_i d q;obtain⟨u,h1,h2⟩:=gH dl q;exact⟨a,_,KO,_,u,d,dx,.inl e,(hk i hi).cl,(hk i hi).na f hf,h1,h2,h⟩
   ·exact h.elim
  ·exact h.elim
 ·exact h.elim
theorem C4(hk:∀i,i<B.nk->KOk X.K B d_ i)(he:PE X e (low X.K cls E2 te))(hb:attributeBase e (fnm f) X.env (eval e X.env)=eval e X.env):PE X (.Attribute e (fnm f) pos) (low X.K cls E2 λZ M Q E=>te Z M (λx M1=>bT B f x M1 Q) E):=by
 refine λa_ s Z H Q2 I j_=>ex9 j_ λf_ M Q E3 rm ds lk h c_=>?_
 refine wl hb (thn (he a_ s Z H (λv H1=>∃x M1,Den X.K H1 x v/\RelM X.K M1 H1/\TM X.K H H1/\bT B f x M1 Q) I ⟨f_,M,_,E3,rm,ds,lk,h,λv H' d M' a b c e=>⟨d,M',a,b,c,e⟩⟩) λu s1 z_=>?_)
 obtain⟨v,H1,I1,r1,x,M1,dx,k_,t1,q1⟩:=z_;obtain⟨a,C,KO,fs,u',d,rfl,rd,c,n,l,du,q⟩:=wW hk dx k_ q1;obtain rfl:u=Value.ref a:=r1;exact uW I1 rd c n l λT9 s2 I2 ru=>⟨u',H1,I2,ru,c_ _ _ _ _ du k_ t1 q⟩
theorem BP{K:Kc}(dx:Den K H x v)(rm:RelM K M H)(h:qh B j x M Q) :
  ∃a i dx fs,v=.ref a/\i<B.nk/\j<B.nk/\Rd H a (.ins (B.b_ i) dx fs)/\Q (.bl (B.ksub i j)) M:=by
 unfold qh at h;split at h
 ·rename_i i C ns ds;obtain⟨p,vs,ob,KO,rfl,e,hl,dl⟩:=dx;obtain⟨⟨rfl,hi,hj⟩,h⟩:=h;exact⟨p,i,KO,_,rfl,hi,hj,.inr ⟨ob,e⟩,h⟩
 ·rename_i a;split at h
  ·rename_i i C ns ds q;obtain⟨KO,vs,e,hl,dl⟩:=rm a _ q;obtain⟨⟨rfl,hi,hj⟩,h⟩:=h;exact⟨a,i,KO,_,dx,hi,hj,.inl e,h⟩
  ·exact h.elim
 ·exact h.elim
theorem Ck(hk:∀i,i<B.nk->KOk X.K B d_ i)(ha:PE X e (low X.K cls E2 te))(hg:Gl X "isinstance")(hm:X.mg "isinstance"=none)(N9:Gl X x)(N_:X.mg x=some (.ref (B.b_ j)))(A_:(x == ("__debug__" : Str))=false)
  (hs:starEach (e::[.Name x p2]) X.env=(false,eval e X.env)::starEach [.Name x p2] X.env) :
  PE X (.Call (.Name "isinstance" p) [e,.Name x p2] [] pos) (low X.K cls E2 λZ M Q E=>te Z M (λx M1=>qh B j x M1 Q) E):=by
 have hT:PE X (.Name x p2) (tC (.ref (B.b_ j))):=g7 N9 N_ rfl A_;have hc:CallR X (.builtin "isinstance") (λvs H Q2=>∃x v M Q,vs=[v,.ref (B.b_ j)]/\Den X.K H x v/\RelM X.K M H/\qh B j x M Q/\Back X.K H Q Q2):=by
  refine λa_ s Z H vs us Q2 I r j_=>ex9 j_ λx v M Q e dx rm q c_=>?_
  subst e;obtain⟨u,w,rfl,ru,rw⟩:=Vals.two r;cases (show w=Value.ref (B.b_ j) from rw);obtain⟨a,i,KO,fs,rfl,hi,hj,rd,q⟩:=BP dx rm q;cases (show u=Value.ref a from ru);obtain⟨mA,O,_⟩:=pS I.h_ rd;obtain⟨od,J,_⟩:=O.look;have k:=hk i hi;exact PySem.W.kia_one (PySem.W.kitx_own (k.cl.get _) k.cl.hd k.ty.ha k.ty.hn k.ty.Nr k.ty.hm) I.kIn J (k.is j hj) (λz=>nomatch z) λtk=>⟨.bl _,H,I.tok _,rfl,c_ _ _ _ _ bG rm (.refl _) q⟩
 refine (fq hc hg hm (by decide +kernel) (aB ha (aB hT pa_nil (by rfl)) hs) (by decide +kernel) (by decide +kernel) hs (by rfl)).imp λZ H Q2 j_=>ex9 j_ λf_ M Q E3 rm ds lk h c_=>?_
 exact bo rm ds lk h λv H1 x M1 dx k_ t1 q1=>⟨x,v,M1,Q,rfl,dx,k_,q1,c_.mono t1⟩
end
def rQ(X:Cx)(cls:Nat->Addr)(k:Nat)(a:Addr)(t3:List D->MH->VK3->XN->Prop):Prop:=∃fd ps sp,PySem.W.keepIn X.K (.ref a)=true/\BdT X.K cls fd ps t3 sp/\FnOk X.prog X.w X.K X.mg X.base (CX1 X.prog X.w) k a fd ps sp
section
variable {X:Cx}{B:WB}{d_:Nat->Addr}{cls:Nat->Addr}{E2:St->XK}{o e:Expr}{es:List Expr}{to te:St3->MH->VK3->XN->Prop}{tr:St3->MH->(List D->MH->Prop)->XN->Prop}{pos o_ p:Pos}{m k:Nat}
 {KZ:Nat->List D->MH->VK3->XN->Prop}
theorem qy{K:Kc}{H:Hp}{x:D}{v:V}{M:MH}{R:Nat->Prop}(hk:∀i,i<B.nk->KOk K B d_ i)(dx:Den K H x v)(rm:RelM K M H)(h:bh B m x M R) :
  ∃a C dx fs f,v=.ref a/\Rd H a (.ins C dx fs)/\Cls K C/\Meth K C (fnm m) (d_ f)/\fs.lookup (fnm m)=none/\(∃i,i<B.nk/\B.mth i m=some f)/\R f:=by
 unfold bh at h;split at h
 ·rename_i i C ns ds;obtain⟨p,vs,ob,KO,rfl,e,hl,dl⟩:=dx;obtain⟨⟨rfl,hi,hf⟩,h⟩:=h;unfold dM at h;split at h
  ·rename_i f q;exact⟨p,_,KO,_,f,rfl,.inr ⟨ob,e⟩,(hk i hi).cl,(hk i hi).mt m f q,gL dl hl hf,⟨i,hi,q⟩,h⟩
  ·exact h.elim
 ·rename_i a;split at h
  ·rename_i i C ns ds q;obtain⟨KO,vs,e,hl,dl⟩:=rm a _ q;obtain⟨⟨rfl,hi,hf⟩,h⟩:=h;unfold dM at h;split at h
   ·rename_i f q;exact⟨a,_,KO,_,f,dx,.inl e,(hk i hi).cl,(hk i hi).mt m f q,gL dl hl hf,⟨i,hi,q⟩,h⟩
   ·exact h.elim
  ·exact h.elim
 ·exact h.elim
theorem Bu(hk:∀i,i<B.nk->KOk X.K B d_ i)(hf:∀i m f,i<B.nk->B.mth i m=some f->rQ X cls k (d_ f) (KZ f))(hr:Room k X.A)(hx:aO (CX1 X.prog X.w) X E2)
  (ho:PE X o (low X.K cls E2 to)) (ha:PA X (e::es) (dY X.K cls E2 tr)) (hb:attributeBase o (fnm m) X.env (eval o X.env)=eval o X.env) (hl:(o_.endLine == pos.line)=true) (hn:(e::es).length<30)
  (he:starEach (e::es) X.env=(false,eval e X.env)::starEach es X.env) (E_:(backTo pos (starEach es X.env)).any (·.1)=false) :
  PE X (.Call (.Attribute o (fnm m) o_) (e::es) [] pos) (low X.K cls E2 λZ M Q E=>to Z M (λx M1=>bh B m x M1 λf=>tr Z M1 (λxs M2=>KZ f (x::xs) M2 Q E) E) E):=by
 refine λa_ s Z H Q2 I j_=>ex9 j_ λf_ M Q E3 rm ds lk h c_=>?_
 have Ks:(backTo pos (starEach (e::es) X.env)).any (·.1)=false:=by
  rw[he];show ((false,_)::backTo pos (starEach es X.env)).any (·.1)=false;rw[List.any_cons,E_];rfl
 refine PySem.W.methodCall_KW (thn (ho a_ s Z H (λv H1=>∃x M1,Den X.K H1 x v/\RelM X.K M1 H1/\TM X.K H H1/\bh B m x M1 λf=>tr f_ M1 (λxs M2=>KZ f (x::xs) M2 Q E3) E3) I ⟨f_,M,_,E3,rm,ds,lk,h,λv H' d M' a b c e=>⟨d,M',a,b,c,e⟩⟩) λu s1 ⟨v,H1,I1,r1,x,M1,dx,k_,t1,q1⟩=>?_) (fP hb (g9 Ks hn) hl)
 obtain⟨a,C,KO,fs,f,rfl,rd,c,mt,l,⟨i,hi,PX⟩,q⟩:=qy hk dx k_ q1;obtain rfl:u=Value.ref a:=r1;obtain⟨fd,ps,sp,kp,bd,F⟩:=hf i m f hi PX;refine nP I1 rd c mt l ?_;refine PySem.W.callWith_K (first:=[.ref a]) (h₀:=X.base) I.ok.mod.kin mt.kp (thn (ha pos a_ s1 Z H1 _ I1 (eV (R2:=λvs H2=>spX X.K cls (KZ f) (.ref a::vs) H2 Q2 (λc d H'=>TM X.K H2 H'->E2 Z c d H')) k_ (ds.mono t1) (lk.mono t1) q
  λvs H2 xs M2 dl C_ t2 q2=>kA (.cons (dx.mono t2) dl) C_ (lk.mono (t1.trans t2)) q2 (c_.mono (t1.trans t2)))) λus s2 ⟨vs,H2,I2,r,q2⟩=>⟨I2.kIn,?_⟩) he E_
 exact im (us:=.ref a::us) (vs:=.ref a::vs) F hr bd hx I2 (.cons rfl r) q2
theorem wV(hk:∀i,i<B.nk->KOk X.K B d_ i)(hf:∀i m f,i<B.nk->B.mth i m=some f->rQ X cls k (d_ f) (KZ f))(hr:Room k X.A)(hx:aO (CX1 X.prog X.w) X E2)
  (ho:PE X o (low X.K cls E2 to)) (hb:attributeBase o (fnm m) X.env (eval o X.env)=eval o X.env) (hl:(o_.endLine == pos.line)=true) :
  PE X (.Call (.Attribute o (fnm m) o_) [] [] pos) (low X.K cls E2 λZ M Q E=>to Z M (λx M1=>bh B m x M1 λf=>KZ f [x] M1 Q E) E):=by
 refine λa_ s Z H Q2 I j_=>ex9 j_ λf_ M Q E3 rm ds lk h c_=>?_
 refine PySem.W.methodCall_KW (thn (ho a_ s Z H (λv H1=>∃x M1,Den X.K H1 x v/\RelM X.K M1 H1/\TM X.K H H1/\bh B m x M1 λf=>KZ f [x] M1 Q E3) I ⟨f_,M,_,E3,rm,ds,lk,h,λv H' d M' a b c e=>⟨d,M',a,b,c,e⟩⟩) λu s1 ⟨v,H1,I1,r1,x,M1,dx,k_,t1,q1⟩=>?_) (fP hb (g9 (by rfl) (by decide)) hl)
 obtain⟨a,C,KO,fs,f,rfl,rd,c,mt,l,⟨i,hi,PX⟩,q⟩:=qy hk dx k_ q1;obtain rfl:u=Value.ref a:=r1;obtain⟨fd,ps,sp,kp,bd,F⟩:=hf i m f hi PX;refine nP I1 rd c mt l ?_;exact PySem.W.callWith_K0 (first:=[.ref a]) I1.kIn mt.kp (im (us:=[.ref a]) (vs:=[.ref a]) F hr bd hx I1 (.cons rfl .nil) (kA (.one dx) k_ (lk.mono t1) q (c_.mono t1)))
theorem DQ{i f:Nat}{x:Str}{px:Pos}(hg:Gl X x)(hm:X.mg x=some (.ref (B.b_ i)))(A_:(x == ("__debug__" : Str))=false)(ci:ClsI X.K (B.b_ i) (d_ f))(hf:rQ X cls k (d_ f) (KZ f))(hr:Room k X.A)(hx:aO (CX1 X.prog X.w) X E2)
  (ha:PA X (e::es) (dY X.K cls E2 tr)) (hl:(o_.endLine == pos.line)=true) (hn:(e::es).length<30)
  (he:starEach (e::es) X.env=(false,eval e X.env)::starEach es X.env) (E_:(backTo pos (starEach es X.env)).any (·.1)=false) :
  PE X (.Call (.Attribute (.Name x px) "__init__" o_) (e::es) [] pos) (low X.K cls E2 λZ M Q E=>tr Z M (λxs M1=>KZ f xs M1 Q E) E):=by
 refine λa_ s Z H Q2 I j_=>ex9 j_ λf_ M Q E3 rm ds lk h c_=>?_
 have Ks:(backTo pos (starEach (e::es) X.env)).any (·.1)=false:=by
  rw[he];show ((false,_)::backTo pos (starEach es X.env)).any (·.1)=false;rw[List.any_cons,E_];rfl
 obtain⟨fd,ps,sp,kp,bd,F⟩:=hf;have hT:PE X (.Name x px) (tC (.ref (B.b_ i))):=g7 hg hm rfl A_;refine PySem.W.methodCall_KW (thn (hT a_ s Z H (λv H1=>v=.ref (B.b_ i)/\H1=H) I ⟨rfl,rfl⟩) λu s1 ⟨v,H1,I1,r1,e1,e2⟩=>?_) (fP (by rfl) (g9 Ks hn) hl)
 subst e1 e2;obtain rfl:u=Value.ref (B.b_ i):=r1;refine PySem.W.method_cls I1.kIn ci.ga (PySem.W.cls_value I1.kIn ci.rd ci.at_ rfl ?_);have I2:=I1.tok (s1.toks+1);refine PySem.W.callWith_K (first:=[]) (h₀:=X.base) I.ok.mod.kin kp (thn (ha pos a_ _ Z H1 _ I2 (eV (R2:=λvs H2=>spX X.K cls (KZ f) vs H2 Q2 (λc d H'=>TM X.K H2 H'->E2 Z c d H')) rm ds lk h
  λvs H2 xs M2 dl C_ t2 q2=>kA dl C_ (lk.mono t2) q2 (c_.mono t2))) λus s2 ⟨vs,H2,I3,r,q2⟩=>⟨I3.kIn,?_⟩) he E_
 exact im F hr bd hx I3 r q2
theorem lg(M:Mk X.K C f)(F:FnOk X.prog X.w X.K X.mg X.base (CX1 X.prog X.w) k f fd ps sp)(hr:Room (k+1) X.A)(hb:BdT X.K cls fd ps t3 sp)
  (hx:aO (CX1 X.prog X.w) X E2) (I:Inv X a_ Z H s)(r:Vals vs us)
  (h:∀x dx,H x=none->H dx=none->dx≠x->spX X.K cls t3 (.ref x::vs) (upd (upd H dx (.own x)) x (.ins C dx [])) (λv H2=>v=.i_/\Q (.ref x) H2) (λc d H'=>TM X.K (upd (upd H dx (.own x)) x (.ins C dx [])) H'->E2 Z c d H')) :
  wpAny (model X.prog X.w) X.A (call (.ref C) us) (EP X a_ Z Q) X.xe s:=by
 have hq:=h (s.heap.objs.size+1) s.heap.objs.size (I.h_.fresh (JZ _)) (I.h_.fresh (Jg _)) (Js (Nat.lt_succ_self _));have I2:=Inv.made (C:=C) I;have r2:Vals (V.ref (s.heap.objs.size+1)::vs) (Value.ref (s.heap.objs.size+1)::us):=.cons rfl r;obtain⟨M_,Na,hv,bd,hq⟩:=hb _ _ _ _ hq;have r2:Vals ((V.ref (s.heap.objs.size+1)::vs)++M_) ((Value.ref (s.heap.objs.size+1)::us)++Na):=r2.append hv;have hl:(Value.ref (s.heap.objs.size+1)::us++Na).length=ps.length:=by rw[<-r2.length];exact F.len _ _ _ _ hq
 have Lh:=bd _ (Value.ref (s.heap.objs.size+1)::us) I2.kIn hl;refine wpAny_call (tZ (f:=f) I.kIn M.makes M.init (Jl.mp M.fn) (codeAny_mono (F.run _ X.stack _ _ ⟨Value.ref (s.heap.objs.size+1)::us,[]⟩ (Value.ref (s.heap.objs.size+1)::us++Na) _ _ _ (hr.make C us [])
  (I2.env0.make C us []) Lh r2 hq) λr s' LO=>?_))
 match r,LO with
 |.error e,LO=>exact hx a_ Z _ _ e s' I2 (uZ LO)
 |.ok (.ret u),LO=>
  obtain⟨v,H',I3,rv,ev,q3⟩:=I2.after LO;subst ev;exact⟨rv,⟨V.ref (s.heap.objs.size+1),H',I3,rfl,q3⟩⟩
 |.ok .next,LO=>exact LO.elim
 |.ok .brk,LO=>exact LO.elim
 |.ok .cont,LO=>exact LO.elim
theorem TM.made{K:Kc}(hx:H x=none)(hd:H dx=none)(ne:dx≠x):TM K H (upd (upd H dx (.own x)) x (.ins C dx [])):=
 (TM.new hd).trans (.new (by rw[ae (Ja ne)];exact hx))
theorem qM{Z:St}{H:Hp}{xs:List D}{vs:List V}{M:MH}{Q:VK3}{Q2:VK}{E3:XN}{i:Nat}{fz:Bool}{t3:List D->MH->VK3->XN->Prop}(dl:DenL X.K H xs vs)(rm:RelM X.K M H)(lk:LkE X.K cls H E3 (E2 Z))
  (q:∀p,M p=none->t3 (.ref p::xs) (put M p (.ins i (B.b_ i) [] [])) (λv M2=>v=.i_/\if fz=true then be Q (.ref p) M2 else Q (.ref p) M2) (λj M'=>E3 j (del M' p))) :
  ∀x dx,H x=none->H dx=none->dx≠x->spX X.K cls t3 (.ref x::vs) (upd (upd H dx (.own x)) x (.ins (B.b_ i) dx [])) (λv H2=>v=.i_/\∃M2,RelM X.K M2 H2/\TM X.K H H2/\if fz=true then be Q (.ref x) M2 else Q (.ref x) M2)
   (λc d H'=>TM X.K (upd (upd H dx (.own x)) x (.ins (B.b_ i) dx [])) H'->E2 Z c d H'):=λx dx hx hd ne=>by
 have t:=TM.made (K:=X.K) (C:=B.b_ i) hx hd ne;have Ly:(upd H dx (.own x)) x=none:=by rw[ae (Ja ne)];exact hx
 have C_:RelM X.K (put M x (.ins i (B.b_ i) [] [])) (upd (upd H dx (.own x)) x (.ins (B.b_ i) dx [])):=(rm.grow hd).lay Ly ⟨dx,[],ag,rfl,rfl⟩;refine⟨.ref x::xs,_,_,_,.cons rfl (dl.mono t),C_,q x (rm.fresh hx),λv H' d M' dv s_ t' ⟨e,q'⟩=>?_,λj M' H' t' s_ q' dy xd _=>lk j (del M' x) H' (t.trans t') (s_.sub λb o z=>(mV z).2) q' dy xd⟩
 subst e;exact⟨dv,M',s_,t.trans t',q'⟩
theorem nM(c_:Back X.K H Q Q2)
  (h:EP X a_ Z (λv H2=>∃x,v=.ref x/\∃M2,RelM X.K M2 H2/\TM X.K H H2/\if fz=true then be Q (.ref x) M2 else Q (.ref x) M2) u s'):EP X a_ Z Q2 u s':=by
 obtain⟨v,H2,I2,r,x,rfl,M2,C_,t2,q⟩:=h;cases fz with
 |true=>
  obtain⟨H3,M3,d,I3,t3,Oa,dv,q3⟩:=ju I2 C_ hV (show be Q (.ref x) M2 from q);exact⟨.ref x,H3,I3,r,c_ _ _ _ _ dv Oa (t2.trans t3) q3⟩
 |false=>exact⟨.ref x,H2,I2,r,c_ _ _ _ _ hV C_ t2 q⟩
theorem zX{i f:Nat}{fz:Bool}{x:Str}(hg:Gl X x)(hm:X.mg x=some (.ref (B.b_ i)))(A_:(x == ("__debug__" : Str))=false)(mk:Mk X.K (B.b_ i) (d_ f))(hf:rQ X cls k (d_ f) (KZ f))(hr:Room (k+1) X.A)(hx:aO (CX1 X.prog X.w) X E2)
  (ha:PA X (e::es) (dY X.K cls E2 tr)) (he:starEach (e::es) X.env=(false,eval e X.env)::starEach es X.env) (E_:(backTo pos (starEach es X.env)).any (·.1)=false) :
  PE X (.Call (.Name x p) (e::es) [] pos) (low X.K cls E2 λZ M Q E=>tr Z M (λxs M1=>∀p,M1 p=none->KZ f (.ref p::xs) (put M1 p (.ins i (B.b_ i) [] [])) (λv M2=>v=.i_/\if fz=true then be Q (.ref p) M2 else Q (.ref p) M2) (λi M'=>E i (del M' p))) E):=by
 refine λa_ s Z H Q2 I j_=>ex9 j_ λf_ M Q E3 rm ds lk h c_=>?_
 obtain⟨fd,ps,sp,kp,bd,F⟩:=hf;refine wpAny_Call_Name_kw (bF I hg hm ?_ A_);refine PySem.W.callWith_K (h₀:=X.base) I.ok.mod.kin mk.kp (thn (ha pos a_ s Z H (λvs H1=>TM X.K H H1/\∃xs M1,DenL X.K H1 xs vs/\RelM X.K M1 H1/\∀p,M1 p=none->KZ f (.ref p::xs) (put M1 p (.ins i (B.b_ i) [] [])) (λv M2=>v=.i_/\if fz=true then be Q (.ref p) M2 else Q (.ref p) M2) (λi M'=>E3 i (del M' p))) I
  (eV rm ds lk h λvs H1 xs M1 dl k_ t1 q1=>⟨t1,xs,M1,dl,k_,q1⟩)) λus s1 ⟨vs,H1,I1,r,t1,xs,M1,dl,k_,q1⟩=>⟨I1.kIn,?_⟩) he E_
 refine thn (lg (Q:=λv H2=>∃x,v=.ref x/\∃M2,RelM X.K M2 H2/\TM X.K H1 H2/\if fz=true then be Q (.ref x) M2 else Q (.ref x) M2) mk F hr bd hx I1 r λx dx n1 n2 n3=>?_) λu s2 q2=>nM (fz:=fz) (c_.mono t1) q2
 obtain⟨a1,a2,a3,a4,b1,b2,b3,b4,b5⟩:=qM (fz:=fz) (i:=i) (t3:=KZ f) (Q2:=Q2) dl k_ (lk.mono t1) q1 x dx n1 n2 n3;exact⟨a1,a2,a3,a4,b1,b2,b3,λv H' d M' dv s_ t' q'=>by
  obtain⟨e,w⟩:=b4 v H' d M' dv s_ t' q';exact⟨e,x,rfl,w⟩,b5⟩
theorem wP{i f:Nat}{fz:Bool}{x:Str}(hg:Gl X x)(hm:X.mg x=some (.ref (B.b_ i)))(A_:(x == ("__debug__" : Str))=false)(mk:Mk X.K (B.b_ i) (d_ f))(hf:rQ X cls k (d_ f) (KZ f))(hr:Room (k+1) X.A)(hx:aO (CX1 X.prog X.w) X E2) :
  PE X (.Call (.Name x p) [] [] pos) (low X.K cls E2 λZ M Q E=>∀p,M p=none->KZ f [.ref p] (put M p (.ins i (B.b_ i) [] [])) (λv M2=>v=.i_/\if fz=true then be Q (.ref p) M2 else Q (.ref p) M2) (λi M'=>E i (del M' p))):=by
 refine λa_ s Z H Q2 I j_=>ex9 j_ λf_ M Q E3 rm ds lk h c_=>?_
 obtain⟨fd,ps,sp,kp,bd,F⟩:=hf;refine wpAny_Call_Name_kw (bF I hg hm ?_ A_);refine PySem.W.callWith_K0 I.kIn mk.kp ?_;refine thn (lg (us:=[]) (vs:=[]) (Q:=λv H2=>∃x,v=.ref x/\∃M2,RelM X.K M2 H2/\TM X.K H H2/\if fz=true then be Q (.ref x) M2 else Q (.ref x) M2) mk F hr bd hx I .nil λx dx n1 n2 n3=>?_) λu s2 q2=>nM (fz:=fz) c_ q2
 obtain⟨a1,a2,a3,a4,b1,b2,b3,b4,b5⟩:=qM (fz:=fz) (i:=i) (t3:=KZ f) (xs:=[]) (vs:=[]) (Q2:=Q2) .nil rm lk h x dx n1 n2 n3;exact⟨a1,a2,a3,a4,b1,b2,b3,λv H' d M' dv s_ t' q'=>by
  obtain⟨e,w⟩:=b4 v H' d M' dv s_ t' q';exact⟨e,x,rfl,w⟩,b5⟩
theorem A7(hk:∀i,i<B.nk->KOk X.K B d_ i)(ho:PE X o (low X.K cls E2 to))(hv:PE X value (low X.K cls E2 tv))(hs:swapsWith value (some (.Attribute o (fnm f) G_)) pos.line X.env=pure false) :
  PS X (.Assign [.Attribute o (fnm f) G_] value pos) (bM X.K cls E2 λD E Z M=>tv Z M (λy M1=>to Z M1 (λx M2=>match x with
  |.ref a=>match M2 a with
   |some (.ins i C ns ds)=>(C=B.b_ i/\i<B.nk/\B.fok i f=true/\ns.length<1000)/\D.nx Z (put M2 a (.ins i C (b9 f ns) (cb f y ns ds)))
   |_=>False
  |_=>False) (E Z)) (E Z)):=
 (Ag ho hv hs).imp λD2 Z H j_=>ex9 j_ λf_ M D3 E3 rm ds lk h er=>bo rm ds (lk.at ds) h λv H1 y M1 dy k_ t1 q1=>bo k_ (ds.mono t1) ((lk.at ds).mono t1) q1 λw H2 x M2 dx C_ t2 q2=>by
  split at q2
  ·rename_i a;split at q2
   ·rename_i i C ns es q;obtain⟨KO,vs,e,hl,dl⟩:=C_ a _ q;obtain⟨⟨rfl,hi,hf,hz⟩,q2⟩:=q2;obtain⟨ws,h1,h2,h3⟩:=nJ (f:=f) (u:=v) dl hl (dy.mono t2);refine⟨a,_,KO,_,dx,e,(hk i hi).cl,(hk i hi).na f hf,?_,?_⟩
    ·rw[List.length_zip,Jh,hl,Nat.min_self,<-hl];exact hz
    ·have tw:TM X.K H2 (upd H2 a (.ins (B.b_ i) KO (dQ (fnm f) v ((ns.map fnm).zip vs)))):=.put e (λ_ z=>by cases z) λ_ _ z=>by cases z
     refine er.nx _ _ f_ _ (C_.write (u:=.ins i (B.b_ i) (b9 f ns) (cb f y ns es)) e (λ_ z=>by cases z) (λ_ _ z=>by cases z) ⟨KO,ws,by rw[ag,h1],h2,h3.mono tw⟩) (((ds.mono t1).mono t2).mono tw) ((t1.trans t2).trans tw) q2
   ·exact q2.elim
  ·exact q2.elim
theorem Ci(hg:Gl X x)(hm:X.mg x=some u)(r:RelV v u)(A_:(x == ("__debug__" : Str))=false)(hd:∀H,Den X.K H d v):PE X (.Name x pos) (low X.K cls E2 λ_ M Q _=>Q d M):=oP (g7 hg hm r A_) hd
end
def VS(X:Cx)(r:D->Option Int->Option Int->MH->VK3->Prop):Prop:=
 ∀(a_:List (Addr×Obj)) (s:Shared)(Z:St)(H:Hp)(x:D)(v:V)(v2 vl vu:Value)(lo hi:Option Int)(sl:Addr)(M:MH)(Q:VK3)(Q2:VK),Inv X a_ Z H s->RelV v v2->Den X.K H x v->RelM X.K M H->s.heap.IsSliceOf sl vl vu .none->IsPart vl lo->IsPart vu hi->r x lo hi M Q->Back X.K H Q Q2->
  ∃T id,typeLookup (.type T) "__getitem__"=pure (some (.builtin id))/\s.TypeIs v2 T/\wpAny (model X.prog X.w) X.A (getItem v2 (.ref sl)) (EP X a_ Z Q2) X.xe s
section
variable {X:Cx}{lo:Option Expr}
theorem VS.op(h:VS X r):SlR X (λv lo hi H Q2=>∃x M Q,Den X.K H x v/\RelM X.K M H/\r x lo hi M Q/\Back X.K H Q Q2):=by
 intro a_ s Z H v v2 vl vu lo hi sl Q2 I rv hs pl pu ⟨x,M,Q,dx,rm,q,c_⟩;exact h a_ s Z H x v v2 vl vu lo hi sl M Q Q2 I rv dx rm hs pl pu q c_
theorem oO{K:Kc}{lo:Option Int}(dl:DenL K H ds vs):DenL K H (dg ds lo hi) (qj vs lo hi):=by
 unfold dg qj;rw[dl.length];exact (dl.drop _).take _
theorem Ek(fz:Bool):VS X (iH fz):=by
 intro a_ s Z H x v v2 vl vu lo hi sl M Q Q2 I rv dx rm hs pl pu q c_;unfold iH at q;split at q
 ·rename_i ds;obtain⟨p,vs,rfl,sq,dl⟩:=dx;obtain⟨hw,q⟩:=q;refine yW a_ s Z H _ v2 vl vu lo hi sl Q2 I rv hs pl pu ⟨p,vs,rfl,sq,λz=>?_,λp' hp=>?_⟩
  ·unfold whole at hw;rw[dl.length,z.1,z.2]at hw;simp at hw
  ·exact c_ _ _ (.tup (dg ds lo hi)) _ ⟨p',_,rfl,.of ag,(oO dl).mono (.new hp)⟩ (rm.grow hp) (.new hp) q
 ·split at q
  ·rename_i ds e;obtain⟨p,vs,rfl,hq,dl⟩:=bg rm e dx;cases rv;obtain⟨its,r,ht,hz⟩:=I.list hq.sq;have u_:=r.length;refine⟨"list",_,slot_list_getitem.lookup,ht.isList.typeIs,?_⟩;refine wpAny_getItem_list_slice ht.isList hs pl pu .none (by simp) ?_ (by rw[Jj]<;>omega)
   rw[kP,<-u_];have I2:=I.laid (t':=s.toks) (o:=.lst (qj vs lo hi)) (h':=s.heap.push {cls:=.type "list",data:=.seq ((its.drop (HT.sIx vs.length 0 lo)).take (HT.sIx vs.length vs.length hi-HT.sIx vs.length 0 lo)).toArray 0}) (λb ob q=>IW _ q) (Jg _)
    ⟨Jw (i5 vs lo hi) hz,_,0,(r.drop (HT.sIx vs.length 0 lo)).take (HT.sIx vs.length vs.length hi-HT.sIx vs.length 0 lo),Jp _ rfl⟩
   exact bR I2 (I.h_.fresh (Jg _)) (oO dl) rm (.refl _) q c_
  ·exact q.elim
theorem FQ(ha:PE X a (low X.K cls E2 ta))(hl:PO X lo (ss X.K cls E2 tl))(hh:PO X hi (ss X.K cls E2 th)) :
  PE X (.Subscript a (.Slice lo hi none p2) pos) (low X.K cls E2 λZ M Q E=>ta Z M (λx M1=>tl Z M1 (λl M2=>th Z M2 (λh M3=>iH fz x l h M3 Q) E) E) E):=
 (uF (Ek fz).op ha hl hh).imp λZ H Q2 j_=>ex9 j_ λf_ M Q E3 rm ds lk h c_=>bo rm ds lk h λv H1 x M1 dx k_ t1 q1=>yl k_ (ds.mono t1) (lk.mono t1) q1 λl H2 M2 C_ t2 q2=>yl C_ ((ds.mono t1).mono t2) ((lk.mono t1).mono t2) q2 λh H3 M3 Oa t3 q3=>
  ⟨x,M3,Q,(dx.mono t2).mono t3,Oa,q3,c_.mono ((t1.trans t2).trans t3)⟩
theorem qx{K:Kc}(dl:DenL K H ds vs):∀n:Nat,DenL K H (List.replicate n ds).flatten (List.replicate n vs).flatten
 |0=>rfl
 |n+1=>by
  rw[List.replicate_succ,List.replicate_succ,List.flatten_cons,List.flatten_cons];exact dl.append (qx dl n)
theorem zq(fz:Bool):VO X (binaryOp .Mult) (gY fz):=by
 intro a_ s Z H x y v u v2 u2 M Q Q2 I rv ru dx dy rm q c_;unfold gY at q;split at q
 ·rename_i ds k e;obtain⟨⟨h1,h2,hz⟩,q⟩:=q;obtain⟨p,vs,rfl,hq,dl⟩:=bg rm e dx;cases (show u=.int k from dy);obtain⟨t,rfl⟩:=ru;cases rv;obtain⟨z,its,n,r,hl,e⟩:=I.rdL hq;have u_:its.toArray.size*k.toNat<=sizeLine:=by rw[Jj,<-hl,<-dl.length];exact hz
  have PY:¬ its.toArray.size*k.toNat > (2 ^ 63-1) / 8:=by
   have:(sizeLine:Nat)<=(2 ^ 63-1) / 8:=by decide
   omega
  have PZ:¬ (!Builtin.List.listFitsIndex k)=true:=by
   rw[fitsIndex_both h1 h2];exact Jx
  have Ob:¬ Builtin.List.listTooLong (its.toArray.size*k.toNat)=true:=by
   rw[vd u_];exact Jx
  have Ml:List.foldl (λx1 x2=>x1++x2) #[] (List.replicate (if its.toArray.isEmpty=true then 0 else k.toNat) its.toArray)=(List.replicate k.toNat its).flatten.toArray:=by
   have f0:∀m:Nat,List.foldl (λx1 x2=>x1++x2) #[] (List.replicate m its.toArray)=(List.replicate m its).flatten.toArray:=λm=>by
    have:=ly its m [];rw[List.nil_append]at this;exact this
   rw[f0];cases its with
   |nil=>simp
   |cons a r'=>rw[IY (by simp)]
  refine wpAny_binaryOp_repeat_ref (T:="list") (U:="int") (by decide) ⟨_,e,rfl⟩ (λs'=>typeIs_int s' k t) noFill_list_mul PySem.F.fills_int_mul PySem.F.slot_int_rmul repeat_list PySem.F.slot_int_index.lookup
   (call_meets PySem.F.slot_int_rmul (typeIs_int s k t) PySem.F.entry_int_rmul (PySem.F.args_int_rmul_2 _ _) (int___rmul___int_list k t p its.toArray n)
    ⟨e,rfl,⟨_,e,rfl⟩,call_meets PySem.F.slot_list_mul ⟨_,e,rfl⟩ PySem.F.entry_list_mul (PySem.F.args_list_mul_2 _ _) (AutoListH.list___mul___list_int_3 p its.toArray n k t PZ PY Ob) ⟨e,?_⟩⟩)
  rw[Ml];exact bR (I.lnew (t':=s.toks) (r.rep k.toNat) (by rw[xW,Nat.mul_comm,<-dl.length];exact hz)) I.fresh (qx dl _) rm (.refl _) q c_
 ·exact q.elim
theorem Dv(ha:PE X a (low X.K cls E2 ta))(hb:PE X b (low X.K cls E2 tb)) :
  PE X (.BinOp a .Mult b pos) (low X.K cls E2 λZ M Q E=>ta Z M (λx M1=>tb Z M1 (λy M2=>gY fz x y M2 Q) E) E):=yZ (zq fz) ha hb
theorem lw{K:Kc}:∀{ds:List D}{bs:List Bool}{vs:List V}{us:List Value},fE ds=some bs->DenL K H ds vs->Vals vs us->LSm.BoolsAre us bs
 |[],bs,vs,us,e,dl,r=>by
  cases (show vs=[] from dl);cases r;cases (show some []=some bs from e);exact .nil
 |d::ds,bs,_,us,e,dl,r=>by
  obtain⟨v,vs,rfl,dv,dl⟩:=dl;cases r with
  |cons ru rt=>
   cases d with
   |bl b=>
    simp only[fE]at e;split at e
    ·rename_i ns q;cases e;cases (show v=.bl b from dv);cases ru;exact .cons b (lw q dl rt)
    ·cases e
   |_=>cases e
theorem yt(al:Bool)(hc:X.calm=true):VC X (.builtin (if al=true then "all" else "any")) (rBi (if al=true then .all else .any)):=by
 intro a_ s Z H xs vs us M Q Q2 I r dl rm q c_;have hh:X.A.handled=none:=I.ok.hd hc;have KQ:∃x ds bs,xs=[x]/\ai M x=some ds/\fE ds=some bs/\Q (.bl (if al=true then bs.all id else bs.any id)) M:=by
  cases al with
  |true=>
   simp only[if_true,rBi]at q;split at q
   ·split at q
    ·split at q
     ·exact⟨_,_,_,rfl,by assumption,by assumption,q⟩
     ·exact q.elim
    ·exact q.elim
   ·exact q.elim
  |false=>
   simp only[JE,if_false,rBi]at q;split at q
   ·split at q
    ·split at q
     ·exact⟨_,_,_,rfl,by assumption,by assumption,q⟩
     ·exact q.elim
    ·exact q.elim
   ·exact q.elim
 obtain⟨x,ds,bs,rfl,e1,e2,q⟩:=KQ;obtain⟨v,rfl,dv⟩:=lE dl;obtain⟨u,rfl,ru⟩:=jf r;obtain⟨p,ws,rfl,hq,Kz⟩:=bg rm e1 dv;cases ru;obtain⟨its,r2,M9,hz⟩:=I.list hq.sq;have hb:=lw e2 Kz r2;have hl:=M9.isList;have Kk:p<s.heap.objs.size:=by obtain⟨_,e,_⟩:=hl;exact Jf e
 have fin:∀h' tk,(∀b o,s.heap.get? b=some o->h'.get? b=some o)->EP X a_ Z Q2 (.bool (if al=true then bs.all id else bs.any id)) {s with heap:=h',toks:=tk}:=λh' tk hk=>
  ⟨.bl _,H,I.kept (t':=tk) hk,rfl,c_ _ _ _ _ bG rm (.refl _) q⟩
 cases al with
 |true=>
  refine call_all_walk (wpAny_pyIter_list hl ?_);refine⟨s.heap.objs.size,[s.heap.objs.size,p],[s.heap.objs.size],its.toArray.size,_,_,λi=>(bs[i]?).getD true,rfl,Walks.list (A:=X.A.in1) hh _ p (Js Kk) its.toArray,
   ⟨⟨_,Jp _ rfl,rfl,rfl⟩,hl.push _⟩,λi v s' Q' E' hP hQ=>?_,λh' tk hk=>?_⟩
  ·obtain⟨b,e,rfl⟩:=hb.get i v (by simpa using hP)
   simp only[e,Option.getD_some]at hQ;exact JS hQ
  ·have e:((List.range its.toArray.size).all λi=>(bs[i]?).getD true)=bs.all id:=by
    rw[Jj,hb.length];exact LSm.range_all bs
   rw[e];exact fin h' tk (LSm.kept_iter hk)
 |false=>
  refine call_any_walk (wpAny_pyIter_list hl ?_);refine⟨s.heap.objs.size,[s.heap.objs.size,p],[s.heap.objs.size],its.toArray.size,_,_,λi=>(bs[i]?).getD false,rfl,Walks.list (A:=X.A.in1) hh _ p (Js Kk) its.toArray,
   ⟨⟨_,Jp _ rfl,rfl,rfl⟩,hl.push _⟩,λi v s' Q' E' hP hQ=>?_,λh' tk hk=>?_⟩
  ·obtain⟨b,e,rfl⟩:=hb.get i v (by simpa using hP)
   simp only[e,Option.getD_some]at hQ;exact JS hQ
  ·have e:((List.range its.toArray.size).any λi=>(bs[i]?).getD false)=bs.any id:=by
    rw[Jj,hb.length];exact LSm.range_any bs
   rw[e];exact fin h' tk (LSm.kept_iter hk)
end
def TyV(X:Cx)(T:String)(x:V)(H:Hp):Prop:=∀(a_:List (Addr×Obj)) (Z:St)(s:Shared)(v:Value),Inv X a_ Z H s->RelV x v->s.TypeIs v T/\∀a,v=.ref a->∃ob,s.heap.get? a=some ob/\ob.dict=none
section
variable {X:Cx}{o:Expr}{o_ m_ pos:Pos}{id:String}
theorem AT(pa:PlainAttrs T)(slot:Slot T name id)(Ma:typeOf (.builtin id)=pure (.type "method_descriptor"))(hm:MtR X id r)(ho:PE X o t2)(ha:PA X (e::es) ta)
  (Kf:attributeBase o name X.env (eval o X.env)=eval o X.env)
  (MP:((backTo m_ (starEach (e::es) X.env)).all (λx=>!x.1)&&(backToKw m_ (keywordEach [] X.env)).all (λx=>x.1.isSome)
   &&decide ((e::es).length+([]:List Keyword).length+(if ([]:List Keyword).isEmpty then 0 else 1)<30))=true)
  (Kg:(o_.endLine == m_.line)=true) (hs:starEach (e::es) X.env=(false,eval e X.env)::starEach es X.env) (Kt:(backTo m_ (starEach es X.env)).any (·.1)=false) :
  PE X (.Call (.Attribute o name o_) (e::es) [] m_) (λZ H Q=>t2 Z H λx H1=>TyV X T x H1/\ta Z H1 λxs H2=>r x xs H2 Q):=by
 intro a_ s Z H Q I h;refine wpAny_Call_method_late Kf MP Kg rfl (thn (ho a_ s Z H _ I h) λv s1 z_=>?_)
 obtain⟨x,H1,I1,r1,ty,q1⟩:=z_;obtain⟨h1,h2⟩:=ty a_ Z s1 v I1 r1;refine⟨T,id,pa,slot,Ma,h1,h2,?_⟩;have hA:=ha m_ a_ s1 Z H1 _ I1 q1;rw[hs]at hA ⊢;refine Calls.callWith_builtin (by show (false||(backTo m_ (starEach es X.env)).any (·.1))=false;rw[Kt]<;>rfl) (Calls.evalArgs_plain ?_)
 exact thn hA λus s2 ⟨vs,H2,I2,r2,q2⟩=>hm a_ s2 Z H2 x vs v us Q I2 r1 r2 q2
theorem xH(pa:PlainAttrs T)(slot:Slot T name id)(Ma:typeOf (.builtin id)=pure (.type "method_descriptor"))(hm:MtR X id r)(ho:PE X o t2)
  (Kf:attributeBase o name X.env (eval o X.env)=eval o X.env) (Kg:(o_.endLine == m_.line)=true):PE X (.Call (.Attribute o name o_) [] [] m_) (λZ H Q=>t2 Z H λx H1=>TyV X T x H1/\r x [] H1 Q):=by
 intro a_ s Z H Q I h;refine wpAny_Call_method0_late Kf Kg (thn (ho a_ s Z H _ I h) λv s1 z_=>?_)
 obtain⟨x,H1,I1,r1,ty,q1⟩:=z_;obtain⟨h1,h2⟩:=ty a_ Z s1 v I1 r1;exact⟨T,id,pa,slot,Ma,h1,h2,Calls.callWith_builtin rfl (PySem.evalArgs_none (hm a_ s1 Z H1 x [] v [] Q I1 r1 .nil q1))⟩
def VM(X:Cx)(id:String)(r:D->List D->MH->VK3->Prop):Prop:=
 ∀(a_:List (Addr×Obj)) (s:Shared)(Z:St)(H:Hp)(x:D)(xs:List D)(v:V)(vs:List V)(v2:Value)(us:List Value)(M:MH)(Q:VK3)(Q2:VK),Inv X a_ Z H s->RelV v v2->Vals vs us->Den X.K H x v->DenL X.K H xs vs->RelM X.K M H->r x xs M Q->Back X.K H Q Q2->
  wpAny (model X.prog X.w) X.A (call (.builtin id) (v2::us)) (EP X a_ Z Q2) X.xe s
theorem VM.op(h:VM X id r):MtR X id (λv vs H Q2=>∃x xs M Q,Den X.K H x v/\DenL X.K H xs vs/\RelM X.K M H/\r x xs M Q/\Back X.K H Q Q2):=by
 intro a_ s Z H v vs v2 us Q2 I rv rs ⟨x,xs,M,Q,dx,dl,rm,q,c_⟩;exact h a_ s Z H x xs v vs v2 us M Q Q2 I rv rs dx dl rm q c_
def TyD(X:Cx)(T:String)(tb:D->MH->Bool):Prop:=∀(x:D)(v:V)(M:MH)(H:Hp),Den X.K H x v->RelM X.K M H->tb x M=true->TyV X T v H
theorem CG(pa:PlainAttrs T)(slot:Slot T name id)(Ma:typeOf (.builtin id)=pure (.type "method_descriptor"))(hm:VM X id r)(ht:TyD X T tb)(ho:PE X o (low X.K cls E2 to))(ha:PA X (e::es) (dY X.K cls E2 tr))
  (Kf:attributeBase o name X.env (eval o X.env)=eval o X.env) (hn:(e::es).length<30)
  (Kg:(o_.endLine == m_.line)=true) (hs:starEach (e::es) X.env=(false,eval e X.env)::starEach es X.env) (Kt:(backTo m_ (starEach es X.env)).any (·.1)=false) :
  PE X (.Call (.Attribute o name o_) (e::es) [] m_) (low X.K cls E2 λZ M Q E=>to Z M (λx M1=>tb x M1=true/\tr Z M1 (λxs M2=>r x xs M2 Q) E) E):=by
 have Ks:(backTo m_ (starEach (e::es) X.env)).any (·.1)=false:=by
  rw[hs];show ((false,_)::backTo m_ (starEach es X.env)).any (·.1)=false;rw[List.any_cons,Kt];rfl
 refine (AT pa slot Ma hm.op ho ha Kf (g9 Ks hn) Kg hs Kt).imp λZ H Q2 j_=>ex9 j_ λf_ M Q E3 rm ds lk h c_=>bo rm ds lk h λv H1 x M1 dx k_ t1 q1=>?_
 exact⟨ht x v M1 H1 dx k_ q1.1,eV k_ (ds.mono t1) (lk.mono t1) q1.2 λvs H2 xs M2 dl C_ t2 q2=>⟨x,xs,M2,Q,dx.mono t2,dl,C_,q2,c_.mono (t1.trans t2)⟩⟩
theorem yb(pa:PlainAttrs T)(slot:Slot T name id)(Ma:typeOf (.builtin id)=pure (.type "method_descriptor"))(hm:VM X id r)(ht:TyD X T tb)(ho:PE X o (low X.K cls E2 to))
  (Kf:attributeBase o name X.env (eval o X.env)=eval o X.env) (Kg:(o_.endLine == m_.line)=true) :
  PE X (.Call (.Attribute o name o_) [] [] m_) (low X.K cls E2 λZ M Q E=>to Z M (λx M1=>tb x M1=true/\r x [] M1 Q) E):=
 (xH pa slot Ma hm.op ho Kf Kg).imp λZ H Q2 j_=>ex9 j_ λf_ M Q E3 rm ds lk h c_=>bo rm ds lk h λv H1 x M1 dx k_ t1 q1=>⟨ht x v M1 H1 dx k_ q1.1,x,[],M1,Q,dx,.nil,k_,q1.2,c_.mono t1⟩
theorem jl:TyD X "dict" (tyB .get):=λx v M H dx rm h a_ Z s v2 I rv=>by
 simp only[tyB,Bool.or_eq_true]at h;rcases h with h|h
 ·obtain⟨⟨ks,ds⟩,e⟩:=J4.mp h;obtain⟨p,vs,rfl,rd,_⟩:=nz e rm dx;cases rv;obtain⟨_,_,ws,_,dd⟩:=ja I.h_ rd;refine⟨dd.typeIs,λb q=>?_⟩
  cases q;obtain⟨ob,_,_,h1,h2,_⟩:=dd;exact⟨ob,h1,h2.2.1⟩
 ·obtain⟨⟨ks,ds⟩,e⟩:=J4.mp h;obtain⟨p,vs,xs,rfl,rd,z,_⟩:=m6 e rm dx;cases rv;have dd:=b8 I rd z;refine⟨dd.typeIs,λb q=>?_⟩
  cases q;obtain⟨ob,_,_,h1,h2,_⟩:=dd;exact⟨ob,h1,h2.2.1⟩
theorem OptDen.getD{K:Kc}{o:Option D}{ov:Option V}(h:OptDen K H o ov)(dv:Den K H d v):Den K H (o.getD d) (ov.getD v):=by
 cases o with
 |none=>cases ov with
  |none=>exact dv
  |some _=>exact h.elim
 |some d'=>cases ov with
  |none=>exact h.elim
  |some v'=>exact h
theorem lM{K:Kc}(h:DenL K H (d::ds) vs):∃v ws,vs=v::ws/\Den K H d v/\DenL K H ds ws:=by
 obtain⟨v,r,e,dv,dl⟩:=h;exact⟨v,r,e,dv,dl⟩
theorem tJ(hu:X.A.units+64<cLine):VM X "dict.get" (rBm .get):=by
 intro a_ s Z H x xs v vs v2 us M Q Q2 I rv rs dx dl rm q c_;simp only[rBm]at q;split at q
 ·rename_i y;split at q
  ·rename_i o e;obtain⟨yv,rfl,dy⟩:=lE dl;obtain⟨u,rfl,ru⟩:=rs.one;obtain⟨a,ov,rfl,g,od⟩:=ir e rm dx dy;cases rv;exact zT (by omega) I g ru λw' s' I' Kp=>⟨_,H,I',Kp,c_ _ _ _ _ (od.getD (show Den X.K H .i_ .i_ from rfl)) rm (.refl _) q⟩
  ·exact q.elim
 ·rename_i y z;split at q
  ·rename_i o e;obtain⟨yv,wv,rfl,dy,dw⟩:=lM dl;obtain⟨zv,rfl,dz⟩:=lE dw;obtain⟨u,w,rfl,ru,Kp⟩:=rs.two;obtain⟨a,ov,rfl,g,od⟩:=ir e rm dx dy;cases rv;exact zr (by omega) I g ru Kp λw' s' I' Kp=>⟨_,H,I',Kp,c_ _ _ _ _ (od.getD dz) rm (.refl _) q⟩
  ·exact q.elim
 ·exact q.elim
theorem yX(hu:X.A.units+64<cLine):AF X (λo i v H R2=>∃x k y M R,Den X.K H x o/\Den X.K H k i/\Den X.K H y v/\RelM X.K M H/\aY x k y M R/\∀H' M',RelM X.K M' H'->TM X.K H H'->R M'->R2 H'):=by
 intro a_ s Z H o i v ov iv u R2 I ro ri rv ⟨x,k,y,M,R,dx,dk,dy,rm,q,c_⟩;unfold aY at q;split at q
 ·rename_i a;cases (show o=.ref a from dx);split at q
  ·rename_i ds n e;split at q
   ·rename_i j ej;cases (show i=.int n from dk);obtain⟨vs,e1,dl⟩:=rm a _ e;have tw:TM X.K H (upd H a (.lst (vs.set j v))):=.put e1 (λ_ z=>by cases z) λ_ _ z=>by cases z
    refine tK a_ s Z H _ _ v ov iv u R2 I ro ri rv ⟨a,vs,n,j,rfl,rfl,e1,by rw[<-dl.length];exact ej,?_⟩
    exact c_ _ _ (rm.write (u:=.lst (ds.set j y)) e1 (λ_ z=>by cases z) (λ_ _ z=>by cases z) ⟨_,ag,(dl.set dy j).mono tw⟩) tw q
   ·exact q.elim
  ·rename_i ks ds e;split at q
   ·rename_i k' ek;cases ro;exact zZ (by omega) I rm e (oF ek dk) ri dy rv q.1 q.2 c_
   ·exact q.elim
  ·rename_i ks ds e;split at q
   ·rename_i k' ek;cases ro;obtain⟨b,rfl,sq⟩:=jH ek dk;cases ri;exact AI (by omega) I rm e sq dy rv q.1 q.2 c_
   ·exact q.elim
  ·exact q.elim
 ·exact q.elim
theorem xB(hu:X.A.units+64<cLine)(ho:PE X o (low X.K cls E2 to))(hi:PE X ixe (low X.K cls E2 ti))(hv:PE X value (low X.K cls E2 tv))
  (ha:∀v,assign (.Subscript o ixe G_) X.env v=(do
   let ov<-holding [v] (eval o X.env)
   let iv<-holding [v,ov] (eval ixe X.env)
   standAt G_
   holding [v,ov,iv] (setItem ov iv v)
   release [v,ov,iv] [])) (hs:swapsWithSole [.Subscript o ixe G_] value pos.line X.env=pure false) (hw:swappedStores [.Subscript o ixe G_] value X.env=pure none) (h1:(assignEach [.Subscript o ixe G_] X.env).map (·.2)=[assign (.Subscript o ixe G_) X.env]) :
  PS X (.Assign [.Subscript o ixe G_] value pos) (bM X.K cls E2 λD E Z M=>tv Z M (λy M1=>to Z M1 (λx M2=>ti Z M2 (λk M3=>aY x k y M3 λM4=>D.nx Z M4) (E Z)) (E Z)) (E Z)):=
 (BR hv (BK ho hi (yX hu) ha) hs hw h1).imp λD2 Z H j_=>ex9 j_ λf_ M D3 E3 rm ds lk h er=>bo rm ds (lk.at ds) h λv H1 y M1 dy k_ t1 q1=>
  bo k_ (ds.mono t1) ((lk.at ds).mono t1) q1 λw H2 x M2 dx C_ t2 q2=>bo C_ ((ds.mono t1).mono t2) (((lk.at ds).mono t1).mono t2) q2 λz H3 k M3 dk Oa t3 q3=>
   ⟨x,k,y,M3,_,dx.mono t3,dk,(dy.mono t2).mono t3,Oa,q3,λH' M' s_ t' q'=>er.nx _ _ f_ M' s_ ((((ds.mono t1).mono t2).mono t3).mono t') (((t1.trans t2).trans t3).trans t') q'⟩
end
end L2
namespace L2
open PySem PySem.Spec PyProof.Rows PySem.W
theorem jq(f:α->β):∀(l:List α)(i:Nat),(l.eraseIdx i).map f=(l.map f).eraseIdx i
 |[],_=>rfl
 |_::_,0=>rfl
 |x::l,i+1=>by simp[jq f l i]
section
variable {A:Around}{s:Shared} [DecidableEq κ] {knd:HeapKind prog w κ}{xs:List (κ×Addr×Value)}{p:Addr×Value}
theorem mP(hu:knd.room A)(Lj:knd.is s.heap k a)(hm:s.heap.DictOfH knd d xs)(hj:xs[j]?=some (k,p))(hsz:xs.length<=sizeLine)
  (hQ:∀h',h'.DictOfH knd d (xs.eraseIdx j)->Heap.SameBut d s.heap h'->Q (some (entryOfKey knd (k,p))) {s with heap:=h',toks:=s.toks+knd.draws k}) :
  wpAny (model prog w) A (Builtin.Dict.takeOut d (.ref a)) Q E s:=by
 obtain⟨o,es,ep,ho,hc,hd,he,P0,hn⟩:=hm;unfold Builtin.Dict.takeOut
 try with_reducible refine JH ?_
 refine IU (knd.pyHash hu Lj ?_);refine IU (wpAny_dictFind_heap (s:={s with toks:=s.toks+knd.draws k}) hu Lj ho hd he P0 hn ?_ ?_)
 ·intro NU;exact absurd hj (NU j p)
 ·intro i q hi;obtain rfl:i=j:=idxH_unique hn hi hj;refine IU (wpAny_dictEntries (s:={s with toks:=s.toks+knd.draws k}) ho hd ?_)
  rw[entry_at he i,hj];refine IU (wpAny_updateDictKeys (hz:=by have e:=size_of_entries he;omega) (s:={s with toks:=s.toks+knd.draws k}) ho hd (IZ (hQ _ ⟨_,_,ep+1,JD _ ho (Obj.isFreed_of_dict (Obj.data_mapDictKeys hd _)),
   hc.mapDictKeys _,Obj.data_mapDictKeys hd _,?_,?_,?_⟩ (Heap.SameBut.update ..))))
  ·have e1:(es.eraseIdxIfInBounds i).toList=es.toList.eraseIdx i:=by simp
   rw[e1,he,jq]
  ·intro x hx;exact knd.keeps (P0 x (List.mem_of_mem_eraseIdx hx)) ho hd (Heap.SameBut.update ..)
  ·rw[jq];exact hn.sublist (List.eraseIdx_sublist _ _)
theorem uC:MeetsIn prog w (Builtin.«dict.pop» ⟨[.ref d,.ref a],[]⟩) (λA R s=>∃(k:κ) (xs:List (κ×Addr×Value)) (j:Nat) (p:Addr×Value),knd.room A.in1/\knd.is s.heap k a/\s.heap.DictOfH knd d xs/\xs.length<=sizeLine/\xs[j]?=some (k,p)/\
  ∀h',h'.DictOfH knd d (xs.eraseIdx j)->Heap.SameBut d s.heap h'->R (.ok (.ret p.2)) {s with heap:=h',toks:=s.toks+knd.draws k}):=
 .of_wp λA R s ⟨k,xs,j,p,hu,Lj,hm,hsz,hj,h⟩=>by
  obtain⟨o,es,ep,ho,hc,hd,he,P0,hn⟩:=id hm;unfold Builtin.«dict.pop»;refine IU ?_;unfold Builtin.Dict.keyAndDefault;refine IU (wpAny_notOrdered_dict hm.typeIs ?_);show wpAny _ _ (pure (d,Value.ref a,none)) _ _ s;refine IZ ?_;have kp:(keyPart (Value.ref a)).isSome=false:=rfl;simp only[kp,JE,if_false];have ne:es.isEmpty=false:=by
   have:=size_of_entries he;have hl:j<xs.length:=(Jk.mp hj).1;rw[Array.isEmpty_eq_false_iff];intro z;rw[z]at this;simp at this;omega
  refine IU (wpAny_dictEntries ho hd (IU (IZ ?_)));simp only[ne,JE,if_false];refine IU (mP hu Lj hm hj hsz λh' LF NY=>?_)
  simp only[Option.isNone_some,JE,if_false];exact IU (wpAny_letGo (IZ ⟨p.2,rfl,h h' LF NY⟩))
end
theorem qU{K:Kc}:∀{xs:List (List Int×Addr×Value)}{ds:List D}{vs:List V},DenL K H ds vs->Vals vs (xs.map (·.2.2))->getD (xs.map (·.1)) ds k=some y->
  ∃j p v,xs[j]?=some (k,p)/\Den K H y v/\RelV v p.2/\(xs.eraseIdx j).map (·.1)=ax (xs.map (·.1)) k/\DenL K H (aJ (xs.map (·.1)) ds k) (vs.eraseIdx j)/\Vals (vs.eraseIdx j) ((xs.eraseIdx j).map (·.2.2))
 |[],ds,vs,dl,rl,h=>by simp[getD]at h
 |x::xs,[],vs,dl,rl,h=>by simp[getD]at h
 |x::xs,d::ds,_,dl,rl,h=>by
  obtain⟨v,vs,rfl,dv,dl⟩:=dl;rw[Ji]at rl;cases rl with
  |cons h1 h2=>
   by_cases z:x.1=k
   ·simp only[Ji,getD,Jc z]at h;cases h;refine⟨0,x.2,v,by simp[<-z],dv,h1,?_,?_,?_⟩
    ·simp[ax,z]
    ·simp only[Ji,aJ,Jc z];exact dl
    ·exact h2
   ·simp only[Ji,getD,IY z]at h;obtain⟨j,p,v',a1,a2,a3,a4,a5,a6⟩:=qU dl h2 h;refine⟨j+1,p,v',by simpa using a1,a2,a3,?_,?_,?_⟩
    ·simp[ax,z,a4]
    ·simp only[Ji,aJ,IY z,List.eraseIdx_cons_succ];exact⟨v,_,rfl,dv,a5⟩
    ·exact .cons h1 a6
section
variable {X:Cx}
theorem rg(hu:X.A.units+64<cLine):VM X "dict.pop" (rBm .KN):=by
 intro a_ s Z H x xs v vs v2 us M Q Q2 I rv rs dx dl rm q c_;simp only[rBm]at q;split at q
 ·rename_i a y;split at q
  ·rename_i ks ds k e ek;split at q
   ·rename_i d0 hg;obtain⟨yv,rfl,dy⟩:=lE dl;obtain⟨u,rfl,ru⟩:=rs.one;cases (show v=.ref a from dx);cases rv;obtain⟨b,rfl,sq⟩:=jH ek dy;cases (show u=Value.ref b from ru);obtain⟨vs,xs,e0,z,SH⟩:=rm a _ e;have dd:=b8 I (.inl e0) z;rw[<-z.kx]at hg;obtain⟨j,p,v0,a1,a2,a3,a4,a5,a6⟩:=qU SH z.vx hg;have hsz:xs.length<=sizeLine:=by
     have:=congrArg List.length z.kx;rw[Jh]at this;rw[this];exact z.sz
    refine call_meetsIn PySem.F.slot_dict_pop dd.typeIs PySem.F.entry_dict_pop (PySem.F.args_dict_pop_2 _ _) (uC (knd:=tupleKind (intKind X.prog X.w))) ⟨k,xs,j,p,JI (by omega),fx I sq,dd,hsz,a1,λh' Mz hs=>?_⟩
    obtain⟨ob,es,ep,hq,hx,hd,he,_,_⟩:=Mz;have tw:TM X.K H (upd H a (.ext (dW a (xs.eraseIdx j)))):=.put e0 (λ_ z=>by cases z) λ_ _ z=>by cases z
    have tb:dW a (xs.eraseIdx j) h':=⟨ob,es,ep,hq,hx,hd,he⟩;have I':Inv X a_ Z (upd H a (.ext (dW a (xs.eraseIdx j)))) {s with heap:=h',toks:=s.toks+(tupleKind (intKind X.prog X.w)).draws k}:=
     jp I (by rw[e0];exact True.intro) hs ⟨ob,hq⟩ ⟨tb,⟨ob,hq⟩,λg1 g2 ⟨o1,N7,N8,a1,a2,a3,a4⟩ kk=>⟨o1,N7,N8,kk _ a1,a2,a3,a4⟩⟩
    have nd:(ax ks k).Nodup:=by
     rw[<-z.kx,<-a4];have:=z.nd;rw[<-z.kx]at this;rw[jq];exact this.sublist (List.eraseIdx_sublist _ _)
    have sz:(ax ks k).length<=sizeLine:=by
     rw[<-z.kx,<-a4,Jh];exact Jw (List.length_eraseIdx_le _ _) hsz
    rw[z.kx]at a4 a5;exact⟨v0,_,I',a3,c_ _ _ _ _ (a2.mono tw) (rm.write (u:=.dt (ax ks k) (aJ ks ds k)) e0 (λ_ z=>by cases z) (λ_ _ z=>by cases z) ⟨vs.eraseIdx j,_,ag,⟨a4,nd,sz,z.no,a6,λx Ly=>tw.t _ _ (z.at_ x (List.mem_of_mem_eraseIdx Ly))⟩,a5.mono tw⟩) tw q⟩
   ·exact q.elim
  ·exact q.elim
 ·exact q.elim
end
end L2
namespace L2
open PySem PySem.Spec PyProof.Rows
section
variable {X:Cx}
end
end L2
namespace L2
open PySem PySem.Spec PyProof.Rows SeqAt PySem.MeetsSeq AutoSeq1
end L2
namespace L2
open PySem PySem.Spec PyProof.Rows PySem.W
section
variable {X:Cx}
end
end L2
namespace L2
open PySem PySem.Spec PyProof.Rows PySem.Calls PySem.NumText PySem.W.KIN
end L2
namespace L2
open PySem PySem.Spec PyProof.Rows
def Bo(K:Kc):Prop:=PySem.W.nsIn K cStatics "sys.int_max_str_digits"=some none
section
variable {X:Cx}
end
section
variable {X:Cx}{s:Shared}{h':Heap}
theorem Inv.turned2(I:Inv X a_ Z H s)(k:∀b o,b≠it->b≠it'->s.heap.get? b=some o->h'.get? b=some o)(f:g5 X a_ H it)(f':g5 X a_ H it'):Inv X a_ Z H {s with heap:=h',toks:=t'}:=by
 obtain⟨hn,hL,_,h1,h2,h3⟩:=f;obtain⟨Ph,Oc,_,Mg,MD,SJ⟩:=f';have Mv:∀b u,H b=some u->b≠it:=λb u e z=>by rw[z,hn]at e;cases e
 have Od:∀b u,H b=some u->b≠it':=λb u e z=>by rw[z,Ph]at e;cases e
 have kc:∀b o,b∉[it,it']->s.heap.get? b=some o->h'.get? b=some o:=λb o hc e=>k b o (λz=>hc (by simp[z])) (λz=>hc (by simp[z])) e
 refine I.step (g':=s.gens) (d':=s.drawn) (ch:=[it,it']) (λb hb=>?_) (λb o _ _ hc e _=>kc b o hc e) (λb o _ _ hc e _=>⟨o.slots,kc b o hc e⟩) (λ_ _ _ _ n=>n)
  (λb o hc e=>⟨o,kc b o hc e⟩) (λ_ _ e=>e) (λ_ _ _ e=>e) (λb ps e=>⟨#[],by rw[e];simp⟩) (λm hm=>?_) (λb u e=>?_) I.bare
 ·rcases Jb.mp hb with rfl|hb
  ·exact⟨h1,hL,h2,h3⟩
  ·have e:b=it':=by simpa using hb
   subst e;exact⟨Mg,Oc,MD,SJ⟩
 ·obtain⟨o,es,ep,ho,r⟩:=hm;exact⟨o,es,ep,k _ o (Ja hL) (Ja Oc) ho,r⟩
 ·refine (I.h_ b u e).stay (λc v hc q=>k c v ?_ ?_ q) (λ_ q=>q) λ_ _ q=>q
  ·rcases hc with z|z
   ·rw[z];exact Mv b u e
   ·exact Mv c _ z
  ·rcases hc with z|z
   ·rw[z];exact Od b u e
   ·exact Od c _ z
noncomputable def Ite(K:Kc)(a:Addr):It:=
 ⟨λi H=>∃xs x,SqL K H a xs/\xs[i]?=some x,λi H v H'=>∃p,v=.ref p/\H p=none/\∃x,(∀xs,SqL K H a xs->xs[i]?=some x)/\H'=upd H p (.tup [.int i,x]),λi H=>∃xs,SqL K H a xs/\xs.length<=i⟩
theorem sw{K:Kc}(a e it:Addr)(Nv:e≠it):Turn P w K (.Tuple Lr x1 pos) (Ite K a) [e,it] e (λi h=>(∃old,IsEnum h e it i old)/\h.IsListIter it a i) where
 mem:=by simp
 obj:=λi h st b hb=>by
  obtain⟨⟨old,h1⟩,h2⟩:=st;rcases Jb.mp hb with rfl|hb
  ·exact⟨_,h1,λv z=>by
    have z':Data.fields _=Data.cell v:=z;cases z'⟩
  ·have e':b=it:=by simpa using hb
   subst e';obtain⟨o,e1,c,d⟩:=h2;exact⟨o,e1,λv z=>by rw[d]at z;cases z⟩
 keep:=λi h h' st k=>⟨let ⟨old,h1⟩:=st.1;⟨old,k e (by simp) _ h1⟩,st.2.at λo e1=>k it (by simp) o e1⟩
 item:=by
  intro X hP hw hK hc i a_ s Z H E I hf st hg;subst hP hw hK;obtain⟨xs,x,hq,hx⟩:=hg;obtain⟨its,rv,p,hz⟩:=I.list hq;obtain⟨u,hu,ru⟩:=rv.get hx;obtain⟨⟨old,he⟩,Ms⟩:=st;have fe:=hf e (by simp)
  have fi:=hf it (by simp)
  have SK:e<s.heap.objs.size:=Jf he;obtain⟨oi,SM,_⟩:=id Ms;have P6:it<s.heap.objs.size:=Jf SM;refine wpAny_pyNext_enum_item he Ms p.isList (x:=u) (by simpa using hu) Nv λh' Mt P7 ht hsz k=>?_
  have hp:H s.heap.objs.size=none:=I.h_.fresh (Jg _);have I1:Inv X a_ Z (upd H s.heap.objs.size (.tup [.int i,x])) {s with heap:=s.heap.push {cls:=.type "tuple",data:=.seq #[.int i s.toks,u]},toks:=s.toks+1}:=
   I.laid (λb o e1=>IW _ e1) (Jg _) ⟨by show 2<=sizeLine;decide,[.int i s.toks,u],.cons ⟨_,rfl⟩ (.cons ru .nil),⟨_,Jp _ rfl,rfl,_,rfl⟩⟩
  have Rg:g5 X a_ (upd H s.heap.objs.size (.tup [.int i,x])) e:=⟨by rw[ae (Js SK)];exact fe.1,fe.2⟩
  have Rh:g5 X a_ (upd H s.heap.objs.size (.tup [.int i,x])) it:=⟨by rw[ae (Js P6)];exact fi.1,fi.2⟩
  have I2:Inv X a_ Z (upd H s.heap.objs.size (.tup [.int i,x])) {s with heap:=h',toks:=s.toks+1}:=I1.turned2 (t':=s.toks+1) (λb o h1 h2 e1=>by
   by_cases hb:b=s.heap.objs.size
   ·subst hb;have e2:(s.heap.push {cls:=.type "tuple",data:=.seq #[.int i s.toks,u]}).get? s.heap.objs.size=some {cls:=.type "tuple",data:=.seq #[.int i s.toks,u]}:=Jp _ rfl;rw[e2]at e1;cases e1;exact ht
   ·exact k b o h1 h2 ((Heap.get?_push_ne _ _ _ hb).symm.trans e1)) Rg Rh
  refine⟨.ref s.heap.objs.size,rfl,wpAny_letOwnedTupleGo_enum (s:={s with heap:=h',toks:=s.toks+1}) Mt λh2 P8 KA=>?_⟩
  obtain⟨f0,f1,f2,f3,f4,f5⟩:=Rg;have I3:Inv X a_ Z (upd H s.heap.objs.size (.tup [.int i,x])) {s with heap:=h2,toks:=s.toks+1}:=I2.turned (t':=s.toks+1) (λb o hb e1=>(KA.2 b hb).trans e1) f0 f1 f3 f4 f5
  refine⟨.ref s.heap.objs.size,_,I3,rfl,⟨_,rfl,hp,x,λys hy=>by rw[I.list_inj hy hq];exact hx,rfl⟩,⟨⟨_,P8⟩,?_⟩,λb hb=>?_⟩
  ·exact P7.at λo e1=>(KA.2 it (Ja Nv)).trans e1
  ·rcases Jb.mp hb with rfl|hb
   ·exact f0
   ·have e':b=it:=by simpa using hb
    subst e';exact Rh.1
 done:=by
  intro X hP hw hK hc i a_ s Z H E I hf st hg;subst hP hw hK;obtain⟨xs,hq,hx⟩:=hg;obtain⟨its,rv,p,hz⟩:=I.list hq;obtain⟨⟨old,he⟩,Ms⟩:=st;obtain⟨f0,f1,f2,f3,f4,f5⟩:=hf it (by simp)
  have hl:=rv.length;exact wpAny_pyNext_enum_end (I.ok.hd hc) he Ms p.isList (by simp;omega) λh' eb=>⟨rfl,I.turned (t':=s.toks) (λb o hb e=>eb b o hb e) f0 f1 f3 f4 f5⟩
 self:=λ_ _ _ _ _ st h=>let ⟨⟨_,he⟩,_⟩:=st;wpAny_pyIter_enum he h
theorem iP:∀{ds:List D}{k i:Nat}{d:D},ds[i]?=some d->(cz k ds)[i]?=some (.tup [.int (k+i:Nat),d])
 |[],_,_,_,h=>by simp at h
 |x::r,k,0,d,h=>by
  have e:x=d:=by simpa using h
  subst e;rfl
 |x::r,k,i+1,d,h=>by
  have:=iP (ds:=r) (k:=k+1) (i:=i) (d:=d) (by simpa using h)
  rw[show k+1+i=k+(i+1) by omega]at this
  exact this
theorem d4:∀{ds:List D}{k:Nat},(cz k ds).length=ds.length
 |[],_=>rfl
 |x::r,k=>by
  show (cz (k+1) r).length+1=r.length+1;rw[d4]
theorem vS{K:Kc}(sq:SqF K H0 p vs)(dl:DenL K H0 ds vs):ItOk K H0 (Ite K p) (cz 0 ds) (λ_=>True):=by
 have u_:=dl.length;refine⟨λi H M t rm s hi=>?_,λi H M x H' t rm s hi y=>?_,λH M t rm s=>?_⟩
 ·rw[d4]at hi;have KY:i<vs.length:=by omega
  exact⟨vs,vs[i],(t.f _ _ sq).sq,by simp[KY]⟩
 ·obtain⟨q,rfl,hq,v,hv,rfl⟩:=y;obtain⟨d,e1,e2⟩:=(dl.mono t).get' (hv vs (t.f _ _ sq).sq);refine⟨.new hq,rm.grow hq,.tup [.int i,d],?_,⟨q,[.int i,v],rfl,.inl (.inl ag),⟨_,_,rfl,rfl,_,_,rfl,e2.mono (.new hq),rfl⟩⟩⟩;have:=iP (k:=0) e1;simpa using this
 ·rw[d4];exact⟨vs,(t.f _ _ sq).sq,by omega⟩
theorem vC{K:Kc}:ItOk K H0 (Ite K p) (cz 0 ds) (λM=>M p=some (.lst ds)):=by
 refine⟨λi H M t rm s hi=>?_,λi H M x H' t rm s hi y=>?_,λH M t rm s=>?_⟩
 ·obtain⟨vs,e,dl⟩:=rm p _ s;rw[d4]at hi;have KY:i<vs.length:=by rw[<-dl.length];exact hi
  exact⟨vs,vs[i],.of e,by simp[KY]⟩
 ·obtain⟨vs,e,dl⟩:=rm p _ s;obtain⟨q,rfl,hq,v,hv,rfl⟩:=y;obtain⟨d,e1,e2⟩:=dl.get' (hv vs (.of e));refine⟨.new hq,rm.grow hq,.tup [.int i,d],?_,⟨q,[.int i,v],rfl,.inl (.inl ag),⟨_,_,rfl,rfl,_,_,rfl,e2.mono (.new hq),rfl⟩⟩⟩;have:=iP (k:=0) e1;simpa using this
 ·obtain⟨vs,e,dl⟩:=rm p _ s;rw[d4];exact⟨vs,.of e,by rw[dl.length];exact Jg _⟩
noncomputable def Ey(K:Kc)(ta:TA):TI:=λZ H R=>ta Z H λvs H1=>∃a,vs=[.ref a]/\(∃xs,SqL K H1 a xs)/\R (Ite K a) H1
theorem wH(hg:Gl X "enumerate")(hm:X.mg "enumerate"=none)(ha:PA X [a] ta)(hs:starEach [a] X.env=[(false,eval a X.env)]):PI X (.Tuple Lr x1 pt) (.Call (.Name "enumerate" p) [a] [] pos) (Ey X.K ta):=by
 intro a_ s Z H R I h;refine Call_ (dF I hg hm (u:=.type "enumerate") (by decide +kernel) (PyProof.Rows.callWith_type1 (thn (ha pos a_ s Z H _ I h) λus s1 ⟨vs,H1,I1,r1,q1⟩=>?_) hs rfl))
 obtain⟨b,e,⟨xs,hq⟩,q⟩:=q1;subst e;obtain⟨u,rfl,ru⟩:=jf r1;cases ru;obtain⟨its,rv,pl,hz⟩:=I1.list hq;refine call_enumerate_list pl.isList λh' he Ms hsz k=>?_
 refine wpAny_pyIter_enum (s:={s1 with heap:=h'}) he ?_
 refine⟨s1.heap.objs.size+1,[s1.heap.objs.size+1,s1.heap.objs.size],_,_,H1,rfl,I1.kept (t':=s1.toks) k,sw b (s1.heap.objs.size+1) s1.heap.objs.size (Nat.succ_ne_self _),⟨⟨_,he⟩,Ms⟩,λc hc=>?_,q⟩
 have Nl:s1.heap.objs.size<=c:=by
  rcases Jb.mp hc with rfl|hc
  ·exact JZ _
  ·have e':c=s1.heap.objs.size:=by simpa using hc
   exact Nat.le_of_eq e'.symm
 exact I1.fpOk Nl (I1.h_.fresh Nl)
theorem Bh(hg:Gl X "enumerate")(hm:X.mg "enumerate"=none)(ha:PE X a (low X.K cls E2 ta))(hs:starEach [a] X.env=[(false,eval a X.env)]) :
  PI X (.Tuple Lr x1 pt) (.Call (.Name "enumerate" p) [a] [] pos) (l7 X.K cls E2 λZ M R E=>ta Z M (λx M1=>match x with
  |.g_ ds=>R (cz 0 ds) (λ_=>True) M1
  |.ref a=>match M1 a with
   |some (.lst ds)=>R (cz 0 ds) (λM=>M a=some (.lst ds)) M1
   |_=>False
  |_=>False) E):=
 (wH hg hm (aB ha pa_nil hs) hs).imp λZ H R2 j_=>ex9 j_ λf_ M R E3 rm ds lk h k=>bo rm ds lk h λv H1 x M1 dx k_ t1 q1=>by
  cases x with
  |g_ es=>
   obtain⟨q,vs,rfl,sq,dl⟩:=dx;exact⟨q,rfl,⟨vs,sq.sq⟩,k _ _ _ _ _ (vS sq dl) k_ t1 q1⟩
  |ref a=>
   cases (show v=.ref a from dx);have q1:(match M1 a with
    |some (.lst ds)=>R (cz 0 ds) (λM=>M a=some (.lst ds)) M1
    |_=>False):=q1
   split at q1
   ·rename_i ds e;obtain⟨vs,eH,dl⟩:=k_ a _ e;exact⟨a,rfl,⟨vs,.of eH⟩,k _ _ _ _ _ vC k_ t1 q1⟩
   ·exact q1.elim
  |_=>exact q1.elim
end
section
variable {X:Cx}{s:Shared}{h':Heap}
theorem Inv.turnedL{t':Nat}{ch:List Addr}(I:Inv X a_ Z H s)(k:∀b o,b∉ch->s.heap.get? b=some o->h'.get? b=some o)(f:∀b∈ch,g5 X a_ H b):Inv X a_ Z H {s with heap:=h',toks:=t'}:=by
 have Mv:∀b u,H b=some u->b∉ch:=λb u e z=>by rw[(f b z).1]at e;cases e
 refine I.step (g':=s.gens) (d':=s.drawn) (ch:=ch) (λb hb=>?_) (λb o _ _ hc e _=>k b o hc e) (λb o _ _ hc e _=>⟨o.slots,k b o hc e⟩) (λ_ _ _ _ n=>n)
  (λb o hc e=>⟨o,k b o hc e⟩) (λ_ _ e=>e) (λ_ _ _ e=>e) (λb ps e=>⟨#[],by rw[e];simp⟩) (λm hm=>?_) (λb u e=>?_) I.bare
 ·obtain⟨hn,hL,_,h1,h2,h3⟩:=f b hb;exact⟨h1,hL,h2,h3⟩
 ·obtain⟨o,es,ep,ho,r⟩:=hm;exact⟨o,es,ep,k _ o (λz=>(f _ z).2.1 rfl) ho,r⟩
 ·refine (I.h_ b u e).stay (λc v hc q=>k c v ?_ q) (λ_ q=>q) λ_ _ q=>q
  rcases hc with z|z
  ·rw[z];exact Mv b u e
  ·exact Mv c _ z
noncomputable def Itz(K:Kc)(a b:Addr):It:=
 ⟨λi H=>∃xs ys x y,SqL K H a xs/\SqL K H b ys/\xs[i]?=some x/\ys[i]?=some y,λi H v H'=>∃p,v=.ref p/\H p=none/\∃x y,(∀xs,SqL K H a xs->xs[i]?=some x)/\(∀ys,SqL K H b ys->ys[i]?=some y)/\H'=upd H p (.tup [x,y]),λi H=>∃xs ys,SqL K H a xs/\SqL K H b ys/\(xs.length<=i\/ys.length<=i)⟩
theorem vA{P:Program}{w:World}{K:Kc}{Lr:List Expr}{x1:Nat}{pos:Pos}(a b z TI TO i1 i2:Addr)(D:ZipApart z TI TO i1 i2 a b):Turn P w K (.Tuple Lr x1 pos) (Itz K a b) [z,TI,TO,i1,i2] z (λi h=>IsZip h z TI TO .none/\IsPair h TI (.ref i1) (.ref i2)/\(∃c d,IsPair h TO c d)/\h.IsListIter i1 a i/\h.IsListIter i2 b i) where
 mem:=by simp
 obj:=λi h st c hc=>by
  obtain⟨h1,h2,⟨_,_,h3⟩,h4,h5⟩:=st;simp only[Jb,JF,or_false]at hc;rcases hc with rfl|rfl|rfl|rfl|rfl
  ·exact⟨_,h1,λv q=>by have q':Data.fields _=Data.cell v:=q;cases q'⟩
  ·exact⟨_,h2,λv q=>by have q':Data.seq _ _=Data.cell v:=q;cases q'⟩
  ·exact⟨_,h3,λv q=>by have q':Data.seq _ _=Data.cell v:=q;cases q'⟩
  ·obtain⟨o,e1,c,d⟩:=h4;exact⟨o,e1,λv q=>by rw[d]at q;cases q⟩
  ·obtain⟨o,e1,c,d⟩:=h5;exact⟨o,e1,λv q=>by rw[d]at q;cases q⟩
 keep:=λi h h' st k=>by
  obtain⟨h1,h2,⟨c,d,h3⟩,h4,h5⟩:=st;exact⟨k z (by simp) _ h1,k TI (by simp) _ h2,⟨c,d,k TO (by simp) _ h3⟩,h4.at λo e1=>k i1 (by simp) o e1,h5.at λo e1=>k i2 (by simp) o e1⟩
 item:=by
  intro X hP hw hK hc i a_ s Z H E I hf st hg;subst hP hw hK;obtain⟨xs,ys,x,y,hq,Nw,hx,hy⟩:=hg;obtain⟨its,rv,p,hz⟩:=I.list hq;obtain⟨q_,Nb,p2,P9⟩:=I.list Nw;obtain⟨u,hu,ru⟩:=rv.get hx;obtain⟨u2,SN,SO⟩:=Nb.get hy;obtain⟨h1,h2,⟨c,d,h3⟩,h4,h5⟩:=st;have lt:∀{c o},s.heap.get? c=some o->c<s.heap.objs.size:=λe=>Jf e
  refine wpAny_pyNext_zip_item D h1 h2 h3 h4 h5 p.isList p2.isList (x:=u) (y:=u2) (by simpa using hu) (by simpa using SN) λh' a1 a2 a3 a4 a5 a6 k=>?_
  have hp:H s.heap.objs.size=none:=I.h_.fresh (Jg _);have I1:Inv X a_ Z (upd H s.heap.objs.size (.tup [x,y])) {s with heap:=s.heap.push {cls:=.type "tuple",data:=.seq #[u,u2]},toks:=s.toks}:=
   I.laid (λb o e1=>IW _ e1) (Jg _) ⟨by show 2<=sizeLine;decide,[u,u2],.cons ru (.cons SO .nil),⟨_,Jp _ rfl,rfl,_,rfl⟩⟩
  have Kk:∀b∈[z,TI,TO,i1,i2],b<s.heap.objs.size:=λb hb=>by
   simp only[Jb,JF,or_false]at hb;rcases hb with rfl|rfl|rfl|rfl|rfl
   ·exact lt h1
   ·exact lt h2
   ·exact lt h3
   ·obtain⟨_,e,_⟩:=h4;exact lt e
   ·obtain⟨_,e,_⟩:=h5;exact lt e
  have K7:∀b∈[z,TI,TO,i1,i2],g5 X a_ (upd H s.heap.objs.size (.tup [x,y])) b:=λb hb=>⟨by rw[ae (Js (Kk b hb))];exact (hf b hb).1,(hf b hb).2⟩
  have I2:=I1.turnedL (t':=s.toks) (h':=h') (ch:=[z,TI,TO,i1,i2]) (λb o hb e1=>by
   simp only[Jb,JF,or_false,not_or]at hb;obtain⟨n1,n2,n3,n4,n5⟩:=hb;by_cases hb:b=s.heap.objs.size
   ·subst hb;have e2:(s.heap.push {cls:=.type "tuple",data:=.seq #[u,u2]}).get? s.heap.objs.size=some {cls:=.type "tuple",data:=.seq #[u,u2]}:=Jp _ rfl;rw[e2]at e1;cases e1;exact a5
   ·exact k b o n1 n3 n4 n5 ((Heap.get?_push_ne _ _ _ hb).symm.trans e1)) K7
  refine⟨.ref s.heap.objs.size,rfl,wpAny_letOwnedTupleGo_zip (s:={s with heap:=h',toks:=s.toks}) a1 λMD P8 KA=>?_⟩
  have I3:=I2.turnedL (t':=s.toks) (h':=MD) (ch:=[z,TI,TO,i1,i2]) (λb o hb e1=>(KA.2 b (λq=>hb (by simp[q]))).trans e1) K7
  refine⟨.ref s.heap.objs.size,_,I3,rfl,⟨_,rfl,hp,x,y,λSQ Oe=>by rw[I.list_inj Oe hq];exact hx,λSQ Oe=>by rw[I.list_inj Oe Nw];exact hy,rfl⟩,⟨P8,?_,⟨u,u2,?_⟩,?_,?_⟩,λb hb=>(K7 b hb).1⟩
  ·exact (KA.2 TI D.TIz).trans (k _ _ D.TIz D.TITO D.TIi1 D.TIi2 h2)
  ·exact (KA.2 TO D.TOz).trans a2
  ·exact a3.at λo e1=>(KA.2 i1 D.i1z).trans e1
  ·exact a4.at λo e1=>(KA.2 i2 D.i2z).trans e1
 done:=by
  intro X hP hw hK hc i a_ s Z H E I hf st hg;subst hP hw hK;obtain⟨xs,ys,hq,Nw,hx⟩:=hg;obtain⟨its,rv,p,hz⟩:=I.list hq;obtain⟨q_,Nb,p2,P9⟩:=I.list Nw;obtain⟨h1,h2,⟨c,d,h3⟩,h4,h5⟩:=st;have hl:=rv.length;have L7:=Nb.length;refine wpAny_pyNext_zip_end (I.ok.hd hc) D h1 h2 h3 h4 h5 p.isList p2.isList ?_ λh' eb=>⟨rfl,I.turnedL (t':=s.toks) (ch:=[z,TI,TO,i1,i2]) (λb o hb e=>?_) hf⟩
  ·rcases hx with hx|hx
   ·exact .inl (by simp;omega)
   ·exact .inr (by simp;omega)
  ·simp only[Jb,JF,or_false,not_or]at hb;exact eb b o hb.1 hb.2.2.1 hb.2.2.2.1 hb.2.2.2.2 e
 self:=λ_ _ _ _ _ st h=>wpAny_pyIter_zip st.1 h
def RdQ(K:Kc)(H0:Hp)(p:Addr)(ds:List D)(S:MH->Prop):Prop:=∀H M,TM K H0 H->RelM K M H->S M->∃vs,SqL K H p vs/\DenL K H ds vs
theorem uI{K:Kc}{x:D}{v:V}(dx:Den K H0 x v)(rm:RelM K M H0)(h:rLs x M k):∃p ds S,v=.ref p/\RdQ K H0 p ds S/\S M/\k ds S:=by
 cases x with
 |g_ es=>
  obtain⟨q,vs,rfl,sq,dl⟩:=dx;exact⟨q,es,_,rfl,λH M t _ _=>⟨vs,(t.f _ _ sq).sq,dl.mono t⟩,trivial,h⟩
 |ref b=>
  cases (show v=.ref b from dx);dsimp only[rLs]at h;split at h
  ·rename_i ys e;exact⟨b,ys,_,rfl,λH M t rm s=>let ⟨ws,z,dl⟩:=rm b (.lst ys) s;⟨ws,.of z,dl⟩,e,h⟩
  ·exact h.elim
 |_=>exact h.elim
theorem Ay{K:Kc}(h1:RdQ K H0 p ds S)(h2:RdQ K H0 q es S'):ItOk K H0 (Itz K p q) (gy ds es) (λM=>S M/\S' M):=by
 refine⟨λi H M t rm s hi=>?_,λi H M x H' t rm s hi y=>?_,λH M t rm s=>?_⟩
 all_goals
  obtain⟨vs,sq,dl⟩:=h1 H M t rm s.1;obtain⟨ws,Mj,Kz⟩:=h2 H M t rm s.2;have u_:=dl.length;have Ri:=Kz.length
 ·simp only[gy,Jh,List.length_zip]at hi;have KY:i<vs.length:=by omega
  have SR:i<ws.length:=by omega
  exact⟨vs,ws,vs[i],ws[i],sq,Mj,by simp[KY],by simp[SR]⟩
 ·obtain⟨q,rfl,hq,v,w,hv,hw,rfl⟩:=y;obtain⟨d,e1,e2⟩:=dl.get' (hv vs sq);obtain⟨d',MT,MU⟩:=Kz.get' (hw ws Mj);refine⟨.new hq,rm.grow hq,.tup [d,d'],?_,⟨q,[v,w],rfl,.inl (.inl ag),⟨_,_,rfl,e2.mono (.new hq),_,_,rfl,MU.mono (.new hq),rfl⟩⟩⟩;have ez:(ds.zip es)[i]?=some (d,d'):=List.getElem?_zip_eq_some.mpr ⟨e1,MT⟩;simp[gy,ez]
 ·refine⟨vs,ws,sq,Mj,?_⟩;simp only[gy,Jh,List.length_zip];omega
noncomputable def GS(K:Kc)(ta:TA):TI:=λZ H R=>ta Z H λvs H1=>∃a b,vs=[.ref a,.ref b]/\(∃xs,SqL K H1 a xs)/\(∃ys,SqL K H1 b ys)/\R (Itz K a b) H1
theorem zy(hg:Gl X "zip")(hm:X.mg "zip"=none)(ha:PA X [a,b] ta)(hs:starEach [a,b] X.env=[(false,eval a X.env),(false,eval b X.env)])(KA:starEach [b] X.env=[(false,eval b X.env)]):PI X (.Tuple Lr x1 pt) (.Call (.Name "zip" p) [a,b] [] pos) (GS X.K ta):=by
 intro a_ s Z H R I h;refine Call_ (dF I hg hm (u:=.type "zip") (by decide +kernel) (PyProof.Rows.callWith_type1 (thn (ha pos a_ s Z H _ I h) λus s1 ⟨vs,H1,I1,r1,q1⟩=>?_) (by rw[hs,KA]) (by rw[KA];rfl)))
 obtain⟨c,d,e,⟨xs,hq⟩,⟨ys,Nw⟩,q⟩:=q1;subst e;obtain⟨u,w,rfl,ru,Kp⟩:=r1.two;cases ru;cases Kp;obtain⟨its,rv,pl,hz⟩:=I1.list hq;obtain⟨q_,Nb,Nx,P9⟩:=I1.list Nw;have a1:c<s1.heap.objs.size:=by obtain⟨_,_,e,_⟩:=pl;exact Jf e
 have a2:d<s1.heap.objs.size:=by obtain⟨_,_,e,_⟩:=Nx;exact Jf e
 refine call_zip_2 pl.isList Nx.isList λh' h1 h2 h3 h4 h5 _ k=>?_
 refine wpAny_pyIter_zip (s:={s1 with heap:=h'}) h1 ?_
 refine⟨s1.heap.objs.size+4,[s1.heap.objs.size+4,s1.heap.objs.size+2,s1.heap.objs.size+3,s1.heap.objs.size,s1.heap.objs.size+1],_,_,H1,rfl,I1.kept (t':=s1.toks) k,vA c d _ _ _ _ _ (zipApart_new a1 a2),⟨h1,h2,⟨_,_,h3⟩,h4,h5⟩,λb hb=>?_,q⟩
 have Nl:s1.heap.objs.size<=b:=by
  simp only[Jb,JF,or_false]at hb;rcases hb with rfl|rfl|rfl|rfl|rfl<;>first|exact Jg _|exact J0 _ _
 exact I1.fpOk Nl (I1.h_.fresh Nl)
theorem Dr(hg:Gl X "zip")(hm:X.mg "zip"=none)(ha:PE X a (low X.K cls E2 ta))(hb:PE X b (low X.K cls E2 tb))(hs:starEach [a,b] X.env=[(false,eval a X.env),(false,eval b X.env)])(KA:starEach [b] X.env=[(false,eval b X.env)]) :
  PI X (.Tuple Lr x1 pt) (.Call (.Name "zip" p) [a,b] [] pos) (l7 X.K cls E2 λZ M R E=>ta Z M (λx M1=>tb Z M1 (λy M2=>rLs x M2 λxs S=>rLs y M2 λys S'=>R (gy xs ys) (λM=>S M/\S' M) M2) E) E):=
 (zy hg hm (aB ha (aB hb pa_nil KA) (by rw[hs,KA])) hs KA).imp λZ H R2 j_=>ex9 j_ λf_ M R E3 rm ds lk h k=>pe rm ds lk h λv w H2 x y M2 dx dy C_ t2 q2=>by
  obtain⟨p,es,S,rfl,r1,s1,q2⟩:=uI dx C_ q2;obtain⟨q,fs,S',rfl,r2,s2,q2⟩:=uI dy C_ q2;exact⟨p,q,rfl,(r1 _ _ (.refl _) C_ s1).imp λ_ z=>z.1,(r2 _ _ (.refl _) C_ s2).imp λ_ z=>z.1,k _ _ _ _ _ (Ay r1 r2) C_ t2 q2⟩
end
abbrev ZipO(h:Heap)(z TI TO T:Addr)(f:Bool):Prop:=
 h.get? z=some {cls:=.type "zip",dict:=none,data:=.fields #[rawInt T,.bool f,.bool false,.ref TI,.ref TO],slots:=#[]}
section
variable {A:Around}{s:Shared}
theorem t7{z TI TO T:Addr}{f:Bool}{oa:Obj}{Q:Bool->Shared->Prop}(hz:ZipO s.heap z TI TO T f)(ha:s.heap.get? T=some oa)(h:∀h',ZipO h' z TI TO T true->Heap.SameBut z s.heap h'->Q false {s with heap:=h'}) :
  wpAny (model prog w) A (Builtin.SmallTypes.ownedTupleIsFree (.ref z)) Q E s:=by
 unfold Builtin.SmallTypes.ownedTupleIsFree;refine IU (JR hz rfl (x:=rawInt T) rfl ?_);show wpAny _ _ (loadIfAlive ((T:Int).toNat) >>=_) _ _ _;rw[Ka];refine IU (PySem.W.kdx_alive ha ?_);simp only[Option.isNone_some,JE,if_false];refine IU (JR hz rfl (x:=.bool f) rfl ?_);cases f with
 |true=>
  rw[IY (show ¬ ((Value.bool true != Value.bool true)=true) from Jx)];exact IZ (h s.heap hz (Heap.SameBut.refl _ _))
 |false=>
  rw[Jc (show (Value.bool false != Value.bool true)=true from rfl)];refine IU (wpAny_setField_rec hz (by simp) λLQ Of Kv=>?_)
  exact IZ (h LQ Of Kv)
theorem BC{z TI TO i1 i2 l1 l2 T:Addr}{f:Bool}{oa:Obj}{k1 k2:Nat}{xs ys:Array Value}{x y:Value}{Q:Option Value->Shared->Prop}(D:ZipApart z TI TO i1 i2 l1 l2)
  (hz:ZipO s.heap z TI TO T f) (ha:s.heap.get? T=some oa) (Ny:IsPair s.heap TI (.ref i1) (.ref i2))
  (h1:s.heap.IsListIter i1 l1 k1)(h2:s.heap.IsListIter i2 l2 k2)(Mm:s.heap.IsList l1 xs)(L7:s.heap.IsList l2 ys) (hx:xs[k1]?=some x) (hy:ys[k2]?=some y)
  (hQ:∀h',ZipO h' z TI TO T true->h'.IsListIter i1 l1 (k1+1)->h'.IsListIter i2 l2 (k2+1)->IsPair h' s.heap.objs.size x y->h'.objs.size=s.heap.objs.size+1->
   (∀c o,c≠z->c≠i1->c≠i2->s.heap.get? c=some o->h'.get? c=some o)->Q (some (.ref s.heap.objs.size)) {s with heap:=h'}) :
  wpAny (model prog w) A (pyNext (.ref z)) Q E s:=by
 have hT:s.TypeIs (.ref z) "zip":=⟨_,hz,rfl⟩;unfold pyNext;refine IU (wpAny_attempt (wpAny_callSpecial?_slot (name:=Str.ofString "__next__") hT PySem.F.slot_zip_next
  (J7 PySem.F.slot_zip_next hT PySem.F.entry_zip_next ?_ (PySem.F.args_zip_next_1 _))))
 show wpAny _ _ (field (.ref z) 2 >>=_) _ _ _;refine IU (JR hz rfl (x:=.bool false) rfl ?_);show wpAny _ _ (field (.ref z) 3 >>=_) _ _ _;refine IU (JR hz rfl (x:=.ref TI) rfl ?_);refine IU (wpAny_seqItems Ny rfl ?_);show wpAny _ _ (Builtin.SmallTypes.ownedTupleIsFree (.ref z) >>=_) _ _ _;refine IU (t7 hz ha λh₁ ME B_=>?_)
 simp only[JE,if_false];refine IU ?_;rw[<-Array.forIn_toList];simp only[List.forIn_cons,List.forIn_nil];refine IU (IU (JH ?_));show wpAny _ _ (Builtin.SmallTypes.nextOf (.ref i1) >>=_) _ _ _;refine IU (wpAny_nextOf_list_item (h1.extBut B_.extBut D.i1z) (Mm.extBut B_.extBut D.l1z) hx λOg MF Ki=>IZ ?_)
 refine IZ ?_;refine IU (IU (JH ?_));show wpAny _ _ (Builtin.SmallTypes.nextOf (.ref i2) >>=_) _ _ _;refine IU (wpAny_nextOf_list_item ((h2.extBut B_.extBut D.i2z).extBut Ki.extBut D.i12.symm) ((L7.extBut B_.extBut D.l2z).extBut Ki.extBut D.l2i1) hy λLQ Oh Kv=>IZ ?_)
 refine IZ (IZ ?_);refine IU (wpAny_newTuple ?_ (by show 2<=sizeLine;decide))
 have hsz:LQ.objs.size=s.heap.objs.size:=by rw[Kv.1,Ki.1,B_.1]
 refine IZ ⟨_,rfl,IZ ?_⟩;show Q (some (.ref LQ.objs.size)) _;rw[hsz];refine hQ _ (IW _ (Kv.extBut _ _ D.i2z.symm (Ki.extBut _ _ D.i1z.symm ME))) ((MF.extBut Kv.extBut D.i12).at λo e=>IW _ e) (Oh.at λo e=>IW _ e) ?_ (by rw[Heap.size_push,hsz])
  λc o c1 c2 c3 e=>IW _ (Kv.extBut _ _ c3 (Ki.extBut _ _ c2 (B_.extBut _ _ c1 e)))
 rw[<-hsz];exact Jp _ rfl
theorem DC{z TI TO i1 i2 l1 l2 T:Addr}{f:Bool}{oa:Obj}{k1 k2:Nat}{xs ys:Array Value}{Q:Option Value->Shared->Prop}(hh:A.handled=none)(D:ZipApart z TI TO i1 i2 l1 l2)
  (hz:ZipO s.heap z TI TO T f) (ha:s.heap.get? T=some oa) (Ny:IsPair s.heap TI (.ref i1) (.ref i2))
  (h1:s.heap.IsListIter i1 l1 k1)(h2:s.heap.IsListIter i2 l2 k2)(Mm:s.heap.IsList l1 xs)(L7:s.heap.IsList l2 ys) (Mn:xs[k1]?=none\/ys[k2]?=none)
  (hQ:∀h',(∀c o,c≠z->c≠i1->c≠i2->s.heap.get? c=some o->h'.get? c=some o)->Q none {s with heap:=h'}):wpAny (model prog w) A (pyNext (.ref z)) Q E s:=by
 have hT:s.TypeIs (.ref z) "zip":=⟨_,hz,rfl⟩;unfold pyNext;refine IU (wpAny_attempt (wpAny_callSpecial?_slot (name:=Str.ofString "__next__") hT PySem.F.slot_zip_next
  (J7 PySem.F.slot_zip_next hT PySem.F.entry_zip_next ?_ (PySem.F.args_zip_next_1 _))))
 show wpAny _ _ (field (.ref z) 2 >>=_) _ _ _;refine IU (JR hz rfl (x:=.bool false) rfl ?_);show wpAny _ _ (field (.ref z) 3 >>=_) _ _ _;refine IU (JR hz rfl (x:=.ref TI) rfl ?_);refine IU (wpAny_seqItems Ny rfl ?_);show wpAny _ _ (Builtin.SmallTypes.ownedTupleIsFree (.ref z) >>=_) _ _ _;refine IU (t7 hz ha λh₁ ME B_=>?_)
 simp only[JE,if_false];refine IU ?_;rw[<-Array.forIn_toList];simp only[List.forIn_cons,List.forIn_nil];refine IU (IU (JH ?_));show wpAny _ _ (Builtin.SmallTypes.nextOf (.ref i1) >>=_) _ _ _;cases hx:xs[k1]? with
 |none=>
  refine IU (wpAny_nextOf_list_end hh (h1.extBut B_.extBut D.i1z) (Mm.extBut B_.extBut D.l1z) hx λOg e Ki he=>?_)
  refine IU (wpAny_isInstance (T:="StopIteration") (b:=true) he isSubtype_stop ?_);exact IZ (hQ _ λc o c1 c2 _ x=>Ki _ _ c2 (B_.extBut _ _ c1 x))
 |some x=>
  have hy:ys[k2]?=none:=by rcases Mn with h|h;rw[hx]at h;cases h;exact h
  refine IU (wpAny_nextOf_list_item (h1.extBut B_.extBut D.i1z) (Mm.extBut B_.extBut D.l1z) hx λOg MF Ki=>IZ ?_)
  refine IZ ?_;refine IU (IU (JH ?_));show wpAny _ _ (Builtin.SmallTypes.nextOf (.ref i2) >>=_) _ _ _;refine IU (wpAny_nextOf_list_end hh ((h2.extBut B_.extBut D.i2z).extBut Ki.extBut D.i12.symm) ((L7.extBut B_.extBut D.l2z).extBut Ki.extBut D.l2i1) hy λLQ e Kv he=>?_)
  refine IU (wpAny_isInstance (T:="StopIteration") (b:=true) he isSubtype_stop ?_);exact IZ (hQ _ λc o c1 c2 c3 x=>Kv _ _ c3 (Ki.extBut _ _ c2 (B_.extBut _ _ c1 x)))
end
theorem pO:typeLookup (.type "zip") "__len__"=pure none:=by rw[typeLookup_type,builtinLookup_eq_fast];kernel_rfl
theorem ox:typeLookup (.type "zip") "__length_hint__"=pure none:=by rw[typeLookup_type,builtinLookup_eq_fast];kernel_rfl
structure ZSt (h:Heap)(z TI TO i1 i2 l1 l2 S:Addr)(xs ys:Array Value)(i:Nat):Prop where
 ti:IsPair h TI (.ref i1) (.ref i2)
 a:h.IsListIter i1 l1 i
 b:h.IsListIter i2 l2 i
 la:h.IsList l1 xs
 lb:h.IsList l2 ys
 o:(i=0/\IsZip h z TI TO .none/\∃c d,IsPair h TO c d)\/∃T f oa,ZipO h z TI TO T f/\h.get? T=some oa/\T≠z/\T≠i1/\T≠i2/\T≠S
structure ZG (xs ys:Array Value)(lo:Addr)(h:Heap)(as:List Addr):Prop where
 rise:as.Pairwise (· < ·)
 above:∀a∈as,lo<=a
 pairs:∀(j:Nat)(a:Addr),as[j]?=some a->∃x y,xs[j]?=some x/\ys[j]?=some y/\IsPair h a x y
theorem ZG.there{lo:Addr}{h:Heap}(g:ZG xs ys lo h as)(ha:a∈as):a<h.objs.size:=by
 obtain⟨j,hj⟩:=List.mem_iff_getElem?.mp ha;obtain⟨_,_,_,_,e⟩:=g.pairs j a hj;exact Jf e
section
variable {prog:Program}{w:World}{A:Around}{E:Value->Shared->Prop}{s:Shared}{z TI TO i1 i2 l1 l2 S:Addr}{xs ys:Array Value}{i:Nat}
theorem ZSt.keep{h h':Heap}(x:ZSt h z TI TO i1 i2 l1 l2 S xs ys i)(D:ZipApart z TI TO i1 i2 l1 l2)(hk:∀b o,b≠S->h.get? b=some o->h'.get? b=some o)(hS:∀b∈[z,TI,TO,i1,i2,l1,l2],b≠S):ZSt h' z TI TO i1 i2 l1 l2 S xs ys i:=by
 have q:∀b∈[z,TI,TO,i1,i2,l1,l2],∀o,h.get? b=some o->h'.get? b=some o:=λb hb o e=>hk b o (hS b hb) e
 refine⟨q TI (by simp) _ x.ti,x.a.at λo e=>q i1 (by simp) o e,x.b.at λo e=>q i2 (by simp) o e,x.la.at λo e=>q l1 (by simp) o e,x.lb.at λo e=>q l2 (by simp) o e,?_⟩
 rcases x.o with ⟨e,h1,c,d,h2⟩|⟨T,f,oa,h1,h2,h3,h4,h5,h6⟩
 ·exact .inl ⟨e,q z (by simp) _ h1,c,d,q TO (by simp) _ h2⟩
 ·exact .inr ⟨T,f,oa,q z (by simp) _ h1,hk T _ h6 h2,h3,h4,h5,h6⟩
theorem ZSt.item{x y:Value}{Q:Option Value->Shared->Prop}(st:ZSt s.heap z TI TO i1 i2 l1 l2 S xs ys i)(D:ZipApart z TI TO i1 i2 l1 l2)(hS:S<s.heap.objs.size)(hx:xs[i]?=some x)(hy:ys[i]?=some y)
  (hQ:∀h',ZSt h' z TI TO i1 i2 l1 l2 S xs ys (i+1)->IsPair h' s.heap.objs.size x y->h'.objs.size=s.heap.objs.size+1->(∀c o,c≠z->c≠TO->c≠i1->c≠i2->s.heap.get? c=some o->h'.get? c=some o)->Q (some (.ref s.heap.objs.size)) {s with heap:=h'}) :
  wpAny (model prog w) A (pyNext (.ref z)) Q E s:=by
 have lt:∀{c o},s.heap.get? c=some o->s.heap.objs.size≠c:=λe=>Nat.ne_of_gt (Jf e)
 have a1:s.heap.objs.size≠i1:=by obtain⟨_,e,_⟩:=st.a;exact lt e
 have a2:s.heap.objs.size≠i2:=by obtain⟨_,e,_⟩:=st.b;exact lt e
 rcases st.o with ⟨rfl,h1,c,d,h2⟩|⟨T,f,oa,h1,h2,h3,h4,h5,h6⟩
 ·refine wpAny_pyNext_zip_item D h1 st.ti h2 st.a st.b st.la st.lb hx hy λh' b1 b2 b3 b4 b5 b6 k=>hQ h' ⟨k _ _ D.TIz D.TITO D.TIi1 D.TIi2 st.ti,b3,b4,st.la.at λo e=>k _ o D.l1z D.l1TO D.l1i1 D.l1i2 e,st.lb.at λo e=>k _ o D.l2z D.l2TO D.l2i1 D.l2i2 e,.inr ⟨_,false,_,b1,b5,lt h1,a1,a2,Nat.ne_of_gt hS⟩⟩ b5 b6 k
 ·refine BC D h1 h2 st.ti st.a st.b st.la st.lb hx hy λh' b1 b3 b4 b5 b6 k=>hQ h' ⟨k _ _ D.TIz D.TIi1 D.TIi2 st.ti,b3,b4,st.la.at λo e=>k _ o D.l1z D.l1i1 D.l1i2 e,st.lb.at λo e=>k _ o D.l2z D.l2i1 D.l2i2 e,.inr ⟨T,true,oa,b1,k _ _ h3 h4 h5 h2,h3,h4,h5,h6⟩⟩ b5 b6 λc o c1 _ c3 c4 e=>k c o c1 c3 c4 e
theorem ZSt.done{Q:Option Value->Shared->Prop}(hh:A.handled=none)(st:ZSt s.heap z TI TO i1 i2 l1 l2 S xs ys i)(D:ZipApart z TI TO i1 i2 l1 l2)(Mn:xs[i]?=none\/ys[i]?=none)
  (hQ:∀h',(∀c o,c≠z->c≠TO->c≠i1->c≠i2->s.heap.get? c=some o->h'.get? c=some o)->Q none {s with heap:=h'}):wpAny (model prog w) A (pyNext (.ref z)) Q E s:=by
 rcases st.o with ⟨rfl,h1,c,d,h2⟩|⟨T,f,oa,h1,h2,h3,h4,h5,h6⟩
 ·exact wpAny_pyNext_zip_end hh D h1 st.ti h2 st.a st.b st.la st.lb Mn hQ
 ·exact DC hh D h1 h2 st.ti st.a st.b st.la st.lb Mn λh' k=>hQ h' λc o c1 _ c3 c4 e=>k c o c1 c3 c4 e
end
section
variable {prog:Program}{w:World}{A:Around}{s:Shared}{R:Result->Shared->Prop}{z TI TO i1 i2 l1 l2 S lo:Addr}{xs ys:Array Value}
theorem BF(hh:A.handled=none)(D:ZipApart z TI TO i1 i2 l1 l2)(hS:∀b∈[z,TI,TO,i1,i2,l1,l2],b≠S)(Np:∀b∈[z,TO,i1,i2,S],b<lo)(n:Nat)(hn:n=min xs.size ys.size)(hz:n<=sizeLine)(res:Value){h₁:Heap}
  (hR:∀h' tk acc c as,(∀b o,b≠S->b∉[z,TO,i1,i2]->h₁.get? b=some o->h'.get? b=some o)->h'.get? S=some {cls:=.type "list",dict:=none,data:=.seq acc c,slots:=#[]}->as.length=n->ZG xs ys lo h' as->
   acc.toList=as.map Value.ref->R (.ok (.ret res)) {s with heap:=h',toks:=tk}) :
  ∀(k i:Nat)(h:Heap)(tk c:Nat)(acc:Array Value)(as:List Addr),n-i=k->i<=n->ZSt h z TI TO i1 i2 l1 l2 S xs ys i->(∀b o,b≠S->b∉[z,TO,i1,i2]->h₁.get? b=some o->h.get? b=some o)->
   h.get? S=some {cls:=.type "list",dict:=none,data:=.seq acc c,slots:=#[]}->acc.toList=as.map Value.ref->as.length=i->ZG xs ys lo h as->lo<=h.objs.size->
   codeAny (model prog w) A (.builtin "list.extend.loop" ⟨[.ref S,.ref z,res],[]⟩) R {s with heap:=h,toks:=tk}:=by
 have nS:∀b∈[z,TO,i1,i2],S≠b:=λb hb=>Ja (hS b (by simp only[Jb,JF,or_false]at hb ⊢;rcases hb with rfl|rfl|rfl|rfl<;>simp))
 intro k
 induction k with
 |zero=>
  intro i h tk c acc as hk hi Ks LR hL K0 Nc hG P_;have LD:i=n:=by omega
  refine codeAny_builtin PySem.F.entry_extend_loop ?_;rw[Around.under_plainId PySem.F.plain_extend_loop _];show wpAny _ A.in1 (pyNext (.ref z) >>=_) _ _ _;refine IU (ZSt.done (s:={s with heap:=h,toks:=tk}) (A:=A.in1) hh Ks D (by
   have:xs.size<=i\/ys.size<=i:=by omega
   rcases this with q|q
   ·exact .inl (Array.getElem?_eq_none q)
   ·exact .inr (Array.getElem?_eq_none q)) λh' he=>?_)
  have MS:∀b o,b∉[z,TO,i1,i2]->h.get? b=some o->h'.get? b=some o:=λb o hb e=>by
   simp only[Jb,JF,or_false,not_or]at hb;exact he b o hb.1 hb.2.1 hb.2.2.1 hb.2.2.2 e
  refine IZ (hR h' tk acc c as (λb o h1 h2 e=>MS b o h2 (LR b o h1 h2 e)) (MS S _ (λhb=>nS S hb rfl) hL) (by omega) ⟨hG.rise,hG.above,λj a hj=>?_⟩ K0)
  obtain⟨x,y,e1,e2,e3⟩:=hG.pairs j a hj;have ha:=hG.above a (Jy hj);exact⟨x,y,e1,e2,MS a _ (λhb=>absurd (Np a (by simp only[Jb,JF,or_false]at hb ⊢;rcases hb with rfl|rfl|rfl|rfl<;>simp)) (Nat.not_lt.mpr ha)) e3⟩
 |succ k ih=>
  intro i h tk c acc as hk hi Ks LR hL K0 Nc hG P_;have hx:xs[i]?=some (xs[i]'(by omega)):=Array.getElem?_eq_getElem _
  have hy:ys[i]?=some (ys[i]'(by omega)):=Array.getElem?_eq_getElem _
  have hsz:acc.size=i:=by rw[<-Array.length_toList,K0,Jh,Nc]
  refine codeAny_builtin PySem.F.entry_extend_loop ?_;rw[Around.under_plainId PySem.F.plain_extend_loop _];show wpAny _ A.in1 (pyNext (.ref z) >>=_) _ _ _;refine IU (ZSt.item (s:={s with heap:=h,toks:=tk}) (S:=S) Ks D (Jf hL) hx hy λh' K9 ht Qa Rj=>?_)
  dsimp only at ht Qa Rj ⊢;have Nd:∀b o,b∉[z,TO,i1,i2]->h.get? b=some o->h'.get? b=some o:=λb o hb e=>by
   simp only[Jb,JF,or_false,not_or]at hb;exact Rj b o hb.1 hb.2.1 hb.2.2.1 hb.2.2.2 e
  have Oc:=Nd S _ (λhb=>nS S hb rfl) hL
  have up:∀b o,b≠S->h'.get? b=some o->(h'.update S (Obj.mapSeq (·.push (Value.ref h.objs.size)))).get? b=some o:=λb o hb e=>(Jq _ _ (Ja hb)).trans e
  have Rk:S<h.objs.size:=Jf hL;show wpAny _ A.in1 (updateSeq S (·.push (Value.ref h.objs.size)) >>=_) _ _ _;refine IU ?_;refine wpAny_updateSeq Oc rfl (IZ ⟨plainId_quiet PySem.F.plain_extend_loop _,ih (i+1) _ tk _ (acc.push (Value.ref h.objs.size)) (as++[h.objs.size]) (by omega) (by omega) (K9.keep D up hS)
   (λb o h1 h2 e=>up b o h1 (Nd b o h2 (LR b o h1 h2 e))) (JD _ Oc rfl) (by rw[Array.toList_push,K0,JW];rfl) (by rw[JG,Nc];rfl) ⟨?_,?_,?_⟩ ?_⟩) (by rw[hsz];omega) (by show (acc.push (Value.ref h.objs.size)).size<=sizeLine+1;rw[Array.size_push,hsz];omega)
  ·refine List.pairwise_append.mpr ⟨hG.rise,List.pairwise_singleton _ _,λa ha b hb=>?_⟩
   rw[Ju.mp hb];exact hG.there ha
  ·intro a ha;rcases Jv.mp ha with ha|ha
   ·exact hG.above a ha
   ·rw[Ju.mp ha];exact P_
  ·intro j b hj;rcases Nat.lt_trichotomy j as.length with h1|h1|h1
   ·rw[List.getElem?_append_left h1]at hj;obtain⟨x',y',e1,e2,e3⟩:=hG.pairs j b hj;have hb:=hG.above b (Jy hj);exact⟨x',y',e1,e2,up b _ (Nat.ne_of_gt (Jm (Np S (by simp)) hb)) (Nd b _ (λLh=>absurd (Np b (by simp only[Jb,JF,or_false]at Lh ⊢;rcases Lh with rfl|rfl|rfl|rfl<;>simp)) (Nat.not_lt.mpr hb)) e3)⟩
   ·subst h1;have hb:h.objs.size=b:=by simpa using hj
    subst hb;exact⟨_,_,by rw[Nc];exact hx,by rw[Nc];exact hy,up _ _ (Nat.ne_of_gt Rk) ht⟩
   ·have Oi:(as++[h.objs.size])[j]?=none:=List.getElem?_eq_none (by rw[JG,List.length_singleton];omega)
    rw[Oi]at hj;cases hj
  ·have e:(h'.update S (Obj.mapSeq (·.push (Value.ref h.objs.size)))).get? h.objs.size=_:=up _ _ (Nat.ne_of_gt Rk) ht;exact Nat.le_of_lt (Nat.lt_of_le_of_lt P_ (Jf e))
end
section
variable {prog:Program}{w:World}{A:Around}{E:Value->Shared->Prop}{s:Shared}{R:Result->Shared->Prop}{z TI TO i1 i2 l1 l2 S lo:Addr}{xs ys:Array Value}
theorem uU(hh:A.handled=none)(D:ZipApart z TI TO i1 i2 l1 l2)(st:ZSt s.heap z TI TO i1 i2 l1 l2 S xs ys 0)(hS:∀b∈[z,TI,TO,i1,i2,l1,l2],b≠S)(Np:∀b∈[z,TO,i1,i2,S],b<lo)(hl:lo<=s.heap.objs.size)(hz:min xs.size ys.size<=sizeLine)(res:Value)(QM:Nat)(hL:s.heap.get? S=some {cls:=.type "list",data:=.seq #[] QM})
  (hR:∀h' tk acc c as,(∀b o,b≠S->b∉[z,TO,i1,i2]->s.heap.get? b=some o->h'.get? b=some o)->h'.get? S=some {cls:=.type "list",dict:=none,data:=.seq acc c,slots:=#[]}->as.length=min xs.size ys.size->ZG xs ys lo h' as->
   acc.toList=as.map Value.ref->R (.ok (.ret res)) {s with heap:=h',toks:=tk}) :
  wpAny (model prog w) A.in1 (Builtin.List.listExtendWith (.ref S) (.ref z) res)
   (λfin s'=>match fin with|.done f=>R (.ok f) s'|.again c'=>c'.quiet=true/\codeAny (model prog w) A c' R s') (λe s'=>R (.error e) s') s:=by
 have hT:s.TypeIs (.ref z) "zip":=by
  rcases st.o with ⟨_,h1,_⟩|⟨_,_,_,h1,_⟩
  ·exact⟨_,h1,rfl⟩
  ·exact⟨_,h1,rfl⟩
 have T_:∃f0 f1,s.heap.get? z=some {cls:=.type "zip",dict:=none,data:=.fields #[f0,f1,.bool false,.ref TI,.ref TO],slots:=#[]}:=by
  rcases st.o with ⟨_,h1,_⟩|⟨_,_,_,h1,_⟩
  ·exact⟨_,_,h1⟩
  ·exact⟨_,_,h1⟩
 have KQ:∀(h:Heap)(Nm tk:Nat),(∀b o,b≠S->s.heap.get? b=some o->h.get? b=some o)->h.get? S=some {cls:=.type "list",data:=.seq #[] Nm}->lo<=h.objs.size->
   codeAny (model prog w) A (.builtin "list.extend.loop" ⟨[.ref S,.ref z,res],[]⟩) R {s with heap:=h,toks:=tk}:=by
  intro h Nm tk hk Oj SS;exact BF (h₁:=s.heap) hh D hS Np _ rfl hz res hR _ 0 h tk Nm #[] [] (Nat.sub_zero _) (Nat.zero_le _) (st.keep D hk hS) (λb o hb _ e=>hk b o hb e) Oj rfl rfl ⟨List.Pairwise.nil,(λ_ ha=>nomatch ha),(λj a hj=>by simp at hj)⟩ SS
 unfold Builtin.List.listExtendWith;refine IU (wpAny_typeOf hT ?_);have h1:Builtin.List.listSameRef (.ref S) (.ref z)=false:=by simp[Builtin.List.listSameRef,Ja (hS z (by simp))]
 have h2:(Value.type "zip" == Value.type "list")=false:=by decide
 have h3:(Value.type "zip" == Value.type "tuple")=false:=by decide
 simp only[h1,h2,h3,Bool.or_false,JE,if_false];have Ol:∀{Q:Value->Shared->Prop}{E:Value->Shared->Prop},Q (.ref z) s->wpAny (model prog w) A.in1 (pyIter (.ref z)) Q E s:=λ{Q E} h=>by
  refine wpAny_pyIter_slot hT PySem.F.slot_zip_iter (J7 PySem.F.slot_zip_iter hT PySem.F.entry_zip_iter ?_ (PySem.F.args_zip_iter_1 _));show wpAny _ _ (ret (.ref z)) _ _ s;exact IZ ⟨_,rfl,"zip",_,hT,PySem.F.slot_zip_next.lookup,h⟩
 refine IU (Ol ?_);refine IU (JH ?_);unfold Builtin.List.listLengthHint;refine IU (wpAny_specialOf hT pO ?_);show wpAny _ A.in1 (specialOf (Value.ref z) (Str.ofString "__length_hint__") >>=_) _ _ _;refine IU (wpAny_specialOf hT ox ?_);refine IZ ?_;show wpAny _ A.in1 (rule "list.extend.makes-room" >>=λ_=>Builtin.List.listTouch (.ref S) >>=λ_=>
  again (.builtin "list.extend.loop" ⟨[.ref S,.ref z,res],[]⟩)) _ _ _
 refine IU (wpAny_rule ?_);refine IU ?_;show wpAny _ A.in1 (updateSeq S (·.push .none) >>=λ_=>updateSeq S (·.pop)) _ _ _
 refine IU (wpAny_updateSeq hL rfl ?_);have K1:=JD (Obj.mapSeq (·.push Value.none)) hL rfl;refine wpAny_updateSeq (hz:=by seq_fits) K1 rfl ?_
 have Om:=JD (Obj.mapSeq (·.pop)) K1 rfl;refine IZ ⟨plainId_quiet PySem.F.plain_extend_loop _,KQ _ _ _ (λb o hb e=>?_) Om ?_⟩
 ·exact (Jq _ _ (Ja hb)).trans ((Jq _ _ (Ja hb)).trans e)
 ·rw[Heap.size_update,Heap.size_update];exact hl
theorem AE{Q:Value->Shared->Prop}(hh:A.handled=none)(D:ZipApart z TI TO i1 i2 l1 l2)(hz:IsZip s.heap z TI TO .none)(Ny:IsPair s.heap TI (.ref i1) (.ref i2))(Rl:∃c d,IsPair s.heap TO c d)
  (h1:s.heap.IsListIter i1 l1 0)(h2:s.heap.IsListIter i2 l2 0)(Mm:s.heap.IsList l1 xs)(L7:s.heap.IsList l2 ys) (hn:min xs.size ys.size<=sizeLine)
  (hQ:∀h' tk acc c as,(∀b o,b∉[z,TO,i1,i2]->s.heap.get? b=some o->h'.get? b=some o)->h'.get? s.heap.objs.size=some {cls:=.type "list",dict:=none,data:=.seq acc c,slots:=#[]}->as.length=min xs.size ys.size->ZG xs ys (s.heap.objs.size+1) h' as->
   acc.toList=as.map Value.ref->Q (.ref s.heap.objs.size) {s with heap:=h',toks:=tk}) :
  wpAny (model prog w) A (call (.type "list") [.ref z]) Q E s:=by
 have lt:∀{c o},s.heap.get? c=some o->c<s.heap.objs.size:=λe=>Jf e
 have Kk:∀b∈[z,TI,TO,i1,i2,l1,l2],b<s.heap.objs.size:=λb hb=>by
  obtain⟨_,_,h3⟩:=Rl;obtain⟨_,e1,_⟩:=id h1;obtain⟨_,e2,_⟩:=id h2;obtain⟨_,e3,_⟩:=id Mm;obtain⟨_,e4,_⟩:=id L7;simp only[Jb,JF,or_false]at hb;rcases hb with rfl|rfl|rfl|rfl|rfl|rfl|rfl
  ·exact lt hz
  ·exact lt Ny
  ·exact lt h3
  ·exact lt e1
  ·exact lt e2
  ·exact lt e3
  ·exact lt e4
 refine callType_codes (Q₁:=λobj p_=>obj=.ref s.heap.objs.size/\p_={s with heap:=s.heap.push {cls:=.type "list",data:=.seq #[]}}) PySem.F.called_list (PySem.F.typeCall_list_1 _) PySem.F.entry_list_init
  (code_list_new _ ⟨rfl,rfl⟩) λobj p_ h₁=>?_
 obtain⟨rfl,rfl⟩:=h₁;have hS:(s.heap.push {cls:=.type "list",data:=.seq #[]}).get? s.heap.objs.size=some {cls:=.type "list",data:=.seq #[]}:=Jp _ rfl;refine⟨⟨_,hS,rfl⟩,PySem.F.args_list_init_2 _ _,?_⟩;show wpAny _ _ (do let old<-Builtin.List.listItems (.ref s.heap.objs.size);Builtin.List.listUpdate (.ref s.heap.objs.size) (λ_=>#[]);letGo old.toList.reverse;Builtin.List.listExtendWith (.ref s.heap.objs.size) (.ref z) .none) _ _ _
 refine IU ?_;unfold Builtin.List.listItems;refine IU (wpAny_seqItems hS rfl (IZ ?_));show wpAny _ _ (updateSeq s.heap.objs.size (λ_=>#[]) >>=λ_=>letGo (#[]:Array Value).toList.reverse >>=λ_=>Builtin.List.listExtendWith (.ref s.heap.objs.size) (.ref z) .none) _ _ _
 refine IU (wpAny_updateSeq hS rfl ?_);have K1:=JD (Obj.mapSeq (λ_=>(#[]:Array Value))) hS rfl
 have KS:∀b o,s.heap.get? b=some o->((s.heap.push {cls:=.type "list",data:=.seq #[]}).update s.heap.objs.size (Obj.mapSeq (λ_=>(#[]:Array Value)))).get? b=some o:=
  λb o e=>(Jq _ _ (Nat.ne_of_gt (lt e))).trans (IW _ e)
 refine IU (wpAny_letGo ?_);have Qb:s.heap.objs.size+1<=((s.heap.push {cls:=.type "list",data:=.seq #[]}).update s.heap.objs.size (Obj.mapSeq (λ_=>(#[]:Array Value)))).objs.size:=Jf K1
 refine uU (A:=A.in1) (s:={s with heap:=(s.heap.push {cls:=.type "list",data:=.seq #[]}).update s.heap.objs.size (Obj.mapSeq (λ_=>(#[]:Array Value)))}) (lo:=s.heap.objs.size+1) hh D ⟨KS _ _ Ny,h1.at λo e=>KS _ o e,h2.at λo e=>KS _ o e,Mm.at λo e=>KS _ o e,L7.at λo e=>KS _ o e,.inl ⟨rfl,KS _ _ hz,let ⟨c,d,e⟩:=Rl;⟨c,d,KS _ _ e⟩⟩⟩ (λb hb=>Js (Kk b hb)) (λb hb=>?_) Qb hn .none _ K1 (λh' tk acc c as hk L6 hl hG K0=>?_)
 ·simp only[Jb,JF,or_false]at hb;rcases hb with rfl|rfl|rfl|rfl|rfl
  ·exact Nat.lt_succ_of_lt (Kk _ (by simp))
  ·exact Nat.lt_succ_of_lt (Kk _ (by simp))
  ·exact Nat.lt_succ_of_lt (Kk _ (by simp))
  ·exact Nat.lt_succ_of_lt (Kk _ (by simp))
  ·exact Nat.lt_succ_self _
 ·exact⟨rfl,hQ h' tk acc c as (λb o hb e=>hk b o (Js (lt e)) hb (KS b o e)) L6 hl hG K0⟩
end
section
variable {X:Cx}{s:Shared}{h':Heap}
theorem Inv.grown(I:Inv X a_ Z H s)(k:∀b u,s.heap.get? b=some u->h'.get? b=some u)(he:∀b,b<s.heap.objs.size->H' b=H b)(new:∀b u,s.heap.objs.size<=b->H' b=some u->ObjOk X.prog X.w H' h' b u) :
  Inv X a_ Z H' {s with heap:=h',toks:=t'}:=by
 have up:∀b u,H b=some u->H' b=some u:=λb u e=>(he b (I.h_.lt e)).trans e
 refine I.un ⟨λb o e _ _ _=>k b o e,λb o e _ _ _=>⟨o.slots,k b o e⟩,λb o e n _=>(he b (Jf e)).trans n,λb o e _=>⟨o,k b o e⟩,λb xs e=>up b _ e,λb o u e=>up b _ e,λb ps e=>⟨#[],by rw[up b _ e];simp⟩⟩ λb u e=>?_
 by_cases hb:b<s.heap.objs.size
 ·rw[he b hb]at e;exact (I.h_ b u e).stay (λc v _ q=>k c v q) (λc q=>up c _ q) λc xs q=>up c _ q
 ·exact new b u (Nat.not_lt.mp hb) e
end
theorem yd:∀as:List Addr,Vals (as.map V.ref) (as.map Value.ref)
 |[]=>.nil
 |_::r=>.cons rfl (yd r)
noncomputable def gS:List Addr->List V->List V->Hp->Hp
 |a::as,v::vs,u::us,H=>upd (gS as vs us H) a (.tup [v,u])
 |_,_,_,H=>H
theorem eD:∀{as:List Addr}{vs us:List V},b∉as->gS as vs us H b=H b
 |[],_,_,_=>by simp[gS]
 |a::as,[],_,_=>by simp[gS]
 |a::as,_::_,[],_=>by simp[gS]
 |a::as,v::vs,u::us,h=>by
  rw[gS,ae (λz=>h (by simp[z])),eD λz=>h (IX _ z)]
theorem mH:∀{as:List Addr}{vs us:List V}{j:Nat},as.Pairwise (· < ·)->as[j]?=some a->vs[j]?=some v->us[j]?=some u->gS as vs us H a=some (.tup [v,u])
 |[],_,_,_,_,e,_,_=>by simp at e
 |_::_,[],_,_,_,_,e,_=>by simp at e
 |_::_,_::_,[],_,_,_,_,e=>by simp at e
 |b::as,v'::vs,u'::us,0,_,e1,e2,e3=>by
  simp at e1 e2 e3;subst e1;subst e2;subst e3;rw[gS,ag]
 |b::as,v'::vs,u'::us,j+1,hp,e1,e2,e3=>by
  have hb:=List.pairwise_cons.mp hp;have MT:as[j]?=some a:=by simpa using e1
  rw[gS,ae (Nat.ne_of_gt (hb.1 a (Jy MT)))];exact mH hb.2 MT (by simpa using e2) (by simpa using e3)
theorem uj:∀{as:List Addr}{vs us:List V},as.length=min vs.length us.length->b∈as->gS as vs us H b=some o->as.Pairwise (· < ·)->∃(j:Nat)(v u:V),as[j]?=some b/\vs[j]?=some v/\us[j]?=some u/\o=.tup [v,u]:=λ{as vs us} hl hb e hp=>by
 obtain⟨j,hj⟩:=List.mem_iff_getElem?.mp hb;have O2:j<as.length:=(Jk.mp hj).1;have h1:vs[j]?=some (vs[j]'(by omega)):=Jt _
 have h2:us[j]?=some (us[j]'(by omega)):=Jt _
 rw[mH hp hj h1 h2]at e;cases e;exact⟨j,_,_,hj,h1,h2,rfl⟩
theorem nG{K:Kc}:∀(as:List Addr)(vs us:List V)(ds es:List D),as.length=min vs.length us.length->DenL K H ds vs->DenL K H es us->(∀(j:Nat) a v u,as[j]?=some a->vs[j]?=some v->us[j]?=some u->H a=some (.tup [v,u]))->DenL K H (gy ds es) (as.map V.ref)
 |[],vs,us,ds,es,hl,d1,d2,_=>by
  have l1:=d1.length;have l2:=d2.length;have hz:(gy ds es).length=0:=by simp only[gy,Jh,List.length_zip];simp at hl;omega
  rw[List.eq_nil_of_length_eq_zero hz];rfl
 |a::as,[],_,_,_,hl,_,_,_=>by simp at hl
 |a::as,_::_,[],_,_,hl,_,_,_=>by simp at hl
 |a::as,v::vs,u::us,[],_,_,d1,_,_=>by have:=d1.length;simp at this
 |a::as,v::vs,u::us,_::_,[],_,_,d2,_=>by have:=d2.length;simp at this
 |a::as,v::vs,u::us,d::ds,e::es,hl,d1,d2,h=>by
  obtain⟨v',r,e1,a1,b1⟩:=d1;cases e1;obtain⟨u',r',e2,a2,b2⟩:=d2;cases e2;refine⟨.ref a,as.map V.ref,rfl,⟨a,[v,u],rfl,.inl (.inl (h 0 a v u rfl rfl rfl)),⟨v,[u],rfl,a1,⟨u,[],rfl,a2,rfl⟩⟩⟩,?_⟩;exact nG as vs us ds es (by simp at hl ⊢;omega) b1 b2 λj a v u q1 q2 q3=>h (j+1) a v u (by simpa using q1) (by simpa using q2) (by simpa using q3)
theorem A2{X:Cx}{cls:Nat->Addr}{E2:St->XK}{a b:Expr}{ta tb:St3->MH->VK3->XN->Prop}{p pos p' G_:Pos}{fz:Bool}(hc:X.calm=true)(Qc:Gl X "list")(SU:X.mg "list"=none)(hg:Gl X "zip")(hm:X.mg "zip"=none)(ha:PE X a (low X.K cls E2 ta))(hb:PE X b (low X.K cls E2 tb))(hs:starEach [a,b] X.env=[(false,eval a X.env),(false,eval b X.env)])(KA:starEach [b] X.env=[(false,eval b X.env)]) :
  PE X (.Call (.Name "list" p') [.Call (.Name "zip" p) [a,b] [] pos] [] G_) (low X.K cls E2 λZ M Q E=>ta Z M (λx M1=>tb Z M1 (λy M2=>rLz fz x y M2 Q) E) E):=by
 intro a_ s Z H Q2 I j_;refine ex9 j_ λf_ M Q E3 rm ds lk h c_=>?_
 refine wpAny_Call_Name_kw (dF I Qc SU (u:=.type "list") (by decide +kernel) ?_)
 refine PyProof.Rows.callWith_type1 ?_;refine Calls.spliced_cons ?_;refine Call_ (dF I hg hm (u:=.type "zip") (by decide +kernel) (PyProof.Rows.callWith_type1 (thn ((aB ha (aB hb pa_nil KA) (by rw[hs,KA])) pos a_ s Z H (λvs H1=>∃v u x y M1,vs=[v,u]/\Den X.K H1 x v/\Den X.K H1 y u/\RelM X.K M1 H1/\TM X.K H H1/\rLz fz x y M1 Q) I ?_) λus s1 ⟨vs,H1,I1,r1,q1⟩=>?_) (by rw[hs,KA]) (by rw[KA];rfl)))
 ·exact pe rm ds lk h λv w H2 x y M2 dx dy C_ t2 q2=>⟨v,w,x,y,M2,rfl,dx,dy,C_,t2,q2⟩
 ·obtain⟨v,u,x,y,M1,rfl,dx,dy,k_,t1,q⟩:=q1;cases x with
  |g_ es=>
   cases y with
   |g_ fs=>
    obtain⟨c,vs,rfl,sq,dl⟩:=dx;obtain⟨d,ws,rfl,Mj,Kz⟩:=dy;obtain⟨u1,u2,rfl,ru,Kp⟩:=r1.two;cases ru;cases Kp;obtain⟨its,rv,pl,hz⟩:=I1.list sq.sq;obtain⟨q_,Nb,Nx,P9⟩:=I1.list Mj.sq;have a1:c<s1.heap.objs.size:=by obtain⟨_,_,e,_⟩:=pl;exact Jf e
    have a2:d<s1.heap.objs.size:=by obtain⟨_,_,e,_⟩:=Nx;exact Jf e
    refine call_zip_2 pl.isList Nx.isList λh' h1 h2 h3 h4 h5 hsz k=>?_
    refine Calls.spliced_nil ?_;have Mm:h'.IsList c its.toArray:=pl.isList.at λo e=>k _ o e
    have L7:h'.IsList d q_.toArray:=Nx.isList.at λo e=>k _ o e
    have e1:=rv.length;have e2:=Nb.length;have Oo:min its.toArray.size q_.toArray.size=min vs.length ws.length:=by simp[e1,e2]
    refine AE (s:={s1 with heap:=h'}) (I.ok.hd hc) (zipApart_new a1 a2) h1 h2 ⟨_,_,h3⟩ h4 h5 Mm L7 (by rw[Oo];omega) λMD tk acc cc as hk hS hl hG K0=>?_
    have Lg:∀b o,s1.heap.get? b=some o->MD.get? b=some o:=λb o e=>hk b o (λhb=>by
     have:=Jf e;simp only[Jb,JF,or_false]at hb;rcases hb with z|z|z|z<;>(rw[z]at this;first|exact absurd this (Nat.not_lt.mpr (J0 _ _))|exact absurd this (JN _))) (k b o e)
    have L8:∀b∈as,s1.heap.objs.size<b:=λb hb=>by
     have h6:h'.objs.size+1<=b:=hG.above b hb;omega
    have SV:h'.objs.size∉as:=λhb=>by
     have h6:h'.objs.size+1<=h'.objs.size:=hG.above _ hb;omega
    have L5:as.length=min vs.length ws.length:=by rw[hl];exact Oo
    have SW:H1 h'.objs.size=none:=I1.h_.fresh (by omega)
    have Rm:∀b,b<s1.heap.objs.size->gS as vs ws H1 b=H1 b:=λb hb=>eD λz=>by have:=L8 b z;omega
    have up:∀b o,H1 b=some o->gS as vs ws H1 b=H1 b:=λb o e=>Rm b (I1.h_.lt e)
    have I2:Inv X a_ Z (upd (gS as vs ws H1) h'.objs.size (.lst (as.map V.ref))) {s1 with heap:=MD,toks:=tk}:=I1.grown Lg (λb hb=>by rw[ae (Js (by omega)),Rm b hb]) λb o hb e=>by
     by_cases Mh:b=h'.objs.size
     ·subst Mh;rw[ag]at e;cases e;refine⟨by rw[Jh];omega,as.map Value.ref,cc,yd as,?_⟩
      rw[<-K0];simpa using hS
     ·rw[ae Mh]at e;by_cases Nf:b∈as
      ·obtain⟨j,v,u,q1,q2,q3,rfl⟩:=uj L5 Nf e hG.rise;obtain⟨x,y,q4,q5,q6⟩:=hG.pairs j b q1;obtain⟨x',q7,rx⟩:=rv.get q2;obtain⟨y',q8,ry⟩:=Nb.get q3;have SX:its[j]?=some x:=by simpa using q4
       have SY:q_[j]?=some y:=by simpa using q5
       rw[SX]at q7;cases q7;rw[SY]at q8;cases q8;exact⟨by show 2<=sizeLine;decide,[x,y],.cons rx (.cons ry .nil),⟨_,q6,rfl,_,rfl⟩⟩
      ·rw[eD Nf,I1.h_.fresh hb]at e;cases e
    have Lp:TM X.K H1 (gS as vs ws H1):=.un (λb xs e=>(up b _ e).trans e) λb o u e=>(up b _ e).trans e
    exact bR I2 (by rw[eD SV];exact SW) (nG as vs ws es fs L5 (dl.mono Lp) (Kz.mono Lp) λj a v u q1 q2 q3=>mH hG.rise q1 q2 q3) (λa o e=>by
     obtain⟨u,hu⟩:=(k_ a o e).tracked;exact (k_ a o e).stay Lp (up a u hu)) (t1.trans Lp) q c_
   |_=>exact q.elim
  |_=>exact q.elim
section
variable {X:Cx}
noncomputable def Itv(K:Kc)(a:Addr)(n:Nat):It:=
 ⟨λi H=>∃xs,SqL K H a xs/\xs.length=n/\i<n,λi H x H'=>H'=H/\∀xs,SqL K H a xs->xs[n-1-i]?=some x,λi H=>i=n⟩
theorem uh{K:Kc}(a it:Addr)(n:Nat):Turn P w K tg (Itv K a n) [it] it (λi h=>h.IsRevIter it a ((n:Int)-1-(i:Int))) where
 mem:=by simp
 obj:=λi h st b hb=>by
  have e:b=it:=by simpa using hb
  subst e;obtain⟨o,e,c,d⟩:=st;exact⟨o,e,λv z=>by rw[d]at z;cases z⟩
 keep:=λi h h' st k=>st.at λo e=>k it (by simp) o e
 item:=by
  intro X hP hw hK hc i a_ s Z H E I hf st hg;subst hP hw hK;obtain⟨xs,hq,hn,hi⟩:=hg;obtain⟨its,rv,p,hz⟩:=I.list hq;have hx:xs[n-1-i]?=some (xs[n-1-i]'(by omega)):=Jt _
  obtain⟨u,hu,ru⟩:=rv.get hx;obtain⟨f0,f1,f2,f3,f4,f5⟩:=hf it (by simp)
  have e:(n:Int)-1-(i:Int)=((n-1-i:Nat):Int):=by omega
  rw[e]at st;refine wpAny_pyNext_rev_item st p.isList (x:=u) (by simpa using hu) λh' KR sb=>?_
  have e2:((n-1-i:Nat):Int)-1=(n:Int)-1-((i+1:Nat):Int):=by omega
  rw[e2]at KR;have I1:Inv X a_ Z H {s with heap:=h'}:=I.turned (t':=s.toks) (λb o hb e=>(sb.2 b hb).trans e) f0 f1 f3 f4 f5
  obtain⟨o,e,c,d⟩:=id KR;exact⟨u,rfl,qH (s:={s with heap:=h'}) e c d (by decide) ⟨_,H,I1,ru,⟨rfl,λys hy=>by rw[I.list_inj hy hq];exact hx⟩,KR,λb hb=>(hf b hb).1⟩⟩
 done:=by
  intro X hP hw hK hc i a_ s Z H E I hf st hg;subst hP hw hK;have S8:i=n:=hg;subst S8;obtain⟨f0,f1,f2,f3,f4,f5⟩:=hf it (by simp)
  have e:(i:Int)-1-(i:Int) = -1:=by omega
  rw[e]at st;exact wpAny_pyNext_rev_end (I.ok.hd hc) st λh' eb=>⟨rfl,I.turned (t':=s.toks) (λb o hb e=>eb b o hb e) f0 f1 f3 f4 f5⟩
 self:=λ_ _ _ _ _ st h=>wpAny_pyIter_revIter st h
theorem Ai{K:Kc}{vs:List V}{ds:List D}(sq:SqF K H0 p vs)(dl:DenL K H0 ds vs):ItOk K H0 (Itv K p vs.length) ds.reverse (λ_=>True):=by
 have u_:=dl.length;refine⟨λi H M t rm s hi=>?_,λi H M x H' t rm s hi y=>?_,λH M t rm s=>?_⟩
 ·exact⟨vs,(t.f _ _ sq).sq,rfl,by simp at hi;omega⟩
 ·obtain⟨rfl,hv⟩:=y;obtain⟨d,e1,e2⟩:=(dl.mono t).get' (hv vs (t.f _ _ sq).sq);refine⟨.refl _,rm,d,?_,e2⟩;simp only[List.length_reverse]at hi;rw[List.getElem?_reverse hi,u_];exact e1
 ·show ds.reverse.length=vs.length;rw[List.length_reverse,u_]
noncomputable def FS(K:Kc)(ta:TA):TI:=λZ H R=>ta Z H λvs H1=>∃a xs,vs=[.ref a]/\SqL K H1 a xs/\R (Itv K a xs.length) H1
theorem A8(hg:Gl X "reversed")(hm:X.mg "reversed"=none)(ha:PA X [a] ta)(hs:starEach [a] X.env=[(false,eval a X.env)]):PI X tg (.Call (.Name "reversed" p) [a] [] pos) (FS X.K ta):=by
 intro a_ s Z H R I h;refine Call_ (dF I hg hm (u:=.type "reversed") (by decide +kernel) (PyProof.Rows.callWith_type1 (thn (ha pos a_ s Z H _ I h) λus s1 ⟨vs,H1,I1,r1,q1⟩=>?_) hs rfl))
 obtain⟨b,xs,e,hq,q⟩:=q1;subst e;obtain⟨u,rfl,ru⟩:=jf r1;cases ru;obtain⟨its,rv,pl,hz⟩:=I1.list hq;refine call_reversed_list pl.isList ?_;have e1:((its.toArray.size:Nat):Int)-1=(xs.length:Int)-1-((0:Nat):Int):=by have:=rv.length;simp;omega
 rw[e1];have k:∀b o,s1.heap.get? b=some o->(s1.heap.push (revObj b ((xs.length:Int)-1-((0:Nat):Int)))).get? b=some o:=λb o e=>IW _ e
 have Ms:(s1.heap.push (revObj b ((xs.length:Int)-1-((0:Nat):Int)))).IsRevIter s1.heap.objs.size b ((xs.length:Int)-1-((0:Nat):Int)):=⟨_,Jp _ rfl,rfl,rfl⟩;refine wpAny_pyIter_revIter (s:={s1 with heap:=s1.heap.push (revObj b ((xs.length:Int)-1-((0:Nat):Int)))}) Ms ?_
 refine⟨s1.heap.objs.size,[s1.heap.objs.size],_,_,H1,rfl,I1.kept (t':=s1.toks) (λc o e=>IW _ e),uh b s1.heap.objs.size xs.length,Ms,λc hc=>?_,q⟩
 have e':c=s1.heap.objs.size:=by simpa using hc
 subst e';exact I1.fpOk (Jg _) (I1.h_.fresh (Jg _))
theorem C3(hg:Gl X "reversed")(hm:X.mg "reversed"=none)(ha:PE X a (low X.K cls E2 ta))(hs:starEach [a] X.env=[(false,eval a X.env)]) :
  PI X tg (.Call (.Name "reversed" p) [a] [] pos) (l7 X.K cls E2 λZ M R E=>ta Z M (λx M1=>match x with
  |.g_ ds=>R ds.reverse (λ_=>True) M1
  |_=>False) E):=
 (A8 hg hm (aB ha pa_nil hs) hs).imp λZ H R2 j_=>ex9 j_ λf_ M R E3 rm ds lk h k=>bo rm ds lk h λv H1 x M1 dx k_ t1 q1=>by
  cases x with
  |g_ es=>
   obtain⟨q,vs,rfl,sq,dl⟩:=dx;exact⟨q,vs,rfl,sq.sq,k _ _ _ _ _ (Ai sq dl) k_ t1 q1⟩
  |_=>exact q1.elim
end
section
variable {A:Around}{s:Shared}{items:Array Value}
end
theorem jS:∀{ds:List D}{ns:List Int},lP ds=some ns->ds=ns.map D.int
 |[],ns,h=>by cases h;rfl
 |d::r,ns,h=>by
  cases d<;>simp only[lP]at h<;>try cases h
  split at h
  ·rename_i ms e;cases h;rw[jS e];rfl
  ·cases h
theorem nU:∀(ns:List Int)(n m:Int),m∈n::ns->(∀a,a∈n::ns->a<=m)->ns.foldl (mmI true) n=m
 |[],n,m,h,_=>by simp at h;simp[h]
 |a::ns,n,m,h,hb=>by
  rw[List.foldl_cons];refine nU ns _ m ?_ λb Lh=>?_
  ·have h1:=hb n (by simp)
   have h2:=hb a (by simp)
   unfold mmI;simp only[if_true];rcases Jb.mp h with rfl|h
   ·rw[IY (by omega)];simp
   ·rcases Jb.mp h with rfl|h
    ·by_cases z:m > n
     ·rw[Jc z];simp
     ·rw[IY z];have:n=m:=by omega
      simp[this]
    ·exact IX _ h
  ·rcases Jb.mp Lh with rfl|Lh
   ·have h1:=hb n (by simp)
    have h2:=hb a (by simp)
    unfold mmI;simp only[if_true];split<;>assumption
   ·exact hb b (by simp[Lh])
noncomputable def Bq(dflt:Bool):List (Str×Value):=if dflt=true then [("default",Value.none)] else []
noncomputable def cY(mx:Bool):String:=if mx=true then "max" else "min"
section
variable {X:Cx}
theorem Bw(rm:RelM X.K M H)(dx:Den X.K H x v)(e:ai M x=some ds):∃a vs,v=.ref a/\RdL X.K H a vs/\DenL X.K H ds vs:=by
 cases x with
 |g_ es=>
  cases e;obtain⟨a,vs,rfl,sq,dl⟩:=dx;exact⟨a,vs,rfl,sq.rd,dl⟩
 |ref a=>
  cases q:M a with
  |none=>simp[ai,q]at e
  |some o=>
   cases o with
   |lst es=>
    simp[ai,q]at e;subst e;cases (show v=.ref a from dx);obtain⟨vs,e1,dl⟩:=rm a _ q;exact⟨a,vs,rfl,.inl (.inl e1),dl⟩
   |_=>simp[ai,q]at e
 |_=>cases e
theorem yj(mx dflt:Bool)(hc:X.calm=true)
  (I:Inv X a_ Z H s)(rv:RelV v v2)(dx:Den X.K H x v)(rm:RelM X.K M H)(q:rMM mx dflt x M Q)(c_:Back X.K H Q Q2) :
  wpAny (model X.prog X.w) X.A (call (.builtin (cY mx)) [v2] (Bq dflt)) (EP X a_ Z Q2) Ex s:=by
 have hh:=I.ok.hd hc;unfold rMM at q;obtain⟨rfl,rfl,q⟩:=q;split at q
 ·rename_i ds e1;obtain⟨a,vs,rfl,rd,dl⟩:=Bw rm dx e1;cases rv;obtain⟨_,its,n,r,_,hg⟩:=I.rdL rd;have hl:s.heap.IsList a its.toArray:=⟨_,hg,rfl,n,rfl⟩;split at q
  ·rename_i e2;have z:=jS e2;subst z;cases (show vs=[] from dl);cases r;have Qb:s.heap.IsList a (intItems #[]):=by simpa [intItems] using hl
   exact uQ (kw:=Bq true) (dv:=some .none) hh Qb (by unfold argsOk;kernel_rfl) rfl (λz=>nomatch z) (λ_ d h' tk ed k=>by cases ed;exact⟨.i_,H,I.kept k,rfl,c_ _ _ _ _ nA rm (.refl _) q⟩) (λz=>absurd z (by decide))
  ·rename_i m ns e2;have z:=jS e2;subst z;have zv:=dl.int_of;subst zv;have hi:=p8 r;obtain⟨xs,e⟩:=hi.allInts.items;have Me:m::ns=xs.toList.map (·.1):=by rw[<-hi.numsOf,<-nums_intItems,<-e]
   have hsz:0<xs.size:=by
    have h3:0<(m::ns).length:=by simp
    rw[Me,Jh,Array.length_toList]at h3;exact h3
   rw[e]at hl;have fin:0<xs.size->∀v h' tk,(intItems xs)[argBest (λi j=>decide (numAt xs i > numAt xs j)) (xs.size-1)]?=some v->(∀b o,s.heap.get? b=some o->h'.get? b=some o)->EP X a_ Z Q2 v {s with heap:=h',toks:=tk}:=by
    intro _ v h' tk hv k;obtain⟨t,rfl⟩:=intItems_at hv;obtain⟨h1,h2⟩:=argBest_gt (numAt xs) (xs.size-1);refine⟨.int _,H,I.kept k,⟨_,rfl⟩,c_ _ _ _ _ hZ rm (.refl _) ?_⟩;rw[<-nU ns m (numAt xs (argBest (λi j=>decide (numAt xs i > numAt xs j)) (xs.size-1))) ?_ ?_]
    ·exact q
    ·rw[Me,numAt_eq];exact getD_mem (by rw[Jh,Array.length_toList];omega)
    ·intro b hb;rw[Me]at hb;obtain⟨j,hj,rfl⟩:=mem_getD hb;rw[Jh,Array.length_toList]at hj;rw[<-numAt_eq];exact h2 j (by omega)
   exact uQ (kw:=Bq true) (dv:=some .none) hh hl (by unfold argsOk;kernel_rfl) rfl (λz=>nomatch z) (λz=>by omega) fin
  ·exact q.elim
 ·exact q.elim
theorem Gb(mx:Bool)(hc:X.calm=true)(ha:PE X e (low X.K cls E2 te))(hg:Gl X (cY mx))(hm:X.mg (cY mx)=none)(hs:starEach (e::[]) X.env=(false,eval e X.env)::starEach [] X.env) :
  PE X (.Call (.Name (cY mx) p) [e] [] pos) (low X.K cls E2 λZ M Q E=>te Z M (λx M1=>rMM mx false x M1 Q) E):=by
 have Mf:CallR X (.builtin (cY mx)) (λvs H Q2=>∃x v M Q,vs=[v]/\Den X.K H x v/\RelM X.K M H/\rMM mx false x M Q/\Back X.K H Q Q2):=by
  refine λa_ s Z H vs us Q2 I r j_=>ex9 j_ λx v M Q e dx rm q c_=>?_
  subst e;obtain⟨u,rfl,ru⟩:=jf r;exact yj mx false hc I ru dx rm q c_
 refine (fq Mf hg hm (by cases mx<;>decide +kernel) (aB ha pa_nil hs) (by cases mx<;>decide +kernel) (by cases mx<;>decide +kernel) hs (by rfl)).imp λZ H Q2 j_=>ex9 j_ λf_ M Q E3 rm ds lk h c_=>?_
 exact bo rm ds lk h λv H1 x M1 dx k_ t1 q1=>⟨x,v,M1,Q,rfl,dx,k_,q1,c_.mono t1⟩
theorem Ep{te:St3->MH->VK3->XN->Prop}{k1:Nat}{k2 kp:Pos}(mx:Bool)(hc:X.calm=true)(ha:PE X e (low X.K cls E2 te))(hg:Gl X (cY mx))(hm:X.mg (cY mx)=none)(hs:starEach (e::[]) X.env=(false,eval e X.env)::starEach [] X.env) :
  PE X (.Call (.Name (cY mx) p) [e] [⟨some "default",.Constant .none k1 k2,kp⟩] pos) (low X.K cls E2 λZ M Q E=>te Z M (λx M1=>rMM mx true x M1 Q) E):=by
 intro a_ s Z H Q2 I h;refine wpAny_Call_Name_kw (dF I hg hm (u:=.builtin (cY mx)) (by cases mx<;>decide +kernel) ?_ (by cases mx<;>decide +kernel) (by cases mx<;>decide +kernel))
 obtain⟨f_,M,Q,E3,rm,ds,lk,h,c_⟩:=h;have hA:yi (low X.K cls E2 te) tNil Z H (λvs H1=>∃x v M1,vs=[v]/\Den X.K H1 x v/\RelM X.K M1 H1/\rMM mx true x M1 Q/\Back X.K H1 Q Q2):=bo rm ds lk h λv H1 x M1 dx k_ t1 q1=>⟨x,v,M1,rfl,dx,k_,q1,c_.mono t1⟩
 refine callWith_kw (thn ((aB ha pa_nil hs) pos a_ s Z H _ I hA) λus s1 ⟨vs,H1,I1,r1,x,v,M1,ev,dx,k_,q1,Oq⟩=>kws_cons ?_) (by rw[hs];rfl) (by rw[hs];rfl)
 subst ev;obtain⟨u,rfl,ru⟩:=jf r1;refine thn (vi a_ s1 Z H1 (λv H'=>v=.i_/\H'=H1) I1 ⟨rfl,rfl⟩) λw s2 ⟨wv,H2,I2,rw,e1,e2⟩=>kws_nil ?_
 subst e1;subst e2;cases (show w=Value.none from rw);exact yj mx true hc I2 ru dx k_ q1 Oq
theorem BS{s:Shared}(I:Inv X a_ Z H s):(s.heap.objs.size == sysModules)=false:=by
 have h:mainGlobals<s.heap.objs.size:=(I.mod.glob.keeps I.bk).lt;have h2:sysModules<mainGlobals:=by decide
 exact JA.mpr (Nat.ne_of_gt (Nat.lt_trans h2 h))
theorem By(tk:Bool):PE X (.Dict [] [] pos) (low X.K cls E2 λZ M Q E=>∀p,M p=none->Q (.ref p) (put M p (if tk=true then .dt [] [] else .dk [] []))):=by
 refine λa_ s Z H Q2 I j_=>ex9 j_ λf_ M Q E3 rm ds lk q c_=>?_
 have hp:H s.heap.objs.size=none:=I.h_.fresh (Jg _);have hb:=BS I;have q0:=q s.heap.objs.size (rm.fresh hp);cases tk with
 |false=>
  have Qd:ObjOk X.prog X.w (upd H s.heap.objs.size (.dK [])) (s.heap.push {cls:=.type "dict",data:=.dict #[]}) s.heap.objs.size (.dK []):=⟨Nat.zero_le _,hb,[],.nil,Heap.DictOf.new s.heap⟩;have I1:=I.laid (a:=s.heap.objs.size) (o:=.dK []) (h':=s.heap.push {cls:=.type "dict",data:=.dict #[]}) (t':=s.toks) (λ_ _ q=>IW _ q) (Jg _) Qd
  have k_:RelM X.K (put M s.heap.objs.size (.dk [] [])) (upd H s.heap.objs.size (.dK [])):=rm.lay hp ⟨[],ag,rfl,rfl⟩;exact wpAny_Dict_empty ⟨.ref s.heap.objs.size,_,I1,rfl,c_ _ _ (.ref s.heap.objs.size) _ rfl k_ (.new hp) q0⟩
 |true=>
  obtain⟨ob,es,ep,hq,hx,hd,he,_,_⟩:=(Heap.DictOfH.new (knd:=tupleKind (intKind X.prog X.w)) s.heap);have tb:dW s.heap.objs.size [] (s.heap.push {cls:=.type "dict",data:=.dict #[]}):=⟨ob,es,ep,hq,hx,hd,he⟩;have Qd:ObjOk X.prog X.w (upd H s.heap.objs.size (.ext (dW s.heap.objs.size []))) (s.heap.push {cls:=.type "dict",data:=.dict #[]}) s.heap.objs.size (.ext (dW s.heap.objs.size [])):=
   ⟨tb,⟨ob,hq⟩,λg1 g2 ⟨o1,N7,N8,a1,a2,a3,a4⟩ kk=>⟨o1,N7,N8,kk _ a1,a2,a3,a4⟩⟩
  have I1:=I.laid (a:=s.heap.objs.size) (o:=.ext (dW s.heap.objs.size [])) (h':=s.heap.push {cls:=.type "dict",data:=.dict #[]}) (t':=s.toks) (λ_ _ q=>IW _ q) (Jg _) Qd
  have k_:RelM X.K (put M s.heap.objs.size (.dt [] [])) (upd H s.heap.objs.size (.ext (dW s.heap.objs.size []))):=rm.lay hp ⟨[],[],ag,⟨rfl,.nil,Nat.zero_le _,hb,.nil,λx hx=>nomatch hx⟩,rfl⟩
  exact wpAny_Dict_empty ⟨.ref s.heap.objs.size,_,I1,rfl,c_ _ _ (.ref s.heap.objs.size) _ rfl k_ (.new hp) q0⟩
end
section
variable {X:Cx}
end
section
variable {X:Cx}{cls:Nat->Addr}{E2:St->XK}{e:Expr}{pos p:Pos}
end
noncomputable def isS(x:Str):Option Expr->Bool
 |some (.Constant k _ _)=>match k with
  |.str y=>decide (y=x)
  |_=>false
 |_=>false
noncomputable def isN(i:Int):Expr->Bool
 |.Constant k _ _=>match k with
  |.int j=>decide (j=i)
  |_=>false
 |_=>false
section
variable {X:Cx}
end
section
variable {X:Cx}{A:Around}
end
section
variable {A:Around}{s:Shared}{ob:Obj}{es:Array DictEntry}
end
section
variable {X:Cx}{o_ m_:Pos}
end
section
variable {X:Cx}
end
theorem ER.upd_nx{K:Kc}(er:ER K H D3 D2)(h:∀n_ H' w_ M',RelM K M' H'->DenS K H' w_ n_->TM K H H'->n3 w_ M'->n2 n_ H'):ER K H {D3 with nx:=n3} {D2 with nx:=n2}:=⟨h,er.rt,er.bk,er.ct⟩
section
variable {X:Cx}{cls:Nat->Addr}{E2:St->XK}{st:Stmt}{aC:List Stmt}{t u:Ends3->(St3->XN)->St3->MH->Prop}{e:Expr}{te:St3->MH->VK3->XN->Prop}{pos:Pos}
theorem Do:PSs X [] (bM X.K cls E2 λD _ Z M=>D.nx Z M):=pss_nil.imp λD2 Z H j_=>ex9 j_ λf_ M D3 E3 rm ds lk h er=>er.nx Z H f_ M rm ds (.refl _) h
theorem BJ(h1:PS X st (bM X.K cls E2 t))(h2:PSs X aC (bM X.K cls E2 u)):PSs X (st::aC) (bM X.K cls E2 λD E Z M=>t {D with nx:=λn_ M'=>u D E n_ M'} E Z M):=
 (nH h1 h2).imp λD2 Z H j_=>ex9 j_ λf_ M D3 E3 rm ds lk h er=>⟨f_,M,_,E3,rm,ds,lk,h,er.upd_nx λn_ H' w_ M' s_ Kl tm q=>⟨w_,M',D3,E3,s_,Kl,lk.mono tm,q,er.mono tm⟩⟩
theorem C7{i:Nat}(h2:PSs X aC (bM X.K cls E2 u)):PSs X aC (bM X.K cls E2 λD E Z M=>match Z[i]? with
  |some (some x)=>be (λy M'=>u D E (Z.set i (some y)) M') x M
  |_=>False):=λa_ s Z H D2 I j_=>ex9 j_ λf_ M D3 E3 rm ds lk h er=>by
 dsimp only at h;split at h
 ·rename_i x e;obtain⟨v,e1,dv⟩:=ds.2 i x e;obtain⟨H2,M2,d2,I2,t2,C_,MC,q2⟩:=ju I rm dv h;refine h2 a_ s Z H2 D2 I2 ⟨_,M2,D3,E3,C_,?_,lk.mono t2,q2,er.mono t2⟩;have:=(ds.mono t2).set (i:=i) MC;obtain⟨l,e2⟩:=Jk.mp e1
  rwa [<-e2,List.set_getElem_self]at this
 ·exact h.elim
theorem zV:PS X st (bM X.K cls E2 λ_ _ _ _=>False):=λ_ _ _ _ _ _ j_=>ex9 j_ λ_ _ _ _ _ _ _ h _=>h.elim
theorem BL(he:PE X e (low X.K cls E2 te))(hs:swapsWith e none pos.line X.env=pure false):PS X (.Expr e pos) (bM X.K cls E2 λD E Z M=>te Z M (λ_ M1=>D.nx Z M1) (E Z)):=
 (mf he hs).imp λD2 Z H j_=>ex9 j_ λf_ M D3 E3 rm ds lk h er=>bo rm ds (lk.at ds) h λv H1 x M1 dx k_ t1 q1=>er.nx Z H1 f_ M1 k_ (ds.mono t1) t1 q1
theorem DN(he:PE X e (low X.K cls E2 te)):PS X (.Return (some e) pos) (bM X.K cls E2 λD E Z M=>te Z M D.rt (E Z)):=
 (zg he).imp λD2 Z H j_=>ex9 j_ λf_ M D3 E3 rm ds lk h er=>bo rm ds (lk.at ds) h λv H1 x M1 dx k_ t1 q1=>er.rt v H1 x M1 dx k_ t1 q1
theorem FH(hc:PT X c (de X.K cls E2 tA))(ha:PSs X a (bM X.K cls E2 t))(hb:PSs X b (bM X.K cls E2 u)) :
  PS X (.If c a b pos) (bM X.K cls E2 λD E Z M=>tA Z M (λk M1=>if k=true then t D E Z M1 else u D E Z M1) (E Z)):=
 (EB hc ha hb).imp λD2 Z H j_=>ex9 j_ λf_ M D3 E3 rm ds lk h er=>j2 rm ds (lk.at ds) h λk H1 M1 k_ t1 q1=>by
  cases k with
  |true=>rw[Jc rfl]at q1 ⊢;exact⟨f_,M1,D3,E3,k_,ds.mono t1,lk.mono t1,q1,er.mono t1⟩
  |false=>rw[IY Jx]at q1 ⊢;exact⟨f_,M1,D3,E3,k_,ds.mono t1,lk.mono t1,q1,er.mono t1⟩
theorem yB(hN:X.N.Nodup)(hi:X.N[i]?=some x)(hx:Loc X.env.scope x)(he:PE X e (low X.K cls E2 te))(hs:swapsWith e (some (.Name x G_)) pos.line X.env=pure false)(hf:X.fn x=true\/X.env.scope.names.lookup x=some .local) :
  PS X (.Assign [.Name x G_] e pos) (bM X.K cls E2 λD E Z M=>te Z M (λx M1=>D.nx (Z.set i (some x)) M1) (E Z)):=
 (zi hN hi hx he hs hf).imp λD2 Z H j_=>ex9 j_ λf_ M D3 E3 rm ds lk h er=>bo rm ds (lk.at ds) h λv H1 x M1 dx k_ t1 q1=>er.nx _ _ _ _ k_ ((ds.mono t1).set dx) t1 q1
theorem Bk(hN:X.N.Nodup)(hi:X.N[i]?=some x)(hx:Loc X.env.scope x)(hf:X.fn x=true\/X.env.scope.names.lookup x=some .local):PG X (.Name x pos) (sv X.K (wpG (.name i))):=
 (jt hN hi hx hf).imp λv Z H Q2 ⟨d,f_,M,Q,dv,rm,ds,h,c_⟩=>c_ _ _ _ _ rm (ds.set dv) (.refl _) h
noncomputable def di(N:List Str)(sc:Scope)(fn:Bool):List Nat->List Expr->Bool
 |[],[]=>true
 |i::is,.Name x _::es=>(N[i]? == some x)&&(sc.names.lookup x == some .local||(fn&&sc.names.lookup x == some .cell))&&di N sc fn is es
 |_,_=>false
noncomputable def j5(is:List Nat)(xs:List α)(Z:List (Option α)):List (Option α):=(is.zip xs).foldl (λZ p=>Z.set p.1 (some p.2)) Z
theorem lT(hN:X.N.Nodup)(Ls:fn=true->∀x,X.fn x=true):∀{is:List Nat}{es:List Expr},di X.N X.env.scope fn is es=true->
  PGs X es (λvs Z H Q=>vs.length=is.length/\Q (j5 is vs Z) H)/\(assignEach es X.env).length=is.length/\(assignEach es X.env).findIdx? (·.1)=none
 |[],[],_=>⟨λa_ s Z H vs us Q I r ⟨e,h⟩=>xw a_ s Z H vs us Q I r ⟨List.length_eq_zero_iff.mp e,by cases List.length_eq_zero_iff.mp e;exact h⟩,rfl,rfl⟩
 |[],_::_,h=>by simp[di]at h
 |i::is,es,h=>by
  unfold di at h;split at h
  ·rename_i OK;cases OK
  ·rename_i i' Ua x px ML OK;cases OK;simp only[IV,Jl,Bool.or_eq_true]at h;obtain⟨⟨h1,h2⟩,h3⟩:=h;obtain⟨ih,il,ix⟩:=lT hN Ls h3;have hg:PG X (.Name x px) (qz i):=by
    rcases h2 with h2|⟨h2,h4⟩
    ·exact jt hN h1 (.inl h2) (.inr h2)
    ·exact jt hN h1 (.inr h4) (.inl (Ls h2 x))
   refine⟨λa_ s Z H vs us Q I r ⟨e,q⟩=>?_,by show (assignEach ML X.env).length+1=is.length+1;rw[il],?_⟩
   ·cases vs with
    |nil=>cases e
    |cons v vs=>exact ve hg ih rfl a_ s Z H (v::vs) us Q I r ⟨v,vs,rfl,by simpa using e,q⟩
   ·show List.findIdx? (·.1) ((false,assign (.Name x px) X.env)::assignEach ML X.env)=none;rw[List.findIdx?_cons];simp[ix]
  ·cases h
theorem ke{K:Kc}:∀{is:List Nat}{ds:List D}{vs:List V}{f_:St3}{Z:St},DenL K H ds vs->DenS K H f_ Z->DenS K H (j5 is ds f_) (j5 is vs Z)
 |[],_,_,_,_,_,h=>by simpa [j5] using h
 |i::is,[],vs,_,_,dl,h=>by cases (show vs=[] from dl);simpa [j5] using h
 |i::is,d::ds,vs,_,_,dl,h=>by
  obtain⟨v,r,rfl,dv,dl⟩:=dl;exact ke (is:=is) dl (h.set (i:=i) dv)
theorem Cd(hc:X.calm=true)(hN:X.N.Nodup)(Ls:fn=true->∀x,X.fn x=true)(ok:di X.N X.env.scope fn is es=true):PG X (.Tuple es k pos) (sv X.K (wpG (.tup is))):=by
 obtain⟨h1,h2,h3⟩:=lT hN Ls ok;refine (z9 hc h1 h2 h3).imp λv Z H Q2 z_=>?_
 obtain⟨d,f_,M,Q,dv,rm,ds,h,c_⟩:=z_;simp only[wpG]at h;split at h
 ·rename_i ML;obtain⟨p,vs,rfl,sq,dl⟩:=dv;obtain⟨z,q⟩:=h;exact⟨p,vs,rfl,sq,by rw[<-dl.length];exact z,by rw[<-dl.length];exact z,c_ _ _ _ _ rm (ke dl ds) (.refl _) q⟩
 ·exact h.elim
theorem Cp(hp:PassesOwn (model X.prog X.w) X.A X.env X.xe)(hc:X.calm=true)(hi:PI X tg iter (l7 X.K cls E2 wi))(hg:PG X tg (sv X.K g))(hb:PSs X body (bM X.K cls E2 t))
  (hs:∀x,foldedSetIterable iter X.env x=pure x):PS X (.For tg iter body [] pos) (bM X.K cls E2 λD E Z M=>wi Z M (λds S M1=>jJ g (λD Z M=>t D E Z M) S D ds Z M1) (E Z)):=by
 refine (zf hp hc hi hg hb hs).imp λD2 Z H j_=>ex9 j_ λf_ M D3 E3 rm Ng lk h er=>⟨f_,M,_,E3 f_,rm,Ng,lk.at Ng,h,λJ H1 ds S M1 ok k_ Lp hP=>?_⟩
 refine⟨λi m n_ H'=>∃w_ M',m=ds.length-i/\i<=ds.length/\RelM X.K M' H'/\DenS X.K H' w_ n_/\TM X.K H1 H'/\jJ g (λD Z M=>t D E3 Z M) S D3 (ds.drop i) w_ M',⟨ds.length,f_,M1,by simp,Nat.zero_le _,k_,Ng.mono Lp,.refl _,hP⟩,?_⟩
 rintro i m n_ H' ⟨w_,M',rfl,P6,s_,Kl,LU,p⟩;by_cases Kk:i<ds.length
 ·rw[List.drop_eq_getElem_cons Kk]at p;obtain⟨s',p⟩:=p;refine .inr ⟨ok.go i H' M' LU s_ s' Kk,λRn H4=>∃Mo M4,RelM X.K M4 H4/\DenS X.K H4 Mo Rn/\TM X.K H1 H4/\jJ g (λD Z M=>t D E3 Z M) S D3 (ds.drop (i+1)) Mo M4,?_,?_⟩
  ·rintro Rn H4 ⟨Mo,M4,e1,e2,e3,e4⟩;exact⟨ds.length-(i+1),by omega,Mo,M4,rfl,Kk,e1,e2,e3,e4⟩
  ·intro x H2 y;obtain⟨Ot,C_,d,hd,dv⟩:=ok.yld i H' M' x H2 LU s_ s' Kk y;rw[Jt Kk]at hd;cases hd;refine⟨_,w_,M',_,dv,C_,Kl.mono Ot,p,λS9 H5 Lq M5 Qe Nz Qg q5=>?_⟩
   have MG:TM X.K H1 H5:=(LU.trans Ot).trans Qg;exact⟨Lq,M5,_,E3,Qe,Nz,lk.mono (Lp.trans MG),q5,⟨λMN H6 LV M6 L9 Ou Lz q6=>⟨LV,M6,L9,Ou,MG.trans Lz,q6⟩,λv H6 d6 M6 S_ L9 Lz q6=>er.rt v H6 d6 M6 S_ L9 (Lp.trans (MG.trans Lz)) q6,
    λMN H6 LV M6 L9 Ou Lz q6=>er.nx MN H6 LV M6 L9 Ou (Lp.trans (MG.trans Lz)) q6,λMN H6 LV M6 L9 Ou Lz q6=>⟨LV,M6,L9,Ou,MG.trans Lz,q6⟩⟩⟩
 ·have e:i=ds.length:=by omega
  subst e;rw[List.drop_length]at p;exact .inl ⟨ok.stop H' M' LU s_ p.1,er.nx n_ H' w_ M' s_ Kl (Lp.trans LU) p.2⟩
theorem vZ(hx:ma X E)(hE:E2=λ_=>E)(hc:X.calm=true)(hg:Gl X x)(hm:X.mg x=some (.ref (cls i)))(q:xT X.K (cls i))(ha:PA X (e::es) (dY X.K cls E2 tr))(A_:(x == ("__debug__" : Str))=false)
  (he:starEach (e::es) X.env=(false,eval e X.env)::starEach es X.env) (E_:(backTo m_ (starEach es X.env)).any (·.1)=false) :
  PS X (.Raise (some (.Call (.Name x np) (e::es) [] m_)) none pos) (bM X.K cls E2 λ_ E Z M=>tr Z M (λxs M1=>xs.length<=sizeLine/\E Z ⟨i,none⟩ M1) (E Z)):=by
 subst hE;exact (uu hx hc hg hm q ha A_ he E_).imp λD2 Z H j_=>ex9 j_ λf_ M D3 E3 rm ds lk h er=>eV rm ds (lk.at ds) h λvs H1 xs M1 dl k_ t1 ⟨z,q⟩=>⟨by rw[<-dl.length];exact z,lk f_ Z ⟨i,none⟩ M1 H1 t1 (ds.mono t1) k_ q none rfl⟩
theorem uD{E:XK}{x:Str}{np m_:Pos}{i f:Nat}{xin:Nat->Option Nat}{fI:Addr}{fd:FuncData}{ps:List Str}{es:List Expr}{tr:St3->MH->(List D->MH->Prop)->XN->Prop}(hx:jr X E)(hE:E2=λ_=>E)(hc:X.calm=true)(hg:Gl X x)(hm:X.mg x=some (.ref (cls i)))(q:XIni X.K (cls i) fI (fnm f))
  (F:FnOk X.prog X.w X.K X.mg X.base (CX1 X.prog X.w) 1 fI fd ps (i7 (cpF f) X.K (cls i) (fnm f))) (hr:Room 2 X.A)(hb:Binds X.K fd ps []) (hf:xin i=some f) (ha:PA X (e::es) (dY X.K cls E2 tr)) (A_:(x == ("__debug__" : Str))=false)
  (he:starEach (e::es) X.env=(false,eval e X.env)::starEach es X.env) (E_:(backTo m_ (starEach es X.env)).any (·.1)=false) :
  PS X (.Raise (some (.Call (.Name x np) (e::es) [] m_)) none pos) (bM X.K cls E2 λ_ E Z M=>tr Z M (λxs M1=>match xs with
   |[y]=>dM (xin i) λf=>rXp f y M1 λy'=>E Z ⟨i,some (f,y')⟩ M1
   |_=>False) (E Z)):=by
 subst hE;refine (tE hx hc hg hm q F hr hb ha A_ he E_).imp λD2 Z H j_=>ex9 j_ λf_ M D3 E3 rm ds lk h er=>eV rm ds (lk.at ds) h λvs H1 xs M1 dl k_ t1 q=>?_
 split at q
 ·rename_i y;rw[hf]at q;obtain⟨v,r,e1,dv,e2⟩:=dl;cases (show r=[] from e2);subst e1;simp only[dM,rXp]at q;refine⟨v,rfl,λz dx ob n=>?_,λz=>?_⟩
  ·rw[z,IY Jx]at q;exact lk f_ Z ⟨i,some (f,y)⟩ M1 _ (t1.trans (.new n)) (ds.mono (t1.trans (.new n))) (k_.grow n) q (some dx) ⟨dx,ob,v,rfl,ag,dv.mono (.new n)⟩
  ·rw[z,Jc rfl]at q;split at q
   ·rename_i es ee;obtain⟨p,ws,rfl,hq,Kz⟩:=bg k_ ee dv;refine⟨p,ws,rfl,hq.elim .inl SqM.sq,λq' o dx ob n1 n2 nn=>?_⟩
    have tA:TM X.K H1 (upd H1 q' (.t_ o (.lst ws))):=.new n1;have n3:upd H1 q' (.t_ o (.lst ws)) dx=none:=by rw[ae nn];exact n2
    have tB:=tA.trans (.new (o:=.t_ ob (.xd [(fnm f,.ref q')])) n3);exact lk f_ Z ⟨i,some (f,.g_ es)⟩ M1 _ (t1.trans tB) (ds.mono (t1.trans tB)) ((k_.grow n1).grow n3) q (some dx) ⟨dx,ob,.ref q',rfl,ag,⟨q',ws,rfl,.inl ⟨o,by rw[ae (Ja nn),ag]⟩,Kz.mono tB⟩⟩
   ·exact q.elim
 ·exact q.elim
theorem B7{o_ m_:Pos}(ho:PE X o (low X.K cls E2 to))(he:PE X e (low X.K cls E2 te))(Kf:attributeBase o "append" X.env (eval o X.env)=eval o X.env)
  (Kg:(o_.endLine == m_.line)=true) (hs:starEach [e] X.env=[(false,eval e X.env)]) :
  PS X (.Expr (.Call (.Attribute o "append" o_) [e] [] m_) pos) (bM X.K cls E2 λD E Z M=>to Z M (λx M1=>match x with
  |.ref a=>match M1 a with
   |some (.lst _)=>te Z M1 (λy M2=>match M2 a with
    |some (.lst ds)=>ds.length<sizeLine/\D.nx Z (put M2 a (.lst (ds++[y])))
    |_=>False) (E Z)
   |_=>False
  |_=>False) (E Z)):=by
 have hm:MtR X "list.append" rAppend:=lO;have h1:=B5 (X:=X) PySem.F.plainAttrs_list PySem.F.slot_list_append PySem.F.type_list_append hm ho (aB he pa_nil hs) Kf (by rw[hs];rfl) Kg hs (by rfl)
 refine (mf h1 (by rfl)).imp λD2 Z H j_=>ex9 j_ λf_ M D3 E3 rm ds lk h er=>?_
 refine bo rm ds (lk.at ds) h λv H1 x M1 dx k_ t1 q1=>?_
 split at q1
 ·rename_i a;cases (show v=.ref a from dx);split at q1
  ·rename_i Ng e0;obtain⟨Ta,f0,_⟩:=k_ a _ e0;refine⟨.inl ⟨rfl,Ta,.of f0⟩,bo k_ (ds.mono t1) ((lk.mono t1).at (ds.mono t1)) q1 λu H2 y M2 dy C_ t2 q2=>?_⟩
   split at q2
   ·rename_i Tb e1;obtain⟨vs,f1,dl⟩:=C_ a _ e1;refine⟨a,vs,u,rfl,rfl,f1,by rw[<-dl.length];exact q2.1,?_⟩
    have tw:TM X.K H2 (upd H2 a (.lst (vs++[u]))):=.put f1 (λ_=>λz=>nomatch z) λ_ _=>λz=>nomatch z
    exact er.nx _ _ _ _ (C_.write (u:=.lst (Tb++[y])) f1 (λ_=>λz=>nomatch z) (λ_ _=>λz=>nomatch z) ⟨_,ag,(dl.append (.one dy)).mono tw⟩) (((ds.mono t1).mono t2).mono tw) ((t1.trans t2).trans tw) q2.2
   ·exact q2.elim
  ·exact q1.elim
 ·exact q1.elim
end
abbrev no2:St->XK:=λ_ _ _ _=>False
theorem uE{K:Kc}(h:DenS K H f_ Z):DenS K H (ao js f_) (jC js Z):=by
 refine⟨by simp[ao,jC],λi d e=>?_⟩
 unfold ao at e;unfold jC;rw[JJ]at e ⊢;cases q:js[i]? with
 |none=>rw[q]at e;cases e
 |some o=>
  rw[q]at e;cases o with
  |none=>cases e
  |some j=>
   rw[Option.map_some,Option.bind_some]at e;cases z:f_[j]? with
   |none=>rw[z]at e;cases e
   |some y=>
    rw[z]at e;have e:some (id y)=some (some d):=e;have e:y=some d:=Jn e;subst e;obtain⟨v,e1,e2⟩:=h.2 j d z;refine⟨v,?_,e2⟩;rw[Option.map_some,Option.bind_some,e1];rfl
section
variable {X:Cx}
theorem kj(rm:RelM X.K M H)(Ng:DenS X.K H f_ Z)(lk:LkE X.K cls H E3 (E2 Z))
  (h:wi f_ M (λds S M1=>∀p,M1 p=none->eO g (λZ M Q=>tt Z M Q (λ_ _=>False)) (λZ M Q=>te Z M Q (λ_ _=>False)) S p Q ds [] (ao js f_) (put M1 p (.lst []))) E3) (c_:Back X.K H Q Q2) :
  rj js (l7 X.K cls E2 wi) (sv X.K g) (de X.K cls no2 tt) (low X.K cls no2 te) Z H Q2:=by
 refine⟨f_,M,_,E3,rm,Ng,lk,h,λJ H1 ds S M1 ok k_ Lp hP p hp=>?_⟩
 have hP:=hP p (k_.fresh hp);refine⟨λi m Lm H'=>∃Mq ys M',m=ds.length-i/\i<=ds.length/\RelM X.K M' H'/\DenS X.K H' Mq Lm/\TM X.K H1 H'/\eO g (λZ M Q=>tt Z M Q (λ_ _=>False)) (λZ M Q=>te Z M Q (λ_ _=>False)) S p Q (ds.drop i) ys Mq M',
  ⟨ds.length,_,[],_,by simp,Nat.zero_le _,k_.lay (u:=.lst []) hp ⟨[],ag,.nil⟩,(uE Ng).mono (Lp.trans (.new hp)),.new hp,hP⟩,?_⟩
 rintro i m Lm H' ⟨Mq,ys,M',rfl,P6,s_,Kl,LU,q⟩;by_cases Kk:i<ds.length
 ·rw[List.drop_eq_getElem_cons Kk]at q;obtain⟨s',hl,q⟩:=q;refine .inr ⟨ok.go i H' M' LU s_ s' Kk,λx H2 y=>?_⟩
  obtain⟨Ot,C_,d,hd,dv⟩:=ok.yld i H' M' x H2 LU s_ s' Kk y;rw[Jt Kk]at hd;cases hd;refine⟨_,Mq,M',_,dv,C_,Kl.mono Ot,q,λS9 H5 Lq M5 Qe Nz Qg q5=>?_⟩
  refine⟨Lq,M5,_,_,Qe,Nz,LkE.no,q5,λb H6 M6 L9 Lz q6=>?_⟩
  have MG:TM X.K H1 H6:=((LU.trans Ot).trans Qg).trans Lz;cases b with
  |true=>
   rw[Jc rfl]at q6;dsimp only;rw[Jc rfl];refine⟨Lq,M6,_,_,L9,Nz.mono Lz,LkE.no,q6,λv H7 y M7 dy Ro Rp ⟨e7,q7⟩=>?_⟩
   obtain⟨vs,f7,dl⟩:=Ro p _ e7;have tw:TM X.K H7 (upd H7 p (.lst (vs++[v]))):=.put f7 (λ_=>λz=>nomatch z) λ_ _=>λz=>nomatch z
   exact⟨vs,f7,by rw[<-dl.length];exact hl,ds.length-(i+1),by omega,Lq,ys++[y],_,rfl,Kk,Ro.write (u:=.lst (ys++[y])) f7 (λ_=>λz=>nomatch z) (λ_ _=>λz=>nomatch z) ⟨_,ag,(dl.append (.one dy)).mono tw⟩,((Nz.mono Lz).mono Rp).mono tw,(MG.trans Rp).trans tw,q7⟩
  |false=>
   rw[IY Jx]at q6;dsimp only;rw[IY Jx];exact⟨ds.length-(i+1),by omega,Lq,ys,M6,rfl,Kk,L9,Nz.mono Lz,MG,q6⟩
 ·have e:i=ds.length:=by omega
  subst e;rw[List.drop_length]at q;exact .inl ⟨ok.stop H' M' LU s_ q.1,c_ _ _ _ _ hV s_ (Lp.trans LU) q.2⟩
variable (h_:fj N js scope X.env.scope X.N=true) (F_:X.calm=true) (hi:PI X tg iter (l7 X.K cls E2 wi))
  (hg:∀C s2 H2 fp pn,PG (compCx X scope C N s2 H2 fp pn) tg (sv X.K g)) (ht:∀C s2 H2 fp pn,PIf (compCx X scope C N s2 H2 fp pn) ifs (de X.K cls no2 tt)) (he:∀C s2 H2 fp pn,PE (compCx X scope C N s2 H2 fp pn) y_ (low X.K cls no2 te))
  (hs:∀x,foldedSetIterable iter X.env x=pure x)
include h_ F_ hi hg ht he hs
theorem qZ:PE X (.ListComp y_ [⟨tg,iter,ifs,0⟩] scope pos) (low X.K cls E2 λZ M Q E=>wi Z M (λds S M1=>∀p,M1 p=none->eO g (λZ M Q=>tt Z M Q (λ_ _=>False)) (λZ M Q=>te Z M Q (λ_ _=>False)) S p Q ds [] (ao js Z) (put M1 p (.lst []))) E):=
 (wS h_ F_ hi hg ht he hs).imp λZ H Q2 j_=>ex9 j_ λf_ M Q E3 rm ds lk h c_=>kj rm ds lk h c_
theorem zI(fz:Bool):PE X (.ListComp y_ [⟨tg,iter,ifs,0⟩] scope pos) (low X.K cls E2 λZ M Q E=>wi Z M (λds S M1=>∀p,M1 p=none->eO g (λZ M Q=>tt Z M Q (λ_ _=>False)) (λZ M Q=>te Z M Q (λ_ _=>False)) S p (if fz=true then jg Q else Q) ds [] (ao js Z) (put M1 p (.lst []))) E):=by
 cases fz with
 |false=>exact qZ h_ F_ hi hg ht he hs
 |true=>exact BG (qZ h_ F_ hi hg ht he hs)
theorem p9{spos:Pos}(hN:X.N.Nodup)(hy:X.N[i]?=some y)(hl:X.env.scope.names.lookup y=some .local)(MW:swapsWith (.ListComp y_ [⟨tg,iter,ifs,0⟩] scope pos) (some (.Name y py)) spos.line X.env=pure true)(fz:Bool) :
  PS X (.Assign [.Name y py] (.ListComp y_ [⟨tg,iter,ifs,0⟩] scope pos) spos) (bM X.K cls E2 λD E Z M=>wi Z M (λds S M1=>∀p,M1 p=none->eO g (λZ M Q=>tt Z M Q (λ_ _=>False)) (λZ M Q=>te Z M Q (λ_ _=>False)) S p (if fz=true then jg (λx M1=>D.nx (Z.set i (some x)) M1) else (λx M1=>D.nx (Z.set i (some x)) M1)) ds [] (ao js Z) (put M1 p (.lst []))) (E Z)):=by
 cases fz with
 |false=>exact (jv hN hy hl h_ F_ hi hg ht he hs MW).imp λD2 Z H j_=>ex9 j_ λf_ M D3 E3 rm ds lk h er=>kj rm ds (lk.at ds) h λv H1 x M1 dx k_ t1 q1=>er.nx _ _ _ _ k_ ((ds.mono t1).set dx) t1 q1
 |true=>
  refine λa_ s Z H D2 I j_=>ex9 j_ λf_ M D3 E3 rm ds lk h er=>?_
  refine thn (jv hN hy hl h_ F_ hi hg ht he hs MW a_ s Z H {D2 with nx:=λn_ H'=>∃x v M1,n_=Z.set i (some v)/\Den X.K H' x v/\RelM X.K M1 H'/\TM X.K H H'/\jg (λx M1=>D3.nx (f_.set i (some x)) M1) x M1} I
   (kj rm ds (lk.at ds) h λv H1 x M1 dx k_ t1 q1=>⟨x,v,M1,rfl,dx,k_,t1,q1⟩)) λfl s1 q=>?_
  cases fl with
  |next=>
   obtain⟨n_,H',I1,x,v,M1,rfl,dx,k_,t1,q1⟩:=q;unfold jg at q1;split at q1
   ·rename_i a;cases (show v=.ref a from dx);split at q1
    ·rename_i es e;obtain⟨vs,e1,dl⟩:=k_ a _ e;obtain⟨o,I2⟩:=I1.freeze e1;exact⟨_,_,I2,er.nx _ _ _ _ (k_.freeze e1) ((ds.mono (t1.trans (.freeze e1))).set (gJ dl e1)) (t1.trans (.freeze e1)) q1⟩
    ·exact q1.elim
   ·exact q1.elim
  |brk=>exact q
  |cont=>exact q
  |ret u=>exact q
end
def pG(K:Kc)(cls:Nat->Addr)(t:XE->Ends3->St3->MH->Prop):Ends->St->XK:=λD2 Z c dx H=>∃i f_ M D3,(c=.ref (cls i.c)/\XD K H i dx)/\RelM K M H/\DenS K H f_ Z/\t i D3 f_ M/\ER K H D3 D2
theorem ER.goes{K:Kc}{D2:Ends}(er:ER K H D3 D2)(i:Nat):ER K H (oh D3 i) (D2.goes i):=
 ⟨λn_ H' w_ M' rm ds t q=>er.nx _ _ _ _ rm ds.drop t q,er.rt,λn_ H' w_ M' rm ds t q=>er.bk _ _ _ _ rm ds.drop t q,λn_ H' w_ M' rm ds t q=>er.ct _ _ _ _ rm ds.drop t q⟩
section
variable {X:Cx}{cls:Nat->Addr}{E2:St->XK}{c n:Str}{k j ne:Nat}{sub:Nat->Nat->Bool}{b0:Stmt}{Kj:List Stmt}{np Ll pos:Pos}{aC:List ExceptHandler}{tb:Ends3->(St3->XN)->St3->MH->Prop}{tr:XE->Ends3->St3->MH->Prop}
theorem BX:PH X [] (pG X.K cls λ_ _ _ _=>False):=λ_ _ _ _ _ _ _ _ _ ⟨_,_,_,_,_,_,_,h,_⟩=>h.elim
theorem C5(hg:Gl X c)(hm:X.mg c=some (.ref (cls k)))(Nh:∀i,i<ne->PySem.W.exmOne X.K (.ref (cls i)) (.ref (cls k))=some (sub i k))(hN:X.N.Nodup)(hj:X.N[j]?=some n)(hl:X.env.scope.names.lookup n=some .local)
  (hs:∀v,PSs (X.marked v) (b0::Kj) (bM X.K cls no2 tb)) (hr:PH X aC (pG X.K cls tr)) (A_:(c == ("__debug__" : Str))=false) :
  PH X (.ExceptHandler (some (.Name c np)) (some n) (b0::Kj) Ll::aC) (pG X.K cls λi D Z M=>i.c<ne/\if sub i.c k=true then (∀a,M a=none->tb (oh D j) (λ_ _ _=>False) (Z.set j (some (.ref a))) (put M a (.exc i (.ref (cls i.c))))) else tr i D Z M):=by
 intro a_ s Z H D a cv dx xi ⟨i,f_,M,D3,⟨e,xd⟩,rm,ds,⟨hi,h⟩,er⟩;subst e;refine DU (i:=j) hg hm hN hj hl hs hr A_ a_ s Z H D a _ dx xi ?_;have z:=Nh i.c hi;cases q:sub i.c k with
 |true=>
  rw[q]at z;rw[Jc q]at h;refine .inl ⟨z,λa' ha=>?_⟩
  have tn:TM X.K H (upd H a' (wC a' (.ref (cls i.c)) dx)):=.new ha;exact⟨_,_,_,_,rm.lay (u:=.exc i (.ref (cls i.c))) ha ⟨dx,ag,xd.mono tn⟩,(ds.mono tn).set hV,(λ_ _ _ _ _ _ _ _ w=>w.elim),h a' (rm.fresh ha),(er.goes j).mono tn⟩
 |false=>
  rw[q]at z;rw[IY (by rw[q];exact Jx)]at h
  exact .inr ⟨z,i,f_,M,D3,⟨rfl,xd⟩,rm,ds,h,er⟩
theorem CD(hg:Gl X c)(hm:X.mg c=some (.ref (cls k)))(Nh:∀i,i<ne->PySem.W.exmOne X.K (.ref (cls i)) (.ref (cls k))=some (sub i k))
  (hs:∀v,PSs (X.marked v) (b0::Kj) (bM X.K cls no2 tb)) (hr:PH X aC (pG X.K cls tr)) (A_:(c == ("__debug__" : Str))=false) :
  PH X (.ExceptHandler (some (.Name c np)) none (b0::Kj) Ll::aC) (pG X.K cls λi D Z M=>i.c<ne/\if sub i.c k=true then tb D (λ_ _ _=>False) Z M else tr i D Z M):=by
 intro a_ s Z H D a cv dx xi ⟨i,f_,M,D3,⟨e,xd⟩,rm,ds,⟨hi,h⟩,er⟩;subst e;refine CQ hg hm hs hr A_ a_ s Z H D a _ dx xi ?_;have z:=Nh i.c hi;cases q:sub i.c k with
 |true=>
  rw[q]at z;rw[Jc q]at h;exact .inl ⟨z,f_,M,D3,_,rm,ds,(λ_ _ _ _ _ _ _ _ w=>w.elim),h,er⟩
 |false=>
  rw[q]at z;rw[IY (by rw[q];exact Jx)]at h
  exact .inr ⟨z,i,f_,M,D3,⟨rfl,xd⟩,rm,ds,h,er⟩
theorem wU(Ks:X.stack=X.env::X.outer)(K8:X.env.frame=some X.env.locals)(hex:X.ex=[])(hh:PH X (h0::hs) th) :
  PS X (.Try body (h0::hs) [] [] pos) (λD Z H=>∀pn W,aO (CX1 X.prog X.w) (X.tryX pn W) (λZ cls d H=>th D Z cls d H)->∃t,PSs (X.tryX pn W) body t/\t D Z H):=by
 intro a_ s Z H D I h;have KQ:∀(W:Value->Shared->Prop),aO (CX1 X.prog X.w) (X.tryX a_ W) (λZ cls d H=>th D Z cls d H)->wpAny (model X.prog X.w) X.A (execs body X.env) (SP (X.tryX a_ W) [] D) W s:=λW hP=>by
  obtain⟨t,ht,q⟩:=h a_ W hP;exact ht [] s Z H D (I.tryX _) q
 refine wpAny_Try_except (JT (KQ _ ?hx) (λf s1 q=>?_) (λe s1 q=>q))
 case hx=>
  intro Mw Pl H1 s1 e s' I' hc;have I1:=I'.untry I.ok;obtain⟨a,cls,B,H2,dx,rfl,os,bare,un,h_,⟨Rq,Tc⟩,ha,K6,he⟩:=hc;have Ml:=wR Rq K6;obtain⟨a0,fl⟩:=Rq;have Td:Heap.FlyingW B (X.env::X.outer) a cls a0 s'.heap:=Ks▸fl;have hA:X.A.frames=some (X.env::X.outer):=Ks▸I.ok.frames;refine vz hA K8 Td Tc λh4 QN Rr Te=>qA QN Te λh5 Rt Ru Tf=>?_
  refine hh a_ _ Pl H2 D a cls dx ⟨B,a0,I1.behind (s':=s') (h4:=h5) hex os bare un h_ K6 Rt.1 (Rr.trans Ru),⟨Ks▸Rt,Tf⟩,ha,?_,λp hp z=>?_,λh6 N1 NX=>I1.behind (s':=s') (h4:=h6) hex os bare un h_ K6 N1 ((Rr.trans Ru).trans NX)⟩ he
  ·cases q:X.s₀.heap.get? a with
   |none=>rfl
   |some o=>
    obtain⟨o1,e1⟩:=I1.base.there a o q (by rw[hex];exact λz=>nomatch z)
    rw[Ml]at e1;cases e1
  ·have e1:=(I1.pin p hp).1;rw[z,Ml]at e1;cases e1
 ·match f,q with
  |.next,⟨n_,H',J,q⟩=>exact wpAny_execs_nil ⟨n_,H',J.untry I.ok,q⟩
  |.brk,⟨n_,H',J,q⟩=>exact⟨n_,H',J.untry I.ok,q⟩
  |.cont,⟨n_,H',J,q⟩=>exact⟨n_,H',J.untry I.ok,q⟩
  |.ret u,⟨v,n_,H',J,r,q⟩=>exact⟨v,n_,H',J.untry I.ok,r,q⟩
theorem Dl(Ks:X.stack=X.env::X.outer)(K8:X.env.frame=some X.env.locals)(hex:X.ex=[])(hh:PH X (h0::hs) (pG X.K cls th))
  (hb:∀pn W Ov,aO (CX1 X.prog X.w) (X.tryX pn W) Ov->PSs (X.tryX pn W) body (bM X.K cls Ov tb)) :
  PS X (.Try body (h0::hs) [] [] pos) (bM X.K cls E2 λD _ Z M=>tb D (λn_ i M'=>th i D n_ M') Z M):=
 (wU Ks K8 hex hh).imp λD2 Z H ⟨f_,M,D3,E3,rm,ds,lk,h,er⟩ pn W hP=>⟨_,hb pn W _ hP,f_,M,D3,_,rm,ds,λw_ n_ i M' H' t Kl s_ q dx xd=>⟨i,w_,M',D3,⟨rfl,xd⟩,s_,Kl,q,er.mono t⟩,h,er⟩
end
section
variable {X:Cx}{s:Shared}{l_:List (Key×V)}{o:Obj}
end
section
variable {X:Cx}{o_ m_:Pos}
end
end L2
namespace L2
open PySem PySem.Spec PyProof.Rows PySem.W
section
variable {X:Cx}{o_ m_:Pos}
end
section
variable {X:Cx}{o_ m_:Pos}
end
end L2
namespace L2
open PySem PySem.Spec PyProof.Rows
section
variable {X:Cx}{s:Shared}
end
section
variable {X:Cx}{o_ m_:Pos}
end
end L2
namespace L2
open PySem PySem.Spec PyProof.Rows PySem.W
section
variable {X:Cx}
end
end L2
namespace L2
open PySem PySem.Spec PyProof.Rows
section
variable {X:Cx}{cls:Nat->Addr}{E2:St->XK}{tg o:Expr}
end
section
variable {X:Cx}{o_ m_:Pos}
end
structure Cfg where
 N:List Str
 sc:Scope
 fns:List (Option Str×Nat)
 exc:List Str
 kln:List Str
 gln:List Str
 xin:List (Nat×Nat)
 calm:Bool
 own:Bool
 tr:Bool
 fn:Bool
 cel:List (Str×NameKind):=[]
noncomputable def glB(c:Cfg)(x:Str):Bool:=c.sc.names.lookup x == some .globalImplicit
noncomputable def Bf(sc:Scope)(x:Str):Bool:=match sc.names.lookup x with
 |some .local=>true
 |some .cell=>true
 |some .free=>true
 |_=>false
noncomputable def xK(c:Cfg)(x:Str):Bool:=c.sc.names.lookup x == some .local||(c.fn&&c.sc.names.lookup x == some .cell)||(c.cel.lookup x == some .cell&&c.sc.names.lookup x == some .cell)
noncomputable def c5:Expr->Bool
 |.Starred ..=>false
 |_=>true
noncomputable def qo:Expr->Bool
 |.Set ..=>false
 |_=>true
noncomputable def nN:Expr->Bool
 |.ListComp ..=>false
 |.SetComp ..=>false
 |.DictComp ..=>false
 |_=>true
noncomputable def Dg:Expr->Bool
 |.Tuple ..=>false
 |_=>true
noncomputable def mM:Expr->Bool
 |.Slice ..=>false
 |_=>true
noncomputable def yS:Expr->Bool
 |.Call ..=>false
 |_=>true
noncomputable def re:Expr->Bool
 |.Call (.Name _ _) [] [] _=>false
 |_=>true
noncomputable def qC:Expr->Bool
 |.UnaryOp ..=>false
 |.BoolOp ..=>false
 |.IfExp ..=>false
 |.Compare ..=>false
 |_=>true
noncomputable def ky:BI->String
 |.len=>"len"|.max=>"max"|.list _=>"list"|.sorted _=>"sorted"|.all=>"all"|.any=>"any"
noncomputable def jx:BM->String
 |.get=>"get"|.KN=>"pop"
noncomputable def biNames:List Str:=["len","abs","max","min","str","list","tuple","isinstance","range","int","bool","dict","ValueError","enumerate","all","any","sum","zip","reversed","sorted"]
noncomputable def Bj(sc Lu:Scope):Scope:={sc with names:=sc.names.map λ(n,k)=>if (k == .free&&Lu.kind == .function&&Lu.names.lookup n == some .cell) then (n,.cell) else (n,k)}
noncomputable def Cfg.comp(c:Cfg)(N:List Str)(sc:Scope):Cfg:={c with N:=N,sc:=Bj sc c.sc,own:=false,tr:=false,fn:=false,cel:=sc.names}
noncomputable def Cfg.trying(c:Cfg):Cfg:={c with own:=false}
noncomputable def Cfg.caught(c:Cfg):Cfg:={c with calm:=false,own:=false,tr:=false}
noncomputable def okG(c:Cfg):ITg->Expr->Bool
 |.name i,e=>match e with
  |.Name x _=>(c.N[i]? == some x)&&xK c x
  |_=>false
 |.tup is,e=>match e with
  |.Tuple es _ _=>c.calm&&di c.N c.sc c.fn is es
  |_=>false
noncomputable def uL:II->Expr->Bool
 |.enum _,e=>match e with
  |.Tuple ..=>true
  |_=>false
 |.zip _ _,e=>match e with
  |.Tuple ..=>true
  |_=>false
 |_,_=>true
mutual
noncomputable def okE:IE->Cfg->Expr->Bool
 |.var i,c,e=>match e with
  |.Name x _=>(c.N[i]? == some x)&&Bf c.sc x&&!(x == ("__debug__" : Str))&&!(x == ("__classdict__" : Str))
  |_=>false
 |.con d,_,e=>match e with
  |.Constant k _ _=>match k,d with
   |.int i,.int j=>decide (i=j)
   |.bool i,.bl j=>decide (i=j)
   |.none,.i_=>true
   |.str i,.str j=>decide (i=j)
   |_,_=>false
  |_=>false
 |.bin op a b,c,e=>match e with
  |.BinOp x KL y _=>decide (op=KL)&&okE a c x&&okE b c y
  |_=>false
 |.neg a,c,e=>match e with
  |.UnaryOp op x _=>decide (op=.USub)&&okE a c x
  |_=>false
 |.cat _ a b,c,e=>match e with
  |.BinOp x KL y _=>decide (KL=.Add)&&okE a c x&&okE b c y
  |_=>false
 |.cmp op a b,c,e=>match e with
  |.Compare x [KL] [y] _=>decide (op=KL)&&qo y&&okE a c x&&okE b c y
  |_=>false
 |.chain op1 op2 a b d,c,e=>match e with
  |.Compare x [op1',op2'] [y,z] _=>decide (op1=op1')&&decide (op2=op2')&&qo z&&okE a c x&&okE b c y&&okE d c z
  |_=>false
 |.and a b,c,e=>match e with
  |.BoolOp op (x::y::r) p=>decide (op=.And)&&okE a c x&&(match r with|[]=>okE b c y|_::_=>okE b c (.BoolOp .And (y::r) p))
  |_=>false
 |.or a b,c,e=>match e with
  |.BoolOp op (x::y::r) p=>decide (op=.Or)&&okE a c x&&(match r with|[]=>okE b c y|_::_=>okE b c (.BoolOp .Or (y::r) p))
  |_=>false
 |.not a,c,e=>match e with
  |.UnaryOp op x _=>decide (op=.Not)&&okE a c x
  |_=>false
 |.Mi t a b,c,e=>match e with
  |.IfExp x y z _=>okT t c x&&okE a c y&&okE b c z
  |_=>false
 |.tup es,c,e=>match e with
  |.Tuple xs _ _=>okA es c xs
  |_=>false
 |.lst _ es,c,e=>match e with
  |.List xs _=>okA es c xs
  |_=>false
 |.t_ a,c,e=>okE a c e
 |.ix a b,c,e=>match e with
  |.Subscript x y _=>mM y&&okE a c x&&okE b c y
  |_=>false
 |.sl _ a lo hi,c,e=>match e with
  |.Subscript x (.Slice l h none _) _=>okE a c x&&okO lo c l&&okO hi c h
  |_=>false
 |.call f es,c,e=>match e with
  |.Call (.Name x _) args [] _=>c.calm&&(match c.fns[f]? with|some p=>decide (some x=p.1)&&decide (args.length=p.2)|none=>false)&&glB c x&&!(x == ("__debug__" : Str))&&okA es c args
  |_=>false
 |.bi b es,c,e=>match e with
  |.Call (.Name x _) args [] _=>c.calm&&decide (x=(ky b:Str))&&glB c x&&!args.isEmpty&&okA es c args
  |_=>false
 |.Lv a t,c,e=>match e with
  |.Call (.Name x _) [y,.Name z _] [] _=>decide (x=("isinstance" : Str))&&decide (z=(cx t:Str))&&glB c x&&glB c z&&c5 y&&okE a c y
  |_=>false
 |.MA a k,c,e=>match e with
  |.Call (.Name x _) [y,.Name z _] [] _=>decide (x=("isinstance" : Str))&&(c.exc[k]? == some z)&&glB c x&&glB c z&&!(z == ("__debug__" : Str))&&c5 y&&okE a c y
  |_=>false
 |.mm mx dflt a,c,e=>match e with
  |.Call (.Name x _) [y] kws _=>c.calm&&decide (x=(cY mx:Str))&&glB c x&&c5 y&&okE a c y&&(match kws,dflt with
   |[],false=>true
   |[⟨some d,.Constant k _ _,_⟩],true=>decide (d=("default" : Str))&&(match k with|.none=>true|_=>false)
   |_,_=>false)
  |_=>false
 |.comp _ N js tg it cond y_,c,e=>match e with
  |.ListComp el [⟨NA,iter,ifs,as⟩] scope _=>c.calm&&decide (as=0)&&uL it NA&&qo iter&&fj N js scope c.sc c.N&&okI it c iter&&okG (c.comp N scope) tg NA&&xE cond (c.comp N scope) ifs&&okE y_ (c.comp N scope) el
  |_=>false
 |.fld a f,c,e=>match e with
  |.Attribute x m _=>decide (m=fnm f)&&re x&&okE a c x
  |_=>false
 |.make _ i es,c,e=>match e with
  |.Call (.Name x _) args [] _=>c.calm&&(c.kln[i]? == some x)&&glB c x&&!(x == ("__debug__" : Str))&&okA es c args
  |_=>false
 |.x_ a m es,c,e=>match e with
  |.Call (.Attribute x n ap) args [] cp=>c.calm&&decide (n=fnm m)&&re x&&(ap.endLine == cp.line)&&decide (args.length<30)&&okE a c x&&okA es c args
  |_=>false
 |.ini i es,c,e=>match e with
  |.Call (.Attribute (.Name x _) n ap) args [] cp=>c.calm&&decide (n=("__init__" : Str))&&(c.kln[i]? == some x)&&glB c x&&!(x == ("__debug__" : Str))&&(ap.endLine == cp.line)&&decide (args.length<30)&&!args.isEmpty&&okA es c args
  |_=>false
 |.Lw a j,c,e=>match e with
  |.Call (.Name x _) [y,.Name z _] [] _=>decide (x=("isinstance" : Str))&&(c.kln[j]? == some z)&&glB c x&&glB c z&&!(z == ("__debug__" : Str))&&c5 y&&okE a c y
  |_=>false
 |.glo k,c,e=>match e with
  |.Name x _=>(c.gln[k]? == some x)&&glB c x&&!(x == ("__debug__" : Str))
  |_=>false
 |.bm b o es,c,e=>match e with
  |.Call (.Attribute x n ap) args [] cp=>c.calm&&decide (n=(jx b:Str))&&re x&&(ap.endLine == cp.line)&&decide (args.length<30)&&okE o c x&&okA es c args
  |_=>false
 |.Ku _,_,e=>match e with
  |.Dict [] [] _=>true
  |_=>false
 |.rep _ a b,c,e=>match e with
  |.BinOp x KL y _=>decide (KL=.Mult)&&okE a c x&&okE b c y
  |_=>false
 |.LL _ a b,c,e=>match e with
  |.Call (.Name x _) [.Call (.Name x' _) [y,z] [] _] [] _=>c.calm&&decide (x=("list" : Str))&&glB c x&&decide (x'=("zip" : Str))&&glB c x'&&c5 y&&c5 z&&okE a c y&&okE b c z
  |_=>false
noncomputable def okT:IT->Cfg->Expr->Bool
 |.val a,c,e=>qC e&&okE a c e
 |.cmp op a b,c,e=>match e with
  |.Compare x [KL] [y] _=>decide (op=KL)&&qo y&&okE a c x&&okE b c y
  |_=>false
 |.and a b,c,e=>match e with
  |.BoolOp op (x::y::r) p=>decide (op=.And)&&okT a c x&&(match r with|[]=>okT b c y|_::_=>okT b c (.BoolOp .And (y::r) p))
  |_=>false
 |.or a b,c,e=>match e with
  |.BoolOp op (x::y::r) p=>decide (op=.Or)&&okT a c x&&(match r with|[]=>okT b c y|_::_=>okT b c (.BoolOp .Or (y::r) p))
  |_=>false
 |.not a,c,e=>match e with
  |.UnaryOp op x _=>decide (op=.Not)&&okT a c x
  |_=>false
noncomputable def okA:IA->Cfg->List Expr->Bool
 |.nil,_,es=>es.isEmpty
 |.cons a r,c,es=>match es with
  |x::xs=>c5 x&&okE a c x&&okA r c xs
  |[]=>false
noncomputable def okO:IO->Cfg->Option Expr->Bool
 |.no,_,o=>o.isNone
 |.yes a,c,o=>match o with
  |some x=>okE a c x
  |none=>false
noncomputable def xE:ITO->Cfg->List Expr->Bool
 |.no,_,es=>es.isEmpty
 |.yes t,c,es=>match es with
  |[x]=>okT t c x
  |_=>false
noncomputable def okI:II->Cfg->Expr->Bool
 |.seq a,c,e=>okE a c e
 |.enum a,c,e=>match e with
  |.Call (.Name x _) [y] [] _=>decide (x=("enumerate" : Str))&&glB c x&&c5 y&&okE a c y
  |_=>false
 |.zip a b,c,e=>match e with
  |.Call (.Name x _) [y,z] [] _=>decide (x=("zip" : Str))&&glB c x&&c5 y&&c5 z&&okE a c y&&okE b c z
  |_=>false
 |.LN a,c,e=>match e with
  |.Call (.Name x _) [y] [] _=>decide (x=("reversed" : Str))&&glB c x&&c5 y&&okE a c y
  |_=>false
 |.KD a,c,e=>match e with
  |.Call (.Name x _) [y] [] _=>decide (x=("range" : Str))&&glB c x&&c5 y&&okE a c y
  |_=>false
end
noncomputable def swB(c:Cfg)(scope:Scope)(x:Str)(l1 l2:Nat):Bool:=c.sc.kind == .function&&c.sc.names.lookup x == some .local&&l1 == l2&&!(scope.names.any λ(n,k)=>n == x&&(k == .local||k == .cell))
mutual
noncomputable def okS:IS->Cfg->Stmt->Bool
 |.set i a,c,s=>match s with
  |.Assign [.Name x px] e _=>(c.N[i]? == some x)&&xK c x&&okE a c e&&(nN e||match e,a with
   |.ListComp _ _ scope pos,.comp ..=>swB c scope x px.line pos.line||c.sc.names.lookup x == some .cell
   |_,_=>false)
  |_=>false
 |.expr a,c,s=>match s with
  |.Expr e _=>nN e&&okE a c e
  |_=>false
 |.ret a,c,s=>match s with
  |.Return (some e) _=>okE a c e
  |_=>false
 |.ifs t a b,c,s=>match s with
  |.If x y z _=>okT t c x&&jK a c y&&jK b c z
  |_=>false
 |.Kh tg it body,c,s=>match s with
  |.For NA iter b [] _=>c.own&&uL it NA&&c.calm&&qo iter&&okG c tg NA&&okI it c iter&&jK body c b
  |_=>false
 |.KG k es,c,s=>match s with
  |.Raise (some (.Call (.Name x _) args [] _)) none _=>(c.xin.lookup k).isSome&&c.own&&c.calm&&(c.exc[k]? == some x)&&glB c x&&!(x == ("__debug__" : Str))&&!args.isEmpty&&okA es c args
  |_=>false
 |.raise k es,c,s=>match s with
  |.Raise (some (.Call (.Name x _) args [] _)) none _=>(c.xin.lookup k).isNone&&c.own&&c.calm&&(c.exc[k]? == some x)&&glB c x&&!(x == ("__debug__" : Str))&&!args.isEmpty&&okA es c args
  |_=>false
 |.Lo body hs,c,s=>match s with
  |.Try b Kr [] [] _=>c.tr&&!Kr.isEmpty&&jK body c.trying b&&u4 hs c Kr
  |_=>false
 |.app o a,c,s=>match s with
  |.Expr (.Call (.Attribute x m ap) [y] [] cp) _=>decide (m=("append" : Str))&&yS x&&(ap.endLine == cp.line)&&c5 y&&okE o c x&&okE a c y
  |_=>false
 |.del _,_,_=>false
 |.dead,_,_=>true
 |.Ke o f a,c,s=>match s with
  |.Assign [.Attribute x m _] v _=>decide (m=fnm f)&&nN v&&okE o c x&&okE a c v
  |_=>false
 |.v_ o i a,c,s=>match s with
  |.Assign [.Subscript x y _] v _=>mM y&&nN v&&okE o c x&&okE i c y&&okE a c v
  |_=>false
noncomputable def jK:ISs->Cfg->List Stmt->Bool
 |.nil,_,Lx=>Lx.isEmpty
 |.cons s r,c,Lx=>match s with
  |.del _=>jK r c Lx
  |s=>match Lx with
   |st::aC=>okS s c st&&jK r c aC
   |[]=>false
noncomputable def u4:IHs->Cfg->List ExceptHandler->Bool
 |.nil,_,hs=>hs.isEmpty
 |.cons k nm body r,c,hs=>match hs with
  |.ExceptHandler (some (.Name x _)) O3 Li _::aC=>(c.exc[k]? == some x)&&glB c x&&!(x == ("__debug__" : Str))&&(match nm,O3 with
   |none,none=>true
   |some j,some n=>(c.N[j]? == some n)&&c.sc.names.lookup n == some .local
   |_,_=>false)&&!Li.isEmpty&&jK body c.caught Li&&u4 r c aC
  |_=>false
end
structure Good (c:Cfg)(W:WC)(X:Cx)(E2:St->XK):Prop where
 N:X.N=c.N
 nd:c.N.Nodup
 sc:X.env.scope=c.sc
 un:X.A.units+64<cLine
 calm:c.calm=true->X.calm=true
 fnx:c.fn=true->∀x,X.fn x=true
 cel:∀x,c.cel.lookup x=some .cell->X.fn x=true
 own:c.own=true->PassesOwn (model X.prog X.w) X.A X.env X.xe/\∃E,(E2=λ_=>E)/\ma X E/\jr X E/\Room 2 X.A
 tr:c.tr=true->X.stack=X.env::X.outer/\X.env.frame=some X.env.locals/\X.ex=[]
 fns:c.calm=true->∃k,Room (k+1) X.A/\∀f,f<c.fns.length->rQ X W.cls k (W.d_ f) (W.call f)
 fnn:∀f x n,c.fns[f]?=some (some x,n)->X.mg x=some (.ref (W.d_ f))
 kok:∀i,i<W.nk->KOk X.K W.toWB W.d_ i
 kin:∀i,i<W.nk->∃f,W.ini i=some f
 kfi:∀i f,i<W.nk->W.ini i=some f->f<c.fns.length
 kfm:∀i m f,i<W.nk->W.mth i m=some f->f<c.fns.length
 knm:∀i x,c.kln[i]?=some x->X.mg x=some (.ref (W.b_ i))/\i<W.nk
 glo:∀k x,c.gln[k]?=some x->∃u v,X.mg x=some u/\RelV v u/\∀H,Den X.K H (W.glo k) v
 exc:∀i x,c.exc[i]?=some x->X.mg x=some (.ref (W.cls i))/\(c.xin.lookup i=none->xT X.K (W.cls i))/\∀j,j<W.ne->PySem.W.exmOne X.K (.ref (W.cls j)) (.ref (W.cls i))=some (W.sub j i)
 exi:∀i,i<W.ne->ExcI X.K (W.cls i)/\PySem.W.kitOne X.K (.ref (W.cls i)) (.type "ValueError")=some true/\∀j x,c.exc[j]?=some x->PySem.W.kitOne X.K (.ref (W.cls i)) (.ref (W.cls j))=some (W.sub i j)
 xi:∀i f,c.xin.lookup i=some f->W.xin i=some f/\∃fI fd ps,XIni X.K (W.cls i) fI (fnm f)/\Binds X.K fd ps []/\FnOk X.prog X.w X.K X.mg X.base (CX1 X.prog X.w) 1 fI fd ps (i7 (cpF f) X.K (W.cls i) (fnm f))
 xn:∀i f,i<W.ne->W.xin i=some f->NoAttr X.K (W.cls i) (fnm f)
 bi:∀x∈biNames,X.mg x=none
 dig:Bo X.K
 pass:aO (CX1 X.prog X.w) X E2
section
variable {c:Cfg}{X:Cx}
theorem Good.gl(G:Good c W X E2)(h:glB c x=true):Gl X x:=by
 show X.env.scope.names.lookup x=_;rw[G.sc];exact Jl.mp h
theorem Good.loc(G:Good c W X E2)(h:xK c x=true):Loc X.env.scope x/\(X.fn x=true\/X.env.scope.names.lookup x=some .local):=by
 unfold xK at h;rw[G.sc];simp only[Bool.or_eq_true,IV,Jl]at h;rcases h with (h|⟨h1,h2⟩)|⟨h1,h2⟩
 ·exact⟨.inl h,.inr h⟩
 ·exact⟨.inr h2,.inl (G.fnx h1 x)⟩
 ·exact⟨.inr h2,.inl (G.cel x h1)⟩
theorem Good.vis(G:Good c W X E2)(h:Bf c.sc x=true):Vis X.env.scope x:=by
 rw[G.sc];unfold Bf at h;split at h
 ·exact .inl (by assumption)
 ·exact .inr (.inl (by assumption))
 ·exact .inr (.inr (by assumption))
 ·cases h
theorem Good.at{i:Nat}{x:Str}(G:Good c W X E2)(h:(c.N[i]? == some x)=true):X.N[i]?=some x:=by rw[G.N];exact Jl.mp h
theorem Good.ndX(G:Good c W X E2):X.N.Nodup:=by rw[G.N];exact G.nd
theorem Good.names(G:Good c W X E2)(h:di c.N c.sc c.fn is es=true):di X.N X.env.scope c.fn is es=true:=by rw[G.N,G.sc];exact h
theorem Good.trying(G:Good c W X E2)(h:aO (CX1 X.prog X.w) (X.tryX pn V') Ov):Good c.trying W (X.tryX pn V') Ov:=
 ⟨G.N,G.nd,G.sc,G.un,G.calm,G.fnx,G.cel,(λz=>nomatch z),G.tr,G.fns,G.fnn,G.kok,G.kin,G.kfi,G.kfm,G.knm,G.glo,G.exc,G.exi,G.xi,G.xn,G.bi,G.dig,h⟩
theorem tG:aO (CX1 P w) X no2:=λ_ _ _ _ _ _ _ h=>by
 obtain⟨_,_,_,_,_,_,_,_,_,_,_,_,_,he⟩:=h;exact he.elim
theorem Good.caught(G:Good c W X E2)(v:Value):Good c.caught W (X.marked v) no2:=
 ⟨G.N,G.nd,G.sc,G.un,(λz=>nomatch z),G.fnx,G.cel,(λz=>nomatch z),(λz=>nomatch z),(λz=>nomatch z),G.fnn,G.kok,G.kin,G.kfi,G.kfm,G.knm,G.glo,G.exc,G.exi,G.xi,G.xn,G.bi,G.dig,tG⟩
theorem Good.comp(G:Good c W X E2){N:List Str}{js:List (Option Nat)}{scope:Scope}(h:fj N js scope c.sc c.N=true)(C:Addr)(s2:Shared)(H2:Hp)(fp:List Addr)(pn:List (Addr×Obj)):Good (c.comp N scope) W (compCx X scope C N s2 H2 fp pn) no2:=by
 have hc:=lF h;refine⟨rfl,hc.nd,?_,G.un,G.calm,(λz=>nomatch z),(λx z=>Jl.mpr z),(λz=>nomatch z),(λz=>nomatch z),G.fns,G.fnn,G.kok,G.kin,G.kfi,G.kfm,G.knm,G.glo,G.exc,G.exi,G.xi,G.xn,G.bi,G.dig,tG⟩
 show relabel scope X.env=Bj scope c.sc;unfold relabel Bj;rw[<-G.sc];rfl
end
theorem aV(h:c5 e=true):starEach (e::es) env=(false,eval e env)::starEach es env:=by
 cases e<;>first|rfl|cases h
theorem vv(h:qo e=true):∀x,foldedSetIterable e env x=pure x:=by
 intro x;cases e<;>first|rfl|cases h
theorem lZ(h:qo e=true):behindInMarks op e=false:=by
 cases e<;>first|rfl|cases h
theorem mK(h:nN e=true):swapsWith e t n env=pure false:=by
 cases e<;>first|rfl|cases h
theorem rH{e:Expr}(h:qC e=true):∀whole,isTrue e env whole=(do let v<-whole;standAt e.pos;holding [v] (truthy v)):=by
 intro whole;cases e<;>first|rfl|cases h
theorem wA(h:mM e=true):l8 e:=by
 intro o i;cases e<;>first|rfl|cases h
theorem zF{e:Expr}{m:Str}{env:Env}{whole:Sem Value}(h:yS e=true):attributeBase e m env whole=whole:=by
 cases e<;>first|rfl|cases h
theorem gT{e:Expr}{m:Str}{env:Env}{whole:Sem Value}(h:re e=true):attributeBase e m env whole=whole:=by
 cases e with
 |Call f as ks p=>
  cases f with
  |Name x px=>
   cases as with
   |nil=>
    cases ks with
    |nil=>cases h
    |cons _ _=>rfl
   |cons _ _=>rfl
  |_=>rfl
 |_=>rfl
theorem AG(h:mM i=true):∀v,assign (.Subscript o i p) env v=(do
   let ov<-holding [v] (eval o env)
   let iv<-holding [v,ov] (eval i env)
   standAt p
   holding [v,ov,iv] (setItem ov iv v)
   release [v,ov,iv] []):=by
 intro v;cases i<;>first|rfl|cases h
theorem cJ(pos:Pos):∀{r:IA}{c:Cfg}{es:List Expr}{env:Env},okA r c es=true->(backTo pos (starEach es env)).any (·.1)=false
 |.nil,c,es,env,h=>by
  simp only[okA]at h;cases es with
  |nil=>rfl
  |cons _ _=>cases h
 |.cons a r,c,es,env,h=>by
  cases es with
  |nil=>simp[okA]at h
  |cons x xs=>
   simp only[okA,IV]at h;rw[aV h.1.1];show (false||(backTo pos (starEach xs env)).any (·.1))=false
   rw[cJ pos h.2];rfl
theorem yR(h:PE X a t):PE X (.BoolOp op [a] pos) t:=Bl h
theorem z8(b:BI):((ky b:String):Str)∈biNames:=by
 cases b with
 |list fz=>cases fz<;>decide +kernel
 |sorted fz=>cases fz<;>decide +kernel
 |_=>decide +kernel
theorem zY(t:BT):((cx t:String):Str)∈biNames:=by cases t<;>decide +kernel
theorem wL{X:Cx}(hu:X.A.units+64<cLine)(hc:X.calm=true)(hd:Bo X.K)(hg:Gl X (ky b:String))(hm:X.mg (ky b:String)=none)(ha:PA X (e::es) (dY X.K cls E2 tr))
  (he:starEach (e::es) X.env=(false,eval e X.env)::starEach es X.env) (E_:(backTo pos (starEach es X.env)).any (·.1)=false):PE X (.Call (.Name (ky b:String) p) (e::es) [] pos) (low X.K cls E2 λZ M Q E=>tr Z M (λxs M1=>rBi b xs M1 Q) E):=by
 cases b with
 |len=>exact iC Ad hg hm (by decide +kernel) ha (by decide +kernel) (by decide +kernel) he E_
 |max=>exact iC (zz hc) hg hm (by decide +kernel) ha (by decide +kernel) (by decide +kernel) he E_
 |list fz=>exact wG (wK fz hc) hg hm (by cases fz<;>decide +kernel) ha (by cases fz<;>decide +kernel) (by cases fz<;>decide +kernel) he E_
 |sorted fz=>exact iC (rG fz) hg hm (by cases fz<;>decide +kernel) ha (by cases fz<;>decide +kernel) (by cases fz<;>decide +kernel) he E_
 |all=>exact iC (yt true hc) hg hm (by decide +kernel) ha (by decide +kernel) (by decide +kernel) he E_
 |any=>exact iC (yt false hc) hg hm (by decide +kernel) ha (by decide +kernel) (by decide +kernel) he E_
theorem wp{X:Cx}{o_ pos:Pos}(hu:X.A.units+64<cLine)(ho:PE X o (low X.K cls E2 to))(ha:PA X (e::es) (dY X.K cls E2 tr))
  (hb:attributeBase o (jx b:String) X.env (eval o X.env)=eval o X.env) (hn:(e::es).length<30) (hl:(o_.endLine == pos.line)=true) (he:starEach (e::es) X.env=(false,eval e X.env)::starEach es X.env) (E_:(backTo pos (starEach es X.env)).any (·.1)=false) :
  PE X (.Call (.Attribute o (jx b:String) o_) (e::es) [] pos) (low X.K cls E2 λZ M Q E=>to Z M (λx M1=>tyB b x M1=true/\tr Z M1 (λxs M2=>rBm b x xs M2 Q) E) E):=by
 cases b with
 |get=>exact CG PySem.F.plainAttrs_dict PySem.F.slot_dict_get PySem.F.type_dict_get (tJ hu) jl ho ha hb hn hl he E_
 |KN=>exact CG PySem.F.plainAttrs_dict PySem.F.slot_dict_pop PySem.F.type_dict_pop (rg hu) jl ho ha hb hn hl he E_
theorem uS{X:Cx}{o_ pos:Pos}(hu:X.A.units+64<cLine)(ho:PE X o (low X.K cls E2 to))
  (hb:attributeBase o (jx b:String) X.env (eval o X.env)=eval o X.env) (hl:(o_.endLine == pos.line)=true) :
  PE X (.Call (.Attribute o (jx b:String) o_) [] [] pos) (low X.K cls E2 λZ M Q E=>to Z M (λx M1=>tyB b x M1=true/\rBm b x [] M1 Q) E):=by
 cases b with
 |get=>exact yb PySem.F.plainAttrs_dict PySem.F.slot_dict_get PySem.F.type_dict_get (tJ hu) jl ho hb hl
 |KN=>exact yb PySem.F.plainAttrs_dict PySem.F.slot_dict_pop PySem.F.type_dict_pop (rg hu) jl ho hb hl
theorem cF(h:okA (.cons a r) c es=true):∃x xs,es=x::xs/\c5 x=true/\okE a c x=true/\okA r c xs=true:=by
 cases es with
 |nil=>simp[okA]at h
 |cons x xs=>
  simp only[okA,IV]at h;exact⟨x,xs,rfl,h.1.1,h.1.2,h.2⟩
noncomputable def GF:IT->Bool
 |.and _ _=>true
 |.or _ _=>true
 |_=>false
section
variable {W:WC}
theorem sG:∀(tg:ITg) {c:Cfg}{e:Expr}{X:Cx}{E2:St->XK},okG c tg e=true->Good c W X E2->PG X e (sv X.K (wpG tg))
 |.name i,c,e,X,E2,h,G=>by
  simp only[okG]at h;split at h
  ·simp only[IV]at h;obtain⟨l1,l2⟩:=G.loc h.2;exact Bk G.ndX (G.at h.1) l1 l2
  ·cases h
 |.tup is,c,e,X,E2,h,G=>by
  simp only[okG]at h;split at h
  ·simp only[IV]at h;exact Cd (G.calm h.1) G.ndX G.fnx (G.names h.2)
  ·cases h
mutual
theorem sE:∀(ie:IE) {c:Cfg}{e:Expr}{X:Cx}{E2:St->XK},okE ie c e=true->Good c W X E2->PE X e (low X.K W.cls E2 (wpE W ie))
 |.var i,c,e,X,E2,h,G=>by
  unfold okE at h;split at h
  ·simp only[IV,Bool.not_eq_true']at h;exact DB (G.at h.1.1.1) (G.vis h.1.1.2) h.1.2 h.2
  ·cases h
 |.con d,c,e,X,E2,h,G=>by
  unfold okE at h;split at h
  ·split at h
   ·cases J2 h;exact oP Bn λ_=>rfl
   ·cases J2 h;exact oP DZ λ_=>rfl
   ·exact oP vi λ_=>rfl
   ·cases J2 h;exact oP uM λ_=>rfl
   ·cases h
  ·cases h
 |.bin op a b,c,e,X,E2,h,G=>by
  unfold okE at h;split at h
  ·simp only[IV,Je]at h;obtain⟨⟨rfl,h1⟩,h2⟩:=h;exact yZ (BE op) (sE a h1 G) (sE b h2 G)
  ·cases h
 |.neg a,c,e,X,E2,h,G=>by
  unfold okE at h;split at h
  ·simp only[IV,Je]at h;obtain⟨rfl,h1⟩:=h;exact G2 (ta:=wpE W a) (r:=rNeg) zM (sE a h1 G)
  ·cases h
 |.cat fz a b,c,e,X,E2,h,G=>by
  unfold okE at h;split at h
  ·simp only[IV,Je]at h;obtain⟨⟨rfl,h1⟩,h2⟩:=h;exact Er (sE a h1 G) (sE b h2 G)
  ·cases h
 |.cmp op a b,c,e,X,E2,h,G=>by
  unfold okE at h;split at h
  ·simp only[IV,Je]at h;obtain⟨⟨⟨rfl,h0⟩,h1⟩,h2⟩:=h;exact DM (mW G.un op) (sE a h1 G) (sE b h2 G) (lZ h0)
  ·cases h
 |.chain op1 op2 a b d,c,e,X,E2,h,G=>by
  unfold okE at h;split at h
  ·simp only[IV,Je]at h;obtain⟨⟨⟨⟨⟨rfl,rfl⟩,h0⟩,h1⟩,h2⟩,h3⟩:=h;exact vR (mW G.un op1) (mW G.un op2) (sE a h1 G) (sE b h2 G) (sE d h3 G) (lZ h0)
  ·cases h
 |.and a b,c,e,X,E2,h,G=>by
  unfold okE at h;split at h
  ·rename_i op x y r p;simp only[IV,Je]at h;obtain⟨⟨rfl,h1⟩,h2⟩:=h;cases r with
   |nil=>exact yH (sE a h1 G) (yR (sE b h2 G))
   |cons z r=>exact yH (sE a h1 G) (sE b h2 G)
  ·cases h
 |.or a b,c,e,X,E2,h,G=>by
  unfold okE at h;split at h
  ·rename_i op x y r p;simp only[IV,Je]at h;obtain⟨⟨rfl,h1⟩,h2⟩:=h;cases r with
   |nil=>exact CW (sE a h1 G) (yR (sE b h2 G))
   |cons z r=>exact CW (sE a h1 G) (sE b h2 G)
  ·cases h
 |.not a,c,e,X,E2,h,G=>by
  unfold okE at h;split at h
  ·simp only[IV,Je]at h;obtain⟨rfl,h1⟩:=h;exact CP (sE a h1 G)
  ·cases h
 |.Mi t a b,c,e,X,E2,h,G=>by
  unfold okE at h;split at h
  ·simp only[IV]at h;exact FK (sT t h.1.1 G).1 (sE a h.1.2 G) (sE b h.2 G)
  ·cases h
 |.tup es,c,e,X,E2,h,G=>by
  unfold okE at h;split at h
  ·exact B3 (sA es h G)
  ·cases h
 |.lst fz es,c,e,X,E2,h,G=>by
  unfold okE at h;split at h
  ·exact Cb (sA es h G)
  ·cases h
 |.t_ a,c,e,X,E2,h,G=>by
  unfold okE at h;exact C8 (sE a h G)
 |.ix a b,c,e,X,E2,h,G=>by
  unfold okE at h;split at h
  ·simp only[IV]at h;exact GZ G.un (sE a h.1.2 G) (sE b h.2 G) (wA h.1.1)
  ·cases h
 |.sl fz a lo hi,c,e,X,E2,h,G=>by
  unfold okE at h;split at h
  ·simp only[IV]at h;exact FQ (sE a h.1.1 G) (sO lo h.1.2 G) (sO hi h.2 G)
  ·cases h
 |.call f es,c,e,X,E2,h,G=>by
  unfold okE at h;split at h
  ·rename_i x px args pos;simp only[IV,Bool.not_eq_true']at h;obtain⟨⟨⟨⟨h0,h1⟩,h2⟩,h3⟩,h4⟩:=h;split at h1
   ·rename_i p hp;simp only[IV,Je]at h1;obtain⟨h1,_⟩:=h1;obtain⟨p1,p2⟩:=p;cases h1;obtain⟨k,hr,hF⟩:=G.fns h0;obtain⟨fd,ps,Ub,m2,m3,m5⟩:=hF f (Jk.mp hp).1;have m1:=G.fnn f x p2 hp;have m4:=hr.mono (JZ k);have hA:=sA es h4 G;cases args with
    |nil=>
     cases es with
     |nil=>exact wg m5 m4 (G.gl h2) m1 m2 m3 G.pass h3
     |cons _ _=>simp[okA]at h4
    |cons z zs=>
     cases es with
     |nil=>simp[okA]at h4
     |cons ea er=>
      obtain⟨_,_,e1,n1,_,n3⟩:=cF h4;cases e1;exact As m5 m4 (G.gl h2) m1 m2 m3 G.pass hA h3 (aV n1) (cJ _ n3)
   ·cases h1
  ·cases h
 |.bi b es,c,e,X,E2,h,G=>by
  unfold okE at h;split at h
  ·rename_i x px args pos;simp only[IV,Je]at h;obtain⟨⟨⟨⟨h0,rfl⟩,h2⟩,h3⟩,h4⟩:=h;have hA:=sA es h4 G;cases args with
   |nil=>cases h3
   |cons z zs=>
    cases es with
    |nil=>simp[okA]at h4
    |cons ea er=>
     obtain⟨_,_,e1,n1,_,n3⟩:=cF h4;cases e1;exact wL G.un (G.calm h0) G.dig (G.gl h2) (G.bi _ (z8 b)) hA (aV n1) (cJ _ n3)
  ·cases h
 |.Lv a t,c,e,X,E2,h,G=>by
  unfold okE at h;split at h
  ·simp only[IV,Je]at h;obtain⟨⟨⟨⟨⟨rfl,rfl⟩,h2⟩,h3⟩,h4⟩,h5⟩:=h;exact Dp (sE a h5 G) (G.gl h2) (G.bi _ (by decide +kernel)) (G.gl h3) (G.bi _ (zY t)) (aV h4)
  ·cases h
 |.MA a k,c,e,X,E2,h,G=>by
  unfold okE at h;split at h
  ·simp only[IV,Je,Jl,Bool.not_eq_true']at h;obtain⟨⟨⟨⟨⟨⟨rfl,h1⟩,h2⟩,h3⟩,h4⟩,h5⟩,h6⟩:=h;exact Dx (sE a h6 G) (G.gl h2) (G.bi _ (by decide +kernel)) (G.gl h3) (G.exc _ _ h1).1 h4 (λi hi=>⟨(G.exi i hi).1,(G.exi i hi).2.2 _ _ h1⟩) (aV h5)
  ·cases h
 |.mm mx dflt a,c,e,X,E2,h,G=>by
  unfold okE at h;split at h
  ·simp only[IV,Je]at h;obtain⟨⟨⟨⟨⟨h0,rfl⟩,h2⟩,h3⟩,h4⟩,h5⟩:=h;have hb:X.mg (cY mx:String)=none:=G.bi _ (by cases mx<;>decide +kernel)
   split at h5
   ·exact Gb mx (G.calm h0) (sE a h4 G) (G.gl h2) hb (aV h3)
   ·simp only[IV,Je]at h5;obtain⟨rfl,h6⟩:=h5;split at h6
    ·exact Ep mx (G.calm h0) (sE a h4 G) (G.gl h2) hb (aV h3)
    ·cases h6
   ·cases h5
  ·cases h
 |.comp fz N js tg it cond y_,c,e,X,E2,h,G=>by
  unfold okE at h;split at h
  ·simp only[IV,Je]at h;obtain⟨⟨⟨⟨⟨⟨⟨⟨h0,rfl⟩,ht⟩,h1⟩,h2⟩,h3⟩,h4⟩,h5⟩,h6⟩:=h;have h_:=h2;rw[<-G.sc,<-G.N]at h_;exact zI h_ (G.calm h0) (sI it h3 G ht) (λC s2 H2 fp pn=>sG tg h4 (G.comp h2 C s2 H2 fp pn)) (λC s2 H2 fp pn=>sTO cond h5 (G.comp h2 C s2 H2 fp pn)) (λC s2 H2 fp pn=>sE y_ h6 (G.comp h2 C s2 H2 fp pn)) (vv h1) fz
  ·cases h
 |.fld a f,c,e,X,E2,h,G=>by
  unfold okE at h;split at h
  ·simp only[IV,Je]at h;obtain⟨⟨rfl,h1⟩,h2⟩:=h;exact C4 G.kok (sE a h2 G) (gT h1)
  ·cases h
 |.make fz i es,c,e,X,E2,h,G=>by
  unfold okE at h;split at h
  ·rename_i x px args pos;simp only[IV,Bool.not_eq_true']at h;obtain⟨⟨⟨⟨h0,h1⟩,h2⟩,h3⟩,h4⟩:=h;obtain⟨m1,hi⟩:=G.knm i x (Jl.mp h1);obtain⟨k,hr,hF⟩:=G.fns h0;have hA:=sA es h4 G;cases q:W.ini i with
   |none=>exact absurd q (by obtain⟨f,hf⟩:=G.kin i hi;rw[hf];exact λz=>nomatch z)
   |some f=>
    have F:=hF f (G.kfi i f hi q);cases args with
    |nil=>
     cases es with
     |nil=>exact (wP (B:=W.toWB) (fz:=fz) (G.gl h2) m1 h3 ((G.kok i hi).mkr f q) F hr G.pass).imp λZ H Q2 j_=>ex9 j_ λf_ M Q E3 rm ds lk hh c_=>⟨f_,M,Q,E3,rm,ds,lk,by simp only[wpE,wpA,q,dM]at hh;exact hh.2,c_⟩
     |cons _ _=>simp[okA]at h4
    |cons z zs=>
     cases es with
     |nil=>simp[okA]at h4
     |cons ea er=>
      obtain⟨_,_,e1,n1,_,n3⟩:=cF h4;cases e1;have Qh:PA X (z::zs) (dY X.K W.cls E2 λZ M Q E=>wpA W (.cons ea er) Z M (λxs M1=>i<W.nk/\Q xs M1) E):=hA.imp λZ H Q2 j_=>ex9 j_ λf_ M Q E3 rm ds lk hh c_=>⟨f_,M,_,E3,rm,ds,lk,hh,λvs H' xs M' a b c d=>c_ vs H' xs M' a b c d.2⟩
      exact (zX (B:=W.toWB) (fz:=fz) (G.gl h2) m1 h3 ((G.kok i hi).mkr f q) F hr G.pass Qh (aV n1) (cJ _ n3)).imp λZ H Q2 j_=>ex9 j_ λf_ M Q E3 rm ds lk hh c_=>⟨f_,M,Q,E3,rm,ds,lk,by simp only[wpE,q,dM]at hh;exact hh,c_⟩
  ·cases h
 |.x_ a m es,c,e,X,E2,h,G=>by
  unfold okE at h;split at h
  ·rename_i x n ap args cp;simp only[IV,Je]at h;obtain⟨⟨⟨⟨⟨⟨h0,rfl⟩,h1⟩,h2⟩,h3⟩,h4⟩,h5⟩:=h;obtain⟨k,hr,hF⟩:=G.fns h0;have hA:=sA es h5 G;cases args with
   |nil=>
    cases es with
    |nil=>exact wV (B:=W.toWB) G.kok (λi m f hi q=>hF f (G.kfm i m f hi q)) (hr.mono (JZ k)) G.pass (sE a h4 G) (gT h1) h2
    |cons _ _=>simp[okA]at h5
   |cons z zs=>
    cases es with
    |nil=>simp[okA]at h5
    |cons ea er=>
     obtain⟨_,_,e1,n1,_,n3⟩:=cF h5;cases e1;exact Bu (B:=W.toWB) G.kok (λi m f hi q=>hF f (G.kfm i m f hi q)) (hr.mono (JZ k)) G.pass (sE a h4 G) hA (gT h1) h2 h3 (aV n1) (cJ _ n3)
  ·cases h
 |.ini i es,c,e,X,E2,h,G=>by
  unfold okE at h;split at h
  ·rename_i x px n ap args cp;simp only[IV,Je,Bool.not_eq_true']at h;obtain⟨⟨⟨⟨⟨⟨⟨⟨h0,rfl⟩,h1⟩,h2⟩,h3⟩,h4⟩,h5⟩,h6⟩,h7⟩:=h;obtain⟨m1,hi⟩:=G.knm i x (Jl.mp h1);obtain⟨k,hr,hF⟩:=G.fns h0;have hA:=sA es h7 G;cases args with
   |nil=>cases h6
   |cons z zs=>
    cases es with
    |nil=>simp[okA]at h7
    |cons ea er=>
     obtain⟨_,_,e1,n1,_,n3⟩:=cF h7;cases e1;cases q:W.ini i with
     |none=>exact absurd q (by obtain⟨f,hf⟩:=G.kin i hi;rw[hf];exact λz=>nomatch z)
     |some f=>
      have Qh:PA X (z::zs) (dY X.K W.cls E2 λZ M Q E=>wpA W (.cons ea er) Z M (λxs M1=>i<W.nk/\Q xs M1) E):=hA.imp λZ H Q2 j_=>ex9 j_ λf_ M Q E3 rm ds lk hh c_=>⟨f_,M,_,E3,rm,ds,lk,hh,λvs H' xs M' a b c d=>c_ vs H' xs M' a b c d.2⟩
      exact (DQ (B:=W.toWB) (G.gl h2) m1 h3 ((G.kok i hi).ci f q) (hF f (G.kfi i f hi q)) (hr.mono (JZ k)) G.pass Qh h4 h5 (aV n1) (cJ _ n3)).imp λZ H Q2 j_=>ex9 j_ λf_ M Q E3 rm ds lk hh c_=>⟨f_,M,Q,E3,rm,ds,lk,by simp only[wpE,q,dM]at hh;exact hh,c_⟩
  ·cases h
 |.Lw a j,c,e,X,E2,h,G=>by
  unfold okE at h;split at h
  ·simp only[IV,Je,Jl,Bool.not_eq_true']at h;obtain⟨⟨⟨⟨⟨⟨rfl,h1⟩,h2⟩,h3⟩,h4⟩,h5⟩,h6⟩:=h;exact Ck (B:=W.toWB) G.kok (sE a h6 G) (G.gl h2) (G.bi _ (by decide +kernel)) (G.gl h3) (G.knm _ _ h1).1 h4 (aV h5)
  ·cases h
 |.glo k,c,e,X,E2,h,G=>by
  unfold okE at h;split at h
  ·rename_i x px;simp only[IV,Bool.not_eq_true']at h;obtain⟨u,v,m1,r,hd⟩:=G.glo k x (Jl.mp h.1.1);exact Ci (G.gl h.1.2) m1 r h.2 hd
  ·cases h
 |.bm b o es,c,e,X,E2,h,G=>by
  unfold okE at h;split at h
  ·rename_i x n ap args cp;simp only[IV,Je]at h;obtain⟨⟨⟨⟨⟨⟨h0,rfl⟩,h1⟩,h2⟩,h3⟩,h4⟩,h5⟩:=h;have hA:=sA es h5 G;cases args with
   |nil=>
    cases es with
    |nil=>exact uS G.un (sE o h4 G) (gT h1) h2
    |cons _ _=>simp[okA]at h5
   |cons z zs=>
    cases es with
    |nil=>simp[okA]at h5
    |cons ea er=>
     obtain⟨_,_,e1,n1,_,n3⟩:=cF h5;cases e1;exact wp G.un (sE o h4 G) hA (gT h1) h3 h2 (aV n1) (cJ _ n3)
  ·cases h
 |.Ku tk,c,e,X,E2,h,G=>by
  unfold okE at h;split at h
  ·exact By tk
  ·cases h
 |.rep fz a b,c,e,X,E2,h,G=>by
  unfold okE at h;split at h
  ·simp only[IV,Je]at h;obtain⟨⟨rfl,h1⟩,h2⟩:=h;exact Dv (sE a h1 G) (sE b h2 G)
  ·cases h
 |.LL fz a b,c,e,X,E2,h,G=>by
  unfold okE at h;split at h
  ·simp only[IV,Je]at h;obtain⟨⟨⟨⟨⟨⟨⟨⟨h0,rfl⟩,h1⟩,rfl⟩,h2⟩,h3⟩,h4⟩,h5⟩,h6⟩:=h;exact A2 (G.calm h0) (G.gl h1) (G.bi _ (by decide +kernel)) (G.gl h2) (G.bi _ (by decide +kernel)) (sE a h5 G) (sE b h6 G) (by rw[aV h3,aV h4];rfl) (aV h4)
  ·cases h
theorem sT:∀(it:IT) {c:Cfg}{e:Expr}{X:Cx}{E2:St->XK},okT it c e=true->Good c W X E2->PT X e (de X.K W.cls E2 (wpT W it))/\(GF it=true->PW X e (de X.K W.cls E2 (wpT W it)))
 |.val a,c,e,X,E2,h,G=>by
  unfold okT at h;simp only[IV]at h;exact⟨Dk (sE a h.2 G) (rH h.1),λz=>nomatch z⟩
 |.cmp op a b,c,e,X,E2,h,G=>by
  unfold okT at h;split at h
  ·simp only[IV,Je]at h;obtain⟨⟨⟨rfl,h0⟩,h1⟩,h2⟩:=h;exact⟨Cf (mW G.un op) (sE a h1 G) (sE b h2 G) (lZ h0),λz=>nomatch z⟩
  ·cases h
 |.and a b,c,e,X,E2,h,G=>by
  unfold okT at h;split at h
  ·rename_i op x y r p;simp only[IV,Je]at h;obtain⟨⟨rfl,h1⟩,h2⟩:=h;have hA:=(sT a h1 G).1;cases r with
   |nil=>exact⟨(q9 hA (qS (sT b h2 G).1)).pt,λ_=>q9 hA (qS (sT b h2 G).1)⟩
   |cons z r=>
    have hB:=(sT b h2 G).2;cases b with
    |and b1 b2=>exact⟨(q9 hA (hB rfl)).pt,λ_=>q9 hA (hB rfl)⟩
    |val b1=>simp[okT,qC]at h2
    |_=>simp[okT]at h2
  ·cases h
 |.or a b,c,e,X,E2,h,G=>by
  unfold okT at h;split at h
  ·rename_i op x y r p;simp only[IV,Je]at h;obtain⟨⟨rfl,h1⟩,h2⟩:=h;have hA:=(sT a h1 G).1;cases r with
   |nil=>exact⟨(xX hA (uA (sT b h2 G).1)).pt,λ_=>xX hA (uA (sT b h2 G).1)⟩
   |cons z r=>
    have hB:=(sT b h2 G).2;cases b with
    |or b1 b2=>exact⟨(xX hA (hB rfl)).pt,λ_=>xX hA (hB rfl)⟩
    |val b1=>simp[okT,qC]at h2
    |_=>simp[okT]at h2
  ·cases h
 |.not a,c,e,X,E2,h,G=>by
  unfold okT at h;split at h
  ·simp only[IV,Je]at h;obtain⟨rfl,h1⟩:=h;exact⟨Dq (sT a h1 G).1,λz=>nomatch z⟩
  ·cases h
theorem sA:∀(ia:IA) {c:Cfg}{es:List Expr}{X:Cx}{E2:St->XK},okA ia c es=true->Good c W X E2->PA X es (dY X.K W.cls E2 (wpA W ia))
 |.nil,c,es,X,E2,h,G=>by
  simp only[okA]at h;cases es with
  |nil=>exact B8
  |cons _ _=>cases h
 |.cons a r,c,es,X,E2,h,G=>by
  obtain⟨x,xs,rfl,h1,h2,h3⟩:=cF h;exact zt (sE a h2 G) (sA r h3 G) (aV h1)
theorem sO:∀(io:IO) {c:Cfg}{o:Option Expr}{X:Cx}{E2:St->XK},okO io c o=true->Good c W X E2->PO X o (ss X.K W.cls E2 (wpO W io))
 |.no,c,o,X,E2,h,G=>by
  simp only[okO]at h;cases o with
  |none=>exact Gj
  |some _=>cases h
 |.yes a,c,o,X,E2,h,G=>by
  cases o with
  |none=>simp[okO]at h
  |some x=>
   simp only[okO]at h;exact D9 (sE a h G)
theorem sTO:∀(io:ITO) {c:Cfg}{es:List Expr}{X:Cx}{E2:St->XK},xE io c es=true->Good c W X E2->PIf X es (de X.K W.cls E2 (fK W io))
 |.no,c,es,X,E2,h,G=>by
  simp only[xE]at h;cases es with
  |nil=>exact λa_ s Z H Q2 I ⟨f_,M,Q,E3,rm,ds,lk,h,c_⟩=>xJ a_ s Z H Q2 I (c_ _ _ _ rm (.refl _) h)
  |cons _ _=>cases h
 |.yes t,c,es,X,E2,h,G=>by
  unfold xE at h;split at h
  ·exact xl (sT t h G).1
  ·cases h
theorem sI:∀(ii:II) {c:Cfg}{e:Expr}{X:Cx}{E2:St->XK}{tg:Expr},okI ii c e=true->Good c W X E2->uL ii tg=true->PI X tg e (l7 X.K W.cls E2 (wpI W ii))
 |.seq a,c,e,X,E2,tg,h,G,_=>by
  unfold okI at h;exact CC (sE a h G)
 |.enum a,c,e,X,E2,tg,h,G,ht=>by
  unfold okI at h;split at h
  ·simp only[IV,Je]at h;obtain⟨⟨⟨rfl,h1⟩,h2⟩,h3⟩:=h;have hA:=sE a h3 G;cases tg<;>first
    |exact Bh (G.gl h1) (G.bi _ (by decide +kernel)) hA (aV h2)
    |(simp[uL]at ht)
  ·cases h
 |.zip a b,c,e,X,E2,tg,h,G,ht=>by
  unfold okI at h;split at h
  ·simp only[IV,Je]at h;obtain⟨⟨⟨⟨⟨rfl,h1⟩,h2⟩,h3⟩,h4⟩,h5⟩:=h;have hA:=sE a h4 G;have hB:=sE b h5 G;cases tg<;>first
    |exact Dr (G.gl h1) (G.bi _ (by decide +kernel)) hA hB (by rw[aV h2,aV h3];rfl) (aV h3)
    |(simp[uL]at ht)
  ·cases h
 |.LN a,c,e,X,E2,tg,h,G,_=>by
  unfold okI at h;split at h
  ·simp only[IV,Je]at h;obtain⟨⟨⟨rfl,h1⟩,h2⟩,h3⟩:=h;exact C3 (G.gl h1) (G.bi _ (by decide +kernel)) (sE a h3 G) (aV h2)
  ·cases h
 |.KD a,c,e,X,E2,tg,h,G,_=>by
  unfold okI at h;split at h
  ·simp only[IV,Je]at h;obtain⟨⟨⟨rfl,h1⟩,h2⟩,h3⟩:=h;exact Fu (G.gl h1) (G.bi _ (by decide +kernel)) (sE a h3 G) (aV h2)
  ·cases h
end
end
theorem t9{X:Cx}(G:Good c W X E2){pos px spos:Pos}(h:swB c scope x px.line pos.line=true) :
  swapsWith (.ListComp el gs scope pos) (some (.Name x px)) spos.line X.env=pure true:=by
 unfold swB at h;simp only[IV]at h;have h1:X.env.scope.kind=.function:=by rw[G.sc];exact Jl.mp h.1.1.1
 have h2:X.env.kindOf x=some .local:=by show X.env.scope.names.lookup x=_;rw[G.sc];exact Jl.mp h.1.1.2
 have hb:(X.env.blockKind == .function)=true:=by
  unfold Env.blockKind;rw[h1];rfl
 show (pure (X.env.blockKind == .function&&X.env.kindOf x == some .local&&px.line == pos.line&&!(scope.names.any λ(n,k)=>n == x&&(k == .local||k == .cell))):Sem Bool)=pure true
 rw[hb,h2,h.1.2,h.2];rfl
theorem Bb{c:Cfg}{X:Cx}(G:Good c W X E2){spos:Pos}(h:(c.sc.names.lookup x == some .cell)=true) :
  swapsWith (.ListComp el gs scope pos) (some (.Name x px)) spos.line X.env=pure false:=by
 have h2:X.env.kindOf x=some .cell:=by show X.env.scope.names.lookup x=_;rw[G.sc];exact Jl.mp h
 show (pure (X.env.blockKind == .function&&X.env.kindOf x == some .local&&px.line == pos.line&&!(scope.names.any λ(n,k)=>n == x&&(k == .local||k == .cell))):Sem Bool)=pure false
 rw[h2,show ((some NameKind.cell:Option NameKind) == some .local)=false from rfl,Bool.and_false];rfl
theorem wu{c:Cfg}(h:swB c scope x a b=true):c.sc.names.lookup x=some .local:=by
 unfold swB at h;simp only[IV,Jl]at h;exact h.1.1.2
section
variable {W:WC}
theorem uJ{fz:Bool}{N:List Str}{js:List (Option Nat)}{tg:ITg}{it:II}{cond:ITO}{y_:IE}{c:Cfg}{X:Cx}{E2:St->XK}{i:Nat}{x:Str}{px spos pos:Pos}{el:Expr}{gs:List Comprehension}{scope:Scope}
  (h:okE (.comp fz N js tg it cond y_) c (.ListComp el gs scope pos)=true) (hi:(c.N[i]? == some x)=true) (MW:swB c scope x px.line pos.line=true) (G:Good c W X E2) :
  PS X (.Assign [.Name x px] (.ListComp el gs scope pos) spos) (bM X.K W.cls E2 (wpS W (.set i (.comp fz N js tg it cond y_)))):=by
 have sp:=t9 (spos:=spos) (el:=el) (gs:=gs) G MW;unfold okE at h;split at h
 ·rename_i Uc NA iter ifs as Qi G_ OK;cases OK;simp only[IV,Je]at h;obtain⟨⟨⟨⟨⟨⟨⟨⟨h0,rfl⟩,ht⟩,h1⟩,h2⟩,h3⟩,h4⟩,h5⟩,h6⟩:=h;have h_:=h2;rw[<-G.sc,<-G.N]at h_;exact p9 h_ (G.calm h0) (sI it h3 G ht) (λC s2 H2 fp pn=>sG tg h4 (G.comp h2 C s2 H2 fp pn)) (λC s2 H2 fp pn=>sTO cond h5 (G.comp h2 C s2 H2 fp pn)) (λC s2 H2 fp pn=>sE y_ h6 (G.comp h2 C s2 H2 fp pn)) (vv h1) G.ndX (G.at hi) (by rw[G.sc];exact wu MW) sp fz
 ·cases h
mutual
theorem sS:∀(is:IS) {c:Cfg}{s:Stmt}{X:Cx}{E2:St->XK},okS is c s=true->Good c W X E2->PS X s (bM X.K W.cls E2 (wpS W is))
 |.set i a,c,s,X,E2,h,G=>by
  unfold okS at h;split at h
  ·simp only[IV,Bool.or_eq_true]at h;obtain⟨⟨⟨h1,h2⟩,h3⟩,h4⟩:=h;obtain⟨l1,l2⟩:=G.loc h2;rcases h4 with h4|h4
   ·exact yB G.ndX (G.at h1) l1 (sE a h3 G) (mK h4) l2
   ·split at h4
    ·rcases Bool.or_eq_true_iff.mp h4 with h4|h4
     ·exact uJ h3 h1 h4 G
     ·exact yB G.ndX (G.at h1) l1 (sE _ h3 G) (Bb G h4) l2
    ·cases h4
  ·cases h
 |.expr a,c,s,X,E2,h,G=>by
  unfold okS at h;split at h
  ·simp only[IV]at h;exact BL (sE a h.2 G) (mK h.1)
  ·cases h
 |.ret a,c,s,X,E2,h,G=>by
  unfold okS at h;split at h
  ·exact DN (sE a h G)
  ·cases h
 |.dead,c,s,X,E2,h,G=>zV
 |.ifs t a b,c,s,X,E2,h,G=>by
  unfold okS at h;split at h
  ·simp only[IV]at h;exact FH (sT t h.1.1 G).1 (sSs a h.1.2 G) (sSs b h.2 G)
  ·cases h
 |.Kh tg it body,c,s,X,E2,h,G=>by
  unfold okS at h;split at h
  ·simp only[IV]at h;obtain⟨⟨⟨⟨⟨⟨h1,ht⟩,h2⟩,h3⟩,h4⟩,h5⟩,h6⟩:=h;exact Cp (G.own h1).1 (G.calm h2) (sI it h5 G ht) (sG tg h4 G) (sSs body h6 G) (vv h3)
  ·cases h
 |.KG k es,c,s,X,E2,h,G=>by
  unfold okS at h;split at h
  ·rename_i x px args cp pos;simp only[IV,Bool.not_eq_true']at h;obtain⟨⟨⟨⟨⟨⟨⟨h0,h1⟩,h2⟩,h3⟩,h4⟩,h5⟩,h6⟩,h7⟩:=h;obtain⟨_,E,hE,hR,Rv,NB⟩:=G.own h1;obtain⟨m1,_,_⟩:=G.exc k x (Jl.mp h3);obtain⟨f,hf⟩:=J4.mp h0;obtain⟨Tg,fI,fd,ps,xi,bd,F⟩:=G.xi k f hf;have hA:=sA (W:=W) es h7 G;cases args with
   |nil=>cases h6
   |cons z zs=>
    cases es with
    |nil=>simp[okA]at h7
    |cons ea er=>
     obtain⟨_,_,e1,n1,_,n3⟩:=cF h7;cases e1;exact uD Rv hE (G.calm h2) (G.gl h4) m1 xi F NB bd Tg hA h5 (aV n1) (cJ _ n3)
  ·cases h
 |.raise k es,c,s,X,E2,h,G=>by
  unfold okS at h;split at h
  ·rename_i x px args cp pos;simp only[IV,Bool.not_eq_true']at h;obtain⟨⟨⟨⟨⟨⟨⟨h0,h1⟩,h2⟩,h3⟩,h4⟩,h5⟩,h6⟩,h7⟩:=h;obtain⟨_,E,hE,hR,Rv,NB⟩:=G.own h1;obtain⟨m1,m2,_⟩:=G.exc k x (Jl.mp h3);have hA:=sA (W:=W) es h7 G;cases args with
   |nil=>cases h6
   |cons z zs=>
    cases es with
    |nil=>simp[okA]at h7
    |cons ea er=>
     obtain⟨_,_,e1,n1,_,n3⟩:=cF h7;cases e1;exact vZ hR hE (G.calm h2) (G.gl h4) m1 (m2 (Option.isNone_iff_eq_none.mp h0)) hA h5 (aV n1) (cJ _ n3)
  ·cases h
 |.Lo body hs,c,s,X,E2,h,G=>by
  unfold okS at h;split at h
  ·rename_i b Kr pos;simp only[IV]at h;obtain⟨⟨⟨h1,h2⟩,h3⟩,h4⟩:=h;obtain⟨t1,t2,t3⟩:=G.tr h1;have hH:=sHs hs h4 G;cases Kr with
   |nil=>cases h2
   |cons h0 hr=>exact Dl t1 t2 t3 hH λpn V' Ov hP=>sSs body h3 (G.trying hP)
  ·cases h
 |.app o a,c,s,X,E2,h,G=>by
  unfold okS at h;split at h
  ·simp only[IV,Je]at h;obtain⟨⟨⟨⟨⟨rfl,h1⟩,h2⟩,h3⟩,h4⟩,h5⟩:=h;exact B7 (sE o h4 G) (sE a h5 G) (zF h1) h2 (aV h3)
  ·cases h
 |.del i,c,s,X,E2,h,G=>by
  unfold okS at h;cases h
 |.Ke o f a,c,s,X,E2,h,G=>by
  unfold okS at h;split at h
  ·simp only[IV,Je]at h;obtain⟨⟨⟨rfl,h1⟩,h2⟩,h3⟩:=h;exact A7 (B:=W.toWB) G.kok (sE o h2 G) (sE a h3 G) (mK h1)
  ·cases h
 |.v_ o i a,c,s,X,E2,h,G=>by
  unfold okS at h;split at h
  ·simp only[IV]at h;obtain⟨⟨⟨⟨h0,h1⟩,h2⟩,h3⟩,h4⟩:=h;exact xB G.un (sE o h2 G) (sE i h3 G) (sE a h4 G) (AG h0) (by unfold swapsWithSole;exact mK h1) (by rfl) (by rfl)
  ·cases h
theorem sSs:∀(is:ISs) {c:Cfg}{Lx:List Stmt}{X:Cx}{E2:St->XK},jK is c Lx=true->Good c W X E2->PSs X Lx (bM X.K W.cls E2 (aP W is))
 |.nil,c,Lx,X,E2,h,G=>by
  simp only[jK]at h;cases Lx with
  |nil=>exact Do
  |cons _ _=>cases h
 |.cons s r,c,Lx,X,E2,h,G=>by
  unfold jK at h;split at h
  ·exact C7 (sSs r h G)
  ·split at h
   ·simp only[IV]at h;exact BJ (t:=wpS W s) (u:=aP W r) (sS s h.1 G) (sSs r h.2 G)
   ·cases h
theorem sHs:∀(ih:IHs) {c:Cfg}{hs:List ExceptHandler}{X:Cx}{E2:St->XK},u4 ih c hs=true->Good c W X E2->PH X hs (pG X.K W.cls (wpH W ih))
 |.nil,c,hs,X,E2,h,G=>by
  simp only[u4]at h;cases hs with
  |nil=>exact BX
  |cons _ _=>cases h
 |.cons k nm body r,c,hs,X,E2,h,G=>by
  unfold u4 at h;split at h
  ·rename_i x px O3 Li hp aC;simp only[IV,Bool.not_eq_true']at h;obtain⟨⟨⟨⟨⟨⟨h1,h2⟩,h3⟩,h4⟩,h5⟩,h6⟩,h7⟩:=h;obtain⟨m1,m2,m3⟩:=G.exc k x (Jl.mp h1);have hB:=λv=>sSs body h6 (G.caught v)
   have hR:=sHs r h7 G;cases Li with
   |nil=>cases h5
   |cons b0 Kj=>
    cases nm with
    |none=>
     cases O3 with
     |none=>exact CD (G.gl h2) m1 m3 hB hR h3
     |some n=>cases h4
    |some j=>
     cases O3 with
     |none=>cases h4
     |some n=>
      simp only[IV,Jl]at h4;exact C5 (G.gl h2) m1 m3 G.ndX (by rw[G.N];exact h4.1) (by rw[G.sc];exact h4.2) hB hR h3
  ·cases h
end
end
theorem cW:∀{l:List (Nat×Nat)}{m f:Nat},l.lookup m=some f->(m,f)∈l
 |[],_,_,h=>by cases h
 |(a,b)::r,m,f,h=>by
  rw[JK]at h;by_cases e:m=a
  ·subst e;simp at h;subst h;exact Jd
  ·have:(m == a)=false:=by simpa using e
   rw[this]at h;exact IX _ (cW h)
theorem ixc{α:Type}{P:Nat->α->Prop}{a:α}{r:List α}(h0:P 0 a)(hr:∀i x,r[i]?=some x->P (i+1) x):∀i x,(a::r)[i]?=some x->P i x
 |0,x,h=>by cases h;exact h0
 |i+1,x,h=>hr i x h
theorem ixn{α:Type}{P:Nat->α->Prop}:∀i x,([]:List α)[i]?=some x->P i x:=λi x h=>by simp at h
theorem us0{P:List Value->Prop}(h:P []):∀us:List Value,us.length=0->P us:=λus e=>(List.eq_nil_of_length_eq_zero e)▸h
theorem usS{n:Nat}{P:List Value->Prop}(h:∀a,∀us:List Value,us.length=n->P (a::us)):∀us:List Value,us.length=n+1->P us:=λus e=>by
 cases us with
 |nil=>cases e
 |cons a r=>exact h a r (Nat.succ.inj e)
structure FB where
 np:Nat
 nl:Nat
 cl:Bool
 body:ISs
 df:List Int:=[]
noncomputable def FB.full(fb:FB)(ds:List D):List D:=ds++(fb.df.drop (ds.length+fb.df.length-fb.np)).map D.int
noncomputable def pY(nl:Nat)(ds:List D):St3:=ds.map some++List.replicate (nl-ds.length) none
def aa(T:List FB)(B:WB):Nat->Nat->List D->MH->VK3->XN->Prop
 |0,_,_,_,_,_=>False
 |n+1,f,ds,M,Q,E=>match T[f]? with
  |none=>False
  |some fb=>(fb.full ds).length=fb.np/\aP {toWB:=B,call:=aa T B n} fb.body {nx:=λ_ M'=>Q .i_ (kp fb.cl M M'),rt:=λv M'=>Q v (kp fb.cl M M')} (λ_ i M'=>E i (ar M M')) (pY fb.nl (fb.full ds)) M
structure FL where
 name:Str
 qual:Str
 glob:Bool
 cl:Bool
 st:Stmt
 N:List Str
 ps:List Str
 body:ISs
 gn:Str:=name
 df:List Int:=[]
noncomputable def mj(N ps:List Str)(sc:Scope):Bool:=(sc.kind == .function)&&!sc.isCoroutine&&!sc.isGenerator&&decide N.Nodup&&(N.take ps.length == ps)&&
 ps.all (λx=>sc.names.lookup x == some .local||sc.names.lookup x == some .cell)&&sc.names.all (λy=>y.2 != .free)
theorem lS(h:mj N ps sc=true):FnScope N ps sc:=by
 unfold mj at h;simp only[IV,Bool.not_eq_true',Jl,Je,JB,Bool.or_eq_true,bne_iff_ne]at h;obtain⟨⟨⟨⟨⟨⟨h1,h2⟩,h3⟩,h4⟩,h5⟩,h6⟩,h7⟩:=h;exact⟨h1,h2,h3,h4,h5,h6,h7⟩
structure NM where
 exc:List Str
 kln:List Str
 gln:List Str
 xin:List (Nat×Nat)
noncomputable def FL.cfg(l:FL)(fns:List (Option Str×Nat))(n:NM):Cfg:={N:=l.N,sc:=aw l.st,fns:=fns,exc:=n.exc,kln:=n.kln,gln:=n.gln,xin:=n.xin,calm:=true,own:=true,tr:=true,fn:=true}
noncomputable def FL.fb(l:FL):FB:=⟨l.ps.length,l.N.length,l.cl,l.body,l.df⟩
noncomputable def FL.ok(l:FL)(fns:List (Option Str×Nat))(n:NM):Bool:=mj l.N l.ps (aw l.st)&&jK l.body (l.cfg fns n) (bn l.st)
noncomputable def gm(L:List FL):List (Option Str×Nat):=L.map λl=>(if l.glob=true then some l.gn else none,l.ps.length)
structure FunD (K:Kc)(x qual:Str)(st:Stmt)(f:Addr)(fd:FuncData):Prop where
 ex:∃(oc:Value) (od:Option Addr) (dV kV doc pm:Value) (an:Option Addr) (Kd ct:Value) (KW:Array (Option Value)),
  fd=PySem.W.fnOf x qual (bV st) (bn st) (aw st) dV kV doc pm an Kd ct/\K.lookup f=some ⟨oc,od,.func fd,KW⟩/\PySem.W.codeIn K Kd qual=true
 kp:PySem.W.keepIn K (.ref f)=true
structure Top (K:Kc)(mg:Str->Option Value)(L:List FL)(n:NM)(B:WB):Prop where
 ok:∀l∈L,l.ok (gm L) n=true
 fn:∀f l,L[f]?=some l->∃fd,FunD K l.name l.qual l.st (B.d_ f) fd/\(l.glob=true->mg l.gn=some (.ref (B.d_ f)))/\(l.df=[]->∀us:List Value,us.length=l.ps.length->bindArgs fd ⟨us,[]⟩=pure (l.ps.zip us))/\∃dv,Vals (l.df.map V.int) dv/\∀j,Binds K fd l.ps (dv.drop j)
 exi:∀i,i<B.ne->ExcI K (B.cls i)/\PySem.W.kitOne K (.ref (B.cls i)) (.type "ValueError")=some true/\∀j x,n.exc[j]?=some x->PySem.W.kitOne K (.ref (B.cls i)) (.ref (B.cls j))=some (B.sub i j)
 exc:∀i x,n.exc[i]?=some x->mg x=some (.ref (B.cls i))/\(n.xin.lookup i=none->xT K (B.cls i))/\∀j,j<B.ne->PySem.W.exmOne K (.ref (B.cls j)) (.ref (B.cls i))=some (B.sub j i)
 kok:∀i,i<B.nk->KOk K B B.d_ i
 kin:∀i,i<B.nk->∃f,B.ini i=some f
 kfi:∀i f,i<B.nk->B.ini i=some f->f<L.length
 kfm:∀i m f,i<B.nk->B.mth i m=some f->f<L.length
 knm:∀i x,n.kln[i]?=some x->mg x=some (.ref (B.b_ i))/\i<B.nk
 glo:∀k x,n.gln[k]?=some x->∃u v,mg x=some u/\RelV v u/\∀H,Den K H (B.glo k) v
 bi:∀x∈biNames,mg x=none
 dig:Bo K
 xi:∀i f,n.xin.lookup i=some f->B.xin i=some f/\∃fI fd ps,XIni K (B.cls i) fI (fnm f)/\Binds K fd ps []/\∀(P:Program)(w:World)(base:Heap),FnOk P w K mg base (CX1 P w) 1 fI fd ps (i7 (cpF f) K (B.cls i) (fnm f))
 xn:∀i f,i<B.ne->B.xin i=some f->NoAttr K (B.cls i) (fnm f)
section
variable {w:World}{K:Kc}{L:List FL}{B:WB}
noncomputable def spF(K:Kc)(cls:Nat->Addr)(l:FL)(t3:List D->MH->VK3->XN->Prop):Sp:=λvs H Q E=>vs.length=l.ps.length/\spX K cls t3 vs H Q E
theorem FB.full_at{fb:FB}{ds:List D}(h:ds.length=fb.np):fb.full ds=ds:=by
 unfold FB.full;rw[List.drop_of_length_le (by omega),List.map_nil,JV]
theorem k9:∀{vs:List V}{us:List Value} (j:Nat),Vals vs us->Vals (vs.drop j) (us.drop j)
 |_,_,0,h=>h
 |_,_,_+1,.nil=>.nil
 |_,_,j+1,.cons _ h=>k9 j h
theorem Cr{l:FL}(hl:L[f]?=some l){dv:List Value}(hv:Vals (l.df.map V.int) dv)(hb:∀j,Binds K fd l.ps (dv.drop j)):BdT K B.cls fd l.ps (aa (L.map FL.fb) B n f) (spF K B.cls l (aa (L.map FL.fb) B n f)):=by
 rintro vs H Q E ⟨ds,M,Q3,E3,dl,rm,h,c_,lk⟩;cases n with
 |zero=>exact h.elim
 |succ n=>
  have hT:(L.map FL.fb)[f]?=some l.fb:=by rw[JJ,hl];rfl
  have h0:=h;simp only[aa,hT]at h0;have e:=h0.1;have u_:=dl.length;refine⟨(l.df.map V.int).drop (ds.length+l.df.length-l.ps.length),dv.drop (ds.length+l.df.length-l.ps.length),k9 _ hv,hb _,?_,?_⟩
  ·have e2:(l.fb.full ds).length=l.ps.length:=e;unfold FB.full at e2;rw[JG,Jh]at e2;rw[JG,List.length_drop,Jh,<-u_];rw[List.length_drop]at e2;exact e2
  ·refine⟨l.fb.full ds,M,Q3,E3,?_,rm,?_,c_,lk⟩
   ·unfold FB.full;rw[<-List.map_drop];exact dl.append DenL.of_int
   ·simp only[aa,hT];rw[FB.full_at e];exact h0
theorem tW(T:Top K mg L nm B):∀(n f:Nat)(l:FL),L[f]?=some l->∀(fd:FuncData),FunD K l.name l.qual l.st (B.d_ f) fd->FnOk P w K mg base (CX1 P w) (2*n+2) (B.d_ f) fd l.ps (spF K B.cls l (aa (L.map FL.fb) B n f)):=by
 intro n
 induction n with
 |zero=>
  intro f l hl fd F;exact⟨λvs H Q E h=>h.1,λA outer s H args us vs Q E hr e0 hb r ⟨_,_,_,_,_,_,_,h,_⟩=>h.elim⟩
 |succ n ih=>
  intro f l hl fd F;have hT:(L.map FL.fb)[f]?=some l.fb:=by rw[JJ,hl];rfl
  have hm:l∈L:=Jy hl;have O4:=T.ok l hm;unfold FL.ok at O4;rw[IV]at O4;have S:=lS O4.1;obtain⟨oc,od,dV,kV,doc,pm,an,Kd,ct,KW,rfl,lk,Kx⟩:=F.ex;have un:∀ds M Q E,aa (L.map FL.fb) B (n+1) f ds M Q E->ds.length=l.ps.length->aP {toWB:=B,call:=aa (L.map FL.fb) B n} l.body {nx:=λ_ M'=>Q .i_ (kp l.cl M M'),rt:=λv M'=>Q v (kp l.cl M M')} (λ_ i M'=>E i (ar M M')) (pY l.N.length ds) M:=λds M Q E h e=>by
   simp only[aa,hT]at h;rw[FB.full_at (fb:=l.fb) e]at h;exact h.2
  show FnOk P w K mg base (CX1 P w) (2*n+3+1) _ _ _ _;refine uP lk Kx S (λvs H Q E h=>?_) λA outer s H vs Q E hr LC=>?_
  ·exact h.1
  ·obtain⟨Nl,ds,M,Q3,E3,dl,rm,h,c_,Th⟩:=LC;have h:=un _ _ _ _ h (by rw[dl.length];exact Nl)
   have len:(gm L).length=L.length:=by unfold gm;rw[Jh]
   have G:Good (l.cfg (gm L) nm) {toWB:=B,call:=aa (L.map FL.fb) B n} (cC (CX1 P w) P w K mg base l.N l.qual (aw l.st) (B.d_ f) Kd A outer s H E) (λ_=>E):=by
    refine⟨rfl,S.nd,rfl,hr.units,λ_=>rfl,λ_ _=>rfl,(λ_ z=>nomatch z),λ_=>⟨Gg,E,rfl,wN,vc,hr.mono (by omega)⟩,λ_=>⟨rfl,rfl,rfl⟩,λ_=>⟨2*n+2,hr,λg hg=>?_⟩,λg x k hg=>?_,T.kok,T.kin,λi g hi q=>?_,λi m g hi q=>?_,T.knm,T.glo,T.exc,T.exi,(λi f hi=>?_),T.xn,T.bi,T.dig,λa_ Z H' s' e NO I hc=>CK a_ Z H' s' e NO I hc⟩
    ·have hg:g<(gm L).length:=hg;rw[len]at hg;obtain⟨Qj,F2,_,_,MC,v2,b2⟩:=T.fn g L[g] (by simp[hg])
     exact⟨Qj,_,_,F2.kp,Cr (by simp[hg]) v2 b2,ih g L[g] (by simp[hg]) Qj F2⟩
    ·have hg:(gm L)[g]?=some (some x,k):=hg;unfold gm at hg;rw[JJ]at hg;cases q:L[g]? with
     |none=>rw[q]at hg;cases hg
     |some l2=>
      rw[q]at hg;obtain⟨Qj,F2,m2,_⟩:=T.fn g l2 q;have e:((if l2.glob=true then some l2.gn else none),l2.ps.length)=(some x,k):=Jn hg
      by_cases z:l2.glob=true
      ·rw[Jc z]at e;cases e;exact m2 z
      ·rw[IY z]at e;cases e
    ·show g<(gm L).length;rw[len];exact T.kfi i g hi q
    ·show g<(gm L).length;rw[len];exact T.kfm i m g hi q
    ·obtain⟨a,fI,Ti,Tj,x3,b3,F3⟩:=T.xi i f hi;exact⟨a,fI,Ti,Tj,x3,b3,F3 P w base⟩
   exact⟨_,sSs l.body O4.2 G,pY l.N.length ds,M,_,_,rm,pL dl,λf_ Z i M' H' t _ s_ q dx xd=>Th i _ H' t (s_.sub λ_ _ z=>lq z) q dx xd,h,
    ⟨λn_ H' w_ M' s_ Kl tm q=>c_ _ _ _ _ nA (s_.sub λ_ _ z=>tX z) tm q,λv H' d M' dv s_ tm q=>c_ _ _ _ _ dv (s_.sub λ_ _ z=>tX z) tm q,λ_ _ _ _ _ _ _ z=>z.elim,λ_ _ _ _ _ _ _ z=>z.elim⟩⟩
end
noncomputable abbrev scr(ns:List Int):D:=.g_ (ns.map D.int)
theorem walkD{l:PySem.W.OpenLaw}{k f:Nat}{q:Program}{loose:List Str}{XP:(Str->Option Value)->Heap->Prop}{YP:World->Heap->Prop}{d:DefRec}{K:Params->Kc}{fl:FL}{x:Str}{L:List FL}{nm:NM}{BB:(Nat->Addr)->(Nat->Addr)->(Nat->Addr)->WB}
  (hn:l.most=some 63) (Px:d.params.defaults=[]) (hr:Room (2*k+2) callerA) (hY:∀(w:World)(h:Heap),YP w h->(K w.params).In h) (hf:L[f]?=some fl) (Mr:fl.ps=[x]) (KC:fl.gn=d.name) (Qc:fl.glob=true)
  (T:∀(w:World)(mg:Str->Option Value)(h:Heap),(K w.params).In h->h.Ns mainGlobals mg->∃cls b_ d_,Top (K w.params) mg L nm (BB cls b_ d_))
  (main:∀(cls b_ d_:Nat->Addr)(ns:List Int),ns.length<=63->aa (L.map FL.fb) (BB cls b_ d_) k f [scr ns] (λ_=>none) (λd _=>d=.bl true) (λ_ _=>False)) (Tn:fl.df=[]:=by rfl) :
  PySem.W.WalkO q loose XP YP l.row.toRowW d [] (λf vs=>PySem.call f vs):=by
 refine Att.attach_call hn Px λw s₀ p_ mg mb fa o pm cd doc a vs ns G Y ho hd Kx Py Md K5 u_ hg=>?_
 have KX:=hY w _ Y;obtain⟨cls,b_,d_,T⟩:=T w mg _ KX G.T.g;obtain⟨fd,F,m1,b1,_⟩:=T.fn f fl hf;have m1:=m1 Qc;rw[KC,Py]at m1;have m1:=Value.ref.inj (Jn m1);subst m1;refine vB (K:=K w.params) (CX:=CX1 l.prog w) (fd:=fd) (x:=x) (sp:=spF (K w.params) (BB cls b_ d_).cls fl (aa (L.map FL.fb) (BB cls b_ d_) k f)) KX G.T.g G.T.b G.T.builtins G.T.nolimit hg Md K5 (Jw u_ (by decide)) hr (λbase kb gb=>by rw[<-Mr];exact tW T k f fl hf fd F) (λs u=>?_) (λH hO hS=>?_) λH e s' h=>?_
 ·have hb:=b1 Tn [u] (by rw[Mr];rfl)
  rw[Mr]at hb;exact .of_eq hb
 ·have sq:SqF (K w.params) H a (ns.map V.int):=by
   cases hk:(K w.params).lookup a with
   |some ob=>
    have e:=KX a ob hk;rw[Md]at e;cases e;exact .inr ⟨vs,_,hk,by rw[K5.length];exact Jw u_ (by decide),iQ K5⟩
   |none=>
    rcases hS with (h|⟨ob,h⟩)|⟨ob,_,_,h,_⟩
    ·rcases hO a with z|⟨o2,xs,z⟩
     ·rw[h]at z;cases z
     ·rw[h]at z;cases z
    ·exact .inl ⟨ob,h⟩
    ·rw[hk]at h;cases h
  refine⟨by rw[Mr];rfl,[scr ns],λ_=>none,λd _=>d=.bl true,λ_ _=>False,.one ⟨a,_,rfl,sq,.of_int⟩,λa o e=>(by cases e),main cls b_ d_ ns u_,λv H' d M' dv _ _ q=>?_,λ_ _ _ _ _ h=>h.elim⟩
  subst q;exact dv
 ·obtain⟨_,_,_,_,_,_,_,_,_,_,_,_,_,he⟩:=h;exact he
theorem Fun.bindsE{K:Kc}{st:Stmt}{ps:List Str}(F:Fun K x qual st f fd)
  (h:∀(kV doc pm:Value)(an:Option Addr)(Kd ct:Value)(us:List Value),us.length=ps.length->bindArgs (PySem.W.fnOf x qual (bV st) (bn st) (aw st) .none kV doc pm an Kd ct) ⟨us,[]⟩=pure (ps.zip us)):∀us:List Value,us.length=ps.length->bindArgs fd ⟨us,[]⟩=pure (ps.zip us):=by
 obtain⟨oc,od,kV,doc,pm,an,Kd,ct,KW,rfl,lk,Kx⟩:=F.ex;exact h kV doc pm an Kd ct
noncomputable def uy(sl pr b:Str)(sc:Scope)(ap cp:Pos):Bool:=(ap.endLine == cp.line)&&(sc.names.lookup b == some .globalImplicit)&&mj [sl,pr] [sl,pr] sc&&
 !(b == ("__debug__" : Str))&&!(sl == ("__debug__" : Str))&&!(pr == ("__debug__" : Str))&&!(sl == ("__classdict__" : Str))&&!(pr == ("__classdict__" : Str))
theorem An{P:Program}{w:World}{K:Kc}{mg:Str->Option Value}{base:Heap}{fI C D:Addr}{name qual:Str}{params:Arguments}{scope:Scope}{body:List Stmt}{kV doc pm Kd ct oc:Value}{an od:Option Addr}{KW:Array (Option Value)}{b sl pr f tx:Str}{j:Nat}{px ap p1 p2 cp p3 p4 p5 p6 p7:Pos}
  (To:body=[.Expr (.Call (.Attribute (.Name b px) "__init__" ap) [.Name sl p1,.Constant (.str tx) j p2] [] cp) p3,.Assign [.Attribute (.Name sl p4) f p5] (.Name pr p6) p7])
  (h:uy sl pr b scope ap cp=true) (lk:K.lookup fI=some ⟨oc,od,.func (PySem.W.fnOf name qual params body scope .none kV doc pm an Kd ct),KW⟩) (Kx:PySem.W.codeIn K Kd qual=true) (hm:mg b=some (.ref D)) (hb:BIni K D)(q:XIni K C fI f) :
  FnOk P w K mg base (CX1 P w) 1 fI (PySem.W.fnOf name qual params body scope .none kV doc pm an Kd ct) [sl,pr] (i7 false K C f):=by
 subst To;unfold uy at h;simp only[IV,Bool.not_eq_true']at h;obtain⟨⟨⟨⟨⟨⟨⟨h7,h8⟩,h9⟩,h10⟩,h11⟩,h12⟩,h13⟩,h14⟩:=h;exact Aa lk Kx (lS h9) (Jl.mp h8) hm h7 hb q h10 h11 h12 h13 h14
end L2
namespace L2
open PySem
noncomputable def oM(K:Kc)(a:Addr):Option FuncData:=match K.lookup a with
 |some ⟨_,_,.func fd,_⟩=>some fd
 |_=>none
noncomputable def fdN(l:FL)(fd:FuncData):FuncData:=PySem.W.fnOf l.name l.qual (bV l.st) (bn l.st) (aw l.st) (if l.df.isEmpty=true then .none else fd.defaults) fd.kwdefaults fd.doc fd.pyModule fd.annotations fd.code fd.closureTuple
noncomputable def fnB(K:Kc)(B:WB)(l:FL)(i:Nat):Bool:=(match oM K (B.d_ i) with
 |some fd=>PySem.W.codeIn K fd.code l.qual
 |none=>false)&&PySem.W.keepIn K (.ref (B.d_ i))&&(!l.glob||PySem.W.nsIn K mainGlobals l.gn == some (some (.ref (B.d_ i))))
theorem xY{K:Kc}(h:oM K a=some fd):∃oc od sl,K.lookup a=some ⟨oc,od,.func fd,sl⟩:=by
 unfold oM at h;split at h
 ·rename_i oc od Ud sl e;cases h;exact⟨oc,od,sl,e⟩
 ·cases h
noncomputable def D7(K:Kc)(C:Addr):Bool:=PySem.W.hasDictIn K C&&PySem.W.findIn K (.ref C) "__getattribute__" == some (some (.builtin "BaseException.__getattribute__"))&&PySem.W.findIn K (.ref C) "__getattr__" == some none&&PySem.W.findIn K (.ref C) "__class__" == some (some (.builtin "object.__class__"))&&PySem.W.mroIn K C (.type "object") == some true&&PySem.W.mroIn K C (.type "BaseException") == some true&&PySem.W.kitOne K (.ref C) (.type "ValueError") == some true
noncomputable def Eh(K:Kc):Bool:=PySem.W.specialIn K (.builtin "object.__class__") "__get__" == some (some (.builtin "getset_descriptor.__get__"))&&PySem.W.takesIn K (.builtin "object.__class__") == some true&&PySem.W.nsIn K cStatics "sys.int_max_str_digits" == some none&&biNames.all λx=>PySem.W.nsIn K mainGlobals x == some none
noncomputable def DJ(K:Kc)(B:WB)(n:NM):Bool:=(List.range B.ne).all (λi=>D7 K (B.cls i)&&(List.range n.exc.length).all λj=>PySem.W.kitOne K (.ref (B.cls i)) (.ref (B.cls j)) == some (B.sub i j)&&PySem.W.exmOne K (.ref (B.cls i)) (.ref (B.cls j)) == some (B.sub i j))&&
 n.exc.zipIdx.all λp=>PySem.W.nsIn K mainGlobals p.1 == some (some (.ref (B.cls p.2)))&&((n.xin.lookup p.2).isSome||PySem.W.excIn K (B.cls p.2) bmV "ValueError.__new__")
noncomputable def kB(K:Kc)(B:WB)(fT:List (List Nat))(mT:List (List (Nat×Nat)))(iT:List Nat)(i:Nat):Bool:=
 PySem.W.plainGet K (B.b_ i) Str.empty&&PySem.W.hasDictIn K (B.b_ i)&&PySem.W.plainOver K (B.b_ i)&&PySem.W.findIn K (.ref (B.b_ i)) "__setattr__" == some (some (.builtin "object.__setattr__"))&&
 (fT.getD i []).all (λf=>PySem.W.findIn K (.ref (B.b_ i)) (fnm f) == some none)&&
 (mT.getD i []).all (λp=>PySem.W.findIn K (.ref (B.b_ i)) (fnm p.1) == some (some (.ref (B.d_ p.2)))&&PySem.W.isFn K (.ref (B.d_ p.2))&&PySem.W.keepIn K (.ref (B.d_ p.2)))&&
 (match iT[i]? with
  |some f=>PySem.W.makesIn K (B.b_ i)&&PySem.W.findIn K (.ref (B.b_ i)) "__init__" == some (some (.ref (B.d_ f)))&&PySem.W.isFn K (.ref (B.d_ f))&&PySem.W.keepIn K (.ref (B.b_ i))&&PySem.W.specialIn K (.ref (B.b_ i)) "__getattribute__" == some (some (.builtin "type.__getattribute__"))&&PySem.W.readsIn K (B.b_ i) (.type "type")&&
   (match PySem.W.findCls K (.ref (B.b_ i)) (.type "type") "__init__" with
    |some (.val (.ref g))=>g == B.d_ f
    |_=>false)
  |none=>false)&&
 PySem.W.findIn K (.ref (B.b_ i)) "__class__" == some (some (.builtin "object.__class__"))&&PySem.W.mroIn K (B.b_ i) (.type "object") == some true&&
 (List.range B.nk).all λj=>PySem.W.kitOne K (.ref (B.b_ i)) (.ref (B.b_ j)) == some (B.ksub i j)
noncomputable def Cq(L m:Nat)(mT:List (List (Nat×Nat)))(iT:List Nat):Bool:=iT.length == m&&iT.all (λf=>decide (f<L))&&mT.all λl=>l.all λp=>decide (p.2<L)
theorem iS(h:(List.range n).all p=true)(hi:i<n):p i=true:=JB.mp h i (List.mem_range.mpr hi)
theorem pB{l:List α}(h:l.zipIdx.all p=true)(hx:l[i]?=some x):p (x,i)=true:=by
 refine JB.mp h (x,i) ?_;rw[List.mem_zipIdx_iff_getElem?];exact hx
theorem CH{K:Kc}{L:List FL}{B:WB}(h:L.all (λl=>l.df.isEmpty)=true):∀(f:Nat)(l:FL),L[f]?=some l->l.df≠[]->∀fd,oM K (B.d_ f)=some fd->∃dv,Vals (l.df.map V.int) dv/\∀j,Binds K fd l.ps (dv.drop j):=λf l hl z=>absurd (List.isEmpty_iff.mp (JB.mp h l (Jy hl))) z
theorem Top.of{K:Kc}{h:Heap}{L:List FL}{n:NM}{B:WB}{fT:List (List Nat)}{mT:List (List (Nat×Nat))}(X:K.In h)(Gn:h.Ns mainGlobals mg)
  (h1:L.all (λl=>l.ok (gm L) n)=true)
  (h2:L.zipIdx.map (λp=>oM K (B.d_ p.2))=L.zipIdx.map λp=>(oM K (B.d_ p.2)).map (fdN p.1))
  (h3:L.zipIdx.all (λp=>fnB K B p.1 p.2)=true)
  (h4:∀(f:Nat)(l:FL),L[f]?=some l->∀us:List Value,us.length=l.ps.length->∀(kV doc pm:Value)(an:Option Addr)(Kd ct:Value),bindArgs (PySem.W.fnOf l.name l.qual (bV l.st) (bn l.st) (aw l.st) .none kV doc pm an Kd ct) ⟨us,[]⟩=pure (l.ps.zip us))
  (h5:Eh K=true) (h6:DJ K B n=true)
  (h7:(List.range B.nk).all (kB K B fT mT iT)=true) (h8:Cq L.length B.nk mT iT=true)
  (hf:∀i f,B.fok i f=(fT.getD i []).contains f) (hm:∀i m,B.mth i m=(mT.getD i []).lookup m) (hi:∀i,B.ini i=iT[i]?)
  (h9:n.kln.zipIdx.all (λp=>PySem.W.nsIn K mainGlobals p.1 == some (some (.ref (B.b_ p.2)))&&decide (p.2<B.nk))=true)
  (glo:∀(k:Nat)(x:Str),n.gln[k]?=some x->∃u v,mg x=some u/\RelV v u/\∀H,Den K H (B.glo k) v)
  (xi:∀i f,n.xin.lookup i=some f->B.xin i=some f/\∃fI fd ps,XIni K (B.cls i) fI (fnm f)/\Binds K fd ps []/\∀(P:Program)(w:World)(base:Heap),FnOk P w K mg base (CX1 P w) 1 fI fd ps (i7 (cpF f) K (B.cls i) (fnm f)))
  (xn:∀i f,i<B.ne->B.xin i=some f->NoAttr K (B.cls i) (fnm f))
  (hd:∀(f:Nat)(l:FL),L[f]?=some l->l.df≠[]->∀fd,oM K (B.d_ f)=some fd->∃dv,Vals (l.df.map V.int) dv/\∀j,Binds K fd l.ps (dv.drop j)):Top K mg L n B:=by
 unfold Eh at h5;simp only[IV,Jl]at h5;obtain⟨⟨⟨o1,o2⟩,o3⟩,o4⟩:=h5;unfold DJ at h6;rw[IV]at h6;obtain⟨e1,e2⟩:=h6;unfold Cq at h8;simp only[IV,Jl]at h8;obtain⟨⟨t1,t2⟩,t3⟩:=h8;have ki:∀i,i<B.nk->kB K B fT mT iT i=true:=λi hi=>iS h7 hi
 refine⟨λl hl=>JB.mp h1 l hl,λf l hl=>?_,λi hi=>?_,λi x hx=>?_,λi KY=>?_,λi KY=>?_,λi f KY K7=>?_,λi m f KY K7=>?_,λi x hx=>?_,glo,λx hx=>?_,o3,xi,xn⟩
 ·have g:=pB h3 hl;unfold fnB at g;simp only[IV]at g;obtain⟨⟨g1,g2⟩,g3⟩:=g;have hz:L.zipIdx[f]?=some (l,f):=by
   rw[List.getElem?_zipIdx,hl];simp
  have e:=congrArg (λz:List (Option FuncData)=>z[f]?) h2
  simp only[JJ,hz,Option.map_some,Option.some.injEq]at e;cases hfd:oM K (B.d_ f) with
  |none=>rw[hfd]at g1;cases g1
  |some fd=>
   rw[hfd]at e g1;simp only[Option.map_some,Option.some.injEq]at e;obtain⟨oc,od,sl,lk⟩:=xY hfd;have hb:l.df=[]->∀us:List Value,us.length=l.ps.length->bindArgs fd ⟨us,[]⟩=pure (l.ps.zip us):=λz us hu=>by
    rw[e];unfold fdN;rw[z];exact h4 f l hl us hu _ _ _ _ _ _
   refine⟨fd,⟨⟨oc,od,_,fd.kwdefaults,fd.doc,fd.pyModule,fd.annotations,fd.code,fd.closureTuple,sl,e,lk,g1⟩,g2⟩,λz=>?_,hb,?_⟩
   ·rw[z]at g3;exact PySem.W.mg_of X Gn (Jl.mp (by simpa using g3))
   ·by_cases z:l.df=[]
    ·exact⟨[],by rw[z];exact .nil,λj=>by rw[List.drop_nil];exact .all (hb z)⟩
    ·exact hd f l hl z fd hfd
 ·have g:=iS e1 hi;rw[IV]at g;obtain⟨g1,g2⟩:=g;unfold D7 at g1;simp only[IV,Jl]at g1;obtain⟨⟨⟨⟨⟨⟨a1,a2⟩,a3⟩,a4⟩,a5⟩,a6⟩,a7⟩:=g1;refine⟨⟨a1,a2,a3,a4,o1,o2,a5,a6⟩,a7,λj x hx=>?_⟩
  have hj:j<n.exc.length:=(Jk.mp hx).1;have g:=iS g2 hj;rw[IV,Jl]at g;exact g.1
 ·have g:=pB e2 hx;rw[IV,Jl]at g;refine⟨PySem.W.mg_of X Gn g.1,λz=>?_,λj hj=>?_⟩
  ·have g2:=g.2;rw[show n.xin.lookup (x,i).2=none from z]at g2;have g3:PySem.W.excIn K (B.cls i) bmV "ValueError.__new__"=true:=by simpa using g2
   exact g3
  ·have q:=iS e1 hj;rw[IV]at q;have hi:i<n.exc.length:=(Jk.mp hx).1;have g:=iS q.2 hi;rw[IV,Jl,Jl]at g;exact g.2
 ·have g:=ki i KY;unfold kB at g;simp only[IV,Jl]at g;obtain⟨⟨⟨⟨⟨⟨⟨⟨⟨a1,a2⟩,a3⟩,a4⟩,a5⟩,a6⟩,a7⟩,a8⟩,a9⟩,Qk⟩:=g;have iI:∀f,B.ini i=some f->PySem.W.makesIn K (B.b_ i)=true/\PySem.W.findIn K (.ref (B.b_ i)) "__init__"=some (some (.ref (B.d_ f)))/\PySem.W.isFn K (.ref (B.d_ f))=true/\PySem.W.keepIn K (.ref (B.b_ i))=true/\PySem.W.specialIn K (.ref (B.b_ i)) "__getattribute__"=some (some (.builtin "type.__getattribute__"))/\PySem.W.readsIn K (B.b_ i) (.type "type")=true/\PySem.W.findCls K (.ref (B.b_ i)) (.type "type") "__init__"=some (.val (.ref (B.d_ f))):=λf hf=>by
   rw[hi i]at hf;rw[hf]at a7;simp only[IV,Jl]at a7;obtain⟨⟨⟨⟨⟨⟨b1,b2⟩,b3⟩,b4⟩,b5⟩,b6⟩,b7⟩:=a7;refine⟨b1,b2,b3,b4,b5,b6,?_⟩;split at b7
   ·rename_i g hg;rw[hg,Jl.mp b7]
   ·cases b7
  refine⟨⟨a1,a2,a3,a4⟩,λf K7=>?_,λm f LF=>?_,λf K7=>?_,λf K7=>?_,⟨a8,o1,o2,a9⟩,λj hj=>?_⟩
  ·rw[hf i f]at K7;exact Jl.mp (JB.mp a5 f (List.contains_iff_mem.mp K7))
  ·rw[hm i m]at LF;have q:=JB.mp a6 (m,f) (cW LF);simp only[IV,Jl]at q;exact⟨q.1.1,q.1.2,q.2⟩
  ·obtain⟨b1,b2,b3,b4,_⟩:=iI f K7;exact⟨b1,b2,b3,b4⟩
  ·obtain⟨_,_,_,_,b5,b6,b7⟩:=iI f K7;exact⟨b5,b6,b7⟩
  ·exact Jl.mp (iS Qk hj)
 ·rw[hi i];have:i<iT.length:=by rw[t1];exact KY
  exact⟨iT[i],Jt this⟩
 ·rw[hi i]at K7;exact J2 (JB.mp t2 f (Jy K7))
 ·rw[hm i m]at K7;have q:=cW K7;by_cases z:i<mT.length
  ·rw[List.getD_eq_getElem?_getD,Jt z]at q;exact J2 (JB.mp (JB.mp t3 _ (J3 z)) _ q)
  ·rw[List.getD_eq_getElem?_getD,List.getElem?_eq_none (by omega)]at q
   cases q
 ·have g:=pB h9 hx;rw[IV,Jl]at g;exact⟨PySem.W.mg_of X Gn g.1,J2 g.2⟩
 ·exact PySem.W.mg_none_of X Gn (Jl.mp (JB.mp o4 x hx))
theorem n1{P:List Value->Prop}(h:∀a,P [a]):∀us:List Value,us.length=1->P us:=usS λa=>us0 (h a)
theorem n2{P:List Value->Prop}(h:∀a b,P [a,b]):∀us:List Value,us.length=2->P us:=usS λa=>usS λb=>us0 (h a b)
theorem n3{P:List Value->Prop}(h:∀a b c,P [a,b,c]):∀us:List Value,us.length=3->P us:=usS λa=>usS λb=>usS λc=>us0 (h a b c)
theorem n4{P:List Value->Prop}(h:∀a b c d,P [a,b,c,d]):∀us:List Value,us.length=4->P us:=usS λa=>usS λb=>usS λc=>usS λd=>us0 (h a b c d)
theorem n5{P:List Value->Prop}(h:∀a b c d e,P [a,b,c,d,e]):∀us:List Value,us.length=5->P us:=usS λa=>usS λb=>usS λc=>usS λd=>usS λe=>us0 (h a b c d e)
theorem n6{P:List Value->Prop}(h:∀a b c d e f,P [a,b,c,d,e,f]):∀us:List Value,us.length=6->P us:=usS λa=>usS λb=>usS λc=>usS λd=>usS λe=>usS λf=>us0 (h a b c d e f)
end L2
namespace L2
noncomputable def oi:Option Int->D
 |none=>.i_
 |some i=>.int i
noncomputable abbrev pr(a b:Option Int):D:=.tup [oi a,oi b]
theorem bq{i j:Int}(h1:0<j)(h2:j<10 ^ 250):gq i j=True:=by
 refine eq_true ⟨h1,qg ?_⟩;omega
theorem yG{i j:Int}(h1 : -(10 ^ 240)<i)(h2:i<10 ^ 240)(h3 : -(10 ^ 240)<j)(h4:j<10 ^ 240):jA i j=True:=by
 refine eq_true ⟨qg ?_,qg ?_⟩<;>omega
theorem vQ{i j:Int}(h1:0<=j)(h2:j<=1000000)(h3:i.natAbs<2 ^ 64):uN i j=True:=eq_true ⟨h1,h2,h3⟩
theorem sN{α:Type}(a:α)(l:List α):atI (a::l) 0=some a:=by simp[atI,ixN]
theorem rK{α:Type}(a b:α)(l:List α):atI (a::b::l) 1=some b:=cK (j:=1) rfl
theorem sL{α:Type}(a b c:α)(l:List α):atI (a::b::c::l) 2=some c:=cK (j:=2) rfl
theorem vg{α:Type}(a b c d:α)(l:List α):atI (a::b::c::d::l) 3=some d:=cK (j:=3) rfl
end L2
namespace L2
open PySem
section
variable {W:WC}{Z:St3}
@[simp ↓] theorem IR:wpE W (.var 0) (some v::Z) M Q E=Q v M:=rfl
@[simp ↓] theorem IH:wpE W (.var 1) (y0::some v::Z) M Q E=Q v M:=rfl
@[simp ↓] theorem IB:wpE W (.var 2) (y0::y1::some v::Z) M Q E=Q v M:=rfl
@[simp ↓] theorem Iz:wpE W (.var 3) (y0::y1::y2::some v::Z) M Q E=Q v M:=rfl
@[simp ↓] theorem IK:wpE W (.var 4) (y0::y1::y2::y3::some v::Z) M Q E=Q v M:=rfl
@[simp ↓] theorem IL:wpE W (.var 5) (y0::y1::y2::y3::y4::some v::Z) M Q E=Q v M:=rfl
@[simp ↓] theorem Ir:wpE W (.var 6) (y0::y1::y2::y3::y4::y5::some v::Z) M Q E=Q v M:=rfl
@[simp ↓] theorem IG:wpE W (.var 7) (y0::y1::y2::y3::y4::y5::y6::some v::Z) M Q E=Q v M:=rfl
@[simp ↓] theorem IF:wpE W (.var 8) (y0::y1::y2::y3::y4::y5::y6::y7::some v::Z) M Q E=Q v M:=rfl
@[simp ↓] theorem Ix:wpE W (.var 9) (y0::y1::y2::y3::y4::y5::y6::y7::y8::some v::Z) M Q E=Q v M:=rfl
@[simp ↓] theorem Id:wpE W (.var 10) (y0::y1::y2::y3::y4::y5::y6::y7::y8::y9::some v::Z) M Q E=Q v M:=rfl
@[simp ↓] theorem Ig:wpE W (.var 11) (y0::y1::y2::y3::y4::y5::y6::y7::y8::y9::y10::some v::Z) M Q E=Q v M:=rfl
@[simp ↓] theorem Hb:wpE W (.var 12) (y0::y1::y2::y3::y4::y5::y6::y7::y8::y9::y10::y11::some v::Z) M Q E=Q v M:=rfl
@[simp ↓] theorem HA:wpE W (.var 13) (y0::y1::y2::y3::y4::y5::y6::y7::y8::y9::y10::y11::y12::some v::Z) M Q E=Q v M:=rfl
@[simp ↓] theorem G9:wpE W (.var 14) (y0::y1::y2::y3::y4::y5::y6::y7::y8::y9::y10::y11::y12::y13::some v::Z) M Q E=Q v M:=rfl
@[simp ↓] theorem HJ:wpE W (.var 15) (y0::y1::y2::y3::y4::y5::y6::y7::y8::y9::y10::y11::y12::y13::y14::some v::Z) M Q E=Q v M:=rfl
@[simp ↓] theorem HC:wpE W (.con v) Z M Q E=Q v M:=rfl
@[simp ↓] theorem F4{op a b}:wpE W (.bin op a b) Z M Q E=wpE W a Z M (λx M1=>wpE W b Z M1 (λy M2=>mS op x y M2 Q) E) E:=rfl
@[simp ↓] theorem Ie{a}:wpE W (.neg a) Z M Q E=wpE W a Z M (λx M1=>rNeg x M1 Q) E:=rfl
@[simp ↓] theorem Hl{fz a b}:wpE W (.cat fz a b) Z M Q E=wpE W a Z M (λx M1=>wpE W b Z M1 (λy M2=>dn fz x y M2 Q) E) E:=rfl
@[simp ↓] theorem Hm{op a b}:wpE W (.cmp op a b) Z M Q E=wpE W a Z M (λx M1=>wpE W b Z M1 (λy M2=>au op x y M2 Q) E) E:=rfl
@[simp ↓] theorem EQ{op KL a b c}:wpE W (.chain op KL a b c) Z M Q E=wpE W a Z M (λx M1=>wpE W b Z M1 (λy M2=>au op x y M2 λr M3=>match r with
  |.bl k=>if k=true then wpE W c Z M3 (λz M4=>au KL y z M4 Q) E else Q (.bl false) M3
  |_=>False) E) E:=rfl
@[simp ↓] theorem Ik{a b}:wpE W (.and a b) Z M Q E=wpE W a Z M (λx M1=>match x with
  |.bl c=>if c=true then wpE W b Z M1 Q E else Q (.bl false) M1
  |_=>False) E:=rfl
@[simp ↓] theorem Hd{a}:wpE W (.not a) Z M Q E=wpE W a Z M (λx M1=>match x with
  |.bl c=>Q (.bl (!c)) M1
  |_=>False) E:=rfl
@[simp ↓] theorem yD{c a b}:wpE W (.Mi c a b) Z M Q E=wpT W c Z M (λk M1=>if k=true then wpE W a Z M1 Q E else wpE W b Z M1 Q E) E:=rfl
@[simp ↓] theorem HQ{es}:wpE W (.tup es) Z M Q E=wpA W es Z M (λxs M1=>xs.length<=sizeLine/\Q (.tup xs) M1) E:=rfl
@[simp ↓] theorem Hg{fz es}:wpE W (.lst fz es) Z M Q E=wpA W es Z M (λxs M1=>cf fz xs M1 Q) E:=rfl
@[simp ↓] theorem HL{e}:wpE W (.t_ e) Z M Q E=wpE W e Z M (be Q) E:=rfl
@[simp ↓] theorem Iu{a b}:wpE W (.ix a b) Z M Q E=wpE W a Z M (λx M1=>wpE W b Z M1 (λy M2=>aq x y M2 Q) E) E:=rfl
@[simp ↓] theorem IJ{fz a lo hi}:wpE W (.sl fz a lo hi) Z M Q E=wpE W a Z M (λx M1=>wpO W lo Z M1 (λl M2=>wpO W hi Z M2 (λh M3=>iH fz x l h M3 Q) E) E) E:=rfl
@[simp ↓] theorem GT{f es}:wpE W (.call f es) Z M Q E=wpA W es Z M (λxs M1=>W.call f xs M1 Q E) E:=rfl
@[simp ↓] theorem IC{b es}:wpE W (.bi b es) Z M Q E=wpA W es Z M (λxs M1=>rBi b xs M1 Q) E:=rfl
@[simp ↓] theorem Hy{e t}:wpE W (.Lv e t) Z M Q E=wpE W e Z M (λx M1=>hW t x M1 Q) E:=rfl
@[simp ↓] theorem HG{e c}:wpE W (.MA e c) Z M Q E=wpE W e Z M (λx M1=>ny W.ne W.cls (λi=>W.sub i c) x M1 Q) E:=rfl
@[simp ↓] theorem IM{mx dflt e}:wpE W (.mm mx dflt e) Z M Q E=wpE W e Z M (λx M1=>rMM mx dflt x M1 Q) E:=rfl
@[simp ↓] theorem Hf{e f}:wpE W (.fld e f) Z M Q E=wpE W e Z M (λx M1=>bT W.toWB f x M1 Q) E:=rfl
@[simp ↓] theorem Fi{i es}:wpE W (.make true i es) Z M Q E=wpA W es Z M (λxs M1=>i<W.nk/\dM (W.ini i) λf=>∀p,M1 p=none->W.call f (.ref p::xs) (put M1 p (.ins i (W.b_ i) [] [])) (λv M2=>v=.i_/\be Q (.ref p) M2) (λi M'=>E i (L2.del M' p))) E:=rfl
@[simp ↓] theorem EK{i es}:wpE W (.make false i es) Z M Q E=wpA W es Z M (λxs M1=>i<W.nk/\dM (W.ini i) λf=>∀p,M1 p=none->W.call f (.ref p::xs) (put M1 p (.ins i (W.b_ i) [] [])) (λv M2=>v=.i_/\Q (.ref p) M2) (λi M'=>E i (L2.del M' p))) E:=rfl
@[simp ↓] theorem GD{e m es}:wpE W (.x_ e m es) Z M Q E=wpE W e Z M (λx M1=>bh W.toWB m x M1 λf=>wpA W es Z M1 (λxs M2=>W.call f (x::xs) M2 Q E) E) E:=rfl
@[simp ↓] theorem Ij{i es}:wpE W (.ini i es) Z M Q E=wpA W es Z M (λxs M1=>i<W.nk/\dM (W.ini i) λf=>W.call f xs M1 Q E) E:=rfl
@[simp ↓] theorem HX{e j}:wpE W (.Lw e j) Z M Q E=wpE W e Z M (λx M1=>qh W.toWB j x M1 Q) E:=rfl
@[simp ↓] theorem HE{k}:wpE W (.glo k) Z M Q E=Q (W.glo k) M:=rfl
@[simp ↓] theorem Iw{b o es}:wpE W (.bm b o es) Z M Q E=wpE W o Z M (λx M1=>tyB b x M1=true/\wpA W es Z M1 (λxs M2=>rBm b x xs M2 Q) E) E:=rfl
@[simp ↓] theorem FV{fz a b}:wpE W (.LL fz a b) Z M Q E=wpE W a Z M (λx M1=>wpE W b Z M1 (λy M2=>rLz fz x y M2 Q) E) E:=rfl
@[simp ↓] theorem G8{fz a b}:wpE W (.rep fz a b) Z M Q E=wpE W a Z M (λx M1=>wpE W b Z M1 (λy M2=>gY fz x y M2 Q) E) E:=rfl
@[simp] theorem BZ:ar M M=M:=by
 funext a;unfold ar;split<;>simp_all
@[simp] theorem B6(h:M p=none):ar M (put M' p o)=ar M M':=by
 funext a;unfold ar put;split
 ·rename_i x e;split
  ·rename_i z;subst z;rw[h]at e;cases e
  ·rfl
 ·rfl
@[simp] theorem c6(h:M p=some u):ar M (put M' p o)=put (ar M M') p o:=by
 funext a;unfold ar put;by_cases z:a=p
 ·subst z;simp[h]
 ·simp[z]
@[simp] theorem EH:ar (put M p o) (put M' p u)=put (ar M M') p u:=by
 funext a;unfold ar put;by_cases z:a=p
 ·subst z;simp
 ·simp[z]
@[simp ↓] theorem Dw:dM (some f) R=R f:=rfl
@[simp ↓] theorem EE{B:WB}{f i C ns ds}:bT B f (.obj i C ns ds) M Q=((C=B.b_ i/\i<B.nk/\B.fok i f=true)/\gB f ns ds M Q):=rfl
@[simp ↓] theorem CT{f n ns d ds}:gB f (n::ns) (d::ds) M Q=if n=f then Q d M else gB f ns ds M Q:=by
 unfold gB;rw[cq];by_cases h:n=f
 ·rw[Jc h,Jc h]
 ·rw[IY h,IY h]
@[simp ↓] theorem Fp{B:WB}{m i C ns ds}:bh B m (.obj i C ns ds) M R=((C=B.b_ i/\i<B.nk/\cq m ns ds=none)/\dM (B.mth i m) R):=rfl
@[simp] theorem B0:cq f [] ds=none:=by unfold cq;rfl
@[simp] theorem Bz:cq f (n::ns) (d::ds)=if n=f then some d else cq f ns ds:=by rw[cq]
@[simp ↓] theorem Fh{B:WB}{j i C ns ds}:qh B j (.obj i C ns ds) M Q=((C=B.b_ i/\i<B.nk/\j<B.nk)/\Q (.bl (B.ksub i j)) M):=rfl
@[simp] theorem B2:b9 f []=[f]:=rfl
@[simp] theorem Aq:b9 f (n::ns)=if n=f then n::ns else n::b9 f ns:=rfl
@[simp] theorem BY:cb f y [] ds=[y]:=by unfold cb;rfl
@[simp] theorem zo:cb f y (n::ns) (d::ds)=if n=f then y::ds else d::cb f y ns ds:=by rw[cb]
@[simp ↓] theorem Fn{ds}(h:M a=none):be Q (.ref a) (put M a (.lst ds))=Q (.g_ ds) M:=by
 simp only[be,ah,fU h]
@[simp ↓] theorem E5{i C ns ds}(h:M a=none):be Q (.ref a) (put M a (.ins i C ns ds))=eW ds M (λr M'=>Q (.obj i C ns r) M'):=by
 simp only[be,ah,fU h]
@[simp ↓] theorem Cj:eW [] M R=R [] M:=rfl
@[simp ↓] theorem Df{i ds}:eW (.int i::ds) M R=eW ds M (λr M'=>R (.int i::r) M'):=rfl
@[simp ↓] theorem DL{i ds}:eW (.tup i::ds) M R=eW ds M (λr M'=>R (.tup i::r) M'):=rfl
@[simp ↓] theorem EJ{fz ds lo hi}:iH fz (.tup ds) lo hi M Q=(whole ds.length lo hi=false/\Q (.tup (dg ds lo hi)) M):=rfl
@[simp ↓] theorem wX{ds lo hi}:iH true (.g_ ds) lo hi M Q=((dg ds lo hi).length<=sizeLine/\Q (.g_ (dg ds lo hi)) M):=rfl
@[simp ↓] theorem cat_tup{fz a b}:dn fz (.tup a) (.tup b) M Q=(a.length+b.length<=sizeLine/\Q (.tup (a++b)) M):=rfl
@[simp ↓] theorem Gh{tk}:wpE W (.Ku tk) Z M Q E=∀p,M p=none->Q (.ref p) (put M p (if tk=true then .dt [] [] else .dk [] [])):=rfl
theorem mF{ks ds}(h:M a=some (.dk ks ds)):tyB .get (.ref a) M=true:=by simp[tyB,eX,h]
theorem xh{ks ds}(h:M a=some (.dk ks ds)):rBm .get (.ref a) [.int i,z] M Q=Q ((getD ks ds (.inl i)).getD z) M:=by simp[rBm,iW,eX,h,sj]
theorem nZ{ks ds}(h:M a=some (.dk ks ds)):aY (.ref a) (.int i) y M R=(ks.length<sizeLine/\R (put M a (.dk (aj ks (.inl i)) (am ks ds (.inl i) y)))):=by simp[aY,h,sj]
theorem d8{ds}(h:M a=some (.lst ds))(hj:ixN ds.length i=some j):aY (.ref a) (.int i) y M R=R (put M a (.lst (ds.set j y))):=by simp[aY,h,hj]
theorem d9[DecidableEq κ]:∀{ks:List κ}{ds:List D}{k x:κ}{y:D},ks.length=ds.length->getD (aj ks k) (am ks ds k y) x=if k=x then some y else getD ks ds x
 |[],ds,k,x,y,_=>by
  simp only[aj,am];by_cases h:k=x
  ·simp[getD,h]
  ·cases ds<;>simp[getD,h]
 |k'::ks,[],k,x,y,h=>by simp at h
 |k'::ks,d::ds,k,x,y,h=>by
  simp only[aj,am];have hl:ks.length=ds.length:=by simpa using h
  by_cases e:k'=k
  ·subst e;by_cases h2:k'=x<;>simp[getD,h2]
  ·simp only[IY e,getD];by_cases h2:k'=x
   ·subst h2;rw[Jc rfl,IY (Ja e),Jc rfl]
   ·rw[IY h2,IY h2];exact d9 hl
theorem cP[DecidableEq κ]:∀{ks:List κ}{ds:List D}{k:κ}{y:D},ks.length=ds.length->(aj ks k).length=(am ks ds k y).length
 |[],ds,k,y,_=>by simp[aj,am]
 |k'::ks,[],k,y,h=>by simp at h
 |k'::ks,d::ds,k,y,h=>by
  have hl:ks.length=ds.length:=by simpa using h
  simp only[aj,am];by_cases e:k'=k
  ·simp[e,hl]
  ·simp only[IY e,Jr];rw[cP (k:=k) (y:=y) hl]
@[simp ↓] theorem zJ{ne:Nat}{cls:Nat->Addr}{r:Nat->Bool}{a:Addr}{c:Nat}{pl:Option (Nat×D)}:ny ne cls r (.ref a) (put M a (.exc ⟨c,pl⟩ (.ref (cls c)))) Q=(c<ne/\Q (.bl (r c)) (put M a (.exc ⟨c,pl⟩ (.ref (cls c))))):=by
 simp[ny,ah]
@[simp ↓] theorem ET{c body r i De}:wpH W (.cons c none body r) i De Z M=(i.c<W.ne/\if W.sub i.c c=true then aP W body De (λ_ _ _=>False) Z M else wpH W r i De Z M):=rfl
@[simp ↓] theorem E7{c j body r i De}:wpH W (.cons c (some j) body r) i De Z M=(i.c<W.ne/\if W.sub i.c c=true then (∀a,M a=none->aP W body (oh De j) (λ_ _ _=>False) (Z.set j (some (.ref a))) (put M a (.exc i (.ref (W.cls i.c))))) else wpH W r i De Z M):=rfl
def gj(W:WC)(tg:ITg)(cond:ITO)(y_:IE)(S:MH->Prop)(p:Addr)(Q:VK3):List D->List D->St3->MH->Prop:=eO (wpG tg) (λZ M Q=>fK W cond Z M Q (λ_ _=>False)) (λZ M Q=>wpE W y_ Z M Q (λ_ _=>False)) S p Q
def gv(W:WC)(tg:ITg)(cond:ITO)(y_:IE)(S:MH->Prop)(Q:VK3)(ds:List D)(Z:St3)(M:MH):Prop:=∀p,M p=none->gj W tg cond y_ S p (jg Q) ds [] Z (put M p (.lst []))
@[simp ↓] theorem E8{N js tg it cond y_}:wpE W (.comp true N js tg it cond y_) Z M Q E=wpI W it Z M (λds S M1=>gv W tg cond y_ S Q ds (ao js Z) M1) E:=rfl
@[simp ↓] theorem EO{N js tg it cond y_}:wpE W (.comp false N js tg it cond y_) Z M Q E=wpI W it Z M (λds S M1=>∀p,M1 p=none->gj W tg cond y_ S p Q ds [] (ao js Z) (put M1 p (.lst []))) E:=rfl
@[simp ↓] theorem qq{e}:wpT W (.val e) Z M QB E=wpE W e Z M (λx M1=>match x with
  |.bl k=>QB k M1
  |_=>False) E:=rfl
@[simp ↓] theorem GX{op a b}:wpT W (.cmp op a b) Z M QB E=wpE W a Z M (λx M1=>wpE W b Z M1 (λy M2=>au op x y M2 λr M3=>match r with
  |.bl k=>QB k M3
  |_=>False) E) E:=rfl
@[simp ↓] theorem fM{a b}:wpT W (.and a b) Z M QB E=wpT W a Z M (λc M1=>if c=true then wpT W b Z M1 QB E else QB false M1) E:=rfl
@[simp ↓] theorem qW{a b}:wpT W (.or a b) Z M QB E=wpT W a Z M (λc M1=>if c=true then QB true M1 else wpT W b Z M1 QB E) E:=rfl
@[simp ↓] theorem Gy{a}:wpT W (.not a) Z M QB E=wpT W a Z M (λc M1=>QB (!c) M1) E:=rfl
@[simp ↓] theorem FU:wpA W .nil Z M QL E=QL [] M:=rfl
@[simp ↓] theorem EU{e r}:wpA W (.cons e r) Z M QL E=wpE W e Z M (λx M1=>wpA W r Z M1 (λxs M2=>QL (x::xs) M2) E) E:=rfl
@[simp ↓] theorem Hc:wpO W .no Z M QO E=QO none M:=rfl
@[simp ↓] theorem Gp{e}:wpO W (.yes e) Z M QO E=wpE W e Z M (λx M1=>match x with
  |.int i=>QO (some i) M1
  |_=>False) E:=rfl
@[simp ↓] theorem Ha:fK W .no Z M QB E=QB true M:=rfl
@[simp ↓] theorem FO{e}:fK W (.yes e) Z M QB E=wpT W e Z M QB E:=rfl
def nF(R:List D->(MH->Prop)->MH->Prop):VK3:=λx M1=>match x with
  |.tup ds=>R ds (λ_=>True) M1
  |.g_ ds=>R ds (λ_=>True) M1
  |.ref a=>match M1 a with
   |some (.lst ds)=>R ds (λM=>M a=some (.lst ds)) M1
   |_=>False
  |_=>False
@[simp ↓] theorem CF{ds}:nF R (.tup ds) M=R ds (λ_=>True) M:=rfl
@[simp ↓] theorem C1{ds}:nF R (.g_ ds) M=R ds (λ_=>True) M:=rfl
theorem iB{a ds}(h:M a=some (.lst ds)):nF R (.ref a) M=R ds (λM=>M a=some (.lst ds)) M:=by
 unfold nF;simp only[h]
@[simp ↓] theorem GY{e}:wpI W (.seq e) Z M R E=wpE W e Z M (nF R) E:=rfl
@[simp ↓] theorem EM{a}:wpI W (.enum a) Z M R E=wpE W a Z M (λx M1=>match x with
  |.g_ ds=>R (cz 0 ds) (λ_=>True) M1
  |.ref a=>match M1 a with
   |some (.lst ds)=>R (cz 0 ds) (λM=>M a=some (.lst ds)) M1
   |_=>False
  |_=>False) E:=rfl
@[simp ↓] theorem E4{a}:wpI W (.LN a) Z M R E=wpE W a Z M (λx M1=>match x with
  |.g_ ds=>R ds.reverse (λ_=>True) M1
  |_=>False) E:=rfl
@[simp ↓] theorem GO{a b}:wpI W (.zip a b) Z M R E=wpE W a Z M (λx M1=>wpE W b Z M1 (λy M2=>rLs x M2 λxs S=>rLs y M2 λys S'=>R (gy xs ys) (λM=>S M/\S' M) M2) E) E:=rfl
@[simp] theorem FA{k}:rLs (.g_ xs) M k=k xs λ_=>True:=rfl
@[simp ↓] theorem EX{a}:wpI W (.KD a) Z M R E=wpE W a Z M (λx M1=>match x with
  |.int j=>-(2 ^ 62)<=j/\j<2 ^ 62/\R (rng 0 j.toNat) (λ_=>True) M1
  |_=>False) E:=rfl
end
section
variable {W:WC}{Z:St3}{De:Ends3}{x:Option D}
@[simp ↓] theorem Gr:aP W .nil De ES Z M=De.nx Z M:=rfl
@[simp ↓] theorem Ff{s r}:aP W (.cons s r) De ES (x::Z) M=wpS W s {De with nx:=λn_ M'=>aP W r De ES n_ M'} ES (x::Z) M:=rfl
@[simp ↓] theorem Gv{e}:wpS W (.set 1 e) De ES (y0::x::Z) M=wpE W e (y0::x::Z) M (λv M1=>De.nx (y0::some v::Z) M1) (ES (y0::x::Z)):=rfl
@[simp ↓] theorem F5{e}:wpS W (.set 2 e) De ES (y0::y1::x::Z) M=wpE W e (y0::y1::x::Z) M (λv M1=>De.nx (y0::y1::some v::Z) M1) (ES (y0::y1::x::Z)):=rfl
@[simp ↓] theorem FJ{e}:wpS W (.set 3 e) De ES (y0::y1::y2::x::Z) M=wpE W e (y0::y1::y2::x::Z) M (λv M1=>De.nx (y0::y1::y2::some v::Z) M1) (ES (y0::y1::y2::x::Z)):=rfl
@[simp ↓] theorem FI{e}:wpS W (.set 4 e) De ES (y0::y1::y2::y3::x::Z) M=wpE W e (y0::y1::y2::y3::x::Z) M (λv M1=>De.nx (y0::y1::y2::y3::some v::Z) M1) (ES (y0::y1::y2::y3::x::Z)):=rfl
@[simp ↓] theorem GE{e}:wpS W (.set 5 e) De ES (y0::y1::y2::y3::y4::x::Z) M=wpE W e (y0::y1::y2::y3::y4::x::Z) M (λv M1=>De.nx (y0::y1::y2::y3::y4::some v::Z) M1) (ES (y0::y1::y2::y3::y4::x::Z)):=rfl
@[simp ↓] theorem GL{e}:wpS W (.set 6 e) De ES (y0::y1::y2::y3::y4::y5::x::Z) M=wpE W e (y0::y1::y2::y3::y4::y5::x::Z) M (λv M1=>De.nx (y0::y1::y2::y3::y4::y5::some v::Z) M1) (ES (y0::y1::y2::y3::y4::y5::x::Z)):=rfl
@[simp ↓] theorem Fz{e}:wpS W (.set 7 e) De ES (y0::y1::y2::y3::y4::y5::y6::x::Z) M=wpE W e (y0::y1::y2::y3::y4::y5::y6::x::Z) M (λv M1=>De.nx (y0::y1::y2::y3::y4::y5::y6::some v::Z) M1) (ES (y0::y1::y2::y3::y4::y5::y6::x::Z)):=rfl
@[simp ↓] theorem F6{e}:wpS W (.set 8 e) De ES (y0::y1::y2::y3::y4::y5::y6::y7::x::Z) M=wpE W e (y0::y1::y2::y3::y4::y5::y6::y7::x::Z) M (λv M1=>De.nx (y0::y1::y2::y3::y4::y5::y6::y7::some v::Z) M1) (ES (y0::y1::y2::y3::y4::y5::y6::y7::x::Z)):=rfl
@[simp ↓] theorem FD{e}:wpS W (.set 9 e) De ES (y0::y1::y2::y3::y4::y5::y6::y7::y8::x::Z) M=wpE W e (y0::y1::y2::y3::y4::y5::y6::y7::y8::x::Z) M (λv M1=>De.nx (y0::y1::y2::y3::y4::y5::y6::y7::y8::some v::Z) M1) (ES (y0::y1::y2::y3::y4::y5::y6::y7::y8::x::Z)):=rfl
@[simp ↓] theorem EL{e}:wpS W (.set 10 e) De ES (y0::y1::y2::y3::y4::y5::y6::y7::y8::y9::x::Z) M=wpE W e (y0::y1::y2::y3::y4::y5::y6::y7::y8::y9::x::Z) M (λv M1=>De.nx (y0::y1::y2::y3::y4::y5::y6::y7::y8::y9::some v::Z) M1) (ES (y0::y1::y2::y3::y4::y5::y6::y7::y8::y9::x::Z)):=rfl
@[simp ↓] theorem E6{e}:wpS W (.set 11 e) De ES (y0::y1::y2::y3::y4::y5::y6::y7::y8::y9::y10::x::Z) M=wpE W e (y0::y1::y2::y3::y4::y5::y6::y7::y8::y9::y10::x::Z) M (λv M1=>De.nx (y0::y1::y2::y3::y4::y5::y6::y7::y8::y9::y10::some v::Z) M1) (ES (y0::y1::y2::y3::y4::y5::y6::y7::y8::y9::y10::x::Z)):=rfl
@[simp ↓] theorem E1{e}:wpS W (.set 12 e) De ES (y0::y1::y2::y3::y4::y5::y6::y7::y8::y9::y10::y11::x::Z) M=wpE W e (y0::y1::y2::y3::y4::y5::y6::y7::y8::y9::y10::y11::x::Z) M (λv M1=>De.nx (y0::y1::y2::y3::y4::y5::y6::y7::y8::y9::y10::y11::some v::Z) M1) (ES (y0::y1::y2::y3::y4::y5::y6::y7::y8::y9::y10::y11::x::Z)):=rfl
@[simp ↓] theorem Fc{e}:wpS W (.set 13 e) De ES (y0::y1::y2::y3::y4::y5::y6::y7::y8::y9::y10::y11::y12::x::Z) M=wpE W e (y0::y1::y2::y3::y4::y5::y6::y7::y8::y9::y10::y11::y12::x::Z) M (λv M1=>De.nx (y0::y1::y2::y3::y4::y5::y6::y7::y8::y9::y10::y11::y12::some v::Z) M1) (ES (y0::y1::y2::y3::y4::y5::y6::y7::y8::y9::y10::y11::y12::x::Z)):=rfl
@[simp ↓] theorem EI{e}:wpS W (.set 14 e) De ES (y0::y1::y2::y3::y4::y5::y6::y7::y8::y9::y10::y11::y12::y13::x::Z) M=wpE W e (y0::y1::y2::y3::y4::y5::y6::y7::y8::y9::y10::y11::y12::y13::x::Z) M (λv M1=>De.nx (y0::y1::y2::y3::y4::y5::y6::y7::y8::y9::y10::y11::y12::y13::some v::Z) M1) (ES (y0::y1::y2::y3::y4::y5::y6::y7::y8::y9::y10::y11::y12::y13::x::Z)):=rfl
@[simp ↓] theorem ED{e}:wpS W (.set 15 e) De ES (y0::y1::y2::y3::y4::y5::y6::y7::y8::y9::y10::y11::y12::y13::y14::x::Z) M=wpE W e (y0::y1::y2::y3::y4::y5::y6::y7::y8::y9::y10::y11::y12::y13::y14::x::Z) M (λv M1=>De.nx (y0::y1::y2::y3::y4::y5::y6::y7::y8::y9::y10::y11::y12::y13::y14::some v::Z) M1) (ES (y0::y1::y2::y3::y4::y5::y6::y7::y8::y9::y10::y11::y12::y13::y14::x::Z)):=rfl
@[simp ↓] theorem Fl{j}:(oh De j).nx Z M=De.nx (Z.set j none) M:=rfl
def fD(B:WB)(f:Nat)(y:D)(R:MH->Prop):VK3:=λx M2=>match x with
  |.ref a=>match M2 a with
   |some (.ins i C ns ds)=>(C=B.b_ i/\i<B.nk/\B.fok i f=true/\ns.length<1000)/\R (put M2 a (.ins i C (b9 f ns) (cb f y ns ds)))
   |_=>False
  |_=>False
@[simp ↓] theorem Ce{B:WB}{i C ns ds}:fD B f y R (.ref a) (put M a (.ins i C ns ds))=((C=B.b_ i/\i<B.nk/\B.fok i f=true/\ns.length<1000)/\R (put M a (.ins i C (b9 f ns) (cb f y ns ds)))):=by
 simp[fD,ah,cM]
def xL(is:List Nat)(Z:St3)(k:St3->MH->Prop):VK3:=λx M1=>match x with
  |.tup ds=>ds.length=is.length/\k ((is.zip ds).foldl (λZ p=>Z.set p.1 (some p.2)) Z) M1
  |_=>False
@[simp ↓] theorem EG{i j a b k}:xL [i,j] Z k (.tup [a,b]) M=k ((Z.set i (some a)).set j (some b)) M:=by
 simp[xL]
@[simp ↓] theorem E9{e}:wpS W (.expr e) De ES Z M=wpE W e Z M (λ_ M1=>De.nx Z M1) (ES Z):=rfl
@[simp ↓] theorem F9{e}:wpS W (.ret e) De ES Z M=wpE W e Z M De.rt (ES Z):=rfl
@[simp ↓] theorem Fo:wpS W .dead De ES Z M=False:=rfl
@[simp ↓] theorem EW{o f e}:wpS W (.Ke o f e) De ES Z M=wpE W e Z M (λy M1=>wpE W o Z M1 (fD W.toWB f y (De.nx Z)) (ES Z)) (ES Z):=rfl
@[simp ↓] theorem Dc{o i e}:wpS W (.v_ o i e) De ES Z M=wpE W e Z M (λy M1=>wpE W o Z M1 (λx M2=>wpE W i Z M2 (λk M3=>aY x k y M3 λM4=>De.nx Z M4) (ES Z)) (ES Z)) (ES Z):=rfl
@[simp ↓] theorem Gz{c a b}:wpS W (.ifs c a b) De ES Z M=wpT W c Z M (λk M1=>if k=true then aP W a De ES Z M1 else aP W b De ES Z M1) (ES Z):=rfl
def bC(W:WC)(tg:ITg)(body:ISs)(ES:St3->XN)(S:MH->Prop)(De:Ends3):List D->St3->MH->Prop:=jJ (wpG tg) (λD Z M=>aP W body D ES Z M) S De
@[simp ↓] theorem GP{tg it body}:wpS W (.Kh tg it body) De ES Z M=wpI W it Z M (λds S M1=>bC W tg body ES S De ds Z M1) (ES Z):=rfl
theorem bW{tg body S}:bC W tg body ES S De [] Z M=(S M/\De.nx Z M):=rfl
theorem aG{tg body S d r}:bC W tg body ES S De (d::r) Z M=(S M/\wpG tg d Z M λKo M2=>aP W body {De with nx:=bC W tg body ES S De r,ct:=bC W tg body ES S De r,bk:=De.nx} ES Ko M2):=rfl
@[simp ↓] theorem B4{c es}:wpS W (.raise c es) De ES Z M=wpA W es Z M (λxs M1=>xs.length<=sizeLine/\ES Z ⟨c,none⟩ M1) (ES Z):=rfl
@[simp ↓] theorem B1{c e}:wpS W (.KG c (.cons e .nil)) De ES Z M=wpE W e Z M (λy M1=>dM (W.xin c) λf=>rXp f y M1 λy'=>ES Z ⟨c,some (f,y')⟩ M1) (ES Z):=rfl
@[simp ↓] theorem FT{body hs}:wpS W (.Lo body hs) De ES Z M=aP W body De (λn_ i M'=>wpH W hs i De n_ M') Z M:=rfl
def tM(W:WC)(e:IE)(De:Ends3)(E:XN)(Z:St3):VK3:=λx M1=>match x with
  |.ref a=>match M1 a with
   |some (.lst _)=>wpE W e Z M1 (λy M2=>match M2 a with
    |some (.lst ds)=>ds.length<sizeLine/\De.nx Z (put M2 a (.lst (ds++[y])))
    |_=>False) E
   |_=>False
  |_=>False
@[simp ↓] theorem Go{o e}:wpS W (.app o e) De ES Z M=wpE W o Z M (tM W e De (ES Z) Z) (ES Z):=rfl
def lj(p:Addr)(De:Ends3)(Z:St3):VK3:=λy M2=>match M2 p with
    |some (.lst ds)=>ds.length<sizeLine/\De.nx Z (put M2 p (.lst (ds++[y])))
    |_=>False
@[simp ↓] theorem E0{e E p ds}:tM W e De E Z (.ref p) (put M p (.lst ds))=wpE W e Z (put M p (.lst ds)) (lj p De Z) E:=by
 unfold tM;simp only[ah];rfl
@[simp ↓] theorem DY{p ds y}:lj p De Z y (put M p (.lst ds))=(ds.length<sizeLine/\De.nx Z (put M p (.lst (ds++[y])))):=by
 unfold lj;simp only[ah,cM]
@[simp ↓] theorem mq{i d k}:wpG (.name i) d Z M k=k (Z.set i (some d)) M:=rfl
@[simp ↓] theorem GW{is d k}:wpG (.tup is) d Z M k=xL is Z k d M:=rfl
end
section
variable {i j:Int}{x:D}
@[simp ↓] theorem Hs:mS .Add (.int i) (.int j) M Q=Q (.int (i+j)) M:=rfl
@[simp ↓] theorem Hq:mS .Sub (.int i) (.int j) M Q=Q (.int (i-j)) M:=rfl
@[simp ↓] theorem Ho:mS .Mult (.int i) (.int j) M Q=(jA i j/\Q (.int (i*j)) M):=rfl
@[simp ↓] theorem HV:mS .FloorDiv (.int i) (.int j) M Q=(gq i j/\Q (.int (i / j)) M):=rfl
@[simp ↓] theorem HP:mS .Mod (.int i) (.int j) M Q=(0<j/\Q (.int (i % j)) M):=rfl
@[simp ↓] theorem Hz:mS .Pow (.int i) (.int j) M Q=(uN i j/\Q (.int (i ^ j.toNat)) M):=rfl
@[simp ↓] theorem fQ{fz x}:rBi (.sorted fz) [x] M Q=(match ai M x with
   |some ds=>match dJ ds with
    |some ps=>(ps.length<64/\ps.Nodup)/\∀qs:List IP,qs.Perm ps->qs.Pairwise (λa b=>ltP a b=true)->cf fz (qs.map prI) M Q
    |none=>False
   |none=>False):=rfl
@[simp ↓] theorem HF:rNeg (.int i) M Q=Q (.int (-i)) M:=rfl
@[simp ↓] theorem Iv:au .Lt (.int i) (.int j) M Q=Q (.bl (decide (i<j))) M:=rfl
@[simp ↓] theorem Iy:au .LtE (.int i) (.int j) M Q=Q (.bl (decide (i<=j))) M:=rfl
@[simp ↓] theorem ID:au .Gt (.int i) (.int j) M Q=Q (.bl (decide (j<i))) M:=rfl
@[simp ↓] theorem HY:au .Eq (.int i) (.int j) M Q=Q (.bl (decide (i=j))) M:=by simp[au,dh,rs,ai,plN,eqD]
@[simp ↓] theorem Ht:au .NotEq (.int i) (.int j) M Q=Q (.bl (!decide (i=j))) M:=by simp[au,dh,rs,ai,plN,eqD]
@[simp ↓] theorem Hi:au .NotEq (.str s) (.str t) M Q=Q (.bl (!decide (s=t))) M:=by simp[au,dh,rs,ai,plN,eqD]
@[simp ↓] theorem HB:au .Eq (.str s) (.str t) M Q=Q (.bl (decide (s=t))) M:=by simp[au,dh,rs,ai,plN,eqD]
@[simp ↓] theorem Hu:au .Is x .i_ M Q=Q (.bl x.isN) M:=by simp[au,tD]
@[simp ↓] theorem GG:au .IsNot x .i_ M Q=Q (.bl (!x.isN)) M:=by simp[au,tD]
@[simp] theorem Fa:(D.int i).isN=false:=rfl
@[simp] theorem EF:D.i_.isN=true:=rfl
@[simp ↓] theorem G6{d l}:aq (.tup (d::l)) (.int 0) M Q=Q d M:=by simp[aq,az,sN]
@[simp ↓] theorem HW{d e l}:aq (.tup (d::e::l)) (.int 1) M Q=Q e M:=by simp[aq,az,rK]
@[simp ↓] theorem Il{d e f l}:aq (.tup (d::e::f::l)) (.int 2) M Q=Q f M:=by simp[aq,az,sL]
@[simp ↓] theorem HZ{d e f g l}:aq (.tup (d::e::f::g::l)) (.int 3) M Q=Q g M:=by simp[aq,az,vg]
@[simp ↓] theorem Hh{d e f g h l}:aq (.tup (d::e::f::g::h::l)) (.int 4) M Q=Q h M:=by
 have:atI (d::e::f::g::h::l) 4=some h:=cK (j:=4) rfl;simp[aq,az,this]
theorem i0{ds y}(h:M a=some (.lst ds)):aq (.ref a) y M Q=aq (.g_ ds) y M Q:=by
 cases y<;>simp[aq,az,ai,h]
@[simp ↓] theorem DF{ds}:rBi (.list true) [.g_ ds] M Q=(ds.length<=sizeLine/\Q (.g_ ds) M):=rfl
@[simp ↓] theorem Io{d l}:aq (.g_ (d::l)) (.int 0) M Q=Q d M:=by simp[aq,az,ai,sN]
@[simp ↓] theorem G5{d e l}:aq (.g_ (d::e::l)) (.int 1) M Q=Q e M:=by simp[aq,az,ai,rK]
@[simp ↓] theorem Hr{d e f l}:aq (.g_ (d::e::f::l)) (.int 2) M Q=Q f M:=by simp[aq,az,ai,sL]
@[simp ↓] theorem HR{d e f g l}:aq (.g_ (d::e::f::g::l)) (.int 3) M Q=Q g M:=by simp[aq,az,ai,vg]
@[simp ↓] theorem Fj{ds}:rBi .len [.tup ds] M Q=Q (.int ds.length) M:=rfl
@[simp ↓] theorem Fe{ds}:rBi .len [.g_ ds] M Q=Q (.int ds.length) M:=rfl
@[simp ↓] theorem G3:rBi .max [.int i,.int j] M Q=Q (.int (if j > i then j else i)) M:=rfl
@[simp ↓] theorem Hn{ds}:cf true ds M Q=(ds.length<=sizeLine/\Q (.g_ ds) M):=by simp[cf]
@[simp ↓] theorem Gu{ds es}:dn true (.g_ ds) (.g_ es) M Q=((ds++es).length<=sizeLine/\Q (.g_ (ds++es)) M):=by simp[dn,ai,cf]
@[simp ↓] theorem Ia{ds}:cf false ds M Q=(ds.length<=sizeLine/\∀p,M p=none->Q (.ref p) (put M p (.lst ds))):=by simp[cf]
theorem aE(h:n<=1000):(n<=sizeLine)=True:=eq_true (Jw h (by decide))
@[simp ↓] theorem Fg{t}:hW t (.int i) M Q=Q (.bl (match t with|.int=>true|_=>false)) M:=rfl
@[simp ↓] theorem EN{t ds}:hW t (.tup ds) M Q=Q (.bl (match t with|.tuple=>true|_=>false)) M:=rfl
end
section
variable {W:WC}{tg:ITg}{cond:ITO}{y_:IE}{p:Addr}{Q:VK3}{Z:St3}{M:MH}{ys:List D}
@[simp ↓] theorem EV{ds}:jg Q (.ref p) (put M p (.lst ds))=Q (.g_ ds) (L2.del (put M p (.lst ds)) p):=by
 simp only[jg,ah]
theorem sy{d r}:gj W tg cond y_ (λ_=>True) p Q (d::r) ys Z M=(ys.length<sizeLine/\wpG tg d Z M λKo M2=>fK W cond Ko M2 (λb M3=>if b=true then wpE W y_ Ko M3 (λy M4=>M4 p=some (.lst ys)/\gj W tg cond y_ (λ_=>True) p Q r (ys++[y]) Ko (put M4 p (.lst (ys++[y])))) (λ_ _=>False) else gj W tg cond y_ (λ_=>True) p Q r ys Ko M3) (λ_ _=>False)):=by
 show (True/\_)=_;rw[true_and];rfl
def Fm(M:MH):Prop:=∃n,∀p,n<=p->M p=none
theorem Fm.nil:Fm (λ_=>none):=⟨0,λ_ _=>rfl⟩
theorem sV{M:MH}(h:Fm M){p:Prop}:(∀a:Addr,M a=none->p)=p:=propext ⟨λf=>let ⟨n,k⟩:=h;f n (k n (Jg _)),λf _ _=>f⟩
theorem Fm.put{M:MH}(h:Fm M)(p:Addr)(o:DO):Fm (put M p o):=by
 obtain⟨n,h⟩:=h;refine⟨max n (p+1),λq hq=>?_⟩
 rw[af (Nat.ne_of_gt (Nat.lt_of_succ_le (Jw (Nat.le_max_right n (p+1)) hq)))];exact h q (Jw (Nat.le_max_left _ _) hq)
theorem ay{M:MH}(hM:Fm M){P:Addr->Prop}{q:Prop}(h:∀p,M p=none->P p=q):(∀p,M p=none->P p)=q:=by
 rw[<-sV hM (p:=q)];exact forall_congr λp=>implies_congr_ctx rfl λhp=>h p hp
theorem D8{cs:List Int}(h1 : -(cs.length:Int)<=i)(h2:i<cs.length):∃x,atI (cs.map D.int) i=some (.int x):=by
 unfold atI ixN;rw[Jh];by_cases h:0<=i
 ·have hk:i.toNat<cs.length:=by omega
  rw[Jc h,Jc h2];exact⟨cs[i.toNat],by simp[Jt hk]⟩
 ·have hk:(i+cs.length).toNat<cs.length:=by omega
  rw[IY h,Jc h1];exact⟨cs[(i+cs.length).toNat],by simp[Jt hk]⟩
theorem cg(h:atI ds i=some x):aq (.g_ ds) (.int i) M Q=Q x M:=by simp[aq,az,ai,h]
theorem ba(h:put M p o q=none):q≠p/\M q=none:=by
 unfold put at h;split at h
 ·cases h
 ·exact⟨by assumption,h⟩
def Ext(M M':MH):Prop:=Fm M'/\∀a o,M a=some o->M' a=some o
theorem Ext.put{M:MH}(hM:Fm M){p:Addr}(h:M p=none)(o:DO):Ext M (put M p o):=⟨hM.put _ _,λa u e=>by rw[af (λz=>by rw[z,h]at e;cases e)];exact e⟩
section
variable {W:WC}{Z:St3}{M:MH}{Q:VK3}{tg:ITg}{cond:ITO}{y_:IE}{p:Addr}{S:MH->Prop}
theorem o5{d:D}{r ys:List D}:gj W tg cond y_ S p Q (d::r) ys Z M=(S M/\ys.length<sizeLine/\wpG tg d Z M λKo M2=>fK W cond Ko M2 (λb M3=>if b=true then wpE W y_ Ko M3 (λy M4=>M4 p=some (.lst ys)/\gj W tg cond y_ S p Q r (ys++[y]) Ko (put M4 p (.lst (ys++[y])))) (λ_ _=>False) else gj W tg cond y_ S p Q r ys Ko M3) (λ_ _=>False)):=rfl
theorem fV{α:Type}(φ:α->D)(P:St3->Prop)(st:α->St3)(c:α->Bool)(f:α->D):∀(ds:List α)(ys:List D)(Z:St3) {M:MH},P Z->Fm M->M p=none->ys.length+ds.length<sizeLine->(∀M',Ext M M'->S M')->
  (∀d∈ds,P (st d)/\∀Z,P Z->∀(M:MH)(k:St3->MH->Prop),wpG tg (φ d) Z M k=k (st d) M)->
  (∀d∈ds,∀M',Ext M M'->∀Q:Bool->MH->Prop,fK W cond (st d) M' Q (λ_ _=>False)=Q (c d) M')->
  (∀d∈ds,c d=true->∀M',Ext M M'->∀Q,wpE W y_ (st d) M' Q (λ_ _=>False)=Q (f d) M')->
  gj W tg cond y_ S p Q (ds.map φ) ys Z (put M p (.lst ys))=Q (.ref p) (put M p (.lst (ys++(ds.filter c).map f)))
 |[],ys,Z,M,h0,hM,hp,hl,hS,hg,hc,he=>by
  show (S (put M p (.lst ys))/\Q (.ref p) (put M p (.lst ys)))=_;simp[hS _ (.put hM hp _)]
 |d::ds,ys,Z,M,h0,hM,hp,hl,hS,hg,hc,he=>by
  have L5:ys.length+(ds.length+1)<sizeLine:=hl;obtain⟨g1,g2⟩:=hg d Jd;have ih:=λys hy=>fV φ P st c f ds ys (st d) g1 hM hp hy hS (λe h=>hg e (IX _ h)) (λe h=>hc e (IX _ h)) (λe h=>he e (IX _ h))
  rw[Ji,o5,g2 Z h0,hc d Jd _ (.put hM hp _),eq_true (hS _ (.put hM hp _)),true_and];cases q:c d with
  |true=>
   rw[Jc rfl,he d Jd q _ (.put hM hp _),ah,cM,ih _ (by rw[JG,List.length_singleton];omega)]
   simp only[List.filter_cons,q,if_true,Ji,List.append_assoc,List.singleton_append,true_and];rw[eq_true (show ys.length<sizeLine by omega),true_and]
  |false=>
   rw[IY Jx,ih _ (by omega)]
   simp only[List.filter_cons,q,JE,if_false];rw[eq_true (show ys.length<sizeLine by omega),true_and]
theorem dS{α:Type}{ds:List α}(φ:α->D)(P:St3->Prop)(st:α->St3)(c:α->Bool)(f:α->D)(h0:P Z)(hM:Fm M)(hl:ds.length<10000)
  (hg:∀d∈ds,P (st d)/\∀Z,P Z->∀(M:MH)(k:St3->MH->Prop),wpG tg (φ d) Z M k=k (st d) M)
  (hc:∀d∈ds,∀M',Ext M M'->∀Q:Bool->MH->Prop,fK W cond (st d) M' Q (λ_ _=>False)=Q (c d) M')
  (he:∀d∈ds,c d=true->∀M',Ext M M'->∀Q,wpE W y_ (st d) M' Q (λ_ _=>False)=Q (f d) M') (hS:∀M',Ext M M'->S M':=by exact λ_ _=>trivial) :
  gv W tg cond y_ S Q (ds.map φ) Z M=Q (.g_ ((ds.filter c).map f)) M:=
 ay hM λp hp=>(fV φ P st c f ds [] Z h0 hM hp (by rw[List.length_nil,Nat.zero_add];exact Nat.lt_trans hl (by decide)) hS hg hc he).trans (by simp[jg,ah,fU hp])
theorem aT{α:Type}{aC:St3}{x:Option D}{ds:List α}(φ:α->D)(c:α->Bool)(f:α->D)(hM:Fm M)(hl:ds.length<10000)
  (hc:∀d∈ds,∀M',Ext M M'->∀Q:Bool->MH->Prop,fK W cond (some (φ d)::aC) M' Q (λ_ _=>False)=Q (c d) M')
  (he:∀d∈ds,c d=true->∀M',Ext M M'->∀Q,wpE W y_ (some (φ d)::aC) M' Q (λ_ _=>False)=Q (f d) M') (hS:∀M',Ext M M'->S M':=by exact λ_ _=>trivial) :
  gv W (.name 0) cond y_ S Q (ds.map φ) (x::aC) M=Q (.g_ ((ds.filter c).map f)) M:=
 dS φ (λZ=>∃y,Z=y::aC) (λd=>some (φ d)::aC) c f ⟨x,rfl⟩ hM hl (λd _=>⟨⟨_,rfl⟩,λZ ⟨y,e⟩ M k=>by subst e;rfl⟩) hc he hS
end
theorem w6(P:St3->Prop)(h0:P Z)(step:∀d∈ds,∀Z,P Z->∀k:St3->MH->Prop,(∀n_,P n_->k n_ M)->wpG tg d Z M λKo M2=>aP W body {De with nx:=k,ct:=k,bk:=De.nx} ES Ko M2)(done:∀Z,P Z->De.nx Z M) :
  bC W tg body ES (λ_=>True) De ds Z M:=by
 induction ds generalizing Z with
 |nil=>rw[bW];exact⟨trivial,done Z h0⟩
 |cons d ds ih=>
  rw[aG];exact⟨trivial,step d Jd Z h0 _ λn_ p=>ih p λe he=>step e (IX _ he)⟩
theorem ud(P:St3->Prop)(hS:S M)(h0:P Z)(step:∀d∈ds,∀Z,P Z->∀k:St3->MH->Prop,(∀n_,P n_->k n_ M)->wpG tg d Z M λKo M2=>aP W body {De with nx:=k,ct:=k,bk:=De.nx} ES Ko M2)(done:∀Z,P Z->De.nx Z M) :
  bC W tg body ES S De ds Z M:=by
 induction ds generalizing Z with
 |nil=>rw[bW];exact⟨hS,done Z h0⟩
 |cons d ds ih=>
  rw[aG];exact⟨hS,step d Jd Z h0 _ λn_ p=>ih p λe he=>step e (IX _ he)⟩
theorem sU(g:α->D)(f:α->Bool)(xs:List α)(h:∀x∈xs,g x=.bl (f x)):fE (xs.map g)=some (xs.map f):=by
 induction xs with
 |nil=>rfl
 |cons a r ih=>
  rw[Ji,h a Jd];simp only[fE];rw[ih λx hx=>h x (IX _ hx)]
  rfl
theorem vV(f:α->Bool){xs:List α}(h:∀x∈xs,g x=.bl (f x)):rBi .all [.g_ (xs.map g)] M Q=Q (.bl (xs.all f)) M:=by
 simp only[rBi,ai,sU g f xs h];simp[List.all_map,Function.comp_def]
end
end L2
namespace L2
open PySem PySem.NumText PyProof.Rows StrLaws
end L2
namespace HD
open PySem PySem.W PyProof.Rows L2
noncomputable def pw:Program:=PySem.Challenge.pw_driftmeet_k53_news
noncomputable def top(i:Nat):Stmt:=PySem.Challenge.pw_driftmeet_k53_news.main.body.getD i (.Pass ⟨0,0,0,0⟩)
noncomputable abbrev R(a:Nat):Value:=.ref a
noncomputable abbrev I(i:Nat):Value:=.int i 0
noncomputable abbrev e(P:Params)(s:String)(t:Nat)(v:Value):DictEntry:=⟨PyData.keyHash P s,.str s t,v⟩
noncomputable abbrev co(n:String)(a:Nat)(m:String)(b c d e g h i j:Nat)(k:Bool)(l o q r s:Nat):Data:=.fields #[.str n a,.str m b,.str "/claim/cut.py" c,I d,I e,I g,I h,I i,R j,.bool k,I l,R o,.none,.none,.none,.none,I q,I r,.str "/claim/cut.py" s]
noncomputable abbrev cp(n:String)(a:Nat)(m:String)(b c d e g h i j:Nat)(k:Bool)(l o x y z q r s:Nat):Data:=.fields #[.str n a,.str m b,.str "/claim/cut.py" c,I d,I e,I g,I h,I i,R j,.bool k,I l,R o,.none,R x,R y,R z,I q,I r,.str "/claim/cut.py" s]
noncomputable abbrev v0:Value:=.type "dict"
noncomputable abbrev v1:Value:=.type "object"
noncomputable abbrev v2:Value:=.str "driftmeet.errors" 194
noncomputable abbrev v3:Value:=.type "type"
noncomputable abbrev v4:Value:=.builtin "object.__new__"
noncomputable abbrev v5:Value:=.type "ValueError"
noncomputable abbrev v6:Value:=.str "driftmeet.happenings" 360
noncomputable abbrev v7:Value:=.builtin "ValueError.__new__"
noncomputable abbrev F:=Params->Obj
noncomputable abbrev fo(n q:String)(s:Stmt)(m:String)(t c:Nat):F:=λ_=>⟨.type "function",none,.func (fnOf n q (bV s) (bn s) (aw s) .none .none .none (.str m t) none (.ref c) .none),#[]⟩
noncomputable abbrev fp(n q:String)(s:Stmt):F:=λ_=>⟨.none,none,.func {fnOf n q (bV s) (bn s) (aw s) .none .none .none .none none .none .none with globals:=0,builtins:=0},#[]⟩
noncomputable abbrev vf(l:Array Value):F:=λ_=>⟨.none,none,.fields l,#[]⟩
noncomputable abbrev tu(l:Array Value):F:=λ_=>⟨.type "tuple",none,.seq l 0,#[]⟩
noncomputable abbrev cd(d:Data):F:=λ_=>⟨.type "code",none,d,#[]⟩
noncomputable abbrev bf(a:String)(b:Nat):F:=λ_=>⟨.type "builtin_function_or_method",none,.fields #[.builtin a,.ref b],#[]⟩
noncomputable abbrev n(o:F)(x y:Params->W.BT):Params->W.BT:=λP=>.node (o P) (x P) (y P)
noncomputable abbrev z:Params->W.BT:=λ_=>.nil
noncomputable abbrev l(o:F):Params->W.BT:=λP=>.node (o P) .nil .nil
noncomputable abbrev x0(a:String)(b:Nat)(c:String)(d:Nat)(f:Nat)(g:Nat)(h:Nat):F:=cd (cp a b c (b+1) (b+2) d f 0 0 3 g true 181 (g+1) (g+2) (g+3) (g+4) h d (h+1))
noncomputable abbrev x1(a:String)(b:String)(c:Nat)(d:Nat):F:=fp a b (ak (top c) d)
noncomputable abbrev x2(a:String)(b:String)(c:Nat)(d:Nat)(f:String)(g:Nat)(h:Nat):F:=fo a b (ak (top c) d) f g h
noncomputable abbrev x3(a:String)(b:Nat):F:=fp a a (top b)
noncomputable abbrev x4(a:String)(b:Nat)(c:String)(d:Nat)(f:Nat):F:=fo a a (top b) c d f
noncomputable abbrev x5(a:String)(b:Nat)(c:String)(d:String):F:=tu #[(.str a b),(.str c (b+1)),(.str d (b+2))]
noncomputable abbrev x6(a:String)(b:Nat)(c:Nat)(d:Nat):F:=cd (co a b a (b+1) (b+2) c 0 0 0 0 d false 181 (d+1) (b+3) c (b+4))
noncomputable abbrev x7(a:Nat)(b:Nat)(c:String)(d:Nat):F:=λ_=>⟨(.type "frame"),none,.plain,#[some (R a),some (R 3),some (R b),none,some (.str c d),none,some (R 0)]⟩
noncomputable abbrev x8(a:Nat):F:=λ_=>⟨(.type "super"),none,(.fields #[(R a),(R a),(R a)]),#[]⟩
noncomputable abbrev x9(a:Nat):F:=bf "object.__init_subclass__" a
noncomputable abbrev x10(a:String)(b:Nat)(c:String):F:=tu #[(.str a b),(.str c (b+1))]
noncomputable abbrev x11(a:String)(b:Nat):F:=tu #[(.str a b)]
noncomputable abbrev x12(a:String)(b:Nat)(c:String)(d:Nat)(f:Nat)(g:Nat):F:=cd (.fields #[(.str a b),(.str c (b+1)),(.str "/claim/cut.py" (b+2)),(I d),(I f),(I 0),(I 0),(I 3),(R g),(.bool true),(I 181),(R (g+1)),.none,.none,.none,(R (g+2)),(I (b+3)),(I d),(.str "/claim/cut.py" (b+4))])
noncomputable abbrev x13(a:Nat)(b:String)(c:Nat)(d:Nat):F:=λP=>⟨v0,none,(.dict #[e P "__module__" a v2,e P "__qualname__" (a+2) (.str b (a+1)),e P "__firstlineno__" (a+4) (.int c (a+3)),e P "__static_attributes__" (a+5) (R d)] 4),#[]⟩
noncomputable abbrev x14(a:String)(b:Nat)(c:Nat)(d:Nat):F:=λ_=>⟨v3,none,(.cls ⟨a,[(R 31)],[(R b),(R 31),v5,(.type "Exception"),(.type "BaseException"),v1],(b-1),a,true,[],[],false,none,false⟩),#[some (R c),none,some (.str a d),some (.str a (d+8)),some v7,some (.bool true)]⟩
noncomputable abbrev x15(a:Nat)(b:Nat)(c:Nat):F:=λP=>⟨v0,none,(.dict #[e P "__module__" a v2,e P "__firstlineno__" (a+4) (.int b (a+3)),e P "__static_attributes__" (a+5) (R c),e P "__doc__" (a+6) .none] 2),#[]⟩
noncomputable abbrev x16(a:String)(b:Nat)(c:String)(d:String)(f:String):F:=tu #[(.str a b),(.str c (b+1)),(.str d (b+2)),(.str f (b+3))]
noncomputable abbrev x17(a:Nat)(b:Nat):F:=λ_=>⟨(.type "getset_descriptor"),none,(.fields #[(.str "__weakref__" a),(R b),(.builtin "ExceptionGroup.__weakref__"),.none]),#[]⟩
noncomputable abbrev x18(a:Nat)(b:Nat)(c:Nat)(d:Nat)(f:String)(g:Nat)(h:Nat)(i:String)(j:Nat)(k:Nat)(m:String)(o:Nat)(p:Nat):F:=λP=>⟨v0,none,(.dict #[e P "__module__" a v6,e P "__firstlineno__" (a+4) (.int b (a+3)),e P "__init__" c (R d),e P f g (R h),e P i j (R k),e P m o (R (k+1)),e P "__doc__" (o+1) .none] p),#[]⟩
noncomputable abbrev x19(a:Nat)(b:Nat):F:=λ_=>⟨(.type "getset_descriptor"),none,(.fields #[(.str "__dict__" a),(R b),(.builtin "function.__dict__"),(.builtin "function.__dict__#set")]),#[]⟩
noncomputable abbrev x20(a:Nat)(b:String)(c:Nat)(d:Nat)(f:Nat)(g:Nat):F:=λP=>⟨v0,none,(.dict #[e P "__module__" a v6,e P "__qualname__" (a+2) (.str b (a+1)),e P "__firstlineno__" (a+4) (.int c (a+3)),e P "__init__" d (R f),e P "row" (d+7) (R (f+7)),e P "own_bounds" (d+16) (R (f+14)),e P "__static_attributes__" g (R (f+15))] 7),#[]⟩
noncomputable abbrev x21(a:Nat)(b:Nat)(c:Nat):F:=vf #[(I a),(I 4),(R b),(I c),(I 4),(R (b+7)),(I (c+3)),(I 4),(R (b+14))]
noncomputable abbrev x22(a:String)(b:Nat)(c:Nat):F:=λ_=>⟨v3,none,(.cls ⟨a,[(R 161)],[(R b),(R 161),v1],(b-1),a,true,[],[],false,none,false⟩),#[some (R (b-30)),none,some (.str a c),some (.str a (c+8)),some v4,some (.bool true)]⟩
noncomputable abbrev x23(a:String)(b:Nat)(c:String)(d:String)(f:String)(g:String):F:=tu #[(.str a b),(.str c (b+1)),(.str d (b+2)),(.str f (b+3)),(.str g (b+4))]
noncomputable abbrev x24(a:String)(b:Nat)(c:Nat):F:=λ_=>⟨v3,none,(.cls ⟨a,[v1],[(R b),v1],(b-1),a,true,[],[],false,none,false⟩),#[none,none,some (.str a c),some (.str a (c+8)),some v4,some (.bool true)]⟩
noncomputable abbrev x25(a:Nat)(b:Nat)(c:String)(d:Nat)(f:Nat)(g:String)(h:Nat)(i:Nat):F:=λP=>⟨v0,none,(.dict #[e P "__module__" a v2,e P "__firstlineno__" (a+4) (.int b (a+3)),e P c d (R f),e P g (d+2) (R h),e P "__doc__" (d+3) .none] i),#[]⟩
noncomputable abbrev x26(a:Nat)(b:String)(c:Nat)(d:String)(f:Nat)(g:Nat)(h:Nat)(i:Nat):F:=λP=>⟨v0,none,(.dict #[e P "__module__" a (.str b c),e P "__qualname__" (a+2) (.str d (a+1)),e P "__firstlineno__" (a+4) (.int f (a+3)),e P "__init__" g (R h),e P "__static_attributes__" i (R (h+1))] 5),#[]⟩
noncomputable def o0:F:=tu #[]
noncomputable def o1:F:=vf #[]
noncomputable def o2:F:=x6 "<module>" 182 1 11
noncomputable def o3:F:=x7 13 3 "__main__" 164
noncomputable def o11:F:=λ_=>⟨(.type "builtin_function_or_method"),none,(.fields #[(.builtin "type.__prepare__"),v3]),#[]⟩
noncomputable def o20:F:=tu #[(R 31)]
noncomputable def wQ:F:=tu #[(R 161)]
noncomputable def env:Env:={scope:=pw.main.scope,locals:=mainNs,globals:=mainNs,cells:=[],code:=(R 13),frame:=some 14}
noncomputable def bE:List Stmt:=behindTheImports pw
noncomputable def b(i:Nat):Stmt:=bE.getD i (.Pass ⟨0,0,0,0⟩)
noncomputable def cE:Code:=.body bE env
noncomputable def qF:List Frame:=[topFrame ⟨0,0,0,0⟩]
noncomputable def an:Option Value:=(some (R 6))
noncomputable def hA(P:Params):Heap:=⟨⟨[boot_o_0 P,boot_o_1 P,boot_o_2 P,boot_o_3 P,boot_o_4 P,boot_o_5 P,boot_o_6 P,boot_o_7 P,boot_o_8 P,boot_o_9 P,boot_o_10 P,o0 P,o1 P,o2 P,o3 P]⟩,{}⟩
noncomputable def sA(w:World)(os:OsState):Shared:=⟨hA w.params,⟨[]⟩,{},187,os⟩
noncomputable def t0:Params->W.BT:=(n boot_o_0 (n boot_o_1 (n boot_o_3 (l boot_o_7) (l o0)) (n boot_o_5 (l boot_o_9) (l o2))) (n boot_o_2 (n boot_o_4 (l boot_o_8) (l o1)) (n boot_o_6 (l boot_o_10) (l o3))))
noncomputable def s0(w:World)(os:OsState):SharedT:=⟨t0 w.params,15,{},⟨[]⟩,{},187,os⟩
noncomputable def t1:Params->W.BT:=(n boot_o_0 (n boot_o_1 (n (λP=>⟨v0,none,(.dict #[e P "__name__" 165 (.str "law_driftmeet_k53_news" 951),e P "__doc__" 166 .none,e P "__package__" 167 .none,e P "__loader__" 168 (.builtin "__main__.__loader__#opaque"),e P "__spec__" 169 .none,e P "__annotations__" 170 (R 6),e P "__builtins__" 171 (R 4),e P "__file__" 173 (.str "/claim/cut.py" 172),e P "__cached__" 174 .none,e P "_wall" 193 (R 21),e P "DriftError" 213 (R 31),e P "NoStretch" 229 (R 44),e P "NoHand" 245 (R 56),e P "NoClock" 261 (R 68),e P "NoWay" 277 (R 80),e P "NoHappening" 293 (R 92),e P "Backward" 318 (R 111),e P "NoLetter" 334 (R 123),e P "NoName" 350 (R 135),e P "is_whole" 359 (R 144),e P "Happening" 392 (R 161),e P "Look" 433 (R 196),e P "Sight" 478 (R 229),e P "Send" 521 (R 262),e P "Take" 564 (R 295),e P "are_wholes" 570 (R 302),e P "is_letter" 577 (R 309),e P "happening" 585 (R 316),e P "count_on" 596 (R 323),e P "names" 606 (R 330),e P "Ahead" 645 (R 354),e P "refuse_by_clock" 655 (R 365),e P "refuse_by_kind" 664 (R 372),e P "check" 675 (R 379),e P "place" 685 (R 386),e P "last_of" 691 (R 391),e P "last_reading" 697 (R 396),e P "count_letter" 706 (R 403),e P "past" 720 (R 410),e P "cut" 726 (R 415),e P "view" 735 (R 422),e P "Meeting" 824 (R 486),e P "MOST_HANDS" 828 (.int 6 827),e P "refuse_clock" 836 (R 497),e P "refuse_lengths" 844 (R 504),e P "World" 950 (R 577),e P "_law_cell_at" 960 (R 588),e P "_law_ways" 972 (R 595),e P "_law_row" 985 (R 602),e P "_law_log" 991 (R 607),e P "_law_kinds" 1000 (R 614),e P "_law_word" 1011 (R 621),e P "_law_right" 1017 (R 626),e P "_law_spoilt" 1023 (R 631),e P "_law_let_by" 1032 (R 638),e P "law" 1038 (R 643)] 56),#[]⟩) (n boot_o_7 (n o0 (n (λ_=>⟨v3,none,(.cls ⟨"DriftError",[v5],[(R 31),v5,(.type "Exception"),(.type "BaseException"),v1],30,"DriftError",true,[],[(R 44),(R 56),(R 68),(R 80),(R 92),(R 111),(R 123),(R 135)],false,none,false⟩),#[some (R 22),none,some (.str "DriftError" 196),some (.str "DriftError" 204),some v7,some (.bool true)]⟩) (n o1 (n o11 (n (x5 "self" 511 "world" "name") (l (x7 510 507 "driftmeet.worlds" 825)) z) (n o0 (l o0) z)) (n (x1 "own_bounds" "Look.own_bounds" 15 2) (n (x5 "counts" 591 "hand" "ahead") (l (x10 "kept_clocks" 941 "kept_ways")) z) (l o0))) (n o20 (n (x10 "hand" 383 "reading") (n o1 (l o0) z) (l (x4 "cut" 34 "driftmeet.logs" 586 414))) (n o0 (n (x2 "enter" "Ahead.enter" 25 1 "driftmeet.logs" 586 350) (l (x4 "_law_log" 47 "law_driftmeet_k53_news" 951 606)) z) (l (x16 "self" 808 "hand" "x" "y"))))) (n o20 (n (x15 269 13 78) (n (x0 "is_whole" 353 "is_whole" 27 1 138 357) (n (x7 270 267 "driftmeet.happenings" 360) (l o1) z) (l (x5 "counts" 701 "one" "sender"))) (n o1 (n (vf #[(I 109),(I 4),(R 343),(I 114),(I 4),(R 350)]) (l (tu #[(.str "_law_hands" 964),(.str "_law_cell" 965),(.str "_law_ways_here" 966),(.str "_law_number" 967),(.str "_law_one" 968),(.str "_law_other" 969)])) z) (l (x0 "heard" 782 "Meeting.heard" 187 2 458 788)))) (n (x14 "Backward" 111 95 294) (n (x5 "self" 408 "hand" "reading") (n o0 (l (x0 "has_way" 915 "World.has_way" 252 3 554 921)) z) (l o1)) (n o0 (n o1 (l o1) z) (l (x3 "refuse_clock" 40)))))) (n o11 (n o1 (n o20 (n (x14 "NoName" 135 126 335) (n (x8 262) (l o0) z) (l (x4 "last_of" 30 "driftmeet.logs" 586 390))) (n wQ (n o0 (l o1) z) (l (x1 "tell" "Meeting.tell" 37 3)))) (n o1 (n o11 (n (x22 "Take" 295 522) (l (x1 "has_hand" "World.has_hand" 42 5)) z) (l o0)) (n (x9 229) (n o0 (l o0) z) (l (x19 818 486))))) (n (x15 237 9 54) (n o1 (n (x7 150 147 "driftmeet.happenings" 360) (n o0 (l (x5 "self" 894 "one" "other")) z) (l o0)) (n (x11 "self" 460) (n (x0 "__init__" 619 "Ahead.__init__" 109 1 338 623) (l o0) z) (l o1))) (n (x6 "NoLetter" 321 22 117) (n o0 (n o1 (l (x2 "clock" "World.clock" 42 7 "driftmeet.worlds" 825 566)) z) (l (x11 "self" 761))) (n o1 (n (x23 "world" 668 "log" "ahead" "row" "one") (l (x4 "_law_spoilt" 51 "law_driftmeet_k53_news" 951 630)) z) (l (x0 "refuse_lengths" 837 "refuse_lengths" 212 2 498 842))))))) (n o0 (n (x3 "_wall" 0) (n o20 (n (x15 253 11 66) (n (x6 "NoName" 337 24 129) (n (x2 "own_bounds" "Send.own_bounds" 17 2 "driftmeet.happenings" 360 258) (l o0) z) (n o0 (l (x4 "law" 53 "law_driftmeet_k53_news" 951 642)) z)) (n (x18 400 35 413 179 "row" 420 186 "own_bounds" 429 193 "__static_attributes__" 430 2) (n (x4 "count_on" 23 "driftmeet.logs" 586 322) (l (x17 946 577)) z) (l o0))) (n (vf #[(I 19),(I 4),(R 107)]) (n (x17 388 161) (n (x0 "own_bounds" 551 "Take.own_bounds" 77 3 286 557) (l o0) z) (l o0)) (n (x10 "early" 473 "late") (n (x19 639 354) (l o0) z) (l (x2 "between" "Meeting.between" 37 7 "driftmeet.meeting" 736 482))))) (n o1 (n o20 (n (x26 369 "driftmeet.happenings" 360 "Happening" 30 382 158 385) (n o0 (l (x0 "refuse_hand" 883 "World.refuse_hand" 236 2 526 888)) z) (l (x4 "count_letter" 32 "driftmeet.logs" 586 402))) (n (x0 "__init__" 446 "Sight.__init__" 47 5 206 454) (n o1 (l (x4 "_law_ways" 45 "law_driftmeet_k53_news" 951 594)) z) (l (x1 "news" "Meeting.news" 37 5)))) (n o11 (n (x2 "__init__" "Look.__init__" 15 0 "driftmeet.happenings" 360 178) (n (x3 "is_letter" 20) (l (x10 "self" 927 "hand")) z) (l (x0 "__init__" 750 "Meeting.__init__" 171 2 430 755))) (n (x1 "__init__" "Send.__init__" 17 0) (n (x0 "refuse_by_kind" 656 "refuse_by_kind" 127 3 366 662) (l o0) z) (l o1))))) (n (x6 "DriftError" 198 5 25) (n (x15 221 7 42) (n o1 (n o1 (n (x20 529 "Take" 68 543 278 561) (l (x1 "enter_way" "World.enter_way" 42 1)) z) (l (x12 "last_reading" 692 "last_reading" 149 2 392))) (n (x21 47 211 52) (n o0 (l (x0 "_law_cell_at" 953 "_law_cell_at" 264 2 582 958)) z) (l o1))) (n (x0 "__init__" 306 "Backward.__init__" 19 2 102 311) (n (x6 "Look" 395 35 169) (n o1 (l o1) z) (l (vf #[(I 171),(I 4),(R 435),(I 175),(I 4),(R 442),(I 178),(I 4),(R 449),(I 183),(I 4),(R 456),(I 187),(I 4),(R 463),(I 192),(I 4),(R 468),(I 200),(I 4),(R 475),(I 203),(I 4),(R 482)]))) (n o0 (n (x3 "refuse_by_clock" 26) (l (x3 "_law_word" 49)) z) (l o0)))) (n o20 (n (x15 285 15 90) (n o0 (n (x1 "row" "Take.row" 18 1) (l (x2 "refuse_pair" "World.refuse_pair" 42 3 "driftmeet.worlds" 825 538)) z) (l o0)) (n (x2 "row" "Sight.row" 16 1 "driftmeet.happenings" 360 218) (n (x5 "self" 629 "one" "name") (l o0) z) (l (x0 "when" 797 "Meeting.when" 200 2 470 802)))) (n (x14 "NoLetter" 123 114 319) (n o0 (n (x0 "happening" 578 "happening" 83 1 310 583) (l o0) z) (l (x2 "log" "Meeting.log" 37 1 "driftmeet.meeting" 736 442))) (n (x0 "row" 501 "Send.row" 63 1 246 505) (n (x4 "check" 28 "driftmeet.logs" 586 378) (l o0) z) (l (λP=>⟨v0,none,(.dict #[e P "__module__" 852 (.str "driftmeet.worlds" 825),e P "__qualname__" 854 (.str "World" 853),e P "__firstlineno__" 856 (.int 217 855),e P "__init__" 871 (R 518),e P "enter_way" 882 (R 525),e P "refuse_hand" 890 (R 532),e P "refuse_pair" 899 (R 539),e P "hands" 906 (R 546),e P "has_hand" 914 (R 553),e P "has_way" 923 (R 560),e P "clock" 931 (R 567),e P "way" 940 (R 574),e P "__static_attributes__" 943 (R 575)] 13),#[]⟩)))))))) (n boot_o_5 (n boot_o_9 (n (x11 "k" 190) (n (x8 31) (n (x7 64 61 "driftmeet.errors" 194) (n o0 (n (x1 "own_bounds" "Send.own_bounds" 17 2) (l o1) z) (n (x0 "place" 676 "place" 141 2 380 683) (l (x3 "law" 53)) z)) (n (x2 "own_bounds" "Look.own_bounds" 15 2 "driftmeet.happenings" 360 192) (n (x3 "count_on" 23) (l (x24 "World" 577 845)) z) (l (x0 "with_row" 765 "Meeting.with_row" 178 2 444 771)))) (n (x26 301 "driftmeet.errors" 194 "Backward" 17 313 108 315) (n (λ_=>⟨v3,none,(.cls ⟨"Happening",[v1],[(R 161),v1],160,"Happening",true,[],[(R 196),(R 229),(R 262),(R 295)],false,none,false⟩),#[none,none,some (.str "Happening" 362),some (.str "Happening" 370),some v4,some (.bool true)]⟩) (n o0 (l (x0 "hands" 900 "World.hands" 246 1 540 904)) z) (l o1)) (n (x0 "own_bounds" 464 "Sight.own_bounds" 55 3 220 470) (n (λP=>⟨v0,none,(.dict #[e P "__module__" 614 (.str "driftmeet.logs" 586),e P "__firstlineno__" 618 (.int 107 617),e P "__init__" 625 (R 344),e P "enter" 634 (R 351),e P "__static_attributes__" 638 (R 352),e P "__dict__" 640 (R 355),e P "__weakref__" 642 (R 356),e P "__doc__" 643 .none] 4),#[]⟩) (l o1) z) (l (x1 "between" "Meeting.between" 37 7))))) (n (x13 237 "NoHand" 9 54) (n (x8 80) (n o0 (n o1 (l o0) z) (l (x3 "count_letter" 32))) (n o0 (n (x7 336 333 "driftmeet.logs" 586) (l (x3 "_law_ways" 45)) z) (l o0))) (n (x9 111) (n (x1 "__init__" "Look.__init__" 15 0) (n (x11 "thing" 574) (l o0) z) (l o0)) (n (x16 "self" 494 "hand" "reading" "to") (n o0 (l (x12 "_law_right" 1012 "_law_right" 327 6 622)) z) (l (x4 "refuse_clock" 40 "driftmeet.worlds" 825 496)))))) (n o0 (n (x7 40 37 "driftmeet.errors" 194) (n (x13 269 "NoWay" 13 78) (n (x9 135) (n wQ (l (x23 "self" 875 "one" "other" "least" "most")) z) (l o1)) (n (x20 441 "Sight" 45 456 212 475) (n (x0 "names" 597 "names" 101 1 324 604) (l o0) z) (l (x2 "tell" "Meeting.tell" 37 3 "driftmeet.meeting" 736 456)))) (n o0 (n o0 (n (x9 295) (l (x2 "has_hand" "World.has_hand" 42 5 "driftmeet.worlds" 825 552)) z) (l (λP=>⟨v0,none,(.dict #[e P "__module__" 745 (.str "driftmeet.meeting" 736),e P "__qualname__" 747 (.str "Meeting" 746),e P "__firstlineno__" 749 (.int 169 748),e P "__init__" 757 (R 436),e P "log" 764 (R 443),e P "with_row" 773 (R 450),e P "tell" 781 (R 457),e P "heard" 790 (R 464),e P "news" 796 (R 469),e P "when" 804 (R 476),e P "between" 814 (R 483),e P "__static_attributes__" 817 (R 484)] 12),#[]⟩))) (n o11 (n (x16 "world" 649 "ahead" "one" "last") (l (x23 "_law_meeting" 1004 "_law_hand" "_law_letter" "_law_word_here" "e")) z) (l (x8 486))))) (n (x8 56) (n (x7 88 85 "driftmeet.errors" 194) (n o1 (n (x11 "self" 547) (l (x1 "refuse_pair" "World.refuse_pair" 42 3)) z) (l (x0 "past" 707 "past" 155 3 404 718))) (n (x1 "row" "Sight.row" 16 1) (n o0 (l (x0 "_law_row" 973 "_law_row" 277 5 596 983)) z) (l o0))) (n o0 (n (x0 "row" 414 "Look.row" 40 1 180 418) (n o0 (l o1) z) (l (x1 "log" "Meeting.log" 37 1))) (n o0 (n (x3 "check" 28) (l o1) z) (l o0)))))) (n o2 (n (x4 "_wall" 0 "__main__" 164 20) (n (x13 221 "NoStretch" 7 42) (n (x8 68) (n o0 (n (x18 486 57 500 245 "row" 507 252 "own_bounds" 516 259 "__static_attributes__" 518 2) (l (x0 "__init__" 857 "World.__init__" 219 3 512 869)) z) (l (x3 "last_of" 30))) (n (x8 196) (n o1 (l (x9 577)) z) (l (x10 "self" 777 "row")))) (n (x7 100 97 "driftmeet.errors" 194) (n (x9 161) (n (x11 "letter" 560) (l (x10 "self" 910 "hand")) z) (l (x0 "view" 727 "view" 166 3 416 733))) (n (x22 "Sight" 229 434) (n (x8 354) (l (x0 "_law_kinds" 992 "_law_kinds" 306 1 608 998)) z) (l (λP=>⟨v0,none,(.dict #[e P "__module__" 745 (.str "driftmeet.meeting" 736),e P "__firstlineno__" 749 (.int 169 748),e P "__init__" 757 (R 436),e P "log" 764 (R 443),e P "with_row" 773 (R 450),e P "tell" 781 (R 457),e P "heard" 790 (R 464),e P "news" 796 (R 469),e P "when" 804 (R 476),e P "between" 814 (R 483),e P "__static_attributes__" 817 (R 484),e P "__dict__" 819 (R 487),e P "__weakref__" 821 (R 488),e P "__doc__" 822 .none] 4),#[]⟩))))) (n (x7 52 49 "driftmeet.errors" 194) (n (x13 285 "NoHappening" 15 90) (n (vf #[(I 32),(I 4),(R 157)]) (n (x0 "__init__" 534 "Take.__init__" 70 4 272 541) (l o0) z) (l o1)) (n o0 (n o0 (l o1) z) (l (x2 "news" "Meeting.news" 37 5 "driftmeet.meeting" 736 468)))) (n o0 (n o1 (n (x4 "is_letter" 20 "driftmeet.happenings" 360 308) (l (x1 "clock" "World.clock" 42 7)) z) (l o0)) (n (x2 "__init__" "Send.__init__" 17 0 "driftmeet.happenings" 360 244) (n o0 (l (x3 "_law_spoilt" 51)) z) (l o0))))) (n o0 (n (x8 44) (n (x7 76 73 "driftmeet.errors" 194) (n o0 (n (x21 70 277 74) (l (x2 "enter_way" "World.enter_way" 42 1 "driftmeet.worlds" 825 524)) z) (l o0)) (n (x7 204 201 "driftmeet.happenings" 360) (n (λP=>⟨v0,none,(.dict #[e P "__module__" 614 (.str "driftmeet.logs" 586),e P "__qualname__" 616 (.str "Ahead" 615),e P "__firstlineno__" 618 (.int 107 617),e P "__init__" 625 (R 344),e P "enter" 634 (R 351),e P "__static_attributes__" 638 (R 352)] 6),#[]⟩) (l o0) z) (l o0))) (n (x11 "last" 314) (n o0 (n (x12 "are_wholes" 565 "are_wholes" 79 2 298) (l o0) z) (l (x7 428 425 "driftmeet.meeting" 736))) (n (x6 "Send" 481 57 235) (n (x4 "refuse_by_clock" 26 "driftmeet.logs" 586 364) (l (x4 "_law_word" 49 "law_driftmeet_k53_news" 951 620)) z) (l (x10 "short" 832 "long"))))) (n (x13 253 "NoClock" 11 66) (n (x8 92) (n (x0 "__init__" 374 "Happening.__init__" 32 3 152 380) (n (x2 "row" "Take.row" 18 1 "driftmeet.happenings" 360 284) (l o1) z) (l (x3 "cut" 34))) (n o1 (n (x1 "enter" "Ahead.enter" 25 1) (l (x3 "_law_log" 47)) z) (l o0))) (n (x9 123) (n (x5 "self" 424 "world" "name") (n o0 (l (x0 "way" 932 "World.way" 258 3 568 938)) z) (l o1)) (n o0 (n o1 (l (x0 "_law_let_by" 1024 "_law_let_by" 344 2 632 1030)) z) (l (vf #[(I 219),(I 4),(R 517),(I 229),(I 4),(R 524),(I 236),(I 4),(R 531),(I 240),(I 4),(R 538),(I 246),(I 4),(R 545),(I 249),(I 4),(R 552),(I 252),(I 4),(R 559),(I 255),(I 4),(R 566),(I 258),(I 4),(R 573)]))))))))) (n boot_o_2 (n boot_o_4 (n boot_o_8 (n o1 (n (x17 209 31) (n (x6 "NoClock" 248 11 62) (n (x13 342 "NoName" 24 133) (n o0 (l o0) z) (n (x3 "place" 29) (l o1) z)) (n (x0 "own_bounds" 421 "Look.own_bounds" 43 3 187 427) (n o0 (l (λP=>⟨v0,none,(.dict #[e P "__module__" 852 (.str "driftmeet.worlds" 825),e P "__firstlineno__" 856 (.int 217 855),e P "__init__" 871 (R 518),e P "enter_way" 882 (R 525),e P "refuse_hand" 890 (R 532),e P "refuse_pair" 899 (R 539),e P "hands" 906 (R 546),e P "has_hand" 914 (R 553),e P "has_way" 923 (R 560),e P "clock" 931 (R 567),e P "way" 940 (R 574),e P "__static_attributes__" 943 (R 575),e P "__dict__" 945 (R 578),e P "__weakref__" 947 (R 579),e P "__doc__" 948 .none] 4),#[]⟩)) z) (l (x1 "with_row" "Meeting.with_row" 37 2)))) (n o11 (n (x18 369 30 382 158 "__static_attributes__" 385 159 "__dict__" 387 162 "__weakref__" 389 4) (n (x5 "self" 554 "world" "name") (l (x1 "hands" "World.hands" 42 4)) z) (l o0)) (n (x1 "own_bounds" "Sight.own_bounds" 16 2) (n (x5 "counts" 635 "readings" "untaken") (l o0) z) (l o0)))) (n o11 (n (x14 "NoWay" 80 71 262) (n (x4 "is_whole" 12 "driftmeet.wholes" 351 143) (n o0 (l (x10 "self" 886 "hand")) z) (l o0)) (n (x23 "self" 449 "hand" "reading" "early" "late") (n (x6 "Ahead" 609 107 334) (l o0) z) (l (x2 "heard" "Meeting.heard" 37 4 "driftmeet.meeting" 736 463)))) (n (x8 111) (n o0 (n o1 (l (x2 "has_way" "World.has_way" 42 6 "driftmeet.worlds" 825 559)) z) (l (x10 "self" 753 "world"))) (n o1 (n (x5 "world" 659 "ahead" "one") (l (x3 "_law_right" 50)) z) (l (x0 "refuse_clock" 829 "refuse_clock" 207 2 491 834)))))) (n (x13 203 "DriftError" 5 29) (n (x6 "NoStretch" 216 7 38) (n o11 (n (x8 135) (n (x9 262) (l o1) z) (l o0)) (n o11 (n (x3 "names" 24) (l (x10 "_law_script" 956 "_law_k")) z) (l (x0 "tell" 774 "Meeting.tell" 183 2 451 779)))) (n (x10 "self" 309 "last") (n (x20 400 "Look" 35 413 179 430) (n (x8 295) (l (x0 "has_hand" 907 "World.has_hand" 249 2 547 912)) z) (l o11)) (n wQ (n o1 (l o1) z) (l (x17 820 486))))) (n (x14 "NoHand" 56 47 230) (n (x6 "NoHappening" 280 15 86) (n o0 (n o1 (l o0) z) (l (x3 "past" 33))) (n o0 (n (x2 "__init__" "Ahead.__init__" 25 0 "driftmeet.logs" 586 343) (l (x3 "_law_row" 46)) z) (l (x10 "self" 800 "hand")))) (n (x7 119 116 "driftmeet.errors" 194) (n (x1 "row" "Look.row" 15 1) (n (x10 "row" 581 "word") (l o0) z) (l o0)) (n (x11 "self" 504) (n o0 (l o0) z) (l (x4 "refuse_lengths" 41 "driftmeet.worlds" 825 503))))))) (n (vf #[(I 1),(I 0),(R 20),(I 5),(I 0),(R 27),(I 7),(I 0),(R 40),(I 9),(I 0),(R 52),(I 11),(I 0),(R 64),(I 13),(I 0),(R 76),(I 15),(I 0),(R 88),(I 17),(I 0),(R 100),(I 22),(I 0),(R 119),(I 24),(I 0),(R 131),(I 27),(I 0),(R 143),(I 30),(I 0),(R 150),(I 35),(I 0),(R 171),(I 45),(I 0),(R 204),(I 57),(I 0),(R 237),(I 68),(I 0),(R 270),(I 79),(I 0),(R 301),(I 81),(I 0),(R 308),(I 83),(I 0),(R 315),(I 97),(I 0),(R 322),(I 101),(I 0),(R 329),(I 107),(I 0),(R 336),(I 121),(I 0),(R 364),(I 127),(I 0),(R 371),(I 134),(I 0),(R 378),(I 141),(I 0),(R 385),(I 146),(I 0),(R 390),(I 149),(I 0),(R 395),(I 151),(I 0),(R 402),(I 155),(I 0),(R 409),(I 164),(I 0),(R 414),(I 166),(I 0),(R 421),(I 169),(I 0),(R 428),(I 207),(I 0),(R 496),(I 212),(I 0),(R 503),(I 217),(I 0),(R 510),(I 264),(I 0),(R 587),(I 268),(I 0),(R 594),(I 277),(I 0),(R 601),(I 287),(I 0),(R 606),(I 306),(I 0),(R 613),(I 316),(I 0),(R 620),(I 327),(I 0),(R 625),(I 336),(I 0),(R 630),(I 344),(I 0),(R 637),(I 351),(I 0),(R 642)]) (n (x0 "_wall" 187 "_wall" 1 1 15 191) (n o11 (n (x14 "NoClock" 68 59 246) (n (x7 131 128 "driftmeet.errors" 194) (n (x11 "to" 517) (l (x1 "__init__" "World.__init__" 42 0)) z) (l o1)) (n (x22 "Look" 196 393) (n o0 (l (x8 577)) z) (l o1))) (n (x6 "Backward" 296 17 98) (n (x8 161) (n (x2 "own_bounds" "Take.own_bounds" 18 2 "driftmeet.happenings" 360 291) (l o1) z) (l (x3 "view" 35))) (n (x18 441 45 456 212 "row" 463 219 "own_bounds" 472 226 "__static_attributes__" 475 2) (n (x17 641 354) (l (x3 "_law_kinds" 48)) z) (l (x10 "rows" 815 "world"))))) (n (x6 "NoHand" 232 9 50) (n o11 (n o0 (n (x1 "__init__" "Take.__init__" 18 0) (l (x2 "refuse_hand" "World.refuse_hand" 42 2 "driftmeet.worlds" 825 531)) z) (l o0)) (n (x2 "__init__" "Sight.__init__" 16 0 "driftmeet.happenings" 360 211) (n (x11 "self" 622) (l o0) z) (l (x12 "news" 791 "Meeting.news" 192 3 465)))) (n (x13 326 "NoLetter" 22 121) (n o0 (n (x0 "is_letter" 571 "is_letter" 81 1 303 575) (l o0) z) (l (x2 "__init__" "Meeting.__init__" 37 0 "driftmeet.meeting" 736 435))) (n (x0 "__init__" 491 "Send.__init__" 59 4 239 498) (n (x4 "refuse_by_kind" 27 "driftmeet.logs" 586 371) (l o1) z) (l (x10 "least" 840 "most")))))) (n (x7 27 24 "driftmeet.errors" 194) (n (x14 "NoStretch" 44 35 214) (n (x6 "NoWay" 264 13 74) (n (x11 "thing" 356) (n o0 (l (x0 "enter_way" 872 "World.enter_way" 229 5 519 880)) z) (l (x4 "last_reading" 31 "driftmeet.logs" 586 395))) (n (x6 "Sight" 436 45 202) (n o11 (l (x4 "_law_cell_at" 44 "law_driftmeet_k53_news" 951 587)) z) (l (x5 "self" 785 "hand" "last")))) (n (x2 "__init__" "Backward.__init__" 8 0 "driftmeet.errors" 194 107) (n (x7 171 168 "driftmeet.happenings" 360) (n (x3 "are_wholes" 19) (l (x5 "self" 918 "one" "other")) z) (l (x6 "Meeting" 740 169 426))) (n (x21 59 244 63) (n (x0 "refuse_by_clock" 646 "refuse_by_clock" 121 3 359 653) (l (x0 "_law_word" 1001 "_law_word" 316 3 615 1009)) z) (l o1)))) (n o11 (n (x14 "NoHappening" 92 83 278) (n (x1 "__init__" "Happening.__init__" 14 0) (n (x0 "row" 544 "Take.row" 74 1 279 548) (l o0) z) (l o1)) (n o0 (n o0 (l o1) z) (l (x2 "when" "Meeting.when" 37 6 "driftmeet.meeting" 736 475)))) (n (x8 123) (n o1 (n (x4 "happening" 21 "driftmeet.happenings" 360 315) (l (x1 "way" "World.way" 42 8)) z) (l o0)) (n (x2 "row" "Send.row" 17 1 "driftmeet.happenings" 360 251) (n o0 (l (x3 "_law_let_by" 52)) z) (l o0))))))) (n boot_o_6 (n boot_o_10 (n o0 (n (x9 31) (n o0 (n o1 (n (x0 "own_bounds" 508 "Send.own_bounds" 66 3 253 514) (l (tu #[(.str "self" 860),(.str "clocks" 861),(.str "ways" 862),(.str "short" 863),(.str "long" 864),(.str "one" 865),(.str "other" 866),(.str "least" 867),(.str "most" 868)])) z) (n (x4 "place" 29 "driftmeet.logs" 586 385) (l (x12 "law" 1033 "law" 351 1 639)) z)) (n o0 (n (x0 "count_on" 588 "count_on" 97 2 317 594) (l (x19 944 577)) z) (l (x2 "with_row" "Meeting.with_row" 37 2 "driftmeet.meeting" 736 449)))) (n o0 (n (x19 386 161) (n (x1 "own_bounds" "Take.own_bounds" 18 2) (l (x2 "hands" "World.hands" 42 4 "driftmeet.worlds" 825 545)) z) (l (x5 "world" 730 "log" "name"))) (n (x2 "own_bounds" "Sight.own_bounds" 16 2 "driftmeet.happenings" 360 225) (n (x24 "Ahead" 354 607) (l (x5 "_law_found" 995 "_law_name" "_law_number")) z) (l (x0 "between" 805 "Meeting.between" 203 4 477 812))))) (n o0 (n (x9 80) (n o11 (n (x16 "self" 537 "hand" "reading" "letter") (l (x1 "refuse_hand" "World.refuse_hand" 42 2)) z) (l (x0 "count_letter" 698 "count_letter" 151 2 397 704))) (n (x1 "__init__" "Sight.__init__" 16 0) (n o0 (l (x0 "_law_ways" 961 "_law_ways" 268 2 589 970)) z) (l o1))) (n o20 (n (x0 "__init__" 405 "Look.__init__" 37 3 173 411) (n o0 (l o1) z) (l (x1 "__init__" "Meeting.__init__" 37 0))) (n o0 (n (x3 "refuse_by_kind" 27) (l (x4 "_law_right" 50 "law_driftmeet_k53_news" 951 625)) z) (l o0))))) (n o1 (n o0 (n o0 (n o0 (n o11 (l o0) z) (l (x3 "last_reading" 31))) (n o0 (n (x4 "names" 24 "driftmeet.logs" 586 329) (l (x3 "_law_cell_at" 44)) z) (l o0))) (n (x1 "__init__" "Backward.__init__" 8 0) (n (x21 37 178 40) (n o0 (l o0) z) (l o0)) (n (x20 486 "Send" 57 500 245 518) (n o0 (l o0) z) (l (x9 486))))) (n (x9 56) (n o0 (n (x5 "self" 377 "hand" "reading") (n o0 (l (x0 "refuse_pair" 891 "World.refuse_pair" 240 3 533 897)) z) (l (x4 "past" 33 "driftmeet.logs" 586 409))) (n (x0 "row" 457 "Sight.row" 52 1 213 461) (n o1 (l (x4 "_law_row" 46 "law_driftmeet_k53_news" 951 601)) z) (l (x1 "when" "Meeting.when" 37 6)))) (n (x15 326 22 121) (n (x2 "row" "Look.row" 15 1 "driftmeet.happenings" 360 185) (n (x3 "happening" 21) (l (x5 "self" 935 "one" "other")) z) (l (x0 "log" 758 "Meeting.log" 175 1 437 762))) (n (x1 "row" "Send.row" 17 1) (n (x0 "check" 665 "check" 134 2 373 673) (l (x5 "_law_meeting" 1027 "_law_row_here" "_law_word_here")) z) (l o11)))))) (n o3 (n (tu #[v5]) (n o0 (n (x9 68) (n (x15 342 24 133) (n (x22 "Send" 262 479) (l (x2 "__init__" "World.__init__" 42 0 "driftmeet.worlds" 825 517)) z) (l (x12 "last_of" 686 "last_of" 146 2 387))) (n (x9 196) (n (x16 "log" 600 "counts" "told" "row") (l o0) z) (l o0))) (n o0 (n wQ (n (x18 529 68 543 278 "row" 550 285 "own_bounds" 559 292 "__static_attributes__" 561 2) (l o0) z) (l (x4 "view" 35 "driftmeet.logs" 586 421))) (n (x8 229) (n (x9 354) (l (x4 "_law_kinds" 48 "law_driftmeet_k53_news" 951 613)) z) (l (x24 "Meeting" 486 738))))) (n o0 (n o0 (n (x6 "Happening" 364 30 148) (n (x2 "__init__" "Take.__init__" 18 0 "driftmeet.happenings" 360 277) (l o1) z) (l (tu #[(.str "world" 710),(.str "log" 711),(.str "name" 712),(.str "where" 713),(.str "counts" 714),(.str "heads" 715),(.str "other" 716),(.str "row" 717)]))) (n o1 (n (x1 "__init__" "Ahead.__init__" 25 0) (l (tu #[(.str "_law_here" 976),(.str "_law_reading" 977),(.str "_law_tos" 978),(.str "_law_letters" 979),(.str "_law_cell" 980),(.str "_law_kind" 981),(.str "_law_early" 982)])) z) (l o0))) (n o1 (n (x11 "self" 417) (n o0 (l (x0 "clock" 924 "World.clock" 255 2 561 929)) z) (l o1)) (n o0 (n o1 (l (x12 "_law_spoilt" 1018 "_law_spoilt" 336 4 627)) z) (l (x3 "refuse_lengths" 41)))))) (n (x25 203 5 "__static_attributes__" 208 29 "__weakref__" 32 3) (n (x9 44) (n o0 (n (x3 "is_whole" 12) (n (x6 "Take" 524 68 268) (l o0) z) (l o1)) (n o0 (n o0 (l o1) z) (l (x1 "heard" "Meeting.heard" 37 4)))) (n (x25 301 17 "__init__" 313 108 "__static_attributes__" 109 2) (n o1 (n (x4 "are_wholes" 19 "driftmeet.happenings" 360 301) (l (x1 "has_way" "World.has_way" 42 6)) z) (l o0)) (n (x7 237 234 "driftmeet.happenings" 360) (n o0 (l o0) z) (l o0)))) (n o0 (n (x9 92) (n (x2 "__init__" "Happening.__init__" 14 0 "driftmeet.happenings" 360 157) (n o0 (l (x11 "self" 903)) z) (l (x12 "cut" 721 "cut" 164 2 411))) (n (x5 "self" 467 "world" "name") (n (x0 "enter" 626 "Ahead.enter" 114 2 345 632) (l (x12 "_law_log" 986 "_law_log" 287 3 603)) z) (l o1))) (n o20 (n o0 (n o1 (l (x2 "way" "World.way" 42 8 "driftmeet.worlds" 825 573)) z) (l (x5 "self" 768 "row" "grown"))) (n o1 (n (x16 "log" 679 "name" "where" "other") (l (x4 "_law_let_by" 52 "law_driftmeet_k53_news" 951 637)) z) (l (x6 "World" 847 217 508))))))))))
noncomputable def s1(w:World)(os:OsState):SharedT:=⟨t1 w.params,644,{},⟨[]⟩,{},1039,os⟩
noncomputable def t2:Params->W.BT:=t1
noncomputable def s2(w:World)(os:OsState):SharedT:=⟨t2 w.params,644,{},⟨[]⟩,{},1039,os⟩
theorem pre:∀w:World,(λos=>topGo treeTable pw w 11 an 12 ⟨boot_heap w.params,⟨[]⟩,boot_drawn,boot_toks,os⟩ (topStub pw))=λos=>some (sA w os,⟨denote treeTable cE,cE,⟨0,0,0,0⟩,qF⟩):=λw=>by kernel_rfl
theorem blk:∀w:World,(λos=>segRun treeTable pw w 11 an 1 1 (sA w os) (blockOf bE env cE ⟨0,0,0,0⟩ qF))=λos=>some (.next,(s0 w os).abs,cE,⟨0,0,0,0⟩):=λw=>by kernel_rfl
noncomputable def g0:List Stmt:=[b 0,b 1,b 2,b 3,b 4,b 5,b 6,b 7,b 8,b 9,b 10,b 11,b 12,b 13,b 14,b 15,b 16,b 17,b 18,b 19,b 20,b 21,b 22,b 23,b 24,b 25,b 26,b 27,b 28,b 29,b 30,b 31,b 32,b 33,b 34,b 35,b 36,b 37,b 38,b 39,b 40,b 41,b 42,b 43,b 44,b 45,b 46,b 47,b 48,b 49,b 50,b 51,b 52,b 53]
theorem p0:∀w:World,(λos=>segRunT treeTable pw w 11 an 1 5524 (s0 w os) (piecesOf g0 env cE ⟨0,0,0,0⟩ qF))=λos=>some (.next,s1 w os,cE,⟨351,0,385,46⟩):=λw=>by kernel_rfl
theorem fin:∀w:World,(λos=>topRun treeTable pw w 11 an 2 (s1 w os).abs (restOf [] env cE ⟨351,0,385,46⟩ qF))=λos=>some (s2 w os).abs:=λw=>by kernel_rfl
theorem Es:bE=g0++([]):=by kernel_rfl
theorem GN(w:World)(os:OsState):topRun treeTable pw w 11 an (5524+(2)) (s0 w os).abs (restOf (g0++([])) env cE ⟨0,0,0,0⟩ qF)=some (s2 w os).abs:=piece_app (segRun_of (congrFun (p0 w) os)) (congrFun (fin w) os)
theorem run(w:World)(os:OsState):topRun treeTable pw w 11 an (12+(1+(5524+(2)))) ⟨boot_heap w.params,⟨[]⟩,boot_drawn,boot_toks,os⟩ (topStub pw)=some (s2 w os).abs:=go_top (congrFun (pre w) os) (piece_block (congrFun (blk w) os) (by rw[Es];exact GN w os))
noncomputable def view:Program:={pw with main:={pw.main with body:=[top 53]}}
noncomputable def loose:List Str:=(["_wall","DriftError","NoStretch","NoHand","NoClock","NoWay","NoHappening","Backward","NoLetter","NoName","is_whole","Happening","Look","Sight","Send","Take","are_wholes","is_letter","happening","count_on","names","Ahead","refuse_by_clock","refuse_by_kind","check","place","last_of","last_reading","count_letter","past","cut","view","Meeting","MOST_HANDS","refuse_clock","refuse_lengths","World","_law_cell_at","_law_ways","_law_row","_law_log","_law_kinds","_law_word","_law_right","_law_spoilt","_law_let_by"]:List String).map Str.ofString
noncomputable def as:List Addr:=[2,3,15,17,18,20,21,22,29,30,31,32,35,42,43,44,47,54,55,56,59,66,67,68,71,78,79,80,83,90,91,92,95,102,104,105,107,108,109,110,111,114,121,122,123,126,133,134,135,138,140,141,143,144,152,154,155,157,158,159,160,161,162,163,166,173,175,176,178,179,180,182,183,185,186,187,189,190,192,193,194,195,196,199,206,208,209,211,212,213,215,216,218,219,220,222,223,225,226,227,228,229,232,239,241,242,244,245,246,248,249,251,252,253,255,256,258,259,260,261,262,265,272,274,275,277,278,279,281,282,284,285,286,288,289,291,292,293,294,295,298,301,302,303,305,306,308,309,310,312,313,315,316,317,319,320,322,323,324,326,327,329,330,338,340,341,343,344,345,347,348,350,351,352,353,354,355,356,359,361,362,364,365,366,368,369,371,372,373,375,376,378,379,380,382,383,385,386,387,390,391,392,395,396,397,399,400,402,403,404,406,407,409,410,411,414,415,416,418,419,421,422,430,432,433,435,436,437,439,440,442,443,444,446,447,449,450,451,453,454,456,457,458,460,461,463,464,465,468,469,470,472,473,475,476,477,479,480,482,483,484,485,486,487,488,491,493,494,496,497,498,500,501,503,504,512,514,515,517,518,519,521,522,524,525,526,528,529,531,532,533,535,536,538,539,540,542,543,545,546,547,549,550,552,553,554,556,557,559,560,561,563,564,566,567,568,570,571,573,574,575,576,577,578,579,582,584,585,587,588,589,591,592,594,595,596,598,599,601,602,603,606,607,608,610,611,613,614,615,617,618,620,621,622,625,626,627,630,631,632,634,635,637,638,639,642,643]
noncomputable def K(P:Params):Frag:=as.map λa=>(a,((t2 P).get a).getD ⟨.none,none,.plain,#[]⟩)
theorem as_eq:∀P,as=(K P).map (·.1):=λP=>by kernel_rfl
noncomputable def h1(P:Params):Heap:=absHeap (t2 P) 644 {}
noncomputable def f1(w:World)(os:OsState):Shared:=⟨h1 w.params,⟨[]⟩,{},1039,os⟩
noncomputable def Xt(s:Shared):Bool:=xlAt view [] s&&recOk (RowW.records PySem.Challenge.rw_driftmeet_k53_news.row.toRowW) s
theorem lk1:∀w:World,(λos=>(staticsOk (importedModules pw.main.body) (boot_heap w.params) (h1 w.params)&&namesBound pw (h1 w.params)&&gensDone (f1 w os)&&laidKept (boot_heap w.params) (h1 w.params)))=λ_=>true:=λw=>by kernel_rfl
theorem lk2:∀w:World,(λos=>openSeen view loose (importedModules pw.main.body) Xt true (f1 w os))=λ_=>openGood view loose:=λw=>by kernel_rfl
theorem lk3:∀w:World,(λos=>(Hook.obs (kHook K as as_eq)) (f1 w os))=λ_=>(Hook.val (kHook K as as_eq)) w:=λw=>by kernel_rfl
theorem left:LeftO pw view loose Xt (Hook.obs (kHook K as as_eq)) (Hook.val (kHook K as as_eq)) 11172:=LeftO.of_pieces (boot_open (by kernel_rfl) (by decide) (λs=>by kernel_rfl)) (H₀:=boot_heap) (H₁:=h1) (gs₀:=⟨[]⟩) (m₀:=11) (ann:=an) (M:=12+(1+(5524+(2)))) (λw=>by kernel_rfl) (λw os=>run w os) (by decide) λw=>funext λos=>looks_pair (congrFun (lk1 w) os) (looks_pair (congrFun (lk2 w) os) (congrFun (lk3 w) os))
end HD
namespace G
open PySem L2
noncomputable def top(i:Nat):Stmt:=PySem.Challenge.pw_driftmeet_k53_news.main.body.getD i (.Pass ⟨0,0,0,0⟩)
noncomputable abbrev V0:IE:=.var 0
noncomputable abbrev V1:IE:=.var 1
noncomputable abbrev V2:IE:=.var 2
noncomputable abbrev V3:IE:=.var 3
noncomputable abbrev V4:IE:=.var 4
noncomputable abbrev V5:IE:=.var 5
noncomputable abbrev V6:IE:=.var 6
noncomputable abbrev V7:IE:=.var 7
noncomputable abbrev V8:IE:=.var 8
noncomputable abbrev V9:IE:=.var 9
noncomputable abbrev V10:IE:=.var 10
noncomputable abbrev V11:IE:=.var 11
noncomputable abbrev V12:IE:=.var 12
noncomputable abbrev V13:IE:=.var 13
noncomputable abbrev V14:IE:=.var 14
noncomputable abbrev V15:IE:=.var 15
noncomputable abbrev I0:IE:=.con (.int 0)
noncomputable abbrev I1:IE:=.con (.int 1)
noncomputable abbrev I2:IE:=.con (.int 2)
noncomputable abbrev I3:IE:=.con (.int 3)
noncomputable abbrev I4:IE:=.con (.int 4)
noncomputable abbrev I5:IE:=.con (.int 5)
noncomputable abbrev I6:IE:=.con (.int 6)
noncomputable abbrev I7:IE:=.con (.int 7)
noncomputable abbrev I9:IE:=.con (.int 9)
noncomputable abbrev Ar1(a0:IE):IA:=.cons a0 .nil
noncomputable abbrev Ar2(a0 a1:IE):IA:=.cons a0 (.cons a1 .nil)
noncomputable abbrev Ar3(a0 a1 a2:IE):IA:=.cons a0 (.cons a1 (.cons a2 .nil))
noncomputable abbrev Ar4(a0 a1 a2 a3:IE):IA:=.cons a0 (.cons a1 (.cons a2 (.cons a3 .nil)))
noncomputable abbrev Ar5(a0 a1 a2 a3 a4:IE):IA:=.cons a0 (.cons a1 (.cons a2 (.cons a3 (.cons a4 .nil))))
noncomputable abbrev Ar6(a0 a1 a2 a3 a4 a5:IE):IA:=.cons a0 (.cons a1 (.cons a2 (.cons a3 (.cons a4 (.cons a5 .nil)))))
noncomputable abbrev S1(a0:IS):ISs:=.cons a0 .nil
noncomputable abbrev S2(a0 a1:IS):ISs:=.cons a0 (.cons a1 .nil)
noncomputable abbrev S3(a0 a1 a2:IS):ISs:=.cons a0 (.cons a1 (.cons a2 .nil))
noncomputable abbrev S4(a0 a1 a2 a3:IS):ISs:=.cons a0 (.cons a1 (.cons a2 (.cons a3 .nil)))
noncomputable abbrev S5(a0 a1 a2 a3 a4:IS):ISs:=.cons a0 (.cons a1 (.cons a2 (.cons a3 (.cons a4 .nil))))
noncomputable abbrev S6(a0 a1 a2 a3 a4 a5:IS):ISs:=.cons a0 (.cons a1 (.cons a2 (.cons a3 (.cons a4 (.cons a5 .nil)))))
noncomputable abbrev S7(a0 a1 a2 a3 a4 a5 a6:IS):ISs:=.cons a0 (.cons a1 (.cons a2 (.cons a3 (.cons a4 (.cons a5 (.cons a6 .nil))))))
noncomputable abbrev S10(a0 a1 a2 a3 a4 a5 a6 a7 a8 a9:IS):ISs:=.cons a0 (.cons a1 (.cons a2 (.cons a3 (.cons a4 (.cons a5 (.cons a6 (.cons a7 (.cons a8 (.cons a9 .nil)))))))))
noncomputable abbrev S12(a0 a1 a2 a3 a4 a5 a6 a7 a8 a9 Qk Tp:IS):ISs:=.cons a0 (.cons a1 (.cons a2 (.cons a3 (.cons a4 (.cons a5 (.cons a6 (.cons a7 (.cons a8 (.cons a9 (.cons Qk (.cons Tp .nil)))))))))))
noncomputable abbrev fL(n q:String)(g c:Bool)(s:Stmt)(N:List Str)(k:Nat)(b:ISs):FL:={name:=n,qual:=q,glob:=g,cl:=c,st:=s,N:=N,ps:=N.take k,body:=b}
noncomputable abbrev fl(n:String):=fL n n true
abbrev runF(T:List FB)(B:WB)(n:Nat)(b:ISs)(Z:St3)(M:MH)(Q:VK3)(E:XN):Prop:=aP {toWB:=B,call:=aa T B n} b {nx:=λ_ M'=>Q .i_ (ar M M'),rt:=λv M'=>Q v (ar M M')} (λ_ i M'=>E i (ar M M')) Z M
noncomputable def gz:ISs:=S1 (.ret (.and (.Lv V0 .int) (.not (.Lv V0 .bool))))
noncomputable def av:ISs:=S2 (.Ke V0 211529960 V1) (.Ke V0 456806758904562 V2)
noncomputable def dC:ISs:=S1 (.expr (.ini 0 (Ar3 V0 V1 V2)))
noncomputable def oY:ISs:=S1 .dead
noncomputable def cS:ISs:=S3 (.expr (.ini 0 (Ar3 V0 V1 V2))) (.Ke V0 32709062885 V3) (.Ke V0 213725420 V4)
noncomputable def nV:ISs:=S1 .dead
noncomputable def dG:ISs:=S2 (.expr (.ini 0 (Ar3 V0 V1 V2))) (.Ke V0 14324 V3)
noncomputable def o6:ISs:=S1 .dead
noncomputable def dD:ISs:=S2 (.expr (.ini 0 (Ar3 V0 V1 V2))) (.Ke V0 3944367338220 V3)
noncomputable def o7:ISs:=S1 .dead
noncomputable def eN:ISs:=S1 (.ret (.and (.cmp .Eq (.bi .len (Ar1 V0)) V1) (.bi .all (Ar1 (.comp true ["thing"] [none] (.name 0) (.seq V0) .no (.call 0 (Ar1 V0)))))))
noncomputable def fy:ISs:=S1 (.ret (.and (.Lv V0 .tuple) (.call 10 (Ar2 V0 I2))))
noncomputable def bw:ISs:=S7 (.ifs (.or (.not (.val (.Lv V0 .tuple))) (.cmp .Eq (.bi .len (Ar1 V0)) I0)) (S1 .dead) .nil) (.set 1 (.ix V0 I0)) (.ifs (.and (.cmp .Eq V1 (.con (.str "look"))) (.val (.call 10 (Ar2 (.sl true V0 (.yes I1) .no) I2)))) (S1 (.ret (.make true 1 (Ar2 (.ix V0 I1) (.ix V0 I2))))) .nil) (.ifs (.and (.cmp .Eq V1 (.con (.str "sight"))) (.val (.call 10 (Ar2 (.sl true V0 (.yes I1) .no) I4)))) (S1 (.ret (.make true 2 (Ar4 (.ix V0 I1) (.ix V0 I2) (.ix V0 I3) (.ix V0 I4))))) .nil) (.ifs (.and (.cmp .Eq V1 (.con (.str "send"))) (.val (.call 10 (Ar2 (.sl true V0 (.yes I1) .no) I3)))) (S1 (.ret (.make true 3 (Ar3 (.ix V0 I1) (.ix V0 I2) (.ix V0 I3))))) .nil) (.ifs (.and (.cmp .Eq V1 (.con (.str "take"))) (.and (.val (.call 10 (Ar2 (.sl true V0 (.yes I1) (.yes I3)) I2))) (.and (.cmp .Eq (.bi .len (Ar1 V0)) I4) (.val (.call 11 (Ar1 (.ix V0 I3))))))) (S1 (.ret (.make true 4 (Ar3 (.ix V0 I1) (.ix V0 I2) (.ix V0 I3))))) .nil) .dead
noncomputable def gO:ISs:=S3 (.set 2 (.bm .get V0 (Ar2 V1 I0))) (.v_ V0 V1 (.bin .Add V2 I1)) (.ret (.tup (Ar2 V1 V2)))
noncomputable def ei:ISs:=S1 (.app V2 (.call 13 (Ar2 V1 (.ix V3 I1))))
noncomputable def mQ:ISs:=S4 (.set 1 (.Ku false)) (.set 2 (.lst false .nil)) (.Kh (.name 3) (.seq V0) ei) (.ret (.t_ V2))
noncomputable def c7:ISs:=S3 (.Ke V0 3982741043171 (.Ku false)) (.Ke V0 65196051402355442 (.Ku false)) (.Ke V0 487284377728885 (.Ku true))
noncomputable def dH:ISs:=S4 (.set 2 (.call 13 (Ar2 (.fld V0 3982741043171) (.fld V1 211529960)))) (.v_ (.fld V0 65196051402355442) (.fld V1 211529960) (.fld V1 456806758904562)) (.ifs (.val (.Lw V1 3)) (S1 (.v_ (.fld V0 487284377728885) V2 (.fld V1 14324))) .nil) (.ifs (.val (.Lw V1 4)) (S1 (.expr (.bm .KN (.fld V0 487284377728885) (Ar1 (.fld V1 3944367338220))))) .nil)
noncomputable def bK:ISs:=S3 (.ifs (.not (.val (.x_ V0 56782141471387880 (Ar1 (.fld V2 211529960))))) (S1 (.raise 2 (Ar1 (.con (.str "the world has no such hand"))))) .nil) (.set 3 (.bm .get (.fld V1 65196051402355442) (Ar1 (.fld V2 211529960)))) (.ifs (.and (.cmp .IsNot V3 (.con .i_)) (.cmp .Lt (.fld V2 456806758904562) V3)) (S1 (.KG 6 (Ar1 V3))) .nil)
noncomputable def bj:ISs:=S3 (.ifs (.and (.val (.Lw V2 2)) (.cmp .Gt (.fld V2 32709062885) (.fld V2 213725420))) (S1 .dead) .nil) (.ifs (.and (.val (.Lw V2 3)) (.not (.val (.x_ V0 535528667410664 (Ar2 (.fld V2 211529960) (.fld V2 14324)))))) (S1 .dead) .nil) (.ifs (.and (.val (.Lw V2 4)) (.cmp .NotEq (.bm .get (.fld V1 487284377728885) (Ar1 (.fld V2 3944367338220))) (.fld V2 211529960))) (S1 (.raise 7 (Ar1 (.con (.str "no such letter waits for this hand"))))) .nil)
noncomputable def aR:ISs:=S4 (.set 4 (.call 12 (Ar1 V3))) (.expr (.call 17 (Ar3 V0 V2 V4))) (.expr (.call 18 (Ar3 V0 V2 V4))) (.expr (.x_ V2 30815369061 (Ar1 V4)))
noncomputable def mX:ISs:=S2 (.set 2 (.make false 5 .nil)) (.Kh (.name 3) (.seq V1) aR)
noncomputable def eP:ISs:=S1 (.ifs (.cmp .Eq V3 V1) (S1 (.ret V2)) .nil)
noncomputable def mo:ISs:=S2 (.Kh (.tup [2,3]) (.enum (.call 14 (Ar1 V0))) eP) .dead
noncomputable def fZ:ISs:=S2 (.set 2 (.comp true ["name","hand"] [none,some 1] (.name 0) (.seq (.call 14 (Ar1 V0))) (.yes (.cmp .Eq (.ix V0 I0) V1)) V0)) (.ret (.Mi (.cmp .Gt (.bi .len (Ar1 V2)) I0) (.ix V2 (.neg I1)) (.con .i_)))
noncomputable def cX:ISs:=S1 (.ret (.mm true true (.comp true ["row","hand"] [none,some 1] (.name 0) (.seq V0) (.yes (.cmp .Eq (.ix V0 I1) V1)) (.ix V0 I2))))
noncomputable def aM:ISs:=S1 (.ifs (.val (.Lw V1 4)) (S2 (.set 2 (.ix (.fld V1 3944367338220) I0)) (.v_ V0 V2 (.bi .max (Ar2 (.ix V0 V2) (.bin .Add (.ix (.fld V1 3944367338220) I1) I1))))) .nil)
noncomputable def d7:ISs:=S1 (.ifs (.cmp .Lt (.ix V6 I1) (.ix V4 (.ix V6 I0))) (S1 (.expr (.call 23 (Ar2 V4 (.call 12 (Ar1 V7)))))) .nil)
noncomputable def pV:ISs:=S6 (.set 3 (.call 20 (Ar2 V1 V2))) (.set 4 (.rep false (.lst true (Ar1 I0)) (.x_ V0 31081607400 .nil))) (.v_ V4 (.ix V2 I0) (.bin .Add (.ix V2 I1) I1)) (.set 5 (.sl true (.LL true (.call 14 (Ar1 V1)) V1) .no (.yes (.bin .Add V3 I1)))) (.Kh (.tup [6,7]) (.LN V5) d7) (.ret (.t_ V4))
noncomputable def uV:ISs:=S1 (.ret (.comp true ["name","row","counts"] [none,none,some 1] (.tup [0,1]) (.zip (.call 14 (Ar1 V0)) V0) (.yes (.cmp .Lt (.ix V0 I1) (.ix V2 (.ix V0 I0)))) V1))
noncomputable def pj:ISs:=S1 (.ret (.call 25 (Ar2 V1 (.call 24 (Ar3 V0 V1 V2)))))
noncomputable def bP:ISs:=S2 (.Ke V0 27071920119 V1) (.Ke V0 243136498 (.lst true .nil))
noncomputable def dE:ISs:=S1 (.ret (.bi (.list true) (Ar1 (.fld V0 243136498))))
noncomputable def bu:ISs:=S3 (.set 2 (.cat true (.fld V0 243136498) (.lst true (Ar1 V1)))) (.expr (.call 19 (Ar2 (.fld V0 27071920119) V2))) (.ret V2)
noncomputable def bL:ISs:=S2 (.Ke V0 243136498 (.x_ V0 67483170351428855 (Ar1 V1))) (.ret (.ix (.call 14 (Ar1 (.fld V0 243136498))) (.neg I1)))
noncomputable def aU:ISs:=S3 (.expr (.x_ (.fld V0 27071920119) 119080781550527859766002 (Ar1 V1))) (.set 2 (.call 21 (Ar2 (.fld V0 243136498) V1))) (.ret (.Mi (.cmp .Is V2 (.con .i_)) (.lst true .nil) (.call 26 (Ar3 (.fld V0 27071920119) (.fld V0 243136498) V2))))
noncomputable def aX:ISs:=S6 (.set 3 (.call 14 (Ar1 (.x_ V0 27084223208 (Ar1 V1))))) (.set 4 (.call 22 (Ar2 (.fld V0 243136498) V1))) (.set 5 (.x_ V0 67483170351428855 (Ar1 (.tup (Ar4 (.con (.str "take")) V1 (.Mi (.cmp .Is V4 (.con .i_)) I0 V4) V2))))) (.set 6 (.ix (.call 14 (Ar1 V5)) (.neg I1))) (.set 7 (.call 14 (Ar1 (.call 26 (Ar3 (.fld V0 27071920119) V5 V6))))) (.ret (.bi (.sorted false) (Ar1 (.comp true ["name","take","heard"] [none,some 6,some 3] (.name 0) (.seq V7) (.yes (.and (.cmp .NotEq V0 V1) (.cmp .NotIn V0 V2))) V0))))
noncomputable def cV:ISs:=S2 (.ifs (.cmp .Lt V0 I1) (S1 .dead) .nil) (.ifs (.cmp .Lt V1 V0) (S1 .dead) .nil)
noncomputable def bQ:ISs:=S2 (.ifs (.cmp .Lt V0 I0) (S1 .dead) .nil) (.ifs (.and (.cmp .IsNot V1 (.con .i_)) (.cmp .Lt V1 V0)) (S1 .dead) .nil)
noncomputable def bz:ISs:=S1 (.expr (.call 33 (Ar2 V3 V4)))
noncomputable def bI:ISs:=S1 (.expr (.x_ V0 8774101686596482917 (Ar4 V5 V6 V7 V8)))
noncomputable def da:ISs:=S5 (.ifs (.or (.cmp .Lt (.bi .len (Ar1 V1)) I1) (.cmp .Gt (.bi .len (Ar1 V1)) (.glo 0))) (S1 .dead) .nil) (.Kh (.tup [3,4]) (.seq V1) bz) (.Ke V0 136762133858116729320171 (.bi (.list false) (Ar1 V1))) (.Ke V0 8355170983792620267 (.Ku true)) (.Kh (.tup [5,6,7,8]) (.seq V2) bI)
noncomputable def bJ:ISs:=S4 (.expr (.x_ V0 135562951883986971505394 (Ar2 V1 V2))) (.ifs (.cmp .In (.tup (Ar2 V1 V2)) (.fld V0 8355170983792620267)) (S1 .dead) .nil) (.expr (.call 34 (Ar2 V3 V4))) (.v_ (.fld V0 8355170983792620267) (.tup (Ar2 V1 V2)) (.tup (Ar2 V3 V4)))
noncomputable def aL:ISs:=S1 (.ifs (.not (.val (.x_ V0 56782141471387880 (Ar1 V1)))) (S1 (.raise 2 (Ar1 (.con (.str "the world has no such hand"))))) .nil)
noncomputable def bp:ISs:=S3 (.expr (.x_ V0 119080781550527859766002 (Ar1 V1))) (.expr (.x_ V0 119080781550527859766002 (Ar1 V2))) (.ifs (.cmp .Eq V1 V2) (S1 .dead) .nil)
noncomputable def bX:ISs:=S1 (.ret (.bi .len (Ar1 (.fld V0 136762133858116729320171))))
noncomputable def bb:ISs:=S1 (.ret (.chain .LtE .Lt I0 V1 (.x_ V0 31081607400 .nil)))
noncomputable def cy:ISs:=S1 (.ret (.cmp .In (.tup (Ar2 V1 V2)) (.fld V0 8355170983792620267)))
noncomputable def oR:ISs:=S3 .dead .dead .dead
noncomputable def bZ:ISs:=S2 (.ifs (.cmp .Lt V1 (.bi .len (Ar1 V0))) (S1 (.ret (.ix V0 V1))) .nil) (.ret I0)
noncomputable def aW:ISs:=S2 (.set 3 (.bin .Mod (.bin .Add (.bin .Add (.bin .Mult V3 V3) (.bin .Mult (.con (.int 48271)) V3)) V5) (.con (.int 2147483647)))) (.ifs (.and (.cmp .NotEq V4 V5) (.cmp .Gt (.bin .Mod V3 I3) I0)) (S1 (.app V2 (.tup (Ar2 V4 V5)))) .nil)
noncomputable def bY:ISs:=S1 (.Kh (.name 5) (.KD V0) aW)
noncomputable def gN:ISs:=S4 (.set 2 (.lst false .nil)) (.set 3 (.bin .Add (.bin .Mod V1 (.con (.int 2147483647))) (.con (.int 48271)))) (.Kh (.name 4) (.KD V0) bY) (.ret (.t_ V2))
noncomputable def cQ:ISs:=S6 (.set 5 (.bin .Mod (.bin .FloorDiv V4 I6) I7)) (.ifs (.or (.cmp .Lt V5 I2) (.and (.cmp .Eq V5 I2) (.cmp .Eq V2 (.lst true .nil)))) (S1 (.ret (.tup (Ar3 (.con (.str "look")) (.ix V0 I0) V1)))) .nil) (.ifs (.and (.cmp .Gt V5 I3) (.cmp .NotEq V3 (.lst true .nil))) (S1 (.ret (.tup (Ar4 (.con (.str "take")) (.ix V0 I0) V1 (.ix V3 (.bin .Mod (.bin .FloorDiv V4 (.con (.int 42))) (.bi .len (Ar1 V3)))))))) .nil) (.ifs (.cmp .NotEq V2 (.lst true .nil)) (S1 (.ret (.tup (Ar4 (.con (.str "send")) (.ix V0 I0) V1 (.ix V2 (.bin .Mod (.bin .FloorDiv V4 (.con (.int 42))) (.bi .len (Ar1 V2)))))))) .nil) (.set 6 (.bin .Sub (.bin .Mod (.bin .FloorDiv V4 (.con (.int 42))) (.bin .Pow (.con (.int 10)) (.con (.int 30)))) (.con (.int 500)))) (.ret (.tup (Ar5 (.con (.str "sight")) (.ix V0 I0) V1 V6 (.bin .Add V6 (.bin .Mod (.bin .FloorDiv V4 I5) I3)))))
noncomputable def aQ:ISs:=S10 (.set 8 (.bin .Mod V7 V0)) (.v_ V3 V8 (.bin .Add (.ix V3 V8) (.ix (.lst true (Ar4 I0 I1 (.bin .Mod (.bin .FloorDiv V7 (.con (.int 42))) (.con (.int 50))) (.bin .Mod (.bin .FloorDiv V7 (.con (.int 42))) (.bin .Pow (.con (.int 10)) (.con (.int 30)))))) (.bin .Mod (.bin .FloorDiv V7 I7) I4)))) (.set 9 (.tup (Ar2 V8 (.ix V4 V8)))) (.set 10 (.comp true ["_law_one","_law_other","_law_hand"] [none,none,some 8] (.tup [0,1]) (.seq V1) (.yes (.cmp .Eq V0 V2)) V1)) (.set 11 (.comp true ["_law_name","_law_to","_law_hand"] [none,none,some 8] (.tup [0,1]) (.seq V5) (.yes (.cmp .Eq V1 V2)) V0)) (.set 12 (.call 45 (Ar5 V9 (.ix V3 V8) V10 V11 V7))) (.ifs (.cmp .Eq (.ix V12 I0) (.con (.str "send"))) (S1 (.app V5 (.tup (Ar2 V9 (.ix V12 I3))))) .nil) (.ifs (.cmp .Eq (.ix V12 I0) (.con (.str "take"))) (S1 (.set 5 (.comp false ["_law_pair","_law_row_here"] [none,some 12] (.name 0) (.seq V5) (.yes (.cmp .NotEq (.ix V0 I0) (.ix V1 I3))) V0))) .nil) (.v_ V4 V8 (.bin .Add (.ix V4 V8) I1)) (.app V6 V12)
noncomputable def iG:ISs:=S6 (.set 3 (.comp false ["_law_k","_law_cells"] [none,some 2] (.name 0) (.KD V0) .no (.Mi (.cmp .Lt V0 (.bi .len (Ar1 V1))) (.bin .Sub (.bin .Mod (.ix V1 V0) (.con (.int 2001))) (.con (.int 1000))) I0))) (.set 4 (.rep false (.lst true (Ar1 I0)) V0)) (.set 5 (.lst false .nil)) (.set 6 (.lst false .nil)) (.Kh (.name 7) (.seq V2) aQ) (.ret (.t_ V6))
noncomputable def db:ISs:=S1 (.ifs (.or (.not (.val (.Lv V2 .int))) (.val (.Lv V2 .bool))) (S1 (.ret (.con (.bl false)))) .nil)
noncomputable def fH:ISs:=S2 (.ifs (.or (.not (.val (.Lv V1 .tuple))) (.cmp .NotEq (.bi .len (Ar1 V1)) I2)) (S1 (.ret (.con (.bl false)))) .nil) (.Kh (.name 2) (.seq V1) db)
noncomputable def fv:ISs:=S3 (.ifs (.not (.val (.Lv V0 .list))) (S1 (.ret (.con (.bl false)))) .nil) (.Kh (.name 1) (.seq V0) fH) (.ret (.con (.bl true)))
noncomputable def eQ:ISs:=S3 (.set 3 (.con (.str "told"))) (.Lo (S1 (.expr (.x_ V0 243135214 (Ar2 V1 V2)))) (.cons 0 (some 4) (S3 (.set 3 (.con (.str "other"))) (.ifs (.and (.val (.MA V4 2)) (.not (.val (.MA V4 7)))) (S1 (.set 3 (.con (.str "hand")))) .nil) (.ifs (.and (.val (.MA V4 7)) (.not (.val (.MA V4 2)))) (S1 (.set 3 (.con (.str "letter")))) .nil)) .nil)) (.ret V3)
noncomputable def dA:ISs:=S6 (.ifs (.cmp .NotEq (.bm .get V5 (Ar2 V2 (.neg I1))) V1) (S1 (.ret (.cmp .Eq (.call 48 (Ar3 V0 V1 V2)) (.con (.str "letter"))))) .nil) (.set 6 (.bi (.sorted true) (Ar1 (.comp true ["_law_name","_law_knows","_law_hand"] [none,some 3,some 1] (.name 0) (.seq (.ix V4 V2)) (.yes (.cmp .NotIn V0 (.ix V1 V2))) V0)))) (.set 7 (.x_ V0 243135214 (Ar2 V1 V2))) (.ifs (.or (.not (.val (.call 47 (Ar1 V7)))) (.cmp .NotEq V7 V6)) (S1 (.ret (.con (.bl false)))) .nil) (.app V7 (.con .i_)) (.ret (.cmp .Eq (.x_ V0 243135214 (Ar2 V1 V2)) V6))
noncomputable def bD:ISs:=S4 (.set 4 (.comp true ["_law_other","_law_row_here"] [none,some 2] (.name 0) (.seq V1) (.yes (.cmp .Eq (.ix V0 I1) (.ix V1 I1))) (.ix V0 I2))) (.ifs (.and (.cmp .Eq (.ix V2 I0) (.con (.str "take"))) (.cmp .Eq (.bin .Mod V3 I2) I0)) (S2 (.set 5 (.bin .Mod (.bin .Add (.bin .Add (.ix V2 I1) I1) (.bin .Mod (.bin .FloorDiv V3 I2) (.bin .Sub V0 I1))) V0)) (.ret (.tup (Ar4 (.con (.str "take")) V5 (.bin .Pow (.con (.int 10)) (.con (.int 40))) (.ix V2 I3))))) .nil) (.ifs (.cmp .NotEq V4 (.lst true .nil)) (S1 (.ret (.cat true (.cat true (.sl true V2 .no (.yes I2)) (.tup (Ar1 (.bin .Sub (.bin .Sub (.ix V4 (.neg I1)) I1) (.bin .Mod V3 (.bin .Pow (.con (.int 10)) I9)))))) (.sl true V2 (.yes I3) .no)))) .nil) (.ret (.cat true (.cat true (.sl true V2 .no (.yes I1)) (.tup (Ar1 V0))) (.sl true V2 (.yes I2) .no)))
noncomputable def eo:ISs:=S3 (.set 2 (.con (.str "told"))) (.Lo (S1 (.expr (.x_ V0 228274932 (Ar1 V1)))) (.cons 0 none (S1 (.set 2 (.con (.str "none")))) .nil)) (.ret (.cmp .Eq V2 (.con (.str "told"))))
noncomputable def dN:ISs:=S12 (.set 11 (.ix V4 V10)) (.set 12 (.ix V11 I1)) (.set 13 (.tup (Ar2 V12 (.bi .len (Ar1 (.comp true ["_law_name","_law_hand"] [none,some 12] (.name 0) (.seq (.ix V7 V12)) (.yes (.cmp .Eq (.ix V0 I0) V1)) V0)))))) (.set 14 (.tup (Ar2 (.bin .Mod (.bin .FloorDiv (.ix V3 V10) (.con (.int 11))) V1) (.bin .Mod (.bin .FloorDiv (.ix V3 V10) (.con (.int 17))) (.bin .Add I1 (.bin .FloorDiv (.bi .len (Ar1 V4)) V1)))))) (.set 15 (.call 50 (Ar4 V1 (.sl true V4 .no (.yes V10)) V11 (.bin .FloorDiv (.ix V3 V10) (.con (.int 33)))))) (.ifs (.and (.cmp .Eq (.bin .Mod (.bin .FloorDiv (.ix V3 V10) (.con (.int 11))) I3) I0) (.val (.call 51 (Ar2 V6 V15)))) (S1 (.ret (.con (.bl false)))) .nil) (.ifs (.not (.val (.call 49 (Ar6 V6 (.bin .Mod (.bin .FloorDiv (.ix V3 V10) I7) V1) V14 V7 V8 V9)))) (S1 (.ret (.con (.bl false)))) .nil) (.ifs (.cmp .Eq (.ix V11 I0) (.con (.str "take"))) (S3 (.ifs (.not (.val (.call 49 (Ar6 V6 V12 (.ix V11 I3) V7 V8 V9)))) (S1 (.ret (.con (.bl false)))) .nil) (.v_ V7 V12 (.cat false (.ix V7 V12) (.comp true ["_law_name","_law_knows","_law_hand"] [none,some 7,some 12] (.name 0) (.seq (.ix V8 (.ix V11 I3))) (.yes (.cmp .NotIn V0 (.ix V1 V2))) V0))) (.expr (.bm .KN V9 (Ar1 (.ix V11 I3))))) .nil) (.app (.ix V7 V12) V13) (.ifs (.cmp .Eq (.ix V11 I0) (.con (.str "send"))) (S2 (.v_ V8 V13 (.bi (.list true) (Ar1 (.ix V7 V12)))) (.v_ V9 V13 (.ix V11 I3))) .nil) (.expr (.x_ V6 228274932 (Ar1 V11))) (.ifs (.and (.cmp .Eq (.ix V11 I0) (.con (.str "take"))) (.cmp .NotEq (.call 48 (Ar3 V6 V12 (.ix V11 I3))) (.con (.str "letter")))) (S1 (.ret (.con (.bl false)))) .nil)
noncomputable def vh:ISs:=S12 (.set 1 (.bin .Add I1 (.bin .Mod (.call 43 (Ar2 V0 I0)) I6))) (.set 2 (.call 44 (Ar2 V1 (.bin .FloorDiv (.call 43 (Ar2 V0 I0)) I6)))) (.set 3 (.sl true V0 (.yes I3) (.yes (.con (.int 53))))) (.set 4 (.call 46 (Ar3 V1 V2 V3))) (.set 5 (.make true 7 (Ar2 (.rep true (.lst true (Ar1 (.tup (Ar2 I1 I2)))) V1) (.comp true ["_law_one","_law_other"] [none,none] (.tup [0,1]) (.seq V2) .no (.tup (Ar4 V0 V1 I0 (.con .i_))))))) (.set 6 (.make false 6 (Ar1 V5))) (.set 7 (.comp false ["_law_hand"] [none] (.name 0) (.KD V1) .no (.lst false .nil))) (.set 8 (.Ku true)) (.set 9 (.Ku true)) (.Kh (.name 10) (.KD (.bi .len (Ar1 V4))) dN) (.ifs (.or (.cmp .NotEq (.call 48 (Ar3 V6 V1 (.tup (Ar2 I0 I0)))) (.con (.str "hand"))) (.cmp .NotEq (.call 48 (Ar3 V6 (.neg I1) (.tup (Ar2 I0 I0)))) (.con (.str "hand")))) (S1 (.ret (.con (.bl false)))) .nil) (.ret (.cmp .Eq (.x_ V6 1701868 .nil) V4))
noncomputable def pW:FL:=fl "is_whole" true (top 12) ["thing"] 1 gz
noncomputable def gK:FL:=fL "__init__" "Happening.__init__" false true (ak (top 14) 0) ["self","hand","reading"] 3 av
noncomputable def kI:FL:=fL "__init__" "Look.__init__" false true (ak (top 15) 0) ["self","hand","reading"] 3 dC
noncomputable def oZ:FL:=fL "row" "Look.row" false true (ak (top 15) 1) ["self"] 1 oY
noncomputable def jU:FL:=fL "__init__" "Sight.__init__" false true (ak (top 16) 0) ["self","hand","reading","early","late"] 5 cS
noncomputable def oy:FL:=fL "row" "Sight.row" false true (ak (top 16) 1) ["self"] 1 nV
noncomputable def kK:FL:=fL "__init__" "Send.__init__" false true (ak (top 17) 0) ["self","hand","reading","to"] 4 dG
noncomputable def pU:FL:=fL "row" "Send.row" false true (ak (top 17) 1) ["self"] 1 o6
noncomputable def kR:FL:=fL "__init__" "Take.__init__" false true (ak (top 18) 0) ["self","hand","reading","letter"] 4 dD
noncomputable def pM:FL:=fL "row" "Take.row" false true (ak (top 18) 1) ["self"] 1 o7
noncomputable def l9:FL:=fl "are_wholes" true (top 19) ["things","number"] 2 eN
noncomputable def oo:FL:=fl "is_letter" true (top 20) ["thing"] 1 fy
noncomputable def oj:FL:=fl "happening" true (top 21) ["row","word"] 1 bw
noncomputable def pA:FL:=fl "count_on" true (top 23) ["counts","hand","ahead"] 2 gO
noncomputable def xP:FL:=fl "names" true (top 24) ["log","counts","told","row"] 1 mQ
noncomputable def j6:FL:=fL "__init__" "Ahead.__init__" false false (ak (top 25) 0) ["self"] 1 c7
noncomputable def kM:FL:=fL "enter" "Ahead.enter" false true (ak (top 25) 1) ["self","one","name"] 2 dH
noncomputable def gX:FL:=fl "refuse_by_clock" true (top 26) ["world","ahead","one","last"] 3 bK
noncomputable def iO:FL:=fl "refuse_by_kind" true (top 27) ["world","ahead","one"] 3 bj
noncomputable def xC:FL:=fl "check" true (top 28) ["world","log","ahead","row","one"] 2 mX
noncomputable def v9:FL:=fl "place" true (top 29) ["log","name","where","other"] 2 mo
noncomputable def rZ:FL:=fl "last_of" true (top 30) ["log","hand","mine"] 2 fZ
noncomputable def jG:FL:=fl "last_reading" true (top 31) ["log","hand"] 2 cX
noncomputable def kf:FL:=fl "count_letter" true (top 32) ["counts","one","sender"] 2 aM
noncomputable def Ao:FL:=fl "past" true (top 33) ["world","log","name","where","counts","heads","other","row"] 3 pV
noncomputable def Eb:FL:=fl "cut" true (top 34) ["log","counts"] 2 uV
noncomputable def Bp:FL:=fl "view" true (top 35) ["world","log","name"] 3 pj
noncomputable def iL:FL:=fL "__init__" "Meeting.__init__" false false (ak (top 37) 0) ["self","world"] 2 bP
noncomputable def kT:FL:=fL "log" "Meeting.log" false true (ak (top 37) 1) ["self"] 1 dE
noncomputable def gF:FL:=fL "with_row" "Meeting.with_row" false true (ak (top 37) 2) ["self","row","grown"] 2 bu
noncomputable def jR:FL:=fL "tell" "Meeting.tell" false true (ak (top 37) 3) ["self","row"] 2 bL
noncomputable def jk:FL:=fL "heard" "Meeting.heard" false true (ak (top 37) 4) ["self","hand","last"] 2 aU
noncomputable def jz:FL:=fL "news" "Meeting.news" false false (ak (top 37) 5) ["self","hand","letter","heard","last","grown","take","reached"] 3 aX
noncomputable def jw:FL:=fl "refuse_clock" true (top 40) ["short","long"] 2 cV
noncomputable def iM:FL:=fl "refuse_lengths" true (top 41) ["least","most"] 2 bQ
noncomputable def j7:FL:=fL "__init__" "World.__init__" false false (ak (top 42) 0) ["self","clocks","ways","short","long","one","other","least","most"] 3 da
noncomputable def ij:FL:=fL "enter_way" "World.enter_way" false true (ak (top 42) 1) ["self","one","other","least","most"] 5 bJ
noncomputable def gc:FL:=fL "refuse_hand" "World.refuse_hand" false true (ak (top 42) 2) ["self","hand"] 2 aL
noncomputable def f9:FL:=fL "refuse_pair" "World.refuse_pair" false true (ak (top 42) 3) ["self","one","other"] 3 bp
noncomputable def kS:FL:=fL "hands" "World.hands" false true (ak (top 42) 4) ["self"] 1 bX
noncomputable def iY:FL:=fL "has_hand" "World.has_hand" false true (ak (top 42) 5) ["self","hand"] 2 bb
noncomputable def jh:FL:=fL "has_way" "World.has_way" false true (ak (top 42) 6) ["self","one","other"] 3 cy
noncomputable def oq:FL:=fL "way" "World.way" false true (ak (top 42) 8) ["self","one","other"] 3 oR
noncomputable def kO:FL:=fl "_law_cell_at" true (top 44) ["_law_script","_law_k"] 2 bZ
noncomputable def qc:FL:=fl "_law_ways" true (top 45) ["_law_hands","_law_cell","_law_ways_here","_law_number","_law_one","_law_other"] 2 gN
noncomputable def sF:FL:=fl "_law_row" true (top 46) ["_law_here","_law_reading","_law_tos","_law_letters","_law_cell","_law_kind","_law_early"] 5 cQ
noncomputable def rP:FL:=fl "_law_log" true (top 47) ["_law_hands","_law_ways_here","_law_cells","_law_readings","_law_many","_law_letters","_law_log_here","_law_cell","_law_hand","_law_here","_law_tos","_law_mine","_law_row_here"] 3 iG
noncomputable def oQ:FL:=fl "_law_kinds" true (top 48) ["_law_found","_law_name","_law_number"] 1 fv
noncomputable def qe:FL:=fl "_law_word" true (top 49) ["_law_meeting","_law_hand","_law_letter","_law_word_here","e"] 3 eQ
noncomputable def nr:FL:=fl "_law_right" true (top 50) ["_law_meeting","_law_hand","_law_letter","_law_knows","_law_carried","_law_under_way","_law_due","_law_found"] 6 dA
noncomputable def mU:FL:=fl "_law_spoilt" true (top 51) ["_law_hands","_law_log_here","_law_row_here","_law_cell","_law_last","_law_strange"] 4 bD
noncomputable def mC:FL:=fl "_law_let_by" true (top 52) ["_law_meeting","_law_row_here","_law_word_here"] 2 eo
noncomputable def l_law:FL:=fl "law" true (top 53) ["_law_script","_law_hands","_law_ways_here","_law_cells","_law_log_here","_law_made","_law_meeting","_law_knows","_law_carried","_law_under_way","_law_k","_law_row_here","_law_hand","_law_here","_law_other","_law_spoilt_here"] 1 vh
noncomputable def L:List FL:=[pW,gK,kI,oZ,jU,oy,kK,pU,kR,pM,l9,oo,oj,pA,xP,j6,kM,gX,iO,xC,v9,rZ,jG,kf,Ao,Eb,Bp,iL,kT,gF,jR,jk,jz,jw,iM,j7,ij,gc,f9,kS,iY,jh,oq,kO,qc,sF,rP,oQ,qe,nr,mU,mC,l_law]
noncomputable def xinT:List (Nat×Nat):=[(6,245166316)]
noncomputable def nm:NM:=⟨["DriftError","NoStretch","NoHand","NoClock","NoWay","NoHappening","Backward","NoLetter","NoName"],["Happening","Look","Sight","Send","Take","Ahead","Meeting","World"],["MOST_HANDS"],xinT⟩
noncomputable def xin(i:Nat):Option Nat:=xinT.lookup i
noncomputable def subT:List (List Bool):=[[true,false,false,false,false,false,false,false,false],[true,true,false,false,false,false,false,false,false],[true,false,true,false,false,false,false,false,false],[true,false,false,true,false,false,false,false,false],[true,false,false,false,true,false,false,false,false],[true,false,false,false,false,true,false,false,false],[true,false,false,false,false,false,true,false,false],[true,false,false,false,false,false,false,true,false],[true,false,false,false,false,false,false,false,true]]
noncomputable def sub(i j:Nat):Bool:=(subT.getD i []).getD j false
noncomputable def ksubT:List (List Bool):=[[true,false,false,false,false,false,false,false],[true,true,false,false,false,false,false,false],[true,false,true,false,false,false,false,false],[true,false,false,true,false,false,false,false],[true,false,false,false,true,false,false,false],[false,false,false,false,false,true,false,false],[false,false,false,false,false,false,true,false],[false,false,false,false,false,false,false,true]]
noncomputable def ksub(i j:Nat):Bool:=(ksubT.getD i []).getD j false
noncomputable def fokT:List (List Nat):=[[211529960,456806758904562],[211529960,456806758904562],[32709062885,213725420,211529960,456806758904562],[14324,211529960,456806758904562],[3944367338220,211529960,456806758904562],[3982741043171,65196051402355442,487284377728885],[27071920119,243136498],[136762133858116729320171,8355170983792620267]]
noncomputable def fok(i f:Nat):Bool:=(fokT.getD i []).contains f
noncomputable def mthT:List (List (Nat×Nat)):=[[],[(1964018,3)],[(1964018,5)],[(1964018,7)],[(1964018,9)],[(30815369061,16)],[(27084223208,31),(1701868,28),(243135214,32),(228274932,30),(67483170351428855,29)],[(8774101686596482917,36),(31081607400,39),(56782141471387880,40),(535528667410664,41),(119080781550527859766002,37),(135562951883986971505394,38),(1994999,42)]]
noncomputable def mth(i m:Nat):Option Nat:=(mthT.getD i []).lookup m
noncomputable def Dz:List Nat:=[1,2,4,6,8,15,27,35]
noncomputable def ini(i:Nat):Option Nat:=Dz[i]?
noncomputable def gloT:List D:=[.int 6]
noncomputable def glo(k:Nat):D:=gloT.getD k .i_
noncomputable def B(cls b_ d_:Nat->Addr):WB:={ne:=9,cls:=cls,sub:=sub,nk:=8,b_:=b_,ksub:=ksub,fok:=fok,mth:=mth,ini:=ini,xin:=xin,glo:=glo,d_:=d_}
section
variable {cls b_ d_:Nat->Addr}
@[simp] theorem IQ:(B cls b_ d_).ne=9:=rfl
@[simp] theorem Hk:(B cls b_ d_).cls=cls:=rfl
@[simp] theorem Im:(B cls b_ d_).sub=sub:=rfl
@[simp] theorem IN:(B cls b_ d_).nk=8:=rfl
@[simp] theorem Hx:(B cls b_ d_).b_=b_:=rfl
@[simp] theorem G4:(B cls b_ d_).ksub=ksub:=rfl
@[simp] theorem Ih:(B cls b_ d_).fok=fok:=rfl
@[simp] theorem He:(B cls b_ d_).mth=mth:=rfl
@[simp] theorem HU:(B cls b_ d_).ini=ini:=rfl
@[simp] theorem HI:(B cls b_ d_).xin=xin:=rfl
@[simp] theorem HN:(B cls b_ d_).glo=glo:=rfl
end
@[simp] theorem Fk:sub 2 0=true:=rfl
@[simp] theorem Fd:sub 2 2=true:=rfl
@[simp] theorem EY:sub 2 7=false:=rfl
@[simp] theorem EZ:sub 7 0=true:=rfl
@[simp] theorem Fb:sub 7 2=false:=rfl
@[simp] theorem Fq:sub 7 7=true:=rfl
@[simp] theorem Hw:xin 6=some 245166316:=rfl
@[simp] theorem Hj:ini 0=some 1:=rfl
@[simp] theorem B9:ksub 1 2=false:=rfl
@[simp] theorem Dy:ksub 1 3=false:=rfl
@[simp] theorem CA:ksub 1 4=false:=rfl
@[simp] theorem Al:fok 1 211529960=true:=by decide
@[simp] theorem vJ:fok 1 456806758904562=true:=by decide
@[simp] theorem Iq:ini 1=some 2:=rfl
@[simp] theorem C6:ksub 2 2=true:=rfl
@[simp] theorem CS:ksub 2 3=false:=rfl
@[simp] theorem Cy:ksub 2 4=false:=rfl
@[simp] theorem yE:fok 2 32709062885=true:=by decide
@[simp] theorem yU:fok 2 213725420=true:=by decide
@[simp] theorem zE:fok 2 211529960=true:=by decide
@[simp] theorem vI:fok 2 456806758904562=true:=by decide
@[simp] theorem Ic:ini 2=some 4:=rfl
@[simp] theorem Dh:ksub 3 2=false:=rfl
@[simp] theorem Eo:ksub 3 3=true:=rfl
@[simp] theorem CB:ksub 3 4=false:=rfl
@[simp] theorem En:fok 3 14324=true:=by decide
@[simp] theorem Ap:fok 3 211529960=true:=by decide
@[simp] theorem vG:fok 3 456806758904562=true:=by decide
@[simp] theorem Ii:ini 3=some 6:=rfl
@[simp] theorem Di:ksub 4 2=false:=rfl
@[simp] theorem Co:ksub 4 3=false:=rfl
@[simp] theorem DD:ksub 4 4=true:=rfl
@[simp] theorem xV:fok 4 3944367338220=true:=by decide
@[simp] theorem Am:fok 4 211529960=true:=by decide
@[simp] theorem vK:fok 4 456806758904562=true:=by decide
@[simp] theorem HM:ini 4=some 8:=rfl
@[simp] theorem wz:fok 5 3982741043171=true:=by decide
@[simp] theorem vy:fok 5 65196051402355442=true:=by decide
@[simp] theorem vH:fok 5 487284377728885=true:=by decide
@[simp] theorem yq:mth 5 30815369061=some 16:=by decide
@[simp] theorem Ip:ini 5=some 15:=rfl
@[simp] theorem yf:fok 6 27071920119=true:=by decide
@[simp] theorem BU:fok 6 243136498=true:=by decide
@[simp] theorem G7:ini 6=some 27:=rfl
@[simp] theorem qV:fok 7 136762133858116729320171=true:=by decide
@[simp] theorem tF:fok 7 8355170983792620267=true:=by decide
@[simp] theorem HK:ini 7=some 35:=rfl
@[simp] theorem HH:glo 0=.int 6:=rfl
theorem zU:fnm 245166316=("last" : Str):=by decide +kernel
noncomputable def T:List FB:=L.map FL.fb
theorem Gq:L.map FL.fb=T:=rfl
section
variable {B:WB}{M:MH}{Q:VK3}{E:XN}{n:Nat}
theorem pP{x0:D}:aa T B (n+1) 0 [x0] M Q E=runF T B n gz [some x0] M Q E:=propext ⟨λh=>h.2,λh=>⟨rfl,h⟩⟩
theorem aS{x0 x1 x2:D}:aa T B (n+1) 1 [x0,x1,x2] M Q E=runF T B n av [some x0,some x1,some x2] M Q E:=propext ⟨λh=>h.2,λh=>⟨rfl,h⟩⟩
theorem kQ{x0 x1 x2:D}:aa T B (n+1) 2 [x0,x1,x2] M Q E=runF T B n dC [some x0,some x1,some x2] M Q E:=propext ⟨λh=>h.2,λh=>⟨rfl,h⟩⟩
theorem jL{x0 x1 x2 x3 x4:D}:aa T B (n+1) 4 [x0,x1,x2,x3,x4] M Q E=runF T B n cS [some x0,some x1,some x2,some x3,some x4] M Q E:=propext ⟨λh=>h.2,λh=>⟨rfl,h⟩⟩
theorem kU{x0 x1 x2 x3:D}:aa T B (n+1) 6 [x0,x1,x2,x3] M Q E=runF T B n dG [some x0,some x1,some x2,some x3] M Q E:=propext ⟨λh=>h.2,λh=>⟨rfl,h⟩⟩
theorem kW{x0 x1 x2 x3:D}:aa T B (n+1) 8 [x0,x1,x2,x3] M Q E=runF T B n dD [some x0,some x1,some x2,some x3] M Q E:=propext ⟨λh=>h.2,λh=>⟨rfl,h⟩⟩
theorem mL{x0 x1:D}:aa T B (n+1) 10 [x0,x1] M Q E=runF T B n eN [some x0,some x1] M Q E:=propext ⟨λh=>h.2,λh=>⟨rfl,h⟩⟩
theorem ow{x0:D}:aa T B (n+1) 11 [x0] M Q E=runF T B n fy [some x0] M Q E:=propext ⟨λh=>h.2,λh=>⟨rfl,h⟩⟩
theorem dj{x0:D}:aa T B (n+1) 12 [x0] M Q E=runF T B n bw [some x0,none] M Q E:=propext ⟨λh=>h.2,λh=>⟨rfl,h⟩⟩
theorem pH{x0 x1:D}:aa T B (n+1) 13 [x0,x1] M Q E=runF T B n gO [some x0,some x1,none] M Q E:=propext ⟨λh=>h.2,λh=>⟨rfl,h⟩⟩
theorem vO{x0:D}:aa T B (n+1) 14 [x0] M Q E=runF T B n mQ [some x0,none,none,none] M Q E:=propext ⟨λh=>h.2,λh=>⟨rfl,h⟩⟩
theorem jB{x0:D}:aa T B (n+1) 15 [x0] M Q E=aP {toWB:=B,call:=aa T B n} c7 {nx:=λ_ M'=>Q .i_ M',rt:=λv M'=>Q v M'} (λ_ i M'=>E i (ar M M')) [some x0] M:=propext ⟨λh=>h.2,λh=>⟨rfl,h⟩⟩
theorem kH{x0 x1:D}:aa T B (n+1) 16 [x0,x1] M Q E=runF T B n dH [some x0,some x1,none] M Q E:=propext ⟨λh=>h.2,λh=>⟨rfl,h⟩⟩
theorem gV{x0 x1 x2:D}:aa T B (n+1) 17 [x0,x1,x2] M Q E=runF T B n bK [some x0,some x1,some x2,none] M Q E:=propext ⟨λh=>h.2,λh=>⟨rfl,h⟩⟩
theorem dX{x0 x1 x2:D}:aa T B (n+1) 18 [x0,x1,x2] M Q E=runF T B n bj [some x0,some x1,some x2] M Q E:=propext ⟨λh=>h.2,λh=>⟨rfl,h⟩⟩
theorem wJ{x0 x1:D}:aa T B (n+1) 19 [x0,x1] M Q E=runF T B n mX [some x0,some x1,none,none,none] M Q E:=propext ⟨λh=>h.2,λh=>⟨rfl,h⟩⟩
theorem xO{x0 x1:D}:aa T B (n+1) 20 [x0,x1] M Q E=runF T B n mo [some x0,some x1,none,none] M Q E:=propext ⟨λh=>h.2,λh=>⟨rfl,h⟩⟩
theorem lJ{x0 x1:D}:aa T B (n+1) 21 [x0,x1] M Q E=runF T B n fZ [some x0,some x1,none] M Q E:=propext ⟨λh=>h.2,λh=>⟨rfl,h⟩⟩
theorem kF{x0 x1:D}:aa T B (n+1) 22 [x0,x1] M Q E=runF T B n cX [some x0,some x1] M Q E:=propext ⟨λh=>h.2,λh=>⟨rfl,h⟩⟩
theorem bx{x0 x1:D}:aa T B (n+1) 23 [x0,x1] M Q E=runF T B n aM [some x0,some x1,none] M Q E:=propext ⟨λh=>h.2,λh=>⟨rfl,h⟩⟩
theorem zP{x0 x1 x2:D}:aa T B (n+1) 24 [x0,x1,x2] M Q E=runF T B n pV [some x0,some x1,some x2,none,none,none,none,none] M Q E:=propext ⟨λh=>h.2,λh=>⟨rfl,h⟩⟩
theorem Ef{x0 x1:D}:aa T B (n+1) 25 [x0,x1] M Q E=runF T B n uV [some x0,some x1] M Q E:=propext ⟨λh=>h.2,λh=>⟨rfl,h⟩⟩
theorem AJ{x0 x1 x2:D}:aa T B (n+1) 26 [x0,x1,x2] M Q E=runF T B n pj [some x0,some x1,some x2] M Q E:=propext ⟨λh=>h.2,λh=>⟨rfl,h⟩⟩
theorem iN{x0 x1:D}:aa T B (n+1) 27 [x0,x1] M Q E=aP {toWB:=B,call:=aa T B n} bP {nx:=λ_ M'=>Q .i_ M',rt:=λv M'=>Q v M'} (λ_ i M'=>E i (ar M M')) [some x0,some x1] M:=propext ⟨λh=>h.2,λh=>⟨rfl,h⟩⟩
theorem kL{x0:D}:aa T B (n+1) 28 [x0] M Q E=runF T B n dE [some x0] M Q E:=propext ⟨λh=>h.2,λh=>⟨rfl,h⟩⟩
theorem gw{x0 x1:D}:aa T B (n+1) 29 [x0,x1] M Q E=runF T B n bu [some x0,some x1,none] M Q E:=propext ⟨λh=>h.2,λh=>⟨rfl,h⟩⟩
theorem fF{x0 x1:D}:aa T B (n+1) 30 [x0,x1] M Q E=runF T B n bL [some x0,some x1] M Q E:=propext ⟨λh=>h.2,λh=>⟨rfl,h⟩⟩
theorem cw{x0 x1:D}:aa T B (n+1) 31 [x0,x1] M Q E=runF T B n aU [some x0,some x1,none] M Q E:=propext ⟨λh=>h.2,λh=>⟨rfl,h⟩⟩
theorem cU{x0 x1 x2:D}:aa T B (n+1) 32 [x0,x1,x2] M Q E=aP {toWB:=B,call:=aa T B n} aX {nx:=λ_ M'=>Q .i_ M',rt:=λv M'=>Q v M'} (λ_ i M'=>E i (ar M M')) [some x0,some x1,some x2,none,none,none,none,none] M:=propext ⟨λh=>h.2,λh=>⟨rfl,h⟩⟩
theorem jW{x0 x1:D}:aa T B (n+1) 33 [x0,x1] M Q E=runF T B n cV [some x0,some x1] M Q E:=propext ⟨λh=>h.2,λh=>⟨rfl,h⟩⟩
theorem iU{x0 x1:D}:aa T B (n+1) 34 [x0,x1] M Q E=runF T B n bQ [some x0,some x1] M Q E:=propext ⟨λh=>h.2,λh=>⟨rfl,h⟩⟩
theorem kD{x0 x1 x2:D}:aa T B (n+1) 35 [x0,x1,x2] M Q E=aP {toWB:=B,call:=aa T B n} da {nx:=λ_ M'=>Q .i_ M',rt:=λv M'=>Q v M'} (λ_ i M'=>E i (ar M M')) [some x0,some x1,some x2,none,none,none,none,none,none] M:=propext ⟨λh=>h.2,λh=>⟨rfl,h⟩⟩
theorem gW{x0 x1 x2 x3 x4:D}:aa T B (n+1) 36 [x0,x1,x2,x3,x4] M Q E=runF T B n bJ [some x0,some x1,some x2,some x3,some x4] M Q E:=propext ⟨λh=>h.2,λh=>⟨rfl,h⟩⟩
theorem cA{x0 x1:D}:aa T B (n+1) 37 [x0,x1] M Q E=runF T B n aL [some x0,some x1] M Q E:=propext ⟨λh=>h.2,λh=>⟨rfl,h⟩⟩
theorem f8{x0 x1 x2:D}:aa T B (n+1) 38 [x0,x1,x2] M Q E=runF T B n bp [some x0,some x1,some x2] M Q E:=propext ⟨λh=>h.2,λh=>⟨rfl,h⟩⟩
theorem gf{x0:D}:aa T B (n+1) 39 [x0] M Q E=runF T B n bX [some x0] M Q E:=propext ⟨λh=>h.2,λh=>⟨rfl,h⟩⟩
theorem dR{x0 x1:D}:aa T B (n+1) 40 [x0,x1] M Q E=runF T B n bb [some x0,some x1] M Q E:=propext ⟨λh=>h.2,λh=>⟨rfl,h⟩⟩
theorem jj{x0 x1 x2:D}:aa T B (n+1) 41 [x0,x1,x2] M Q E=runF T B n cy [some x0,some x1,some x2] M Q E:=propext ⟨λh=>h.2,λh=>⟨rfl,h⟩⟩
theorem gi{x0 x1:D}:aa T B (n+1) 43 [x0,x1] M Q E=runF T B n bZ [some x0,some x1] M Q E:=propext ⟨λh=>h.2,λh=>⟨rfl,h⟩⟩
theorem qr{x0 x1:D}:aa T B (n+1) 44 [x0,x1] M Q E=runF T B n gN [some x0,some x1,none,none,none,none] M Q E:=propext ⟨λh=>h.2,λh=>⟨rfl,h⟩⟩
theorem fS{x0 x1 x2 x3 x4:D}:aa T B (n+1) 45 [x0,x1,x2,x3,x4] M Q E=runF T B n cQ [some x0,some x1,some x2,some x3,some x4,none,none] M Q E:=propext ⟨λh=>h.2,λh=>⟨rfl,h⟩⟩
theorem rJ{x0 x1 x2:D}:aa T B (n+1) 46 [x0,x1,x2] M Q E=runF T B n iG [some x0,some x1,some x2,none,none,none,none,none,none,none,none,none,none] M Q E:=propext ⟨λh=>h.2,λh=>⟨rfl,h⟩⟩
theorem oI{x0:D}:aa T B (n+1) 47 [x0] M Q E=runF T B n fv [some x0,none,none] M Q E:=propext ⟨λh=>h.2,λh=>⟨rfl,h⟩⟩
theorem j9{x0 x1 x2:D}:aa T B (n+1) 48 [x0,x1,x2] M Q E=runF T B n eQ [some x0,some x1,some x2,none,none] M Q E:=propext ⟨λh=>h.2,λh=>⟨rfl,h⟩⟩
theorem jc{x0 x1 x2 x3 x4 x5:D}:aa T B (n+1) 49 [x0,x1,x2,x3,x4,x5] M Q E=runF T B n dA [some x0,some x1,some x2,some x3,some x4,some x5,none,none] M Q E:=propext ⟨λh=>h.2,λh=>⟨rfl,h⟩⟩
theorem eJ{x0 x1 x2 x3:D}:aa T B (n+1) 50 [x0,x1,x2,x3] M Q E=runF T B n bD [some x0,some x1,some x2,some x3,none,none] M Q E:=propext ⟨λh=>h.2,λh=>⟨rfl,h⟩⟩
theorem mO{x0 x1:D}:aa T B (n+1) 51 [x0,x1] M Q E=runF T B n eo [some x0,some x1,none] M Q E:=propext ⟨λh=>h.2,λh=>⟨rfl,h⟩⟩
theorem C0{x0:D}:aa T B (n+1) 52 [x0] M Q E=runF T B n vh [some x0,none,none,none,none,none,none,none,none,none,none,none,none,none,none,none] M Q E:=propext ⟨λh=>h.2,λh=>⟨rfl,h⟩⟩
end
theorem top_mk{P:Params}{h:Heap}{mg:Str->Option Value}(X:(HD.K P).In h)(Gn:h.Ns mainGlobals mg)
  {qt0:Tok}
  (Ql:PySem.W.nsIn (HD.K P) mainGlobals "MOST_HANDS"=some (some (.int (6) qt0)))
  {h6:Addr}{xod6 xan6:Option Addr}{xsl6:Array (Option Value)}{xoc6 xkV6 xdc6 xpm6 xcd6 xct6:Value}
  (x6:dI (HD.K P) 111=true)
  (O5:PySem.W.findIn (HD.K P) (.ref 111) "__init__"=some (some (.ref h6)))
  (O6:(HD.K P).lookup h6=some ⟨xoc6,xod6,.func (PySem.W.fnOf "__init__" "Backward.__init__" (bV (ak (top 8) 0)) (bn (ak (top 8) 0)) (aw (ak (top 8) 0)) .none xkV6 xdc6 xpm6 xan6 xcd6 xct6),xsl6⟩)
  {Qm:Str}{Tq:Nat}{Qn Ow Qo Qp Ox Qq Qr Qs Qt Qu Tr Ts:Pos}
  (Qv:bn (ak (top 8) 0)=[.Expr (.Call (.Attribute (.Name "DriftError" Qn) "__init__" Ow) [.Name "self" Qo,.Constant (.str Qm) Tq Qp] [] Ox) Qq,.Assign [.Attribute (.Name "self" Qr) "last" Qs] (.Name "last" Qt) Qu])
  (Qw:uy "self" "last" "DriftError" (aw (ak (top 8) 0)) Ow Ox=true)
  (O7:PySem.W.codeIn (HD.K P) xcd6 "Backward.__init__"=true)
  (Qx:PySem.W.keepIn (HD.K P) (.ref h6)=true)
  (O8:PySem.W.typeIn (HD.K P) (.ref h6)=some (.type "function"))
  : ∃cls b_ d_,Top (HD.K P) mg L nm (B cls b_ d_):=by
 refine⟨λi=>([31,44,56,68,80,92,111,123,135]:List Nat).getD i 0,λi=>([161,196,229,262,295,354,486,577]:List Nat).getD i 0,λi=>([144,158,179,186,212,219,245,252,278,285,302,309,316,323,330,344,351,365,372,379,386,391,396,403,410,415,422,436,443,450,457,464,469,497,504,518,525,532,539,546,553,560,574,588,595,602,607,614,621,626,631,638,643]:List Nat).getD i 0,Top.of (fT:=fokT) (mT:=mthT) (iT:=Dz) X Gn (by kernel_rfl) (by kernel_rfl) (by kernel_rfl) (ixc (n1 (by intros;rfl)) (ixc (n3 (by intros;rfl)) (ixc (n3 (by intros;rfl)) (ixc (n1 (by intros;rfl)) (ixc (n5 (by intros;rfl)) (ixc (n1 (by intros;rfl)) (ixc (n4 (by intros;rfl)) (ixc (n1 (by intros;rfl)) (ixc (n4 (by intros;rfl)) (ixc (n1 (by intros;rfl)) (ixc (n2 (by intros;rfl)) (ixc (n1 (by intros;rfl)) (ixc (n1 (by intros;rfl)) (ixc (n2 (by intros;rfl)) (ixc (n1 (by intros;rfl)) (ixc (n1 (by intros;rfl)) (ixc (n2 (by intros;rfl)) (ixc (n3 (by intros;rfl)) (ixc (n3 (by intros;rfl)) (ixc (n2 (by intros;rfl)) (ixc (n2 (by intros;rfl)) (ixc (n2 (by intros;rfl)) (ixc (n2 (by intros;rfl)) (ixc (n2 (by intros;rfl)) (ixc (n3 (by intros;rfl)) (ixc (n2 (by intros;rfl)) (ixc (n3 (by intros;rfl)) (ixc (n2 (by intros;rfl)) (ixc (n1 (by intros;rfl)) (ixc (n2 (by intros;rfl)) (ixc (n2 (by intros;rfl)) (ixc (n2 (by intros;rfl)) (ixc (n3 (by intros;rfl)) (ixc (n2 (by intros;rfl)) (ixc (n2 (by intros;rfl)) (ixc (n3 (by intros;rfl)) (ixc (n5 (by intros;rfl)) (ixc (n2 (by intros;rfl)) (ixc (n3 (by intros;rfl)) (ixc (n1 (by intros;rfl)) (ixc (n2 (by intros;rfl)) (ixc (n3 (by intros;rfl)) (ixc (n3 (by intros;rfl)) (ixc (n2 (by intros;rfl)) (ixc (n2 (by intros;rfl)) (ixc (n5 (by intros;rfl)) (ixc (n3 (by intros;rfl)) (ixc (n1 (by intros;rfl)) (ixc (n3 (by intros;rfl)) (ixc (n6 (by intros;rfl)) (ixc (n4 (by intros;rfl)) (ixc (n2 (by intros;rfl)) (ixc (n1 (by intros;rfl)) (ixn)))))))))))))))))))))))))))))))))))))))))))))))))))))) (by kernel_rfl) (by kernel_rfl) (by kernel_rfl) (by kernel_rfl) (λ_ _=>rfl) (λ_ _=>rfl) (λ_=>rfl) (by kernel_rfl) ?_ ?_ ?_ (CH (by kernel_rfl))⟩
 ·intro k x hi
  match k,hi with
  |0,hi=>cases hi;exact⟨_,.int (6),PySem.W.mg_of X Gn Ql,⟨_,rfl⟩,λH=>rfl⟩
  |n+1,hi=>simp[nm]at hi
 ·intro i f hx;have hx:=cW (show [(6,245166316)].lookup i=some f from hx);simp only[Jb,Prod.mk.injEq,JF,or_false]at hx;rcases hx with ⟨rfl,rfl⟩
  ·refine⟨rfl,h6,_,["self","last"],?_,.all ((AO (st:=ak (top 8) 0) O6 O7 Qx).bindsE λ_ _ _ _ _ _=>usS λ_=>usS λ_=>us0 rfl),λP w base=>?_⟩<;>rw[zU]
   ·exact⟨x6,O5,O8,by kernel_rfl,by kernel_rfl,by kernel_rfl,by kernel_rfl,by kernel_rfl⟩
   ·exact An Qv Qw O6 O7 (PySem.W.mg_of X Gn (v:=.ref 31) (by kernel_rfl)) ⟨by kernel_rfl,by kernel_rfl,by kernel_rfl⟩ ⟨x6,O5,O8,by kernel_rfl,by kernel_rfl,by kernel_rfl,by kernel_rfl,by kernel_rfl⟩
 ·intro i f hi hx;have hx:=cW (show [(6,245166316)].lookup i=some f from hx);simp only[Jb,Prod.mk.injEq,JF,or_false]at hx;rcases hx with ⟨rfl,rfl⟩
  ·show PySem.W.findIn (HD.K P) (.ref 111) (fnm 245166316)=some none
   kernel_rfl
end G
namespace G
open L2
section
variable {cls b_ d_:Nat->PySem.Addr}{M:MH}{Q:VK3}{E:XN}{n:Nat}{p q d:PySem.Addr}{cl ds:List D}{ks:List (List Int)}
noncomputable abbrev fC:Nat:=136762133858116729320171
noncomputable abbrev fW:Nat:=8355170983792620267
structure Wd (b_:Nat->PySem.Addr)(M:MH)(p q d:PySem.Addr)(cl:List D) (ks:List (List Int)) (ds:List D):Prop where
 ip:M p=some (.ins 7 (b_ 7) [fC,fW] [.ref q,.ref d])
 iq:M q=some (.lst cl)
 id:M d=some (.dt ks ds)
theorem Ev(h:Wd b_ M p q d cl ks ds):bT (B cls b_ d_) fC (.ref p) M Q=Q (.ref q) M:=by
 simp[bT,h.ip,gB,fC,fW]
theorem yJ(h:Wd b_ M p q d cl ks ds):bT (B cls b_ d_) fW (.ref p) M Q=Q (.ref d) M:=by
 simp[bT,h.ip,gB,fC,fW]
theorem i3(h:Wd b_ M p q d cl ks ds)(hm:mth 7 m=some f)(h1:fC≠m)(h2:fW≠m):bh (B cls b_ d_) m (.ref p) M R=R f:=by
 simp[bh,h.ip,hm,h1,h2,dM]
theorem wT(h:Wd b_ M p q d cl ks ds):aa T (B cls b_ d_) (n+1) 39 [.ref p] M Q E=Q (.int cl.length) M:=by
 simp[gf,bX,Ev h];simp[rBi,ai,az,h.iq]
theorem qd(h:Wd b_ M p q d cl ks ds):aa T (B cls b_ d_) (n+2) 40 [.ref p,.int i] M Q E=Q (.bl (decide (0<=i)&&decide (i<cl.length))) M:=by
 simp[dR,bb];by_cases h0:0<=i
 ·simp[h0];rw[i3 h (f:=39) (by decide) (by decide) (by decide),wT h]
  simp
 ·simp[h0]
noncomputable def okH(n:Nat)(i:Int):Bool:=decide (0<=i)&&decide (i<n)
theorem gh(h:Wd b_ M p q d cl ks ds)(ho:okH cl.length i=true):aa T (B cls b_ d_) (n+3) 37 [.ref p,.int i] M Q E=Q .i_ M:=by
 simp[cA,aL];rw[i3 h (f:=40) (by decide) (by decide) (by decide),qd h]
 unfold okH at ho;rw[ho];simp
theorem kG(h:Wd b_ M p q d cl ks ds)(h1:okH cl.length i=true)(h2:okH cl.length j=true)(h3:i≠j):aa T (B cls b_ d_) (n+4) 38 [.ref p,.int i,.int j] M Q E=Q .i_ M:=by
 simp[f8,bp];rw[i3 h (f:=37) (by decide) (by decide) (by decide),gh h h1]
 rw[i3 h (f:=37) (by decide) (by decide) (by decide),gh h h2]
 simp[h3]
noncomputable def xb(l:Int)(m:Option Int):Bool:=decide (l<0)||(match m with|some m=>decide (m<l)|none=>false)
theorem sR(hb:xb l m=false):aa T (B cls b_ d_) (n+1) 34 [.int l,oi m] M Q E=Q .i_ M:=by
 simp only[xb,Bool.or_eq_false_iff,decide_eq_false_iff_not]at hb;simp only[iU,bQ];cases m with
 |none=>simp[hb.1,oi]
 |some m=>
  have h2:¬ m<l:=of_decide_eq_false hb.2;simp[hb.1,h2,oi]
noncomputable def xo(p:Int×Int):Bool:=decide (p.1<1)||decide (p.2<p.1)
theorem vY(hb:xo (a,b)=false):aa T (B cls b_ d_) (n+1) 33 [.int a,.int b] M Q E=Q .i_ M:=by
 simp only[xo,Bool.or_eq_false_iff,decide_eq_false_iff_not]at hb;simp[jW,cV,hb.1,hb.2]
theorem CV(h:Wd b_ M p q d cl ks ds)(hl:ks.length=ds.length):au .In (.tup [.int i,.int j]) (.ref d) M Q=Q (.bl (decide ([i,j]∈ks))) M:=by
 have e:(getD ks ds [i,j]).isSome=decide ([i,j]∈ks):=by
  clear h
  induction ks generalizing ds with
  |nil=>cases ds<;>simp[getD]
  |cons k ks ih=>
   cases ds with
   |nil=>simp at hl
   |cons x ds=>
    simp only[getD];by_cases e:k=[i,j]
    ·simp[e]
    ·rw[IY e,ih (by simpa using hl)]
     simp[Ja e]
 simp[au,l6,az,ai,h.id,iW,eX,gG,gx,c8,e]
theorem nj:∀{ks:List (List Int)},k∉ks->aj ks k=ks++[k]
 |[],_=>rfl
 |a::ks,h=>by
  have h1:a≠k:=λe=>h (by simp[e])
  have h2:k∉ks:=λe=>h (by simp[e])
  simp[aj,h1,nj h2]
noncomputable def way(l:Int)(m:Option Int):D:=.tup [.int l,oi m]
theorem xt(h:Wd b_ M p q d cl ks ds)(hl:ks.length=ds.length)(hz:ks.length<1000)(h1:okH cl.length i=true)(h2:okH cl.length j=true)(h3:i≠j)(h4:[i,j]∉ks)(h5:xb l m=false):aa T (B cls b_ d_) (n+5) 36 [.ref p,.int i,.int j,.int l,oi m] M Q E=Q .i_ (put M d (.dt (aj ks [i,j]) (am ks ds [i,j] (way l m)))):=by
 have hs:ks.length<PySem.sizeLine:=Jm hz (by decide)
 simp[gW,bJ];rw[i3 h (f:=38) (by decide) (by decide) (by decide),kG h h1 h2 h3]
 simp[aE];rw[show bT (B cls b_ d_) 8355170983792620267 (.ref p) M _=_ from yJ h];rw[CV h hl];simp[h4];rw[sR h5];rw[show bT (B cls b_ d_) 8355170983792620267 (.ref p) M _=_ from yJ h];simp[aY,h.id,gx,c8,hs,c6 h.id,way]
noncomputable def cD(p:Int×Int):D:=.tup [.int p.1,.int p.2]
structure Wy where
 i:Int
 j:Int
 l:Int
 m:Option Int
noncomputable def wD(w:Wy):D:=.tup [.int w.i,.int w.j,.int w.l,oi w.m]
theorem iy(h:a≠b):put (put (put M a x) b y) a z=put (put M a z) b y:=by
 funext c;unfold put;by_cases h1:c=a
 ·subst h1;simp[h]
 ·simp[h1]
theorem iV(h:a≠b)(h':a≠c):put (put (put (put M a x) b y) c w) a z=put (put (put M a z) b y) c w:=by
 funext e;unfold put;by_cases h1:e=a
 ·subst h1;simp[h,h']
 ·simp[h1]
theorem fX{ns:List Nat}(h:M p=some (.ins i C ns es)):fD (B cls b_ d_) f y R (.ref p) M=((C=(B cls b_ d_).b_ i/\i<(B cls b_ d_).nk/\(B cls b_ d_).fok i f=true/\ns.length<1000)/\R (put M p (.ins i C (b9 f ns) (cb f y ns es)))):=by
 simp[fD,h]
noncomputable def pr(w:Wy):List Int:=[w.i,w.j]
noncomputable def wv(w:Wy):D:=way w.l w.m
structure Wy.good (n:Nat)(w:Wy):Prop where
 i:okH n w.i=true
 j:okH n w.j=true
 ne:w.i≠w.j
 l:xb w.l w.m=false
theorem ni:∀{ks:List (List Int)}{ds:List D},ks.length=ds.length->k∉ks->am ks ds k v=ds++[v]
 |[],[],_,_=>rfl
 |a::ks,e::ds,hl,h=>by
  have h1:a≠k:=λz=>h (by simp[z])
  have h2:k∉ks:=λz=>h (by simp[z])
  simp[am,h1,ni (by simpa using hl) h2]
theorem lI{S:MH->Prop}(hS:S M){De:Ends3}{ES:St3->XN}{R:Prop}{x0 x1 x2 x5 x6 x7 x8:Option D}:∀(e_:List (Int×Int)) (x3 x4:Option D),(∀c∈e_,xo c=false)->(∀x y,De.nx [x0,x1,x2,x,y,x5,x6,x7,x8] M=R)->
  bC ⟨(B cls b_ d_),aa T (B cls b_ d_) (n+1)⟩ (.tup [3,4]) bz ES S De (e_.map cD) [x0,x1,x2,x3,x4,x5,x6,x7,x8] M=R
 |[],x3,x4,_,hR=>by simp[bW,hR,hS]
 |(c1,c2)::r,x3,x4,hc,hR=>by
  have ih:=lI hS (De:=De) (ES:=ES) (R:=R) (x0:=x0) (x1:=x1) (x2:=x2) (x5:=x5) (x6:=x6) (x7:=x7) (x8:=x8) r (some (.int c1)) (some (.int c2)) (λc h=>hc c (IX _ h)) hR
  have h':=hc (c1,c2) Jd;rw[Ji,aG];simp only[bz,cD]at ih ⊢;rw[<-ih];simp[vY,h',hS]
theorem jM{S:MH->Prop}{Mb:MH}(hS:∀ks ds,S (put Mb d (.dt ks ds)))(hw:∀ks ds,Wd b_ (put Mb d (.dt ks ds)) p q d cl ks ds){De:Ends3}{ES:St3->XN}{R:Prop}{x1 x2 x3 x4:Option D}:∀(wy:List Wy) (ks:List (List Int)) (ds:List D)(x5 x6 x7 x8:Option D),ks.length=ds.length->ks.length+wy.length<500->
  (∀w∈wy,w.good cl.length)->(wy.map pr).Nodup->(∀w∈wy,pr w∉ks)->(∀x5 x6 x7 x8,De.nx [some (.ref p),x1,x2,x3,x4,x5,x6,x7,x8] (put Mb d (.dt (ks++wy.map pr) (ds++wy.map wv)))=R)->
  bC ⟨(B cls b_ d_),aa T (B cls b_ d_) (n+5)⟩ (.tup [5,6,7,8]) bI ES S De (wy.map wD) [some (.ref p),x1,x2,x3,x4,x5,x6,x7,x8] (put Mb d (.dt ks ds))=R
 |[],ks,ds,x5,x6,x7,x8,hl,hz,hg,hn,hk,hR=>by
  have:=hR x5 x6 x7 x8;simp at this;simp[bW,this,hS]
 |w::r,ks,ds,x5,x6,x7,x8,hl,hz,hg,hn,hk,hR=>by
  simp only[Jr]at hz;have g:=hg w Jd;have LD:[w.i,w.j]∉ks:=hk w Jd;rw[Ji,Jo]at hn;have ih:=jM hS hw (De:=De) (ES:=ES) (R:=R) (x1:=x1) (x2:=x2) (x3:=x3) (x4:=x4) r (ks++[[w.i,w.j]]) (ds++[way w.l w.m]) (some (.int w.i)) (some (.int w.j)) (some (.int w.l)) (some (oi w.m)) (by simp[hl]) (by simp;omega) (λv hv=>hg v (IX _ hv)) hn.2 (λv hv=>by
   intro z;rcases Jv.mp z with z|z
   ·exact hk v (IX _ hv) z
   ·exact hn.1 (by rw[show pr w=pr v from (Ju.mp z).symm];exact List.mem_map_of_mem hv)) (λa b c e=>by
    have:=hR a b c e;simpa [pr,wv] using this)
  rw[Ji,aG];simp only[bI,wD]at ih ⊢;have h1:okH cl.length w.i=true/\okH cl.length w.j=true/\w.i≠w.j:=⟨g.i,g.j,g.ne⟩;simp[xL,hS];rw[i3 (hw ks ds) (f:=36) (by decide) (by decide) (by decide),xt (hw ks ds) hl (by omega) g.i g.j g.ne LD g.l,cM,nj LD,ni hl LD]
  simpa using ih
noncomputable def wO(b_:Nat->PySem.Addr)(e_:List (Int×Int))(wy:List Wy):D:=.obj 7 (b_ 7) [fC,fW] [.g_ (e_.map cD),.K_ (wy.map pr) (wy.map wv)]
theorem xZ{e_:List (Int×Int)}{wy:List Wy}(hM:Fm M)(h1:1<=e_.length)(h6:e_.length<=6)(hc:∀c∈e_,xo c=false)(h2:wy.length<400)(Tt:∀w∈wy,w.good e_.length)(hn:(wy.map pr).Nodup) :
  (∀p,M p=none->aa T (B cls b_ d_) (n+6) 35 [.ref p,.g_ (e_.map cD),.g_ (wy.map wD)] (put M p (.ins 7 (b_ 7) [] [])) (λv M2=>v=.i_/\be Q (.ref p) M2) (λi M'=>E i (del M' p)))=Q (wO b_ e_ wy) M:=by
 refine ay hM λp hp=>?_
 have hz:e_.length<=PySem.sizeLine:=Jw (show e_.length<=1000 by omega) (by decide)
 have hB:¬ (e_.length:Int)<1:=by omega
 have hC:¬ (6:Int)<e_.length:=by omega
 have Tu:¬ e_.length<1:=by omega
 have Tv:¬ 6<e_.length:=by omega
 have Nv:¬ e_=[]:=λz=>by simp[z]at h1
 simp[kD,da,hB,hC,Tu,Tv,Nv];refine iff_of_eq (lI (S:=λ_=>True) trivial e_ none none hc λx y=>?_)
 simp[rBi,az,ai,hz];refine iff_of_eq (ay (hM.put _ _) λq hq=>?_)
 obtain⟨NC,hq⟩:=ba hq;rw[show fD (B cls b_ d_) 136762133858116729320171 (.ref q) _ (.ref p) (put (put M p (.ins 7 (b_ 7) [] [])) q (.lst (e_.map cD)))=_ from fX (by rw[af (Ja NC),ah])]
 simp;rw[iy (Ja NC)];refine iff_of_eq (ay ((hM.put _ _).put _ _) λd hd=>?_)
 obtain⟨Rx,hd⟩:=ba hd;obtain⟨MI,hd⟩:=ba hd;rw[show fD (B cls b_ d_) 8355170983792620267 (.ref d) _ (.ref p) (put (put (put M p (.ins 7 (b_ 7) [136762133858116729320171] [.ref q])) q (.lst (e_.map cD))) d (.dt [] []))=_ from fX (by rw[af (Ja MI),af (Ja NC),ah])]
 simp;rw[iV (Ja NC) (Ja MI)];have hw:∀ks ds,Wd b_ (put (put (put M p (.ins 7 (b_ 7) [fC,fW] [.ref q,.ref d])) q (.lst (e_.map cD))) d (.dt ks ds)) p q d (e_.map cD) ks ds:=λks ds=>
  ⟨by rw[af (Ja MI),af (Ja NC),ah],by rw[af (Ja Rx),ah],ah⟩
 refine iff_of_eq (jM (S:=λ_=>True) (λks ds=>trivial) hw wy [] [] none none none none rfl (by simp;omega) (by simpa using Tt) hn (λw _ z=>by cases z) λx5 x6 x7 x8=>?_)
 rw[List.nil_append,List.nil_append];simp only[be];rw[(hw _ _).ip];simp only[eW];have e1:∀KH Kl,del (put (put (put M p (.ins 7 (b_ 7) [fC,fW] [.ref q,.ref d])) q (.lst (e_.map cD))) d (.dt KH Kl)) p q=some (.lst (e_.map cD)):=λKH Kl=>by
  unfold del;rw[IY NC];exact (hw KH Kl).iq
 rw[e1];have e2:∀KH Kl,del (del (put (put (put M p (.ins 7 (b_ 7) [fC,fW] [.ref q,.ref d])) q (.lst (e_.map cD))) d (.dt KH Kl)) p) q d=some (.dt KH Kl):=λKH Kl=>by
  unfold del;rw[IY Rx,IY MI];exact (hw KH Kl).id
 simp only[e2];have e3:∀KH Kl,del (del (del (put (put (put M p (.ins 7 (b_ 7) [fC,fW] [.ref q,.ref d])) q (.lst (e_.map cD))) d (.dt KH Kl)) p) q) d=M:=λKH Kl=>by
  funext a;unfold del put;by_cases a1:a=d
  ·subst a1;simp[hd]
  ·by_cases a2:a=q
   ·subst a2;simp[hq,a1]
   ·by_cases a3:a=p
    ·subst a3;simp[hp,a1,a2]
    ·simp[a1,a2,a3]
 rw[e3];rfl
theorem Bd(ns:List Int)(k:Nat):∃x:Int,∀{n:Nat}{M:MH}{Q:VK3}{E:XN},aa T (B cls b_ d_) (n+1) 43 [scr ns,.int k] M Q E=Q (.int x) M:=by
 by_cases h:k<ns.length
 ·obtain⟨x,hx⟩:=D8 (cs:=ns) (i:=k) (by omega) (by omega)
  refine⟨x,?_⟩;intro n M Q E;have h':(k:Int)<ns.length:=by omega
  simp[gi,bZ,scr,cg hx,h]
 ·refine⟨0,?_⟩;intro n M Q E;simp[gi,bZ,scr,h]
theorem jT(lo:Int)(k:Nat):rng lo (k+1)=.int lo::rng (lo+1) k:=by
 simp only[rng,List.range_succ_eq_map,Ji,JM];congr 1
 ·simp
 ·apply List.map_congr_left;intro i _;simp;omega
variable {e_:List (Int×Int)}{wy:List Wy}
theorem o_c:bT (B cls b_ d_) 136762133858116729320171 (wO b_ e_ wy) M Q=Q (.g_ (e_.map cD)) M:=by simp[wO,fC,fW]
theorem o_w:bT (B cls b_ d_) 8355170983792620267 (wO b_ e_ wy) M Q=Q (.K_ (wy.map pr) (wy.map wv)) M:=by simp[wO,fC,fW]
theorem o_m(hm:mth 7 m=some f)(h1:fC≠m)(h2:fW≠m):bh (B cls b_ d_) m (wO b_ e_ wy) M R=R f:=by
 simp[wO,hm,h1,h2]
theorem o1:bh (B cls b_ d_) 31081607400 (wO b_ e_ wy) M R=R 39:=o_m (by decide) (by decide) (by decide)
theorem oJ:aa T (B cls b_ d_) (n+1) 39 [wO b_ e_ wy] M Q E=Q (.int e_.length) M:=by
 simp[gf,bX,o_c]
theorem cj:aa T (B cls b_ d_) (n+2) 40 [wO b_ e_ wy,.int i] M Q E=Q (.bl (okH e_.length i)) M:=by
 simp[dR,bb,okH];by_cases h0:0<=i
 ·simp[h0,o1,oJ]
 ·simp[h0]
theorem eZ:aa T (B cls b_ d_) (n+3) 37 [wO b_ e_ wy,.int i] M Q E=if okH e_.length i=true then Q .i_ M else E ⟨2,none⟩ M:=by
 simp[cA,aL];rw[o_m (f:=40) (by decide) (by decide) (by decide),cj]
 cases okH e_.length i<;>simp[aE]
theorem ux:∀{wy:List Wy},(getD (wy.map pr) (wy.map wv) k).isSome=decide (k∈wy.map pr)
 |[]=>by simp[getD]
 |w::r=>by
  have ih:=ux (k:=k) (wy:=r);simp only[Ji,getD];by_cases e:pr w=k
  ·simp[e]
  ·rw[IY e,ih];simp[Ja e]
theorem zS:au .In (.tup [.int i,.int j]) (.K_ (wy.map pr) (wy.map wv)) M Q=Q (.bl (decide ([i,j]∈wy.map pr))) M:=by
 have e:=ux (k:=[i,j]) (wy:=wy);simp[au,l6,az,ai,iW,eX,gG,gx,c8,e]
theorem qi:aa T (B cls b_ d_) (n+1) 41 [wO b_ e_ wy,.int i,.int j] M Q E=Q (.bl (decide ([i,j]∈wy.map pr))) M:=by
 simp only[jj,cy];simp[aE,↓o_w,↓zS]
end
section
variable {cls b_ d_:Nat->PySem.Addr}{M:MH}{Q:VK3}{E:XN}{n:Nat}{p q:PySem.Addr}{e_:List (Int×Int)}{wy:List Wy}
theorem jO:aa T (B cls b_ d_) (n+1) 0 [.int i] M Q E=Q (.bl true) M:=by
 simp[pP,gz]
theorem Be{a b:Int}{E:PySem.Addr->XN}(hM:Fm M):(∀p,M p=none->aa T (B cls b_ d_) (n+2) 2 [.ref p,.int a,.int b] (put M p (.ins 1 (b_ 1) [] [])) (λv M2=>v=.i_/\be Q (.ref p) M2) (E p))=Q (.obj 1 (b_ 1) [211529960,456806758904562] [.int a,.int b]) M:=
 ay hM λp hp=>by simp[kQ,dC,aS,av,hp]
theorem xF{a b c d:Int}{E:PySem.Addr->XN}(hM:Fm M):(∀p,M p=none->aa T (B cls b_ d_) (n+2) 4 [.ref p,.int a,.int b,.int c,.int d] (put M p (.ins 2 (b_ 2) [] [])) (λv M2=>v=.i_/\be Q (.ref p) M2) (E p))=Q (.obj 2 (b_ 2) [211529960,456806758904562,32709062885,213725420] [.int a,.int b,.int c,.int d]) M:=
 ay hM λp hp=>by simp[jL,cS,aS,av,hp]
theorem BQ{a b c:Int}{E:PySem.Addr->XN}(hM:Fm M):(∀p,M p=none->aa T (B cls b_ d_) (n+2) 6 [.ref p,.int a,.int b,.int c] (put M p (.ins 3 (b_ 3) [] [])) (λv M2=>v=.i_/\be Q (.ref p) M2) (E p))=Q (.obj 3 (b_ 3) [211529960,456806758904562,14324] [.int a,.int b,.int c]) M:=
 ay hM λp hp=>by simp[kU,dG,aS,av,hp]
theorem Au{a b:Int}{c:List D}{E:PySem.Addr->XN}(hM:Fm M):(∀p,M p=none->aa T (B cls b_ d_) (n+2) 8 [.ref p,.int a,.int b,.tup c] (put M p (.ins 4 (b_ 4) [] [])) (λv M2=>v=.i_/\be Q (.ref p) M2) (E p))=Q (.obj 4 (b_ 4) [211529960,456806758904562,3944367338220] [.int a,.int b,.tup c]) M:=
 ay hM λp hp=>by simp[kW,dD,aS,av,hp]
inductive Rw where
 |look (h r:Int)|r_ (h r e l:Int)|send (h r t:Int)|take (h r a b:Int)
noncomputable def Rw.d:Rw->D
 |.look h r=>.tup [.str "look",.int h,.int r]
 |.r_ h r e l=>.tup [.str "sight",.int h,.int r,.int e,.int l]
 |.send h r t=>.tup [.str "send",.int h,.int r,.int t]
 |.take h r a b=>.tup [.str "take",.int h,.int r,.tup [.int a,.int b]]
noncomputable def Rw.o(b_:Nat->PySem.Addr):Rw->D
 |.look h r=>.obj 1 (b_ 1) [211529960,456806758904562] [.int h,.int r]
 |.r_ h r e l=>.obj 2 (b_ 2) [211529960,456806758904562,32709062885,213725420] [.int h,.int r,.int e,.int l]
 |.send h r t=>.obj 3 (b_ 3) [211529960,456806758904562,14324] [.int h,.int r,.int t]
 |.take h r a b=>.obj 4 (b_ 4) [211529960,456806758904562,3944367338220] [.int h,.int r,.tup [.int a,.int b]]
noncomputable def Rw.kd:Rw->Nat
 |.look ..=>1
 |.r_ ..=>2
 |.send ..=>3
 |.take ..=>4
theorem yN{r:Rw}{c}(j:Nat)(hj:j=2\/j=3\/j=4):wpT ⟨B cls b_ d_,c⟩ (.val (.Lw V2 j)) [x,y,some (r.o b_)] M R E=R (r.kd == j) M:=by
 rcases hj with rfl|rfl|rfl<;>cases r<;>simp[Rw.o,Rw.kd]
theorem Ez{r:Rw}{c}(j:Nat)(hj:j=2\/j=3\/j=4):wpT ⟨B cls b_ d_,c⟩ (.val (.Lw V1 j)) [x,some (r.o b_),y] M R E=R (r.kd == j) M:=by
 rcases hj with rfl|rfl|rfl<;>cases r<;>simp[Rw.o,Rw.kd]
theorem pC{ns:List Int}(hM:Fm M)(hl:ns.length<1000):aa T (B cls b_ d_) (n+2) 10 [.tup (ns.map D.int),.int k] M Q E=Q (.bl (decide ((ns.length:Int)=k))) M:=by
 simp[mL,eN];by_cases h:(ns.length:Int)=k
 ·simp[h,ao];rw[aT D.int (λ_=>true) (λ_=>.bl true) hM (by omega) (λ_ _ _ _ _=>rfl) (λi _ _ M' Ue Q'=>by simp[jO])]
  rw[vV (λ_=>true) (λ_ _=>rfl)]
  have:∀l:List Int,(l.all λ_=>true)=true:=λl=>JB.mpr λ_ _=>rfl
  simp[this]
 ·simp[h]
theorem AM(hM:Fm M):aa T (B cls b_ d_) (n+2) 10 [.tup [.int a,.int b],.int k] M Q E=Q (.bl (decide (2=k))) M:=pC (ns:=[a,b]) hM (by simp)
theorem Gk(hM:Fm M):aa T (B cls b_ d_) (n+2) 10 [.tup [.int a,.int b,.int c],.int k] M Q E=Q (.bl (decide (3=k))) M:=pC (ns:=[a,b,c]) hM (by simp)
theorem GM(hM:Fm M):aa T (B cls b_ d_) (n+2) 10 [.tup [.int a,.int b,.int c,.int d],.int k] M Q E=Q (.bl (decide (4=k))) M:=pC (ns:=[a,b,c,d]) hM (by simp)
theorem t6(hM:Fm M):aa T (B cls b_ d_) (n+3) 11 [.tup [.int a,.int b]] M Q E=Q (.bl true) M:=by
 simp[ow,fy,AM hM]
theorem fB(r:Rw)(hM:Fm M):aa T (B cls b_ d_) (n+4) 12 [r.d] M Q E=Q (r.o b_) M:=by
 cases r with
 |look h r=>simp +decide [dj,bw,Rw.d,Rw.o,whole,HT.sIx,dg,AM hM,Be hM,sN,rK,sL]
 |r_ h r e l=>simp +decide [dj,bw,Rw.d,Rw.o,whole,HT.sIx,dg,GM hM,xF hM,sN,rK,sL,vg]
 |send h r t=>simp +decide [dj,bw,Rw.d,Rw.o,whole,HT.sIx,dg,Gk hM,BQ hM,sN,rK,sL,vg]
 |take h r a b=>simp +decide [dj,bw,Rw.d,Rw.o,whole,HT.sIx,dg,AM hM,t6 hM,Au hM,sN,rK,sL,vg]
end
section
variable {p q:PySem.Addr}{e_:List (Int×Int)}{wy:List Wy}
noncomputable abbrev fCn:Nat:=3982741043171
noncomputable abbrev fRd:Nat:=65196051402355442
noncomputable abbrev fUn:Nat:=487284377728885
structure St where
 kc:List Key
 dc:List D
 kr:List Key
 dr:List D
 ku:List (List Int)
 du:List D
noncomputable def HS(M0:MH)(a b d:PySem.Addr)(S:St):MH:=put (put (put M0 a (.dk S.kc S.dc)) b (.dk S.kr S.dr)) d (.dt S.ku S.du)
structure Ah (b_:Nat->PySem.Addr)(M0:MH)(p a b d:PySem.Addr):Prop where
 ip:M0 p=some (.ins 5 (b_ 5) [fCn,fRd,fUn] [.ref a,.ref b,.ref d])
 pa:p≠a
 pb:p≠b
 pd:p≠d
 ab:a≠b
 ad:a≠d
 bd:b≠d
variable {S:St}
theorem Ah.gp(h:Ah b_ M0 p a b d):HS M0 a b d S p=some (.ins 5 (b_ 5) [fCn,fRd,fUn] [.ref a,.ref b,.ref d]):=by
 unfold HS;rw[af h.pd,af h.pb,af h.pa];exact h.ip
theorem Ah.ga(h:Ah b_ M0 p a b d):HS M0 a b d S a=some (.dk S.kc S.dc):=by
 unfold HS;rw[af h.ad,af h.ab,ah]
theorem Ah.gb(h:Ah b_ M0 p a b d):HS M0 a b d S b=some (.dk S.kr S.dr):=by
 unfold HS;rw[af h.bd,ah]
theorem Ah.gd(h:Ah b_ M0 p a b d):HS M0 a b d S d=some (.dt S.ku S.du):=ah
theorem Ah.sa(h:Ah b_ M0 p a b d):put (HS M0 a b d S) a (.dk x y)=HS M0 a b d {S with kc:=x,dc:=y}:=by
 unfold HS;rw[iV h.ab h.ad]
theorem Ah.sb(h:Ah b_ M0 p a b d){x:List Key}{y:List D}:put (HS M0 a b d S) b (.dk x y)=HS M0 a b d {S with kr:=x,dr:=y}:=by
 unfold HS;rw[iy h.bd]
theorem Ah.sd(h:Ah b_ M0 p a b d):put (HS M0 a b d S) d (.dt x y)=HS M0 a b d {S with ku:=x,du:=y}:=by
 unfold HS;rw[cM]
theorem Ah.keep(h:Ah b_ M0 p a b d):ar (HS M0 a b d S) (HS M0 a b d S')=HS M0 a b d S':=by
 show ar (HS M0 a b d S) (put (put (put M0 a (.dk S'.kc S'.dc)) b (.dk S'.kr S'.dr)) d (.dt S'.ku S'.du))=_;rw[c6 h.gd,c6 h.gb,c6 h.ga];have e:ar (HS M0 a b d S) M0=M0:=by
  funext x;unfold ar;by_cases x1:x=d
  ·subst x1;simp[h.gd]
  ·by_cases x2:x=b
   ·subst x2;simp[h.gb]
   ·by_cases x3:x=a
    ·subst x3;simp[h.ga]
    ·have:HS M0 a b d S x=M0 x:=by unfold HS;rw[af x1,af x2,af x3]
     rw[this];cases M0 x<;>rfl
 rw[e];rfl
theorem Ah.fc(h:Ah b_ M0 p a b d):bT (B cls b_ d_) fCn (.ref p) (HS M0 a b d S) Q=Q (.ref a) (HS M0 a b d S):=by
 simp[bT,h.gp,gB,fCn,fRd,fUn]
theorem Ah.fr(h:Ah b_ M0 p a b d):bT (B cls b_ d_) fRd (.ref p) (HS M0 a b d S) Q=Q (.ref b) (HS M0 a b d S):=by
 simp[bT,h.gp,gB,fCn,fRd,fUn]
theorem Ah.fu(h:Ah b_ M0 p a b d):bT (B cls b_ d_) fUn (.ref p) (HS M0 a b d S) Q=Q (.ref d) (HS M0 a b d S):=by
 simp[bT,h.gp,gB,fCn,fRd,fUn]
noncomputable def Rw.h:Rw->Int
 |.look h _=>h
 |.r_ h _ _ _=>h
 |.send h _ _=>h
 |.take h _ _ _=>h
noncomputable def Rw.r:Rw->Int
 |.look _ r=>r
 |.r_ _ r _ _=>r
 |.send _ r _=>r
 |.take _ r _ _=>r
theorem jI{r:Rw}:bT (B cls b_ d_) 211529960 (r.o b_) M Q=Q (.int r.h) M:=by
 cases r<;>simp[Rw.o,Rw.h]
theorem ph{r:Rw}:bT (B cls b_ d_) 456806758904562 (r.o b_) M Q=Q (.int r.r) M:=by
 cases r<;>simp[Rw.o,Rw.r]
theorem qP{ks:List Key}(hM:M a=some (.dk ks ds))(hz:ks.length<1000)(hc:(getD ks ds (.inl h)).getD (.int 0)=.int c) :
  aa T (B cls b_ d_) (n+1) 13 [.ref a,.int h] M Q E=Q (.tup [.int h,.int c]) (put M a (.dk (aj ks (.inl h)) (am ks ds (.inl h) (.int (c+1))))):=by
 have hs:ks.length<PySem.sizeLine:=Jm hz (by decide)
 simp[pH,gO,mF hM,xh hM,hc,nZ hM,hs,c6 hM,aE]
noncomputable def St.step(S:St)(c:Int)(r:Rw):St:=
 let T:St:={S with kc:=aj S.kc (.inl r.h),dc:=am S.kc S.dc (.inl r.h) (.int (c+1)),kr:=aj S.kr (.inl r.h),dr:=am S.kr S.dr (.inl r.h) (.int r.r)}
 match r with
 |.send h _ t=>{T with ku:=aj S.ku [h,c],du:=am S.ku S.du [h,c] (.int t)}
 |.take _ _ i j=>{T with ku:=ax S.ku [i,j],du:=aJ S.ku S.du [i,j]}
 |_=>T
def Rw.there(r:Rw)(S:St):Prop:=match r with
 |.take h _ i j=>getD S.ku S.du [i,j]=some (.int h)
 |_=>True
theorem uk{r:Rw}(A:Ah b_ M0 p a b d)(hc:(getD S.kc S.dc (.inl r.h)).getD (.int 0)=.int c)(z1:S.kc.length<1000)(z2:S.kr.length<1000)(z3:S.ku.length<1000)(ht:r.there S) :
  aa T (B cls b_ d_) (n+2) 16 [.ref p,r.o b_] (HS M0 a b d S) Q E=Q .i_ (HS M0 a b d (S.step c r)):=by
 have s2:S.kr.length<PySem.sizeLine:=Jm z2 (by decide)
 have s3:S.ku.length<PySem.sizeLine:=Jm z3 (by decide)
 simp only[kH,dH];simp[-qq,↓Ez,↓A.fc,↓jI,↓qP A.ga z1 hc,↓A.fr,↓ph,A.sa,↓nZ A.gb,s2,A.sb];cases r with
 |look h v=>simp[Rw.kd,A.keep,St.step]
 |r_ h v e l=>simp[Rw.kd,A.keep,St.step]
 |send h v t=>simp[Rw.kd,Rw.o,↓A.fu,aY,A.gd,gx,c8,s3,A.sd,A.keep,St.step,Rw.h,Rw.r]
 |take h v i j=>simp[Rw.kd,Rw.o,↓A.fu,tyB,eX,gG,rBm,A.gd,gx,c8,show getD S.ku S.du [i,j]=some (.int h) from ht,A.sd,A.keep,St.step,Rw.h,Rw.r]
end
section
variable {p q:PySem.Addr}{e_:List (Int×Int)}{wy:List Wy}{S:St}{r:Rw}
noncomputable def flK(wy:List Wy)(S:St)(r:Rw):Option XE:=match r with
 |.look ..=>none
 |.r_ _ _ e l=>if l<e then some ⟨1,none⟩ else none
 |.send h _ t=>if [h,t]∈wy.map pr then none else some ⟨4,none⟩
 |.take h _ i j=>match getD S.ku S.du [i,j] with
  |some (.int l)=>if l=h then none else some ⟨7,none⟩
  |_=>some ⟨7,none⟩
noncomputable def flC(H:Nat)(S:St)(r:Rw):Option XE:=if okH H r.h=true then (match getD S.kr S.dr (.inl r.h) with
 |some (.int l)=>if r.r<l then some ⟨6,some (245166316,.int l)⟩ else none
 |_=>none) else some ⟨2,none⟩
noncomputable def flt(H:Nat)(wy:List Wy)(S:St)(r:Rw):Option XE:=match flC H S r with
 |some i=>some i
 |none=>flK wy S r
def nu(o:Option XE)(M:MH)(Q:VK3)(E:XN):Prop:=match o with
 |some i=>E i M
 |none=>Q .i_ M
def allI(ds:List D):Prop:=∀d∈ds,∃l:Int,d=.int l
theorem qT[DecidableEq κ]:∀{ks:List κ}{ds:List D},getD ks ds k=some d->d∈ds
 |[],ds,h=>by simp[getD]at h
 |q::ks,[],h=>by simp[getD]at h
 |q::ks,x::ds,h=>by
  simp only[getD]at h;split at h
  ·cases h;exact Jd
  ·exact IX _ (qT h)
theorem allI.get[DecidableEq κ](h:allI ds)(k:κ):getD ks ds k=none\/∃l:Int,getD ks ds k=some (.int l):=by
 cases e:getD ks ds k with
 |none=>exact .inl rfl
 |some d=>obtain⟨l,rfl⟩:=h d (qT e);exact .inr ⟨l,rfl⟩
theorem mr(h:M a=some (.dk ks ds)):rBm .get (.ref a) [.int i] M Q=Q ((getD ks ds (.inl i)).getD .i_) M:=by simp[rBm,iW,eX,h,sj]
theorem mv(h:M a=some (.dt ks ds)):rBm .get (.ref a) [.tup [.int i,.int j]] M Q=Q ((getD ks ds [i,j]).getD .i_) M:=by simp[rBm,iW,eX,gG,h,gx,c8]
theorem iJ(A:Ah b_ M0 p a b d)(hr:allI S.dr):aa T (B cls b_ d_) (n+3) 17 [wO b_ e_ wy,.ref p,r.o b_] (HS M0 a b d S) Q E=nu (flC e_.length S r) (HS M0 a b d S) Q E:=by
 have om:∀{M:MH}{R:Nat->Prop},bh (B cls b_ d_) 56782141471387880 (wO b_ e_ wy) M R=R 40:=λ{M R}=>o_m (by decide) (by decide) (by decide)
 simp only[gV,bK];unfold flC;by_cases h0:okH e_.length r.h=true
 ·rcases hr.get (ks:=S.kr) (.inl r.h:Key) with e|⟨l,e⟩
  ·simp[↓jI,↓om,↓cj,h0,↓A.fr,mF A.gb,↓mr A.gb,e,nu,D.isN]
  ·by_cases h1:r.r<l
   ·simp[↓jI,↓om,↓cj,h0,↓A.fr,mF A.gb,↓mr A.gb,e,↓ph,h1,nu,D.isN,rXp,L2.cpF]
   ·simp[↓jI,↓om,↓cj,h0,↓A.fr,mF A.gb,↓mr A.gb,e,↓ph,h1,nu,D.isN]
 ·simp[↓jI,↓om,↓cj,h0,nu,aE]
theorem jE(h:flK wy S r=none):r.there S:=by
 cases r with
 |take h' v i j=>
  dsimp only[flK]at h;show getD S.ku S.du [i,j]=some (.int h');split at h
  ·split at h
   ·rename_i e l;rw[e,l]
   ·cases h
  ·cases h
 |_=>trivial
theorem tY(A:Ah b_ M0 p a b d)(hf:flK wy S r=none):aa T (B cls b_ d_) (n+2) 18 [wO b_ e_ wy,.ref p,r.o b_] (HS M0 a b d S) Q E=Q .i_ (HS M0 a b d S):=by
 have om:∀{M:MH}{R:Nat->Prop},bh (B cls b_ d_) 535528667410664 (wO b_ e_ wy) M R=R 41:=λ{M R}=>o_m (by decide) (by decide) (by decide)
 have tg:tyB .get (.ref d) (HS M0 a b d S)=true:=by simp[tyB,eX,gG,A.gd]
 simp only[dX,bj];simp[-qq,↓yN];cases r with
 |look h v=>simp[Rw.kd]
 |r_ h v e l=>
  have h1:¬ l<e:=λz=>by simp[flK,z]at hf
  simp[Rw.kd,Rw.o,h1]
 |send h v t=>
  have h1:[h,t]∈wy.map pr:=Classical.byContradiction λz=>by simp only[flK,IY z]at hf;cases hf
  simp[Rw.kd,Rw.o,↓om,↓qi,h1]
 |take h v i j=>
  simp[Rw.kd,Rw.o,↓A.fu,tg,↓mv A.gd,show getD S.ku S.du [i,j]=some (.int h) from jE hf]
def NoL(S:St)(i j h:Int):Prop:=getD S.ku S.du [i,j]=none\/∃l:Int,getD S.ku S.du [i,j]=some (.int l)/\¬ l=h
theorem se(A:Ah b_ M0 p a b d)(e:NoL S i j h):aa T (B cls b_ d_) (n+2) 18 [wO b_ e_ wy,.ref p,(Rw.take h v i j).o b_] (HS M0 a b d S) Q E=E ⟨7,none⟩ (HS M0 a b d S):=by
 have tg:tyB .get (.ref d) (HS M0 a b d S)=true:=by simp[tyB,eX,gG,A.gd]
 simp only[dX,bj];simp[-qq,↓yN,Rw.kd];rcases e with e|⟨l,e,h1⟩
 ·simp[Rw.o,↓A.fu,tg,↓mv A.gd,e,aE,au,dh,rs,ai,plN,eqD]
 ·simp[Rw.o,↓A.fu,tg,↓mv A.gd,e,h1,aE]
noncomputable def bU(c:Int->Nat)(h:Int):Int->Nat:=λx=>if x=h then c x+1 else c x
structure SI (S:St)(c:Int->Nat)(m:Nat):Prop where
 l1:S.kc.length=S.dc.length
 l2:S.kr.length=S.dr.length
 l3:S.ku.length=S.du.length
 z1:S.kc.length<=m
 z2:S.kr.length<=m
 z3:S.ku.length<=m
 hc:∀h,(getD S.kc S.dc (.inl h)).getD (.int 0)=.int (c h)
 hr:allI S.dr
 hu:allI S.du
theorem oS[DecidableEq κ]:∀{ks:List κ}{ds:List D},x∈am ks ds k y->x=y\/x∈ds
 |[],ds,h=>by
  cases ds<;>simp[am]at h<;>simp[h]
 |q::ks,[],h=>by simp[am]at h;exact .inl h
 |q::ks,d::ds,h=>by
  simp only[am]at h;split at h
  ·rcases Jb.mp h with h|h
   ·exact .inl h
   ·exact .inr (IX _ h)
  ·rcases Jb.mp h with h|h
   ·exact .inr (h▸Jd)
   ·rcases oS h with h|h
    ·exact .inl h
    ·exact .inr (IX _ h)
theorem allI.put{κ:Type}[DecidableEq κ]{ks:List κ}{ds:List D}(h:allI ds){k:κ}{i:Int}:allI (am ks ds k (.int i)):=λd hd=>by
 rcases oS hd with rfl|hd
 ·exact⟨i,rfl⟩
 ·exact h d hd
theorem k7[DecidableEq κ]:∀{ks:List κ}{ds:List D},x∈aJ ks ds k->x∈ds
 |[],ds,h=>by simpa [aJ] using h
 |q::ks,[],h=>by simp[aJ]at h
 |q::ks,d::ds,h=>by
  simp only[aJ]at h;split at h
  ·exact IX _ h
  ·rcases Jb.mp h with h|h
   ·exact h▸Jd
   ·exact IX _ (k7 h)
theorem j3[DecidableEq κ]:∀{ks:List κ}{ds:List D},ks.length=ds.length->(ax ks k).length=(aJ ks ds k).length/\(ax ks k).length<=ks.length
 |[],[],_=>by simp[ax,aJ]
 |q::ks,d::ds,h=>by
  have ih:=j3 (k:=k) (ks:=ks) (ds:=ds) (by simpa using h)
  simp only[ax,aJ];split
  ·exact⟨by simpa using h,by simp⟩
  ·simp;exact ih
theorem SI.step{c:Int->Nat}{m:Nat}(I:SI S c m):SI (S.step (c r.h) r) (bU c r.h) (m+1):=by
 have p1:=bS (ks:=S.kc) (k:=(.inl r.h:Key));have p2:=bS (ks:=S.kr) (k:=(.inl r.h:Key));have z1:=I.z1;have z2:=I.z2;have z3:=I.z3;have base:∀(ku:List (List Int)) (du:List D),ku.length=du.length->ku.length<=m+1->allI du->SI {S with kc:=aj S.kc (.inl r.h),dc:=am S.kc S.dc (.inl r.h) (.int (c r.h+1)),kr:=aj S.kr (.inl r.h),dr:=am S.kr S.dr (.inl r.h) (.int r.r),ku:=ku,du:=du} (bU c r.h) (m+1):=λku du a1 a2 a3=>
  ⟨cP I.l1,cP I.l2,a1,by show (aj S.kc _).length<=_;omega,by show (aj S.kr _).length<=_;omega,a2,λx=>by
   show (getD (aj S.kc _) (am S.kc S.dc _ _) _).getD _=_;rw[d9 I.l1];by_cases e:r.h=x
   ·subst e;simp[bU]
   ·have e2:¬ ((Sum.inl r.h:Key)=Sum.inl x):=λz=>e (Sum.inl.inj z)
    rw[IY e2,I.hc x];simp[bU,Ja e],I.hr.put,a3⟩
 cases r with
 |look h v=>exact base _ _ I.l3 (by omega) I.hu
 |r_ h v e l=>exact base _ _ I.l3 (by omega) I.hu
 |send h v t=>
  exact base _ _ (cP I.l3) (Jw bS (by omega)) I.hu.put
 |take h v i j=>
  obtain⟨d1,d2⟩:=j3 (k:=[i,j]) I.l3;exact base _ _ d1 (by omega) λd hd=>I.hu d (k7 hd)
def cH(H:Nat)(wy:List Wy):St->(Int->Nat)->List Rw->Prop
 |_,_,[]=>True
 |S,c,r::rs=>flt H wy S r=none/\cH H wy (S.step (c r.h) r) (bU c r.h) rs
noncomputable def eL:St->(Int->Nat)->List Rw->St
 |S,_,[]=>S
 |S,c,r::rs=>eL (S.step (c r.h) r) (bU c r.h) rs
noncomputable def tj:(Int->Nat)->List Rw->(Int->Nat)
 |c,[]=>c
 |c,r::rs=>tj (bU c r.h) rs
theorem m9(h:flt H wy S r=none):flC H S r=none/\flK wy S r=none:=by
 unfold flt at h;split at h
 ·cases h
 ·rename_i e;exact⟨e,h⟩
theorem xU(A:Ah b_ M0 p a b d):bh (B cls b_ d_) 30815369061 (.ref p) (HS M0 a b d S) R=R 16:=by
 simp[bh,A.gp,dM,fCn,fRd,fUn]
theorem vj{De:Ends3}(A:Ah b_ M0 p a b d)(I:SI S c m)(hm:m<900)(hf:flt e_.length wy S r=none)(hM:Fm (HS M0 a b d S)) :
  aP ⟨(B cls b_ d_),aa T (B cls b_ d_) (n+4)⟩ aR De ES [some (wO b_ e_ wy),x1,some (.ref p),some r.d,x4] (HS M0 a b d S)=De.nx [some (wO b_ e_ wy),x1,some (.ref p),some r.d,some (r.o b_)] (HS M0 a b d (S.step (c r.h) r)):=by
 obtain⟨f1,f2⟩:=m9 hf;simp only[aR];simp[↓fB r hM,↓iJ A I.hr,f1,nu,↓tY A f2,↓xU A,↓uk A (I.hc r.h) (by have:=I.z1;omega) (by have:=I.z2;omega) (by have:=I.z3;omega) (jE f2)]
theorem Fm.hs(h:Fm M0):Fm (HS M0 a b d S):=((h.put _ _).put _ _).put _ _
theorem nW(A:Ah b_ M0 p a b d)(hM:Fm M0):∀(rs:List Rw)(S:St)(c:Int->Nat)(m:Nat)(x3 x4:Option D),SI S c m->m+rs.length<900->cH e_.length wy S c rs->
  (∀x3 x4,bC ⟨(B cls b_ d_),aa T (B cls b_ d_) (n+4)⟩ (.name 3) aR ES (λ_=>True) De tl [some (wO b_ e_ wy),x1,some (.ref p),x3,x4] (HS M0 a b d (eL S c rs))=R)->
  bC ⟨(B cls b_ d_),aa T (B cls b_ d_) (n+4)⟩ (.name 3) aR ES (λ_=>True) De (rs.map Rw.d++tl) [some (wO b_ e_ wy),x1,some (.ref p),x3,x4] (HS M0 a b d S)=R
 |[],S,c,m,x3,x4,I,hm,hf,hR=>hR x3 x4
 |r::rs,S,c,m,x3,x4,I,hm,hf,hR=>by
  simp only[Jr]at hm;have ih:=nW (De:=De) (ES:=ES) (x1:=x1) (R:=R) (tl:=tl) A hM rs (S.step (c r.h) r) (bU c r.h) (m+1) (some r.d) (some (r.o b_)) I.step (by omega) hf.2 hR
  rw[Ji,List.cons_append,aG];have one:=vj (cls:=cls) (d_:=d_) (n:=n) (De:={De with nx:=bC ⟨(B cls b_ d_),aa T (B cls b_ d_) (n+4)⟩ (.name 3) aR ES (λ_=>True) De (rs.map Rw.d++tl),ct:=bC ⟨(B cls b_ d_),aa T (B cls b_ d_) (n+4)⟩ (.name 3) aR ES (λ_=>True) De (rs.map Rw.d++tl),bk:=De.nx}) (ES:=ES) (x1:=x1) (x4:=x4) (wy:=wy) (e_:=e_) A I (by omega) hf.1 (Fm.hs hM)
  rw[true_and,mq];show aP _ _ _ _ [some (wO b_ e_ wy),x1,some (.ref p),some r.d,x4] _=R;rw[one];exact ih
end
section
variable {p q:PySem.Addr}{e_:List (Int×Int)}{wy:List Wy}{S:St}{r:Rw}{m:Nat}
noncomputable def S0:St:=⟨[],[],[],[],[],[]⟩
theorem si0:SI S0 (λ_=>0) 0:=⟨rfl,rfl,rfl,Jg _,Jg _,Jg _,(λ_=>rfl),(λ_ h=>by cases h),(λ_ h=>by cases h)⟩
theorem sP(h:a≠b)(h':a≠c)(h2:a≠e):put (put (put (put (put M a x) b y) c w) e u) a z=put (put (put (put M a z) b y) c w) e u:=by
 funext k;unfold put;by_cases h1:k=a
 ·subst h1;simp[h,h',h2]
 ·simp[h1]
theorem oX{J_:List Rw}(hM:Fm M)(hl:J_.length<400)(hf:cH e_.length wy S0 (λ_=>0) J_)
  (hR:∀(M0:MH) p a b d x3 x4,Ah b_ M0 p a b d->Fm M0->(∀S,ar M (HS M0 a b d S)=M)->
   bC ⟨(B cls b_ d_),aa T (B cls b_ d_) (n+4)⟩ (.name 3) aR (λ_ i M'=>E i (ar M M')) (λ_=>True) {nx:=λ_ M'=>Q .i_ (ar M M'),rt:=λv M'=>Q v (ar M M')} tl [some (wO b_ e_ wy),some (.g_ (J_.map Rw.d++tl)),some (.ref p),x3,x4] (HS M0 a b d (eL S0 (λ_=>0) J_))=R) :
  aa T (B cls b_ d_) (n+5) 19 [wO b_ e_ wy,.g_ (J_.map Rw.d++tl)] M Q E=R:=by
 simp only[wJ,mX];simp;refine iff_of_eq (ay hM λp hp=>?_)
 simp only[jB,c7];simp;refine iff_of_eq (ay (hM.put _ _) λa ha=>?_)
 obtain⟨Ni,ha⟩:=ba ha;rw[show fD (B cls b_ d_) 3982741043171 (.ref a) _ (.ref p) (put (put M p (.ins 5 (b_ 5) [] [])) a (.dk [] []))=_ from fX (by rw[af (Ja Ni),ah])]
 simp;rw[iy (Ja Ni)];refine iff_of_eq (ay ((hM.put _ _).put _ _) λb hb=>?_)
 obtain⟨Nf,hb⟩:=ba hb;obtain⟨Oy,hb⟩:=ba hb;rw[show fD (B cls b_ d_) 65196051402355442 (.ref b) _ (.ref p) (put (put (put M p (.ins 5 (b_ 5) [3982741043171] [.ref a])) a (.dk [] [])) b (.dk [] []))=_ from fX (by rw[af (Ja Oy),af (Ja Ni),ah])]
 simp;rw[iV (Ja Ni) (Ja Oy)];refine iff_of_eq (ay (((hM.put _ _).put _ _).put _ _) λd hd=>?_)
 obtain⟨A_,hd⟩:=ba hd;obtain⟨O9,hd⟩:=ba hd;obtain⟨MI,hd⟩:=ba hd;rw[show fD (B cls b_ d_) 487284377728885 (.ref d) _ (.ref p) (put (put (put (put M p (.ins 5 (b_ 5) [3982741043171,65196051402355442] [.ref a,.ref b])) a (.dk [] [])) b (.dk [] [])) d (.dt [] []))=_ from fX (by rw[af (Ja MI),af (Ja Oy),af (Ja Ni),ah])]
 simp;rw[sP (Ja Ni) (Ja Oy) (Ja MI)];have A:Ah b_ (put M p (.ins 5 (b_ 5) [fCn,fRd,fUn] [.ref a,.ref b,.ref d])) p a b d:=⟨ah,Ja Ni,Ja Oy,Ja MI,Ja Nf,Ja O9,Ja A_⟩;have kp:∀S,ar M (HS (put M p (.ins 5 (b_ 5) [fCn,fRd,fUn] [.ref a,.ref b,.ref d])) a b d S)=M:=λS=>by
  funext k;unfold ar HS put;by_cases k1:k=d
  ·subst k1;simp[hd]
  ·by_cases k2:k=b
   ·subst k2;simp[hb]
   ·by_cases k3:k=a
    ·subst k3;simp[ha]
    ·by_cases k4:k=p
     ·subst k4;simp[hp]
     ·simp[k1,k2,k3,k4];cases M k<;>rfl
 exact iff_of_eq (nW (n:=n) (tl:=tl) A (hM.put _ _) J_ S0 (λ_=>0) 0 none none si0 (by omega) hf λx3 x4=>hR _ p a b d x3 x4 A (hM.put _ _) kp)
theorem n9{J_:List Rw}(hM:Fm M)(hl:J_.length<400)(hf:cH e_.length wy S0 (λ_=>0) J_) :
  aa T (B cls b_ d_) (n+5) 19 [wO b_ e_ wy,.g_ (J_.map Rw.d)] M Q E=Q .i_ M:=by
 have:=oX (cls:=cls) (b_:=b_) (d_:=d_) (n:=n) (Q:=Q) (E:=E) (tl:=[]) (R:=Q .i_ M) hM hl hf λM0 p a b d x3 x4 A F kp=>by simp[bW,kp]
 rwa [JV]at this
theorem ng{J_:List Rw}(hM:Fm M)(hl:J_.length<400)(hf:cH e_.length wy S0 (λ_=>0) J_)(I:SI (eL S0 (λ_=>0) J_) c m)
  (hx:flC e_.length (eL S0 (λ_=>0) J_) r=some x\/flC e_.length (eL S0 (λ_=>0) J_) r=none/\x=⟨7,none⟩/\∃h v i j:Int,r=.take h v i j/\NoL (eL S0 (λ_=>0) J_) i j h) :
  aa T (B cls b_ d_) (n+5) 19 [wO b_ e_ wy,.g_ ((J_++[r]).map Rw.d)] M Q E=E x M:=by
 rw[JW,List.map_singleton];refine oX (tl:=[r.d]) hM hl hf λM0 p a b d x3 x4 A F kp=>?_
 generalize eL S0 (λ_=>0) J_=S at *
 have h1:=λ{Q:VK3}{E:XN}=>fB (cls:=cls) (b_:=b_) (d_:=d_) (n:=n) (Q:=Q) (E:=E) r (Fm.hs (S:=S) (a:=a) (b:=b) (d:=d) F)
 rw[aG,true_and,mq];simp only[aR];rcases hx with hx|⟨hc,rfl,h,v,i,j,rfl,e⟩
 ·simp[↓h1,↓iJ A I.hr,hx,nu,kp]
 ·have h3:=λ{Q:VK3}{E:XN}=>se (cls:=cls) (b_:=b_) (d_:=d_) (n:=n+2) (Q:=Q) (E:=E) (e_:=e_) (wy:=wy) (v:=v) A e
  simp[↓h1,↓iJ A I.hr,hc,nu,↓h3,kp]
end
section
variable {cls b_ d_:Nat->PySem.Addr}{M:MH}{Q:VK3}{E:XN}{n:Nat}{p q a b d m:PySem.Addr}{e_:List (Int×Int)}{wy:List Wy}{M0:MH}
variable {r:Rw}
noncomputable def nmF:List Int->(Int->Nat)->List (Int×Nat)
 |[],_=>[]
 |h::r,c=>(h,c h)::nmF r (bU c h)
noncomputable def nD(p:Int×Nat):D:=.tup [.int p.1,.int p.2]
theorem mZ:aq r.d (.int 1) M Q=Q (.int r.h) M:=by cases r<;>simp[Rw.d,Rw.h]
theorem jP{a b:PySem.Addr}(L8:a≠b){M0:MH}{De:Ends3}{ES:St3->XN}{R:Prop}{log:Option D}:∀(rs:List Rw)(ks:List Key)(ds acc:List D)(c:Int->Nat)(x3:Option D),ks.length=ds.length->ks.length+rs.length<500->acc.length+rs.length<500->(∀h,(getD ks ds (.inl h)).getD (.int 0)=.int (c h))->
  (∀KH Kl x,De.nx [log,some (.ref a),some (.ref b),x] (put (put M0 a (.dk KH Kl)) b (.lst (acc++(nmF (rs.map Rw.h) c).map nD)))=R)->
  bC ⟨(B cls b_ d_),aa T (B cls b_ d_) (n+1)⟩ (.name 3) ei ES (λ_=>True) De (rs.map Rw.d) [log,some (.ref a),some (.ref b),x3] (put (put M0 a (.dk ks ds)) b (.lst acc))=R
 |[],ks,ds,acc,c,x3,_,_,_,_,hR=>by
  have:=hR ks ds x3;simp[nmF]at this;simp[bW,this]
 |r::rs,ks,ds,acc,c,x3,hl,h1,h2,hc,hR=>by
  have ha:(put (put M0 a (.dk ks ds)) b (.lst acc)) a=some (.dk ks ds):=by rw[af L8,ah]
  simp only[Jr]at h1 h2;have hs:acc.length<PySem.sizeLine:=Jm (show acc.length<1000 by omega) (by decide)
  have ih:=jP L8 (M0:=M0) (De:=De) (ES:=ES) (R:=R) (log:=log) rs (aj ks (.inl r.h)) (am ks ds (.inl r.h) (.int (c r.h+1))) (acc++[nD (r.h,c r.h)]) (bU c r.h) (some r.d) (cP hl) (by have:=bS (ks:=ks) (k:=(.inl r.h:Key));omega) (by simp;omega) (λx=>by
    rw[d9 hl];by_cases e:r.h=x
    ·subst e;simp[bU]
    ·have e2:¬ ((Sum.inl r.h:Key)=Sum.inl x):=λz=>e (Sum.inl.inj z)
     rw[IY e2,hc x];simp[bU,Ja e]) (by
    intro KH Kl x;have:=hR KH Kl x;simpa [nmF] using this)
  rw[Ji,aG];simp[ei,↓mZ,qP (n:=n) ha (by omega) (hc r.h),iy L8,hs]
  simpa [nD,ei] using ih
theorem eI(rs:List Rw)(hl:rs.length<400)(hM:Fm M):aa T (B cls b_ d_) (n+2) 14 [.g_ (rs.map Rw.d)] M Q E=Q (.g_ ((nmF (rs.map Rw.h) λ_=>0).map nD)) M:=by
 simp[vO,mQ];refine iff_of_eq (ay hM λa ha=>?_)
 simp[aE];refine iff_of_eq (ay (hM.put _ _) λb hb=>?_)
 obtain⟨L8,hb⟩:=ba hb;refine jP (Ja L8) rs [] [] [] _ _ rfl (by simp;omega) (by simp;omega) (λh=>rfl) λKH Kl x=>?_
 simp[ha,hb,af L8]
theorem vn:∀(hs:List Int)(c:Int->Nat)(h:Int),nmF (hs++[h]) c=nmF hs c++[(h,c h+hs.count h)]
 |[],c,h=>by simp[nmF]
 |x::hs,c,h=>by
  rw[List.cons_append,nmF,nmF,vn hs (bU c x) h];have:bU c x h+hs.count h=c h+(x::hs).count h:=by
   unfold bU;by_cases z:h=x
   ·subst z;simp;omega
   ·rw[IY z,List.count_cons_of_ne (Ja z)]
  rw[this];rfl
theorem va{De:Ends3}{ES:St3->XN}{W:WC}{log:Option D}{h:Int}{c:Nat}:∀(pre post:List (Int×Nat)) (k:Nat)(x2 x3:Option D),(∀p∈pre,¬ (p.1=h/\p.2=c))->
  bC W (.tup [2,3]) eP ES (λ_=>True) De (cz k ((pre++(h,c)::post).map nD)) [log,some (.tup [.int h,.int c]),x2,x3] M=De.rt (.int ((k+pre.length:Nat):Int)) M
 |[],post,k,x2,x3,_=>by
  rw[List.nil_append,Ji,cz,aG];simp[eP,nD,au,dh,rs,ai,plN,eqD,bN]
 |p::l,post,k,x2,x3,hn=>by
  have ih:=va (De:=De) (ES:=ES) (W:=W) (log:=log) l post (k+1) (some (.int k)) (some (nD p)) (λq hq=>hn q (IX _ hq))
  have h0:=hn p Jd;rw[List.cons_append,Ji,cz,aG];have e:(decide (p.1=h)&&decide ((p.2:Int)=(c:Int)))=false:=by
   rw[Bool.and_eq_false_iff];by_cases e1:p.1=h
   ·exact .inr (JL λz=>h0 ⟨e1,by omega⟩)
   ·exact .inl (JL e1)
  have e3:k+(p::l).length=k+1+l.length:=by simp;omega
  rw[e3,<-ih];simp[eP,nD,au,dh,rs,ai,plN,eqD,bN,e]
theorem lX:∀(hs:List Int)(c:Int->Nat)(p:Int×Nat),p∈nmF hs c->p.1∈hs/\c p.1<=p.2/\p.2<c p.1+hs.count p.1
 |[],_,_,h=>by cases h
 |h::r,c,p,hp=>by
  rcases Jb.mp hp with rfl|hp
  ·simp
  ·obtain⟨h1,h2,h3⟩:=lX r _ p hp;unfold bU at h2 h3;by_cases e:p.1=h
   ·subst e;simp at h2 h3 ⊢;omega
   ·rw[IY e]at h2 h3;rw[List.count_cons_of_ne (Ja e)];exact⟨IX _ h1,h2,h3⟩
theorem yo:∀(hs:List Int)(c:Int->Nat)(j:Nat)(h:Int),hs[j]?=some h->nmF hs c=nmF (hs.take j) c++(h,c h+(hs.take j).count h)::(nmF hs c).drop (j+1)/\∀p∈nmF (hs.take j) c,¬ (p.1=h/\p.2=c h+(hs.take j).count h)
 |[],_,_,_,e=>by simp at e
 |x::r,c,0,h,e=>by
  simp at e;subst e;simp[nmF]
 |x::r,c,j+1,h,e=>by
  have e':r[j]?=some h:=by simpa using e
  obtain⟨h1,h2⟩:=yo r (bU c x) j h e';have hb:bU c x h+(r.take j).count h=c h+((x::r).take (j+1)).count h:=by
   unfold bU;by_cases z:h=x
   ·subst z;simp;omega
   ·rw[IY z,List.take_succ_cons,List.count_cons_of_ne (Ja z)]
  rw[hb]at h1 h2;refine⟨?_,λp hp hq=>?_⟩
  ·simp only[nmF,List.take_succ_cons,List.cons_append,List.drop_succ_cons];rw[List.take_succ_cons]at h1;rw[<-h1]
  ·rw[List.take_succ_cons]at hp;rcases Jb.mp hp with rfl|hp
   ·obtain⟨q1,q2⟩:=hq;simp at q1 q2;subst q1;simp at q2<;>omega
   ·exact h2 p hp hq
theorem iR:∀(hs:List Int)(c:Int->Nat),(nmF hs c).length=hs.length
 |[],_=>rfl
 |h::r,c=>by simp[nmF,iR r]
theorem ql{rs:List Rw}(hl:rs.length<400)(hM:Fm M)(hj:(rs.map Rw.h)[j]?=some h):aa T (B cls b_ d_) (n+3) 20 [.g_ (rs.map Rw.d),.tup [.int h,.int (((rs.map Rw.h).take j).count h:Nat)]] M Q E=Q (.int j) M:=by
 obtain⟨h1,h2⟩:=yo _ (λ_=>0) j h hj
 have u_:(nmF ((rs.map Rw.h).take j) (λ_=>0)).length=j:=by
  rw[iR,List.length_take];have:=(Jk.mp hj).1;omega
 simp[xO,mo,eI rs hl hM];rw[Nat.zero_add]at h1 h2;rw[h1];refine iff_of_eq ((va _ _ 0 none none h2).trans ?_);rw[u_];simp
end
section
variable {cls b_ d_:Nat->PySem.Addr}{M:MH}{Q:VK3}{E:XN}{n:Nat}{p q a b c d m:PySem.Addr}{e_:List (Int×Int)}{wy:List Wy}{M0:MH}{r:Rw}
noncomputable def upC(C:List Int):Rw->List Int
 |.take _ _ a b=>C.set a.toNat (max (C.getD a.toNat 0) (b+1))
 |_=>C
def Rw.ltr(H:Nat):Rw->Prop
 |.take _ _ a _=>0<=a/\a<H
 |_=>True
theorem rA{C:List Int}:(upC C r).length=C.length:=by cases r<;>simp[upC]
theorem iw{k m:Nat}(h:k<m):ixN m (k:Int)=some k:=by
 have h1:(k:Int)<m:=by omega
 simp[ixN,h]
theorem fh{C:List Int}{k:Nat}(h:k<C.length):atI (C.map D.int) (k:Int)=some (.int (C.getD k 0)):=cK (by simp[h])
theorem FY{C:List Int}(hM:M c=some (.lst (C.map D.int)))(hr:r.ltr C.length):aa T (B cls b_ d_) (n+1) 23 [.ref c,r.o b_] M Q E=Q .i_ (put M c (.lst ((upC C r).map D.int))):=by
 have e0:put M c (.lst (C.map D.int))=M:=by
  funext x;unfold put;by_cases e:x=c
  ·subst e;simp[hM]
  ·simp[e]
 cases r with
 |take h r a b=>
  obtain⟨h0,h1⟩:=hr;obtain⟨k,rfl⟩:∃k:Nat,a=k:=⟨a.toNat,by omega⟩
  have hk:k<C.length:=by omega
  have i1:∀{Q:VK3},aq (.ref c) (.int (k:Int)) M Q=Q (.int (C.getD k 0)) M:=λ{Q}=>by rw[i0 hM,cg (fh hk)]
  have hm:∀x y:Int,(if x<y then y else x)=max x y:=λx y=>by split<;>omega
  simp[bx,aM,Rw.o,upC,↓i1,↓d8 hM (iw (by simpa using hk)),rBi,c6 hM,List.map_set,hm]
 |look h r=>simp[bx,aM,Rw.o,upC,e0]
 |r_ h r e l=>simp[bx,aM,Rw.o,upC,e0]
 |send h r t=>simp[bx,aM,Rw.o,upC,e0]
noncomputable def cT(C:List Int)(x:(Int×Nat)×Rw):List Int:=if (x.1.2:Int)<C.getD x.1.1.toNat 0 then upC C x.2 else C
theorem rR{C:List Int}:(cT C x).length=C.length:=by
 unfold cT;split
 ·exact rA
 ·rfl
noncomputable def pD(x:(Int×Nat)×Rw):D:=.tup [nD x.1,x.2.d]
theorem ll{De:Ends3}{ES:St3->XN}{R:Prop}{y0 y1 y2 y3 y5:Option D}(hM:Fm M0){H:Nat}:∀(L:List ((Int×Nat)×Rw)) (C:List Int)(x6 x7:Option D),C.length=H->(∀x∈L,0<=x.1.1/\x.1.1<H/\x.2.ltr H)->
  (∀x6 x7,De.nx [y0,y1,y2,y3,some (.ref c),y5,x6,x7] (put M0 c (.lst ((L.foldl cT C).map D.int)))=R)->
  bC ⟨(B cls b_ d_),aa T (B cls b_ d_) (n+4)⟩ (.tup [6,7]) d7 ES (λ_=>True) De (L.map pD) [y0,y1,y2,y3,some (.ref c),y5,x6,x7] (put M0 c (.lst (C.map D.int)))=R
 |[],C,x6,x7,_,_,hR=>by
  have:=hR x6 x7;simp at this;simp[bW,this]
 |x::L,C,x6,x7,hl,hx,hR=>by
  obtain⟨h0,h1,h2⟩:=hx x Jd;obtain⟨⟨h,k⟩,r⟩:=x;simp only at h0 h1 h2;obtain⟨j,rfl⟩:∃j:Nat,h=j:=⟨h.toNat,by omega⟩
  have hj:j<C.length:=by omega
  have Oz:put M0 c (.lst (C.map D.int)) c=some (.lst (C.map D.int)):=ah;have i1:∀{Q:VK3},aq (.ref c) (.int (j:Int)) (put M0 c (.lst (C.map D.int))) Q=Q (.int (C.getD j 0)) (put M0 c (.lst (C.map D.int))):=λ{Q}=>by rw[i0 Oz,cg (fh hj)]
  have ih:=ll (De:=De) (ES:=ES) (R:=R) (y0:=y0) (y1:=y1) (y2:=y2) (y3:=y3) (y5:=y5) hM L (cT C ((j,k),r)) (some (nD (j,k))) (some r.d) (by rw[rR];exact hl) (λx Ly=>hx x (IX _ Ly)) (by simpa using hR)
  rw[Ji,aG];generalize bC ⟨(B cls b_ d_),aa T (B cls b_ d_) (n+4)⟩ (.tup [6,7]) d7 ES (λ_=>True) De (L.map pD)=K at ih ⊢
  rw[<-ih];by_cases e:(k:Int)<C.getD j 0
  ·have e':cT C (((j:Int),k),r)=upC C r:=by simp only[cT,Ka];rw[Jc e]
   rw[e'];simp only[d7,pD,nD];simp[↓i1,↓fB r (hM.put _ _),↓FY Oz (by rw[hl];exact h2),e,cM,nD]
   intro z;exact absurd z (by simp at e;omega)
  ·have e':cT C (((j:Int),k),r)=C:=by simp only[cT,Ka];rw[IY e]
   rw[e'];simp only[d7,pD,nD];simp[↓i1,e,nD];intro z;exact absurd z (by simpa using e)
noncomputable def nms(rs:List Rw):List (Int×Nat):=nmF (rs.map Rw.h) λ_=>0
noncomputable def cR(H:Nat)(h:Int)(k:Nat):List Int:=(List.replicate H (0:Int)).set h.toNat ((k:Int)+1)
noncomputable def lm(H:Nat)(rs:List Rw)(j:Nat)(h:Int)(k:Nat):List Int:=(((nms rs).zip rs).take (j+1)).reverse.foldl cT (cR H h k)
theorem u5(xs:List D)(j:Nat)(h:j<xs.length):dg xs none (some ((j:Int)+1))=xs.take (j+1):=by
 have:HT.sIx xs.length xs.length (some ((j:Int)+1))=j+1:=by
  unfold HT.sIx;simp;split<;>omega
 simp only[dg,this];simp[HT.sIx]
theorem A5{rs:List Rw}(hl:rs.length<400)(hM:Fm M)(h1:1<=e_.length)(h6:e_.length<=6)(hj:(rs.map Rw.h)[j]?=some h)(hr:∀r∈rs,0<=r.h/\r.h<e_.length/\r.ltr e_.length) :
  aa T (B cls b_ d_) (n+5) 24 [wO b_ e_ wy,.g_ (rs.map Rw.d),.tup [.int h,.int (((rs.map Rw.h).take j).count h:Nat)]] M Q E=Q (.g_ ((lm e_.length rs j h (((rs.map Rw.h).take j).count h)).map D.int)) M:=by
 have O2:j<rs.length:=by have:=(Jk.mp hj).1;simpa using this
 have hh:0<=h/\h<e_.length:=by
  obtain⟨x,hx,e⟩:=JQ.mp (Jy hj);rw[<-e];exact⟨(hr x hx).1,(hr x hx).2.1⟩
 obtain⟨k,rfl⟩:∃k:Nat,h=k:=⟨h.toNat,by omega⟩
 have hk:k<e_.length:=by omega
 have hf:(List.replicate e_.length [D.int 0]).flatten=(List.replicate e_.length (0:Int)).map D.int:=by
  rw[List.flatten_replicate_singleton];simp
 have hs:e_.length<=PySem.sizeLine:=by rw[PySem.sizeLine_eq];omega
 have hp:∀{M:MH}{Q:VK3}{E:XN},Fm M->aa T (B cls b_ d_) (n+4) 20 [.g_ (rs.map Rw.d),.tup [.int (k:Int),.int (((rs.map Rw.h).take j).count (k:Int):Nat)]] M Q E=Q (.int j) M:=λ{M Q E} hM=>ql (n:=n+1) hl hM hj
 have hn:∀{M:MH}{Q:VK3}{E:XN},Fm M->aa T (B cls b_ d_) (n+4) 14 [.g_ (rs.map Rw.d)] M Q E=Q (.g_ ((nms rs).map nD)) M:=λ{M Q E} hM=>eI (n:=n+2) rs hl hM
 have Ug : -(2 ^ 63:Int)<=e_.length:=by omega
 have MJ:(e_.length:Int)<2 ^ 63:=by omega
 generalize Pk:((rs.map Rw.h).take j).count (k:Int)=cc at hp ⊢;simp only[zP,pV];simp[↓hp hM,↓o1,↓oJ,gY,ai,hf,hs,cf];have Qy:(e_.length:Int)<9223372036854775808:=by omega
 have NZ:1<=PySem.sizeLine:=by decide
 simp only[Qy,NZ,true_and];refine iff_of_eq (ay hM λc hc=>?_)
 have e1:(List.replicate e_.length (D.int 0)).set k (.int ((cc:Int)+1))=(cR e_.length (k:Int) cc).map D.int:=by
  unfold cR;rw[List.map_set,Ka];simp
 rw[d8 ah (j:=k) (iw (by simpa using hk)),cM,e1,hn (hM.put _ _)]
 have ez:gy ((nms rs).map nD) (rs.map Rw.d)=((nms rs).zip rs).map pD:=by
  unfold gy;rw[List.zip_map,JM];rfl
 have zl:((nms rs).zip rs).length=rs.length:=by simp[nms,iR]
 have z1:(((nms rs).zip rs).map pD).length<=PySem.sizeLine:=by rw[Jh,zl,PySem.sizeLine_eq];omega
 have z2:((((nms rs).zip rs).map pD).take (j+1)).length<=PySem.sizeLine:=Jw (by rw[List.length_take];omega) z1
 have ec:=u5 (((nms rs).zip rs).map pD) j (by rw[Jh,zl];exact O2)
 simp only[rLz,cf,ez,z1,true_and,if_true,iH,ai,ec,z2];rw[<-List.map_take,<-List.map_reverse];refine ll hM (H:=e_.length) _ _ none none (by simp[cR]) (λx hx=>?_) λx6 x7=>?_
 ·obtain⟨x1,x2⟩:=x;have Ly:=List.of_mem_zip (List.mem_of_mem_take (List.mem_reverse.mp hx));obtain⟨y,hy,ey⟩:=JQ.mp (lX _ _ _ Ly.1).1;have g:=hr y hy;rw[ey]at g;exact⟨g.1,g.2.1,(hr x2 Ly.2).2.2⟩
 ·simp[be,ah,fU hc,hc,lm]
end
section
theorem hJ:∀(hs:List Int)(c:Int->Nat)(i i':Nat)(h:Int)(k k':Nat),i<i'->(nmF hs c)[i]?=some (h,k)->(nmF hs c)[i']?=some (h,k')->k<k'
 |[],_,_,_,_,_,_,_,e,_=>by simp[nmF]at e
 |x::r,c,0,i'+1,h,k,k',_,e1,e2=>by
  simp[nmF]at e1 e2;obtain⟨rfl,rfl⟩:=e1;have:=(lX r _ _ (Jy e2)).2.1;simp[bU]at this;omega
 |x::r,c,i+1,i'+1,h,k,k',hi,e1,e2=>by
  simp[nmF]at e1 e2;exact hJ r _ i i' h k k' (by omega) e1 e2
 |x::r,c,i,0,_,_,_,hi,_,_=>by omega
theorem uT:∀(hs:List Int)(c:Int->Nat)(j:Nat)(h:Int),hs[j]?=some h->(nmF hs c)[j]?=some (h,c h+(hs.take j).count h)
 |[],_,_,_,e=>by simp at e
 |x::r,c,0,h,e=>by
  simp at e;subst e;simp[nmF]
 |x::r,c,j+1,h,e=>by
  have e':r[j]?=some h:=by simpa using e
  have:=uT r (bU c x) j h e';have hb:bU c x h+(r.take j).count h=c h+((x::r).take (j+1)).count h:=by
   unfold bU;by_cases z:h=x
   ·subst z;simp;omega
   ·rw[IY z,List.take_succ_cons,List.count_cons_of_ne (Ja z)]
  rw[hb]at this;simpa [nmF] using this
theorem qX{rs:List Rw}{r:Rw}(e:rs[j]?=some r):(nms rs)[j]?=some (r.h,((rs.map Rw.h).take j).count r.h):=by
 have:=uT (rs.map Rw.h) (λ_=>0) j r.h (by rw[JJ,e];rfl)
 rw[Nat.zero_add]at this;exact this
theorem qL{rs:List Rw}(e:(nms rs)[j]?=some (h,k)):∃r,rs[j]?=some r/\r.h=h/\k=((rs.map Rw.h).take j).count h:=by
 have hl:j<rs.length:=by
  have:=(Jk.mp e).1;simpa [nms,iR] using this
 have er:rs[j]?=some rs[j]:=Jt hl;have:=qX er;rw[e]at this;simp at this;exact⟨rs[j],er,this.1.symm,by rw[this.1];exact this.2⟩
noncomputable def g(C:List Int)(h:Int):Int:=C.getD h.toNat 0
structure WFL (H:Nat)(rs:List Rw):Prop where
 hd:∀r∈rs,0<=r.h/\r.h<H
 tk:∀(i:Nat) h r a b,rs[i]?=some (.take h r a b)->∃(i' k:Nat)(r' t':Int),i' < i/\(nms rs)[i']?=some (a,k)/\b=(k:Int)/\rs[i']?=some (.send a r' t')
structure PI (H:Nat)(rs:List Rw)(j:Nat)(nh:Int)(nk:Nat)(t:Nat)(C:List Int):Prop where
 len:C.length=H
 a0:∀h,0<=g C h
 a1:∀h:Int,0<=h->h<H->0<g C h->∃(i k:Nat),i<=j/\(nms rs)[i]?=some (h,k)/\g C h=(k:Int)+1
 b:g C nh=(nk:Int)+1
 c:∀(i:Nat) h (k:Nat) h' r a b,t<=i->rs[i]?=some (.take h' r a b)->(nms rs)[i]?=some (h,k)->(k:Int)<g C h->b<g C a
variable {H:Nat}{rs:List Rw}{j t:Nat}{nh:Int}{nk:Nat}{C:List Int}
theorem WFL.nm(W:WFL H rs){i:Nat}{h:Int}{k:Nat}(e:(nms rs)[i]?=some (h,k)):0<=h/\h<H:=by
 obtain⟨r,e1,e2,_⟩:=qL e;rw[<-e2];exact W.hd r (Jy e1)
theorem PI.start(W:WFL H rs)(hj:(nms rs)[j]?=some (nh,nk)):PI H rs j nh nk (j+1) (cR H nh nk):=by
 obtain⟨h0,h1⟩:=W.nm hj;have hg:∀y:Int,g (cR H nh nk) y=if y.toNat=nh.toNat then (nk:Int)+1 else 0:=λy=>by
  unfold g cR;have hl:nh.toNat<H:=by omega
  by_cases e:y.toNat=nh.toNat
  ·rw[Jc e,e];simp[hl]
  ·rw[IY e];rw[List.getD_eq_getElem?_getD,JP (Ja e)];by_cases z:y.toNat<H
   ·simp[z]
   ·simp[List.getElem?_eq_none (show (List.replicate H (0:Int)).length<=y.toNat by simp;omega)]
 refine⟨by simp[cR],λh=>?_,λh Ry Mg hp=>?_,?_,λi h k h' r a b hi hr hn hk=>?_⟩
 ·rw[hg];split<;>omega
 ·rw[hg]at hp;split at hp
  ·rename_i e;have e':h=nh:=by omega
   subst e';exact⟨j,nk,Jg _,hj,by rw[hg,Jc rfl]⟩
  ·omega
 ·rw[hg,Jc rfl]
 ·exfalso;rw[hg]at hk;split at hk
  ·rename_i e;have hh:=(W.nm hn).1;have e':h=nh:=by omega
   subst e';have:=hJ _ _ j i h nk k (by omega) hj hn
   omega
  ·omega
theorem PI.same(I:PI H rs j nh nk (t+1) C)(hn:(nms rs)[t]?=some (h,k))(hx:∀h' r a b,rs[t]?=some (.take h' r a b)->¬ (k:Int)<g C h):PI H rs j nh nk t C:=
 ⟨I.len,I.a0,I.a1,I.b,λi h2 k2 h' r a b hi hr L4 hk=>by
  by_cases e:i=t
  ·subst e;rw[hn]at L4;cases L4;exact absurd hk (hx _ _ _ _ hr)
  ·exact I.c i h2 k2 h' r a b (by omega) hr L4 hk⟩
theorem PI.step(W:WFL H rs)(hj:(nms rs)[j]?=some (nh,nk))(ht:t<=j){h:Int}{k:Nat}{r:Rw}(hn:(nms rs)[t]?=some (h,k))(hr:rs[t]?=some r)(I:PI H rs j nh nk (t+1) C):PI H rs j nh nk t (cT C ((h,k),r)):=by
 unfold cT;by_cases hk:(k:Int)<C.getD h.toNat 0
 ·show PI H rs j nh nk t (if (k:Int)<C.getD h.toNat 0 then upC C r else C)
  rw[Jc hk];cases r with
  |look h1 r1=>exact I.same hn λh' r a b e=>by rw[hr]at e;cases e
  |r_ h1 r1 e1 l1=>exact I.same hn λh' r a b e=>by rw[hr]at e;cases e
  |send h1 r1 t1=>exact I.same hn λh' r a b e=>by rw[hr]at e;cases e
  |take h1 r1 a b=>
   obtain⟨i',kb,rb,tb,l1,l2,rfl,l4⟩:=W.tk t _ _ _ _ hr;obtain⟨a0,a1⟩:=W.nm l2;have Nc:a.toNat<C.length:=by rw[I.len];omega
   have hg:∀y:Int,g (upC C (.take h1 r1 a kb)) y=if y.toNat=a.toNat then max (g C a) ((kb:Int)+1) else g C y:=λy=>by
    unfold g upC;by_cases e:y.toNat=a.toNat
    ·rw[Jc e,e];simp[Nc]
    ·rw[IY e,List.getD_eq_getElem?_getD,JP (Ja e),List.getD_eq_getElem?_getD]
   have Rz:∀y,g C y<=g (upC C (.take h1 r1 a kb)) y:=λy=>by
    rw[hg];split
    ·rename_i e;have:g C y=g C a:=by unfold g;rw[e]
     omega
    ·omega
   have Lg:(k:Int)<g C h:=hk;refine⟨by rw[rA];exact I.len,λy=>Int.le_trans (I.a0 y) (Rz y),λy y0 y1 hp=>?_,?_,λi h2 k2 h' r a2 b2 hi NB L4 Qz=>?_⟩
   ·rw[hg]at hp ⊢;split at hp
    ·rename_i e;have e':y=a:=by omega
     subst e';rw[Jc rfl];by_cases z:g C y<(kb:Int)+1
     ·exact⟨i',kb,by omega,l2,by omega⟩
     ·have q:=I.a0 y;obtain⟨i,k,q1,q2,q3⟩:=I.a1 y y0 y1 (by omega)
      exact⟨i,k,q1,q2,by omega⟩
    ·rename_i e;rw[IY e];exact I.a1 y y0 y1 hp
   ·rw[hg];have hb:=I.b;split
    ·rename_i e;have n0:=(W.nm hj).1;have e':nh=a:=by omega
     subst e';have:=hJ _ _ i' j nh kb nk (by omega) l2 hj
     omega
    ·exact hb
   ·by_cases e:i=t
    ·subst e;rw[hr]at NB;cases NB;rw[hg,Jc rfl];omega
    ·have Uh:=(W.nm L4).1;have:(k2:Int)<g C h2:=by
      rw[hg]at Qz;split at Qz
      ·rename_i e2;have e':h2=a:=by omega
       subst e';have:=hJ _ _ i' i h2 kb k2 (by omega) l2 L4
       omega
      ·exact Qz
     have:=I.c i h2 k2 h' r a2 b2 (by omega) NB L4 this
     have:=Rz a2;omega
 ·show PI H rs j nh nk t (if (k:Int)<C.getD h.toNat 0 then _ else _)
  rw[IY hk];exact I.same hn λh' r a b e=>hk
theorem PI.all(W:WFL H rs)(hj:(nms rs)[j]?=some (nh,nk)):∀(l pre:List ((Int×Nat)×Rw)),((nms rs).zip rs).take (j+1)=pre++l->PI H rs j nh nk pre.length (l.foldr (λx C=>cT C x) (cR H nh nk))
 |[],pre,e=>by
  have hl:pre.length=j+1:=by
   have:=congrArg List.length e;have O2:=(Jk.mp hj).1;simp[nms,iR]at this O2;omega
  rw[hl];exact PI.start W hj
 |x::l,pre,e=>by
  have ih:=PI.all W hj l (pre++[x]) (by rw[e];simp)
  rw[JG,List.length_singleton]at ih;have hx:(((nms rs).zip rs).take (j+1))[pre.length]?=some x:=by rw[e];simp
  have Kk:pre.length<j+1:=by
   have:=(Jk.mp hx).1;simp at this;omega
  rw[List.getElem?_take_of_lt Kk]at hx;obtain⟨⟨h,k⟩,r⟩:=x;obtain⟨e1,e2⟩:=List.getElem?_zip_eq_some.mp hx;rw[List.foldr_cons];exact ih.step W hj (by omega) e1 e2
theorem PI.past(W:WFL H rs)(hj:(nms rs)[j]?=some (nh,nk)):PI H rs j nh nk 0 (lm H rs j nh nk):=by
 have:=PI.all W hj _ [] (List.nil_append _).symm;unfold lm;rw[List.foldl_reverse];exact this
end
section
variable {S:St}{r:Rw}{pre:List Rw}{wy:List Wy}
noncomputable def ofH(pre:List Rw)(h:Int):List Rw:=pre.filter λr=>decide (r.h=h)
noncomputable def aF(pre:List Rw)(i j:Int):Option Rw:=if 0<=j then (ofH pre i)[j.toNat]? else none
noncomputable def Rw.tk(i j:Int):Rw->Bool
 |.take _ _ a b=>decide (a=i)&&decide (b=j)
 |_=>false
noncomputable def tkn(pre:List Rw)(i j:Int):Bool:=pre.any (Rw.tk i j)
noncomputable def Rw.un:Rw->Option D
 |.send _ _ t=>some (.int t)
 |_=>none
noncomputable def unF(pre:List Rw)(i j:Int):Option D:=if tkn pre i j=true then none else (aF pre i j).bind Rw.un
structure UI (pre:List Rw)(S:St)(c:Int->Nat):Prop where
 si:SI S c pre.length
 nd:S.ku.Nodup
 cc:∀h,c h=(ofH pre h).length
 kr:∀h,getD S.kr S.dr (.inl h)=(ofH pre h).getLast?.map λr=>D.int r.r
 un:∀i j,getD S.ku S.du [i,j]=unF pre i j
 tk:∀i j,tkn pre i j=true->(aF pre i j).isSome=true
theorem nK[DecidableEq κ]:∀{ks:List κ}{ds:List D},getD ks ds k=some v->k∈ks
 |[],ds,h=>by simp[getD]at h
 |q::ks,[],h=>by simp[getD]at h
 |q::ks,d::ds,h=>by
  simp only[getD]at h;split at h
  ·rename_i e;rw[e];exact Jd
  ·exact IX _ (nK h)
theorem lV[DecidableEq κ]:∀{ks:List κ}{ds:List D},ks.Nodup->ks.length=ds.length->getD (ax ks k) (aJ ks ds k) x=if k=x then none else getD ks ds x
 |[],[],_,_=>by simp[ax,aJ,getD]
 |q::ks,d::ds,hn,hl=>by
  have ih:=lV (k:=k) (x:=x) (ks:=ks) (ds:=ds) (Jo.mp hn).2 (by simpa using hl)
  simp only[ax,aJ];by_cases e:q=k
  ·subst e;rw[Jc rfl,Jc rfl];by_cases e2:q=x
   ·subst e2;rw[Jc rfl];cases z:getD ks ds q with
    |none=>rfl
    |some v=>exact absurd (nK z) (Jo.mp hn).1
   ·rw[IY e2];simp[getD,e2]
  ·rw[IY e,IY e];by_cases e2:q=x
   ·subst e2;rw[IY (Ja e)];simp[getD]
   ·simp only[getD,IY e2];exact ih
theorem kZ[DecidableEq κ]:∀{ks:List κ},x∈ax ks k->x∈ks
 |[],h=>by simpa [ax] using h
 |q::ks,h=>by
  simp only[ax]at h;split at h
  ·exact IX _ h
  ·rcases Jb.mp h with h|h
   ·exact h▸Jd
   ·exact IX _ (kZ h)
theorem on[DecidableEq κ]:∀{ks:List κ},ks.Nodup->(ax ks k).Nodup
 |[],_=>by simp[ax]
 |q::ks,h=>by
  simp only[ax];split
  ·exact (Jo.mp h).2
  ·exact Jo.mpr ⟨λz=>(Jo.mp h).1 (kZ z),on (Jo.mp h).2⟩
theorem oH[DecidableEq κ]:∀{ks:List κ},x∈aj ks k->x=k\/x∈ks
 |[],h=>by simp[aj]at h;exact .inl h
 |q::ks,h=>by
  simp only[aj]at h;split at h
  ·exact .inr h
  ·rcases Jb.mp h with h|h
   ·exact .inr (h▸Jd)
   ·rcases oH h with h|h
    ·exact .inl h
    ·exact .inr (IX _ h)
theorem qK[DecidableEq κ]:∀{ks:List κ},ks.Nodup->(aj ks k).Nodup
 |[],_=>by simp[aj]
 |q::ks,h=>by
  simp only[aj];split
  ·exact h
  ·rename_i e;refine Jo.mpr ⟨λz=>?_,qK (Jo.mp h).2⟩
   rcases oH z with z|z
   ·exact e z
   ·exact (Jo.mp h).1 z
theorem br:ofH (pre++[r]) i=if r.h=i then ofH pre i++[r] else ofH pre i:=by
 unfold ofH;rw[List.filter_append];by_cases e:r.h=i<;>simp[e]
theorem cZ:aF (pre++[r]) i j=if r.h=i/\j=(ofH pre i).length then some r else aF pre i j:=by
 unfold aF;rw[br];by_cases e:r.h=i
 ·rw[Jc e];by_cases h0:0<=j
  ·rw[Jc h0,Jc h0];by_cases h1:j=(ofH pre i).length
   ·rw[Jc ⟨e,h1⟩,h1];simp
   ·rw[IY λz=>h1 z.2]
    by_cases h2:j.toNat<(ofH pre i).length
    ·rw[List.getElem?_append_left h2]
    ·rw[List.getElem?_append_right (by omega),List.getElem?_eq_none (by simp;omega),List.getElem?_eq_none (by omega)]
  ·rw[IY h0,IY h0,IY λz=>h0 (by omega)]
 ·have e2:¬ (r.h=i/\j=(ofH pre i).length):=λz=>e z.1
  rw[IY e,IY e2]
theorem g8:aF (pre++[r]) r.h ((ofH pre r.h).length:Nat)=some r:=by rw[cZ,Jc ⟨rfl,rfl⟩]
theorem eU:tkn (pre++[r]) i j=(tkn pre i j||r.tk i j):=by simp[tkn]
theorem fR:aF pre i ((ofH pre i).length:Nat)=none:=by simp[aF]
theorem pJ(U:UI pre S c):unF pre i ((ofH pre i).length:Nat)=none:=by
 unfold unF;rw[fR];split<;>rfl
theorem tI(U:UI pre S c):tkn pre i ((ofH pre i).length:Nat)=false:=by
 cases e:tkn pre i ((ofH pre i).length:Nat) with
 |false=>rfl
 |true=>have:=U.tk _ _ e;rw[fR]at this;cases this
theorem UI.step(U:UI pre S c)(hf:flt H wy S r=none):UI (pre++[r]) (S.step (c r.h) r) (bU c r.h):=by
 have th:=jE (m9 hf).2;have si:=U.si.step (r:=r);have hk:∀h,getD (aj S.kr (.inl r.h)) (am S.kr S.dr (.inl r.h) (.int r.r)) (.inl h)=(ofH (pre++[r]) h).getLast?.map λr=>D.int r.r:=λh=>by
  rw[d9 U.si.l2,br];by_cases e:r.h=h
  ·subst e;simp
  ·have e2:¬ ((Sum.inl r.h:Key)=Sum.inl h):=λz=>e (Sum.inl.inj z)
   rw[IY e2,IY e];exact U.kr h
 have cc:∀h,bU c r.h h=(ofH (pre++[r]) h).length:=λh=>by
  rw[br];unfold bU;by_cases e:h=r.h
  ·subst e;simp[U.cc]
  ·rw[IY e,IY (Ja e)];exact U.cc h
 have tk:∀i j,tkn (pre++[r]) i j=true->(aF (pre++[r]) i j).isSome=true:=λi j h=>by
  rw[cZ];split
  ·rfl
  ·rw[eU,Bool.or_eq_true]at h;rcases h with h|h
   ·exact U.tk i j h
   ·cases r with
    |take h' v a b=>
     simp only[Rw.tk,IV,Je]at h;obtain⟨rfl,rfl⟩:=h;have e:getD S.ku S.du [a,b]=some (.int h'):=th;rw[U.un]at e;unfold unF at e;split at e
     ·cases e
     ·cases z:aF pre a b with
      |none=>rw[z]at e;cases e
      |some _=>rfl
    |_=>cases h
 have old:∀i j,r.tk i j=false->¬ (r.h=i/\j=(ofH pre i).length)->unF (pre++[r]) i j=unF pre i j:=λi j h1 h2=>by
  unfold unF;rw[eU,h1,Bool.or_false,cZ,IY h2]
 have cl:pre.length+1=(pre++[r]).length:=by simp
 rw[cl]at si;cases r with
 |look h v=>
  refine⟨si,U.nd,cc,hk,λi j=>?_,tk⟩
  show getD S.ku S.du [i,j]=_;rw[U.un];by_cases e:h=i/\j=(ofH pre i).length
  ·obtain⟨rfl,rfl⟩:=e;rw[pJ U];unfold unF;rw[show aF (pre++[_]) h _=_ from g8];split<;>rfl
  ·exact (old i j rfl e).symm
 |r_ h v e l=>
  refine⟨si,U.nd,cc,hk,λi j=>?_,tk⟩
  show getD S.ku S.du [i,j]=_;rw[U.un];by_cases e:h=i/\j=(ofH pre i).length
  ·obtain⟨rfl,rfl⟩:=e;rw[pJ U];unfold unF;rw[show aF (pre++[_]) h _=_ from g8];split<;>rfl
  ·exact (old i j rfl e).symm
 |send h v t=>
  refine⟨si,qK U.nd,cc,hk,λi j=>?_,tk⟩
  show getD (aj S.ku [h,(c h:Int)]) (am S.ku S.du [h,(c h:Int)] (.int t)) [i,j]=_;rw[d9 U.si.l3,U.un,U.cc];by_cases e:h=i/\j=(ofH pre i).length
  ·obtain⟨rfl,rfl⟩:=e;rw[Jc rfl];unfold unF;rw[eU,tI U,show aF (pre++[_]) h _=_ from g8];rfl
  ·rw[IY λz=>e (by
    simp only[List.cons.injEq,and_true]at z;exact⟨z.1,by rw[<-z.2,z.1]⟩)]
   exact (old i j rfl e).symm
 |take h v a b=>
  refine⟨si,on U.nd,cc,hk,λi j=>?_,tk⟩
  show getD (ax S.ku [a,b]) (aJ S.ku S.du [a,b]) [i,j]=_;rw[lV U.nd U.si.l3];by_cases e0:a=i/\b=j
  ·obtain⟨rfl,rfl⟩:=e0;rw[Jc rfl];unfold unF;rw[eU];simp[Rw.tk]
  ·rw[IY λz=>e0 (by simpa using z),U.un]
   have tf:(Rw.take h v a b).tk i j=false:=by
    simp only[Rw.tk];by_cases z:a=i
    ·have:¬ b=j:=λy=>e0 ⟨z,y⟩
     simp[this]
    ·simp[z]
   by_cases e:h=i/\j=(ofH pre i).length
   ·obtain⟨rfl,rfl⟩:=e;rw[pJ U];unfold unF;rw[show aF (pre++[_]) h _=_ from g8];split<;>rfl
   ·exact (old i j tf e).symm
theorem ui0:UI [] S0 (λ_=>0):=⟨si0,List.nodup_nil,(λ_=>rfl),(λ_=>rfl),(λi j=>by unfold unF aF ofH tkn;simp[S0,getD]),(λi j h=>by simp[tkn]at h)⟩
noncomputable abbrev RS(pre:List Rw):St:=eL S0 (λ_=>0) pre
end
section
variable {S:St}{r x:Rw}{rs pre:List Rw}{c:Int->Nat}{H:Nat}{wy:List Wy}{C D:List Int}{j:Nat}{nh:Int}{nk:Nat}
noncomputable abbrev NR:=(Int×Nat)×Rw
noncomputable abbrev Zs(rs:List Rw):List NR:=(nms rs).zip rs
noncomputable def kp(C:List Int)(x:NR):Bool:=decide ((x.1.2:Int)<g C x.1.1)
noncomputable def aZ(C:List Int)(rs:List Rw):List Rw:=((Zs rs).filter (kp C)).map Prod.snd
theorem iz{P:List Rw->Prop}(h0:P [])(hs:∀l x,P l->P (l++[x])):∀l,P l:=λl=>by
 have:∀(post pre:List Rw),P pre->P (pre++post):=λpost=>by
  induction post with
  |nil=>intro pre h;simpa using h
  |cons x post ih=>intro pre h;have:=ih _ (hs pre x h);simpa using this
 exact this l [] h0
theorem cG:(nms rs).length=rs.length:=by simp[nms,iR]
theorem u9:(rs.map Rw.h).count h=(ofH rs h).length:=by
 unfold ofH
 induction rs with
 |nil=>rfl
 |cons x rs ih=>
  rw[Ji,List.count_cons,List.filter_cons,ih];by_cases e:x.h=h<;>simp[e]
theorem f6:nms (rs++[x])=nms rs++[(x.h,(ofH rs x.h).length)]:=by
 unfold nms;rw[JW,List.map_singleton,vn,u9,Nat.zero_add]
theorem dL:Zs (rs++[x])=Zs rs++[((x.h,(ofH rs x.h).length),x)]:=by
 unfold Zs;rw[f6,List.zip_append cG];rfl
theorem Aj{y:NR}(h:y∈Zs rs):y.1.1=y.2.h:=by
 induction rs using iz with
 |h0=>cases h
 |hs l x ih=>
  rw[dL]at h;rcases Jv.mp h with h|h
  ·exact ih h
  ·rw[Ju.mp h]
theorem vP:aZ C (rs++[x])=aZ C rs++if ((ofH rs x.h).length:Int)<g C x.h then [x] else []:=by
 unfold aZ;rw[dL,List.filter_append,JW];by_cases h:((ofH rs x.h).length:Int)<g C x.h<;>simp[kp,h]
theorem C9:Zs (aZ C rs)=(Zs rs).filter (kp C)/\∀h,ofH (aZ C rs) h=(ofH rs h).take (g C h).toNat:=by
 induction rs using iz with
 |h0=>exact⟨rfl,λh=>by simp[aZ,ofH,Zs,nms,nmF]⟩
 |hs l x ih=>
  obtain⟨A,B⟩:=ih;rw[vP,dL,List.filter_append];by_cases h:((ofH l x.h).length:Int)<g C x.h
  ·have e:ofH (aZ C l) x.h=ofH l x.h:=by rw[B,List.take_of_length_le (by omega)]
   rw[Jc h,dL,A,e];refine⟨by simp[kp,h],λy=>?_⟩
   rw[br,br];by_cases z:x.h=y
   ·subst z;rw[Jc rfl,Jc rfl,e,List.take_of_length_le (by simp;omega)]
   ·rw[IY z,IY z];exact B y
  ·rw[IY h,JV];refine⟨by simp[kp,h,A],λy=>?_⟩
   rw[br];by_cases z:x.h=y
   ·subst z;rw[Jc rfl,List.take_append_of_le_length (by omega)];exact B _
   ·rw[IY z];exact B y
theorem sent_Z{a b:Int}:aF rs a b=some r<->∃k:Nat,b=k/\((a,k),r)∈Zs rs:=by
 induction rs using iz with
 |h0=>simp[aF,ofH,Zs,nms,nmF]
 |hs l x ih=>
  rw[cZ,dL];by_cases e:x.h=a/\b=(ofH l a).length
  ·obtain⟨rfl,rfl⟩:=e;rw[Jc ⟨rfl,rfl⟩];constructor
   ·intro h;cases h;exact⟨_,rfl,by simp⟩
   ·rintro⟨k,hk,h⟩;rcases Jv.mp h with h|h
    ·have:=ih.mpr ⟨k,hk,h⟩;rw[show ((ofH l x.h).length:Int)=((ofH l x.h).length:Nat) from rfl,fR]at this;cases this
    ·simp at h;rw[h.2]
  ·rw[IY e,ih];constructor
   ·rintro⟨k,hk,h⟩;exact⟨k,hk,JO _ h⟩
   ·rintro⟨k,hk,h⟩;rcases Jv.mp h with h|h
    ·exact⟨k,hk,h⟩
    ·simp at h;exact absurd ⟨h.1.1.symm,by rw[hk,h.1.2,h.1.1]⟩ e
structure Gd (H:Nat)(wy:List Wy)(pre:List Rw)(r:Rw):Prop where
 hd:0<=r.h/\r.h<H
 rd:∀x,(ofH pre r.h).getLast?=some x->x.r<=r.r
 ub:r.r<10 ^ 40
 sg:∀h v e l,r=.r_ h v e l->e<=l
 sn:∀h v t,r=.send h v t->[h,t]∈wy.map pr
 tk:∀h v a b,r=.take h v a b->tkn pre a b=false/\∃v',aF pre a b=some (.send a v' h)
inductive Good (H:Nat) (wy:List Wy):List Rw->Prop where
 |nil:Good H wy []
 |snoc {rs:List Rw}{x:Rw} (h:Good H wy rs) (d:Gd H wy rs x):Good H wy (rs++[x])
theorem nt:∀(rs:List Rw)(S:St)(c:Int->Nat),cH H wy S c rs->flt H wy (eL S c rs) x=none->cH H wy S c (rs++[x])
 |[],S,c,_,h=>⟨h,trivial⟩
 |r::rs,S,c,f,h=>⟨f.1,nt rs _ _ f.2 h⟩
theorem iA:∀(rs:List Rw)(S:St)(c:Int->Nat),eL S c (rs++[x])=(eL S c rs).step (tj c rs x.h) x/\tj c (rs++[x])=bU (tj c rs) x.h
 |[],S,c=>⟨rfl,rfl⟩
 |r::rs,S,c=>iA rs _ _
theorem Gd.flt(d:Gd H wy rs x)(U:UI rs S c):flt H wy S x=none:=by
 have h1:flC H S x=none:=by
  unfold flC;rw[Jc (by simp[okH,d.hd.1,d.hd.2]),U.kr]
  cases e:(ofH rs x.h).getLast? with
  |none=>rfl
  |some y=>have:=d.rd y e;simp;omega
 unfold G.flt;rw[h1];cases x with
 |look h v=>rfl
 |r_ h v e l=>have:=d.sg _ _ _ _ rfl;simp[flK];omega
 |send h v t=>simp only[flK,Jc (d.sn _ _ _ rfl)]
 |take h v a b=>
  obtain⟨t1,v',t2⟩:=d.tk _ _ _ _ rfl;simp only[flK,U.un,unF,t1,t2];simp[Rw.un]
theorem Good.fine(h:Good H wy rs):cH H wy S0 (λ_=>0) rs/\UI rs (eL S0 (λ_=>0) rs) (tj (λ_=>0) rs):=by
 induction h with
 |nil=>exact⟨trivial,ui0⟩
 |@snoc rs x _ d ih=>
  have hf:=d.flt ih.2;refine⟨nt _ _ _ ih.1 hf,?_⟩;rw[(iA rs S0 (λ_=>0)).1,(iA rs S0 (λ_=>0)).2]
  exact ih.2.step hf
theorem wk{y:NR}(h:y∈Zs rs):∃i:Nat,rs[i]?=some y.2/\(nms rs)[i]?=some y.1:=by
 obtain⟨i,hi⟩:=List.mem_iff_getElem?.mp h;obtain⟨a1,a2⟩:=List.getElem?_zip_eq_some.mp hi;exact⟨i,a2,a1⟩
theorem Ga{i:Nat}{v:Int×Nat}(h1:rs[i]?=some r)(h2:(nms rs)[i]?=some v):(v,r)∈Zs rs:=Jy (List.getElem?_zip_eq_some.mpr ⟨h2,h1⟩)
theorem Good.wfl(h:Good H wy rs):WFL H rs:=by
 induction h with
 |nil=>exact⟨λ_ h=>(by cases h),λi h r a b e=>by simp at e⟩
 |@snoc rs x _ d W=>
  refine⟨λr hr=>?_,λi h v a b e=>?_⟩
  ·rcases Jv.mp hr with hr|hr
   ·exact W.hd r hr
   ·rw[Ju.mp hr];exact d.hd
  ·have up:∀{i:Nat}{y:Rw},rs[i]?=some y->(rs++[x])[i]?=some y:=λ{i y} z=>by rw[List.getElem?_append_left (Jk.mp z).1];exact z
   have un:∀{i:Nat}{y:Int×Nat},(nms rs)[i]?=some y->(nms (rs++[x]))[i]?=some y:=λ{i y} z=>by rw[f6,List.getElem?_append_left (Jk.mp z).1];exact z
   by_cases hi:i<rs.length
   ·rw[List.getElem?_append_left hi]at e;obtain⟨i',k,r',t',h1,h2,h3,h4⟩:=W.tk i _ _ _ _ e;exact⟨i',k,r',t',h1,un h2,h3,up h4⟩
   ·have hl:=(Jk.mp e).1;have:i=rs.length:=by simp at hl;omega
    subst this;simp at e;obtain⟨_,v',h2⟩:=d.tk _ _ _ _ e;obtain⟨k,hk,hz⟩:=sent_Z.mp h2;obtain⟨i',q1,q2⟩:=wk hz;exact⟨i',k,v',h,(Jk.mp q1).1,un q2,hk,up q1⟩
theorem Good.take(G:Good H wy rs)(m:Nat):Good H wy (rs.take m):=by
 induction G with
 |nil=>simpa using Good.nil
 |@snoc rs x G d ih=>
  by_cases h:m<=rs.length
  ·rw[List.take_append_of_le_length h];exact ih
  ·rw[List.take_of_length_le (by simp;omega)];exact .snoc G d
end
section
variable {cls b_ d_:Nat->PySem.Addr}{M:MH}{Q:VK3}{E:XN}{n:Nat}{e_:List (Int×Int)}{rs:List Rw}{H:Nat}{wy:List Wy}{C:List Int}{A Bs A' B':List NR}{x x':NR}
theorem jZ(h:∀q o,M q=some o->M' q=some o):ar M M'=M:=by
 funext a;unfold ar;cases e:M a with
 |none=>rfl
 |some o=>simp[h _ _ e]
theorem km:ar M M=M:=jZ λ_ _ h=>h
theorem ya{M':MH}(h:∀q o,M q=some o->M' q=some o){p:PySem.Addr}(hp:M' p=none):M p=none:=by
 cases e:M p with
 |none=>rfl
 |some o=>have:=h _ _ e;rw[hp]at this;cases this
noncomputable def pv(H:Nat)(A:List NR)(x:NR):List Int:=(A++[x]).reverse.foldl cT (cR H x.1.1 x.1.2)
theorem vo:(Zs rs).length=rs.length:=by rw[List.length_zip,cG,Nat.min_self]
theorem lu(hz:Zs rs=A++x::Bs):rs[A.length]?=some x.2/\(nms rs)[A.length]?=some x.1:=by
 have:(Zs rs)[A.length]?=some x:=by rw[hz];simp
 exact (List.getElem?_zip_eq_some.mp this).symm
theorem rk(hz:Zs rs=A++x::Bs):lm H rs A.length x.1.1 x.1.2=pv H A x:=by
 unfold lm pv;rw[show (nms rs).zip rs=A++x::Bs from hz,List.take_append,List.take_of_length_le (by omega)]
 simp
theorem yA(G:Good H wy rs)(hz:Zs rs=A++x::Bs):PI H rs A.length x.1.1 x.1.2 0 (pv H A x):=by
 rw[<-rk hz];exact PI.past G.wfl (lu hz).2
theorem Ak:gy ((nms rs).map nD) (rs.map Rw.d)=(Zs rs).map pD:=by
 unfold gy Zs;rw[List.zip_map,JM];rfl
theorem CN(hl:rs.length<400)(hM:Fm M)(hC:C.length=H)(hr:∀r∈rs,0<=r.h/\r.h<H):aa T (B cls b_ d_) (n+3) 25 [.g_ (rs.map Rw.d),.g_ (C.map D.int)] M Q E=Q (.g_ ((aZ C rs).map Rw.d)) M:=by
 have hn:∀{Q:VK3}{E:XN},aa T (B cls b_ d_) (n+2) 14 [.g_ (rs.map Rw.d)] M Q E=Q (.g_ ((nms rs).map nD)) M:=λ{Q E}=>eI rs hl hM
 rw[Ef];simp[uV,hn,Ak,ao];rw[dS pD (λZ=>∃x0 x1,Z=[x0,x1,some (.g_ (C.map D.int))]) (λe=>[some (nD e.1),some e.2.d,some (.g_ (C.map D.int))]) (kp C) (λe=>e.2.d) ⟨none,none,rfl⟩ hM (by rw[vo];omega) (λe he=>⟨⟨_,_,rfl⟩,by
   rintro Z ⟨x0,x1,rfl⟩ M k;simp[pD]⟩) (λe he M' hE Q'=>by
   have e1:=Aj he;obtain⟨w1,w2⟩:=hr _ (List.of_mem_zip he).2;rw[<-e1]at w1 w2;obtain⟨⟨h,k⟩,r⟩:=e;simp only at w1 w2;obtain⟨h',rfl⟩:∃h':Nat,h=h':=⟨h.toNat,by omega⟩
   have hx:∀{M:MH}{Q:VK3},aq (.g_ (C.map D.int)) (.int (h':Int)) M Q=Q (.int (C.getD h' 0)) M:=λ{M Q}=>cg (fh (by omega))
   simp[nD,fK,↓hx];simp[kp,g]) (λe _ _ M' hE Q'=>by simp),km]
 unfold aZ;rw[JM];exact Iff.rfl
theorem Good.ltr(G:Good H wy rs):∀r∈rs,0<=r.h/\r.h<H/\r.ltr H:=λr hr=>by
 have W:=G.wfl;refine⟨(W.hd r hr).1,(W.hd r hr).2,?_⟩;cases r with
 |take h v a b=>
  obtain⟨i,hi⟩:=List.mem_iff_getElem?.mp hr;obtain⟨i',k,r',t',_,h2,h3,h4⟩:=W.tk i _ _ _ _ hi;have:=W.nm h2;simp only[Rw.ltr];omega
 |_=>trivial
theorem tT(G:Good e_.length wy rs)(h1:1<=e_.length)(h6:e_.length<=6)(hl:rs.length<400)(hM:Fm M)(hz:Zs rs=A++x::Bs):aa T (B cls b_ d_) (n+6) 26 [wO b_ e_ wy,.g_ (rs.map Rw.d),nD x.1] M Q E=Q (.g_ ((aZ (pv e_.length A x) rs).map Rw.d)) M:=by
 obtain⟨a1,a2⟩:=lu hz;have hx:=Aj (rs:=rs) (y:=x) (by rw[hz];simp)
 have a3:=qX a1;rw[a2]at a3;have a4:x.1.2=((rs.map Rw.h).take A.length).count x.1.1:=by rw[Option.some.injEq]at a3;rw[a3]
 have hp:=λ{Q:VK3}{E:XN}=>A5 (cls:=cls) (b_:=b_) (d_:=d_) (n:=n) (M:=M) (Q:=Q) (E:=E) (wy:=wy) (e_:=e_) (rs:=rs) (j:=A.length) (h:=x.1.1) hl hM h1 h6 (by rw[JJ,a1,hx];rfl) G.ltr
 rw[<-a4,rk hz]at hp;rw[AJ];simp[pj,nD,hp];rw[CN (n:=n+2) hl hM (yA G hz).len (λr hr=>G.wfl.hd r hr)]
 rw[km]
end
section
variable {e_:List (Int×Int)}{wy:List Wy}{rs vs:List Rw}{r:Rw}
theorem BW:eqD r.d r.d=true:=by cases r<;>simp[Rw.d,eqD,bN]
theorem t5:plN (m+2) r.d=true:=by cases r<;>simp[Rw.d,plN]
theorem wc:bN (rs.map Rw.d) (rs.map Rw.d)=true:=by
 induction rs with
 |nil=>simp[bN]
 |cons r rs ih=>simp[bN,BW,ih]
theorem xa(h1:ai M u=some (rs.map Rw.d))(h2:ai M v=some (rs.map Rw.d)):dh neg u v M Q=Q (.bl (!neg)) M:=by
 have hp:pls (rs.map Rw.d)=true:=by simp[pls,t5]
 have h7:pl (.g_ (rs.map Rw.d))=true:=by simp[pl,plN,t5]
 simp only[dh,L2.rs,h1,h2,hp,if_true,h7,true_and,eqD,wc];simp
noncomputable def mD(p:Int×Int):D:=.tup [.int p.1,.int p.2]
theorem Dt:eqD (mD p) (mD q)=decide (p=q):=by
 obtain⟨a,b⟩:=p;obtain⟨c,d⟩:=q;simp[mD,eqD,bN]
theorem DX:dh neg (mD p) (mD q) M Q=Q (.bl (neg ^^ decide (p=q))) M:=by
 have e:∀p,L2.rs M (mD p)=mD p:=λ_=>rfl
 have e2:∀p,pl (mD p)=true:=λ_=>by simp[mD,pl,plN]
 simp only[dh,e,e2,true_and,Dt]
theorem GU{l:List (Int×Int)}(h:az M z=some (l.map mD)):l6 neg (mD p) z M Q=Q (.bl (neg ^^ decide (p∈l))) M:=by
 have hp:pls (l.map mD)=true:=by simp[plN,mD]
 have hr:res M (mD p)=mD p:=rfl;have hx:pl (mD p)=true:=by simp[mD,pl,plN]
 have ha:((l.map mD).any λd=>eqD d (mD p))=decide (p∈l):=by
  clear h hp
  induction l with
  |nil=>rfl
  |cons q l ih=>
   rw[Ji,List.any_cons,ih,Dt];by_cases e:q=p
   ·simp[e]
   ·simp[e,Ja e]
 simp only[l6,h,hp,hr,hx,true_and,ha]
noncomputable def pz(p:Int×Nat):Int×Int:=(p.1,p.2)
theorem uv:nD p=mD (pz p):=rfl
theorem pz_inj:pz p=pz q<->p=q:=by
 obtain⟨a,b⟩:=p;obtain⟨c,d⟩:=q;simp[pz];omega
theorem Ae{l:List (Int×Nat)}:pz q∈l.map pz<->q∈l:=by
 constructor
 ·intro h;obtain⟨x,hx,e⟩:=JQ.mp h;exact (pz_inj.mp e)▸hx
 ·exact λh=>List.mem_map_of_mem h
theorem CZ{l:List (Int×Nat)}(h:az M z=some (l.map nD)):l6 neg (nD q) z M Q=Q (.bl (neg ^^ decide (q∈l))) M:=by
 rw[uv,GU (l:=l.map pz) (by rw[h,JM];rfl)]
 simp only[Ae]
theorem Fx:dh neg (nD p) (nD q) M Q=Q (.bl (neg ^^ decide (p=q))) M:=by rw[uv,uv,DX];simp only[pz_inj]
noncomputable abbrev rL(rs:List Rw):D:=.g_ (rs.map Rw.d)
noncomputable abbrev nL(rs:List Rw):D:=.g_ ((nms rs).map nD)
theorem gR(hl:rs.length<400):(aZ C rs).length<400:=by
 have:(aZ C rs).length<=(Zs rs).length:=by unfold aZ;rw[Jh];exact List.length_filter_le ..
 rw[vo]at this;omega
noncomputable def Rw.s:Rw->PySem.Str
 |.look ..=>"look"
 |.r_ ..=>"sight"
 |.send ..=>"send"
 |.take ..=>"take"
noncomputable def Rw.isT:Rw->Bool
 |.take ..=>true
 |_=>false
noncomputable def Rw.isS:Rw->Bool
 |.send ..=>true
 |_=>false
noncomputable def Rw.lt:Rw->Int×Int
 |.take _ _ a b=>(a,b)
 |_=>(0,0)
theorem gQ:aq r.d (.int 0) M Q=Q (.str r.s) M:=by cases r<;>simp[Rw.d,Rw.s]
theorem mI:decide (r.s=PySem.Str.ofString "take")=r.isT:=by cases r<;>rfl
theorem um:decide (r.s=PySem.Str.ofString "send")=r.isS:=by cases r<;>rfl
theorem vU(h:r.isT=true):aq r.d (.int 3) M Q=Q (mD r.lt) M:=by
 cases r with
 |take h v a b=>simp[aq,az,ai,Rw.d,atI,ixN,mD,Rw.lt]
 |_=>cases h
noncomputable def d5(rs:List Rw)(h:Int):Option (Int×Nat):=((nms rs).filter λq=>decide (q.1=h)).getLast?
theorem fY{h:Int}:d5 rs h=if (ofH rs h).length=0 then none else some (h,(ofH rs h).length-1):=by
 unfold d5
 induction rs using iz with
 |h0=>simp[nms,nmF,ofH]
 |hs l x ih=>
  rw[f6,List.filter_append,br];by_cases e:x.h=h
  ·subst e;simp
  ·rw[IY e,List.filter_cons_of_neg (by simpa using e),List.filter_nil,JV];exact ih
noncomputable abbrev owL(rs:List Rw)(h:Int):D:=.g_ (((nms rs).filter λq=>decide (q.1=h)).map nD)
theorem yK(hl:rs.length<400)(hM:Fm M):gv W (.name 0) (.yes (.cmp .Eq (.ix V0 I0) V1)) V0 (λ_=>True) Q ((nms rs).map nD) [none,some (.int h)] M=Q (owL rs h) M:=by
 exact aT nD _ _ hM (by rw[cG];omega) (λq _ M' hE Q'=>by simp[nD]) λq _ _ M' hE Q'=>by simp
theorem Ec(e:d5 rs h=some q):aq (owL rs h) (.int (-1)) M Q=Q (nD q) M:=by
 unfold d5 at e;obtain⟨l,e⟩:=List.getLast?_eq_some_iff.mp e;refine cg ?_;rw[e,JW];have h1:(1:Int)<=(l.length:Int)+1:=by omega
 have h2:(-1+((l.length:Int)+1)).toNat=l.length:=by omega
 simp[atI,ixN,h1,h2]
theorem CO{i:Nat}{h:Int}{k:Nat}(e:(nms rs)[i]?=some (h,k)):k<(ofH rs h).length:=by
 have:=(lX _ _ _ (Jy e)).2.2;simp only[Nat.zero_add]at this
 rwa [u9]at this
theorem wj{h:Int}{q:Int×Nat}(e:d5 rs h=some q):∃A x Bs,Zs rs=A++x::Bs/\x.1=q/\q.1=h:=by
 have hm:=List.mem_filter.mp (List.mem_of_getLast? e);obtain⟨i,hi⟩:=List.mem_iff_getElem?.mp hm.1;obtain⟨r,e1,_,_⟩:=qL hi;obtain⟨A,B,hz⟩:=List.append_of_mem (Ga e1 hi);exact⟨A,_,B,hz,rfl,by simpa using hm.2⟩
end
section
variable {H:Nat}{wy:List Wy}{rs:List Rw}{r:Rw}{A Bs:List NR}{x:NR}{C:List Int}{q:Int×Nat}{h:Int}
def In(C:List Int)(q:Int×Nat):Prop:=0<=q.1/\(q.2:Int)<g C q.1
def Vec(H:Nat)(rs:List Rw)(q:Int×Nat)(C:List Int):Prop:=∃A x Bs,Zs rs=A++x::Bs/\x.1=q/\C=pv H A x
theorem Vec.app(v:Vec H rs q C):Vec H (rs++[r]) q C:=by
 obtain⟨A,x,Bs,h1,h2,h3⟩:=v;exact⟨A,x,Bs++[((r.h,(ofH rs r.h).length),r)],by rw[dL,h1];simp,h2,h3⟩
theorem nm_iff:q∈nms rs<->q.2<(ofH rs q.1).length:=by
 induction rs using iz with
 |h0=>simp[nms,nmF,ofH]
 |hs l x ih=>
  rw[f6,Jv,ih,Ju,br];obtain⟨a,k⟩:=q;by_cases e:x.h=a
  ·subst e;simp;omega
  ·rw[IY e];simp only[Prod.mk.injEq];exact⟨λz=>z.resolve_right λw=>e w.1.symm,.inl⟩
theorem yn:(Zs rs).map Prod.fst=nms rs:=List.map_fst_zip (Nat.le_of_eq cG)
theorem qm:(nms rs).Nodup:=by
 refine List.pairwise_iff_getElem.mpr λi j hi hj OY e=>?_
 have a1:(nms rs)[i]?=some ((nms rs)[i].1,(nms rs)[i].2):=Jt hi;have a2:(nms rs)[j]?=some ((nms rs)[i].1,(nms rs)[i].2):=by rw[e];exact Jt hj
 have:=hJ _ _ i j _ _ _ OY a1 a2;omega
theorem Vec.pi(G:Good H wy rs)(v:Vec H rs q C):∃j,PI H rs j q.1 q.2 0 C/\(nms rs)[j]?=some q:=by
 obtain⟨A,x,Bs,h1,h2,h3⟩:=v;subst h2 h3;exact⟨_,yA G h1,(lu h1).2⟩
theorem Vec.le(G:Good H wy rs)(v:Vec H rs q C)(h0:0<=h):g C h<=(ofH rs h).length:=by
 obtain⟨j,I,_⟩:=v.pi G;by_cases hH:h<H
 ·by_cases z:0<g C h
  ·obtain⟨i,k,_,e,e2⟩:=I.a1 h h0 hH z;have:=CO e;omega
  ·omega
 ·have:g C h=0:=by
   unfold g;rw[List.getD_eq_getElem?_getD,List.getElem?_eq_none (by rw[I.len];omega)];rfl
  omega
theorem rq{p:Int×Nat}:p∈nms (aZ C rs)<->p∈nms rs/\(p.2:Int)<g C p.1:=by
 rw[<-yn,C9.1,JQ];constructor
 ·rintro⟨y,hy,rfl⟩;obtain⟨hy,hk⟩:=List.mem_filter.mp hy;exact⟨(List.of_mem_zip hy).1,by simpa [kp] using hk⟩
 ·rintro⟨h1,h2⟩;rw[<-yn]at h1;obtain⟨y,hy,rfl⟩:=JQ.mp h1;exact⟨y,List.mem_filter.mpr ⟨hy,by simpa [kp] using h2⟩,rfl⟩
theorem Vec.mem(G:Good H wy rs)(v:Vec H rs q C){p:Int×Nat}:p∈nms (aZ C rs)<->In C p:=by
 rw[rq];constructor
 ·rintro⟨h1,h2⟩;obtain⟨i,hi⟩:=List.mem_iff_getElem?.mp h1;exact⟨(G.wfl.nm hi).1,h2⟩
 ·rintro⟨h1,h2⟩;have:=v.le G h1;exact⟨nm_iff.mpr (by omega),h2⟩
theorem Cn{φ:Int->Int}(hz:Zs rs=A++x::Bs)(hx:0<=x.1.1)(W:WFL H rs)(h0:∀y,0<=y->0<=φ y)(h1:(x.1.2:Int)+1<=φ x.1.1)
  (hc:∀z∈A++[x],∀hh v a b,z.2=.take hh v a b->(z.1.2:Int)<φ z.1.1->b+1<=φ a):∀y,0<=y->g (pv H A x) y<=φ y:=by
 have go:∀(L:List NR)(C:List Int),(∀z∈L,z∈A++[x])->(∀y,0<=y->g C y<=φ y)->∀y,0<=y->g (L.foldl cT C) y<=φ y:=λL=>by
  induction L with
  |nil=>exact λC _ h=>h
  |cons z L ih=>
   intro C hL h;rw[List.foldl_cons];refine ih _ (λw hw=>hL w (IX _ hw)) λy hy=>?_
   unfold cT;split
   ·rename_i hk;have RA:=hL z Jd;have Qa:z∈Zs rs:=by
     rw[hz];rcases Jv.mp RA with w|w
     ·exact JO _ w
     ·rw[Ju.mp w];simp
    obtain⟨i,e1,e2⟩:=wk Qa;have z0:=(W.nm e2).1;cases e:z.2 with
    |take hh v a b=>
     rw[e]at e1;obtain⟨i',k,r',t',_,a2,_,_⟩:=W.tk i _ _ _ _ e1;have a0:=(W.nm a2).1;have hb:=hc z RA _ _ _ _ e (Int.lt_of_lt_of_le hk (h _ z0));have Oe:=h y hy;have Ui:=h a a0;unfold upC g;rw[List.getD_eq_getElem?_getD,List.getElem?_set];split
     ·rename_i ey;have:y=a:=by omega
      subst this;split
      ·show max (g C y) (b+1)<=_;omega
      ·exact h0 y hy
     ·rw[<-List.getD_eq_getElem?_getD];exact Oe
    |_=>exact h y hy
   ·exact h y hy
 refine go _ _ (λz hz=>List.mem_reverse.mp hz) λy hy=>?_
 unfold g cR;rw[List.getD_eq_getElem?_getD,List.getElem?_set];split
 ·rename_i e;have:y=x.1.1:=by omega
  subst this;split
  ·exact h1
  ·exact h0 _ hy
 ·by_cases z:y.toNat<H
  ·simp[z];exact h0 y hy
  ·simp[z];exact h0 y hy
end
section
variable {H:Nat}{wy:List Wy}{rs:List Rw}{r:Rw}{C Cl:List Int}{q p:Int×Nat}{h:Int}
def Cls(rs:List Rw)(φ:Int->Int):Prop:=∀z∈Zs rs,∀hh v a b,z.2=.take hh v a b->(z.1.2:Int)<φ z.1.1->b+1<=φ a
theorem Vec.cl(G:Good H wy rs)(v:Vec H rs q C):Cls rs (g C):=λz hz hh w a b e hk=>by
 obtain⟨j,I,_⟩:=v.pi G;obtain⟨i,e1,e2⟩:=wk hz;rw[e]at e1;have:=I.c i _ _ _ _ _ _ (Nat.zero_le _) e1 e2 hk;omega
theorem Vec.mono{φ:Int->Int}(G:Good H wy rs)(v:Vec H rs q C)(h0:∀y,0<=y->0<=φ y)(h1:(q.2:Int)+1<=φ q.1)(hc:Cls rs φ):∀y,0<=y->g C y<=φ y:=by
 obtain⟨A,x,Bs,e1,rfl,rfl⟩:=v;refine Cn e1 (G.wfl.nm (lu e1).2).1 G.wfl h0 h1 λz hz=>hc z ?_
 rw[e1];rcases Jv.mp hz with w|w
 ·exact JO _ w
 ·rw[Ju.mp w];simp
def Hv(H:Nat)(rs:List Rw)(h:Int)(C:List Int):Prop:=(d5 rs h=none/\C=[])\/∃q,d5 rs h=some q/\Vec H rs q C
theorem e8:g [] h=0:=by simp[g]
theorem pq:¬ In [] p:=λz=>by have:=z.2;rw[e8]at this;omega
theorem Hv.own(G:Good H wy rs)(v:Hv H rs h C):g C h=(ofH rs h).length:=by
 rcases v with ⟨e,rfl⟩|⟨q,e,v⟩
 ·rw[fY]at e;split at e
  ·rename_i z;rw[z,e8];rfl
  ·cases e
 ·rw[fY]at e;split at e
  ·cases e
  ·cases e;obtain⟨j,I,_⟩:=v.pi G;have:=I.b;simp only at this;omega
theorem Vec.nn(G:Good H wy rs)(v:Vec H rs q C):0<=g C h:=by
 obtain⟨j,I,_⟩:=v.pi G;exact I.a0 h
theorem Hv.nn(G:Good H wy rs)(v:Hv H rs h C):0<=g C y:=by
 rcases v with ⟨e,rfl⟩|⟨q,e,v⟩
 ·rw[e8];exact Int.le_refl _
 ·exact v.nn G
theorem Hv.cl(G:Good H wy rs)(v:Hv H rs h C):Cls rs (g C):=by
 rcases v with ⟨e,rfl⟩|⟨q,e,v⟩
 ·intro z _ hh w a b _ hk;rw[e8]at hk;omega
 ·exact v.cl G
theorem Hv.mem(G:Good H wy rs)(v:Hv H rs h C):p∈nms (aZ C rs)<->In C p:=by
 rcases v with ⟨e,rfl⟩|⟨q,e,v⟩
 ·rw[rq];exact⟨λz=>by have:=z.2;rw[e8]at this;omega,λz=>absurd z pq⟩
 ·exact v.mem G
def Lv1(H:Nat)(rs:List Rw)(r:Rw)(Cl:List Int):Prop:=match r with
 |.take _ _ a b=>∃k:Nat,b=k/\Vec H rs (a,k) Cl
 |_=>Cl=[]
theorem Lv1.or(v:Lv1 H rs r Cl):Cl=[]\/∃q,Vec H rs q Cl:=by
 cases r with
 |take h w a b=>obtain⟨k,_,z⟩:=v;exact .inr ⟨_,z⟩
 |_=>exact .inl v
noncomputable def gA(H:Nat)(rs:List Rw)(r:Rw):List Int:=pv H (Zs rs) ((r.h,(ofH rs r.h).length),r)
theorem eB:Vec H (rs++[r]) (r.h,(ofH rs r.h).length) (gA H rs r):=⟨Zs rs,_,[],dL,rfl,rfl⟩
theorem vq:Hv H (rs++[r]) r.h (gA H rs r):=.inr ⟨_,by rw[fY,br,Jc rfl];simp,eB⟩
theorem AW(v:Hv H rs h C)(e:r.h≠h):Hv H (rs++[r]) h C:=by
 have el:d5 (rs++[r]) h=d5 rs h:=by rw[fY,fY,br,IY e]
 rcases v with ⟨e,z⟩|⟨q,e,v⟩
 ·exact .inl ⟨by rw[el];exact e,z⟩
 ·exact .inr ⟨q,by rw[el];exact e,v.app⟩
theorem Good.init(G:Good H wy (rs++[r])):Good H wy rs:=by
 have:=G.take rs.length
 rwa [List.take_left']at this
 rfl
theorem ua(G:Good H wy (rs++[r]))(v:Hv H rs r.h C)(l:Lv1 H rs r Cl):In (gA H rs r) p<->In C p\/In Cl p\/p=(r.h,(ofH rs r.h).length):=by
 have G0:=G.init;have hr:=G.wfl.hd r (by simp)
 have own:=v.own G0;have nC:=λ{y}=>v.nn G0 (y:=y)
 have nL:∀{y},0<=g Cl y:=λ{y}=>by
  rcases l.or with rfl|⟨q,z⟩
  ·rw[e8];exact Int.le_refl _
  ·exact z.nn G0
 have lL:∀{y},0<=y->g Cl y<=(ofH rs y).length:=λ{y} hy=>by
  rcases l.or with rfl|⟨q,z⟩
  ·rw[e8];omega
  ·exact z.le G0 hy
 have cL:Cls rs (g Cl):=by
  rcases l.or with rfl|⟨q,z⟩
  ·intro z _ hh w a b _ hk;rw[e8]at hk;omega
  ·exact z.cl G0
 obtain⟨j,I,_⟩:=(eB (H:=H) (rs:=rs) (r:=r)).pi G;have Ib:=I.b;have cN:=(eB (H:=H) (rs:=rs) (r:=r)).cl G;simp only at Ib;constructor
 ·rintro⟨p0,pk⟩;have le:=(eB (H:=H) (rs:=rs) (r:=r)).mono (φ:=λy=>if y=r.h then ((ofH rs r.h).length:Int)+1 else max (g C y) (g Cl y)) G (λy hy=>by
   have:=nC (y:=y);split<;>omega) (by simp) (λz hz hh w a b e hk=>by
   have up:∀{y m:Int},0<=y->m<=g C y\/m<=g Cl y->m<=if y=r.h then ((ofH rs r.h).length:Int)+1 else max (g C y) (g Cl y):=λ{y m} hy z=>by
    have:=lL hy;split
    ·rename_i e;subst e;omega
    ·omega
   have a0:0<=a:=by
    obtain⟨i,e1,_⟩:=wk hz;rw[e]at e1;obtain⟨i',k,r',t',_,a2,_,_⟩:=G.wfl.tk i _ _ _ _ e1;exact (G.wfl.nm a2).1
   rw[dL]at hz;rcases Jv.mp hz with hz|hz
   ·by_cases ez:z.1.1=r.h
    ·have:=nm_iff.mp (List.of_mem_zip hz).1;rw[ez]at this;exact up a0 (.inl (v.cl G0 z hz hh w a b e (by rw[ez,own];omega)))
    ·simp only[IY ez]at hk;have:(z.1.2:Int)<g C z.1.1\/(z.1.2:Int)<g Cl z.1.1:=by omega
     rcases this with hk|hk
     ·exact up a0 (.inl (v.cl G0 z hz hh w a b e hk))
     ·exact up a0 (.inr (cL z hz hh w a b e hk))
   ·rw[Ju.mp hz]at e;simp only at e;rw[e]at l;obtain⟨k,rfl,lv⟩:=l;obtain⟨_,J,_⟩:=lv.pi G0;have:=J.b;simp only at this;exact up a0 (.inr (by omega))) p.1 p0
  split at le
  ·rename_i e;by_cases z:p.2=(ofH rs r.h).length
   ·exact .inr (.inr (Prod.ext e z))
   ·exact .inl ⟨p0,by rw[e,own];omega⟩
  ·by_cases z:(p.2:Int)<g C p.1
   ·exact .inl ⟨p0,z⟩
   ·exact .inr (.inl ⟨p0,by omega⟩)
 ·rintro (⟨p0,pk⟩|⟨p0,pk⟩|rfl)
  ·refine⟨p0,Int.lt_of_lt_of_le pk ?_⟩;rcases v with ⟨e,rfl⟩|⟨q,e,v⟩
   ·rw[e8]at pk;omega
   ·refine (v.app (r:=r)).mono G (λy _=>I.a0 y) ?_ cN p.1 p0
    rw[fY]at e;split at e
    ·cases e
    ·cases e;simp only;omega
  ·refine⟨p0,Int.lt_of_lt_of_le pk ?_⟩;cases hr':r with
   |take hh w a b=>
    have l':=l;rw[hr']at l';obtain⟨k,rfl,lv⟩:=l';rw[<-hr'];refine (lv.app (r:=r)).mono G (λy _=>I.a0 y) ?_ cN p.1 p0
    exact cN ((r.h,(ofH rs r.h).length),r) (by rw[dL];simp) hh w a k hr' (by show ((ofH rs r.h).length:Int)<g (gA H rs r) r.h;omega)
   |_=>
    rw[hr']at l;have:Cl=[]:=l;rw[this,e8]at pk;omega
  ·exact⟨hr.1,by show ((ofH rs r.h).length:Int)<g (gA H rs r) r.h;omega⟩
end
section
variable {p:PySem.Addr}{e_:List (Int×Int)}{wy:List Wy}{rs:List Rw}{r:Rw}
noncomputable abbrev mt(b_:Nat->PySem.Addr)(e_:List (Int×Int))(wy:List Wy)(rs:List Rw):DO:=.ins 6 (b_ 6) [27071920119,243136498] [wO b_ e_ wy,rL rs]
theorem gZ(hp:M p=some (mt b_ e_ wy rs)):bT (B cls b_ d_) 27071920119 (.ref p) M Q=Q (wO b_ e_ wy) M:=by simp[bT,hp,gB]
theorem gI(hp:M p=some (mt b_ e_ wy rs)):bT (B cls b_ d_) 243136498 (.ref p) M Q=Q (rL rs) M:=by simp[bT,hp,gB]
theorem iF(hp:M p=some (mt b_ e_ wy rs))(hm:mth 6 m=some f)(h1:27071920119≠m)(h2:243136498≠m):bh (B cls b_ d_) m (.ref p) M R=R f:=by
 simp[bh,hp,hm,h1,h2,dM]
theorem zp{R:MH->Prop}(hR:R (put M p (mt b_ e_ wy []))):aa T (B cls b_ d_) (n+1) 27 [.ref p,wO b_ e_ wy] (put M p (.ins 6 (b_ 6) [] [])) (λv M2=>v=.i_/\R M2) E:=by
 simp[iN,bP];exact hR
theorem l5(hp:M p=some (mt b_ e_ wy rs))(hl:rs.length<300):aa T (B cls b_ d_) (n+6) 29 [.ref p,r.d] M Q E=aa T (B cls b_ d_) (n+5) 19 [wO b_ e_ wy,rL (rs++[r])] M (λ_ M'=>Q (rL (rs++[r])) (ar M M')) (λi M'=>E i (ar M M')):=by
 have hs:rs.length+1<=PySem.sizeLine:=by rw[PySem.sizeLine_eq];omega
 have hc:∀{Q:VK3},dn true (rL rs) (.g_ [r.d]) M Q=Q (rL (rs++[r])) M:=λ{Q}=>by simp[dn,ai,cf,hs,rL]
 simp[gw,bu,↓gZ hp,↓gI hp,↓hc,aE]
theorem Av(G:Good e_.length wy (rs++[r]))(hM:Fm M)(hp:M p=some (mt b_ e_ wy rs))(hl:rs.length<300):aa T (B cls b_ d_) (n+7) 30 [.ref p,r.d] M Q E=Q (nD (r.h,(ofH rs r.h).length)) (put M p (mt b_ e_ wy (rs++[r]))):=by
 have hw:∀{R:Nat->Prop},bh (B cls b_ d_) 67483170351428855 (.ref p) M R=R 29:=λ{R}=>iF hp (by decide) (by decide) (by decide)
 have fs:∀{y:D}{R:MH->Prop},fD (B cls b_ d_) 243136498 y R (.ref p) M=R (put M p (.ins 6 (b_ 6) [27071920119,243136498] [wO b_ e_ wy,y])):=λ{y R}=>by rw[fX hp];simp[b9,cb]
 have cn:∀{M:MH}{Q:VK3}{E:XN},Fm M->aa T (B cls b_ d_) (n+6) 14 [rL (rs++[r])] M Q E=Q (nL (rs++[r])) M:=λ{M Q E} hM=>eI (n:=n+4) (rs++[r]) (by simp;omega) hM
 have ix:∀{M:MH}{Q:VK3},aq (nL (rs++[r])) (.int (-1)) M Q=Q (nD (r.h,(ofH rs r.h).length)) M:=λ{M Q}=>by
  refine cg ?_;rw[f6,JW];have h1:(1:Int)<=(rs.length:Int)+1:=by omega
  have h2:(-1+((rs.length:Int)+1)).toNat=rs.length:=by omega
  simp[atI,ixN,cG,h1,h2]
 simp[fF,bL,↓hw];rw[l5 hp hl,n9 hM (by simp;omega) G.fine.1]
 simp only[km];simp[↓fs,↓gI (show put M p (mt b_ e_ wy (rs++[r])) p=some (mt b_ e_ wy (rs++[r])) from ah),↓cn (hM.put _ _),↓ix,c6 hp,km]
theorem rT(G:Good e_.length wy rs)(hM:Fm M)(hp:M p=some (mt b_ e_ wy rs))(hl:rs.length<300)
  (hx:flC e_.length (eL S0 (λ_=>0) rs) r=some x\/flC e_.length (eL S0 (λ_=>0) rs) r=none/\x=⟨7,none⟩/\∃h v i j:Int,r=.take h v i j/\NoL (eL S0 (λ_=>0) rs) i j h):aa T (B cls b_ d_) (n+7) 30 [.ref p,r.d] M Q E=E x M:=by
 have hw:∀{R:Nat->Prop},bh (B cls b_ d_) 67483170351428855 (.ref p) M R=R 29:=λ{R}=>iF hp (by decide) (by decide) (by decide)
 simp[fF,bL,↓hw];rw[l5 hp hl,ng hM (by omega) G.fine.1 G.fine.2.si hx,km,km]
theorem zO(hl:rs.length<400)(hM:Fm M):aa T (B cls b_ d_) (n+3) 21 [rL rs,.int h] M Q E=Q (match d5 rs h with|some q=>nD q|none=>.i_) M:=by
 have cn:∀{Q:VK3}{E:XN},aa T (B cls b_ d_) (n+2) 14 [rL rs] M Q E=Q (nL rs) M:=λ{Q E}=>eI rs hl hM
 cases e:d5 rs h with
 |none=>
  have e':=List.getLast?_eq_none_iff.mp (show ((nms rs).filter λq=>decide (q.1=h)).getLast?=none from e)
  simp[lJ,fZ,cn,ao,yK hl hM,e']
 |some q=>
  obtain⟨l,e'⟩:=List.getLast?_eq_some_iff.mp (show ((nms rs).filter λq=>decide (q.1=h)).getLast?=some q from e)
  have ln:∀{Q:VK3},rBi .len [owL rs h] M Q=Q (.int ((l.length:Int)+1)) M:=λ{Q}=>by simp[e']
  have h0:(0:Int)<(l.length:Int)+1:=by omega
  simp[lJ,fZ,cn,ao,yK hl hM,↓ln,h0,Ec e]
theorem xS:aZ [] rs=[]:=by simp[aZ,kp,g]
theorem qO(G:Good e_.length wy rs)(h1:1<=e_.length)(h6:e_.length<=6)(hl:rs.length<300)(ho:okH e_.length h=true):∃C,Hv e_.length rs h C/\∀{n:Nat}{M:MH}{Q:VK3}{E:XN}{p:PySem.Addr},Fm M->M p=some (mt b_ e_ wy rs)->aa T (B cls b_ d_) (n+7) 31 [.ref p,.int h] M Q E=Q (rL (aZ C rs)) M:=by
 have om:∀{M:MH}{R:Nat->Prop},bh (B cls b_ d_) 119080781550527859766002 (wO b_ e_ wy) M R=R 37:=λ{M R}=>o_m (by decide) (by decide) (by decide)
 have rf:∀{n:Nat}{M:MH}{Q:VK3}{E:XN},aa T (B cls b_ d_) (n+6) 37 [wO b_ e_ wy,.int h] M Q E=Q .i_ M:=λ{n M Q E}=>by rw[eZ (n:=n+3),Jc ho]
 have lo:∀{n:Nat}{M:MH}{Q:VK3}{E:XN},Fm M->aa T (B cls b_ d_) (n+6) 21 [rL rs,.int h] M Q E=Q (match d5 rs h with|some q=>nD q|none=>.i_) M:=λ{n M Q E} hM=>zO (n:=n+3) (by omega) hM
 cases e:d5 rs h with
 |none=>
  refine⟨[],.inl ⟨e,rfl⟩,λ{n M Q E p} hM hp=>?_⟩
  rw[cw];simp[aU,↓gZ hp,↓gI hp,↓om,↓rf,↓lo hM,e,aE,xS,km];exact Iff.rfl
 |some q=>
  obtain⟨A,x,Bs,hz,rfl,e1⟩:=wj e;subst e1;refine⟨pv e_.length A x,.inr ⟨_,e,A,x,Bs,hz,rfl,rfl⟩,λ{n M Q E p} hM hp=>?_⟩
  have fw:=λ{Q:VK3}=>gZ (cls:=cls) (d_:=d_) (Q:=Q) hp
  have fr:=λ{Q:VK3}=>gI (cls:=cls) (d_:=d_) (Q:=Q) hp
  have nn:(nD x.1).isN=false:=rfl;rw[cw];simp[aU,↓fw,↓fr,↓om,↓rf,↓lo hM,e,nn,↓tT G h1 h6 (by omega) hM hz,km]
theorem qf(ho:okH e_.length h=false)(hp:M p=some (mt b_ e_ wy rs)):aa T (B cls b_ d_) (n+7) 31 [.ref p,.int h] M Q E=E ⟨2,none⟩ M:=by
 have om:∀{M:MH}{R:Nat->Prop},bh (B cls b_ d_) 119080781550527859766002 (wO b_ e_ wy) M R=R 37:=λ{M R}=>o_m (by decide) (by decide) (by decide)
 have rf:∀{M:MH}{Q:VK3}{E:XN},aa T (B cls b_ d_) (n+6) 37 [wO b_ e_ wy,.int h] M Q E=E ⟨2,none⟩ M:=λ{M Q E}=>by rw[eZ (n:=n+3),ho];simp
 simp[cw,aU,↓gZ hp,↓om,↓rf,km]
end
section
theorem dq(h:M p=some (.lst ds)):tM W e De E Z (.ref p) M=wpE W e Z M (lj p De Z) E:=by
 unfold tM;simp only[h];rfl
theorem ck{De:Ends3}{ds:List D}(h:M p=some (.lst ds)):lj p De Z y M=(ds.length<PySem.sizeLine/\De.nx Z (put M p (.lst (ds++[y])))):=by
 unfold lj;simp only[h]
noncomputable def qD(x:Nat×Nat):D:=.tup [.int x.1,.int x.2]
structure PS (H i j:Nat) (ps:List (Nat×Nat)):Prop where
 nd:ps.Nodup
 len:ps.length<=i*6+j
 at_:∀p∈ps,p.1<H/\p.2<H/\p.1≠p.2/\(p.1<i\/p.1=i/\p.2<j)
theorem DV(hH:H<=6)(hi:i<H){De:Ends3}:∀(k j:Nat) (ps:List (Nat×Nat)) (z:Int)(x5:Option D),j+k=H->PS H i j ps->0<=z->z<10 ^ 12->
  (∀ps z x5,PS H (i+1) 0 ps->0<=z->z<10 ^ 12->De.nx [some (.int H),y1,some (.ref a),some (.int z),some (.int i),x5] (put M a (.lst (ps.map qD))))->
  bC W (.name 5) aW ES (λ_=>True) De (rng j k) [some (.int H),y1,some (.ref a),some (.int z),some (.int i),x5] (put M a (.lst (ps.map qD)))
 |0,j,ps,z,x5,hj,P,z0,z1,hR=>by
  rw[show rng (j:Int) 0=[] from rfl,bW];refine⟨trivial,hR ps z x5 ⟨P.nd,by have:=P.len;omega,λp hp=>?_⟩ z0 z1⟩
  have:=P.at_ p hp;omega
 |k+1,j,ps,z,x5,hj,P,z0,z1,hR=>by
  have c1:jA z z=True:=yG (by omega) (by omega) (by omega) (by omega)
  have c2:jA 48271 z=True:=yG (by decide) (by decide) (by omega) (by omega)
  have hm:0<=(z*z+48271*z+(j:Int)) % 2147483647/\(z*z+48271*z+(j:Int)) % 2147483647<2147483647:=⟨J5 _ (by decide),J1 _ (by decide)⟩
  generalize hx:(z*z+48271*z+(j:Int)) % 2147483647=x at hm;have ih:=λps x5 P=>DV (W:=W) (a:=a) (De:=De) (ES:=ES) (y1:=y1) hH hi k (j+1) ps x x5 (by omega) P hm.1 (by omega) hR
  rw[jT,aG];refine⟨trivial,?_⟩;have e1:(j:Int)+1=((j+1:Nat):Int):=by omega
  rw[e1];generalize bC W (.name 5) aW ES (λ_=>True) De (rng ((j+1:Nat):Int) k)=K at ih ⊢
  have g1:put M a (.lst (ps.map qD)) a=some (.lst (ps.map qD)):=ah;have hz:ps.length<PySem.sizeLine:=by have:=P.len;rw[PySem.sizeLine_eq];omega
  have old:PS H i (j+1) ps:=⟨P.nd,by have:=P.len;omega,λp hp=>by have:=P.at_ p hp;omega⟩
  by_cases e:i=j
  ·have e2:(i:Int)=j:=by omega
   simp[wpG,aW,c1,c2,hx,bq,e2];rw[<-e2];exact ih _ _ old
  ·have e2:¬ (i:Int)=j:=by omega
   by_cases hp:0<x % 3
   ·simp[wpG,aW,c1,c2,hx,bq,e2,hp,dq g1,ck g1,hz,cM,aE];have:=ih (ps++[(i,j)]) (some (.int j)) ⟨by
     rw[List.nodup_append];exact⟨P.nd,by simp,λp hp q hq z=>by
      rw[Ju.mp hq]at z;have:=P.at_ p hp;rw[z]at this;simp only at this;omega⟩,by have:=P.len;simp;omega,λp hp=>by
     rcases Jv.mp hp with hp|hp
     ·have:=P.at_ p hp;exact⟨this.1,this.2.1,this.2.2.1,by omega⟩
     ·rw[Ju.mp hp];exact⟨hi,by omega,e,.inr ⟨rfl,Nat.lt_succ_self _⟩⟩⟩
    simpa [qD] using this
   ·simp[wpG,aW,c1,c2,hx,bq,e2,hp];exact ih _ _ old
theorem yy(hH:H<=6){De:Ends3}:∀(k i:Nat) (ps:List (Nat×Nat)) (z:Int)(x4 x5:Option D),i+k=H->PS H i 0 ps->0<=z->z<10 ^ 12->
  (∀ps x3 x4 x5,PS H H 0 ps->De.nx [some (.int H),y1,some (.ref a),x3,x4,x5] (put M a (.lst (ps.map qD))))->
  bC W (.name 4) bY ES (λ_=>True) De (rng i k) [some (.int H),y1,some (.ref a),some (.int z),x4,x5] (put M a (.lst (ps.map qD)))
 |0,i,ps,z,x4,x5,hi,P,z0,z1,hR=>by
  obtain rfl:i=H:=by omega
  rw[show rng (i:Int) 0=[] from rfl,bW];exact⟨trivial,hR ps _ x4 x5 P⟩
 |k+1,i,ps,z,x4,x5,hi,P,z0,z1,hR=>by
  have ih:=λps z x4 x5 P z0 z1=>yy (W:=W) (a:=a) (De:=De) (ES:=ES) (y1:=y1) hH k (i+1) ps z x4 x5 (by omega) P z0 z1 hR
  rw[jT,aG];refine⟨trivial,?_⟩;have e1:(i:Int)+1=((i+1:Nat):Int):=by omega
  rw[e1];generalize bC W (.name 4) bY ES (λ_=>True) De (rng ((i+1:Nat):Int) k)=K at ih ⊢
  have MJ:(H:Int)<4611686018427387904:=by omega
  simp[wpG,bY,MJ];exact DV hH (by omega) H 0 ps z x5 (by omega) P z0 z1 λps z x5 P z0 z1=>ih ps z _ x5 P z0 z1
theorem Bt(hH:H<=6)(hQ:∀ps:List (Nat×Nat),PS H H 0 ps->Q (.g_ (ps.map qD)) M):aa T (B cls b_ d_) (n+1) 44 [.int H,.int c] M Q E:=by
 rw[qr];have MJ:(H:Int)<4611686018427387904:=by omega
 simp[gN,MJ,bq];intro a ha;refine yy hH H 0 [] _ none none (by omega) ⟨List.nodup_nil,Nat.zero_le _,λp hp=>by cases hp⟩ (by omega) (by omega) λps x3 x4 x5 P=>?_
 simp[be,ah,fU ha];exact hQ ps P
theorem o9{l:List Int}:dh op (.g_ (l.map D.int)) (.g_ []) M Q=Q (.bl (op ^^ l.isEmpty)) M:=by
 cases l<;>simp[dh,rs,ai,plN,eqD,bN]
theorem FP{l:List (Int×Int)}:dh op (.g_ (l.map mD)) (.g_ []) M Q=Q (.bl (op ^^ l.isEmpty)) M:=by
 cases l<;>simp[dh,rs,ai,plN,eqD,bN,mD]
theorem uR{l:List α}(h:l≠[])(m:Int):∃(j:Nat) (x:α),m % (l.length:Int)=j/\l[j]?=some x/\x∈l/\0<l.length:=by
 have h0:0<l.length:=List.length_pos_iff.mpr h;have h1:=J5 m (show (l.length:Int)≠0 by omega)
 have h2:=J1 m (show (0:Int)<l.length by omega)
 have h3:(m % (l.length:Int)).toNat<l.length:=by omega
 exact⟨(m % (l.length:Int)).toNat,l[(m % (l.length:Int)).toNat],by omega,Jt h3,J3 h3,h0⟩
structure RowOk (h r:Int)(K2:List Int) (Kq:List (Int×Int)) (x:Rw):Prop where
 h:x.h=h
 r:x.r=r
 sg:∀h v e l,x=.r_ h v e l->e<=l
 sn:∀h v t,x=.send h v t->t∈K2
 tk:∀h v a b,x=.take h v a b->(a,b)∈Kq
theorem Ct(h mm r c:Int)(K2:List Int)(Kq:List (Int×Int)):∃x:Rw,RowOk h r K2 Kq x/\∀{n:Nat}{M:MH}{Q:VK3}{E:XN},aa T (B cls b_ d_) (n+1) 45 [.tup [.int h,.int mm],.int r,.g_ (K2.map D.int),.g_ (Kq.map mD),.int c] M Q E=Q x.d M:=by
 have e1:∀{M:MH}{Q:VK3},au .Eq (.g_ (K2.map D.int)) (.g_ []) M Q=Q (.bl (K2.isEmpty)) M:=λ{M Q}=>by simp only[au];rw[o9];simp
 have e2:∀{M:MH}{Q:VK3},au .NotEq (.g_ (K2.map D.int)) (.g_ []) M Q=Q (.bl (!K2.isEmpty)) M:=λ{M Q}=>by simp only[au];rw[o9];simp
 have e3:∀{M:MH}{Q:VK3},au .NotEq (.g_ (Kq.map mD)) (.g_ []) M Q=Q (.bl (!Kq.isEmpty)) M:=λ{M Q}=>by simp only[au];rw[FP];simp
 have lk:RowOk h r K2 Kq (.look h r):=⟨rfl,rfl,(λ_ _ _ _ e=>nomatch e),(λ_ _ _ e=>nomatch e),λ_ _ _ _ e=>nomatch e⟩
 obtain⟨kd,hk⟩:∃kd,c / 6 % 7=kd:=⟨_,rfl⟩;obtain⟨bA,tA⟩:∃bA:Bool,∀{W:WC}{x y z u v:Option D}{M:MH}{R:Bool->MH->Prop}{E:XN},wpT W (.or (.cmp .Lt V5 I2) (.and (.cmp .Eq V5 I2) (.cmp .Eq V2 (.lst true .nil)))) [x,y,some (.g_ (K2.map D.int)),z,u,some (.int kd),v] M R E=R bA M:=by
  by_cases k1:kd<2
  ·exact⟨true,by intros;simp[k1]⟩
  ·by_cases k2:kd=2
   ·subst k2;exact⟨K2.isEmpty,by intros;simp[aE,↓e1]⟩
   ·exact⟨false,by intros;simp[k1,k2]⟩
 obtain⟨bB,nB,tB⟩:∃bB:Bool,(bB=true->Kq≠[])/\∀{W:WC}{x y z u v:Option D}{M:MH}{R:Bool->MH->Prop}{E:XN},wpT W (.and (.cmp .Gt V5 I3) (.cmp .NotEq V3 (.lst true .nil))) [x,y,z,some (.g_ (Kq.map mD)),u,some (.int kd),v] M R E=R bB M:=by
  by_cases k1:3<kd
  ·exact⟨!Kq.isEmpty,by simp,by intros;simp[k1,aE,↓e3]⟩
  ·exact⟨false,by simp,by intros;simp[k1]⟩
 cases bA with
 |true=>
  refine⟨_,lk,?_⟩;intro n M Q E;simp[-qW,-fM,fS,cQ,bq,hk,↓tA,aE,Rw.d]
 |false=>
  cases bB with
  |true=>
   obtain⟨j,t,a1,a2,a3,a4⟩:=uR (nB rfl) (c / 42);refine⟨.take h r t.1 t.2,⟨rfl,rfl,(λ_ _ _ _ e=>nomatch e),(λ_ _ _ e=>nomatch e),λ_ _ _ _ e=>by cases e;exact a3⟩,?_⟩
   intro n M Q E;have QA:atI (Kq.map mD) (j:Int)=some (mD t):=cK (by simp[a2])
   simp[-qW,-fM,fS,cQ,bq,hk,↓tA,↓tB,a1,cg QA,a4,aE,Rw.d,mD]
  |false=>
   by_cases ht:K2=[]
   ·have MU:∀{M:MH}{Q:VK3},au .NotEq (.g_ (K2.map D.int)) (.g_ []) M Q=Q (.bl false) M:=λ{M Q}=>by rw[e2,ht];rfl
    refine⟨.r_ h r (c / 42 % 10 ^ 30-500) (c / 42 % 10 ^ 30-500+c / 5 % 3),⟨rfl,rfl,(λ_ _ _ _ e=>by cases e;omega),(λ_ _ _ e=>nomatch e),λ_ _ _ _ e=>nomatch e⟩,?_⟩
    intro n M Q E;simp[-qW,-fM,fS,cQ,bq,vQ,hk,↓tA,↓tB,↓MU,aE,Rw.d]
   ·obtain⟨j,t,a1,a2,a3,a4⟩:=uR ht (c / 42);refine⟨.send h r t,⟨rfl,rfl,(λ_ _ _ _ e=>nomatch e),(λ_ _ _ e=>by cases e;exact a3),λ_ _ _ _ e=>nomatch e⟩,?_⟩
    intro n M Q E;have QA:atI (K2.map D.int) (j:Int)=some (.int t):=cK (by simp[a2])
    simp[-qW,-fM,fS,cQ,bq,hk,↓tA,↓tB,↓e2,ht,a1,cg QA,a4,aE,Rw.d]
end
section
variable {cls b_ d_:Nat->PySem.Addr}{M:MH}{Q:VK3}{E:XN}{n:Nat}
noncomputable abbrev Lt:=(Int×Int)×Int
noncomputable def lD(p:Lt):D:=.tup [mD p.1,.int p.2]
theorem DT(P:Int->Prop)(h0:0<=i)(h3:i<4)(ha:P a)(hb:P b)(hc:P c)(hd:P d):∃x:Int,P x/\∀{M:MH}{Q:VK3},aq (.g_ [.int a,.int b,.int c,.int d]) (.int i) M Q=Q (.int x) M:=by
 have:i=0\/i=1\/i=2\/i=3:=by omega
 rcases this with rfl|rfl|rfl|rfl
 ·exact⟨a,ha,by intro M Q;simp⟩
 ·exact⟨b,hb,by intro M Q;simp⟩
 ·exact⟨c,hc,by intro M Q;simp⟩
 ·exact⟨d,hd,by intro M Q;simp⟩
structure LS (M:MH)(H:Nat)(a b d a4:PySem.Addr)(rd mn:List Int)(ls:List Lt)(rs:List Rw)(M':MH):Prop where
 h1:H<=rd.length
 h2:mn.length=H
 ia:M' a=some (.lst (rd.map D.int))
 ib:M' b=some (.lst (mn.map D.int))
 ic:M' a4=some (.lst (ls.map lD))
 id:M' d=some (.lst (rs.map Rw.d))
 ab:a≠b
 ac:a≠a4
 ad:a≠d
 bc:b≠a4
 bd:b≠d
 cd:a4≠d
 old:∀x o,M x=some o->M' x=some o
 fa:M a=none
 fb:M b=none
 fc:M a4=none
 fd:M d=none
 fm:Fm M'
variable {H:Nat}{wy:List Wy}{a b d a4:PySem.Addr}{rd mn:List Int}{ls:List Lt}{rs:List Rw}{M':MH}
theorem cI{p:PySem.Addr}{o:DO}(h:∀x u,M x=some u->M' x=some u)(hp:M p=none):∀x u,M x=some u->put M' p o x=some u:=λx u e=>by
 rw[af (λz=>by rw[z,hp]at e;cases e)];exact h x u e
theorem LS.sa(I:LS M H a b d a4 rd mn ls rs M'){rd':List Int}(h:H<=rd'.length):LS M H a b d a4 rd' mn ls rs (put M' a (.lst (rd'.map D.int))):=
 ⟨h,I.h2,ah,by rw[af (Ja I.ab)];exact I.ib,by rw[af (Ja I.ac)];exact I.ic,by rw[af (Ja I.ad)];exact I.id,I.ab,I.ac,I.ad,I.bc,I.bd,I.cd,cI I.old I.fa,I.fa,I.fb,I.fc,I.fd,I.fm.put _ _⟩
theorem LS.sb(I:LS M H a b d a4 rd mn ls rs M'){mn':List Int}(h:mn'.length=H):LS M H a b d a4 rd mn' ls rs (put M' b (.lst (mn'.map D.int))):=
 ⟨I.h1,h,by rw[af I.ab];exact I.ia,ah,by rw[af (Ja I.bc)];exact I.ic,by rw[af (Ja I.bd)];exact I.id,I.ab,I.ac,I.ad,I.bc,I.bd,I.cd,cI I.old I.fb,I.fa,I.fb,I.fc,I.fd,I.fm.put _ _⟩
theorem LS.sc(I:LS M H a b d a4 rd mn ls rs M'){ls':List Lt}:LS M H a b d a4 rd mn ls' rs (put M' a4 (.lst (ls'.map lD))):=
 ⟨I.h1,I.h2,by rw[af I.ac];exact I.ia,by rw[af I.bc];exact I.ib,ah,by rw[af (Ja I.cd)];exact I.id,I.ab,I.ac,I.ad,I.bc,I.bd,I.cd,cI I.old I.fc,I.fa,I.fb,I.fc,I.fd,I.fm.put _ _⟩
theorem LS.sn(I:LS M H a b d a4 rd mn ls rs M'){ls':List Lt}{p:PySem.Addr}(hp:M' p=none):LS M H a b d p rd mn ls' rs (put M' p (.lst (ls'.map lD))):=by
 have n1:a≠p:=λz=>by have:=I.ia;rw[z,hp]at this;cases this
 have n2:b≠p:=λz=>by have:=I.ib;rw[z,hp]at this;cases this
 have n3:d≠p:=λz=>by have:=I.id;rw[z,hp]at this;cases this
 have fp:=ya I.old hp;exact⟨I.h1,I.h2,by rw[af n1];exact I.ia,by rw[af n2];exact I.ib,ah,by rw[af n3];exact I.id,I.ab,n1,I.ad,n2,I.bd,Ja n3,cI I.old fp,I.fa,I.fb,fp,I.fd,I.fm.put _ _⟩
theorem LS.sd(I:LS M H a b d a4 rd mn ls rs M'){x:Rw}:LS M H a b d a4 rd mn ls (rs++[x]) (put M' d (.lst ((rs++[x]).map Rw.d))):=
 ⟨I.h1,I.h2,by rw[af I.ad];exact I.ia,by rw[af I.bd];exact I.ib,by rw[af I.cd];exact I.ic,ah,I.ab,I.ac,I.ad,I.bc,I.bd,I.cd,cI I.old I.fd,I.fa,I.fb,I.fc,I.fd,I.fm.put _ _⟩
structure LP (H:Nat)(wy:List Wy)(rs:List Rw)(rd mn:List Int)(ls:List Lt):Prop where
 G:Good H wy rs
 up:∀k:Nat,rd.getD k 0<=1000+rs.length*10 ^ 30
 mn:∀k:Nat,k<H->mn.getD k 0=((ofH rs k).length:Int)
 rd:∀k:Nat,k<H->∀x,(ofH rs k).getLast?=some x->x.r<=rd.getD k 0
 ls:∀p∈ls,tkn rs p.1.1 p.1.2=false/\∃v,aF rs p.1.1 p.1.2=some (.send p.1.1 v p.2)
theorem jm{l:List Int}(h:k<l.length):(l.set k v).getD j 0=if j=k then v else l.getD j 0:=by
 rw[List.getD_eq_getElem?_getD,List.getElem?_set];by_cases e:k=j
 ·subst e;simp[h]
 ·rw[IY e,IY (Ja e),List.getD_eq_getElem?_getD]
theorem LP.gd{k:Nat}{x:Rw}{g:Int}{K2:List Int}{Kq:List (Int×Int)}(P:LP H wy rs rd mn ls)(hl:rs.length<400)(hk:k<H)(hg:0<=g/\g<10 ^ 30)(R:RowOk (k:Int) (rd.getD k 0+g) K2 Kq x)(ht:∀t∈K2,[(k:Int),t]∈wy.map pr)(hm:∀p∈Kq,(p,(k:Int))∈ls):Gd H wy rs x:=by
 have up:=P.up k;refine⟨by rw[R.h];omega,λy hy=>?_,by rw[R.r];omega,R.sg,λh v t e=>?_,λh v a b e=>?_⟩
 ·rw[R.h]at hy;have:=P.rd k hk y hy;rw[R.r];omega
 ·have e1:h=k:=by have:=R.h;rw[e]at this;exact this
  rw[e1];exact ht t (R.sn h v t e)
 ·have e1:h=k:=by have:=R.h;rw[e]at this;exact this
  obtain⟨t1,v',t2⟩:=P.ls _ (hm _ (R.tk h v a b e));rw[e1];exact⟨t1,v',t2⟩
theorem LP.app{k:Nat}{x:Rw}{g:Int}{ls':List Lt}(P:LP H wy rs rd mn ls)(h1:H<=rd.length)(h2:mn.length=H)(hk:k<H)(hx:x.h=k)(hr:x.r=rd.getD k 0+g)(hg:0<=g/\g<10 ^ 30)(d:Gd H wy rs x)(Tw:∀p∈ls',tkn (rs++[x]) p.1.1 p.1.2=false/\∃v,aF (rs++[x]) p.1.1 p.1.2=some (.send p.1.1 v p.2)):LP H wy (rs++[x]) (rd.set k (rd.getD k 0+g)) (mn.set k (mn.getD k 0+1)) ls':=by
 refine⟨.snoc P.G d,λj=>?_,λj hj=>?_,λj hj y hy=>?_,Tw⟩
 ·rw[jm (by omega),JG,List.length_singleton]
  have:=P.up j;have:=P.up k;split<;>omega
 ·rw[jm (by omega),br,hx]
  have:=P.mn j hj;by_cases e:j=k
  ·subst e;rw[Jc rfl,Jc rfl,this];simp
  ·rw[IY e,IY (by omega)];exact this
 ·rw[jm (by omega)]
  rw[br,hx]at hy;by_cases e:j=k
  ·subst e;rw[Jc rfl]at hy ⊢;simp at hy;rw[<-hy,hr];exact Int.le_refl _
  ·rw[IY (by omega)]at hy
   rw[IY e];exact P.rd j hj y hy
theorem LP.wait{x:Rw}(P:LP H wy rs rd mn ls){p:Lt}(hp:p∈ls)(hx:x.tk p.1.1 p.1.2=false):tkn (rs++[x]) p.1.1 p.1.2=false/\∃v,aF (rs++[x]) p.1.1 p.1.2=some (.send p.1.1 v p.2):=by
 obtain⟨t1,v,t2⟩:=P.ls p hp;refine⟨by rw[eU,t1,hx];rfl,v,?_⟩
 rw[cZ];split
 ·rename_i e;rw[e.2,fR]at t2;cases t2
 ·exact t2
end
section
variable {cls b_ d_:Nat->PySem.Addr}{M:MH}{Q:VK3}{E:XN}{n:Nat}{H:Nat}{wy:List Wy}{a b d a4:PySem.Addr}{rd mn:List Int}{ls:List Lt}{rs:List Rw}{M':MH}
noncomputable def xq(ps:List (Nat×Nat))(k:Nat):List Int:=(ps.filter λp=>decide ((p.1:Int)=(k:Int))).map λp=>((p.2:Nat):Int)
noncomputable def rF(ls:List Lt)(k:Nat):List (Int×Int):=(ls.filter λp=>decide (p.2=(k:Int))).map Prod.fst
theorem DG{W:WC}{ps:List (Nat×Nat)}{k:Nat}(hM:Fm M)(hl:ps.length<=36):gv W (.tup [0,1]) (.yes (.cmp .Eq V0 V2)) V1 (λ_=>True) Q (ps.map qD) [none,none,some (.int k)] M=Q (.g_ ((xq ps k).map D.int)) M:=by
 rw[dS qD (λZ=>∃a b,Z=[a,b,some (.int k)]) (λp=>[some (.int p.1),some (.int p.2),some (.int k)]) (λp=>decide ((p.1:Int)=(k:Int))) (λp=>.int p.2) ⟨_,_,rfl⟩ hM (by omega) (λp _=>⟨⟨_,_,rfl⟩,by rintro Z ⟨a,b,rfl⟩ M k;simp[qD]⟩) (λp _ M' hE Q=>by simp) (λp _ _ M' hE Q=>by simp),xq,JM]
 rfl
theorem zb{W:WC}{k:Nat}(hM:Fm M)(h4:M a4=some (.lst (ls.map lD)))(hl:ls.length<400):gv W (.tup [0,1]) (.yes (.cmp .Eq V1 V2)) V0 (λM=>M a4=some (.lst (ls.map lD))) Q (ls.map lD) [none,none,some (.int k)] M=Q (.g_ ((rF ls k).map mD)) M:=by
 rw[dS lD (λZ=>∃a b,Z=[a,b,some (.int k)]) (λp=>[some (mD p.1),some (.int p.2),some (.int k)]) (λp=>decide (p.2=(k:Int))) (λp=>mD p.1) ⟨_,_,rfl⟩ hM (by omega) (λp _=>⟨⟨_,_,rfl⟩,by rintro Z ⟨a,b,rfl⟩ M k;simp[lD]⟩) (λp _ M' hE Q=>by simp) (λp _ _ M' hE Q=>by simp) (λM' hE=>hE.2 _ _ h4),rF,JM]
 rfl
noncomputable def zG:ISs:=.cons (.v_ V4 V8 (.bin .Add (.ix V4 V8) I1)) (.cons (.app V6 V12) .nil)
noncomputable def CJ:ISs:=.cons (.ifs (.cmp .Eq (.ix V12 I0) (.con (.str "send"))) (S1 (.app V5 (.tup (Ar2 V9 (.ix V12 I3))))) .nil) (.cons (.ifs (.cmp .Eq (.ix V12 I0) (.con (.str "take"))) (S1 (.set 5 (.comp false ["_law_pair","_law_row_here"] [none,some 12] (.name 0) (.seq V5) (.yes (.cmp .NotEq (.ix V0 I0) (.ix V1 I3))) V0))) .nil) zG)
theorem Cu:aQ=.cons (.set 8 (.bin .Mod V7 V0)) (.cons (.v_ V3 V8 (.bin .Add (.ix V3 V8) (.ix (.lst true (Ar4 I0 I1 (.bin .Mod (.bin .FloorDiv V7 (.con (.int 42))) (.con (.int 50))) (.bin .Mod (.bin .FloorDiv V7 (.con (.int 42))) (.bin .Pow (.con (.int 10)) (.con (.int 30)))))) (.bin .Mod (.bin .FloorDiv V7 I7) I4)))) (.cons (.set 9 (.tup (Ar2 V8 (.ix V4 V8)))) (.cons (.set 10 (.comp true ["_law_one","_law_other","_law_hand"] [none,none,some 8] (.tup [0,1]) (.seq V1) (.yes (.cmp .Eq V0 V2)) V1)) (.cons (.set 11 (.comp true ["_law_name","_law_to","_law_hand"] [none,none,some 8] (.tup [0,1]) (.seq V5) (.yes (.cmp .Eq V1 V2)) V0)) (.cons (.set 12 (.call 45 (Ar5 V9 (.ix V3 V8) V10 V11 V7))) CJ))))):=rfl
def Tx(H:Nat)(ps:List (Nat×Nat))(wy:List Wy):Prop:=∀p∈ps,[(p.1:Int),(p.2:Int)]∈wy.map pr
theorem nQ{mm:Nat}(Tz:mm<400)(hH:0<H)(h6:H<10){ps:List (Nat×Nat)}(Mr:ps.length<=36)(hT:Tx H ps wy){De:Ends3}{ES:St3->XN}{cl:Option D}(hR:∀rd mn ls (rs:List Rw) a4 M' x7 x8 x9 x10 x11 x12,rs.length=mm->LS M H a b d a4 rd mn ls rs M'->LP H wy rs rd mn ls->De.nx [some (.int H),some (.g_ (ps.map qD)),cl,some (.ref a),some (.ref b),some (.ref a4),some (.ref d),x7,x8,x9,x10,x11,x12] M'):∀(cs:List Int) {rd mn ls a4 M'} {rs:List Rw} (x7 x8 x9 x10 x11 x12:Option D),rs.length+cs.length=mm->ls.length<=rs.length->LS M H a b d a4 rd mn ls rs M'->LP H wy rs rd mn ls->
  bC ⟨(B cls b_ d_),aa T (B cls b_ d_) (n+2)⟩ (.name 7) aQ ES (λ_=>True) De (cs.map D.int) [some (.int H),some (.g_ (ps.map qD)),cl,some (.ref a),some (.ref b),some (.ref a4),some (.ref d),x7,x8,x9,x10,x11,x12] M'
 |[],rd,mn,ls,a4,M',rs,x7,x8,x9,x10,x11,x12,hl,hz,I,P=>by
  rw[List.map_nil,bW];exact⟨trivial,hR _ _ _ _ _ _ _ _ _ _ _ _ (by simpa using hl) I P⟩
 |c::cs,rd,mn,ls,a4,M',rs,x7,x8,x9,x10,x11,x12,hl,hz,I,P=>by
  simp only[Jr]at hl;obtain⟨k,hk⟩:∃k:Nat,c % (H:Int)=k:=⟨(c % (H:Int)).toNat,by have:=J5 c (show (H:Int)≠0 by omega);omega⟩
  have QC:k<H:=by have:=J1 c (show (0:Int)<H by omega);omega
  have O_:k<rd.length:=by have:=I.h1;omega
  have RB:k<mn.length:=by rw[I.h2];omega
  obtain⟨g,RC,hg⟩:=DT (λg=>0<=g/\g<10 ^ 30) (a:=0) (b:=1) (c:=c / 42 % 50) (d:=c / 42 % 1000000000000000000000000000000) (i:=c / 7 % 4) (by omega) (by omega) (by omega) (by omega) (by omega) (by omega)
  have hi:ixN (rd.map D.int).length (k:Int)=some k:=iw (by simpa using O_)
  have TB:ixN (mn.map D.int).length (k:Int)=some k:=iw (by simpa using RB)
  have I1:=I.sa (rd':=rd.set k (rd.getD k 0+g)) (by simpa using I.h1)
  have e1:(rd.map D.int).set k (.int (rd.getD k 0+g))=(rd.set k (rd.getD k 0+g)).map D.int:=by simp[List.map_set]
  have em:(mn.map D.int).set k (.int (mn.getD k 0+1))=(mn.set k (mn.getD k 0+1)).map D.int:=by simp[List.map_set]
  have RD:=fh (C:=rd.set k (rd.getD k 0+g)) (k:=k) (by simpa using O_)
  rw[jm O_,Jc rfl]at RD;have cd:gq c (H:Int)=True:=bq (by omega) (by omega)
  generalize LW:put M' a (.lst ((rd.set k (rd.getD k 0+g)).map D.int))=M1 at I1;obtain⟨row,R,hr⟩:=Ct (cls:=cls) (b_:=b_) (d_:=d_) (k:Int) (mn.getD k 0) (rd.getD k 0+g) c (xq ps k) (rF ls k);have gd:Gd H wy rs row:=P.gd (by omega) QC RC R (λt ht=>by
   obtain⟨p,hp,rfl⟩:=JQ.mp ht;obtain⟨hp,e⟩:=List.mem_filter.mp hp;have:=hT p hp
   rwa [show (p.1:Int)=k by simpa using e]at this) (λp hp=>by
   obtain⟨q,hq,rfl⟩:=JQ.mp hp;obtain⟨hq,e⟩:=List.mem_filter.mp hq;rw[show q=(q.1,(k:Int)) by rw[<-show q.2=(k:Int) by simpa using e]]at hq
   exact hq)
  have q1:∀{Q:VK3},aq (.ref a) (.int (k:Int)) M' Q=Q (.int (rd.getD k 0)) M':=λ{Q}=>by rw[i0 I.ia,cg (fh O_)]
  have q2:∀{R:MH->Prop},aY (.ref a) (.int (k:Int)) (.int (rd.getD k 0+g)) M' R=R M1:=λ{R}=>by rw[d8 I.ia hi,e1,LW]
  have q3:∀{Q:VK3},aq (.ref a) (.int (k:Int)) M1 Q=Q (.int (rd.getD k 0+g)) M1:=λ{Q}=>by rw[i0 I1.ia,cg RD]
  have w1:∀{M2:MH}{Q:VK3},M2 b=some (.lst (mn.map D.int))->aq (.ref b) (.int (k:Int)) M2 Q=Q (.int (mn.getD k 0)) M2:=λ{M2 Q} h=>by rw[i0 h,cg (fh RB)]
  have hsz:rs.length<PySem.sizeLine:=by rw[PySem.sizeLine_eq];omega
  have TC:ls.length<PySem.sizeLine:=by rw[PySem.sizeLine_eq];omega
  rw[Ji,aG];refine⟨trivial,?_⟩;have fin:∀{ls':List Lt}{p:PySem.Addr}{M2:MH},ls'.length<=rs.length+1->(∀q∈ls',tkn (rs++[row]) q.1.1 q.1.2=false/\∃v,aF (rs++[row]) q.1.1 q.1.2=some (.send q.1.1 v q.2))->LS M H a b d p (rd.set k (rd.getD k 0+g)) mn ls' rs M2->
    aP ⟨(B cls b_ d_),aa T (B cls b_ d_) (n+2)⟩ zG {De with nx:=bC ⟨(B cls b_ d_),aa T (B cls b_ d_) (n+2)⟩ (.name 7) aQ ES (λ_=>True) De (cs.map D.int),bk:=De.nx,ct:=bC ⟨(B cls b_ d_),aa T (B cls b_ d_) (n+2)⟩ (.name 7) aQ ES (λ_=>True) De (cs.map D.int)} ES
     [some (.int H),some (.g_ (ps.map qD)),cl,some (.ref a),some (.ref b),some (.ref p),some (.ref d),some (.int c),some (.int k),some (.tup [.int k,.int (mn.getD k 0)]),some (.g_ ((xq ps k).map D.int)),some (.g_ ((rF ls k).map mD)),some row.d] M2:=λ{ls' p M2} L5 hls' I2=>by
   have P2:=P.app (k:=k) (x:=row) (ls':=ls') I.h1 I.h2 QC R.h R.r RC gd hls';have ih:=λx7 x8 x9 x10 x11 x12=>nQ Tz hH h6 Mr hT (ES:=ES) (cl:=cl) hR cs x7 x8 x9 x10 x11 x12 (rs:=rs++[row]) (by simp;omega) (by simp;exact L5) ((I2.sb (mn':=mn.set k (mn.getD k 0+1)) (by simpa using I2.h2)).sd) P2
   generalize bC ⟨(B cls b_ d_),aa T (B cls b_ d_) (n+2)⟩ (.name 7) aQ ES (λ_=>True) De (cs.map D.int)=K at ih ⊢
   have QD:put M2 b (.lst ((mn.set k (mn.getD k 0+1)).map D.int)) d=some (.lst (rs.map Rw.d)):=by rw[af (Ja I2.bd)];exact I2.id
   have w2:∀{R:MH->Prop},aY (.ref b) (.int (k:Int)) (.int (mn.getD k 0+1)) M2 R=R (put M2 b (.lst ((mn.set k (mn.getD k 0+1)).map D.int))):=λ{R}=>by rw[d8 I2.ib TB,em]
   generalize mn.getD k 0=mk at *
   generalize put M2 b (.lst ((mn.set k (mk+1)).map D.int))=M3 at ih QD w2;simp[zG,↓w1 I2.ib,↓w2,dq QD,ck QD,hsz];simpa using ih _ _ _ _ _ _
  generalize bC ⟨(B cls b_ d_),aa T (B cls b_ d_) (n+2)⟩ (.name 7) aQ ES (λ_=>True) De (cs.map D.int)=K at fin ⊢
  generalize TF:mn.getD k 0=mk at *
  rw[Cu];simp[wpG,ao,vQ,aE,cd,hk,↓q1,bq,↓hg,↓q2];refine⟨hH,?_⟩;rw[w1 I1.ib,DG I1.fm Mr,iB I1.ic,zb I1.fm I1.ic (by omega),q3,hr (n:=n+1)]
  have keep:∀q∈ls,row.tk q.1.1 q.1.2=false->tkn (rs++[row]) q.1.1 q.1.2=false/\∃v,aF (rs++[row]) q.1.1 q.1.2=some (.send q.1.1 v q.2):=λq hq e=>P.wait hq e
  have eS:∀{M:MH}{Q:VK3},au .Eq (.str row.s) (.str "send") M Q=Q (.bl row.isS) M:=λ{M Q}=>by rw[<-um];simp
  have eT:∀{M:MH}{Q:VK3},au .Eq (.str row.s) (.str "take") M Q=Q (.bl row.isT) M:=λ{M Q}=>by rw[<-mI];simp
  simp[CJ,↓gQ,↓eS];cases hrow:row with
  |look h v=>
   subst hrow;simp[Rw.isS,gQ,↓eT,Rw.isT];exact fin (by omega) (λq hq=>keep q hq rfl) I1
  |r_ h v e l=>
   subst hrow;simp[Rw.isS,gQ,↓eT,Rw.isT];exact fin (by omega) (λq hq=>keep q hq rfl) I1
  |send h v t=>
   subst hrow;have r3:∀{M:MH}{Q:VK3},aq (Rw.send h v t).d (.int 3) M Q=Q (.int t) M:=λ{M Q}=>by simp[aq,az,ai,Rw.d,atI,ixN]
   simp[Rw.isS,dq I1.ic,↓r3,aE,ck I1.ic,TC,gQ,↓eT,Rw.isT];have hh:h=(k:Int):=R.h;have:=fin (ls':=ls++[(((k:Int),mk),t)]) (by simp;exact hz) (λq hq=>by
    rcases Jv.mp hq with z|z
    ·exact keep q z rfl
    ·rw[Ju.mp z];have hm:=P.mn k QC;rw[TF]at hm;have hs:=g8 (pre:=rs) (r:=.send h v t);have hx:(Rw.send h v t).h=(k:Int):=R.h;refine⟨?_,v,?_⟩
     ·show tkn (rs++[_]) (k:Int) mk=false;rw[eU,hm,tI P.G.fine.2];rfl
     ·show aF (rs++[_]) (k:Int) mk=some (.send k v t);rw[hx,<-hm]at hs;rw[hs,hh]) I1.sc
   simpa [lD,mD] using this
  |take h v x y=>
   subst hrow;simp[Rw.isS,gQ,↓eT,Rw.isT,iB I1.ic,ao];intro p hp;have r3:∀{M:MH}{Q:VK3},aq (Rw.take h v x y).d (.int 3) M Q=Q (mD (x,y)) M:=λ{M Q}=>vU rfl
   have l0:∀{q:Lt}{M:MH}{Q:VK3},aq (lD q) (.int 0) M Q=Q (mD q.1) M:=λ{q M Q}=>by simp[lD]
   rw[fV lD (λZ=>∃a,Z=[a,some (Rw.take h v x y).d]) (λq=>[some (lD q),some (Rw.take h v x y).d]) (λq=>!decide (q.1=(x,y))) lD _ [] _ ⟨_,rfl⟩ I1.fm hp (by rw[PySem.sizeLine_eq];simp;omega) (λM' hE=>hE.2 _ _ I1.ic) (λq _=>⟨⟨_,rfl⟩,λZ ⟨a,e⟩ M k=>by subst e;rfl⟩) (λq _ M' hE Q=>by simp[fK,↓l0,↓r3,au,DX]) (λq _ _ M' hE Q=>by simp),List.nil_append]
   refine fin (ls':=ls.filter λq=>!decide (q.1=(x,y))) (by have:=List.length_filter_le (λq:Lt=>!decide (q.1=(x,y))) ls;omega) (λq hq=>?_) (I1.sn hp)
   obtain⟨hq,e⟩:=List.mem_filter.mp hq;refine keep q hq ?_;have e:¬ q.1=(x,y):=by simpa using e
   simp only[Rw.tk,Bool.and_eq_false_iff,decide_eq_false_iff_not];by_cases e1:x=q.1.1
   ·exact .inr λe2=>e (by rw[e1,e2])
   ·exact .inl e1
end
section
variable {wy:List Wy}
noncomputable def rdF(cs:List Int)(i:Nat):Int:=if i<cs.length then cs.getD i 0 % 2001-1000 else 0
theorem zn:rdF cs i<=1000:=by unfold rdF;split<;>omega
theorem DW(hH:0<H)(h6:H<10){ps:List (Nat×Nat)}(Mr:ps.length<=36)(hT:Tx H ps wy)(cs:List Int)(hl:cs.length<300)(hM:Fm M)(hQ:∀rs:List Rw,rs.length=cs.length->Good H wy rs->Q (.g_ (rs.map Rw.d)) M):aa T (B cls b_ d_) (n+3) 46 [.int H,.g_ (ps.map qD),.g_ (cs.map D.int)] M Q E:=by
 have hs:H<=PySem.sizeLine:=by rw[PySem.sizeLine_eq];omega
 have MJ:(H:Int)<9223372036854775808:=by omega
 have Qy:(H:Int)<4611686018427387904:=by omega
 rw[rJ];simp[iG,Qy,ao];intro a ha;rw[show rng 0 H=(List.range H).map λi:Nat=>D.int (i:Int) by simp[rng],fV _ (λZ=>∃x,Z=[x,some (.g_ (cs.map D.int))]) (λi:Nat=>[some (.int i),some (.g_ (cs.map D.int))]) (λ_=>true) (λi=>.int (rdF cs i)) _ [] _ ⟨none,rfl⟩ hM ha (by rw[PySem.sizeLine_eq];simp;omega) (λ_ _=>trivial) (λd hd=>⟨⟨_,rfl⟩,λZ ⟨x,e⟩ M k=>by subst e;rfl⟩) (λd hd M' hE Q=>rfl) (λi hi _ M' hE Q=>by
   by_cases h:i<cs.length
   ·have hx:∀{Q:VK3},aq (.g_ (cs.map D.int)) (.int (i:Int)) M' Q=Q (.int (cs.getD i 0)) M':=λ{Q}=>cg (fh h)
    simp[h,↓hx,bq,rdF]
   ·simp[h,rdF]),List.nil_append,List.filter_eq_self.mpr (λ_ _=>rfl),show ((List.range H).map λi=>D.int (rdF cs i))=((List.range H).map (rdF cs)).map D.int by rw[JM];rfl]
 simp[cf,gY,ai,aE];refine⟨⟨MJ,hs⟩,hs,λb hb c hc d hd=>?_⟩
 obtain⟨Nf,Lh⟩:=ba hb;obtain⟨RE,ON⟩:=ba hc;obtain⟨RF,OA⟩:=ba ON;obtain⟨RG,LA⟩:=ba hd;obtain⟨A_,QE⟩:=ba LA;obtain⟨O9,RH⟩:=ba QE;refine nQ (mm:=cs.length) (by omega) (a:=a) (b:=b) (d:=d) (M:=M) hH h6 Mr hT (λrd mn ls rs a4 M' x7 x8 x9 x10 x11 x12 hl I P=>?_) cs (rd:=(List.range H).map (rdF cs)) (mn:=List.replicate H 0) (ls:=[]) (rs:=[]) (a4:=c) _ _ _ _ _ _ (by simp) (by simp) ?_ ?_
 ·simp[be,I.id];rw[jZ λx o e=>by unfold L2.del;rw[IY (λz=>by rw[z,I.fd]at e;cases e)];exact I.old _ _ e]
  exact hQ rs hl P.G
 ·refine⟨by simp,by simp,?_,?_,?_,?_,Ja Nf,Ja RF,Ja O9,Ja RE,Ja A_,Ja RG,?_,ha,Lh,OA,RH,(((hM.put _ _).put _ _).put _ _).put _ _⟩
  ·rw[af (Ja O9),af (Ja RF),af (Ja Nf),ah];simp
  ·rw[af (Ja A_),af (Ja RE),ah];simp
  ·rw[af (Ja RG),ah];rfl
  ·rw[ah];rfl
  ·exact cI (cI (cI (cI (λ_ _ e=>e) ha) Lh) OA) RH
 ·refine⟨.nil,λk=>?_,(λk hk=>by simp[hk,ofH]),(λk hk x hx=>by simp[ofH]at hx),(λ_ h=>by cases h)⟩
  rw[List.getD_eq_getElem?_getD,JJ];by_cases hk:k<H
  ·simp[hk];exact zn
  ·simp[hk]
end
section
variable {wy:List Wy}{rs:List Rw}{r:Rw}
theorem DS:aq r.d (.int 2) M Q=Q (.int r.r) M:=by cases r<;>simp[Rw.d,Rw.r]
theorem Good.row(G:Good H wy rs):∀x∈rs,x.r<10 ^ 40/\∀h v t,x=.send h v t->[h,t]∈wy.map pr:=by
 induction G with
 |nil=>exact λ_ h=>by cases h
 |snoc _ d ih=>
  intro x hx;rcases Jv.mp hx with hx|hx
  ·exact ih x hx
  ·rw[Ju.mp hx];exact⟨d.ub,d.sn⟩
noncomputable def Rw.wr(v:Int):Rw->Rw
 |.look h _=>.look h v
 |.r_ h _ e l=>.r_ h v e l
 |.send h _ t=>.send h v t
 |.take h _ a b=>.take h v a b
noncomputable def Rw.wh(h:Int):Rw->Rw
 |.look _ v=>.look h v
 |.r_ _ v e l=>.r_ h v e l
 |.send _ v t=>.send h v t
 |.take _ v a b=>.take h v a b
noncomputable def Rw.t3:Rw->List D
 |.look ..=>[]
 |.r_ _ _ e l=>[.int e,.int l]
 |.send _ _ t=>[.int t]
 |.take _ _ a b=>[.tup [.int a,.int b]]
theorem Ge:iH true r.d none (some 1) M Q=Q (.tup [.str r.s]) M:=by cases r<;>simp +decide [Rw.d,Rw.s,whole,dg,HT.sIx]
theorem Fy:iH true r.d (some 2) none M Q=Q (.tup (.int r.r::r.t3)) M:=by cases r<;>simp +decide [Rw.d,Rw.r,Rw.t3,whole,dg,HT.sIx]
theorem GK:iH true r.d none (some 2) M Q=Q (.tup [.str r.s,.int r.h]) M:=by cases r<;>simp +decide [Rw.d,Rw.s,Rw.h,whole,dg,HT.sIx]
theorem FF:iH true r.d (some 3) none M Q=Q (.tup r.t3) M:=by cases r<;>simp +decide [Rw.d,Rw.t3,whole,dg,HT.sIx]
theorem vt:r.t3.length<=2:=by cases r<;>simp[Rw.t3]
theorem GI:(r.wr v).d=.tup (.str r.s::.int r.h::.int v::r.t3):=by cases r<;>rfl
theorem FW:(r.wh v).d=.tup (.str r.s::.int v::.int r.r::r.t3):=by cases r<;>rfl
theorem Cs:(r.wh v).h=v:=by cases r<;>rfl
theorem A9:(r.wr v).h=r.h/\(r.wr v).r=v:=by cases r<;>exact⟨rfl,rfl⟩
theorem xj(hl:rs.length<400)(hM:Fm M):gv W (.name 0) (.yes (.cmp .Eq (.ix V0 I1) (.ix V1 I1))) (.ix V0 I2) (λ_=>True) Q (rs.map Rw.d) [none,some r.d] M=Q (.g_ (((ofH rs r.h).map Rw.r).map D.int)) M:=by
 rw[aT Rw.d (λy=>decide (y.h=r.h)) (λy=>.int y.r) hM (by omega) (λy _ M' hE Q'=>by simp[fK,mZ]) (λy _ _ M' hE Q'=>by simp[DS]),JM]
 rfl
def Bad(H:Nat)(rs:List Rw)(x:Rw)(e:XE):Prop:=flC H (RS rs) x=some e\/flC H (RS rs) x=none/\e=⟨7,none⟩/\∃h v i j:Int,x=.take h v i j/\NoL (RS rs) i j h
theorem uf(G:Good H wy rs)(d:Gd H wy rs r)(hw:∀w∈wy,w.good H)(hl:rs.length<300)(h6:H<=6)(c:Int):∃(x:Rw)(e:XE),(0<=x.h/\x.h<=H)/\(e.c=2\/e.c=6\/e.c=7)/\Bad H rs x e/\∀{n:Nat}{M:MH}{Q:VK3}{E:XN},Fm M->aa T (B cls b_ d_) (n+1) 50 [.int H,rL rs,r.d,.int c] M Q E=Q x.d M:=by
 have U:=G.fine.2;have hd:=d.hd;have eT:∀{M:MH}{Q:VK3},au .Eq (.str r.s) (.str "take") M Q=Q (.bl r.isT) M:=λ{M Q}=>by rw[<-mI];simp
 have tA:∀{W:WC}{x y z u:Option D}{M:MH}{R:Bool->MH->Prop}{E:XN},wpT W (.and (.cmp .Eq (.ix V2 I0) (.con (.str "take"))) (.cmp .Eq (.bin .Mod V3 I2) I0)) [x,y,some r.d,some (.int c),z,u] M R E=R (r.isT&&decide (c % 2=0)) M:=λ{W x y z u M R E}=>by
  simp[gQ,↓eT,bq];cases r.isT<;>simp
 have ls:=λ{W:WC}{M:MH}{Q:VK3} (hM:Fm M)=>xj (W:=W) (M:=M) (Q:=Q) (rs:=rs) (r:=r) (by omega) hM
 cases bA:r.isT&&decide (c % 2=0) with
 |true=>
  rw[IV]at bA;cases r with
  |take h v a b=>
   obtain⟨t1,v',t2⟩:=d.tk _ _ _ _ rfl;obtain⟨k,_,hz⟩:=sent_Z.mp t2;obtain⟨w,TH,e⟩:=JQ.mp ((G.row _ (List.of_mem_zip hz).2).2 _ _ _ rfl);have g:=hw w TH;simp only[pr,List.cons.injEq,and_true]at e;obtain⟨rfl,rfl⟩:=e;have g1:=g.i;have g2:=g.j;have g3:=g.ne;simp only[okH,IV,Je]at g1 g2;obtain⟨q,hq⟩:∃q,c / 2 % ((H:Int)-1)=q:=⟨_,rfl⟩;have q0:0<=q:=by rw[<-hq];exact J5 _ (by omega)
   have q1:q<(H:Int)-1:=by rw[<-hq];exact J1 _ (by omega)
   obtain⟨s,hs⟩:∃s,(w.j+1+q) % (H:Int)=s:=⟨_,rfl⟩;have s0:0<=s:=by rw[<-hs];exact J5 _ (by omega)
   have s1:s<H:=by rw[<-hs];exact J1 _ (by omega)
   have s2:¬ w.j=s:=λz=>by
    rw[<-z]at hs;have:=Int.emod_add_mul_ediv (w.j+1+q) H;rw[hs]at this;have:(H:Int)*((w.j+1+q) / H)=1+q:=by omega
    have h0:0<(w.j+1+q) / H:=Classical.byContradiction λz=>by
     have:=Int.mul_le_mul_of_nonneg_left (show (w.j+1+q) / H<=0 by omega) (show (0:Int)<=H by omega)
     omega
    have:=Int.mul_le_mul_of_nonneg_left (show 1<=(w.j+1+q) / H by omega) (show (0:Int)<=H by omega)
    omega
   refine⟨.take s (10 ^ 40) w.i b,⟨7,none⟩,⟨s0,by show s<=H;omega⟩,by simp,.inr ⟨?_,rfl,s,_,w.i,b,rfl,.inr ⟨w.j,?_,s2⟩⟩,?_⟩
   ·unfold flC;rw[Jc (by simp[okH,Rw.h,s0,s1]),U.kr]
    cases e:(ofH rs (Rw.take s (10 ^ 40) w.i b).h).getLast? with
    |none=>rfl
    |some y=>
     have:=(G.row y (List.mem_filter.mp (List.mem_of_getLast? e)).1).1;show (if (10:Int) ^ 40<y.r then _ else _)=_
     rw[IY (by omega)]
   ·rw[U.un,unF,t1,t2];rfl
   ·intro n M Q E hM;have TJ:gq (c / 2) ((H:Int)-1)=True:=bq (by omega) (by omega)
    have Nq:gq (w.j+1+q) (H:Int)=True:=bq (by omega) (by omega)
    have r1:∀{M:MH}{Q:VK3},aq (Rw.take w.j v w.i b).d (.int 1) M Q=Q (.int w.j) M:=λ{M Q}=>mZ
    have r3:∀{M:MH}{Q:VK3},aq (Rw.take w.j v w.i b).d (.int 3) M Q=Q (mD (w.i,b)) M:=λ{M Q}=>vU rfl
    have p1:(1:Int)<H:=by omega
    have p2:0<H:=by omega
    rw[show (Rw.take s (10 ^ 40) w.i b).d=.tup [.str "take",.int s,.int (10 ^ 40),mD (w.i,b)] from rfl];simp[-fM,eJ,bD,ao,ls hM,↓tA,bA.1,bA.2,↓r1,↓r3,bq,TJ,hq,Nq,hs,vQ,aE,p1,p2]
  |_=>cases bA.1
 |false=>
  have z2:2+(r.t3.length+1)<=PySem.sizeLine:=by have:=vt (r:=r);rw[PySem.sizeLine_eq];omega
  have z3:3+r.t3.length<=PySem.sizeLine:=by have:=vt (r:=r);rw[PySem.sizeLine_eq];omega
  cases e:(ofH rs r.h).getLast? with
  |none=>
   have e':=List.getLast?_eq_none_iff.mp e;refine⟨r.wh H,⟨2,none⟩,by rw[Cs];omega,by simp,.inl ?_,?_⟩
   ·unfold flC;rw[Cs,IY (by simp[okH])]
   ·intro n M Q E hM;have em:∀{M:MH}{Q:VK3},au .NotEq (.g_ []) (.g_ []) M Q=Q (.bl false) M:=λ{M Q}=>by simp[au,dh,L2.rs,ai,plN,eqD,bN]
    simp[-fM,eJ,bD,ao,ls hM,↓tA,bA,e',↓em,↓Ge,↓Fy,aE,FW,dn,ai,z2]
  |some y=>
   obtain⟨l,e'⟩:=List.getLast?_eq_some_iff.mp e;refine⟨r.wr (y.r-1-c % 10 ^ 9),⟨6,some (245166316,.int y.r)⟩,by rw[A9.1];omega,by simp,.inl ?_,?_⟩
   ·unfold flC;rw[A9.1,A9.2,Jc (by simp[okH,hd.1,hd.2]),U.kr,e]
    show (if y.r-1-c % 10 ^ 9<y.r then _ else _)=_
    rw[Jc (by omega)]
   ·intro n M Q E hM;have em:∀{M:MH}{Q:VK3},au .NotEq (.g_ (((ofH rs r.h).map Rw.r).map D.int)) (.g_ []) M Q=Q (.bl true) M:=λ{M Q}=>by simp only[au];rw[o9,show ((ofH rs r.h).map Rw.r).isEmpty=false by rw[e'];cases l<;>rfl];rfl
    have ix:∀{M:MH}{Q:VK3},aq (.g_ (((ofH rs r.h).map Rw.r).map D.int)) (.int (-1)) M Q=Q (.int y.r) M:=λ{M Q}=>by
     refine cg ?_;rw[e',JW,JW];have h1:(1:Int)<=(l.length:Int)+1:=by omega
     have h2:(-1+((l.length:Int)+1)).toNat=l.length:=by omega
     simp[atI,ixN,h1,h2]
    simp[-fM,eJ,bD,ao,ls hM,↓tA,bA,↓em,↓ix,↓GK,↓FF,bq,vQ,aE,GI,dn,ai,z3]
end
section
variable {e_:List (Int×Int)}{rs:List Rw}{r:Rw}
theorem ug{x:Rw}{e:XE}(G:Good e_.length wy rs)(hM:Fm M)(hp:M p=some (mt b_ e_ wy rs))(hl:rs.length<300)(he:e.c=2\/e.c=6\/e.c=7)(hx:Bad e_.length rs x e):aa T (B cls b_ d_) (n+8) 51 [.ref p,x.d] M Q E=Q (.bl false) M:=by
 have mh:∀{R:Nat->Prop},bh (B cls b_ d_) 228274932 (.ref p) M R=R 30:=λ{R}=>iF hp (by decide) (by decide) (by decide)
 have s1:e.c<9:=by omega
 have s2:sub e.c 0=true:=by rcases he with h|h|h<;>rw[h]<;>decide
 simp +decide [mO,eo,↓mh,↓rT G hM hp hl hx,s1,s2,km]
end
section
variable {e_:List (Int×Int)}{rs:List Rw}{r:Rw}
noncomputable def gu(rs:List Rw)(h:Int):Option Int:=match (ofH rs h).map Rw.r with
 |[]=>none
 |m::ms=>some (ms.foldl (mmI true) m)
theorem yP:∀(ms:List Int)(m:Int),m<=ms.foldl (mmI true) m/\(∀x∈ms,x<=ms.foldl (mmI true) m)/\(ms.foldl (mmI true) m=m\/ms.foldl (mmI true) m∈ms)
 |[],m=>⟨Int.le_refl _,λ_ h=>(by cases h),.inl rfl⟩
 |y::ms,m=>by
  obtain⟨h1,h2,h3⟩:=yP ms (mmI true m y);rw[List.foldl_cons];have hm:m<=mmI true m y/\y<=mmI true m y/\(mmI true m y=m\/mmI true m y=y):=by
   simp only[mmI,if_true];split<;>omega
  refine⟨by omega,λx hx=>?_,?_⟩
  ·rcases Jb.mp hx with rfl|hx
   ·omega
   ·exact h2 x hx
  ·rcases h3 with h3|h3
   ·rcases hm.2.2 with e|e
    ·exact .inl (h3.trans e)
    ·exact .inr (Jb.mpr (.inl (h3.trans e)))
   ·exact .inr (IX _ h3)
theorem m7(G:Good H wy rs)(e:(gu rs h).getD 0=m):(∀x∈ofH rs h,x.r<=m)/\m<10 ^ 40:=by
 unfold gu at e;split at e
 ·rename_i z;rw[List.map_eq_nil_iff]at z;rw[z,<-e];exact⟨λ_ h=>(by cases h),by decide⟩
 ·rename_i k ms z;obtain⟨h1,h2,h3⟩:=yP ms k;simp only[Option.getD_some]at e;rw[e]at h1 h2 h3;have all:∀y∈(ofH rs h).map Rw.r,y<=m:=λy hy=>by
   rw[z]at hy;rcases Jb.mp hy with rfl|hy
   ·exact h1
   ·exact h2 y hy
  refine⟨λx hx=>all _ (List.mem_map_of_mem hx),?_⟩
  have:m∈(ofH rs h).map Rw.r:=by
   rw[z];rcases h3 with h3|h3
   ·rw[h3];exact Jd
   ·exact IX _ h3
  obtain⟨x,hx,rfl⟩:=JQ.mp this;exact (G.row x (List.mem_filter.mp hx).1).1
theorem oz:∀(l:List Int),lP (l.map D.int)=some l
 |[]=>rfl
 |x::l=>by simp[lP,oz l]
theorem qB(hl:rs.length<400)(hM:Fm M):aa T (B cls b_ d_) (n+1) 22 [rL rs,.int h] M Q E=Q (match gu rs h with|some m=>.int m|none=>.i_) M:=by
 simp only[kF,cX];simp[ao];rw[aT Rw.d (λy=>decide (y.h=h)) (λy=>.int y.r) hM (by omega) (λy _ M' hE Q'=>by simp[fK,mZ]) (λy _ _ M' hE Q'=>by simp[DS]),show ((rs.filter λy=>decide (y.h=h)).map λy=>D.int y.r)=((ofH rs h).map Rw.r).map D.int by rw[JM];rfl]
 simp only[rMM,ai,oz,true_and];unfold gu;cases (ofH rs h).map Rw.r with
 |nil=>simp[km]
 |cons m ms=>simp[km]
theorem rB(e:unF rs a b=some (.int t)):tkn rs a b=false/\∃v,aF rs a b=some (.send a v t):=by
 unfold unF at e;split at e
 ·cases e
 ·rename_i z;refine⟨by simpa using z,?_⟩
  cases s:aF rs a b with
  |none=>rw[s]at e;cases e
  |some x=>
   rw[s]at e;obtain⟨k,_,hz⟩:=sent_Z.mp s;have hx:=Aj hz;cases x with
   |send h' v t'=>
    have e1:t'=t:=by simpa [Rw.un] using e
    have e2:a=h':=hx;exact⟨v,by rw[e1,e2]⟩
   |_=>simp[Rw.un]at e
noncomputable abbrev trial(rs:List Rw)(h a b:Int):Rw:=.take h ((gu rs h).getD 0) a b
theorem u6(G:Good H wy rs)(ho:okH H h=true)(hu:unF rs a b=some (.int h)):Gd H wy rs (trial rs h a b):=by
 obtain⟨l1,l2⟩:=m7 G (h:=h) rfl;simp only[okH,IV,Je]at ho;refine⟨ho,λx hx=>l1 x (List.mem_of_getLast? hx),l2,(λ_ _ _ _ e=>nomatch e),(λ_ _ _ e=>nomatch e),λ_ _ _ _ e=>?_⟩
 cases e;exact rB hu
theorem u3(G:Good H wy rs)(ho:okH H h=true):flC H (RS rs) (trial rs h a b)=none:=by
 obtain⟨l1,l2⟩:=m7 G (h:=h) rfl;unfold flC;rw[show (trial rs h a b).h=h from rfl,Jc ho,G.fine.2.kr];cases e:(ofH rs h).getLast? with
 |none=>rfl
 |some y=>
  have:=l1 y (List.mem_of_getLast? e);show (if (gu rs h).getD 0<y.r then _ else _)=_
  rw[IY (by omega)]
end
section
variable {e_:List (Int×Int)}{rs:List Rw}{r:Rw}
theorem nR(ho:okH e_.length h=false)(hp:M p=some (mt b_ e_ wy rs)):aa T (B cls b_ d_) (n+8) 32 [.ref p,.int h,d] M Q E=E ⟨2,none⟩ M:=by
 have mh:∀{R:Nat->Prop},bh (B cls b_ d_) 27084223208 (.ref p) M R=R 31:=λ{R}=>iF hp (by decide) (by decide) (by decide)
 simp[cU,aX,↓mh,↓qf ho hp,km]
noncomputable def oD(o:Option Int):D:=match o with
 |some m=>.int m
 |none=>.i_
theorem yg{o:Option Int}:wpE W (.Mi (.cmp .Is V4 (.con .i_)) I0 V4) [x,y,z,u,some (oD o),v,w,s] M Q E=Q (.int (o.getD 0)) M:=by
 cases o<;>simp[oD]
theorem sB(G:Good e_.length wy rs)(h1:1<=e_.length)(h6:e_.length<=6)(hl:rs.length<300)(ho:okH e_.length h=true)(hn:NoL (RS rs) a b h)(hM:Fm M)(hp:M p=some (mt b_ e_ wy rs)):aa T (B cls b_ d_) (n+8) 32 [.ref p,.int h,.tup [.int a,.int b]] M Q E=E ⟨7,none⟩ M:=by
 obtain⟨C,v,hd⟩:=qO (cls:=cls) (b_:=b_) (d_:=d_) G h1 h6 hl ho;have mh:∀{R:Nat->Prop},bh (B cls b_ d_) 27084223208 (.ref p) M R=R 31:=λ{R}=>iF hp (by decide) (by decide) (by decide)
 have mw:∀{R:Nat->Prop},bh (B cls b_ d_) 67483170351428855 (.ref p) M R=R 29:=λ{R}=>iF hp (by decide) (by decide) (by decide)
 have cn:∀{Q:VK3}{E:XN},aa T (B cls b_ d_) (n+7) 14 [rL (aZ C rs)] M Q E=Q (nL (aZ C rs)) M:=λ{Q E}=>eI (n:=n+5) _ (gR (by omega)) hM
 have lr:∀{Q:VK3}{E:XN},aa T (B cls b_ d_) (n+7) 22 [rL rs,.int h] M Q E=Q (oD (gu rs h)) M:=λ{Q E}=>qB (n:=n+6) (by omega) hM
 have wr:∀{Q:VK3}{E:XN},aa T (B cls b_ d_) (n+7) 29 [.ref p,(trial rs h a b).d] M Q E=E ⟨7,none⟩ M:=λ{Q E}=>by rw[l5 (n:=n+1) hp hl,ng hM (by omega) G.fine.1 G.fine.2.si (.inr ⟨u3 G ho,rfl,_,_,_,_,rfl,hn⟩),km]
 have td:(trial rs h a b).d=.tup [.str "take",.int h,.int ((gu rs h).getD 0),.tup [.int a,.int b]]:=rfl;rw[td]at wr;simp[-yD,cU,aX,↓mh,↓hd hM hp,↓cn,↓gI hp,↓lr,↓mw,↓yg,aE,↓wr,km]
noncomputable def nwF(vs:List Rw)(t:Int×Nat)(us:List Rw):List (Int×Nat):=(nms vs).filter λq=>!decide (q=t)&&!decide (q∈nms us)
theorem pZ{vs:List Rw}(hl:vs.length<400)(hM:Fm M):gv W (.name 0) (.yes (.and (.cmp .NotEq V0 V1) (.cmp .NotIn V0 V2))) V0 (λ_=>True) Q ((nms vs).map nD) [none,some (nD t),some (nL us)] M=Q (.g_ ((nwF vs t us).map nD)) M:=by
 exact aT nD _ _ hM (by rw[cG];omega) (λq _ M' hE Q'=>by
  by_cases z:q=t<;>simp[fK,au,Fx,CZ (show az M' (nL us)=some ((nms us).map nD) from rfl),z]) λq _ _ M' hE Q'=>by simp
theorem yI:(nwF vs t us).Nodup:=List.Pairwise.sublist List.filter_sublist qm
theorem yr{l:List (Int×Nat)}(h:l.Nodup):(l.map pz).Nodup:=List.Pairwise.map _ (λx y h e=>h (pz_inj.mp e)) h
theorem BV{l:List (Int×Nat)}:l.map nD=(l.map pz).map prI:=by rw[JM];rfl
theorem ot{l:List (Int×Nat)}:dJ (l.map nD)=some (l.map pz):=by rw[BV];exact kX _
end
section
variable {e_:List (Int×Int)}{rs:List Rw}{r:Rw}
theorem Vec.uniq{D:List Int}(v:Vec H rs q C)(w:Vec H rs q D):C=D:=by
 obtain⟨A,x,Bs,h1,h2,rfl⟩:=v;obtain⟨A',x',Uj,Mg,MD,rfl⟩:=w;have l:A.length=A'.length:=by
  have a1:=(lu h1).2;have a2:=(lu Mg).2;rw[h2]at a1;rw[MD]at a2;exact (List.getElem?_inj (Jk.mp a1).1 qm).mp (a1.trans a2.symm)
 obtain⟨rfl,e⟩:=List.append_inj (h1.symm.trans Mg) l;cases e;rfl
theorem Hv.uniq{D:List Int}(v:Hv H rs h C)(w:Hv H rs h D):C=D:=by
 rcases v with ⟨e,rfl⟩|⟨q,e,v⟩<;>rcases w with ⟨e',rfl⟩|⟨q',e',w⟩
 ·rfl
 ·rw[e]at e';cases e'
 ·rw[e]at e';cases e'
 ·rw[e]at e';cases e';exact v.uniq w
theorem BO(G:Good e_.length wy rs)(h1:1<=e_.length)(h6:e_.length<=6)(hl:rs.length<60)(ho:okH e_.length h=true)(hu:unF rs a b=some (.int h)){C Cl:List Int}(hC:Hv e_.length rs h C){k:Nat}(hk:b=k)(RI:Vec e_.length rs (a,k) Cl) :
  ∃L:List (Int×Nat),L.Nodup/\L.length<64/\(∀q,q∈L<->In Cl q/\¬ In C q)/\∀{n:Nat}{M:MH}{Q:VK3}{E:XN}{p:PySem.Addr},Fm M->M p=some (mt b_ e_ wy rs)->(∀qs:List IP,qs.Perm (L.map pz)->qs.Pairwise (λa b=>ltP a b=true)->∀q,M q=none->Q (.ref q) (put M q (.lst (qs.map prI))))->aa T (B cls b_ d_) (n+8) 32 [.ref p,.int h,.tup [.int a,.int b]] M Q E:=by
 obtain⟨C',v,hd⟩:=qO (cls:=cls) (b_:=b_) (d_:=d_) G h1 h6 (by omega) ho
 obtain rfl:=v.uniq hC;have G1:Good e_.length wy (rs++[trial rs h a b]):=.snoc G (u6 G ho hu);have lv:Lv1 e_.length rs (trial rs h a b) Cl:=⟨k,hk,RI⟩;have hN:∀q,In (gA e_.length rs (trial rs h a b)) q<->In C' q\/In Cl q\/q=(h,(ofH rs h).length):=λq=>ua G1 v lv
 have l1:(rs++[trial rs h a b]).length<400:=by simp;omega
 generalize hD:gA e_.length rs (trial rs h a b)=D' at *
 have nv:Vec e_.length (rs++[trial rs h a b]) (h,(ofH rs h).length) D':=hD▸eB;have len:(nwF (aZ D' (rs++[trial rs h a b])) (h,(ofH rs h).length) (aZ C' rs)).length<64:=by
  refine Nat.lt_of_le_of_lt (List.length_filter_le ..) ?_;rw[cG];refine Nat.lt_of_le_of_lt (show (aZ D' (rs++[trial rs h a b])).length<=(rs++[trial rs h a b]).length by
   unfold aZ;rw[Jh];exact Jw (List.length_filter_le ..) (Nat.le_of_eq vo)) ?_
  simp;omega
 refine⟨nwF (aZ D' (rs++[trial rs h a b])) (h,(ofH rs h).length) (aZ C' rs),yI,len,λq=>?_,λ{n M Q E p} hM hp hQ=>?_⟩
 ·unfold nwF;rw[List.mem_filter,nv.mem G1,hN];simp only[IV,Bool.not_eq_true',decide_eq_false_iff_not];rw[v.mem G];constructor
  ·rintro⟨w,w1,w2⟩;rcases w with w|w|w
   ·exact absurd w w2
   ·exact⟨w,w2⟩
   ·exact absurd w w1
  ·rintro⟨w,w2⟩;refine⟨.inr (.inl w),λz=>?_,w2⟩
   have:=w.2;have l:=RI.le G w.1;rw[z]at this l;simp only at this l;omega
 ·have mh:∀{R:Nat->Prop},bh (B cls b_ d_) 27084223208 (.ref p) M R=R 31:=λ{R}=>iF hp (by decide) (by decide) (by decide)
  have mw:∀{R:Nat->Prop},bh (B cls b_ d_) 67483170351428855 (.ref p) M R=R 29:=λ{R}=>iF hp (by decide) (by decide) (by decide)
  have cn:∀{vs:List Rw}{Q:VK3}{E:XN},vs.length<400->aa T (B cls b_ d_) (n+7) 14 [rL vs] M Q E=Q (nL vs) M:=λ{vs Q E} hv=>eI (n:=n+5) _ hv hM
  have lr:∀{Q:VK3}{E:XN},aa T (B cls b_ d_) (n+7) 22 [rL rs,.int h] M Q E=Q (oD (gu rs h)) M:=λ{Q E}=>qB (n:=n+6) (by omega) hM
  have wr:∀{Q:VK3}{E:XN},aa T (B cls b_ d_) (n+7) 29 [.ref p,(trial rs h a b).d] M Q E=Q (rL (rs++[trial rs h a b])) M:=λ{Q E}=>by rw[l5 (n:=n+1) hp (by omega),n9 hM l1 G1.fine.1,km]
  have td:(trial rs h a b).d=.tup [.str "take",.int h,.int ((gu rs h).getD 0),.tup [.int a,.int b]]:=rfl;have ix:∀{M:MH}{Q:VK3},aq (nL (rs++[trial rs h a b])) (.int (-1)) M Q=Q (nD (h,(ofH rs h).length)) M:=λ{M Q}=>by
   refine cg ?_;rw[f6,JW];have h1:(1:Int)<=(rs.length:Int)+1:=by omega
   have h2:(-1+((rs.length:Int)+1)).toNat=rs.length:=by omega
   simp[atI,ixN,cG,h1,h2,Rw.h]
  have vw:∀{Q:VK3}{E:XN},aa T (B cls b_ d_) (n+7) 26 [wO b_ e_ wy,rL (rs++[trial rs h a b]),nD (h,(ofH rs h).length)] M Q E=Q (rL (aZ D' (rs++[trial rs h a b]))) M:=λ{Q E}=>by
   rw[<-hD];exact tT (n:=n+1) (x:=((h,(ofH rs h).length),trial rs h a b)) G1 h1 h6 l1 hM dL
  rw[td]at wr;have fin:rBi (.sorted false) [.g_ ((nwF (aZ D' (rs++[trial rs h a b])) (h,(ofH rs h).length) (aZ C' rs)).map nD)] M (λv M'=>Q v M'):=by
   simp only[fQ,ai,ot];refine⟨⟨by rw[Jh];exact len,yr yI⟩,λqs q1 q2=>⟨?_,λq hq=>hQ qs q1 q2 q hq⟩⟩
   rw[Jh,q1.length_eq,Jh,PySem.sizeLine_eq];omega
  simp[-yD,-fQ,cU,aX,↓mh,↓hd hM hp,↓cn (vs:=aZ C' rs) (gR (by omega)),↓gI hp,↓lr,↓mw,↓yg,aE,↓wr,↓cn (vs:=rs++[trial rs h a b]) l1,↓ix,↓gZ hp,↓vw,↓cn (vs:=aZ D' (rs++[trial rs h a b])) (gR l1),ao,↓pZ (vs:=aZ D' (rs++[trial rs h a b])) (us:=aZ C' rs) (t:=(h,(ofH rs h).length)) (gR l1) hM]
  exact fin
end
section
variable {e_:List (Int×Int)}{rs:List Rw}{r:Rw}
theorem jb(ho:okH e_.length h=false)(hM:Fm M)(hp:M p=some (mt b_ e_ wy rs)):aa T (B cls b_ d_) (n+9) 48 [.ref p,.int h,d] M Q E=Q (.str "hand") M:=by
 have mh:∀{R:Nat->Prop},bh (B cls b_ d_) 243135214 (.ref p) M R=R 32:=λ{R}=>iF hp (by decide) (by decide) (by decide)
 rw[j9];simp[eQ,↓mh,↓nR ho hp];exact iff_of_eq (ay hM λa ha=>by simp +decide [ha])
theorem lG(G:Good e_.length wy rs)(h1:1<=e_.length)(h6:e_.length<=6)(hl:rs.length<300)(ho:okH e_.length h=true)(hn:NoL (RS rs) a b h)(hM:Fm M)(hp:M p=some (mt b_ e_ wy rs)):aa T (B cls b_ d_) (n+9) 48 [.ref p,.int h,.tup [.int a,.int b]] M Q E=Q (.str "letter") M:=by
 have mh:∀{R:Nat->Prop},bh (B cls b_ d_) 243135214 (.ref p) M R=R 32:=λ{R}=>iF hp (by decide) (by decide) (by decide)
 rw[j9];simp[eQ,↓mh,↓sB G h1 h6 hl ho hn hM hp];exact iff_of_eq (ay hM λa ha=>by simp +decide [ha])
theorem we{qs:List IP}(hq:M q=some (.lst (qs.map prI)))(hQ:Q (.bl true) M):aa T (B cls b_ d_) (n+1) 47 [.ref q] M Q E:=by
 have il:∀{Q:VK3},hW .list (.ref q) M Q=Q (.bl true) M:=λ{Q}=>by simp[hW,hq]
 rw[oI];simp[fv,↓il];rw[iB hq];refine ud (P:=λZ=>∃x1 x2,Z=[some (.ref q),x1,x2]) hq ⟨none,none,rfl⟩ ?_ ?_
 ·rintro d hd Z ⟨x1,x2,rfl⟩ k hk;obtain⟨x,hx,rfl⟩:=JQ.mp hd;have it:∀{Q:VK3},hW .tuple (prI x) M Q=Q (.bl true) M:=λ{Q}=>by simp[prI,hW]
  have ln:∀{Q:VK3},rBi .len [prI x] M Q=Q (.int 2) M:=λ{Q}=>rfl
  simp[wpG,fH,↓it,↓ln];refine w6 (P:=λZ=>∃x2,Z=[some (.ref q),some (prI x),x2]) ⟨_,rfl⟩ ?_ ?_
  ·rintro d hd Z ⟨x2,rfl⟩ k hk;simp only[Jb,JF,or_false]at hd;rcases hd with rfl|rfl
   ·simp[wpG,db,hW];exact hk _ ⟨_,rfl⟩
   ·simp[wpG,db,hW];exact hk _ ⟨_,rfl⟩
  ·rintro Z ⟨x2,rfl⟩;simp;exact hk _ ⟨_,_,rfl⟩
 ·rintro Z ⟨x1,x2,rfl⟩;simp[km];exact hQ
theorem yh:plN (m+1) (prI x)=true:=by simp[prI,plN]
theorem AD{l:List IP}:bN (l.map prI) (l.map prI)=true:=by
 induction l with
 |nil=>simp[bN]
 |cons r rs ih=>simp[bN,eqD,prI,ih]
theorem vk{l:List IP}(h1:ai M u=some (l.map prI))(h2:ai M v=some (l.map prI)):dh neg u v M Q=Q (.bl (!neg)) M:=by
 have hp:pls (l.map prI)=true:=by simp[pls,yh]
 have h7:pl (.g_ (l.map prI))=true:=by simp[pl,plN,yh]
 simp only[dh,L2.rs,h1,h2,hp,if_true,h7,true_and,eqD,AD];simp
theorem zk{l m:List IP}(h1:l.Pairwise λa b=>ltP a b=true)(h2:m.Pairwise λa b=>ltP a b=true)(h:l.Perm m):l=m:=
 h.eq_of_pairwise (λa b _ _ x y=>by rw[ur x]at y;cases y) h1 h2
end
section
variable {e_:List (Int×Int)}{rs:List Rw}{r:Rw}{ks:List PySem.Addr}
structure LI (b_:Nat->PySem.Addr) (e_:List (Int×Int)) (wy:List Wy)(rs:List Rw)(p kn cr uw:PySem.Addr)(ks:List PySem.Addr)(M:MH):Prop where
 ip:M p=some (mt b_ e_ wy rs)
 ik:M kn=some (.lst (ks.map D.ref))
 kl:ks.length=e_.length
 kh:∀(i:Nat) x,ks[i]?=some x->∃(L:List (Int×Nat)) (C:List Int),M x=some (.lst (L.map nD))/\Hv e_.length rs i C/\L.Nodup/\∀q,q∈L<->In C q
 ic:∃kk dd,M cr=some (.dt kk dd)/\kk.length=dd.length/\kk.length<=rs.length/\∀a b v t,aF rs a b=some (.send a v t)->∃(k:Nat) (L:List (Int×Nat)) (Cl:List Int),b=k/\getD kk dd [a,b]=some (.g_ (L.map nD))/\Vec e_.length rs (a,k) Cl/\L.Nodup/\∀q,q∈L<->In Cl q
 iu:M uw=some (.dt (RS rs).ku (RS rs).du)
 fm:Fm M
 nd:(p::kn::cr::uw::ks).Nodup
theorem qw{i:Nat}{x:PySem.Addr}(hk:M kn=some (.lst (ks.map D.ref)))(e:ks[i]?=some x):aq (.ref kn) (.int (i:Int)) M Q=Q (.ref x) M:=by
 rw[i0 hk];exact cg (cK (by simp[e]))
theorem wE(h:M uw=some (.dt kk dd)):rBm .get (.ref uw) [.tup [.int a,.int b],z] M Q=Q ((getD kk dd [a,b]).getD z) M:=by simp[rBm,iW,eX,gG,h,gx,c8]
theorem yT{kk:List (List Int)}{dd:List D}{d:D}(h:M cr=some (.dt kk dd))(e:getD kk dd [a,b]=some d):aq (.ref cr) (.tup [.int a,.int b]) M Q=Q d M:=by simp[aq,az,ai,iW,eX,gG,gx,c8,h,e]
noncomputable def dm(L K:List (Int×Nat)):List (Int×Nat):=L.filter λq=>!decide (q∈K)
theorem qu{W:WC}{L K:List (Int×Nat)}{i:Nat}{x:PySem.Addr}(hk:M kn=some (.lst (ks.map D.ref)))(e:ks[i]?=some x)(hx:M x=some (.lst (K.map nD)))(hl:L.length<1000)(hM:Fm M):gv W (.name 0) (.yes (.cmp .NotIn V0 (.ix V1 V2))) V0 (λ_=>True) Q (L.map nD) [none,some (.ref kn),some (.int (i:Int))] M=Q (.g_ ((dm L K).map nD)) M:=by
 exact aT nD _ _ hM (by omega) (λq _ M' hE Q'=>by
  simp[fK,↓qw (hE.2 _ _ hk) e,au,CZ (show az M' (.ref x)=some (K.map nD) by simp only[az,ai,hE.2 _ _ hx])]) λq _ _ M' hE Q'=>by simp
theorem fN(G:Good H wy rs):getD (RS rs).ku (RS rs).du [a,b]=unF rs a b:=G.fine.2.un a b
theorem jy{L:List (Int×Nat)}{C:List Int}(nd:L.Nodup)(hm:∀q,q∈L<->q∈nms (aZ C rs))(hl:rs.length<400):L.length<400:=by
 rw[((List.perm_ext_iff_of_nodup nd qm).mpr hm).length_eq,cG];exact gR hl
theorem rE(G:Good e_.length wy rs)(h1:1<=e_.length)(h6:e_.length<=6)(hl:rs.length<60)(I:LI b_ e_ wy rs p kn cr uw ks M){h:Nat}(hh:h<e_.length)(hQ:Q (.bl true) M) :
  aa T (B cls b_ d_) (n+10) 49 [.ref p,.int (h:Int),.tup [.int a,.int b],.ref kn,.ref cr,.ref uw] M Q E:=by
 have ho:okH e_.length (h:Int)=true:=by simp[okH,hh]
 have gt:=λ{z:D}{Q:VK3}=>wE (a:=a) (b:=b) (z:=z) (Q:=Q) I.iu
 have tg:tyB .get (.ref uw) M=true:=by simp[tyB,eX,gG,I.iu]
 rw[fN G]at gt;by_cases hu:unF rs a b=some (.int (h:Int))
 ·rw[hu]at gt;obtain⟨t1,v,t2⟩:=rB hu;obtain⟨kk,dd,ic,_,_,cc⟩:=I.ic;obtain⟨k,L,Cl,rfl,gl,vl,OB,ml⟩:=cc _ _ _ _ t2;obtain⟨x,hx⟩:∃x,ks[h]?=some x:=⟨_,Jt (by rw[I.kl];exact hh)⟩
  obtain⟨K,C,mx,hv,Nj,mk⟩:=I.kh h x hx;obtain⟨L2,TK,QF,m2,nw⟩:=BO (cls:=cls) (b_:=b_) (d_:=d_) G h1 h6 hl ho hu hv rfl vl;have RJ:(dm L K).Nodup:=List.Pairwise.sublist List.filter_sublist OB;have pm:(dm L K).Perm L2:=(List.perm_ext_iff_of_nodup RJ TK).mpr λq=>by
   unfold dm;rw[List.mem_filter,m2,ml];simp[mk]
  have QG:(dm L K).length<64:=by rw[pm.length_eq];exact QF
  have lL:L.length<1000:=Nat.lt_trans (jy OB (λq=>(ml q).trans (vl.mem G).symm) (by omega)) (by omega)
  have mn:∀{M':MH}{R:Nat->Prop},M' p=some (mt b_ e_ wy rs)->bh (B cls b_ d_) 243135214 (.ref p) M' R=R 32:=λ{M' R} hp=>iF hp (by decide) (by decide) (by decide)
  rw[jc];simp[-fQ,dA,↓gt,tg,↓yT ic gl,ao,↓qu I.ik hx mx lL I.fm];simp only[fQ,ai,ot];refine⟨⟨by rw[Jh];exact QG,yr RJ⟩,λqs q1 q2=>⟨by rw[Jh,q1.length_eq,Jh,PySem.sizeLine_eq];omega,?_⟩⟩
  have z1:qs.length<PySem.sizeLine:=by rw[q1.length_eq,Jh,PySem.sizeLine_eq];omega
  have uq:∀LX:List IP,LX.Perm (L2.map pz)->LX.Pairwise (λa b=>ltP a b=true)->LX=qs:=λLX w1 w2=>zk w2 q2 (w1.trans ((pm.map pz).symm.trans q1.symm))
  simp[↓mn I.ip];refine nw (n:=n+1) I.fm I.ip λLX w1 w2 q hq=>?_
  obtain rfl:=uq _ w1 w2;have QP:put M q (.lst (LX.map prI)) q=some (.lst (LX.map prI)):=ah;have old:∀{o:DO} y u,M y=some u->put M q o y=some u:=λ{o} y u e=>by rw[af (λz=>by rw[z,hq]at e;cases e)];exact e
  refine we (n:=n+8) QP ?_;have ne:∀{Q:VK3},au .NotEq (.ref q) (.g_ (LX.map prI)) (put M q (.lst (LX.map prI))) Q=Q (.bl false) (put M q (.lst (LX.map prI))):=λ{Q}=>by
   simp only[au];rw[vk (l:=LX) (by simp[ai,ah]) rfl];rfl
  simp[↓ne,dq QP,ck QP,cM,z1,↓mn (old _ _ I.ip)];refine nw (n:=n+1) (I.fm.put _ _) (old _ _ I.ip) λTL w1 w2 q3 Pa=>?_
  obtain rfl:=uq _ w1 w2;simp only[au];rw[vk (l:=TL) (by simp[ai,ah]) rfl]
  have nq:q3≠q:=λz=>by rw[z,ah]at Pa;cases Pa
  have kp:∀{o o':DO},ar M (put (put M q o) q3 o')=M:=λ{o o'}=>jZ λy u e=>by
   rw[af (λz=>by rw[z]at e;have:=old (o:=o) _ _ e;rw[af nq]at Pa;rw[Pa]at e;cases e)]
   exact old _ _ e
  simp[kp];exact hQ
 ·have hn:NoL (RS rs) a b h:=by
   unfold NoL;rw[fN G];rcases G.fine.2.si.hu.get (ks:=(RS rs).ku) [a,b] with e|⟨l,e⟩
   ·rw[fN G]at e;exact .inl e
   ·rw[fN G]at e;exact .inr ⟨l,e,λz=>hu (by rw[e,z])⟩
  have:∃l:Int,(unF rs a b).getD (.int (-1))=.int l/\¬ l=h:=by
   rcases hn with e|⟨l,e,z⟩
   ·rw[fN G]at e;exact⟨-1,by rw[e];rfl,by omega⟩
   ·rw[fN G]at e;exact⟨l,by rw[e];rfl,z⟩
  obtain⟨l,e,z⟩:=this;rw[jc];simp[dA,↓gt,tg,e,z,↓lG G h1 h6 (by omega) ho hn I.fm I.ip,km]
  exact hQ
end
section
variable {e_:List (Int×Int)}{rs pre:List Rw}{r:Rw}{ks:List PySem.Addr}{K:List (Int×Nat)}
theorem xN{h:Nat}(G:Good H wy pre)(v:Hv H pre h C)(nd:K.Nodup)(hm:∀q,q∈K<->In C q):(K.filter λq=>decide (q.1=(h:Int))).length=(ofH pre h).length:=by
 have hp:(K.filter λq=>decide (q.1=(h:Int))).Perm ((List.range (ofH pre h).length).map λi=>((h:Int),i)):=by
  refine (List.perm_ext_iff_of_nodup (List.Pairwise.sublist List.filter_sublist nd) (List.Pairwise.map _ (λa b z e=>z (Prod.mk.inj e).2) List.nodup_range)).mpr λq=>?_
  rw[List.mem_filter,hm,JQ];have own:=v.own G;constructor
  ·rintro⟨h1,h2⟩;have h2:q.1=h:=by simpa using h2
   have:=h1.2;rw[h2]at this;exact⟨q.2,List.mem_range.mpr (by omega),by rw[<-h2]⟩
  ·rintro⟨i,hi,rfl⟩;have:=List.mem_range.mp hi;exact⟨⟨by show (0:Int)<=h;omega,by show (i:Int)<g C h;omega⟩,by simp⟩
 rw[hp.length_eq,Jh,List.length_range]
theorem AV{W:WC}{h:Int}(hx:M x=some (.lst (K.map nD)))(hl:K.length<400)(hM:Fm M):gv W (.name 0) (.yes (.cmp .Eq (.ix V0 I0) V1)) V0 (λM=>M x=some (.lst (K.map nD))) Q (K.map nD) [none,some (.int h)] M=Q (.g_ ((K.filter λq=>decide (q.1=h)).map nD)) M:=by
 exact aT nD _ _ hM (by omega) (λq _ M' hE Q'=>by simp[nD]) (λq _ _ M' hE Q'=>by simp) λM' hE=>hE.2 _ _ hx
noncomputable def uK(pre:List Rw)(r:Rw):List (List Int)×List D:=match r with
 |.take _ _ a b=>(ax (RS pre).ku [a,b],aJ (RS pre).ku (RS pre).du [a,b])
 |_=>((RS pre).ku,(RS pre).du)
noncomputable abbrev hr(pre:List Rw)(r:Rw):Int×Nat:=(r.h,(ofH pre r.h).length)
structure TI (b_:Nat->PySem.Addr) (e_:List (Int×Int)) (wy:List Wy)(pre:List Rw)(r:Rw)(p kn cr uw x:PySem.Addr)(ks:List PySem.Addr) (K:List (Int×Nat)) (M:MH):Prop where
 ip:M p=some (mt b_ e_ wy pre)
 ik:M kn=some (.lst (ks.map D.ref))
 kl:ks.length=e_.length
 ix:ks[r.h.toNat]?=some x
 kx:M x=some (.lst (K.map nD))
 kd:K.Nodup
 km:∀q,q∈K<->In (gA e_.length pre r) q/\q≠hr pre r
 kh:∀(i:Nat) y,i≠r.h.toNat->ks[i]?=some y->∃(L:List (Int×Nat)) (C:List Int),M y=some (.lst (L.map nD))/\Hv e_.length pre i C/\L.Nodup/\∀q,q∈L<->In C q
 ic:∃kk dd,M cr=some (.dt kk dd)/\kk.length=dd.length/\kk.length<=pre.length/\∀a b v t,aF pre a b=some (.send a v t)->∃(k:Nat) (L:List (Int×Nat)) (Cl:List Int),b=k/\getD kk dd [a,b]=some (.g_ (L.map nD))/\Vec e_.length pre (a,k) Cl/\L.Nodup/\∀q,q∈L<->In Cl q
 iu:M uw=some (.dt (uK pre r).1 (uK pre r).2)
 fm:Fm M
 nd:(p::kn::cr::uw::ks).Nodup
theorem TI.app(G:Good e_.length wy (pre++[r]))(T:TI b_ e_ wy pre r p kn cr uw x ks K M):(K++[hr pre r]).Nodup/\∀q,q∈K++[hr pre r]<->In (gA e_.length pre r) q:=by
 have r0:=(G.wfl.hd r (by simp)).1
 refine⟨?_,λq=>?_⟩
 ·rw[List.nodup_append];exact⟨T.kd,by simp,λq hq w hw z=>by rw[Ju.mp hw]at z;exact ((T.km q).mp hq).2 z⟩
 ·rw[Jv,T.km,Ju];have LD:In (gA e_.length pre r) (hr pre r):=by
   obtain⟨j,I,_⟩:=(eB (H:=e_.length) (rs:=pre) (r:=r)).pi G;have:=I.b;exact⟨r0,by show ((ofH pre r.h).length:Int)<g _ r.h;simp only at this;omega⟩
  constructor
  ·rintro (z|rfl)
   ·exact z.1
   ·exact LD
  ·intro z;by_cases w:q=hr pre r
   ·exact .inr w
   ·exact .inl ⟨z,w⟩
theorem TI.li(G:Good e_.length wy (pre++[r]))(T:TI b_ e_ wy pre r p kn cr uw x ks K M)(e1:M3 p=some (mt b_ e_ wy (pre++[r])))(e2:M3 kn=M kn)(e3:∀y∈ks,y≠x->M3 y=M y)(e4:M3 x=some (.lst ((K++[hr pre r]).map nD)))
  (e5:∃kk dd,M3 cr=some (.dt kk dd)/\kk.length=dd.length/\kk.length<=(pre++[r]).length/\∀a b v t,aF (pre++[r]) a b=some (.send a v t)->∃(k:Nat) (L:List (Int×Nat)) (Cl:List Int),b=k/\getD kk dd [a,b]=some (.g_ (L.map nD))/\Vec e_.length (pre++[r]) (a,k) Cl/\L.Nodup/\∀q,q∈L<->In Cl q)
  (e6:M3 uw=some (.dt (RS (pre++[r])).ku (RS (pre++[r])).du)) (fm:Fm M3):LI b_ e_ wy (pre++[r]) p kn cr uw ks M3:=by
 have r0:=(G.wfl.hd r (by simp)).1
 refine⟨e1,by rw[e2];exact T.ik,T.kl,λi y hy=>?_,e5,e6,fm,T.nd⟩
 by_cases e:i=r.h.toNat
 ·have eh:(i:Int)=r.h:=by omega
  have:y=x:=by rw[e,T.ix]at hy;cases hy;rfl
  subst this;exact⟨_,gA e_.length pre r,e4,by rw[eh];exact vq,(T.app G).1,(T.app G).2⟩
 ·obtain⟨L,C,a1,a2,a3,a4⟩:=T.kh i y e hy;have ym:y∈ks:=Jy hy;have yx:y≠x:=λz=>by
   have knd:ks.Nodup:=by have:=T.nd;simp only[Jo]at this;exact this.2.2.2.2
   exact e ((List.getElem?_inj (Jk.mp hy).1 knd).mp (by rw[hy,T.ix,z]))
  exact⟨L,C,by rw[e3 y ym yx];exact a1,AW a2 (λz=>e (by omega)),a3,a4⟩
theorem AA(G:Good H wy (pre++[r])):((RS (pre++[r])).ku,(RS (pre++[r])).du)=match r with
 |.send h _ t=>(aj (uK pre r).1 [h,((ofH pre h).length:Int)],am (uK pre r).1 (uK pre r).2 [h,((ofH pre h).length:Int)] (.int t))
 |_=>uK pre r:=by
 have e:=(iA (x:=r) pre S0 (λ_=>0)).1
 have cc:=G.init.fine.2.cc;show ((eL S0 (λ_=>0) (pre++[r])).ku,(eL S0 (λ_=>0) (pre++[r])).du)=_
 rw[e];cases r with
 |send h v t=>rw[cc];rfl
 |_=>rfl
end
section
variable {cls b_ d_:Nat->PySem.Addr}{M:MH}{Q:VK3}{E:XN}{n:Nat}{p kn cr uw x:PySem.Addr}{e_:List (Int×Int)}{wy:List Wy}{rs pre:List Rw}{r:Rw}{H:Nat}{ks:List PySem.Addr}{K:List (Int×Nat)}{C:List Int}{De:Ends3}{ES:St3->XN}{y0 y2 y5 x14 x15:Option D}{cs:List Int}{k:Nat}
noncomputable abbrev Fr(e_:List (Int×Int))(rs:List Rw)(cs:List Int)(p kn cr uw:PySem.Addr)(y0 y2 y5 x10 x11 x12 x13 x14 x15:Option D):St3:=[y0,some (.int e_.length),y2,some (.g_ (cs.map D.int)),some (rL rs),y5,some (.ref p),some (.ref kn),some (.ref cr),some (.ref uw),x10,x11,x12,x13,x14,x15]
noncomputable def vT:ISs:=.cons (.expr (.x_ V6 228274932 (Ar1 V11))) (.cons (.ifs (.and (.cmp .Eq (.ix V11 I0) (.con (.str "take"))) (.cmp .NotEq (.call 48 (Ar3 V6 V12 (.ix V11 I3))) (.con (.str "letter")))) (S1 (.ret (.con (.bl false)))) .nil) .nil)
noncomputable def pQ:ISs:=.cons (.app (.ix V7 V12) V13) (.cons (.ifs (.cmp .Eq (.ix V11 I0) (.con (.str "send"))) (S2 (.v_ V8 V13 (.bi (.list true) (Ar1 (.ix V7 V12)))) (.v_ V9 V13 (.ix V11 I3))) .nil) vT)
theorem yz(G:Good e_.length wy (pre++[r]))(h1:1<=e_.length)(h6:e_.length<=6)(hl:pre.length<59)(hM:Fm M)(hp:M p=some (mt b_ e_ wy pre))(hR:De.nx (Fr e_ rs cs p kn cr uw y0 y2 y5 (some (.int k)) (some r.d) (some (.int r.h)) (some (nD (hr pre r))) x14 x15) (put M p (mt b_ e_ wy (pre++[r])))) :
  aP ⟨(B cls b_ d_),aa T (B cls b_ d_) 10⟩ vT De ES (Fr e_ rs cs p kn cr uw y0 y2 y5 (some (.int k)) (some r.d) (some (.int r.h)) (some (nD (hr pre r))) x14 x15) M:=by
 have mp:∀{R:Nat->Prop},bh (B cls b_ d_) 228274932 (.ref p) M R=R 30:=λ{R}=>iF hp (by decide) (by decide) (by decide)
 have tp:=λ{Q:VK3}{E:XN}=>Av (cls:=cls) (d_:=d_) (n:=3) (Q:=Q) (E:=E) G hM hp (by omega)
 have eT:∀{M:MH}{Q:VK3},au .Eq (.str r.s) (.str "take") M Q=Q (.bl r.isT) M:=λ{M Q}=>by rw[<-mI];simp
 have ep:put M p (mt b_ e_ wy (pre++[r])) p=some (mt b_ e_ wy (pre++[r])):=ah;have hd:=G.wfl.hd r (by simp)
 simp[vT,Fr,↓mp,↓tp,gQ,↓eT];cases e:r with
 |take h v a b=>
  subst e;have hn:NoL (RS (pre++[.take h v a b])) a b h:=.inl (by
   rw[fN G];unfold unF;rw[eU];simp[Rw.tk])
  have r3:∀{M:MH}{Q:VK3},aq (Rw.take h v a b).d (.int 3) M Q=Q (.tup [.int a,.int b]) M:=λ{M Q}=>vU rfl
  have wd:∀{Q:VK3}{E:XN},aa T (B cls b_ d_) 10 48 [.ref p,.int (Rw.take h v a b).h,.tup [.int a,.int b]] (put M p (mt b_ e_ wy (pre++[.take h v a b]))) Q E=Q (.str "letter") (put M p (mt b_ e_ wy (pre++[.take h v a b]))):=λ{Q E}=>lG (n:=1) G h1 h6 (by simp;omega) (by simp only[okH,IV,Je];exact hd) hn (hM.put _ _) ep
  simp[Rw.isT,↓r3,↓wd];exact hR
 |look h v=>subst e;simp[Rw.isT];exact hR
 |r_ h v e1 l=>subst e;simp[Rw.isT];exact hR
 |send h v t=>subst e;simp[Rw.isT];exact hR
theorem sD{kk:List (List Int)}{dd:List D}(hl:kk.length=dd.length):getD (aj kk u) (am kk dd u d) w=if u=w then some d else getD kk dd w:=d9 hl
theorem yF(G:Good e_.length wy (pre++[r]))(h1:1<=e_.length)(h6:e_.length<=6)(hl:pre.length<59)(T0:TI b_ e_ wy pre r p kn cr uw x ks K M)(hR:∀M',LI b_ e_ wy (pre++[r]) p kn cr uw ks M'->De.nx (Fr e_ rs cs p kn cr uw y0 y2 y5 (some (.int k)) (some r.d) (some (.int r.h)) (some (nD (hr pre r))) x14 x15) M') :
  aP ⟨(B cls b_ d_),aa T (B cls b_ d_) 10⟩ pQ De ES (Fr e_ rs cs p kn cr uw y0 y2 y5 (some (.int k)) (some r.d) (some (.int r.h)) (some (nD (hr pre r))) x14 x15) M:=by
 have hd:=G.wfl.hd r (by simp)
 have nd:=T0.nd;simp only[Jo,Jb,not_or]at nd;obtain⟨⟨pk,pc,pu,ps⟩,⟨kc,ku,Pb⟩,⟨cu,Pc⟩,us,knd⟩:=nd;have xm:x∈ks:=Jy T0.ix;have xp:p≠x:=λz=>ps (z▸xm)
 have xk:kn≠x:=λz=>Pb (z▸xm)
 have xc:cr≠x:=λz=>Pc (z▸xm)
 have xu:uw≠x:=λz=>us (z▸xm)
 have eh:((r.h.toNat:Nat):Int)=r.h:=by omega
 have OC:∀{M':MH}{Q:VK3},M' kn=some (.lst (ks.map D.ref))->aq (.ref kn) (.int r.h) M' Q=Q (.ref x) M':=λ{M' Q} hk=>by rw[<-eh];exact qw hk T0.ix
 have hx:Hv e_.length (pre++[r]) r.h (gA e_.length pre r):=vq;have zK:K.length<PySem.sizeLine:=by
  have:=jy (C:=gA e_.length pre r) (rs:=pre++[r]) (T0.app G).1 (λq=>((T0.app G).2 q).trans (hx.mem G).symm) (by simp;omega)
  simp at this;rw[PySem.sizeLine_eq];omega
 have zL:(K++[hr pre r]).length<=PySem.sizeLine:=by simp;exact zK
 obtain⟨kk,dd,ic,OE,RK,cc⟩:=T0.ic;have old:∀a b v t,aF pre a b=some (.send a v t)->∃(k:Nat) (L:List (Int×Nat)) (Cl:List Int),b=k/\getD kk dd [a,b]=some (.g_ (L.map nD))/\Vec e_.length (pre++[r]) (a,k) Cl/\L.Nodup/\∀q,q∈L<->In Cl q:=λa b v t e=>by
  obtain⟨k,L,Cl,a1,a2,a3,a4⟩:=cc a b v t e;exact⟨k,L,Cl,a1,a2,a3.app,a4⟩
 have eS:∀{M:MH}{Q:VK3},au .Eq (.str r.s) (.str "send") M Q=Q (.bl r.isS) M:=λ{M Q}=>by rw[<-um];simp
 have ka:=AA G;have F1:=T0.fm.put x (.lst (K.map nD++[nD (hr pre r)]));have e4:(.lst (K.map nD++[nD (hr pre r)]):DO)=.lst ((K++[hr pre r]).map nD):=by simp
 have Kn:r.isS=false->((RS (pre++[r])).ku,(RS (pre++[r])).du)=uK pre r->aP ⟨(B cls b_ d_),aa T (B cls b_ d_) 10⟩ vT De ES (Fr e_ rs cs p kn cr uw y0 y2 y5 (some (.int k)) (some r.d) (some (.int r.h)) (some (nD (hr pre r))) x14 x15) (put M x (.lst (K.map nD++[nD (hr pre r)]))):=λns ek=>by
  have TN:(RS (pre++[r])).ku=(uK pre r).1:=congrArg Prod.fst ek;have TQ:(RS (pre++[r])).du=(uK pre r).2:=congrArg Prod.snd ek;refine yz G h1 h6 hl F1 (by rw[af xp];exact T0.ip) (hR _ ?_)
  refine T0.li G ah (by rw[af (Ja pk),af xk]) (λy hy N0=>(af (λz:y=p=>ps (z▸hy))).trans (af N0)) (by rw[af (Ja xp),ah,e4]) ⟨kk,dd,by rw[af (Ja pc),af xc];exact ic,OE,by simp;omega,λa b v t e=>?_⟩ (by rw[af (Ja pu),af xu,T0.iu,TN,TQ]) (F1.put _ _)
  rw[cZ]at e;split at e
  ·cases e;cases ns
  ·exact old a b v t e
 cases e:r with
 |send h v t=>
  subst e;have er:(nD (hr pre (.send h v t)))=.tup [.int h,.int ((ofH pre h).length:Int)]:=rfl;have r3:∀{M:MH}{Q:VK3},aq (Rw.send h v t).d (.int 3) M Q=Q (.int t) M:=λ{M Q}=>by simp[aq,az,ai,Rw.d,atI,ixN]
  obtain⟨M1,LW⟩:∃M1,put M x (.lst (K.map nD++[nD (hr pre (.send h v t))]))=M1:=⟨_,rfl⟩;rw[LW]at F1;have RL:M1 x=some (.lst ((K++[hr pre (.send h v t)]).map nD)):=by rw[<-LW,ah,e4]
  have lc:∀{Q:VK3},rBi (.list true) [.ref x] M1 Q=Q (.g_ ((K++[hr pre (.send h v t)]).map nD)) M1:=λ{Q}=>by simp[rBi,az,ai,RL,cf];intro _;simpa using zL
  have TR:M1 cr=some (.dt kk dd):=by rw[<-LW,af xc];exact ic
  have zc:kk.length<PySem.sizeLine:=by rw[PySem.sizeLine_eq];omega
  have sc:∀{y:D}{R:MH->Prop},aY (.ref cr) (nD (hr pre (.send h v t))) y M1 R=R (put M1 cr (.dt (aj kk [h,((ofH pre h).length:Int)]) (am kk dd [h,((ofH pre h).length:Int)] y))):=λ{y R}=>by simp[er,aY,TR,gx,c8,zc]
  obtain⟨M2,Lb⟩:∃M2,put M1 cr (.dt (aj kk [h,((ofH pre h).length:Int)]) (am kk dd [h,((ofH pre h).length:Int)] (.g_ (K.map nD++[nD (hr pre (.send h v t))]))))=M2:=⟨_,rfl⟩;have Pd:M2 uw=some (.dt (uK pre (.send h v t)).1 (uK pre (.send h v t)).2):=by rw[<-Lb,af (Ja cu),<-LW,af xu];exact T0.iu
  have zu:(uK pre (.send h v t)).1.length<PySem.sizeLine:=by have:(RS pre).ku.length<=pre.length:=G.init.fine.2.si.z3;rw[PySem.sizeLine_eq];show (RS pre).ku.length<_;omega
  have su:∀{y:D}{R:MH->Prop},aY (.ref uw) (nD (hr pre (.send h v t))) y M2 R=R (put M2 uw (.dt (aj (uK pre (.send h v t)).1 [h,((ofH pre h).length:Int)]) (am (uK pre (.send h v t)).1 (uK pre (.send h v t)).2 [h,((ofH pre h).length:Int)] y))):=λ{y R}=>by simp[er,aY,Pd,gx,c8,zu]
  have F3:=(F1.put cr (.dt (aj kk [h,((ofH pre h).length:Int)]) (am kk dd [h,((ofH pre h).length:Int)] (.g_ (K.map nD++[nD (hr pre (.send h v t))]))))).put uw (.dt (aj (uK pre (.send h v t)).1 [h,((ofH pre h).length:Int)]) (am (uK pre (.send h v t)).1 (uK pre (.send h v t)).2 [h,((ofH pre h).length:Int)] (.int t)));rw[Lb]at F3;simp[pQ,Fr,↓OC T0.ik,dq T0.kx,ck T0.kx,zK,gQ,↓eS,Rw.isS,LW,↓OC (M':=M1) (by rw[<-LW,af xk];exact T0.ik),↓lc,↓sc,Lb,↓r3,↓su]
  refine yz G h1 h6 hl F3 (by rw[af pu,<-Lb,af pc,<-LW,af xp];exact T0.ip) (hR _ ?_)
  refine T0.li G ah (by rw[af (Ja pk),af ku,<-Lb,af kc,<-LW,af xk]) (λy hy N0=>?_) (by rw[af (Ja xp),af (Ja xu),<-Lb,af (Ja xc)];exact RL) ⟨_,_,by rw[af (Ja pc),af cu,<-Lb,ah],cP OE,by have:=bS (ks:=kk) (k:=[h,((ofH pre h).length:Int)]);simp;omega,λa b v' t' e=>?_⟩ (by rw[af (Ja pu),ah];exact congrArg (λz:List (List Int)×List D=>some (DO.dt z.1 z.2)) ka.symm) (F3.put _ _)
  ·have yu:y≠uw:=λz=>us (z▸hy)
   have yc:y≠cr:=λz=>Pc (z▸hy)
   have yp:y≠p:=λz=>ps (z▸hy)
   rw[af yp,af yu,<-Lb,af yc,<-LW,af N0]
  ·rw[sD OE];by_cases e2:[h,((ofH pre h).length:Int)]=[a,b]
   ·rw[Jc e2];simp only[List.cons.injEq,and_true]at e2;obtain⟨rfl,rfl⟩:=e2;exact⟨_,_,gA e_.length pre (.send h v t),rfl,by rw[JW];rfl,eB,(T0.app G).1,(T0.app G).2⟩
   ·rw[IY e2];rw[cZ,IY λz=>e2 (by obtain⟨rfl,rfl⟩:=z;rfl)]at e
    exact old a b _ _ e
 |look h v=>
  subst e;simp[pQ,Fr,↓OC T0.ik,dq T0.kx,ck T0.kx,zK,gQ,↓eS,Rw.isS];exact Kn rfl ka
 |r_ h v e1 l=>
  subst e;simp[pQ,Fr,↓OC T0.ik,dq T0.kx,ck T0.kx,zK,gQ,↓eS,Rw.isS];exact Kn rfl ka
 |take h v a b=>
  subst e;simp[pQ,Fr,↓OC T0.ik,dq T0.kx,ck T0.kx,zK,gQ,↓eS,Rw.isS];exact Kn rfl ka
end
section
variable {cls b_ d_:Nat->PySem.Addr}{M:MH}{Q:VK3}{E:XN}{n:Nat}{p kn cr uw x:PySem.Addr}{e_:List (Int×Int)}{wy:List Wy}{rs pre:List Rw}{r:Rw}{H:Nat}{ks:List PySem.Addr}{K:List (Int×Nat)}{C:List Int}{De:Ends3}{ES:St3->XN}{y0 y2 y5 x14 x15:Option D}{cs:List Int}{k:Nat}
theorem Ar{α:Type}{l:List α}{y:α}(i:Nat)(h:l.Nodup)(hy:y∉l):(l.set i y).Nodup:=by
 refine List.pairwise_iff_getElem.mpr λa b ha hb L8 e=>?_
 rw[List.getElem_set,List.getElem_set]at e;rw[List.length_set]at ha hb;split at e<;>split at e
 ·omega
 ·exact hy (e▸J3 hb)
 ·exact hy (e▸J3 ha)
 ·exact (List.pairwise_iff_getElem.mp h) a b ha hb L8 e
theorem AC(xs:List D)(k:Nat)(h:k<=xs.length):dg xs none (some (k:Int))=xs.take k:=by
 have:HT.sIx xs.length xs.length (some (k:Int))=k:=by
  unfold HT.sIx;simp;split<;>omega
 simp only[dg,this];simp[HT.sIx]
theorem Good.gd{H:Nat}{l:List Rw}{x:Rw}(h:Good H wy (l++[x])):Gd H wy l x:=by
 generalize e:l++[x]=m at h;cases h with
 |nil=>simp at e
 |snoc _ d=>
  obtain⟨rfl,e2⟩:=List.append_inj' e rfl;cases e2;exact d
theorem qJ{Cl:List Int}{K':List (Int×Nat)}(G:Good e_.length wy (pre++[r]))(v:Hv e_.length pre r.h C)(l:Lv1 e_.length pre r Cl)(hm:∀q,q∈K'<->In C q\/In Cl q):∀q,q∈K'<->In (gA e_.length pre r) q/\q≠hr pre r:=λq=>by
 rw[hm,ua G v l];have own:=v.own G.init;have r0:=(G.wfl.hd r (by simp)).1
 constructor
 ·intro z;refine⟨z.imp_right .inl,λw=>?_⟩
  subst w;rcases z with ⟨_,z⟩|⟨_,z⟩
  ·simp only at z;omega
  ·rcases l.or with rfl|⟨u,lv⟩
   ·rw[e8]at z;omega
   ·have:=lv.le G.init r0;simp only at z;omega
 ·rintro⟨z|z|z,w⟩
  ·exact .inl z
  ·exact .inr z
  ·exact absurd z w
noncomputable def rN:ISs:=.cons (.ifs (.cmp .Eq (.ix V11 I0) (.con (.str "take"))) (S3 (.ifs (.not (.val (.call 49 (Ar6 V6 V12 (.ix V11 I3) V7 V8 V9)))) (S1 (.ret (.con (.bl false)))) .nil) (.v_ V7 V12 (.cat false (.ix V7 V12) (.comp true ["_law_name","_law_knows","_law_hand"] [none,some 7,some 12] (.name 0) (.seq (.ix V8 (.ix V11 I3))) (.yes (.cmp .NotIn V0 (.ix V1 V2))) V0))) (.expr (.bm .KN V9 (Ar1 (.ix V11 I3))))) .nil) pQ
theorem Ei(G:Good e_.length wy (pre++[r]))(h1:1<=e_.length)(h6:e_.length<=6)(hl:pre.length<59)(I:LI b_ e_ wy pre p kn cr uw ks M)(hR:∀M' ks,LI b_ e_ wy (pre++[r]) p kn cr uw ks M'->De.nx (Fr e_ rs cs p kn cr uw y0 y2 y5 (some (.int k)) (some r.d) (some (.int r.h)) (some (nD (hr pre r))) x14 x15) M') :
  aP ⟨(B cls b_ d_),aa T (B cls b_ d_) 10⟩ rN De ES (Fr e_ rs cs p kn cr uw y0 y2 y5 (some (.int k)) (some r.d) (some (.int r.h)) (some (nD (hr pre r))) x14 x15) M:=by
 have G0:=G.init;have hd:=G.wfl.hd r (by simp)
 obtain⟨h,eh⟩:∃h:Nat,r.h=h:=⟨r.h.toNat,by omega⟩
 have hh:h<e_.length:=by omega
 obtain⟨x,hx⟩:∃x,ks[h]?=some x:=⟨_,Jt (by rw[I.kl];exact hh)⟩
 obtain⟨K,C,mx,hv,Nj,mk⟩:=I.kh h x hx;rw[<-eh]at hv;have en:r.h.toNat=h:=by omega
 have eT:∀{M:MH}{Q:VK3},au .Eq (.str r.s) (.str "take") M Q=Q (.bl r.isT) M:=λ{M Q}=>by rw[<-mI];simp
 have Kn:Lv1 e_.length pre r []->uK pre r=((RS pre).ku,(RS pre).du)->aP ⟨(B cls b_ d_),aa T (B cls b_ d_) 10⟩ pQ De ES (Fr e_ rs cs p kn cr uw y0 y2 y5 (some (.int k)) (some r.d) (some (.int r.h)) (some (nD (hr pre r))) x14 x15) M:=λl eu=>
  yF G h1 h6 hl (x:=x) (K:=K) (ks:=ks) ⟨I.ip,I.ik,I.kl,by rw[en];exact hx,mx,Nj,qJ G hv l λq=>⟨λz=>.inl ((mk q).mp z),λz=>(mk q).mpr (z.resolve_right pq)⟩,λi y _ hy=>I.kh i y hy,I.ic,by rw[I.iu,eu],I.fm,I.nd⟩ λM' I'=>hR M' _ I'
 cases e:r with
 |take h' v a b=>
  subst e;have eh:h'=(h:Int):=eh;subst eh;obtain⟨t1,v',t2⟩:=G.gd.tk _ _ _ _ rfl;obtain⟨kk,dd,ic,OE,RK,cc⟩:=I.ic;obtain⟨kN,L,Cl,rfl,gl,vl,OB,ml⟩:=cc _ _ _ _ t2;have r3:∀{M:MH}{Q:VK3},aq (Rw.take (h:Int) v a kN).d (.int 3) M Q=Q (.tup [.int a,.int (kN:Int)]) M:=λ{M Q}=>vU rfl
  have lL:=jy OB (λq=>(ml q).trans (vl.mem G0).symm) (by omega)
  have lK:=jy Nj (λq=>(mk q).trans (hv.mem G0).symm) (by omega)
  have ci:=λ{Q:VK3}=>yT (Q:=Q) ic gl
  have cm:=λ{W:WC}{Q:VK3}=>qu (W:=W) (Q:=Q) (L:=L) I.ik hx mx (by omega) I.fm
  have QH:=λ{Q:VK3}=>qw (Q:=Q) I.ik hx
  have lN:(dm L K).length<=L.length:=List.length_filter_le ..;have hc:∀{Q:VK3},dn false (.ref x) (.g_ ((dm L K).map nD)) M Q=∀y,M y=none->Q (.ref y) (put M y (.lst ((K++dm L K).map nD))):=λ{Q}=>by
   have z:K.length+(dm L K).length<=PySem.sizeLine:=by rw[PySem.sizeLine_eq];omega
   simp[dn,ai,mx,cf,z]
  have rh:(Rw.take (h:Int) v a kN).h=(h:Int):=rfl;simp[rN,Fr,gQ,↓eT,Rw.isT,↓r3,rh];refine rE (n:=0) G0 h1 h6 (by omega) I hh ?_
  simp[↓QH,↓r3,↓ci,ao,↓cm,↓hc];intro y hy;have nd:=I.nd;simp only[Jo,Jb,not_or]at nd;obtain⟨⟨pk,pc,pu,ps⟩,⟨kc,ku,Pb⟩,⟨cu,Pc⟩,us,knd⟩:=nd;have yp:p≠y:=λz=>by rw[<-z,I.ip]at hy;cases hy
  have yk:kn≠y:=λz=>by rw[<-z,I.ik]at hy;cases hy
  have yc:cr≠y:=λz=>by rw[<-z,ic]at hy;cases hy
  have yu:uw≠y:=λz=>by rw[<-z,I.iu]at hy;cases hy
  have ys:y∉ks:=λz=>by
   obtain⟨i,hi⟩:=List.mem_iff_getElem?.mp z;obtain⟨_,_,w,_⟩:=I.kh i y hi;rw[hy]at w;cases w
  rw[d8 (by rw[af yk];exact I.ik) (j:=h) (iw (by rw[Jh,I.kl];exact hh))]
  rw[show (ks.map D.ref).set h (.ref y)=(ks.set h y).map D.ref by rw[List.map_set],show (K.map nD++(dm L K).map nD)=(K++dm L K).map nD by simp]
  obtain⟨M2,Lb⟩:∃M2,put (put M y (.lst ((K++dm L K).map nD))) kn (.lst ((ks.set h y).map D.ref))=M2:=⟨_,rfl⟩;have F2:Fm M2:=Lb▸(I.fm.put _ _).put _ _;rw[Lb];have Pd:M2 uw=some (.dt (RS pre).ku (RS pre).du):=by rw[<-Lb,af (Ja ku),af yu];exact I.iu
  have eg:getD (RS pre).ku (RS pre).du [a,(kN:Int)]=some (.int (h:Int)):=by rw[fN G0,unF,t1,t2];rfl
  have pp:∀{Q:VK3},rBm .KN (.ref uw) [.tup [.int a,.int (kN:Int)]] M2 Q=Q (.int (h:Int)) (put M2 uw (.dt (ax (RS pre).ku [a,(kN:Int)]) (aJ (RS pre).ku (RS pre).du [a,(kN:Int)]))):=λ{Q}=>by simp[rBm,Pd,gx,c8,eg]
  refine⟨by simp[tyB,eX,gG,Pd],?_⟩
  rw[pp];have at_:∀z,z≠y->z≠kn->z≠uw->put M2 uw (.dt (ax (RS pre).ku [a,(kN:Int)]) (aJ (RS pre).ku (RS pre).du [a,(kN:Int)])) z=M z:=λz z1 z2 z3=>by rw[af z3,<-Lb,af z2,af z1]
  refine yF G h1 h6 hl (x:=y) (K:=K++dm L K) (ks:=ks.set h y) ⟨(at_ _ yp pk pu).trans I.ip,by rw[af ku,<-Lb,ah],by rw[List.length_set];exact I.kl,by rw[en,List.getElem?_set_self (by rw[I.kl];exact hh)],by rw[af (Ja yu),<-Lb,af (Ja yk),ah],?_,qJ G hv ⟨kN,rfl,vl⟩ λq=>?_,λi z hi hz=>?_,⟨kk,dd,(at_ _ yc (Ja kc) cu).trans ic,OE,RK,cc⟩,ah,F2.put _ _,?_⟩ λM' I'=>hR M' _ I'
  ·rw[List.nodup_append];refine⟨Nj,List.Pairwise.sublist List.filter_sublist OB,λq hq w hw z=>?_⟩
   have:=(List.mem_filter.mp hw).2;rw[<-z]at this;simp[hq]at this
  ·rw[Jv,mk];unfold dm;rw[List.mem_filter,ml];by_cases z:In C q
   ·simp[z]
   ·simp[z,mk]
  ·rw[en]at hi;rw[JP (Ja hi)]at hz;have zm:=Jy hz;obtain⟨L',C',a1,a2⟩:=I.kh i z hz;exact⟨L',C',(at_ _ (λw=>ys (w▸zm)) (λw=>Pb (w▸zm)) (λw=>us (w▸zm))).trans a1,a2⟩
  ·have ms:∀{w},w∈ks.set h y->w∈ks\/w=y:=λz=>List.mem_or_eq_of_mem_set z
   simp only[Jo,Jb,not_or];exact⟨⟨pk,pc,pu,λz=>(ms z).elim ps yp⟩,⟨kc,ku,λz=>(ms z).elim Pb yk⟩,⟨cu,λz=>(ms z).elim Pc yc⟩,λz=>(ms z).elim us yu,Ar h knd ys⟩
 |look h' v=>
  subst e;simp[rN,Fr,gQ,↓eT,Rw.isT];exact Kn rfl rfl
 |r_ h' v e1 l=>
  subst e;simp[rN,Fr,gQ,↓eT,Rw.isT];exact Kn rfl rfl
 |send h' v t=>
  subst e;simp[rN,Fr,gQ,↓eT,Rw.isT];exact Kn rfl rfl
end
section
variable {cls b_ d_:Nat->PySem.Addr}{M:MH}{Q:VK3}{E:XN}{n:Nat}{p kn cr uw x:PySem.Addr}{e_:List (Int×Int)}{wy:List Wy}{rs pre:List Rw}{r:Rw}{H:Nat}{ks:List PySem.Addr}{K:List (Int×Nat)}{C:List Int}{De:Ends3}{ES:St3->XN}{y0 y2 y5 x11 x12 x13 x14 x15:Option D}{cs:List Int}{k:Nat}
noncomputable def zW:ISs:=.cons (.set 14 (.tup (Ar2 (.bin .Mod (.bin .FloorDiv (.ix V3 V10) (.con (.int 11))) V1) (.bin .Mod (.bin .FloorDiv (.ix V3 V10) (.con (.int 17))) (.bin .Add I1 (.bin .FloorDiv (.bi .len (Ar1 V4)) V1)))))) (.cons (.set 15 (.call 50 (Ar4 V1 (.sl true V4 .no (.yes V10)) V11 (.bin .FloorDiv (.ix V3 V10) (.con (.int 33)))))) (.cons (.ifs (.and (.cmp .Eq (.bin .Mod (.bin .FloorDiv (.ix V3 V10) (.con (.int 11))) I3) I0) (.val (.call 51 (Ar2 V6 V15)))) (S1 (.ret (.con (.bl false)))) .nil) (.cons (.ifs (.not (.val (.call 49 (Ar6 V6 (.bin .Mod (.bin .FloorDiv (.ix V3 V10) I7) V1) V14 V7 V8 V9)))) (S1 (.ret (.con (.bl false)))) .nil) rN)))
theorem FZ:dN=.cons (.set 11 (.ix V4 V10)) (.cons (.set 12 (.ix V11 I1)) (.cons (.set 13 (.tup (Ar2 V12 (.bi .len (Ar1 (.comp true ["_law_name","_law_hand"] [none,some 12] (.name 0) (.seq (.ix V7 V12)) (.yes (.cmp .Eq (.ix V0 I0) V1)) V0)))))) zW)):=rfl
theorem DK(G:Good e_.length wy rs)(hw:∀w∈wy,w.good e_.length)(h1:1<=e_.length)(h6:e_.length<=6)(hl:rs.length<59)(hc:cs.length=rs.length)(hk:k<rs.length)(I:LI b_ e_ wy (rs.take k) p kn cr uw ks M)(hR:∀M' ks x11 x12 x13 x14 x15,LI b_ e_ wy (rs.take (k+1)) p kn cr uw ks M'->De.nx (Fr e_ rs cs p kn cr uw y0 y2 y5 (some (.int k)) x11 x12 x13 x14 x15) M') :
  aP ⟨(B cls b_ d_),aa T (B cls b_ d_) 10⟩ dN De ES (Fr e_ rs cs p kn cr uw y0 y2 y5 (some (.int k)) x11 x12 x13 x14 x15) M:=by
 have et:rs.take (k+1)=rs.take k++[rs[k]]:=List.take_succ_eq_append_getElem hk;have G1:Good e_.length wy (rs.take k++[rs[k]]):=et▸G.take (k+1);rw[et]at hR;have tl:(rs.take k).length<59:=by rw[List.length_take];omega
 have ix:∀{M:MH}{Q:VK3},aq (rL rs) (.int (k:Int)) M Q=Q (rs[k]).d M:=λ{M Q}=>cg (cK (by simp[hk]))
 have ic:∀{M:MH}{Q:VK3},aq (.g_ (cs.map D.int)) (.int (k:Int)) M Q=Q (.int (cs.getD k 0)) M:=λ{M Q}=>cg (fh (by omega))
 have z1:(rs.take k).length<=PySem.sizeLine:=by rw[PySem.sizeLine_eq];omega
 have sl:∀{M:MH}{Q:VK3},iH true (rL rs) none (some (k:Int)) M Q=Q (rL (rs.take k)) M:=λ{M Q}=>by
  rw[wX,AC _ _ (by simp;omega),<-List.map_take,Jh,eq_true z1,true_and]
 generalize rs[k]=r at *
 generalize rs.take k=pre at *
 have G0:=G1.init;have hd:=G1.wfl.hd r (by simp)
 obtain⟨h,eh⟩:∃h:Nat,r.h=h:=⟨r.h.toNat,by omega⟩
 have hh:h<e_.length:=by omega
 obtain⟨x,hx⟩:∃x,ks[h]?=some x:=⟨_,Jt (by rw[I.kl];exact hh)⟩
 obtain⟨K,C,mx,hv,Nj,mk⟩:=I.kh h x hx;have lK:=jy Nj (λq=>(mk q).trans (hv.mem G0).symm) (by omega)
 have ol:=xN G0 hv Nj mk;rw[<-eh]at ol;have QH:∀{Q:VK3},aq (.ref kn) (.int r.h) M Q=Q (.ref x) M:=λ{Q}=>by rw[eh];exact qw I.ik hx
 have ln:∀{Q:VK3},rBi .len [.g_ ((K.filter λq=>decide (q.1=r.h)).map nD)] M Q=Q (.int ((ofH pre r.h).length:Int)) M:=λ{Q}=>by simp[ol]
 have tail:aP ⟨(B cls b_ d_),aa T (B cls b_ d_) 10⟩ zW De ES (Fr e_ rs cs p kn cr uw y0 y2 y5 (some (.int k)) (some r.d) (some (.int r.h)) (some (nD (hr pre r))) x14 x15) M:=by
  obtain⟨sx,e,Uk,he,hb,sp⟩:=uf (cls:=cls) (b_:=b_) (d_:=d_) G0 G1.gd hw (by omega) h6 (cs.getD k 0 / 33)
  have sp:=λ{Q:VK3}{E:XN}=>sp (n:=9) (Q:=Q) (E:=E) I.fm
  have lb:=λ{Q:VK3}{E:XN}=>ug (cls:=cls) (d_:=d_) (n:=2) (Q:=Q) (E:=E) G0 I.fm I.ip (by omega) he hb
  have p0:0<e_.length:=by omega
  have cd:∀i:Int,gq i (e_.length:Int)=True:=λi=>bq (by omega) (by omega)
  obtain⟨d,ed,d0,d1⟩:∃d:Int,(rs.length:Int) / e_.length=d/\0<=d/\d<=rs.length:=⟨_,rfl,Int.ediv_nonneg (by omega) (by omega),Int.ediv_le_self _ (by omega)⟩
  have Nq:∀i:Int,gq i (1+d)=True:=λi=>bq (by omega) (by omega)
  have dp:0<1+d:=by omega
  obtain⟨j,ej⟩:∃j:Nat,cs.getD k 0 / 7 % (e_.length:Int)=j:=⟨(cs.getD k 0 / 7 % (e_.length:Int)).toNat,by have:=J5 (cs.getD k 0 / 7) (show (e_.length:Int)≠0 by omega);omega⟩
  have hj:j<e_.length:=by have:=J1 (cs.getD k 0 / 7) (show (0:Int)<e_.length by omega);omega
  generalize cs.getD k 0=c at *
  have tA:∀{z:Option D}{R:Bool->MH->Prop}{E:XN},wpT ⟨(B cls b_ d_),aa T (B cls b_ d_) 10⟩ (.and (.cmp .Eq (.bin .Mod (.bin .FloorDiv (.ix V3 V10) (.con (.int 11))) I3) I0) (.val (.call 51 (Ar2 V6 V15)))) (Fr e_ rs cs p kn cr uw y0 y2 y5 (some (.int k)) (some r.d) (some (.int r.h)) (some (nD (hr pre r))) z (some sx.d)) M R E=R false M:=λ{z R E}=>by
   by_cases hm:c / 11 % 3=0<;>simp[Fr,↓ic,bq,hm,↓lb]
  simp[-fM,zW,Fr,↓ic,bq,cd,ed,Nq,dp,p0,↓sl,↓sp,↓tA,aE,ej];refine rE (n:=0) G0 h1 h6 (by omega) I hj ?_
  simp;exact Ei G1 h1 h6 tl I λM' ks I'=>hR M' ks _ _ _ _ _ I'
 rw[FZ];simp[Fr,↓ix,↓mZ,↓QH,iB mx,ao,↓AV (h:=r.h) mx lK I.fm,↓ln,aE];exact tail
end
section
variable {cls b_ d_:Nat->PySem.Addr}{M:MH}{Q:VK3}{p kn cr uw:PySem.Addr}{e_:List (Int×Int)}{wy:List Wy}{rs:List Rw}{ks:List PySem.Addr}{De:Ends3}{ES:St3->XN}{y0 y2 y5:Option D}{cs:List Int}
theorem qv(G:Good e_.length wy rs)(hw:∀w∈wy,w.good e_.length)(h1:1<=e_.length)(h6:e_.length<=6)(hl:rs.length<59)(hc:cs.length=rs.length)(hR:∀M' ks x10 x11 x12 x13 x14 x15,LI b_ e_ wy rs p kn cr uw ks M'->De.nx (Fr e_ rs cs p kn cr uw y0 y2 y5 x10 x11 x12 x13 x14 x15) M'):∀(m k:Nat)(ks:List PySem.Addr)(M:MH)(x10 x11 x12 x13 x14 x15:Option D),k+m=rs.length->LI b_ e_ wy (rs.take k) p kn cr uw ks M->
  bC ⟨(B cls b_ d_),aa T (B cls b_ d_) 10⟩ (.name 10) dN ES (λ_=>True) De (rng k m) (Fr e_ rs cs p kn cr uw y0 y2 y5 x10 x11 x12 x13 x14 x15) M
 |0,k,ks,M,x10,x11,x12,x13,x14,x15,hk,I=>by
  rw[Nat.add_zero]at hk;subst hk;rw[List.take_of_length_le (Jg _)]at I;exact⟨trivial,hR M ks _ _ _ _ _ _ I⟩
 |m+1,k,ks,M,x10,x11,x12,x13,x14,x15,hk,I=>by
  have ih:=λks M x11 x12 x13 x14 x15=>qv G hw h1 h6 hl hc hR m (k+1) ks M (some (.int k)) x11 x12 x13 x14 x15 (by omega)
  rw[jT,aG];refine⟨trivial,?_⟩;rw[show (k:Int)+1=((k+1:Nat):Int) by omega]
  generalize bC ⟨(B cls b_ d_),aa T (B cls b_ d_) 10⟩ (.name 10) dN ES (λ_=>True) De (rng ((k+1:Nat):Int) m)=K at ih ⊢
  rw[mq];exact DK (De:={De with nx:=K,ct:=K,bk:=De.nx}) (y0:=y0) (y2:=y2) (y5:=y5) G hw h1 h6 hl hc (by omega) I λM' ks x11 x12 x13 x14 x15 I'=>ih ks M' x11 x12 x13 x14 x15 I'
structure NL (M:MH)(kn:PySem.Addr)(ks:List PySem.Addr)(M':MH):Prop where
 old:∀q o,M q=some o->M' q=some o
 ik:M' kn=some (.lst (ks.map D.ref))
 ie:∀x∈ks,M' x=some (.lst [])
 nd:(kn::ks).Nodup
 fr:∀x∈kn::ks,M x=none
 fm:Fm M'
theorem qQ:∀(ds:List D)(ks:List PySem.Addr)(y:Option D)(M':MH),ks.length+ds.length<=10->NL M kn ks M'->(∀KH M',KH.length=ks.length+ds.length->NL M kn KH M'->Q (.ref kn) M')->gj W (.name 0) .no (.lst false .nil) (λ_=>True) kn Q ds (ks.map D.ref) [y] M'
 |[],ks,y,M',hl,N,hQ=>⟨trivial,hQ ks M' (by simp) N⟩
 |d::ds,ks,y,M',hl,N,hQ=>by
  simp only[Jr]at hl;have z:ks.length<PySem.sizeLine:=by rw[PySem.sizeLine_eq];omega
  rw[sy];refine⟨by rw[Jh];exact z,?_⟩
  simp[wpG,fK];intro x hx;have xk:kn≠x:=λe=>by have:=N.ik;rw[e,hx]at this;cases this
  have xs:x∉ks:=λm=>by have:=N.ie x m;rw[hx]at this;cases this
  refine⟨by rw[af xk];exact N.ik,?_⟩
  have e:ks.map D.ref++[.ref x]=(ks++[x]).map D.ref:=by simp
  rw[e];have kk:kn∉ks:=(Jo.mp N.nd).1;refine qQ ds (ks++[x]) (some d) _ (by simp;omega) ⟨λq o h=>?_,ah,λw hw=>?_,?_,λw hw=>?_,(N.fm.put _ _).put _ _⟩ λKH M' h1 h2=>hQ KH M' (by rw[h1];simp;omega) h2
  ·have qk:q≠kn:=λz=>by have:=N.fr kn Jd;rw[z,this]at h;cases h
   have h':=N.old q o h;rw[af qk,af (λz=>by rw[z,hx]at h';cases h')]
   exact h'
  ·rcases Jv.mp hw with w1|w1
   ·rw[af (λz:w=kn=>kk (z▸w1)),af (λz:w=x=>xs (z▸w1))];exact N.ie w w1
   ·rw[Ju.mp w1,af (Ja xk),ah]
  ·rw[Jo,List.nodup_append];refine⟨λm=>(Jv.mp m).elim kk λm=>xk (Ju.mp m),(Jo.mp N.nd).2,by simp,λa ha b hb z=>?_⟩
   rw[Ju.mp hb]at z;exact xs (z▸ha)
  ·rcases Jb.mp hw with rfl|w1
   ·exact N.fr _ Jd
   ·rcases Jv.mp w1 with w1|w1
    ·exact N.fr w (IX _ w1)
    ·rw[Ju.mp w1];exact ya N.old hx
end
section
noncomputable def wq(x:Nat×Nat):Wy:=⟨x.1,x.2,0,none⟩
variable {e_:List (Int×Int)}{rs:List Rw}
theorem BA(hp:M p=some (mt b_ e_ wy rs))(hl:rs.length<400):aa T (B cls b_ d_) (n+1) 28 [.ref p] M Q E=Q (rL rs) M:=by
 have z:rs.length<=PySem.sizeLine:=by rw[PySem.sizeLine_eq];omega
 have lc:∀{M:MH}{Q:VK3},rBi (.list true) [rL rs] M Q=Q (rL rs) M:=λ{M Q}=>by simp[rBi,az,ai,cf,z]
 simp[kL,dE,↓gI hp,↓lc,km]
noncomputable def zH:ISs:=.cons (.set 6 (.make false 6 (Ar1 V5))) (.cons (.set 7 (.comp false ["_law_hand"] [none] (.name 0) (.KD V1) .no (.lst false .nil))) (.cons (.set 8 (.Ku true)) (.cons (.set 9 (.Ku true)) (.cons (.Kh (.name 10) (.KD (.bi .len (Ar1 V4))) dN) (.cons (.ifs (.or (.cmp .NotEq (.call 48 (Ar3 V6 V1 (.tup (Ar2 I0 I0)))) (.con (.str "hand"))) (.cmp .NotEq (.call 48 (Ar3 V6 (.neg I1) (.tup (Ar2 I0 I0)))) (.con (.str "hand")))) (S1 (.ret (.con (.bl false)))) .nil) (.cons (.ret (.cmp .Eq (.x_ V6 1701868 .nil) V4)) .nil))))))
theorem Gc(G:Good e_.length wy rs)(hw:∀w∈wy,w.good e_.length)(h1:1<=e_.length)(h6:e_.length<=6)(hl:rs.length<59)(TU:Fm M){cs:List Int}(hc:cs.length=rs.length){De:Ends3}(hQ:∀M',De.rt (.bl true) M') :
  aP ⟨(B cls b_ d_),aa T (B cls b_ d_) 10⟩ zH De ES [y0,some (.int e_.length),y2,some (.g_ (cs.map D.int)),some (rL rs),some (wO b_ e_ wy),none,none,none,none,none,none,none,none,none,none] M:=by
 have hb:(rs.length:Int)<4611686018427387904:=by omega
 have MJ:(e_.length:Int)<4611686018427387904:=by omega
 simp[zH,aE,hb,MJ,ao];intro p hp;refine zp (n:=9) ?_;intro kn QI;have Mp:put M p (mt b_ e_ wy []) p=some (mt b_ e_ wy []):=ah;have F0:=TU.put p (mt b_ e_ wy []);generalize put M p (mt b_ e_ wy [])=M0 at *
 refine qQ (M:=M0) _ [] none _ (by simp[rng];omega) ⟨λq o h=>?_,ah,λ_ h=>(by cases h),by simp,λx hx=>?_,F0.put _ _⟩ λks M1 QJ N=>?_
 ·rw[af (λz=>by rw[z,QI]at h;cases h)];exact h
 ·rw[Ju.mp hx];exact QI
 intro cr Pe uw ND;obtain⟨RM,ND⟩:=ba ND;have QJ:ks.length=e_.length:=by simpa [rng] using QJ
 have pk:p≠kn:=λz=>by rw[z,QI]at Mp;cases Mp
 have ps:p∉ks:=λz=>by have:=N.fr p (IX _ z);rw[this]at Mp;cases Mp
 have QK:=N.old _ _ Mp;have ne:∀{a b o},M1 a=some o->M1 b=none->a≠b:=λ{a b o} h h' z=>by rw[z,h']at h;cases h
 have at_:∀a o,M1 a=some o->put (put M1 cr (.dt [] [])) uw (.dt [] []) a=some o:=λa o h=>by rw[af (ne h ND),af (ne h Pe)];exact h
 have I:LI b_ e_ wy (rs.take 0) p kn cr uw ks (put (put M1 cr (.dt [] [])) uw (.dt [] [])):=by
  refine⟨at_ _ _ QK,at_ _ _ N.ik,QJ,λi x hx=>⟨[],[],at_ _ _ (N.ie x (Jy hx)),.inl ⟨rfl,rfl⟩,List.nodup_nil,λq=>⟨λz=>(by cases z),λz=>absurd z pq⟩⟩,⟨[],[],by rw[af (Ja RM),ah],rfl,Nat.zero_le _,λa b v t e=>?_⟩,by rw[ah];rfl,(N.fm.put _ _).put _ _,?_⟩
  ·simp[aF,ofH]at e
  ·simp only[Jo,Jb,not_or];exact⟨⟨pk,ne QK Pe,ne QK ND,ps⟩,⟨ne N.ik Pe,ne N.ik ND,(Jo.mp N.nd).1⟩,⟨Ja RM,λz=>ne (N.ie _ z) Pe rfl⟩,λz=>ne (N.ie _ z) ND rfl,(Jo.mp N.nd).2⟩
 refine qv G hw h1 h6 hl hc (λM' ks x10 x11 x12 x13 x14 x15 I'=>?_) rs.length 0 ks _ none none none none none none (by omega) I
 have n1:∀{Q:VK3}{E:XN},aa T (B cls b_ d_) 10 48 [.ref p,.int e_.length,.tup [.int 0,.int 0]] M' Q E=Q (.str "hand") M':=λ{Q E}=>jb (n:=1) (by simp[okH]) I'.fm I'.ip
 have n2:∀{Q:VK3}{E:XN},aa T (B cls b_ d_) 10 48 [.ref p,.int (-1),.tup [.int 0,.int 0]] M' Q E=Q (.str "hand") M':=λ{Q E}=>jb (n:=1) (by simp[okH]) I'.fm I'.ip
 have ml:∀{R:Nat->Prop},bh (B cls b_ d_) 1701868 (.ref p) M' R=R 28:=λ{R}=>iF I'.ip (by decide) (by decide) (by decide)
 have eq:∀{M:MH}{Q:VK3},au .Eq (rL rs) (rL rs) M Q=Q (.bl true) M:=λ{M Q}=>by simp only[au];rw[xa (rs:=rs) rfl rfl];rfl
 simp[Fr,aE,↓n1,↓n2,↓ml,↓BA I'.ip (by omega),↓eq]
 exact hQ _
theorem Cm:vh=.cons (.set 1 (.bin .Add I1 (.bin .Mod (.call 43 (Ar2 V0 I0)) I6))) (.cons (.set 2 (.call 44 (Ar2 V1 (.bin .FloorDiv (.call 43 (Ar2 V0 I0)) I6)))) (.cons (.set 3 (.sl true V0 (.yes I3) (.yes (.con (.int 53))))) (.cons (.set 4 (.call 46 (Ar3 V1 V2 V3))) (.cons (.set 5 (.make true 7 (Ar2 (.rep true (.lst true (Ar1 (.tup (Ar2 I1 I2)))) V1) (.comp true ["_law_one","_law_other"] [none,none] (.tup [0,1]) (.seq V2) .no (.tup (Ar4 V0 V1 I0 (.con .i_))))))) zH)))):=rfl
theorem main(cls b_ d_:Nat->PySem.Addr)(ns:List Int)(hl:ns.length<=63):aa (L.map FL.fb) (B cls b_ d_) 11 52 [scr ns] (λ_=>none) (λd _=>d=.bl true) (λ_ _=>False):=by
 rw[Gq];simp only[C0,Cm];obtain⟨c0,h0⟩:=Bd (cls:=cls) (b_:=b_) (d_:=d_) ns 0;have Ry:∀{M:MH}{Q:VK3}{E:XN},aa T (B cls b_ d_) 10 43 [scr ns,.int 0] M Q E=Q (.int c0) M:=h0;obtain⟨H,hH⟩:∃H:Nat,1+c0 % 6=H:=⟨(1+c0 % 6).toNat,by omega⟩
 have H1:1<=H:=by omega
 have H6:H<=6:=by omega
 obtain⟨cs,OQ,Mf⟩:∃cs:List Int,dg (ns.map D.int) (some 3) (some 53)=cs.map D.int/\cs.length<=53:=by
  refine⟨_,by unfold dg;rw[<-List.map_drop,<-List.map_take],?_⟩
  rw[List.length_take,List.length_drop];have:HT.sIx (ns.map D.int).length (ns.map D.int).length (some 53)<=53:=by
   unfold HT.sIx;simp;omega
  omega
 have TV:cs.length<=PySem.sizeLine:=by rw[PySem.sizeLine_eq];omega
 simp[Ry,hH,bq,aE];refine Bt (n:=9) H6 λps P=>?_
 simp[OQ,TV];obtain⟨wy,OF⟩:∃wy,wy=ps.map wq:=⟨_,rfl⟩;obtain⟨e_,Nk⟩:∃e_,e_=List.replicate H ((1:Int),(2:Int)):=⟨_,rfl⟩;have lk:e_.length=H:=by rw[Nk];exact List.length_replicate
 have TX:ps.length<=36:=by have:=P.len;omega
 have hT:Tx H ps wy:=λp hp=>by rw[OF,JM];exact JQ.mpr ⟨p,hp,rfl⟩
 refine DW (n:=7) (wy:=wy) (by omega) (by omega) TX hT cs (by omega) Fm.nil λrs Ul G=>?_
 have hz:H<=PySem.sizeLine:=by rw[PySem.sizeLine_eq];omega
 have er:∀{M:MH}{Q:VK3},gY true (.g_ [.tup [.int 1,.int 2]]) (.int H) M Q=Q (.g_ (e_.map cD)) M:=λ{M Q}=>by
  have e:(List.replicate H [D.tup [.int 1,.int 2]]).flatten=e_.map cD:=by rw[List.flatten_replicate_singleton,Nk,List.map_replicate];rfl
  have a2:(H:Int)<9223372036854775808:=by omega
  have a3:e_.length<=PySem.sizeLine:=by rw[lk];exact hz
  simp[gY,ai,cf,e,a2,hz,a3]
 simp[↓er,ao,aE];rw[dS qD (λZ=>∃a b,Z=[a,b]) (λx=>[some (.int x.1),some (.int x.2)]) (λ_=>true) (λx=>wD (wq x)) ⟨_,_,rfl⟩ Fm.nil (by omega) (λx _=>⟨⟨_,_,rfl⟩,by rintro Z ⟨a,b,rfl⟩ M k;simp[qD]⟩) (λx _ M' hE Q=>rfl) (λx _ _ M' hE Q=>by simp[wD,wq,oi,aE]),List.filter_eq_self.mpr (λ_ _=>rfl),show (ps.map λx=>wD (wq x))=wy.map wD by rw[OF,JM];rfl]
 have hg:∀w∈wy,w.good e_.length:=λw hw=>by
  rw[OF]at hw;obtain⟨x,hx,rfl⟩:=JQ.mp hw;obtain⟨g1,g2,g3,_⟩:=P.at_ x hx;rw[lk];exact⟨by simp[okH,wq];omega,by simp[okH,wq];omega,λe=>g3 (Int.ofNat_inj.mp e),rfl⟩
 have nd:(wy.map pr).Nodup:=by
  rw[OF,JM];refine List.Pairwise.map _ (λx y h e=>h ?_) P.nd
  simp[pr,wq]at e;exact Prod.ext (by omega) (by omega)
 have mk:=λ{Q:VK3}{E:XN}=>xZ (cls:=cls) (b_:=b_) (d_:=d_) (M:=λ_=>none) (n:=4) (Q:=Q) (E:=E) (e_:=e_) (wy:=wy) Fm.nil (by omega) (by omega) (λc hc=>by rw[Nk]at hc;rw[List.eq_of_mem_replicate hc];rfl) (by rw[OF,Jh];omega) hg nd
 refine (mk (E:=λ_ _=>False)).mpr ?_
 rw[<-lk]at G ⊢;exact Gc G hg (by omega) (by omega) (by omega) Fm.nil (by omega) λ_=>rfl
end
end G
open PySem PySem.W PyProof.Rows
set_option maxRecDepth 100000 in
set_option maxHeartbeats 0 in
theorem PySem.Challenge.cw_driftmeet_k53_news_holds : PySem.Challenge.rw_driftmeet_k53_news.Holds := by
 w_on
 refine PySem.W.holds_law (by decide +kernel) λTY=>?_
 refine holds_open (q:=HD.view) (loose:=HD.loose) (Xt:=HD.Xt) (XP:=XL HD.view []) (Yf:=Hook.obs (kHook HD.K HD.as HD.as_eq)) (Ya:=Hook.val (kHook HD.K HD.as HD.as_eq)) (YP:=Hook.says (kHook HD.K HD.as HD.as_eq)) (N:=11172) HD.left (Hook.of (kHook HD.K HD.as HD.as_eq)) (Hook.keeps (kHook HD.K HD.as HD.as_eq)) (λs e=>xl_of s (Bool.and_eq_true_iff.mp e).1) XL.keeps (by rfl) (by rfl) (by rfl) (λs e=>recFacts_of (Bool.and_eq_true_iff.mp e).2) (by kernel_rfl) (by first|assumption|decide +kernel) (by decide +kernel) ⟨rfl,rfl,rfl,rfl,rfl,by decide +kernel⟩ ?hw ?hc
 (case hw=>w_witness2)
 k_fill
 refine L2.walkD (l:=PySem.Challenge.rw_driftmeet_k53_news) (k:=11) (f:=52) (fl:=G.l_law) (x:="_law_script") (L:=G.L) (nm:=G.nm) (BB:=G.B) rfl rfl ⟨rfl,by decide,by decide⟩ (λw h Y=>PySem.W.kIn_of Y) rfl rfl rfl rfl ?F (λcls b_ d_ ns hl=>G.main cls b_ d_ ns hl)
 case F=>
  intro w mg h KX Gn
  refine' G.top_mk (qt0:=827) (h6:=108) (xod6:=none) (xan6:=none) (xsl6:=#[]) (xoc6:=.type "function") (xkV6:=.none) (xdc6:=.none) (xpm6:=.str "driftmeet.errors" 194) (xcd6:=.ref 107) (xct6:=.none) KX Gn ?Ql ?x6 ?O5 ?O6 ?Qv ?Qw ?O7 ?Qx ?O8
  (case Ql=>kernel_rfl)
  (case x6=>kernel_rfl)
  (case O5=>kernel_rfl)
  (case O6=>kernel_rfl)
  (case Qv=>rfl)
  (case Qw=>kernel_rfl)
  (case O7=>kernel_rfl)
  (case Qx=>kernel_rfl)
  (case O8=>kernel_rfl)
  all_goals exact⟨0,0,0,0⟩
