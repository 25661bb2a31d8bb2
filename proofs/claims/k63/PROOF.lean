import PyProof.Rows.All
import Wide.All
import OpenK.AllK
import Wide.FinOn
import Lean
import PyProof.EqAt
import PyProof.EqKinds
import PyProof.TupleCall
import PySem.Challenge.RW_driftmeet_k63_what_is_left
set_option Elab.async false
set_option linter.all false
set_option bootstrap.genMatcherCode false
set_option genSizeOf false
set_option maxRecDepth 100000
set_option maxHeartbeats 4000000
namespace L2
open PySem PySem.Spec PyProof.Rows
abbrev JJ:=PySem.W.Frag
def Fr:=@wpAny_bind
def Ij:=@Bool.and_eq_true
def Ik:=@wpAny_pure
def Il:=@Heap.get?_push_of_some
def Im:=@if_neg
def Io:=@List.mem_cons_of_mem
def Ip:=@List.map_cons
def Iq:=@Nat.le_refl
def Ir:=@Heap.lt_size
def Iu:=@if_pos
def Iv:=@List.mem_cons
def Iw:=@Nat.lt_of_lt_of_le
def Ix:=@List.mem_cons_self
def Iy:=@decide_eq_true_eq
def Iz:=@Heap.get?_push_size
def IB:=@Ne.symm
def IC:=@List.getElem?_eq_some_iff
def ID:=@List.length_map
def IF:=@List.size_toArray
def IG:=@List.getElem?_eq_getElem
def IH:=@beq_iff_eq
def IJ:=@List.getElem?_map
def IK:=@Option.some.inj
def IL:=@List.all_eq_true
def IM:=@Nat.ne_of_lt
def IN:=@List.length_cons
def IP:=@Bool.false_ne_true
def IQ:=@Heap.get?_update_other
def IR:=@Nat.le_trans
def IU:=@List.mem_append_right
def IV:=@List.mem_map
def IW:=@List.mem_of_getElem?
def IX:=@List.mem_append
def IY:=@List.mem_singleton
def IZ:=@beq_eq_false_iff_ne
def Ja:=@List.nodup_cons
def Jb:=@Heap.get?_update_self
def Jc:=@wpAny_holding
def Jd:=@wpAny_newObj_type
def Je:=@List.length_append
def Jf:=@Bool.false_eq_true
def Jg:=@List.mem_append_left
def Jh:=@List.not_mem_nil
def Ji:=@tupleKind_room_in1
def Jj:=@List.map_append
def Jk:=@wpAny_field
def Jl:=@Int.emod_lt_of_pos
def Jm:=@List.lookup_cons
def Jn:=@Int.emod_nonneg
def Jo:=@decide_eq_false
def Jp:=@List.getElem?_set_ne
def Jq:=@wpAny_call_entry
def Jr:=@Array.getElem?_eq_some_iff
def Js:=@Nat.lt_irrefl
def Jt:=@wpAny_truthy_bool
def Ju:=@Int.toNat_natCast
def Jv:=@List.find?_cons
def Jw:=@List.getElem_mem
def Jx:=@Int.eq_ofNat_of_zero_le
def Jy:=@wpAny_dictEntries
def Jz:=@List.append_nil
def JA:=@wpAny_mono
def JB:=@of_decide_eq_true
def JD:=@Nat.le_add_right
def JE:=@Obj.data_mapFields
def JF:=@Nat.le_succ
def JG:=@wpAny_setField
def JH:=@Option.isSome_iff_exists
def JI:=@Bool.and_eq_true_iff
end L2
namespace L2
open PySem PySem.Spec PyProof.Rows
noncomputable abbrev Key:=Sum Int Str
noncomputable def jy:Key->Value->Bool
 |.inl k,v=>Value.isInt k v
 |.inr x,v=>Value.isStrOf x v
noncomputable def Fo(w:World):Key->Int
 |.inl k=>hashInt k
 |.inr x=>hashStr w x
theorem aH:∀{k:Key}{v:Value},jy k v=true->(∃i t,k=Sum.inl i/\v=Value.int i t)\/(∃x t,k=Sum.inr x/\v=Value.str x t)
 |.inl i,v,h=>by
  obtain⟨t,e⟩:=Value.isInt_shape (k:=i) (v:=v) h;exact .inl ⟨i,t,rfl,e⟩
 |.inr x,v,h=>by
  obtain⟨t,e⟩:=Value.isStrOf_shape (x:=x) (v:=v) h;exact .inr ⟨x,t,rfl,e⟩
theorem rQ(i:Int)(t:Tok):jy (.inl i) (.int i t)=true:=by simp[jy,Value.isInt]
theorem rM(x:Str)(t:Tok):jy (.inr x) (.str x t)=true:=by simp[jy,Value.isStrOf]
theorem yQ(a b:Int):decide ((Sum.inl a:Key)=Sum.inl b)=(a == b):=by
 by_cases e:a=b
 ·subst e;simp
 ·have h:¬ (Sum.inl a:Key)=Sum.inl b:=λq=>e (Sum.inl.inj q)
  rw[Jo h];exact (IZ.mpr e).symm
theorem AL(a b:Str):decide ((Sum.inr a:Key)=Sum.inr b)=decide (a=b):=by
 by_cases e:a=b
 ·subst e;simp
 ·have h:¬ (Sum.inr a:Key)=Sum.inr b:=λq=>e (Sum.inr.inj q)
  rw[Jo h,Jo e]
theorem A1(a:Int)(b:Str):decide ((Sum.inl a:Key)=Sum.inr b)=false:=Jo (λq=>nomatch q)
theorem za(a:Str)(b:Int):decide ((Sum.inr a:Key)=Sum.inl b)=false:=Jo (λq=>nomatch q)
noncomputable def aE(prog:Program)(w:World):PySem.KeyKind prog w Key where
 is:=jy
 hash:=Fo w
 inj:=λv a b ha hb=>by
  rcases aH ha with ⟨i,t,rfl,rfl⟩|⟨x,t,rfl,rfl⟩
  ·rcases aH hb with ⟨j,u,rfl,e⟩|⟨y,u,rfl,e⟩
   ·injection e with e1 _;rw[e1]
   ·exact nomatch e
  ·rcases aH hb with ⟨j,u,rfl,e⟩|⟨y,u,rfl,e⟩
   ·exact nomatch e
   ·injection e with e1 _;rw[e1]
 byValue:=λk v h=>by
  rcases aH h with ⟨i,t,rfl,rfl⟩|⟨x,t,rfl,rfl⟩<;>rfl
 pyHash:=λhv h=>by
  rcases aH hv with ⟨i,t,rfl,rfl⟩|⟨x,t,rfl,rfl⟩
  ·exact wpAny_pyHash_int h
  ·exact wpAny_pyHash_str h
 eqBool:=λhu hv h=>by
  rcases aH hu with ⟨i,t,rfl,rfl⟩|⟨x,t,rfl,rfl⟩
  ·rcases aH hv with ⟨j,u,rfl,rfl⟩|⟨y,u,rfl,rfl⟩
   ·rw[yQ]at h;exact wpAny_eqBool_int h
   ·rw[A1]at h;exact SeqAt.EqAt.int_str i t y u _ _ _ _ h
  ·rcases aH hv with ⟨j,u,rfl,rfl⟩|⟨y,u,rfl,rfl⟩
   ·rw[za]at h;exact SeqAt.EqAt.str_int x t j u _ _ _ _ h
   ·rw[AL]at h;exact wpAny_eqBool_str h
 «strs»:=λk x t v h=>by
  rcases aH h with ⟨i,u,rfl,e⟩|⟨y,u,rfl,e⟩
  ·exact nomatch e
  ·injection e with e1 _
   subst e1;cases v<;>rfl
theorem oG(prog:Program)(w:World)(k:Key)(v:Value):(aE prog w).is k v=jy k v:=rfl
theorem mU(prog:Program)(w:World)(i:Int)(t:Tok):(aE prog w).is (.inl i) (.int i t)=true:=rQ i t
theorem nA(prog:Program)(w:World)(x:Str)(t:Tok):(aE prog w).is (.inr x) (.str x t)=true:=rM x t
inductive V where
 |j_|bl (b:Bool)|int (i:Int)|str (x:Str)|Oq (b:Array UInt8)|Ot (b:UInt64)|ref (a:Addr)|ty (n:String)
 deriving DecidableEq
def RelV:V->Value->Prop
 |.j_,u=>u=Value.none
 |.bl b,u=>u=Value.bool b
 |.int i,u=>∃t,u=Value.int i t
 |.str x,u=>∃t,u=Value.str x t
 |.Oq b,u=>∃t,u=Value.bytes b t
 |.Ot b,u=>∃t,u=Value.float b t
 |.ref a,u=>u=Value.ref a
 |.ty n,u=>u=Value.type n
abbrev Vals:List V->List Value->Prop:=Paired RelV
theorem Vals.length{xs:List V}{us:List Value}(r:Vals xs us):xs.length=us.length:=Paired.length r
theorem Vals.get:∀{xs:List V}{us:List Value}{i:Nat}{x:V},Vals xs us->xs[i]?=some x->∃u,us[i]?=some u/\RelV x u
 |_,_,_,_,.nil,e=>by simp at e
 |_,_,0,_,.cons r _,e=>by simp at e;subst e;exact⟨_,rfl,r⟩
 |_,_,i+1,x,.cons _ t,e=>by
  obtain⟨u,h1,h2⟩:=Vals.get (i:=i) (x:=x) t (by simpa using e)
  exact⟨u,by simpa using h1,h2⟩
theorem Vals.set(r:RelV x u):∀{xs:List V}{us:List Value} (i:Nat),Vals xs us->Vals (xs.set i x) (us.set i u)
 |_,_,_,.nil=>.nil
 |_,_,0,.cons _ t=>.cons r t
 |_,_,i+1,.cons q t=>.cons q (Vals.set r i t)
theorem Vals.append:∀{xs ys:List V}{us ws:List Value},Vals xs us->Vals ys ws->Vals (xs++ys) (us++ws)
 |_,_,_,_,.nil,s=>s
 |_,_,_,_,.cons r t,s=>.cons r (Vals.append t s)
theorem Vals.take:∀{xs:List V}{us:List Value} (n:Nat),Vals xs us->Vals (xs.take n) (us.take n)
 |_,_,0,_=>.nil
 |_,_,_+1,.nil=>.nil
 |_,_,n+1,.cons r t=>.cons r (Vals.take n t)
theorem Vals.drop:∀{xs:List V}{us:List Value} (n:Nat),Vals xs us->Vals (xs.drop n) (us.drop n)
 |_,_,0,r=>r
 |_,_,_+1,.nil=>.nil
 |_,_,n+1,.cons _ t=>Vals.drop n t
def RelO:Option V->Option Value->Prop
 |some v,some u=>RelV v u
 |none,none=>True
 |_,_=>False
def KV:List (κ×V)->List (κ×Value)->Prop:=Paired λ(p:κ×V) (q:κ×Value)=>p.1=q.1/\RelV p.2 q.2
noncomputable def kV:Key->V
 |.inl i=>.int i
 |.inr x=>.str x
inductive HO where
 |lst (xs:List V)
 |tup (xs:List V)
 |dK (k_:List (Key×V))|dT (k_:List (List Key×V))
 |set (S:Int->Bool) (n:Nat)
 |ins (C dx:Addr) (fs:List (Str×V))
 |own (x:Addr)
 |xd (fs:List (Str×V))
 |met (f x:Addr)
 |rng (lo hi:Int)
 |s_ (o:Obj) (u:HO)
 |LL (ps:Array Value)
 |ext (φ:Heap->Prop)
noncomputable abbrev Hp:=Addr->Option HO
noncomputable def upd(H:Hp)(a:Addr)(o:HO):Hp:=λb=>if b=a then some o else H b
theorem ag:upd H a o a=some o:=by unfold upd;rw[Iu rfl]
theorem ae(h:b≠a):upd H a o b=H b:=by unfold upd;rw[Im h]
theorem de{H:Hp}{a b:Addr}{o u:HO}(h:H a=some o)(h':H b=some u)(d:o≠u):a≠b:=by
 intro e;subst e;rw[h]at h';exact d (IK h')
theorem ay{H:Hp}{a b:Addr}{o:HO}(h:H a=some o)(h':H b=none):a≠b:=by
 intro e;subst e;rw[h]at h';cases h'
section
variable (P:Program) (w:World)
def ObjOk(H:Hp)(h:Heap)(a:Addr):HO->Prop
 |.lst xs=>xs.length<=sizeLine/\∃(its:List Value) (n:Nat),Vals xs its/\h.get? a=some {cls:=.type "list",data:=.seq its.toArray n}
 |.tup xs=>xs.length<=sizeLine/\∃its:List Value,Vals xs its/\IsTup h a its.toArray
 |.dK k_=>k_.length<=sizeLine/\(a == sysModules)=false/\∃vs,KV k_ vs/\h.DictOf (aE P w) a vs
 |.dT k_=>k_.length<=sizeLine/\(a == sysModules)=false/\∃xs:List (List Key×Addr×Value),
   Paired (λ(p:List Key×V) (q:List Key×Addr×Value)=>p.1=q.1/\H q.2.1=some (.tup (p.1.map kV))/\RelV p.2 q.2.2) k_ xs/\
   ∃o es ep,h.get? a=some o/\o.ExactDict/\o.data=.dict es ep/\es.toList=xs.map (entryOfKey (tupleKind (aE P w)))/\(xs.map (·.1)).Nodup
 |.set S n=>h.SetOf (intKind P w) a S n
 |.ins C dx fs=>H dx=some (.own a)/\fs.length<=1000/\dx≠a/\h.get? a=some (PySem.W.instObj C dx)/\
   ∃mA,h.Ns1 dx mA/\(∀f,RelO (fs.lookup f) (mA f))/\PySem.Within mA (fs.map (·.1))
 |.own _=>∃o,h.get? a=some o
 |.xd fs=>∃mA,h.Ns1 a mA/\∀f,RelO (fs.lookup f) (mA f)
 |.rng lo hi=>∃t u v,h.get? a=some {cls:=.type "range",data:=.fields #[.int lo t,.int hi u,.int 1 v]}
 |.s_ o u=>h.get? a=some o/\ObjOk H h a u
 |.LL ps=>h.get? a=some {cls:=.none,data:=.fields ps}
 |.met f x=>h.get? a=some (PySem.W.methodObj (.ref f) (.ref x))
 |.ext φ=>φ h/\(∃o,h.get? a=some o)/\∀h1 h2:Heap,φ h1->(∀o,h1.get? a=some o->h2.get? a=some o)->φ h2
def HOk(H:Hp)(h:Heap):Prop:=∀a o,H a=some o->ObjOk P w H h a o
end
section
variable {P:Program}{w:World}{H H':Hp}{h h':Heap}{a:Addr}{o:HO}
theorem ObjOk.lt(x:ObjOk P w H h a o):a<h.objs.size:=by
 cases o with
 |lst xs=>obtain⟨_,_,_,_,e⟩:=x;exact Ir e
 |tup xs=>obtain⟨_,_,_,p⟩:=x;exact p.lt
 |dK k_=>obtain⟨_,_,_,_,o,_,_,e,_⟩:=x;exact Ir e
 |dT k_=>obtain⟨_,_,_,_,o,_,_,e,_⟩:=x;exact Ir e
 |set S n=>obtain⟨o,_,_,_,e,_⟩:=x;exact Ir e
 |ins C dx fs=>obtain⟨_,_,_,e,_⟩:=x;exact Ir e
 |own y=>obtain⟨_,e⟩:=x;exact Ir e
 |xd fs=>obtain⟨_,⟨_,_,_,e,_⟩,_⟩:=x;exact Ir e
 |rng lo hi=>obtain⟨_,_,_,e⟩:=x;exact Ir e
 |s_ ob u=>obtain⟨e,_⟩:=x;exact Ir e
 |LL ps=>exact Ir (show h.get? a=some _ from x)
 |met f y=>exact Ir (show h.get? a=some _ from x)
 |ext φ=>obtain⟨_,⟨_,e⟩,_⟩:=x;exact Ir e
theorem Paired.mapP:∀{Nl:List α}{Nm:List β},Paired F Nl Nm->(∀a b,F a b->G a b)->Paired G Nl Nm
 |_,_,.nil,_=>.nil
 |_,_,.cons r t,f=>.cons (f _ _ r) (Paired.mapP t f)
theorem ObjOk.stay(x:ObjOk P w H h a o)(k:∀b u,(b=a\/H b=some (.own a))->h.get? b=some u->h'.get? b=some u)
  (ho:∀b,H b=some (.own a)->H' b=some (.own a)) (ht:∀b xs,H b=some (.tup xs)->H' b=some (.tup xs)):ObjOk P w H' h' a o:=by
 induction o with
 |lst xs=>obtain⟨z,its,n,r,e⟩:=x;exact⟨z,its,n,r,k _ _ (.inl rfl) e⟩
 |tup xs=>obtain⟨z,its,r,ob,e,c⟩:=x;exact⟨z,its,r,ob,k _ _ (.inl rfl) e,c⟩
 |dK k_=>obtain⟨z,y,vs,r,ob,es,ep,e,c⟩:=x;exact⟨z,y,vs,r,ob,es,ep,k _ _ (.inl rfl) e,c⟩
 |dT k_=>
  obtain⟨z,y,xs,r,ob,es,ep,e,c⟩:=x;exact⟨z,y,xs,Paired.mapP r λp q z=>⟨z.1,ht _ _ z.2.1,z.2.2⟩,ob,es,ep,k _ _ (.inl rfl) e,c⟩
 |set S n=>obtain⟨ob,es,ep,t,e,c⟩:=x;exact⟨ob,es,ep,t,k _ _ (.inl rfl) e,c⟩
 |ins C dx fs=>
  obtain⟨d,z,ne,e,mA,⟨od,es,ep,e2,c⟩,r⟩:=x;exact⟨ho _ d,z,ne,k _ _ (.inl rfl) e,mA,⟨od,es,ep,k _ _ (.inr d) e2,c⟩,r⟩
 |own y=>obtain⟨ob,e⟩:=x;exact⟨ob,k _ _ (.inl rfl) e⟩
 |xd fs=>obtain⟨mA,⟨od,es,ep,e,c⟩,r⟩:=x;exact⟨mA,⟨od,es,ep,k _ _ (.inl rfl) e,c⟩,r⟩
 |rng lo hi=>obtain⟨t,u,v,e⟩:=x;exact⟨t,u,v,k _ _ (.inl rfl) e⟩
 |s_ ob u ih=>obtain⟨e,q⟩:=x;exact⟨k _ _ (.inl rfl) e,ih q⟩
 |LL ps=>
  have e:h.get? a=some {cls:=.none,data:=.fields ps}:=x;show h'.get? a=some {cls:=.none,data:=.fields ps};exact k a _ (.inl rfl) e
 |met f y=>
  have e:h.get? a=some (PySem.W.methodObj (.ref f) (.ref y)):=x;show h'.get? a=some (PySem.W.methodObj (.ref f) (.ref y));exact k a _ (.inl rfl) e
 |ext φ=>obtain⟨p,⟨o,e⟩,st⟩:=x;exact⟨st _ _ p λo q=>k _ _ (.inl rfl) q,⟨o,k _ _ (.inl rfl) e⟩,st⟩
theorem HOk.lt(x:HOk P w H h)(e:H a=some o):a<h.objs.size:=(x a o e).lt
theorem HOk.fresh(x:HOk P w H h)(e:h.objs.size<=a):H a=none:=by
 cases q:H a with
 |none=>rfl
 |some u=>exact absurd (Iw (x.lt q) e) (Js _)
theorem HOk.kept(x:HOk P w H h)(k:∀b u,h.get? b=some u->h'.get? b=some u):HOk P w H h':=λa o e=>
 (x a o e).stay (λb u _ q=>k b u q) (λ_ q=>q) λ_ _ q=>q
theorem HOk.laid(x:HOk P w H h)(k:∀b u,h.get? b=some u->h'.get? b=some u)(hp:h.objs.size<=a)(new:ObjOk P w (upd H a o) h' a o):HOk P w (upd H a o) h':=λb u e=>by
 have hn:=x.fresh hp;by_cases hb:b=a
 ·subst hb;rw[ag]at e;cases e;exact new
 ·rw[ae hb]at e;exact (x b u e).stay (λc v _ q=>k c v q) (λc q=>by rw[ae (ay q hn)];exact q) λc xs q=>by rw[ae (ay q hn)];exact q
end
def Rd(H:Hp)(a:Addr)(u:HO):Prop:=H a=some u\/∃o,H a=some (.s_ o u)
theorem Rd.ok{P:Program}{w:World}{H:Hp}{h:Heap}{a:Addr}{u:HO}(r:Rd H a u)(x:HOk P w H h):ObjOk P w H h a u:=by
 rcases r with r|⟨o,r⟩
 ·exact x a u r
 ·obtain⟨_,q⟩:=x a _ r;exact q
def Mut:Option HO->Prop
 |some (.lst _)=>True
 |some (.dK _)=>True
 |some (.dT _)=>True
 |some (.set _ _)=>True
 |some (.ins _ _ _)=>True
 |some (.ext _)=>True
 |_=>False
section
variable {P:Program}{w:World}{h h':Heap}{x e:Addr}
theorem HOk.write(ok:HOk P w H h)(mu:Mut (H x))(he:e=x\/H e=some (.own x))(k:∀b u,b≠e->h.get? b=some u->h'.get? b=some u)(L8:∃u,h'.get? e=some u)
  (new:ObjOk P w (upd H x o') h' x o'):HOk P w (upd H x o') h':=λb u q=>by
 have Nn:∀c y,H c=some (.own y)->c≠x:=λc y r z=>by subst z;rw[r]at mu;exact mu
 have xK:∀c xs,H c=some (.tup xs)->c≠x:=λc xs r z=>by subst z;rw[r]at mu;exact mu
 by_cases hb:b=x
 ·subst hb;rw[ag]at q;cases q;exact new
 ·rw[ae hb]at q;by_cases Mp:b=e
  ·have q':H b=some (.own x):=by
    rcases he with z|z
    ·exact absurd (Mp.trans z) hb
    ·rw[Mp];exact z
   rw[q]at q';cases q';obtain⟨v,hv⟩:=L8;exact⟨v,by rw[Mp];exact hv⟩
  ·refine (ok b u q).stay (λc v hc r=>k c v ?_ r) (λc r=>by rw[ae (Nn c b r)];exact r) λc xs r=>by rw[ae (xK c xs r)];exact r
   rcases hc with rfl|hc
   ·exact Mp
   ·rintro rfl;rcases he with z|z
    ·exact Nn c b hc z
    ·rw[hc]at z;cases z;exact hb rfl
end
structure Un (fs ex:List Addr)(H H':Hp)(h h':Heap):Prop where
 keep:∀b o,h.get? b=some o->H b=none->b∉fs->b∉ex->h'.get? b=some o
 slot:∀b o,h.get? b=some o->H b=none->b∈fs->b∉ex->∃sl,h'.get? b=some {o with slots:=sl}
 free:∀b o,h.get? b=some o->H b=none->b∉ex->H' b=none
 there:∀b o,h.get? b=some o->b∉ex->∃o',h'.get? b=some o'
 JS:∀b xs,H b=some (.tup xs)->H' b=some (.tup xs)
 JN:∀b o u,H b=some (.s_ o u)->H' b=some (.s_ o u)
 JU:∀b ps,H b=some (.LL ps)->∃KZ,H' b=some (.LL (ps++KZ))
section
variable {fs SV ex SW:List Addr}{H H1 H2:Hp}{h h1 h2 h':Heap}{a x e:Addr}{o:HO}
theorem Un.any(u:Un fs ex H H1 h h1)(q:h.get? b=some ob)(n:H b=none)(hx:b∉ex):∃sl,h1.get? b=some {ob with slots:=sl}:=by
 by_cases hb:b∈fs
 ·exact u.slot b ob q n hb hx
 ·exact⟨ob.slots,u.keep b ob q n hb hx⟩
theorem Un.kept(k:∀b u,h.get? b=some u->h'.get? b=some u):Un fs ex H H h h':=
 ⟨λb ob q _ _ _=>k b ob q,λb ob q _ _ _=>⟨ob.slots,k b ob q⟩,λ_ _ _ n _=>n,λb ob q _=>⟨ob,k b ob q⟩,λ_ _ q=>q,λ_ _ _ q=>q,λ_ ps q=>⟨#[],by rw[q];simp⟩⟩
theorem Un.refl:Un fs ex H H h h:=Un.kept λ_ _ q=>q
theorem Un.laid(k:∀b u,h.get? b=some u->h'.get? b=some u)(hp:h.objs.size<=a)(hn:H a=none):Un fs ex H (upd H a o) h h' where
 keep:=λb u q _ _ _=>k b u q
 slot:=λb u q _ _ _=>⟨u.slots,k b u q⟩
 free:=λb u q n _=>by rw[ae (IM (Iw (Ir q) hp))];exact n
 there:=λb u q _=>⟨u,k b u q⟩
 JS:=λb xs q=>by rw[ae (ay q hn)];exact q
 JN:=λb u xs q=>by rw[ae (ay q hn)];exact q
 JU:=λb ps q=>⟨#[],by rw[ae (ay q hn),q];simp⟩
theorem Un.write(mu:Mut (H x))(he:e=x\/H e=some (.own x))(k:∀b u,b≠e->h.get? b=some u->h'.get? b=some u)(L8:∃u,h'.get? e=some u):Un fs ex H (upd H x o) h h':=by
 have hx:∀b,H b=none->b≠x:=λb n z=>by subst z;rw[n]at mu;exact mu
 have hb:∀b,H b=none->b≠e:=λb n z=>by
  subst z;rcases he with r|r
  ·exact hx b n r
  ·rw[n]at r;cases r
 have hm:∀b u,H b=some u->¬ Mut (some u)->b≠x:=λb u q nm z=>by subst z;rw[q]at mu;exact nm mu
 refine⟨λb u q n _ _=>k b u (hb b n) q,λb u q n _ _=>⟨u.slots,k b u (hb b n) q⟩,λb u q n _=>by rw[ae (hx b n)];exact n,λb u q _=>?_,
  λb xs q=>by rw[ae (hm b _ q λz=>z)];exact q,λb u xs q=>by rw[ae (hm b _ q λz=>z)];exact q,λb ps q=>⟨#[],by rw[ae (hm b _ q λz=>z),q];simp⟩⟩
 by_cases Mp:b=e
 ·subst Mp;exact L8
 ·exact⟨u,k b u Mp q⟩
end
noncomputable def trk(h:Heap)(H:Hp):List Addr:=(List.range h.objs.size).filter λa=>(H a).isSome
noncomputable def l7(h:Heap)(H:Hp):Heap:=PySem.W.hideAll h (trk h H)
theorem rJ(h:Heap)(H:Hp):(l7 h H).objs.size=h.objs.size:=PySem.W.hideAll_size _ _
theorem ua{h:Heap}(e:h.get? b=some o)(n:H b=none):(l7 h H).get? b=some o:=
 PySem.W.hideAll_get _ e λhm=>by
  have q:(H b).isSome=true:=(List.mem_filter.mp hm).2;rw[n]at q;simp at q
theorem xr{h:Heap}(e:(l7 h H).get? b=some o):h.get? b=some o/\H b=none:=by
 have e':h.get? b=some o:=PySem.W.of_hideAll (trk h H) e;refine⟨e',?_⟩;cases q:H b with
 |none=>rfl
 |some x=>
  have hm:b∈trk h H:=List.mem_filter.mpr ⟨List.mem_range.mpr (Ir e'),by simp[q]⟩
  have z:(l7 h H).get? b=none:=PySem.W.hideAll_none (trk h H) hm;rw[z]at e;cases e
noncomputable def wG(g h:Heap)(L:Addr):List (Addr×Obj):=(List.range h.objs.size).filterMap λa=>if a=L\/(g.get? a).isSome=true then none else (h.get? a).map λo=>(a,o)
noncomputable def aF(g h:Heap)(L d:Addr):List (Addr×Obj):=(wG g h L).filter λp=>decide (p.1≠d)
structure Mod (K:JJ)(mg:Str->Option Value)(base:Heap):Prop where
 kin:K.In base
 glob:base.Ns mainGlobals mg
 blt:∃mb,base.Ns builtinsNs mb/\∀x:Str,x≠"__name__"->mb x=bootBuiltins x
 nolimit:base.NoLimit
structure Cx where
 prog:Program
 w:World
 K:JJ
 mg:Str->Option Value
 base:Heap
 A:Around
 N:List Str
 s₀:Shared
 H₀:Hp
 env:Env
 outer:List Env
 stack:List Env
 ex:List Addr
 fn:Str->Bool
 calm:Bool
 pn:List (Addr×Obj)
 xe:Value->Shared->Prop
noncomputable def frs(l:List Env):List Addr:=l.filterMap (·.frame)
noncomputable abbrev Cx.fs(X:Cx):List Addr:=frs X.outer
def Vis(sc:Scope)(x:Str):Prop:=sc.names.lookup x=some .local\/sc.names.lookup x=some .cell\/sc.names.lookup x=some .free
def Loc(sc:Scope)(x:Str):Prop:=sc.names.lookup x=some .local\/sc.names.lookup x=some .cell
def Cg(env:Env)(h:Heap)(m:Str->Option Value)(x:Str)(u:Value):Prop:=
 (env.kindOf x=some .local/\m x=some u)\/((env.kindOf x=some .cell\/env.kindOf x=some .free)/\∃c,env.cells.lookup x=some c/\h.IsCell c (some u))
structure Cx.Ok (X:Cx):Prop where
 mod:Mod X.K X.mg X.base
 kind:X.env.scope.kind=.function
 glob:X.env.globals=mainGlobals
 blt:X.env.builtins=builtinsNs
 above:X.s₀.heap.objs.size<=X.env.locals
 inj:∀x y c,X.env.cells.lookup x=some c->X.env.cells.lookup y=some c->x=y
 has:∀x,(X.env.kindOf x=some .cell\/X.env.kindOf x=some .free)->∃c,X.env.cells.lookup x=some c
 cab:∀x c,X.fn x=true->X.env.cells.lookup x=some c->X.s₀.heap.objs.size<=c
 hd:X.calm=true->X.A.handled=none
 frames:X.A.frames=some X.stack
 stk:X.stack=X.outer\/(X.stack=X.env::X.outer/\X.env.frame=some X.env.locals)
 exf:∀b∈X.ex,b≠X.env.locals/\∀x c,X.env.cells.lookup x=some c->c≠b
 bs:∀b o,X.base.get? b=some o->X.s₀.heap.get? b=some o/\X.H₀ b=none
 bsz:X.base.objs.size<=X.s₀.heap.objs.size
 noex:∀b o,X.base.get? b=some o->b∉X.ex
 exfs:∀b∈X.ex,b∉X.fs
 funs:X.s₀.heap.FunFrames X.base X.outer
 frf:∀b∈X.fs,X.H₀ b=none
structure Inv (X:Cx) (a_:List (Addr×Obj)) (σ:List (Option V)) (H:Hp)(s:Shared):Prop where
 ok:X.Ok
 os:s.os=X.s₀.os
 bare:AllBare s.gens
 base:Un X.fs X.ex X.H₀ H X.s₀.heap s.heap
 loc:∃m,s.heap.Ns X.env.locals m/\∀(i:Nat)(x:Str)(v:V),X.N[i]?=some x->σ[i]?=some (some v)->Vis X.env.scope x->∃u,RelV v u/\Cg X.env s.heap m x u
 cell:∀x c,X.env.cells.lookup x=some c->∃v,s.heap.IsCell c v
 free:H X.env.locals=none
 freeC:∀x c,X.env.cells.lookup x=some c->H c=none
 pin:∀p∈X.pn++a_,s.heap.get? p.1=some p.2/\H p.1=none/\p.1≠X.env.locals/\p.1∉X.fs/\∀v,p.2.data≠.cell v
 h_:HOk X.prog X.w H s.heap
 len:σ.length=X.N.length
section
variable {X:Cx}{σ:List (Option V)}{s:Shared}{h':Heap}
theorem Cx.Ok.nofr(ok:X.Ok)(e:X.base.get? b=some o):b∉X.fs:=λhb=>by
 have:=(ok.funs.mem hb).1;rw[e]at this;cases this
theorem Inv.bs(I:Inv X a_ σ H s):∀b o,X.base.get? b=some o->s.heap.get? b=some o/\H b=none:=λb o e=>
 ⟨I.base.keep b o (I.ok.bs b o e).1 (I.ok.bs b o e).2 (I.ok.nofr e) (I.ok.noex b o e),I.base.free b o (I.ok.bs b o e).1 (I.ok.bs b o e).2 (I.ok.noex b o e)⟩
theorem Inv.bk(I:Inv X a_ σ H s):∀b o,X.base.get? b=some o->s.heap.get? b=some o:=λb o e=>(I.bs b o e).1
theorem Inv.mod(I:Inv X a_ σ H s):Mod X.K X.mg X.base:=I.ok.mod
theorem Inv.kIn(I:Inv X a_ σ H s):X.K.In s.heap:=I.ok.mod.kin.keeps I.bk
theorem Inv.lt(I:Inv X a_ σ H s):X.env.locals<s.heap.objs.size:=let ⟨_,hn,_⟩:=I.loc;hn.lt
theorem Inv.sz(I:Inv X a_ σ H s):X.s₀.heap.objs.size<=s.heap.objs.size:=IR I.ok.above (Nat.le_of_lt I.lt)
theorem Inv.nofs(I:Inv X a_ σ H s)(h:s.heap.objs.size<=a):a∉X.fs:=λhb=>by
 obtain⟨_,o,ho,_⟩:=I.ok.funs.mem hb;exact absurd (Iw (Ir ho) (IR I.sz h)) (Js _)
theorem Inv.cne(I:Inv X a_ σ H s):∀x c,X.env.cells.lookup x=some c->c≠X.env.locals:=λx c e z=>by
 obtain⟨v,o,ho,hd⟩:=I.cell x c e;obtain⟨m,⟨o',es,ep,Kl,LN,_⟩,_⟩:=I.loc;rw[z,Kl]at ho;cases ho;rw[LN]at hd;cases hd
theorem Inv.funs(I:Inv X a_ σ H s):s.heap.FunFrames X.base X.outer:=by
 have all:∀(l:List Env),(∀b∈frs l,b∈X.fs)->X.s₀.heap.FunFrames X.base l->s.heap.FunFrames X.base l:=by
  intro l
  induction l with
  |nil=>intro _ _;trivial
  |cons env r ih=>
   intro hs hl;obtain⟨hk,⟨L,o,hf,hn,ho,hd⟩,hr⟩:=hl;have hL:L∈X.fs:=hs L (by unfold frs;rw[List.filterMap_cons,hf];exact Ix)
   obtain⟨sl,e⟩:=I.base.slot L o ho (I.ok.frf L hL) hL λz=>I.ok.exfs L z hL
   exact⟨hk,⟨L,_,hf,hn,e,hd⟩,ih (λb hb=>hs b (by unfold frs;rw[List.filterMap_cons,hf];exact Io _ hb)) hr⟩
 exact all X.outer (λ_ hb=>hb) I.ok.funs
theorem Inv.stack(I:Inv X a_ σ H s):s.heap.FunFrames X.base X.stack:=by
 rcases I.ok.stk with e|⟨e,hf⟩
 ·rw[e];exact I.funs
 ·rw[e];obtain⟨m,hn,_⟩:=I.loc;refine .cons (by rw[I.ok.kind];decide) hf hn ?_ I.funs
  exact Heap.get?_none_of_le (IR I.ok.bsz I.ok.above)
theorem Inv.stkSub(I:Inv X a_ σ H s):∀b∈frs X.stack,b∈X.env.locals::X.fs:=λb hb=>by
 rcases I.ok.stk with e|⟨e,hf⟩
 ·rw[e]at hb;exact Io _ hb
 ·rw[e]at hb;unfold frs at hb;rw[List.filterMap_cons,hf]at hb;exact hb
theorem Inv.stkFree(I:Inv X a_ σ H s):∀b∈frs X.stack,H b=none:=λb hb=>by
 rcases Iv.mp (I.stkSub b hb) with e|hb
 ·rw[e];exact I.free
 ·obtain⟨_,o,ho,_⟩:=I.ok.funs.mem hb;exact I.base.free b o ho (I.ok.frf b hb) λz=>I.ok.exfs b z hb
theorem Inv.step{g':Array GenState}{t':Nat}{d':Drawn}{ch:List Addr}(I:Inv X a_ σ H s)
  (Ly:∀b∈ch,(b∈X.ex\/X.s₀.heap.objs.size<=b)/\b≠X.env.locals/\(∀x c,X.env.cells.lookup x=some c->c≠b)/\∀p∈X.pn++a_,p.1≠b)
  (keep:∀b o,b≠X.env.locals->b∉X.fs->b∉ch->s.heap.get? b=some o->H b=none->h'.get? b=some o)
  (slot:∀b o,b≠X.env.locals->b∈X.fs->b∉ch->s.heap.get? b=some o->H b=none->∃sl,h'.get? b=some {o with slots:=sl}) (free:∀b o,b∉ch->s.heap.get? b=some o->H b=none->H' b=none)
  (there:∀b o,b∉ch->s.heap.get? b=some o->∃o',h'.get? b=some o')
  (JS:∀b xs,H b=some (.tup xs)->H' b=some (.tup xs)) (JN:∀b o u,H b=some (.s_ o u)->H' b=some (.s_ o u)) (JU:∀b ps,H b=some (.LL ps)->∃KZ,H' b=some (.LL (ps++KZ)))
  (ns:∀m,s.heap.Ns X.env.locals m->h'.Ns X.env.locals m)(h_:HOk X.prog X.w H' h')(hg:AllBare g') :
  Inv X a_ σ H' {s with heap:=h',gens:=g',drawn:=d',toks:=t'}:=by
 have Qe:∀b o,X.s₀.heap.get? b=some o->b≠X.env.locals:=λb o e=>IM (Iw (Ir e) I.ok.above)
 have L9:∀b o,X.s₀.heap.get? b=some o->b∉X.ex->b∉ch:=λb o e hx hb=>by
  rcases (Ly b hb).1 with z|z
  ·exact hx z
  ·exact absurd (Iw (Ir e) z) (Js _)
 have KJ:∀x c,X.env.cells.lookup x=some c->∀v,s.heap.IsCell c v->h'.IsCell c v:=λx c e v ⟨o,ho,hd⟩=>by
  have Np:c∉ch:=λz=>(Ly c z).2.2.1 x c e rfl
  by_cases hc:c∈X.fs
  ·obtain⟨sl,q⟩:=slot c o (I.cne x c e) hc Np ho (I.freeC x c e);exact⟨_,q,hd⟩
  ·exact⟨o,keep c o (I.cne x c e) hc Np ho (I.freeC x c e),hd⟩
 refine⟨I.ok,I.os,hg,⟨λb o e n hb hx=>?_,λb o e n hb hx=>?_,λb o e n hx=>?_,λb o e hx=>?_,λb xs e=>JS b xs (I.base.JS b xs e),λb o xs e=>JN b o xs (I.base.JN b o xs e),λb ps e=>?_⟩,?_,λx c e=>?_,?_,λx c e=>?_,λp hp=>?_,h_,I.len⟩
 ·exact keep b o (Qe b o e) hb (L9 b o e hx) (I.base.keep b o e n hb hx) (I.base.free b o e n hx)
 ·obtain⟨sl,e1⟩:=I.base.slot b o e n hb hx;obtain⟨Nq,e2⟩:=slot b _ (Qe b o e) hb (L9 b o e hx) e1 (I.base.free b o e n hx);exact⟨Nq,e2⟩
 ·obtain⟨o',e1⟩:=I.base.there b o e hx;exact free b o' (L9 b o e hx) e1 (I.base.free b o e n hx)
 ·obtain⟨o',e1⟩:=I.base.there b o e hx;exact there b o' (L9 b o e hx) e1
 ·obtain⟨m1,e1⟩:=I.base.JU b ps e;obtain⟨m2,e2⟩:=JU b _ e1;exact⟨m1++m2,by rw[e2,Array.append_assoc]⟩
 ·obtain⟨m,hn,hl⟩:=I.loc;refine⟨m,ns m hn,λi x v e1 e2 e3=>?_⟩
  obtain⟨u,r,l⟩:=hl i x v e1 e2 e3;refine⟨u,r,?_⟩;rcases l with l|⟨k,c,e,z⟩
  ·exact .inl l
  ·exact .inr ⟨k,c,e,KJ x c e _ z⟩
 ·obtain⟨v,z⟩:=I.cell x c e;exact⟨v,KJ x c e v z⟩
 ·obtain⟨m,⟨o,_,_,ho,_⟩,_⟩:=I.loc;exact free _ o (λz=>(Ly _ z).2.1 rfl) ho I.free
 ·obtain⟨v,o,ho,hd⟩:=I.cell x c e;exact free c o (λz=>(Ly c z).2.2.1 x c e rfl) ho (I.freeC x c e)
 ·obtain⟨e,n,ne,nf,d⟩:=I.pin p hp;have Np:p.1∉ch:=λz=>(Ly p.1 z).2.2.2 p hp rfl
  exact⟨keep p.1 p.2 ne nf Np e n,free p.1 p.2 Np e n,ne,nf,d⟩
theorem Inv.un{t':Nat}(I:Inv X a_ σ H s)(u:Un X.fs [] H H' s.heap h')(h_:HOk X.prog X.w H' h'):Inv X a_ σ H' {s with heap:=h',toks:=t'}:=by
 obtain⟨m,⟨o,es,ep,ho,r⟩,_⟩:=id I.loc;obtain⟨sl,hL⟩:=u.any ho I.free (by simp)
 exact I.step (g':=s.gens) (d':=s.drawn) (ch:=[]) (λ_ z=>nomatch z) (λb o _ hb _ e n=>u.keep b o e n hb (by simp)) (λb o _ hb _ e n=>u.slot b o e n hb (by simp)) (λb o _ e n=>u.free b o e n (by simp)) (λb o _ e=>u.there b o e (by simp)) u.JS u.JN u.JU (λm' hm=>by
  obtain⟨o',Mq,OW,Kl,r'⟩:=hm;rw[ho]at Kl;cases Kl;exact⟨_,Mq,OW,hL,r'⟩) h_ I.bare
theorem Inv.call{g':Array GenState}{t':Nat}{d':Drawn}{ch:List Addr}(I:Inv X a_ σ H s)(u:Un (frs X.stack) ch H H' s.heap h')(h_:HOk X.prog X.w H' h')(hg:AllBare g')
  (Ly:∀b∈ch,(b∈X.ex\/X.s₀.heap.objs.size<=b)/\b≠X.env.locals/\(∀x c,X.env.cells.lookup x=some c->c≠b)/\∀p∈X.pn++a_,p.1≠b) :
  Inv X a_ σ H' {s with heap:=h',gens:=g',drawn:=d',toks:=t'}:=by
 obtain⟨m,⟨o,es,ep,ho,r⟩,_⟩:=id I.loc;obtain⟨sl,hL⟩:=u.any ho I.free λz=>(Ly _ z).2.1 rfl
 exact I.step (ch:=ch) Ly (λb o hL hb hc e n=>u.keep b o e n (λz=>(Iv.mp (I.stkSub b z)).elim hL hb) hc) (λb o _ _ hc e n=>u.any e n hc) (λb o hc e n=>u.free b o e n hc) (λb o hc e=>u.there b o e hc) u.JS u.JN u.JU (λm' hm=>by
  obtain⟨o',Mq,OW,Kl,r'⟩:=hm;rw[ho]at Kl;cases Kl;exact⟨_,Mq,OW,hL,r'⟩) h_ hg
theorem Inv.turned{t':Nat}{it:Addr}(I:Inv X a_ σ H s)(k:∀b o,b≠it->s.heap.get? b=some o->h'.get? b=some o)(hn:H it=none)(hL:it≠X.env.locals)
  (h1:it∈X.ex\/X.s₀.heap.objs.size<=it) (h2:∀x c,X.env.cells.lookup x=some c->c≠it) (h3:∀p∈X.pn++a_,p.1≠it):Inv X a_ σ H {s with heap:=h',toks:=t'}:=by
 have L_:∀b u,H b=some u->b≠it:=λb u e z=>by rw[z,hn]at e;cases e
 refine I.step (g':=s.gens) (d':=s.drawn) (ch:=[it]) (λb hb=>?_) (λb o _ _ hc e _=>k b o (λz=>hc (by simp[z])) e) (λb o _ _ hc e _=>⟨o.slots,k b o (λz=>hc (by simp[z])) e⟩) (λ_ _ _ _ n=>n)
  (λb o hc e=>⟨o,k b o (λz=>hc (by simp[z])) e⟩) (λ_ _ e=>e) (λ_ _ _ e=>e) (λb ps e=>⟨#[],by rw[e];simp⟩) (λm hm=>?_) (λb u e=>?_) I.bare
 ·have e:b=it:=by simpa using hb
  subst e;exact⟨h1,hL,h2,h3⟩
 ·obtain⟨o,es,ep,ho,r⟩:=hm;exact⟨o,es,ep,k _ o (IB hL) ho,r⟩
 ·refine (I.h_ b u e).stay (λc v hc q=>k c v ?_ q) (λ_ q=>q) λ_ _ q=>q
  rcases hc with z|z
  ·rw[z];exact L_ b u e
  ·exact L_ c _ z
theorem Inv.tok(I:Inv X a_ σ H s)(t:Nat):Inv X a_ σ H {s with toks:=t}:=I.un (h':=s.heap) (t':=t) Un.refl I.h_
theorem Inv.kept(I:Inv X a_ σ H s)(k:∀b u,s.heap.get? b=some u->h'.get? b=some u):Inv X a_ σ H {s with heap:=h',toks:=t'}:=I.un (Un.kept k) (I.h_.kept k)
theorem Inv.laid(I:Inv X a_ σ H s)(k:∀b u,s.heap.get? b=some u->h'.get? b=some u)(hp:s.heap.objs.size<=a)(new:ObjOk X.prog X.w (upd H a o) h' a o) :
  Inv X a_ σ (upd H a o) {s with heap:=h',toks:=t'}:=I.un (Un.laid k hp (I.h_.fresh hp)) (I.h_.laid k hp new)
theorem Inv.write(I:Inv X a_ σ H s)(mu:Mut (H x))(he:e=x\/H e=some (.own x))(k:∀b u,b≠e->s.heap.get? b=some u->h'.get? b=some u)(L8:∃u,h'.get? e=some u)
  (new:ObjOk X.prog X.w (upd H x o) h' x o):Inv X a_ σ (upd H x o) {s with heap:=h',toks:=t'}:=I.un (Un.write mu he k L8) (I.h_.write mu he k L8 new)
theorem Inv.pins_of(I:Inv X a_ σ H s)(h:∀p∈Ma,s.heap.get? p.1=some p.2/\H p.1=none/\p.1≠X.env.locals/\p.1∉X.fs/\∀v,p.2.data≠.cell v):Inv X Ma σ H s:=
 ⟨I.ok,I.os,I.bare,I.base,I.loc,I.cell,I.free,I.freeC,λp hp=>(IX.mp hp).elim (λz=>I.pin p (Jg _ z)) (h p),I.h_,I.len⟩
theorem jI{N:List Str}(hN:N.Nodup){i j:Nat}{x:Str}(a:N[i]?=some x)(b:N[j]?=some x):i=j:=by
 obtain⟨h1,e1⟩:=IC.mp a;obtain⟨h2,e2⟩:=IC.mp b;exact (List.getElem_inj hN).mp (e1.trans e2.symm)
theorem sQ{M:Model}{A:Around}{E:Value->Shared->Prop}{i:Nat}{x:Str}{v:V}{u:Value}{Q:Unit->Shared->Prop}(I:Inv X a_ σ H s)(hN:X.N.Nodup)(hi:X.N[i]?=some x)(hx:Loc X.env.scope x)(r:RelV v u)
  (h:∀s',Inv X a_ (σ.set i (some v)) H s'->(∃a,Heap.SameBut a s.heap s'.heap/\(a=X.env.locals\/X.env.cells.lookup x=some a))->Q () s') (hf:X.fn x=true\/X.env.scope.names.lookup x=some .local:=by first|exact .inl rfl|exact .inr rfl|assumption):wpAny M A (storeName X.env x u) Q E s:=by
 obtain⟨m,hn,hl⟩:=id I.loc;have OX:(X.env.scope.kind == .class||(X.env.scope.kind == .module&&X.env.locals != X.env.globals))=false:=by rw[I.ok.kind];rfl
 have Nr:i<σ.length:=by rw[I.len];exact (IC.mp hi).1
 have cne:=I.cne;have tracked:∀{a:Addr}{h':Heap},(∃o,s.heap.get? a=some o/\H a=none)->Heap.SameBut a s.heap h'->HOk X.prog X.w H h':=λ{a h'} ha hs b ob e=>by
  obtain⟨_,_,Mc⟩:=ha;refine (I.h_ b ob e).stay (λc w' hc q=>(hs.2 c ?_).trans q) (λ_ q=>q) λ_ _ q=>q
  rintro rfl;rcases hc with rfl|hc
  ·rw[Mc]at e;cases e
  ·rw[Mc]at hc;cases hc
 rcases hx with hk|hk
 ·refine wpAny_storeName_local hk hn (λh' OY hs=>?_) OX
  obtain⟨oL,_,_,Qg,_⟩:=id hn;refine h _ ⟨I.ok,I.os,I.bare,⟨λb o e n hb hx=>?_,λb o e n hb hx=>?_,I.base.free,λb o e hx=>?_,I.base.JS,I.base.JN,I.base.JU⟩,⟨_,OY,λj y v' e1 e2 e3=>?_⟩,λy c e=>?_,I.free,I.freeC,λp hp=>?_,tracked ⟨oL,Qg,I.free⟩ hs,by simpa using I.len⟩ ⟨_,hs,.inl rfl⟩
  ·exact (hs.2 b (IM (Iw (Ir e) I.ok.above))).trans (I.base.keep b o e n hb hx)
  ·obtain⟨sl,e1⟩:=I.base.slot b o e n hb hx;exact⟨sl,(hs.2 b (IM (Iw (Ir e) I.ok.above))).trans e1⟩
  ·obtain⟨o',e1⟩:=I.base.there b o e hx;exact⟨o',(hs.2 b (IM (Iw (Ir e) I.ok.above))).trans e1⟩
  ·by_cases hj:j=i
   ·subst hj;rw[hi]at e1;cases e1;rw[List.getElem?_set_self Nr]at e2;cases e2;exact⟨u,r,.inl ⟨hk,by simp⟩⟩
   ·rw[Jp (IB hj)]at e2;obtain⟨u',r',q⟩:=hl j y v' e1 e2 e3;refine⟨u',r',?_⟩;rcases q with ⟨k,e⟩|⟨k,c,e,z⟩
    ·refine .inl ⟨k,?_⟩;have:y≠x:=λe=>hj (jI hN e1 (e▸hi))
     simp[this,e]
    ·exact .inr ⟨k,c,e,z.sameBut hs (cne y c e)⟩
  ·obtain⟨w',z⟩:=I.cell y c e;exact⟨w',z.sameBut hs (cne y c e)⟩
  ·obtain⟨e,n,ne,nf,d⟩:=I.pin p hp;exact⟨(hs.2 p.1 ne).trans e,n,ne,nf,d⟩
 ·have K0:X.fn x=true:=by
   rcases hf with z|z
   ·exact z
   ·rw[z]at hk;cases hk
  obtain⟨c,hc⟩:=I.ok.has x (.inl hk);obtain⟨w',z⟩:=I.cell x c hc;refine wpAny_storeName_cell I.ok.kind hk hc z (λh' Ou hs=>?_)
  obtain⟨oc,Qh,OZ⟩:=id z;refine h {s with heap:=h'} ⟨I.ok,I.os,I.bare,⟨λb o e n hb hx=>?_,λb o e n hb hx=>?_,I.base.free,λb o e hx=>?_,I.base.JS,I.base.JN,I.base.JU⟩,⟨m,hn.sameBut hs (IB (cne x c hc)),λj y v' e1 e2 e3=>?_⟩,λy c' e=>?_,I.free,I.freeC,λp hp=>?_,tracked ⟨oc,Qh,I.freeC x c hc⟩ hs,by simpa using I.len⟩ ⟨c,hs,.inr hc⟩
  ·exact (hs.2 b (IM (Iw (Ir e) (I.ok.cab x c K0 hc)))).trans (I.base.keep b o e n hb hx)
  ·obtain⟨sl,e1⟩:=I.base.slot b o e n hb hx;exact⟨sl,(hs.2 b (IM (Iw (Ir e) (I.ok.cab x c K0 hc)))).trans e1⟩
  ·obtain⟨o',e1⟩:=I.base.there b o e hx;exact⟨o',(hs.2 b (IM (Iw (Ir e) (I.ok.cab x c K0 hc)))).trans e1⟩
  ·by_cases hj:j=i
   ·subst hj;rw[hi]at e1;cases e1;rw[List.getElem?_set_self Nr]at e2;cases e2;exact⟨u,r,.inr ⟨.inl hk,c,hc,Ou⟩⟩
   ·rw[Jp (IB hj)]at e2;obtain⟨u',r',q⟩:=hl j y v' e1 e2 e3;refine⟨u',r',?_⟩;rcases q with q|⟨k,c',e,z'⟩
    ·exact .inl q
    ·refine .inr ⟨k,c',e,z'.sameBut hs ?_⟩;rintro rfl;exact hj (jI hN e1 (I.ok.inj _ _ _ e hc▸hi))
  ·by_cases O0:c'=c
   ·subst O0;exact⟨_,Ou⟩
   ·obtain⟨w2,z2⟩:=I.cell y c' e;exact⟨w2,z2.sameBut hs O0⟩
  ·obtain⟨e,n,ne,nf,d⟩:=I.pin p hp;refine⟨(hs.2 p.1 ?_).trans e,n,ne,nf,d⟩;intro q;rw[q,Qh]at e;have q':oc=p.2:=IK e;exact d w' (by rw[<-q'];exact OZ)
theorem iZ(I:Inv X a_ σ H s)(hN:X.N.Nodup)(hi:X.N[i]?=some x)(hx:Loc X.env.scope x)(r:RelV v u)
  (h:∀s',Inv X a_ (σ.set i (some v)) H s'->Q () s') (hf:X.fn x=true\/X.env.scope.names.lookup x=some .local:=by first|exact .inl rfl|exact .inr rfl|assumption):wpAny M A (storeName X.env x u) Q E s:=
 sQ I hN hi hx r (λs' I' _=>h s' I') hf
theorem Inv.call'{s':Shared}(I:Inv X a_ σ H s)(ho:s'.os=s.os)(u:Un (frs X.stack) ch H H' s.heap s'.heap)(h_:HOk X.prog X.w H' s'.heap)(hg:AllBare s'.gens)
  (Ly:∀b∈ch,(b∈X.ex\/X.s₀.heap.objs.size<=b)/\b≠X.env.locals/\(∀x c,X.env.cells.lookup x=some c->c≠b)/\∀p∈X.pn++a_,p.1≠b):Inv X a_ σ H' s':=by
 obtain⟨h',g',d',t',o'⟩:=s';have e:o'=s.os:=ho;subst e;exact I.call (g':=g') (t':=t') (d':=d') u h_ hg Ly
end
noncomputable abbrev XK:=Value->Option Addr->Hp->Prop
noncomputable abbrev St:=List (Option V)
noncomputable abbrev VK:=V->Hp->Prop
noncomputable abbrev TE:=St->Hp->VK->Prop
noncomputable abbrev TT:=St->Hp->(Bool->Hp->Prop)->Prop
noncomputable abbrev TA:=St->Hp->(List V->Hp->Prop)->Prop
structure Ends where
 nx:St->Hp->Prop
 rt:VK
 bk:St->Hp->Prop:=λ_ _=>False
 ct:St->Hp->Prop:=λ_ _=>False
noncomputable abbrev TS:=Ends->St->Hp->Prop
def EP(X:Cx)(a_:List (Addr×Obj))(σ:St)(Q:VK)(u:Value)(s':Shared):Prop:=∃v H',Inv X a_ σ H' s'/\RelV v u/\Q v H'
def TP(X:Cx)(a_:List (Addr×Obj))(σ:St)(Q:Bool->Hp->Prop)(b:Bool)(s':Shared):Prop:=∃H',Inv X a_ σ H' s'/\Q b H'
def AP(X:Cx)(a_:List (Addr×Obj))(σ:St)(Q:List V->Hp->Prop)(us:List Value)(s':Shared):Prop:=∃vs H',Inv X a_ σ H' s'/\Vals vs us/\Q vs H'
def SP(X:Cx)(a_:List (Addr×Obj))(D:Ends)(f:Flow)(s':Shared):Prop:=
 match f with
 |.next=>∃o_ H',Inv X a_ o_ H' s'/\D.nx o_ H'
 |.brk=>∃o_ H',Inv X a_ o_ H' s'/\D.bk o_ H'
 |.cont=>∃o_ H',Inv X a_ o_ H' s'/\D.ct o_ H'
 |.ret u=>∃v o_ H',Inv X a_ o_ H' s'/\RelV v u/\D.rt v H'
def PE(X:Cx)(e:Expr)(t:TE):Prop:=
 ∀(a_:List (Addr×Obj)) (s:Shared)(σ:St)(H:Hp)(Q:VK),Inv X a_ σ H s->t σ H Q->wpAny (model X.prog X.w) X.A (eval e X.env) (EP X a_ σ Q) X.xe s
def PT(X:Cx)(e:Expr)(t:TT):Prop:=
 ∀(a_:List (Addr×Obj)) (s:Shared)(σ:St)(H:Hp)(Q:Bool->Hp->Prop),Inv X a_ σ H s->t σ H Q->wpAny (model X.prog X.w) X.A (isTrue e X.env (eval e X.env)) (TP X a_ σ Q) X.xe s
def PW(X:Cx)(e:Expr)(t:TT):Prop:=
 ∀(whole:Sem Value) (a_:List (Addr×Obj)) (s:Shared)(σ:St)(H:Hp)(Q:Bool->Hp->Prop),Inv X a_ σ H s->t σ H Q->wpAny (model X.prog X.w) X.A (isTrue e X.env whole) (TP X a_ σ Q) X.xe s
theorem PW.pt(h:PW X e t):PT X e t:=h _
def PA(X:Cx)(es:List Expr)(t:TA):Prop:=
 ∀(pos:Pos) (a_:List (Addr×Obj)) (s:Shared)(σ:St)(H:Hp)(Q:List V->Hp->Prop),Inv X a_ σ H s->t σ H Q->wpAny (model X.prog X.w) X.A (spliced (backTo pos (starEach es X.env))) (AP X a_ σ Q) X.xe s
def PS(X:Cx)(st:Stmt)(t:TS):Prop:=
 ∀(a_:List (Addr×Obj)) (s:Shared)(σ:St)(H:Hp)(D:Ends),Inv X a_ σ H s->t D σ H->wpAny (model X.prog X.w) X.A (exec st X.env) (SP X a_ D) X.xe s
def PSs(X:Cx)(st:List Stmt)(t:TS):Prop:=
 ∀(a_:List (Addr×Obj)) (s:Shared)(σ:St)(H:Hp)(D:Ends),Inv X a_ σ H s->t D σ H->wpAny (model X.prog X.w) X.A (execs st X.env) (SP X a_ D) X.xe s
theorem thn{α:Type}{t:Sem α}{Q Q':α->Shared->Prop}{M:Model}{A:Around}{E:Value->Shared->Prop}{s:Shared}(h:wpAny M A t Q E s)(hQ:∀a s,Q a s->Q' a s):wpAny M A t Q' E s:=JA h hQ λ_ _ x=>x
section
variable {X:Cx}
theorem bin{a b:Expr}{ta tb:TE}(ha:PE X a ta)(hb:PE X b tb){a_:List (Addr×Obj)}{s:Shared}{σ:St}{H:Hp}{R:V->V->Hp->Prop}(I:Inv X a_ σ H s)(h:ta σ H λx H1=>tb σ H1 λy H2=>R x y H2)
  {α:Type}{Q:α->Shared->Prop}{f:Value->Value->Sem α}
  (hf:∀v u s2 x y H2,Inv X a_ σ H2 s2->RelV x v->RelV y u->R x y H2->wpAny (model X.prog X.w) X.A (f v u) Q X.xe s2) :
  wpAny (model X.prog X.w) X.A (eval a X.env) (λv p_=>wpAny (model X.prog X.w) X.A (eval b X.env) (λu Mr=>wpAny (model X.prog X.w) X.A (f v u) Q X.xe Mr) X.xe p_) X.xe s:=by
 refine thn (ha a_ s σ H _ I h) λv s1 ⟨x,H1,I1,r1,q1⟩=>?_
 refine thn (hb a_ s1 σ H1 _ I1 q1) λu s2 ⟨y,H2,I2,r2,q2⟩=>?_
 exact hf v u s2 x y H2 I2 r1 r2 q2
noncomputable def tO(i:Nat):TE:=λσ H Q=>∃v,σ[i]?=some (some v)/\Q v H
noncomputable def tC(v:V):TE:=λ_ H Q=>Q v H
theorem jk(hN:X.N[i]?=some x)(hv:Vis X.env.scope x)(hd:(x == ("__debug__" : Str))=false:=by decide)(Kd:(x == ("__classdict__" : Str))=false:=by decide):PE X (.Name x pos) (tO i):=by
 intro a_ s σ H Q I h;obtain⟨v,e,h⟩:=h;obtain⟨m,hn,hl⟩:=I.loc;obtain⟨u,r,l⟩:=hl i x v hN e hv;have fin:EP X a_ σ Q u s:=⟨v,H,I,r,h⟩;rcases l with ⟨hk,hm⟩|⟨hk,c,hc,Md⟩
 ·exact wpAny_Name (wpAny_loadName_local I.ok.kind hk hn hm fin) hd
 ·rcases hk with hk|hk
  ·exact wpAny_Name (wpAny_loadName_cell I.ok.kind hk hc Md fin) hd
  ·exact wpAny_Name (wpAny_loadName_free I.ok.kind hk hc Md fin Kd) hd
theorem zw{i j pos}:PE X (.Constant (.int i) j pos) (tC (.int i)):=λ_ _ _ H _ I h=>wpAny_Constant_int ⟨.int i,H,I.tok _,⟨_,rfl⟩,h⟩
theorem Di{b j pos}:PE X (.Constant (.bool b) j pos) (tC (.bl b)):=λ_ _ _ H _ I h=>Constant_bool ⟨.bl b,H,I,rfl,h⟩
theorem A6{j pos}:PE X (.Constant .none j pos) (tC .j_):=λ_ _ _ H _ I h=>Constant_none ⟨.j_,H,I,rfl,h⟩
theorem vO{x j pos}:PE X (.Constant (.str x) j pos) (tC (.str x)):=λ_ _ _ H _ I h=>Calls.Constant_str ⟨.str x,H,I.tok _,⟨_,rfl⟩,h⟩
def Gl(X:Cx)(x:Str):Prop:=X.env.kindOf x=some .globalImplicit
theorem bV(I:Inv X a_ σ H s)(hg:Gl X x)(hm:X.mg x=some u)(h:Q u s)
  (hd:(x == ("__debug__" : Str))=false:=by decide):wpAny (model X.prog X.w) X.A (eval (.Name x pos) X.env) Q E s:=
 Calls.Name_function_global I.ok.kind hg (Calls.loadGlobal_global (by rw[I.ok.glob];exact I.mod.glob.keeps I.bk) hm h) hd
theorem dE(I:Inv X a_ σ H s)(hg:Gl X x)(hm:X.mg x=none)(hv:bootBuiltins x=some u)(h:Q u s)
  (hn:x≠"__name__":=by decide) (hd:(x == ("__debug__" : Str))=false:=by decide):wpAny (model X.prog X.w) X.A (eval (.Name x pos) X.env) Q E s:=by
 obtain⟨mb,h1,h2⟩:=I.mod.blt;exact Calls.Name_function_global I.ok.kind hg (Calls.loadGlobal_builtin (by rw[I.ok.glob];exact I.mod.glob.keeps I.bk) hm (by rw[I.ok.blt];exact h1.keeps I.bk) ((h2 x hn).trans hv) h) hd
theorem fV(hg:Gl X x)(hm:X.mg x=some u)(r:RelV v u)(hd:(x == ("__debug__" : Str))=false:=by decide):PE X (.Name x pos) (tC v):=
 λ_ _ _ H _ I h=>bV I hg hm ⟨v,H,I,r,h⟩ hd
theorem xq(hg:Gl X x)(hm:X.mg x=none)(hv:bootBuiltins x=some u)(r:RelV v u)(hn:x≠"__name__":=by decide)(hd:(x == ("__debug__" : Str))=false:=by decide):PE X (.Name x pos) (tC v):=
 λ_ _ _ H _ I h=>dE I hg hm hv ⟨v,H,I,r,h⟩ hn hd
variable {a b:Expr}{ta tb:TE}{pos:Pos}
noncomputable def tB(t:TE):TT:=λσ H Q=>t σ H λx H1=>∃c,x=.bl c/\Q c H1
theorem AF{e:Expr}(h:PE X e t)(he:∀whole,isTrue e X.env whole=(do let v<-whole;standAt e.pos;holding [v] (truthy v)):=by intro _;rfl):PT X e (tB t):=by
 intro a_ s σ H Q I hw;refine isTrue_plain (thn (h a_ s σ H _ I hw) λv s1 ⟨x,H1,I1,r1,q1⟩=>?_) (he _)
 obtain⟨d,rfl,q⟩:=q1;cases r1;exact Jt ⟨H1,I1,q⟩
variable {tA Nt:TT}{aF:List Expr}
noncomputable def Gv(t u:TT):TT:=λσ H Q=>t σ H λc H1=>if c=true then u σ H1 Q else Q false H1
noncomputable def tOr(t u:TT):TT:=λσ H Q=>t σ H λc H1=>if c=true then Q true H1 else u σ H1 Q
noncomputable def F6(t:TT):TT:=λσ H Q=>t σ H λc H1=>Q (!c) H1
theorem xL(ha:PT X a tA):PW X (.BoolOp .And [a] pos) tA:=by
 intro wh a_ s σ H Q I h;refine isTrue_and (thn (ha a_ s σ H Q I h) λc s1 e=>?_)
 cases c with
 |true=>exact isTrue_and_nil e
 |false=>exact e
theorem yR(ha:PT X a tA):PW X (.BoolOp .Or [a] pos) tA:=by
 intro wh a_ s σ H Q I h;refine isTrue_or (thn (ha a_ s σ H Q I h) λc s1 e=>?_)
 cases c with
 |false=>exact isTrue_or_nil e
 |true=>exact e
theorem zm(ha:PT X a tA)(hb:PW X (.BoolOp .And (b::aF) pos) Nt):PW X (.BoolOp .And (a::b::aF) pos) (Gv tA Nt):=by
 intro wh a_ s σ H Q I h;refine isTrue_and (thn (ha a_ s σ H _ I h) λc s1 ⟨H1,I1,q1⟩=>?_)
 cases c with
 |true=>exact hb wh a_ s1 σ H1 Q I1 q1
 |false=>exact⟨H1,I1,q1⟩
theorem C8(ha:PT X a tA)(hb:PW X (.BoolOp .Or (b::aF) pos) Nt):PW X (.BoolOp .Or (a::b::aF) pos) (tOr tA Nt):=by
 intro wh a_ s σ H Q I h;refine isTrue_or (thn (ha a_ s σ H _ I h) λc s1 ⟨H1,I1,q1⟩=>?_)
 cases c with
 |true=>exact⟨H1,I1,q1⟩
 |false=>exact hb wh a_ s1 σ H1 Q I1 q1
theorem A5(ha:PT X a tA):PT X (.UnaryOp .Not a pos) (F6 tA):=by
 intro a_ s σ H Q I h;exact isTrue_not (ha a_ s σ H (λc H1=>Q (!c) H1) I h)
noncomputable def Dr(ta tb:TE):TE:=λσ H Q=>ta σ H λx H1=>∃c,x=.bl c/\if c=true then tb σ H1 Q else Q (.bl false) H1
noncomputable def F8(ta tb:TE):TE:=λσ H Q=>ta σ H λx H1=>∃c,x=.bl c/\if c=true then Q (.bl true) H1 else tb σ H1 Q
noncomputable def D1(ta:TE):TE:=λσ H Q=>ta σ H λx H1=>∃c,x=.bl c/\Q (.bl (!c)) H1
theorem yP{op}(h:PE X a t):PE X (.BoolOp op [a] pos) t:=λa_ s σ H Q I hw=>BoolOp_one (h a_ s σ H Q I hw)
theorem zg(ha:PE X a ta)(hb:PE X (.BoolOp .And (b::aF) pos) tb):PE X (.BoolOp .And (a::b::aF) pos) (Dr ta tb):=by
 intro a_ s σ H Q I h;refine BoolOp_and (thn (ha a_ s σ H _ I h) λv s1 ⟨x,H1,I1,r1,q1⟩=>?_)
 obtain⟨c,rfl,q1⟩:=q1;cases r1;refine Jt ?_;cases c with
 |true=>exact hb a_ s1 σ H1 Q I1 q1
 |false=>exact⟨.bl false,H1,I1,rfl,q1⟩
theorem Dq(ha:PE X a ta)(hb:PE X (.BoolOp .Or (b::aF) pos) tb):PE X (.BoolOp .Or (a::b::aF) pos) (F8 ta tb):=by
 intro a_ s σ H Q I h;refine BoolOp_or (thn (ha a_ s σ H _ I h) λv s1 ⟨x,H1,I1,r1,q1⟩=>?_)
 obtain⟨c,rfl,q1⟩:=q1;cases r1;refine Jt ?_;cases c with
 |false=>exact hb a_ s1 σ H1 Q I1 q1
 |true=>exact⟨.bl true,H1,I1,rfl,q1⟩
theorem zN(ha:PE X a ta):PE X (.UnaryOp .Not a pos) (D1 ta):=by
 intro a_ s σ H Q I h;refine UnaryOp_ (thn (ha a_ s σ H _ I h) λv s1 ⟨x,H1,I1,r1,q1⟩=>?_)
 obtain⟨c,rfl,q1⟩:=q1;cases r1;exact not_of (Jt ⟨.bl (!c),H1,I1,rfl,q1⟩)
end
def SqL(K:JJ)(H:Hp)(a:Addr)(xs:List V):Prop:=
 Rd H a (.lst xs)\/
  ∃(o:Obj) (its:Array Value) (n:Nat),K.lookup a=some o/\o.cls=.type "list"/\o.dict=none/\o.data=.seq its n/\its.size<=sizeLine/\Vals xs its.toList
def SqT(K:JJ)(H:Hp)(a:Addr)(xs:List V):Prop:=
 Rd H a (.tup xs)\/
  ∃(o:Obj) (its:Array Value) (n:Nat),K.lookup a=some o/\o.cls=.type "tuple"/\o.data=.seq its n/\its.size<=sizeLine/\Vals xs its.toList
noncomputable def Fb:Value->Option V
 |.none=>some .j_
 |.bool b=>some (.bl b)
 |.int i _=>some (.int i)
 |.str x _=>some (.str x)
 |.bytes b _=>some (.Oq b)
 |.float b _=>some (.Ot b)
 |.ref a=>some (.ref a)
 |.type n=>some (.ty n)
 |_=>none
theorem RelV.abs(r:RelV x u):Fb u=some x:=by
 cases x with
 |j_=>cases r;rfl
 |bl _=>cases r;rfl
 |int _=>obtain⟨t,rfl⟩:=r;rfl
 |str _=>obtain⟨t,rfl⟩:=r;rfl
 |Oq _=>obtain⟨t,rfl⟩:=r;rfl
 |Ot _=>obtain⟨t,rfl⟩:=r;rfl
 |ref _=>cases r;rfl
 |ty _=>cases r;rfl
theorem RelV.inj(r:RelV x u)(q:RelV y u):x=y:=IK (r.abs.symm.trans q.abs)
theorem Vals.inj:∀{xs ys:List V}{us:List Value},Vals xs us->Vals ys us->xs=ys
 |_,_,_,.nil,.nil=>rfl
 |_,_,_,.cons r t,.cons r' t'=>by rw[r.inj r',Vals.inj t t']
section
variable {X:Cx}{s:Shared}{a:Addr}{xs ys:List V}
theorem SqL.of{K:JJ}(h:H a=some (.lst xs)):SqL K H a xs:=.inl (.inl h)
theorem SqT.of{K:JJ}(h:H a=some (.tup xs)):SqT K H a xs:=.inl (.inl h)
theorem Inv.list(I:Inv X a_ σ H s)(h:SqL X.K H a xs):∃its:List Value,Vals xs its/\PlainL s.heap a its.toArray/\xs.length<=sizeLine:=by
 rcases h with h|⟨o,its,n,hk,hc,hd,hs,hz,r⟩
 ·obtain⟨z,its,n,r,e⟩:=h.ok I.h_;exact⟨its,r,⟨_,n,e,rfl,rfl,rfl⟩,z⟩
 ·refine⟨its.toList,r,⟨o,n,I.kIn a o hk,hc,hd,by simpa using hs⟩,?_⟩
  have e:=r.length;simp only[Array.length_toList]at e;omega
theorem Inv.tuple(I:Inv X a_ σ H s)(h:SqT X.K H a xs):∃its:List Value,Vals xs its/\IsTup s.heap a its.toArray/\xs.length<=sizeLine:=by
 rcases h with h|⟨o,its,n,hk,hc,hs,hz,r⟩
 ·obtain⟨z,its,r,p⟩:=h.ok I.h_;exact⟨its,r,p,z⟩
 ·refine⟨its.toList,r,⟨o,I.kIn a o hk,hc,n,by simpa using hs⟩,?_⟩
  have e:=r.length;simp only[Array.length_toList]at e;omega
theorem Inv.list_inj(I:Inv X a_ σ H s)(h:SqL X.K H a xs)(h':SqL X.K H a ys):xs=ys:=by
 obtain⟨its,r,⟨o,n,e,_,_,d⟩,_⟩:=I.list h;obtain⟨its',r',⟨o',n',e',_,_,d'⟩,_⟩:=I.list h';rw[e]at e';cases e';rw[d]at d';injection d' with d1 _
 have:its=its':=by simpa using congrArg Array.toList d1
 subst this;exact r.inj r'
theorem Inv.tuple_inj(I:Inv X a_ σ H s)(h:SqT X.K H a xs)(h':SqT X.K H a ys):xs=ys:=by
 obtain⟨its,r,⟨o,e,_,n,d⟩,_⟩:=I.tuple h;obtain⟨its',r',⟨o',e',_,n',d'⟩,_⟩:=I.tuple h';rw[e]at e';cases e';rw[d]at d';injection d' with d1 _
 have:its=its':=by simpa using congrArg Array.toList d1
 subst this;exact r.inj r'
end
section
variable {X:Cx}{s:Shared}
end
section
variable {X:Cx}{st:Stmt}{aF:List Stmt}{t u:TS}{e:Expr}{te:TE}{pos:Pos}
noncomputable def tNext:TS:=λD σ H=>D.nx σ H
noncomputable def F5(t u:TS):TS:=λD σ H=>t {D with nx:=u D} σ H
theorem pss_nil:PSs X [] tNext:=λ_ _ σ H _ I h=>wpAny_execs_nil ⟨σ,H,I,h⟩
theorem ny(h1:PS X st t)(h2:PSs X aF u):PSs X (st::aF) (F5 t u):=by
 intro a_ s σ H D I h;refine wpAny_execs_cons (thn (h1 a_ s σ H {D with nx:=u D} I h) λf s1 q=>?_)
 cases f with
 |next=>
  obtain⟨o_,H',I',q⟩:=q;exact h2 a_ s1 o_ H' D I' q
 |ret v=>exact q
 |brk=>exact q
 |cont=>exact q
theorem wR(h1:PS X st t):PSs X [st] t:=by
 intro a_ s σ H D I h;refine wpAny_execs_cons (thn (h1 a_ s σ H D I h) λf s1 q=>?_)
 cases f with
 |next=>exact wpAny_execs_nil q
 |ret v=>exact q
 |brk=>exact q
 |cont=>exact q
theorem Inv.quiet(I:Inv X a_ σ H s):interactive X.env=false:=by simp[interactive,I.ok.kind]
noncomputable def B4(te:TE):TS:=λD σ H=>te σ H λ_ H1=>D.nx σ H1
theorem lQ(he:PE X e te)(hs:swapsWith e none pos.line X.env=pure false:=by rfl):PS X (.Expr e pos) (B4 te):=by
 intro a_ s σ H D I h;exact wpAny_Expr_any (thn (he a_ s σ H _ I h) λv s1 ⟨x,H1,I1,r1,q1⟩=>⟨σ,H1,I1,q1⟩) I.quiet hs
noncomputable def FF(te:TE):TS:=λD σ H=>te σ H D.rt
theorem Au(he:PE X e te):PS X (.Return (some e) pos) (FF te):=by
 intro a_ s σ H D I h;exact wpAny_Return_some (thn (he a_ s σ H _ I h) λv s1 ⟨x,H1,I1,r1,q1⟩=>⟨x,σ,H1,I1,r1,q1⟩)
noncomputable def Fv(c:TT)(t u:TS):TS:=λD σ H=>c σ H λb H1=>if b=true then t D σ H1 else u D σ H1
theorem Cs(hc:PT X c tc)(ha:PSs X a t)(hb:PSs X b u):PS X (.If c a b pos) (Fv tc t u):=by
 intro a_ s σ H D I h;refine wpAny_If (thn (hc a_ s σ H _ I h) λd s1 ⟨H1,I1,q1⟩=>?_)
 cases d with
 |true=>exact ha a_ s1 σ H1 D I1 q1
 |false=>exact hb a_ s1 σ H1 D I1 q1
end
noncomputable abbrev TG:=V->St->Hp->(St->Hp->Prop)->Prop
noncomputable abbrev TGs:=List V->St->Hp->(St->Hp->Prop)->Prop
def PG(X:Cx)(Kk:Expr)(t:TG):Prop:=
 ∀(a_:List (Addr×Obj)) (s:Shared)(σ:St)(H:Hp)(v:V)(u:Value)(Q:St->Hp->Prop),Inv X a_ σ H s->RelV v u->t v σ H Q->
  wpAny (model X.prog X.w) X.A (assign Kk X.env u) (λ_ s'=>∃o_ H',Inv X a_ o_ H' s'/\Q o_ H') X.xe s
def PGs(X:Cx)(ts:List Expr)(t:TGs):Prop:=
 ∀(a_:List (Addr×Obj)) (s:Shared)(σ:St)(H:Hp)(vs:List V)(us:List Value)(Q:St->Hp->Prop),Inv X a_ σ H s->Vals vs us->t vs σ H Q->
  wpAny (model X.prog X.w) X.A (assignInOrder ((assignEach ts X.env).map (·.2)) us) (λ_ s'=>∃o_ H',Inv X a_ o_ H' s'/\Q o_ H') X.xe s
noncomputable abbrev TSet:=V->V->V->Hp->(Hp->Prop)->Prop
def AS(X:Cx)(t:TSet):Prop:=
 ∀(a_:List (Addr×Obj)) (s:Shared)(σ:St)(H:Hp)(o i v:V)(ov iv u:Value)(Q:Hp->Prop),Inv X a_ σ H s->RelV o ov->RelV i iv->RelV v u->t o i v H Q->
  wpAny (model X.prog X.w) X.A (setItem ov iv u) (λ_ s'=>∃H',Inv X a_ σ H' s'/\Q H') X.xe s
section
variable {X:Cx}{pos:Pos}
noncomputable def q9(i:Nat):TG:=λv σ H Q=>Q (σ.set i (some v)) H
theorem iH(hN:X.N.Nodup)(hi:X.N[i]?=some x)(hx:Loc X.env.scope x)(hf:X.fn x=true\/X.env.scope.names.lookup x=some .local:=by first|exact .inl rfl|exact .inr rfl|assumption):PG X (.Name x pos) (q9 i):=by
 intro a_ s σ H v u Q I r h;exact wpAny_assign_Name (iZ I hN hi hx r (λs' I'=>⟨_,H,I',h⟩) hf)
noncomputable def gNil:TGs:=λvs σ H Q=>vs=[]/\Q σ H
noncomputable def BU(t:TG)(u:TGs):TGs:=λvs σ H Q=>∃v r,vs=v::r/\t v σ H λo_ H'=>u r o_ H' Q
theorem w6:PGs X [] gNil:=by
 intro a_ s σ H vs us Q I r h;obtain⟨e,h⟩:=h;subst e;cases r;exact assignInOrder_nil ⟨σ,H,I,h⟩
theorem uy(h1:PG X e t)(h2:PGs X es u)
  (hs:(assignEach (e::es) X.env).map (·.2)=assign e X.env::(assignEach es X.env).map (·.2):=by rfl):PGs X (e::es) (BU t u):=by
 intro a_ s σ H vs us Q I r h;obtain⟨v,vr,e1,h⟩:=h;subst e1;cases r with
 |cons r rr=>
  rw[hs];refine assignInOrder_cons (thn (h1 a_ s σ H _ _ _ I r h) λ_ s1 ⟨O1,H1,I1,q1⟩=>?_)
  exact h2 a_ s1 O1 H1 _ _ Q I1 rr q1
noncomputable def Gp(K:JJ)(n:Nat)(t:TGs):TG:=λv σ H Q=>∃a xs,v=.ref a/\SqT K H a xs/\xs.length=n/\t xs σ H Q
theorem z7(hc:X.calm=true)(h:PGs X es t)
  (hn:(assignEach es X.env).length=n:=by rfl) (Kb:(assignEach es X.env).findIdx? (·.1)=none:=by rfl):PG X (.Tuple es k pos) (Gp X.K n t):=by
 intro a_ s σ H v u Q I r hw;obtain⟨a,xs,e1,hq,hl,hw⟩:=hw;subst e1;cases r;obtain⟨its,rv,ht,hz⟩:=I.tuple hq;refine assign_Tuple_tuple (I.ok.hd hc) ht (by simp[hn,<-hl,rv.length]) Kb λh' hx=>?_
 have I1:Inv X a_ σ H {s with heap:=h'}:=I.kept (t':=s.toks) λb o e=>hx b o (IM (Ir e)) e
 exact h a_ _ σ H xs _ Q I1 (by simpa using rv) hw
noncomputable def FA(to ti:TE)(t:TSet):TG:=λv σ H Q=>to σ H λo H1=>ti σ H1 λi H2=>t o i v H2 λH3=>Q σ H3
theorem AJ(ho:PE X o to)(hi:PE X i ti)(hs:AS X t)
  (ha:∀v,assign (.Subscript o i pos) X.env v=(do
   let ov<-holding [v] (eval o X.env)
   let iv<-holding [v,ov] (eval i X.env)
   standAt pos
   holding [v,ov,iv] (setItem ov iv v)
   release [v,ov,iv] []):=by intro _;rfl):PG X (.Subscript o i pos) (FA to ti t):=by
 intro a_ s σ H v u Q I r h;rw[ha];refine Fr (Jc (thn (ho a_ s σ H _ I h) λov s1 ⟨x,H1,I1,r1,q1⟩=>?_))
 refine Fr (Jc (thn (hi a_ s1 σ H1 _ I1 q1) λiv s2 ⟨y,H2,I2,r2,q2⟩=>?_))
 refine Fr (wpAny_standAt (Fr (Jc (thn (hs a_ s2 σ H2 x y v ov iv u _ I2 r1 r2 r q2) λ_ s3 ⟨H3,I3,q3⟩=>?_))))
 exact wpAny_release ⟨σ,H3,I3,q3⟩
noncomputable def A8(te:TE)(g:TG):TS:=λD σ H=>te σ H λx H1=>g x σ H1 D.nx
theorem tT(he:PE X e te)(hg:PG X tg g)(hs:swapsWithSole [tg] e pos.line X.env=pure false:=by rfl)(hw:swappedStores [tg] e X.env=pure none:=by rfl)
  (h1:(assignEach [tg] X.env).map (·.2)=[assign tg X.env]:=by rfl):PS X (.Assign [tg] e pos) (A8 te g):=by
 intro a_ s σ H D I h;refine wpAny_Assign_stores (thn (he a_ s σ H _ I h) λv s1 ⟨x,H1,I1,r1,q1⟩=>?_) hs hw
 rw[h1];exact thn (hg a_ s1 σ H1 x v _ I1 r1 q1) λ_ s2 q=>q
theorem yF(hN:X.N.Nodup)(hi:X.N[i]?=some x)(hx:Loc X.env.scope x)(he:PE X e te)(hs:swapsWith e (some (.Name x JP)) pos.line X.env=pure false:=by rfl)(hf:X.fn x=true\/X.env.scope.names.lookup x=some .local:=by first|exact .inl rfl|exact .inr rfl|assumption) :
  PS X (.Assign [.Name x JP] e pos) (A8 te (q9 i)):=by
 intro a_ s σ H D I h;refine wpAny_Assign_Name (thn (he a_ s σ H _ I h) λv s1 ⟨y,H1,I1,r1,q1⟩=>?_) hs
 exact iZ I1 hN hi hx r1 (λs2 I2=>⟨_,H1,I2,q1⟩) hf
end
section
variable {X:Cx}{pos:Pos}
end
structure It where
 go:Nat->Hp->Prop
 yld:Nat->Hp->V->Hp->Prop
 stop:Nat->Hp->Prop
def fE(X:Cx)(a_:List (Addr×Obj))(H:Hp)(b:Addr):Prop:=
 H b=none/\b≠X.env.locals/\b∉X.fs/\(b∈X.ex\/X.s₀.heap.objs.size<=b)/\(∀x c,X.env.cells.lookup x=some c->c≠b)/\∀p∈X.pn++a_,p.1≠b
theorem Inv.fpOk{s:Shared}(I:Inv X a_ σ H s)(hb:s.heap.objs.size<=b)(hn:H' b=none):fE X a_ H' b:=by
 refine⟨hn,Nat.ne_of_gt (Iw I.lt hb),I.nofs hb,.inr (IR I.sz hb),λx c e z=>?_,λp hp z=>?_⟩
 ·obtain⟨v,q⟩:=I.cell x c e;exact absurd (Iw q.lt (by rw[z];exact hb)) (Js _)
 ·exact absurd (Iw (Ir (I.pin p hp).1) (by rw[z];exact hb)) (Js _)
structure Turn (P:Program)(w:World)(K:JJ)(tg:Expr)(J:It)(fp:List Addr)(it:Addr)(tn:Nat->Heap->Prop):Prop where
 mem:it∈fp
 obj:∀i h,tn i h->∀b∈fp,∃o,h.get? b=some o/\∀v,o.data≠.cell v
 keep:∀i h h',tn i h->(∀b∈fp,∀o,h.get? b=some o->h'.get? b=some o)->tn i h'
 item:∀(X:Cx),X.prog=P->X.w=w->X.K=K->X.calm=true->∀(i:Nat) (a_:List (Addr×Obj)) (s:Shared)(σ:St)(H:Hp)(E:Value->Shared->Prop),Inv X a_ σ H s->(∀b∈fp,fE X a_ H b)->tn i s.heap->J.go i H->
  wpAny (model P w) X.A (pyNext (.ref it)) (λr s1=>∃u,r=some u/\
   wpAny (model P w) X.A (letOwnedTupleGo tg (.ref it) u) (λ_ s2=>∃x H',Inv X a_ σ H' s2/\RelV x u/\J.yld i H x H'/\tn (i+1) s2.heap/\∀b∈fp,H' b=none) E s1) E s
 done:∀(X:Cx),X.prog=P->X.w=w->X.K=K->X.calm=true->∀(i:Nat) (a_:List (Addr×Obj)) (s:Shared)(σ:St)(H:Hp)(E:Value->Shared->Prop),Inv X a_ σ H s->(∀b∈fp,fE X a_ H b)->tn i s.heap->J.stop i H->
  wpAny (model P w) X.A (pyNext (.ref it)) (λr s1=>r=none/\Inv X a_ σ H s1) E s
 self:∀(A:Around)(i:Nat)(s:Shared)(Q:Value->Shared->Prop)(E:Value->Shared->Prop),tn i s.heap->Q (.ref it) s->wpAny (model P w) A (pyIter (.ref it)) Q E s
noncomputable abbrev TI:=St->Hp->(It->Hp->Prop)->Prop
def PIE(X:Cx)(a_:List (Addr×Obj))(σ:St)(tg:Expr)(R:It->Hp->Prop)(O2:Value)(s2:Shared):Prop:=
 ∃(it:Addr)(fp:List Addr)(tn:Nat->Heap->Prop)(J:It)(H':Hp),O2=.ref it/\Inv X a_ σ H' s2/\Turn X.prog X.w X.K tg J fp it tn/\tn 0 s2.heap/\(∀b∈fp,fE X a_ H' b)/\R J H'
def PI(X:Cx)(tg iter:Expr)(wi:TI):Prop:=
 ∀(a_:List (Addr×Obj)) (s:Shared)(σ:St)(H:Hp)(R:It->Hp->Prop),Inv X a_ σ H s->wi σ H R->
  wpAny (model X.prog X.w) X.A (eval iter X.env) (λv s1=>wpAny (model X.prog X.w) X.A (pyIter v) (PIE X a_ σ tg R) X.xe s1) X.xe s
theorem qv {s : Shared} {o : Obj} (ho : s.heap.get? it = some o) (hc : o.cls = .type n) (hd : o.data = .fields vs)
    (hn : ["enumerate", "zip", "dict_itemiterator", "dict_reverseitemiterator", "odict_iterator", "itertools.zip_longest", "itertools.pairwise"].contains n = false) (hQ : Q () s) : wpAny M A (letOwnedTupleGo tg (.ref it) u) Q E s := by
  unfold letOwnedTupleGo;cases tg <;> first
    | exact Ik hQ
    | (cases u <;> first
        | exact Ik hQ
        | (refine Fr (wpAny_load ho ?_)
           rw [hc, hd];show wpAny M A (if (["enumerate", "zip", "dict_itemiterator", "dict_reverseitemiterator", "odict_iterator", "itertools.zip_longest", "itertools.pairwise"].contains n && vs[0]? == some (rawInt _)) = true then _ else _) Q E s
           rw [Im (by intro h; rw [hn, Bool.false_and] at h; cases h)]
           exact Ik hQ))
noncomputable def Itl(K:JJ)(a:Addr):It:=
 ⟨λi H=>∃xs x,SqL K H a xs/\xs[i]?=some x,λi H x H'=>H'=H/\∀xs,SqL K H a xs->xs[i]?=some x,λi H=>∃xs,SqL K H a xs/\xs.length<=i⟩
noncomputable def Itt(K:JJ)(a:Addr):It:=
 ⟨λi H=>∃xs x,SqT K H a xs/\xs[i]?=some x,λi H x H'=>H'=H/\∀xs,SqT K H a xs->xs[i]?=some x,λi H=>∃xs,SqT K H a xs/\xs.length<=i⟩
noncomputable def Itr(lo:Int)(n:Nat):It:=⟨λi _=>i<n,λi H x H'=>H'=H/\x=.int (lo+i),λi _=>n<=i⟩
theorem sh{K:JJ}(a it:Addr):Turn P w K tg (Itl K a) [it] it (λi h=>h.IsListIter it a i) where
 mem:=by simp
 obj:=λi h st b hb=>by
  have e:b=it:=by simpa using hb
  subst e;obtain⟨o,e,c,d⟩:=st;exact⟨o,e,λv z=>by rw[d]at z;cases z⟩
 keep:=λi h h' st k=>st.at λo e=>k it (by simp) o e
 item:=by
  intro X hP hw hK hc i a_ s σ H E I hf st hg;subst hP hw hK;obtain⟨xs,x,hq,hx⟩:=hg;obtain⟨its,rv,p,hz⟩:=I.list hq;obtain⟨u,hu,ru⟩:=rv.get hx;obtain⟨f0,f1,f2,f3,f4,f5⟩:=hf it (by simp)
  refine wpAny_pyNext_list_item st p.isList (x:=u) (by simpa using hu) λh' Lf sb=>?_
  have I1:Inv X a_ σ H {s with heap:=h'}:=I.turned (t':=s.toks) (λb o hb e=>(sb.2 b hb).trans e) f0 f1 f3 f4 f5
  obtain⟨o,e,c,d⟩:=id Lf;exact⟨u,rfl,qv (s:={s with heap:=h'}) e c d (by decide) ⟨x,H,I1,ru,⟨rfl,λys hy=>by rw[I.list_inj hy hq];exact hx⟩,Lf,λb hb=>(hf b hb).1⟩⟩
 done:=by
  intro X hP hw hK hc i a_ s σ H E I hf st hg;subst hP hw hK;obtain⟨xs,hq,hx⟩:=hg;obtain⟨its,rv,p,hz⟩:=I.list hq;obtain⟨f0,f1,f2,f3,f4,f5⟩:=hf it (by simp)
  have hl:=rv.length;exact wpAny_pyNext_list_end (I.ok.hd hc) st p.isList (by simp;omega) λh' eb=>⟨rfl,I.turned (t':=s.toks) (λb o hb e=>eb b o hb e) f0 f1 f3 f4 f5⟩
 self:=λ_ _ _ _ _ st h=>wpAny_pyIter_listiter st h
theorem pC{K:JJ}(a it:Addr):Turn P w K tg (Itt K a) [it] it (λi h=>h.IsTupleIter it a i) where
 mem:=by simp
 obj:=λi h st b hb=>by
  have e:b=it:=by simpa using hb
  subst e;obtain⟨o,e,c,d⟩:=st;exact⟨o,e,λv z=>by rw[d]at z;cases z⟩
 keep:=λi h h' st k=>st.at λo e=>k it (by simp) o e
 item:=by
  intro X hP hw hK hc i a_ s σ H E I hf st hg;subst hP hw hK;obtain⟨xs,x,hq,hx⟩:=hg;obtain⟨its,rv,p,hz⟩:=I.tuple hq;obtain⟨u,hu,ru⟩:=rv.get hx;obtain⟨f0,f1,f2,f3,f4,f5⟩:=hf it (by simp)
  refine wpAny_pyNext_tuple_item st (show s.heap.IsTuple a its.toArray from p) (x:=u) (by simpa using hu) λh' Lf sb=>?_
  have I1:Inv X a_ σ H {s with heap:=h'}:=I.turned (t':=s.toks) (λb o hb e=>(sb.2 b hb).trans e) f0 f1 f3 f4 f5
  obtain⟨o,e,c,d⟩:=id Lf;exact⟨u,rfl,qv (s:={s with heap:=h'}) e c d (by decide) ⟨x,H,I1,ru,⟨rfl,λys hy=>by rw[I.tuple_inj hy hq];exact hx⟩,Lf,λb hb=>(hf b hb).1⟩⟩
 done:=by
  intro X hP hw hK hc i a_ s σ H E I hf st hg;subst hP hw hK;obtain⟨xs,hq,hx⟩:=hg;obtain⟨its,rv,p,hz⟩:=I.tuple hq;obtain⟨f0,f1,f2,f3,f4,f5⟩:=hf it (by simp)
  have hl:=rv.length;exact wpAny_pyNext_tuple_end (I.ok.hd hc) st (show s.heap.IsTuple a its.toArray from p) (by simp;omega) λh' eb=>⟨rfl,I.turned (t':=s.toks) (λb o hb e=>eb b o hb e) f0 f1 f3 f4 f5⟩
 self:=λ_ _ _ _ _ st h=>wpAny_pyIter_tupleiter st h
theorem oH{K:JJ}(it:Addr)(lo:Int)(n:Nat):Turn P w K tg (Itr lo n) [it] it (λi h=>IsRangeIter h it (lo+(i:Nat)*1) ((n:Int)-(i:Nat)) 1) where
 mem:=by simp
 obj:=λi h st b hb=>by
  have e:b=it:=by simpa using hb
  subst e;exact⟨_,st,λv z=>by
   have z':Data.fields _=Data.cell v:=z;cases z'⟩
 keep:=λi h h' st k=>k it (by simp) _ st
 item:=by
  intro X hP hw hK hc i a_ s σ H E I hf st hg;subst hP hw hK;obtain⟨f0,f1,f2,f3,f4,f5⟩:=hf it (by simp)
  have W:=Walks.range (prog:=X.prog) (w:=X.w) (I.ok.hd hc) it lo 1 n;refine W.item i s _ _ hg st λv h' tk hv Lf kk=>?_
  obtain⟨t,rfl⟩:=hv;have I1:Inv X a_ σ H {s with heap:=h',toks:=tk}:=I.turned (λb o hb e=>kk b o (by simpa using hb) e) f0 f1 f3 f4 f5
  refine⟨_,rfl,qv (s:={s with heap:=h',toks:=tk}) (n:="range_iterator") Lf rfl rfl (by decide) ⟨.int (lo+i),H,I1,⟨t,?_⟩,⟨rfl,rfl⟩,Lf,λb hb=>(hf b hb).1⟩⟩
  rw[Int.mul_one]
 done:=by
  intro X hP hw hK hc i a_ s σ H E I hf st hg;subst hP hw hK;obtain⟨f0,f1,f2,f3,f4,f5⟩:=hf it (by simp)
  exact wpAny_pyNext_range_end (I.ok.hd hc) st (by have:n<=i:=hg;omega) λh' eb=>⟨rfl,I.turned (t':=s.toks) (λb o hb e=>eb b o hb e) f0 f1 f3 f4 f5⟩
 self:=λ_ _ _ _ _ st h=>wpAny_pyIter_rangeiter st h
section
variable {X:Cx}
theorem sW{s:Shared}{lo:Int}(I:Inv X a_ σ H s)(h1 : -(2 ^ 62)<=lo)(h2:lo<2 ^ 62)(h3 : -(2 ^ 62)<=hi)(h4:hi<2 ^ 62)
  (q:R (Itr lo (hi-lo).toNat) H):wpAny (model X.prog X.w) X.A (pyIter (.ref s.heap.objs.size)) (PIE X a_ σ tg R) E {s with heap:=s.heap.push {cls:=.type "range",data:=.fields #[.int lo t,.int hi u,.int 1 v]},toks:=tk}:=by
 refine wpAny_pyIter_range (IsRange.new ..) (small_one h1 h2 h3 h4) ?_;have I1:Inv X a_ σ H {s with heap:=s.heap.push {cls:=.type "range",data:=.fields #[.int lo t,.int hi u,.int 1 v]},toks:=tk}:=I.kept λb o e=>Il _ e
 refine⟨(s.heap.push {cls:=.type "range",data:=.fields #[.int lo t,.int hi u,.int 1 v]}).objs.size,[(s.heap.push {cls:=.type "range",data:=.fields #[.int lo t,.int hi u,.int 1 v]}).objs.size],_,_,H,rfl,
  I1.kept (t':=tk) λb o e=>Il _ e,oH _ lo (hi-lo).toNat,?_,λb hb=>?_,q⟩
 ·have e1:lo+((0:Nat):Int)*1=lo:=by simp
  have e2:(((hi-lo).toNat:Nat):Int)-((0:Nat):Int)=Builtin.Range.rangeSize lo hi 1:=by rw[rangeSize_one];split<;>omega
  show IsRangeIter _ _ (lo+((0:Nat):Int)*1) ((((hi-lo).toNat:Nat):Int)-((0:Nat):Int)) 1;rw[e1,e2];exact Iz _ rfl
 ·have e:b=(s.heap.push {cls:=.type "range",data:=.fields #[.int lo t,.int hi u,.int 1 v]}).objs.size:=by simpa using hb
  subst e;exact I1.fpOk (Iq _) (I1.h_.fresh (Iq _))
noncomputable def DU(ta:TA):TI:=λσ H R=>ta σ H λvs H1=>∃j:Int,vs=[.int j]/\-(2 ^ 62)<=j/\j<2 ^ 62/\R (Itr 0 j.toNat) H1
theorem rf(hg:Gl X "range")(hm:X.mg "range"=none)(ha:PA X [a] ta)(hs:starEach [a] X.env=[(false,eval a X.env)]:=by rfl):PI X tg (.Call (.Name "range" p) [a] [] pos) (DU ta):=by
 intro a_ s σ H R I h;refine Call_ (dE I hg hm boot_range (PyProof.Rows.callWith_type1 (thn (ha pos a_ s σ H _ I h) λus s1 ⟨vs,H1,I1,r1,q1⟩=>?_) hs rfl))
 obtain⟨j,e,q1,q2,q⟩:=q1;subst e;cases r1 with
 |cons r rr=>
  cases rr;obtain⟨t,rfl⟩:=r;exact call_range_1 (sW I1 (by omega) (by omega) q1 q2 (by simpa using q))
noncomputable def F4(wi:TI)(g:TG)(tb:TS):TS:=λD σ H=>wi σ H λJ H1=>∃W:Nat->Nat->St->Hp->Prop,(∃m,W 0 m σ H1)/\∀i m σ H,W i m σ H->
 (J.stop i H/\D.nx σ H)\/(J.go i H/\∃N:St->Hp->Prop,(∀o_ H',N o_ H'->∃m',m' < m/\W (i+1) m' o_ H')/\∀x H',J.yld i H x H'->g x σ H' λKr H2=>tb {D with nx:=N,ct:=N,bk:=D.nx} Kr H2)
noncomputable def jj(fp:List Addr)(h:Heap):List (Addr×Obj):=fp.filterMap λb=>(h.get? b).map λo=>(b,o)
theorem dU{h:Heap}(hb:b∈fp)(e:h.get? b=some o):(b,o)∈jj fp h:=List.mem_filterMap.mpr ⟨b,hb,by rw[e];rfl⟩
theorem rV{h:Heap}{p:Addr×Obj}(hp:p∈jj fp h):p.1∈fp/\h.get? p.1=some p.2:=by
 obtain⟨b,hb,e⟩:=List.mem_filterMap.mp hp;cases q:h.get? b with
 |none=>rw[q]at e;cases e
 |some o=>
  rw[q]at e;have e':(b,o)=p:=IK e;subst e';exact⟨hb,q⟩
theorem Inv.pinned{s:Shared}(I:Inv X a_ σ H s)(hf:∀b∈fp,fE X a_ H b)(ho:∀b∈fp,∃o,s.heap.get? b=some o/\∀v,o.data≠.cell v):Inv X (a_++jj fp s.heap) σ H s:=
 I.pins_of λp hp=>(IX.mp hp).elim (λz=>I.pin p (IU _ z)) λz=>by
  obtain⟨hb,e⟩:=rV z;obtain⟨f0,f1,f2,_⟩:=hf p.1 hb;obtain⟨o,e',d⟩:=ho p.1 hb;rw[e]at e';cases e';exact⟨e,f0,f1,f2,d⟩
theorem Inv.unpinned(I:Inv X (a_++pl) σ H s):Inv X a_ σ H s:=I.pins_of λp hp=>I.pin p (IU _ (Jg _ hp))
theorem zZ(hp:PassesOwn (model X.prog X.w) X.A X.env X.xe)(hc:X.calm=true)(hi:PI X tg iter wi)(hg:PG X tg g)(hb:PSs X body tb)
  (hs:∀x,foldedSetIterable iter X.env x=pure x:=by intro _;rfl):PS X (.For tg iter body [] pos) (F4 wi g tb):=by
 intro a_ s σ H D I h;refine wpAny_For (thn (hi a_ s σ H _ I h) λv s1 h1=>thn h1 λO2 s2 h2=>?_) hs
 obtain⟨it,fp,tn,J,H2,e,I2,T,Ov,f2,W,⟨m0,w0⟩,pG⟩:=h2;subst e;have Ms:∀{H':Hp},(∀b∈fp,H' b=none)->∀b∈fp,fE X a_ H' b:=λhn b hb=>⟨hn b hb,(f2 b hb).2⟩
 refine codeAny_forLoop_any (λn s'=>∃i o_ H',Inv X a_ o_ H' s'/\tn i s'.heap/\(∀b∈fp,H' b=none)/\W i n o_ H') ?_ m0 ⟨0,σ,H2,I2,Ov,λb hb=>(f2 b hb).1,w0⟩
 rintro n s3 ⟨i,g_,H3,I3,Nu,Ow,w3⟩;rcases pG i n g_ H3 w3 with ⟨stop,qn⟩|⟨go,N,hN,step⟩
 ·refine wpAny_passesOwn hp (thn (T.done X rfl rfl rfl hc i a_ s3 g_ H3 X.xe I3 (Ms Ow) Nu stop) λr s4 ⟨hr,I4⟩=>?_)
  subst hr;exact wpAny_execs_nil ⟨g_,H3,I4,qn⟩
 ·refine wpAny_passesOwn hp (thn (T.item X rfl rfl rfl hc i a_ s3 g_ H3 X.xe I3 (Ms Ow) Nu go) λr s4 ⟨u,hr,h4⟩=>?_)
  subst hr;refine wpAny_passesOwn hp (thn h4 λ_ s5 ⟨x,H5,I5,r5,y5,O3,QZ⟩=>?_)
  have Q0:=I5.pinned (Ms QZ) (T.obj _ _ O3);refine wpAny_passesOwn hp (thn (hg _ s5 g_ H5 x u _ Q0 r5 (step x H5 y5)) λ_ s6 ⟨Mt,H6,I6,q6⟩=>?_)
  refine wpAny_passesOwn hp (thn (hb _ s6 Mt H6 _ I6 q6) λf s7 q7=>?_)
  have again:∀{Kw:St}{H7:Hp},Inv X (a_++jj fp s5.heap) Kw H7 s7->N Kw H7->∃m,m<n/\∃i o_ H',Inv X a_ o_ H' s7/\tn i s7.heap/\(∀b∈fp,H' b=none)/\W i m o_ H':=λ{Kw H7} I7 n7=>by
   obtain⟨m',hm,w7⟩:=hN Kw H7 n7;refine⟨m',hm,i+1,Kw,H7,I7.unpinned,T.keep _ _ _ O3 λb hb o e=>(I7.pin (b,o) (IU _ (IU _ (dU hb e)))).1,λb hb=>?_,w7⟩
   obtain⟨o,e,d⟩:=T.obj _ _ O3 b hb;exact (I7.pin (b,o) (IU _ (IU _ (dU hb e)))).2.1
  cases f with
  |next=>obtain⟨Kw,H7,I7,n7⟩:=q7;exact again I7 n7
  |cont=>obtain⟨Kw,H7,I7,n7⟩:=q7;exact again I7 n7
  |brk=>obtain⟨Kw,H7,I7,q7⟩:=q7;exact⟨Kw,H7,I7.unpinned,q7⟩
  |ret v=>obtain⟨x7,Kw,H7,I7,r7,q7⟩:=q7;exact⟨x7,Kw,H7,I7.unpinned,r7,q7⟩
end
noncomputable abbrev R2:=V->V->Hp->VK->Prop
def OpR(X:Cx)(f:Value->Value->Sem Value)(r:R2):Prop:=
 ∀(a_:List (Addr×Obj)) (s:Shared)(σ:St)(H:Hp)(x y:V)(v u:Value)(Q:VK),Inv X a_ σ H s->RelV x v->RelV y u->r x y H Q->
  wpAny (model X.prog X.w) X.A (f v u) (EP X a_ σ Q) X.xe s
def UnR(X:Cx)(f:Value->Sem Value)(r:V->Hp->VK->Prop):Prop:=
 ∀(a_:List (Addr×Obj)) (s:Shared)(σ:St)(H:Hp)(x:V)(v:Value)(Q:VK),Inv X a_ σ H s->RelV x v->r x H Q->
  wpAny (model X.prog X.w) X.A (f v) (EP X a_ σ Q) X.xe s
def CallR(X:Cx)(f:Value)(r:List V->Hp->VK->Prop):Prop:=
 ∀(a_:List (Addr×Obj)) (s:Shared)(σ:St)(H:Hp)(xs:List V)(us:List Value)(Q:VK),Inv X a_ σ H s->Vals xs us->r xs H Q->
  wpAny (model X.prog X.w) X.A (call f us) (EP X a_ σ Q) X.xe s
noncomputable def tOp(r:R2)(ta tb:TE):TE:=λσ H Q=>ta σ H λx H1=>tb σ H1 λy H2=>r x y H2 Q
noncomputable def tUn(r:V->Hp->VK->Prop)(ta:TE):TE:=λσ H Q=>ta σ H λx H1=>r x H1 Q
def rI(C:Int->Int->Prop)(g:Int->Int->V):R2:=λx y H Q=>∃i j,x=.int i/\y=.int j/\C i j/\Q (g i j) H
def rI0(g:Int->Int->V):R2:=λx y H Q=>∃i j,x=.int i/\y=.int j/\Q (g i j) H
def rU(g:Int->V):V->Hp->VK->Prop:=λx H Q=>∃i,x=.int i/\Q (g i) H
section
variable {X:Cx}{a b c:Expr}{ta tb tc:TE}{pos:Pos}
theorem zd(ha:PE X a ta)(hb:PE X b tb){a_:List (Addr×Obj)}{s:Shared}{σ:St}{H:Hp}{R:V->V->Hp->Prop}(I:Inv X a_ σ H s)
  (h:ta σ H λx H1=>tb σ H1 λy H2=>R x y H2) {Q:Value->Shared->Prop}{f:Value->Value->Sem Value}
  (hf:∀v u s2 x y H2,Inv X a_ σ H2 s2->RelV x v->RelV y u->R x y H2->wpAny (model X.prog X.w) X.A (f v u) Q X.xe s2) :
  wpAny (model X.prog X.w) X.A (eval a X.env) (λv p_=>wpAny (model X.prog X.w) X.A (eval b X.env) (λu Mr=>wpAny (model X.prog X.w) X.A (f v u) Q X.xe Mr) X.xe p_) X.xe s:=by
 refine thn (ha a_ s σ H _ I h) λv s1 ⟨x,H1,I1,r1,q1⟩=>?_
 refine thn (hb a_ s1 σ H1 _ I1 q1) λu s2 ⟨y,H2,I2,r2,q2⟩=>?_
 exact hf v u s2 x y H2 I2 r1 r2 q2
theorem Dm{op:Operator}{r:R2}(ho:OpR X (binaryOp op) r)(ha:PE X a ta)(hb:PE X b tb):PE X (.BinOp a op b pos) (tOp r ta tb):=by
 intro a_ s σ H Q I h;exact wpAny_BinOp (zd ha hb I h λv u s2 x y H2 I2 rx ry q=>ho a_ s2 σ H2 x y v u Q I2 rx ry q)
theorem Dc(ho:UnR X (unaryOp op) r)(ha:PE X a ta):PE X (.UnaryOp op a pos) (tUn r ta):=by
 intro a_ s σ H Q I h;exact UnaryOp_ (thn (ha a_ s σ H _ I h) λv s1 ⟨x,H1,I1,r1,q1⟩=>ho a_ s1 σ H1 x v Q I1 r1 q1)
theorem opI{f:Value->Value->Sem Value}{C:Int->Int->Prop}{g:Int->Int->Int}
  (rule:∀(i j:Int)(t u:Tok)(s:Shared)(Q:Value->Shared->Prop)(E:Value->Shared->Prop),C i j->Q (.int (g i j) s.toks) {s with toks:=s.toks+1}->wpAny (model X.prog X.w) X.A (f (.int i t) (.int j u)) Q E s) :
  OpR X f (rI C λi j=>.int (g i j)):=by
 intro a_ s σ H x y v u Q I rx ry h;obtain⟨i,j,rfl,rfl,hc,q⟩:=h;obtain⟨t,rfl⟩:=rx;obtain⟨t',rfl⟩:=ry;exact rule i j t t' s _ _ hc ⟨.int (g i j),H,I.tok _,⟨_,rfl⟩,q⟩
theorem yO{f:Value->Value->Sem Value}{g:Int->Int->Int}
  (rule:∀(i j:Int)(t u:Tok)(s:Shared)(Q:Value->Shared->Prop)(E:Value->Shared->Prop),Q (.int (g i j) s.toks) {s with toks:=s.toks+1}->wpAny (model X.prog X.w) X.A (f (.int i t) (.int j u)) Q E s) :
  OpR X f (rI0 λi j=>.int (g i j)):=by
 intro a_ s σ H x y v u Q I rx ry h;obtain⟨i,j,rfl,rfl,q⟩:=h;obtain⟨t,rfl⟩:=rx;obtain⟨t',rfl⟩:=ry;exact rule i j t t' s _ _ ⟨.int (g i j),H,I.tok _,⟨_,rfl⟩,q⟩
theorem xJ{f:Value->Value->Sem Value}{g:Int->Int->Bool}
  (rule:∀(i j:Int)(t u:Tok)(s:Shared)(Q:Value->Shared->Prop)(E:Value->Shared->Prop),Q (.bool (g i j)) s->wpAny (model X.prog X.w) X.A (f (.int i t) (.int j u)) Q E s) :
  OpR X f (rI0 λi j=>.bl (g i j)):=by
 intro a_ s σ H x y v u Q I rx ry h;obtain⟨i,j,rfl,rfl,q⟩:=h;obtain⟨t,rfl⟩:=rx;obtain⟨t',rfl⟩:=ry;exact rule i j t t' s _ _ ⟨.bl (g i j),H,I,rfl,q⟩
def uC(i j:Int):Prop:=0<=j/\j<=1000000/\i.natAbs<2 ^ 64
theorem pP(k:Nat):(0:Int)<=2 ^ k:=by
 rw[two_pow_cast];exact Int.natCast_nonneg _
theorem Bi:OpR X (binaryOp .Add) (rI0 λi j=>.int (i+j)):=yO λ_ _ _ _ _ _ _ q=>add_int q
theorem zr:OpR X (binaryOp .Sub) (rI0 λi j=>.int (i-j)):=yO λ_ _ _ _ _ _ _ q=>sub_int q
theorem Aw:OpR X (binaryOp .Mod) (rI (λ_ j=>0<j) λi j=>.int (i % j)):=opI λi j _ _ _ _ _ hc q=>by
 have h1:(0:Int)<j:=hc;exact mod_int' (by omega) (by rw[Int.fmod_eq_emod_of_nonneg i (by omega)];exact q)
theorem zI:OpR X (binaryOp .Pow) (rI uC λi j=>.int (i ^ j.toNat)):=opI λ_ _ _ _ _ _ _ hc q=>pow_int_small hc.1 hc.2.1 hc.2.2 q
theorem zh:OpR X (binaryOp .RShift) (rI (λ_ j=>0<=j) λi j=>.int (i / 2 ^ j.toNat)):=opI λi j _ _ _ _ _ hc q=>
 rshift_int hc (by rw[Int.fdiv_eq_ediv_of_nonneg i (pP _)];exact q)
theorem Bq:OpR X (binaryOp .BitAnd) (rI0 λi j=>.int (Builtin.bitAnd i j)):=yO λ_ _ _ _ _ _ _ q=>and_int q
theorem unI{f:Value->Sem Value}{g:Int->Int}
  (rule:∀(i:Int)(t:Tok)(s:Shared)(Q:Value->Shared->Prop)(E:Value->Shared->Prop),Q (.int (g i) s.toks) {s with toks:=s.toks+1}->wpAny (model X.prog X.w) X.A (f (.int i t)) Q E s) :
  UnR X f (rU λi=>.int (g i)):=by
 intro a_ s σ H x v Q I rx h;obtain⟨i,rfl,q⟩:=h;obtain⟨t,rfl⟩:=rx;exact rule i t s _ _ ⟨.int (g i),H,I.tok _,⟨_,rfl⟩,q⟩
theorem Ad:UnR X (unaryOp .USub) (rU λi=>.int (-i)):=unI λ_ _ _ _ _ q=>neg_int q
end
section
variable {X:Cx}{a b c:Expr}{ta tb tc:TE}{pos:Pos}
theorem uD(I:Inv X a_ σ H s)(q:Q (.bl k) H)(e:k=k'):EP X a_ σ Q (.bool k') s:=by
 subst e;exact⟨.bl k,H,I,rfl,q⟩
theorem C4:OpR X (compareOp .Lt) (rI0 λi j=>.bl (decide (i<j))):=xJ λ_ _ _ _ _ _ _ q=>lt_int q
theorem Dx:OpR X (compareOp .LtE) (rI0 λi j=>.bl (decide (i<=j))):=xJ λ_ _ _ _ _ _ _ q=>le_int q
theorem DP:OpR X (compareOp .Gt) (rI0 λi j=>.bl (decide (j<i))):=xJ λ_ _ _ _ _ _ _ q=>gt_int q
theorem CZ:OpR X (compareOp .GtE) (rI0 λi j=>.bl (decide (j<=i))):=xJ λ_ _ _ _ _ _ _ q=>ge_int q
theorem Ap:OpR X (compareOp .Is) (λx y H Q=>y=.j_/\Q (.bl (decide (x=.j_))) H):=by
 intro a_ s σ H x y v u Q I rx ry h;obtain⟨rfl,q⟩:=h;cases ry;refine is_none_gen (uD I q ?_);cases x<;>first
  |(cases rx;rfl)
  |(obtain⟨t,rfl⟩:=rx;rfl)
theorem wa:OpR X (compareOp .IsNot) (λx y H Q=>y=.j_/\Q (.bl (!decide (x=.j_))) H):=by
 intro a_ s σ H x y v u Q I rx ry h;obtain⟨rfl,q⟩:=h;cases ry;refine isnot_none_gen (uD I q ?_);cases x<;>first
  |(cases rx;rfl)
  |(obtain⟨t,rfl⟩:=rx;rfl)
theorem xa{op:CmpOp}{r:R2}(ho:OpR X (compareOp op) r)(ha:PE X a ta)(hb:PE X b tb)(hm:behindInMarks op b=false):PE X (.Compare a [op] [b] pos) (tOp r ta tb):=by
 intro a_ s σ H Q I h;exact wpAny_Compare1 (zd ha hb I h λv u s2 x y H2 I2 rx ry q=>ho a_ s2 σ H2 x y v u Q I2 rx ry q) hm
noncomputable def C0(t:TE):TT:=λσ H Q=>t σ H λx H'=>∃k,x=.bl k/\Q k H'
theorem xQ(ho:OpR X (compareOp op) r)(ha:PE X a ta)(hb:PE X b tb)(hm:behindInMarks op b=false):PT X (.Compare a [op] [b] pos) (C0 (tOp r ta tb)):=by
 intro a_ s σ H Q I h;refine wpAny_isTrue_Compare1 (thn (ha a_ s σ H _ I h) λv s1 ⟨x,H1,I1,r1,q1⟩=>thn (hb a_ s1 σ H1 _ I1 q1) λu s2 ⟨y,H2,I2,r2,q2⟩=>
  thn (ho a_ s2 σ H2 x y v u _ I2 r1 r2 q2) λc s3 ⟨z,H3,I3,r3,k,e,q3⟩=>?_) hm
 subst e;cases r3;exact Jt ⟨H3,I3,q3⟩
noncomputable def Bb(r r':R2)(ta tb tc:TE):TE:=λσ H Q=>ta σ H λx H1=>tb σ H1 λy H2=>r x y H2 λz H3=>∃k,z=.bl k/\
 (if k=true then tc σ H3 λw' H4=>r' y w' H4 Q else Q (.bl false) H3)
theorem vD(ho:OpR X (compareOp op) r)(Kl:OpR X (compareOp Km) r')(ha:PE X a ta)(hb:PE X b tb)(hc:PE X c tc)
  (hm:lastMarks [op,Km] [b,c]=false:=by with_unfolding_all rfl):PE X (.Compare a [op,Km] [b,c] pos) (Bb r r' ta tb tc):=by
 intro a_ s σ H Q I h;refine Compare_chain (thn (ha a_ s σ H _ I h) λv s1 ⟨x,H1,I1,r1,q1⟩=>chain_link (thn (hb a_ s1 σ H1 _ I1 q1) λu s2 ⟨y,H2,I2,r2,q2⟩=>
  thn (ho a_ s2 σ H2 x y v u _ I2 r1 r2 q2) λd s3 ⟨z,H3,I3,r3,k,e,q3⟩=>?_)) hm
 subst e;cases r3;refine Jt ?_;cases k with
 |false=>exact ite_ff ⟨.bl false,H3,I3,rfl,q3⟩
 |true=>exact ite_tt (chain_last (thn (hc a_ s3 σ H3 _ I3 q3) λw' s4 ⟨z',H4,I4,r4,q4⟩=>Kl a_ s4 σ H4 y z' u w' Q I4 r2 r4 q4))
theorem iV:(sizeLine:Nat)<2 ^ 63:=by rw[sizeLine_eq];decide
theorem le(r:Vals [x] us):∃u,us=[u]/\RelV x u:=by
 cases r with
 |cons r1 r2=>cases r2;exact⟨_,rfl,r1⟩
theorem yp(r:Vals [x,y] us):∃u w',us=[u,w']/\RelV x u/\RelV y w':=by
 cases r with
 |cons r1 r2=>
  cases r2 with
  |cons r3 r4=>cases r4;exact⟨_,_,rfl,r1,r3⟩
theorem rX(hc:X.calm=true):CallR X (.builtin "max") (λxs H Q=>∃i j,xs=[.int i,.int j]/\Q (.int (if j > i then j else i)) H):=by
 intro a_ s σ H xs us Q I r h;obtain⟨i,j,rfl,q⟩:=h;obtain⟨u,w',rfl,⟨t,rfl⟩,⟨t',rfl⟩⟩:=yp r;refine max_two_ints (I.ok.hd hc) λh' tk k=>⟨_,H,I.kept k,?_,q⟩
 by_cases hj:j > i
 ·rw[Iu hj,Iu hj];exact⟨_,rfl⟩
 ·rw[Im hj,Im hj];exact⟨_,rfl⟩
theorem sR(hc:X.calm=true):CallR X (.builtin "min") (λxs H Q=>∃i j,xs=[.int i,.int j]/\Q (.int (if j<i then j else i)) H):=by
 intro a_ s σ H xs us Q I r h;obtain⟨i,j,rfl,q⟩:=h;obtain⟨u,w',rfl,⟨t,rfl⟩,⟨t',rfl⟩⟩:=yp r;refine min_two_ints (I.ok.hd hc) λh' tk k=>⟨_,H,I.kept k,?_,q⟩
 by_cases hj:j<i
 ·rw[Iu hj,Iu hj];exact⟨_,rfl⟩
 ·rw[Im hj,Im hj];exact⟨_,rfl⟩
end
structure ObjM (h:Heap)(x dx C:Addr)(mA:Str->Option Value):Prop where
 obj:h.get? x=some (PySem.W.instObj C dx)
 ns:h.Ns1 dx mA
 ne:dx≠x
theorem rN{h:Heap}(n:h.Ns1 dx mA):∃od,h.get? dx=some od/\∀name,PySem.W.lookIn name od=some (mA name):=by
 obtain⟨o,es,ep,ho,hd,hk,_,hm⟩:=n;refine⟨o,ho,λname=>?_⟩
 have e:=hm name;unfold nsFind findBy at e;rw[<-Array.find?_toList]at e;unfold PySem.W.lookIn;rw[hd];dsimp only;split
 ·rename_i y q;rw[q]at e;exact congrArg some e
 ·rename_i q;rw[q]at e;have a:es.toList.any (·.refKey)=false:=by
   rw[List.any_eq_false];intro y hy;obtain⟨z,t,K6⟩:=hk y (Array.mem_toList_iff.mp hy);simp[DictEntry.refKey,K6]
  have a':¬ es.toList.any (·.refKey)=true:=by rw[a];exact IP
  rw[Im a'];exact congrArg some e
theorem ObjM.look(I:ObjM h x dx C mA):∃od,PySem.W.InstAt h x (PySem.W.instObj C dx) C (some od)/\∀name,PySem.W.lookIn name od=some (mA name):=
 let ⟨od,ho,hl⟩:=rN I.ns
 ⟨od,⟨I.obj,rfl,rfl,ho⟩,hl⟩
section
variable {w:World}{A:Around}{s:Shared}{K:JJ}{x:Addr}
theorem wX(X:K.In s.heap)(I:ObjM s.heap x dx C mA)(hg:PySem.W.plainGet K C name=true)(hh:PySem.W.hasDictIn K C=true)
  (ha:PySem.W.findIn K (.ref C) name=some none) (hv:mA name=some v) (Q1:PySem.W.handedIn v=true) (h:Q v {s with toks:=s.toks+1}) :
  wpAny (model prog w) A (getAttr (.ref x) name expr) Q E s:=by
 obtain⟨od,J,hl⟩:=I.look;exact PySem.W.get_value X J (PySem.W.plainGet_of hg).1 (PySem.W.findObj_own hh ha rfl (by rw[hl,hv])) Q1 h
theorem ve(X:K.In s.heap)(I:ObjM s.heap x dx C mA)(hg:PySem.W.plainGet K C name=true)
  (hf:PySem.W.findIn K (.ref C) name=some (some (.ref f))) (ht:PySem.W.isFn K (.ref f)=true) (hv:mA name=none) (h:Q (.ref f,[.ref x]) s) :
  wpAny (model prog w) A (getMethod (.ref x) name pl) Q E s:=by
 obtain⟨od,J,hl⟩:=I.look;exact PySem.W.method_fn X J (PySem.W.plainGet_of hg).1 (PySem.W.plainGet_of hg).2 hf (IH.mp ht) (by show (PySem.W.lookIn name od).map (·.isSome)=some false;rw[hl,hv];rfl) h
theorem wu{ns:List Str}(X:K.In s.heap)(I:ObjM s.heap x dx C mA)
  (hs:PySem.W.findIn K (.ref C) "__setattr__"=some (some (.builtin "object.__setattr__"))) (hp:PySem.W.plainOver K C=true) (ht:PySem.W.takerIn K C name=some none) (hh:PySem.W.hasDictIn K C=true)
  (hw:PySem.Within mA ns) (hsz:ns.length<=sizeLine)
  (h:∀h',ObjM h' x dx C (λy=>if y=name then some v else mA y)->Heap.SameBut dx s.heap h'->Q () {s with heap:=h',toks:=s.toks+2}) :
  wpAny (model prog w) A (setAttr (.ref x) name v) Q E s:=by
 obtain⟨od,J,hl⟩:=I.look;refine PySem.W.set_plain X J hs (PySem.W.osa_open (s:={s with toks:=s.toks+1}) (r:=none) X J hp ht λb=>?_)
 obtain⟨cd,hc,LN⟩:=PySem.W.any_some hh;have hx:s.heap.get? x=some ⟨.ref C,some dx,.plain,#[]⟩:=I.obj;refine Fr (Ik (Fr (Fr (wpAny_loadPart hx (Fr (PySem.W.Looks.here (s:={s with toks:=s.toks+1}) (PySem.W.looks_clsIn X hc) ?_))))))
 rw[LN];refine Ik (a:=some dx) (Fr (Ik (Fr ?_)));refine wpAny_nsSet1 (s:={s with toks:=s.toks+1}) I.ns λh' Lz Kc=>?_
 obtain⟨oD,Q4,Q5,O4,O5,Ll⟩:=Lz.count (PySem.Within.cons name v hw);refine Fr (wpAny_lookBehind O4 (by rw[O5];exact pastItsLine_dict (IR Ll (by rw[IN];omega))) ?_)
 exact Ik (h _ ⟨(Kc.2 _ (IB I.ne)).trans I.obj,Lz,I.ne⟩ Kc)
theorem tF(X:K.In s.heap)(hm:PySem.W.makesIn K C=true)
  (hi:PySem.W.findIn K (.ref C) "__init__"=some (some (.ref f))) (hf:PySem.W.typeIn K (.ref f)=some (.type "function"))
  (h:codeAny (model prog w) (A.under (.builtin "type.__call__" ⟨.ref C::vs,kw⟩)) (.call (.ref f) ⟨.ref (s.heap.objs.size+1)::vs,kw⟩) (PySem.W.InitBack (s.heap.objs.size+1) R)
   {s with heap:=(s.heap.push PySem.W.emptyDict).push (PySem.W.instObj C s.heap.objs.size)}) :
  codeAny (model prog w) A (.call (.ref C) ⟨vs,kw⟩) R s:=by
 obtain⟨hh,g,d,t,os⟩:=s;exact PySem.W.make_core (PySem.W.makes_of X hm) (PySem.W.looks_findIn X hi) (λself=>PySem.W.bind_fn X self hf) (.inl rfl) h
end
noncomputable def dA(f:Str)(v:V):List (Str×V)->List (Str×V)
 |[]=>[(f,v)]
 |(g,x)::r=>if g=f then (g,v)::r else (g,x)::dA f v r
theorem im(f g:Str)(v:V):∀fs:List (Str×V),(dA f v fs).lookup g=if g=f then some v else fs.lookup g
 |[]=>by
  show List.lookup g [(f,v)]=_;by_cases h:g=f
  ·have hb:(g == f)=true:=IH.mpr h;simp only[List.lookup,hb,Iu h]
  ·have hb:(g == f)=false:=IZ.mpr h;simp only[List.lookup,hb,Im h]
 |(k,x)::r=>by
  have ih:=im f g v r;rw[show dA f v ((k,x)::r)=(if k=f then (k,v)::r else (k,x)::dA f v r) from rfl]
  by_cases hk:k=f
  ·rw[Iu hk];by_cases h:g=k
   ·have hb:(g == k)=true:=IH.mpr h;simp only[List.lookup,hb,Iu (h.trans hk)]
   ·have hb:(g == k)=false:=IZ.mpr h;simp only[List.lookup,hb,Im (λe:g=f=>h (e.trans hk.symm))]
  ·rw[Im hk];by_cases h:g=k
   ·have hb:(g == k)=true:=IH.mpr h;simp only[List.lookup,hb,Im (λe:g=f=>hk (h.symm.trans e))]
   ·have hb:(g == k)=false:=IZ.mpr h;simp only[List.lookup,hb];exact ih
theorem gO(f:Str)(v:V):∀fs:List (Str×V),f∈(dA f v fs).map (·.1)/\∀g,g∈fs.map (·.1)->g∈(dA f v fs).map (·.1)
 |[]=>⟨by simp[dA],λg h=>by simp at h⟩
 |(k,x)::r=>by
  obtain⟨i1,i2⟩:=gO f v r;rw[show dA f v ((k,x)::r)=(if k=f then (k,v)::r else (k,x)::dA f v r) from rfl]
  by_cases hk:k=f
  ·rw[Iu hk];subst hk;exact⟨by simp,λg h=>by simpa using h⟩
  ·rw[Im hk];refine⟨?_,λg h=>?_⟩
   ·rw[Ip];exact Io _ i1
   ·rw[Ip]at h ⊢;rcases Iv.mp h with e|e
    ·exact Iv.mpr (.inl e)
    ·exact Io _ (i2 g e)
theorem ik(f:Str)(v:V):∀fs:List (Str×V),(dA f v fs).length<=fs.length+1
 |[]=>by simp[dA]
 |(k,x)::r=>by
  have ih:=ik f v r;rw[show dA f v ((k,x)::r)=(if k=f then (k,v)::r else (k,x)::dA f v r) from rfl]
  by_cases hk:k=f
  ·rw[Iu hk,IN,IN];omega
  ·rw[Im hk,IN,IN];omega
theorem RelO.some_of(r:RelO (some v) o):∃u,o=some u/\RelV v u:=by
 cases o with
 |none=>exact (show False from r).elim
 |some u=>exact⟨u,rfl,r⟩
theorem RelO.none_of(r:RelO none o):o=none:=by
 cases o with
 |none=>rfl
 |some u=>exact (show False from r).elim
theorem sj(r:RelV v u):PySem.W.handedIn u=true:=by
 cases v with
 |j_=>cases (show u=Value.none from r);rfl
 |bl b=>cases (show u=Value.bool b from r);rfl
 |int i=>obtain⟨t,e⟩:=(show ∃t,u=Value.int i t from r);cases e;rfl
 |str x=>obtain⟨t,e⟩:=(show ∃t,u=Value.str x t from r);cases e;rfl
 |Oq b=>obtain⟨t,e⟩:=(show ∃t,u=Value.bytes b t from r);cases e;rfl
 |Ot b=>obtain⟨t,e⟩:=(show ∃t,u=Value.float b t from r);cases e;rfl
 |ref a=>cases (show u=Value.ref a from r);rfl
 |ty n=>cases (show u=Value.type n from r);rfl
section
variable {P:Program}{w:World}{h h':Heap}{a:Addr}{fs:List (Str×V)}
theorem ya(h_:HOk P w H h)(e:H a=some (.ins C dx fs)):∃mA,ObjM h a dx C mA/\(∀f,RelO (fs.lookup f) (mA f))/\PySem.Within mA (fs.map (·.1))/\fs.length<=1000/\H dx=some (.own a):=by
 obtain⟨d,z,ne,ob,mA,n,r,q⟩:=(show ObjOk P w H h a (.ins C dx fs) from h_ a _ e);exact⟨mA,⟨ob,n,ne⟩,r,q,z,d⟩
end
structure Cls (K:JJ)(C:Addr):Prop where
 pg:PySem.W.plainGet K C Str.empty=true
 hd:PySem.W.hasDictIn K C=true
 po:PySem.W.plainOver K C=true
 sa:PySem.W.findIn K (.ref C) "__setattr__"=some (some (.builtin "object.__setattr__"))
theorem Cls.get{K:JJ}{C:Addr}(c:Cls K C)(f:Str):PySem.W.plainGet K C f=true:=c.pg
def NoAttr(K:JJ)(C:Addr)(f:Str):Prop:=PySem.W.findIn K (.ref C) f=some none
theorem NoAttr.taker{K:JJ}(n:NoAttr K C f):PySem.W.takerIn K C f=some none:=by
 unfold PySem.W.takerIn;rw[show PySem.W.findIn K (.ref C) f=some none from n];rfl
structure Meth (K:JJ)(C:Addr)(m:Str)(f:Addr):Prop where
 at_:PySem.W.findIn K (.ref C) m=some (some (.ref f))
 fn:PySem.W.isFn K (.ref f)=true
 kp:PySem.W.keepIn K (.ref f)=true
section
variable {X:Cx}{s:Shared}{a:Addr}{fs:List (Str×V)}{A:Around}
theorem oU(I:Inv X a_ σ H s)(e:H a=some (.ins C dx fs))(c:Cls X.K C)(n:NoAttr X.K C f)(hl:fs.length<1000)(ry:RelV y u)
  (h:∀s',Inv X a_ σ (upd H a (.ins C dx (dA f y fs))) s'->Q () s'):wpAny (model X.prog X.w) A (setAttr (.ref a) f u) Q E s:=by
 obtain⟨mA,O,r,wi,_,ho⟩:=ya I.h_ e;have hz:(fs.map (·.1)).length<=sizeLine:=by rw[ID,sizeLine_eq];omega
 refine wu I.kIn O c.sa c.po n.taker c.hd wi hz λh' O' sb=>h _ ?_
 have hd:∃o,h'.get? dx=some o:=let ⟨o,_,_,e',_⟩:=O'.ns;⟨o,e'⟩
 refine I.write (x:=a) (e:=dx) (by rw[e];exact True.intro) (.inr ho) (λb q hb z=>(sb.2 b hb).trans z) hd ?_
 refine⟨by rw[ae O.ne];exact ho,?_,O.ne,O'.obj,_,O'.ns,λg=>?_,λg hg=>?_⟩
 ·have:=ik f y fs;omega
 ·show RelO ((dA f y fs).lookup g) (if g=f then some u else mA g)
  rw[im];by_cases q:g=f
  ·rw[Iu q,Iu q];exact ry
  ·rw[Im q,Im q];exact r g
 ·by_cases q:g=f
  ·rw[q];exact (gO f y fs).1
  ·refine (gO f y fs).2 g (wi g λz=>hg ?_)
   show (if g=f then some u else mA g)=none
   rw[Im q];exact z
theorem Inv.made(I:Inv X a_ σ H s):Inv X a_ σ (upd (upd H s.heap.objs.size (.own (s.heap.objs.size+1))) (s.heap.objs.size+1) (.ins C s.heap.objs.size []))
  {s with heap:=(s.heap.push PySem.W.emptyDict).push (PySem.W.instObj C s.heap.objs.size)}:=by
 have e1:(s.heap.push PySem.W.emptyDict).get? s.heap.objs.size=some PySem.W.emptyDict:=Iz s.heap rfl;have e2:((s.heap.push PySem.W.emptyDict).push (PySem.W.instObj C s.heap.objs.size)).get? (s.heap.objs.size+1)=some (PySem.W.instObj C s.heap.objs.size):=by
  have:=Iz (s.heap.push PySem.W.emptyDict) (o:=PySem.W.instObj C s.heap.objs.size) rfl
  rwa [Heap.size_push]at this
 have e3:(s.heap.push PySem.W.emptyDict).Ns s.heap.objs.size (λ_=>none):=⟨PySem.W.emptyDict,#[],_,e1,rfl,(λe he=>absurd he (by simp)),λ_=>rfl⟩
 have I1:=I.laid (a:=s.heap.objs.size) (o:=.own (s.heap.objs.size+1)) (h':=s.heap.push PySem.W.emptyDict) (t':=s.toks) (λb u q=>Il _ q) (Iq _) ⟨_,e1⟩
 refine I1.laid (a:=s.heap.objs.size+1) (o:=.ins C s.heap.objs.size []) (t':=s.toks) (λb u q=>Il _ q) (Nat.le_of_eq (Heap.size_push _ _)) ?_
 have ne:s.heap.objs.size≠s.heap.objs.size+1:=IM (Nat.lt_succ_self _);refine⟨by rw[ae ne,ag],Nat.zero_le _,ne,e2,λ_=>none,(Heap.Ns1.of_empty e3).at λo q=>Il _ q,λ_=>True.intro,λy hy=>absurd rfl hy⟩
theorem xC(hb:attributeBase e f env (eval e env)=eval e env)
  (h:wpAny (model prog w) A (eval e env) (λo p_=>wpAny (model prog w) A (getAttr o f true) Q E p_) E s):wpAny (model prog w) A (eval (.Attribute e f pos) env) Q E s:=
 Attribute_any_ h (by rw[arm_eval_Attribute,hb])
end
noncomputable def Gg(K:JJ)(ta tv:TE)(f:Str):TS:=λD σ H=>tv σ H λy H1=>ta σ H1 λx H2=>∃a C dx fs,x=.ref a/\H2 a=some (.ins C dx fs)/\Cls K C/\NoAttr K C f/\fs.length<1000/\
 D.nx σ (upd H2 a (.ins C dx (dA f y fs)))
section
variable {X:Cx}{o:Expr}{pos:Pos}
theorem zR(ha:PE X o ta)(hv:PE X value tv)(hs:swapsWith value (some (.Attribute o f JP)) pos.line X.env=pure false):PS X (.Assign [.Attribute o f JP] value pos) (Gg X.K ta tv f):=by
 intro a_ s σ H D I h;refine plainObj_wpAny_Assign_Attribute (thn (hv a_ s σ H _ I h) λu s1 ⟨y,H1,I1,ry,q⟩=>thn (ha a_ s1 σ H1 _ I1 q) λov s2 ⟨x,H2,I2,rx,a,C,dx,fs,ex,ea,c,n,l,q2⟩=>?_) hs
 subst ex;obtain rfl:ov=Value.ref a:=rx;exact oU I2 ea c n l ry λs3 I3=>⟨σ,_,I3,q2⟩
end
section
variable {X:Cx}{s:Shared}{A:Around}{c:Value}{b:Bool}
end
structure Room (k:Nat)(A:Around):Prop where
 hd:A.handled=none
 dp:A.depth+3*k+5<recursionLimit
 un:A.units+16*k+200<cLine
theorem Room.mono(r:Room k A)(h:j<=k):Room j A:=⟨r.hd,by have:=r.dp;omega,by have:=r.un;omega⟩
theorem Room.deeper{A:Around}(r:Room (k+1) A)(env:Env):Room k (A.deeper env):=
 ⟨r.hd,by have:=r.dp;show A.depth+1+3*k+5<_;omega,by have:=r.un;show A.units+3+16*k+200<_;omega⟩
theorem oV{A:Around}:(A.under (.builtin "type.__call__" ⟨.ref C::us,kw⟩)).depth=A.depth+1:=by
 first|rfl|simp[Around.under,Code.weight,Code.isCreation,Code.isGuard,Code.isCaller,Code.frames,Code.isFrame,guardIds]
theorem oW{A:Around}:(A.under (.builtin "type.__call__" ⟨.ref C::us,kw⟩)).units=A.units+1:=by
 first|rfl|simp[Around.under,Code.cUnits,Code.frames,Code.isFrame]
theorem Room.make{A:Around}(r:Room (k+1) A)(C:Addr)(us:List Value)(kw:List (Str×Value)):Room k (A.under (.builtin "type.__call__" ⟨.ref C::us,kw⟩)):=
 ⟨r.hd,by have:=r.dp;rw[oV];omega,by have:=r.un;rw[oW];omega⟩
theorem Room.depth{A:Around}(r:Room k A):A.depth<recursionLimit:=by have:=r.dp;omega
theorem Room.units{A:Around}(r:Room k A):A.units+64<cLine:=by have:=r.un;omega
noncomputable def tNil:TA:=λ_ H Q=>Q [] H
noncomputable def BW(ta:TE)(tr:TA):TA:=λσ H Q=>ta σ H λx H1=>tr σ H1 λxs H2=>Q (x::xs) H2
section
variable {X:Cx}{pos:Pos}
theorem pa_nil:PA X [] tNil:=λ_ _ _ _ H Q I h=>Calls.spliced_nil ⟨[],H,I,.nil,h⟩
theorem aK(ha:PE X e te)(hr:PA X es t)(hs:starEach (e::es) X.env=(false,eval e X.env)::starEach es X.env:=by rfl):PA X (e::es) (BW te t):=by
 intro pos a_ s σ H Q I h;rw[hs];show wpAny _ _ (spliced ((false,eval e X.env)::backTo pos (starEach es X.env))) _ _ s;refine Calls.spliced_cons (thn (ha a_ s σ H _ I h) λu s1 ⟨x,H1,I1,r1,q1⟩=>?_)
 exact thn (hr pos a_ s1 σ H1 _ I1 q1) λus s2 ⟨xs,H2,I2,r2,q2⟩=>⟨x::xs,H2,I2,.cons r1 r2,q2⟩
noncomputable def Fc(t:TA):TE:=λσ H Q=>t σ H λxs H1=>xs.length<=sizeLine/\∀p,H1 p=none->Q (.ref p) (upd H1 p (.tup xs))
noncomputable def Gz(t:TA):TE:=λσ H Q=>t σ H λxs H1=>xs.length<=sizeLine/\∀p,H1 p=none->Q (.ref p) (upd H1 p (.lst xs))
theorem Av{x1}(h:PA X es t):PE X (.Tuple es x1 pos) (Fc t):=by
 intro a_ s σ H Q I hq;refine wpAny_Tuple_spliced (thn (h pos a_ s σ H _ I hq) λus s1 ⟨xs,H1,I1,r,z,q⟩=>⟨by rw[<-r.length];exact z,?_⟩)
 have hf:H1 s1.heap.objs.size=none:=I1.h_.fresh (Iq _);refine⟨.ref s1.heap.objs.size,upd H1 s1.heap.objs.size (.tup xs),I1.laid (t':=s1.toks) (λb u e=>Il _ e) (Iq _) ?_,rfl,q _ hf⟩
 exact⟨z,us,r,⟨_,Iz _ rfl,rfl,_,rfl⟩⟩
theorem As(h:PA X es t):PE X (.List es pos) (Gz t):=by
 intro a_ s σ H Q I hq;refine wpAny_List_spliced (thn (h pos a_ s σ H _ I hq) λus s1 ⟨xs,H1,I1,r,z,q⟩=>⟨by rw[<-r.length];exact z,?_⟩)
 have hf:H1 s1.heap.objs.size=none:=I1.h_.fresh (Iq _);refine⟨.ref s1.heap.objs.size,upd H1 s1.heap.objs.size (.lst xs),I1.laid (t':=s1.toks) (λb u e=>Il _ e) (Iq _) ?_,rfl,q _ hf⟩
 exact⟨z,us,0,r,Iz _ rfl⟩
end
noncomputable abbrev Sp:=List V->Hp->VK->XK->Prop
noncomputable abbrev CXT:=List Env->Hp->Shared->XK->Value->Shared->Prop
structure Env0 (P:Program)(w:World)(K:JJ)(mg:Str->Option Value)(base:Heap)(A:Around)(outer:List Env)(s:Shared)(H:Hp):Prop where
 frames:A.frames=some outer
 mod:Mod K mg base
 bs:∀b o,base.get? b=some o->s.heap.get? b=some o/\H b=none
 bsz:base.objs.size<=s.heap.objs.size
 funs:s.heap.FunFrames base outer
 frf:∀b∈frs outer,H b=none
 h_:HOk P w H s.heap
 bare:AllBare s.gens
def CE(outer:List Env)(P:Program)(w:World)(H:Hp)(s:Shared)(Q:VK)(u:Value)(s':Shared):Prop:=
 ∃v H',s'.os=s.os/\AllBare s'.gens/\Un (frs outer) [] H H' s.heap s'.heap/\HOk P w H' s'.heap/\RelV v u/\Q v H'
def CR(CX:CXT)(outer:List Env)(P:Program)(w:World)(H:Hp)(s:Shared)(Q:VK)(E:XK)(r:Result)(s':Shared):Prop:=
 match r with
 |.ok (.ret u)=>CE outer P w H s Q u s'
 |.ok _=>False
 |.error e=>CX outer H s E e s'
structure FnOk (P:Program)(w:World)(K:JJ)(mg:Str->Option Value)(base:Heap)(CX:CXT)(k:Nat)(f:Addr)(fd:FuncData)(ps:List Str)(sp:Sp):Prop where
 len:∀vs H Q E,sp vs H Q E->vs.length=ps.length
 run:∀(A:Around)(outer:List Env)(s:Shared)(H:Hp)(args:Args)(us:List Value)(vs:List V)(Q:VK)(E:XK),Room k A->Env0 P w K mg base A outer s H->BindsTo s fd args (ps.zip us)->Vals vs us->sp vs H Q E->
  codeAny (model P w) A (.call (.ref f) args) (CR CX outer P w H s Q E) s
theorem Env0.make{K:JJ}{A:Around}(e:Env0 P w K mg base A outer s H)(C:Addr)(us:List Value)(kw:List (Str×Value)) :
  Env0 P w K mg base (A.under (.builtin "type.__call__" ⟨.ref C::us,kw⟩)) outer s H:=⟨by first|exact e.frames|(simpa [Around.under,Code.envs,Code.isFrame,pushEnvs] using e.frames),e.mod,e.bs,e.bsz,e.funs,e.frf,e.h_,e.bare⟩
section
variable {X:Cx}{s:Shared}
theorem Inv.env0(I:Inv X a_ σ H s):Env0 X.prog X.w X.K X.mg X.base X.A X.stack s H:=
 ⟨I.ok.frames,I.ok.mod,I.bs,IR I.ok.bsz I.sz,I.stack,I.stkFree,I.h_,I.bare⟩
theorem Inv.after(I:Inv X a_ σ H s)(h:CE X.stack X.prog X.w H s Q u s'):EP X a_ σ Q u s':=by
 obtain⟨v,H',os,bare,un,h_,r,q⟩:=h;obtain⟨hh,g,d,t,Q6⟩:=s';obtain rfl:Q6=s.os:=os;exact⟨v,H',I.call (h':=hh) (g':=g) (d':=d) (t':=t) (ch:=[]) un h_ bare (λb z=>absurd z (by simp)),r,q⟩
end
def Binds(K:JJ)(fd:FuncData)(ps:List Str)(ds:List Value):Prop:=
 ∀(s:Shared)(us:List Value),K.In s.heap->(us++ds).length=ps.length->BindsTo s fd ⟨us,[]⟩ (ps.zip (us++ds))
theorem Binds.all{K:JJ}{ps:List Str}(h:∀us:List Value,us.length=ps.length->bindArgs fd ⟨us,[]⟩=pure (ps.zip us)):Binds K fd ps []:=λs us _ hl=>by
 rw[Jz]at hl ⊢;exact .of_eq (h us hl)
def zy(CX:CXT)(X:Cx)(E:XK):Prop:=∀(a_:List (Addr×Obj)) (σ:St)(H:Hp)(s:Shared)(e:Value)(s':Shared),Inv X a_ σ H s->CX X.stack H s E e s'->X.xe e s'
section
variable {X:Cx}{k:Nat}{ps:List Str}{x:Str}{p pos m_:Pos}{o:Expr}
structure Mk (K:JJ)(C f:Addr):Prop where
 makes:PySem.W.makesIn K C=true
 init:PySem.W.findIn K (.ref C) "__init__"=some (some (.ref f))
 fn:PySem.W.isFn K (.ref f)=true
 kp:PySem.W.keepIn K (.ref C)=true
end
section
variable {X:Cx}{k:Nat}{ps ks:List Str}{x:Str}{p pos m_:Pos}{o:Expr}
end
structure FnScope (N P:List Str)(sc:Scope):Prop where
 kind:sc.kind=.function
 co:sc.isCoroutine=false
 gen:sc.isGenerator=false
 nd:N.Nodup
 pre:N.take P.length=P
 par:∀x∈P,sc.names.lookup x=some .local\/sc.names.lookup x=some .cell
 nofree:∀y∈sc.names,y.2≠.free
theorem lq{kindOf:Str->Option NameKind}{x:Str}:∀{KL:List (Str×Value)}{m:Str->Option Value},(∀v,(x,v)∉KL)->bindL kindOf KL m x=m x
 |[],_,_=>rfl
 |(n,v)::r,m,h=>by
  unfold bindL;rw[lq λw hw=>h w (Io _ hw)]
  split
  ·have:x≠n:=by rintro rfl;exact h v Ix
   simp[this]
  ·rfl
theorem lg{kindOf:Str->Option NameKind}{x:Str}:∀{KL:List (Str×Value)}{m:Str->Option Value},(∀v,(x,v)∉KL)->bindC kindOf KL m x=m x
 |[],_,_=>rfl
 |(n,v)::r,m,h=>by
  unfold bindC;rw[lg λw hw=>h w (Io _ hw)]
  split
  ·rfl
  ·have:x≠n:=by rintro rfl;exact h v Ix
   simp[this]
theorem lx{kindOf:Str->Option NameKind}{x:Str}{v:Value}:∀{P:List Str}{vs:List Value}{i:Nat}{m:Str->Option Value},P.Nodup->P[i]?=some x->vs[i]?=some v->kindOf x=some .local->
  bindL kindOf (P.zip vs) m x=some v
 |[],_,_,_,_,h,_,_=>by simp at h
 |_::_,[],_,_,_,_,h,_=>by simp at h
 |p::P,w::vs,0,m,nd,h1,h2,hk=>by
  simp at h1 h2;subst h1;subst h2;show bindL kindOf ((p,w)::P.zip vs) m p=_;unfold bindL;rw[lq λv hv=>(Ja.mp nd).1 (List.of_mem_zip hv).1,Iu hk]
  simp
 |p::P,w::vs,i+1,m,nd,h1,h2,hk=>by
  show bindL kindOf ((p,w)::P.zip vs) m x=_;unfold bindL;exact lx (i:=i) (Ja.mp nd).2 (by simpa using h1) (by simpa using h2) hk
theorem ls{kindOf:Str->Option NameKind}{x:Str}{v:Value}:∀{P:List Str}{vs:List Value}{i:Nat}{m:Str->Option Value},P.Nodup->P[i]?=some x->vs[i]?=some v->kindOf x≠some .local->
  bindC kindOf (P.zip vs) m x=some v
 |[],_,_,_,_,h,_,_=>by simp at h
 |_::_,[],_,_,_,_,h,_=>by simp at h
 |p::P,w::vs,0,m,nd,h1,h2,hk=>by
  simp at h1 h2;subst h1;subst h2;show bindC kindOf ((p,w)::P.zip vs) m p=_;unfold bindC;rw[lg λv hv=>(Ja.mp nd).1 (List.of_mem_zip hv).1,Im hk]
  simp
 |p::P,w::vs,i+1,m,nd,h1,h2,hk=>by
  show bindC kindOf ((p,w)::P.zip vs) m x=_;unfold bindC;exact ls (i:=i) (Ja.mp nd).2 (by simpa using h1) (by simpa using h2) hk
noncomputable def start(N:List Str)(vs:List V):St:=vs.map some++List.replicate (N.length-vs.length) none
noncomputable def cu(CX:CXT)(P:Program)(w:World)(K:JJ)(mg:Str->Option Value)(base:Heap)(N:List Str)(qual:Str)(scope:Scope)(f:Addr)(cd:Value)(A:Around)(outer:List Env)(s:Shared)(H:Hp)(E:XK):Cx where
 prog:=P
 w:=w
 K:=K
 mg:=mg
 base:=base
 A:=A.deeper (envOfC qual scope s.heap.objs.size f cd)
 N:=N
 s₀:=s
 H₀:=H
 env:=envOfC qual scope s.heap.objs.size f cd
 outer:=outer
 stack:=envOfC qual scope s.heap.objs.size f cd::outer
 ex:=[]
 calm:=true
 fn:=λ_=>true
 pn:=[]
 xe:=λe s'=>wpAny (model P w) (A.deeper (envOfC qual scope s.heap.objs.size f cd)) (leaving (envOfC qual scope s.heap.objs.size f cd) e) (λ_ Nv=>CX outer H s E e Nv) (λe' Nv=>CX outer H s E e' Nv) s'
theorem mP{sc:Scope}(h:sc.names.lookup x=some .cell):∃c,(cellsFrom n sc.names []).lookup x=some c:=by
 have q:=PySem.W.cellsFrom_some sc.names n [] (.inl h);exact JH.mp q
theorem rj{K:JJ}{ps:List Str}{scope:Scope}{A:Around}{s:Shared}{vs:List V}
  (S:FnScope N ps scope) (hd:A.handled=none) (e0:Env0 P w K mg base A outer s H) (hl:vs.length=ps.length) (r:Vals vs us)
  (x:InCallC s s.heap.objs.size (bindL (envOfC qual scope s.heap.objs.size f cd).kindOf (ps.zip us) λ_=>none) (cellsFrom (s.heap.objs.size+1) scope.names []) (bindC (envOfC qual scope s.heap.objs.size f cd).kindOf (ps.zip us) λ_=>none) s1) :
  Inv (cu CX P w K mg base N qual scope f cd A outer s H E) [] (start N vs) H s1:=by
 have JR:ps.length<=N.length:=by have:=congrArg List.length S.pre;rw[List.length_take]at this;omega
 obtain⟨h1,tk,rfl,hk⟩:=x.done;have Nw:∀b:Addr,b∉(cu CX P w K mg base N qual scope f cd A outer s H E).ex:=λb z=>absurd (show b∈([]:List Addr) from z) (by simp)
 refine⟨⟨e0.mod,S.kind,rfl,rfl,Iq _,λy z c h1 h2=>?_,λy hy=>?_,λy c _ h=>?_,λ_=>hd,Around.frames_deeper e0.frames,.inr ⟨rfl,rfl⟩,λb z=>absurd z (Nw b),e0.bs,e0.bsz,λb _ _=>Nw b,λb z=>absurd z (Nw b),e0.funs,e0.frf⟩,
  rfl,e0.bare,Un.kept hk,⟨_,x.toInCall.ns,λi y v h1 h2 h3=>?_⟩,λy c h=>⟨_,x.cell y c h⟩,e0.h_.fresh (Iq _),λy c h=>?_,λp hp=>absurd (show p∈([]:List (Addr×Obj)) from hp) (by simp),e0.h_.kept hk,?_⟩
 ·exact name_of_addr x.apart (PySem.mem_of_lookup h1) (PySem.mem_of_lookup h2)
 ·have hy:scope.names.lookup y=some .cell\/scope.names.lookup y=some .free:=hy;rcases hy with hy|hy
  ·exact mP hy
  ·exact absurd rfl (S.nofree _ (PySem.mem_of_lookup hy))
 ·exact Nat.le_of_lt (x.above y c (PySem.mem_of_lookup h))
 ·have hi:i<vs.length:=by
   unfold start at h2;by_cases hi:i<vs.length
   ·exact hi
   ·rw[List.getElem?_append_right (by simpa using hi)]at h2
    rw[List.getElem?_replicate]at h2;split at h2<;>cases h2
  have ha:vs[i]?=some v:=by
   unfold start at h2;rw[List.getElem?_append_left (by simpa using hi),IJ]at h2
   cases e:vs[i]? with
   |none=>rw[e]at h2;cases h2
   |some a=>rw[e]at h2;cases h2;rfl
  obtain⟨u,hu,rv⟩:=r.get ha;have hp:ps[i]?=some y:=by
   rw[<-S.pre,List.getElem?_take_of_lt (by omega)];exact h1
  have Qi:ps.Nodup:=by rw[<-S.pre];exact S.nd.sublist (List.take_sublist _ _)
  refine⟨u,rv,?_⟩;rcases S.par y (IW hp) with k|k
  ·exact .inl ⟨k,lx Qi hp hu k⟩
  ·obtain⟨c,e⟩:=mP (n:=s.heap.objs.size+1) k;refine .inr ⟨.inl k,c,e,?_⟩;have q:=x.cell y c e;rw[ls Qi hp hu (by show scope.names.lookup y≠_;rw[k];decide)]at q
   exact q
 ·exact e0.h_.fresh (Nat.le_of_lt (x.above y c (PySem.mem_of_lookup h)))
 ·unfold start;show _=N.length;rw[Je,ID,List.length_replicate];omega
theorem ug{CX:CXT}{P:Program}{w:World}{K:JJ}{mg:Str->Option Value}{base:Heap}{k:Nat}{f:Addr}{name qual:Str}{params:Arguments}{body:List Stmt}{scope:Scope}{dV kV doc pm JV ct oc:Value}{an od:Option Addr}
  {Kx:Array (Option Value)}{N ps:List Str}{sp:Sp} (lk:K.lookup f=some ⟨oc,od,.func (PySem.W.fnOf name qual params body scope dV kV doc pm an JV ct),Kx⟩) (Kd:PySem.W.codeIn K JV qual=true) (S:FnScope N ps scope)
  (len:∀vs H Q E,sp vs H Q E->vs.length=ps.length)
  (Nx:∀(A:Around)(outer:List Env)(s:Shared)(H:Hp)(vs:List V)(Q:VK)(E:XK),Room k (A.deeper (envOfC qual scope s.heap.objs.size f JV))->sp vs H Q E->
   ∃t,PSs (cu CX P w K mg base N qual scope f JV A outer s H E) body t/\t {nx:=λ_ H'=>Q .j_ H',rt:=Q} (start N vs) H) :
  FnOk P w K mg base CX (k+1) f (PySem.W.fnOf name qual params body scope dV kV doc pm an JV ct) ps sp:=by
 refine⟨len,λA outer s H args us vs Q E hr e0 hb r Me=>?_⟩
 have hl:=len _ _ _ _ Me;have KX:K.In s.heap:=e0.mod.kin.keeps λb o e=>(e0.bs b o e).1
 have SS:s.heap.NoLimit:=e0.mod.nolimit.keeps λb o e=>(e0.bs b o e).1
 have Ny:∀y∈ps.zip us,scope.names.lookup y.1=some .local\/(scope.names.lookup y.1=some .cell/\((cellsFrom (s.heap.objs.size+1) scope.names []).lookup y.1).isSome=true):=λ⟨n,v⟩ hy=>by
  rcases S.par n (List.of_mem_zip hy).1 with q|q
  ·exact .inl q
  ·exact .inr ⟨q,PySem.W.cellsFrom_some _ _ _ (.inl q)⟩
 refine codeAny_call_function hr.depth (KX _ _ lk) rfl S.co S.gen rfl (PySem.W.codeRec_of KX Kd) (hb _ _ _ _ ?_);refine wpAny_newFunctionEnv_cells S.kind Ny λenv he s1 x=>?_
 subst he;refine⟨SS.keeps x.toInCall.keep,codeAny_func ?_⟩;obtain⟨t,ht,hq⟩:=Nx A outer s H vs Q E (hr.deeper _) Me;have I:Inv (cu CX P w K mg base N qual scope f JV A outer s H E) [] (start N vs) H s1:=rj S hr.hd e0 hl r x;refine JA (ht [] s1 (start N vs) H _ I hq) (λfl s' hs=>?_) λe s' hs=>hs
 have fin:∀{o_:St}{H':Hp}{v:V}{u:Value},Inv (cu CX P w K mg base N qual scope f JV A outer s H E) [] o_ H' s'->RelV v u->Q v H'->CE outer P w H s Q u s':=
  λ{o_ H' v u} J rv q=>⟨v,H',J.os,J.bare,J.base,J.h_,rv,q⟩
 cases fl with
 |ret u=>
  obtain⟨v,o_,H',J,rv,q⟩:=hs;exact fin J rv q
 |next=>
  obtain⟨o_,H',J,q⟩:=hs;exact fin (v:=V.j_) (u:=Value.none) J rfl q
 |brk=>
  obtain⟨_,_,_,q⟩:=hs;exact False.elim q
 |cont=>
  obtain⟨_,_,_,q⟩:=hs;exact False.elim q
section
variable {X:Cx}{x:Str}{p pos:Pos}{id:String}
noncomputable def tCB(r:List V->Hp->VK->Prop)(t:TA):TE:=λσ H Q=>t σ H λvs H1=>r vs H1 Q
theorem ei(hc:CallR X (.builtin id) r)(hg:Gl X x)(hm:X.mg x=none)(hv:bootBuiltins x=some (.builtin id))(ha:PA X (e::es) t)(hn:x≠"__name__":=by decide)(I_:(x == ("__debug__" : Str))=false:=by decide)
  (he:starEach (e::es) X.env=(false,eval e X.env)::starEach es X.env:=by rfl) (JR:(backTo pos (starEach es X.env)).any (·.1)=false:=by rfl):PE X (.Call (.Name x p) (e::es) [] pos) (tCB r t):=by
 intro a_ s σ H Q I h;refine wpAny_Call_Name_kw (dE I hg hm hv ?_ hn I_);exact PyProof.Rows.callWith_builtin1 (thn (ha pos a_ s σ H _ I h) λus s1 ⟨vs,H1,I1,r1,q1⟩=>hc a_ s1 σ H1 vs us Q I1 r1 q1) he JR
theorem sL(hc:CallR X (.type T) r)(hg:Gl X x)(hm:X.mg x=none)(hv:bootBuiltins x=some (.type T))(ha:PA X (e::es) t)(hn:x≠"__name__":=by decide)(I_:(x == ("__debug__" : Str))=false:=by decide)
  (he:starEach (e::es) X.env=(false,eval e X.env)::starEach es X.env:=by rfl) (JR:(backTo pos (starEach es X.env)).any (·.1)=false:=by rfl):PE X (.Call (.Name x p) (e::es) [] pos) (tCB r t):=by
 intro a_ s σ H Q I h;refine wpAny_Call_Name_kw (dE I hg hm hv ?_ hn I_);exact PyProof.Rows.callWith_type1 (thn (ha pos a_ s σ H _ I h) λus s1 ⟨vs,H1,I1,r1,q1⟩=>hc a_ s1 σ H1 vs us Q I1 r1 q1) he JR
end
section
variable [DecidableEq κ]
noncomputable def dY(k_:List (κ×V))(k:κ):Option V:=(k_.find? λkv=>decide (kv.1=k)).map (·.2)
noncomputable def d5(k_:List (κ×V))(k:κ)(v:V):List (κ×V):=
 if (k_.any λkv=>decide (kv.1=k))=true then k_.map (λkv=>if kv.1=k then (kv.1,v) else kv) else k_++[(k,v)]
theorem eo{p:κ×V}(e:p.1=k):dY (p::r) k=some p.2:=by simp[dY,Jv,e]
theorem dm{p:κ×V}(e:¬ p.1=k):dY (p::r) k=dY r k:=by simp[dY,Jv,e]
theorem mL(k:κ):∀k_:List (κ×V),(k_.any λkv=>decide (kv.1=k))=(dY k_ k).isSome
 |[]=>rfl
 |p::r=>by
  rw[List.any_cons];by_cases e:p.1=k
  ·simp only[eo e,decide_eq_true e,Bool.true_or,Option.isSome_some]
  ·rw[dm e,Jo e,Bool.false_or];exact mL k r
theorem ir(k_:List (κ×V))(k:κ)(v:V):(d5 k_ k v).length<=k_.length+1:=by
 unfold d5;split
 ·rw[ID];omega
 ·rw[Je,IN,List.length_nil];omega
theorem RelO.isSome_eq{o:Option V}{u:Option Value}(r:RelO o u):o.isSome=u.isSome:=by
 cases o with
 |none=>cases u with
  |none=>rfl
  |some _=>exact (show False from r).elim
 |some _=>cases u with
  |none=>exact (show False from r).elim
  |some _=>rfl
theorem RelO.getD{o:Option V}{u:Option Value}(r:RelO o u)(rd:RelV d d'):RelV (o.getD d) (u.getD d'):=by
 cases o with
 |none=>cases u with
  |none=>exact rd
  |some _=>exact (show False from r).elim
 |some _=>cases u with
  |none=>exact (show False from r).elim
  |some _=>exact r
theorem KV.val(r:KV k_ vs)(k:κ):RelO (dY k_ k) (valueAt vs k):=by
 unfold KV at r
 induction r with
 |nil=>exact True.intro
 |@cons p q ps qs h t ih=>
  obtain⟨h1,h2⟩:=h;by_cases e:p.1=k
  ·have e':q.1=k:=h1.symm.trans e;have b:valueAt (q::qs) k=some q.2:=by simp[valueAt,Jv,e']
   rw[eo e,b];exact h2
  ·have e':¬ q.1=k:=λz=>e (h1.trans z)
   have b:valueAt (q::qs) k=valueAt qs k:=by simp[valueAt,Jv,e']
   rw[dm e,b];exact ih
theorem KV.any{k_:List (κ×V)}{vs:List (κ×Value)}(r:KV k_ vs)(k:κ):(k_.any λkv=>decide (kv.1=k))=vs.any λkv=>decide (kv.1=k):=by
 unfold KV at r
 induction r with
 |nil=>rfl
 |cons h t ih=>rw[List.any_cons,List.any_cons,ih,h.1]
theorem KV.repl{k_:List (κ×V)}{vs:List (κ×Value)}(r:KV k_ vs)(k:κ)(ry:RelV y u) :
  KV (k_.map λkv=>if kv.1=k then (kv.1,y) else kv) (vs.map λkv=>if kv.1=k then (kv.1,u) else kv):=by
 unfold KV at r ⊢
 induction r with
 |nil=>exact .nil
 |@cons p q ps qs h t ih=>
  rw[Ip,Ip];refine .cons ?_ ih;obtain⟨h1,h2⟩:=h;by_cases e:p.1=k
  ·rw[Iu e,Iu (h1.symm.trans e)];exact⟨h1,ry⟩
  ·rw[Im e,Im (λz=>e (h1.trans z))];exact⟨h1,h2⟩
theorem KV.put(r:KV k_ vs)(k:κ)(ry:RelV y u):KV (d5 k_ k y) (stored vs k u):=by
 unfold d5 stored;rw[r.any k];by_cases e:(vs.any λkv=>decide (kv.1=k))=true
 ·rw[Iu e,Iu e];exact r.repl k ry
 ·rw[Im e,Im e];exact Paired.snoc r ⟨rfl,ry⟩
theorem KV.keys{k_:List (κ×V)}{vs:List (κ×Value)}(r:KV k_ vs):k_.map (·.1)=vs.map (·.1):=by
 unfold KV at r
 induction r with
 |nil=>rfl
 |cons h t ih=>rw[Ip,Ip,ih,h.1]
theorem KV.length{k_:List (κ×V)}{vs:List (κ×Value)}(r:KV k_ vs):k_.length=vs.length:=Paired.length r
end
theorem i9(r:RelV (kV k) u):(aE P w).is k u=true:=by
 cases k with
 |inl i=>obtain⟨t,e⟩:=(show ∃t,u=Value.int i t from r);subst e;exact mU P w i t
 |inr x=>obtain⟨t,e⟩:=(show ∃t,u=Value.str x t from r);subst e;exact nA P w x t
theorem kM:∀{ks:List Key}{us:List Value},Vals (ks.map kV) us->ItemsAre (aE P w) ks us
 |[],_,r=>by rw[List.map_nil]at r;cases r;exact .nil
 |k::ks,_,r=>by
  rw[Ip]at r;cases r with
  |cons h t=>exact .cons (i9 h) (kM t)
abbrev KT(H:Hp):List (List Key×V)->List (List Key×Addr×Value)->Prop:=Paired λp q=>p.1=q.1/\H q.2.1=some (.tup (p.1.map kV))/\RelV p.2 q.2.2
theorem KT.val(r:KT H k_ xs)(k:List Key):RelO (dY k_ k) ((atKey xs k).map (·.2)):=by
 induction r with
 |nil=>exact True.intro
 |@cons p q ps qs h t ih=>
  obtain⟨h1,_,h2⟩:=h;by_cases e:p.1=k
  ·have e':q.1=k:=h1.symm.trans e;have b:atKey (q::qs) k=some q.2:=by simp[atKey,Jv,e']
   rw[eo e,b];exact h2
  ·have e':¬ q.1=k:=λz=>e (h1.trans z)
   have b:atKey (q::qs) k=atKey qs k:=by simp[atKey,Jv,e']
   rw[dm e,b];exact ih
theorem KT.repl{k_:List (List Key×V)}{xs:List (List Key×Addr×Value)}(r:KT H k_ xs)(k:List Key)(ry:RelV y u) :
  KT H (k_.map λkv=>if kv.1=k then (kv.1,y) else kv) (xs.map (putAt k u)):=by
 induction r with
 |nil=>exact .nil
 |@cons p q ps qs h t ih=>
  rw[Ip,Ip];refine .cons ?_ ih;obtain⟨h1,h2,h3⟩:=h;unfold putAt;by_cases e:p.1=k
  ·rw[Iu e,Iu (h1.symm.trans e)];exact⟨h1,h2,ry⟩
  ·rw[Im e,Im (λz=>e (h1.trans z))];exact⟨h1,h2,h3⟩
theorem KT.put(r:KT H k_ xs)(k:List Key)(hb:H b=some (.tup (k.map kV)))(ry:RelV y u) :
  KT H (d5 k_ k y) (storedH xs k b u):=by
 have e:(k_.any λkv=>decide (kv.1=k))=(atKey xs k).isSome:=by
  rw[mL,(r.val k).isSome_eq,Option.isSome_map]
 unfold d5 storedH;rw[e];by_cases q:(atKey xs k).isSome=true
 ·rw[Iu q,Iu q];exact r.repl k ry
 ·rw[Im q,Im q];exact Paired.snoc r ⟨rfl,hb,ry⟩
theorem KT.keeps(r:KT H k_ xs)(ht:∀b ys,H b=some (.tup ys)->H' b=some (.tup ys)):KT H' k_ xs:=
 Paired.mapP r λ_ _ z=>⟨z.1,ht _ _ z.2.1,z.2.2⟩
section
variable {w:World}{h:Heap}{a:Addr}
theorem yt(ok:HOk P w H h)(e:Rd H a u):ObjOk P w H h a u:=e.ok ok
theorem ij{k_:List (Key×V)}(ok:HOk P w H h)(e:Rd H a (.dK k_)):k_.length<=sizeLine/\(a == sysModules)=false/\∃vs,KV k_ vs/\h.DictOf (aE P w) a vs:=
 show ObjOk P w H h a (.dK k_) from yt ok e
theorem yu{k_:List (Key×V)}(ok:HOk P w H h)(e:H a=some (.dK k_)):k_.length<=sizeLine/\(a == sysModules)=false/\∃vs,KV k_ vs/\h.DictOf (aE P w) a vs:=ij ok (.inl e)
theorem fQ{ks:List Key}(ok:HOk P w H h)(e:H a=some (.tup (ks.map kV))):(tupleKind (aE P w)).is h ks a:=by
 obtain⟨_,its,r,o,h1,h2,n,h3⟩:=(show ObjOk P w H h a (.tup (ks.map kV)) from ok a _ e);exact⟨o,its.toArray,n,h1,h2,h3,by simpa using kM r⟩
theorem kI{k_:List (List Key×V)}(ok:HOk P w H h)(e:Rd H a (.dT k_)):k_.length<=sizeLine/\(a == sysModules)=false/\
  ∃xs,KT H k_ xs/\h.DictOfH (tupleKind (aE P w)) a xs:=by
 obtain⟨z,y,xs,r,o,es,ep,h1,h2,h3,h4,h5⟩:=(show ObjOk P w H h a (.dT k_) from yt ok e);refine⟨z,y,xs,r,o,es,ep,h1,h2,h3,h4,λx hx=>?_,h5⟩
 have all:∀{l:List (List Key×V)}{m:List (List Key×Addr×Value)},KT H l m->∀x∈m,(tupleKind (aE P w)).is h x.1 x.2.1:=by
  intro l m q
  induction q with
  |nil=>intro x hx;exact nomatch hx
  |@cons p q ps qs hq t ih=>
   intro x hx;rcases Iv.mp hx with e|hx
   ·subst e;exact fQ ok (by rw[<-hq.1];exact hq.2.1)
   ·exact ih x hx
 exact all r x hx
theorem DZ{k_:List (List Key×V)}(ok:HOk P w H h)(e:H a=some (.dT k_)):k_.length<=sizeLine/\(a == sysModules)=false/\
  ∃xs,KT H k_ xs/\h.DictOfH (tupleKind (aE P w)) a xs:=kI ok (.inl e)
end
def DGet(H:Hp)(a:Addr)(y:V)(r:Option V):Prop:=
 (∃k_ k,Rd H a (.dK k_)/\y=kV k/\r=dY k_ k)\/∃k_ k b,Rd H a (.dT k_)/\y=.ref b/\H b=some (.tup (k.map kV))/\r=dY k_ k
def DPut(H:Hp)(a:Addr)(y v:V)(H':Hp):Prop:=
 (∃k_ k,H a=some (.dK k_)/\y=kV k/\k_.length<sizeLine/\H'=upd H a (.dK (d5 k_ k v)))\/
 ∃k_ k b,H a=some (.dT k_)/\y=.ref b/\H b=some (.tup (k.map kV))/\k_.length<sizeLine/\H'=upd H a (.dT (d5 k_ k v))
section
variable {X:Cx}{s:Shared}{a:Addr}{y:V}{o:Option V}{A:Around}
theorem rW(hu:A.units+1<cLine)(I:Inv X a_ σ H s)(g:DGet H a y (some v))(ry:RelV y u)(h:∀w' s',Inv X a_ σ H s'->RelV v w'->Q w' s') :
  wpAny (model X.prog X.w) A (getItem (.ref a) u) Q E s:=by
 rcases g with ⟨k_,k,e,ey,l⟩|⟨k_,k,b,e,ey,eb,l⟩
 ·subst ey;obtain⟨z,hd,vs,JQ,dd⟩:=ij I.h_ e;obtain⟨w',hw,JX⟩:=RelO.some_of (v:=v) (o:=valueAt vs k) (by rw[l];exact JQ.val k)
  exact wpAny_getItem_of (i9 ry) dd.mapOf hw (h w' _ (I.tok _) JX)
 ·subst ey;cases (show u=Value.ref b from ry);obtain⟨z,hd,xs,JQ,dd⟩:=kI I.h_ e;obtain⟨w',hw,JX⟩:=RelO.some_of (v:=v) (o:=(atKey xs k).map (·.2)) (by rw[l];exact JQ.val k)
  obtain⟨p,hp,Mu⟩:=Option.map_eq_some_iff.mp hw;refine wpAny_getItem_heap (Ji hu) (fQ I.h_ eb) dd hp ?_;rw[Mu];exact h w' _ (I.tok _) JX
theorem FR(hu:A.units+1<cLine)(I:Inv X a_ σ H s)(g:DGet H a y o)(ry:RelV y u)(h:∀s',Inv X a_ σ H s'->Q (.bool o.isSome) s') :
  wpAny (model X.prog X.w) A (compareOp .In u (.ref a)) Q E s:=by
 rcases g with ⟨k_,k,e,ey,l⟩|⟨k_,k,b,e,ey,eb,l⟩
 ·subst ey;obtain⟨z,hd,vs,JQ,dd⟩:=ij I.h_ e;refine wpAny_in_of (i9 ry) hd dd.mapOf ?_;rw[<-(JQ.val k).isSome_eq,<-l];exact h _ (I.tok _)
 ·subst ey;cases (show u=Value.ref b from ry);obtain⟨z,hd,xs,JQ,dd⟩:=kI I.h_ e;refine wpAny_in_heap (Ji hu) (fQ I.h_ eb) hd dd ?_;have q:=(JQ.val k).isSome_eq;rw[Option.isSome_map]at q;rw[<-q,<-l];exact h _ (I.tok _)
theorem xT(hu:A.units+1<cLine)(I:Inv X a_ σ H s)(g:DGet H a y o)(ry:RelV y u)(h:∀s',Inv X a_ σ H s'->Q (.bool (!o.isSome)) s') :
  wpAny (model X.prog X.w) A (compareOp .NotIn u (.ref a)) Q E s:=by
 rcases g with ⟨k_,k,e,ey,l⟩|⟨k_,k,b,e,ey,eb,l⟩
 ·subst ey;obtain⟨z,hd,vs,JQ,dd⟩:=ij I.h_ e;refine wpAny_notIn_of (i9 ry) hd dd.mapOf ?_;rw[<-(JQ.val k).isSome_eq,<-l];exact h _ (I.tok _)
 ·subst ey;cases (show u=Value.ref b from ry);obtain⟨z,hd,xs,JQ,dd⟩:=kI I.h_ e;refine wpAny_notIn_heap (Ji hu) (fQ I.h_ eb) hd dd ?_;have q:=(JQ.val k).isSome_eq;rw[Option.isSome_map]at q;rw[<-q,<-l];exact h _ (I.tok _)
theorem gB{h':Heap}(I:Inv X a_ σ H s)(mu:Mut (H a))(hs:Heap.SameBut a s.heap h')(he:∃q,h'.get? a=some q)(new:ObjOk X.prog X.w (upd H a ob) h' a ob) :
  Inv X a_ σ (upd H a ob) {s with heap:=h',toks:=t'}:=
 I.write (x:=a) (e:=a) mu (.inl rfl) (λb q hb z=>(hs.2 b hb).trans z) he new
theorem Ab{h':Heap}{k_:List (Key×V)}(z:k_.length<=sizeLine)(hd:(a == sysModules)=false)(JQ:KV k_ vs)(dd:h'.DictOf (aE P w) a vs) :
  ObjOk P w H' h' a (.dK k_):=⟨z,hd,vs,JQ,dd⟩
theorem sB(hu:A.units+1<cLine)(I:Inv X a_ σ H s)(g:DPut H a y v H')(ry:RelV y u)(rv:RelV v r)(h:∀s',Inv X a_ σ H' s'->Q () s') :
  wpAny (model X.prog X.w) A (setItem (.ref a) u r) Q E s:=by
 rcases g with ⟨k_,k,e,ey,l,eH⟩|⟨k_,k,b,e,ey,eb,l,eH⟩
 ·subst ey eH;obtain⟨z,hd,vs,JQ,dd⟩:=yu I.h_ e;have hz:vs.length<=sizeLine:=by rw[<-JQ.length];exact z
  have hl:(d5 k_ k v).length<=sizeLine:=by have:=ir k_ k v;omega
  refine wpAny_setItem_pairs (hsz:=hz) (i9 ry) dd λh' LA hs=>h _ ?_
  have he:∃q,h'.get? a=some q:=let ⟨q,_,_,hq,_⟩:=LA;⟨q,hq⟩
  exact gB I (by rw[e];exact True.intro) hs he (Ab hl hd (JQ.put k rv) LA)
 ·subst ey eH;cases (show u=Value.ref b from ry);obtain⟨z,hd,xs,JQ,dd⟩:=DZ I.h_ e;have hz:xs.length<=sizeLine:=by rw[<-Paired.length JQ];exact z
  have hl:(d5 k_ k v).length<=sizeLine:=by have:=ir k_ k v;omega
  refine wpAny_setItem_heap (hsz:=hz) (Ji hu) (fQ I.h_ eb) dd λh' LA hs=>h _ ?_
  obtain⟨q,es,ep,hq,h2,h3,h4,_,h5⟩:=LA;refine gB I (by rw[e];exact True.intro) hs ⟨q,hq⟩ ⟨hl,hd,_,(JQ.put k eb rv).keeps λc ys ec=>?_,q,es,ep,hq,h2,h3,h4,h5⟩
  rw[ae (de ec e (λz=>nomatch z))]
  exact ec
end
section
variable {X:Cx}{s:Shared}{a:Addr}{k_:List (Key×V)}{A:Around}
end
section
variable {X:Cx}{o:Expr}{pos:Pos}
end
section
variable {X:Cx}
end
structure M1 (X:Cx)(o:Expr)(m:Str)(m_:Pos)(e:Expr)(n_:Pos):Prop where
 base:attributeBase o m X.env (eval o X.env)=eval o X.env
 few:((backTo n_ (starEach [e] X.env)).all (λx=>!x.1)&&(backToKw n_ (keywordEach [] X.env)).all (λx=>x.1.isSome)
  &&decide (([e]:List Expr).length+([]:List Keyword).length+(if ([]:List Keyword).isEmpty then 0 else 1)<30))=true
 line:(m_.endLine == n_.line)=true
 trees:backTo n_ (starEach [e] X.env)=[(false,eval e X.env)]
structure M2 (X:Cx)(o:Expr)(m:Str)(m_:Pos)(e f:Expr)(n_:Pos):Prop where
 base:attributeBase o m X.env (eval o X.env)=eval o X.env
 few:((backTo n_ (starEach [e,f] X.env)).all (λx=>!x.1)&&(backToKw n_ (keywordEach [] X.env)).all (λx=>x.1.isSome)
  &&decide (([e,f]:List Expr).length+([]:List Keyword).length+(if ([]:List Keyword).isEmpty then 0 else 1)<30))=true
 line:(m_.endLine == n_.line)=true
 trees:backTo n_ (starEach [e,f] X.env)=[(false,eval e X.env),(false,eval f X.env)]
section
variable {X:Cx}{s:Shared}{a:Addr}{y d:V}{o:Option V}{A:Around}
theorem A2(hu:A.units+1<cLine)(I:Inv X a_ σ H s)(g:DGet H a y o)(ry:RelV y u)(h:∀w' s',Inv X a_ σ H s'->RelV (o.getD .j_) w'->Q w' s') :
  wpAny (model X.prog X.w) A (call (.builtin "dict.get") [.ref a,u]) Q E s:=by
 rcases g with ⟨k_,k,e,ey,l⟩|⟨k_,k,b,e,ey,eb,l⟩
 ·subst ey;obtain⟨z,hd,vs,JQ,dd⟩:=ij I.h_ e;refine call_meetsIn PySem.F.slot_dict_get dd.typeIs PySem.F.entry_dict_get (PySem.F.args_dict_get_2 _ _) (meets_dict_get (aE X.prog X.w) a (i9 ry) hd) ⟨_,dd.mapOf,h _ _ (I.tok _) ?_⟩;rw[l];exact (JQ.val k).getD rfl
 ·subst ey;cases (show u=Value.ref b from ry);obtain⟨z,hd,xs,JQ,dd⟩:=kI I.h_ e;refine call_meetsIn PySem.F.slot_dict_get dd.typeIs PySem.F.entry_dict_get (PySem.F.args_dict_get_2 _ _) (meetsH_dict_get (tupleKind (aE X.prog X.w)) a b hd) ⟨Ji hu,k,xs,fQ I.h_ eb,dd,h _ _ (I.tok _) ?_⟩;rw[l];exact (JQ.val k).getD rfl
theorem zt(hu:A.units+1<cLine)(I:Inv X a_ σ H s)(g:DGet H a y o)(ry:RelV y u)(rd:RelV d r)(h:∀w' s',Inv X a_ σ H s'->RelV (o.getD d) w'->Q w' s') :
  wpAny (model X.prog X.w) A (call (.builtin "dict.get") [.ref a,u,r]) Q E s:=by
 rcases g with ⟨k_,k,e,ey,l⟩|⟨k_,k,b,e,ey,eb,l⟩
 ·subst ey;obtain⟨z,hd,vs,JQ,dd⟩:=ij I.h_ e;refine call_meetsIn PySem.F.slot_dict_get dd.typeIs PySem.F.entry_dict_get (PySem.F.args_dict_get_3 _ _ _) (meets_dict_get_default (aE X.prog X.w) a (i9 ry) hd r) ⟨_,dd.mapOf,h _ _ (I.tok _) ?_⟩;rw[l];exact (JQ.val k).getD rd
 ·subst ey;cases (show u=Value.ref b from ry);obtain⟨z,hd,xs,JQ,dd⟩:=kI I.h_ e;refine call_meetsIn PySem.F.slot_dict_get dd.typeIs PySem.F.entry_dict_get (PySem.F.args_dict_get_3 _ _ _) (meetsH_dict_get_default (tupleKind (aE X.prog X.w)) a b hd r) ⟨Ji hu,k,xs,fQ I.h_ eb,dd,h _ _ (I.tok _) ?_⟩;rw[l];exact (JQ.val k).getD rd
end
section
variable {X:Cx}{o:Expr}
end
section
variable {X:Cx}{s:Shared}{a:Addr}{k_:List (Key×V)}{A:Around}
end
section
variable {X:Cx}{s:Shared}{a:Addr}{y:V}{A:Around}
end
end L2
namespace HT
open PySem PyProof.Rows
section
open PySem.SeqAt
open PySem.AutoSeq1 (wpAny_loadPart')
open PySem.MeetsSeq PySem.MeetsSeq2 PySem.MeetsSeq3
end
section
variable {w:World}{A:Around}{s:Shared}
theorem cat_tup{vs ws:List Value}(ht:IsTup s.heap t vs.toArray)(hb:IsTup s.heap b ws.toArray)(hv:vs≠[])
  (h1:ws=[]->Q (.ref t) s) (h2:ws≠[]->Q (.ref s.heap.objs.size) {s with heap:=s.heap.push {cls:=.type "tuple",data:=.seq (vs++ws).toArray}})
  (hsz:vs.length+ws.length<=sizeLine):wpAny (model prog w) A (binaryOp .Add (.ref t) (.ref b)) Q E s:=by
 obtain⟨⟨cls,dd,data,sl⟩,ho,hc,n,hd⟩:=id ht;obtain⟨⟨O6,LB,data2,Ky⟩,Mv,Mw,n2,hd2⟩:=id hb;simp only at hc hd Mw hd2;subst hc hd Mw hd2;have e:vs.toArray++ws.toArray=(vs++ws).toArray:=by simp
 by_cases hw:ws=[]
 ·exact concat_meets ⟨_,ho,rfl⟩ ⟨_,Mv,rfl⟩ noFill_tuple_add seq_tuple_add PySem.F.slot_tuple_add PySem.F.entry_tuple_add (PySem.F.args_tuple_add_2 _ _)
   (tuple_addW1 t b vs.toArray ws.toArray n n2 dd LB sl Ky (by simpa using hv) (by simp[hw])) ⟨ho,Mv,h1 hw⟩
 ·refine concat_meets ⟨_,ho,rfl⟩ ⟨_,Mv,rfl⟩ noFill_tuple_add seq_tuple_add PySem.F.slot_tuple_add PySem.F.entry_tuple_add (PySem.F.args_tuple_add_2 _ _)
   (tuple_addW2 t b vs.toArray ws.toArray n n2 dd LB sl Ky (by simpa using hv) (by simpa using hw) (by rw[List.size_toArray,List.size_toArray];exact hsz)) ⟨ho,Mv,?_⟩
  rw[e];exact h2 hw
noncomputable def sIx(n d:Nat):Option Int->Nat
 |none=>d
 |some v=>if v<0 then (v+(n:Int)).toNat else min v.toNat n
theorem sIx_none(n d:Nat):sIx n d none=d:=rfl
theorem sIx_nat(n d k:Nat):sIx n d (some (k:Int))=min k n:=by
 show (if (k:Int)<0 then ((k:Int)+(n:Int)).toNat else min (k:Int).toNat n)=min k n
 rw[if_neg (by omega),Int.toNat_natCast]
theorem AN(n d:Nat)(hd:d<=n)(o:Option Int):sIx n d o<=n:=by
 cases o with
 |none=>exact hd
 |some v=>
  show (if v<0 then (v+(n:Int)).toNat else min v.toNat n)<=n
  by_cases hv:v<0
  ·rw[if_pos hv];omega
  ·rw[if_neg hv];exact Nat.min_le_right _ _
theorem qH(v:Int)(n d:Nat):(if v<0 then max (v+(n:Int)) 0 else min v (n:Int))=((sIx n d (some v):Nat):Int):=by
 show (if v<0 then max (v+(n:Int)) 0 else min v (n:Int))=(((if v<0 then (v+(n:Int)).toNat else min v.toNat n):Nat):Int)
 by_cases hv:v<0
 ·simp only[if_pos hv];omega
 ·simp only[if_neg hv];omega
theorem pL(lo hi:Option Int)(n:Nat):Builtin.Slice.sliceAdjust lo hi 1 (n:Int)=(((sIx n 0 lo:Nat):Int),((sIx n n hi:Nat):Int)):=by
 have h1:¬ ((1:Int)<0):=by omega
 unfold Builtin.Slice.sliceAdjust;simp only[h1,if_false];refine Prod.ext ?_ ?_
 ·cases lo with
  |none=>rfl
  |some v=>exact qH v n 0
 ·cases hi with
  |none=>rfl
  |some v=>exact qH v n n
theorem pF(i j:Nat):Builtin.Slice.slicePlaces (i:Int) (j:Int) 1=j-i:=by
 unfold Builtin.Slice.slicePlaces;have h1:(1:Int) > 0:=by omega
 simp only[h1,if_true,Int.ediv_one];split<;>omega
theorem jF(p:IsPart v o)(h:Q o s):wpAny (model prog w) A (Builtin.Slice.slicePartIndex v) Q E s:=by
 cases p with
 |none=>exact slicePart_none h
 |int i t=>exact slicePart_int h
theorem gS{sl:Addr}{vl vu:Value}{lo hi:Option Int}{n:Nat}{Q:Int×Int×Nat->Shared->Prop}(hs:s.heap.IsSliceOf sl vl vu .none)(pl:IsPart vl lo)(pu:IsPart vu hi)
  (h:Q (((sIx n 0 lo:Nat):Int),1,sIx n n hi-sIx n 0 lo) s):wpAny (model prog w) A (Builtin.Slice.sliceApplied (.ref sl) (pure (n:Int))) Q E s:=by
 obtain⟨os,Nz,Ox,Oy⟩:=id hs;unfold Builtin.Slice.sliceApplied Builtin.Slice.sliceFields;refine wpAny_bind (wpAny_bind (wpAny_field Nz Oy (x:=vl) rfl (wpAny_bind (wpAny_field Nz Oy (x:=vu) rfl (wpAny_bind (wpAny_field Nz Oy (x:=.none) rfl (wpAny_pure ?_)))))));refine wpAny_bind (slicePart_none ?_);show wpAny _ _ (if ((1:Int) == 0)=true then _ else _) _ _ s
 rw[if_neg (by decide)]
 refine wpAny_bind (jF pl (wpAny_bind (jF pu (wpAny_bind (wpAny_pure ?_)))));show wpAny _ _ (match Builtin.Slice.sliceAdjust lo hi 1 (n:Int) with|(lo,hi)=>pure (lo,(1:Int),Builtin.Slice.slicePlaces lo hi 1)) _ _ s
 rw[pL lo hi n];show wpAny _ _ (pure (((sIx n 0 lo:Nat):Int),(1:Int),Builtin.Slice.slicePlaces ((sIx n 0 lo:Nat):Int) ((sIx n n hi:Nat):Int) 1)) _ _ s;rw[pF];exact wpAny_pure h
theorem uW(xs:Array Value)(i k:Nat):((List.range k).filterMap λ(m:Nat)=>xs[((i:Int)+(m:Int)*1).toNat]?).toArray=((xs.toList.drop i).take k).toArray:=by
 have e:(λ(m:Nat)=>xs[((i:Int)+(m:Int)*1).toNat]?)=λm=>xs[i+m]?:=by
  funext m;have:((i:Int)+(m:Int)*1).toNat=i+m:=by omega
  rw[this]
 rw[e];have:=pick_run xs i k;rw[List.filterMap_map]at this;have e2:((λx=>xs[x]?)∘λx=>i+x)=λm=>xs[i+m]?:=rfl
 rw[e2]at this;rw[this]
theorem getItem_tuple_cut{items:Array Value}{lo:Option Int}(ht:IsTup s.heap t items)(hs:s.heap.IsSliceOf sl vl vu .none)(pl:IsPart vl lo)(pu:IsPart vu hi)
  (hw:¬ (sIx items.size 0 lo=0/\sIx items.size items.size hi=items.size))
  (h:Q (.ref s.heap.objs.size) {s with heap:=s.heap.push {cls:=.type "tuple",data:=.seq ((items.toList.drop (sIx items.size 0 lo)).take (sIx items.size items.size hi-sIx items.size 0 lo)).toArray}})
  (hsz:items.size<=sizeLine):wpAny (model prog w) A (getItem (.ref t) (.ref sl)) Q E s:=by
 have K1:sizeOk (.seq ((items.toList.drop (sIx items.size 0 lo)).take (sIx items.size items.size hi-sIx items.size 0 lo)).toArray):=by
  show ((items.toList.drop (sIx items.size 0 lo)).take (sIx items.size items.size hi-sIx items.size 0 lo)).toArray.size<=sizeLine;rw[List.size_toArray,List.length_take,List.length_drop,Array.length_toList];omega
 have hj:sIx items.size items.size hi<=items.size:=AN _ _ (Nat.le_refl _) hi;obtain⟨os,Nz,Ox,Oy⟩:=id hs;have Q7:s.TypeIs (.ref sl) "slice":=⟨os,Nz,Ox⟩;unfold getItem
 try with_reducible refine wpAny_holding ?_
 first|refine wpAny_bind (wpAny_pure ?_)|skip
 refine wpAny_bind (wpAny_sequenceKey ht.typeIs (by decide) ?_)
 refine wpAny_bind (wpAny_callSpecial?_slot (name:=Str.ofString "__getitem__") ht.typeIs PyProof.Rows.slot_tuple_getitem
  (wpAny_call_entry PyProof.Rows.slot_tuple_getitem ht.typeIs entry_tuple_getitem ?_ (args_tuple_getitem _ _)))
 show wpAny _ _ (Builtin.Tuple.tupleItemsOf (.ref t) >>=_) _ _ s;refine wpAny_bind (tupleItemsOf_ ht ?_);refine wpAny_bind (wpAny_typeOf Q7 ?_);rw[if_pos (by decide)]
 refine wpAny_bind (gS hs pl pu ?_);have LC:¬ ((((sIx items.size 0 lo:Nat):Int) == 0&&(1:Int) == 1&&(sIx items.size items.size hi-sIx items.size 0 lo) == items.size)=true):=by
  intro q;rw[Bool.and_eq_true,Bool.and_eq_true]at q;have q1:((sIx items.size 0 lo:Nat):Int)=0:=eq_of_beq q.1.1;have q2:sIx items.size items.size hi-sIx items.size 0 lo=items.size:=eq_of_beq q.2;exact hw ⟨by omega,by omega⟩
 show wpAny _ _ (if (((sIx items.size 0 lo:Nat):Int) == 0&&(1:Int) == 1&&(sIx items.size items.size hi-sIx items.size 0 lo) == items.size)=true then _ else _) _ _ s
 rw[if_neg LC,uW]
 first
  |exact wpAny_bind (m:=Builtin.Tuple.tupleExact _) (wpAny_newObj_type (wpAny_pure ⟨_,rfl,wpAny_pure h⟩) K1)
  |exact wpAny_bind (m:=Builtin.Tuple.tupleExact _) (wpAny_newObj_type (wpAny_bind (wpAny_pure (wpAny_pure ⟨_,rfl,wpAny_pure h⟩))) K1)
  |exact wpAny_bind (wpAny_bind (m:=Builtin.Tuple.tupleExact _) (wpAny_newObj_type (wpAny_pure (wpAny_pure ⟨_,rfl,wpAny_pure h⟩)) K1))
  |exact wpAny_bind (wpAny_bind (m:=Builtin.Tuple.tupleExact _) (wpAny_newObj_type (wpAny_pure ⟨_,rfl,wpAny_pure h⟩) K1))
end
end HT
namespace L2
open PySem PySem.Spec PyProof.Rows
noncomputable abbrev TO:=St->Hp->(Option Int->Hp->Prop)->Prop
def PO(X:Cx)(e:Option Expr)(t:TO):Prop:=
 ∀(a_:List (Addr×Obj)) (s:Shared)(σ:St)(H:Hp)(Q:Option Int->Hp->Prop),Inv X a_ σ H s->t σ H Q->
  wpAny (model X.prog X.w) X.A (evalPart e X.env) (λu s'=>∃o H',Inv X a_ σ H' s'/\IsPart u o/\Q o H') X.xe s
noncomputable def tNoPart:TO:=λ_ H Q=>Q none H
noncomputable def DM(t:TE):TO:=λσ H Q=>t σ H λx H1=>∃i,x=.int i/\Q (some i) H1
section
variable {X:Cx}{lo:Option Expr}
theorem po_none:PO X none tNoPart:=by
 intro a_ s σ H Q I h;rw[evalPart_none];exact Ik ⟨none,H,I,.none,h⟩
theorem ww(h:PE X e te):PO X (some e) (DM te):=by
 intro a_ s σ H Q I hw;rw[evalPart_some];refine thn (h a_ s σ H _ I hw) λu s1 ⟨x,H1,I1,r1,q1⟩=>?_
 obtain⟨i,rfl,q⟩:=q1;obtain⟨t,rfl⟩:=r1;exact⟨some i,H1,I1,.int i t,q⟩
def SlR(X:Cx)(r:V->Option Int->Option Int->Hp->VK->Prop):Prop:=
 ∀(a_:List (Addr×Obj)) (s:Shared)(σ:St)(H:Hp)(x:V)(v vl vu:Value)(lo hi:Option Int)(sl:Addr)(Q:VK),Inv X a_ σ H s->RelV x v->s.heap.IsSliceOf sl vl vu .none->IsPart vl lo->IsPart vu hi->r x lo hi H Q->
  ∃T id,typeLookup (.type T) "__getitem__"=pure (some (.builtin id))/\s.TypeIs v T/\wpAny (model X.prog X.w) X.A (getItem v (.ref sl)) (EP X a_ σ Q) X.xe s
noncomputable def tSl(r:V->Option Int->Option Int->Hp->VK->Prop)(te:TE)(tl th:TO):TE:=λσ H Q=>te σ H λx H1=>tl σ H1 λl H2=>th σ H2 λu H3=>r x l u H3 Q
theorem vm(hr:SlR X r)(he:PE X e te)(hl:PO X lo tl)(hu:PO X hi th):PE X (.Subscript e (.Slice lo hi none p2) pos) (tSl r te tl th):=by
 intro a_ s σ H Q I h;refine Subscript_ (thn (he a_ s σ H _ I h) λv s1 ⟨x,H1,I1,r1,q1⟩=>?_)
 refine wpAny_Slice (thn (hl a_ s1 σ H1 _ I1 q1) λvl s2 ⟨l,H2,I2,pl,q2⟩=>thn (hu a_ s2 σ H2 _ I2 q2) λvu s3 ⟨u,H3,I3,pu,q3⟩=>?_)
 rw[evalPart_none];refine Ik ?_;have I4:Inv X a_ σ H3 {s3 with heap:=s3.heap.push {cls:=.type "slice",data:=.fields #[vl,vu,.none]}}:=I3.kept (t':=s3.toks) λb ob q=>Il _ q
 obtain⟨T,id,hT,ht,hg⟩:=hr a_ {s3 with heap:=s3.heap.push {cls:=.type "slice",data:=.fields #[vl,vu,.none]}} σ H3 x v vl vu l u s3.heap.objs.size Q I4 r1 (Heap.IsSliceOf.new ..) pl pu q3
 show wpAny (model X.prog X.w) X.A (subscriptTail e (.Slice lo hi none p2) v (.ref s3.heap.objs.size)) (EP X a_ σ Q) X.xe {s3 with heap:=s3.heap.push {cls:=.type "slice",data:=.fields #[vl,vu,.none]}}
 exact tail_any (ops:=[.ref s3.heap.objs.size,v]) ht hT hg (by with_unfolding_all rfl)
noncomputable def pX(xs:List V)(lo hi:Option Int):List V:=(xs.drop (HT.sIx xs.length 0 lo)).take (HT.sIx xs.length xs.length hi-HT.sIx xs.length 0 lo)
theorem iw(xs:List V)(lo hi:Option Int):(pX xs lo hi).length<=xs.length:=by
 unfold pX;rw[List.length_take,List.length_drop];omega
def FT(K:JJ):V->Option Int->Option Int->Hp->VK->Prop:=λx lo hi H Q=>∃a xs,x=.ref a/\SqT K H a xs/\
 ¬ (HT.sIx xs.length 0 lo=0/\HT.sIx xs.length xs.length hi=xs.length)/\∀p,H p=none->Q (.ref p) (upd H p (.tup (pX xs lo hi)))
theorem AV:SlR X (FT X.K):=by
 intro a_ s σ H x v vl vu lo hi sl Q I rx hs pl pu h;obtain⟨a,xs,rfl,hx,hw,q⟩:=h;cases rx;obtain⟨its,r,ht,hz⟩:=I.tuple hx;have t_:its.toArray.size=xs.length:=by rw[IF];exact r.length.symm
 refine⟨"tuple",_,PyProof.Rows.slot_tuple_getitem.lookup,ht.typeIs,?_⟩;refine HT.getItem_tuple_cut ht hs pl pu (by rw[t_];exact hw) ?_ (by rw[t_];exact hz)
 rw[t_];refine⟨.ref s.heap.objs.size,_,I.laid (t':=s.toks) (o:=.tup (pX xs lo hi)) (λb ob q=>Il _ q) (Iq _) ?_,rfl,q _ (I.h_.fresh (Iq _))⟩
 exact⟨IR (iw xs lo hi) hz,_,(r.drop (HT.sIx xs.length 0 lo)).take (HT.sIx xs.length xs.length hi-HT.sIx xs.length 0 lo),IsTup.new _ _⟩
def BO(K:JJ):R2:=λx y H Q=>∃a b xs ys,x=.ref a/\y=.ref b/\SqT K H a xs/\SqT K H b ys/\xs≠[]/\xs.length+ys.length<=sizeLine/\
 (ys=[]->Q (.ref a) H)/\(ys≠[]->∀p,H p=none->Q (.ref p) (upd H p (.tup (xs++ys))))
theorem Vals.nil_iff(r:Vals xs us):us=[]<->xs=[]:=by
 cases r with
 |nil=>simp
 |cons _ _=>simp
theorem xV:OpR X (binaryOp .Add) (BO X.K):=by
 intro a_ s σ H x y v u Q I rx ry h;obtain⟨a,b,xs,ys,rfl,rfl,ha,hb,hx,hz,q1,q2⟩:=h;cases rx;cases ry;obtain⟨its,r1,p1,_⟩:=I.tuple ha;obtain⟨q_,r2,p2,_⟩:=I.tuple hb;refine HT.cat_tup p1 p2 (λz=>hx (r1.nil_iff.mp z)) (λz=>⟨.ref a,H,I,rfl,q1 (r2.nil_iff.mp z)⟩) (λz=>?_) (by rw[<-r1.length,<-r2.length];exact hz)
 refine⟨.ref s.heap.objs.size,_,I.laid (t':=s.toks) (o:=.tup (xs++ys)) (λb ob q=>Il _ q) (Iq _) ?_,rfl,q2 (λw=>z (r2.nil_iff.mpr w)) _ (I.h_.fresh (Iq _))⟩
 exact⟨by rw[Je];exact hz,_,r1.append r2,IsTup.new _ _⟩
end
noncomputable def ixN(n:Nat)(i:Int):Option Nat:=if 0<=i then (if i<n then some i.toNat else none) else if -(n:Int)<=i then some (i+n).toNat else none
noncomputable def atI(xs:List α)(i:Int):Option α:=(ixN xs.length i).bind λj=>xs[j]?
theorem qt(h:ixN n i=some j):seqIndex? i n=some j/\j<n/\-(n:Int)<=i/\i<n:=by
 unfold ixN at h;by_cases h0:0<=i
 ·rw[Iu h0]at h;by_cases h1:i<n
  ·rw[Iu h1]at h;have e:i.toNat=j:=IK h;exact⟨by rw[seqIndex_of h0 h1,e],by omega,by omega,h1⟩
  ·rw[Im h1]at h;cases h
 ·rw[Im h0]at h;by_cases h1 : -(n:Int)<=i
  ·rw[Iu h1]at h;have e:(i+n).toNat=j:=IK h;exact⟨by rw[seqIndex_neg (by omega) h1,e],by omega,h1,by omega⟩
  ·rw[Im h1]at h;cases h
theorem ml{xs:List α}(h:atI xs i=some v):∃j,seqIndex? i xs.length=some j/\xs[j]?=some v/\j<xs.length/\-(xs.length:Int)<=i/\i<xs.length:=by
 unfold atI at h;cases e:ixN xs.length i with
 |none=>rw[e]at h;cases h
 |some j=>
  rw[e]at h;obtain⟨h1,h2,h3,h4⟩:=qt e;exact⟨j,h1,h,h2,h3,h4⟩
theorem bX{α:Type}{xs:List α}{j:Nat}{v:α}(h:xs[j]?=some v):atI xs (j:Int)=some v:=by
 have hj:j<xs.length:=(IC.mp h).1;have e:ixN xs.length (j:Int)=some j:=by
  unfold ixN;rw[Iu (by omega),Iu (by omega)];simp
 unfold atI;rw[e];exact h
def l9(b:Expr):Prop:=∀o i,subscripted b false o i=operate [o,i] (getItem o i)
def IxR(X:Cx)(r:R2):Prop:=
 ∀(value J1:Expr) (a_:List (Addr×Obj)) (s:Shared)(σ:St)(H:Hp)(x y:V)(v u:Value)(Q:VK),Inv X a_ σ H s->RelV x v->RelV y u->r x y H Q->
  subscripted J1 false v u=operate [v,u] (getItem v u)->wpAny (model X.prog X.w) X.A (subscriptTail value J1 v u) (EP X a_ σ Q) X.xe s
def MtR(X:Cx)(id:String)(r:V->List V->Hp->VK->Prop):Prop:=
 ∀(a_:List (Addr×Obj)) (s:Shared)(σ:St)(H:Hp)(x:V)(xs:List V)(v:Value)(us:List Value)(Q:VK),Inv X a_ σ H s->RelV x v->Vals xs us->r x xs H Q->
  wpAny (model X.prog X.w) X.A (call (.builtin id) (v::us)) (EP X a_ σ Q) X.xe s
section
variable {X:Cx}{a:Expr}
theorem IxR.or(h:IxR X r)(h':IxR X r'):IxR X (λx y H Q=>r x y H Q\/r' x y H Q):=by
 intro value J1 a_ s σ H x y v u Q I rx ry q hs;rcases q with q|q
 ·exact h value J1 a_ s σ H x y v u Q I rx ry q hs
 ·exact h' value J1 a_ s σ H x y v u Q I rx ry q hs
theorem CB(hr:IxR X r)(ha:PE X a ta)(hb:PE X b tb)(hs:l9 b):PE X (.Subscript a b pos) (tOp r ta tb):=by
 intro a_ s σ H Q I h;exact Subscript_ (zd ha hb I h λv u s2 x y H2 I2 rx ry q=>hr a b a_ s2 σ H2 x y v u Q I2 rx ry q (hs _ _))
def B6(K:JJ):R2:=λx y H Q=>∃p xs i v,x=.ref p/\y=.int i/\SqL K H p xs/\atI xs i=some v/\Q v H
def B2(K:JJ):R2:=λx y H Q=>∃p xs i v,x=.ref p/\y=.int i/\SqT K H p xs/\atI xs i=some v/\Q v H
def rIxS:R2:=λx y H Q=>∃z i c,x=.str z/\y=.int i/\z.length<=sizeLine/\atI z.cps.toList i=some c/\Q (.str ⟨#[c]⟩) H
theorem ix_list:IxR X (B6 X.K):=by
 intro value J1 a_ s σ H x y v u Q I rx ry h hs;obtain⟨p,xs,i,z,rfl,rfl,hq,he,q⟩:=h;cases rx;obtain⟨t,rfl⟩:=ry;obtain⟨its,r,pl,hz⟩:=I.list hq;obtain⟨j,h1,h2,h3,h4,h5⟩:=ml he;obtain⟨w,ew,JX⟩:=r.get h2;have hl:=r.length;have hn:=iV;have fin:EP X a_ σ Q w s:=⟨z,H,I,JX,q⟩;by_cases h0:0<=i
 ·have hj:i.toNat=j:=by
   rw[seqIndex_of h0 h5]at h1;exact IK h1
  exact item_listR pl.isList h0 (by omega) (by rw[hj];simpa using ew) fin hs
 ·have hj:(i+(its.toArray.size:Int)).toNat=j:=by
   rw[seqIndex_neg (by omega) h4]at h1
   rw[IF,<-hl];exact IK h1
  exact subscriptTail_builtinR (x:=w) pl.isList.typeIs slot_list_getitem.lookup
   (wpAny_getItem_list_neg (Q:=λr s'=>r=w/\EP X a_ σ Q r s') pl.isList (by omega) (by rw[IF]<;>omega) (by omega) (by rw[hj];simpa using ew) ⟨rfl,fin⟩) hs
theorem ix_tup:IxR X (B2 X.K):=by
 intro value J1 a_ s σ H x y v u Q I rx ry h hs;obtain⟨p,xs,i,z,rfl,rfl,hq,he,q⟩:=h;cases rx;obtain⟨t,rfl⟩:=ry;obtain⟨its,r,pl,hz⟩:=I.tuple hq;obtain⟨j,h1,h2,h3,h4,h5⟩:=ml he;obtain⟨w,ew,JX⟩:=r.get h2;have hl:=r.length;have hn:=iV;have fin:EP X a_ σ Q w s:=⟨z,H,I,JX,q⟩;exact subscriptTail_builtinR (x:=w) pl.typeIs slot_tuple_getitem.lookup
  (getItem_tuple (j:=j) (Q:=λr s'=>r=w/\EP X a_ σ Q r s') pl (by omega) (by omega) (by rw[IF,<-hl];exact h1) (by simpa using ew) ⟨rfl,fin⟩) hs
theorem AG:IxR X rIxS:=by
 intro value J1 a_ s σ H x y v u Q I rx ry h hs;obtain⟨z,i,c,rfl,rfl,hz,he,q⟩:=h;obtain⟨t,rfl⟩:=rx;obtain⟨t',rfl⟩:=ry;obtain⟨j,h1,h2,h3,h4,h5⟩:=ml he;have hl:z.cps.toList.length=z.length:=by simp[Str.length]
 rw[hl]at h1 h4 h5;have hn:=iV;exact tail_any (typeIs_str s z t) slot_str_getitem.lookup (getItem_str (c:=c) (by
  have e1:decide (i < -(2 ^ 63:Int))=false:=Jo (by omega)
  have e2:decide (i>=2 ^ 63)=false:=Jo (by omega)
  rw[e1,e2,Bool.or_false]) (by rw[h1];simpa using h2) ⟨.str ⟨#[c]⟩,H,I.tok _,⟨_,rfl⟩,q⟩) hs
def rIx(K:JJ):R2:=λx y H Q=>B6 K x y H Q\/B2 K x y H Q\/rIxS x y H Q
theorem Bg:IxR X (rIx X.K):=ix_list.or (ix_tup.or AG)
theorem ol(its:List Value)(n j:Nat)(u:Value):Obj.mapSeq (·.setIfInBounds j u) {cls:=.type "list",data:=.seq its.toArray n}={cls:=.type "list",data:=.seq (its.set j u).toArray n}:=by
 simp[Obj.mapSeq]
theorem Inv.lst{s:Shared}(I:Inv X a_ σ H s)(h:H p=some (.lst xs)) :
  ∃(its:List Value) (n:Nat),Vals xs its/\s.heap.get? p=some {cls:=.type "list",data:=.seq its.toArray n}/\xs.length<=sizeLine:=by
 obtain⟨z,its,n,r,e⟩:=I.h_ p _ h;exact⟨its,n,r,e,z⟩
theorem Inv.lstUpd{a_:List (Addr×Obj)}{σ:St}{H:Hp}{s:Shared}{p:Addr}{xs ys:List V}{its its':List Value}{n n':Nat}{f:Obj->Obj}(I:Inv X a_ σ H s)(h:H p=some (.lst xs))
  (ho:s.heap.get? p=some {cls:=.type "list",data:=.seq its.toArray n}) (hf:f {cls:=.type "list",data:=.seq its.toArray n}={cls:=.type "list",data:=.seq its'.toArray n'}) (r:Vals ys its') (hz:ys.length<=sizeLine) (t:Nat) :
  Inv X a_ σ (upd H p (.lst ys)) {s with heap:=s.heap.update p f,toks:=t}:=by
 have e:(s.heap.update p f).get? p=some {cls:=.type "list",data:=.seq its'.toArray n'}:=by
  rw[Jb f ho (by rw[hf]<;>rfl),hf]
 refine I.write (x:=p) (e:=p) (by rw[h];trivial) (.inl rfl) (λb u hb q=>(IQ _ _ (IB hb)).trans q) ⟨_,e⟩ ?_
 exact⟨hz,its',n',r,e⟩
def rSetL:V->V->V->Hp->(Hp->Prop)->Prop:=λo i v H Q=>∃p xs k j,o=.ref p/\i=.int k/\H p=some (.lst xs)/\ixN xs.length k=some j/\Q (upd H p (.lst (xs.set j v)))
theorem uG:AS X rSetL:=by
 intro a_ s σ H o i v ov iv u Q I ro ri rv h;obtain⟨p,xs,k,j,rfl,rfl,hp,hj,q⟩:=h;cases ro;obtain⟨t,rfl⟩:=ri;obtain⟨its,n,r,ho,hz⟩:=I.lst hp;obtain⟨h1,h2,h3,h4⟩:=qt hj;have hl:=r.length;have hn:=iV;have I':Inv X a_ σ (upd H p (.lst (xs.set j v))) {s with heap:=s.heap.update p (Obj.mapSeq (·.setIfInBounds j u))}:=
  I.lstUpd hp ho (ol its n j u) (r.set rv j) (by rw[List.length_set];exact hz) s.toks
 by_cases h0:0<=k
 ·have hk:k.toNat=j:=by
   rw[seqIndex_of h0 h4]at h1;exact IK h1
  exact PySem.W.ki_setAt ho h0 (by omega) (by rw[IF,<-hl];exact h4) (by rw[hk];exact⟨_,I',q⟩)
 ·have hk:(k+(its.toArray.size:Int)).toNat=j:=by
   rw[seqIndex_neg (by omega) h3]at h1
   rw[IF,<-hl];exact IK h1
  exact PySem.W.ki_setBack ho (by omega) (by rw[IF,<-hl];exact h3) (by omega) (by rw[hk];exact⟨_,I',q⟩)
theorem lM(lo hi:Option Int)(n:Nat):(sliceBounds lo hi none n).1=((HT.sIx n 0 lo:Nat):Int)/\(sliceBounds lo hi none n).2.1=((HT.sIx n n hi:Nat):Int)/\(sliceBounds lo hi none n).2.2=1:=by
 refine⟨?_,?_,rfl⟩
 ·cases lo with
  |none=>simp[sliceBounds,HT.sIx]
  |some i=>
   simp only[sliceBounds,HT.sIx,Option.getD_none,show (1:Int) > 0 by decide,if_true]
   by_cases h:i<0
   ·simp only[h,if_true]<;>omega
   ·simp only[h,if_false]<;>omega
 ·cases hi with
  |none=>simp[sliceBounds,HT.sIx]
  |some i=>
   simp only[sliceBounds,HT.sIx,Option.getD_none,show (1:Int) > 0 by decide,if_true]
   by_cases h:i<0
   ·simp only[h,if_true]<;>omega
   ·simp only[h,if_false]<;>omega
theorem kl(its:List Value)(lo hi:Option Int):slicePick its.toArray lo hi none=((its.drop (HT.sIx its.length 0 lo)).take (HT.sIx its.length its.length hi-HT.sIx its.length 0 lo)).toArray:=by
 obtain⟨h1,h2,h3⟩:=lM lo hi its.toArray.size;unfold slicePick;rw[h1,h2,h3];simp only[sliceRange_one,pick_run,IF]<;>rfl
theorem mz:CallR X (.builtin "len") (λxs H Q=>∃p ys,xs=[.ref p]/\(SqL X.K H p ys\/SqT X.K H p ys)/\Q (.int ys.length) H):=by
 intro a_ s σ H xs us Q I r h;obtain⟨p,ys,rfl,hq,q⟩:=h;obtain⟨u,rfl,rx⟩:=le r;cases rx;have hn:=iV;rcases hq with hq|hq
 ·obtain⟨its,r',pl,hz⟩:=I.list hq;have t_:=r'.length;exact Calls.call_len_list pl.isList (by simp only[IF]<;>omega) ⟨.int ys.length,H,I.tok _,⟨s.toks+1,by rw[IF,t_]⟩,q⟩
 ·obtain⟨its,r',pl,hz⟩:=I.tuple hq;have t_:=r'.length;exact len_tuple pl (by simp only[IF]<;>omega) ⟨.int ys.length,H,I.tok _,⟨s.toks+1,by rw[IF,t_]⟩,q⟩
theorem lZ:CallR X (.type "list") (λxs H Q=>∃p ys,xs=[.ref p]/\(SqL X.K H p ys\/SqT X.K H p ys)/\∀l,H l=none->Q (.ref l) (upd H l (.lst ys))):=by
 intro a_ s σ H xs us Q I r h;obtain⟨p,ys,rfl,hq,q⟩:=h;obtain⟨u,rfl,rx⟩:=le r;cases rx;have fin:∀(its:List Value),Vals ys its->ys.length<=sizeLine->∀(h':Heap)(c':Nat),(∀b o',s.heap.get? b=some o'->h'.get? b=some o')->
   h'.get? s.heap.objs.size=some {cls:=.type "list",dict:=none,data:=.seq its.toArray c',slots:=#[]}->EP X a_ σ Q (.ref s.heap.objs.size) {s with heap:=h'}:=λits r' hz h' c' kp e=>
  ⟨.ref s.heap.objs.size,_,I.laid (t':=s.toks) kp (Iq _) (show ObjOk X.prog X.w _ h' _ (.lst ys) from⟨hz,its,c',r',e⟩),rfl,q _ (I.h_.fresh (Iq _))⟩
 rcases hq with hq|hq
 ·obtain⟨its,r',pl,hz⟩:=I.list hq;have t_:=r'.length;obtain⟨o,ho,hc,n,hd⟩:=pl.isList;exact call_list_seq p (.inl rfl) ho hc hd (λh' c' kp e=>fin its r' hz h' c' kp e) (by simp only[IF]<;>omega)
 ·obtain⟨its,r',pl,hz⟩:=I.tuple hq;have t_:=r'.length;obtain⟨o,ho,hc,n,hd⟩:=pl;exact call_list_seq p (.inr rfl) ho hc hd (λh' c' kp e=>fin its r' hz h' c' kp e) (by simp only[IF]<;>omega)
def tyV(K:JJ)(T:String)(x:V)(H:Hp):Prop:=match x with
 |.str _=>T = "str"
 |.int _=>T = "int"
 |.ref p=>(T = "list"/\∃xs,SqL K H p xs)\/(T = "tuple"/\∃o,K.lookup p=some o/\o.cls=.type "tuple"/\o.dict=none)\/
   (T = "dict"/\((∃k_,H p=some (.dK k_))\/∃k_,H p=some (.dT k_)))\/(T = "set"/\∃S n,H p=some (.set S n))
 |_=>False
theorem yS{s:Shared}(I:Inv X a_ σ H s)(r:RelV x v)(ty:tyV X.K T x H) :
  s.TypeIs v T/\∀a,v=.ref a->∃ob,s.heap.get? a=some ob/\ob.dict=none:=by
 cases x with
 |str z=>
  obtain⟨t,rfl⟩:=r;cases (show T = "str" from ty);exact⟨typeIs_str s z t,λ_ e=>nomatch e⟩
 |int i=>
  obtain⟨t,rfl⟩:=r;cases (show T = "int" from ty);exact⟨typeIs_int s i t,λ_ e=>nomatch e⟩
 |ref p=>
  cases r;rcases ty with ⟨rfl,xs,hq⟩|⟨rfl,o,hk,hc,hd⟩|⟨rfl,hk⟩|⟨rfl,S,n,hk⟩
  ·obtain⟨its,_,pl,_⟩:=I.list hq;refine⟨pl.isList.typeIs,λa e=>?_⟩
   cases e;obtain⟨o,n,e,c,hd,_⟩:=pl;exact⟨o,e,hd⟩
  ·refine⟨⟨o,I.kIn p o hk,hc⟩,λa e=>?_⟩
   cases e;exact⟨o,I.kIn _ o hk,hd⟩
  ·have z:∃o,s.heap.get? p=some o/\o.ExactDict:=by
    rcases hk with ⟨k_,hk⟩|⟨k_,hk⟩
    ·obtain⟨_,_,_,_,o,_,_,e,ex,_⟩:=I.h_ p _ hk;exact⟨o,e,ex⟩
    ·obtain⟨_,_,_,_,o,_,_,e,ex,_⟩:=I.h_ p _ hk;exact⟨o,e,ex⟩
   obtain⟨o,e,ex⟩:=z;refine⟨⟨o,e,ex.1⟩,λa e2=>?_⟩
   cases e2;exact⟨o,e,ex.2.1⟩
  ·obtain⟨o,_,_,_,e,ex,_⟩:=I.h_ p _ hk;refine⟨⟨o,e,ex.1⟩,λa e2=>?_⟩
   cases e2;exact⟨o,e,ex.2.1⟩
 |_=>exact False.elim ty
noncomputable def tBM(K:JJ)(T:String)(r:V->List V->Hp->VK->Prop)(to:TE)(t:TA):TE:=λσ H Q=>to σ H λx H1=>tyV K T x H1/\t σ H1 λxs H2=>r x xs H2 Q
variable {o:Expr}{id:String}
theorem BY(pa:PlainAttrs T)(slot:Slot T name id)(LO:typeOf (.builtin id)=pure (.type "method_descriptor"))(hm:MtR X id r)(ho:PE X o to)(ha:PA X (e::es) t)
  (D_:attributeBase o name X.env (eval o X.env)=eval o X.env:=by rfl)
  (Mx:((backTo n_ (starEach (e::es) X.env)).all (λx=>!x.1)&&(backToKw n_ (keywordEach [] X.env)).all (λx=>x.1.isSome)
   &&decide ((e::es).length+([]:List Keyword).length+(if ([]:List Keyword).isEmpty then 0 else 1)<30))=true:=by rfl)
  (E_:(m_.endLine == n_.line)=true:=by rfl) (hs:starEach (e::es) X.env=(false,eval e X.env)::starEach es X.env:=by rfl) (J6:(backTo n_ (starEach es X.env)).any (·.1)=false:=by rfl) :
  PE X (.Call (.Attribute o name m_) (e::es) [] n_) (tBM X.K T r to t):=by
 intro a_ s σ H Q I h;refine wpAny_Call_method_late D_ Mx E_ rfl (thn (ho a_ s σ H _ I h) λv s1 ⟨x,H1,I1,r1,ty,q1⟩=>?_)
 obtain⟨h1,h2⟩:=yS I1 r1 ty;refine⟨T,id,pa,slot,LO,h1,h2,?_⟩;have hA:=ha n_ a_ s1 σ H1 _ I1 q1;rw[hs]at hA ⊢;refine Calls.callWith_builtin (by show (false||(backTo n_ (starEach es X.env)).any (·.1))=false;rw[J6]<;>rfl) (Calls.evalArgs_plain ?_)
 exact thn hA λus s2 ⟨vs,H2,I2,r2,q2⟩=>hm a_ s2 σ H2 x vs v us Q I2 r1 r2 q2
end
def MtM(X:Cx)(id:String)(r:V->List V->Hp->VK->Prop):Prop:=
 ∀(a_:List (Addr×Obj)) (s:Shared)(σ:St)(H:Hp)(x:V)(xs:List V)(v:Value)(us:List Value)(Q:VK),Inv X a_ σ H s->RelV x v->Vals xs us->r x xs H Q->
  wpAny (model X.prog X.w) X.A (call (.builtin id) (v::us)) (EP X a_ σ Q) X.xe s
theorem Vals.one{x:V}{us:List Value}(h:Vals [x] us):∃u,us=[u]/\RelV x u:=by
 cases h with|cons r t=>cases t;exact⟨_,rfl,r⟩
theorem Vals.two{x y:V}{us:List Value}(h:Vals [x,y] us):∃u v,us=[u,v]/\RelV x u/\RelV y v:=by
 cases h with|cons r t=>cases t with|cons q t=>cases t;exact⟨_,_,rfl,r,q⟩
theorem Vals.zero:∀{us:List Value},Vals [] us->us=[]
 |_,.nil=>rfl
theorem Vals.rep(h:Vals xs us):∀k:Nat,Vals (List.replicate k xs).flatten (List.replicate k us).flatten
 |0=>.nil
 |k+1=>by
  rw[List.replicate_succ,List.replicate_succ,List.flatten_cons,List.flatten_cons];exact Vals.append h (Vals.rep h k)
theorem k8(its:List Value):∀(k:Nat)(acc:List Value),
  List.foldl (λx1 x2=>x1++x2) acc.toArray (List.replicate k its.toArray)=(acc++(List.replicate k its).flatten).toArray
 |0,acc=>by simp
 |k+1,acc=>by
  have e:acc.toArray++its.toArray=(acc++its).toArray:=by simp
  have e2:(acc++its)++(List.replicate k its).flatten=acc++(List.replicate (k+1) its).flatten:=by
   rw[List.replicate_succ,List.flatten_cons,List.append_assoc]
  rw[<-e2,<-k8 its k (acc++its),<-e,List.replicate_succ,List.foldl_cons]
section
variable {X:Cx}{s:Shared}{l:Addr}{xs ys:List V}
theorem Inv.lset{its its':List Value}{n:Nat}{f:Array Value->Array Value}{t':Nat}(I:Inv X a_ σ H s)(hH:H l=some (.lst xs))
  (e:s.heap.get? l=some {cls:=.type "list",data:=.seq its.toArray n}) (hf:f its.toArray=its'.toArray) (hv:Vals ys its') (hz:ys.length<=sizeLine) :
  Inv X a_ σ (upd H l (.lst ys)) {s with heap:=s.heap.update l (Obj.mapSeq f),toks:=t'}:=by
 have q:=PySem.IsL.update e f;rw[hf]at q;refine I.write (x:=l) (e:=l) (by rw[hH];exact trivial) (.inl rfl) (λb' u hb hu=>(IQ s.heap (Obj.mapSeq f) (IB hb)).trans hu) ⟨_,q⟩ ?_
 exact⟨hz,its',_,hv,q⟩
theorem Inv.lnew(I:Inv X a_ σ H s)(hv:Vals ys its)(hz:ys.length<=sizeLine) :
  Inv X a_ σ (upd H s.heap.objs.size (.lst ys)) {s with heap:=s.heap.push {cls:=.type "list",data:=.seq its.toArray},toks:=t'}:=
 I.laid (λ_ _ q=>Il _ q) (Iq _) ⟨hz,its,0,hv,Iz _ rfl⟩
theorem Inv.fresh(I:Inv X a_ σ H s):H s.heap.objs.size=none:=I.h_.fresh (Iq _)
theorem Inv.lstM(I:Inv X a_ σ H s)(hH:H l=some (.lst xs)):xs.length<=sizeLine/\∃(its:List Value) (n:Nat),Vals xs its/\xs.length=its.length/\s.heap.get? l=some {cls:=.type "list",data:=.seq its.toArray n}:=by
 obtain⟨z,its,n,r,e⟩:=I.h_ l _ hH;exact⟨z,its,n,r,r.length,e⟩
theorem sX{n:Nat}(h:n<=sizeLine):Builtin.List.listTooLong n=false:=by
 unfold Builtin.List.listTooLong;exact Jo (by omega)
end
section
variable {X:Cx}
def rAppend:V->List V->Hp->VK->Prop:=λx vs H Q=>∃l xs y,x=.ref l/\vs=[y]/\H l=some (.lst xs)/\xs.length<sizeLine/\Q .j_ (upd H l (.lst (xs++[y])))
theorem lA:MtM X "list.append" rAppend:=by
 intro a_ s σ H x vs v us Q I rx rv h;obtain⟨l,xs,y,rfl,rfl,hH,hz,q⟩:=h;cases rx;obtain⟨u,rfl,ru⟩:=rv.one;obtain⟨z,its,n,r,hl,e⟩:=I.lstM hH;refine call_meets F.slot_list_append ⟨_,e,rfl⟩ F.entry_list_append (F.args_list_append_2 _ _) (PySem.list_append l its.toArray n u (by rw[IF];omega)) ⟨e,?_⟩
 refine⟨.j_,_,I.lset (its':=its++[u]) hH e (by simp) (r.append (.cons ru .nil)) ?_,rfl,q⟩
 rw[Je,List.length_singleton];omega
def rClear:V->List V->Hp->VK->Prop:=λx vs H Q=>∃l xs,x=.ref l/\vs=[]/\H l=some (.lst xs)/\Q .j_ (upd H l (.lst []))
theorem uO:MtM X "list.clear" rClear:=by
 intro a_ s σ H x vs v us Q I rx rv h;obtain⟨l,xs,rfl,rfl,hH,q⟩:=h;cases rx;have Q8:=rv.zero;subst Q8;obtain⟨z,its,n,r,hl,e⟩:=I.lstM hH;refine call_meets F.slot_list_clear ⟨_,e,rfl⟩ F.entry_list_clear (F.args_list_clear_1 _) (AutoSeq1.list_clear_list_0 l its.toArray n (by rw[IF];omega)) ⟨e,?_⟩
 exact⟨.j_,_,I.lset (its':=[]) (ys:=[]) hH e rfl .nil (Nat.zero_le _),rfl,q⟩
theorem vX(xs:List α)(k:Nat):(List.replicate k xs).flatten.length=k*xs.length:=by
 induction k with
 |zero=>simp
 |succ k ih=>rw[List.replicate_succ,List.flatten_cons,Je,ih,Nat.succ_mul,Nat.add_comm]
end
section
variable {w:World}{A:Around}{s:Shared}
set_option maxRecDepth 100000 in
end
section
variable {X:Cx}
end
end L2
namespace Att
open PySem PySem.W PySem.Calls PyProof.Rows
theorem iB:∀(ns:List Int)(vs:List Value),WellAll P h vs (ns.map WData.int)->IntsAre vs ns:=by
 intro ns
 induction ns with
 |nil=>
  intro vs w;rw[List.map_nil]at w;cases w;exact .nil
 |cons n ns ih=>
  intro vs w;rw[List.map_cons]at w;cases w with
  |cons a b=>
   cases a;exact .cons _ _ (ih _ b)
theorem sy{l:OpenLaw}(hn:l.most=some n){h:Heap}
  (LP:l.row.toRowW.claim.pre args=true) (O7:WellAll P h Ol args) :
  ∃a vs ns,Ol=[Value.ref a]/\args=[WData.list (ns.map WData.int)]/\h.get? a=some {cls:=.type "list",data:=.seq vs.toArray}/\IntsAre vs ns/\ns.length<=n:=by
 have Q9:WShape.hasAll [] args [.list .int]=true:=(pre_splitW LP).1;have hc:l.pre.holds [] {args:=args}=true:=(pre_splitW LP).2;obtain⟨d,r,rfl,h1,h2⟩:=hasAllW_cons Q9;obtain rfl:=hasAllW_nil h2;obtain⟨xs,rfl,h3⟩:=hasW_list h1;obtain⟨ns,rfl⟩:=items_int h3;have t_:ns.length<=n:=by
  unfold OpenLaw.pre at hc;have h4:(WTm.not (.lt (.lit (.int (n:Int))) (.len (.arg 0)))).holds [] {args:=[.list (ns.map .int)]}=true:=by
   have h4:=(holds_andW hc).1;rw[hn]at h4;exact h4
  have h5:=condW_of h4 (w_not (w_lt w_lit (w_len_list (w_arg rfl))));rw[List.length_map]at h5;refine Nat.le_of_not_lt λq=>?_
  have q':(n:Int)<((ns.length:Nat):Int):=by omega
  first
   |(rw[decide_eq_true q']at h5;exact absurd h5 (by decide))
   |(simp at h5;omega)
 cases O7 with
 |cons w1 w2=>
  cases w2;cases w1 with
  |list ho O8=>exact⟨_,_,ns,rfl,rfl,ho,iB ns _ O8,t_⟩
theorem rB(l:OpenLaw)(args:List WData):l.row.toRowW.claim.post args (.bool true) args=true:=
 postW_of (r:=l.row.toRowW) (X:=(true == true))
  (show WShape.has [] (.bool true) .bool=true by first|rfl|decide|simp[WShape.has,WShape.arms,WShape.armsAll])
  (show (WTm.eq .res (.lit (.bool true))).value [] {args:=args,res:=some (.bool true),after:=args}=some (.bool (true == true)) from w_eq_bool (w_res rfl) w_lit) rfl
theorem attach_call{l:OpenLaw}{d:DefRec}
  (hn:l.most=some n) (O9:d.params.defaults=[])
  (call:∀(w:World)(s₀ p_:Shared)(mg mb:Str->Option Value)(fa:Addr)(o:Obj)(pm cd doc:Value)(a:Addr)(vs:List Value)(ns:List Int),
   Ground q loose [] XP w s₀ mg mb p_.heap->YP w p_.heap->
   p_.heap.get? fa=some o->o.data=.func (docDef d.name d.params d.body d.scope pm cd doc)->p_.heap.CodeRec cd d.name->mg d.name=some (.ref fa)->
   p_.heap.get? a=some {cls:=.type "list",data:=.seq vs.toArray}->IntsAre vs ns->ns.length<=n->p_.gens=#[]->
   codeAny (model l.prog w) callerA (.call (.ref fa) ⟨[.ref a],[]⟩) (λr s'=>r=.ok (.ret (.bool true))/\OldK p_.heap s'.heap/\s'.os=p_.os/\AllBare s'.gens) p_) :
  WalkO q loose XP YP l.row.toRowW d [] (λf vs=>PySem.call f vs):=by
 intro w s₀ p_ mg mb G Y fa o pm cd doc dV kV ho hd Kd hD O_ hg args Ol as LP hlay hrd O7 M8;obtain rfl:dV=.none:=Dflts.none hD O9;obtain rfl:kV=.none:=Dflts.noKw hD;obtain⟨a,vs,ns,rfl,rfl,LQ,KN,t_⟩:=sy hn LP O7;refine enter_call (codeAny_mono (call w s₀ p_ mg mb fa o pm cd doc a vs ns G Y ho (fd_plain hd) Kd O_ LQ KN t_ hg) λr s' hq=>?_)
 obtain⟨rfl,h2,h3,h4⟩:=hq;exact⟨.inl ⟨.bool true,.bool true,[],rfl,λ_=>rfl,.bool true,rB l _,λ_=>⟨List.Pairwise.nil,λ_ hm=>(nomatch hm)⟩⟩,h2,h3,h4⟩
section
variable {w:World}{A:Around}{s:Shared}{K:Frag}
end
end Att
namespace L2
open PySem PySem.Spec PyProof.Rows
theorem g9:∀{vs:List Value}{ns:List Int},IntsAre vs ns->Vals (ns.map V.int) vs
 |_,_,.nil=>.nil
 |_,_,.cons n t h=>.cons ⟨t,rfl⟩ (g9 h)
def Ch(H:Hp):Prop:=∀b,H b=none\/∃o xs,H b=some (.s_ o (.lst xs))
theorem vH{K:JJ}{p_:Shared}
  (KX:K.In p_.heap)(NA:p_.heap.Ns mainGlobals mg)(hb:p_.heap.Ns builtinsNs mb) (Q_:∀x:Str,x≠"__name__"->mb x=bootBuiltins x) (Pa:p_.heap.NoLimit) (hg:p_.gens=#[])
  (ha:p_.heap.get? a=some {cls:=.type "list",data:=.seq vs.toArray}) (hi:IntsAre vs ns) (hl:ns.length<=sizeLine) (hr:Room k callerA)
  (F:∀base:Heap,K.In base->base.Ns mainGlobals mg->FnOk P w K mg base CX k fa fd [x] sp) (NB:∀(s:Shared)(u:Value),BindsTo s fd ⟨[u],[]⟩ [(x,u)])
  (Me:∀H:Hp,Ch H->SqL K H a (ns.map V.int)->sp [.ref a] H (λv _=>v=.bl true) λ_ _ _=>False)
  (Ra:∀H e s',CX [] H p_ (λ_ _ _=>False) e s'->False) :
  codeAny (model P w) callerA (.call (.ref fa) ⟨[.ref a],[]⟩) (λr s'=>r=.ok (.ret (.bool true))/\OldK p_.heap s'.heap/\s'.os=p_.os/\AllBare s'.gens) p_:=by
 have rv:=g9 hi;have Pb:=hi.length;have core:∀H:Hp,Ch H->SqL K H a (ns.map V.int)->HOk P w H p_.heap->(∀b,H b≠none->b=a)->(H a≠none->K.lookup a=none)->
   codeAny (model P w) callerA (.call (.ref fa) ⟨[.ref a],[]⟩) (λr s'=>r=.ok (.ret (.bool true))/\OldK p_.heap s'.heap/\s'.os=p_.os/\AllBare s'.gens) p_:=by
  intro H hO hS h_ hA hK;have K2:∀{b:Addr}{o:Obj},p_.heap.get? b=some o->H b=none->(l7 p_.heap H).get? b=some o:=λe n=>ua e n
  have Nw:∀{b:Addr}{o:Obj}{es:Array DictEntry}{ep:Nat},p_.heap.get? b=some o->o.data=.dict es ep->H b=none:=λ{b o es ep} e d=>by
   cases q:H b with
   |none=>rfl
   |some u=>
    have e':b=a:=hA b (by rw[q];simp)
    subst e';rw[ha]at e;cases e;have d':Data.seq vs.toArray _=Data.dict es ep:=d;cases d'
  have Oz:∀{b:Addr}{m:Str->Option Value},p_.heap.Ns b m->(l7 p_.heap H).Ns b m:=λ{b m} ⟨o,es,ep,e,d,r⟩=>⟨o,es,ep,K2 e (Nw e d),d,r⟩
  have Qj:K.In (l7 p_.heap H):=λb o e=>K2 (KX b o e) (by
   cases q:H b with
   |none=>rfl
   |some u=>
    have e':b=a:=hA b (by rw[q];simp)
    subst e';rw[hK (by rw[q];simp)]at e;cases e)
  have hM:Mod K mg (l7 p_.heap H):=⟨Qj,Oz NA,⟨mb,Oz hb,Q_⟩,let ⟨mc,h1,h2⟩:=Pa;⟨mc,Oz h1,h2⟩⟩
  have e0:Env0 P w K mg (l7 p_.heap H) callerA [] p_ H:=⟨rfl,hM,λb o e=>xr e,Nat.le_of_eq (rJ _ _),trivial,λb hb=>absurd (show b∈([]:List Addr) from hb) (by simp),h_,.of_eq hg⟩
  refine codeAny_mono ((F _ Qj (Oz NA)).run callerA [] p_ H ⟨[.ref a],[]⟩ [.ref a] [.ref a] _ _ hr e0 (NB p_ (.ref a)) (.cons rfl .nil) (Me H hO hS)) λr s' h=>?_
  cases r with
  |error e=>exact (Ra H e s' h).elim
  |ok fl=>
   cases fl with
   |next=>exact False.elim h
   |brk=>exact False.elim h
   |cont=>exact False.elim h
   |ret u=>
    obtain⟨v,H',os,bare,un,Pc,r',q⟩:=h;have q':v=.bl true:=q;subst q';obtain rfl:u=Value.bool true:=r';refine⟨rfl,OldK.of_keep λb o e=>?_,os,bare⟩
    cases q:H b with
    |none=>exact un.keep b o e q (by intro z;exact absurd (show b∈([]:List Addr) from z) (by simp)) (by simp)
    |some u=>
     rcases hO b with z|⟨ob,xs,z⟩
     ·rw[q]at z;cases z
     ·have z2:=un.JN b ob _ z;obtain⟨e1,_⟩:=h_ b _ z;obtain⟨e2,_⟩:=Pc b _ z2;rw[e]at e1;cases e1;exact e2
 cases hk:K.lookup a with
 |some o=>
  have e:=KX a o hk;rw[ha]at e;cases e;refine core (λ_=>none) (λ_=>.inl rfl) (.inr ⟨_,vs.toArray,_,hk,rfl,rfl,rfl,by rw[IF,Pb];exact hl,by simpa using rv⟩) (λb u z=>by have z':(none:Option HO)=some u:=z;cases z') (λb z=>absurd rfl z) λz=>absurd rfl z
 |none=>
  refine core (λb=>if b=a then some (.s_ {cls:=.type "list",data:=.seq vs.toArray} (.lst (ns.map V.int))) else none) (λb=>?_) (.inl (.inr ⟨{cls:=.type "list",data:=.seq vs.toArray},Iu rfl⟩)) (λb u z=>?_) (λb z=>?_) λ_=>hk
  ·by_cases hb:b=a
   ·exact .inr ⟨_,_,Iu hb⟩
   ·exact .inl (Im hb)
  ·by_cases hb:b=a
   ·have z':=(Iu hb).symm.trans z;cases z';subst hb;exact⟨ha,by rw[ID];exact hl,vs,_,rv,ha⟩
   ·have z':=(Im hb).symm.trans z;cases z'
  ·by_cases hb:b=a
   ·exact hb
   ·exact absurd (Im hb) z
noncomputable def ar(s:Stmt)(j:Nat):Stmt:=match s with
 |.ClassDef _ _ _ body _ _ _ _ _ _ _=>body.getD j (.Pass ⟨0,0,0,0⟩)
 |_=>.Pass ⟨0,0,0,0⟩
noncomputable def bU(s:Stmt):Arguments:=match s with
 |.FunctionDef _ a _ _ _ _ _ _ _ _=>a
 |_=>{posonlyargs:=[],args:=[],vararg:=none,kwonlyargs:=[],kw_defaults:=[],kwarg:=none,defaults:=[]}
noncomputable def bb(s:Stmt):List Stmt:=match s with
 |.FunctionDef _ _ b _ _ _ _ _ _ _=>b
 |_=>[]
noncomputable def aA(s:Stmt):Scope:=match s with
 |.FunctionDef _ _ _ _ _ _ sc _ _ _=>sc
 |_=>{kind:=.function,names:=[],isGenerator:=false,isCoroutine:=false}
structure Fun (K:JJ)(x qual:Str)(st:Stmt)(f:Addr)(fd:FuncData):Prop where
 ex:∃(oc:Value) (od:Option Addr) (kV doc pm:Value) (an:Option Addr) (JV ct:Value) (Kx:Array (Option Value)),
  fd=PySem.W.fnOf x qual (bU st) (bb st) (aA st) .none kV doc pm an JV ct/\K.lookup f=some ⟨oc,od,.func fd,Kx⟩/\PySem.W.codeIn K JV qual=true
 kp:PySem.W.keepIn K (.ref f)=true
section
variable {K:JJ}
theorem yH{x qual:Str}{st:Stmt}{f:Addr}{oc:Value}{od an:Option Addr}{Kx:Array (Option Value)}{kV doc pm JV ct:Value}(l:K.lookup f=some ⟨oc,od,.func (PySem.W.fnOf x qual (bU st) (bb st) (aA st) .none kV doc pm an JV ct),Kx⟩)
  (c:PySem.W.codeIn K JV qual=true) (k:PySem.W.keepIn K (.ref f)=true):Fun K x qual st f (PySem.W.fnOf x qual (bU st) (bb st) (aA st) .none kV doc pm an JV ct):=⟨⟨oc,od,kV,doc,pm,an,JV,ct,Kx,rfl,l,c⟩,k⟩
end
section
variable {X:Cx}
theorem pv(i:Nat)(hN:X.N[i]?=some x:=by rfl)(hv:Vis X.env.scope x:=by first|exact Or.inl rfl|exact Or.inr (Or.inl rfl)|exact Or.inr (Or.inr rfl))(hd:(x == ("__debug__" : Str))=false:=by decide)
  (Kd:(x == ("__classdict__" : Str))=false:=by decide):PE X (.Name x pos) (tO i):=jk hN hv hd Kd
end
section
variable {κ:Type} [DecidableEq κ]
end
def DA(h:Heap)(e:Addr)(d:Option Addr):Prop:=∃o,h.get? e=some o/\o.dict=d
theorem jD(f:Array Value->Array Value)(o:Obj):(Obj.mapFields f o).dict=o.dict:=by
 obtain⟨c,d,x,sl⟩:=o;cases x<;>rfl
section
variable {A:Around}{s:Shared}{base:Heap}{env:Env}
theorem qT{oe:Obj}{vs:Array Value}(KR:A.frames=some (env::outer))(hl:s.heap.FunFrames base (env::outer))(hf:env.frame=some L)(he:s.heap.get? e=some oe)(My:base.StaysIn s.heap)(Mz:base.get? e=none)
  (hd:oe.data=.fields vs) (hsz:1<vs.size) (h0:vs[0]?=some a0) (k:∀h',Heap.NotedW base (env::outer) e oe.cls a0 (rawInt L) s.heap h'->DA h' e oe.dict->Q () {s with heap:=h'}) :
  wpAny M A (do let fr<-frameOf env;let pl<-entryPlaceOf L hadNext;let t<-EntryCells.newEntry head fr .none (rawInt L) .none pl;setField (.ref e) 1 t) Q E s:=by
 have SU:e∉(env::outer).filterMap (·.frame):=λz=>by
  obtain⟨_,o,ho,nf⟩:=hl.mem z;cases he.symm.trans ho;exact nf vs hd
 refine Fr (wpAny_frameOf_fun KR hl hf λg1 NC=>Fr (wpAny_entryPlaceOf λpl JR=>?_))
 unfold EntryCells.newEntry newFields;refine Fr (Jd ?_ (JR.sizeOk5 _ _ _ _ _));generalize hT:({cls:=.type "traceback",dict:=none,data:=.fields ([head,.ref L,.none,rawInt L,.none]++(if pl.isEmpty then List.replicate 6 Value.none else pl)).toArray}:Obj)=oT
 have e1:g1.get? e=some oe:=(NC.2.1 e SU).trans he;have b1:base.StaysIn g1:=λb o q=>(NC.2.1 b λz=>by rw[(hl.mem z).1]at q;cases q).trans (My b o q)
 have e2:(g1.push oT).get? e=some oe:=Il oT e1;refine JG e2 hd hsz (k _ ?_ ?_)
 ·have ne:g1.objs.size≠e:=Nat.ne_of_gt (Ir e1);have d3:=JE hd (·.setIfInBounds 1 (Value.ref g1.objs.size));have e3:=Jb (Obj.mapFields (·.setIfInBounds 1 (Value.ref g1.objs.size))) e2 (Obj.isFreed_of_fields d3);have t3:(g1.push oT).get? g1.objs.size=some oT:=Iz g1 (by rw[<-hT];rfl)
  have t4:((g1.push oT).update e (Obj.mapFields (·.setIfInBounds 1 (Value.ref g1.objs.size)))).get? g1.objs.size=some oT:=(IQ _ _ (IB ne)).trans t3;have stay:∀b o,b≠e->g1.get? b=some o->((g1.push oT).update e (Obj.mapFields (·.setIfInBounds 1 (Value.ref g1.objs.size)))).get? b=some o:=λb o n q=>
   (IQ _ _ (IB n)).trans (Il oT q)
  have Mo:∀b o,s.heap.get? b=some o->(∀ws,o.data≠.fields ws)->b≠e:=λb o q nf z=>by
   subst z;cases he.symm.trans q;exact nf vs hd
  refine⟨λb o q=>stay b o (λz=>by rw[z,Mz]at q;cases q) (b1 b o q),hl.of_keeps λb o q nf=>?_,⟨_,_,g1.objs.size,oT,_,e3,⟨Obj.cls_mapFields _ _,?_⟩,d3,by simp[hsz],b1.fresh,ne,t4,by rw[<-hT],?_⟩,λb o q nf=>?_⟩
  ·obtain⟨sl,z⟩:=NC.2.2 b o q;exact⟨_,stay b _ (Mo b o q nf) z,rfl⟩
  ·rw[Array.getElem?_setIfInBounds_ne (by decide)];exact h0
  ·first|(simp;done)|(rcases JR with rfl|⟨_,_,_,_,_,_,_,rfl⟩<;>simp)
  ·obtain⟨sl,z⟩:=NC.2.2 b o q;exact⟨sl,stay b _ (Mo b o q nf) z⟩
 ·have d3:=JE hd (·.setIfInBounds 1 (Value.ref g1.objs.size));exact⟨_,Jb (Obj.mapFields (·.setIfInBounds 1 (Value.ref g1.objs.size))) e2 (Obj.isFreed_of_fields d3),jD _ _⟩
theorem jc(My:base.StaysIn s.heap)(hl:s.heap.FunFrames base l)(ht:s.heap.TracedAtW base e cls a0 fl)(hd:DA s.heap e d)
  (k:∀h',base.StaysIn h'->h'.FunFrames base l->h'.TracedW base e cls a0->s.heap.UpToSlots h'->DA h' e d->Q () {s with heap:=h'}):wpAny M A (setFlight (.ref e) none) Q E s:=by
 obtain⟨oe,vs,T,oT,ts,he,hc,hv,h1,nT,ne,hT,dT,h3⟩:=ht;obtain⟨Rb,MA,hd⟩:=hd;cases he.symm.trans MA;have sz:3<ts.size:=(Jr.mp h3).1;unfold setFlight;refine Fr (Jk he hv h1 ?_);rw[Iu (by simp:(Value.ref T != Value.none)=true)]
 have Kv:∀b,b≠T->(s.heap.update T (Obj.mapFields (·.setIfInBounds 3 ((none:Option Addr).elim Value.none λf=>rawInt f)))).get? b=s.heap.get? b:=λb n=>IQ _ _ (IB n)
 have plain:∀b o,s.heap.get? b=some o->(∀ws,o.data≠.fields ws)->b≠T:=λb o q nf z=>by
  subst z;cases hT.symm.trans q;exact nf ts dT
 have ee:=(Kv e (IB ne)).trans he;refine JG hT dT sz (k _ (λb o q=>(Kv b λz=>by rw[z,nT]at q;cases q).trans (My b o q)) (hl.of_keeps λb o q nf=>⟨o,(Kv b (plain b o q nf)).trans q,rfl⟩) ⟨oe,vs,T,_,_,ee,hc,hv,h1,nT,ne,Jb _ hT (Obj.isFreed_of_fields (JE dT _)),JE dT _,by simp[sz]⟩
  (λb o q nf=>⟨o.slots,(Kv b (plain b o q nf)).trans q⟩) ⟨oe,ee,hd⟩)
theorem va(KR:A.frames=some (env::outer))(hf:env.frame=some L)(fl:Heap.FlyingW base (env::outer) e cls a0 s.heap)(hd:DA s.heap e d)
  (k:∀h',Heap.HeldW base (env::outer) e cls a0 L h'->s.heap.UpToSlots h'->DA h' e d->Q () {s with heap:=h'}):wpAny M A (noteFrame (.ref e) env) Q E s:=by
 obtain⟨My,Mz,hl,oe,vs,T,oT,ts,he,⟨rfl,h0⟩,hv,h1,nT,ne,hT,dT,h3⟩:=fl;obtain⟨Rb,MA,rfl⟩:=hd;cases he.symm.trans MA;unfold noteFrame;simp only[hf];refine Fr (Jk he hv h1 ?_);rw[Iu (by simp:(Value.ref T != Value.none)=true)]
 refine Fr (Jk hT dT h3 ?_);rw[Im (by simp[rawInt]:¬ ((Value.none == rawInt L)=true))]
 refine Fr (JG hT dT (Jr.mp h3).1 ?_);have Kv:∀b,b≠T->(s.heap.update T (Obj.mapFields (·.setIfInBounds 3 Value.none))).get? b=s.heap.get? b:=λb n=>IQ _ _ (IB n)
 have plain:∀b o,s.heap.get? b=some o->(∀ws,o.data≠.fields ws)->b≠T:=λb o q nf z=>by
  subst z;cases hT.symm.trans q;exact nf ts dT
 exact qT KR (hl.of_keeps λb o q nf=>⟨o,(Kv b (plain b o q nf)).trans q,rfl⟩) hf ((Kv e (IB ne)).trans he) (λb o q=>(Kv b λz=>by rw[z,nT]at q;cases q).trans (My b o q)) Mz hv (Jr.mp h1).1 h0
  λh' ⟨x1,x2,x3,x4⟩ dd=>k h' ⟨x1,Mz,x2,x3⟩ (λb o q nf=>x4 b o ((Kv b (plain b o q nf)).trans q) nf) dd
theorem qQ(hh:Heap.HeldW base l e cls a0 L s.heap)(hd:DA s.heap e d)(k:∀h',Heap.FlyingW base l e cls a0 h'->s.heap.UpToSlots h'->DA h' e d->Q () {s with heap:=h'}):wpAny M A (setFlight (.ref e) none) Q E s:=
 jc hh.1 hh.2.2.1 hh.2.2.2 hd λh' k1 k2 k3 k4 k5=>k h' ⟨k1,hh.2.1,k2,k3⟩ k4 k5
theorem qx(fl:Heap.FlyingW base l e cls a0 s.heap)(hd:DA s.heap e d)(k:∀h',Heap.FlyingW base l e cls a0 h'->s.heap.UpToSlots h'->DA h' e d->Q () {s with heap:=h'}):wpAny M A (setFlight (.ref e) none) Q E s:=
 jc fl.1 fl.2.2.1 fl.2.2.2.at hd λh' k1 k2 k3 k4 k5=>k h' ⟨k1,fl.2.1,k2,k3⟩ k4 k5
theorem d8{h:Heap}(x:h.FunFrames base (env::outer)):h.FunFrames base outer:=x.2.2
theorem tJ(KR:A.frames=some (env::outer))(hf:env.frame=some L)(fl:Heap.FlyingW base (env::outer) e cls a0 s.heap)(hd:DA s.heap e d)
  (k:∀h',Heap.FlyingW base outer e cls a0 h'->s.heap.UpToSlots h'->DA h' e d->Q () {s with heap:=h'}):wpAny M A (leaving env (.ref e)) Q E s:=by
 unfold leaving;refine Fr (va KR hf fl hd λh1 x1 u1 d1=>qQ x1 d1 λh2 x2 u2 d2=>k h2 ⟨x2.1,x2.2.1,d8 x2.2.2.1,x2.2.2.2⟩ (u1.trans u2) d2)
theorem xW{oe:Obj}(KR:A.frames=some (env::outer))(hf:env.frame=some L)(My:base.StaysIn s.heap)(hl:s.heap.FunFrames base (env::outer))(he:s.heap.get? e=some oe)(Mz:base.get? e=none)(hv:oe.data=.fields vs)(h0:vs[0]?=some a0)(h1:vs[1]?=some .none)
  (k:∀h',Heap.FlyingW base outer e oe.cls a0 h'->s.heap.UpToSlots h'->DA h' e oe.dict->Q () {s with heap:=h'}):wpAny M A (leaving env (.ref e)) Q E s:=by
 unfold leaving noteFrame;simp only[hf];refine Fr (Fr (Jk he hv h1 ?_));rw[Im (by decide)]
 refine qT KR hl hf he My Mz hv (Jr.mp h1).1 h0 λh1 x1 d1=>?_
 exact jc x1.1 x1.2.1 x1.2.2.1 d1 λh2 k1 k2 k3 k4 k5=>k h2 ⟨k1,Mz,d8 k2,k3⟩ (Heap.UpToSlots.trans x1.2.2.2 k4) k5
end
section
variable {h h':Heap}{o:HO}
theorem ObjOk.isAt(x:ObjOk P w H h a o):∃ob,h.get? a=some ob:=by
 cases o with
 |lst xs=>obtain⟨_,_,_,_,e⟩:=x;exact⟨_,e⟩
 |tup xs=>obtain⟨_,_,_,ob,e,_⟩:=x;exact⟨_,e⟩
 |set S n=>obtain⟨ob,_,_,_,e,_⟩:=x;exact⟨_,e⟩
 |ins C dx fs=>obtain⟨_,_,_,e,_⟩:=x;exact⟨_,e⟩
 |own y=>exact x
 |xd fs=>obtain⟨_,⟨ob,_,_,e,_⟩,_⟩:=x;exact⟨_,e⟩
 |rng lo hi=>obtain⟨_,_,_,e⟩:=x;exact⟨_,e⟩
 |s_ ob u=>exact⟨_,x.1⟩
 |LL ps=>exact⟨_,x⟩
 |met f y=>exact⟨_,x⟩
 |ext φ=>exact x.2.1
 |_=>obtain⟨_,_,_,_,ob,_,_,e,_⟩:=x;exact⟨_,e⟩
theorem HOk.keptT(x:HOk P w H h)(k:∀b u ob,H b=some u->h.get? b=some ob->h'.get? b=some ob):HOk P w H h':=λa o e=>
 (x a o e).stay (λb u hb q=>hb.elim (λz=>by subst z;exact k _ _ _ e q) (λz=>k _ _ _ z q)) (λ_ q=>q) λ_ _ q=>q
end
def Fly(B:Heap)(l:List Env)(a:Addr)(cls:Value)(h:Heap):Prop:=∃a0,Heap.FlyingW B l a cls a0 h
def Within(B:Heap)(l:List Env)(hs:Heap)(H':Hp)(h':Heap):Prop:=
 ∀b ob,h'.get? b=some ob->(H' b≠none\/((∃o',hs.get? b=some o')/\b∉frs l))->B.get? b=some ob
noncomputable def CX1(P:Program)(w:World):CXT:=λouter H s E e s'=>
 ∃(a:Addr) (cls:Value) (B:Heap) (H':Hp) (dx:Option Addr),e=.ref a/\s'.os=s.os/\AllBare s'.gens/\Un (frs outer) [] H H' s.heap s'.heap/\HOk P w H' s'.heap/\
  (Fly B outer a cls s'.heap/\DA s'.heap a dx)/\H' a=none/\Within B outer s.heap H' s'.heap/\E cls dx H'
theorem Inv.notrk{s:Shared}(I:Inv X a_ σ H s)(hn:s.heap.get? e=none):H e=none:=by
 cases q:H e with
 |none=>rfl
 |some u=>
  obtain⟨ob,z⟩:=(I.h_ e u q).isAt;rw[hn]at z;cases z
theorem Inv.oldNe{X:Cx}(I:Inv X a_ σ H s)(q:X.s₀.heap.get? b=some o)(hb:b∉X.fs):b∉frs X.stack:=λhm=>by
 rcases Iv.mp (I.stkSub b hm) with z|z
 ·have:=Iw (Ir q) I.ok.above;rw[z]at this;exact absurd this (Js _)
 ·exact hb z
section
variable {K:JJ}{s:Shared}
theorem kJ{s1:Shared}{oe:Obj}{h':Heap}
  (I:Inv (cu (CX1 P w) P w K mg base N qual scope f cd A outer s H E) a_ σ H1 s1) (hk:∀b o,s1.heap.get? b=some o->b≠e->h'.get? b=some o) (Rc:∀o,s1.heap.get? e=some o->∃vs,o.data=.fields vs) (Qk:H1 e=none) (LC:s.heap.get? e=none)
  (OA:h'.get? e=some oe) (hv:oe.data=.fields vs) (Rf:vs[0]?=some a0) (Rg:vs[1]?=some .none) (he:E oe.cls oe.dict H1) :
  (cu (CX1 P w) P w K mg base N qual scope f cd A outer s H E).xe (.ref e) {s1 with heap:=h'}:=by
 have KR:((cu (CX1 P w) P w K mg base N qual scope f cd A outer s H E).A).frames=some (envOfC qual scope s.heap.objs.size f cd::outer):=I.ok.frames;have hl:s1.heap.FunFrames base (envOfC qual scope s.heap.objs.size f cd::outer):=I.stack;have Lg:∀env∈(envOfC qual scope s.heap.objs.size f cd::outer),∀b,env.frame=some b->b∈e::frs (envOfC qual scope s.heap.objs.size f cd::outer):=λenv he b hb=>Io _ (List.mem_filterMap.mpr ⟨env,he,hb⟩)
 have hB:∀b o,(PySem.W.hideAll s1.heap (e::frs (envOfC qual scope s.heap.objs.size f cd::outer))).get? b=some o->s1.heap.get? b=some o/\b≠e:=λb o q=>⟨PySem.W.of_hideAll _ q,λz=>by
  subst z;rw[PySem.W.hideAll_none _ Ix]at q;cases q⟩
 have Rh:s1.heap.FunFrames (PySem.W.hideAll s1.heap (e::frs (envOfC qual scope s.heap.objs.size f cd::outer))) (envOfC qual scope s.heap.objs.size f cd::outer):=PySem.W.funFrames_hide hl Lg;show wpAny _ _ (leaving _ _) _ _ _;refine xW (base:=PySem.W.hideAll s1.heap (e::frs (envOfC qual scope s.heap.objs.size f cd::outer))) KR rfl (λb o q=>hk b o (hB b o q).1 (hB b o q).2) (Rh.of_keeps λb o q nf=>⟨o,hk b o q (λz=>by
  subst z;obtain⟨ws,dw⟩:=Rc o q;exact nf ws dw),rfl⟩) OA (PySem.W.hideAll_none _ Ix) hv Rf Rg λh2 fl up dd=>?_
 have tB:∀b u ob,H1 b=some u->s1.heap.get? b=some ob->(PySem.W.hideAll s1.heap (e::frs (envOfC qual scope s.heap.objs.size f cd::outer))).get? b=some ob:=λb u ob hb q=>
  PySem.W.hideAll_get _ q λhm=>by
   rcases Iv.mp hm with z|hm
   ·rw[z,Qk]at hb;cases hb
   ·have z:=I.stkFree b hm;rw[hb]at z;cases z
 have one:∀b o,s.heap.get? b=some o->b≠e:=λb o q z=>by rw[z,LC]at q;cases q
 have oB:∀b o ob,s.heap.get? b=some o->b∉frs outer->s1.heap.get? b=some ob->(PySem.W.hideAll s1.heap (e::frs (envOfC qual scope s.heap.objs.size f cd::outer))).get? b=some ob:=λb o ob q hb q1=>
  PySem.W.hideAll_get _ q1 λhm=>(Iv.mp hm).elim (one b o q) (I.oldNe q hb)
 have st:=fl.1;have slot:∀b o,s.heap.get? b=some o->H b=none->b∈frs outer->∃sl,h2.get? b=some {o with slots:=sl}:=λb o q n hb=>by
  obtain⟨sl,e1⟩:=I.base.slot b o q n hb (λz=>nomatch z)
  obtain⟨_,o2,e2,nf⟩:=I.ok.funs.mem hb;have e3:o2=o:=IK (e2.symm.trans q);subst e3;obtain⟨Ky,e4⟩:=up b _ (hk _ _ e1 (one b _ q)) nf;exact⟨Ky,e4⟩
 refine⟨e,oe.cls,_,H1,oe.dict,rfl,I.os,I.bare,⟨λb o q n hb _=>?_,λb o q n hb _=>slot b o q n hb,λb o q n _=>I.base.free b o q n (λz=>nomatch z),λb o q _=>?_,I.base.JS,I.base.JN,I.base.JU⟩,?_,⟨⟨_,fl⟩,dd⟩,Qk,λb ob q hb=>?_,he⟩
 ·exact st b o (oB b o o q hb (I.base.keep b o q n hb (λz=>nomatch z)))
 ·by_cases hb:b∈frs outer
  ·obtain⟨sl,z⟩:=slot b o q (I.ok.frf b hb) hb;exact⟨_,z⟩
  ·obtain⟨o',e1⟩:=I.base.there b o q (λz=>nomatch z)
   exact⟨o',st b o' (oB b o o' q hb e1)⟩
 ·exact I.h_.keptT λb u ob hb q=>st b ob (tB b u ob hb q)
 ·rcases hb with hb|⟨⟨o',Kl⟩,hb⟩
  ·cases z:H1 b with
   |none=>exact absurd z hb
   |some u=>
    obtain⟨o1,e1⟩:=(I.h_ b u z).isAt;have e2:=tB b u o1 z e1;have e3:o1=ob:=IK ((st b o1 e2).symm.trans q);rw[<-e3];exact e2
  ·obtain⟨o1,e1⟩:=I.base.there b o' Kl (λz=>nomatch z)
   have e2:=oB b o' o1 Kl hb e1;have e3:o1=ob:=IK ((st b o1 e2).symm.trans q);rw[<-e3];exact e2
theorem sk{s1:Shared}
  (I:Inv (cu (CX1 P w) P w K mg base N qual scope f cd A outer s H E) a_ σ H1 s1) (hx:Heap.MadeExcOf s1.heap h' e cls args)(he:E cls none H1) :
  (cu (CX1 P w) P w K mg base N qual scope f cd A outer s H E).xe (.ref e) {s1 with heap:=h'}:=by
 obtain⟨t,e1,_,_⟩:=hx.there;refine kJ I (λb o q _=>hx.keeps b o q) (λo q=>by rw[hx.new]at q;cases q) (I.notrk hx.new) ?_ e1 rfl rfl rfl he
 cases q:s.heap.get? e with
 |none=>rfl
 |some o=>
  obtain⟨o1,z⟩:=I.base.there e o q (λz=>nomatch z)
  rw[hx.new]at z;cases z
theorem tG(hE:∀c d H',E' c d H'->E c d H')
  (I:Inv (cu (CX1 P w) P w K mg base N qual scope f cd A outer s H E) a_ σ H1 s1) (hc:CX1 P w (envOfC qual scope s.heap.objs.size f cd::outer) H1 s1 E' e s') :
  (cu (CX1 P w) P w K mg base N qual scope f cd A outer s H E).xe e s':=by
 obtain⟨a,cls,B,H2,dx,rfl,os,bare,un,h_,⟨⟨a0,fl⟩,dd⟩,ha,KO,he⟩:=hc;have KR:((cu (CX1 P w) P w K mg base N qual scope f cd A outer s H E).A).frames=some (envOfC qual scope s.heap.objs.size f cd::outer):=I.ok.frames;show wpAny _ _ (leaving _ _) _ _ _;refine tJ KR rfl fl dd λh2 Ql up LB=>?_
 have st:=Ql.1;have nil:∀b:Addr,b∉([]:List Addr):=λb z=>nomatch z
 have slot:∀b o,s.heap.get? b=some o->H b=none->b∈frs outer->∃sl,h2.get? b=some {o with slots:=sl}:=λb o q n hb=>by
  obtain⟨sl,e1⟩:=I.base.slot b o q n hb (nil b);obtain⟨NC,e2⟩:=un.any e1 (I.base.free b o q n (nil b)) (nil b);obtain⟨_,o2,e3,nf⟩:=I.ok.funs.mem hb;have e4:o2=o:=IK (e3.symm.trans q);subst e4;obtain⟨Ky,e5⟩:=up b _ e2 nf;exact⟨Ky,e5⟩
 have Kf:∀b o,s.heap.get? b=some o->b∉frs outer->∃ob,s'.heap.get? b=some ob/\B.get? b=some ob:=λb o q hb=>by
  obtain⟨o1,e1⟩:=I.base.there b o q (nil b);obtain⟨o2,e2⟩:=un.there b o1 e1 (nil b);exact⟨o2,e2,KO b o2 e2 (.inr ⟨⟨o1,e1⟩,I.oldNe q hb⟩)⟩
 refine⟨a,cls,B,H2,dx,rfl,os.trans I.os,bare,⟨λb o q n hb _=>?_,λb o q n hb _=>slot b o q n hb,λb o q n _=>?_,λb o q _=>?_,λb xs q=>un.JS b xs (I.base.JS b xs q),λb o u q=>un.JN b o u (I.base.JN b o u q),λb ps q=>?_⟩,?_,⟨⟨a0,Ql⟩,LB⟩,ha,λb ob q hb=>?_,hE _ _ _ he⟩
 ·have e1:=I.base.keep b o q n hb (nil b);have e2:=un.keep b o e1 (I.base.free b o q n (nil b)) (I.oldNe q hb) (nil b);exact st b o (KO b o e2 (.inr ⟨⟨o,e1⟩,I.oldNe q hb⟩))
 ·obtain⟨o1,e1⟩:=I.base.there b o q (nil b);exact un.free b o1 e1 (I.base.free b o q n (nil b)) (nil b)
 ·by_cases hb:b∈frs outer
  ·obtain⟨sl,z⟩:=slot b o q (I.ok.frf b hb) hb;exact⟨_,z⟩
  ·obtain⟨ob,_,e2⟩:=Kf b o q hb;exact⟨ob,st b ob e2⟩
 ·obtain⟨m1,e1⟩:=I.base.JU b ps q;obtain⟨m2,e2⟩:=un.JU b _ e1;exact⟨m1++m2,by rw[e2,Array.append_assoc]⟩
 ·exact h_.keptT λb u ob hb q=>st b ob (KO b ob q (.inl (by rw[hb];exact λz=>nomatch z)))
 ·rcases hb with hb|⟨⟨o',Kl⟩,hb⟩
  ·cases z:H2 b with
   |none=>exact absurd z hb
   |some u=>
    obtain⟨o1,e1⟩:=(h_ b u z).isAt;have e2:=KO b o1 e1 (.inl hb);have e3:o1=ob:=IK ((st b o1 e2).symm.trans q);rw[<-e3];exact e2
  ·obtain⟨o1,e1,e2⟩:=Kf b o' Kl hb;have e3:o1=ob:=IK ((st b o1 e2).symm.trans q);rw[<-e3];exact e2
theorem Cm:zy (CX1 P w) (cu (CX1 P w) P w K mg base N qual scope f cd A outer s H E) E:=λ_ _ _ _ _ _ I h=>tG (λ_ _ _ z=>z) I h
theorem Gx:PassesOwn (model P w) (cu (CX1 P w) P w K mg base N qual scope f cd A outer s H E).A (cu (CX1 P w) P w K mg base N qual scope f cd A outer s H E).env (cu (CX1 P w) P w K mg base N qual scope f cd A outer s H E).xe:=
 PassesOwn.leaving
end
def lV(X:Cx)(E:XK):Prop:=∀(a_:List (Addr×Obj)) (σ:St)(H:Hp)(s:Shared)(e:Addr)(cls:Value)(args:List Value)(h':Heap),Inv X a_ σ H s->Heap.MadeExcOf s.heap h' e cls args->E cls none H->X.xe (.ref e) {s with heap:=h'}
def qA(X:Cx)(E:XK):Prop:=∀(a_:List (Addr×Obj)) (σ:St)(H:Hp)(s:Shared)(e:Addr)(oe:Obj)(vs:Array Value)(a0:Value),Inv X a_ σ H s->H e=none->X.s₀.heap.get? e=none->s.heap.get? e=some oe->oe.data=.fields vs->vs[0]?=some a0->vs[1]?=some .none->E oe.cls oe.dict H->X.xe (.ref e) s
theorem uv{K:JJ} :
  qA (cu (CX1 P w) P w K mg base N qual scope f cd A outer s H E) E:=λ_ _ _ s1 e oe vs a0 I ht h0 OA hv v0 v1 he=>kJ (h':=s1.heap) I (λ_ _ q _=>q) (λo q=>by
 cases OA.symm.trans q;exact⟨vs,hv⟩) ht h0 OA hv v0 v1 he
theorem xX{K:JJ} :
  lV (cu (CX1 P w) P w K mg base N qual scope f cd A outer s H E) E:=λ_ _ _ _ _ _ _ _ I hx he=>sk I hx he
abbrev bmV:List Value:=[.type "ValueError",.type "Exception",.type "BaseException",.type "object"]
def xf(K:JJ)(C:Addr):Prop:=PySem.W.excIn K C bmV "ValueError.__new__"=true
noncomputable def zU(E:XK)(C:Addr)(t:TA):TS:=λ_ σ H=>t σ H λvs H1=>vs.length<=sizeLine/\E (.ref C) none H1
theorem wf{K:JJ}{h:Heap}(X:K.In h)(z:PySem.W.excIn K C bmB nid=true) :
  ∃bm M nm qn bs b1 sn sb b2 co dd x0 x1 x2 x3 x5 mN,h.get? C=some (excClassObj nm qn C M bs bm b1 sn sb b2 co dd x0 x1 x2 x3 x5 nid)/\h.Ns M mN/\mN "__init__"=none/\OwnTail h bmB bm:=by
 unfold PySem.W.excIn at z;split at z
 next dd cd sl ho=>
  split at z
  next C' bm x0 x1 x2 x3 n x5 hm hs=>
   rw[Ij,Ij,Ij,Ij,Ij,IH,IH,IH]at z;have z1:=z.1.1.1.1.1;have z2:=z.1.1.1.1.2;have z3:=z.1.1.1.2;have z4:=z.1.1.2;have z5:=z.1.2;have z6:=z.2;subst z1;subst z2;cases cd with
   |mk nm bs mro ns qn hd sn sub ab col del=>
    cases hm;cases del with
    |true=>cases z3
    |false=>
     have es:sl=#[x0,x1,x2,x3,some (.builtin n),x5]:=by
      cases sl with
      |mk l=>cases hs;rfl
     subst es;exact⟨bm,ns,nm,qn,bs,hd,sn,sub,ab,col,dd,x0,x1,x2,x3,x5,_,X _ _ ho,.of_isNs (PySem.W.isNs_of_in X z5),PySem.W.nsMap_none_of_in X z5 z6,PySem.W.tail_of_in X z4⟩
  next=>cases z
 next=>cases z
section
variable {X:Cx}
theorem tz(hx:lV X E)(hc:X.calm=true)(hg:Gl X x)(hm:X.mg x=some (.ref C))(q:xf X.K C)(ha:PA X (e::es) t)(I_:(x == ("__debug__" : Str))=false:=by decide)
  (he:starEach (e::es) X.env=(false,eval e X.env)::starEach es X.env:=by rfl) (JR:(backTo n_ (starEach es X.env)).any (·.1)=false:=by rfl) :
  PS X (.Raise (some (.Call (.Name x np) (e::es) [] n_)) none pos) (zU E C t):=by
 intro a_ s σ H D I h;obtain⟨bm,M,nm,qn,bs,b1,sn,sb,b2,co,dd,x0,x1,x2,x3,x5,mN,hC,hN,Ri,T⟩:=wf I.ok.mod.kin q;refine wpAny_Raise_call_subT (C:=C) (nm:=nm) (q:=qn) (N:=M) (bs:=bs) (bm:=bm) (hdct:=b1) (sn:=sn) (sub:=sb) (ab:=b2) (col:=co) (dd:=dd) (k0:=x0) (k1:=x1) (k2:=x2) (k3:=x3) (k5:=x5)
  PySem.F.excBase_ValueError (mN:=mN) (T.hasType PySem.F.excBase_ValueError.hasBase) (I.ok.hd hc) ?pl Ri (bV I hg hm ⟨rfl,?_⟩ I_)
 case pl=>
  rw[he];show (false||(backTo n_ (starEach es X.env)).any (·.1))=false
  rw[JR];rfl
 have h2:=ha n_ a_ s σ H _ I h;rw[he]at h2 ⊢;refine Calls.evalArgs_plain (thn h2 λus s2 z_=>?_)
 obtain⟨vs,H2,I2,r,z,q2⟩:=z_;exact⟨rfl,by rw[<-r.length];exact z,I2.bk _ _ hC,hN.keeps I2.bk,T.keeps I2.bk,λh' a KS=>hx a_ σ H2 s2 a _ us h' I2 KS q2⟩
end
def aS(CX:CXT)(X:Cx)(E:St->XK):Prop:=∀(a_:List (Addr×Obj)) (σ:St)(H:Hp)(s:Shared)(e:Value)(s':Shared),Inv X a_ σ H s->CX X.stack H s (E σ) e s'->X.xe e s'
section
variable {X:Cx}{p:Pos}{o:Expr}
end
section
variable {X:Cx}{σ:St}{s1 s':Shared}{B:Heap}
theorem Inv.behind(I:Inv X a_ σ H1 s1)(hex:X.ex=[])(os:s'.os=s1.os)(bare:AllBare s'.gens)(un:Un (frs X.stack) [] H1 H2 s1.heap s'.heap)(h_:HOk X.prog X.w H2 s'.heap)
  (KO:Within B X.stack s1.heap H2 s'.heap)(st:B.StaysIn h4)(up:s'.heap.UpToSlots h4):Inv X a_ σ H2 {s' with heap:=h4}:=by
 have nil:∀b:Addr,b∉([]:List Addr):=λb z=>nomatch z
 have ex:∀b:Addr,b∉X.ex:=λb=>by rw[hex];exact nil b
 have K3:∀b o,s1.heap.get? b=some o->H1 b=none->(∀vs,o.data≠.fields vs)->∃sl,h4.get? b=some {o with slots:=sl}:=λb o q n nf=>by
  obtain⟨sl,e1⟩:=un.any q n (nil b);obtain⟨Ky,e2⟩:=up b _ e1 nf;exact⟨Ky,e2⟩
 have KJ:∀x c,X.env.cells.lookup x=some c->∀v,s1.heap.IsCell c v->h4.IsCell c v:=λx c e v ⟨o,ho,hd⟩=>by
  obtain⟨sl,z⟩:=K3 c o ho (I.freeC x c e) λvs q=>by rw[hd]at q;cases q
  exact⟨_,z,hd⟩
 refine⟨I.ok,os.trans I.os,bare,⟨λb o q n hb _=>?_,λb o q n hb _=>?_,λb o q n _=>?_,λb o q _=>?_,λb xs q=>un.JS b xs (I.base.JS b xs q),λb o u q=>un.JN b o u (I.base.JN b o u q),λb ps q=>?_⟩,?_,λx c e=>?_,?_,λx c e=>?_,λp hp=>?_,?_,I.len⟩
 ·have e1:=I.base.keep b o q n hb (ex b);have e2:=un.keep b o e1 (I.base.free b o q n (ex b)) (I.oldNe q hb) (nil b);exact st b o (KO b o e2 (.inr ⟨⟨o,e1⟩,I.oldNe q hb⟩))
 ·obtain⟨sl,e1⟩:=I.base.slot b o q n hb (ex b);obtain⟨_,o2,e3,nf⟩:=I.ok.funs.mem hb;have e4:o2=o:=IK (e3.symm.trans q);subst e4;obtain⟨Ky,e5⟩:=K3 b _ e1 (I.base.free b _ q n (ex b)) nf;exact⟨Ky,e5⟩
 ·obtain⟨o1,e1⟩:=I.base.there b o q (ex b);exact un.free b o1 e1 (I.base.free b o q n (ex b)) (nil b)
 ·obtain⟨o1,e1⟩:=I.base.there b o q (ex b);by_cases hb:b∈X.fs
  ·obtain⟨_,o2,e3,nf⟩:=I.ok.funs.mem hb;obtain⟨sl,e4⟩:=I.base.slot b o2 e3 (I.ok.frf b hb) hb (ex b);obtain⟨Ky,e5⟩:=K3 b _ e4 (I.base.free b _ e3 (I.ok.frf b hb) (ex b)) nf;exact⟨_,e5⟩
  ·obtain⟨o2,e2⟩:=un.there b o1 e1 (nil b);exact⟨o2,st b o2 (KO b o2 e2 (.inr ⟨⟨o1,e1⟩,I.oldNe q hb⟩))⟩
 ·obtain⟨m1,e1⟩:=I.base.JU b ps q;obtain⟨m2,e2⟩:=un.JU b _ e1;exact⟨m1++m2,by rw[e2,Array.append_assoc]⟩
 ·obtain⟨m,⟨o,es,ep,ho,hd,r⟩,hl⟩:=I.loc;obtain⟨sl,z⟩:=K3 _ o ho I.free λvs q=>by rw[hd]at q;cases q
  refine⟨m,⟨_,es,ep,z,hd,r⟩,λi x v e1 e2 e3=>?_⟩
  obtain⟨u,r',l⟩:=hl i x v e1 e2 e3;refine⟨u,r',l.elim .inl λ⟨k,c,e,z⟩=>.inr ⟨k,c,e,KJ x c e _ z⟩⟩
 ·obtain⟨v,z⟩:=I.cell x c e;exact⟨v,KJ x c e v z⟩
 ·obtain⟨m,⟨o,_,_,ho,_⟩,_⟩:=I.loc;exact un.free _ o ho I.free (nil _)
 ·obtain⟨v,o,ho,_⟩:=I.cell x c e;exact un.free c o ho (I.freeC x c e) (nil _)
 ·obtain⟨e,n,ne,nf,d⟩:=I.pin p hp;have nb:p.1∉frs X.stack:=λhm=>(Iv.mp (I.stkSub _ hm)).elim ne nf
  have e2:=un.keep p.1 p.2 e n nb (nil _);exact⟨st _ _ (KO _ _ e2 (.inr ⟨⟨_,e⟩,nb⟩)),un.free p.1 p.2 e n (nil _),ne,nf,d⟩
 ·exact h_.keptT λb u ob hb q=>st b ob (KO b ob q (.inl (by rw[hb];exact λz=>nomatch z)))
theorem wH(fl:Fly B X.stack a cls s'.heap)(KO:Within B X.stack s1.heap H2 s'.heap):s1.heap.get? a=none:=by
 obtain⟨a0,f1,f2,f3,oe,vs,T,oT,ts,he,hc,hd,_⟩:=fl;cases q:s1.heap.get? a with
 |none=>rfl
 |some o=>
  have z:=KO a oe he (.inr ⟨⟨o,q⟩,λhm=>by
   obtain⟨_,o2,e2,nf⟩:=f3.mem hm;rw[he]at e2;cases e2;exact nf vs hd⟩)
  rw[f2]at z;cases z
end
noncomputable def w5(a:Addr)(cls:Value)(dx:Option Addr):HO:=.ext λh=>∃o vs,h.get? a=some o/\o.cls=cls/\o.data=.fields vs/\o.dict=dx
section
variable {X:Cx}{σ:St}{s:Shared}
theorem Inv.trackExc{o:Obj}(I:Inv X a_ σ H s)(hn:H a=none)(ho:s.heap.get? a=some o)(hc:o.cls=cls)(hd:o.data=.fields vs)(Rj:o.dict=dx)(h0:X.s₀.heap.get? a=none)(hp:∀p∈X.pn++a_,p.1≠a) :
  Inv X a_ σ (upd H a (w5 a cls dx)) s:=by
 have ne:∀b u,H b=some u->b≠a:=λb u q=>ay q hn
 have nL:X.env.locals≠a:=λz=>by
  obtain⟨m,⟨o',_,_,Kl,LN,_⟩,_⟩:=I.loc;rw[z,ho]at Kl;cases Kl;rw[hd]at LN;cases LN
 have nC:∀x c,X.env.cells.lookup x=some c->c≠a:=λx c e z=>by
  obtain⟨v,o',Kl,LN⟩:=I.cell x c e;rw[z,ho]at Kl;cases Kl;rw[hd]at LN;cases LN
 refine⟨I.ok,I.os,I.bare,⟨I.base.keep,I.base.slot,λb o' q n hx=>?_,I.base.there,λb xs q=>?_,λb o' u q=>?_,λb ps q=>?_⟩,I.loc,I.cell,?_,λx c e=>?_,λp LR=>?_,λb u q=>?_,I.len⟩
 ·rw[ae λz=>by rw[z,h0]at q;cases q]
  exact I.base.free b o' q n hx
 ·have z:=I.base.JS b xs q;rw[ae (ne _ _ z)];exact z
 ·have z:=I.base.JN b o' u q;rw[ae (ne _ _ z)];exact z
 ·obtain⟨m,z⟩:=I.base.JU b ps q;exact⟨m,by rw[ae (ne _ _ z)];exact z⟩
 ·rw[ae nL];exact I.free
 ·rw[ae (nC x c e)];exact I.freeC x c e
 ·obtain⟨e,n,r⟩:=I.pin p LR;exact⟨e,by rw[ae (hp p LR)];exact n,r⟩
 ·by_cases hb:b=a
  ·subst hb;rw[ag]at q;cases q;exact⟨⟨o,vs,ho,hc,hd,Rj⟩,⟨o,ho⟩,λh1 h2 ⟨o1,Rk,e1,e2,e3⟩ k=>⟨o1,Rk,k _ e1,e2,e3⟩⟩
  ·rw[ae hb]at q;exact (I.h_ b u q).stay (λ_ _ _ z=>z) (λc z=>by rw[ae (ne _ _ z)];exact z) λc xs z=>by rw[ae (ne _ _ z)];exact z
theorem Inv.goes{h':Heap}(hi:X.N[i]?=some n)(hN:X.N.Nodup)(I:Inv X a_ σ H s)(hm:s.heap.Ns X.env.locals m)
  (hl:∀(j:Nat)(x:Str)(w:V),X.N[j]?=some x->σ[j]?=some (some w)->Vis X.env.scope x->∃u,RelV w u/\Cg X.env s.heap m x u)
  (hn:h'.Ns X.env.locals (λx=>if x=n then v else m x)) (hs:Heap.SameBut X.env.locals s.heap h'):Inv X a_ (σ.set i none) H {s with heap:=h',toks:=t'}:=by
 obtain⟨oL,_,_,Qg,_⟩:=id hm;have Kf:∀b o,X.s₀.heap.get? b=some o->h'.get? b=s.heap.get? b:=λb o e=>hs.2 b (IM (Iw (Ir e) I.ok.above))
 refine⟨I.ok,I.os,I.bare,⟨λb o q n hb hx=>(Kf b o q).trans (I.base.keep b o q n hb hx),λb o q n hb hx=>?_,I.base.free,λb o q hx=>?_,I.base.JS,I.base.JN,I.base.JU⟩,⟨_,hn,λj y w e1 e2 e3=>?_⟩,λy c e=>?_,I.free,I.freeC,λp hp=>?_,λb u q=>?_,by rw[List.length_set];exact I.len⟩
 ·obtain⟨sl,z⟩:=I.base.slot b o q n hb hx;exact⟨sl,(Kf b o q).trans z⟩
 ·obtain⟨o',z⟩:=I.base.there b o q hx;exact⟨o',(Kf b o q).trans z⟩
 ·have hj:j≠i:=λz=>by
   subst z;rw[List.getElem?_set_self']at e2;cases q:σ[j]? with
   |_=>rw[q]at e2;cases e2
  rw[Jp (IB hj)]at e2;obtain⟨u,r,l⟩:=hl j y w e1 e2 e3;refine⟨u,r,?_⟩;rcases l with ⟨k,e⟩|⟨k,c,e,z⟩
  ·refine .inl ⟨k,?_⟩;have:y≠n:=λe=>hj (jI hN e1 (e▸hi))
   show (if y=n then v else m y)=some u
   rw[Im this];exact e
  ·exact .inr ⟨k,c,e,z.sameBut hs (I.cne y c e)⟩
 ·obtain⟨w',z⟩:=I.cell y c e;exact⟨w',z.sameBut hs (I.cne y c e)⟩
 ·obtain⟨e,n,ne,nf,d⟩:=I.pin p hp;exact⟨(hs.2 p.1 ne).trans e,n,ne,nf,d⟩
 ·refine (I.h_ b u q).stay (λc w' hc z=>(hs.2 c ?_).trans z) (λ_ z=>z) λ_ _ z=>z
  rintro rfl;rcases hc with rfl|hc
  ·rw[I.free]at q;cases q
  ·rw[I.free]at hc;cases hc
end
noncomputable abbrev Cx.marked(X:Cx)(v:Value):Cx:={X with A:=X.A.mark (some v),calm:=false,xe:=λ_ _=>False}
noncomputable abbrev Cx.tryX(X:Cx)(pn:List (Addr×Obj))(W:Value->Shared->Prop):Cx:={X with pn:=X.pn++pn,xe:=W}
section
variable {X:Cx}
theorem Inv.marked(I:Inv X a_ σ H s)(v:Value):Inv (X.marked v) a_ σ H s:=
 ⟨⟨I.ok.mod,I.ok.kind,I.ok.glob,I.ok.blt,I.ok.above,I.ok.inj,I.ok.has,I.ok.cab,(λz=>nomatch z),I.ok.frames,I.ok.stk,I.ok.exf,I.ok.bs,I.ok.bsz,I.ok.noex,I.ok.exfs,I.ok.funs,I.ok.frf⟩,I.os,I.bare,I.base,I.loc,I.cell,I.free,I.freeC,I.pin,I.h_,I.len⟩
theorem Inv.unmark{v:Value}(ok:X.Ok)(I:Inv (X.marked v) a_ σ H s):Inv X a_ σ H s:=⟨ok,I.os,I.bare,I.base,I.loc,I.cell,I.free,I.freeC,I.pin,I.h_,I.len⟩
theorem Cx.Ok.tryX(ok:X.Ok)(pn:List (Addr×Obj))(W:Value->Shared->Prop):(X.tryX pn W).Ok:=
 ⟨ok.mod,ok.kind,ok.glob,ok.blt,ok.above,ok.inj,ok.has,ok.cab,ok.hd,ok.frames,ok.stk,ok.exf,ok.bs,ok.bsz,ok.noex,ok.exfs,ok.funs,ok.frf⟩
theorem Inv.tryX(I:Inv X a_ σ H s)(W:Value->Shared->Prop):Inv (X.tryX a_ W) [] σ H s:=
 ⟨I.ok.tryX _ _,I.os,I.bare,I.base,I.loc,I.cell,I.free,I.freeC,λp hp=>I.pin p (by rw[Jz]at hp;exact hp),I.h_,I.len⟩
theorem Inv.untry(ok:X.Ok)(I:Inv (X.tryX pn W) a_ σ H s):Inv X pn σ H s:=
 ⟨ok,I.os,I.bare,I.base,I.loc,I.cell,I.free,I.freeC,λp hp=>I.pin p (Jg _ hp),I.h_,I.len⟩
end
def XI(X:Cx)(a_:List (Addr×Obj))(σ:St)(H:Hp)(a:Addr)(cls:Value)(dx:Option Addr)(s:Shared):Prop:=
 ∃B a0,Inv X a_ σ H s/\(Heap.FlyingW B X.stack a cls a0 s.heap/\DA s.heap a dx)/\H a=none/\X.s₀.heap.get? a=none/\(∀p∈X.pn++a_,p.1≠a)/\∀h4,B.StaysIn h4->s.heap.UpToSlots h4->Inv X a_ σ H {s with heap:=h4}
def PH(X:Cx)(hs:List ExceptHandler)(t:Ends->St->XK):Prop:=
 ∀(a_:List (Addr×Obj)) (s:Shared)(σ:St)(H:Hp)(D:Ends)(a:Addr)(cls:Value)(dx:Option Addr),XI X a_ σ H a cls dx s->t D σ cls dx H->wpAny (model X.prog X.w) X.A (handleBy (.ref a) X.env hs) (SP X a_ D) X.xe s
noncomputable def Ends.goes(D:Ends)(i:Nat):Ends:=⟨λσ H=>D.nx (σ.set i none) H,D.rt,λσ H=>D.bk (σ.set i none) H,λσ H=>D.ct (σ.set i none) H⟩
def GA(K:JJ)(C:Addr)(i:Nat)(ts:TS)(tr:Ends->St->XK):Ends->St->XK:=λD σ cls d H=>
 (PySem.W.exmOne K cls (.ref C)=some true/\∀a,H a=none->ts (D.goes i) (σ.set i (some (.ref a))) (upd H a (w5 a cls d)))\/(PySem.W.exmOne K cls (.ref C)=some false/\tr D σ cls d H)
def Gc(K:JJ)(C:Addr)(ts:TS)(tr:Ends->St->XK):Ends->St->XK:=λD σ cls d H=>
 (PySem.W.exmOne K cls (.ref C)=some true/\ts D σ H)\/(PySem.W.exmOne K cls (.ref C)=some false/\tr D σ cls d H)
section
variable {X:Cx}{c n:Str}{C:Addr}{b0:Stmt}{JZ:List Stmt}{np K7 pos:Pos}{aF:List ExceptHandler}{ts:TS}{tr:Ends->St->XK}{i:Nat}
theorem gf{M:Model}{B h:Heap}{l:List Env}{a:Addr}{cls a0:Value}(fl:Heap.FlyingW B l a cls a0 h):PySem.W.Looks M h (typeOf (.ref a)) cls:=by
 obtain⟨ob,Rl,hc⟩:=fl.there;exact hc▸(PySem.W.Looks.ld Rl).andThen .now
theorem BG(hg:Gl X c)(hm:X.mg c=some (.ref C))(hN:X.N.Nodup)(hi:X.N[i]?=some n)(hl:X.env.scope.names.lookup n=some .local)(hs:∀v,PSs (X.marked v) (b0::JZ) ts)(hr:PH X aF tr)(I_:(c == ("__debug__" : Str))=false:=by decide) :
  PH X (.ExceptHandler (some (.Name c np)) (some n) (b0::JZ) K7::aF) (GA X.K C i ts tr):=by
 intro a_ s σ H D a cls dx xi h;obtain⟨B,a0,I,⟨fl,dd⟩,ha,h0,hp,stab⟩:=id xi;rcases h with ⟨em,k⟩|⟨em,k⟩
 ·refine wpAny_handleBy_cons (codeAny_handlers_test (bV (I.marked (.ref a)) hg hm ?_ I_)) (by intro q;cases q)
  refine (PySem.W.exm_one I.kIn (gf fl) em).here ?_;refine codeAny_handlers_suite_as (qx fl dd λh6 OB ND Qm=>?_)
  have I6:=stab h6 OB.1 ND;obtain⟨oe,vs,e1,e2,e3,_⟩:=OB.first
  have e4:oe.dict=dx:=by
   obtain⟨o',z1,z2⟩:=Qm;cases e1.symm.trans z1;exact z2
  have I7:=I6.trackExc (cls:=cls) ha e1 e2 e3 e4 h0 hp;refine iZ (X:=X.marked (.ref a)) (v:=.ref a) (I7.marked (.ref a)) hN hi (.inl hl) rfl (λs7 I8=>?_) (.inr hl)
  refine JA (hs (.ref a) a_ s7 _ _ (D.goes i) I8 (k a ha)) (λfl s8 q=>?_) (λ_ _ z=>False.elim z)
  have LD:(X.env.scope.kind == .class||(X.env.scope.kind == .module&&X.env.locals != X.env.globals))=false:=by rw[I.ok.kind];rfl
  have fin:∀o_ H',Inv (X.marked (.ref a)) a_ o_ H' s8->∀(Q:Unit->Shared->Prop),(∀s9,Inv X a_ (o_.set i none) H' s9->Q () s9)->
    wpAny (model X.prog X.w) X.A (do bindName X.env n .none;unbindBehindTheSuite X.env n K7) Q X.xe s8:=λo_ H' J Q kq=>by
   have J':=J.unmark I.ok;obtain⟨m,KS,Mf⟩:=J'.loc;exact wpAny_nameGoes_keeps hl KS LD λh' v hn MB=>kq _ (Inv.goes hi hN J' KS Mf hn MB)
  match fl,q with
  |.next,⟨o_,H',J,q⟩=>exact fin o_ H' J _ λs9 J9=>⟨_,_,J9,q⟩
  |.brk,⟨o_,H',J,q⟩=>exact fin o_ H' J _ λs9 J9=>⟨_,_,J9,q⟩
  |.cont,⟨o_,H',J,q⟩=>exact fin o_ H' J _ λs9 J9=>⟨_,_,J9,q⟩
  |.ret u,⟨v,o_,H',J,r,q⟩=>exact fin o_ H' J _ λs9 J9=>⟨v,_,_,J9,r,q⟩
 ·refine wpAny_handleBy_cons (codeAny_handlers_test (bV (I.marked (.ref a)) hg hm ?_ I_)) (by intro q;cases q)
  refine (PySem.W.exm_one I.kIn (gf fl) em).here ?_;exact hr a_ s σ H D a cls dx xi k
theorem Dh(hg:Gl X c)(hm:X.mg c=some (.ref C))(hs:∀v,PSs (X.marked v) (b0::JZ) ts)(hr:PH X aF tr)(I_:(c == ("__debug__" : Str))=false:=by decide) :
  PH X (.ExceptHandler (some (.Name c np)) none (b0::JZ) K7::aF) (Gc X.K C ts tr):=by
 intro a_ s σ H D a cls dx xi h;obtain⟨B,a0,I,⟨fl,dd⟩,ha,h0,hp,stab⟩:=id xi;rcases h with ⟨em,k⟩|⟨em,k⟩
 ·refine wpAny_handleBy_cons (codeAny_handlers_test (bV (I.marked (.ref a)) hg hm ?_ I_)) (by intro q;cases q)
  refine (PySem.W.exm_one I.kIn (gf fl) em).here ?_;refine codeAny_handlers_suite (qx fl dd λh6 OB ND Qm=>?_)
  have I6:=stab h6 OB.1 ND;refine JA (hs (.ref a) a_ _ _ _ D (I6.marked (.ref a)) k) (λfl s8 q=>?_) (λ_ _ z=>False.elim z)
  match fl,q with
  |.next,⟨o_,H',J,q⟩=>exact⟨_,_,J.unmark I.ok,q⟩
  |.brk,⟨o_,H',J,q⟩=>exact⟨_,_,J.unmark I.ok,q⟩
  |.cont,⟨o_,H',J,q⟩=>exact⟨_,_,J.unmark I.ok,q⟩
  |.ret u,⟨v,o_,H',J,r,q⟩=>exact⟨v,_,_,J.unmark I.ok,r,q⟩
 ·refine wpAny_handleBy_cons (codeAny_handlers_test (bV (I.marked (.ref a)) hg hm ?_ I_)) (by intro q;cases q)
  refine (PySem.W.exm_one I.kIn (gf fl) em).here ?_;exact hr a_ s σ H D a cls dx xi k
end
end L2
namespace L2
open PySem PySem.Spec PySem.Calls PyProof.Rows
noncomputable def d7(K:JJ)(C:Addr):Bool:=match K.lookup C with
 |some ⟨.type "type",_,.cls k,sl⟩=>(match k.mro with
  |.ref C2::above=>C2 == C&&!k.hasDel&&PySem.W.tailIn K bmV above&&(match sl.toList with
   |[_,_,_,_,some (.builtin mk),_]=>mk == "ValueError.__new__"
   |_=>false)
  |_=>false)
 |_=>false
theorem nV{K:JJ}{h:Heap}(X:K.In h)(z:d7 K C=true) :
  ∃bm M nm qn bs b1 sn sb b2 co dd x0 x1 x2 x3 x5,h.get? C=some (excClassObj nm qn C M bs bm b1 sn sb b2 co dd x0 x1 x2 x3 x5 "ValueError.__new__")/\OwnTail h bmV bm:=by
 unfold d7 at z;split at z
 ·rename_i dd k sl ho;split at z
  ·rename_i C2 above hm;rw[Ij,Ij,Ij,IH]at z;obtain⟨⟨⟨rfl,z2⟩,z3⟩,z4⟩:=z;split at z4
   ·rename_i x0 x1 x2 x3 mk x5 hs;rw[IH]at z4;subst z4;cases k with
    |mk nm bs mro ns qn hd sn sub ab col del=>
     cases hm;cases del with
     |true=>cases z2
     |false=>
      have es:sl=#[x0,x1,x2,x3,some (.builtin "ValueError.__new__"),x5]:=by
       cases sl with
       |mk l=>cases hs;rfl
      subst es;exact⟨above,ns,nm,qn,bs,hd,sn,sub,ab,col,dd,x0,x1,x2,x3,x5,X _ _ ho,PySem.W.tail_of_in X z3⟩
   ·cases z4
  ·cases z
 ·cases z
noncomputable abbrev exB:ExcBaseFacts "ValueError" "ValueError.__new__" "ValueError.__init__" bmV:=PySem.F.excBase_ValueError
section
variable {A:Around}{h:Heap}{os:OsState}{K:JJ}
theorem ud{oe:Obj}{us:List Value}(X:K.In h)(z:d7 K C=true)(he:h.get? e=some oe)(hc:oe.cls=.ref C)(hd:oe.data=.fields vs)(h0:vs[0]?=some (.ref t0))(hl:us.length<=sizeLine)
  (k:Q .none ⟨(h.push {cls:=.type "tuple",data:=.seq us.toArray}).update e (Obj.mapFields (·.setIfInBounds 0 (.ref h.objs.size))),g,d,t,os⟩):wpAny (model prog w) A (call (.builtin "ValueError.__init__") (.ref e::us)) Q E ⟨h,g,d,t,os⟩:=by
 obtain⟨bm,M,nm,qn,bs,b1,sn,sb,b2,co,dd,x0,x1,x2,x3,x5,hC,T⟩:=nV X z;refine wpAny_call (codeAny_call_builtin exB.init.plain exB.initEntry (wpAny_check_init_subU exB T hC he hc ?_));unfold Builtin.«BaseException.__init__»;dsimp only;rw[Im (by simp)]
 unfold newTuple Builtin.BaseException.bexcPut;have e1:=Il (h:=h) {cls:=.type "tuple",data:=.seq us.toArray} he;refine Fr (Jd ?_ (by show us.toArray.size<=sizeLine;rw[IF];exact hl))
 exact Fr (Fr (Jk e1 hd h0 (Fr (JG e1 hd (Jr.mp h0).1 (wpAny_letGo (Ik k))))))
theorem nZ(T:OwnTail h bmV bm):refuseLoop self "__setattr__" bm=pure ():=by
 induction T with
 |base=>exact PySem.F.store_ValueError.passes self
 |own _ _ _ _ ih=>rw[refuseLoop_ref];exact ih
theorem uJ{oe:Obj}{s:Shared}(X:K.In s.heap)(z:d7 K C=true)(he:s.heap.get? e=some oe)(hc:oe.cls=.ref C)(hd:oe.data=.fields vs)(OC:oe.dict=none)
  (K0:PySem.W.findIn K (.ref C) name=some none) (Pd:PySem.W.hasDictIn K C=true) (hm:PySem.W.mroIn K C (.type "object")=some true)
  (k:∀h' t',h'.get? e=some {oe with dict:=some s.heap.objs.size}->h'.Ns1 s.heap.objs.size (λy=>if y=name then some v else none)->(∀b o,b≠e->s.heap.get? b=some o->h'.get? b=some o)->R (.ok (.ret .none)) {s with heap:=h',toks:=t'}) :
  codeAny (model prog w) A (.call (.builtin "object.__setattr__") ⟨[.ref e,.str name tk,v],[]⟩) R s:=by
 obtain⟨bm,M,nm,qn,bs,b1,sn,sb,b2,co,dd,x0,x1,x2,x3,x5,hC,T⟩:=nV X z;have SF:=PySem.F.store_ValueError;have LT:PySem.W.Looks (model prog w) s.heap (typeOf (.ref e)) (.ref C):=hc▸(PySem.W.Looks.ld he).andThen .now;have sub:PySem.W.Looks (model prog w) s.heap (isInstance (.ref e) (.type "object")) true:=LT.andThen (PySem.W.looks_mroIn X hm);obtain⟨cd,Kd,Rm⟩:=PySem.W.any_some Pd;have LM:PySem.W.Looks (model prog w) s.heap (mroOf (.ref C)) cd.mro:=(PySem.W.looks_clsIn X Kd).andThen .now;have em:cd.mro=.ref C::bm:=by
  unfold PySem.W.clsIn at Kd;split at Kd
  ·rename_i c' d' Qn Nq ho;cases Kd;have:=X _ _ ho;rw[hC]at this;cases this;rfl
  ·cases Kd
 refine codeAny_call_builtin SF.slot.plain SF.entry (@PySem.W.check_slot (model prog w) _ _ s "object.__setattr__" "object" "__setattr__" (.ref e) [.str name tk,v] [] _ SF.kind SF.split sub (SF.args (.ref e) (.str name tk) v) ?_);rw[PySem.W.osa_eq,refuse_eq];refine Fr (Fr (LT.here (Fr (LM.here ?_))));rw[em,refuseLoop_ref,nZ T];refine Ik (Fr (LT.here (Fr ((PySem.W.looks_findIn X K0).here (Fr (Ik ?_))))));dsimp only;obtain⟨oc,od,SX,Kx⟩:=oe;dsimp only at hc hd OC;subst hc hd OC;refine Fr (Ik (Fr (Fr (wpAny_loadPart he (Fr ((PySem.W.looks_clsIn X Kd).here ?_))))));rw[Rm];refine Fr (wpAny_alloc' ?_);have ne:e≠s.heap.objs.size:=IM (Ir he);have e1:(s.heap.push {cls:=.type "dict",data:=.dict #[]}).get? e=some ⟨.ref C,none,.fields vs,Kx⟩:=Il _ he;refine Fr (wpAny_update' e1 (Ik ?_));generalize hH:(s.heap.push {cls:=.type "dict",data:=.dict #[]}).update e (λo=>{cls:=o.cls,dict:=some s.heap.objs.size,data:=o.data,slots:=o.slots})=H1
 have gd:H1.get? s.heap.objs.size=some {cls:=.type "dict",data:=.dict #[]}:=by
  rw[<-hH];exact (Heap.get?_update_ne _ _ _ _ ne.symm).trans (Heap.get?_push_at rfl rfl)
 have ge:H1.get? e=some ⟨.ref C,some s.heap.objs.size,.fields vs,Kx⟩:=by
  rw[<-hH];exact Jb _ e1 rfl
 have gk:∀b o,b≠e->s.heap.get? b=some o->H1.get? b=some o:=λb o n q=>by
  rw[<-hH];exact (Heap.get?_update_ne _ _ _ _ n).trans (Il _ q)
 have nd:H1.Ns s.heap.objs.size (λ_=>none):=⟨_,#[],_,gd,rfl,λx hx=>absurd hx (by simp),λ_=>rfl⟩
 show wpAny _ _ (Builtin.ObjectAttr.storeInDict s.heap.objs.size (.str name tk) name v) _ _ _;unfold Builtin.ObjectAttr.storeInDict Builtin.ObjectAttr.newKeyGuard;refine Fr (Ik (Fr (wpAny_nsSet1 (Heap.Ns1.of_empty nd) λh' n' hs=>?_)))
 obtain⟨oD,Q4,Q5,O4,O5,Ll⟩:=n'.count (PySem.Within.cons name v PySem.Within.nil);refine Fr (wpAny_lookBehind O4 (by rw[O5];exact pastItsLine_dict (IR Ll (by rw[IN,List.length_nil,sizeLine_eq];omega))) ?_)
 exact Ik (k h' _ ((hs.2 e ne).trans ge) n' λb o n q=>(hs.2 b (IM (Ir q))).trans (gk b o n q))
theorem wQ{oe:Obj}{s:Shared}(X:K.In s.heap)(z:d7 K C=true)(he:s.heap.get? e=some oe)(hc:oe.cls=.ref C)(hd:oe.data=.fields vs)(OC:oe.dict=none)
  (Rn:PySem.W.findIn K (.ref C) "__setattr__"=some (some (.builtin "object.__setattr__"))) (K0:PySem.W.findIn K (.ref C) name=some none) (Pd:PySem.W.hasDictIn K C=true) (hm:PySem.W.mroIn K C (.type "object")=some true)
  (k:∀h' t',h'.get? e=some {oe with dict:=some s.heap.objs.size}->h'.Ns1 s.heap.objs.size (λy=>if y=name then some v else none)->(∀b o,b≠e->s.heap.get? b=some o->h'.get? b=some o)->Q () {s with heap:=h',toks:=t'}) :
  wpAny (model prog w) A (setAttr (.ref e) name v) Q E s:=by
 have LT:PySem.W.Looks (model prog w) s.heap (typeOf (.ref e)) (.ref C):=hc▸(PySem.W.Looks.ld he).andThen .now;have f3:=PySem.F.store_ValueError.slot.bind (.ref e);unfold setAttr callSpecial? specialOf;refine Fr (wpAny_mkText (Fr (Fr (Fr (LT.at ((PySem.W.looks_findIn X Rn).at (Jc (Fr ?_))))))));rw[f3];refine Ik (Fr (wpAny_call (uJ (s:={s with toks:=s.toks+1}) X z he hc hd OC K0 Pd hm λh' t' q1 q2 q3=>?_)))
 exact Ik (Ik (k h' t' q1 q2 q3))
end
section
variable {pos:Pos}
theorem fZ{args:List Expr}(h1:(backTo pos (starEach args env)).any (·.1)=false)(h2:args.length<30):methodCallForm (args.length+([]:List Keyword).length) (backTo pos (starEach args env)) (backToKw pos (keywordEach [] env))=true:=by
 unfold methodCallForm;have a:(backTo pos (starEach args env)).all (!·.1)=true:=by
  rw[IL];intro x hx;have:=List.any_eq_false.mp h1 x hx;simpa using this
 rw[a];have:(backToKw pos (keywordEach [] env)).all (·.1.isSome)=true:=rfl;rw[this];have h3:(backToKw pos (keywordEach ([]:List Keyword) env)).isEmpty=true:=rfl;simp only[h3,if_true,List.length_nil,Bool.true_and,Nat.add_zero,Iy];exact h2
theorem eP{m_:Pos}{args:List Expr}(hb:attributeBase o m env (eval o env)=eval o env)
  (hf:methodCallForm (args.length+([]:List Keyword).length) (backTo pos (starEach args env)) (backToKw pos (keywordEach [] env))=true) (hl:(m_.endLine == pos.line)=true) :
  eval (.Call (.Attribute o m m_) args [] pos) env=(do
   let ov<-eval o env
   standAt m_.atName
   let (f,first)<-holding [ov] (getMethod ov m (do return (<-importBound o env).getD true))
   callWith pos f first (backTo pos (starEach args env)) (backToKw pos (keywordEach [] env))):=by
 rw[arm_eval_Call,hb];unfold methodCall calleeOf methodCallPos;simp only[hf,hl];rfl
end
noncomputable def ss(e C:Addr):HO:=.ext λh=>∃t0,h.get? e=some {cls:=.ref C,data:=.fields #[.ref t0,.none,.none,.none,.bool false,.none]}
noncomputable def r8(e C dx:Addr):HO:=.ext λh=>∃t0,h.get? e=some {cls:=.ref C,dict:=some dx,data:=.fields #[.ref t0,.none,.none,.none,.bool false,.none]}
theorem wN{h:Heap}(q:h.get? e=some {cls:=.ref C,data:=.fields #[.ref t0,.none,.none,.none,.bool false,.none]}):ObjOk P w H h e (ss e C):=
 ⟨⟨t0,q⟩,⟨_,q⟩,λ_ _ ⟨t1,z⟩ k=>⟨t1,k _ z⟩⟩
theorem xF{h:Heap}(q:h.get? e=some {cls:=.ref C,dict:=some dx,data:=.fields #[.ref t0,.none,.none,.none,.bool false,.none]}):ObjOk P w H h e (r8 e C dx):=
 ⟨⟨t0,q⟩,⟨_,q⟩,λ_ _ ⟨t1,z⟩ k=>⟨t1,k _ z⟩⟩
structure XIni (K:JJ)(C fI:Addr)(f:Str):Prop where
 cl:d7 K C=true
 ini:PySem.W.findIn K (.ref C) "__init__"=some (some (.ref fI))
 fn:PySem.W.typeIn K (.ref fI)=some (.type "function")
 sa:PySem.W.findIn K (.ref C) "__setattr__"=some (some (.builtin "object.__setattr__"))
 at_:PySem.W.findIn K (.ref C) f=some none
 hd:PySem.W.hasDictIn K C=true
 ob:PySem.W.mroIn K C (.type "object")=some true
 kp:PySem.W.keepIn K (.ref C)=true
structure BIni (K:JJ)(D:Addr):Prop where
 ga:PySem.W.specialIn K (.ref D) "__getattribute__"=some (some (.builtin "type.__getattribute__"))
 rd:PySem.W.readsIn K D (.type "type")=true
 at_:PySem.W.findCls K (.ref D) (.type "type") "__init__"=some (.val (.builtin "ValueError.__init__"))
noncomputable def tXI(K:JJ)(t:TA):TE:=λσ H Q=>t σ H λvs H1=>∃a r C,vs=.ref a::r/\d7 K C=true/\H1 a=some (ss a C)/\r.length<=sizeLine/\Q .j_ H1
noncomputable def sXF(C:Addr)(f:Str)(ta tv:TE):TS:=λD σ H=>tv σ H λy H1=>ta σ H1 λx H2=>∃a,x=.ref a/\H2 a=some (ss a C)/\∀dx o,H2 dx=none->dx≠a->D.nx σ (upd (upd H2 a (r8 a C dx)) dx (.s_ o (.xd [(f,y)])))
section
variable {X:Cx}{D:Addr}{m_ pos:Pos}
theorem wY(hg:Gl X x)(hm:X.mg x=some (.ref D))(I_:(x == ("__debug__" : Str))=false)(b:BIni X.K D)(ha:PA X (e::es) t)(hl:(m_.endLine == pos.line)=true)(hn:(e::es).length<30)
  (he:starEach (e::es) X.env=(false,eval e X.env)::starEach es X.env) (JR:(backTo pos (starEach es X.env)).any (·.1)=false) :
  PE X (.Call (.Attribute (.Name x px) "__init__" m_) (e::es) [] pos) (tXI X.K t):=by
 intro a_ s σ H Q I h;have Kb:(backTo pos (starEach (e::es) X.env)).any (·.1)=false:=by
  rw[he];show ((false,_)::backTo pos (starEach es X.env)).any (·.1)=false;rw[List.any_cons,JR];rfl
 have hT:PE X (.Name x px) (tC (.ref D)):=fV hg hm rfl I_;refine PySem.W.methodCall_KW (thn (hT a_ s σ H (λv H1=>v=.ref D/\H1=H) I ⟨rfl,rfl⟩) λu s1 ⟨v,H1,I1,r1,e1,e2⟩=>?_) (eP (by rfl) (fZ Kb hn) hl)
 subst e1 e2;obtain rfl:u=Value.ref D:=r1;refine PySem.W.method_cls I1.kIn b.ga (PySem.W.cls_value I1.kIn b.rd b.at_ (by decide +kernel) ?_)
 have I2:=I1.tok (s1.toks+1);rw[he];refine PySem.W.callWith_of (P:=λh=>X.K.In h) (by show ((false||(backTo pos (starEach es X.env)).any (·.1))||false)=false;rw[JR];rfl) (λ_ _=>⟨.machine,.inr (.inl rfl),.now⟩) (PySem.Calls.evalArgs_plain ?_)
 have h2:=ha pos a_ _ σ H1 _ I2 h;rw[he]at h2;refine thn h2 λus s2 ⟨vs,H2,I3,r,a,rs,C,ev,z,ea,hz,q⟩=>⟨I3.kIn,?_⟩
 subst ev;cases r with
 |@cons v u vs us rv r=>
  obtain rfl:u=Value.ref a:=rv;have oa:=I3.h_ a _ ea;obtain⟨⟨t0,go⟩,_,_⟩:=oa;obtain⟨h2,g2,d2,t2,SY⟩:=s2;refine ud (oe:=_) (t0:=t0) I3.kIn z go rfl rfl rfl (by rw[<-r.length];exact hz) ?_
  refine⟨.j_,H2,?_,rfl,q⟩;have ge:((h2.push {cls:=.type "tuple",data:=.seq us.toArray}).update a (Obj.mapFields (·.setIfInBounds 0 (.ref h2.objs.size)))).get? a=some {cls:=.ref C,data:=.fields #[.ref h2.objs.size,.none,.none,.none,.bool false,.none]}:=
   Jb _ (Il _ go) rfl
  have w:=I3.write (x:=a) (e:=a) (o:=ss a C) (h':=(h2.push {cls:=.type "tuple",data:=.seq us.toArray}).update a (Obj.mapFields (·.setIfInBounds 0 (.ref h2.objs.size)))) (t':=t2) (by rw[ea];exact True.intro) (.inl rfl)
   (λb ob n q=>(IQ _ _ (IB n)).trans (Il _ q)) ⟨_,ge⟩ (wN ge)
  have eq:upd H2 a (ss a C)=H2:=by
   funext b;by_cases hb:b=a
   ·rw[hb,ag,ea]
   ·rw[ae hb]
  rw[eq]at w;exact w
theorem xz(q:XIni X.K C fI f)(ha:PE X o ta)(hv:PE X value tv)(hs:swapsWith value (some (.Attribute o f JP)) pos.line X.env=pure false):PS X (.Assign [.Attribute o f JP] value pos) (sXF C f ta tv):=by
 intro a_ s σ H D I h;refine plainObj_wpAny_Assign_Attribute (thn (hv a_ s σ H _ I h) λu s1 ⟨y,H1,I1,ry,h1⟩=>thn (ha a_ s1 σ H1 _ I1 h1) λov s2 ⟨x,H2,I2,rx,a,ex,ea,h2⟩=>?_) hs
 subst ex;obtain rfl:ov=Value.ref a:=rx;obtain⟨⟨t0,go⟩,_,_⟩:=I2.h_ a _ ea;refine wQ (vs:=#[.ref t0,.none,.none,.none,.bool false,.none]) I2.kIn q.cl go rfl rfl rfl q.sa q.at_ q.hd q.ob λh' t' g1 g2 g3=>?_
 obtain⟨od,es,ep,gd,gr⟩:=id g2;have hn:H2 s2.heap.objs.size=none:=I2.h_.fresh (Iq _);have ne:s2.heap.objs.size≠a:=Nat.ne_of_gt (Ir go);have Ro:HOk X.prog X.w (upd H2 a (r8 a C s2.heap.objs.size)) h':=I2.h_.write (x:=a) (e:=a) (by rw[ea];exact True.intro) (.inl rfl) (λb u n q=>g3 b u n q) ⟨_,g1⟩ (xF g1)
 have un:∀b u,H2 b=some u->(∀φ,u≠.ext φ)->upd (upd H2 a (r8 a C s2.heap.objs.size)) s2.heap.objs.size (.s_ od (.xd [(f,y)])) b=some u:=λb u q nx=>by
  rw[ae (ay q hn),ae (λz=>by rw[z,ea]at q;cases q;exact nx _ rfl)]
  exact q
 refine⟨σ,_,I2.un (t':=t') ⟨λb ob z n _ _=>g3 b ob (λw=>by rw[w,ea]at n;cases n) z,λb ob z n _ _=>⟨ob.slots,g3 b ob (λw=>by rw[w,ea]at n;cases n) z⟩,λb ob z n _=>?_,λb ob z _=>?_,λb xs z=>un b _ z (λ_ w=>nomatch w),λb ob u z=>un b _ z (λ_ w=>nomatch w),λb ps z=>⟨#[],by rw[Array.append_empty];exact un b _ z (λ_ w=>nomatch w)⟩⟩ (λb u z=>?_),h2 _ od hn ne⟩
 ·rw[ae (IM (Ir z)),ae (λw=>by rw[w,ea]at n;cases n)]
  exact n
 ·by_cases w:b=a
  ·subst w;exact⟨_,g1⟩
  ·exact⟨_,g3 b ob w z⟩
 ·by_cases w:b=s2.heap.objs.size
  ·subst w;rw[ag]at z;cases z;refine⟨gd,_,g2,λn=>?_⟩
   show RelO (List.lookup n [(f,y)]) (if n=f then some u else none)
   by_cases wn:n=f
   ·rw[Iu wn,wn,Jm,beq_self_eq_true];exact ry
   ·rw[Im wn,Jm,IZ.mpr wn];exact True.intro
  ·rw[ae w]at z;refine (Ro b u z).stay (λ_ _ _ q=>q) (λc q=>?_) λc xs q=>?_
   ·rw[ae λe=>?_]
    ·exact q
    ·rw[e,ae ne,hn]at q;cases q
   ·rw[ae λe=>?_]
    ·exact q
    ·rw[e,ae ne,hn]at q;cases q
noncomputable def nq(cp:Bool)(K:JJ)(C:Addr)(f:Str):Sp:=λvs H Q _=>∃a v,vs=[.ref a,v]/\H a=some (ss a C)/\(cp=false->∀dx ob,H dx=none->dx≠a->Q .j_ (upd (upd H a (r8 a C dx)) dx (.s_ ob (.xd [(f,v)]))))/\
 (cp=true->∃p ws,v=.ref p/\SqL K H p ws/\∀q dx ob,H q=none->H dx=none->dx≠a->dx≠q->Q .j_ (upd (upd (upd H q (.lst ws)) a (r8 a C dx)) dx (.s_ ob (.xd [(f,.ref q)]))))
end
theorem ze{P:Program}{w:World}{K:JJ}{mg:Str->Option Value}{base:Heap}{fI C D:Addr}{name qual:Str}{params:Arguments}{scope:Scope}{kV doc pm JV ct oc:Value}{an od:Option Addr}{Kx:Array (Option Value)}{b sl pr f tx:Str}{j:Nat}{px m_ p1 p2 cp p3 p4 p5 p6 p7:Pos}
  (lk:K.lookup fI=some ⟨oc,od,.func (PySem.W.fnOf name qual params [.Expr (.Call (.Attribute (.Name b px) "__init__" m_) [.Name sl p1,.Constant (.str tx) j p2] [] cp) p3,.Assign [.Attribute (.Name sl p4) f p5] (.Name pr p6) p7] scope .none kV doc pm an JV ct),Kx⟩)
  (Kd:PySem.W.codeIn K JV qual=true) (S:FnScope [sl,pr] [sl,pr] scope) (hg:scope.names.lookup b=some .globalImplicit) (hm:mg b=some (.ref D)) (hl:(m_.endLine == cp.line)=true) (hb:BIni K D)(q:XIni K C fI f)
  (Rp:(b == ("__debug__" : Str))=false) (Qo:(sl == ("__debug__" : Str))=false) (Rq:(pr == ("__debug__" : Str))=false) (Qp:(sl == ("__classdict__" : Str))=false) (Rr:(pr == ("__classdict__" : Str))=false) :
  FnOk P w K mg base (CX1 P w) 1 fI (PySem.W.fnOf name qual params [.Expr (.Call (.Attribute (.Name b px) "__init__" m_) [.Name sl p1,.Constant (.str tx) j p2] [] cp) p3,.Assign [.Attribute (.Name sl p4) f p5] (.Name pr p6) p7] scope .none kV doc pm an JV ct) [sl,pr] (nq false K C f):=by
 refine ug (k:=0) lk Kd S (λvs H Q E ⟨_,_,e,_⟩=>by subst e;rfl) λA outer s H vs Q E hr Me=>?_
 obtain⟨a,v,ev,ea,h,_⟩:=Me;have h:=h rfl;subst ev;have vs:∀x∈[sl,pr],Vis scope x:=λx hx=>(S.par x hx).elim .inl λz=>.inr (.inl z)
 have h0:PE (cu (CX1 P w) P w K mg base [sl,pr] qual scope fI JV A outer s H E) (.Name sl p1) (tO 0):=jk rfl (vs _ (by simp)) Qo Qp
 have h4:PE (cu (CX1 P w) P w K mg base [sl,pr] qual scope fI JV A outer s H E) (.Name sl p4) (tO 0):=jk rfl (vs _ (by simp)) Qo Qp
 have h1:PE (cu (CX1 P w) P w K mg base [sl,pr] qual scope fI JV A outer s H E) (.Name pr p6) (tO 1):=jk rfl (vs _ (by simp)) Rq Rr
 refine⟨_,ny (lQ (wY (D:=D) hg hm Rp hb (aK h0 (aK vO pa_nil)) hl (by simp) rfl rfl)) (wR (xz q h4 h1 rfl)),?_⟩
 refine⟨.ref a,rfl,?_⟩;refine⟨a,[.str tx],C,rfl,q.cl,ea,by rw[sizeLine_eq];simp,?_⟩
 exact⟨v,rfl,.ref a,rfl,a,rfl,ea,λdx ob n ne=>h dx ob n ne⟩
end L2
namespace L2
open PySem PySem.Spec PyProof.Rows
noncomputable def aQ(names:List (Str×NameKind))(cs:List (Str×Addr))(acc:List (Str×Addr)):List (Str×Addr):=match names with
 |[]=>acc
 |(n,k)::r=>if k=.free then (match cs.lookup n with|some c=>aQ r cs ((n,c)::acc)|none=>aQ r cs acc) else aQ r cs acc
theorem bN{cs:List (Str×Addr)}:∀{names:List (Str×NameKind)}{acc:List (Str×Addr)},(∀p∈acc,cs.lookup p.1=some p.2)->∀p∈aQ names cs acc,cs.lookup p.1=some p.2
 |[],_,h,p,hp=>h p hp
 |(n,k)::r,acc,h,p,hp=>by
  unfold aQ at hp;split at hp
  ·split at hp
   next c e=>
    refine bN (λq hq=>?_) p hp
    rcases Iv.mp hq with z|z
    ·subst z;exact e
    ·exact h q z
   next=>exact bN h p hp
  ·exact bN h p hp
theorem dS:∀{names:List (Str×NameKind)}{acc:List (Str×Addr)}{p:Str×Addr},p∈acc->p∈aQ names cs acc
 |[],_,_,h=>h
 |(n,k)::r,acc,p,h=>by
  unfold aQ;split
  ·split
   ·exact dS (Io _ h)
   ·exact dS h
  ·exact dS h
theorem dR{cs:List (Str×Addr)}(e:cs.lookup x=some c):∀{names:List (Str×NameKind)}{acc:List (Str×Addr)},(x,NameKind.free)∈names->(x,c)∈aQ names cs acc
 |(n,k)::r,acc,h=>by
  rcases Iv.mp h with z|z
  ·cases z;unfold aQ;rw[Iu rfl,e];exact dS Ix
  ·unfold aQ;split
   ·split
    ·exact dR e z
    ·exact dR e z
   ·exact dR e z
theorem eg{l:List (Str×Addr)}(h:(x,c)∈l)(u:∀p∈l,p.1=x->p.2=c):l.lookup x=some c:=by
 induction l with
 |nil=>cases h
 |cons p r ih=>
  obtain⟨n,d⟩:=p;by_cases e:x=n
  ·subst e;rw[Jm,beq_self_eq_true];exact congrArg some (u (x,d) Ix rfl)
  ·rw[Jm];rw[IZ.mpr e];rcases Iv.mp h with z|z
   ·cases z;exact absurd rfl e
   ·exact ih z λq hq=>u q (Io _ hq)
theorem bG{l:List (Str×Addr)}(h:l.lookup x=some c):(x,c)∈l:=PySem.mem_of_lookup h
theorem oh{cs:List (Str×Addr)}(hm:(x,NameKind.free)∈names)(e:cs.lookup x=some c):(aQ names cs []).lookup x=some c:=by
 refine eg (dR e hm) λp hp hx=>?_
 have z:=bN (acc:=[]) (λp hp=>nomatch hp) p hp
 rw[hx,e]at z;exact (IK z).symm
theorem sU{env:Env}(e:env.cells.lookup n=some c):cellOf env n=pure c:=by
 unfold cellOf;rw[e]
theorem ka{scope:Scope}{env:Env}(h:∀y∈scope.names,y.2=.free->∃c,env.cells.lookup y.1=some c):closureFor scope env=pure (aQ scope.names env.cells []):=by
 have go:∀(names:List (Str×NameKind)) (acc:List (Str×Addr)),(∀y∈names,y.2=.free->∃c,env.cells.lookup y.1=some c)->
   (forIn names acc λx r=>match x with
    |(n,k)=>if (k == NameKind.free)=true then do let c<-cellOf env n;pure (ForInStep.yield ((n,c)::r)) else pure (ForInStep.yield r):Sem (List (Str×Addr)))=pure (aQ names env.cells acc):=by
  intro names
  induction names with
  |nil=>intro acc _;rfl
  |cons y r ih=>
   intro acc hy;obtain⟨n,k⟩:=y;rw[List.forIn_cons];by_cases hk:k=NameKind.free
   ·subst hk;obtain⟨c,e⟩:=hy (n,.free) Ix rfl;simp only[beq_self_eq_true,if_true];rw[sU e];show (forIn r ((n,c)::acc) _:Sem _)=_;rw[ih _ λz hz=>hy z (Io _ hz)]
    conv=>rhs;unfold aQ
    simp only[if_true,e]
   ·have hb:(k == NameKind.free)=false:=by simpa using hk
    simp only[hb,Jf,if_false];show (forIn r acc _:Sem _)=_;rw[ih _ λz hz=>hy z (Io _ hz)]
    conv=>rhs;unfold aQ
    simp only[hk,if_false]
 have e:=go scope.names [] h;show ((forIn scope.names [] λx r=>match x with
    |(n,k)=>if (k == NameKind.free)=true then do let c<-cellOf env n;pure (ForInStep.yield ((n,c)::r)) else pure (ForInStep.yield r):Sem (List (Str×Addr))) >>=λz=>pure z)=_
 rw[e];rfl
theorem aN:∀(names:List (Str×NameKind)) (n:Nat) (acc:List (Str×Addr)),cellsFrom n names acc=cellsFrom n names []++acc
 |[],_,_=>rfl
 |(x,k)::r,n,acc=>by
  unfold cellsFrom;split
  ·rw[aN r (n+1) ((x,n)::acc),aN r (n+1) [(x,n)],List.append_assoc];rfl
  ·exact aN r n acc
theorem aI:∀{names:List (Str×NameKind)}{n:Nat}{p:Str×Addr},p∈cellsFrom n names []->(p.1,NameKind.cell)∈names/\n<=p.2
 |[],_,_,h=>nomatch h
 |(x,k)::r,n,p,h=>by
  unfold cellsFrom at h;split at h
  ·rename_i hk;rw[aN]at h;rcases IX.mp h with z|z
   ·obtain⟨a,b⟩:=aI z;exact⟨Io _ a,by omega⟩
   ·obtain rfl:=IY.mp z;exact⟨by rw[show k=NameKind.cell from by simpa using hk];exact Ix,Iq _⟩
  ·obtain⟨a,b⟩:=aI h;exact⟨Io _ a,b⟩
theorem cz:∀{names:List (Str×NameKind)}{n:Nat}{x:Str},(x,NameKind.cell)∈names->∃c,(x,c)∈cellsFrom n names []
 |(y,k)::r,n,x,h=>by
  rcases Iv.mp h with z|z
  ·cases z;unfold cellsFrom;rw[Iu (by rfl),aN]
   exact⟨n,IU _ Ix⟩
  ·unfold cellsFrom;split
   ·obtain⟨c,e⟩:=cz z (n:=n+1);rw[aN];exact⟨c,Jg _ e⟩
   ·exact cz z
theorem dC:∀{l:List (Str×Addr)}{x:Str}{c:Addr},(x,c)∈l->∃c',l.lookup x=some c'
 |(y,d)::r,x,c,h=>by
  rw[Jm];cases e:x == y with
  |true=>exact⟨d,rfl⟩
  |false=>
   rcases Iv.mp h with z|z
   ·cases z;simp at e
   ·exact dC z
theorem gV
  (hQ:Q {scope:=scope,locals:=s.heap.objs.size,globals:=globals,cells:=cellsFrom (s.heap.objs.size+1) scope.names []++cl,qual:=qual,func:=none,code:=outer.code,frame:=outer.frame,builtins:=outer.builtins} {s with heap:=pushCells (s.heap.push {cls:=.type "dict",data:=.dict #[]}) scope.names}) :
  wpAny M A (newFunctionEnv scope globals cl [] qual none .none (some outer)) Q E s:=by
 simp only[newFunctionEnv,Option.isSome_some,if_true];refine Fr (wpAny_alloc ?_);refine Fr (wpAny_layCells _ (λname kind cells=>by cases hkc:kind == NameKind.cell<;>simp[hkc]) _ _ _ _ ?_)
 rw[show ({s with heap:=s.heap.push {cls:=.type "dict",data:=.dict #[]}}:Shared).heap.objs.size=s.heap.objs.size+1 from Heap.size_push ..,aN]
 refine Fr ?_;rw[List.forIn_nil];exact Ik (Ik hQ)
noncomputable def eL(N:List Str)(js:List (Option Nat))(sc Lh:Scope)(oN:List Str):Bool:=
 N.length == js.length&&decide N.Nodup&&
 (N.zip js).all (λp=>match p.2 with
  |none=>sc.names.lookup p.1 == some .local||sc.names.lookup p.1 == some .cell
  |some j=>oN[j]? == some p.1&&sc.names.contains (p.1,NameKind.free)&&Lh.names.lookup p.1 == some .cell)&&
 decide (sc.names.map (·.1)).Nodup&&sc.names.all (λy=>(y.2 != .free||Lh.names.lookup y.1 == some .cell)&&(y.2 != .local||sc.names.lookup y.1 == some .local))&&(sc.kind == .function)&&(Lh.kind == .function)
noncomputable def jx(js:List (Option Nat))(σ:St):St:=js.map λo=>o.bind λj=>(σ[j]?).bind id
noncomputable abbrev compCx(X:Cx)(scope:Scope)(C:Addr)(N:List Str)(s2:Shared)(H2:Hp)(fp:List Addr)(a_:List (Addr×Obj)):Cx:=
 {X with env:=compEnvC scope (cellsFrom (C+1) scope.names []++aQ scope.names X.env.cells []) C X.env,N:=N,s₀:=s2,H₀:=H2,outer:=X.stack,stack:=X.stack,ex:=fp,fn:=λx=>scope.names.lookup x == some .cell,pn:=X.pn++a_,xe:=λ_ _=>False}
theorem gw{env:Env}(hk:env.scope.kind=.function)(hc:env.kindOf x=some .cell):∀{names:List (Str×NameKind)},(x,NameKind.free)∈names->(∀y∈names,y.1=x->y.2=.free)->
  (names.map λ(n,k)=>if (k == .free&&env.scope.kind == .function&&env.kindOf n == some .cell) then (n,.cell) else (n,k)).lookup x=some NameKind.cell
 |(n,k)::r,hm,hu=>by
  show List.lookup x ((if (k == NameKind.free&&env.scope.kind == .function&&env.kindOf n == some .cell)=true then (n,NameKind.cell) else (n,k))::_)=_
  by_cases e:x=n
  ·subst e;have ek:k=.free:=hu (x,k) Ix rfl;subst ek;simp only[hk,hc,beq_self_eq_true,Bool.and_self,if_true];rw[Jm,beq_self_eq_true]
  ·have KS:(x,NameKind.free)∈r:=by
    rcases Iv.mp hm with z|z
    ·cases z;exact absurd rfl e
    ·exact z
   have ih:=gw hk hc KS λy hy=>hu y (Io _ hy)
   split
   ·rw[Jm,IZ.mpr e];exact ih
   ·rw[Jm,IZ.mpr e];exact ih
structure CompOk (N:List Str) (js:List (Option Nat)) (sc Lh:Scope)(oN:List Str):Prop where
 len:N.length=js.length
 nd:N.Nodup
 own:∀(i:Nat)(x:Str),N[i]?=some x->js[i]?=some none->sc.names.lookup x=some .local\/sc.names.lookup x=some .cell
 fr:∀(i:Nat)(x:Str)(j:Nat),N[i]?=some x->js[i]?=some (some j)->oN[j]?=some x/\(x,NameKind.free)∈sc.names/\Lh.names.lookup x=some .cell
 ndn:(sc.names.map (·.1)).Nodup
 nf:∀y∈sc.names,y.2=.free->Lh.names.lookup y.1=some .cell
 nl:∀y∈sc.names,y.2=.local->sc.names.lookup y.1=some .local
 k1:sc.kind=.function
 k2:Lh.kind=.function
theorem kC(h:eL N js sc Lh oN=true):CompOk N js sc Lh oN:=by
 unfold eL at h;simp only[Ij,IH,Iy,IL,Bool.or_eq_true,bne_iff_ne]at h;obtain⟨⟨⟨⟨⟨⟨h1,h2⟩,h3⟩,h4⟩,h5⟩,h6⟩,h7⟩:=h;have zip:∀(i:Nat)(x:Str)(o:Option Nat),N[i]?=some x->js[i]?=some o->(x,o)∈N.zip js:=λi x o e1 e2=>
  IW (i:=i) (by rw[List.getElem?_zip_eq_some];exact⟨e1,e2⟩)
 refine⟨h1,h2,λi x e1 e2=>?_,λi x j e1 e2=>?_,h4,λy hy e=>?_,λy hy e=>?_,h6,h7⟩
 ·have z:=h3 _ (zip i x _ e1 e2);simpa using z
 ·have z:=h3 _ (zip i x _ e1 e2);simp only[Ij,IH]at z;exact⟨z.1.1,List.contains_iff_mem.mp z.1.2,z.2⟩
 ·rcases (h5 y hy).1 with z|z
  ·exact absurd e z
  ·exact z
 ·rcases (h5 y hy).2 with z|z
  ·exact absurd e z
  ·exact z
theorem eK{env:Env}:∀{names:List (Str×NameKind)},
  (names.map λ(n,k)=>if (k == .free&&env.scope.kind == .function&&env.kindOf n == some .cell) then (n,.cell) else (n,k)).lookup x=some k->∃k',(x,k')∈names/\(k'=k\/k'=.free)
 |[],h=>by cases h
 |(n,k0)::r,h=>by
  have h:List.lookup x ((if (k0 == NameKind.free&&env.scope.kind == .function&&env.kindOf n == some .cell)=true then (n,NameKind.cell) else (n,k0))::_)=_:=h
  by_cases e:x=n
  ·subst e;split at h
   next hc=>
    refine⟨k0,Ix,.inr ?_⟩;have:=(JI.mp (JI.mp hc).1).1;simpa using this
   next=>
    rw[Jm,beq_self_eq_true]at h;exact⟨k0,Ix,.inl (IK h)⟩
  ·have h':List.lookup x (r.map λ(n,k)=>if (k == .free&&env.scope.kind == .function&&env.kindOf n == some .cell) then (n,.cell) else (n,k))=some k:=by
    split at h
    ·rw[Jm,IZ.mpr e]at h;exact h
    ·rw[Jm,IZ.mpr e]at h;exact h
   obtain⟨k',m,z⟩:=eK h';exact⟨k',Io _ m,z⟩
theorem rE(I:Nat->Shared->Prop)
  (pG:∀n s,I n s->wpAny (model prog w) A (pyNext it) (λr s1=>match r with
   |none=>R (.ok .next) s1
   |some v=>wpAny (model prog w) A (letOwnedTupleGo Kk it v) (λ_ s2=>wpAny (model prog w) A (assign Kk env v) (λ_ s3=>
     wpAny (model prog w) A (forIn ifs true λc r=>if r=true then do let ok<-isTrue c env (eval c env);pure (ForInStep.yield ok) else pure (ForInStep.yield r)) (λok s4=>
      if ok=true then wpAny (model prog w) A (eval A_ env) (λx s5=>wpAny (model prog w) A (call (.builtin "list.append") [acc,x]) (λ_ s6=>∃m,m<n/\I m s6) (λ_ _=>False) s5) (λ_ _=>False) s4
      else ∃m,m<n/\I m s4) (λ_ _=>False) s3) (λ_ _=>False) s2) (λ_ _=>False) s1) (λ_ _=>False) s)
  (n:Nat)(h:I n s):codeAny (model prog w) A (.compLoop (.ListComp A_ [⟨Kk,iter,ifs,0⟩] scope pos) 0 it acc env) R s:=by
 have no:∀{α:Type}{t:Sem α}{Q:α->Shared->Prop}{E:Value->Shared->Prop}{z:Shared},wpAny (model prog w) A t Q (λ_ _=>False) z->wpAny (model prog w) A t Q E z:=λh=>wpAny_noRaise h
 refine codeAny_loop rfl I (λn s hI=>?_) n h
 show wpAny _ A ((compTurn (.ListComp A_ [⟨Kk,iter,ifs,0⟩] scope pos) 0 it acc env).onRaise (λx=>do noteFrame x env;theTreesLotGoes x)) _ _ s
 refine wpAny_noted ?_;rw[compTurn_list];refine Fr (wpAny_standAt (Fr (no (JA (pG n s hI) (λr s1 h1=>?_) λ_ _ z=>z))))
 cases r with
 |none=>exact Ik h1
 |some v=>
  refine Fr (no (JA h1 (λ_ s2 h2=>?_) λ_ _ z=>z))
  refine Fr (no (JA h2 (λ_ s3 h3=>?_) λ_ _ z=>z))
  refine Fr (no (JA h3 (λok s4 h4=>?_) λ_ _ z=>z))
  cases ok with
  |false=>exact Ik ⟨rfl,h4⟩
  |true=>
   refine Fr (Fr (no (JA h4 (λx s5 h5=>?_) λ_ _ z=>z)))
   exact Fr (no (JA h5 (λ_ s6 h6=>Ik (Ik ⟨rfl,h6⟩)) λ_ _ z=>z))
def PIf(X:Cx)(ifs:List Expr)(tt:TT):Prop:=∀(a_:List (Addr×Obj)) (s:Shared)(σ:St)(H:Hp)(Q:Bool->Hp->Prop),Inv X a_ σ H s->tt σ H Q->
 wpAny (model X.prog X.w) X.A (forIn ifs true λc r=>if r=true then do let ok<-isTrue c X.env (eval c X.env);pure (ForInStep.yield ok) else pure (ForInStep.yield r)) (TP X a_ σ Q) X.xe s
noncomputable def tYes:TT:=λ_ H Q=>Q true H
theorem wo:PIf X [] tYes:=λa_ s σ H Q I h=>wpAny_tests_nil ⟨H,I,h⟩
theorem xI(h:PT X c t):PIf X [c] t:=λa_ s σ H Q I q=>wpAny_tests_one (h a_ s σ H Q I q)
noncomputable def qz(js:List (Option Nat))(wi:TI)(g:TG)(tt:TT)(te:TE):TE:=λσ H Q=>wi σ H λJ H1=>∀p,H1 p=none->∃W:Nat->Nat->St->Hp->Prop,(∃m,W 0 m (jx js σ) (upd H1 p (.lst [])))/\
 ∀(i:Nat) m K8 H,W i m K8 H->(J.stop i H/\Q (.ref p) H)\/(J.go i H/\∀x H',J.yld i H x H'->g x K8 H' λKr H2=>tt Kr H2 λb H3=>
  if b=true then te Kr H3 λy H4=>∃ys,H4 p=some (.lst ys)/\ys.length<sizeLine/\∃m',m' < m/\W (i+1) m' Kr (upd H4 p (.lst (ys++[y]))) else ∃m',m' < m/\W (i+1) m' Kr H3)
section
variable {X:Cx}
theorem mQ(h_:eL N js scope X.env.scope X.N=true)(JO:X.calm=true)(hi:PI X tg iter wi)
  (hg:∀C s2 H2 fp pn,PG (compCx X scope C N s2 H2 fp pn) tg g) (ht:∀C s2 H2 fp pn,PIf (compCx X scope C N s2 H2 fp pn) ifs tt) (he:∀C s2 H2 fp pn,PE (compCx X scope C N s2 H2 fp pn) A_ te)
  (hs:∀x,foldedSetIterable iter X.env x=pure x) (I:Inv X a_ σ H s)(h:qz js wi g tt te σ H Q)
  (fin:∀(D C:Addr)(s5:Shared)(H4:Hp)(m5:Str->Option Value),s5.heap.Ns C m5->fE X a_ H4 C->(∀h',Heap.SameBut C s5.heap h'->Inv X a_ σ H4 {s5 with heap:=h'})->Q (.ref D) H4->compPost (model X.prog X.w) X.A X.xe use Qf (.ref D) C (.ok .next) s5) :
  wpAny (model X.prog X.w) X.A (comprehension (.ListComp A_ [⟨tg,iter,ifs,0⟩] scope pos) scope X.env JP (newList []) false (eval iter X.env) use) Qf X.xe s:=by
 have O:=kC h_;have Lm:∀y∈scope.names,y.2=.free->∃c,X.env.cells.lookup y.1=some c:=λy hy e=>I.ok.has y.1 (.inl (O.nf y hy e))
 refine wpAny_comprehension_free (use:=use) rfl hs (ka Lm) O.k1 O.nl (thn (hi a_ s σ H _ I h) λxv s1 h1=>thn h1 λO2 s2 h2=>?_)
 obtain⟨it,fp,tn,J,H2,rfl,I2,T,Ov,f2,hQ⟩:=h2;refine Jd (gV ?_);dsimp only;have NF:(s2.heap.push {cls:=.type "list",dict:=none,data:=.seq ([]:List Value).toArray}).objs.size=s2.heap.objs.size+1:=Heap.size_push ..;have Qq:((s2.heap.push {cls:=.type "list",dict:=none,data:=.seq ([]:List Value).toArray}).push {cls:=.type "dict",data:=.dict #[]}).objs.size=s2.heap.objs.size+1+1:=by rw[Heap.size_push,NF]
 have NA:(pushCells ((s2.heap.push {cls:=.type "list",dict:=none,data:=.seq ([]:List Value).toArray}).push {cls:=.type "dict",data:=.dict #[]}) scope.names).Ns (s2.heap.objs.size+1) (λ_=>none):=by
  rw[<-NF];exact (Heap.Ns.new _ (.type "dict")).keeps (pushCells_keeps _ _)
 have keep:∀b o,s2.heap.get? b=some o->(pushCells ((s2.heap.push {cls:=.type "list",dict:=none,data:=.seq ([]:List Value).toArray}).push {cls:=.type "dict",data:=.dict #[]}) scope.names).get? b=some o:=λb o e=>
  pushCells_keeps _ _ b o (Il _ (Il _ e))
 have Qr:(pushCells ((s2.heap.push {cls:=.type "list",dict:=none,data:=.seq ([]:List Value).toArray}).push {cls:=.type "dict",data:=.dict #[]}) scope.names).get? s2.heap.objs.size=some {cls:=.type "list",data:=.seq ([]:List Value).toArray}:=
  pushCells_keeps _ _ _ _ (Il _ (Iz _ rfl))
 have OE:=cellsFrom_ok scope.names ((s2.heap.push {cls:=.type "list",dict:=none,data:=.seq ([]:List Value).toArray}).push {cls:=.type "dict",data:=.dict #[]}) (s2.heap.objs.size+1+1) [] ⟨λ_ _ hm=>(nomatch hm),List.Pairwise.nil⟩ (by rw[Qq];exact Iq _)
 rw[Qq]at OE;rw[NF];generalize pushCells ((s2.heap.push {cls:=.type "list",dict:=none,data:=.seq ([]:List Value).toArray}).push {cls:=.type "dict",data:=.dict #[]}) scope.names=M9 at NA keep Qr OE ⊢;have Qs:H2 s2.heap.objs.size=none:=I2.h_.fresh (Iq _);have Rt:H2 (s2.heap.objs.size+1)=none:=I2.h_.fresh (JF _);have Ru:s2.heap.objs.size+1≠s2.heap.objs.size:=Nat.succ_ne_self _;obtain⟨W,⟨m0,w0⟩,pG⟩:=hQ s2.heap.objs.size Qs;have Ke:∀b∈fp,b<s2.heap.objs.size:=λb hb=>by
  obtain⟨o,e,_⟩:=T.obj 0 _ Ov b hb;exact Ir e
 have lk:∀x c,(cellsFrom (s2.heap.objs.size+1+1) scope.names []++aQ scope.names X.env.cells []).lookup x=some c->(x,c)∈cellsFrom (s2.heap.objs.size+1+1) scope.names []\/X.env.cells.lookup x=some c:=λx c e=>by
  rcases IX.mp (bG e) with z|z
  ·exact .inl z
  ·exact .inr (bN (acc:=[]) (λp hp=>nomatch hp) _ z)
 have Kf:∀x c,X.env.cells.lookup x=some c->c<s2.heap.objs.size:=λx c e=>by
  obtain⟨v,o,ho,hd⟩:=I2.cell x c e;exact Ir ho
 have cne:∀b∈fp,∀x c,(cellsFrom (s2.heap.objs.size+1+1) scope.names []++aQ scope.names X.env.cells []).lookup x=some c->c≠b:=λb hb x c e=>by
  rcases lk x c e with z|z
  ·have a1:=(aI z).2;exact Nat.ne_of_gt (Iw (Ke b hb) (IR (JD _ 2) a1))
  ·exact (f2 b hb).2.2.2.2.1 x c z
 let Xc:Cx:=compCx X scope (s2.heap.objs.size+1) N s2 H2 fp a_
 have Rv:Xc.Ok:=by
  refine⟨I2.ok.mod,O.k1,I2.ok.glob,I2.ok.blt,JF _,λx y c e1 e2=>?_,λx hx=>?_,λx c e1 e2=>?_,I2.ok.hd,I2.ok.frames,.inl rfl,λb hb=>?_,I2.bs,IR I2.ok.bsz I2.sz,λb o e hb=>?_,λb hb hm=>?_,I2.stack,I2.stkFree⟩
  ·rcases lk x c e1 with z1|z1<;>rcases lk y c e2 with z2|z2
   ·exact name_of_addr OE.apart z1 z2
   ·have a1:=(aI z1).2;exact absurd (Iw (Kf _ _ z2) (IR (JD _ 2) a1)) (Js _)
   ·have a1:=(aI z2).2;exact absurd (Iw (Kf _ _ z1) (IR (JD _ 2) a1)) (Js _)
   ·exact I2.ok.inj x y c z1 z2
  ·have hx:(relabel scope X.env).names.lookup x=some .cell\/(relabel scope X.env).names.lookup x=some .free:=hx;have key:(x,NameKind.free)∈scope.names\/(x,NameKind.cell)∈scope.names:=by
    rcases hx with hx|hx
    ·obtain⟨k',m,z⟩:=eK hx;rcases z with z|z
     ·subst z;exact .inr m
     ·subst z;exact .inl m
    ·obtain⟨k',m,z⟩:=eK hx;rcases z with z|z<;>(subst z;exact .inl m)
   rcases key with key|key
   ·obtain⟨c,e⟩:=Lm _ key rfl;exact dC (IU _ (bG (oh key e)))
   ·obtain⟨c,e⟩:=cz key (n:=s2.heap.objs.size+1+1);exact dC (Jg _ e)
  ·have e1:scope.names.lookup x=some .cell:=IH.mp e1;obtain⟨c1,h1⟩:=cz (PySem.mem_of_lookup e1) (n:=s2.heap.objs.size+1+1);obtain⟨c2,h2⟩:=dC h1;have e2:(cellsFrom (s2.heap.objs.size+1+1) scope.names []++aQ scope.names X.env.cells []).lookup x=some c:=e2;rw[List.lookup_append,h2]at e2;cases e2;have a1:=(aI (bG h2)).2;exact IR (JD _ 2) a1
  ·exact⟨IM (Nat.lt_succ_of_lt (Ke b hb)),λx c e=>cne b hb x c e⟩
  ·rcases (f2 b hb).2.2.2.1 with z|z
   ·exact I2.ok.noex b o e z
   ·exact absurd (Iw (Ir e) (IR I2.ok.bsz z)) (Js _)
  ·rcases Iv.mp (I2.stkSub b hm) with z|z
   ·exact (f2 b hb).2.1 z
   ·exact (f2 b hb).2.2.1 z
 have I3:Inv Xc [] (jx js σ) (upd H2 s2.heap.objs.size (.lst [])) {s2 with heap:=M9}:=by
  refine⟨Rv,rfl,I2.bare,Un.laid keep (Iq _) Qs,⟨_,NA,λi x v e1 e2 e3=>?_⟩,λx c e=>?_,?_,λx c e=>?_,λp hp=>?_,?_,?_⟩
  ·have e2:(js.map λo=>o.bind λj=>(σ[j]?).bind id)[i]?=some (some v):=e2
   rw[IJ]at e2;cases q:js[i]? with
   |none=>rw[q]at e2;cases e2
   |some o=>
    rw[q]at e2;cases o with
    |none=>cases e2
    |some j=>
     obtain⟨a1,a2,a3⟩:=O.fr i x j e1 q;have hv:σ[j]?=some (some v):=by
      cases z:σ[j]? with
      |none=>rw[Option.map_some,Option.bind_some,z]at e2;cases e2
      |some y=>
       rw[Option.map_some,Option.bind_some,z]at e2;have e2:some (id y)=some (some v):=e2;rw[show y=some v from IK e2]
     obtain⟨m,hn,hl⟩:=I2.loc;obtain⟨u,r,l⟩:=hl j x v a1 hv (.inr (.inl a3));refine⟨u,r,?_⟩;rcases l with ⟨k,_⟩|⟨k,c,e,o,ho,hd⟩
     ·rw[show X.env.kindOf x=some .cell from a3]at k;cases k
     ·have only:∀y∈scope.names,y.1=x->y.2=.free:=λy hy Rx=>?_
      ·refine .inr ⟨.inl (gw I2.ok.kind a3 a2 only),c,eg (IU _ (bG (oh a2 e))) (λp hp hx=>?_),o,keep _ _ ho,hd⟩
       rcases IX.mp hp with z|z
       ·have:=only _ (aI z).1 hx;cases this
       ·have z:=bN (acc:=[]) (λp hp=>nomatch hp) p z
        rw[hx,e]at z;exact (IK z).symm
      obtain⟨i1,h1,MC⟩:=List.mem_iff_getElem.mp hy;obtain⟨i2,h2,NG⟩:=List.mem_iff_getElem.mp a2;have:i1=i2:=by
       refine (List.getElem_inj (h₀:=by rw[ID];exact h1) (h₁:=by rw[ID];exact h2) O.ndn).mp ?_
       rw[List.getElem_map,List.getElem_map,MC,NG];exact Rx
      subst this;rw[MC]at NG;rw[NG]
  ·rcases lk x c e with z|z
   ·exact⟨none,(OE.empty x c z).1⟩
   ·obtain⟨v,o,ho,hd⟩:=I2.cell x c z;exact⟨v,o,keep _ _ ho,hd⟩
  ·show upd H2 _ _ (s2.heap.objs.size+1)=none;rw[ae Ru];exact Rt
  ·rcases lk x c e with z|z
   ·have a1:=(aI z).2;show upd H2 _ _ c=none;rw[ae (Nat.ne_of_gt (Iw (Nat.lt_add_of_pos_right (by decide:0<2)) a1))]
    exact I2.h_.fresh (IR (JD _ 2) a1)
   ·have a2:=Kf _ _ z;show upd H2 _ _ c=none;rw[ae (IM a2)];exact I2.freeC x c z
  ·have hp:p∈X.pn++a_:=by rw[Jz]at hp;exact hp
   obtain⟨e,n,ne,nf,d⟩:=I2.pin p hp;refine⟨keep _ _ e,by rw[ae (IM (Ir e))];exact n,IM (Nat.lt_succ_of_lt (Ir e)),λhm=>?_,d⟩
   rcases Iv.mp (I2.stkSub _ hm) with z|z
   ·exact ne z
   ·exact nf z
  ·exact I2.h_.laid keep (Iq _) ⟨Nat.zero_le _,[],0,.nil,Qr⟩
  ·show (js.map _).length=N.length;rw[ID,O.len]
 have Pe:∀{H':Hp},(∀b∈fp,H' b=none)->∀b∈fp,fE Xc [] H' b:=λ{H'} hn b hb=>by
  refine⟨hn b hb,IM (Nat.lt_succ_of_lt (Ke b hb)),λhm=>?_,.inl hb,λx c e=>cne b hb x c e,λp hp=>(f2 b hb).2.2.2.2.2 p (by rw[Jz]at hp;exact hp)⟩
  rcases Iv.mp (I2.stkSub b hm) with z|z
  ·exact (f2 b hb).2.1 z
  ·exact (f2 b hb).2.2.1 z
 have Nu:tn 0 M9:=T.keep 0 _ _ Ov λb hb o e=>keep b o e
 have Ow:∀b∈fp,(upd H2 s2.heap.objs.size (.lst [])) b=none:=λb hb=>by
  rw[ae (IM (Ke b hb))];exact (f2 b hb).1
 have Om:codeAny (model X.prog X.w) X.A (.compLoop (.ListComp A_ [⟨tg,iter,ifs,0⟩] scope pos) 0 (.ref it) (.ref s2.heap.objs.size) (compEnvC scope (cellsFrom (s2.heap.objs.size+1+1) scope.names []++aQ scope.names X.env.cells []) (s2.heap.objs.size+1) X.env))
   (compPost (model X.prog X.w) X.A X.xe use Qf (.ref s2.heap.objs.size) (s2.heap.objs.size+1)) {s2 with heap:=M9}:=by
  refine rE (λn s'=>∃i K8 H',Inv Xc [] K8 H' s'/\tn i s'.heap/\(∀b∈fp,H' b=none)/\W i n K8 H') ?_ m0 ⟨0,_,_,I3,Nu,Ow,w0⟩
  rintro n s4 ⟨i,K8,H4,I4,Qt,Qu,w4⟩;rcases pG i n K8 H4 w4 with ⟨stop,q⟩|⟨go,step⟩
  ·refine thn (T.done Xc rfl rfl rfl JO i [] s4 K8 H4 (λ_ _=>False) I4 (Pe Qu) Qt stop) λr s5 ⟨hr,I5⟩=>?_
   subst hr;obtain⟨m5,Ry,_⟩:=I5.loc;have MD:Un (frs X.stack) fp H2 H4 s2.heap s5.heap:=I5.base;have L9:∀b o,s2.heap.get? b=some o->b≠s2.heap.objs.size+1:=λb o e=>IM (Nat.lt_succ_of_lt (Ir e))
   have fC:H4 (s2.heap.objs.size+1)=none:=I5.free;refine fin _ _ _ H4 m5 Ry (I2.fpOk (JF _) fC) (λh' Ks=>?_) q
   refine I2.call' (s':={s5 with heap:=h'}) (ch:=fp) I5.os ⟨λb o q n hb hx=>(Ks.2 b (L9 b o q)).trans (MD.keep b o q n hb hx),λb o q n hb hx=>?_,MD.free,λb o q hx=>?_,MD.JS,MD.JN,MD.JU⟩ ?_ I5.bare (λb hb=>⟨(f2 b hb).2.2.2.1,(f2 b hb).2.1,(f2 b hb).2.2.2.2.1,(f2 b hb).2.2.2.2.2⟩)
   ·obtain⟨sl,z⟩:=MD.slot b o q n hb hx;exact⟨sl,(Ks.2 b (L9 b o q)).trans z⟩
   ·obtain⟨o',z⟩:=MD.there b o q hx;exact⟨o',(Ks.2 b (L9 b o q)).trans z⟩
   ·exact I5.h_.keptT λb u ob hb q=>(Ks.2 b λz=>by rw[z,fC]at hb;cases hb).trans q
  ·refine thn (T.item Xc rfl rfl rfl JO i [] s4 K8 H4 (λ_ _=>False) I4 (Pe Qu) Qt go) λr s5 z_=>?_
   obtain⟨u,hr,h5⟩:=z_;subst hr;refine thn h5 λ_ s6 z_=>?_
   obtain⟨x,H6,I6,r6,y6,NH,Rz⟩:=z_;have RA:=I6.pinned (Pe Rz) (T.obj _ _ NH);refine thn (hg _ _ _ _ _ _ s6 K8 H6 x u _ RA r6 (step x H6 y6)) λ_ s7 z_=>?_
   obtain⟨Kw,H7,I7,q7⟩:=z_;refine thn (ht _ _ _ _ _ _ s7 Kw H7 _ I7 q7) λok s8 z_=>?_
   obtain⟨H8,I8,q8⟩:=z_;have b_:∀{H9:Hp}{s9:Shared}{Pf:St},Inv Xc ([]++jj fp s6.heap) Pf H9 s9->Inv Xc [] Pf H9 s9/\tn (i+1) s9.heap/\∀b∈fp,H9 b=none:=λ{H9 s9 Pf} I9=>by
    refine⟨I9.unpinned,T.keep _ _ _ NH λb hb o e=>(I9.pin (b,o) (IU _ (IU _ (dU hb e)))).1,λb hb=>?_⟩
    obtain⟨o,e,d⟩:=T.obj _ _ NH b hb;exact (I9.pin (b,o) (IU _ (IU _ (dU hb e)))).2.1
   cases ok with
   |false=>
    rw[Im IP]at q8 ⊢;obtain⟨m',hm,w8⟩:=q8;obtain⟨b1,b2,b3⟩:=b_ I8;exact⟨m',hm,i+1,Kw,H8,b1,b2,b3,w8⟩
   |true=>
    rw[Iu rfl]at q8 ⊢;refine thn (he _ _ _ _ _ _ s8 Kw H8 _ I8 q8) λy s9 z_=>?_
    obtain⟨z,H9,I9,r9,ys,e9,hl,m',hm,w9⟩:=z_;refine thn (lA (X:=Xc) _ s9 Kw H9 (.ref s2.heap.objs.size) [z] (.ref s2.heap.objs.size) [y] (λ_ Qv=>Qv=upd H9 s2.heap.objs.size (.lst (ys++[z]))) I9 rfl (.cons r9 .nil) ⟨_,ys,z,rfl,rfl,e9,hl,rfl⟩) λ_ S8 z_=>?_
    obtain⟨_,Qv,RB,_,RC⟩:=z_;subst RC;obtain⟨b1,b2,b3⟩:=b_ RB;exact⟨m',hm,i+1,Kw,_,b1,b2,b3,w9⟩
 exact codeAny_compStart_list Om (T.self _ 0 _ _ _ Nu Om)
theorem xG(h_:eL N js scope X.env.scope X.N=true)(JO:X.calm=true)(hi:PI X tg iter wi)
  (hg:∀C s2 H2 fp pn,PG (compCx X scope C N s2 H2 fp pn) tg g) (ht:∀C s2 H2 fp pn,PIf (compCx X scope C N s2 H2 fp pn) ifs tt) (he:∀C s2 H2 fp pn,PE (compCx X scope C N s2 H2 fp pn) A_ te)
  (hs:∀x,foldedSetIterable iter X.env x=pure x:=by intro _;rfl):PE X (.ListComp A_ [⟨tg,iter,ifs,0⟩] scope pos) (qz js wi g tt te):=λa_ s σ H Q I h=>by
 rw[eval_ListComp];exact mQ (use:=none) h_ JO hi hg ht he hs I h λD C s5 H4 m5 hn _ key q=>⟨m5,hn,λh' MB=>⟨.ref D,H4,key h' MB,rfl,q⟩⟩
theorem iW{spos:Pos}(hN:X.N.Nodup)(hy:X.N[i]?=some y)(hl:X.env.scope.names.lookup y=some .local)(h_:eL N js scope X.env.scope X.N=true)(JO:X.calm=true)(hi:PI X tg iter wi)
  (hg:∀C s2 H2 fp pn,PG (compCx X scope C N s2 H2 fp pn) tg g) (ht:∀C s2 H2 fp pn,PIf (compCx X scope C N s2 H2 fp pn) ifs tt) (he:∀C s2 H2 fp pn,PE (compCx X scope C N s2 H2 fp pn) A_ te)
  (hs:∀x,foldedSetIterable iter X.env x=pure x) (ME:swapsWith (.ListComp A_ [⟨tg,iter,ifs,0⟩] scope pos) (some (.Name y py)) spos.line X.env=pure true) :
  PS X (.Assign [.Name y py] (.ListComp A_ [⟨tg,iter,ifs,0⟩] scope pos) spos) (A8 (qz js wi g tt te) (q9 i)):=by
 intro a_ s σ H D I h;rw[exec_Assign_Name_used _ _ _ _ ME];refine Fr (wpAny_standAt (Fr ?_));show wpAny _ _ (do let _<-comprehension (.ListComp A_ [⟨tg,iter,ifs,0⟩] scope pos) scope X.env _ (newList []) false (eval iter X.env) (some (assign (.Name y py) X.env))) _ _ s
 refine Fr (JA (mQ (use:=some (assign (.Name y py) X.env)) (Qf:=λ_ s'=>SP X a_ D .next s') h_ JO hi hg ht he hs I h λDa C s5 H4 m5 hn fp key q=>?_) (λ_ s' hq=>Ik (Ik hq)) λ_ _ z=>z)
 show wpAny _ _ (assign (.Name y py) X.env (.ref Da)) _ _ _;have J:Inv X a_ σ H4 s5:=key s5.heap (Heap.SameBut.refl _ _);obtain⟨oC,es,ep,eC,rC⟩:=id hn;obtain⟨f0,f1,f2,f3,f4,f5⟩:=id fp;have JC:Inv X (a_++[(C,oC)]) σ H4 s5:=J.pins_of λp hp=>by
  rcases IX.mp hp with z|z
  ·exact J.pin p (IU _ z)
  ·have e:p=(C,oC):=by simpa using z
   subst e;exact⟨eC,f0,f1,f2,λv hv=>by
    have z:=rC.1;rw[show oC.data=.cell v from hv]at z;cases z⟩
 refine thn ((iH (pos:=py) hN hy (.inl hl) (.inr hl)) _ s5 σ H4 (.ref Da) (.ref Da) (λo_ H'=>H'=H4/\D.nx o_ H') JC rfl ⟨rfl,q⟩) λ_ s6 z_=>?_
 obtain⟨Mt,H6,I6,e6,q6⟩:=z_;subst e6;have RD:s6.heap.get? C=some oC:=(I6.pin (C,oC) (IU _ (IU _ (by simp)))).1
 refine⟨m5,hn.at' λo e=>?_,λh' Ks=>⟨Mt,H6,?_,q6⟩⟩
 ·rw[eC]at e;cases e;exact RD
 ·exact (Inv.unpinned I6).turned (t':=s6.toks) (it:=C) (λb o hb e=>(Ks.2 b hb).trans e) f0 f1 f3 f4 f5
end
end L2
namespace L2
open PySem PySem.Spec PySem.Calls PyProof.Rows PySem.W PySem.Builtin PySem.Builtin.ObjectAttr PySem.Builtin.Getset_descriptor
section
variable {h:Heap}{os:OsState}{o:Obj}{K:JJ}
theorem wq(X:K.In h)(hx:h.get? a=some o)(hc:o.cls=.ref C)(hm:PySem.W.mroIn K C (.type "object")=some true)(hq:R (.ok (.ret (.ref C))) ⟨h,g,d,t,os⟩) :
  codeAny (model prog w) A (.call (.builtin "getset_descriptor.__get__") ⟨[.builtin "object.__class__",.ref a,tp],[]⟩) R ⟨h,g,d,t,os⟩:=by
 have L0:PySem.W.Looks (model prog w) h (typeOf (.ref a)) (.ref C):=hc▸(PySem.W.Looks.ld hx).andThen .now;have L1:=PySem.W.looks_mroIn (M:=model prog w) X hm;refine codeAny_call_builtin KF.slot_gs.plain KF.entry_gs (KF.slot_gs.check _ _ _ _ _ _ _ _ KF.type_class (KF.args_gs _ _ _) ?_);unfold Builtin.«getset_descriptor.__get__» descrGet;rw[dga_obj];refine Fr (Ik ?_);unfold descrGetter descrCheckInstance descrNameAndClass isInstance;simp only[KF.owner_class]
 repeat lk
 refine⟨Code.quiet_builtin _ (by decide +kernel),codeAny_builtin KF.entry_class ?_⟩
 unfold Builtin.«object.__class__» shownTypeOf
 repeat lk
 exact hq
theorem nP(X:K.In h)(ha:findIn K (.ref C) name=some (some b))(hg:specialIn K b "__get__"=some (some gg))(ht:takesIn K b=some true):Looks M h (find (.ref a) (.ref C) name) (.bind gg b):=by
 have L1:=looks_findIn (M:=M) X ha;have L2:Looks M h (getOf (some b)) (some gg):=looks_specialIn X hg;have L3:=looks_takesIn (M:=M) X ht;refine L1.andThen (L2.andThen ?_);exact (show Looks M h (dataDescriptor? (some b) (some gg)) (some (gg,b)) from L3.andThen .now).andThen (Looks.tag .now)
variable (Qw:findIn K (.ref C) "__getattribute__"=some (some (.builtin "BaseException.__getattribute__"))) (Qx:findIn K (.ref C) "__getattr__"=some none) (LD:findIn K (.ref C) "__class__"=some (some (.builtin "object.__class__")))
 (hn:specialIn K (.builtin "object.__class__") "__get__"=some (some (.builtin "getset_descriptor.__get__"))) (M_:takesIn K (.builtin "object.__class__")=some true) (hm:mroIn K C (.type "object")=some true) (OF:mroIn K C (.type "BaseException")=some true)
include LD hn M_ hm in
theorem rY(X:K.In h)(hx:h.get? a=some o)(hc:o.cls=.ref C)(hq:Q (.done (.ret (.ref C))) ⟨h,g,d,t,os⟩) :
  wpAny (model prog w) A (Builtin.«object.__getattribute__» ⟨[.ref a,.str "__class__" tk],[]⟩) Q E ⟨h,g,d,t,os⟩:=by
 have L0:Looks (model prog w) h (typeOf (.ref a)) (.ref C):=hc▸(Looks.ld hx).andThen .now;have L1:=nP (M:=model prog w) (a:=a) X LD hn M_;refine Fr (Ik (Fr (Ik (Fr (L0.at (Fr (L1.at ?_)))))));show wpAny _ _ (bindTo _ _ _ _) _ _ _;refine Fr (Jc (wpAny_call (wq X hx hc hm ?_)));exact Ik hq
include OF in
theorem rS(X:K.In h)(hx:h.get? a=some o)(hc:o.cls=.ref C)(hq:Q () ⟨h,g,d,t,os⟩):wpAny M A (checkBuiltinCall "BaseException.__getattribute__" ⟨[.ref a,nameV],[]⟩) Q E ⟨h,g,d,t,os⟩:=by
 have hk:builtinKind "BaseException.__getattribute__"=some .slot:=by decide +kernel
 have MF:splitId "BaseException.__getattribute__"=some ("BaseException","__getattribute__"):=by decide +kernel
 have L0:Looks M h (typeOf (.ref a)) (.ref C):=hc▸(Looks.ld hx).andThen .now;have L1:=looks_mroIn (M:=M) X OF;have ha:=F.args_bexc_ga (.ref a) nameV;simp only[checkBuiltinCall,hk,MF];refine Fr ?_
 ·unfold isInstance;refine Fr (L0.at (L1.at ?_))
  repeat (first|assumption|wp_step)
include Qw Qx LD hn M_ hm OF in
theorem uk(X:K.In h)(hx:h.get? a=some o)(hc:o.cls=.ref C)(hq:Q (some (.ref C)) ⟨h,g,d,t+1,os⟩):wpAny (model prog w) A (getAttr? (.ref a) "__class__") Q E ⟨h,g,d,t,os⟩:=by
 have L0:Looks (model prog w) h (typeOf (.ref a)) (.ref C):=hc▸(Looks.ld hx).andThen .now;have L1:=looks_findIn (M:=model prog w) X Qw;have L2:=looks_findIn (M:=model prog w) X Qx;have FB:Slot "ValueError" "__getattribute__" "BaseException.__getattribute__":=F.excAttr_ValueError.ga;have f3:=FB.bind (.ref a);unfold getAttr? getAttrBy? getAttrBy;refine Fr (wpAny_mkText (Fr (wpAny_attempt (Jc (Fr (L0.at (Fr (L1.at ?_))))))));show wpAny _ _ (getAttrByItsOwn _ _ _ _ _ _) _ _ _;refine Fr (L2.at (Fr (wpAny_attempt (Jc ?_))));unfold callGetattribute;show wpAny _ _ (boundAndCalled _ _ _) _ _ _;unfold boundAndCalled;rw[f3];refine Fr (Ik ?_);refine wpAny_call (codeAny_call_builtin FB.plain F.entry_bexc_ga (rS OF X hx hc (rY LD hn M_ hm X hx hc ?_)));exact Ik (Ik hq)
end
structure ExcI (K:JJ)(C:Addr):Prop where
 hd:PySem.W.hasDictIn K C=true
 ga:findIn K (.ref C) "__getattribute__"=some (some (.builtin "BaseException.__getattribute__"))
 gn:findIn K (.ref C) "__getattr__"=some none
 cl:findIn K (.ref C) "__class__"=some (some (.builtin "object.__class__"))
 n:specialIn K (.builtin "object.__class__") "__get__"=some (some (.builtin "getset_descriptor.__get__"))
 tk:takesIn K (.builtin "object.__class__")=some true
 m:mroIn K C (.type "object")=some true
 mB:mroIn K C (.type "BaseException")=some true
theorem uR{K:JJ}(X:ExcI K C):KitX K (.ref a) (.ref C) (λh=>∃o,h.get? a=some o/\o.cls=.ref C) where
 ty:=λM h _ ⟨o,hx,hc⟩=>hc▸(Looks.ld hx).andThen .now
 it:=λ_ _ Y _=>by
  obtain⟨RE,Ll,_⟩:=any_some X.hd;unfold clsIn at Ll;split at Ll
  ·rename_i c' d' Qn Nq ho;intro A' Q' E' s' k q;unfold isType loadHead;exact Fr (wpAny_loadPart (k _ _ (Y _ _ ho)) (Ik q))
  ·cases Ll
 ne:=λh tp dd its n sl Y RF=>by
  obtain⟨RE,Ll,_⟩:=any_some X.hd;refine Bool.eq_false_iff.mpr λq=>?_
  have e:C=tp:=Value.ref.inj (IH.mp q);subst e;unfold clsIn at Ll;split at Ll
  ·rename_i c' d' Qn Nq ho;have z:=(Y _ _ ho).symm.trans RF;cases z
  ·cases Ll
 ca:=λ{prog w A E Q s} Y ⟨o,hx,hc⟩ k=>uk X.ga X.gn X.cl X.n X.tk X.m X.mB Y hx hc k
end L2
namespace L2
open PySem PySem.Spec PySem.Calls PyProof.Rows PySem.W PySem.Builtin PySem.Builtin.ObjectAttr
section
variable {h:Heap}{os:OsState}{o:Obj}{K:JJ}
end
end L2
namespace L2
open PySem PySem.Spec PySem.Calls PyProof.Rows PySem.W
section
variable {α β:Type}{n:Nat}{f:Nat->Nat->Bool}{p:Array Nat}
end
section
variable {s:Shared}
end
end L2
namespace L2
open PySem PySem.Spec PySem.Calls PyProof.Rows PySem.W
open AutoSeq1 (wpAny_loadPart')
open MeetsSeq MeetsSeq2 MeetsSeq3
section
variable {A:Around}{s:Shared}
end
end L2
namespace L2
open PySem PySem.Spec PyProof.Rows
section
variable {A:Around}{s:Shared}{St:Nat->Heap->Prop}{xs:Array (Int×Tok)}
end
end L2
namespace L2
open PySem PySem.Spec PySem.Calls PyProof.Rows PySem.W
open AutoSeq1 (wpAny_loadPart')
noncomputable def lt2(p q:Int×Int):Bool:=if p.1=q.1 then decide (p.2<q.2) else decide (p.1<q.1)
def P2(h:Heap)(v:Value)(p:Int×Int):Prop:=∃a n t u dd sl,v=.ref a/\h.get? a=some {cls:=.type "tuple",dict:=dd,data:=.seq #[.int p.1 t,.int p.2 u] n,slots:=sl}
theorem Bw(l b:Addr)(n m:Nat)(p q:Int×Int)(t1 t2 t3 t4:Tok)(dd LB:Option Addr)(sl Ky:Array (Option Value)) :
  Meets (Builtin.«tuple.__lt__» ⟨[.ref l,.ref b],[]⟩)
   (λA R s=>s.heap.get? l=some {cls:=.type "tuple",dict:=dd,data:=.seq #[.int p.1 t1,.int p.2 t2] n,slots:=sl}/\s.heap.get? b=some {cls:=.type "tuple",dict:=LB,data:=.seq #[.int q.1 t3,.int q.2 t4] m,slots:=Ky}/\
    R (.ok (.ret (.bool (lt2 p q)))) s):=by
 intro prog w A R s h;obtain⟨hp,g,d,tk,os⟩:=s;obtain⟨hl,hb,h⟩:=h;have f2:=AutoSeq1.sub_tuple_tuple
 wp_walk using wpAny_loadPart' hl,wpAny_loadPart' hb
 show wpAny _ _ (eqBool (.int p.1 t1) (.int q.1 t3)) _ _ _;refine wpAny_eqBool_int ?_;by_cases e:p.1=q.1
 ·rw[IH.mpr e];unfold lt2 at h;rw[Iu e]at h
  wp_walk
  show wpAny _ _ (eqBool (.int p.2 t2) (.int q.2 t4)) _ _ _;refine wpAny_eqBool_int ?_;by_cases e2:p.2=q.2
  ·rw[IH.mpr e2]
   wp_walk
   rw[e2]at h;simp only[Int.lt_irrefl,decide_false]at h;exact h
  ·rw[IZ.mpr e2];simp only[Bool.not_false,if_true];refine Fr (wpAny_rule ?_);refine Fr (show wpAny _ _ (compareOp .Lt (.int p.2 t2) (.int q.2 t4)) _ _ _ from wpAny_lt_int ?_)
   wp_walk
   exact h
 ·rw[IZ.mpr e];unfold lt2 at h;rw[Im e]at h;simp only[Bool.not_false,if_true];refine Fr (wpAny_rule ?_);refine Fr (show wpAny _ _ (compareOp .Lt (.int p.1 t1) (.int q.1 t3)) _ _ _ from wpAny_lt_int ?_)
  wp_walk
  exact h
theorem CY{prog:Program}{w:World}{A:Around}{E:Value->Shared->Prop}{s:Shared}{u v:Value}{p q:Int×Int}{Q:Value->Shared->Prop}(hu:A.units<cLine)(h1:P2 s.heap u p)(h2:P2 s.heap v q)(h:Q (.bool (lt2 p q)) s):wpAny (model prog w) A (richCompare .Lt u v) Q E s:=by
 obtain⟨a,n,t1,t2,dd,sl,rfl,g1⟩:=h1;obtain⟨b,m,t3,t4,LB,Ky,rfl,g2⟩:=h2;exact richCompare_meets_room (op:=.Lt) ⟨_,g1,rfl⟩ ⟨_,g2,rfl⟩ PySem.F.slot_tuple_lt PySem.F.entry_tuple_lt (PySem.F.args_tuple_lt_2 _ _) (Bw a b n m p q t1 t2 t3 t4 dd LB sl Ky)
  ⟨g1,g2,show Value.bool (lt2 p q)≠Value.notImplemented/\Q (.bool (lt2 p q)) s from⟨(λx=>nomatch x),h⟩⟩ hu
section
variable {prog:Program}{w:World}{A:Around}{s:Shared}{St:Nat->Heap->Prop}{I l:Addr}{fp wr:List Addr}{n:Nat}{P:Nat->Value->Prop}{R:Result->Shared->Prop}{kw:List (Str×Value)}{Q:Value->Shared->Prop}{E:Value->Shared->Prop}
theorem xm{G:Heap->Prop}(W:Walks prog w A.in1 I fp wr n P St)(bt:Nat->Nat->Bool)(Pg:∀i j vi vj (s:Shared)(Q:Value->Shared->Prop)(E:Value->Shared->Prop),G s.heap->P i vi->P j vj->Q (.bool (bt i j)) s->wpAny (model prog w) A.in1 (richCompare .Lt vi vj) Q E s)(S:Addr)(Na:S∉fp)(hG:∀h h',G h->(∀b o,b∉wr->b≠S->h.get? b=some o->h'.get? b=some o)->G h') :
  ∀(k j:Nat)(s:Shared)(vb:Value)(c:Nat),n-(j+1)=k->j+1<=n->St (j+1) s.heap->G s.heap->P (argBest bt j) vb->s.heap.get? S=some {cls:=.type "list",dict:=none,data:=.seq #[vb,vb] c,slots:=#[]}->
  (∀v h' tk,P (argBest bt (n-1)) v->(∀b o,b∉wr->b≠S->s.heap.get? b=some o->h'.get? b=some o)->R (.ok (.ret v)) {s with heap:=h',toks:=tk})->
  codeAny (model prog w) A (.builtin "min.loop" ⟨[.ref I,.none,.ref S],kw⟩) R s:=by
 have OG:S∉wr:=λh=>Na (W.sub _ h)
 have Kg:(toString "min"++toString ".loop" : String) = "min.loop":=by decide
 intro k
 induction k with
 |zero=>
  intro j s vb c hk hj Kb hg OH hS hR;have Lg:j+1=n:=by omega
  refine codeAny_builtin F.entry_min_loop ?_;rw[Around.under_plainId F.plain_min_loop _];show wpAny _ A.in1 (seqItems? (.ref S) >>=_) _ _ s;refine Fr (wpAny_seqItems hS rfl ?_);show wpAny _ A.in1 (tryCatch (pyNext (.ref I)) _ >>=_) _ _ s;refine Fr (wpAny_tryCatch (W.done s _ _ (Lg▸Kb) λh' tk Kp=>?_))
  have LF:=Kp S _ OG hS;show wpAny _ A.in1 (updateSeq S (λ_=>#[]) >>=_) _ _ _
  refine Fr (wpAny_updateSeq LF rfl (Fr (wpAny_letGo (Ik ?_))));exact hR vb _ tk (by rw[<-Lg];exact OH) λb o MG LS e=>(IQ _ _ (IB LS)).trans (Kp b o MG e)
 |succ k ih=>
  intro j s vb c hk hj Kb hg OH hS hR;have H_:j+1<n:=by omega
  refine codeAny_builtin F.entry_min_loop ?_;rw[Around.under_plainId F.plain_min_loop _];show wpAny _ A.in1 (seqItems? (.ref S) >>=_) _ _ s;refine Fr (wpAny_seqItems hS rfl ?_);show wpAny _ A.in1 (tryCatch (pyNext (.ref I)) _ >>=_) _ _ s;refine Fr (wpAny_tryCatch (W.item (j+1) s _ _ H_ Kb λv h' tk hP K9 Kp=>?_))
  have LF:=Kp S _ OG hS;show wpAny _ A.in1 (tryCatch (holding [v,v] (richCompare .Lt v vb >>=_)) _ >>=_) _ _ _;refine Fr (wpAny_tryCatch (Jc (Fr (Pg (j+1) (argBest bt j) v vb _ _ _ (hG _ _ hg λb o h1 _ h2=>Kp b o h1 h2) hP OH ?_))))
  refine Fr (Jc (Jt (Fr (wpAny_letGo (Ik ?_)))));cases hb:bt (j+1) (argBest bt j) with
  |true=>
   simp only[if_true];refine Fr (wpAny_updateSeq LF rfl (Fr (wpAny_letGo ?_)));rw[Kg];refine Ik ⟨plainId_quiet F.plain_min_loop _,ih (j+1) _ v _ (by omega) H_ (W.frame _ _ _ K9 λb Ph o e=>?_) (hG _ _ hg λb o h1 h2 h3=>(IQ _ _ (IB h2)).trans (Kp b o h1 h3)) (by simp only[argBest,hb,if_true];exact hP) (Jb _ LF rfl) λv' NI Ln NJ Lo=>?_⟩
   ·exact (IQ _ _ (λh:S=b=>Na (by rw[h];exact Ph))).trans e
   ·exact hR v' NI Ln NJ λb o MG LS e=>Lo b o MG LS ((IQ _ _ (IB LS)).trans (Kp b o MG e))
  |false=>
   simp only[Jf,if_false];refine Fr (wpAny_letGo ?_);rw[Kg];refine Ik ⟨plainId_quiet F.plain_min_loop _,ih (j+1) _ vb c (by omega) H_ K9 (hG _ _ hg λb o h1 _ h3=>Kp b o h1 h3) (by simp only[argBest,hb,Jf,if_false];exact OH) LF λv' NI Ln NJ Lo=>?_⟩
   exact hR v' NI Ln NJ λb o MG LS e=>Lo b o MG LS (Kp b o MG e)
theorem xh{items:Array Value}(hl:s.heap.IsList l items)(h:∀s2:Shared,s2={s with heap:=s.heap.push {cls:=.type "list_iterator",data:=.fields #[.ref l,.int 0 0]}}->(s2.heap.IsListIter s.heap.objs.size l 0/\s2.heap.IsList l items)->(∀b∈[s.heap.objs.size,l],b<s2.heap.objs.size)->l≠s.heap.objs.size->Q (.ref s.heap.objs.size) s2):wpAny (model prog w) A (pyIter (.ref l)) Q E s:=by
 have H_:l<s.heap.objs.size:=by obtain⟨_,e,_⟩:=hl;exact Ir e
 refine wpAny_pyIter_list hl (h _ rfl ⟨⟨_,Iz _ rfl,rfl,rfl⟩,hl.push _⟩ (λb hb=>?_) (IM H_))
 have e:(s.heap.push {cls:=.type "list_iterator",data:=.fields #[.ref l,.int 0 0]}).objs.size=s.heap.objs.size+1:=by simp[Heap.push]
 show b<(s.heap.push _).objs.size;rw[e];rcases Iv.mp hb with rfl|hb
 ·omega
 ·rw[IY.mp hb];exact Nat.lt_succ_of_lt H_
theorem yV{items:Array Value}{ps:Nat->Int×Int}(hh:A.handled=none)(hu:A.units+1<cLine)(hl:s.heap.IsList l items)(hn:0<items.size)(hP:∀i v,items[i]?=some v->P2 s.heap v (ps i))
  (h:∀v h' tk,items[argBest (λi j=>lt2 (ps i) (ps j)) (items.size-1)]?=some v->(∀b o,s.heap.get? b=some o->h'.get? b=some o)->Q v {s with heap:=h',toks:=tk}) :
  wpAny (model prog w) A (call (.builtin "min") [.ref l]) Q E s:=by
 have Kg:(toString "min"++toString ".loop" : String) = "min.loop":=by decide
 refine kmk_tree F.kind_min F.plain_min F.entry_min (by unfold argsOk;kernel_rfl) ?_
 show wpAny _ A.in1 (Builtin.Builtins.bindParams "min" ["key","default"] 0 ⟨[],[]⟩ >>=_) _ _ s;refine Fr (wpAny_of_eq (show Builtin.Builtins.bindParams "min" ["key","default"] 0 ⟨[],[]⟩=pure [none,none] from rfl) ?_);refine Fr (Ik ?_);refine Fr (xh hl λs2 e st RG RH=>?_)
 refine Fr (Jd ?_);have Na:s2.heap.objs.size∉[s.heap.objs.size,l]:=λhm=>Js _ (RG _ hm)
 have W:=Walks.list (prog:=prog) (w:=w) (A:=A.in1) hh s.heap.objs.size l RH items;have OG:s2.heap.objs.size∉[s.heap.objs.size]:=λh=>Na (W.sub _ h)
 have Le:∀b o,s.heap.get? b=some o->b∉[s.heap.objs.size]/\b≠s2.heap.objs.size:=λb o eb=>by
  have h1:=Ir eb;refine⟨λhm=>?_,?_⟩
  ·rw[IY.mp hm]at h1;exact Js _ h1
  ·subst e;exact IM (Ir (Il _ eb))
 rw[Kg];refine Ik ⟨plainId_quiet F.plain_min_loop _,?_⟩;refine codeAny_builtin F.entry_min_loop ?_;rw[Around.under_plainId F.plain_min_loop _];have Kb:(λi h=>h.IsListIter s.heap.objs.size l i/\h.IsList l items) 0 (s2.heap.push {cls:=.type "list",data:=.seq #[]}):=W.frame 0 s2.heap _ st λb _ o e=>Il _ e
 have hS:(s2.heap.push {cls:=.type "list",data:=.seq #[]}).get? s2.heap.objs.size=some {cls:=.type "list",dict:=none,data:=.seq #[] 0,slots:=#[]}:=Iz _ rfl;show wpAny _ A.in1 (seqItems? (.ref _) >>=_) _ _ _;refine Fr (wpAny_seqItems hS rfl ?_);show wpAny _ A.in1 (tryCatch (pyNext (.ref _)) _ >>=_) _ _ _;have kp:∀{h':Heap},(∀b o,b∉[s.heap.objs.size]->(s2.heap.push {cls:=.type "list",data:=.seq #[]}).get? b=some o->h'.get? b=some o)->∀b o,s.heap.get? b=some o->h'.get? b=some o:=λ{h'} hk=>by
  subst e;exact old_kept λb o hb e=>hk b o hb (Il _ e)
 refine Fr (wpAny_tryCatch (W.item 0 _ _ _ hn Kb λv h' tk RI K9 Kp=>?_))
 have LF:=Kp _ _ OG hS;show wpAny _ A.in1 (updateSeq _ (λ_=>#[v,v]) >>=_) _ _ _
 refine Fr (wpAny_updateSeq LF rfl ?_);rw[Kg];refine Ik ⟨plainId_quiet F.plain_min_loop _,xm (G:=λhx=>∀b o,s.heap.get? b=some o->hx.get? b=some o) W (λi j=>lt2 (ps i) (ps j)) (λi j vi vj sx Q' E' hg hi hj hq=>?_) _ Na (λha hb g k b o eb=>k b o (Le b o eb).1 (Le b o eb).2 (g b o eb)) _ 0 _ v _ rfl hn (W.frame _ _ _ K9 λb Ph o e=>?_) (λb o eb=>?_) RI (Jb _ LF rfl) λv' NI Ln NJ Lo=>?_⟩
 ·have up:∀{v i},items[i]?=some v->P2 sx.heap v (ps i):=λ{v i} hv=>by
   obtain⟨a,n,t,u,dd,sl,e1,e2⟩:=hP i v hv;exact⟨a,n,t,u,dd,sl,e1,hg _ _ e2⟩
  exact CY (by show A.units+1<cLine;exact hu) (up hi) (up hj) hq
 ·exact (IQ _ _ (λh:_=b=>Na (by rw[h];exact Ph))).trans e
 ·exact (IQ _ _ (IB (Le b o eb).2)).trans (kp Kp b o eb)
 ·have:=h v' NI Ln NJ (λb o eb=>Lo b o (Le b o eb).1 (Le b o eb).2 ((IQ _ _ (IB (Le b o eb).2)).trans (kp Kp b o eb)))
  subst e;exact this
end
end L2
namespace L2
open PySem PySem.Spec PyProof.Rows
inductive D where
 |j_|bl (b:Bool)|int (i:Int)|str (x:Str)|tup (ds:List D)|e_ (ds:List D)|ref (a:Addr)
 |obj (i:Nat) (C:Addr) (ns:List Nat) (ds:List D)|Kz (ks:List Key) (ds:List D)|JT (ks:List (List Int)) (ds:List D)
noncomputable def oq:Nat->Nat->List Nat
 |0,_=>[]
 |k+1,n=>if n=0 then [] else (n % 128)::oq k (n / 128)
noncomputable def fnm(n:Nat):Str:=⟨(oq n n).toArray⟩
noncomputable def v8:List Nat->Nat
 |[]=>0
 |d::r=>d+128*v8 r
theorem jX:∀(k n:Nat),n<=k->v8 (oq k n)=n
 |0,n,h=>by have:n=0:=Nat.le_zero.mp h;subst this;rfl
 |k+1,n,h=>by
  unfold oq;by_cases z:n=0
  ·rw[Iu z];exact z.symm
  ·rw[Im z];show n % 128+128*v8 (oq k (n / 128))=n;rw[jX k (n / 128) (by omega)]
   omega
theorem mf(h:fnm a=fnm b):a=b:=by
 have e:oq a a=oq b b:=by
  have:=congrArg (λx:Str=>x.cps.toList) h
  simpa [fnm] using this
 have:=congrArg v8 e
 rwa [jX a a (Iq _),jX b b (Iq _)]at this
noncomputable def tH(k:List Int):Int:=reduceHash (Builtin.Tuple.tupleHashOf (k.map hashInt))
def aY(a:Addr)(xs:List (List Int×Addr×Value)):Heap->Prop:=λh=>∃o es ep,h.get? a=some o/\o.ExactDict/\o.data=.dict es ep/\es.toList=xs.map λx=>(⟨tH x.1,.ref x.2.1,x.2.2⟩:DictEntry)
structure TabOk (K:JJ)(H:Hp)(a:Addr) (ks:List (List Int)) (xs:List (List Int×Addr×Value)) (vs:List V):Prop where
 kx:xs.map (·.1)=ks
 nd:ks.Nodup
 sz:ks.length<=sizeLine
 no:(a == sysModules)=false
 vx:Vals vs (xs.map (·.2.2))
 at_:∀x∈xs,SqT K H x.2.1 (x.1.map V.int)
def SqM(K:JJ)(a:Addr)(xs:List V):Prop:=∃(its:List Value) (n:Nat),K.lookup a=some {cls:=.type "list",data:=.seq its.toArray n}/\its.length<=sizeLine/\Vals xs its
def SqF(K:JJ)(H:Hp)(a:Addr)(xs:List V):Prop:=(∃o,H a=some (.s_ o (.lst xs)))\/SqM K a xs
theorem SqM.sq{K:JJ}(h:SqM K a xs):SqL K H a xs:=by
 obtain⟨its,n,e,z,r⟩:=h;exact .inr ⟨_,its.toArray,n,e,rfl,rfl,rfl,by simpa using z,by simpa using r⟩
theorem SqF.sq{K:JJ}(h:SqF K H a xs):SqL K H a xs:=by
 rcases h with h|h
 ·exact .inl (.inr h)
 ·exact h.sq
mutual
def Den(K:JJ)(H:Hp):D->V->Prop
 |.j_,v=>v=.j_
 |.bl b,v=>v=.bl b
 |.int i,v=>v=.int i
 |.str x,v=>v=.str x
 |.tup ds,v=>∃p vs,v=.ref p/\SqT K H p vs/\DenL K H ds vs
 |.e_ ds,v=>∃p vs,v=.ref p/\SqF K H p vs/\DenL K H ds vs
 |.ref a,v=>v=.ref a
 |.obj _ C ns ds,v=>∃p vs o dx,v=.ref p/\H p=some (.s_ o (.ins C dx ((ns.map fnm).zip vs)))/\ns.length=vs.length/\DenL K H ds vs
 |.Kz ks ds,v=>∃p vs o,v=.ref p/\H p=some (.s_ o (.dK (ks.zip vs)))/\ks.length=vs.length/\DenL K H ds vs
 |.JT ks ds,v=>∃p vs o xs,v=.ref p/\H p=some (.s_ o (.ext (aY p xs)))/\TabOk K H p ks xs vs/\DenL K H ds vs
def DenL(K:JJ)(H:Hp):List D->List V->Prop
 |[],vs=>vs=[]
 |d::ds,vs=>∃v r,vs=v::r/\Den K H d v/\DenL K H ds r
end
structure TM (K:JJ)(H H':Hp):Prop where
 t:∀p xs,SqT K H p xs->SqT K H' p xs
 f:∀p xs,SqF K H p xs->SqF K H' p xs
 g:∀p o u,H p=some (.s_ o u)->H' p=some (.s_ o u)
theorem TM.refl{K:JJ}(H:Hp):TM K H H:=⟨λ_ _ h=>h,λ_ _ h=>h,λ_ _ _ h=>h⟩
theorem TM.trans{K:JJ}(a:TM K H H1)(b:TM K H1 H2):TM K H H2:=⟨λp xs h=>b.t p xs (a.t p xs h),λp xs h=>b.f p xs (a.f p xs h),λp o u h=>b.g p o u (a.g p o u h)⟩
theorem TM.un{K:JJ}(t:∀b xs,H b=some (.tup xs)->H' b=some (.tup xs))(f:∀b o u,H b=some (.s_ o u)->H' b=some (.s_ o u)):TM K H H':=⟨λq xs h=>by
 rcases h with (h|⟨ob,h⟩)|h
 ·exact .inl (.inl (t _ _ h))
 ·exact .inl (.inr ⟨ob,f _ _ _ h⟩)
 ·exact .inr h,λq xs h=>by
 rcases h with ⟨ob,h⟩|h
 ·exact .inl ⟨ob,f _ _ _ h⟩
 ·exact .inr h,f⟩
theorem TM.new{K:JJ}(hp:H p=none):TM K H (upd H p o):=
 .un (λb xs h=>by rw[ae (ay h hp)];exact h) λb ob u h=>by rw[ae (ay h hp)];exact h
theorem TM.put{K:JJ}(hp:H p=some u)(h1:∀xs,u≠.tup xs)(h2:∀ob v,u≠.s_ ob v):TM K H (upd H p o):=
 .un (λb xs h=>by rw[ae (de h hp λz=>h1 _ z.symm)];exact h) λb ob u h=>by rw[ae (de h hp λz=>h2 _ _ z.symm)];exact h
section
variable {K:JJ}
mutual
theorem Den.mono(t:TM K H H'):∀{d:D}{v:V},Den K H d v->Den K H' d v
 |.j_,_,h=>h
 |.bl _,_,h=>h
 |.int _,_,h=>h
 |.str _,_,h=>h
 |.ref _,_,h=>h
 |.tup ds,v,h=>by
  obtain⟨p,vs,e,s,l⟩:=h;exact⟨p,vs,e,t.t _ _ s,DenL.mono t l⟩
 |.e_ ds,v,h=>by
  obtain⟨p,vs,e,s,l⟩:=h;exact⟨p,vs,e,t.f _ _ s,DenL.mono t l⟩
 |.obj i C ns ds,v,h=>by
  obtain⟨p,vs,o,dx,e,s,z,l⟩:=h;exact⟨p,vs,o,dx,e,t.g _ _ _ s,z,DenL.mono t l⟩
 |.Kz ks ds,v,h=>by
  obtain⟨p,vs,o,e,s,z,l⟩:=h;exact⟨p,vs,o,e,t.g _ _ _ s,z,DenL.mono t l⟩
 |.JT ks ds,v,h=>by
  obtain⟨p,vs,o,xs,e,s,z,l⟩:=h;exact⟨p,vs,o,xs,e,t.g _ _ _ s,⟨z.kx,z.nd,z.sz,z.no,z.vx,λx hx=>t.t _ _ (z.at_ x hx)⟩,DenL.mono t l⟩
theorem DenL.mono(t:TM K H H'):∀{ds:List D}{vs:List V},DenL K H ds vs->DenL K H' ds vs
 |[],_,h=>h
 |d::ds,vs,h=>by
  obtain⟨v,r,e,a,b⟩:=h;exact⟨v,r,e,Den.mono t a,DenL.mono t b⟩
end
theorem DenL.length:∀{ds:List D}{vs:List V},DenL K H ds vs->ds.length=vs.length
 |[],_,h=>by cases h;rfl
 |d::ds,vs,h=>by
  obtain⟨v,r,rfl,_,b⟩:=h;rw[IN,IN,DenL.length b]
theorem DenL.get:∀{ds:List D}{vs:List V}{i:Nat}{d:D},DenL K H ds vs->ds[i]?=some d->∃v,vs[i]?=some v/\Den K H d v
 |[],_,_,_,_,e=>by simp at e
 |d::ds,vs,0,d',h,e=>by
  obtain⟨v,r,rfl,a,b⟩:=h;simp at e;subst e;exact⟨v,rfl,a⟩
 |d::ds,vs,i+1,d',h,e=>by
  obtain⟨v,r,rfl,a,b⟩:=h;obtain⟨u,e1,e2⟩:=DenL.get (i:=i) b (by simpa using e)
  exact⟨u,by simpa using e1,e2⟩
theorem DenL.get':∀{ds:List D}{vs:List V}{i:Nat}{v:V},DenL K H ds vs->vs[i]?=some v->∃d,ds[i]?=some d/\Den K H d v
 |[],_,_,_,h,e=>by cases h;simp at e
 |d::ds,vs,0,v',h,e=>by
  obtain⟨v,r,rfl,a,b⟩:=h;simp at e;subst e;exact⟨d,rfl,a⟩
 |d::ds,vs,i+1,v',h,e=>by
  obtain⟨v,r,rfl,a,b⟩:=h;obtain⟨u,e1,e2⟩:=DenL.get' (i:=i) b (by simpa using e)
  exact⟨u,by simpa using e1,e2⟩
theorem DenL.append:∀{ds es:List D}{vs ws:List V},DenL K H ds vs->DenL K H es ws->DenL K H (ds++es) (vs++ws)
 |[],_,_,_,h,g=>by cases h;exact g
 |d::ds,_,_,_,h,g=>by
  obtain⟨v,r,rfl,a,b⟩:=h;exact⟨v,r++_,rfl,a,DenL.append b g⟩
theorem DenL.nil:DenL K H [] []:=rfl
theorem DenL.cons(a:Den K H d v)(b:DenL K H ds vs):DenL K H (d::ds) (v::vs):=⟨v,vs,rfl,a,b⟩
theorem DenL.one(a:Den K H d v):DenL K H [d] [v]:=.cons a .nil
theorem DenL.take:∀{ds:List D}{vs:List V} (n:Nat),DenL K H ds vs->DenL K H (ds.take n) (vs.take n)
 |_,_,0,_=>rfl
 |[],_,n+1,h=>by cases h;rfl
 |d::ds,_,n+1,h=>by
  obtain⟨v,r,rfl,a,b⟩:=h;exact⟨v,r.take n,rfl,a,DenL.take n b⟩
theorem DenL.drop:∀{ds:List D}{vs:List V} (n:Nat),DenL K H ds vs->DenL K H (ds.drop n) (vs.drop n)
 |_,_,0,h=>h
 |[],_,n+1,h=>by cases h;rfl
 |d::ds,_,n+1,h=>by
  obtain⟨v,r,rfl,a,b⟩:=h;exact DenL.drop n b
theorem DenL.set(a:Den K H d v):∀{ds:List D}{vs:List V} (i:Nat),DenL K H ds vs->DenL K H (ds.set i d) (vs.set i v)
 |[],_,_,h=>by cases h;rfl
 |_::ds,_,0,h=>by
  obtain⟨_,r,rfl,_,b⟩:=h;exact⟨v,r,rfl,a,b⟩
 |e::ds,_,i+1,h=>by
  obtain⟨u,r,rfl,c,b⟩:=h;exact⟨u,_,rfl,c,DenL.set a i b⟩
theorem DenL.int_of:∀{ns:List Int}{vs:List V},DenL K H (ns.map D.int) vs->vs=ns.map V.int
 |[],_,h=>h
 |n::ns,vs,h=>by
  obtain⟨v,r,rfl,a,b⟩:=h;rw[DenL.int_of b];cases (show v=.int n from a);rfl
theorem DenL.of_int:∀{ns:List Int},DenL K H (ns.map D.int) (ns.map V.int)
 |[]=>rfl
 |n::ns=>⟨.int n,ns.map V.int,rfl,rfl,DenL.of_int⟩
end
structure XE where
 c:Nat
 pl:Option (Nat×D)
def XD(K:JJ)(H:Hp)(i:XE)(dx:Option Addr):Prop:=match i.pl with
 |none=>dx=none
 |some (f,y)=>∃p o v,dx=some p/\H p=some (.s_ o (.xd [(fnm f,v)]))/\Den K H y v
theorem XD.mono{K:JJ}(t:TM K H H')(h:XD K H i dx):XD K H' i dx:=by
 obtain⟨c,pl⟩:=i;cases pl with
 |none=>exact h
 |some q=>
  obtain⟨p,o,v,e,g,d⟩:=h;exact⟨p,o,v,e,t.g _ _ _ g,d.mono t⟩
inductive DO where
 |lst (ds:List D)
 |dk (ks:List Key) (ds:List D)
 |dt (ks:List (List Int)) (ds:List D)
 |ins (i:Nat) (C:Addr) (ns:List Nat) (ds:List D)
 |exc (i:XE) (cls:Value)
 |MI (φ:Heap->Prop)
noncomputable abbrev MH:=Addr->Option DO
noncomputable def put(M:MH)(a:Addr)(o:DO):MH:=λb=>if b=a then some o else M b
theorem af:put M a o a=some o:=Iu rfl
theorem aj(h:b≠a):put M a o b=M b:=Im h
theorem bc:put (put M a o) a u=put M a u:=by
 funext b;unfold put;split<;>rfl
def OD(K:JJ)(H:Hp)(a:Addr):DO->Prop
 |.lst ds=>∃vs,H a=some (.lst vs)/\DenL K H ds vs
 |.dk ks ds=>∃vs,H a=some (.dK (ks.zip vs))/\ks.length=vs.length/\DenL K H ds vs
 |.dt ks ds=>∃vs xs,H a=some (.ext (aY a xs))/\TabOk K H a ks xs vs/\DenL K H ds vs
 |.ins _ C ns ds=>∃dx vs,H a=some (.ins C dx ((ns.map fnm).zip vs))/\ns.length=vs.length/\DenL K H ds vs
 |.exc i cls=>∃dx,H a=some (w5 a cls dx)/\XD K H i dx
 |.MI φ=>H a=some (.ext φ)
def RelM(K:JJ)(M:MH)(H:Hp):Prop:=∀a o,M a=some o->OD K H a o
noncomputable abbrev St3:=List (Option D)
def DenS(K:JJ)(H:Hp)(g_:St3)(σ:St):Prop:=g_.length=σ.length/\∀(i:Nat)(d:D),g_[i]?=some (some d)->∃v,σ[i]?=some (some v)/\Den K H d v
section
variable {K:JJ}
theorem OD.tracked(h:OD K H a o):∃u,H a=some u:=by
 cases o with
 |dt ks ds=>obtain⟨_,_,e,_⟩:=h;exact⟨_,e⟩
 |ins i C ns ds=>obtain⟨_,_,e,_⟩:=h;exact⟨_,e⟩
 |MI φ=>exact⟨_,h⟩
 |_=>obtain⟨_,e,_⟩:=h;exact⟨_,e⟩
theorem RelM.fresh(r:RelM K M H)(hp:H p=none):M p=none:=by
 cases e:M p with
 |none=>rfl
 |some o=>
  obtain⟨u,z⟩:=(r p o e).tracked;rw[hp]at z;cases z
theorem OD.stay(t:TM K H H')(e:H' a=H a)(h:OD K H a o):OD K H' a o:=by
 cases o with
 |lst ds=>obtain⟨vs,q,l⟩:=h;exact⟨vs,e.trans q,l.mono t⟩
 |dk ks ds=>obtain⟨vs,q,n,l⟩:=h;exact⟨vs,e.trans q,n,l.mono t⟩
 |dt ks ds=>obtain⟨vs,xs,q,z,l⟩:=h;exact⟨vs,xs,e.trans q,⟨z.kx,z.nd,z.sz,z.no,z.vx,λx hx=>t.t _ _ (z.at_ x hx)⟩,l.mono t⟩
 |ins i C ns ds=>obtain⟨dx,vs,q,n,l⟩:=h;exact⟨dx,vs,e.trans q,n,l.mono t⟩
 |exc i cls=>obtain⟨dx,q,x⟩:=h;exact⟨dx,e.trans q,x.mono t⟩
 |MI φ=>exact e.trans h
theorem RelM.grow(r:RelM K M H)(hp:H p=none):RelM K M (upd H p o):=λa u e=>by
 obtain⟨x,z⟩:=(r a u e).tracked;exact (r a u e).stay (.new hp) (ae (ay z hp))
theorem RelM.lay(r:RelM K M H)(hp:H p=none)(h:OD K (upd H p o) p u):RelM K (put M p u) (upd H p o):=λa x e=>by
 by_cases ha:a=p
 ·subst ha;rw[af]at e;cases e;exact h
 ·rw[aj ha]at e;exact r.grow hp a x e
theorem RelM.write(r:RelM K M H)(hp:H p=some w)(h1:∀xs,w≠.tup xs)(h2:∀ob v,w≠.s_ ob v)(h:OD K (upd H p o) p u):RelM K (put M p u) (upd H p o):=λa x e=>by
 by_cases ha:a=p
 ·subst ha;rw[af]at e;cases e;exact h
 ·rw[aj ha]at e;exact (r a x e).stay (.put hp h1 h2) (ae ha)
def Sub(M' M:MH):Prop:=∀a o,M' a=some o->M a=some o
theorem RelM.sub(r:RelM K M H)(s:Sub M' M):RelM K M' H:=λa o e=>r a o (s a o e)
theorem DenS.mono(t:TM K H H')(h:DenS K H g_ σ):DenS K H' g_ σ:=⟨h.1,λi d e=>let ⟨v,e1,e2⟩:=h.2 i d e;⟨v,e1,e2.mono t⟩⟩
theorem DenS.set{g_:St3}{σ:St}(h:DenS K H g_ σ)(e:Den K H d v):DenS K H (g_.set i (some d)) (σ.set i (some v)):=by
 refine⟨by rw[List.length_set,List.length_set];exact h.1,λj d' q=>?_⟩
 by_cases hj:i=j
 ·subst hj;rw[List.getElem?_set]at q ⊢;rw[Iu rfl]at q ⊢;rw[<-h.1];split at q
  next hl=>
   cases q;exact⟨v,Iu hl,e⟩
  next=>cases q
 ·rw[Jp hj]at q ⊢;exact h.2 j d' q
theorem DenS.drop{g_:St3}{σ:St}(h:DenS K H g_ σ):DenS K H (g_.set i none) (σ.set i none):=by
 refine⟨by rw[List.length_set,List.length_set];exact h.1,λj d' q=>?_⟩
 by_cases hj:i=j
 ·subst hj;rw[List.getElem?_set,Iu rfl]at q;split at q<;>cases q
 ·rw[Jp hj]at q ⊢;exact h.2 j d' q
theorem pp{N:List Str}{ds:List D}(h:DenL K H ds vs):DenS K H (ds.map some++List.replicate (N.length-ds.length) none) (start N vs):=by
 have hl:=h.length;refine⟨by unfold start;simp[hl],λi d e=>?_⟩
 by_cases hi:i<ds.length
 ·rw[List.getElem?_append_left (by simpa using hi),IJ]at e
  have e':ds[i]?=some d:=by
   cases q:ds[i]? with
   |none=>rw[q]at e;cases e
   |some x=>rw[q]at e;cases e;rfl
  obtain⟨v,e1,e2⟩:=h.get e';refine⟨v,?_,e2⟩;unfold start;rw[List.getElem?_append_left (by simpa [<-hl] using hi),IJ,e1]
  rfl
 ·rw[List.getElem?_append_right (by simpa using hi),List.getElem?_replicate]at e
  split at e<;>cases e
end
noncomputable abbrev VK3:=D->MH->Prop
noncomputable abbrev TE3:=St3->MH->VK3->Prop
noncomputable abbrev TT3:=St3->MH->(Bool->MH->Prop)->Prop
structure Ends3 where
 nx:St3->MH->Prop
 rt:VK3
 bk:St3->MH->Prop:=λ_ _=>False
 ct:St3->MH->Prop:=λ_ _=>False
noncomputable abbrev TS3:=Ends3->St3->MH->Prop
structure ER (K:JJ)(H:Hp)(D3:Ends3)(D2:Ends):Prop where
 nx:∀o_ H' u_ M',RelM K M' H'->DenS K H' u_ o_->TM K H H'->D3.nx u_ M'->D2.nx o_ H'
 rt:∀v H' d M',Den K H' d v->RelM K M' H'->TM K H H'->D3.rt d M'->D2.rt v H'
 bk:∀o_ H' u_ M',RelM K M' H'->DenS K H' u_ o_->TM K H H'->D3.bk u_ M'->D2.bk o_ H'
 ct:∀o_ H' u_ M',RelM K M' H'->DenS K H' u_ o_->TM K H H'->D3.ct u_ M'->D2.ct o_ H'
theorem ER.mono{K:JJ}(r:ER K H D3 D2)(t:TM K H H1):ER K H1 D3 D2:=
 ⟨λa b c d h1 h2 h3 h4=>r.nx a b c d h1 h2 (t.trans h3) h4,λa b c d h1 h2 h3 h4=>r.rt a b c d h1 h2 (t.trans h3) h4,λa b c d h1 h2 h3 h4=>r.bk a b c d h1 h2 (t.trans h3) h4,λa b c d h1 h2 h3 h4=>r.ct a b c d h1 h2 (t.trans h3) h4⟩
section
variable {K:JJ}
theorem gh:Den K H (.int i) (.int i):=rfl
theorem bC{b:Bool}:Den K H (.bl b) (.bl b):=rfl
theorem vJ:Den K H .j_ .j_:=rfl
theorem fY:Den K H (.ref a) (.ref a):=rfl
theorem ra(h:SqT K H p vs)(l:DenL K H ds vs):Den K H (.tup ds) (.ref p):=⟨p,vs,rfl,h,l⟩
end
noncomputable abbrev R3:=D->D->MH->VK3->Prop
abbrev Back(K:JJ)(H:Hp)(Q:VK3)(Q2:VK):Prop:=∀v H' d M',Den K H' d v->RelM K M' H'->TM K H H'->Q d M'->Q2 v H'
def Op3(X:Cx)(f:Value->Value->Sem Value)(r3:R3):Prop:=∃r2,OpR X f r2/\∀(H:Hp)(x y:D)(v u:V)(M:MH)(Q:VK3)(Q2:VK),Den X.K H x v->Den X.K H y u->RelM X.K M H->r3 x y M Q->Back X.K H Q Q2->r2 v u H Q2
def Un3(X:Cx)(f:Value->Sem Value)(r3:D->MH->VK3->Prop):Prop:=∃r2,UnR X f r2/\∀(H:Hp)(x:D)(v:V)(M:MH)(Q:VK3)(Q2:VK),Den X.K H x v->RelM X.K M H->r3 x M Q->Back X.K H Q Q2->r2 v H Q2
def qL(X:Cx)(f:Value)(r3:List D->MH->VK3->Prop):Prop:=∃r2,CallR X f r2/\∀(H:Hp)(xs:List D)(vs:List V)(M:MH)(Q:VK3)(Q2:VK),DenL X.K H xs vs->RelM X.K M H->r3 xs M Q->Back X.K H Q Q2->r2 vs H Q2
noncomputable def c3(d:D):TE3:=λ_ M Q=>Q d M
def rI3(C:Int->Int->Prop)(g:Int->Int->D):R3:=λx y M Q=>∃i j,x=.int i/\y=.int j/\C i j/\Q (g i j) M
section
variable {X:Cx}{a b c e:Expr}{ta tb tc te:TE3}{pos:Pos}
noncomputable def q3(t:TE3):TT3:=λσ M Q=>t σ M λx M1=>∃k,x=.bl k/\Q k M1
variable {tA Nt:TT3}{aF:List Expr}
theorem xY{K:JJ}(h:DenL K H ds vs)(e:atI ds i=some d):∃v,atI vs i=some v/\Den K H d v:=by
 unfold atI at e ⊢;rw[<-h.length];cases q:ixN ds.length i with
 |none=>rw[q]at e;cases e
 |some j=>
  rw[q]at e;obtain⟨v,e1,e2⟩:=h.get (show ds[j]?=some d from e);exact⟨v,e1,e2⟩
def Is(M:MH)(x:D)(ds:List D):Prop:=x=.e_ ds\/∃a,x=.ref a/\M a=some (.lst ds)
theorem RelM.list{K:JJ}(rm:RelM K M H)(h:Is M x ds)(dv:Den K H x v):∃p vs,v=.ref p/\SqL K H p vs/\DenL K H ds vs:=by
 rcases h with rfl|⟨a,rfl,h⟩
 ·obtain⟨p,vs,e,s,l⟩:=dv;exact⟨p,vs,e,s.sq,l⟩
 ·obtain⟨vs,e,l⟩:=rm a _ h;exact⟨a,vs,dv,.of e,l⟩
def isIB:V->D->Prop:=λv d=>(∃i,v=.int i/\d=.int i)\/(∃b,v=.bl b/\d=.bl b)
theorem isIB.den{K:JJ}(h:isIB v d):Den K H d v:=by
 rcases h with ⟨i,rfl,rfl⟩|⟨b,rfl,rfl⟩<;>rfl
theorem jo(h:OpR X f (rI C g))(hg:∀i j,isIB (g i j) (g3 i j)):Op3 X f (rI3 C g3):=
 ⟨_,h,λH x y v u M Q Q2 dx dy rm ⟨i,j,e1,e2,hc,q⟩ k=>by
  subst e1;subst e2;cases (show v=.int i from dx);cases (show u=.int j from dy);exact⟨i,j,rfl,rfl,hc,k _ H _ M (hg i j).den rm (.refl _) q⟩⟩
def ma(g:Int->Int->D):R3:=λx y M Q=>∃i j,x=.int i/\y=.int j/\Q (g i j) M
theorem dG(h:OpR X f (rI0 g))(hg:∀i j,isIB (g i j) (g3 i j)):Op3 X f (ma g3):=
 ⟨_,h,λH x y v u M Q Q2 dx dy rm ⟨i,j,e1,e2,q⟩ k=>by
  subst e1;subst e2;cases (show v=.int i from dx);cases (show u=.int j from dy);exact⟨i,j,rfl,rfl,k _ H _ M (hg i j).den rm (.refl _) q⟩⟩
noncomputable def big:Nat:=2 ^ 4096
theorem pQ(h:n<10 ^ 250):n<big:=Iw h (by decide +kernel)
def dX(i j:Int):Prop:=(i.natAbs<big/\j.natAbs<big)
theorem hZ{k:Int}(h:k.natAbs<big):Builtin.Int.intBits k<=2 ^ 20:=by
 unfold Builtin.Int.intBits;by_cases h0:k.natAbs=0
 ·have:k=0:=by omega
  subst this;decide
 ·have S9:k.natAbs.log2<4096:=(Nat.log2_lt h0).mpr h;split<;>omega
theorem wM:OpR X (binaryOp .Mult) (rI dX λi j=>.int (i*j)):=opI λ_ _ _ _ _ _ _ hc q=>mul_int q (.of_bits (hZ hc.1) (hZ hc.2))
def kU(_ j:Int):Prop:=0<j/\j.toNat<big
theorem vE:OpR X (binaryOp .FloorDiv) (rI kU λi j=>.int (i / j)):=opI λi j _ _ _ _ _ hc q=>by
 have h1:(0:Int)<j:=hc.1;have h2:j.toNat<big:=hc.2;refine floordiv_int (by omega) (by rw[Int.fdiv_eq_ediv_of_nonneg i (by omega)];exact q) (.inl (PyProof.noPylong_of_log2 ?_))
 have h3:j.natAbs<2 ^ 4096:=by
  have e:j.natAbs=j.toNat:=by omega
  rw[e];exact h2
 have h0:j.natAbs≠0:=by omega
 have:=(Nat.log2_lt h0).mpr h3;omega
theorem Cc:Op3 X (binaryOp .Add) (ma λi j=>.int (i+j)):=dG Bi λ_ _=>.inl ⟨_,rfl,rfl⟩
theorem Ec:Op3 X (binaryOp .Sub) (ma λi j=>.int (i-j)):=dG zr λ_ _=>.inl ⟨_,rfl,rfl⟩
theorem DJ:Op3 X (binaryOp .Mult) (rI3 dX λi j=>.int (i*j)):=jo wM λ_ _=>.inl ⟨_,rfl,rfl⟩
theorem AE:Op3 X (binaryOp .FloorDiv) (rI3 kU λi j=>.int (i / j)):=jo vE λ_ _=>.inl ⟨_,rfl,rfl⟩
theorem BE:Op3 X (binaryOp .Mod) (rI3 (λ_ j=>0<j) λi j=>.int (i % j)):=jo Aw λ_ _=>.inl ⟨_,rfl,rfl⟩
theorem DE:Op3 X (binaryOp .Pow) (rI3 uC λi j=>.int (i ^ j.toNat)):=jo zI λ_ _=>.inl ⟨_,rfl,rfl⟩
theorem BX:Op3 X (binaryOp .RShift) (rI3 (λ_ j=>0<=j) λi j=>.int (i / 2 ^ j.toNat)):=jo zh λ_ _=>.inl ⟨_,rfl,rfl⟩
theorem DD:Op3 X (binaryOp .BitAnd) (ma λi j=>.int (Builtin.bitAnd i j)):=dG Bq λ_ _=>.inl ⟨_,rfl,rfl⟩
theorem Gy:Op3 X (compareOp .Lt) (ma λi j=>.bl (decide (i<j))):=dG C4 λ_ _=>.inr ⟨_,rfl,rfl⟩
theorem FY:Op3 X (compareOp .LtE) (ma λi j=>.bl (decide (i<=j))):=dG Dx λ_ _=>.inr ⟨_,rfl,rfl⟩
theorem FH:Op3 X (compareOp .Gt) (ma λi j=>.bl (decide (j<i))):=dG DP λ_ _=>.inr ⟨_,rfl,rfl⟩
theorem Fs:Op3 X (compareOp .GtE) (ma λi j=>.bl (decide (j<=i))):=dG CZ λ_ _=>.inr ⟨_,rfl,rfl⟩
def rU3(g:Int->Int):D->MH->VK3->Prop:=λx M Q=>∃i,x=.int i/\Q (.int (g i)) M
theorem Df:Un3 X (unaryOp .USub) (rU3 λi=>-i):=⟨_,Ad,λH x v M Q Q2 dx rm ⟨i,e,q⟩ k=>by
 subst e;cases (show v=.int i from dx);exact⟨i,rfl,k _ H _ M gh rm (.refl _) q⟩⟩
noncomputable def D.isN:D->Bool
 |.j_=>true
 |_=>false
theorem qN{K:JJ}{d:D}(h:Den K H d v):decide (v=.j_)=d.isN:=by
 cases d with
 |j_=>cases (show v=.j_ from h);rfl
 |bl b=>cases (show v=.bl b from h);rfl
 |int i=>cases (show v=.int i from h);rfl
 |str x=>cases (show v=.str x from h);rfl
 |tup ds=>obtain⟨p,vs,rfl,_⟩:=h;rfl
 |e_ ds=>obtain⟨p,vs,rfl,_⟩:=h;rfl
 |ref a=>cases (show v=.ref a from h);rfl
 |Kz ks ds=>obtain⟨p,vs,_,rfl,_⟩:=h;rfl
 |_=>obtain⟨p,vs,_,_,rfl,_⟩:=h;rfl
def rIs3:R3:=λx y M Q=>y=.j_/\Q (.bl x.isN) M
def rIsN3:R3:=λx y M Q=>y=.j_/\Q (.bl (!x.isN)) M
theorem Fw:Op3 X (compareOp .Is) rIs3:=⟨_,Ap,λH x y v u M Q Q2 dx dy rm ⟨e,q⟩ k=>by
 subst e;refine⟨dy,?_⟩;rw[qN dx];exact k _ H _ M bC rm (.refl _) q⟩
theorem xy:Op3 X (compareOp .IsNot) rIsN3:=⟨_,wa,λH x y v u M Q Q2 dx dy rm ⟨e,q⟩ k=>by
 subst e;refine⟨dy,?_⟩;rw[qN dx];exact k _ H _ M bC rm (.refl _) q⟩
variable {id:String}
def rLen3:List D->MH->VK3->Prop:=λxs M Q=>∃x ds,xs=[x]/\(Is M x ds\/x=.tup ds)/\Q (.int ds.length) M
theorem B1:qL X (.builtin "len") rLen3:=⟨_,mz,λH xs vs M Q Q2 dl rm ⟨x,ds,e,h,q⟩ k=>by
 subst e;obtain⟨v,r,rfl,dv,rfl⟩:=dl;rcases h with h|rfl
 ·obtain⟨a,ys,rfl,sq,l⟩:=rm.list h dv;exact⟨a,ys,rfl,.inl sq,by rw[<-l.length];exact k _ H _ M gh rm (.refl _) q⟩
 ·obtain⟨a,ys,rfl,sq,l⟩:=dv;exact⟨a,ys,rfl,.inr sq,by rw[<-l.length];exact k _ H _ M gh rm (.refl _) q⟩⟩
def rMax3:List D->MH->VK3->Prop:=λxs M Q=>∃i j,xs=[.int i,.int j]/\Q (.int (if j > i then j else i)) M
theorem Cp(hc:X.calm=true):qL X (.builtin "max") rMax3:=⟨_,rX hc,λH xs vs M Q Q2 dl rm ⟨i,j,e,q⟩ k=>by
 subst e;obtain⟨v,r,rfl,dv,w,r',rfl,dw,rfl⟩:=dl;cases (show v=.int i from dv);cases (show w=.int j from dw);exact⟨i,j,rfl,k _ H _ M gh rm (.refl _) q⟩⟩
def rMin3:List D->MH->VK3->Prop:=λxs M Q=>∃i j,xs=[.int i,.int j]/\Q (.int (if j<i then j else i)) M
theorem BN(hc:X.calm=true):qL X (.builtin "min") rMin3:=⟨_,sR hc,λH xs vs M Q Q2 dl rm ⟨i,j,e,q⟩ k=>by
 subst e;obtain⟨v,r,rfl,dv,w,r',rfl,dw,rfl⟩:=dl;cases (show v=.int i from dv);cases (show w=.int j from dw);exact⟨i,j,rfl,k _ H _ M gh rm (.refl _) q⟩⟩
end
abbrev BackS(K:JJ)(H:Hp)(Q:St3->MH->Prop)(Q2:St->Hp->Prop):Prop:=∀o_ H' u_ M',RelM K M' H'->DenS K H' u_ o_->TM K H H'->Q u_ M'->Q2 o_ H'
section
variable {X:Cx}{st:Stmt}{aF:List Stmt}{t u:TS3}{e:Expr}{te:TE3}{pos:Pos}
structure ItOk (K:JJ)(H0:Hp)(J:It)(ds:List D)(S:MH->Prop):Prop where
 go:∀(i:Nat) H M,TM K H0 H->RelM K M H->S M->i<ds.length->J.go i H
 yld:∀(i:Nat) H M x H',TM K H0 H->RelM K M H->S M->i<ds.length->J.yld i H x H'->TM K H H'/\RelM K M H'/\∃d,ds[i]?=some d/\Den K H' d x
 stop:∀H M,TM K H0 H->RelM K M H->S M->J.stop ds.length H
noncomputable def rng(lo:Int)(n:Nat):List D:=(List.range n).map λ(i:Nat)=>D.int (lo+i)
theorem my(lo:Int)(n:Nat):(rng lo n).length=n:=by unfold rng;rw[ID,List.length_range]
theorem Ac{lo:Int}(h:i<n):(rng lo n)[i]?=some (.int (lo+i)):=by
 unfold rng;rw[IJ,List.getElem?_range h];rfl
theorem z9{K:JJ}{lo:Int}:ItOk K H0 (Itr lo n) (rng lo n) (λ_=>True):=by
 refine⟨λi H M _ _ _ hi=>?_,λi H M x H' _ rm _ hi y=>?_,λH M _ _ _=>?_⟩
 ·rw[my]at hi;exact hi
 ·rw[my]at hi;obtain⟨e,y⟩:=y;subst e;subst y;exact⟨.refl _,rm,_,Ac hi,rfl⟩
 ·rw[my];exact Iq _
end
section
variable {K:JJ}
end
section
variable {X:Cx}
end
noncomputable abbrev XN:=XE->MH->Prop
noncomputable def del(M:MH)(a:Addr):MH:=λb=>if b=a then none else M b
theorem eU(h:M a=none):del (put M a o) a=M:=by
 funext b;unfold del put;by_cases e:b=a
 ·subst e;rw[Iu rfl,h]
 ·rw[Im e,Im e]
theorem l5(h:del M a b=some o):b≠a/\M b=some o:=by
 unfold del at h;split at h
 ·cases h
 ·exact⟨by assumption,h⟩
noncomputable def aw(M M':MH):MH:=λa=>match M a with
 |some _=>M' a
 |none=>none
theorem lh(h:aw M M' a=some o):M' a=some o:=by
 unfold aw at h;split at h
 ·exact h
 ·cases h
noncomputable def kp(b:Bool)(M M':MH):MH:=if b=true then aw M M' else M'
theorem ut(h:kp b M M' a=some o):M' a=some o:=by
 cases b with
 |true=>exact lh h
 |false=>exact h
inductive BI where
 |len  |max  |min  |list (fz:Bool)  |all  |any
inductive BM where
 |get  |clear  |KU  |remove
inductive BT where
 |int|bool|str|tuple|list|dict
mutual
inductive IE where
 |var (i:Nat)
 |con (d:D)
 |bin (op:Operator) (a b:IE)
 |neg (a:IE)
 |cat (fz:Bool) (a b:IE)
 |cmp (op:CmpOp) (a b:IE)
 |chain (op Km:CmpOp) (a b c:IE)
 |and (a b:IE)
 |or (a b:IE)
 |not (a:IE)
 |tup (es:IA)
 |lst (fz:Bool) (es:IA)
 |s_ (e:IE)
 |ix (a b:IE)
 |sl (fz:Bool) (a:IE) (lo hi:IO)
 |call (f:Nat) (es:IA)
 |bi (b:BI) (es:IA)
 |Lp (e:IE) (t:BT)
 |Nb (e:IE) (c:Nat)
 |Lq (k v:IE)
 |comp (fz:Bool) (N:List Str) (js:List (Option Nat)) (tg:ITg) (it:II) (cond:ITO) (A_:IE)
 |NK (e:IE)
 |fld (e:IE) (f:Nat)
 |make (fz:Bool) (i:Nat) (es:IA)
 |J4 (e:IE) (m:Nat) (es:IA)
 |ini (i:Nat) (es:IA)
 |K_ (e:IE) (j:Nat)
 |glo (k:Nat)
 |bm (b:BM) (o:IE) (es:IA)
 |rep (fz:Bool) (a b:IE)
 |Kh (tk:Bool)
 |La (fz:Bool) (a b:IE)
inductive IT where
 |val (e:IE)
 |cmp (op:CmpOp) (a b:IE)
 |and (a b:IT)
 |or (a b:IT)
 |not (a:IT)
inductive IA where
 |nil|cons (e:IE) (r:IA)
inductive IO where
 |no|yes (e:IE)
inductive ITO where
 |no|yes (e:IT)
inductive II where
 |seq (e:IE)
 |KW (a:IE)
 |enum (a:IE)
 |zip (a b:IE)
 |Lb (a:IE)
 |items (a:IE)
 |dk (a:IE)
inductive ITg where
 |name (i:Nat)|tup (is:List Nat)
end
mutual
inductive IS where
 |set (i:Nat) (e:IE)
 |NL (is:List Nat) (e:IE)
 |expr (e:IE)
 |ret (e:IE)
 |ifs (c:IT) (a b:ISs)
 |JW (tg:ITg) (it:II) (body:ISs)
 |raise (c:Nat) (es:IA)
 |Lr (body:ISs) (hs:IHs)
 |app (o e:IE)
 |del (i:Nat)
 |J2 (o:IE) (f:Nat) (e:IE)
 |F_ (o i e:IE)
 |dead
inductive ISs where
 |nil|cons (s:IS) (r:ISs)
inductive IHs where
 |nil|cons (c:Nat) (nm:Option Nat) (body:ISs) (r:IHs)
end
noncomputable def ai(M:MH):D->Option (List D)
 |.e_ ds=>some ds
 |.ref a=>match M a with
  |some (.lst ds)=>some ds
  |_=>none
 |_=>none
noncomputable def aC(M:MH):D->Option (List D)
 |.tup ds=>some ds
 |x=>ai M x
noncomputable def res(M:MH)(x:D):D:=match ai M x with
 |some ds=>.e_ ds
 |none=>x
def dH(fz:Bool)(ds:List D)(M:MH)(Q:VK3):Prop:=ds.length<=sizeLine/\if fz=true then Q (.e_ ds) M else ∀p,M p=none->Q (.ref p) (put M p (.lst ds))
noncomputable def plN:Nat->D->Bool
 |_,.ref _=>false
 |n,.tup ds=>match n with
  |0=>false
  |m+1=>ds.all (plN m)
 |n,.e_ ds=>match n with
  |0=>false
  |m+1=>ds.all (plN m)
 |_,.obj _ _ _ _=>false
 |_,.Kz _ _=>false
 |_,.JT _ _=>false
 |_,_=>true
noncomputable abbrev pl(x:D):Bool:=plN 8 x
noncomputable abbrev pls(ds:List D):Bool:=ds.all (plN 8)
mutual
noncomputable def eqD:D->D->Bool
 |.j_,y=>match y with
  |.j_=>true
  |_=>false
 |.bl a,y=>match y with
  |.bl b=>a == b
  |.int b=>decide ((if a=true then (1:Int) else 0)=b)
  |_=>false
 |.int a,y=>match y with
  |.int b=>decide (a=b)
  |.bl b=>decide (a=if b=true then (1:Int) else 0)
  |_=>false
 |.str a,y=>match y with
  |.str b=>decide (a=b)
  |_=>false
 |.tup a,y=>match y with
  |.tup b=>b8 a b
  |_=>false
 |.e_ a,y=>match y with
  |.e_ b=>b8 a b
  |_=>false
 |.ref _,_=>false
 |.obj _ _ _ _,_=>false
 |.Kz _ _,_=>false
 |.JT _ _,_=>false
noncomputable def b8:List D->List D->Bool
 |[],y=>match y with
  |[]=>true
  |_=>false
 |a::r,y=>match y with
  |b::t=>eqD a b&&b8 r t
  |_=>false
end
def rII(C:Int->Int->Prop)(g:Int->Int->D)(x y:D)(M:MH)(Q:VK3):Prop:=match x,y with
 |.int i,.int j=>C i j/\Q (g i j) M
 |_,_=>False
def rI2(g:Int->Int->D)(x y:D)(M:MH)(Q:VK3):Prop:=match x,y with
 |.int i,.int j=>Q (g i j) M
 |_,_=>False
def tP(x y:D)(M:MH)(Q:VK3):Prop:=match x,y with
 |.int i,.int j=>Q (.int (i+j)) M
 |.tup a,.tup b=>a.length+b.length<=sizeLine/\Q (.tup (a++b)) M
 |_,_=>False
def ux(x y:D)(M:MH)(Q:VK3):Prop:=match x,y with
 |.int i,.int j=>dX i j/\Q (.int (i*j)) M
 |_,_=>False
def j4:Operator->D->D->MH->VK3->Prop
 |.Add=>tP
 |.Sub=>rI2 λi j=>.int (i-j)
 |.Mult=>ux
 |.FloorDiv=>rII kU λi j=>.int (i / j)
 |.Mod=>rII (λ_ j=>0<j) λi j=>.int (i % j)
 |.Pow=>rII uC λi j=>.int (i ^ j.toNat)
 |.RShift=>rII (λ_ j=>0<=j) λi j=>.int (i / 2 ^ j.toNat)
 |.BitAnd=>rI2 λi j=>.int (Builtin.bitAnd i j)
 |_=>λ_ _ _ _=>False
def rNeg(x:D)(M:MH)(Q:VK3):Prop:=match x with
 |.int i=>Q (.int (-i)) M
 |_=>False
def jS(fz:Bool)(x y:D)(M:MH)(Q:VK3):Prop:=match ai M x,ai M y with
 |some a,some b=>dH fz (a++b) M Q
 |_,_=>match x,y with
  |.tup a,.tup b=>a.length+b.length<=sizeLine/\Q (.tup (a++b)) M
  |_,_=>False
def kP(fz:Bool)(x y:D)(M:MH)(Q:VK3):Prop:=match ai M x,y with
 |some a,.int k=>(-(2 ^ 63)<=k/\k<2 ^ 63/\a.length*k.toNat<=sizeLine)/\dH fz (List.replicate k.toNat a).flatten M Q
 |_,_=>False
noncomputable def rs(M:MH)(x:D):D:=match ai M x with
 |some ds=>.e_ (if pls ds=true then ds else ds.map (res M))
 |none=>x
def dJ(neg:Bool)(x y:D)(M:MH)(Q:VK3):Prop:=pl (rs M x)=true/\pl (rs M y)=true/\Q (.bl (neg ^^ eqD (rs M x) (rs M y))) M
def rP(neg:Bool)(x y:D)(M:MH)(Q:VK3):Prop:=match y with
 |.j_=>Q (.bl (neg ^^ x.isN)) M
 |.bl b=>match x with
  |.bl a=>Q (.bl (neg ^^ (a == b))) M
  |.j_=>Q (.bl neg) M
  |_=>False
 |_=>False
noncomputable def pR:D->Option Key
 |.int i=>some (.inl i)
 |.str s=>some (.inr s)
 |_=>none
noncomputable def cO:List D->Option (List Int)
 |[]=>some []
 |.int i::r=>match cO r with
  |some ns=>some (i::ns)
  |none=>none
 |_::_=>none
noncomputable def fF:D->Option (List Int)
 |.tup es=>cO es
 |_=>none
noncomputable def getD[DecidableEq κ]:List κ->List D->κ->Option D
 |k::ks,d::ds,x=>if k=x then some d else getD ks ds x
 |_,_,_=>none
noncomputable def ah[DecidableEq κ]:List κ->κ->List κ
 |[],x=>[x]
 |k::ks,x=>if k=x then k::ks else k::ah ks x
noncomputable def ak[DecidableEq κ]:List κ->List D->κ->D->List D
 |k::ks,d::ds,x,y=>if k=x then y::ds else d::ak ks ds x y
 |_,_,_,y=>[y]
noncomputable def eW(M:MH):D->Option (List Key×List D)
 |.Kz ks ds=>some (ks,ds)
 |.ref a=>match M a with
  |some (.dk ks ds)=>some (ks,ds)
  |_=>none
 |_=>none
noncomputable def iD(M:MH):D->Option (List (List Int)×List D)
 |.JT ks ds=>some (ks,ds)
 |.ref a=>match M a with
  |some (.dt ks ds)=>some (ks,ds)
  |_=>none
 |_=>none
noncomputable def gD(M:MH)(x y:D):Option (Option D):=match eW M x with
 |some (ks,ds)=>match pR y with
  |some k=>some (getD ks ds k)
  |none=>none
 |none=>match iD M x with
  |some (ks,ds)=>match fF y with
   |some k=>some (getD ks ds k)
   |none=>none
  |none=>none
def iF(neg:Bool)(x y:D)(M:MH)(Q:VK3):Prop:=match aC M y with
 |some ds=>pl (res M x)=true/\pls ds=true/\Q (.bl (neg ^^ ds.any λd=>eqD d (res M x))) M
 |none=>match gD M y x with
  |some o=>Q (.bl (neg ^^ o.isSome)) M
  |none=>False
def az:CmpOp->D->D->MH->VK3->Prop
 |.Eq=>dJ false
 |.NotEq=>dJ true
 |.Lt=>rI2 λi j=>.bl (decide (i<j))
 |.LtE=>rI2 λi j=>.bl (decide (i<=j))
 |.Gt=>rI2 λi j=>.bl (decide (j<i))
 |.GtE=>rI2 λi j=>.bl (decide (j<=i))
 |.Is=>rP false
 |.IsNot=>rP true
 |.In=>iF false
 |.NotIn=>iF true
def am(x y:D)(M:MH)(Q:VK3):Prop:=match aC M x with
 |some ds=>match y with
  |.int i=>match atI ds i with
   |some d=>Q d M
   |none=>False
  |_=>False
 |none=>match gD M x y with
  |some (some d)=>Q d M
  |some none=>False
  |none=>False
noncomputable def dF(xs:List D)(lo hi:Option Int):List D:=(xs.drop (HT.sIx xs.length 0 lo)).take (HT.sIx xs.length xs.length hi-HT.sIx xs.length 0 lo)
noncomputable def whole(n:Nat)(lo hi:Option Int):Bool:=HT.sIx n 0 lo == 0&&HT.sIx n n hi == n
def mm(fz:Bool)(x:D)(lo hi:Option Int)(M:MH)(Q:VK3):Prop:=match x with
 |.tup ds=>whole ds.length lo hi=false/\Q (.tup (dF ds lo hi)) M
 |x=>match ai M x with
  |some ds=>dH fz (dF ds lo hi) M Q
  |none=>False
noncomputable def eJ:List D->Option (List Bool)
 |[]=>some []
 |.bl i::r=>match eJ r with
  |some ns=>some (i::ns)
  |none=>none
 |_::_=>none
noncomputable def pA(y:D):List D->Nat->Option Nat
 |[],_=>none
 |d::r,k=>if eqD d y=true then some k else pA y r (k+1)
noncomputable def isLstM(x:D)(M:MH):Bool:=match x with
 |.ref a=>match M a with
  |some (.lst _)=>true
  |_=>false
 |_=>false
noncomputable def tyB:BM->D->MH->Bool
 |.get,x,M=>(eW M x).isSome||(iD M x).isSome
 |.clear,x,M=>isLstM x M
 |.KU,x,M=>(eW M x).isSome||(iD M x).isSome
 |.remove,x,M=>isLstM x M
noncomputable def aJ[DecidableEq κ]:List κ->κ->List κ
 |[],_=>[]
 |q::ks,k=>if q=k then ks else q::aJ ks k
noncomputable def aV[DecidableEq κ]:List κ->List D->κ->List D
 |q::ks,d::ds,k=>if q=k then ds else d::aV ks ds k
 |_,ds,_=>ds
def rBm:BM->D->List D->MH->VK3->Prop
 |.get,x,ys,M,Q=>match ys with
  |[y]=>match gD M x y with
   |some o=>Q (o.getD .j_) M
   |none=>False
  |[y,z]=>match gD M x y with
   |some o=>Q (o.getD z) M
   |none=>False
  |_=>False
 |.remove,x,ys,M,Q=>match x,ys with
  |.ref a,[y]=>match M a with
   |some (.lst ds)=>(pl (res M y)=true/\pls ds=true)/\(match pA (res M y) ds 0 with
    |some k=>Q .j_ (put M a (.lst (ds.eraseIdx k)))
    |none=>False)
   |_=>False
  |_,_=>False
 |.clear,x,ys,M,Q=>match x,ys with
  |.ref a,[]=>match M a with
   |some (.lst _)=>Q .j_ (put M a (.lst []))
   |_=>False
  |_,_=>False
 |.KU,x,ys,M,Q=>match x,ys with
  |.ref a,[y]=>match M a,fF y with
   |some (.dt ks ds),some k=>match getD ks ds k with
    |some d=>Q d (put M a (.dt (aJ ks k) (aV ks ds k)))
    |none=>False
   |_,_=>False
  |_,_=>False
noncomputable def mC(k:List Int):D:=.tup (k.map D.int)
def rBi:BI->List D->MH->VK3->Prop
 |.len,xs,M,Q=>match xs with
  |[x]=>match aC M x with
   |some ds=>Q (.int ds.length) M
   |none=>False
  |_=>False
 |.max,xs,M,Q=>match xs with
  |[.int i,.int j]=>Q (.int (if j > i then j else i)) M
  |_=>False
 |.min,xs,M,Q=>match xs with
  |[.int i,.int j]=>Q (.int (if j<i then j else i)) M
  |_=>False
 |.list fz,xs,M,Q=>match xs with
  |[x]=>match aC M x with
   |some ds=>dH fz ds M Q
   |none=>False
  |_=>False
 |.all,xs,M,Q=>match xs with
  |[x]=>match ai M x with
   |some ds=>match eJ ds with
    |some bs=>Q (.bl (bs.all id)) M
    |none=>False
   |none=>False
  |_=>False
 |.any,xs,M,Q=>match xs with
  |[x]=>match ai M x with
   |some ds=>match eJ ds with
    |some bs=>Q (.bl (bs.any id)) M
    |none=>False
   |none=>False
  |_=>False
def j6(t:BT)(x:D)(M:MH)(Q:VK3):Prop:=match x with
 |.j_=>Q (.bl false) M
 |.bl _=>Q (.bl (match t with|.int=>true|.bool=>true|_=>false)) M
 |.int _=>Q (.bl (match t with|.int=>true|_=>false)) M
 |.str _=>Q (.bl (match t with|.str=>true|_=>false)) M
 |.tup _=>Q (.bl (match t with|.tuple=>true|_=>false)) M
 |.e_ _=>Q (.bl (match t with|.list=>true|_=>false)) M
 |.ref a=>match M a with
  |some (.lst _)=>Q (.bl (match t with|.list=>true|_=>false)) M
  |some (.dk _ _)=>Q (.bl (match t with|.dict=>true|_=>false)) M
  |some (.dt _ _)=>Q (.bl (match t with|.dict=>true|_=>false)) M
  |_=>False
 |.Kz _ _=>Q (.bl (match t with|.dict=>true|_=>false)) M
 |.JT _ _=>Q (.bl (match t with|.dict=>true|_=>false)) M
 |.obj _ _ _ _=>False
def nY(ne:Nat)(cls:Nat->Addr)(r:Nat->Bool)(x:D)(M:MH)(Q:VK3):Prop:=match x with
 |.ref a=>match M a with
  |some (.exc i v)=>i.c<ne/\v=.ref (cls i.c)/\Q (.bl (r i.c)) M
  |_=>False
 |_=>False
noncomputable def prD(p:Int×Int):D:=.tup [.int p.1,.int p.2]
noncomputable def rT:List D->Option (List (Int×Int))
 |[]=>some []
 |.tup [.int a,.int b]::r=>match rT r with
  |some ps=>some ((a,b)::ps)
  |none=>none
 |_::_=>none
noncomputable def vt(ps:List (Int×Int)):Int×Int:=ps.getD (argBest (λi j=>lt2 (ps.getD i (0,0)) (ps.getD j (0,0))) (ps.length-1)) (0,0)
def rMp(x:D)(M:MH)(Q:VK3):Prop:=match ai M x with
 |some ds=>match rT ds with
  |some (p::ps)=>Q (prD (vt (p::ps))) M
  |_=>False
 |none=>False
def jJ(p:Addr)(x y:D)(M:MH)(Q:VK3):Prop:=match fF x with
 |some k=>M p=some (.dt [] [])/\Q (.ref p) (put M p (.dt [k] [y]))
 |none=>False
structure WB where
 ne:Nat
 cls:Nat->Addr
 sub:Nat->Nat->Bool
 nk:Nat
 c_:Nat->Addr
 ksub:Nat->Nat->Bool
 fok:Nat->Nat->Bool
 mth:Nat->Nat->Option Nat
 ini:Nat->Option Nat
 xin:Nat->Option Nat
 glo:Nat->D
 d_:Nat->Addr
structure WC extends WB where
 call:Nat->List D->MH->VK3->XN->Prop
noncomputable def bZ(f:Nat):List Nat->List D->Option D
 |n::ns,d::ds=>if n=f then some d else bZ f ns ds
 |_,_=>none
noncomputable def cq(f:Nat):List Nat->List Nat
 |n::ns=>if n=f then n::ns else n::cq f ns
 |[]=>[f]
noncomputable def cj(f:Nat)(y:D):List Nat->List D->List D
 |n::ns,d::ds=>if n=f then y::ds else d::cj f y ns ds
 |_,_=>[y]
def gJ(f:Nat)(ns:List Nat)(ds:List D)(M:MH)(Q:VK3):Prop:=match bZ f ns ds with
 |some d=>Q d M
 |none=>False
def cI(B:WB)(f:Nat)(x:D)(M:MH)(Q:VK3):Prop:=match x with
 |.obj i C ns ds=>(C=B.c_ i/\i<B.nk/\B.fok i f=true)/\gJ f ns ds M Q
 |.ref a=>match M a with
  |some (.ins i C ns ds)=>(C=B.c_ i/\i<B.nk/\B.fok i f=true)/\gJ f ns ds M Q
  |_=>False
 |_=>False
def eZ(o:Option Nat)(R:Nat->Prop):Prop:=match o with
 |some f=>R f
 |none=>False
def eE(B:WB)(m:Nat)(x:D)(M:MH)(R:Nat->Prop):Prop:=match x with
 |.obj i C ns ds=>(C=B.c_ i/\i<B.nk/\bZ m ns ds=none)/\eZ (B.mth i m) R
 |.ref a=>match M a with
  |some (.ins i C ns ds)=>(C=B.c_ i/\i<B.nk/\bZ m ns ds=none)/\eZ (B.mth i m) R
  |_=>False
 |_=>False
def o7(B:WB)(j:Nat)(x:D)(M:MH)(Q:VK3):Prop:=match x with
 |.obj i C _ _=>(C=B.c_ i/\i<B.nk/\j<B.nk)/\Q (.bl (B.ksub i j)) M
 |.ref a=>match M a with
  |some (.ins i C _ _)=>(C=B.c_ i/\i<B.nk/\j<B.nk)/\Q (.bl (B.ksub i j)) M
  |_=>False
 |_=>False
def iC(Q:VK3):VK3:=λx M=>match x with
 |.ref a=>match M a with
  |some (.lst ds)=>Q (.e_ ds) (del M a)
  |_=>False
 |_=>False
def d4:List D->MH->(List D->MH->Prop)->Prop
 |[],M,R=>R [] M
 |d::ds,M,R=>match d with
  |.ref a=>match M a with
   |some (.lst es)=>d4 ds (del M a) λr M'=>R (.e_ es::r) M'
   |some (.dk ks es)=>d4 ds (del M a) λr M'=>R (.Kz ks es::r) M'
   |some (.dt ks es)=>d4 ds (del M a) λr M'=>R (.JT ks es::r) M'
   |_=>d4 ds M λr M'=>R (.ref a::r) M'
  |d=>d4 ds M λr M'=>R (d::r) M'
def ba(Q:VK3):VK3:=λx M=>match x with
 |.ref a=>match M a with
  |some (.lst ds)=>Q (.e_ ds) (del M a)
  |some (.dk ks ds)=>Q (.Kz ks ds) (del M a)
  |some (.dt ks ds)=>Q (.JT ks ds) (del M a)
  |some (.ins i C ns ds)=>d4 ds (del M a) λr M'=>Q (.obj i C ns r) M'
  |_=>False
 |_=>False
def wpG:ITg->D->St3->MH->(St3->MH->Prop)->Prop
 |.name i,d,σ,M,Q=>Q (σ.set i (some d)) M
 |.tup is,d,σ,M,Q=>match d with
  |.tup ds=>ds.length=is.length/\Q ((is.zip ds).foldl (λσ p=>σ.set p.1 (some p.2)) σ) M
  |_=>False
noncomputable def av(js:List (Option Nat))(σ:St3):St3:=js.map λo=>o.bind λj=>(σ[j]?).bind id
def dN(g:D->St3->MH->(St3->MH->Prop)->Prop)(tt:St3->MH->(Bool->MH->Prop)->Prop)(te:St3->MH->VK3->Prop)(S:MH->Prop)(p:Addr)(Q:VK3):List D->List D->St3->MH->Prop
 |[],_,_,M=>S M/\Q (.ref p) M
 |d::r,ys,σ,M=>S M/\ys.length<sizeLine/\g d σ M λKr M2=>tt Kr M2 λb M3=>if b=true then te Kr M3 λy M4=>M4 p=some (.lst ys)/\dN g tt te S p Q r (ys++[y]) Kr (put M4 p (.lst (ys++[y]))) else dN g tt te S p Q r ys Kr M3
noncomputable def kD:Key->D
 |.inl i=>.int i
 |.inr x=>.str x
noncomputable def fN(ks:List Key)(ds:List D):List D:=(ks.zip ds).map λp=>.tup [kD p.1,p.2]
def bp(x k y:D)(M:MH)(R:MH->Prop):Prop:=match x with
 |.ref a=>match M a,k with
  |some (.lst ds),.int i=>(match ixN ds.length i with
   |some j=>R (put M a (.lst (ds.set j y)))
   |none=>False)
  |some (.dk ks ds),k=>(match pR k with
   |some q=>ks.length<sizeLine/\R (put M a (.dk (ah ks q) (ak ks ds q y)))
   |none=>False)
  |some (.dt ks ds),k=>(match fF k with
   |some q=>ks.length<sizeLine/\R (put M a (.dt (ah ks q) (ak ks ds q y)))
   |none=>False)
  |_,_=>False
 |_=>False
noncomputable def bg:Nat->List D->List D
 |_,[]=>[]
 |k,d::r=>.tup [.int k,d]::bg (k+1) r
noncomputable def c5(ks:List (List Int))(ds:List D):List D:=(ks.zip ds).map λp=>.tup [.tup (p.1.map D.int),p.2]
noncomputable def dZ(xs ys:List D):List D:=(xs.zip ys).map λp=>.tup [p.1,p.2]
def rLs(x:D)(M:MH)(k:List D->(MH->Prop)->Prop):Prop:=match x with
 |.e_ xs=>k xs λ_=>True
 |.ref b=>match M b with
  |some (.lst ys)=>k ys λM=>M b=some (.lst ys)
  |_=>False
 |_=>False
noncomputable def cpF(f:Nat):Bool:=f == 217822450
def rLz(fz:Bool)(x y:D)(M:MH)(Q:VK3):Prop:=match x,y with
 |.e_ xs,.e_ ys=>dH fz (dZ xs ys) M Q
 |_,_=>False
section
variable (W:WC)
mutual
def wpE:IE->St3->MH->VK3->XN->Prop
 |.var i,σ,M,Q,_=>match σ[i]? with
  |some (some d)=>Q d M
  |_=>False
 |.con d,_,M,Q,_=>Q d M
 |.bin op a b,σ,M,Q,E=>wpE a σ M (λx M1=>wpE b σ M1 (λy M2=>j4 op x y M2 Q) E) E
 |.neg a,σ,M,Q,E=>wpE a σ M (λx M1=>rNeg x M1 Q) E
 |.cat fz a b,σ,M,Q,E=>wpE a σ M (λx M1=>wpE b σ M1 (λy M2=>jS fz x y M2 Q) E) E
 |.cmp op a b,σ,M,Q,E=>wpE a σ M (λx M1=>wpE b σ M1 (λy M2=>az op x y M2 Q) E) E
 |.chain op Km a b c,σ,M,Q,E=>wpE a σ M (λx M1=>wpE b σ M1 (λy M2=>az op x y M2 λr M3=>match r with
  |.bl k=>if k=true then wpE c σ M3 (λz M4=>az Km y z M4 Q) E else Q (.bl false) M3
  |_=>False) E) E
 |.and a b,σ,M,Q,E=>wpE a σ M (λx M1=>match x with
  |.bl c=>if c=true then wpE b σ M1 Q E else Q (.bl false) M1
  |_=>False) E
 |.or a b,σ,M,Q,E=>wpE a σ M (λx M1=>match x with
  |.bl c=>if c=true then Q (.bl true) M1 else wpE b σ M1 Q E
  |_=>False) E
 |.not a,σ,M,Q,E=>wpE a σ M (λx M1=>match x with
  |.bl c=>Q (.bl (!c)) M1
  |_=>False) E
 |.tup es,σ,M,Q,E=>wpA es σ M (λxs M1=>xs.length<=sizeLine/\Q (.tup xs) M1) E
 |.lst fz es,σ,M,Q,E=>wpA es σ M (λxs M1=>dH fz xs M1 Q) E
 |.s_ e,σ,M,Q,E=>wpE e σ M (ba Q) E
 |.ix a b,σ,M,Q,E=>wpE a σ M (λx M1=>wpE b σ M1 (λy M2=>am x y M2 Q) E) E
 |.sl fz a lo hi,σ,M,Q,E=>wpE a σ M (λx M1=>wpO lo σ M1 (λl M2=>wpO hi σ M2 (λh M3=>mm fz x l h M3 Q) E) E) E
 |.call f es,σ,M,Q,E=>wpA es σ M (λxs M1=>W.call f xs M1 Q E) E
 |.bi b es,σ,M,Q,E=>wpA es σ M (λxs M1=>rBi b xs M1 Q) E
 |.Lp e t,σ,M,Q,E=>wpE e σ M (λx M1=>j6 t x M1 Q) E
 |.Nb e c,σ,M,Q,E=>wpE e σ M (λx M1=>nY W.ne W.cls (λi=>W.sub i c) x M1 Q) E
 |.Lq k v,σ,M,Q,E=>∀p,M p=none->wpE k σ (put M p (.dt [] [])) (λx M1=>wpE v σ M1 (λy M2=>jJ p x y M2 Q) E) E
 |.comp fz _ js tg it cond A_,σ,M,Q,E=>wpI it σ M (λds S M1=>∀p,M1 p=none->
   dN (wpG tg) (λσ M Q=>iG cond σ M Q (λ_ _=>False)) (λσ M Q=>wpE A_ σ M Q (λ_ _=>False)) S p (if fz=true then iC Q else Q) ds [] (av js σ) (put M1 p (.lst []))) E
 |.NK e,σ,M,Q,E=>wpE e σ M (λx M1=>rMp x M1 Q) E
 |.fld e f,σ,M,Q,E=>wpE e σ M (λx M1=>cI W.toWB f x M1 Q) E
 |.make fz i es,σ,M,Q,E=>wpA es σ M (λxs M1=>i<W.nk/\eZ (W.ini i) λf=>∀p,M1 p=none->
   W.call f (.ref p::xs) (put M1 p (.ins i (W.c_ i) [] [])) (λv M2=>v=.j_/\if fz=true then ba Q (.ref p) M2 else Q (.ref p) M2) (λi M'=>E i (del M' p))) E
 |.J4 e m es,σ,M,Q,E=>wpE e σ M (λx M1=>eE W.toWB m x M1 λf=>wpA es σ M1 (λxs M2=>W.call f (x::xs) M2 Q E) E) E
 |.ini i es,σ,M,Q,E=>wpA es σ M (λxs M1=>i<W.nk/\eZ (W.ini i) λf=>W.call f xs M1 Q E) E
 |.K_ e j,σ,M,Q,E=>wpE e σ M (λx M1=>o7 W.toWB j x M1 Q) E
 |.glo k,_,M,Q,_=>Q (W.glo k) M
 |.bm b o es,σ,M,Q,E=>wpE o σ M (λx M1=>tyB b x M1=true/\wpA es σ M1 (λxs M2=>rBm b x xs M2 Q) E) E
 |.Kh tk,_,M,Q,_=>∀p,M p=none->Q (.ref p) (put M p (if tk=true then .dt [] [] else .dk [] []))
 |.rep fz a b,σ,M,Q,E=>wpE a σ M (λx M1=>wpE b σ M1 (λy M2=>kP fz x y M2 Q) E) E
 |.La fz a b,σ,M,Q,E=>wpE a σ M (λx M1=>wpE b σ M1 (λy M2=>rLz fz x y M2 Q) E) E
def wpT:IT->St3->MH->(Bool->MH->Prop)->XN->Prop
 |.val e,σ,M,Q,E=>wpE e σ M (λx M1=>match x with
  |.bl k=>Q k M1
  |_=>False) E
 |.cmp op a b,σ,M,Q,E=>wpE a σ M (λx M1=>wpE b σ M1 (λy M2=>az op x y M2 λr M3=>match r with
  |.bl k=>Q k M3
  |_=>False) E) E
 |.and a b,σ,M,Q,E=>wpT a σ M (λc M1=>if c=true then wpT b σ M1 Q E else Q false M1) E
 |.or a b,σ,M,Q,E=>wpT a σ M (λc M1=>if c=true then Q true M1 else wpT b σ M1 Q E) E
 |.not a,σ,M,Q,E=>wpT a σ M (λc M1=>Q (!c) M1) E
def wpA:IA->St3->MH->(List D->MH->Prop)->XN->Prop
 |.nil,_,M,Q,_=>Q [] M
 |.cons e r,σ,M,Q,E=>wpE e σ M (λx M1=>wpA r σ M1 (λxs M2=>Q (x::xs) M2) E) E
def wpO:IO->St3->MH->(Option Int->MH->Prop)->XN->Prop
 |.no,_,M,Q,_=>Q none M
 |.yes e,σ,M,Q,E=>wpE e σ M (λx M1=>match x with
  |.int i=>Q (some i) M1
  |_=>False) E
def iG:ITO->St3->MH->(Bool->MH->Prop)->XN->Prop
 |.no,_,M,Q,_=>Q true M
 |.yes e,σ,M,Q,E=>wpT e σ M Q E
def wpI:II->St3->MH->(List D->(MH->Prop)->MH->Prop)->XN->Prop
 |.seq e,σ,M,R,E=>wpE e σ M (λx M1=>match x with
  |.tup ds=>R ds (λ_=>True) M1
  |.e_ ds=>R ds (λ_=>True) M1
  |.ref a=>match M1 a with
   |some (.lst ds)=>R ds (λM=>M a=some (.lst ds)) M1
   |_=>False
  |_=>False) E
 |.enum a,σ,M,R,E=>wpE a σ M (λx M1=>match x with
  |.e_ ds=>R (bg 0 ds) (λ_=>True) M1
  |.ref a=>match M1 a with
   |some (.lst ds)=>R (bg 0 ds) (λM=>M a=some (.lst ds)) M1
   |_=>False
  |_=>False) E
 |.zip a b,σ,M,R,E=>wpE a σ M (λx M1=>wpE b σ M1 (λy M2=>rLs x M2 λxs S=>rLs y M2 λys S'=>R (dZ xs ys) (λM=>S M/\S' M) M2) E) E
 |.Lb a,σ,M,R,E=>wpE a σ M (λx M1=>match x with
  |.e_ ds=>R ds.reverse (λ_=>True) M1
  |_=>False) E
 |.items a,σ,M,R,E=>wpE a σ M (λx M1=>match x with
  |.JT ks ds=>R (c5 ks ds) (λ_=>True) M1
  |.Kz ks ds=>R (fN ks ds) (λ_=>True) M1
  |_=>False) E
 |.dk a,σ,M,R,E=>wpE a σ M (λx M1=>match x with
  |.JT ks ds=>R (ks.map mC) (λ_=>True) M1
  |_=>False) E
 |.KW a,σ,M,R,E=>wpE a σ M (λx M1=>match x with
  |.int j=>-(2 ^ 62)<=j/\j<2 ^ 62/\R (rng 0 j.toNat) (λ_=>True) M1
  |_=>False) E
end
def jM(g:D->St3->MH->(St3->MH->Prop)->Prop)(tb:Ends3->St3->MH->Prop)(S:MH->Prop)(D:Ends3):List L2.D->St3->MH->Prop
 |[],σ,M=>S M/\D.nx σ M
 |d::r,σ,M=>S M/\g d σ M λKr M2=>tb {D with nx:=jM g tb S D r,ct:=jM g tb S D r,bk:=D.nx} Kr M2
noncomputable def nK(D:Ends3)(i:Nat):Ends3:=⟨λσ M=>D.nx (σ.set i none) M,D.rt,λσ M=>D.bk (σ.set i none) M,λσ M=>D.ct (σ.set i none) M⟩
mutual
def wpS:IS->Ends3->(St3->XN)->St3->MH->Prop
 |.set i e,D,E,σ,M=>wpE W e σ M (λx M1=>D.nx (σ.set i (some x)) M1) (E σ)
 |.NL is e,D,E,σ,M=>wpE W e σ M (λx M1=>match x with
  |.tup ds=>ds.length=is.length/\D.nx ((is.zip ds).foldl (λσ p=>σ.set p.1 (some p.2)) σ) M1
  |_=>False) (E σ)
 |.expr e,D,E,σ,M=>wpE W e σ M (λ_ M1=>D.nx σ M1) (E σ)
 |.ret e,D,E,σ,M=>wpE W e σ M D.rt (E σ)
 |.ifs c a b,D,E,σ,M=>wpT W c σ M (λk M1=>if k=true then aR a D E σ M1 else aR b D E σ M1) (E σ)
 |.JW tg it body,D,E,σ,M=>wpI W it σ M (λds S M1=>jM (wpG tg) (λD σ M=>aR body D E σ M) S D ds σ M1) (E σ)
 |.raise c es,_,E,σ,M=>wpA W es σ M (λxs M1=>xs.length<=sizeLine/\E σ ⟨c,none⟩ M1) (E σ)
 |.Lr body hs,D,E,σ,M=>aR body D (λo_ i M'=>wpH hs i D o_ M') σ M
 |.app o e,D,E,σ,M=>wpE W o σ M (λx M1=>match x with
  |.ref a=>match M1 a with
   |some (.lst _)=>wpE W e σ M1 (λy M2=>match M2 a with
    |some (.lst ds)=>ds.length<sizeLine/\D.nx σ (put M2 a (.lst (ds++[y])))
    |_=>False) (E σ)
   |_=>False
  |_=>False) (E σ)
 |.del i,D,_,σ,M=>match σ[i]? with
  |some (some x)=>ba (λy M'=>D.nx (σ.set i (some y)) M') x M
  |_=>False
 |.J2 o f e,D,E,σ,M=>wpE W e σ M (λy M1=>wpE W o σ M1 (λx M2=>match x with
  |.ref a=>match M2 a with
   |some (.ins i C ns ds)=>(C=W.c_ i/\i<W.nk/\W.fok i f=true/\ns.length<1000)/\D.nx σ (put M2 a (.ins i C (cq f ns) (cj f y ns ds)))
   |_=>False
  |_=>False) (E σ)) (E σ)
 |.F_ o i e,D,E,σ,M=>wpE W e σ M (λy M1=>wpE W o σ M1 (λx M2=>wpE W i σ M2 (λk M3=>bp x k y M3 λM4=>D.nx σ M4) (E σ)) (E σ)) (E σ)
 |.dead,_,_,_,_=>False
def aR:ISs->Ends3->(St3->XN)->St3->MH->Prop
 |.nil,D,_,σ,M=>D.nx σ M
 |.cons s r,D,E,σ,M=>wpS s {D with nx:=λo_ M'=>aR r D E o_ M'} E σ M
def wpH:IHs->XE->Ends3->St3->MH->Prop
 |.nil,_,_,_,_=>False
 |.cons c nm body r,i,D,σ,M=>i.c<W.ne/\if W.sub i.c c=true then (match nm with
  |none=>aR body D (λ_ _ _=>False) σ M
  |some j=>∀a,M a=none->aR body (nK D j) (λ_ _ _=>False) (σ.set j (some (.ref a))) (put M a (.exc i (.ref (W.cls i.c))))) else wpH r i D σ M
end
end
def LkE(K:JJ)(cls:Nat->Addr)(H:Hp)(E3:XN)(E:XK):Prop:=∀i M' H',TM K H H'->RelM K M' H'->E3 i M'->∀dx,XD K H' i dx->E (.ref (cls i.c)) dx H'
def LkS(K:JJ)(cls:Nat->Addr)(H:Hp)(E3:St3->XN)(E2:St->XK):Prop:=∀g_ σ i M' H',TM K H H'->DenS K H' g_ σ->RelM K M' H'->E3 g_ i M'->∀dx,XD K H' i dx->E2 σ (.ref (cls i.c)) dx H'
section
variable {K:JJ}
theorem LkE.mono(h:LkE K cls H E3 E)(t:TM K H H1):LkE K cls H1 E3 E:=λi M' H' t' r q=>h i M' H' (t.trans t') r q
theorem LkS.mono(h:LkS K cls H E3 E2)(t:TM K H H1):LkS K cls H1 E3 E2:=λg_ σ i M' H' t' d r q=>h g_ σ i M' H' (t.trans t') d r q
theorem LkS.at(h:LkS K cls H E3 E2)(ds:DenS K H g_ σ):LkE K cls H (E3 g_) (E2 σ):=λi M' H' t r q=>h g_ σ i M' H' t (ds.mono t) r q
theorem LkE.no:LkE K cls H (λ_ _=>False) E:=λ_ _ _ _ _ h=>h.elim
theorem Back.mono(h:Back K H Q Q2)(t:TM K H H1):Back K H1 Q Q2:=λv H' d M' a b c e=>h v H' d M' a b (t.trans c) e
end
section
variable (K:JJ) (cls:Nat->Addr) (E2:St->XK)
noncomputable def low(t:St3->MH->VK3->XN->Prop):TE:=λσ H Q2=>∃g_ M Q E3,RelM K M H/\DenS K H g_ σ/\LkE K cls H E3 (E2 σ)/\t g_ M Q E3/\Back K H Q Q2
noncomputable def cV(t:St3->MH->(Bool->MH->Prop)->XN->Prop):TT:=λσ H Q2=>∃g_ M Q E3,RelM K M H/\DenS K H g_ σ/\LkE K cls H E3 (E2 σ)/\t g_ M Q E3/\∀b H' M',RelM K M' H'->TM K H H'->Q b M'->Q2 b H'
noncomputable def dO(t:St3->MH->(List D->MH->Prop)->XN->Prop):TA:=λσ H Q2=>∃g_ M Q E3,RelM K M H/\DenS K H g_ σ/\LkE K cls H E3 (E2 σ)/\t g_ M Q E3/\∀vs H' ds M',DenL K H' ds vs->RelM K M' H'->TM K H H'->Q ds M'->Q2 vs H'
noncomputable def rA(t:St3->MH->(Option Int->MH->Prop)->XN->Prop):TO:=λσ H Q2=>∃g_ M Q E3,RelM K M H/\DenS K H g_ σ/\LkE K cls H E3 (E2 σ)/\t g_ M Q E3/\∀o H' M',RelM K M' H'->TM K H H'->Q o M'->Q2 o H'
noncomputable def jb(t:St3->MH->(List D->(MH->Prop)->MH->Prop)->XN->Prop):TI:=λσ H R2=>∃g_ M R E3,RelM K M H/\DenS K H g_ σ/\LkE K cls H E3 (E2 σ)/\t g_ M R E3/\∀J H' ds S M',ItOk K H' J ds S->RelM K M' H'->TM K H H'->R ds S M'->R2 J H'
noncomputable def bJ(t:Ends3->(St3->XN)->St3->MH->Prop):TS:=λD2 σ H=>∃g_ M D3 E3,RelM K M H/\DenS K H g_ σ/\LkS K cls H E3 E2/\t D3 E3 g_ M/\ER K H D3 D2
noncomputable def rg(t:D->St3->MH->(St3->MH->Prop)->Prop):TG:=λv σ H Q2=>∃d g_ M Q,Den K H d v/\RelM K M H/\DenS K H g_ σ/\t d g_ M Q/\BackS K H Q Q2
end
section
variable {X:Cx}{st:Stmt}
theorem PE.imp(h:PE X e t)(f:∀σ H Q,t' σ H Q->t σ H Q):PE X e t':=λa_ s σ H Q I q=>h a_ s σ H Q I (f σ H Q q)
theorem PT.imp(h:PT X e t)(f:∀σ H Q,t' σ H Q->t σ H Q):PT X e t':=λa_ s σ H Q I q=>h a_ s σ H Q I (f σ H Q q)
theorem PW.imp(h:PW X e t)(f:∀σ H Q,t' σ H Q->t σ H Q):PW X e t':=λwhole a_ s σ H Q I q=>h whole a_ s σ H Q I (f σ H Q q)
theorem PA.imp(h:PA X es t)(f:∀σ H Q,t' σ H Q->t σ H Q):PA X es t':=λpos a_ s σ H Q I q=>h pos a_ s σ H Q I (f σ H Q q)
theorem PO.imp(h:PO X o t)(f:∀σ H Q,t' σ H Q->t σ H Q):PO X o t':=λa_ s σ H Q I q=>h a_ s σ H Q I (f σ H Q q)
theorem PI.imp(h:PI X tg e t)(f:∀σ H Q,t' σ H Q->t σ H Q):PI X tg e t':=λa_ s σ H Q I q=>h a_ s σ H Q I (f σ H Q q)
theorem PS.imp(h:PS X st t)(f:∀D σ H,t' D σ H->t D σ H):PS X st t':=λa_ s σ H D I q=>h a_ s σ H D I (f D σ H q)
theorem PSs.imp(h:PSs X Li t)(f:∀D σ H,t' D σ H->t D σ H):PSs X Li t':=λa_ s σ H D I q=>h a_ s σ H D I (f D σ H q)
theorem PG.imp(h:PG X e t)(f:∀v σ H Q,t' v σ H Q->t v σ H Q):PG X e t':=λa_ s σ H v u Q I r q=>h a_ s σ H v u Q I r (f v σ H Q q)
end
section
variable {X:Cx}{s:Shared}
theorem HOk.freeze(x:HOk P w H h)(e:H a=some (.lst xs)):∃o,HOk P w (upd H a (.s_ o (.lst xs))) h:=by
 obtain⟨o,ho⟩:=(x a _ e).isAt;refine⟨o,λb u q=>?_⟩
 have own:∀c y,H c=some (.own y)->(upd H a (.s_ o (.lst xs))) c=some (.own y):=λc y z=>by
  rw[ae (de z e (λw=>nomatch w))];exact z
 have tup:∀c ys,H c=some (.tup ys)->(upd H a (.s_ o (.lst xs))) c=some (.tup ys):=λc ys z=>by
  rw[ae (de z e (λw=>nomatch w))];exact z
 by_cases hb:b=a
 ·subst hb;rw[ag]at q;cases q;exact⟨ho,(x b _ e).stay (λ_ _ _ q=>q) (λc z=>own c _ z) λc ys z=>tup c ys z⟩
 ·rw[ae hb]at q;exact (x b u q).stay (λ_ _ _ q=>q) (λc z=>own c _ z) λc ys z=>tup c ys z
theorem Inv.freeze(I:Inv X a_ σ H s)(e:H a=some (.lst xs)):∃o,Inv X a_ σ (upd H a (.s_ o (.lst xs))) s:=by
 obtain⟨o,ok⟩:=I.h_.freeze e;have ne:∀b,H b=none->b≠a:=λb z=>λq=>by rw[q,e]at z;cases z
 refine⟨o,⟨I.ok,I.os,I.bare,⟨I.base.keep,I.base.slot,λb ob q n hx=>?_,I.base.there,λb ys q=>?_,λb ob u q=>?_,λb ps q=>?_⟩,I.loc,I.cell,?_,λx c z=>?_,λp hp=>?_,ok,I.len⟩⟩
 ·have z:=I.base.free b ob q n hx;rw[ae (ne b z)];exact z
 ·have z:=I.base.JS b ys q;rw[ae (de z e (λw=>nomatch w))];exact z
 ·have z:=I.base.JN b ob u q;rw[ae (de z e (λw=>nomatch w))];exact z
 ·obtain⟨KZ,z⟩:=I.base.JU b ps q;exact⟨KZ,by rw[ae (de z e (λw=>nomatch w))];exact z⟩
 ·rw[ae (ne _ I.free)];exact I.free
 ·rw[ae (ne _ (I.freeC x c z))];exact I.freeC x c z
 ·obtain⟨p1,p2,p3⟩:=I.pin p hp;exact⟨p1,by rw[ae (ne _ p2)];exact p2,p3⟩
end
section
variable {K:JJ}{xs:List V}
theorem TM.freeze(e:H a=some (.lst xs)):TM K H (upd H a (.s_ o (.lst xs))):=
 .put e (λ_=>λz=>nomatch z) λ_ _=>λz=>nomatch z
theorem RelM.freeze(r:RelM K M H)(e:H a=some (.lst xs)):RelM K (del M a) (upd H a (.s_ o (.lst xs))):=λb u q=>by
 obtain⟨ne,q⟩:=l5 q;exact (r b u q).stay (.freeze e) (ae ne)
theorem fK(h:DenL K H ds xs)(e:H a=some (.lst xs)):Den K (upd H a (.s_ o (.lst xs))) (.e_ ds) (.ref a):=⟨a,xs,rfl,.inl ⟨o,ag⟩,h.mono (.freeze e)⟩
end
theorem cA{X:Cx}
  (I:Inv X a_ σ (upd H p (.lst vs)) s) (hp:H p=none) (dl:DenL X.K H ds vs)(rm:RelM X.K M H)(tm:TM X.K H0 H)(h:dH fz ds M Q)(b_:Back X.K H0 Q Q2):EP X a_ σ Q2 (.ref p) s:=by
 obtain⟨_,h⟩:=h;cases fz with
 |true=>
  rw[Iu rfl]at h;obtain⟨o,I2⟩:=I.freeze ag;refine⟨.ref p,_,I2,rfl,b_ _ _ _ _ (fK (o:=o) (dl.mono (.new hp)) ag) ?_ (tm.trans ((TM.new hp).trans (.freeze ag))) h⟩;have r2:RelM X.K (put M p (.lst ds)) (upd H p (.lst vs)):=rm.lay hp ⟨vs,ag,dl.mono (.new hp)⟩;have r3:=r2.freeze (o:=o) (xs:=vs) ag;rw[eU (rm.fresh hp)]at r3;exact r3
 |false=>
  rw[Im IP]at h;exact⟨.ref p,_,I,rfl,b_ _ _ _ _ fY (rm.lay (u:=.lst ds) hp ⟨vs,ag,dl.mono (.new hp)⟩) (tm.trans (.new hp)) (h p (rm.fresh hp))⟩
def RdL(K:JJ)(H:Hp)(p:Addr)(vs:List V):Prop:=Rd H p (.lst vs)\/SqM K p vs
theorem RdL.sq{K:JJ}(h:RdL K H p vs):SqL K H p vs:=by
 rcases h with h|h
 ·exact .inl h
 ·exact h.sq
theorem SqF.rd{K:JJ}(h:SqF K H p vs):RdL K H p vs:=by
 rcases h with h|h
 ·exact .inl (.inr h)
 ·exact .inr h
theorem bq{K:JJ}(rm:RelM K M H)(h:ai M x=some ds)(dv:Den K H x v):∃p vs,v=.ref p/\RdL K H p vs/\DenL K H ds vs:=by
 cases x with
 |e_ es=>
  cases (show es=ds from IK h);obtain⟨p,vs,e,s,l⟩:=dv;exact⟨p,vs,e,s.rd,l⟩
 |ref a=>
  have h:(match M a with|some (.lst ds)=>some ds|_=>none)=some ds:=h
  split at h
  next es q=>
   cases h;obtain⟨vs,e,l⟩:=rm a _ q;exact⟨a,vs,dv,.inl (.inl e),l⟩
  next=>cases h
 |_=>cases h
theorem g8{K:JJ}(rm:RelM K M H)(h:aC M x=some ds)(dv:Den K H x v):∃p vs,v=.ref p/\(SqL K H p vs\/SqT K H p vs)/\DenL K H ds vs:=by
 cases x with
 |tup es=>
  cases (show es=ds from IK h);obtain⟨p,vs,e,s,l⟩:=dv;exact⟨p,vs,e,.inr s,l⟩
 |e_ es=>obtain⟨p,vs,e,s,l⟩:=bq rm (show ai M (.e_ es)=some ds from h) dv;exact⟨p,vs,e,.inl s.sq,l⟩
 |ref a=>obtain⟨p,vs,e,s,l⟩:=bq rm (show ai M (.ref a)=some ds from h) dv;exact⟨p,vs,e,.inl s.sq,l⟩
 |_=>cases h
theorem Inv.rdL{X:Cx}{s:Shared}{xs:List V}(I:Inv X a_ σ H s)(h:RdL X.K H l xs):xs.length<=sizeLine/\∃(its:List Value) (n:Nat),Vals xs its/\xs.length=its.length/\s.heap.get? l=some {cls:=.type "list",data:=.seq its.toArray n}:=by
 rcases h with h|⟨its,n,e,z,r⟩
 ·obtain⟨z,its,n,r,e⟩:=h.ok I.h_;exact⟨z,its,n,r,r.length,e⟩
 ·exact⟨by rw[r.length];exact z,its,n,r,r.length,I.kIn _ _ e⟩
noncomputable def ub:HO->Bool
 |.lst _=>true
 |.dK _=>true
 |.dT _=>true
 |.ins _ _ _=>true
 |.ext _=>true
 |_=>false
theorem lS(h:ub u=true):(∀y,HO.own y≠u)/\(∀xs,HO.tup xs≠u)/\(∀o v,HO.s_ o v≠u)/\∀ps,HO.LL ps≠u:=by
 cases u<;>first
  |(cases h;done)
  |exact⟨λ_ z=>(by cases z),λ_ z=>(by cases z),λ_ _ z=>(by cases z),λ_ z=>(by cases z)⟩
section
variable {X:Cx}
theorem HOk.frzU(x:HOk P w H h)(e:H a=some u)(hu:ub u=true):∃o,HOk P w (upd H a (.s_ o u)) h:=by
 obtain⟨n1,n2,_,_⟩:=lS hu;obtain⟨o,ho⟩:=(x a _ e).isAt;refine⟨o,λb v q=>?_⟩
 have own:∀c y,H c=some (.own y)->(upd H a (.s_ o u)) c=some (.own y):=λc y z=>by
  rw[ae (de z e (n1 y))];exact z
 have tup:∀c ys,H c=some (.tup ys)->(upd H a (.s_ o u)) c=some (.tup ys):=λc ys z=>by
  rw[ae (de z e (n2 ys))];exact z
 by_cases hb:b=a
 ·subst hb;rw[ag]at q;cases q;exact⟨ho,(x b _ e).stay (λ_ _ _ q=>q) (λc z=>own c _ z) λc ys z=>tup c ys z⟩
 ·rw[ae hb]at q;exact (x b v q).stay (λ_ _ _ q=>q) (λc z=>own c _ z) λc ys z=>tup c ys z
theorem Inv.frzU(I:Inv X a_ σ H s)(e:H a=some u)(hu:ub u=true):∃o,Inv X a_ σ (upd H a (.s_ o u)) s:=by
 obtain⟨n1,n2,n3,n4⟩:=lS hu;obtain⟨o,ok⟩:=I.h_.frzU e hu;have ne:∀b,H b=none->b≠a:=λb z=>λq=>by rw[q,e]at z;cases z
 refine⟨o,⟨I.ok,I.os,I.bare,⟨I.base.keep,I.base.slot,λb ob q n hx=>?_,I.base.there,λb ys q=>?_,λb ob u q=>?_,λb ps q=>?_⟩,I.loc,I.cell,?_,λx c z=>?_,λp hp=>?_,ok,I.len⟩⟩
 ·have z:=I.base.free b ob q n hx;rw[ae (ne b z)];exact z
 ·have z:=I.base.JS b ys q;rw[ae (de z e (n2 _))];exact z
 ·have z:=I.base.JN b ob u q;rw[ae (de z e (n3 _ _))];exact z
 ·obtain⟨KZ,z⟩:=I.base.JU b ps q;exact⟨KZ,by rw[ae (de z e (n4 _))];exact z⟩
 ·rw[ae (ne _ I.free)];exact I.free
 ·rw[ae (ne _ (I.freeC x c z))];exact I.freeC x c z
 ·obtain⟨p1,p2,p3⟩:=I.pin p hp;exact⟨p1,by rw[ae (ne _ p2)];exact p2,p3⟩
end
section
variable {K:JJ}
theorem TM.frzU(e:H a=some u)(hu:ub u=true):TM K H (upd H a (.s_ o u)):=by
 obtain⟨_,n2,n3,_⟩:=lS hu;exact .put e (λxs z=>n2 xs z.symm) λob v z=>n3 ob v z.symm
theorem RelM.frzU(r:RelM K M H)(e:H a=some u)(hu:ub u=true):RelM K (del M a) (upd H a (.s_ o u)):=λb v q=>by
 obtain⟨ne,q⟩:=l5 q;exact (r b v q).stay (.frzU e hu) (ae ne)
end
noncomputable def fzD:DO->D
 |.lst ds=>.e_ ds
 |.dk ks ds=>.Kz ks ds
 |.dt ks ds=>.JT ks ds
 |.ins i C ns ds=>.obj i C ns ds
 |.exc _ _=>.j_
 |.MI _=>.j_
theorem eN{X:Cx}(I:Inv X a_ σ H s)(rm:RelM X.K M H)(e:M a=some o)(ho:(∀i c,o≠.exc i c)/\∀φ,o≠.MI φ) :
  ∃H',Inv X a_ σ H' s/\TM X.K H H'/\RelM X.K (del M a) H'/\Den X.K H' (fzD o) (.ref a):=by
 cases o with
 |lst ds=>
  obtain⟨vs,e1,dl⟩:=rm a _ e;obtain⟨ob,I2⟩:=I.frzU e1 rfl;exact⟨_,I2,.frzU e1 rfl,rm.frzU e1 rfl,a,vs,rfl,.inl ⟨ob,ag⟩,dl.mono (.frzU e1 rfl)⟩
 |dk ks ds=>
  obtain⟨vs,e1,hl,dl⟩:=rm a _ e;obtain⟨ob,I2⟩:=I.frzU e1 rfl;exact⟨_,I2,.frzU e1 rfl,rm.frzU e1 rfl,a,vs,ob,rfl,ag,hl,dl.mono (.frzU e1 rfl)⟩
 |dt ks ds=>
  obtain⟨vs,xs,e1,z,dl⟩:=rm a _ e;obtain⟨ob,I2⟩:=I.frzU e1 rfl;have t:TM X.K H (upd H a (.s_ ob (.ext (aY a xs)))):=.frzU e1 rfl;exact⟨_,I2,t,rm.frzU e1 rfl,a,vs,ob,xs,rfl,ag,⟨z.kx,z.nd,z.sz,z.no,z.vx,λx hx=>t.t _ _ (z.at_ x hx)⟩,dl.mono t⟩
 |ins i C ns ds=>
  obtain⟨dx,vs,e1,hl,dl⟩:=rm a _ e;obtain⟨ob,I2⟩:=I.frzU e1 rfl;exact⟨_,I2,.frzU e1 rfl,rm.frzU e1 rfl,a,vs,ob,dx,rfl,ag,hl,dl.mono (.frzU e1 rfl)⟩
 |exc i c=>exact absurd rfl (ho.1 i c)
 |MI φ=>exact absurd rfl (ho.2 φ)
theorem fH{X:Cx}:∀{ds:List D}{vs:List V}{H:Hp}{M:MH}{R:List D->MH->Prop},Inv X a_ σ H s->RelM X.K M H->DenL X.K H ds vs->d4 ds M R->
  ∃H' M' r,Inv X a_ σ H' s/\TM X.K H H'/\RelM X.K M' H'/\DenL X.K H' r vs/\R r M'
 |[],vs,H,M,R,I,rm,dl,h=>⟨H,M,[],I,.refl _,rm,dl,h⟩
 |d::ds,_,H,M,R,I,rm,dl,h=>by
  obtain⟨v,r,rfl,dv,dl⟩:=dl;have keep:∀(d:D),Den X.K H d v->d4 ds M (λr M'=>R (d::r) M')->∃H' M' r',Inv X a_ σ H' s/\TM X.K H H'/\RelM X.K M' H'/\DenL X.K H' r' (v::r)/\R r' M':=λd dv h=>by
   obtain⟨H',M',r',I',t,r_,Mg,q⟩:=fH I rm dl h;exact⟨H',M',d::r',I',t,r_,.cons (dv.mono t) Mg,q⟩
  have fz:∀(a:Addr)(o:DO),v=.ref a->M a=some o->((∀i c,o≠.exc i c)/\∀φ,o≠.MI φ)->d4 ds (del M a) (λr M'=>R (fzD o::r) M')->∃H' M' r',Inv X a_ σ H' s/\TM X.K H H'/\RelM X.K M' H'/\DenL X.K H' r' (v::r)/\R r' M':=λa o e eM ne h=>by
   subst e;obtain⟨H1,I1,t1,l_,d1⟩:=eN I rm eM ne;obtain⟨H',M',r',I',t,r_,Mg,q⟩:=fH I1 l_ (dl.mono t1) h;exact⟨H',M',_::r',I',t1.trans t,r_,.cons (d1.mono t) Mg,q⟩
  cases d with
  |ref a=>
   simp only[d4]at h;have e:v=.ref a:=dv;split at h
   ·rename_i es q;exact fz a (.lst es) e q ⟨(λ_ _ z=>nomatch z),(λ_ z=>nomatch z)⟩ h
   ·rename_i ks es q;exact fz a (.dk ks es) e q ⟨(λ_ _ z=>nomatch z),(λ_ z=>nomatch z)⟩ h
   ·rename_i ks es q;exact fz a (.dt ks es) e q ⟨(λ_ _ z=>nomatch z),(λ_ z=>nomatch z)⟩ h
   ·exact keep _ dv h
  |_=>exact keep _ dv (by simpa only[d4] using h)
theorem iM{X:Cx}(I:Inv X a_ σ H s)(rm:RelM X.K M H)(dx:Den X.K H x v)(h:ba Q x M) :
  ∃H' M' d,Inv X a_ σ H' s/\TM X.K H H'/\RelM X.K M' H'/\Den X.K H' d v/\Q d M':=by
 unfold ba at h;split at h
 ·rename_i a;cases (show v=.ref a from dx);split at h
  ·rename_i es q;obtain⟨H1,I1,t1,l_,d1⟩:=eN (o:=.lst es) I rm q ⟨(λ_ _ z=>nomatch z),(λ_ z=>nomatch z)⟩
   exact⟨H1,_,_,I1,t1,l_,d1,h⟩
  ·rename_i ks es q;obtain⟨H1,I1,t1,l_,d1⟩:=eN (o:=.dk ks es) I rm q ⟨(λ_ _ z=>nomatch z),(λ_ z=>nomatch z)⟩
   exact⟨H1,_,_,I1,t1,l_,d1,h⟩
  ·rename_i ks es q;obtain⟨H1,I1,t1,l_,d1⟩:=eN (o:=.dt ks es) I rm q ⟨(λ_ _ z=>nomatch z),(λ_ z=>nomatch z)⟩
   exact⟨H1,_,_,I1,t1,l_,d1,h⟩
  ·rename_i i C ns es q;obtain⟨H1,I1,t1,l_,d1⟩:=eN (o:=.ins i C ns es) I rm q ⟨(λ_ _ z=>nomatch z),(λ_ z=>nomatch z)⟩
   obtain⟨a',vs,ob,Kq,e',he,hl,dl⟩:=d1;cases e';obtain⟨H2,M2,r,I2,t2,C_,Ki,q2⟩:=fH I1 l_ dl h;refine⟨H2,M2,.obj i C ns r,I2,t1.trans t2,C_,?_,q2⟩;exact⟨a,vs,ob,Kq,rfl,t2.g _ _ _ he,hl,Ki⟩
  ·exact h.elim
 ·exact h.elim
end L2
namespace L2
open PySem PySem.Spec PySem.Calls PyProof.Rows
section
variable {X:Cx}{D:Addr}
end
end L2
namespace L2
open PySem PySem.Spec PyProof.Rows
section
variable {X:Cx}
theorem j2:∀{xs ys:List D},b8 xs ys=true->xs.length=ys.length
 |[],[],_=>rfl
 |[],_::_,h=>by simp[b8]at h
 |_::_,[],h=>by simp[b8]at h
 |x::xs,y::ys,h=>by
  simp only[b8,Ij]at h;rw[IN,IN,j2 h.2]
theorem fw:∀{xs ys:List D},xs.length=ys.length->b8 xs ys=(List.range xs.length).all λj=>eqD (xs.getD j .j_) (ys.getD j .j_)
 |[],[],_=>by simp[b8]
 |[],_::_,h=>by simp at h
 |_::_,[],h=>by simp at h
 |x::xs,y::ys,h=>by
  have ih:=fw (xs:=xs) (ys:=ys) (by simpa using h)
  simp only[b8,IN,List.range_succ_eq_map,List.all_cons,List.all_map,ih];rfl
theorem tN{xs ys:List D}:b8 xs ys=((List.range (min xs.length ys.length)).all (λj=>eqD (xs.getD j .j_) (ys.getD j .j_))&&(xs.length == ys.length)):=by
 by_cases h:xs.length=ys.length
 ·rw[fw h,h,Nat.min_self,beq_self_eq_true,Bool.and_true]
 ·have e1:(xs.length == ys.length)=false:=IZ.mpr h;rw[e1,Bool.and_false];cases q:b8 xs ys with
  |false=>rfl
  |true=>exact absurd (j2 q) h
theorem lG{K:JJ}(I:Inv X a_ σ H s)(hK:K=X.K):∀(n:Nat) {x y:D}{v:V},plN n x=true->plN n y=true->Den K H x v->Den K H y v->x=y:=by
 subst hK;have lists:∀(n:Nat),(∀{x y:D}{v:V},plN n x=true->plN n y=true->Den X.K H x v->Den X.K H y v->x=y)->∀{xs ys:List D}{vs:List V},xs.all (plN n)=true->ys.all (plN n)=true->DenL X.K H xs vs->DenL X.K H ys vs->xs=ys:=by
  intro n ih xs
  induction xs with
  |nil=>
   intro ys vs _ _ h1 h2;cases (show vs=[] from h1);cases ys with
   |nil=>rfl
   |cons y ys=>obtain⟨_,_,e,_⟩:=h2;cases e
  |cons x xs Pj=>
   intro ys vs p1 p2 h1 h2;obtain⟨v,r,rfl,d1,l1⟩:=h1;cases ys with
   |nil=>cases (show v::r=[] from h2)
   |cons y ys=>
    obtain⟨v',r',e,d2,l2⟩:=h2;cases e;simp only[List.all_cons,Ij]at p1 p2;rw[ih p1.1 p2.1 d1 d2,Pj p1.2 p2.2 l1 l2]
 have Mh:∀{p:Addr}{vs ws:List V},SqT X.K H p vs->SqF X.K H p ws->False:=λ{p vs ws} h1 h2=>by
  obtain⟨its,_,t1,_⟩:=I.tuple h1;obtain⟨z,q_,n2,_,_,e2⟩:=I.rdL h2.rd;obtain⟨o,e1,c1,_⟩:=(show s.heap.IsTuple p its.toArray from t1);rw[e2]at e1;cases e1;injection c1 with z;exact absurd z (by decide)
 have tt:∀{p:Addr}{vs ws:List V},SqT X.K H p vs->SqT X.K H p ws->vs=ws:=λ{p vs ws} q1 q2=>by
  obtain⟨its,r1,t1,_⟩:=I.tuple q1;obtain⟨q_,r2,t2,_⟩:=I.tuple q2;obtain⟨o1,e1,c1,n1,f1⟩:=(show s.heap.IsTuple p its.toArray from t1);obtain⟨o2,e2,c2,n2,f2⟩:=(show s.heap.IsTuple p q_.toArray from t2);rw[e1]at e2;cases e2;rw[f1]at f2;have:its=q_:=by injection f2 with z;simpa using z
  subst this;exact r1.inj r2
 have ff:∀{p:Addr}{vs ws:List V},SqF X.K H p vs->SqF X.K H p ws->vs=ws:=λ{p vs ws} q1 q2=>by
  obtain⟨_,its,n1,r1,_,e1⟩:=I.rdL q1.rd;obtain⟨_,q_,n2,r2,_,e2⟩:=I.rdL q2.rd;rw[e1]at e2;have:its=q_:=by
   have z:=IK e2;injection z with z1 z2 z3 z4
   injection z3 with z5 z6
   simpa using z5
  subst this;exact r1.inj r2
 intro n
 induction n with
 |zero=>
  intro x y v p1 p2 d1 d2;cases x<;>cases y<;>first|(cases p1;done)|(cases p2;done)|(cases (show v=_ from d1);cases (show _=_ from d2)<;>rfl)
 |succ n ih=>
  intro x y v p1 p2 d1 d2;cases x<;>cases y<;>first|(cases p1;done)|(cases p2;done)|(cases (show v=_ from d1);cases (show _=_ from d2)<;>rfl)|(cases (show v=_ from d1);obtain⟨_,_,e,_⟩:=d2;cases e;done)|(obtain⟨_,_,rfl,_⟩:=d1;cases (show _=_ from d2);done)|(obtain⟨p,vs,rfl,q1,l1⟩:=d1;obtain⟨p',KA,e,q2,l2⟩:=d2;cases e;first|exact (Mh q1 q2).elim|exact (Mh q2 q1).elim|(first|cases tt q1 q2|cases ff q1 q2);rw[lists n ih (by simpa [plN] using p1) (by simpa [plN] using p2) l1 l2])
theorem jK:∀(n:Nat) {x:D},plN n x=true->eqD x x=true:=by
 have lists:∀(n:Nat),(∀{x:D},plN n x=true->eqD x x=true)->∀{xs:List D},xs.all (plN n)=true->b8 xs xs=true:=by
  intro n ih xs
  induction xs with
  |nil=>intro _;rfl
  |cons x xs Pj=>
   intro h;simp only[List.all_cons,Ij]at h;simp only[b8,Ij];exact⟨ih h.1,Pj h.2⟩
 intro n
 induction n with
 |zero=>exact λ{x} h=>by cases x<;>first|(cases h;done)|simp[eqD]
 |succ n ih=>exact λ{x} h=>by cases x<;>first|(cases h;done)|(simp only[eqD];exact lists n ih (by simpa [plN] using h))|simp[eqD]
theorem ng{K:JJ}(I:Inv X a_ σ H s)(hK:K=X.K)(n:Nat)(p1:plN n x=true)(p2:plN n y=true)(d1:Den K H x v)(d2:Den K H y v):eqD x y=true:=by
 rw[lG I hK n p1 p2 d1 d2];exact jK n p2
theorem AU(a b:Bool):eqD (.bl a) (.bl b)=(a == b):=by simp[eqD]
theorem zX(a:Bool)(b:Int):eqD (.bl a) (.int b)=((if a then 1 else 0) == b):=by simp[eqD];rfl
theorem A7(a:Int)(b:Bool):eqD (.int a) (.bl b)=(a == (if b then 1 else 0)):=by simp[eqD];rfl
theorem zS(a b:Int):eqD (.int a) (.int b)=(a == b):=by simp[eqD];rfl
theorem Be(a b:Str):eqD (.str a) (.str b)=(a == b):=by simp[eqD];rfl
abbrev Eq3(A:Around)(s:Shared)(v u:Value)(k:Bool):Prop:=SeqAt.RcAt A s v u k/\SeqAt.RcNeAt A s v u (!k)/\SeqAt.EqAt A s v u k
inductive Seen (s:Shared):D->Value->Prop where
 |j_:Seen s .j_ .none
 |bl (b:Bool):Seen s (.bl b) (.bool b)
 |int (i:Int) (t:Tok):Seen s (.int i) (.int i t)
 |str (x:Str) (t:Tok):Seen s (.str x) (.str x t)
 |tup {ds:List D}{p:Addr}{its:List Value} (h:s.heap.IsTuple p its.toArray):Seen s (.tup ds) (.ref p)
 |e_ {ds:List D}{p:Addr}{its:List Value} (h:s.heap.IsList p its.toArray):Seen s (.e_ ds) (.ref p)
theorem iK{X:Cx}(I:Inv X a_ σ H s)(p:plN n x=true)(d:Den X.K H x v)(r:RelV v v2):Seen s x v2:=by
 cases x with
 |j_=>cases (show v=.j_ from d);cases r;exact .j_
 |bl b=>cases (show v=.bl b from d);cases r;exact .bl b
 |int i=>cases (show v=.int i from d);obtain⟨t,rfl⟩:=r;exact .int i t
 |str i=>cases (show v=.str i from d);obtain⟨t,rfl⟩:=r;exact .str i t
 |tup ds=>
  obtain⟨q,vs,rfl,sq,_⟩:=d;cases r;obtain⟨its,_,t,_⟩:=I.tuple sq;exact .tup (its:=its) t
 |e_ ds=>
  obtain⟨q,vs,rfl,sq,_⟩:=d;cases r;obtain⟨its,_,t,_⟩:=I.list sq.sq;exact .e_ (its:=its) t.isList
 |ref a=>simp[plN]at p
 |obj _ _ _ _=>simp[plN]at p
 |Kz _ _=>simp[plN]at p
 |JT _ _=>simp[plN]at p
theorem vq{A:Around}(hx:Seen s x v)(hy:Seen s y u)(hu:A.units<cLine)(seq:∀ds es,(x=.tup ds/\y=.tup es)\/(x=.e_ ds/\y=.e_ es)->Eq3 A s v u (eqD x y)):Eq3 A s v u (eqD x y):=by
 cases hx with
 |j_=>
  cases hy with
  |j_=>exact⟨.none_none,.none_none,.same _⟩
  |bl b=>exact⟨.none_bool b,.none_bool b,.none_bool b⟩
  |int b tb=>exact⟨.none_int b tb,.none_int b tb,.none_int b tb⟩
  |str b tb=>exact⟨.none_str b tb,.none_str b tb,.none_str b tb⟩
  |@tup es p2 q_ h2=>exact⟨.none_tuple h2 hu,.none_tuple h2 hu,.none_tuple h2 hu⟩
  |@e_ es p2 q_ h2=>exact⟨.none_list h2 hu,.none_list h2 hu,.none_list h2 hu⟩
 |bl a=>
  cases hy with
  |j_=>exact⟨.bool_none a,.bool_none a,.bool_none a⟩
  |bl b=>rw[AU];exact⟨.bool_bool a b,.bool_bool a b,.bool_bool a b⟩
  |int b tb=>rw[zX];exact⟨.bool_int a b tb,.bool_int a b tb,.bool_int a b tb⟩
  |str b tb=>exact⟨.bool_str a b tb,.bool_str a b tb,.bool_str a b tb⟩
  |@tup es p2 q_ h2=>exact⟨.bool_tuple a h2 hu,.bool_tuple a h2 hu,.bool_tuple a h2 hu⟩
  |@e_ es p2 q_ h2=>exact⟨.bool_list a h2 hu,.bool_list a h2 hu,.bool_list a h2 hu⟩
 |int a ta=>
  cases hy with
  |j_=>exact⟨.int_none a ta,.int_none a ta,.int_none a ta⟩
  |bl b=>rw[A7];exact⟨.int_bool a ta b,.int_bool a ta b,.int_bool a ta b⟩
  |int b tb=>rw[zS];exact⟨.int_int a ta b tb,.int_int a ta b tb,.int_int a ta b tb⟩
  |str b tb=>exact⟨.int_str a ta b tb,.int_str a ta b tb,.int_str a ta b tb⟩
  |@tup es p2 q_ h2=>exact⟨.int_tuple a ta h2 hu,.int_tuple a ta h2 hu,.int_tuple a ta h2 hu⟩
  |@e_ es p2 q_ h2=>exact⟨.int_list a ta h2 hu,.int_list a ta h2 hu,.int_list a ta h2 hu⟩
 |str a ta=>
  cases hy with
  |j_=>exact⟨.str_none a ta,.str_none a ta,.str_none a ta⟩
  |bl b=>exact⟨.str_bool a ta b,.str_bool a ta b,.str_bool a ta b⟩
  |int b tb=>exact⟨.str_int a ta b tb,.str_int a ta b tb,.str_int a ta b tb⟩
  |str b tb=>rw[Be];exact⟨.str_str a ta b tb,.str_str a ta b tb,.str_str a ta b tb⟩
  |@tup es p2 q_ h2=>exact⟨.str_tuple a ta h2 hu,.str_tuple a ta h2 hu,.str_tuple a ta h2 hu⟩
  |@e_ es p2 q_ h2=>exact⟨.str_list a ta h2 hu,.str_list a ta h2 hu,.str_list a ta h2 hu⟩
 |@tup ds p its h=>
  cases hy with
  |j_=>exact⟨.tuple_none h hu,.tuple_none h hu,.tuple_none h hu⟩
  |bl b=>exact⟨.tuple_bool b h hu,.tuple_bool b h hu,.tuple_bool b h hu⟩
  |int b tb=>exact⟨.tuple_int b tb h hu,.tuple_int b tb h hu,.tuple_int b tb h hu⟩
  |str b tb=>exact⟨.tuple_str b tb h hu,.tuple_str b tb h hu,.tuple_str b tb h hu⟩
  |@tup es p2 q_ h2=>exact seq ds es (.inl ⟨rfl,rfl⟩)
  |@e_ es p2 q_ h2=>exact⟨.tuple_list h h2 hu,.tuple_list h h2 hu,.tuple_list h h2 hu⟩
 |@e_ ds p its h=>
  cases hy with
  |j_=>exact⟨.list_none h hu,.list_none h hu,.list_none h hu⟩
  |bl b=>exact⟨.list_bool b h hu,.list_bool b h hu,.list_bool b h hu⟩
  |int b tb=>exact⟨.list_int b tb h hu,.list_int b tb h hu,.list_int b tb h hu⟩
  |str b tb=>exact⟨.list_str b tb h hu,.list_str b tb h hu,.list_str b tb h hu⟩
  |@tup es p2 q_ h2=>exact⟨.list_tuple h h2 hu,.list_tuple h h2 hu,.list_tuple h h2 hu⟩
  |@e_ es p2 q_ h2=>exact seq ds es (.inr ⟨rfl,rfl⟩)
theorem Bx{K:JJ}(I:Inv X a_ σ H s)(hK:K=X.K):∀(n:Nat) {A:Around}{x y:D}{v u:V}{v2 u2:Value},plN n x=true->plN n y=true->Den K H x v->Den K H y u->RelV v v2->RelV u u2->A.units+n<cLine->
  Eq3 A s v2 u2 (eqD x y):=by
 subst hK;have items:∀(n:Nat),(∀{A:Around}{x y:D}{v u:V}{v2 u2:Value},plN n x=true->plN n y=true->Den X.K H x v->Den X.K H y u->RelV v v2->RelV u u2->A.units+n<cLine->
   Eq3 A s v2 u2 (eqD x y))->∀{A:Around}{xs ys:List D}{vs us:List V}{its q_:List Value},xs.all (plN n)=true->ys.all (plN n)=true->DenL X.K H xs vs->DenL X.K H ys us->Vals vs its->Vals us q_->A.units+(n+1)<cLine->
   ∀j (h1:j<its.toArray.size)(h2:j<q_.toArray.size),SeqAt.EqAt A.in1 s its.toArray[j] q_.toArray[j] (eqD (xs.getD j .j_) (ys.getD j .j_)):=by
  intro n ih A xs ys vs us its q_ p1 p2 l1 l2 r1 r2 hu j h1 h2;have h1:j<its.length:=by simpa using h1
  have h2:j<q_.length:=by simpa using h2
  have hx:j<xs.length:=by rw[l1.length,r1.length];exact h1
  have hy:j<ys.length:=by rw[l2.length,r2.length];exact h2
  obtain⟨v,e1,d1⟩:=l1.get (i:=j) (d:=xs[j]) (by simp[hx])
  obtain⟨u,e2,d2⟩:=l2.get (i:=j) (d:=ys[j]) (by simp[hy])
  obtain⟨v2,e3,rv⟩:=r1.get e1;obtain⟨u2,e4,ru⟩:=r2.get e2;rw[show its.toArray[j]=v2 by simpa [h1] using e3,show q_.toArray[j]=u2 by simpa [h2] using e4,show xs.getD j .j_=xs[j] by simp[hx],show ys.getD j .j_=ys[j] by simp[hy]]
  exact (ih (IL.mp p1 _ (Jw hx)) (IL.mp p2 _ (Jw hy)) d1 d2 rv ru (by show A.units+1+n<cLine;omega)).2.2
 intro n
 induction n with
 |zero=>
  intro A x y v u v2 u2 p1 p2 d1 d2 r1 r2 hu;refine vq (iK I p1 d1 r1) (iK I p2 d2 r2) (by omega) λds es z=>?_
  rcases z with ⟨rfl,rfl⟩|⟨rfl,rfl⟩<;>cases p1
 |succ n ih=>
  intro A x y v u v2 u2 p1 p2 d1 d2 r1 r2 hu;refine vq (iK I p1 d1 r1) (iK I p2 d2 r2) (by omega) λds es z=>?_
  rcases z with ⟨rfl,rfl⟩|⟨rfl,rfl⟩
  ·obtain⟨p,vs,rfl,q1,l1⟩:=id d1;obtain⟨p',us,rfl,q2,l2⟩:=id d2;cases r1;cases r2;obtain⟨its,v1,t1,_⟩:=I.tuple q1;obtain⟨q_,v2,t2,_⟩:=I.tuple q2;have he:=items n ih (A:=A) (by simpa [plN] using p1) (by simpa [plN] using p2) l1 l2 v1 v2 hu
   have ee:eqD (.tup ds) (.tup es)=((List.range (min its.toArray.size q_.toArray.size)).all (λj=>eqD (ds.getD j .j_) (es.getD j .j_))&&its.toArray.size == q_.toArray.size):=by
    simp only[eqD];rw[tN,l1.length,v1.length,l2.length,v2.length];rfl
   have rc:=SeqAt.RcAt.tuples (A:=A) t1 t2 (by omega) he
   rw[<-ee]at rc;have rn:=SeqAt.RcNeAt.tuples (A:=A) t1 t2 (by omega) he
   rw[<-ee]at rn;refine⟨rc,rn,?_⟩;by_cases hp:p=p'
   ·subst hp;rw[ng I rfl (n+1) p1 p2 d1 d2];exact .same _
   ·exact .of_refs hp rc
  ·obtain⟨p,vs,rfl,q1,l1⟩:=id d1;obtain⟨p',us,rfl,q2,l2⟩:=id d2;cases r1;cases r2;obtain⟨its,v1,t1,_⟩:=I.list q1.sq;obtain⟨q_,v2,t2,_⟩:=I.list q2.sq;have he:=items n ih (A:=A) (by simpa [plN] using p1) (by simpa [plN] using p2) l1 l2 v1 v2 hu
   have Pk:SeqAt.RcAt A s (.ref p) (.ref p') (eqD (.e_ ds) (.e_ es))/\SeqAt.RcNeAt A s (.ref p) (.ref p') (!eqD (.e_ ds) (.e_ es)):=by
    by_cases hl:its.toArray.size=q_.toArray.size
    ·have ee:eqD (.e_ ds) (.e_ es)=(List.range its.toArray.size).all λj=>eqD (ds.getD j .j_) (es.getD j .j_):=by
      have e1:ds.length=es.length:=by rw[l1.length,v1.length,l2.length,v2.length];simpa using hl
      simp only[eqD];rw[fw e1,l1.length,v1.length];rfl
     rw[ee];exact⟨.lists t1.isList t2.isList hl (by omega) he,.lists t1.isList t2.isList hl (by omega) he⟩
    ·have ee:eqD (.e_ ds) (.e_ es)=false:=by
      simp only[eqD];cases q:b8 ds es with
      |false=>rfl
      |true=>
       have:=j2 q;rw[l1.length,v1.length,l2.length,v2.length]at this;exact absurd (by simpa using this) hl
     rw[ee];exact⟨.lists_lengths t1.isList t2.isList (by simpa using hl) (by omega),.lists_lengths t1.isList t2.isList (by simpa using hl) (by omega)⟩
   refine⟨Pk.1,Pk.2,?_⟩;by_cases hp:p=p'
   ·subst hp;rw[ng I rfl (n+1) p1 p2 d1 d2];exact .same _
   ·exact .of_refs hp Pk.1
end
def VO(X:Cx)(f:Value->Value->Sem Value)(r:D->D->MH->VK3->Prop):Prop:=
 ∀(a_:List (Addr×Obj)) (s:Shared)(σ:St)(H:Hp)(x y:D)(v u:V)(v2 u2:Value)(M:MH)(Q:VK3)(Q2:VK),Inv X a_ σ H s->RelV v v2->RelV u u2->Den X.K H x v->Den X.K H y u->RelM X.K M H->r x y M Q->Back X.K H Q Q2->
  wpAny (model X.prog X.w) X.A (f v2 u2) (EP X a_ σ Q2) X.xe s
def VU(X:Cx)(f:Value->Sem Value)(r:D->MH->VK3->Prop):Prop:=
 ∀(a_:List (Addr×Obj)) (s:Shared)(σ:St)(H:Hp)(x:D)(v:V)(v2:Value)(M:MH)(Q:VK3)(Q2:VK),Inv X a_ σ H s->RelV v v2->Den X.K H x v->RelM X.K M H->r x M Q->Back X.K H Q Q2->
  wpAny (model X.prog X.w) X.A (f v2) (EP X a_ σ Q2) X.xe s
def VC(X:Cx)(f:Value)(r:List D->MH->VK3->Prop):Prop:=
 ∀(a_:List (Addr×Obj)) (s:Shared)(σ:St)(H:Hp)(xs:List D)(vs:List V)(us:List Value)(M:MH)(Q:VK3)(Q2:VK),Inv X a_ σ H s->Vals vs us->DenL X.K H xs vs->RelM X.K M H->r xs M Q->Back X.K H Q Q2->
  wpAny (model X.prog X.w) X.A (call f us) (EP X a_ σ Q2) X.xe s
section
variable {X:Cx}
theorem VO.of3(h:Op3 X f r):VO X f r:=by
 obtain⟨r2,h2,hl⟩:=h;exact λa_ s σ H x y v u v2 u2 M Q Q2 I rv ru dx dy rm q b_=>h2 a_ s σ H v u v2 u2 Q2 I rv ru (hl H x y v u M Q Q2 dx dy rm q b_)
theorem VU.of3(h:Un3 X f r):VU X f r:=by
 obtain⟨r2,h2,hl⟩:=h;exact λa_ s σ H x v v2 M Q Q2 I rv dx rm q b_=>h2 a_ s σ H v v2 Q2 I rv (hl H x v M Q Q2 dx rm q b_)
theorem VC.of3(h:qL X f r):VC X f r:=by
 obtain⟨r2,h2,hl⟩:=h;exact λa_ s σ H xs vs us M Q Q2 I rv dx rm q b_=>h2 a_ s σ H vs us Q2 I rv (hl H xs vs M Q Q2 dx rm q b_)
theorem VO.imp(h:VO X f r)(g:∀x y M Q,r' x y M Q->r x y M Q):VO X f r':=
 λa_ s σ H x y v u v2 u2 M Q Q2 I rv ru dx dy rm q b_=>h a_ s σ H x y v u v2 u2 M Q Q2 I rv ru dx dy rm (g x y M Q q) b_
theorem VU.imp(h:VU X f r)(g:∀x M Q,r' x M Q->r x M Q):VU X f r':=
 λa_ s σ H x v v2 M Q Q2 I rv dx rm q b_=>h a_ s σ H x v v2 M Q Q2 I rv dx rm (g x M Q q) b_
theorem VC.imp(h:VC X f r)(g:∀x M Q,r' x M Q->r x M Q):VC X f r':=
 λa_ s σ H x v v2 M Q Q2 I rv dx rm q b_=>h a_ s σ H x v v2 M Q Q2 I rv dx rm (g x M Q q) b_
theorem gW(h:rI2 g x y M Q):ma g x y M Q:=by
 unfold rI2 at h;split at h
 ·exact⟨_,_,rfl,rfl,h⟩
 ·exact h.elim
theorem mq(h:rII C g x y M Q):rI3 C g x y M Q:=by
 unfold rII at h;split at h
 ·exact⟨_,_,rfl,rfl,h⟩
 ·exact h.elim
theorem xM{s:Shared}{ws:List Value}(ht:IsTup s.heap t #[])(hb:IsTup s.heap b ws.toArray)(h:Q (.ref b) s):wpAny (model prog w) A (binaryOp .Add (.ref t) (.ref b)) Q E s:=by
 obtain⟨⟨cls,dd,data,sl⟩,ho,hc,n,hd⟩:=id ht;obtain⟨⟨O6,LB,data2,Ky⟩,Mv,Mw,n2,hd2⟩:=id hb;simp only at hc hd Mw hd2;subst hc hd Mw hd2;exact concat_meets ⟨_,ho,rfl⟩ ⟨_,Mv,rfl⟩ noFill_tuple_add seq_tuple_add PySem.F.slot_tuple_add PySem.F.entry_tuple_add (PySem.F.args_tuple_add_2 _ _) (tuple_addW0 t b #[] ws.toArray n n2 dd LB sl Ky rfl) ⟨ho,Mv,h⟩
theorem qf{a b:List D}(I:Inv X a_ σ H s)(rv:RelV v v2)(ru:RelV u u2)(dx:Den X.K H (.tup a) v)(dy:Den X.K H (.tup b) u)(rm:RelM X.K M H)
  (q:a.length+b.length<=sizeLine/\Q (.tup (a++b)) M) (b_:Back X.K H Q Q2):wpAny (model X.prog X.w) X.A (binaryOp .Add v2 u2) (EP X a_ σ Q2) X.xe s:=by
 obtain⟨p1,vs,rfl,Pl,NN⟩:=dx;obtain⟨p2,us,rfl,LU,Ki⟩:=dy;obtain⟨h2,q⟩:=q;by_cases h1:a=[]
 ·subst h1;cases (show vs=[] from NN);cases rv;cases ru;obtain⟨its,r1,RJ,_⟩:=I.tuple Pl;obtain⟨q_,r2,RK,_⟩:=I.tuple LU;cases r1;exact xM RJ RK ⟨.ref p2,H,I,rfl,b_ _ _ (.tup b) _ ⟨p2,us,rfl,LU,Ki⟩ rm (.refl _) q⟩
 refine xV a_ s σ H _ _ v2 u2 Q2 I rv ru ⟨p1,p2,vs,us,rfl,rfl,Pl,LU,λz=>?_,by rw[<-NN.length,<-Ki.length];exact h2,λz=>?_,λ_ p hp=>?_⟩
 ·have:=NN.length;rw[z]at this;cases a with
  |nil=>exact h1 rfl
  |cons _ _=>cases this
 ·have hb:b=[]:=List.length_eq_zero_iff.mp (by rw[Ki.length,z];rfl)
  subst hb;rw[Jz]at q;exact b_ _ _ (.tup a) _ ⟨p1,vs,rfl,Pl,NN⟩ rm (.refl _) q
 ·exact b_ _ _ (.tup (a++b)) _ ⟨p,_,rfl,.of ag,(NN.append Ki).mono (.new hp)⟩ (rm.grow hp) (.new hp) q
theorem AK(op:Operator):VO X (binaryOp op) (j4 op):=by
 cases op with
 |Add=>
  intro a_ s σ H x y v u v2 u2 M Q Q2 I rv ru dx dy rm q b_;have q':tP x y M Q:=q;clear q;unfold tP at q';split at q'
  ·exact VO.of3 Cc a_ s σ H _ _ v u v2 u2 M Q Q2 I rv ru dx dy rm ⟨_,_,rfl,rfl,q'⟩ b_
  ·exact qf I rv ru dx dy rm q' b_
  ·exact q'.elim
 |Sub=>exact (VO.of3 Ec).imp λ_ _ _ _ h=>gW h
 |Mult=>
  intro a_ s σ H x y v u v2 u2 M Q Q2 I rv ru dx dy rm q b_;have q':ux x y M Q:=q;clear q;unfold ux at q';split at q'
  ·exact VO.of3 DJ a_ s σ H _ _ v u v2 u2 M Q Q2 I rv ru dx dy rm ⟨_,_,rfl,rfl,q'⟩ b_
  ·exact q'.elim
 |FloorDiv=>exact (VO.of3 AE).imp λ_ _ _ _ h=>mq h
 |Mod=>exact (VO.of3 BE).imp λ_ _ _ _ h=>mq h
 |Pow=>exact (VO.of3 DE).imp λ_ _ _ _ h=>mq h
 |RShift=>exact (VO.of3 BX).imp λ_ _ _ _ h=>mq h
 |BitAnd=>exact (VO.of3 DD).imp λ_ _ _ _ h=>gW h
 |_=>exact λa_ s σ H x y v u v2 u2 M Q Q2 I rv ru dx dy rm q b_=>False.elim q
theorem zC:VU X (unaryOp .USub) rNeg:=(VU.of3 Df).imp λx M Q h=>by
 unfold rNeg at h;split at h
 ·exact⟨_,rfl,h⟩
 ·exact h.elim
theorem zB(fz:Bool):VO X (binaryOp .Add) (jS fz):=by
 intro a_ s σ H x y v u v2 u2 M Q Q2 I rv ru dx dy rm q b_;unfold jS at q;split at q
 next a b ea eb=>
  obtain⟨l,xs,rfl,hH,dl⟩:=bq rm ea dx;obtain⟨b',zs,rfl,hB,Ki⟩:=bq rm eb dy;cases rv;cases ru;obtain⟨z,its,n,r,hl,e⟩:=I.rdL hH;obtain⟨z2,q_,n2,r2,K4,e2⟩:=I.rdL hB;have t_:xs.length+zs.length<=sizeLine:=by
   have:=q.1;rw[Je,dl.length,Ki.length]at this;exact this
  refine PySem.P.add_list e e2 ?_ (by rw[IF,IF];omega)
  have ea:its.toArray++q_.toArray=(its++q_).toArray:=by simp
  rw[ea];exact cA (I.lnew (t':=s.toks) (r.append r2) (by rw[Je];omega)) I.fresh (dl.append Ki) rm (.refl _) q b_
 next=>
  split at q
  ·exact qf I rv ru dx dy rm q b_
  ·exact q.elim
theorem wx{K:JJ}(rm:RelM K M H)(dx:Den K H x v)(hp:pl (res M x)=true) :
  (∃a ds,x=.ref a/\M a=some (.lst ds)/\res M x=.e_ ds)\/(res M x=x):=by
 cases x with
 |ref a=>
  cases e:M a with
  |none=>
   have:res M (.ref a)=.ref a:=by simp[res,ai,e]
   rw[this]at hp;simp[plN]at hp
  |some o=>
   cases o with
   |lst ds=>exact .inl ⟨a,ds,rfl,e,by simp[res,ai,e]⟩
   |_=>
    have:res M (.ref a)=.ref a:=by simp[res,ai,e]
    rw[this]at hp;simp[plN]at hp
 |e_ ds=>exact .inr rfl
 |_=>exact .inr rfl
theorem mM(I:Inv X a_ σ H s)(rm:RelM X.K M H)(dx:Den X.K H x v)(hp:pl (res M x)=true) :
  ∃H',Inv X a_ σ H' s/\TM X.K H H'/\Den X.K H' (res M x) v:=by
 rcases wx rm dx hp with ⟨a,ds,rfl,q,e⟩|e
 ·obtain⟨vs,e1,l⟩:=rm a _ q;obtain⟨o,I2⟩:=I.freeze e1;refine⟨_,I2,.freeze e1,?_⟩;rw[e];cases (show v=.ref a from dx);exact fK l e1
 ·rw[e];exact⟨H,I,.refl _,dx⟩
def mr(K:JJ)(M:MH)(H:Hp):Prop:=∀a ds,M a=some (.lst ds)->∃vs,(H a=some (.lst vs)\/∃o,H a=some (.s_ o (.lst vs)))/\DenL K H ds vs
theorem RelM.z{K:JJ}(rm:RelM K M H):mr K M H:=λa ds q=>by
 obtain⟨vs,e,l⟩:=rm a _ q;exact⟨vs,.inl e,l⟩
theorem Ci(I:Inv X a_ σ H s)(rz:mr X.K M H)(q:M a=some (.lst ds)) :
  ∃H',Inv X a_ σ H' s/\TM X.K H H'/\mr X.K M H'/\∃vs,SqF X.K H' a vs/\DenL X.K H' ds vs/\DenL X.K H ds vs:=by
 obtain⟨vs,e|⟨o,e⟩,l⟩:=rz a ds q
 ·obtain⟨o,I2⟩:=I.freeze e;have t:TM X.K H (upd H a (.s_ o (.lst vs))):=.freeze e;refine⟨_,I2,t,λb es qb=>?_,vs,.inl ⟨o,ag⟩,l.mono t,l⟩
  obtain⟨us,e2,l2⟩:=rz b es qb;by_cases hb:b=a
  ·subst hb;rw[q]at qb;cases qb;exact⟨vs,.inr ⟨o,ag⟩,l.mono t⟩
  ·refine⟨us,?_,l2.mono t⟩;rw[ae hb];exact e2
 ·exact⟨H,I,.refl _,rz,vs,.inl ⟨o,e⟩,l,l⟩
theorem Cr(I:Inv X a_ σ H s)(rz:mr X.K M H)(dx:Den X.K H x v) :
  ∃H',Inv X a_ σ H' s/\TM X.K H H'/\mr X.K M H'/\Den X.K H' (res M x) v:=by
 cases x with
 |ref a=>
  cases e:M a with
  |none=>
   have:res M (.ref a)=.ref a:=by simp[res,ai,e]
   rw[this];exact⟨H,I,.refl _,rz,dx⟩
  |some o=>
   cases o with
   |lst ds=>
    obtain⟨H',I2,t,MJ,vs,sq,l,_⟩:=Ci I rz e;have:res M (.ref a)=.e_ ds:=by simp[res,ai,e]
    rw[this];exact⟨H',I2,t,MJ,a,vs,dx,sq,l⟩
   |_=>
    have:res M (.ref a)=.ref a:=by simp[res,ai,e]
    rw[this];exact⟨H,I,.refl _,rz,dx⟩
 |e_ ds=>exact⟨H,I,.refl _,rz,dx⟩
 |_=>exact⟨H,I,.refl _,rz,dx⟩
theorem vM:∀{ds:List D}{vs:List V}{H:Hp},Inv X a_ σ H s->mr X.K M H->DenL X.K H ds vs->
  ∃H',Inv X a_ σ H' s/\TM X.K H H'/\mr X.K M H'/\DenL X.K H' (ds.map (res M)) vs
 |[],vs,H,I,rz,dl=>⟨H,I,.refl _,rz,dl⟩
 |d::ds,vs,H,I,rz,dl=>by
  obtain⟨v,r,rfl,dv,dr⟩:=dl;obtain⟨H1,I1,t1,Pm,d1⟩:=Cr I rz dv;obtain⟨H2,I2,t2,MJ,d2⟩:=vM I1 Pm (dr.mono t1);exact⟨H2,I2,t1.trans t2,MJ,v,r,rfl,d1.mono t2,d2⟩
theorem yi(I:Inv X a_ σ H s)(rz:mr X.K M H)(dx:Den X.K H x v) :
  ∃H',Inv X a_ σ H' s/\TM X.K H H'/\mr X.K M H'/\Den X.K H' (rs M x) v:=by
 cases x with
 |ref a=>
  cases e:M a with
  |none=>
   have:rs M (.ref a)=.ref a:=by simp[rs,ai,e]
   rw[this];exact⟨H,I,.refl _,rz,dx⟩
  |some o=>
   cases o with
   |lst ds=>
    have:rs M (.ref a)=.e_ (if pls ds=true then ds else ds.map (res M)):=by simp[rs,ai,e]
    rw[this];obtain⟨H',I2,t,MJ,vs,sq,l,_⟩:=Ci I rz e;split
    ·exact⟨H',I2,t,MJ,a,vs,dx,sq,l⟩
    ·obtain⟨H3,I3,t3,Pn,l3⟩:=vM I2 MJ l;exact⟨H3,I3,t.trans t3,Pn,a,vs,dx,t3.f _ _ sq,l3⟩
   |_=>
    have:rs M (.ref a)=.ref a:=by simp[rs,ai,e]
    rw[this];exact⟨H,I,.refl _,rz,dx⟩
 |e_ ds=>
  have:rs M (.e_ ds)=.e_ (if pls ds=true then ds else ds.map (res M)):=by simp[rs,ai]
  rw[this];split
  ·exact⟨H,I,.refl _,rz,dx⟩
  ·obtain⟨p,vs,e,sq,l⟩:=dx;obtain⟨H3,I3,t3,Pn,l3⟩:=vM I rz l;exact⟨H3,I3,t3,Pn,p,vs,e,t3.f _ _ sq,l3⟩
 |_=>exact⟨H,I,.refl _,rz,dx⟩
theorem Ee(I:Inv X a_ σ H s)(rm:RelM X.K M H)(dx:Den X.K H x v)(dy:Den X.K H y u) :
  ∃H',Inv X a_ σ H' s/\Den X.K H' (rs M x) v/\Den X.K H' (rs M y) u:=by
 obtain⟨H1,I1,t1,Pm,d1⟩:=yi I rm.z dx;obtain⟨H2,I2,t2,MJ,d2⟩:=yi I1 Pm (dy.mono t1);exact⟨H2,I2,d1.mono t2,d2⟩
theorem yf(hu:X.A.units+64<cLine)(neg:Bool):VO X (compareOp (if neg=true then .NotEq else .Eq)) (dJ neg):=by
 intro a_ s σ H x y v u v2 u2 M Q Q2 I rv ru dx dy rm q b_;obtain⟨h1,h2,q⟩:=q;obtain⟨H',I',d1,d2⟩:=Ee I rm dx dy;obtain⟨rc,rn,_⟩:=Bx I' rfl 8 (A:=X.A) h1 h2 d1 d2 rv ru (by omega)
 have fin:=b_ _ _ _ _ (bC (K:=X.K) (H:=H)) rm (.refl _) q;cases neg with
 |true=>
  refine rn _ _ _ _ ⟨.bl _,H,I,rfl,?_⟩;rw[Bool.true_xor]at fin;exact fin
 |false=>
  refine rc _ _ _ _ ⟨.bl _,H,I,rfl,?_⟩;rw[Bool.false_xor]at fin;exact fin
end
section
variable {K:JJ}
theorem jt[DecidableEq κ]:∀{ks:List κ}{ds:List D}{vs:List V}{k:κ},DenL K H ds vs->ks.length=vs.length->
  (∀d,getD ks ds k=some d->∃v,dY (ks.zip vs) k=some v/\Den K H d v)/\(getD ks ds k=none->dY (ks.zip vs) k=none)
 |[],_,vs,k,_,_=>⟨λd e=>by simp[getD]at e,λ_=>by simp[dY]⟩
 |q::ks,[],vs,k,dl,hl=>by cases (show vs=[] from dl);cases hl
 |q::ks,d0::ds,_,k,dl,hl=>by
  obtain⟨v,r,rfl,dv,dl⟩:=dl;have ih:=jt (ks:=ks) (k:=k) dl (by simpa using hl)
  by_cases z:q=k
  ·refine⟨λd e=>?_,λe=>?_⟩
   ·simp only[getD,Iu z]at e;cases e;exact⟨v,eo (p:=(q,v)) z,dv⟩
   ·simp only[getD,Iu z]at e;cases e
  ·refine⟨λd e=>?_,λe=>?_⟩
   ·simp only[getD,Im z]at e;obtain⟨w,h1,h2⟩:=ih.1 d e;exact⟨w,(dm (p:=(q,v)) z).trans h1,h2⟩
   ·simp only[getD,Im z]at e;exact (dm (p:=(q,v)) z).trans (ih.2 e)
theorem mY(h:pR y=some k)(d:Den K H y u):u=kV k:=by
 cases y with
 |int i=>cases (show some (Sum.inl i)=some k from h);exact d
 |str x=>cases (show some (Sum.inr x)=some k from h);exact d
 |_=>cases h
theorem k9:∀{es:List D}{vs:List V}{k:List Int},cO es=some k->DenL K H es vs->vs=k.map V.int
 |[],vs,k,h,dl=>by cases (show some []=some k from h);exact dl
 |d::es,_,k,h,dl=>by
  obtain⟨v,r,rfl,dv,dl⟩:=dl;cases d with
  |int i=>
   simp only[cO]at h;split at h
   ·rename_i ns q;cases h;rw[k9 q dl];cases (show v=.int i from dv);rfl
   ·cases h
  |_=>cases h
theorem gE{k:List Int}(h:fF y=some k)(d:Den K H y u):∃b,u=.ref b/\SqT K H b (k.map V.int):=by
 cases y with
 |tup es=>
  obtain⟨b,vs,e,sq,dl⟩:=d;refine⟨b,e,?_⟩;rw[<-k9 h dl];exact sq
 |_=>cases h
theorem m6{ks:List Key}(h:eW M x=some (ks,ds))(rm:RelM K M H)(d:Den K H x v):∃p vs,v=.ref p/\Rd H p (.dK (ks.zip vs))/\ks.length=vs.length/\DenL K H ds vs:=by
 cases x with
 |Kz J_ JK=>
  cases h;obtain⟨p,vs,o,rfl,e,hl,dl⟩:=d;exact⟨p,vs,rfl,.inr ⟨o,e⟩,hl,dl⟩
 |ref a=>
  simp only[eW]at h;split at h
  ·rename_i q;cases h;obtain⟨vs,e,hl,dl⟩:=rm a _ q;exact⟨a,vs,d,.inl e,hl,dl⟩
  ·cases h
 |_=>cases h
theorem m8(h:iD M x=some (ks,ds))(rm:RelM K M H)(d:Den K H x v):∃p vs xs,v=.ref p/\Rd H p (.ext (aY p xs))/\TabOk K H p ks xs vs/\DenL K H ds vs:=by
 cases x with
 |JT J_ JK=>
  cases h;obtain⟨p,vs,o,xs,rfl,e,z,dl⟩:=d;exact⟨p,vs,xs,rfl,.inr ⟨o,e⟩,z,dl⟩
 |ref a=>
  simp only[iD]at h;split at h
  ·rename_i q;cases h;obtain⟨vs,xs,e,z,dl⟩:=rm a _ q;exact⟨a,vs,xs,d,.inl e,z,dl⟩
  ·cases h
 |_=>cases h
theorem TabOk.len{ks:List (List Int)}{vs:List V}(z:TabOk K H a ks xs vs):ks.length=vs.length:=by
 rw[<-z.kx,ID,z.vx.length,ID]
theorem dh:∀{xs:List (List Int×Addr×Value)}{vs:List V} (k:List Int),Vals vs (xs.map (·.2.2))->RelO (dY ((xs.map (·.1)).zip vs) k) ((atKey xs k).map (·.2))
 |[],vs,k,r=>by cases r;exact True.intro
 |x::xs,vs,k,r=>by
  rw[Ip]at r;cases r with
  |@cons v _ vs _ h t=>
   have ih:=dh k t;by_cases e:x.1=k
   ·have b:atKey (x::xs) k=some x.2:=by simp[atKey,Jv,e]
    rw[Ip,List.zip_cons_cons,eo (p:=(x.1,v)) e,b];exact h
   ·have b:atKey (x::xs) k=atKey xs k:=by simp[atKey,Jv,e]
    rw[Ip,List.zip_cons_cons,dm (p:=(x.1,v)) e,b];exact ih
end
inductive DRd (X:Cx) (H:Hp) (a:Addr) (u:V):Option V->Prop where
 |k {k_:List (Key×V)}{k:Key} (e:Rd H a (.dK k_)) (hu:u=kV k):DRd X H a u (dY k_ k)
 |t {ks:List (List Int)}{xs:List (List Int×Addr×Value)}{vs:List V}{k:List Int}{b:Addr} (e:Rd H a (.ext (aY a xs))) (z:TabOk X.K H a ks xs vs) (hu:u=.ref b) (sq:SqT X.K H b (k.map V.int)):DRd X H a u (dY (ks.zip vs) k)
def OptDen(K:JJ)(H:Hp):Option D->Option V->Prop
 |some d,some v=>Den K H d v
 |none,none=>True
 |_,_=>False
theorem gy{X:Cx}(h:gD M x y=some o)(rm:RelM X.K M H)(dx:Den X.K H x v)(dy:Den X.K H y u):∃a ov,v=.ref a/\DRd X H a u ov/\OptDen X.K H o ov:=by
 unfold gD at h;split at h
 ·rename_i ks ds e;split at h
  ·rename_i k ek;cases h;obtain⟨p,vs,rfl,rd,hl,dl⟩:=m6 e rm dx;refine⟨p,_,rfl,.k rd (mY ek dy),?_⟩;have g:=jt (k:=k) dl hl;cases q:getD ks ds k with
   |none=>rw[g.2 q];exact True.intro
   |some d=>obtain⟨w,h1,h2⟩:=g.1 d q;rw[h1];exact h2
  ·cases h
 ·split at h
  ·rename_i ks ds e;split at h
   ·rename_i k ek;cases h;obtain⟨p,vs,xs,rfl,rd,z,dl⟩:=m8 e rm dx;obtain⟨b,hb,sq⟩:=gE ek dy;refine⟨p,_,rfl,.t rd z hb sq,?_⟩;have g:=jt (k:=k) dl z.len;cases q:getD ks ds k with
    |none=>rw[g.2 q];exact True.intro
    |some d=>obtain⟨w,h1,h2⟩:=g.1 d q;rw[h1];exact h2
   ·cases h
  ·cases h
section
variable {X:Cx}{s:Shared}{o:Option V}{A:Around}
theorem jE:∀{ks:List Int}{us:List Value},Vals (ks.map V.int) us->ItemsAre (intKind P w) ks us
 |[],_,r=>by rw[List.map_nil]at r;cases r;exact .nil
 |k::ks,_,r=>by
  rw[Ip]at r;cases r with
  |cons h t=>
   obtain⟨tk,rfl⟩:=h;exact .cons (by show Value.isInt k (.int k tk)=true;simp[Value.isInt]) (jE t)
theorem dB{k:List Int}(I:Inv X a_ σ H s)(sq:SqT X.K H b (k.map V.int)):(tupleKind (intKind X.prog X.w)).is s.heap k b:=by
 obtain⟨its,r,⟨o,e,c,n,d⟩,_⟩:=I.tuple sq;exact⟨o,its.toArray,n,e,c,d,by simpa using jE r⟩
theorem bF(I:Inv X a_ σ H s)(e:Rd H a (.ext (aY a xs)))(z:TabOk X.K H a ks xs vs):s.heap.DictOfH (tupleKind (intKind X.prog X.w)) a xs:=by
 obtain⟨⟨ob,es,ep,h1,h2,h3,h4⟩,_⟩:=(show ObjOk X.prog X.w H s.heap a (.ext (aY a xs)) from e.ok I.h_);exact⟨ob,es,ep,h1,h2,h3,h4,λx hx=>dB I (z.at_ x hx),by rw[z.kx];exact z.nd⟩
theorem DRd.isDict(I:Inv X a_ σ H s)(g:DRd X H a y o):s.TypeIs (.ref a) "dict":=by
 cases g with
 |k e _=>obtain⟨_,_,vs,_,dd⟩:=ij I.h_ e;exact dd.typeIs
 |t e z _ _=>exact (bF I e z).typeIs
theorem rR(hu:A.units+1<cLine)(I:Inv X a_ σ H s)(g:DRd X H a y o)(ho:o=some v)(ry:RelV y u)(h:∀w' s',Inv X a_ σ H s'->RelV v w'->Q w' s') :
  wpAny (model X.prog X.w) A (getItem (.ref a) u) Q E s:=by
 cases g with
 |k e hk=>exact rW hu I (.inl ⟨_,_,e,hk,ho.symm⟩) ry h
 |@t ks xs vs k b e z hb sq=>
  subst hb;cases (show u=Value.ref b from ry);have dd:=bF I e z;have JQ:=dh (vs:=vs) k z.vx;rw[z.kx]at JQ;obtain⟨w',hw,JX⟩:=RelO.some_of (v:=v) (o:=(atKey xs k).map (·.2)) (by rw[<-ho];exact JQ)
  obtain⟨p,hp,Mu⟩:=Option.map_eq_some_iff.mp hw;refine wpAny_getItem_heap (Ji hu) (dB I sq) dd hp ?_;rw[Mu];exact h w' _ (I.tok _) JX
theorem Fg(neg:Bool)(hu:A.units+1<cLine)(I:Inv X a_ σ H s)(g:DRd X H a y o)(ry:RelV y u)(h:∀s',Inv X a_ σ H s'->Q (.bool (neg ^^ o.isSome)) s') :
  wpAny (model X.prog X.w) A (compareOp (if neg=true then .NotIn else .In) u (.ref a)) Q E s:=by
 cases g with
 |k e hk=>
  cases neg with
  |true=>exact xT hu I (.inl ⟨_,_,e,hk,rfl⟩) ry λs' I'=>by have:=h s' I';rw[Bool.true_xor]at this;exact this
  |false=>exact FR hu I (.inl ⟨_,_,e,hk,rfl⟩) ry λs' I'=>by have:=h s' I';rw[Bool.false_xor]at this;exact this
 |@t ks xs vs k b e z hb sq=>
  subst hb;cases (show u=Value.ref b from ry);have dd:=bF I e z;have JQ:=dh (vs:=vs) k z.vx;rw[z.kx]at JQ;have q:=JQ.isSome_eq;rw[Option.isSome_map]at q;rw[q]at h;cases neg with
  |true=>
   refine wpAny_notIn_heap (Ji hu) (dB I sq) z.no dd ?_;have:=h _ (I.tok (s.toks+(tupleKind (intKind X.prog X.w)).draws k));rw[Bool.true_xor]at this;exact this
  |false=>
   refine wpAny_in_heap (Ji hu) (dB I sq) z.no dd ?_;have:=h _ (I.tok (s.toks+(tupleKind (intKind X.prog X.w)).draws k));rw[Bool.false_xor]at this;exact this
theorem Bh(hu:A.units+1<cLine)(I:Inv X a_ σ H s)(g:DRd X H a y o)(ry:RelV y u)(h:∀w' s',Inv X a_ σ H s'->RelV (o.getD .j_) w'->Q w' s') :
  wpAny (model X.prog X.w) A (call (.builtin "dict.get") [.ref a,u]) Q E s:=by
 cases g with
 |k e hk=>exact A2 hu I (.inl ⟨_,_,e,hk,rfl⟩) ry h
 |@t ks xs vs k b e z hb sq=>
  subst hb;cases (show u=Value.ref b from ry);have dd:=bF I e z;have JQ:=dh (vs:=vs) k z.vx;rw[z.kx]at JQ;exact call_meetsIn PySem.F.slot_dict_get dd.typeIs PySem.F.entry_dict_get (PySem.F.args_dict_get_2 _ _) (meetsH_dict_get (tupleKind (intKind X.prog X.w)) a b z.no) ⟨Ji hu,k,xs,dB I sq,dd,h _ _ (I.tok _) (JQ.getD rfl)⟩
theorem Bv(hu:A.units+1<cLine)(I:Inv X a_ σ H s)(g:DRd X H a y o)(ry:RelV y u)(rd:RelV d r)(h:∀w' s',Inv X a_ σ H s'->RelV (o.getD d) w'->Q w' s') :
  wpAny (model X.prog X.w) A (call (.builtin "dict.get") [.ref a,u,r]) Q E s:=by
 cases g with
 |k e hk=>exact zt hu I (.inl ⟨_,_,e,hk,rfl⟩) ry rd h
 |@t ks xs vs k b e z hb sq=>
  subst hb;cases (show u=Value.ref b from ry);have dd:=bF I e z;have JQ:=dh (vs:=vs) k z.vx;rw[z.kx]at JQ;exact call_meetsIn PySem.F.slot_dict_get dd.typeIs PySem.F.entry_dict_get (PySem.F.args_dict_get_3 _ _ _) (meetsH_dict_get_default (tupleKind (intKind X.prog X.w)) a b z.no r) ⟨Ji hu,k,xs,dB I sq,dd,h _ _ (I.tok _) (JQ.getD rd)⟩
end
section
variable {K:JJ}
theorem rK[DecidableEq κ]{l:List (κ×V)}:d5 ((q,w)::l) k v=if q=k then (q,v)::l.map (λkv=>if kv.1=k then (kv.1,v) else kv) else (q,w)::d5 l k v:=by
 unfold d5;by_cases e:q=k
 ·simp[e]
 ·by_cases g:(l.any λkv=>decide (kv.1=k))=true
  ·simp[e,g]
  ·simp[e,g]
theorem mI[DecidableEq κ]:∀{ks:List κ}{vs:List V},¬ k∈ks->(ks.zip vs).map (λkv=>if kv.1=k then (kv.1,v) else kv)=ks.zip vs
 |[],_,_=>by simp
 |q::ks,[],_=>by simp
 |q::ks,w::vs,h=>by
  have hq:¬ q=k:=λz=>h (by simp[z])
  have ih:=mI (k:=k) (v:=v) (ks:=ks) (vs:=vs) λm=>h (Io _ m)
  simp only[List.zip_cons_cons,Ip,Im hq,ih]
theorem nR[DecidableEq κ]:∀{ks:List κ}{ds:List D}{vs:List V}{k:κ}{y:D}{v:V},ks.Nodup->DenL K H ds vs->ks.length=vs.length->Den K H y v->
  ∃KA,d5 (ks.zip vs) k v=(ah ks k).zip KA/\(ah ks k).length=KA.length/\DenL K H (ak ks ds k y) KA
 |[],ds,vs,k,y,v,_,dl,hl,dy=>by
  cases vs with
  |nil=>exact⟨[v],rfl,rfl,by unfold ak;exact .one dy⟩
  |cons _ _=>cases hl
 |q::ks,[],vs,k,y,v,_,dl,hl,dy=>by cases (show vs=[] from dl);cases hl
 |q::ks,d::ds,_,k,y,v,nd,dl,hl,dy=>by
  obtain⟨w,r,rfl,dw,dl⟩:=dl;obtain⟨n1,n2⟩:=Ja.mp nd;rw[List.zip_cons_cons,rK];by_cases e:q=k
  ·subst e;rw[Iu rfl,mI n1];refine⟨v::r,?_,?_,?_⟩
   ·simp[ah]
   ·simpa [ah] using hl
   ·simp only[ak,Iu];exact .cons dy dl
  ·rw[Im e];obtain⟨KA,h1,h2,h3⟩:=nR (k:=k) (v:=v) n2 dl (by simpa using hl) dy
   refine⟨w::KA,?_,?_,?_⟩
   ·simp[ah,Im e,h1]
   ·simp[ah,Im e,h2]
   ·simp only[ak,Im e];exact .cons dw h3
theorem nG{x:List Int×Addr×Value}{xs:List (List Int×Addr×Value)}:storedH (x::xs) k b r=if x.1=k then (x.1,x.2.1,r)::xs.map (putAt k r) else x::storedH xs k b r:=by
 unfold storedH;by_cases e:x.1=k
 ·have b':atKey (x::xs) k=some x.2:=by simp[atKey,Jv,e]
  rw[b',Iu e];simp[putAt,e]
 ·have b':atKey (x::xs) k=atKey xs k:=by simp[atKey,Jv,e]
  rw[b',Im e];by_cases g:(atKey xs k).isSome=true
  ·rw[Iu g,Iu g];simp[putAt,e]
  ·rw[Im g,Im g];rfl
theorem jL:∀{xs:List (List Int×Addr×Value)},¬ k∈xs.map (·.1)->xs.map (putAt k r)=xs
 |[],_=>rfl
 |x::xs,h=>by
  have hq:¬ x.1=k:=λz=>h (by simp[z])
  rw[Ip,jL λm=>h (Io _ m)]
  simp[putAt,hq]
theorem fA:∀{xs:List (List Int×Addr×Value)}{ds:List D}{vs:List V}{k:List Int}{b:Addr}{r:Value}{y:D}{v:V},(xs.map (·.1)).Nodup->Vals vs (xs.map (·.2.2))->RelV v r->DenL K H ds vs->Den K H y v->
  ∃KA,(storedH xs k b r).map (·.1)=ah (xs.map (·.1)) k/\Vals KA ((storedH xs k b r).map (·.2.2))/\DenL K H (ak (xs.map (·.1)) ds k y) KA/\∀x∈storedH xs k b r,(x.1=k/\x.2.1=b)\/∃x'∈xs,x'.1=x.1/\x'.2.1=x.2.1
 |[],ds,vs,k,b,r,y,v,_,vr,rv,dl,dy=>by
  cases vr;cases ds with
  |cons _ _=>obtain⟨_,_,z,_⟩:=dl;cases z
  |nil=>exact⟨[v],rfl,.cons rv .nil,by unfold ak;exact .one dy,λx hx=>.inl (by simp[storedH,atKey]at hx;simp[hx])⟩
 |x::xs,ds,vs,k,b,r,y,v,nd,vr,rv,dl,dy=>by
  rw[Ip]at vr nd;cases vr with
  |@cons w _ vs _ h t=>
   cases ds with
   |nil=>cases (show w::vs=[] from dl)
   |cons d ds=>
    obtain⟨w',r',e',dw,dl⟩:=dl;cases e';obtain⟨n1,n2⟩:=Ja.mp nd;rw[nG];by_cases e:x.1=k
    ·rw[Iu e,jL (by rw[<-e];exact n1)]
     refine⟨v::vs,?_,.cons rv t,?_,λz hz=>?_⟩
     ·simp[ah,e]
     ·simp only[Ip,ak,Iu e];exact .cons dy dl
     ·rcases Iv.mp hz with rfl|hz
      ·exact .inr ⟨x,Ix,rfl,rfl⟩
      ·exact .inr ⟨z,Io _ hz,rfl,rfl⟩
    ·rw[Im e];obtain⟨KA,h1,h2,h3,h4⟩:=fA (k:=k) (b:=b) n2 t rv dl dy;refine⟨w::KA,?_,.cons h h2,?_,λz hz=>?_⟩
     ·simp only[Ip,ah,Im e,h1]
     ·simp only[Ip,ak,Im e];exact .cons dw h3
     ·rcases Iv.mp hz with rfl|hz
      ·exact .inr ⟨z,Ix,rfl,rfl⟩
      ·rcases h4 z hz with q|⟨x',KP,q⟩
       ·exact .inl q
       ·exact .inr ⟨x',Io _ KP,q⟩
theorem aO[DecidableEq κ]:∀{ks:List κ}{k:κ},(ah ks k).length<=ks.length+1
 |[],_=>by simp[ah]
 |q::ks,k=>by
  unfold ah;split
  ·simp
  ·have:=aO (ks:=ks) (k:=k);simp only[IN];omega
theorem putD1_mem[DecidableEq κ]:∀{ks:List κ}{k x:κ},x∈ah ks k<->x∈ks\/x=k
 |[],k,x=>by simp[ah]
 |q::ks,k,x=>by
  unfold ah;split
  ·rename_i e;subst e;simp;intro z;exact .inl z
  ·rw[Iv,putD1_mem,Iv,or_assoc]
theorem eA[DecidableEq κ]:∀{ks:List κ}{k:κ},ks.Nodup->(ah ks k).Nodup
 |[],k,_=>by simp[ah]
 |q::ks,k,h=>by
  obtain⟨n1,n2⟩:=Ja.mp h;unfold ah;split
  ·exact h
  ·rename_i e;refine Ja.mpr ⟨λm=>?_,eA n2⟩
   rcases putD1_mem.mp m with z|z
   ·exact n1 z
   ·exact e z
end
section
variable {X:Cx}{A:Around}{ks:List Key}
theorem nM:∀{ks:List κ}{vs:List V},ks.length=vs.length->(ks.zip vs).map (·.1)=ks
 |[],_,_=>by simp
 |q::ks,[],h=>by cases h
 |q::ks,v::vs,h=>by simp[nM (ks:=ks) (vs:=vs) (by simpa using h)]
theorem u8{vs:List V}(I:Inv X a_ σ H s)(e:H a=some (.dK (ks.zip vs)))(hl:ks.length=vs.length):ks.Nodup:=by
 obtain⟨_,_,ws,JQ,_,_,_,_,_,_,_,_,nd⟩:=yu I.h_ e;rw[<-JQ.keys,nM hl]at nd;exact nd
theorem z8{k:Key}{y:D}{v w:V}{R:MH->Prop}{R2:Hp->Prop}(hu:A.units+1<cLine)(I:Inv X a_ σ H s)(rm:RelM X.K M H)(q:M a=some (.dk ks ds))(hk:w=kV k)(JX:RelV w u)(dy:Den X.K H y v)(rv:RelV v r)(hz:ks.length<sizeLine)
  (h:R (put M a (.dk (ah ks k) (ak ks ds k y)))) (b_:∀H' M',RelM X.K M' H'->TM X.K H H'->R M'->R2 H'):wpAny (model X.prog X.w) A (setItem (.ref a) u r) (λ_ s'=>∃H',Inv X a_ σ H' s'/\R2 H') E s:=by
 obtain⟨vs,e,hl,dl⟩:=rm a _ q;subst hk;obtain⟨KA,h1,h2,h3⟩:=nR (k:=k) (v:=v) (u8 I e hl) dl hl dy;refine sB hu I (.inl ⟨_,k,e,rfl,?_,rfl⟩) JX rv λs' I'=>⟨_,I',?_⟩
 ·rw[List.length_zip,hl,Nat.min_self,<-hl];exact hz
 ·have tw:TM X.K H (upd H a (.dK (d5 (ks.zip vs) k v))):=.put e (λ_ z=>by cases z) λ_ _ z=>by cases z
  exact b_ _ _ (rm.write (u:=.dk (ah ks k) (ak ks ds k y)) e (λ_ z=>by cases z) (λ_ _ z=>by cases z) ⟨KA,by rw[ag,h1],h2,h3.mono tw⟩) tw h
theorem yN{kt:List (List Int)}{k:List Int}{y:D}{v:V}{b:Addr}{R:MH->Prop}{R2:Hp->Prop}(hu:A.units+1<cLine)(I:Inv X a_ σ H s)(rm:RelM X.K M H)(q:M a=some (.dt kt ds))(sq:SqT X.K H b (k.map V.int))(dy:Den X.K H y v)(rv:RelV v r)(hz:kt.length<sizeLine)
  (h:R (put M a (.dt (ah kt k) (ak kt ds k y)))) (b_:∀H' M',RelM X.K M' H'->TM X.K H H'->R M'->R2 H'):wpAny (model X.prog X.w) A (setItem (.ref a) (.ref b) r) (λ_ s'=>∃H',Inv X a_ σ H' s'/\R2 H') E s:=by
 obtain⟨vs,xs,e,z,dl⟩:=rm a _ q;have dd:=bF I (.inl e) z;have nd:(xs.map (·.1)).Nodup:=by rw[z.kx];exact z.nd
 obtain⟨KA,h1,h2,h3,h4⟩:=fA (k:=k) (b:=b) nd z.vx rv dl dy;rw[z.kx]at h1 h3;have hsz:xs.length<=sizeLine:=by
  have:=congrArg List.length z.kx;rw[ID]at this;omega
 refine wpAny_setItem_heap (hsz:=hsz) (Ji hu) (dB I sq) dd λh' LA hs=>?_
 obtain⟨ob,es,ep,hq,hx,hd,he,_,_⟩:=LA;have tw:TM X.K H (upd H a (.ext (aY a (storedH xs k b r)))):=.put e (λ_ z=>by cases z) λ_ _ z=>by cases z
 have tb:aY a (storedH xs k b r) h':=⟨ob,es,ep,hq,hx,hd,he⟩;have I':Inv X a_ σ (upd H a (.ext (aY a (storedH xs k b r)))) {s with heap:=h',toks:=s.toks+(tupleKind (intKind X.prog X.w)).draws k}:=
  gB I (by rw[e];exact True.intro) hs ⟨ob,hq⟩ ⟨tb,⟨ob,hq⟩,λg1 g2 ⟨o1,LV,LW,a1,a2,a3,a4⟩ kk=>⟨o1,LV,LW,kk _ a1,a2,a3,a4⟩⟩
 refine⟨_,I',b_ _ _ (rm.write (u:=.dt (ah kt k) (ak kt ds k y)) e (λ_ z=>by cases z) (λ_ _ z=>by cases z) ⟨KA,_,ag,⟨h1,eA z.nd,IR aO hz,z.no,h2,λx KP=>?_⟩,h3.mono tw⟩) tw h⟩
 rcases h4 x KP with ⟨q1,q2⟩|⟨x',m,q1,q2⟩
 ·rw[q1,q2];exact tw.t _ _ sq
 ·rw[<-q1,<-q2];exact tw.t _ _ (z.at_ x' m)
end
end L2
namespace L2
open PySem PySem.Spec PyProof.Rows PySem.W
section
variable {A:Around}{s:Shared}{ob:Obj}{es:Array DictEntry}{e:DictEntry}
theorem Cw(hn:(d == sysModules)=false)(ho:s.heap.get? d=some ob)(hx:ob.ExactDict)(hd:ob.data=.dict es ep)
  (hQ:Q (.ref s.heap.objs.size) {s with heap:=s.heap.push {cls:=.type "dict_keyiterator",data:=.fields #[.ref d,.int 0 0,.int es.size 0,.int ep 0]}}):wpAny (model prog w) A (pyIter (.ref d)) Q E s:=by
 have hT:s.TypeIs (.ref d) "dict":=⟨_,ho,hx.1⟩;refine wpAny_pyIter_slot hT F.slot_dict_iter (Jq F.slot_dict_iter hT F.entry_dict_iter ?_ (F.args_dict_iter_1 _));unfold Builtin.«dict.__iter__»;refine Fr ?_;unfold Builtin.Dict.dictSlotNone;refine Fr (wpAny_notOrdered_dict hT ?_);show wpAny _ _ (pure (Value.ref d)) _ _ s;refine Ik ?_;show wpAny _ _ (Builtin.Dict.showsAll d >>=_) _ _ s;unfold Builtin.Dict.showsAll;rw[Im (by rw[hn];exact IP)]
 refine Fr (Ik (Fr (Jy ho hd (Fr (wpAny_dictEpoch ho hd ?_)))));refine Fr (Jd (Ik ⟨_,rfl,"dict_keyiterator",_,⟨_,Iz _ rfl,rfl⟩,F.slot_dict_keyiterator_next.lookup,?_⟩));simpa [rawInt] using hQ
theorem uY(B_:s.heap.IsKeyIter it d i es.size ep)(NO:s.heap.get? d=some ob)(NP:ob.data=.dict es ep)(he:es[i]?=some e)
  (hQ:∀h',h'.IsKeyIter it d (i+1) es.size ep->Heap.SameBut it s.heap h'->Q (some e.key) {s with heap:=h'}):wpAny (model prog w) A (pyNext (.ref it)) Q E s:=by
 obtain⟨o,ho,hc,hd⟩:=id B_;unfold pyNext;refine Fr (wpAny_attempt (wpAny_callSpecial?_slot (name:=Str.ofString "__next__") B_.typeIs F.slot_dict_keyiterator_next
  (Jq F.slot_dict_keyiterator_next B_.typeIs F.entry_dict_keyiterator_next ?_ (F.args_dict_keyiterator_next_1 _))))
 refine Fr (Ik (Fr (Fr ?_)))
 first|refine Fr (wpAny_typeNameOfWhole_keyiter B_.typeIs (Ik ?_))|refine Fr (wpAny_typeNameOf_keyiter B_.typeIs (Ik ?_))
 refine Fr (wpAny_fieldsOf ho hd ?_);simp only[show Builtin.Dict_items.ownsTuple "dict_keyiterator"=false by decide,Jf,if_false]
 show wpAny _ _ (if (Value.ref d == Value.none)=true then _ else _) _ _ s
 rw[Im (show ¬ ((Value.ref d == Value.none)=true) from IP)];refine Fr (Ik (Fr (Jy NO NP ?_)));rw[Im (by simp)]
 refine Fr (Ik (Fr (wpAny_dictEpoch NO NP ?_)));rw[Im (by simp)]
 refine Ik ?_;simp only[show ¬ ((i:Int)<0) from by omega,if_false,Ju,he]
 refine Fr ?_
 first|refine Fr (wpAny_typeNameOfWhole_keyiter B_.typeIs (Ik ?_))|refine Fr (wpAny_typeNameOf_keyiter B_.typeIs (Ik ?_))
 refine Fr (wpAny_isOneOf_keyiter B_.typeIs ?_);show wpAny _ _ (setField (.ref it) 1 (rawInt ((i:Int)+1)) >>=_) _ _ s;refine Fr (JG ho hd (by simp) ?_)
 have KY:(s.heap.update it (Obj.mapFields (·.setIfInBounds 1 (rawInt ((i:Int)+1))))).IsKeyIter it d (i+1) es.size ep:=
  ⟨_,Jb _ ho (Obj.isFreed_of_fields (JE hd _)),(Obj.cls_mapFields ..).trans hc,by rw[JE hd];simp[rawInt]⟩
 refine Fr (Jc ?_);refine Fr (wpAny_isOneOf_keyiter (s:={s with heap:=s.heap.update it (Obj.mapFields (·.setIfInBounds 1 (rawInt ((i:Int)+1))))}) KY.typeIs ?_)
 show wpAny _ _ (pure e.key) _ _ _;exact Ik (Ik ⟨_,rfl,Ik (hQ _ KY (Heap.SameBut.update ..))⟩)
theorem tI(hh:A.handled=none)(B_:s.heap.IsKeyIter it d i es.size ep)(NO:s.heap.get? d=some ob)(NP:ob.data=.dict es ep)(he:es.size<=i)
  (hQ:∀h',Heap.ExtBut it s.heap h'->Q none {s with heap:=h'}):wpAny (model prog w) A (pyNext (.ref it)) Q E s:=by
 obtain⟨o,ho,hc,hd⟩:=id B_;unfold pyNext;refine Fr (wpAny_attempt (wpAny_callSpecial?_slot (name:=Str.ofString "__next__") B_.typeIs F.slot_dict_keyiterator_next
  (Jq F.slot_dict_keyiterator_next B_.typeIs F.entry_dict_keyiterator_next ?_ (F.args_dict_keyiterator_next_1 _))))
 refine Fr (Ik (Fr (Fr ?_)))
 first|refine Fr (wpAny_typeNameOfWhole_keyiter B_.typeIs (Ik ?_))|refine Fr (wpAny_typeNameOf_keyiter B_.typeIs (Ik ?_))
 refine Fr (wpAny_fieldsOf ho hd ?_);simp only[show Builtin.Dict_items.ownsTuple "dict_keyiterator"=false by decide,Jf,if_false]
 show wpAny _ _ (if (Value.ref d == Value.none)=true then _ else _) _ _ s
 rw[Im (show ¬ ((Value.ref d == Value.none)=true) from IP)];refine Fr (Ik (Fr (Jy NO NP ?_)));rw[Im (by simp)]
 refine Fr (Ik (Fr (wpAny_dictEpoch NO NP ?_)));rw[Im (by simp)]
 refine Ik ?_;simp only[show ¬ ((i:Int)<0) from by omega,if_false,Ju,Array.getElem?_eq_none he]
 refine Fr ?_
 first|refine Fr (wpAny_typeNameOfWhole_keyiter B_.typeIs (Ik ?_))|refine Fr (wpAny_typeNameOf_keyiter B_.typeIs (Ik ?_))
 show wpAny _ _ (setField (.ref it) 0 .none >>=_) _ _ s;refine Fr (JG ho hd (by simp) ?_)
 show wpAny _ _ (newExc (.type "StopIteration") [] >>=_) _ _ _;refine Fr ?_;simp only[newExc,newTuple];refine Fr (Jd ?_ (by size_fits))
 refine Fr (m:=firstArgMember _ _) (wpAny_of_eq (a:=Value.none) (by first|rfl|(simp only[firstArgMember];rfl)) ?_)
 refine Jd ?_ (by size_fits)
 simp only[raiseNew];refine Fr (wpAny_handled ?_);rw[show A.in1.handled=none from hh];refine Fr (Ik (wpAny_throw ?_));refine Fr (wpAny_isInstance (T:="StopIteration") (b:=true) ⟨_,Iz _ rfl,rfl⟩ isSubtype_stop ?_);exact Ik (hQ _ (((Heap.SameBut.update ..).extBut.push _).push _))
end
end L2
namespace L2
open PySem PySem.Spec PyProof.Rows
section
variable {X:Cx}
theorem yd(neg:Bool):VO X (compareOp (if neg=true then .IsNot else .Is)) (rP neg):=by
 intro a_ s σ H x y v u v2 u2 M Q Q2 I rv ru dx dy rm q b_;unfold rP at q;split at q
 ·cases (show u=.j_ from dy);cases neg with
  |true=>exact VO.of3 xy a_ s σ H x .j_ v .j_ v2 u2 M Q Q2 I rv ru dx dy rm ⟨rfl,by rw[Bool.true_xor]at q;exact q⟩ b_
  |false=>exact VO.of3 Fw a_ s σ H x .j_ v .j_ v2 u2 M Q Q2 I rv ru dx dy rm ⟨rfl,by rw[Bool.false_xor]at q;exact q⟩ b_
 ·rename_i b;cases (show u=.bl b from dy);cases ru;have fin:∀k,Q (.bl k) M->EP X a_ σ Q2 (.bool k) s:=λk q=>⟨.bl k,H,I,rfl,b_ _ _ _ _ bC rm (.refl _) q⟩
  split at q
  ·rename_i a;cases (show v=.bl a from dx);cases rv;have e:((Value.bool a == Value.bool b):Bool)=(a == b):=by cases a<;>cases b<;>rfl
   cases neg with
   |true=>exact wpAny_isNot_plain rfl (by rw[e];rw[Bool.true_xor]at q;exact fin _ q)
   |false=>exact wpAny_is_plain rfl (by rw[e];rw[Bool.false_xor]at q;exact fin _ q)
  ·cases (show v=.j_ from dx);cases rv;cases neg with
   |true=>exact wpAny_isNot_other rfl (λz=>nomatch z) (fin _ q)
   |false=>exact wpAny_is_other rfl (λz=>nomatch z) (fin _ q)
  ·exact q.elim
 ·exact q.elim
theorem uE:∀{ds:List D}{us:List β},Paired R ds us->(∀d u,d∈ds->R d u->e u=f d)->us.any e=ds.any f
 |_,_,.nil,_=>rfl
 |d::ds,u::us,.cons r t,h=>by
  rw[List.any_cons,List.any_cons,h d u Ix r,uE t λd u hd=>h d u (Io _ hd)]
theorem gM{K:JJ}:∀{ds:List D}{vs:List V}{us:List Value},DenL K H ds vs->Vals vs us->Paired (λd u=>∃v,Den K H d v/\RelV v u) ds us
 |[],_,_,h,r=>by cases (show _=[] from h);cases r;exact .nil
 |d::ds,_,_,h,r=>by
  obtain⟨v,r',rfl,dv,dl⟩:=h;cases r with
  |cons r1 r2=>exact .cons ⟨v,dv,r1⟩ (gM dl r2)
theorem Paired.mem_right:∀{l:List α}{m:List β},Paired R l m->∀b∈m,∃a∈l,R a b
 |_,_,.nil,b,hb=>by cases hb
 |a::l,c::m,.cons r t,b,hb=>by
  rcases Iv.mp hb with rfl|hb
  ·exact⟨a,Ix,r⟩
  ·obtain⟨a',h1,h2⟩:=Paired.mem_right t b hb;exact⟨a',Io _ h1,h2⟩
theorem yx(hu:X.A.units+64<cLine)(neg:Bool):VO X (compareOp (if neg=true then .NotIn else .In)) (iF neg):=by
 intro a_ s σ H x y v u v2 u2 M Q Q2 I rv ru dx dy rm q b_;unfold iF at q;split at q
 ·rename_i ds RL;obtain⟨p1,p2,q⟩:=q;obtain⟨p,vs,rfl,hq,dl⟩:=g8 rm RL dy;cases ru;obtain⟨H',I',t',d1⟩:=mM I rm dx p1;have Mg:=dl.mono t';have fin:EP X a_ σ Q2 (.bool (neg ^^ ds.any λd=>eqD d (res M x))) s:=⟨.bl _,H,I,rfl,b_ _ _ _ _ bC rm (.refl _) q⟩
  classical
  have key:∀{its:List Value},Vals vs its->∃e:Value->Bool,its.any e=(ds.any λd=>eqD d (res M x))/\∀w∈its,SeqAt.EqAt X.A.in1 s w v2 (e w):=λ{its} r=>by
   have pd:=gM Mg r
   let e:Value->Bool:=λw=>if h:∃d∈ds,∃v,Den X.K H' d v/\RelV v w then eqD h.choose (res M x) else false
   have he:∀d w,d∈ds->(∃v,Den X.K H' d v/\RelV v w)->e w=eqD d (res M x):=λd w hd ⟨v',dv,JX⟩=>by
    have h:∃d∈ds,∃v,Den X.K H' d v/\RelV v w:=⟨d,hd,v',dv,JX⟩;obtain⟨hm,Po,LG,Pp⟩:=h.choose_spec;have:Po=v':=Pp.inj JX;subst this;have e1:h.choose=d:=lG I' rfl 8 (IL.mp p2 _ hm) (IL.mp p2 _ hd) LG dv;show (if h:∃d∈ds,∃v,Den X.K H' d v/\RelV v w then eqD h.choose (res M x) else false)=_
    rw[dif_pos h,e1]
   refine⟨e,uE pd he,λw hw=>?_⟩
   obtain⟨d,hd,v',dv,JX⟩:=Paired.mem_right pd w hw;rw[he d w hd ⟨v',dv,JX⟩];exact (Bx I' rfl 8 (A:=X.A.in1) (IL.mp p2 _ hd) p1 dv d1 JX rv (by show X.A.units+1+8<cLine;omega)).2.2
  rcases hq with hq|hq
  ·obtain⟨its,r,MK,hz⟩:=I.list hq;obtain⟨e,e1,e2⟩:=key r;have ea:its.toArray.any e=ds.any λd=>eqD d (res M x):=by rw[<-e1];simp
   cases neg with
   |true=>exact SeqAt.notIn_listAt e MK.isList (λw hw=>e2 w (by simpa using hw)) (by rw[ea];rw[Bool.true_xor]at fin;exact fin)
   |false=>exact SeqAt.in_listAt e MK.isList (λw hw=>e2 w (by simpa using hw)) (by rw[ea];rw[Bool.false_xor]at fin;exact fin)
  ·obtain⟨its,r,MK,hz⟩:=I.tuple hq;obtain⟨e,e1,e2⟩:=key r;have ea:its.toArray.any e=ds.any λd=>eqD d (res M x):=by rw[<-e1];simp
   cases neg with
   |true=>exact SeqAt.notIn_tupleAt e MK (λw hw=>e2 w (by simpa using hw)) (by rw[ea];rw[Bool.true_xor]at fin;exact fin)
   |false=>exact SeqAt.in_tupleAt e MK (λw hw=>e2 w (by simpa using hw)) (by rw[ea];rw[Bool.false_xor]at fin;exact fin)
 ·split at q
  ·rename_i o e;obtain⟨a,ov,rfl,g,od⟩:=gy (X:=X) e rm dy dx;cases ru;refine Fg neg (by omega) I g rv λs' I'=>⟨.bl (neg ^^ ov.isSome),H,I',rfl,b_ _ _ (.bl _) _ bC rm (.refl _) ?_⟩
   have:o.isSome=ov.isSome:=by
    cases o<;>cases ov<;>first|rfl|exact od.elim
   rw[<-this];exact q
  ·exact q.elim
theorem lU(hu:X.A.units+64<cLine)(op:CmpOp):VO X (compareOp op) (az op):=by
 cases op with
 |Eq=>exact yf hu false
 |NotEq=>exact yf hu true
 |Lt=>exact (VO.of3 Gy).imp λ_ _ _ _ h=>gW h
 |LtE=>exact (VO.of3 FY).imp λ_ _ _ _ h=>gW h
 |Gt=>exact (VO.of3 FH).imp λ_ _ _ _ h=>gW h
 |GtE=>exact (VO.of3 Fs).imp λ_ _ _ _ h=>gW h
 |Is=>exact yd false
 |IsNot=>exact yd true
 |In=>exact yx hu false
 |NotIn=>exact yx hu true
theorem kH{K:JJ}(h:DenL K H [d] vs):∃v,vs=[v]/\Den K H d v:=by
 obtain⟨v,r,rfl,dv,rfl⟩:=h;exact⟨v,rfl,dv⟩
noncomputable abbrev rLen0:=rBi .len
theorem wK:VC X (.builtin "len") rLen0:=(VC.of3 B1).imp λxs M Q h=>by
 simp only[rLen0,rBi]at h;split at h
 ·rename_i x;split at h
  ·rename_i ds e;refine⟨x,ds,rfl,?_,h⟩;cases x with
   |tup es=>exact .inr (by rw[show es=ds from IK e])
   |e_ es=>exact .inl (.inl (by rw[show es=ds from IK e]))
   |ref a=>
    cases q:M a with
    |none=>simp[aC,ai,q]at e
    |some o=>
     cases o with
     |lst es=>exact .inl (.inr ⟨a,rfl,by rw[q];simp[aC,ai,q]at e;rw[e]⟩)
     |_=>simp[aC,ai,q]at e
   |_=>cases e
  ·exact h.elim
 ·exact h.elim
theorem Bn:VC X (.builtin "len") (rBi .len):=wK
theorem By(hc:X.calm=true):VC X (.builtin "max") (rBi .max):=(VC.of3 (Cp hc)).imp λxs M Q h=>by
 simp only[rBi]at h;split at h
 ·exact⟨_,_,rfl,h⟩
 ·exact h.elim
theorem yG(hc:X.calm=true):VC X (.builtin "min") (rBi .min):=(VC.of3 (BN hc)).imp λxs M Q h=>by
 simp only[rBi]at h;split at h
 ·exact⟨_,_,rfl,h⟩
 ·exact h.elim
theorem wS(fz:Bool)(hc:X.calm=true):VC X (.type "list") (rBi (.list fz)):=by
 intro a_ s σ H xs vs us M Q Q2 I r dl rm q b_;simp only[rBi]at q;split at q
 ·rename_i x;split at q
  ·rename_i ds e;obtain⟨v,rfl,dv⟩:=kH dl;obtain⟨p,vs,rfl,hq,Ki⟩:=g8 rm e dv;refine thn (lZ a_ s σ H _ us (λw H'=>∃l,w=.ref l/\H l=none/\H'=upd H l (.lst vs)) I r ⟨p,vs,rfl,hq,λl hl=>⟨l,rfl,hl,rfl⟩⟩) λu s1 z_=>?_
   obtain⟨w,H1,I1,r1,l,e1,hl,e2⟩:=z_;subst e1;subst e2;cases r1;exact cA I1 hl Ki rm (.refl _) q b_
  ·exact q.elim
 ·exact q.elim
end
end L2
namespace L2
open PySem PySem.Spec PyProof.Rows PySem.W
end L2
namespace L2
open PySem PySem.Spec PyProof.Rows
theorem ex9{α β γ δ:Sort _}{P1 P2 P3 P4 P5:α->β->γ->δ->Prop}{R:Prop}(h:∃a b c d,P1 a b c d/\P2 a b c d/\P3 a b c d/\P4 a b c d/\P5 a b c d)(k:∀a b c d,P1 a b c d->P2 a b c d->P3 a b c d->P4 a b c d->P5 a b c d->R):R:=
 h.elim λa h=>h.elim λb h=>h.elim λc h=>h.elim λd h=>k a b c d h.1 h.2.1 h.2.2.1 h.2.2.2.1 h.2.2.2.2
def FS(K:JJ)(r:D->D->MH->VK3->Prop):R2:=λv u H Q2=>∃x y M Q,Den K H x v/\Den K H y u/\RelM K M H/\r x y M Q/\Back K H Q Q2
def Gk(K:JJ)(r:D->MH->VK3->Prop):V->Hp->VK->Prop:=λv H Q2=>∃x M Q,Den K H x v/\RelM K M H/\r x M Q/\Back K H Q Q2
def F1(K:JJ)(r:List D->MH->VK3->Prop):List V->Hp->VK->Prop:=λvs H Q2=>∃xs M Q,DenL K H xs vs/\RelM K M H/\r xs M Q/\Back K H Q Q2
section
variable {X:Cx}
theorem VO.op{f:Value->Value->Sem Value}{r:D->D->MH->VK3->Prop}(h:VO X f r):OpR X f (FS X.K r):=λa_ s σ H v u v2 u2 Q2 I rv ru ⟨x,y,M,Q,dx,dy,rm,q,b_⟩=>h a_ s σ H x y v u v2 u2 M Q Q2 I rv ru dx dy rm q b_
theorem VU.op{f:Value->Sem Value}{r:D->MH->VK3->Prop}(h:VU X f r):UnR X f (Gk X.K r):=λa_ s σ H v v2 Q2 I rv ⟨x,M,Q,dx,rm,q,b_⟩=>h a_ s σ H x v v2 M Q Q2 I rv dx rm q b_
theorem VC.op{f:Value}{r:List D->MH->VK3->Prop}(h:VC X f r):CallR X f (F1 X.K r):=λa_ s σ H vs us Q2 I rv ⟨xs,M,Q,dx,rm,q,b_⟩=>h a_ s σ H xs vs us M Q Q2 I rv dx rm q b_
end
section
variable {K:JJ}
theorem pH{ta tb:St3->MH->VK3->XN->Prop}{R3:D->D->MH->Prop}{R2:V->V->Hp->Prop}(rm:RelM K M H)(ds:DenS K H g_ σ)(lk:LkE K cls H E3 (E2 σ))
  (h:ta g_ M (λx M1=>tb g_ M1 (λy M2=>R3 x y M2) E3) E3) (k:∀v u H' x y M',Den K H' x v->Den K H' y u->RelM K M' H'->TM K H H'->R3 x y M'->R2 v u H') :
  low K cls E2 ta σ H λv H1=>low K cls E2 tb σ H1 λu H2=>R2 v u H2:=
 ⟨g_,M,_,E3,rm,ds,lk,h,λv H1 x M1 dv l_ t1 h1=>⟨g_,M1,_,E3,l_,ds.mono t1,lk.mono t1,h1,λu H2 y M2 du C_ t2 h2=>k v u H2 x y M2 (dv.mono t2) du C_ (t1.trans t2) h2⟩⟩
theorem bn{ta:St3->MH->VK3->XN->Prop}{R3:VK3}{R2:VK}(rm:RelM K M H)(ds:DenS K H g_ σ)(lk:LkE K cls H E3 (E2 σ))(h:ta g_ M R3 E3)(k:∀v H' x M',Den K H' x v->RelM K M' H'->TM K H H'->R3 x M'->R2 v H') :
  low K cls E2 ta σ H R2:=⟨g_,M,R3,E3,rm,ds,lk,h,k⟩
end
section
variable {X:Cx}{cls:Nat->Addr}{E2:St->XK}{a b c e:Expr}{ta tb tc te:St3->MH->VK3->XN->Prop}{pos:Pos}
theorem DI{i:Nat}{x:Str}(hN:X.N[i]?=some x)(hv:Vis X.env.scope x)(hd:(x == ("__debug__" : Str))=false)(Kd:(x == ("__classdict__" : Str))=false) :
  PE X (.Name x pos) (low X.K cls E2 λσ M Q _=>match σ[i]? with|some (some d)=>Q d M|_=>False):=
 (jk hN hv hd Kd).imp λσ H Q2 i_=>ex9 i_ λg_ M Q E3 rm ds lk h b_=>by
  try dsimp only at h
  split at h
  ·rename_i d e;obtain⟨v,e1,e2⟩:=ds.2 i d e;exact⟨v,e1,b_ _ _ _ _ e2 rm (.refl _) h⟩
  ·exact h.elim
theorem mV{v:V}{d:D}(h:PE X e (tC v))(hd:∀H,Den X.K H d v):PE X e (low X.K cls E2 λ_ M Q _=>Q d M):=
 h.imp λσ H Q2 i_=>ex9 i_ λg_ M Q E3 rm ds lk h b_=>b_ _ _ _ _ (hd H) rm (.refl _) h
theorem Ba{op:Operator}{r:D->D->MH->VK3->Prop}(ho:VO X (binaryOp op) r)(ha:PE X a (low X.K cls E2 ta))(hb:PE X b (low X.K cls E2 tb)) :
  PE X (.BinOp a op b pos) (low X.K cls E2 λσ M Q E=>ta σ M (λx M1=>tb σ M1 (λy M2=>r x y M2 Q) E) E):=
 (Dm ho.op ha hb).imp λσ H Q2 i_=>ex9 i_ λg_ M Q E3 rm ds lk h b_=>pH rm ds lk h λv u H' x y M' dx dy r_ t q=>⟨x,y,M',Q,dx,dy,r_,q,b_.mono t⟩
theorem Gb{op:UnaryOp}{r:D->MH->VK3->Prop}(ho:VU X (unaryOp op) r)(ha:PE X a (low X.K cls E2 ta)) :
  PE X (.UnaryOp op a pos) (low X.K cls E2 λσ M Q E=>ta σ M (λx M1=>r x M1 Q) E):=
 (Dc ho.op ha).imp λσ H Q2 i_=>ex9 i_ λg_ M Q E3 rm ds lk h b_=>bn rm ds lk h λv H' x M' dx r_ t q=>⟨x,M',Q,dx,r_,q,b_.mono t⟩
theorem DW{op:CmpOp}{r:D->D->MH->VK3->Prop}(ho:VO X (compareOp op) r)(ha:PE X a (low X.K cls E2 ta))(hb:PE X b (low X.K cls E2 tb))(hm:behindInMarks op b=false) :
  PE X (.Compare a [op] [b] pos) (low X.K cls E2 λσ M Q E=>ta σ M (λx M1=>tb σ M1 (λy M2=>r x y M2 Q) E) E):=
 (xa ho.op ha hb hm).imp λσ H Q2 i_=>ex9 i_ λg_ M Q E3 rm ds lk h b_=>pH rm ds lk h λv u H' x y M' dx dy r_ t q=>⟨x,y,M',Q,dx,dy,r_,q,b_.mono t⟩
abbrev boolQ(Q:Bool->MH->Prop):VK3:=λr M=>match r with
 |.bl k=>Q k M
 |_=>False
theorem kS{K:JJ}{H:Hp}{Q:Bool->MH->Prop}{Q2:Bool->Hp->Prop}(k:∀b H' M',RelM K M' H'->TM K H H'->Q b M'->Q2 b H'):Back K H (boolQ Q) λx H1=>∃k,x=.bl k/\Q2 k H1:=λv H' d M' dv rm t q=>by
 unfold boolQ at q;split at q
 ·exact⟨_,dv,k _ _ _ rm t q⟩
 ·exact q.elim
theorem CO{op:CmpOp}{r:D->D->MH->VK3->Prop}(ho:VO X (compareOp op) r)(ha:PE X a (low X.K cls E2 ta))(hb:PE X b (low X.K cls E2 tb))(hm:behindInMarks op b=false) :
  PT X (.Compare a [op] [b] pos) (cV X.K cls E2 λσ M Q E=>ta σ M (λx M1=>tb σ M1 (λy M2=>r x y M2 (boolQ Q)) E) E):=
 (xQ ho.op ha hb hm).imp λσ H Q2 i_=>ex9 i_ λg_ M Q E3 rm ds lk h b_=>pH rm ds lk h λv u H' x y M' dx dy r_ t q=>⟨x,y,M',_,dx,dy,r_,q,(kS b_).mono t⟩
theorem Cl(ha:PE X a (low X.K cls E2 ta))(he:∀whole,isTrue a X.env whole=(do let v<-whole;standAt a.pos;holding [v] (truthy v))):PT X a (cV X.K cls E2 λσ M Q E=>ta σ M (boolQ Q) E):=
 (AF ha he).imp λσ H Q2 i_=>ex9 i_ λg_ M Q E3 rm ds lk h b_=>bn rm ds lk h λv H' x M' dx r_ t q=>kS b_ v H' x M' dx r_ t q
variable {tA tB:St3->MH->(Bool->MH->Prop)->XN->Prop}{aF:List Expr}
theorem kY{K:JJ}{σ:St}{H:Hp}{g_:St3}{M:MH}{E3:XN}{R3:Bool->MH->Prop}{R2:Bool->Hp->Prop}(rm:RelM K M H)(ds:DenS K H g_ σ)(lk:LkE K cls H E3 (E2 σ))(h:tA g_ M R3 E3)(k:∀b H' M',RelM K M' H'->TM K H H'->R3 b M'->R2 b H') :
  cV K cls E2 tA σ H R2:=⟨g_,M,R3,E3,rm,ds,lk,h,k⟩
theorem p9(ha:PT X a (cV X.K cls E2 tA)):PW X (.BoolOp .And [a] pos) (cV X.K cls E2 tA):=xL ha
theorem uQ(ha:PT X a (cV X.K cls E2 tA)):PW X (.BoolOp .Or [a] pos) (cV X.K cls E2 tA):=yR ha
theorem qm(ha:PT X a (cV X.K cls E2 tA))(hb:PW X (.BoolOp .And (b::aF) pos) (cV X.K cls E2 tB)) :
  PW X (.BoolOp .And (a::b::aF) pos) (cV X.K cls E2 λσ M Q E=>tA σ M (λc M1=>if c=true then tB σ M1 Q E else Q false M1) E):=
 (zm ha hb).imp λσ H Q2 i_=>ex9 i_ λg_ M Q E3 rm ds lk h b_=>kY rm ds lk h λc H' M' r_ t q=>by
  cases c with
  |true=>rw[Iu rfl]at q ⊢;exact kY r_ (ds.mono t) (lk.mono t) q λb H2 M2 r2 t2 q2=>b_ b H2 M2 r2 (t.trans t2) q2
  |false=>rw[Im IP]at q ⊢;exact b_ _ _ _ r_ t q
theorem xN(ha:PT X a (cV X.K cls E2 tA))(hb:PW X (.BoolOp .Or (b::aF) pos) (cV X.K cls E2 tB)) :
  PW X (.BoolOp .Or (a::b::aF) pos) (cV X.K cls E2 λσ M Q E=>tA σ M (λc M1=>if c=true then Q true M1 else tB σ M1 Q E) E):=
 (C8 ha hb).imp λσ H Q2 i_=>ex9 i_ λg_ M Q E3 rm ds lk h b_=>kY rm ds lk h λc H' M' r_ t q=>by
  cases c with
  |true=>rw[Iu rfl]at q ⊢;exact b_ _ _ _ r_ t q
  |false=>rw[Im IP]at q ⊢;exact kY r_ (ds.mono t) (lk.mono t) q λb H2 M2 r2 t2 q2=>b_ b H2 M2 r2 (t.trans t2) q2
theorem BD(ha:PT X a (cV X.K cls E2 tA)):PT X (.UnaryOp .Not a pos) (cV X.K cls E2 λσ M Q E=>tA σ M (λc M1=>Q (!c) M1) E):=
 (A5 ha).imp λσ H Q2 i_=>ex9 i_ λg_ M Q E3 rm ds lk h b_=>kY rm ds lk h λc H' M' r_ t q=>b_ _ _ _ r_ t q
theorem yA(ha:PE X a (low X.K cls E2 ta))(hb:PE X (.BoolOp .And (b::aF) pos) (low X.K cls E2 tb)) :
  PE X (.BoolOp .And (a::b::aF) pos) (low X.K cls E2 λσ M Q E=>ta σ M (λx M1=>match x with|.bl c=>if c=true then tb σ M1 Q E else Q (.bl false) M1|_=>False) E):=
 (zg ha hb).imp λσ H Q2 i_=>ex9 i_ λg_ M Q E3 rm ds lk h b_=>bn rm ds lk h λv H' x M' dx r_ t q=>by
  split at q
  ·rename_i c;cases (show v=.bl c from dx);refine⟨c,rfl,?_⟩;cases c with
   |true=>rw[Iu rfl]at q ⊢;exact bn r_ (ds.mono t) (lk.mono t) q λv2 H2 x2 M2 d2 r2 t2 q2=>b_ v2 H2 x2 M2 d2 r2 (t.trans t2) q2
   |false=>rw[Im IP]at q ⊢;exact b_ _ _ _ _ bC r_ t q
  ·exact q.elim
theorem CT(ha:PE X a (low X.K cls E2 ta))(hb:PE X (.BoolOp .Or (b::aF) pos) (low X.K cls E2 tb)) :
  PE X (.BoolOp .Or (a::b::aF) pos) (low X.K cls E2 λσ M Q E=>ta σ M (λx M1=>match x with|.bl c=>if c=true then Q (.bl true) M1 else tb σ M1 Q E|_=>False) E):=
 (Dq ha hb).imp λσ H Q2 i_=>ex9 i_ λg_ M Q E3 rm ds lk h b_=>bn rm ds lk h λv H' x M' dx r_ t q=>by
  split at q
  ·rename_i c;cases (show v=.bl c from dx);refine⟨c,rfl,?_⟩;cases c with
   |true=>rw[Iu rfl]at q ⊢;exact b_ _ _ _ _ bC r_ t q
   |false=>rw[Im IP]at q ⊢;exact bn r_ (ds.mono t) (lk.mono t) q λv2 H2 x2 M2 d2 r2 t2 q2=>b_ v2 H2 x2 M2 d2 r2 (t.trans t2) q2
  ·exact q.elim
theorem CV(ha:PE X a (low X.K cls E2 ta)):PE X (.UnaryOp .Not a pos) (low X.K cls E2 λσ M Q E=>ta σ M (λx M1=>match x with|.bl c=>Q (.bl (!c)) M1|_=>False) E):=
 (zN ha).imp λσ H Q2 i_=>ex9 i_ λg_ M Q E3 rm ds lk h b_=>bn rm ds lk h λv H' x M' dx r_ t q=>by
  split at q
  ·rename_i c;cases (show v=.bl c from dx);exact⟨c,rfl,b_ _ _ _ _ bC r_ t q⟩
  ·exact q.elim
theorem wC{op Km:CmpOp}{r r':D->D->MH->VK3->Prop}(ho:VO X (compareOp op) r)(Kl:VO X (compareOp Km) r')(ha:PE X a (low X.K cls E2 ta))(hb:PE X b (low X.K cls E2 tb))(hc:PE X c (low X.K cls E2 tc))(hm:lastMarks [op,Km] [b,c]=false) :
  PE X (.Compare a [op,Km] [b,c] pos) (low X.K cls E2 λσ M Q E=>ta σ M (λx M1=>tb σ M1 (λy M2=>r x y M2 λz M3=>match z with
   |.bl k=>if k=true then tc σ M3 (λz M4=>r' y z M4 Q) E else Q (.bl false) M3
   |_=>False) E) E):=
 (vD ho.op Kl.op ha hb hc hm).imp λσ H Q2 i_=>ex9 i_ λg_ M Q E3 rm ds lk h b_=>pH rm ds lk h λv u H' x y M' dx dy r_ t q=>⟨x,y,M',_,dx,dy,r_,q,λw H1 z M1 dz l_ t1 q1=>by
  split at q1
  ·rename_i k;refine⟨k,dz,?_⟩;cases k with
   |true=>rw[Iu rfl]at q1 ⊢;exact bn l_ ((ds.mono t).mono t1) ((lk.mono t).mono t1) q1 λv2 H2 x2 M2 d2 r2 t2 q2=>⟨y,x2,M2,Q,(dy.mono t1).mono t2,d2,r2,q2,(b_.mono t).mono (t1.trans t2)⟩
   |false=>rw[Im IP]at q1 ⊢;exact b_ _ _ _ _ bC l_ (t.trans t1) q1
  ·exact q1.elim⟩
variable {es:List Expr}{tr:St3->MH->(List D->MH->Prop)->XN->Prop}
theorem ef{K:JJ}{σ:St}{H:Hp}{g_:St3}{M:MH}{E3:XN}{R3:List D->MH->Prop}{R2:List V->Hp->Prop}(rm:RelM K M H)(ds:DenS K H g_ σ)(lk:LkE K cls H E3 (E2 σ))(h:tr g_ M R3 E3)(k:∀vs H' xs M',DenL K H' xs vs->RelM K M' H'->TM K H H'->R3 xs M'->R2 vs H') :
  dO K cls E2 tr σ H R2:=⟨g_,M,R3,E3,rm,ds,lk,h,k⟩
theorem C5:PA X [] (dO X.K cls E2 λ_ M Q _=>Q [] M):=pa_nil.imp λσ H Q2 i_=>ex9 i_ λg_ M Q E3 rm ds lk h b_=>b_ _ _ _ _ .nil rm (.refl _) h
theorem yJ(ha:PE X e (low X.K cls E2 te))(hr:PA X es (dO X.K cls E2 tr))(hs:starEach (e::es) X.env=(false,eval e X.env)::starEach es X.env) :
  PA X (e::es) (dO X.K cls E2 λσ M Q E=>te σ M (λx M1=>tr σ M1 (λxs M2=>Q (x::xs) M2) E) E):=
 (aK ha hr hs).imp λσ H Q2 i_=>ex9 i_ λg_ M Q E3 rm ds lk h b_=>bn rm ds lk h λv H1 x M1 dx l_ t1 q1=>ef l_ (ds.mono t1) (lk.mono t1) q1 λvs H2 xs M2 dl C_ t2 q2=>b_ _ _ _ _ (.cons (dx.mono t2) dl) C_ (t1.trans t2) q2
theorem BH{x1}(h:PA X es (dO X.K cls E2 tr)):PE X (.Tuple es x1 pos) (low X.K cls E2 λσ M Q E=>tr σ M (λxs M1=>xs.length<=sizeLine/\Q (.tup xs) M1) E):=
 (Av h).imp λσ H Q2 i_=>ex9 i_ λg_ M Q E3 rm ds lk h b_=>ef rm ds lk h λvs H' xs M' dl r_ t ⟨z,q⟩=>⟨by rw[<-dl.length];exact z,λp hp=>
  b_ _ _ _ _ (ra (.of ag) (dl.mono (.new hp))) (r_.grow hp) (t.trans (.new hp)) q⟩
theorem CN{t2:TE}(h:PE X e t2){t:St3->MH->VK3->XN->Prop}{fz:Bool}
  (f:∀σ H g_ M Q E3 (R2:VK),RelM X.K M H->DenS X.K H g_ σ->LkE X.K cls H E3 (E2 σ)->t g_ M Q E3->(∀H' vs ds M' p,H' p=none->DenL X.K H' ds vs->RelM X.K M' H'->TM X.K H H'->dH fz ds M' Q->R2 (.ref p) (upd H' p (.lst vs)))->t2 σ H R2):PE X e (low X.K cls E2 t):=by
 refine λa_ s σ H Q2 I i_=>ex9 i_ λg_ M Q E3 rm ds lk q b_=>?_
 refine thn (h a_ s σ H (λv H1=>∃p H' vs ds M',v=.ref p/\H1=upd H' p (.lst vs)/\H' p=none/\DenL X.K H' ds vs/\RelM X.K M' H'/\TM X.K H H'/\dH fz ds M' Q) I
  (f σ H g_ M Q E3 _ rm ds lk q λH' vs ds M' p hp dl r_ t' n=>⟨p,H',vs,ds,M',rfl,rfl,hp,dl,r_,t',n⟩)) λu s1 ⟨v,H1,I1,r1,p,H',vs,JK,M',e1,e2,hp,dl,r_,t',n⟩=>?_
 subst e1;subst e2;cases r1;exact cA I1 hp dl r_ t' n b_
theorem CL(h:PA X es (dO X.K cls E2 tr)):PE X (.List es pos) (low X.K cls E2 λσ M Q E=>tr σ M (λxs M1=>dH fz xs M1 Q) E):=
 CN (fz:=fz) (As h) λσ H g_ M Q E3 R2 rm ds lk q k=>ef rm ds lk q λvs H' xs M' dl r_ t n=>⟨by rw[<-dl.length];exact n.1,λp hp=>k H' vs xs M' p hp dl r_ t n⟩
theorem zT(hu:X.A.units+64<cLine):IxR X (λv u H Q2=>∃x y M Q,Den X.K H x v/\Den X.K H y u/\RelM X.K M H/\am x y M Q/\Back X.K H Q Q2):=by
 intro value J1 a_ s σ H v u v2 u2 Q2 I rv ru ⟨x,y,M,Q,dx,dy,rm,q,b_⟩ hs;unfold am at q;split at q
 ·rename_i es e;split at q
  ·rename_i i;cases (show u=.int i from dy);split at q
   ·rename_i d e2;obtain⟨p,vs,rfl,hq,dl⟩:=g8 rm e dx;obtain⟨w,e4,e5⟩:=xY dl e2;refine Bg value J1 a_ s σ H _ _ v2 u2 Q2 I rv ru ?_ hs;rcases hq with hq|hq
    ·exact .inl ⟨p,vs,i,w,rfl,rfl,hq,e4,b_ _ _ _ _ e5 rm (.refl _) q⟩
    ·exact .inr (.inl ⟨p,vs,i,w,rfl,rfl,hq,e4,b_ _ _ _ _ e5 rm (.refl _) q⟩)
   ·exact q.elim
  ·exact q.elim
 ·split at q
  ·rename_i d e;obtain⟨a,ov,rfl,g,od⟩:=gy (X:=X) e rm dx dy;cases rv;cases ov with
   |none=>exact od.elim
   |some w=>exact tail_any (g.isDict I) PySem.F.slot_dict_getitem.lookup (rR (by omega) I g rfl ru λw' s' I' JX=>⟨w,H,I',JX,b_ _ _ _ _ od rm (.refl _) q⟩) hs
  ·exact q.elim
  ·exact q.elim
theorem E8(hu:X.A.units+64<cLine)(ha:PE X a (low X.K cls E2 ta))(hb:PE X b (low X.K cls E2 tb))(hs:l9 b):PE X (.Subscript a b pos) (low X.K cls E2 λσ M Q E=>ta σ M (λx M1=>tb σ M1 (λy M2=>am x y M2 Q) E) E):=
 (CB (zT hu) ha hb hs).imp λσ H Q2 i_=>ex9 i_ λg_ M Q E3 rm ds lk h b_=>pH rm ds lk h λv u H' x y M' dx dy r_ t q=>⟨x,y,M',Q,dx,dy,r_,q,b_.mono t⟩
variable {lo hi:Option Expr}{tl th:St3->MH->(Option Int->MH->Prop)->XN->Prop}{p2:Pos}
theorem Gj:PO X none (rA X.K cls E2 λ_ M Q _=>Q none M):=po_none.imp λσ H Q2 i_=>ex9 i_ λg_ M Q E3 rm ds lk h b_=>b_ _ _ _ rm (.refl _) h
theorem Dj(h:PE X e (low X.K cls E2 te)):PO X (some e) (rA X.K cls E2 λσ M Q E=>te σ M (λx M1=>match x with|.int i=>Q (some i) M1|_=>False) E):=
 (ww h).imp λσ H Q2 i_=>ex9 i_ λg_ M Q E3 rm ds lk h b_=>bn rm ds lk h λv H1 x M1 dx l_ t1 q1=>by
  split at q1
  ·exact⟨_,dx,b_ _ _ _ l_ t1 q1⟩
  ·exact q1.elim
theorem yb{t:St3->MH->(Option Int->MH->Prop)->XN->Prop}{K:JJ}{σ:St}{H:Hp}{g_:St3}{M:MH}{E3:XN}{R3:Option Int->MH->Prop}{R2:Option Int->Hp->Prop}(rm:RelM K M H)(ds:DenS K H g_ σ)(lk:LkE K cls H E3 (E2 σ))(h:t g_ M R3 E3)(k:∀o H' M',RelM K M' H'->TM K H H'->R3 o M'->R2 o H') :
  rA K cls E2 t σ H R2:=⟨g_,M,R3,E3,rm,ds,lk,h,k⟩
theorem Ca(ha:PE X a (low X.K cls E2 ta))(hb:PE X b (low X.K cls E2 tb)) :
  PE X (.BinOp a .Add b pos) (low X.K cls E2 λσ M Q E=>ta σ M (λx M1=>tb σ M1 (λy M2=>jS fz x y M2 Q) E) E):=Ba (zB fz) ha hb
theorem Cb(h:PE X e (low X.K cls E2 te)):PE X e (low X.K cls E2 λσ M Q E=>te σ M (ba Q) E):=by
 refine λa_ s σ H Q2 I i_=>ex9 i_ λg_ M Q E3 rm ds lk q b_=>?_
 refine thn (h a_ s σ H (λv H1=>∃d M1,Den X.K H1 d v/\RelM X.K M1 H1/\TM X.K H H1/\ba Q d M1) I ⟨g_,M,_,E3,rm,ds,lk,q,λv H' d M' a b c e=>⟨d,M',a,b,c,e⟩⟩) λu s1 z_=>?_
 obtain⟨v,H1,I1,r1,d,M1,dv,l_,t1,q1⟩:=z_;obtain⟨H2,M2,d2,I2,t2,C_,LG,q2⟩:=iM I1 l_ dv q1;exact⟨v,H2,I2,r1,b_ _ _ _ _ LG C_ (t1.trans t2) q2⟩
theorem Bm(h:PE X e (low X.K cls E2 te)):PE X e (low X.K cls E2 λσ M Q E=>te σ M (iC Q) E):=by
 refine λa_ s σ H Q2 I i_=>ex9 i_ λg_ M Q E3 rm ds lk q b_=>?_
 refine thn (h a_ s σ H (λv H1=>∃d M1,Den X.K H1 d v/\RelM X.K M1 H1/\TM X.K H H1/\iC Q d M1) I ⟨g_,M,_,E3,rm,ds,lk,q,λv H' d M' a b c e=>⟨d,M',a,b,c,e⟩⟩) λu s1 z_=>?_
 obtain⟨v,H1,I1,r1,d,M1,dv,l_,t1,q1⟩:=z_;have q1:ba Q d M1:=by
  unfold iC at q1;split at q1
  ·split at q1
   ·rename_i a JK e;simp only[ba,e];exact q1
   ·exact q1.elim
  ·exact q1.elim
 obtain⟨H2,M2,d2,I2,t2,C_,LG,q2⟩:=iM I1 l_ dv q1;exact⟨v,H2,I2,r1,b_ _ _ _ _ LG C_ (t1.trans t2) q2⟩
end
theorem uK{K:JJ}(h:CX1 P w outer H s (λc d H'=>TM K H H'->E c d H') e s'):CX1 P w outer H s E e s':=by
 obtain⟨a,cls,B,H',dx,h1,h2,h3,un,h_,fl,ha,KO,he⟩:=h;exact⟨a,cls,B,H',dx,h1,h2,h3,un,h_,fl,ha,KO,he (.un un.JS un.JN)⟩
section
variable {X:Cx}{cls:Nat->Addr}{E2:St->XK}{k:Nat}{f:Addr}{fd:FuncData}{ps:List Str}{x:Str}{p pos:Pos}{e:Expr}{es:List Expr}{tr:St3->MH->(List D->MH->Prop)->XN->Prop}{t3:List D->MH->VK3->XN->Prop}
noncomputable def spX(K:JJ)(cls:Nat->Addr)(t3:List D->MH->VK3->XN->Prop):Sp:=λvs H Q E=>∃ds M Q3 E3,DenL K H ds vs/\RelM K M H/\t3 ds M Q3 E3/\Back K H Q3 Q/\LkE K cls H E3 E
def BdT(K:JJ)(cls:Nat->Addr)(fd:FuncData)(ps:List Str)(t3:List D->MH->VK3->XN->Prop)(sp:Sp):Prop:=∀vs H Q E,spX K cls t3 vs H Q E->∃ML ds,Vals ML ds/\Binds K fd ps ds/\sp (vs++ML) H Q E
theorem gA(F:FnOk X.prog X.w X.K X.mg X.base (CX1 X.prog X.w) k f fd ps sp)(hr:Room k X.A)(hb:BdT X.K cls fd ps t3 sp)(hx:aS (CX1 X.prog X.w) X E2)
  (I:Inv X a_ σ H s)(r:Vals vs us) (h:spX X.K cls t3 vs H Q (λc d H'=>TM X.K H H'->E2 σ c d H')):wpAny (model X.prog X.w) X.A (call (.ref f) us) (EP X a_ σ Q) X.xe s:=by
 obtain⟨ML,MM,hv,bd,h'⟩:=hb _ _ _ _ h;have r2:Vals (vs++ML) (us++MM):=r.append hv;have hl:(us++MM).length=ps.length:=by rw[<-r2.length];exact F.len _ _ _ _ h'
 refine wpAny_call (codeAny_mono (F.run X.A X.stack s H ⟨us,[]⟩ (us++MM) (vs++ML) Q _ hr I.env0 (bd s us I.kIn hl) r2 h') λz s' hq=>?_)
 match z,hq with
 |.error e,hq=>exact hx a_ σ H s e s' I (uK hq)
 |.ok (.ret u),hq=>exact I.after hq
 |.ok .next,hq=>exact hq.elim
 |.ok .brk,hq=>exact hq.elim
 |.ok .cont,hq=>exact hq.elim
theorem jO{σ:St}{H:Hp}{xs:List D}{vs:List V}{M:MH}{Q:VK3}{Q2:VK}{E3:XN}(dl:DenL X.K H xs vs)(rm:RelM X.K M H)(lk:LkE X.K cls H E3 (E2 σ))(q:t3 xs M Q E3)(b_:Back X.K H Q Q2) :
  spX X.K cls t3 vs H Q2 (λc d H'=>TM X.K H H'->E2 σ c d H'):=
 ⟨xs,M,Q,E3,dl,rm,q,b_,λi M' H' t r_ q dx xd _=>lk i M' H' t r_ q dx xd⟩
theorem zi(F:FnOk X.prog X.w X.K X.mg X.base (CX1 X.prog X.w) k f fd ps sp)(hr:Room k X.A)(hg:Gl X x)(hm:X.mg x=some (.ref f))(hk:PySem.W.keepIn X.K (.ref f)=true)(hb:BdT X.K cls fd ps t3 sp)(hx:aS (CX1 X.prog X.w) X E2)
  (ha:PA X (e::es) (dO X.K cls E2 tr)) (I_:(x == ("__debug__" : Str))=false) (he:starEach (e::es) X.env=(false,eval e X.env)::starEach es X.env) (JR:(backTo pos (starEach es X.env)).any (·.1)=false) :
  PE X (.Call (.Name x p) (e::es) [] pos) (low X.K cls E2 λσ M Q E=>tr σ M (λxs M1=>t3 xs M1 Q E) E):=λa_ s σ H Q2 I i_=>ex9 i_ λg_ M Q E3 rm ds lk h b_=>
 wpAny_Call_Name_kw (bV I hg hm (PySem.W.callWith_K (h₀:=X.base) I.ok.mod.kin hk (thn (ha pos a_ s σ H _ I (ef (R2:=λvs H1=>spX X.K cls t3 vs H1 Q2 (λc d H'=>TM X.K H1 H'->E2 σ c d H')) rm ds lk h
  λvs H1 xs M1 dl l_ t1 q1=>jO dl l_ (lk.mono t1) q1 (b_.mono t1))) λus s1 ⟨vs,H1,I1,r,q⟩=>⟨I1.kIn,gA F hr hb hx I1 r q⟩) he JR) I_)
theorem wU(F:FnOk X.prog X.w X.K X.mg X.base (CX1 X.prog X.w) k f fd ps sp)(hr:Room k X.A)(hg:Gl X x)(hm:X.mg x=some (.ref f))(hk:PySem.W.keepIn X.K (.ref f)=true)(hb:BdT X.K cls fd ps t3 sp)(hx:aS (CX1 X.prog X.w) X E2)(I_:(x == ("__debug__" : Str))=false) :
  PE X (.Call (.Name x p) [] [] pos) (low X.K cls E2 λσ M Q E=>t3 [] M Q E):=λa_ s σ H Q2 I i_=>ex9 i_ λg_ M Q E3 rm ds lk h b_=>
 wpAny_Call_Name_kw (bV I hg hm (PySem.W.callWith_K0 I.kIn hk (gA (us:=[]) F hr hb hx I .nil (jO (xs:=[]) .nil rm lk h b_))) I_)
theorem f8{id:String}(hc:VC X (.builtin id) r)(hg:Gl X x)(hm:X.mg x=none)(hv:bootBuiltins x=some (.builtin id))(ha:PA X (e::es) (dO X.K cls E2 tr))(hn:x≠"__name__")(I_:(x == ("__debug__" : Str))=false)
  (he:starEach (e::es) X.env=(false,eval e X.env)::starEach es X.env) (JR:(backTo pos (starEach es X.env)).any (·.1)=false):PE X (.Call (.Name x p) (e::es) [] pos) (low X.K cls E2 λσ M Q E=>tr σ M (λxs M1=>r xs M1 Q) E):=
 (ei hc.op hg hm hv ha hn I_ he JR).imp λσ H Q2 i_=>ex9 i_ λg_ M Q E3 rm ds lk h b_=>ef rm ds lk h λvs H1 xs M1 dl l_ t1 q1=>⟨xs,M1,Q,dl,l_,q1,b_.mono t1⟩
theorem xt(hc:VC X (.type T) r)(hg:Gl X x)(hm:X.mg x=none)(hv:bootBuiltins x=some (.type T))(ha:PA X (e::es) (dO X.K cls E2 tr))(hn:x≠"__name__")(I_:(x == ("__debug__" : Str))=false)
  (he:starEach (e::es) X.env=(false,eval e X.env)::starEach es X.env) (JR:(backTo pos (starEach es X.env)).any (·.1)=false):PE X (.Call (.Name x p) (e::es) [] pos) (low X.K cls E2 λσ M Q E=>tr σ M (λxs M1=>r xs M1 Q) E):=
 (sL hc.op hg hm hv ha hn I_ he JR).imp λσ H Q2 i_=>ex9 i_ λg_ M Q E3 rm ds lk h b_=>ef rm ds lk h λvs H1 xs M1 dl l_ t1 q1=>⟨xs,M1,Q,dl,l_,q1,b_.mono t1⟩
noncomputable def ce:BT->String
 |.int=>"int"|.bool=>"bool"|.str=>"str"|.tuple=>"tuple"|.list=>"list"|.dict=>"dict"
theorem A0{a_:List (Addr×Obj)}{σ:St}{H:Hp}{s:Shared}{A:Around}{Ex:Value->Shared->Prop}{t:BT}{x:D}{v:V}{v2:Value}{M:MH}{Q:VK3}{Q2:VK}(I:Inv X a_ σ H s)(rv:RelV v v2)(dx:Den X.K H x v)(rm:RelM X.K M H)(q:j6 t x M Q)(b_:Back X.K H Q Q2) :
  wpAny (model X.prog X.w) A (call (.builtin "isinstance") [v2,.type (ce t)]) (EP X a_ σ Q2) Ex s:=by
 have fin:∀b,Q (.bl b) M->∀tk,EP X a_ σ Q2 (.bool b) {s with toks:=tk}:=λb q tk=>⟨.bl b,H,I.tok _,rfl,b_ _ _ _ _ bC rm (.refl _) q⟩
 cases x with
 |j_=>cases (show v=.j_ from dx);cases rv;cases t<;>exact PySem.W.kia_one PySem.W.kitx_none I.kIn True.intro rfl (λz=>nomatch z) (fin _ q)
 |bl b=>cases (show v=.bl b from dx);cases rv;cases t<;>exact PySem.W.kia_one PySem.W.kitx_bool I.kIn True.intro rfl (λz=>nomatch z) (fin _ q)
 |int i=>cases (show v=.int i from dx);obtain⟨tk,rfl⟩:=rv;cases t<;>exact PySem.W.kia_one PySem.W.kitx_int I.kIn True.intro rfl (λz=>nomatch z) (fin _ q)
 |str i=>cases (show v=.str i from dx);obtain⟨tk,rfl⟩:=rv;cases t<;>exact PySem.W.kia_one PySem.W.kitx_str I.kIn True.intro rfl (λz=>nomatch z) (fin _ q)
 |tup ds=>
  obtain⟨a,vs,rfl,sq,_⟩:=dx;cases rv;obtain⟨its,_,tt,_⟩:=I.tuple sq;obtain⟨o,h1,h2,_⟩:=(show s.heap.IsTuple a its.toArray from tt);cases t<;>exact PySem.W.kia_one PySem.W.kitx_tuple I.kIn ⟨o,h1,h2⟩ rfl (λz=>nomatch z) (fin _ q)
 |e_ ds=>
  obtain⟨a,vs,rfl,sq,_⟩:=dx;cases rv;obtain⟨_,its,n,_,_,h1⟩:=I.rdL sq.rd;cases t<;>exact PySem.W.kia_one PySem.W.kitx_list I.kIn ⟨_,h1,rfl⟩ rfl (λz=>nomatch z) (fin _ q)
 |ref a=>
  cases (show v=.ref a from dx);cases rv;simp only[j6]at q;split at q
  ·rename_i ds e;obtain⟨vs,e1,_⟩:=rm a _ e;obtain⟨_,its,n,_,_,h1⟩:=I.rdL (.inl (.inl e1));cases t<;>exact PySem.W.kia_one PySem.W.kitx_list I.kIn ⟨_,h1,rfl⟩ rfl (λz=>nomatch z) (fin _ q)
  ·rename_i ks ds e;obtain⟨vs,e1,_,_⟩:=rm a _ e;obtain⟨_,_,_,_,o,_,_,h1,h2,_⟩:=I.h_ a _ e1;cases t<;>exact PySem.W.kia_one PySem.W.kitx_dict I.kIn ⟨o,h1,h2.1⟩ rfl (λz=>nomatch z) (fin _ q)
  ·rename_i ks ds e;obtain⟨vs,xs,e1,_⟩:=rm a _ e;obtain⟨⟨o,es,ep,h1,h2,_⟩,_⟩:=(show ObjOk X.prog X.w H s.heap a (.ext (aY a xs)) from I.h_ a _ e1);cases t<;>exact PySem.W.kia_one PySem.W.kitx_dict I.kIn ⟨o,h1,h2.1⟩ rfl (λz=>nomatch z) (fin _ q)
  ·exact q.elim
 |Kz ks ds=>
  obtain⟨a,vs,ob,rfl,e1,_⟩:=dx;cases rv;obtain⟨_,_,_,ws,_,p⟩:=(show ObjOk X.prog X.w H s.heap a (.s_ ob (.dK (ks.zip vs))) from I.h_ a _ e1);obtain⟨o,es,ep,h1,h2,_⟩:=p;cases t<;>exact PySem.W.kia_one PySem.W.kitx_dict I.kIn ⟨o,h1,h2.1⟩ rfl (λz=>nomatch z) (fin _ q)
 |JT ks ds=>
  obtain⟨a,vs,ob,xs,rfl,e1,_⟩:=dx;cases rv;obtain⟨_,⟨o,es,ep,h1,h2,_⟩,_⟩:=(show ObjOk X.prog X.w H s.heap a (.s_ ob (.ext (aY a xs))) from I.h_ a _ e1);cases t<;>exact PySem.W.kia_one PySem.W.kitx_dict I.kIn ⟨o,h1,h2.1⟩ rfl (λz=>nomatch z) (fin _ q)
 |obj i C ns ds=>exact (show False from q).elim
theorem B9(ha:PE X e (low X.K cls E2 te))(hg:Gl X "isinstance")(hm:X.mg "isinstance"=none)(NQ:Gl X (ce t))(MN:X.mg (ce t)=none)(hs:starEach (e::[.Name (ce t) p2]) X.env=(false,eval e X.env)::starEach [.Name (ce t) p2] X.env) :
  PE X (.Call (.Name "isinstance" p) [e,.Name (ce t) p2] [] pos) (low X.K cls E2 λσ M Q E=>te σ M (λx M1=>j6 t x M1 Q) E):=by
 have hT:PE X (.Name (ce t) p2) (tC (.ty (ce t))):=by
  cases t<;>exact xq NQ MN (by decide +kernel) rfl
 have hc:CallR X (.builtin "isinstance") (λvs H Q2=>∃x v M Q,vs=[v,.ty (ce t)]/\Den X.K H x v/\RelM X.K M H/\j6 t x M Q/\Back X.K H Q Q2):=by
  refine λa_ s σ H vs us Q2 I r i_=>ex9 i_ λx v M Q e dx rm q b_=>?_
  subst e;obtain⟨u,w,rfl,ru,rw⟩:=Vals.two r;cases (show w=Value.type (ce t) from rw);exact A0 I ru dx rm q b_
 refine (ei hc hg hm (by decide +kernel) (aK ha (aK hT pa_nil (by rfl)) hs) (by decide +kernel) (by decide +kernel) hs (by rfl)).imp λσ H Q2 i_=>ex9 i_ λg_ M Q E3 rm ds lk h b_=>?_
 exact bn rm ds lk h λv H1 x M1 dx l_ t1 q1=>⟨x,v,M1,Q,rfl,dx,l_,q1,b_.mono t1⟩
end
section
variable {X:Cx}
theorem Ax{K:JJ}(sq:SqT K H0 p vs)(dl:DenL K H0 ds vs):ItOk K H0 (Itt K p) ds (λ_=>True):=by
 refine⟨λi H M t rm s hi=>?_,λi H M x H' t rm s hi y=>?_,λH M t rm s=>?_⟩
 ·have KC:i<vs.length:=by rw[<-dl.length];exact hi
  exact⟨vs,vs[i],t.t _ _ sq,by simp[KC]⟩
 ·obtain⟨e,y⟩:=y;subst e;obtain⟨d,e1,e2⟩:=(dl.mono t).get' (y vs (t.t _ _ sq));exact⟨.refl _,rm,d,e1,e2⟩
 ·exact⟨vs,t.t _ _ sq,by rw[dl.length];exact Iq _⟩
theorem A4{K:JJ}(sq:SqF K H0 p vs)(dl:DenL K H0 ds vs):ItOk K H0 (Itl K p) ds (λ_=>True):=by
 refine⟨λi H M t rm s hi=>?_,λi H M x H' t rm s hi y=>?_,λH M t rm s=>?_⟩
 ·have KC:i<vs.length:=by rw[<-dl.length];exact hi
  exact⟨vs,vs[i],(t.f _ _ sq).sq,by simp[KC]⟩
 ·obtain⟨e,y⟩:=y;subst e;obtain⟨d,e1,e2⟩:=(dl.mono t).get' (y vs (t.f _ _ sq).sq);exact⟨.refl _,rm,d,e1,e2⟩
 ·exact⟨vs,(t.f _ _ sq).sq,by rw[dl.length];exact Iq _⟩
theorem Af{K:JJ}:ItOk K H0 (Itl K p) ds (λM=>M p=some (.lst ds)):=by
 refine⟨λi H M t rm s hi=>?_,λi H M x H' t rm s hi y=>?_,λH M t rm s=>?_⟩
 ·obtain⟨vs,e,dl⟩:=rm p _ s;have KC:i<vs.length:=by rw[<-dl.length];exact hi
  exact⟨vs,vs[i],.of e,by simp[KC]⟩
 ·obtain⟨vs,e,dl⟩:=rm p _ s;obtain⟨e',y⟩:=y;subst e';obtain⟨d,e1,e2⟩:=dl.get' (y vs (.of e));exact⟨.refl _,rm,d,e1,e2⟩
 ·obtain⟨vs,e,dl⟩:=rm p _ s;exact⟨vs,.of e,by rw[dl.length];exact Iq _⟩
theorem lc(I:Inv X a_ σ H s)(hq:SqL X.K H a xs)(q:R (Itl X.K a) H):wpAny (model X.prog X.w) X.A (pyIter (.ref a)) (PIE X a_ σ tg R) Ex s:=by
 obtain⟨its,rv,p,hz⟩:=I.list hq;refine wpAny_pyIter_list p.isList ?_;refine⟨s.heap.objs.size,[s.heap.objs.size],_,_,H,rfl,I.kept (t':=s.toks) λb o e=>Il _ e,sh a _,⟨_,Iz _ rfl,rfl,rfl⟩,λb hb=>?_,q⟩
 have e:b=s.heap.objs.size:=by simpa using hb
 subst e;exact I.fpOk (Iq _) (I.h_.fresh (Iq _))
theorem ui(I:Inv X a_ σ H s)(hq:SqT X.K H a xs)(q:R (Itt X.K a) H):wpAny (model X.prog X.w) X.A (pyIter (.ref a)) (PIE X a_ σ tg R) Ex s:=by
 obtain⟨its,rv,p,hz⟩:=I.tuple hq;refine wpAny_pyIter_tuple (show s.heap.IsTuple a its.toArray from p) ?_;refine⟨s.heap.objs.size,[s.heap.objs.size],_,_,H,rfl,I.kept (t':=s.toks) λb o e=>Il _ e,pC a _,⟨_,Iz _ rfl,rfl,rfl⟩,λb hb=>?_,q⟩
 have e:b=s.heap.objs.size:=by simpa using hb
 subst e;exact I.fpOk (Iq _) (I.h_.fresh (Iq _))
theorem DX(hl:PE X l (low X.K cls E2 te)):PI X tg l (jb X.K cls E2 λσ M R E=>te σ M (λx M1=>match x with
  |.tup ds=>R ds (λ_=>True) M1
  |.e_ ds=>R ds (λ_=>True) M1
  |.ref a=>match M1 a with
   |some (.lst ds)=>R ds (λM=>M a=some (.lst ds)) M1
   |_=>False
  |_=>False) E):=by
 refine λa_ s σ H R2 I i_=>ex9 i_ λg_ M R E3 rm ds lk h k=>?_
 refine thn (hl a_ s σ H _ I ⟨g_,M,_,E3,rm,ds,lk,h,λv H' d M' a b c e=>(⟨d,M',a,b,c,e⟩:(λv H'=>∃d M',Den X.K H' d v/\RelM X.K M' H'/\TM X.K H H'/\(match d with
  |.tup ds=>R ds (λ_=>True) M'
  |.e_ ds=>R ds (λ_=>True) M'
  |.ref a=>match M' a with
   |some (.lst ds)=>R ds (λM=>M a=some (.lst ds)) M'
   |_=>False
  |_=>False)) v H')⟩) λu s1 ⟨v,H1,I1,r1,d,M1,dv,l_,t1,q1⟩=>?_
 split at q1
 ·obtain⟨p,vs,rfl,sq,dl⟩:=dv;cases r1;exact ui I1 sq (k _ _ _ _ _ (Ax sq dl) l_ t1 q1)
 ·obtain⟨p,vs,rfl,sq,dl⟩:=dv;cases r1;exact lc I1 sq.sq (k _ _ _ _ _ (A4 sq dl) l_ t1 q1)
 ·rename_i a;cases (show v=.ref a from dv);cases r1;split at q1
  ·rename_i JK e;obtain⟨vs,e1,dl⟩:=l_ a _ e;exact lc I1 (.of e1) (k _ _ _ _ _ Af l_ t1 q1)
  ·exact q1.elim
 ·exact q1.elim
theorem FI(hg:Gl X "range")(hm:X.mg "range"=none)(ha:PE X a (low X.K cls E2 ta))(hs:starEach [a] X.env=[(false,eval a X.env)]):PI X tg (.Call (.Name "range" p) [a] [] pos) (jb X.K cls E2 λσ M R E=>ta σ M (λx M1=>match x with
  |.int j=>-(2 ^ 62)<=j/\j<2 ^ 62/\R (rng 0 j.toNat) (λ_=>True) M1
  |_=>False) E):=
 (rf hg hm (aK ha pa_nil hs) hs).imp λσ H R2 i_=>ex9 i_ λg_ M R E3 rm ds lk h k=>bn rm ds lk h λv H1 x M1 dx l_ t1 q1=>by
  split at q1
  ·rename_i j;cases (show v=.int j from dx);exact⟨j,rfl,q1.1,q1.2.1,k _ _ _ _ _ z9 l_ t1 q1.2.2⟩
  ·exact q1.elim
end
section
variable {X:Cx}
theorem zQ(hX:∀i,i<ne->ExcI X.K (cls i)/\PySem.W.kitOne X.K (.ref (cls i)) cv=some (r i))
  (I:Inv X a_ σ H s)(rv:RelV v v2)(dx:Den X.K H x v)(rm:RelM X.K M H)(q:nY ne cls r x M Q)(b_:Back X.K H Q Q2) :
  wpAny (model X.prog X.w) A (call (.builtin "isinstance") [v2,cv]) (EP X a_ σ Q2) Ex s:=by
 unfold nY at q;split at q
 ·rename_i a;cases (show v=.ref a from dx);cases rv;split at q
  ·rename_i i w e;obtain⟨hi,rfl,q⟩:=q;obtain⟨h1,h2⟩:=hX i.c hi;obtain⟨S_,e0,_⟩:=rm a _ e;have ho:=I.h_ _ _ e0;obtain⟨⟨o,vs,g1,g2,_⟩,_,_⟩:=ho;exact PySem.W.kia_one (uR h1) I.kIn ⟨o,g1,g2⟩ h2 (λz=>nomatch z) λtk=>⟨.bl _,H,I.tok _,rfl,b_ _ _ _ _ bC rm (.refl _) q⟩
  ·exact q.elim
 ·exact q.elim
theorem CU(ha:PE X e (low X.K cls E2 te))(hg:Gl X "isinstance")(hm:X.mg "isinstance"=none)(NQ:Gl X x)(MN:X.mg x=some (.ref (cls j)))(I_:(x == ("__debug__" : Str))=false)
  (hX:∀i,i<ne->ExcI X.K (cls i)/\PySem.W.kitOne X.K (.ref (cls i)) (.ref (cls j))=some (r i)) (hs:starEach (e::[.Name x p2]) X.env=(false,eval e X.env)::starEach [.Name x p2] X.env) :
  PE X (.Call (.Name "isinstance" p) [e,.Name x p2] [] pos) (low X.K cls E2 λσ M Q E=>te σ M (λx M1=>nY ne cls r x M1 Q) E):=by
 have hT:PE X (.Name x p2) (tC (.ref (cls j))):=fV NQ MN rfl I_;have hc:CallR X (.builtin "isinstance") (λvs H Q2=>∃x v M Q,vs=[v,.ref (cls j)]/\Den X.K H x v/\RelM X.K M H/\nY ne cls r x M Q/\Back X.K H Q Q2):=by
  intro a_ s σ H vs us Q2 I r ⟨x,v,M,Q,e,dx,rm,q,b_⟩;subst e;obtain⟨u,w,rfl,ru,rw⟩:=Vals.two r;cases (show w=Value.ref (cls j) from rw);exact zQ hX I ru dx rm q b_
 refine (ei hc hg hm (by decide +kernel) (aK ha (aK hT pa_nil (by rfl)) hs) (by decide +kernel) (by decide +kernel) hs (by rfl)).imp λσ H Q2 i_=>ex9 i_ λg_ M Q E3 rm ds lk h b_=>?_
 exact bn rm ds lk h λv H1 x M1 dx l_ t1 q1=>⟨x,v,M1,Q,rfl,dx,l_,q1,b_.mono t1⟩
end
section
variable {K:JJ}
theorem fP:∀{ns:List Nat}{ds:List D}{vs:List V}{f:Nat}{d:D},DenL K H ds vs->bZ f ns ds=some d->∃v,((ns.map fnm).zip vs).lookup (fnm f)=some v/\Den K H d v
 |[],_,_,_,_,_,e=>by simp[bZ]at e
 |n::ns,[],_,_,_,_,e=>by simp[bZ]at e
 |n::ns,d0::ds,_,f,d,dl,e=>by
  obtain⟨v,r,rfl,dv,dl⟩:=dl;simp only[bZ]at e;by_cases z:n=f
  ·rw[Iu z]at e;cases e;subst z;exact⟨v,by simp[List.lookup],dv⟩
  ·rw[Im z]at e;obtain⟨u,h1,h2⟩:=fP dl e;refine⟨u,?_,h2⟩;have nb:(fnm f == fnm n)=false:=IZ.mpr λq=>z (mf q).symm
   simp[List.lookup,nb,h1]
theorem fB:∀{ns:List Nat}{ds:List D}{vs:List V}{f:Nat},DenL K H ds vs->ns.length=vs.length->bZ f ns ds=none->((ns.map fnm).zip vs).lookup (fnm f)=none
 |[],_,_,_,_,_,_=>by simp
 |n::ns,[],vs,_,dl,hl,_=>by cases (show vs=[] from dl);cases hl
 |n::ns,d0::ds,_,f,dl,hl,e=>by
  obtain⟨v,r,rfl,dv,dl⟩:=dl;simp only[bZ]at e;by_cases z:n=f
  ·rw[Iu z]at e;cases e
  ·rw[Im z]at e;have h1:=fB dl (by simpa using hl) e
   have nb:(fnm f == fnm n)=false:=IZ.mpr λq=>z (mf q).symm
   simp[List.lookup,nb,h1]
theorem nN:∀{ns:List Nat}{ds:List D}{vs:List V}{f:Nat}{y:D}{u:V},DenL K H ds vs->ns.length=vs.length->Den K H y u->
  ∃ws,dA (fnm f) u ((ns.map fnm).zip vs)=((cq f ns).map fnm).zip ws/\(cq f ns).length=ws.length/\DenL K H (cj f y ns ds) ws
 |[],ds,vs,f,y,u,dl,hl,dy=>by
  cases vs with
  |nil=>exact⟨[u],rfl,rfl,by unfold cj;exact .one dy⟩
  |cons _ _=>cases hl
 |n::ns,[],vs,f,y,u,dl,hl,dy=>by cases (show vs=[] from dl);cases hl
 |n::ns,d::ds,_,f,y,u,dl,hl,dy=>by
  obtain⟨v,r,rfl,dv,dl⟩:=dl;have Mf:ns.length=r.length:=by simpa using hl
  by_cases z:n=f
  ·subst z;refine⟨u::r,?_,?_,?_⟩
   ·simp[dA,cq]
   ·simp[cq,Mf]
   ·simp only[cj,Iu];exact .cons dy dl
  ·obtain⟨ws,h1,h2,h3⟩:=nN (f:=f) (u:=u) dl Mf dy;have nf:¬ fnm n=fnm f:=λq=>z (mf q)
   refine⟨v::ws,?_,?_,?_⟩
   ·simp only[Ip,List.zip_cons_cons,dA,Im nf,cq,Im z];rw[h1]
   ·simp[cq,Im z,h2]
   ·simp only[cj,Im z];exact .cons dv h3
end
theorem o8{fs:List (Str×V)}(h_:HOk P w H h)(e:Rd H a (.ins C dx fs)):∃mA,ObjM h a dx C mA/\(∀f,RelO (fs.lookup f) (mA f))/\H dx=some (.own a):=by
 obtain⟨d,z,ne,ob,mA,n,r,q⟩:=(show ObjOk P w H h a (.ins C dx fs) from e.ok h_);exact⟨mA,⟨ob,n,ne⟩,r,d⟩
section
variable {X:Cx}{fs:List (Str×V)}
theorem ue(I:Inv X a_ σ H s)(e:Rd H a (.ins C dx fs))(c:Cls X.K C)(n:NoAttr X.K C f)(l:fs.lookup f=some v)
  (h:∀u s',Inv X a_ σ H s'->RelV v u->Q u s'):wpAny (model X.prog X.w) A (getAttr (.ref a) f b) Q E s:=by
 obtain⟨mA,O,r,_⟩:=o8 I.h_ e;obtain⟨u,hu,ru⟩:=RelO.some_of (v:=v) (o:=mA f) (by rw[<-l];exact r f)
 exact wX I.kIn O (c.get f) c.hd n hu (sj ru) (h u _ (I.tok _) ru)
theorem nO{m:Str}{g:Addr}{pl:Sem Bool}{Q:Value×List Value->Shared->Prop}(I:Inv X a_ σ H s)(e:Rd H a (.ins C dx fs))(c:Cls X.K C)(k:Meth X.K C m g)(l:fs.lookup m=none)
  (h:Q (.ref g,[.ref a]) s):wpAny (model X.prog X.w) A (getMethod (.ref a) m pl) Q E s:=by
 obtain⟨mA,O,r,_⟩:=o8 I.h_ e;have hn:mA m=none:=RelO.none_of (by rw[<-l];exact r m)
 exact ve I.kIn O (c.get m) k.at_ k.fn hn h
end
structure ClsI (K:JJ)(C f:Addr):Prop where
 ga:PySem.W.specialIn K (.ref C) "__getattribute__"=some (some (.builtin "type.__getattribute__"))
 rd:PySem.W.readsIn K C (.type "type")=true
 at_:PySem.W.findCls K (.ref C) (.type "type") "__init__"=some (.val (.ref f))
structure TyI (K:JJ)(C:Addr):Prop where
 ha:PySem.W.findIn K (.ref C) "__class__"=some (some (.builtin "object.__class__"))
 hn:PySem.W.specialIn K (.builtin "object.__class__") "__get__"=some (some (.builtin "getset_descriptor.__get__"))
 M_:PySem.W.takesIn K (.builtin "object.__class__")=some true
 hm:PySem.W.mroIn K C (.type "object")=some true
structure KOk (K:JJ)(B:WB)(d_:Nat->Addr)(i:Nat):Prop where
 cl:Cls K (B.c_ i)
 na:∀f,B.fok i f=true->NoAttr K (B.c_ i) (fnm f)
 mt:∀m f,B.mth i m=some f->Meth K (B.c_ i) (fnm m) (d_ f)
 mkr:∀f,B.ini i=some f->Mk K (B.c_ i) (d_ f)
 ci:∀f,B.ini i=some f->ClsI K (B.c_ i) (d_ f)
 ty:TyI K (B.c_ i)
 is:∀j,j<B.nk->PySem.W.kitOne K (.ref (B.c_ i)) (.ref (B.c_ j))=some (B.ksub i j)
section
variable {X:Cx}{B:WB}
theorem wm{K:JJ}(hk:∀i,i<B.nk->KOk K B d_ i)(dx:Den K H x v)(rm:RelM K M H)(h:cI B f x M Q) :
  ∃a C dx fs u d,v=.ref a/\Rd H a (.ins C dx fs)/\Cls K C/\NoAttr K C (fnm f)/\fs.lookup (fnm f)=some u/\Den K H d u/\Q d M:=by
 unfold cI at h;split at h
 ·rename_i i C ns ds;obtain⟨p,vs,ob,Kq,rfl,e,hl,dl⟩:=dx;obtain⟨⟨rfl,hi,hf⟩,h⟩:=h;unfold gJ at h;split at h
  ·rename_i d q;obtain⟨u,h1,h2⟩:=fP dl q;exact⟨p,_,Kq,_,u,d,rfl,.inr ⟨ob,e⟩,(hk i hi).cl,(hk i hi).na f hf,h1,h2,h⟩
  ·exact h.elim
 ·rename_i a;split at h
  ·rename_i i C ns ds q;obtain⟨Kq,vs,e,hl,dl⟩:=rm a _ q;obtain⟨⟨rfl,hi,hf⟩,h⟩:=h;unfold gJ at h;split at h
   ·rename_i d q;obtain⟨u,h1,h2⟩:=fP dl q;exact⟨a,_,Kq,_,u,d,dx,.inl e,(hk i hi).cl,(hk i hi).na f hf,h1,h2,h⟩
   ·exact h.elim
  ·exact h.elim
 ·exact h.elim
theorem C9(hk:∀i,i<B.nk->KOk X.K B d_ i)(he:PE X e (low X.K cls E2 te))(hb:attributeBase e (fnm f) X.env (eval e X.env)=eval e X.env):PE X (.Attribute e (fnm f) pos) (low X.K cls E2 λσ M Q E=>te σ M (λx M1=>cI B f x M1 Q) E):=by
 refine λa_ s σ H Q2 I i_=>ex9 i_ λg_ M Q E3 rm ds lk h b_=>?_
 refine xC hb (thn (he a_ s σ H (λv H1=>∃x M1,Den X.K H1 x v/\RelM X.K M1 H1/\TM X.K H H1/\cI B f x M1 Q) I ⟨g_,M,_,E3,rm,ds,lk,h,λv H' d M' a b c e=>⟨d,M',a,b,c,e⟩⟩) λu s1 z_=>?_)
 obtain⟨v,H1,I1,r1,x,M1,dx,l_,t1,q1⟩:=z_;obtain⟨a,C,Kq,fs,u',d,rfl,rd,c,n,l,du,q⟩:=wm hk dx l_ q1;obtain rfl:u=Value.ref a:=r1;exact ue I1 rd c n l λTa s2 I2 ru=>⟨u',H1,I2,ru,b_ _ _ _ _ du l_ t1 q⟩
theorem zG{K:JJ}(dx:Den K H x v)(rm:RelM K M H)(h:o7 B j x M Q) :
  ∃a i dx fs,v=.ref a/\i<B.nk/\j<B.nk/\Rd H a (.ins (B.c_ i) dx fs)/\Q (.bl (B.ksub i j)) M:=by
 unfold o7 at h;split at h
 ·rename_i i C ns ds;obtain⟨p,vs,ob,Kq,rfl,e,hl,dl⟩:=dx;obtain⟨⟨rfl,hi,hj⟩,h⟩:=h;exact⟨p,i,Kq,_,rfl,hi,hj,.inr ⟨ob,e⟩,h⟩
 ·rename_i a;split at h
  ·rename_i i C ns ds q;obtain⟨Kq,vs,e,hl,dl⟩:=rm a _ q;obtain⟨⟨rfl,hi,hj⟩,h⟩:=h;exact⟨a,i,Kq,_,dx,hi,hj,.inl e,h⟩
  ·exact h.elim
 ·exact h.elim
theorem DH(hk:∀i,i<B.nk->KOk X.K B d_ i)(ha:PE X e (low X.K cls E2 te))(hg:Gl X "isinstance")(hm:X.mg "isinstance"=none)(NQ:Gl X x)(MN:X.mg x=some (.ref (B.c_ j)))(I_:(x == ("__debug__" : Str))=false)
  (hs:starEach (e::[.Name x p2]) X.env=(false,eval e X.env)::starEach [.Name x p2] X.env) :
  PE X (.Call (.Name "isinstance" p) [e,.Name x p2] [] pos) (low X.K cls E2 λσ M Q E=>te σ M (λx M1=>o7 B j x M1 Q) E):=by
 have hT:PE X (.Name x p2) (tC (.ref (B.c_ j))):=fV NQ MN rfl I_;have hc:CallR X (.builtin "isinstance") (λvs H Q2=>∃x v M Q,vs=[v,.ref (B.c_ j)]/\Den X.K H x v/\RelM X.K M H/\o7 B j x M Q/\Back X.K H Q Q2):=by
  refine λa_ s σ H vs us Q2 I r i_=>ex9 i_ λx v M Q e dx rm q b_=>?_
  subst e;obtain⟨u,w,rfl,ru,rw⟩:=Vals.two r;cases (show w=Value.ref (B.c_ j) from rw);obtain⟨a,i,Kq,fs,rfl,hi,hj,rd,q⟩:=zG dx rm q;cases (show u=Value.ref a from ru);obtain⟨mA,O,_⟩:=o8 I.h_ rd;obtain⟨od,J,_⟩:=O.look;have k:=hk i hi;exact PySem.W.kia_one (PySem.W.kitx_own (k.cl.get _) k.cl.hd k.ty.ha k.ty.hn k.ty.M_ k.ty.hm) I.kIn J (k.is j hj) (λz=>nomatch z) λtk=>⟨.bl _,H,I.tok _,rfl,b_ _ _ _ _ bC rm (.refl _) q⟩
 refine (ei hc hg hm (by decide +kernel) (aK ha (aK hT pa_nil (by rfl)) hs) (by decide +kernel) (by decide +kernel) hs (by rfl)).imp λσ H Q2 i_=>ex9 i_ λg_ M Q E3 rm ds lk h b_=>?_
 exact bn rm ds lk h λv H1 x M1 dx l_ t1 q1=>⟨x,v,M1,Q,rfl,dx,l_,q1,b_.mono t1⟩
end
def so(X:Cx)(cls:Nat->Addr)(k:Nat)(a:Addr)(t3:List D->MH->VK3->XN->Prop):Prop:=∃fd ps sp,PySem.W.keepIn X.K (.ref a)=true/\BdT X.K cls fd ps t3 sp/\FnOk X.prog X.w X.K X.mg X.base (CX1 X.prog X.w) k a fd ps sp
section
variable {X:Cx}{B:WB}{d_:Nat->Addr}{cls:Nat->Addr}{E2:St->XK}{o e:Expr}{es:List Expr}{to te:St3->MH->VK3->XN->Prop}{tr:St3->MH->(List D->MH->Prop)->XN->Prop}{pos m_ p:Pos}{m k:Nat}
 {KD:Nat->List D->MH->VK3->XN->Prop}
theorem qE{K:JJ}{H:Hp}{x:D}{v:V}{M:MH}{R:Nat->Prop}(hk:∀i,i<B.nk->KOk K B d_ i)(dx:Den K H x v)(rm:RelM K M H)(h:eE B m x M R) :
  ∃a C dx fs f,v=.ref a/\Rd H a (.ins C dx fs)/\Cls K C/\Meth K C (fnm m) (d_ f)/\fs.lookup (fnm m)=none/\(∃i,i<B.nk/\B.mth i m=some f)/\R f:=by
 unfold eE at h;split at h
 ·rename_i i C ns ds;obtain⟨p,vs,ob,Kq,rfl,e,hl,dl⟩:=dx;obtain⟨⟨rfl,hi,hf⟩,h⟩:=h;unfold eZ at h;split at h
  ·rename_i f q;exact⟨p,_,Kq,_,f,rfl,.inr ⟨ob,e⟩,(hk i hi).cl,(hk i hi).mt m f q,fB dl hl hf,⟨i,hi,q⟩,h⟩
  ·exact h.elim
 ·rename_i a;split at h
  ·rename_i i C ns ds q;obtain⟨Kq,vs,e,hl,dl⟩:=rm a _ q;obtain⟨⟨rfl,hi,hf⟩,h⟩:=h;unfold eZ at h;split at h
   ·rename_i f q;exact⟨a,_,Kq,_,f,dx,.inl e,(hk i hi).cl,(hk i hi).mt m f q,fB dl hl hf,⟨i,hi,q⟩,h⟩
   ·exact h.elim
  ·exact h.elim
 ·exact h.elim
theorem AH(hk:∀i,i<B.nk->KOk X.K B d_ i)(hf:∀i m f,i<B.nk->B.mth i m=some f->so X cls k (d_ f) (KD f))(hr:Room k X.A)(hx:aS (CX1 X.prog X.w) X E2)
  (ho:PE X o (low X.K cls E2 to)) (ha:PA X (e::es) (dO X.K cls E2 tr)) (hb:attributeBase o (fnm m) X.env (eval o X.env)=eval o X.env) (hl:(m_.endLine == pos.line)=true) (hn:(e::es).length<30)
  (he:starEach (e::es) X.env=(false,eval e X.env)::starEach es X.env) (JR:(backTo pos (starEach es X.env)).any (·.1)=false) :
  PE X (.Call (.Attribute o (fnm m) m_) (e::es) [] pos) (low X.K cls E2 λσ M Q E=>to σ M (λx M1=>eE B m x M1 λf=>tr σ M1 (λxs M2=>KD f (x::xs) M2 Q E) E) E):=by
 refine λa_ s σ H Q2 I i_=>ex9 i_ λg_ M Q E3 rm ds lk h b_=>?_
 have Kb:(backTo pos (starEach (e::es) X.env)).any (·.1)=false:=by
  rw[he];show ((false,_)::backTo pos (starEach es X.env)).any (·.1)=false;rw[List.any_cons,JR];rfl
 refine PySem.W.methodCall_KW (thn (ho a_ s σ H (λv H1=>∃x M1,Den X.K H1 x v/\RelM X.K M1 H1/\TM X.K H H1/\eE B m x M1 λf=>tr g_ M1 (λxs M2=>KD f (x::xs) M2 Q E3) E3) I ⟨g_,M,_,E3,rm,ds,lk,h,λv H' d M' a b c e=>⟨d,M',a,b,c,e⟩⟩) λu s1 ⟨v,H1,I1,r1,x,M1,dx,l_,t1,q1⟩=>?_) (eP hb (fZ Kb hn) hl)
 obtain⟨a,C,Kq,fs,f,rfl,rd,c,mt,l,⟨i,hi,Pq⟩,q⟩:=qE hk dx l_ q1;obtain rfl:u=Value.ref a:=r1;obtain⟨fd,ps,sp,kp,bd,F⟩:=hf i m f hi Pq;refine nO I1 rd c mt l ?_;refine PySem.W.callWith_K (first:=[.ref a]) (h₀:=X.base) I.ok.mod.kin mt.kp (thn (ha pos a_ s1 σ H1 _ I1 (ef (R2:=λvs H2=>spX X.K cls (KD f) (.ref a::vs) H2 Q2 (λc d H'=>TM X.K H2 H'->E2 σ c d H')) l_ (ds.mono t1) (lk.mono t1) q
  λvs H2 xs M2 dl C_ t2 q2=>jO (.cons (dx.mono t2) dl) C_ (lk.mono (t1.trans t2)) q2 (b_.mono (t1.trans t2)))) λus s2 ⟨vs,H2,I2,r,q2⟩=>⟨I2.kIn,?_⟩) he JR
 exact gA (us:=.ref a::us) (vs:=.ref a::vs) F hr bd hx I2 (.cons rfl r) q2
theorem xw(hk:∀i,i<B.nk->KOk X.K B d_ i)(hf:∀i m f,i<B.nk->B.mth i m=some f->so X cls k (d_ f) (KD f))(hr:Room k X.A)(hx:aS (CX1 X.prog X.w) X E2)
  (ho:PE X o (low X.K cls E2 to)) (hb:attributeBase o (fnm m) X.env (eval o X.env)=eval o X.env) (hl:(m_.endLine == pos.line)=true) :
  PE X (.Call (.Attribute o (fnm m) m_) [] [] pos) (low X.K cls E2 λσ M Q E=>to σ M (λx M1=>eE B m x M1 λf=>KD f [x] M1 Q E) E):=by
 refine λa_ s σ H Q2 I i_=>ex9 i_ λg_ M Q E3 rm ds lk h b_=>?_
 refine PySem.W.methodCall_KW (thn (ho a_ s σ H (λv H1=>∃x M1,Den X.K H1 x v/\RelM X.K M1 H1/\TM X.K H H1/\eE B m x M1 λf=>KD f [x] M1 Q E3) I ⟨g_,M,_,E3,rm,ds,lk,h,λv H' d M' a b c e=>⟨d,M',a,b,c,e⟩⟩) λu s1 ⟨v,H1,I1,r1,x,M1,dx,l_,t1,q1⟩=>?_) (eP hb (fZ (by rfl) (by decide)) hl)
 obtain⟨a,C,Kq,fs,f,rfl,rd,c,mt,l,⟨i,hi,Pq⟩,q⟩:=qE hk dx l_ q1;obtain rfl:u=Value.ref a:=r1;obtain⟨fd,ps,sp,kp,bd,F⟩:=hf i m f hi Pq;refine nO I1 rd c mt l ?_;exact PySem.W.callWith_K0 (first:=[.ref a]) I1.kIn mt.kp (gA (us:=[.ref a]) (vs:=[.ref a]) F hr bd hx I1 (.cons rfl .nil) (jO (.one dx) l_ (lk.mono t1) q (b_.mono t1)))
theorem Cj{i f:Nat}{x:Str}{px:Pos}(hg:Gl X x)(hm:X.mg x=some (.ref (B.c_ i)))(I_:(x == ("__debug__" : Str))=false)(ci:ClsI X.K (B.c_ i) (d_ f))(hf:so X cls k (d_ f) (KD f))(hr:Room k X.A)(hx:aS (CX1 X.prog X.w) X E2)
  (ha:PA X (e::es) (dO X.K cls E2 tr)) (hl:(m_.endLine == pos.line)=true) (hn:(e::es).length<30)
  (he:starEach (e::es) X.env=(false,eval e X.env)::starEach es X.env) (JR:(backTo pos (starEach es X.env)).any (·.1)=false) :
  PE X (.Call (.Attribute (.Name x px) "__init__" m_) (e::es) [] pos) (low X.K cls E2 λσ M Q E=>tr σ M (λxs M1=>KD f xs M1 Q E) E):=by
 refine λa_ s σ H Q2 I i_=>ex9 i_ λg_ M Q E3 rm ds lk h b_=>?_
 have Kb:(backTo pos (starEach (e::es) X.env)).any (·.1)=false:=by
  rw[he];show ((false,_)::backTo pos (starEach es X.env)).any (·.1)=false;rw[List.any_cons,JR];rfl
 obtain⟨fd,ps,sp,kp,bd,F⟩:=hf;have hT:PE X (.Name x px) (tC (.ref (B.c_ i))):=fV hg hm rfl I_;refine PySem.W.methodCall_KW (thn (hT a_ s σ H (λv H1=>v=.ref (B.c_ i)/\H1=H) I ⟨rfl,rfl⟩) λu s1 ⟨v,H1,I1,r1,e1,e2⟩=>?_) (eP (by rfl) (fZ Kb hn) hl)
 subst e1 e2;obtain rfl:u=Value.ref (B.c_ i):=r1;refine PySem.W.method_cls I1.kIn ci.ga (PySem.W.cls_value I1.kIn ci.rd ci.at_ rfl ?_);have I2:=I1.tok (s1.toks+1);refine PySem.W.callWith_K (first:=[]) (h₀:=X.base) I.ok.mod.kin kp (thn (ha pos a_ _ σ H1 _ I2 (ef (R2:=λvs H2=>spX X.K cls (KD f) vs H2 Q2 (λc d H'=>TM X.K H2 H'->E2 σ c d H')) rm ds lk h
  λvs H2 xs M2 dl C_ t2 q2=>jO dl C_ (lk.mono t2) q2 (b_.mono t2))) λus s2 ⟨vs,H2,I3,r,q2⟩=>⟨I3.kIn,?_⟩) he JR
 exact gA F hr bd hx I3 r q2
theorem kX(M:Mk X.K C f)(F:FnOk X.prog X.w X.K X.mg X.base (CX1 X.prog X.w) k f fd ps sp)(hr:Room (k+1) X.A)(hb:BdT X.K cls fd ps t3 sp)
  (hx:aS (CX1 X.prog X.w) X E2) (I:Inv X a_ σ H s)(r:Vals vs us)
  (h:∀x dx,H x=none->H dx=none->dx≠x->spX X.K cls t3 (.ref x::vs) (upd (upd H dx (.own x)) x (.ins C dx [])) (λv H2=>v=.j_/\Q (.ref x) H2) (λc d H'=>TM X.K (upd (upd H dx (.own x)) x (.ins C dx [])) H'->E2 σ c d H')) :
  wpAny (model X.prog X.w) X.A (call (.ref C) us) (EP X a_ σ Q) X.xe s:=by
 have hq:=h (s.heap.objs.size+1) s.heap.objs.size (I.h_.fresh (JF _)) (I.h_.fresh (Iq _)) (IM (Nat.lt_succ_self _));have I2:=Inv.made (C:=C) I;have r2:Vals (V.ref (s.heap.objs.size+1)::vs) (Value.ref (s.heap.objs.size+1)::us):=.cons rfl r;obtain⟨ML,MM,hv,bd,hq⟩:=hb _ _ _ _ hq;have r2:Vals ((V.ref (s.heap.objs.size+1)::vs)++ML) ((Value.ref (s.heap.objs.size+1)::us)++MM):=r2.append hv;have hl:(Value.ref (s.heap.objs.size+1)::us++MM).length=ps.length:=by rw[<-r2.length];exact F.len _ _ _ _ hq
 have MO:=bd _ (Value.ref (s.heap.objs.size+1)::us) I2.kIn hl;refine wpAny_call (tF (f:=f) I.kIn M.makes M.init (IH.mp M.fn) (codeAny_mono (F.run _ X.stack _ _ ⟨Value.ref (s.heap.objs.size+1)::us,[]⟩ (Value.ref (s.heap.objs.size+1)::us++MM) _ _ _ (hr.make C us [])
  (I2.env0.make C us []) MO r2 hq) λr s' Ls=>?_))
 match r,Ls with
 |.error e,Ls=>exact hx a_ σ _ _ e s' I2 (uK Ls)
 |.ok (.ret u),Ls=>
  obtain⟨v,H',I3,rv,ev,q3⟩:=I2.after Ls;subst ev;exact⟨rv,⟨V.ref (s.heap.objs.size+1),H',I3,rfl,q3⟩⟩
 |.ok .next,Ls=>exact Ls.elim
 |.ok .brk,Ls=>exact Ls.elim
 |.ok .cont,Ls=>exact Ls.elim
theorem TM.made{K:JJ}(hx:H x=none)(hd:H dx=none)(ne:dx≠x):TM K H (upd (upd H dx (.own x)) x (.ins C dx [])):=
 (TM.new hd).trans (.new (by rw[ae (IB ne)];exact hx))
theorem qO{σ:St}{H:Hp}{xs:List D}{vs:List V}{M:MH}{Q:VK3}{Q2:VK}{E3:XN}{i:Nat}{fz:Bool}{t3:List D->MH->VK3->XN->Prop}(dl:DenL X.K H xs vs)(rm:RelM X.K M H)(lk:LkE X.K cls H E3 (E2 σ))
  (q:∀p,M p=none->t3 (.ref p::xs) (put M p (.ins i (B.c_ i) [] [])) (λv M2=>v=.j_/\if fz=true then ba Q (.ref p) M2 else Q (.ref p) M2) (λj M'=>E3 j (del M' p))) :
  ∀x dx,H x=none->H dx=none->dx≠x->spX X.K cls t3 (.ref x::vs) (upd (upd H dx (.own x)) x (.ins (B.c_ i) dx [])) (λv H2=>v=.j_/\∃M2,RelM X.K M2 H2/\TM X.K H H2/\if fz=true then ba Q (.ref x) M2 else Q (.ref x) M2)
   (λc d H'=>TM X.K (upd (upd H dx (.own x)) x (.ins (B.c_ i) dx [])) H'->E2 σ c d H'):=λx dx hx hd ne=>by
 have t:=TM.made (K:=X.K) (C:=B.c_ i) hx hd ne;have KP:(upd H dx (.own x)) x=none:=by rw[ae (IB ne)];exact hx
 have C_:RelM X.K (put M x (.ins i (B.c_ i) [] [])) (upd (upd H dx (.own x)) x (.ins (B.c_ i) dx [])):=(rm.grow hd).lay KP ⟨dx,[],ag,rfl,rfl⟩;refine⟨.ref x::xs,_,_,_,.cons rfl (dl.mono t),C_,q x (rm.fresh hx),λv H' d M' dv r_ t' ⟨e,q'⟩=>?_,λj M' H' t' r_ q' dy xd _=>lk j (del M' x) H' (t.trans t') (r_.sub λb o z=>(l5 z).2) q' dy xd⟩
 subst e;exact⟨dv,M',r_,t.trans t',q'⟩
theorem nX(b_:Back X.K H Q Q2)
  (h:EP X a_ σ (λv H2=>∃x,v=.ref x/\∃M2,RelM X.K M2 H2/\TM X.K H H2/\if fz=true then ba Q (.ref x) M2 else Q (.ref x) M2) u s'):EP X a_ σ Q2 u s':=by
 obtain⟨v,H2,I2,r,x,rfl,M2,C_,t2,q⟩:=h;cases fz with
 |true=>
  obtain⟨H3,M3,d,I3,t3,LX,dv,q3⟩:=iM I2 C_ fY (show ba Q (.ref x) M2 from q);exact⟨.ref x,H3,I3,r,b_ _ _ _ _ dv LX (t2.trans t3) q3⟩
 |false=>exact⟨.ref x,H2,I2,r,b_ _ _ _ _ fY C_ t2 q⟩
theorem AA{i f:Nat}{fz:Bool}{x:Str}(hg:Gl X x)(hm:X.mg x=some (.ref (B.c_ i)))(I_:(x == ("__debug__" : Str))=false)(mk:Mk X.K (B.c_ i) (d_ f))(hf:so X cls k (d_ f) (KD f))(hr:Room (k+1) X.A)(hx:aS (CX1 X.prog X.w) X E2)
  (ha:PA X (e::es) (dO X.K cls E2 tr)) (he:starEach (e::es) X.env=(false,eval e X.env)::starEach es X.env) (JR:(backTo pos (starEach es X.env)).any (·.1)=false) :
  PE X (.Call (.Name x p) (e::es) [] pos) (low X.K cls E2 λσ M Q E=>tr σ M (λxs M1=>∀p,M1 p=none->KD f (.ref p::xs) (put M1 p (.ins i (B.c_ i) [] [])) (λv M2=>v=.j_/\if fz=true then ba Q (.ref p) M2 else Q (.ref p) M2) (λi M'=>E i (del M' p))) E):=by
 refine λa_ s σ H Q2 I i_=>ex9 i_ λg_ M Q E3 rm ds lk h b_=>?_
 obtain⟨fd,ps,sp,kp,bd,F⟩:=hf;refine wpAny_Call_Name_kw (bV I hg hm ?_ I_);refine PySem.W.callWith_K (h₀:=X.base) I.ok.mod.kin mk.kp (thn (ha pos a_ s σ H (λvs H1=>TM X.K H H1/\∃xs M1,DenL X.K H1 xs vs/\RelM X.K M1 H1/\∀p,M1 p=none->KD f (.ref p::xs) (put M1 p (.ins i (B.c_ i) [] [])) (λv M2=>v=.j_/\if fz=true then ba Q (.ref p) M2 else Q (.ref p) M2) (λi M'=>E3 i (del M' p))) I
  (ef rm ds lk h λvs H1 xs M1 dl l_ t1 q1=>⟨t1,xs,M1,dl,l_,q1⟩)) λus s1 ⟨vs,H1,I1,r,t1,xs,M1,dl,l_,q1⟩=>⟨I1.kIn,?_⟩) he JR
 refine thn (kX (Q:=λv H2=>∃x,v=.ref x/\∃M2,RelM X.K M2 H2/\TM X.K H1 H2/\if fz=true then ba Q (.ref x) M2 else Q (.ref x) M2) mk F hr bd hx I1 r λx dx n1 n2 n3=>?_) λu s2 q2=>nX (fz:=fz) (b_.mono t1) q2
 obtain⟨a1,a2,a3,a4,b1,b2,b3,b4,b5⟩:=qO (fz:=fz) (i:=i) (t3:=KD f) (Q2:=Q2) dl l_ (lk.mono t1) q1 x dx n1 n2 n3;exact⟨a1,a2,a3,a4,b1,b2,b3,λv H' d M' dv r_ t' q'=>by
  obtain⟨e,w⟩:=b4 v H' d M' dv r_ t' q';exact⟨e,x,rfl,w⟩,b5⟩
theorem xU{i f:Nat}{fz:Bool}{x:Str}(hg:Gl X x)(hm:X.mg x=some (.ref (B.c_ i)))(I_:(x == ("__debug__" : Str))=false)(mk:Mk X.K (B.c_ i) (d_ f))(hf:so X cls k (d_ f) (KD f))(hr:Room (k+1) X.A)(hx:aS (CX1 X.prog X.w) X E2) :
  PE X (.Call (.Name x p) [] [] pos) (low X.K cls E2 λσ M Q E=>∀p,M p=none->KD f [.ref p] (put M p (.ins i (B.c_ i) [] [])) (λv M2=>v=.j_/\if fz=true then ba Q (.ref p) M2 else Q (.ref p) M2) (λi M'=>E i (del M' p))):=by
 refine λa_ s σ H Q2 I i_=>ex9 i_ λg_ M Q E3 rm ds lk h b_=>?_
 obtain⟨fd,ps,sp,kp,bd,F⟩:=hf;refine wpAny_Call_Name_kw (bV I hg hm ?_ I_);refine PySem.W.callWith_K0 I.kIn mk.kp ?_;refine thn (kX (us:=[]) (vs:=[]) (Q:=λv H2=>∃x,v=.ref x/\∃M2,RelM X.K M2 H2/\TM X.K H H2/\if fz=true then ba Q (.ref x) M2 else Q (.ref x) M2) mk F hr bd hx I .nil λx dx n1 n2 n3=>?_) λu s2 q2=>nX (fz:=fz) b_ q2
 obtain⟨a1,a2,a3,a4,b1,b2,b3,b4,b5⟩:=qO (fz:=fz) (i:=i) (t3:=KD f) (xs:=[]) (vs:=[]) (Q2:=Q2) .nil rm lk h x dx n1 n2 n3;exact⟨a1,a2,a3,a4,b1,b2,b3,λv H' d M' dv r_ t' q'=>by
  obtain⟨e,w⟩:=b4 v H' d M' dv r_ t' q';exact⟨e,x,rfl,w⟩,b5⟩
theorem zL(hk:∀i,i<B.nk->KOk X.K B d_ i)(ho:PE X o (low X.K cls E2 to))(hv:PE X value (low X.K cls E2 tv))(hs:swapsWith value (some (.Attribute o (fnm f) JP)) pos.line X.env=pure false) :
  PS X (.Assign [.Attribute o (fnm f) JP] value pos) (bJ X.K cls E2 λD E σ M=>tv σ M (λy M1=>to σ M1 (λx M2=>match x with
  |.ref a=>match M2 a with
   |some (.ins i C ns ds)=>(C=B.c_ i/\i<B.nk/\B.fok i f=true/\ns.length<1000)/\D.nx σ (put M2 a (.ins i C (cq f ns) (cj f y ns ds)))
   |_=>False
  |_=>False) (E σ)) (E σ)):=
 (zR ho hv hs).imp λD2 σ H i_=>ex9 i_ λg_ M D3 E3 rm ds lk h er=>bn rm ds (lk.at ds) h λv H1 y M1 dy l_ t1 q1=>bn l_ (ds.mono t1) ((lk.at ds).mono t1) q1 λw H2 x M2 dx C_ t2 q2=>by
  split at q2
  ·rename_i a;split at q2
   ·rename_i i C ns es q;obtain⟨Kq,vs,e,hl,dl⟩:=C_ a _ q;obtain⟨⟨rfl,hi,hf,hz⟩,q2⟩:=q2;obtain⟨ws,h1,h2,h3⟩:=nN (f:=f) (u:=v) dl hl (dy.mono t2);refine⟨a,_,Kq,_,dx,e,(hk i hi).cl,(hk i hi).na f hf,?_,?_⟩
    ·rw[List.length_zip,ID,hl,Nat.min_self,<-hl];exact hz
    ·have tw:TM X.K H2 (upd H2 a (.ins (B.c_ i) Kq (dA (fnm f) v ((ns.map fnm).zip vs)))):=.put e (λ_ z=>by cases z) λ_ _ z=>by cases z
     refine er.nx _ _ g_ _ (C_.write (u:=.ins i (B.c_ i) (cq f ns) (cj f y ns es)) e (λ_ z=>by cases z) (λ_ _ z=>by cases z) ⟨Kq,ws,by rw[ag,h1],h2,h3.mono tw⟩) (((ds.mono t1).mono t2).mono tw) ((t1.trans t2).trans tw) q2
   ·exact q2.elim
  ·exact q2.elim
theorem Cn(hg:Gl X x)(hm:X.mg x=some u)(r:RelV v u)(I_:(x == ("__debug__" : Str))=false)(hd:∀H,Den X.K H d v):PE X (.Name x pos) (low X.K cls E2 λ_ M Q _=>Q d M):=mV (fV hg hm r I_) hd
end
def VS(X:Cx)(r:D->Option Int->Option Int->MH->VK3->Prop):Prop:=
 ∀(a_:List (Addr×Obj)) (s:Shared)(σ:St)(H:Hp)(x:D)(v:V)(v2 vl vu:Value)(lo hi:Option Int)(sl:Addr)(M:MH)(Q:VK3)(Q2:VK),Inv X a_ σ H s->RelV v v2->Den X.K H x v->RelM X.K M H->s.heap.IsSliceOf sl vl vu .none->IsPart vl lo->IsPart vu hi->r x lo hi M Q->Back X.K H Q Q2->
  ∃T id,typeLookup (.type T) "__getitem__"=pure (some (.builtin id))/\s.TypeIs v2 T/\wpAny (model X.prog X.w) X.A (getItem v2 (.ref sl)) (EP X a_ σ Q2) X.xe s
section
variable {X:Cx}{lo:Option Expr}
theorem VS.op(h:VS X r):SlR X (λv lo hi H Q2=>∃x M Q,Den X.K H x v/\RelM X.K M H/\r x lo hi M Q/\Back X.K H Q Q2):=by
 intro a_ s σ H v v2 vl vu lo hi sl Q2 I rv hs pl pu ⟨x,M,Q,dx,rm,q,b_⟩;exact h a_ s σ H x v v2 vl vu lo hi sl M Q Q2 I rv dx rm hs pl pu q b_
theorem nz{K:JJ}{lo:Option Int}(dl:DenL K H ds vs):DenL K H (dF ds lo hi) (pX vs lo hi):=by
 unfold dF pX;rw[dl.length];exact (dl.drop _).take _
theorem BJ(fz:Bool):VS X (mm fz):=by
 intro a_ s σ H x v v2 vl vu lo hi sl M Q Q2 I rv dx rm hs pl pu q b_;unfold mm at q;split at q
 ·rename_i ds;obtain⟨p,vs,rfl,sq,dl⟩:=dx;obtain⟨hw,q⟩:=q;refine AV a_ s σ H _ v2 vl vu lo hi sl Q2 I rv hs pl pu ⟨p,vs,rfl,sq,λz=>?_,λp' hp=>?_⟩
  ·unfold whole at hw;rw[dl.length,z.1,z.2]at hw;simp at hw
  ·exact b_ _ _ (.tup (dF ds lo hi)) _ ⟨p',_,rfl,.of ag,(nz dl).mono (.new hp)⟩ (rm.grow hp) (.new hp) q
 ·split at q
  ·rename_i ds e;obtain⟨p,vs,rfl,hq,dl⟩:=bq rm e dx;cases rv;obtain⟨its,r,ht,hz⟩:=I.list hq.sq;have t_:=r.length;refine⟨"list",_,slot_list_getitem.lookup,ht.isList.typeIs,?_⟩;refine wpAny_getItem_list_slice ht.isList hs pl pu .none (by simp) ?_ (by rw[IF]<;>omega)
   rw[kl,<-t_];have I2:=I.laid (t':=s.toks) (o:=.lst (pX vs lo hi)) (h':=s.heap.push {cls:=.type "list",data:=.seq ((its.drop (HT.sIx vs.length 0 lo)).take (HT.sIx vs.length vs.length hi-HT.sIx vs.length 0 lo)).toArray 0}) (λb ob q=>Il _ q) (Iq _)
    ⟨IR (iw vs lo hi) hz,_,0,(r.drop (HT.sIx vs.length 0 lo)).take (HT.sIx vs.length vs.length hi-HT.sIx vs.length 0 lo),Iz _ rfl⟩
   exact cA I2 (I.h_.fresh (Iq _)) (nz dl) rm (.refl _) q b_
  ·exact q.elim
theorem FM(ha:PE X a (low X.K cls E2 ta))(hl:PO X lo (rA X.K cls E2 tl))(hh:PO X hi (rA X.K cls E2 th)) :
  PE X (.Subscript a (.Slice lo hi none p2) pos) (low X.K cls E2 λσ M Q E=>ta σ M (λx M1=>tl σ M1 (λl M2=>th σ M2 (λh M3=>mm fz x l h M3 Q) E) E) E):=
 (vm (BJ fz).op ha hl hh).imp λσ H Q2 i_=>ex9 i_ λg_ M Q E3 rm ds lk h b_=>bn rm ds lk h λv H1 x M1 dx l_ t1 q1=>yb l_ (ds.mono t1) (lk.mono t1) q1 λl H2 M2 C_ t2 q2=>yb C_ ((ds.mono t1).mono t2) ((lk.mono t1).mono t2) q2 λh H3 M3 LX t3 q3=>
  ⟨x,M3,Q,(dx.mono t2).mono t3,LX,q3,b_.mono ((t1.trans t2).trans t3)⟩
theorem qY{K:JJ}(dl:DenL K H ds vs):∀n:Nat,DenL K H (List.replicate n ds).flatten (List.replicate n vs).flatten
 |0=>rfl
 |n+1=>by
  rw[List.replicate_succ,List.replicate_succ,List.flatten_cons,List.flatten_cons];exact dl.append (qY dl n)
theorem zj(fz:Bool):VO X (binaryOp .Mult) (kP fz):=by
 intro a_ s σ H x y v u v2 u2 M Q Q2 I rv ru dx dy rm q b_;unfold kP at q;split at q
 ·rename_i ds k e;obtain⟨⟨h1,h2,hz⟩,q⟩:=q;obtain⟨p,vs,rfl,hq,dl⟩:=bq rm e dx;cases (show u=.int k from dy);obtain⟨t,rfl⟩:=ru;cases rv;obtain⟨z,its,n,r,hl,e⟩:=I.rdL hq;have t_:its.toArray.size*k.toNat<=sizeLine:=by rw[IF,<-hl,<-dl.length];exact hz
  have Pr:¬ its.toArray.size*k.toNat > (2 ^ 63-1) / 8:=by
   have:(sizeLine:Nat)<=(2 ^ 63-1) / 8:=by decide
   omega
  have Pt:¬ (!Builtin.List.listFitsIndex k)=true:=by
   rw[fitsIndex_both h1 h2];exact IP
  have NS:¬ Builtin.List.listTooLong (its.toArray.size*k.toNat)=true:=by
   rw[sX t_];exact IP
  have LY:List.foldl (λx1 x2=>x1++x2) #[] (List.replicate (if its.toArray.isEmpty=true then 0 else k.toNat) its.toArray)=(List.replicate k.toNat its).flatten.toArray:=by
   have f0:∀m:Nat,List.foldl (λx1 x2=>x1++x2) #[] (List.replicate m its.toArray)=(List.replicate m its).flatten.toArray:=λm=>by
    have:=k8 its m [];rw[List.nil_append]at this;exact this
   rw[f0];cases its with
   |nil=>simp
   |cons a r'=>rw[Im (by simp)]
  refine wpAny_binaryOp_repeat_ref (T:="list") (U:="int") (by decide) ⟨_,e,rfl⟩ (λs'=>typeIs_int s' k t) noFill_list_mul PySem.F.fills_int_mul PySem.F.slot_int_rmul repeat_list PySem.F.slot_int_index.lookup
   (call_meets PySem.F.slot_int_rmul (typeIs_int s k t) PySem.F.entry_int_rmul (PySem.F.args_int_rmul_2 _ _) (int___rmul___int_list k t p its.toArray n)
    ⟨e,rfl,⟨_,e,rfl⟩,call_meets PySem.F.slot_list_mul ⟨_,e,rfl⟩ PySem.F.entry_list_mul (PySem.F.args_list_mul_2 _ _) (AutoListH.list___mul___list_int_3 p its.toArray n k t Pt Pr NS) ⟨e,?_⟩⟩)
  rw[LY];exact cA (I.lnew (t':=s.toks) (r.rep k.toNat) (by rw[vX,Nat.mul_comm,<-dl.length];exact hz)) I.fresh (qY dl _) rm (.refl _) q b_
 ·exact q.elim
theorem Cd(ha:PE X a (low X.K cls E2 ta))(hb:PE X b (low X.K cls E2 tb)) :
  PE X (.BinOp a .Mult b pos) (low X.K cls E2 λσ M Q E=>ta σ M (λx M1=>tb σ M1 (λy M2=>kP fz x y M2 Q) E) E):=Ba (zj fz) ha hb
theorem kT{K:JJ}:∀{ds:List D}{bs:List Bool}{vs:List V}{us:List Value},eJ ds=some bs->DenL K H ds vs->Vals vs us->LSm.BoolsAre us bs
 |[],bs,vs,us,e,dl,r=>by
  cases (show vs=[] from dl);cases r;cases (show some []=some bs from e);exact .nil
 |d::ds,bs,_,us,e,dl,r=>by
  obtain⟨v,vs,rfl,dv,dl⟩:=dl;cases r with
  |cons ru rt=>
   cases d with
   |bl b=>
    simp only[eJ]at e;split at e
    ·rename_i ns q;cases e;cases (show v=.bl b from dv);cases ru;exact .cons b (kT q dl rt)
    ·cases e
   |_=>cases e
theorem ym(al:Bool)(hc:X.calm=true):VC X (.builtin (if al=true then "all" else "any")) (rBi (if al=true then .all else .any)):=by
 intro a_ s σ H xs vs us M Q Q2 I r dl rm q b_;have hh:X.A.handled=none:=I.ok.hd hc;have key:∃x ds bs,xs=[x]/\ai M x=some ds/\eJ ds=some bs/\Q (.bl (if al=true then bs.all id else bs.any id)) M:=by
  cases al with
  |true=>
   simp only[if_true,rBi]at q;split at q
   ·split at q
    ·split at q
     ·exact⟨_,_,_,rfl,by assumption,by assumption,q⟩
     ·exact q.elim
    ·exact q.elim
   ·exact q.elim
  |false=>
   simp only[Jf,if_false,rBi]at q;split at q
   ·split at q
    ·split at q
     ·exact⟨_,_,_,rfl,by assumption,by assumption,q⟩
     ·exact q.elim
    ·exact q.elim
   ·exact q.elim
 obtain⟨x,ds,bs,rfl,e1,e2,q⟩:=key;obtain⟨v,rfl,dv⟩:=kH dl;obtain⟨u,rfl,ru⟩:=le r;obtain⟨p,ws,rfl,hq,Ki⟩:=bq rm e1 dv;cases ru;obtain⟨its,r2,MK,hz⟩:=I.list hq.sq;have hb:=kT e2 Ki r2;have hl:=MK.isList;have H_:p<s.heap.objs.size:=by obtain⟨_,e,_⟩:=hl;exact Ir e
 have fin:∀h' tk,(∀b o,s.heap.get? b=some o->h'.get? b=some o)->EP X a_ σ Q2 (.bool (if al=true then bs.all id else bs.any id)) {s with heap:=h',toks:=tk}:=λh' tk hk=>
  ⟨.bl _,H,I.kept (t':=tk) hk,rfl,b_ _ _ _ _ bC rm (.refl _) q⟩
 cases al with
 |true=>
  refine call_all_walk (wpAny_pyIter_list hl ?_);refine⟨s.heap.objs.size,[s.heap.objs.size,p],[s.heap.objs.size],its.toArray.size,_,_,λi=>(bs[i]?).getD true,rfl,Walks.list (A:=X.A.in1) hh _ p (IM H_) its.toArray,
   ⟨⟨_,Iz _ rfl,rfl,rfl⟩,hl.push _⟩,λi v s' Q' E' hP hQ=>?_,λh' tk hk=>?_⟩
  ·obtain⟨b,e,rfl⟩:=hb.get i v (by simpa using hP)
   simp only[e,Option.getD_some]at hQ;exact Jt hQ
  ·have e:((List.range its.toArray.size).all λi=>(bs[i]?).getD true)=bs.all id:=by
    rw[IF,hb.length];exact LSm.range_all bs
   rw[e];exact fin h' tk (LSm.kept_iter hk)
 |false=>
  refine call_any_walk (wpAny_pyIter_list hl ?_);refine⟨s.heap.objs.size,[s.heap.objs.size,p],[s.heap.objs.size],its.toArray.size,_,_,λi=>(bs[i]?).getD false,rfl,Walks.list (A:=X.A.in1) hh _ p (IM H_) its.toArray,
   ⟨⟨_,Iz _ rfl,rfl,rfl⟩,hl.push _⟩,λi v s' Q' E' hP hQ=>?_,λh' tk hk=>?_⟩
  ·obtain⟨b,e,rfl⟩:=hb.get i v (by simpa using hP)
   simp only[e,Option.getD_some]at hQ;exact Jt hQ
  ·have e:((List.range its.toArray.size).any λi=>(bs[i]?).getD false)=bs.any id:=by
    rw[IF,hb.length];exact LSm.range_any bs
   rw[e];exact fin h' tk (LSm.kept_iter hk)
end
def TyV(X:Cx)(T:String)(x:V)(H:Hp):Prop:=∀(a_:List (Addr×Obj)) (σ:St)(s:Shared)(v:Value),Inv X a_ σ H s->RelV x v->s.TypeIs v T/\∀a,v=.ref a->∃ob,s.heap.get? a=some ob/\ob.dict=none
section
variable {X:Cx}{o:Expr}{m_ n_ pos:Pos}{id:String}
theorem AB(pa:PlainAttrs T)(slot:Slot T name id)(LO:typeOf (.builtin id)=pure (.type "method_descriptor"))(hm:MtR X id r)(ho:PE X o t2)(ha:PA X (e::es) ta)
  (D_:attributeBase o name X.env (eval o X.env)=eval o X.env)
  (Mx:((backTo n_ (starEach (e::es) X.env)).all (λx=>!x.1)&&(backToKw n_ (keywordEach [] X.env)).all (λx=>x.1.isSome)
   &&decide ((e::es).length+([]:List Keyword).length+(if ([]:List Keyword).isEmpty then 0 else 1)<30))=true)
  (E_:(m_.endLine == n_.line)=true) (hs:starEach (e::es) X.env=(false,eval e X.env)::starEach es X.env) (J6:(backTo n_ (starEach es X.env)).any (·.1)=false) :
  PE X (.Call (.Attribute o name m_) (e::es) [] n_) (λσ H Q=>t2 σ H λx H1=>TyV X T x H1/\ta σ H1 λxs H2=>r x xs H2 Q):=by
 intro a_ s σ H Q I h;refine wpAny_Call_method_late D_ Mx E_ rfl (thn (ho a_ s σ H _ I h) λv s1 z_=>?_)
 obtain⟨x,H1,I1,r1,ty,q1⟩:=z_;obtain⟨h1,h2⟩:=ty a_ σ s1 v I1 r1;refine⟨T,id,pa,slot,LO,h1,h2,?_⟩;have hA:=ha n_ a_ s1 σ H1 _ I1 q1;rw[hs]at hA ⊢;refine Calls.callWith_builtin (by show (false||(backTo n_ (starEach es X.env)).any (·.1))=false;rw[J6]<;>rfl) (Calls.evalArgs_plain ?_)
 exact thn hA λus s2 ⟨vs,H2,I2,r2,q2⟩=>hm a_ s2 σ H2 x vs v us Q I2 r1 r2 q2
theorem xP(pa:PlainAttrs T)(slot:Slot T name id)(LO:typeOf (.builtin id)=pure (.type "method_descriptor"))(hm:MtR X id r)(ho:PE X o t2)
  (D_:attributeBase o name X.env (eval o X.env)=eval o X.env) (E_:(m_.endLine == n_.line)=true):PE X (.Call (.Attribute o name m_) [] [] n_) (λσ H Q=>t2 σ H λx H1=>TyV X T x H1/\r x [] H1 Q):=by
 intro a_ s σ H Q I h;refine wpAny_Call_method0_late D_ E_ (thn (ho a_ s σ H _ I h) λv s1 z_=>?_)
 obtain⟨x,H1,I1,r1,ty,q1⟩:=z_;obtain⟨h1,h2⟩:=ty a_ σ s1 v I1 r1;exact⟨T,id,pa,slot,LO,h1,h2,Calls.callWith_builtin rfl (PySem.evalArgs_none (hm a_ s1 σ H1 x [] v [] Q I1 r1 .nil q1))⟩
def VM(X:Cx)(id:String)(r:D->List D->MH->VK3->Prop):Prop:=
 ∀(a_:List (Addr×Obj)) (s:Shared)(σ:St)(H:Hp)(x:D)(xs:List D)(v:V)(vs:List V)(v2:Value)(us:List Value)(M:MH)(Q:VK3)(Q2:VK),Inv X a_ σ H s->RelV v v2->Vals vs us->Den X.K H x v->DenL X.K H xs vs->RelM X.K M H->r x xs M Q->Back X.K H Q Q2->
  wpAny (model X.prog X.w) X.A (call (.builtin id) (v2::us)) (EP X a_ σ Q2) X.xe s
theorem VM.op(h:VM X id r):MtR X id (λv vs H Q2=>∃x xs M Q,Den X.K H x v/\DenL X.K H xs vs/\RelM X.K M H/\r x xs M Q/\Back X.K H Q Q2):=by
 intro a_ s σ H v vs v2 us Q2 I rv rs ⟨x,xs,M,Q,dx,dl,rm,q,b_⟩;exact h a_ s σ H x xs v vs v2 us M Q Q2 I rv rs dx dl rm q b_
def TyD(X:Cx)(T:String)(tb:D->MH->Bool):Prop:=∀(x:D)(v:V)(M:MH)(H:Hp),Den X.K H x v->RelM X.K M H->tb x M=true->TyV X T v H
theorem wV(pa:PlainAttrs T)(slot:Slot T name id)(LO:typeOf (.builtin id)=pure (.type "method_descriptor"))(hm:VM X id r)(ht:TyD X T tb)(ho:PE X o (low X.K cls E2 to))(ha:PA X (e::es) (dO X.K cls E2 tr))
  (D_:attributeBase o name X.env (eval o X.env)=eval o X.env) (hn:(e::es).length<30)
  (E_:(m_.endLine == n_.line)=true) (hs:starEach (e::es) X.env=(false,eval e X.env)::starEach es X.env) (J6:(backTo n_ (starEach es X.env)).any (·.1)=false) :
  PE X (.Call (.Attribute o name m_) (e::es) [] n_) (low X.K cls E2 λσ M Q E=>to σ M (λx M1=>tb x M1=true/\tr σ M1 (λxs M2=>r x xs M2 Q) E) E):=by
 have Kb:(backTo n_ (starEach (e::es) X.env)).any (·.1)=false:=by
  rw[hs];show ((false,_)::backTo n_ (starEach es X.env)).any (·.1)=false;rw[List.any_cons,J6];rfl
 refine (AB pa slot LO hm.op ho ha D_ (fZ Kb hn) E_ hs J6).imp λσ H Q2 i_=>ex9 i_ λg_ M Q E3 rm ds lk h b_=>bn rm ds lk h λv H1 x M1 dx l_ t1 q1=>?_
 exact⟨ht x v M1 H1 dx l_ q1.1,ef l_ (ds.mono t1) (lk.mono t1) q1.2 λvs H2 xs M2 dl C_ t2 q2=>⟨x,xs,M2,Q,dx.mono t2,dl,C_,q2,b_.mono (t1.trans t2)⟩⟩
theorem qC(pa:PlainAttrs T)(slot:Slot T name id)(LO:typeOf (.builtin id)=pure (.type "method_descriptor"))(hm:VM X id r)(ht:TyD X T tb)(ho:PE X o (low X.K cls E2 to))
  (D_:attributeBase o name X.env (eval o X.env)=eval o X.env) (E_:(m_.endLine == n_.line)=true) :
  PE X (.Call (.Attribute o name m_) [] [] n_) (low X.K cls E2 λσ M Q E=>to σ M (λx M1=>tb x M1=true/\r x [] M1 Q) E):=
 (xP pa slot LO hm.op ho D_ E_).imp λσ H Q2 i_=>ex9 i_ λg_ M Q E3 rm ds lk h b_=>bn rm ds lk h λv H1 x M1 dx l_ t1 q1=>⟨ht x v M1 H1 dx l_ q1.1,x,[],M1,Q,dx,.nil,l_,q1.2,b_.mono t1⟩
theorem v9(hb:∀x M,tb x M=true->(ai M x).isSome=true):TyD X "list" tb:=λx v M H dx rm h a_ σ s v2 I rv=>by
 obtain⟨ds,e⟩:=JH.mp (hb x M h);obtain⟨p,vs,rfl,hq,dl⟩:=bq rm e dx;cases rv;obtain⟨its,_,pl,_⟩:=I.list hq.sq;refine⟨pl.isList.typeIs,λa e=>?_⟩
 cases e;obtain⟨o,n,e,c,hd,_⟩:=pl;exact⟨o,e,hd⟩
theorem qa:∀{ds:List D}{k j:Nat},pA y ds k=some j->k<=j/\(∃d,ds[j-k]?=some d/\eqD d y=true)/\∀m d,m<j-k->ds[m]?=some d->eqD d y=false
 |[],_,_,e=>by cases e
 |d::r,k,j,e=>by
  simp only[pA]at e;by_cases h:eqD d y=true
  ·rw[Iu h]at e;cases e;exact⟨Iq _,⟨d,by simp,h⟩,λm d' hm _=>absurd hm (by omega)⟩
  ·rw[Im h]at e;obtain⟨h1,⟨d1,h2,h3⟩,h4⟩:=qa e;refine⟨by omega,⟨d1,?_,h3⟩,λm d' hm he=>?_⟩
   ·have:j-k=(j-(k+1))+1:=by omega
    rw[this,List.getElem?_cons_succ];exact h2
   ·cases m with
    |zero=>simp at he;subst he;simpa using h
    |succ m=>exact h4 m d' (by omega) (by simpa using he)
theorem iP:TyD X "dict" (tyB .get):=λx v M H dx rm h a_ σ s v2 I rv=>by
 simp only[tyB,Bool.or_eq_true]at h;rcases h with h|h
 ·obtain⟨⟨ks,ds⟩,e⟩:=JH.mp h;obtain⟨p,vs,rfl,rd,_⟩:=m6 e rm dx;cases rv;obtain⟨_,_,ws,_,dd⟩:=ij I.h_ rd;refine⟨dd.typeIs,λb q=>?_⟩
  cases q;obtain⟨ob,_,_,h1,h2,_⟩:=dd;exact⟨ob,h1,h2.2.1⟩
 ·obtain⟨⟨ks,ds⟩,e⟩:=JH.mp h;obtain⟨p,vs,xs,rfl,rd,z,_⟩:=m8 e rm dx;cases rv;have dd:=bF I rd z;refine⟨dd.typeIs,λb q=>?_⟩
  cases q;obtain⟨ob,_,_,h1,h2,_⟩:=dd;exact⟨ob,h1,h2.2.1⟩
theorem OptDen.getD{K:JJ}{o:Option D}{ov:Option V}(h:OptDen K H o ov)(dv:Den K H d v):Den K H (o.getD d) (ov.getD v):=by
 cases o with
 |none=>cases ov with
  |none=>exact dv
  |some _=>exact h.elim
 |some d'=>cases ov with
  |none=>exact h.elim
  |some v'=>exact h
theorem kA{K:JJ}(h:DenL K H (d::ds) vs):∃v ws,vs=v::ws/\Den K H d v/\DenL K H ds ws:=by
 obtain⟨v,r,e,dv,dl⟩:=h;exact⟨v,r,e,dv,dl⟩
theorem vk(hu:X.A.units+64<cLine):VM X "dict.get" (rBm .get):=by
 intro a_ s σ H x xs v vs v2 us M Q Q2 I rv rs dx dl rm q b_;simp only[rBm]at q;split at q
 ·rename_i y;split at q
  ·rename_i o e;obtain⟨yv,rfl,dy⟩:=kH dl;obtain⟨u,rfl,ru⟩:=rs.one;obtain⟨a,ov,rfl,g,od⟩:=gy e rm dx dy;cases rv;exact Bh (by omega) I g ru λw' s' I' JX=>⟨_,H,I',JX,b_ _ _ _ _ (od.getD (show Den X.K H .j_ .j_ from rfl)) rm (.refl _) q⟩
  ·exact q.elim
 ·rename_i y z;split at q
  ·rename_i o e;obtain⟨yv,wv,rfl,dy,dw⟩:=kA dl;obtain⟨zv,rfl,dz⟩:=kH dw;obtain⟨u,w,rfl,ru,JX⟩:=rs.two;obtain⟨a,ov,rfl,g,od⟩:=gy e rm dx dy;cases rv;exact Bv (by omega) I g ru JX λw' s' I' JX=>⟨_,H,I',JX,b_ _ _ _ _ (od.getD dz) rm (.refl _) q⟩
  ·exact q.elim
 ·exact q.elim
theorem yC(hu:X.A.units+64<cLine):AS X (λo i v H R2=>∃x k y M R,Den X.K H x o/\Den X.K H k i/\Den X.K H y v/\RelM X.K M H/\bp x k y M R/\∀H' M',RelM X.K M' H'->TM X.K H H'->R M'->R2 H'):=by
 intro a_ s σ H o i v ov iv u R2 I ro ri rv ⟨x,k,y,M,R,dx,dk,dy,rm,q,b_⟩;unfold bp at q;split at q
 ·rename_i a;cases (show o=.ref a from dx);split at q
  ·rename_i ds n e;split at q
   ·rename_i j ej;cases (show i=.int n from dk);obtain⟨vs,e1,dl⟩:=rm a _ e;have tw:TM X.K H (upd H a (.lst (vs.set j v))):=.put e1 (λ_ z=>by cases z) λ_ _ z=>by cases z
    refine uG a_ s σ H _ _ v ov iv u R2 I ro ri rv ⟨a,vs,n,j,rfl,rfl,e1,by rw[<-dl.length];exact ej,?_⟩
    exact b_ _ _ (rm.write (u:=.lst (ds.set j y)) e1 (λ_ z=>by cases z) (λ_ _ z=>by cases z) ⟨_,ag,(dl.set dy j).mono tw⟩) tw q
   ·exact q.elim
  ·rename_i ks ds e;split at q
   ·rename_i k' ek;cases ro;exact z8 (by omega) I rm e (mY ek dk) ri dy rv q.1 q.2 b_
   ·exact q.elim
  ·rename_i ks ds e;split at q
   ·rename_i k' ek;cases ro;obtain⟨b,rfl,sq⟩:=gE ek dk;cases ri;exact yN (by omega) I rm e sq dy rv q.1 q.2 b_
   ·exact q.elim
  ·exact q.elim
 ·exact q.elim
theorem wg(hu:X.A.units+64<cLine)(ho:PE X o (low X.K cls E2 to))(hi:PE X ixe (low X.K cls E2 ti))(hv:PE X value (low X.K cls E2 tv))
  (ha:∀v,assign (.Subscript o ixe JP) X.env v=(do
   let ov<-holding [v] (eval o X.env)
   let iv<-holding [v,ov] (eval ixe X.env)
   standAt JP
   holding [v,ov,iv] (setItem ov iv v)
   release [v,ov,iv] [])) (hs:swapsWithSole [.Subscript o ixe JP] value pos.line X.env=pure false) (hw:swappedStores [.Subscript o ixe JP] value X.env=pure none) (h1:(assignEach [.Subscript o ixe JP] X.env).map (·.2)=[assign (.Subscript o ixe JP) X.env]) :
  PS X (.Assign [.Subscript o ixe JP] value pos) (bJ X.K cls E2 λD E σ M=>tv σ M (λy M1=>to σ M1 (λx M2=>ti σ M2 (λk M3=>bp x k y M3 λM4=>D.nx σ M4) (E σ)) (E σ)) (E σ)):=
 (tT hv (AJ ho hi (yC hu) ha) hs hw h1).imp λD2 σ H i_=>ex9 i_ λg_ M D3 E3 rm ds lk h er=>bn rm ds (lk.at ds) h λv H1 y M1 dy l_ t1 q1=>
  bn l_ (ds.mono t1) ((lk.at ds).mono t1) q1 λw H2 x M2 dx C_ t2 q2=>bn C_ ((ds.mono t1).mono t2) (((lk.at ds).mono t1).mono t2) q2 λz H3 k M3 dk LX t3 q3=>
   ⟨x,k,y,M3,_,dx.mono t3,dk,(dy.mono t2).mono t3,LX,q3,λH' M' r_ t' q'=>er.nx _ _ g_ M' r_ ((((ds.mono t1).mono t2).mono t3).mono t') (((t1.trans t2).trans t3).trans t') q'⟩
end
end L2
namespace L2
open PySem PySem.Spec PyProof.Rows PySem.W
theorem iN(f:α->β):∀(l:List α)(i:Nat),(l.eraseIdx i).map f=(l.map f).eraseIdx i
 |[],_=>rfl
 |_::_,0=>rfl
 |x::l,i+1=>by simp[iN f l i]
section
variable {A:Around}{s:Shared} [DecidableEq κ] {knd:HeapKind prog w κ}{xs:List (κ×Addr×Value)}{p:Addr×Value}
theorem lO(hu:knd.room A)(K6:knd.is s.heap k a)(hm:s.heap.DictOfH knd d xs)(hj:xs[j]?=some (k,p))(hsz:xs.length<=sizeLine)
  (hQ:∀h',h'.DictOfH knd d (xs.eraseIdx j)->Heap.SameBut d s.heap h'->Q (some (entryOfKey knd (k,p))) {s with heap:=h',toks:=s.toks+knd.draws k}) :
  wpAny (model prog w) A (Builtin.Dict.takeOut d (.ref a)) Q E s:=by
 obtain⟨o,es,ep,ho,hc,hd,he,Pu,hn⟩:=hm;unfold Builtin.Dict.takeOut
 try with_reducible refine Jc ?_
 refine Fr (knd.pyHash hu K6 ?_);refine Fr (wpAny_dictFind_heap (s:={s with toks:=s.toks+knd.draws k}) hu K6 ho hd he Pu hn ?_ ?_)
 ·intro LC;exact absurd hj (LC j p)
 ·intro i q hi;obtain rfl:i=j:=idxH_unique hn hi hj;refine Fr (Jy (s:={s with toks:=s.toks+knd.draws k}) ho hd ?_)
  rw[entry_at he i,hj];refine Fr (wpAny_updateDictKeys (hz:=by have e:=size_of_entries he;omega) (s:={s with toks:=s.toks+knd.draws k}) ho hd (Ik (hQ _ ⟨_,_,ep+1,Jb _ ho (Obj.isFreed_of_dict (Obj.data_mapDictKeys hd _)),
   hc.mapDictKeys _,Obj.data_mapDictKeys hd _,?_,?_,?_⟩ (Heap.SameBut.update ..))))
  ·have e1:(es.eraseIdxIfInBounds i).toList=es.toList.eraseIdx i:=by simp
   rw[e1,he,iN]
  ·intro x hx;exact knd.keeps (Pu x (List.mem_of_mem_eraseIdx hx)) ho hd (Heap.SameBut.update ..)
  ·rw[iN];exact hn.sublist (List.eraseIdx_sublist _ _)
theorem um:MeetsIn prog w (Builtin.«dict.pop» ⟨[.ref d,.ref a],[]⟩) (λA R s=>∃(k:κ) (xs:List (κ×Addr×Value)) (j:Nat) (p:Addr×Value),knd.room A.in1/\knd.is s.heap k a/\s.heap.DictOfH knd d xs/\xs.length<=sizeLine/\xs[j]?=some (k,p)/\
  ∀h',h'.DictOfH knd d (xs.eraseIdx j)->Heap.SameBut d s.heap h'->R (.ok (.ret p.2)) {s with heap:=h',toks:=s.toks+knd.draws k}):=
 .of_wp λA R s ⟨k,xs,j,p,hu,K6,hm,hsz,hj,h⟩=>by
  obtain⟨o,es,ep,ho,hc,hd,he,Pu,hn⟩:=id hm;unfold Builtin.«dict.pop»;refine Fr ?_;unfold Builtin.Dict.keyAndDefault;refine Fr (wpAny_notOrdered_dict hm.typeIs ?_);show wpAny _ _ (pure (d,Value.ref a,none)) _ _ s;refine Ik ?_;have kp:(keyPart (Value.ref a)).isSome=false:=rfl;simp only[kp,Jf,if_false];have ne:es.isEmpty=false:=by
   have:=size_of_entries he;have hl:j<xs.length:=(IC.mp hj).1;rw[Array.isEmpty_eq_false_iff];intro z;rw[z]at this;simp at this;omega
  refine Fr (Jy ho hd (Fr (Ik ?_)));simp only[ne,Jf,if_false];refine Fr (lO hu K6 hm hj hsz λh' KS MB=>?_)
  simp only[Option.isNone_some,Jf,if_false];exact Fr (wpAny_letGo (Ik ⟨p.2,rfl,h h' KS MB⟩))
end
theorem qr{K:JJ}:∀{xs:List (List Int×Addr×Value)}{ds:List D}{vs:List V},DenL K H ds vs->Vals vs (xs.map (·.2.2))->getD (xs.map (·.1)) ds k=some y->
  ∃j p v,xs[j]?=some (k,p)/\Den K H y v/\RelV v p.2/\(xs.eraseIdx j).map (·.1)=aJ (xs.map (·.1)) k/\DenL K H (aV (xs.map (·.1)) ds k) (vs.eraseIdx j)/\Vals (vs.eraseIdx j) ((xs.eraseIdx j).map (·.2.2))
 |[],ds,vs,dl,rl,h=>by simp[getD]at h
 |x::xs,[],vs,dl,rl,h=>by simp[getD]at h
 |x::xs,d::ds,_,dl,rl,h=>by
  obtain⟨v,vs,rfl,dv,dl⟩:=dl;rw[Ip]at rl;cases rl with
  |cons h1 h2=>
   by_cases z:x.1=k
   ·simp only[Ip,getD,Iu z]at h;cases h;refine⟨0,x.2,v,by simp[<-z],dv,h1,?_,?_,?_⟩
    ·simp[aJ,z]
    ·simp only[Ip,aV,Iu z];exact dl
    ·exact h2
   ·simp only[Ip,getD,Im z]at h;obtain⟨j,p,v',a1,a2,a3,a4,a5,a6⟩:=qr dl h2 h;refine⟨j+1,p,v',by simpa using a1,a2,a3,?_,?_,?_⟩
    ·simp[aJ,z,a4]
    ·simp only[Ip,aV,Im z,List.eraseIdx_cons_succ];exact⟨v,_,rfl,dv,a5⟩
    ·exact .cons h1 a6
section
variable {X:Cx}
theorem qM(hu:X.A.units+64<cLine):VM X "dict.pop" (rBm .KU):=by
 intro a_ s σ H x xs v vs v2 us M Q Q2 I rv rs dx dl rm q b_;simp only[rBm]at q;split at q
 ·rename_i a y;split at q
  ·rename_i ks ds k e ek;split at q
   ·rename_i d0 hg;obtain⟨yv,rfl,dy⟩:=kH dl;obtain⟨u,rfl,ru⟩:=rs.one;cases (show v=.ref a from dx);cases rv;obtain⟨b,rfl,sq⟩:=gE ek dy;cases (show u=Value.ref b from ru);obtain⟨vs,xs,e0,z,RM⟩:=rm a _ e;have dd:=bF I (.inl e0) z;rw[<-z.kx]at hg;obtain⟨j,p,v0,a1,a2,a3,a4,a5,a6⟩:=qr RM z.vx hg;have hsz:xs.length<=sizeLine:=by
     have:=congrArg List.length z.kx;rw[ID]at this;rw[this];exact z.sz
    refine call_meetsIn PySem.F.slot_dict_pop dd.typeIs PySem.F.entry_dict_pop (PySem.F.args_dict_pop_2 _ _) (um (knd:=tupleKind (intKind X.prog X.w))) ⟨k,xs,j,p,Ji (by omega),dB I sq,dd,hsz,a1,λh' LA hs=>?_⟩
    obtain⟨ob,es,ep,hq,hx,hd,he,_,_⟩:=LA;have tw:TM X.K H (upd H a (.ext (aY a (xs.eraseIdx j)))):=.put e0 (λ_ z=>by cases z) λ_ _ z=>by cases z
    have tb:aY a (xs.eraseIdx j) h':=⟨ob,es,ep,hq,hx,hd,he⟩;have I':Inv X a_ σ (upd H a (.ext (aY a (xs.eraseIdx j)))) {s with heap:=h',toks:=s.toks+(tupleKind (intKind X.prog X.w)).draws k}:=
     gB I (by rw[e0];exact True.intro) hs ⟨ob,hq⟩ ⟨tb,⟨ob,hq⟩,λg1 g2 ⟨o1,LV,LW,a1,a2,a3,a4⟩ kk=>⟨o1,LV,LW,kk _ a1,a2,a3,a4⟩⟩
    have nd:(aJ ks k).Nodup:=by
     rw[<-z.kx,<-a4];have:=z.nd;rw[<-z.kx]at this;rw[iN];exact this.sublist (List.eraseIdx_sublist _ _)
    have sz:(aJ ks k).length<=sizeLine:=by
     rw[<-z.kx,<-a4,ID];exact IR (List.length_eraseIdx_le _ _) hsz
    rw[z.kx]at a4 a5;exact⟨v0,_,I',a3,b_ _ _ _ _ (a2.mono tw) (rm.write (u:=.dt (aJ ks k) (aV ks ds k)) e0 (λ_ z=>by cases z) (λ_ _ z=>by cases z) ⟨vs.eraseIdx j,_,ag,⟨a4,nd,sz,z.no,a6,λx KP=>tw.t _ _ (z.at_ x (List.mem_of_mem_eraseIdx KP))⟩,a5.mono tw⟩) tw q⟩
   ·exact q.elim
  ·exact q.elim
 ·exact q.elim
end
end L2
namespace L2
open PySem PySem.Spec PyProof.Rows
section
variable {X:Cx}
theorem VM.of{id:String}{r3:D->List D->MH->VK3->Prop}{r:V->List V->Hp->VK->Prop}(h:MtM X id r)
  (hr:∀(H:Hp)(x:D)(xs:List D)(v:V)(vs:List V)(M:MH)(Q:VK3)(Q2:VK),Den X.K H x v->DenL X.K H xs vs->RelM X.K M H->r3 x xs M Q->Back X.K H Q Q2->r v vs H Q2):VM X id r3:=
 λa_ s σ H x xs v vs v2 us M Q Q2 I rv rs dx dl rm q b_=>h a_ s σ H v vs v2 us Q2 I rv rs (hr H x xs v vs M Q Q2 dx dl rm q b_)
theorem fU:TyD X "list" isLstM:=v9 λx M h=>by
 unfold isLstM at h;split at h
 ·split at h
  ·rename_i e;simp[ai,e]
  ·cases h
 ·cases h
theorem DenL.app{K:JJ}:∀{ds es:List D}{vs ws:List V},DenL K H ds vs->DenL K H es ws->DenL K H (ds++es) (vs++ws)
 |[],es,vs,ws,h,g=>by cases (show vs=[] from h);exact g
 |d::ds,es,vs,ws,h,g=>by
  obtain⟨v,us,rfl,dv,dw⟩:=kA h;exact .cons dv (DenL.app dw g)
theorem qR{K:JJ}{H:Hp}{M:MH}{a:Addr}{ds es:List D}{vs:List V}(rm:RelM K M H)(e:H a=some (.lst vs))(ws:List V)(h:DenL K H es ws):RelM K (put M a (.lst es)) (upd H a (.lst ws))/\TM K H (upd H a (.lst ws)):=by
 have tw:TM K H (upd H a (.lst ws)):=.put e (λ_ z=>by cases z) λ_ _ z=>by cases z
 exact⟨rm.write (u:=.lst es) e (λ_ z=>by cases z) (λ_ _ z=>by cases z) ⟨_,ag,h.mono tw⟩,tw⟩
theorem nW:VM X "list.clear" (rBm .clear):=VM.of uO λH x xs v vs M Q Q2 dx dl rm q b_=>by
 simp only[rBm]at q;split at q
 ·rename_i a;split at q
  ·rename_i ds e;obtain⟨ws,e1,dw⟩:=rm a _ e;cases (show v=.ref a from dx);cases (show vs=[] from dl);obtain⟨r1,t1⟩:=qR (ds:=ds) (es:=[]) rm e1 [] .nil;exact⟨a,ws,rfl,rfl,e1,b_ _ _ .j_ _ rfl r1 t1 q⟩
  ·exact q.elim
 ·exact q.elim
theorem DenL.erase{K:JJ}{H:Hp}{ds:List D}{vs:List V}(k:Nat)(h:DenL K H ds vs):DenL K H (ds.eraseIdx k) (vs.eraseIdx k):=by
 rw[List.eraseIdx_eq_take_drop_succ,List.eraseIdx_eq_take_drop_succ];exact (h.take _).app (h.drop _)
end
end L2
namespace L2
open PySem PySem.Spec PyProof.Rows SeqAt PySem.MeetsSeq AutoSeq1
theorem qo(p:Addr)(its:Array Value)(c:Nat)(x:Value)(f:Value->Bool)(j:Nat)(hj:j<its.size)(hz:its.size<=sizeLine)(B_:f its[j]=true):∀(k i:Nat),j-i=k->i<=j->(∀m (hm:m<its.size),i<=m->m<j->f its[m]=false)->
  Meets (Builtin.«list.remove.loop» ⟨[.ref p,x,rawInt i],[]⟩) (λA R s=>s.heap.get? p=some {cls:=.type "list",dict:=none,data:=.seq its c,slots:=#[]}/\(∀y,y∈its->EqAt A.in1 s y x (f y))/\R (.ok (.ret .none)) {s with heap:=s.heap.update p (Obj.mapSeq λxs=>xs.eraseIdxIfInBounds j)})
 |0,i,e,L7,_=>by
  intro prog w A R s q;obtain⟨h1,h2,h3,h4,h5⟩:=s;obtain⟨hg,he,q⟩:=q;obtain rfl:i=j:=by omega
  wp_walk using wpAny_loadPart' hg
  rw[show its[((i:Nat):Int).toNat]?=some its[i] by simp[hj]]
  refine Fr (he _ (Array.getElem_mem hj) prog w _ _ ?_);rw[B_];have z2:(its.eraseIdxIfInBounds i).size<=sizeLine+1:=IR (size_erased its _) (Nat.le_succ_of_le hz)
  wp_walk using (wpAny_updateSeq hg rfl (hz:=hz) (_hz':=z2)),wpAny_loadPart' hg
  simpa using q
 |k+1,i,e,L7,LC=>by
  intro prog w A R s q;obtain⟨h1,h2,h3,h4,h5⟩:=s;obtain⟨hg,he,q⟩:=q;have lt:i<its.size:=by omega
  wp_walk using wpAny_loadPart' hg
  rw[show its[((i:Nat):Int).toNat]?=some its[i] by simp[lt]]
  refine Fr (he _ (Array.getElem_mem lt) prog w _ _ ?_);rw[LC i lt (Iq _) (by omega)]
  wp_walk
  rw[show ((i:Int)+1)=((i+1:Nat):Int) by push_cast;rfl]
  exact⟨plainId_quiet plain_remove_loop _,codeAny_builtin entry_remove_loop (by
   rw[Around.under_plainId plain_remove_loop _];exact qo p its c x f j hj hz B_ k (i+1) (by omega) (by omega) (λm hm a b=>LC m hm (by omega) b) prog w A R _ ⟨hg,he,q⟩)⟩
theorem Du(p:Addr)(its:Array Value)(c:Nat)(x:Value)(f:Value->Bool)(j:Nat)(hj:j<its.size)(hz:its.size<=sizeLine)(B_:f its[j]=true)(LC:∀m (hm:m<its.size),m<j->f its[m]=false) :
  Meets (Builtin.«list.remove» ⟨[.ref p,x],[]⟩) (λA R s=>s.heap.get? p=some {cls:=.type "list",dict:=none,data:=.seq its c,slots:=#[]}/\(∀y,y∈its->EqAt A.in1 s y x (f y))/\R (.ok (.ret .none)) {s with heap:=s.heap.update p (Obj.mapSeq λxs=>xs.eraseIdxIfInBounds j)}):=by
 intro prog w A R s q;obtain⟨h1,h2,h3,h4,h5⟩:=s;obtain⟨hg,he,q⟩:=q
 wp_walk using wpAny_loadPart' hg
 exact⟨plainId_quiet plain_remove_loop _,codeAny_builtin entry_remove_loop (by
  rw[Around.under_plainId plain_remove_loop _];exact qo p its c x f j hj hz B_ j 0 (by omega) (Nat.zero_le _) (λm hm _ b=>LC m hm b) prog w A R _ ⟨hg,he,q⟩)⟩
theorem jC:∀{vs:List V}{us:List Value},Vals vs us->∀j,Vals (vs.eraseIdx j) (us.eraseIdx j)
 |_,_,.nil,_=>.nil
 |_,_,.cons _ r,0=>r
 |_,_,.cons h r,j+1=>.cons h (jC r j)
theorem kR{X:Cx}(hu:X.A.units+64<cLine):VM X "list.remove" (rBm .remove):=by
 intro a_ s σ H x xs v vs v2 us M Q Q2 I rv rs dx dl rm q b_;simp only[rBm]at q;split at q
 ·rename_i p y;split at q
  ·rename_i ds e;obtain⟨⟨p1,p2⟩,q⟩:=q;split at q
   ·rename_i j ej;obtain⟨_,⟨d1,h2,h3⟩,h4⟩:=qa ej;obtain⟨ws,hH,Ki⟩:=rm p _ e;cases (show v=.ref p from dx);cases rv;obtain⟨yv,rfl,dy⟩:=kH dl;obtain⟨u,rfl,ru⟩:=rs.one;obtain⟨z,its,n,r2,K4,ho⟩:=I.lstM hH;obtain⟨H',I',t',d2⟩:=mM I rm dy p1;have Mg:=Ki.mono t';have pd:=gM Mg r2
    classical
    let f:Value->Bool:=λw=>if h:∃d∈ds,∃v,Den X.K H' d v/\RelV v w then eqD h.choose (res M y) else false
    have hf:∀d w,d∈ds->(∃v,Den X.K H' d v/\RelV v w)->f w=eqD d (res M y):=λd w hd ⟨v',dv,JX⟩=>by
     have h:∃d∈ds,∃v,Den X.K H' d v/\RelV v w:=⟨d,hd,v',dv,JX⟩;obtain⟨hm,Po,LG,Pp⟩:=h.choose_spec;have:Po=v':=Pp.inj JX;subst this;have e1:h.choose=d:=lG I' rfl 8 (IL.mp p2 _ hm) (IL.mp p2 _ hd) LG dv;show (if h:∃d∈ds,∃v,Den X.K H' d v/\RelV v w then eqD h.choose (res M y) else false)=_
     rw[dif_pos h,e1]
    have NT:∀(m:Nat)(hm:m<its.toArray.size),∃d,ds[m]?=some d/\f its.toArray[m]=eqD d (res M y):=λm hm=>by
     have KS:m<ds.length:=by rw[Ki.length,K4];simpa using hm
     refine⟨ds[m],by simp[KS],?_⟩
     obtain⟨v',e1,e2⟩:=Mg.get (i:=m) (d:=ds[m]) (by simp[KS])
     obtain⟨w',e3,e4⟩:=r2.get e1;have:its.toArray[m]=w':=by
      have MN:m<its.length:=by simpa using hm
      have:its[m]?=some its[m]:=by simp[MN]
      rw[this]at e3;simpa using e3
     rw[this];exact hf _ _ (Jw KS) ⟨v',e2,e4⟩
    have hj:j<its.toArray.size:=by
     have h5:j<ds.length:=(IC.mp (by simpa using h2)).1
     rw[IF,<-K4,<-Ki.length];exact h5
    have NU:its.toArray.size<=sizeLine:=by rw[IF,<-K4];exact z
    obtain⟨r1,t1⟩:=qR (ds:=ds) rm hH _ (Ki.erase j);refine call_meets PySem.F.slot_list_remove ⟨_,ho,rfl⟩ PySem.F.entry_list_remove (PySem.F.args_list_remove_2 _ _) (Du p its.toArray n u f j hj NU ?_ ?_) ⟨ho,λw hw=>?_,?_⟩
    ·obtain⟨d,e1,e2⟩:=NT j hj;rw[e2];simp at h2;rw[e1]at h2;cases h2;exact h3
    ·intro m hm H_;obtain⟨d,e1,e2⟩:=NT m hm;rw[e2];exact h4 m d (by simpa using H_) e1
    ·obtain⟨d,hd,v',dv,JX⟩:=Paired.mem_right pd w (by simpa using hw)
     rw[hf d w hd ⟨v',dv,JX⟩];exact (Bx I' rfl 8 (A:=X.A.in1) (IL.mp p2 _ hd) p1 dv d2 JX ru (by show X.A.units+1+8<cLine;omega)).2.2
    ·refine⟨.j_,_,I.lset (its':=its.eraseIdx j) hH ho ?_ (jC r2 j) ?_,rfl,b_ _ _ .j_ _ rfl r1 t1 q⟩
     ·show its.toArray.eraseIdxIfInBounds j=_;unfold Array.eraseIdxIfInBounds;rw[dif_pos hj];simp
     ·exact IR (by rw[List.length_eraseIdx];split<;>omega) z
   ·exact q.elim
  ·exact q.elim
 ·exact q.elim
end L2
namespace L2
open PySem PySem.Spec PyProof.Rows PySem.W
section
variable {X:Cx}
end
end L2
namespace L2
open PySem PySem.Spec PyProof.Rows PySem.Calls PySem.NumText PySem.W.KIN
end L2
namespace L2
open PySem PySem.Spec PyProof.Rows
def AM(K:JJ):Prop:=PySem.W.nsIn K cStatics "sys.int_max_str_digits"=some none
section
variable {X:Cx}
end
section
variable {X:Cx}{s:Shared}{h':Heap}
theorem Inv.turned2(I:Inv X a_ σ H s)(k:∀b o,b≠it->b≠it'->s.heap.get? b=some o->h'.get? b=some o)(f:fE X a_ H it)(f':fE X a_ H it'):Inv X a_ σ H {s with heap:=h',toks:=t'}:=by
 obtain⟨hn,hL,_,h1,h2,h3⟩:=f;obtain⟨OY,NV,_,M9,Nc,RN⟩:=f';have L_:∀b u,H b=some u->b≠it:=λb u e z=>by rw[z,hn]at e;cases e
 have NW:∀b u,H b=some u->b≠it':=λb u e z=>by rw[z,OY]at e;cases e
 have kc:∀b o,b∉[it,it']->s.heap.get? b=some o->h'.get? b=some o:=λb o hc e=>k b o (λz=>hc (by simp[z])) (λz=>hc (by simp[z])) e
 refine I.step (g':=s.gens) (d':=s.drawn) (ch:=[it,it']) (λb hb=>?_) (λb o _ _ hc e _=>kc b o hc e) (λb o _ _ hc e _=>⟨o.slots,kc b o hc e⟩) (λ_ _ _ _ n=>n)
  (λb o hc e=>⟨o,kc b o hc e⟩) (λ_ _ e=>e) (λ_ _ _ e=>e) (λb ps e=>⟨#[],by rw[e];simp⟩) (λm hm=>?_) (λb u e=>?_) I.bare
 ·rcases Iv.mp hb with rfl|hb
  ·exact⟨h1,hL,h2,h3⟩
  ·have e:b=it':=by simpa using hb
   subst e;exact⟨M9,NV,Nc,RN⟩
 ·obtain⟨o,es,ep,ho,r⟩:=hm;exact⟨o,es,ep,k _ o (IB hL) (IB NV) ho,r⟩
 ·refine (I.h_ b u e).stay (λc v hc q=>k c v ?_ ?_ q) (λ_ q=>q) λ_ _ q=>q
  ·rcases hc with z|z
   ·rw[z];exact L_ b u e
   ·exact L_ c _ z
  ·rcases hc with z|z
   ·rw[z];exact NW b u e
   ·exact NW c _ z
noncomputable def Ite(K:JJ)(a:Addr):It:=
 ⟨λi H=>∃xs x,SqL K H a xs/\xs[i]?=some x,λi H v H'=>∃p,v=.ref p/\H p=none/\∃x,(∀xs,SqL K H a xs->xs[i]?=some x)/\H'=upd H p (.tup [.int i,x]),λi H=>∃xs,SqL K H a xs/\xs.length<=i⟩
theorem sC{K:JJ}(a e it:Addr)(Nd:e≠it):Turn P w K (.Tuple Ku x1 pos) (Ite K a) [e,it] e (λi h=>(∃Kf,IsEnum h e it i Kf)/\h.IsListIter it a i) where
 mem:=by simp
 obj:=λi h st b hb=>by
  obtain⟨⟨Kf,h1⟩,h2⟩:=st;rcases Iv.mp hb with rfl|hb
  ·exact⟨_,h1,λv z=>by
    have z':Data.fields _=Data.cell v:=z;cases z'⟩
  ·have e':b=it:=by simpa using hb
   subst e';obtain⟨o,e1,c,d⟩:=h2;exact⟨o,e1,λv z=>by rw[d]at z;cases z⟩
 keep:=λi h h' st k=>⟨let ⟨Kf,h1⟩:=st.1;⟨Kf,k e (by simp) _ h1⟩,st.2.at λo e1=>k it (by simp) o e1⟩
 item:=by
  intro X hP hw hK hc i a_ s σ H E I hf st hg;subst hP hw hK;obtain⟨xs,x,hq,hx⟩:=hg;obtain⟨its,rv,p,hz⟩:=I.list hq;obtain⟨u,hu,ru⟩:=rv.get hx;obtain⟨⟨Kf,he⟩,B_⟩:=st;have fe:=hf e (by simp)
  have fi:=hf it (by simp)
  have RO:e<s.heap.objs.size:=Ir he;obtain⟨oi,RP,_⟩:=id B_;have NX:it<s.heap.objs.size:=Ir RP;refine wpAny_pyNext_enum_item he B_ p.isList (x:=u) (by simpa using hu) Nd λh' L8 KY ht hsz k=>?_
  have hp:H s.heap.objs.size=none:=I.h_.fresh (Iq _);have I1:Inv X a_ σ (upd H s.heap.objs.size (.tup [.int i,x])) {s with heap:=s.heap.push {cls:=.type "tuple",data:=.seq #[.int i s.toks,u]},toks:=s.toks+1}:=
   I.laid (λb o e1=>Il _ e1) (Iq _) ⟨by show 2<=sizeLine;decide,[.int i s.toks,u],.cons ⟨_,rfl⟩ (.cons ru .nil),⟨_,Iz _ rfl,rfl,_,rfl⟩⟩
  have Qy:fE X a_ (upd H s.heap.objs.size (.tup [.int i,x])) e:=⟨by rw[ae (IM RO)];exact fe.1,fe.2⟩
  have OI:fE X a_ (upd H s.heap.objs.size (.tup [.int i,x])) it:=⟨by rw[ae (IM NX)];exact fi.1,fi.2⟩
  have I2:Inv X a_ σ (upd H s.heap.objs.size (.tup [.int i,x])) {s with heap:=h',toks:=s.toks+1}:=I1.turned2 (t':=s.toks+1) (λb o h1 h2 e1=>by
   by_cases hb:b=s.heap.objs.size
   ·subst hb;have e2:(s.heap.push {cls:=.type "tuple",data:=.seq #[.int i s.toks,u]}).get? s.heap.objs.size=some {cls:=.type "tuple",data:=.seq #[.int i s.toks,u]}:=Iz _ rfl;rw[e2]at e1;cases e1;exact ht
   ·exact k b o h1 h2 ((Heap.get?_push_ne _ _ _ hb).symm.trans e1)) Qy OI
  refine⟨.ref s.heap.objs.size,rfl,wpAny_letOwnedTupleGo_enum (s:={s with heap:=h',toks:=s.toks+1}) L8 λh2 Mi Kc=>?_⟩
  obtain⟨f0,f1,f2,f3,f4,f5⟩:=Qy;have I3:Inv X a_ σ (upd H s.heap.objs.size (.tup [.int i,x])) {s with heap:=h2,toks:=s.toks+1}:=I2.turned (t':=s.toks+1) (λb o hb e1=>(Kc.2 b hb).trans e1) f0 f1 f3 f4 f5
  refine⟨.ref s.heap.objs.size,_,I3,rfl,⟨_,rfl,hp,x,λys hy=>by rw[I.list_inj hy hq];exact hx,rfl⟩,⟨⟨_,Mi⟩,?_⟩,λb hb=>?_⟩
  ·exact KY.at λo e1=>(Kc.2 it (IB Nd)).trans e1
  ·rcases Iv.mp hb with rfl|hb
   ·exact f0
   ·have e':b=it:=by simpa using hb
    subst e';exact OI.1
 done:=by
  intro X hP hw hK hc i a_ s σ H E I hf st hg;subst hP hw hK;obtain⟨xs,hq,hx⟩:=hg;obtain⟨its,rv,p,hz⟩:=I.list hq;obtain⟨⟨Kf,he⟩,B_⟩:=st;obtain⟨f0,f1,f2,f3,f4,f5⟩:=hf it (by simp)
  have hl:=rv.length;exact wpAny_pyNext_enum_end (I.ok.hd hc) he B_ p.isList (by simp;omega) λh' eb=>⟨rfl,I.turned (t':=s.toks) (λb o hb e=>eb b o hb e) f0 f1 f3 f4 f5⟩
 self:=λ_ _ _ _ _ st h=>let ⟨⟨_,he⟩,_⟩:=st;wpAny_pyIter_enum he h
theorem gX:∀{ds:List D}{k i:Nat}{d:D},ds[i]?=some d->(bg k ds)[i]?=some (.tup [.int (k+i:Nat),d])
 |[],_,_,_,h=>by simp at h
 |x::r,k,0,d,h=>by
  have e:x=d:=by simpa using h
  subst e;rfl
 |x::r,k,i+1,d,h=>by
  have:=gX (ds:=r) (k:=k+1) (i:=i) (d:=d) (by simpa using h)
  rw[show k+1+i=k+(i+1) by omega]at this
  exact this
theorem di:∀{ds:List D}{k:Nat},(bg k ds).length=ds.length
 |[],_=>rfl
 |x::r,k=>by
  show (bg (k+1) r).length+1=r.length+1;rw[di]
theorem wJ{K:JJ}(sq:SqF K H0 p vs)(dl:DenL K H0 ds vs):ItOk K H0 (Ite K p) (bg 0 ds) (λ_=>True):=by
 have t_:=dl.length;refine⟨λi H M t rm s hi=>?_,λi H M x H' t rm s hi y=>?_,λH M t rm s=>?_⟩
 ·rw[di]at hi;have KC:i<vs.length:=by omega
  exact⟨vs,vs[i],(t.f _ _ sq).sq,by simp[KC]⟩
 ·obtain⟨q,rfl,hq,v,hv,rfl⟩:=y;obtain⟨d,e1,e2⟩:=(dl.mono t).get' (hv vs (t.f _ _ sq).sq);refine⟨.new hq,rm.grow hq,.tup [.int i,d],?_,⟨q,[.int i,v],rfl,.inl (.inl ag),⟨_,_,rfl,rfl,_,_,rfl,e2.mono (.new hq),rfl⟩⟩⟩;have:=gX (k:=0) e1;simpa using this
 ·rw[di];exact⟨vs,(t.f _ _ sq).sq,by omega⟩
theorem u7{K:JJ}:ItOk K H0 (Ite K p) (bg 0 ds) (λM=>M p=some (.lst ds)):=by
 refine⟨λi H M t rm s hi=>?_,λi H M x H' t rm s hi y=>?_,λH M t rm s=>?_⟩
 ·obtain⟨vs,e,dl⟩:=rm p _ s;rw[di]at hi;have KC:i<vs.length:=by rw[<-dl.length];exact hi
  exact⟨vs,vs[i],.of e,by simp[KC]⟩
 ·obtain⟨vs,e,dl⟩:=rm p _ s;obtain⟨q,rfl,hq,v,hv,rfl⟩:=y;obtain⟨d,e1,e2⟩:=dl.get' (hv vs (.of e));refine⟨.new hq,rm.grow hq,.tup [.int i,d],?_,⟨q,[.int i,v],rfl,.inl (.inl ag),⟨_,_,rfl,rfl,_,_,rfl,e2.mono (.new hq),rfl⟩⟩⟩;have:=gX (k:=0) e1;simpa using this
 ·obtain⟨vs,e,dl⟩:=rm p _ s;rw[di];exact⟨vs,.of e,by rw[dl.length];exact Iq _⟩
noncomputable def DQ(K:JJ)(ta:TA):TI:=λσ H R=>ta σ H λvs H1=>∃a,vs=[.ref a]/\(∃xs,SqL K H1 a xs)/\R (Ite K a) H1
theorem xR(hg:Gl X "enumerate")(hm:X.mg "enumerate"=none)(ha:PA X [a] ta)(hs:starEach [a] X.env=[(false,eval a X.env)]):PI X (.Tuple Ku x1 pt) (.Call (.Name "enumerate" p) [a] [] pos) (DQ X.K ta):=by
 intro a_ s σ H R I h;refine Call_ (dE I hg hm (u:=.type "enumerate") (by decide +kernel) (PyProof.Rows.callWith_type1 (thn (ha pos a_ s σ H _ I h) λus s1 ⟨vs,H1,I1,r1,q1⟩=>?_) hs rfl))
 obtain⟨b,e,⟨xs,hq⟩,q⟩:=q1;subst e;obtain⟨u,rfl,ru⟩:=le r1;cases ru;obtain⟨its,rv,pl,hz⟩:=I1.list hq;refine call_enumerate_list pl.isList λh' he B_ hsz k=>?_
 refine wpAny_pyIter_enum (s:={s1 with heap:=h'}) he ?_
 refine⟨s1.heap.objs.size+1,[s1.heap.objs.size+1,s1.heap.objs.size],_,_,H1,rfl,I1.kept (t':=s1.toks) k,sC b (s1.heap.objs.size+1) s1.heap.objs.size (Nat.succ_ne_self _),⟨⟨_,he⟩,B_⟩,λc hc=>?_,q⟩
 have L7:s1.heap.objs.size<=c:=by
  rcases Iv.mp hc with rfl|hc
  ·exact JF _
  ·have e':c=s1.heap.objs.size:=by simpa using hc
   exact Nat.le_of_eq e'.symm
 exact I1.fpOk L7 (I1.h_.fresh L7)
theorem Bf(hg:Gl X "enumerate")(hm:X.mg "enumerate"=none)(ha:PE X a (low X.K cls E2 ta))(hs:starEach [a] X.env=[(false,eval a X.env)]) :
  PI X (.Tuple Ku x1 pt) (.Call (.Name "enumerate" p) [a] [] pos) (jb X.K cls E2 λσ M R E=>ta σ M (λx M1=>match x with
  |.e_ ds=>R (bg 0 ds) (λ_=>True) M1
  |.ref a=>match M1 a with
   |some (.lst ds)=>R (bg 0 ds) (λM=>M a=some (.lst ds)) M1
   |_=>False
  |_=>False) E):=
 (xR hg hm (aK ha pa_nil hs) hs).imp λσ H R2 i_=>ex9 i_ λg_ M R E3 rm ds lk h k=>bn rm ds lk h λv H1 x M1 dx l_ t1 q1=>by
  cases x with
  |e_ es=>
   obtain⟨q,vs,rfl,sq,dl⟩:=dx;exact⟨q,rfl,⟨vs,sq.sq⟩,k _ _ _ _ _ (wJ sq dl) l_ t1 q1⟩
  |ref a=>
   cases (show v=.ref a from dx);have q1:(match M1 a with
    |some (.lst ds)=>R (bg 0 ds) (λM=>M a=some (.lst ds)) M1
    |_=>False):=q1
   split at q1
   ·rename_i ds e;obtain⟨vs,eH,dl⟩:=l_ a _ e;exact⟨a,rfl,⟨vs,.of eH⟩,k _ _ _ _ _ u7 l_ t1 q1⟩
   ·exact q1.elim
  |_=>exact q1.elim
end
section
variable {X:Cx}{s:Shared}{h':Heap}
theorem Inv.turnedL{t':Nat}{ch:List Addr}(I:Inv X a_ σ H s)(k:∀b o,b∉ch->s.heap.get? b=some o->h'.get? b=some o)(f:∀b∈ch,fE X a_ H b):Inv X a_ σ H {s with heap:=h',toks:=t'}:=by
 have L_:∀b u,H b=some u->b∉ch:=λb u e z=>by rw[(f b z).1]at e;cases e
 refine I.step (g':=s.gens) (d':=s.drawn) (ch:=ch) (λb hb=>?_) (λb o _ _ hc e _=>k b o hc e) (λb o _ _ hc e _=>⟨o.slots,k b o hc e⟩) (λ_ _ _ _ n=>n)
  (λb o hc e=>⟨o,k b o hc e⟩) (λ_ _ e=>e) (λ_ _ _ e=>e) (λb ps e=>⟨#[],by rw[e];simp⟩) (λm hm=>?_) (λb u e=>?_) I.bare
 ·obtain⟨hn,hL,_,h1,h2,h3⟩:=f b hb;exact⟨h1,hL,h2,h3⟩
 ·obtain⟨o,es,ep,ho,r⟩:=hm;exact⟨o,es,ep,k _ o (λz=>(f _ z).2.1 rfl) ho,r⟩
 ·refine (I.h_ b u e).stay (λc v hc q=>k c v ?_ q) (λ_ q=>q) λ_ _ q=>q
  rcases hc with z|z
  ·rw[z];exact L_ b u e
  ·exact L_ c _ z
noncomputable def Itz(K:JJ)(a b:Addr):It:=
 ⟨λi H=>∃xs ys x y,SqL K H a xs/\SqL K H b ys/\xs[i]?=some x/\ys[i]?=some y,λi H v H'=>∃p,v=.ref p/\H p=none/\∃x y,(∀xs,SqL K H a xs->xs[i]?=some x)/\(∀ys,SqL K H b ys->ys[i]?=some y)/\H'=upd H p (.tup [x,y]),λi H=>∃xs ys,SqL K H a xs/\SqL K H b ys/\(xs.length<=i\/ys.length<=i)⟩
theorem tU{P:Program}{w:World}{K:JJ}{Ku:List Expr}{x1:Nat}{pos:Pos}(a b z TI TO i1 i2:Addr)(D:ZipApart z TI TO i1 i2 a b):Turn P w K (.Tuple Ku x1 pos) (Itz K a b) [z,TI,TO,i1,i2] z (λi h=>IsZip h z TI TO .none/\IsPair h TI (.ref i1) (.ref i2)/\(∃c d,IsPair h TO c d)/\h.IsListIter i1 a i/\h.IsListIter i2 b i) where
 mem:=by simp
 obj:=λi h st c hc=>by
  obtain⟨h1,h2,⟨_,_,h3⟩,h4,h5⟩:=st;simp only[Iv,Jh,or_false]at hc;rcases hc with rfl|rfl|rfl|rfl|rfl
  ·exact⟨_,h1,λv q=>by have q':Data.fields _=Data.cell v:=q;cases q'⟩
  ·exact⟨_,h2,λv q=>by have q':Data.seq _ _=Data.cell v:=q;cases q'⟩
  ·exact⟨_,h3,λv q=>by have q':Data.seq _ _=Data.cell v:=q;cases q'⟩
  ·obtain⟨o,e1,c,d⟩:=h4;exact⟨o,e1,λv q=>by rw[d]at q;cases q⟩
  ·obtain⟨o,e1,c,d⟩:=h5;exact⟨o,e1,λv q=>by rw[d]at q;cases q⟩
 keep:=λi h h' st k=>by
  obtain⟨h1,h2,⟨c,d,h3⟩,h4,h5⟩:=st;exact⟨k z (by simp) _ h1,k TI (by simp) _ h2,⟨c,d,k TO (by simp) _ h3⟩,h4.at λo e1=>k i1 (by simp) o e1,h5.at λo e1=>k i2 (by simp) o e1⟩
 item:=by
  intro X hP hw hK hc i a_ s σ H E I hf st hg;subst hP hw hK;obtain⟨xs,ys,x,y,hq,Lu,hx,hy⟩:=hg;obtain⟨its,rv,p,hz⟩:=I.list hq;obtain⟨q_,MP,p2,NY⟩:=I.list Lu;obtain⟨u,hu,ru⟩:=rv.get hx;obtain⟨u2,RQ,RR⟩:=MP.get hy;obtain⟨h1,h2,⟨c,d,h3⟩,h4,h5⟩:=st;have lt:∀{c o},s.heap.get? c=some o->c<s.heap.objs.size:=λe=>Ir e
  refine wpAny_pyNext_zip_item D h1 h2 h3 h4 h5 p.isList p2.isList (x:=u) (y:=u2) (by simpa using hu) (by simpa using RQ) λh' a1 a2 a3 a4 a5 a6 k=>?_
  have hp:H s.heap.objs.size=none:=I.h_.fresh (Iq _);have I1:Inv X a_ σ (upd H s.heap.objs.size (.tup [x,y])) {s with heap:=s.heap.push {cls:=.type "tuple",data:=.seq #[u,u2]},toks:=s.toks}:=
   I.laid (λb o e1=>Il _ e1) (Iq _) ⟨by show 2<=sizeLine;decide,[u,u2],.cons ru (.cons RR .nil),⟨_,Iz _ rfl,rfl,_,rfl⟩⟩
  have H_:∀b∈[z,TI,TO,i1,i2],b<s.heap.objs.size:=λb hb=>by
   simp only[Iv,Jh,or_false]at hb;rcases hb with rfl|rfl|rfl|rfl|rfl
   ·exact lt h1
   ·exact lt h2
   ·exact lt h3
   ·obtain⟨_,e,_⟩:=h4;exact lt e
   ·obtain⟨_,e,_⟩:=h5;exact lt e
  have KQ:∀b∈[z,TI,TO,i1,i2],fE X a_ (upd H s.heap.objs.size (.tup [x,y])) b:=λb hb=>⟨by rw[ae (IM (H_ b hb))];exact (hf b hb).1,(hf b hb).2⟩
  have I2:=I1.turnedL (t':=s.toks) (h':=h') (ch:=[z,TI,TO,i1,i2]) (λb o hb e1=>by
   simp only[Iv,Jh,or_false,not_or]at hb;obtain⟨n1,n2,n3,n4,n5⟩:=hb;by_cases hb:b=s.heap.objs.size
   ·subst hb;have e2:(s.heap.push {cls:=.type "tuple",data:=.seq #[u,u2]}).get? s.heap.objs.size=some {cls:=.type "tuple",data:=.seq #[u,u2]}:=Iz _ rfl;rw[e2]at e1;cases e1;exact a5
   ·exact k b o n1 n3 n4 n5 ((Heap.get?_push_ne _ _ _ hb).symm.trans e1)) KQ
  refine⟨.ref s.heap.objs.size,rfl,wpAny_letOwnedTupleGo_zip (s:={s with heap:=h',toks:=s.toks}) a1 λNc Mi Kc=>?_⟩
  have I3:=I2.turnedL (t':=s.toks) (h':=Nc) (ch:=[z,TI,TO,i1,i2]) (λb o hb e1=>(Kc.2 b (λq=>hb (by simp[q]))).trans e1) KQ
  refine⟨.ref s.heap.objs.size,_,I3,rfl,⟨_,rfl,hp,x,y,λRS NZ=>by rw[I.list_inj NZ hq];exact hx,λRS NZ=>by rw[I.list_inj NZ Lu];exact hy,rfl⟩,⟨Mi,?_,⟨u,u2,?_⟩,?_,?_⟩,λb hb=>(KQ b hb).1⟩
  ·exact (Kc.2 TI D.TIz).trans (k _ _ D.TIz D.TITO D.TIi1 D.TIi2 h2)
  ·exact (Kc.2 TO D.TOz).trans a2
  ·exact a3.at λo e1=>(Kc.2 i1 D.i1z).trans e1
  ·exact a4.at λo e1=>(Kc.2 i2 D.i2z).trans e1
 done:=by
  intro X hP hw hK hc i a_ s σ H E I hf st hg;subst hP hw hK;obtain⟨xs,ys,hq,Lu,hx⟩:=hg;obtain⟨its,rv,p,hz⟩:=I.list hq;obtain⟨q_,MP,p2,NY⟩:=I.list Lu;obtain⟨h1,h2,⟨c,d,h3⟩,h4,h5⟩:=st;have hl:=rv.length;have K4:=MP.length;refine wpAny_pyNext_zip_end (I.ok.hd hc) D h1 h2 h3 h4 h5 p.isList p2.isList ?_ λh' eb=>⟨rfl,I.turnedL (t':=s.toks) (ch:=[z,TI,TO,i1,i2]) (λb o hb e=>?_) hf⟩
  ·rcases hx with hx|hx
   ·exact .inl (by simp;omega)
   ·exact .inr (by simp;omega)
  ·simp only[Iv,Jh,or_false,not_or]at hb;exact eb b o hb.1 hb.2.2.1 hb.2.2.2.1 hb.2.2.2.2 e
 self:=λ_ _ _ _ _ st h=>wpAny_pyIter_zip st.1 h
def RdQ(K:JJ)(H0:Hp)(p:Addr)(ds:List D)(S:MH->Prop):Prop:=∀H M,TM K H0 H->RelM K M H->S M->∃vs,SqL K H p vs/\DenL K H ds vs
theorem tV{K:JJ}{x:D}{v:V}(dx:Den K H0 x v)(rm:RelM K M H0)(h:rLs x M k):∃p ds S,v=.ref p/\RdQ K H0 p ds S/\S M/\k ds S:=by
 cases x with
 |e_ es=>
  obtain⟨q,vs,rfl,sq,dl⟩:=dx;exact⟨q,es,_,rfl,λH M t _ _=>⟨vs,(t.f _ _ sq).sq,dl.mono t⟩,trivial,h⟩
 |ref b=>
  cases (show v=.ref b from dx);dsimp only[rLs]at h;split at h
  ·rename_i ys e;exact⟨b,ys,_,rfl,λH M t rm s=>let ⟨ws,z,dl⟩:=rm b (.lst ys) s;⟨ws,.of z,dl⟩,e,h⟩
  ·exact h.elim
 |_=>exact h.elim
theorem AC{K:JJ}(h1:RdQ K H0 p ds S)(h2:RdQ K H0 q es S'):ItOk K H0 (Itz K p q) (dZ ds es) (λM=>S M/\S' M):=by
 refine⟨λi H M t rm s hi=>?_,λi H M x H' t rm s hi y=>?_,λH M t rm s=>?_⟩
 all_goals
  obtain⟨vs,sq,dl⟩:=h1 H M t rm s.1;obtain⟨ws,LU,Ki⟩:=h2 H M t rm s.2;have t_:=dl.length;have Qz:=Ki.length
 ·simp only[dZ,ID,List.length_zip]at hi;have KC:i<vs.length:=by omega
  have OJ:i<ws.length:=by omega
  exact⟨vs,ws,vs[i],ws[i],sq,LU,by simp[KC],by simp[OJ]⟩
 ·obtain⟨q,rfl,hq,v,w,hv,hw,rfl⟩:=y;obtain⟨d,e1,e2⟩:=dl.get' (hv vs sq);obtain⟨d',MC,NG⟩:=Ki.get' (hw ws LU);refine⟨.new hq,rm.grow hq,.tup [d,d'],?_,⟨q,[v,w],rfl,.inl (.inl ag),⟨_,_,rfl,e2.mono (.new hq),_,_,rfl,NG.mono (.new hq),rfl⟩⟩⟩;have ez:(ds.zip es)[i]?=some (d,d'):=List.getElem?_zip_eq_some.mpr ⟨e1,MC⟩;simp[dZ,ez]
 ·refine⟨vs,ws,sq,LU,?_⟩;simp only[dZ,ID,List.length_zip];omega
noncomputable def Fa(K:JJ)(ta:TA):TI:=λσ H R=>ta σ H λvs H1=>∃a b,vs=[.ref a,.ref b]/\(∃xs,SqL K H1 a xs)/\(∃ys,SqL K H1 b ys)/\R (Itz K a b) H1
theorem zP(hg:Gl X "zip")(hm:X.mg "zip"=none)(ha:PA X [a,b] ta)(hs:starEach [a,b] X.env=[(false,eval a X.env),(false,eval b X.env)])(Kc:starEach [b] X.env=[(false,eval b X.env)]):PI X (.Tuple Ku x1 pt) (.Call (.Name "zip" p) [a,b] [] pos) (Fa X.K ta):=by
 intro a_ s σ H R I h;refine Call_ (dE I hg hm (u:=.type "zip") (by decide +kernel) (PyProof.Rows.callWith_type1 (thn (ha pos a_ s σ H _ I h) λus s1 ⟨vs,H1,I1,r1,q1⟩=>?_) (by rw[hs,Kc]) (by rw[Kc];rfl)))
 obtain⟨c,d,e,⟨xs,hq⟩,⟨ys,Lu⟩,q⟩:=q1;subst e;obtain⟨u,w,rfl,ru,JX⟩:=r1.two;cases ru;cases JX;obtain⟨its,rv,pl,hz⟩:=I1.list hq;obtain⟨q_,MP,Nf,NY⟩:=I1.list Lu;have a1:c<s1.heap.objs.size:=by obtain⟨_,_,e,_⟩:=pl;exact Ir e
 have a2:d<s1.heap.objs.size:=by obtain⟨_,_,e,_⟩:=Nf;exact Ir e
 refine call_zip_2 pl.isList Nf.isList λh' h1 h2 h3 h4 h5 _ k=>?_
 refine wpAny_pyIter_zip (s:={s1 with heap:=h'}) h1 ?_
 refine⟨s1.heap.objs.size+4,[s1.heap.objs.size+4,s1.heap.objs.size+2,s1.heap.objs.size+3,s1.heap.objs.size,s1.heap.objs.size+1],_,_,H1,rfl,I1.kept (t':=s1.toks) k,tU c d _ _ _ _ _ (zipApart_new a1 a2),⟨h1,h2,⟨_,_,h3⟩,h4,h5⟩,λb hb=>?_,q⟩
 have L7:s1.heap.objs.size<=b:=by
  simp only[Iv,Jh,or_false]at hb;rcases hb with rfl|rfl|rfl|rfl|rfl<;>first|exact Iq _|exact JD _ _
 exact I1.fpOk L7 (I1.h_.fresh L7)
theorem DF(hg:Gl X "zip")(hm:X.mg "zip"=none)(ha:PE X a (low X.K cls E2 ta))(hb:PE X b (low X.K cls E2 tb))(hs:starEach [a,b] X.env=[(false,eval a X.env),(false,eval b X.env)])(Kc:starEach [b] X.env=[(false,eval b X.env)]) :
  PI X (.Tuple Ku x1 pt) (.Call (.Name "zip" p) [a,b] [] pos) (jb X.K cls E2 λσ M R E=>ta σ M (λx M1=>tb σ M1 (λy M2=>rLs x M2 λxs S=>rLs y M2 λys S'=>R (dZ xs ys) (λM=>S M/\S' M) M2) E) E):=
 (zP hg hm (aK ha (aK hb pa_nil Kc) (by rw[hs,Kc])) hs Kc).imp λσ H R2 i_=>ex9 i_ λg_ M R E3 rm ds lk h k=>pH rm ds lk h λv w H2 x y M2 dx dy C_ t2 q2=>by
  obtain⟨p,es,S,rfl,r1,s1,q2⟩:=tV dx C_ q2;obtain⟨q,fs,S',rfl,r2,s2,q2⟩:=tV dy C_ q2;exact⟨p,q,rfl,(r1 _ _ (.refl _) C_ s1).imp λ_ z=>z.1,(r2 _ _ (.refl _) C_ s2).imp λ_ z=>z.1,k _ _ _ _ _ (AC r1 r2) C_ t2 q2⟩
end
abbrev ZipO(h:Heap)(z TI TO T:Addr)(f:Bool):Prop:=
 h.get? z=some {cls:=.type "zip",dict:=none,data:=.fields #[rawInt T,.bool f,.bool false,.ref TI,.ref TO],slots:=#[]}
section
variable {A:Around}{s:Shared}
theorem uM{z TI TO T:Addr}{f:Bool}{oa:Obj}{Q:Bool->Shared->Prop}(hz:ZipO s.heap z TI TO T f)(ha:s.heap.get? T=some oa)(h:∀h',ZipO h' z TI TO T true->Heap.SameBut z s.heap h'->Q false {s with heap:=h'}) :
  wpAny (model prog w) A (Builtin.SmallTypes.ownedTupleIsFree (.ref z)) Q E s:=by
 unfold Builtin.SmallTypes.ownedTupleIsFree;refine Fr (Jk hz rfl (x:=rawInt T) rfl ?_);show wpAny _ _ (loadIfAlive ((T:Int).toNat) >>=_) _ _ _;rw[Ju];refine Fr (PySem.W.kdx_alive ha ?_);simp only[Option.isNone_some,Jf,if_false];refine Fr (Jk hz rfl (x:=.bool f) rfl ?_);cases f with
 |true=>
  rw[Im (show ¬ ((Value.bool true != Value.bool true)=true) from IP)];exact Ik (h s.heap hz (Heap.SameBut.refl _ _))
 |false=>
  rw[Iu (show (Value.bool false != Value.bool true)=true from rfl)];refine Fr (wpAny_setField_rec hz (by simp) λLv N0 Ka=>?_)
  exact Ik (h Lv N0 Ka)
theorem zH{z TI TO i1 i2 l1 l2 T:Addr}{f:Bool}{oa:Obj}{k1 k2:Nat}{xs ys:Array Value}{x y:Value}{Q:Option Value->Shared->Prop}(D:ZipApart z TI TO i1 i2 l1 l2)
  (hz:ZipO s.heap z TI TO T f) (ha:s.heap.get? T=some oa) (Ng:IsPair s.heap TI (.ref i1) (.ref i2))
  (h1:s.heap.IsListIter i1 l1 k1)(h2:s.heap.IsListIter i2 l2 k2)(LH:s.heap.IsList l1 xs)(K4:s.heap.IsList l2 ys) (hx:xs[k1]?=some x) (hy:ys[k2]?=some y)
  (hQ:∀h',ZipO h' z TI TO T true->h'.IsListIter i1 l1 (k1+1)->h'.IsListIter i2 l2 (k2+1)->IsPair h' s.heap.objs.size x y->h'.objs.size=s.heap.objs.size+1->
   (∀c o,c≠z->c≠i1->c≠i2->s.heap.get? c=some o->h'.get? c=some o)->Q (some (.ref s.heap.objs.size)) {s with heap:=h'}) :
  wpAny (model prog w) A (pyNext (.ref z)) Q E s:=by
 have hT:s.TypeIs (.ref z) "zip":=⟨_,hz,rfl⟩;unfold pyNext;refine Fr (wpAny_attempt (wpAny_callSpecial?_slot (name:=Str.ofString "__next__") hT PySem.F.slot_zip_next
  (Jq PySem.F.slot_zip_next hT PySem.F.entry_zip_next ?_ (PySem.F.args_zip_next_1 _))))
 show wpAny _ _ (field (.ref z) 2 >>=_) _ _ _;refine Fr (Jk hz rfl (x:=.bool false) rfl ?_);show wpAny _ _ (field (.ref z) 3 >>=_) _ _ _;refine Fr (Jk hz rfl (x:=.ref TI) rfl ?_);refine Fr (wpAny_seqItems Ng rfl ?_);show wpAny _ _ (Builtin.SmallTypes.ownedTupleIsFree (.ref z) >>=_) _ _ _;refine Fr (uM hz ha λh₁ Mj G_=>?_)
 simp only[Jf,if_false];refine Fr ?_;rw[<-Array.forIn_toList];simp only[List.forIn_cons,List.forIn_nil];refine Fr (Fr (Jc ?_));show wpAny _ _ (Builtin.SmallTypes.nextOf (.ref i1) >>=_) _ _ _;refine Fr (wpAny_nextOf_list_item (h1.extBut G_.extBut D.i1z) (LH.extBut G_.extBut D.l1z) hx λN1 Ml JY=>Ik ?_)
 refine Ik ?_;refine Fr (Fr (Jc ?_));show wpAny _ _ (Builtin.SmallTypes.nextOf (.ref i2) >>=_) _ _ _;refine Fr (wpAny_nextOf_list_item ((h2.extBut G_.extBut D.i2z).extBut JY.extBut D.i12.symm) ((K4.extBut G_.extBut D.l2z).extBut JY.extBut D.l2i1) hy λLv N2 Ka=>Ik ?_)
 refine Ik (Ik ?_);refine Fr (wpAny_newTuple ?_ (by show 2<=sizeLine;decide))
 have hsz:Lv.objs.size=s.heap.objs.size:=by rw[Ka.1,JY.1,G_.1]
 refine Ik ⟨_,rfl,Ik ?_⟩;show Q (some (.ref Lv.objs.size)) _;rw[hsz];refine hQ _ (Il _ (Ka.extBut _ _ D.i2z.symm (JY.extBut _ _ D.i1z.symm Mj))) ((Ml.extBut Ka.extBut D.i12).at λo e=>Il _ e) (N2.at λo e=>Il _ e) ?_ (by rw[Heap.size_push,hsz])
  λc o c1 c2 c3 e=>Il _ (Ka.extBut _ _ c3 (JY.extBut _ _ c2 (G_.extBut _ _ c1 e)))
 rw[<-hsz];exact Iz _ rfl
theorem DN{z TI TO i1 i2 l1 l2 T:Addr}{f:Bool}{oa:Obj}{k1 k2:Nat}{xs ys:Array Value}{Q:Option Value->Shared->Prop}(hh:A.handled=none)(D:ZipApart z TI TO i1 i2 l1 l2)
  (hz:ZipO s.heap z TI TO T f) (ha:s.heap.get? T=some oa) (Ng:IsPair s.heap TI (.ref i1) (.ref i2))
  (h1:s.heap.IsListIter i1 l1 k1)(h2:s.heap.IsListIter i2 l2 k2)(LH:s.heap.IsList l1 xs)(K4:s.heap.IsList l2 ys) (LZ:xs[k1]?=none\/ys[k2]?=none)
  (hQ:∀h',(∀c o,c≠z->c≠i1->c≠i2->s.heap.get? c=some o->h'.get? c=some o)->Q none {s with heap:=h'}):wpAny (model prog w) A (pyNext (.ref z)) Q E s:=by
 have hT:s.TypeIs (.ref z) "zip":=⟨_,hz,rfl⟩;unfold pyNext;refine Fr (wpAny_attempt (wpAny_callSpecial?_slot (name:=Str.ofString "__next__") hT PySem.F.slot_zip_next
  (Jq PySem.F.slot_zip_next hT PySem.F.entry_zip_next ?_ (PySem.F.args_zip_next_1 _))))
 show wpAny _ _ (field (.ref z) 2 >>=_) _ _ _;refine Fr (Jk hz rfl (x:=.bool false) rfl ?_);show wpAny _ _ (field (.ref z) 3 >>=_) _ _ _;refine Fr (Jk hz rfl (x:=.ref TI) rfl ?_);refine Fr (wpAny_seqItems Ng rfl ?_);show wpAny _ _ (Builtin.SmallTypes.ownedTupleIsFree (.ref z) >>=_) _ _ _;refine Fr (uM hz ha λh₁ Mj G_=>?_)
 simp only[Jf,if_false];refine Fr ?_;rw[<-Array.forIn_toList];simp only[List.forIn_cons,List.forIn_nil];refine Fr (Fr (Jc ?_));show wpAny _ _ (Builtin.SmallTypes.nextOf (.ref i1) >>=_) _ _ _;cases hx:xs[k1]? with
 |none=>
  refine Fr (wpAny_nextOf_list_end hh (h1.extBut G_.extBut D.i1z) (LH.extBut G_.extBut D.l1z) hx λN1 e JY he=>?_)
  refine Fr (wpAny_isInstance (T:="StopIteration") (b:=true) he isSubtype_stop ?_);exact Ik (hQ _ λc o c1 c2 _ x=>JY _ _ c2 (G_.extBut _ _ c1 x))
 |some x=>
  have hy:ys[k2]?=none:=by rcases LZ with h|h;rw[hx]at h;cases h;exact h
  refine Fr (wpAny_nextOf_list_item (h1.extBut G_.extBut D.i1z) (LH.extBut G_.extBut D.l1z) hx λN1 Ml JY=>Ik ?_)
  refine Ik ?_;refine Fr (Fr (Jc ?_));show wpAny _ _ (Builtin.SmallTypes.nextOf (.ref i2) >>=_) _ _ _;refine Fr (wpAny_nextOf_list_end hh ((h2.extBut G_.extBut D.i2z).extBut JY.extBut D.i12.symm) ((K4.extBut G_.extBut D.l2z).extBut JY.extBut D.l2i1) hy λLv e Ka he=>?_)
  refine Fr (wpAny_isInstance (T:="StopIteration") (b:=true) he isSubtype_stop ?_);exact Ik (hQ _ λc o c1 c2 c3 x=>Ka _ _ c3 (JY.extBut _ _ c2 (G_.extBut _ _ c1 x)))
end
theorem oy:typeLookup (.type "zip") "__len__"=pure none:=by rw[typeLookup_type,builtinLookup_eq_fast];kernel_rfl
theorem nU:typeLookup (.type "zip") "__length_hint__"=pure none:=by rw[typeLookup_type,builtinLookup_eq_fast];kernel_rfl
structure ZSt (h:Heap)(z TI TO i1 i2 l1 l2 S:Addr)(xs ys:Array Value)(i:Nat):Prop where
 ti:IsPair h TI (.ref i1) (.ref i2)
 a:h.IsListIter i1 l1 i
 b:h.IsListIter i2 l2 i
 la:h.IsList l1 xs
 lb:h.IsList l2 ys
 o:(i=0/\IsZip h z TI TO .none/\∃c d,IsPair h TO c d)\/∃T f oa,ZipO h z TI TO T f/\h.get? T=some oa/\T≠z/\T≠i1/\T≠i2/\T≠S
structure ZG (xs ys:Array Value)(lo:Addr)(h:Heap)(as:List Addr):Prop where
 rise:as.Pairwise (· < ·)
 above:∀a∈as,lo<=a
 pairs:∀(j:Nat)(a:Addr),as[j]?=some a->∃x y,xs[j]?=some x/\ys[j]?=some y/\IsPair h a x y
theorem ZG.there{lo:Addr}{h:Heap}(g:ZG xs ys lo h as)(ha:a∈as):a<h.objs.size:=by
 obtain⟨j,hj⟩:=List.mem_iff_getElem?.mp ha;obtain⟨_,_,_,_,e⟩:=g.pairs j a hj;exact Ir e
section
variable {prog:Program}{w:World}{A:Around}{E:Value->Shared->Prop}{s:Shared}{z TI TO i1 i2 l1 l2 S:Addr}{xs ys:Array Value}{i:Nat}
theorem ZSt.keep{h h':Heap}(x:ZSt h z TI TO i1 i2 l1 l2 S xs ys i)(D:ZipApart z TI TO i1 i2 l1 l2)(hk:∀b o,b≠S->h.get? b=some o->h'.get? b=some o)(hS:∀b∈[z,TI,TO,i1,i2,l1,l2],b≠S):ZSt h' z TI TO i1 i2 l1 l2 S xs ys i:=by
 have q:∀b∈[z,TI,TO,i1,i2,l1,l2],∀o,h.get? b=some o->h'.get? b=some o:=λb hb o e=>hk b o (hS b hb) e
 refine⟨q TI (by simp) _ x.ti,x.a.at λo e=>q i1 (by simp) o e,x.b.at λo e=>q i2 (by simp) o e,x.la.at λo e=>q l1 (by simp) o e,x.lb.at λo e=>q l2 (by simp) o e,?_⟩
 rcases x.o with ⟨e,h1,c,d,h2⟩|⟨T,f,oa,h1,h2,h3,h4,h5,h6⟩
 ·exact .inl ⟨e,q z (by simp) _ h1,c,d,q TO (by simp) _ h2⟩
 ·exact .inr ⟨T,f,oa,q z (by simp) _ h1,hk T _ h6 h2,h3,h4,h5,h6⟩
theorem ZSt.item{x y:Value}{Q:Option Value->Shared->Prop}(st:ZSt s.heap z TI TO i1 i2 l1 l2 S xs ys i)(D:ZipApart z TI TO i1 i2 l1 l2)(hS:S<s.heap.objs.size)(hx:xs[i]?=some x)(hy:ys[i]?=some y)
  (hQ:∀h',ZSt h' z TI TO i1 i2 l1 l2 S xs ys (i+1)->IsPair h' s.heap.objs.size x y->h'.objs.size=s.heap.objs.size+1->(∀c o,c≠z->c≠TO->c≠i1->c≠i2->s.heap.get? c=some o->h'.get? c=some o)->Q (some (.ref s.heap.objs.size)) {s with heap:=h'}) :
  wpAny (model prog w) A (pyNext (.ref z)) Q E s:=by
 have lt:∀{c o},s.heap.get? c=some o->s.heap.objs.size≠c:=λe=>Nat.ne_of_gt (Ir e)
 have a1:s.heap.objs.size≠i1:=by obtain⟨_,e,_⟩:=st.a;exact lt e
 have a2:s.heap.objs.size≠i2:=by obtain⟨_,e,_⟩:=st.b;exact lt e
 rcases st.o with ⟨rfl,h1,c,d,h2⟩|⟨T,f,oa,h1,h2,h3,h4,h5,h6⟩
 ·refine wpAny_pyNext_zip_item D h1 st.ti h2 st.a st.b st.la st.lb hx hy λh' b1 b2 b3 b4 b5 b6 k=>hQ h' ⟨k _ _ D.TIz D.TITO D.TIi1 D.TIi2 st.ti,b3,b4,st.la.at λo e=>k _ o D.l1z D.l1TO D.l1i1 D.l1i2 e,st.lb.at λo e=>k _ o D.l2z D.l2TO D.l2i1 D.l2i2 e,.inr ⟨_,false,_,b1,b5,lt h1,a1,a2,Nat.ne_of_gt hS⟩⟩ b5 b6 k
 ·refine zH D h1 h2 st.ti st.a st.b st.la st.lb hx hy λh' b1 b3 b4 b5 b6 k=>hQ h' ⟨k _ _ D.TIz D.TIi1 D.TIi2 st.ti,b3,b4,st.la.at λo e=>k _ o D.l1z D.l1i1 D.l1i2 e,st.lb.at λo e=>k _ o D.l2z D.l2i1 D.l2i2 e,.inr ⟨T,true,oa,b1,k _ _ h3 h4 h5 h2,h3,h4,h5,h6⟩⟩ b5 b6 λc o c1 _ c3 c4 e=>k c o c1 c3 c4 e
theorem ZSt.done{Q:Option Value->Shared->Prop}(hh:A.handled=none)(st:ZSt s.heap z TI TO i1 i2 l1 l2 S xs ys i)(D:ZipApart z TI TO i1 i2 l1 l2)(LZ:xs[i]?=none\/ys[i]?=none)
  (hQ:∀h',(∀c o,c≠z->c≠TO->c≠i1->c≠i2->s.heap.get? c=some o->h'.get? c=some o)->Q none {s with heap:=h'}):wpAny (model prog w) A (pyNext (.ref z)) Q E s:=by
 rcases st.o with ⟨rfl,h1,c,d,h2⟩|⟨T,f,oa,h1,h2,h3,h4,h5,h6⟩
 ·exact wpAny_pyNext_zip_end hh D h1 st.ti h2 st.a st.b st.la st.lb LZ hQ
 ·exact DN hh D h1 h2 st.ti st.a st.b st.la st.lb LZ λh' k=>hQ h' λc o c1 _ c3 c4 e=>k c o c1 c3 c4 e
end
section
variable {prog:Program}{w:World}{A:Around}{s:Shared}{R:Result->Shared->Prop}{z TI TO i1 i2 l1 l2 S lo:Addr}{xs ys:Array Value}
theorem zW(hh:A.handled=none)(D:ZipApart z TI TO i1 i2 l1 l2)(hS:∀b∈[z,TI,TO,i1,i2,l1,l2],b≠S)(M8:∀b∈[z,TO,i1,i2,S],b<lo)(n:Nat)(hn:n=min xs.size ys.size)(hz:n<=sizeLine)(res:Value){h₁:Heap}
  (hR:∀h' tk acc c as,(∀b o,b≠S->b∉[z,TO,i1,i2]->h₁.get? b=some o->h'.get? b=some o)->h'.get? S=some {cls:=.type "list",dict:=none,data:=.seq acc c,slots:=#[]}->as.length=n->ZG xs ys lo h' as->
   acc.toList=as.map Value.ref->R (.ok (.ret res)) {s with heap:=h',toks:=tk}) :
  ∀(k i:Nat)(h:Heap)(tk c:Nat)(acc:Array Value)(as:List Addr),n-i=k->i<=n->ZSt h z TI TO i1 i2 l1 l2 S xs ys i->(∀b o,b≠S->b∉[z,TO,i1,i2]->h₁.get? b=some o->h.get? b=some o)->
   h.get? S=some {cls:=.type "list",dict:=none,data:=.seq acc c,slots:=#[]}->acc.toList=as.map Value.ref->as.length=i->ZG xs ys lo h as->lo<=h.objs.size->
   codeAny (model prog w) A (.builtin "list.extend.loop" ⟨[.ref S,.ref z,res],[]⟩) R {s with heap:=h,toks:=tk}:=by
 have nS:∀b∈[z,TO,i1,i2],S≠b:=λb hb=>IB (hS b (by simp only[Iv,Jh,or_false]at hb ⊢;rcases hb with rfl|rfl|rfl|rfl<;>simp))
 intro k
 induction k with
 |zero=>
  intro i h tk c acc as hk hi Kb Lw hL KG MQ hG Pw;have Lg:i=n:=by omega
  refine codeAny_builtin PySem.F.entry_extend_loop ?_;rw[Around.under_plainId PySem.F.plain_extend_loop _];show wpAny _ A.in1 (pyNext (.ref z) >>=_) _ _ _;refine Fr (ZSt.done (s:={s with heap:=h,toks:=tk}) (A:=A.in1) hh Kb D (by
   have:xs.size<=i\/ys.size<=i:=by omega
   rcases this with q|q
   ·exact .inl (Array.getElem?_eq_none q)
   ·exact .inr (Array.getElem?_eq_none q)) λh' he=>?_)
  have MA:∀b o,b∉[z,TO,i1,i2]->h.get? b=some o->h'.get? b=some o:=λb o hb e=>by
   simp only[Iv,Jh,or_false,not_or]at hb;exact he b o hb.1 hb.2.1 hb.2.2.1 hb.2.2.2 e
  refine Ik (hR h' tk acc c as (λb o h1 h2 e=>MA b o h2 (Lw b o h1 h2 e)) (MA S _ (λhb=>nS S hb rfl) hL) (by omega) ⟨hG.rise,hG.above,λj a hj=>?_⟩ KG)
  obtain⟨x,y,e1,e2,e3⟩:=hG.pairs j a hj;have ha:=hG.above a (IW hj);exact⟨x,y,e1,e2,MA a _ (λhb=>absurd (M8 a (by simp only[Iv,Jh,or_false]at hb ⊢;rcases hb with rfl|rfl|rfl|rfl<;>simp)) (Nat.not_lt.mpr ha)) e3⟩
 |succ k ih=>
  intro i h tk c acc as hk hi Kb Lw hL KG MQ hG Pw;have hx:xs[i]?=some (xs[i]'(by omega)):=Array.getElem?_eq_getElem _
  have hy:ys[i]?=some (ys[i]'(by omega)):=Array.getElem?_eq_getElem _
  have hsz:acc.size=i:=by rw[<-Array.length_toList,KG,ID,MQ]
  refine codeAny_builtin PySem.F.entry_extend_loop ?_;rw[Around.under_plainId PySem.F.plain_extend_loop _];show wpAny _ A.in1 (pyNext (.ref z) >>=_) _ _ _;refine Fr (ZSt.item (s:={s with heap:=h,toks:=tk}) (S:=S) Kb D (Ir hL) hx hy λh' K9 ht NU QA=>?_)
  dsimp only at ht NU QA ⊢;have MR:∀b o,b∉[z,TO,i1,i2]->h.get? b=some o->h'.get? b=some o:=λb o hb e=>by
   simp only[Iv,Jh,or_false,not_or]at hb;exact QA b o hb.1 hb.2.1 hb.2.2.1 hb.2.2.2 e
  have NV:=MR S _ (λhb=>nS S hb rfl) hL
  have up:∀b o,b≠S->h'.get? b=some o->(h'.update S (Obj.mapSeq (·.push (Value.ref h.objs.size)))).get? b=some o:=λb o hb e=>(IQ _ _ (IB hb)).trans e
  have QC:S<h.objs.size:=Ir hL;show wpAny _ A.in1 (updateSeq S (·.push (Value.ref h.objs.size)) >>=_) _ _ _;refine Fr ?_;refine wpAny_updateSeq NV rfl (Ik ⟨plainId_quiet PySem.F.plain_extend_loop _,ih (i+1) _ tk _ (acc.push (Value.ref h.objs.size)) (as++[h.objs.size]) (by omega) (by omega) (K9.keep D up hS)
   (λb o h1 h2 e=>up b o h1 (MR b o h2 (Lw b o h1 h2 e))) (Jb _ NV rfl) (by rw[Array.toList_push,KG,Jj];rfl) (by rw[Je,MQ];rfl) ⟨?_,?_,?_⟩ ?_⟩) (by rw[hsz];omega) (by show (acc.push (Value.ref h.objs.size)).size<=sizeLine+1;rw[Array.size_push,hsz];omega)
  ·refine List.pairwise_append.mpr ⟨hG.rise,List.pairwise_singleton _ _,λa ha b hb=>?_⟩
   rw[IY.mp hb];exact hG.there ha
  ·intro a ha;rcases IX.mp ha with ha|ha
   ·exact hG.above a ha
   ·rw[IY.mp ha];exact Pw
  ·intro j b hj;rcases Nat.lt_trichotomy j as.length with h1|h1|h1
   ·rw[List.getElem?_append_left h1]at hj;obtain⟨x',y',e1,e2,e3⟩:=hG.pairs j b hj;have hb:=hG.above b (IW hj);exact⟨x',y',e1,e2,up b _ (Nat.ne_of_gt (Iw (M8 S (by simp)) hb)) (MR b _ (λMO=>absurd (M8 b (by simp only[Iv,Jh,or_false]at MO ⊢;rcases MO with rfl|rfl|rfl|rfl<;>simp)) (Nat.not_lt.mpr hb)) e3)⟩
   ·subst h1;have hb:h.objs.size=b:=by simpa using hj
    subst hb;exact⟨_,_,by rw[MQ];exact hx,by rw[MQ];exact hy,up _ _ (Nat.ne_of_gt QC) ht⟩
   ·have N3:(as++[h.objs.size])[j]?=none:=List.getElem?_eq_none (by rw[Je,List.length_singleton];omega)
    rw[N3]at hj;cases hj
  ·have e:(h'.update S (Obj.mapSeq (·.push (Value.ref h.objs.size)))).get? h.objs.size=_:=up _ _ (Nat.ne_of_gt QC) ht;exact Nat.le_of_lt (Nat.lt_of_le_of_lt Pw (Ir e))
end
section
variable {prog:Program}{w:World}{A:Around}{E:Value->Shared->Prop}{s:Shared}{R:Result->Shared->Prop}{z TI TO i1 i2 l1 l2 S lo:Addr}{xs ys:Array Value}
theorem tK(hh:A.handled=none)(D:ZipApart z TI TO i1 i2 l1 l2)(st:ZSt s.heap z TI TO i1 i2 l1 l2 S xs ys 0)(hS:∀b∈[z,TI,TO,i1,i2,l1,l2],b≠S)(M8:∀b∈[z,TO,i1,i2,S],b<lo)(hl:lo<=s.heap.objs.size)(hz:min xs.size ys.size<=sizeLine)(res:Value)(Qc:Nat)(hL:s.heap.get? S=some {cls:=.type "list",data:=.seq #[] Qc})
  (hR:∀h' tk acc c as,(∀b o,b≠S->b∉[z,TO,i1,i2]->s.heap.get? b=some o->h'.get? b=some o)->h'.get? S=some {cls:=.type "list",dict:=none,data:=.seq acc c,slots:=#[]}->as.length=min xs.size ys.size->ZG xs ys lo h' as->
   acc.toList=as.map Value.ref->R (.ok (.ret res)) {s with heap:=h',toks:=tk}) :
  wpAny (model prog w) A.in1 (Builtin.List.listExtendWith (.ref S) (.ref z) res)
   (λfin s'=>match fin with|.done f=>R (.ok f) s'|.again c'=>c'.quiet=true/\codeAny (model prog w) A c' R s') (λe s'=>R (.error e) s') s:=by
 have hT:s.TypeIs (.ref z) "zip":=by
  rcases st.o with ⟨_,h1,_⟩|⟨_,_,_,h1,_⟩
  ·exact⟨_,h1,rfl⟩
  ·exact⟨_,h1,rfl⟩
 have QD:∃f0 f1,s.heap.get? z=some {cls:=.type "zip",dict:=none,data:=.fields #[f0,f1,.bool false,.ref TI,.ref TO],slots:=#[]}:=by
  rcases st.o with ⟨_,h1,_⟩|⟨_,_,_,h1,_⟩
  ·exact⟨_,_,h1⟩
  ·exact⟨_,_,h1⟩
 have key:∀(h:Heap)(MZ tk:Nat),(∀b o,b≠S->s.heap.get? b=some o->h.get? b=some o)->h.get? S=some {cls:=.type "list",data:=.seq #[] MZ}->lo<=h.objs.size->
   codeAny (model prog w) A (.builtin "list.extend.loop" ⟨[.ref S,.ref z,res],[]⟩) R {s with heap:=h,toks:=tk}:=by
  intro h MZ tk hk N4 RT;exact zW (h₁:=s.heap) hh D hS M8 _ rfl hz res hR _ 0 h tk MZ #[] [] (Nat.sub_zero _) (Nat.zero_le _) (st.keep D hk hS) (λb o hb _ e=>hk b o hb e) N4 rfl rfl ⟨List.Pairwise.nil,(λ_ ha=>nomatch ha),(λj a hj=>by simp at hj)⟩ RT
 unfold Builtin.List.listExtendWith;refine Fr (wpAny_typeOf hT ?_);have h1:Builtin.List.listSameRef (.ref S) (.ref z)=false:=by simp[Builtin.List.listSameRef,IB (hS z (by simp))]
 have h2:(Value.type "zip" == Value.type "list")=false:=by decide
 have h3:(Value.type "zip" == Value.type "tuple")=false:=by decide
 simp only[h1,h2,h3,Bool.or_false,Jf,if_false];have N5:∀{Q:Value->Shared->Prop}{E:Value->Shared->Prop},Q (.ref z) s->wpAny (model prog w) A.in1 (pyIter (.ref z)) Q E s:=λ{Q E} h=>by
  refine wpAny_pyIter_slot hT PySem.F.slot_zip_iter (Jq PySem.F.slot_zip_iter hT PySem.F.entry_zip_iter ?_ (PySem.F.args_zip_iter_1 _));show wpAny _ _ (ret (.ref z)) _ _ s;exact Ik ⟨_,rfl,"zip",_,hT,PySem.F.slot_zip_next.lookup,h⟩
 refine Fr (N5 ?_);refine Fr (Jc ?_);unfold Builtin.List.listLengthHint;refine Fr (wpAny_specialOf hT oy ?_);show wpAny _ A.in1 (specialOf (Value.ref z) (Str.ofString "__length_hint__") >>=_) _ _ _;refine Fr (wpAny_specialOf hT nU ?_);refine Ik ?_;show wpAny _ A.in1 (rule "list.extend.makes-room" >>=λ_=>Builtin.List.listTouch (.ref S) >>=λ_=>
  again (.builtin "list.extend.loop" ⟨[.ref S,.ref z,res],[]⟩)) _ _ _
 refine Fr (wpAny_rule ?_);refine Fr ?_;show wpAny _ A.in1 (updateSeq S (·.push .none) >>=λ_=>updateSeq S (·.pop)) _ _ _
 refine Fr (wpAny_updateSeq hL rfl ?_);have KH:=Jb (Obj.mapSeq (·.push Value.none)) hL rfl;refine wpAny_updateSeq (hz:=by seq_fits) KH rfl ?_
 have N6:=Jb (Obj.mapSeq (·.pop)) KH rfl;refine Ik ⟨plainId_quiet PySem.F.plain_extend_loop _,key _ _ _ (λb o hb e=>?_) N6 ?_⟩
 ·exact (IQ _ _ (IB hb)).trans ((IQ _ _ (IB hb)).trans e)
 ·rw[Heap.size_update,Heap.size_update];exact hl
theorem zA{Q:Value->Shared->Prop}(hh:A.handled=none)(D:ZipApart z TI TO i1 i2 l1 l2)(hz:IsZip s.heap z TI TO .none)(Ng:IsPair s.heap TI (.ref i1) (.ref i2))(QE:∃c d,IsPair s.heap TO c d)
  (h1:s.heap.IsListIter i1 l1 0)(h2:s.heap.IsListIter i2 l2 0)(LH:s.heap.IsList l1 xs)(K4:s.heap.IsList l2 ys) (hn:min xs.size ys.size<=sizeLine)
  (hQ:∀h' tk acc c as,(∀b o,b∉[z,TO,i1,i2]->s.heap.get? b=some o->h'.get? b=some o)->h'.get? s.heap.objs.size=some {cls:=.type "list",dict:=none,data:=.seq acc c,slots:=#[]}->as.length=min xs.size ys.size->ZG xs ys (s.heap.objs.size+1) h' as->
   acc.toList=as.map Value.ref->Q (.ref s.heap.objs.size) {s with heap:=h',toks:=tk}) :
  wpAny (model prog w) A (call (.type "list") [.ref z]) Q E s:=by
 have lt:∀{c o},s.heap.get? c=some o->c<s.heap.objs.size:=λe=>Ir e
 have H_:∀b∈[z,TI,TO,i1,i2,l1,l2],b<s.heap.objs.size:=λb hb=>by
  obtain⟨_,_,h3⟩:=QE;obtain⟨_,e1,_⟩:=id h1;obtain⟨_,e2,_⟩:=id h2;obtain⟨_,e3,_⟩:=id LH;obtain⟨_,e4,_⟩:=id K4;simp only[Iv,Jh,or_false]at hb;rcases hb with rfl|rfl|rfl|rfl|rfl|rfl|rfl
  ·exact lt hz
  ·exact lt Ng
  ·exact lt h3
  ·exact lt e1
  ·exact lt e2
  ·exact lt e3
  ·exact lt e4
 refine callType_codes (Q₁:=λobj p_=>obj=.ref s.heap.objs.size/\p_={s with heap:=s.heap.push {cls:=.type "list",data:=.seq #[]}}) PySem.F.called_list (PySem.F.typeCall_list_1 _) PySem.F.entry_list_init
  (code_list_new _ ⟨rfl,rfl⟩) λobj p_ h₁=>?_
 obtain⟨rfl,rfl⟩:=h₁;have hS:(s.heap.push {cls:=.type "list",data:=.seq #[]}).get? s.heap.objs.size=some {cls:=.type "list",data:=.seq #[]}:=Iz _ rfl;refine⟨⟨_,hS,rfl⟩,PySem.F.args_list_init_2 _ _,?_⟩;show wpAny _ _ (do let Kf<-Builtin.List.listItems (.ref s.heap.objs.size);Builtin.List.listUpdate (.ref s.heap.objs.size) (λ_=>#[]);letGo Kf.toList.reverse;Builtin.List.listExtendWith (.ref s.heap.objs.size) (.ref z) .none) _ _ _
 refine Fr ?_;unfold Builtin.List.listItems;refine Fr (wpAny_seqItems hS rfl (Ik ?_));show wpAny _ _ (updateSeq s.heap.objs.size (λ_=>#[]) >>=λ_=>letGo (#[]:Array Value).toList.reverse >>=λ_=>Builtin.List.listExtendWith (.ref s.heap.objs.size) (.ref z) .none) _ _ _
 refine Fr (wpAny_updateSeq hS rfl ?_);have KH:=Jb (Obj.mapSeq (λ_=>(#[]:Array Value))) hS rfl
 have Kv:∀b o,s.heap.get? b=some o->((s.heap.push {cls:=.type "list",data:=.seq #[]}).update s.heap.objs.size (Obj.mapSeq (λ_=>(#[]:Array Value)))).get? b=some o:=
  λb o e=>(IQ _ _ (Nat.ne_of_gt (lt e))).trans (Il _ e)
 refine Fr (wpAny_letGo ?_);have RU:s.heap.objs.size+1<=((s.heap.push {cls:=.type "list",data:=.seq #[]}).update s.heap.objs.size (Obj.mapSeq (λ_=>(#[]:Array Value)))).objs.size:=Ir KH
 refine tK (A:=A.in1) (s:={s with heap:=(s.heap.push {cls:=.type "list",data:=.seq #[]}).update s.heap.objs.size (Obj.mapSeq (λ_=>(#[]:Array Value)))}) (lo:=s.heap.objs.size+1) hh D ⟨Kv _ _ Ng,h1.at λo e=>Kv _ o e,h2.at λo e=>Kv _ o e,LH.at λo e=>Kv _ o e,K4.at λo e=>Kv _ o e,.inl ⟨rfl,Kv _ _ hz,let ⟨c,d,e⟩:=QE;⟨c,d,Kv _ _ e⟩⟩⟩ (λb hb=>IM (H_ b hb)) (λb hb=>?_) RU hn .none _ KH (λh' tk acc c as hk LF hl hG KG=>?_)
 ·simp only[Iv,Jh,or_false]at hb;rcases hb with rfl|rfl|rfl|rfl|rfl
  ·exact Nat.lt_succ_of_lt (H_ _ (by simp))
  ·exact Nat.lt_succ_of_lt (H_ _ (by simp))
  ·exact Nat.lt_succ_of_lt (H_ _ (by simp))
  ·exact Nat.lt_succ_of_lt (H_ _ (by simp))
  ·exact Nat.lt_succ_self _
 ·exact⟨rfl,hQ h' tk acc c as (λb o hb e=>hk b o (IM (lt e)) hb (Kv b o e)) LF hl hG KG⟩
end
section
variable {X:Cx}{s:Shared}{h':Heap}
theorem Inv.grown(I:Inv X a_ σ H s)(k:∀b u,s.heap.get? b=some u->h'.get? b=some u)(he:∀b,b<s.heap.objs.size->H' b=H b)(new:∀b u,s.heap.objs.size<=b->H' b=some u->ObjOk X.prog X.w H' h' b u) :
  Inv X a_ σ H' {s with heap:=h',toks:=t'}:=by
 have up:∀b u,H b=some u->H' b=some u:=λb u e=>(he b (I.h_.lt e)).trans e
 refine I.un ⟨λb o e _ _ _=>k b o e,λb o e _ _ _=>⟨o.slots,k b o e⟩,λb o e n _=>(he b (Ir e)).trans n,λb o e _=>⟨o,k b o e⟩,λb xs e=>up b _ e,λb o u e=>up b _ e,λb ps e=>⟨#[],by rw[up b _ e];simp⟩⟩ λb u e=>?_
 by_cases hb:b<s.heap.objs.size
 ·rw[he b hb]at e;exact (I.h_ b u e).stay (λc v _ q=>k c v q) (λc q=>up c _ q) λc xs q=>up c _ q
 ·exact new b u (Nat.not_lt.mp hb) e
end
theorem yz:∀as:List Addr,Vals (as.map V.ref) (as.map Value.ref)
 |[]=>.nil
 |_::r=>.cons rfl (yz r)
noncomputable def gm:List Addr->List V->List V->Hp->Hp
 |a::as,v::vs,u::us,H=>upd (gm as vs us H) a (.tup [v,u])
 |_,_,_,H=>H
theorem dM:∀{as:List Addr}{vs us:List V},b∉as->gm as vs us H b=H b
 |[],_,_,_=>by simp[gm]
 |a::as,[],_,_=>by simp[gm]
 |a::as,_::_,[],_=>by simp[gm]
 |a::as,v::vs,u::us,h=>by
  rw[gm,ae (λz=>h (by simp[z])),dM λz=>h (Io _ z)]
theorem lT:∀{as:List Addr}{vs us:List V}{j:Nat},as.Pairwise (· < ·)->as[j]?=some a->vs[j]?=some v->us[j]?=some u->gm as vs us H a=some (.tup [v,u])
 |[],_,_,_,_,e,_,_=>by simp at e
 |_::_,[],_,_,_,_,e,_=>by simp at e
 |_::_,_::_,[],_,_,_,_,e=>by simp at e
 |b::as,v'::vs,u'::us,0,_,e1,e2,e3=>by
  simp at e1 e2 e3;subst e1;subst e2;subst e3;rw[gm,ag]
 |b::as,v'::vs,u'::us,j+1,hp,e1,e2,e3=>by
  have hb:=List.pairwise_cons.mp hp;have MC:as[j]?=some a:=by simpa using e1
  rw[gm,ae (Nat.ne_of_gt (hb.1 a (IW MC)))];exact lT hb.2 MC (by simpa using e2) (by simpa using e3)
theorem uF:∀{as:List Addr}{vs us:List V},as.length=min vs.length us.length->b∈as->gm as vs us H b=some o->as.Pairwise (· < ·)->∃(j:Nat)(v u:V),as[j]?=some b/\vs[j]?=some v/\us[j]?=some u/\o=.tup [v,u]:=λ{as vs us} hl hb e hp=>by
 obtain⟨j,hj⟩:=List.mem_iff_getElem?.mp hb;have OK:j<as.length:=(IC.mp hj).1;have h1:vs[j]?=some (vs[j]'(by omega)):=IG _
 have h2:us[j]?=some (us[j]'(by omega)):=IG _
 rw[lT hp hj h1 h2]at e;cases e;exact⟨j,_,_,hj,h1,h2,rfl⟩
theorem nt{K:JJ}:∀(as:List Addr)(vs us:List V)(ds es:List D),as.length=min vs.length us.length->DenL K H ds vs->DenL K H es us->(∀(j:Nat) a v u,as[j]?=some a->vs[j]?=some v->us[j]?=some u->H a=some (.tup [v,u]))->DenL K H (dZ ds es) (as.map V.ref)
 |[],vs,us,ds,es,hl,d1,d2,_=>by
  have l1:=d1.length;have l2:=d2.length;have hz:(dZ ds es).length=0:=by simp only[dZ,ID,List.length_zip];simp at hl;omega
  rw[List.eq_nil_of_length_eq_zero hz];rfl
 |a::as,[],_,_,_,hl,_,_,_=>by simp at hl
 |a::as,_::_,[],_,_,hl,_,_,_=>by simp at hl
 |a::as,v::vs,u::us,[],_,_,d1,_,_=>by have:=d1.length;simp at this
 |a::as,v::vs,u::us,_::_,[],_,_,d2,_=>by have:=d2.length;simp at this
 |a::as,v::vs,u::us,d::ds,e::es,hl,d1,d2,h=>by
  obtain⟨v',r,e1,a1,b1⟩:=d1;cases e1;obtain⟨u',r',e2,a2,b2⟩:=d2;cases e2;refine⟨.ref a,as.map V.ref,rfl,⟨a,[v,u],rfl,.inl (.inl (h 0 a v u rfl rfl rfl)),⟨v,[u],rfl,a1,⟨u,[],rfl,a2,rfl⟩⟩⟩,?_⟩;exact nt as vs us ds es (by simp at hl ⊢;omega) b1 b2 λj a v u q1 q2 q3=>h (j+1) a v u (by simpa using q1) (by simpa using q2) (by simpa using q3)
theorem yK{X:Cx}{cls:Nat->Addr}{E2:St->XK}{a b:Expr}{ta tb:St3->MH->VK3->XN->Prop}{p pos p' JP:Pos}{fz:Bool}(hc:X.calm=true)(Px:Gl X "list")(RV:X.mg "list"=none)(hg:Gl X "zip")(hm:X.mg "zip"=none)(ha:PE X a (low X.K cls E2 ta))(hb:PE X b (low X.K cls E2 tb))(hs:starEach [a,b] X.env=[(false,eval a X.env),(false,eval b X.env)])(Kc:starEach [b] X.env=[(false,eval b X.env)]) :
  PE X (.Call (.Name "list" p') [.Call (.Name "zip" p) [a,b] [] pos] [] JP) (low X.K cls E2 λσ M Q E=>ta σ M (λx M1=>tb σ M1 (λy M2=>rLz fz x y M2 Q) E) E):=by
 intro a_ s σ H Q2 I i_;refine ex9 i_ λg_ M Q E3 rm ds lk h b_=>?_
 refine wpAny_Call_Name_kw (dE I Px RV (u:=.type "list") (by decide +kernel) ?_)
 refine PyProof.Rows.callWith_type1 ?_;refine Calls.spliced_cons ?_;refine Call_ (dE I hg hm (u:=.type "zip") (by decide +kernel) (PyProof.Rows.callWith_type1 (thn ((aK ha (aK hb pa_nil Kc) (by rw[hs,Kc])) pos a_ s σ H (λvs H1=>∃v u x y M1,vs=[v,u]/\Den X.K H1 x v/\Den X.K H1 y u/\RelM X.K M1 H1/\TM X.K H H1/\rLz fz x y M1 Q) I ?_) λus s1 ⟨vs,H1,I1,r1,q1⟩=>?_) (by rw[hs,Kc]) (by rw[Kc];rfl)))
 ·exact pH rm ds lk h λv w H2 x y M2 dx dy C_ t2 q2=>⟨v,w,x,y,M2,rfl,dx,dy,C_,t2,q2⟩
 ·obtain⟨v,u,x,y,M1,rfl,dx,dy,l_,t1,q⟩:=q1;cases x with
  |e_ es=>
   cases y with
   |e_ fs=>
    obtain⟨c,vs,rfl,sq,dl⟩:=dx;obtain⟨d,ws,rfl,LU,Ki⟩:=dy;obtain⟨u1,u2,rfl,ru,JX⟩:=r1.two;cases ru;cases JX;obtain⟨its,rv,pl,hz⟩:=I1.list sq.sq;obtain⟨q_,MP,Nf,NY⟩:=I1.list LU.sq;have a1:c<s1.heap.objs.size:=by obtain⟨_,_,e,_⟩:=pl;exact Ir e
    have a2:d<s1.heap.objs.size:=by obtain⟨_,_,e,_⟩:=Nf;exact Ir e
    refine call_zip_2 pl.isList Nf.isList λh' h1 h2 h3 h4 h5 hsz k=>?_
    refine Calls.spliced_nil ?_;have LH:h'.IsList c its.toArray:=pl.isList.at λo e=>k _ o e
    have K4:h'.IsList d q_.toArray:=Nf.isList.at λo e=>k _ o e
    have e1:=rv.length;have e2:=MP.length;have N7:min its.toArray.size q_.toArray.size=min vs.length ws.length:=by simp[e1,e2]
    refine zA (s:={s1 with heap:=h'}) (I.ok.hd hc) (zipApart_new a1 a2) h1 h2 ⟨_,_,h3⟩ h4 h5 LH K4 (by rw[N7];omega) λNc tk acc cc as hk hS hl hG KG=>?_
    have Kp:∀b o,s1.heap.get? b=some o->Nc.get? b=some o:=λb o e=>hk b o (λhb=>by
     have:=Ir e;simp only[Iv,Jh,or_false]at hb;rcases hb with z|z|z|z<;>(rw[z]at this;first|exact absurd this (Nat.not_lt.mpr (JD _ _))|exact absurd this (Js _))) (k b o e)
    have Kj:∀b∈as,s1.heap.objs.size<b:=λb hb=>by
     have h6:h'.objs.size+1<=b:=hG.above b hb;omega
    have RW:h'.objs.size∉as:=λhb=>by
     have h6:h'.objs.size+1<=h'.objs.size:=hG.above _ hb;omega
    have Mf:as.length=min vs.length ws.length:=by rw[hl];exact N7
    have RX:H1 h'.objs.size=none:=I1.h_.fresh (by omega)
    have QF:∀b,b<s1.heap.objs.size->gm as vs ws H1 b=H1 b:=λb hb=>dM λz=>by have:=Kj b z;omega
    have up:∀b o,H1 b=some o->gm as vs ws H1 b=H1 b:=λb o e=>QF b (I1.h_.lt e)
    have I2:Inv X a_ σ (upd (gm as vs ws H1) h'.objs.size (.lst (as.map V.ref))) {s1 with heap:=Nc,toks:=tk}:=I1.grown Kp (λb hb=>by rw[ae (IM (by omega)),QF b hb]) λb o hb e=>by
     by_cases LS:b=h'.objs.size
     ·subst LS;rw[ag]at e;cases e;refine⟨by rw[ID];omega,as.map Value.ref,cc,yz as,?_⟩
      rw[<-KG];simpa using hS
     ·rw[ae LS]at e;by_cases LI:b∈as
      ·obtain⟨j,v,u,q1,q2,q3,rfl⟩:=uF Mf LI e hG.rise;obtain⟨x,y,q4,q5,q6⟩:=hG.pairs j b q1;obtain⟨x',q7,rx⟩:=rv.get q2;obtain⟨y',q8,ry⟩:=MP.get q3;have RY:its[j]?=some x:=by simpa using q4
       have RZ:q_[j]?=some y:=by simpa using q5
       rw[RY]at q7;cases q7;rw[RZ]at q8;cases q8;exact⟨by show 2<=sizeLine;decide,[x,y],.cons rx (.cons ry .nil),⟨_,q6,rfl,_,rfl⟩⟩
      ·rw[dM LI,I1.h_.fresh hb]at e;cases e
    have KI:TM X.K H1 (gm as vs ws H1):=.un (λb xs e=>(up b _ e).trans e) λb o u e=>(up b _ e).trans e
    exact cA I2 (by rw[dM RW];exact RX) (nt as vs ws es fs Mf (dl.mono KI) (Ki.mono KI) λj a v u q1 q2 q3=>lT hG.rise q1 q2 q3) (λa o e=>by
     obtain⟨u,hu⟩:=(l_ a o e).tracked;exact (l_ a o e).stay KI (up a u hu)) (t1.trans KI) q b_
   |_=>exact q.elim
  |_=>exact q.elim
section
variable {X:Cx}
noncomputable def Itv(K:JJ)(a:Addr)(n:Nat):It:=
 ⟨λi H=>∃xs,SqL K H a xs/\xs.length=n/\i<n,λi H x H'=>H'=H/\∀xs,SqL K H a xs->xs[n-1-i]?=some x,λi H=>i=n⟩
theorem ur{K:JJ}(a it:Addr)(n:Nat):Turn P w K tg (Itv K a n) [it] it (λi h=>h.IsRevIter it a ((n:Int)-1-(i:Int))) where
 mem:=by simp
 obj:=λi h st b hb=>by
  have e:b=it:=by simpa using hb
  subst e;obtain⟨o,e,c,d⟩:=st;exact⟨o,e,λv z=>by rw[d]at z;cases z⟩
 keep:=λi h h' st k=>st.at λo e=>k it (by simp) o e
 item:=by
  intro X hP hw hK hc i a_ s σ H E I hf st hg;subst hP hw hK;obtain⟨xs,hq,hn,hi⟩:=hg;obtain⟨its,rv,p,hz⟩:=I.list hq;have hx:xs[n-1-i]?=some (xs[n-1-i]'(by omega)):=IG _
  obtain⟨u,hu,ru⟩:=rv.get hx;obtain⟨f0,f1,f2,f3,f4,f5⟩:=hf it (by simp)
  have e:(n:Int)-1-(i:Int)=((n-1-i:Nat):Int):=by omega
  rw[e]at st;refine wpAny_pyNext_rev_item st p.isList (x:=u) (by simpa using hu) λh' Lf sb=>?_
  have e2:((n-1-i:Nat):Int)-1=(n:Int)-1-((i+1:Nat):Int):=by omega
  rw[e2]at Lf;have I1:Inv X a_ σ H {s with heap:=h'}:=I.turned (t':=s.toks) (λb o hb e=>(sb.2 b hb).trans e) f0 f1 f3 f4 f5
  obtain⟨o,e,c,d⟩:=id Lf;exact⟨u,rfl,qv (s:={s with heap:=h'}) e c d (by decide) ⟨_,H,I1,ru,⟨rfl,λys hy=>by rw[I.list_inj hy hq];exact hx⟩,Lf,λb hb=>(hf b hb).1⟩⟩
 done:=by
  intro X hP hw hK hc i a_ s σ H E I hf st hg;subst hP hw hK;have R0:i=n:=hg;subst R0;obtain⟨f0,f1,f2,f3,f4,f5⟩:=hf it (by simp)
  have e:(i:Int)-1-(i:Int) = -1:=by omega
  rw[e]at st;exact wpAny_pyNext_rev_end (I.ok.hd hc) st λh' eb=>⟨rfl,I.turned (t':=s.toks) (λb o hb e=>eb b o hb e) f0 f1 f3 f4 f5⟩
 self:=λ_ _ _ _ _ st h=>wpAny_pyIter_revIter st h
theorem Am{K:JJ}{vs:List V}{ds:List D}(sq:SqF K H0 p vs)(dl:DenL K H0 ds vs):ItOk K H0 (Itv K p vs.length) ds.reverse (λ_=>True):=by
 have t_:=dl.length;refine⟨λi H M t rm s hi=>?_,λi H M x H' t rm s hi y=>?_,λH M t rm s=>?_⟩
 ·exact⟨vs,(t.f _ _ sq).sq,rfl,by simp at hi;omega⟩
 ·obtain⟨rfl,hv⟩:=y;obtain⟨d,e1,e2⟩:=(dl.mono t).get' (hv vs (t.f _ _ sq).sq);refine⟨.refl _,rm,d,?_,e2⟩;simp only[List.length_reverse]at hi;rw[List.getElem?_reverse hi,t_];exact e1
 ·show ds.reverse.length=vs.length;rw[List.length_reverse,t_]
noncomputable def FO(K:JJ)(ta:TA):TI:=λσ H R=>ta σ H λvs H1=>∃a xs,vs=[.ref a]/\SqL K H1 a xs/\R (Itv K a xs.length) H1
theorem zo(hg:Gl X "reversed")(hm:X.mg "reversed"=none)(ha:PA X [a] ta)(hs:starEach [a] X.env=[(false,eval a X.env)]):PI X tg (.Call (.Name "reversed" p) [a] [] pos) (FO X.K ta):=by
 intro a_ s σ H R I h;refine Call_ (dE I hg hm (u:=.type "reversed") (by decide +kernel) (PyProof.Rows.callWith_type1 (thn (ha pos a_ s σ H _ I h) λus s1 ⟨vs,H1,I1,r1,q1⟩=>?_) hs rfl))
 obtain⟨b,xs,e,hq,q⟩:=q1;subst e;obtain⟨u,rfl,ru⟩:=le r1;cases ru;obtain⟨its,rv,pl,hz⟩:=I1.list hq;refine call_reversed_list pl.isList ?_;have e1:((its.toArray.size:Nat):Int)-1=(xs.length:Int)-1-((0:Nat):Int):=by have:=rv.length;simp;omega
 rw[e1];have k:∀b o,s1.heap.get? b=some o->(s1.heap.push (revObj b ((xs.length:Int)-1-((0:Nat):Int)))).get? b=some o:=λb o e=>Il _ e
 have B_:(s1.heap.push (revObj b ((xs.length:Int)-1-((0:Nat):Int)))).IsRevIter s1.heap.objs.size b ((xs.length:Int)-1-((0:Nat):Int)):=⟨_,Iz _ rfl,rfl,rfl⟩;refine wpAny_pyIter_revIter (s:={s1 with heap:=s1.heap.push (revObj b ((xs.length:Int)-1-((0:Nat):Int)))}) B_ ?_
 refine⟨s1.heap.objs.size,[s1.heap.objs.size],_,_,H1,rfl,I1.kept (t':=s1.toks) (λc o e=>Il _ e),ur b s1.heap.objs.size xs.length,B_,λc hc=>?_,q⟩
 have e':c=s1.heap.objs.size:=by simpa using hc
 subst e';exact I1.fpOk (Iq _) (I1.h_.fresh (Iq _))
theorem D9(hg:Gl X "reversed")(hm:X.mg "reversed"=none)(ha:PE X a (low X.K cls E2 ta))(hs:starEach [a] X.env=[(false,eval a X.env)]) :
  PI X tg (.Call (.Name "reversed" p) [a] [] pos) (jb X.K cls E2 λσ M R E=>ta σ M (λx M1=>match x with
  |.e_ ds=>R ds.reverse (λ_=>True) M1
  |_=>False) E):=
 (zo hg hm (aK ha pa_nil hs) hs).imp λσ H R2 i_=>ex9 i_ λg_ M R E3 rm ds lk h k=>bn rm ds lk h λv H1 x M1 dx l_ t1 q1=>by
  cases x with
  |e_ es=>
   obtain⟨q,vs,rfl,sq,dl⟩:=dx;exact⟨q,vs,rfl,sq.sq,k _ _ _ _ _ (Am sq dl) l_ t1 q1⟩
  |_=>exact q1.elim
end
section
variable {A:Around}{s:Shared}{items:Array Value}
end
section
variable {X:Cx}
theorem Ay(rm:RelM X.K M H)(dx:Den X.K H x v)(e:ai M x=some ds):∃a vs,v=.ref a/\RdL X.K H a vs/\DenL X.K H ds vs:=by
 cases x with
 |e_ es=>
  cases e;obtain⟨a,vs,rfl,sq,dl⟩:=dx;exact⟨a,vs,rfl,sq.rd,dl⟩
 |ref a=>
  cases q:M a with
  |none=>simp[ai,q]at e
  |some o=>
   cases o with
   |lst es=>
    simp[ai,q]at e;subst e;cases (show v=.ref a from dx);obtain⟨vs,e1,dl⟩:=rm a _ q;exact⟨a,vs,rfl,.inl (.inl e1),dl⟩
   |_=>simp[ai,q]at e
 |_=>cases e
theorem t8{s:Shared}(I:Inv X a_ σ H s):(s.heap.objs.size == sysModules)=false:=by
 have h:mainGlobals<s.heap.objs.size:=(I.mod.glob.keeps I.bk).lt;have h2:sysModules<mainGlobals:=by decide
 exact IZ.mpr (Nat.ne_of_gt (Nat.lt_trans h2 h))
theorem yB(tk:Bool):PE X (.Dict [] [] pos) (low X.K cls E2 λσ M Q E=>∀p,M p=none->Q (.ref p) (put M p (if tk=true then .dt [] [] else .dk [] []))):=by
 refine λa_ s σ H Q2 I i_=>ex9 i_ λg_ M Q E3 rm ds lk q b_=>?_
 have hp:H s.heap.objs.size=none:=I.h_.fresh (Iq _);have hb:=t8 I;have q0:=q s.heap.objs.size (rm.fresh hp);cases tk with
 |false=>
  have N8:ObjOk X.prog X.w (upd H s.heap.objs.size (.dK [])) (s.heap.push {cls:=.type "dict",data:=.dict #[]}) s.heap.objs.size (.dK []):=⟨Nat.zero_le _,hb,[],.nil,Heap.DictOf.new s.heap⟩;have I1:=I.laid (a:=s.heap.objs.size) (o:=.dK []) (h':=s.heap.push {cls:=.type "dict",data:=.dict #[]}) (t':=s.toks) (λ_ _ q=>Il _ q) (Iq _) N8
  have l_:RelM X.K (put M s.heap.objs.size (.dk [] [])) (upd H s.heap.objs.size (.dK [])):=rm.lay hp ⟨[],ag,rfl,rfl⟩;exact wpAny_Dict_empty ⟨.ref s.heap.objs.size,_,I1,rfl,b_ _ _ (.ref s.heap.objs.size) _ rfl l_ (.new hp) q0⟩
 |true=>
  obtain⟨ob,es,ep,hq,hx,hd,he,_,_⟩:=(Heap.DictOfH.new (knd:=tupleKind (intKind X.prog X.w)) s.heap);have tb:aY s.heap.objs.size [] (s.heap.push {cls:=.type "dict",data:=.dict #[]}):=⟨ob,es,ep,hq,hx,hd,he⟩;have N8:ObjOk X.prog X.w (upd H s.heap.objs.size (.ext (aY s.heap.objs.size []))) (s.heap.push {cls:=.type "dict",data:=.dict #[]}) s.heap.objs.size (.ext (aY s.heap.objs.size [])):=
   ⟨tb,⟨ob,hq⟩,λg1 g2 ⟨o1,LV,LW,a1,a2,a3,a4⟩ kk=>⟨o1,LV,LW,kk _ a1,a2,a3,a4⟩⟩
  have I1:=I.laid (a:=s.heap.objs.size) (o:=.ext (aY s.heap.objs.size [])) (h':=s.heap.push {cls:=.type "dict",data:=.dict #[]}) (t':=s.toks) (λ_ _ q=>Il _ q) (Iq _) N8
  have l_:RelM X.K (put M s.heap.objs.size (.dt [] [])) (upd H s.heap.objs.size (.ext (aY s.heap.objs.size []))):=rm.lay hp ⟨[],[],ag,⟨rfl,.nil,Nat.zero_le _,hb,.nil,λx hx=>nomatch hx⟩,rfl⟩
  exact wpAny_Dict_empty ⟨.ref s.heap.objs.size,_,I1,rfl,b_ _ _ (.ref s.heap.objs.size) _ rfl l_ (.new hp) q0⟩
end
section
variable {X:Cx}
end
theorem p8:∀{ds:List D}{ps:List (Int×Int)},rT ds=some ps->ds=ps.map prD
 |[],ps,h=>by cases h;rfl
 |d::r,ps,h=>by
  unfold rT at h;split at h
  ·rename_i e;cases e
  ·rename_i a b r' e;cases e;split at h
   ·rename_i qs e2;cases h;rw[p8 e2];rfl
   ·cases h
  ·cases h
theorem jT(bt:Nat->Nat->Bool):∀k,argBest bt k<=k
 |0=>Iq _
 |k+1=>by
  unfold argBest;split
  ·exact Iq _
  ·exact Nat.le_succ_of_le (jT bt k)
theorem rG{ps:List (Int×Int)}(h:ps≠[]):vt ps∈ps:=by
 have hl:0<ps.length:=List.length_pos_iff.mpr h;unfold vt;have:=jT (λi j=>lt2 (ps.getD i (0,0)) (ps.getD j (0,0))) (ps.length-1)
 rw[List.getD_eq_getElem?_getD,IG (by omega)]
 exact Jw _
section
variable {X:Cx}{cls:Nat->Addr}{E2:St->XK}{e:Expr}{pos p:Pos}
theorem Dv{a_:List (Addr×Obj)}{σ:St}{H:Hp}{s:Shared}{Ex:Value->Shared->Prop}{x:D}{v:V}{v2:Value}{M:MH}{Q:VK3}{Q2:VK}(hc:X.calm=true)(hu:X.A.units+64<cLine)
  (I:Inv X a_ σ H s)(rv:RelV v v2)(dx:Den X.K H x v)(rm:RelM X.K M H)(q:rMp x M Q)(b_:Back X.K H Q Q2) :
  wpAny (model X.prog X.w) X.A (call (.builtin "min") [v2]) (EP X a_ σ Q2) Ex s:=by
 have hh:=I.ok.hd hc;unfold rMp at q;split at q
 ·rename_i ds e1;obtain⟨a,vs,rfl,rd,dl⟩:=Ay rm dx e1;cases rv;obtain⟨_,its,n,r,t_,hg⟩:=I.rdL rd;have hl:s.heap.IsList a its.toArray:=⟨_,hg,rfl,n,rfl⟩;split at q
  ·rename_i p0 ps e2;have el:=p8 e2;have lv:vs.length=its.length:=r.length;have ld:ds.length=vs.length:=dl.length;have lp:ds.length=(p0::ps).length:=by rw[el,ID]
   have at_:∀(i:Nat)(u:Value),its.toArray[i]?=some u->∃w,Den X.K H (prD ((p0::ps).getD i (0,0))) w/\RelV w u:=λi u hv=>by
    have hv:its[i]?=some u:=by simpa using hv
    have hi:i<its.length:=(IC.mp hv).1;have OJ:i<(p0::ps).length:=by omega
    have ed:ds[i]?=some (prD ((p0::ps).getD i (0,0))):=by
     rw[el,IJ,IG OJ,List.getD_eq_getElem?_getD,IG OJ];rfl
    obtain⟨w,w1,w2⟩:=dl.get ed;obtain⟨u',u1,u2⟩:=r.get w1;rw[hv]at u1;cases u1;exact⟨w,w2,u2⟩
   refine yV (ps:=λi=>(p0::ps).getD i (0,0)) hh (by omega) hl (by rw[IF];simp at lp;omega) (λi u hv=>?_) λu h' tk hv k=>?_
   ·obtain⟨w,w2,u2⟩:=at_ i u hv;obtain⟨b,zs,rfl,sq,dz⟩:=w2;cases u2;have ez:=DenL.int_of (ns:=[((p0::ps).getD i (0,0)).1,((p0::ps).getD i (0,0)).2]) dz;subst ez;obtain⟨Tb,r2,⟨⟨c1,dd,da,sl⟩,g2,cc,m,d2⟩,_⟩:=I.tuple sq;simp only at cc d2;subst cc d2;cases r2 with
    |cons h1 r2=>
     cases r2 with
     |cons h2 r2=>
      cases r2;obtain⟨t1,rfl⟩:=h1;obtain⟨t2,rfl⟩:=h2;exact⟨b,m,t1,t2,dd,sl,rfl,g2⟩
   ·have es:its.toArray.size=(p0::ps).length:=by rw[IF];omega
    rw[es]at hv;obtain⟨w,w2,u2⟩:=at_ _ u hv;exact⟨w,H,I.kept k,u2,b_ _ _ _ _ w2 rm (.refl _) q⟩
  ·exact q.elim
 ·exact q.elim
theorem B3{te:St3->MH->VK3->XN->Prop}(hc:X.calm=true)(hu:X.A.units+64<cLine)(ha:PE X e (low X.K cls E2 te))(hg:Gl X "min")(hm:X.mg "min"=none)(hs:starEach (e::[]) X.env=(false,eval e X.env)::starEach [] X.env) :
  PE X (.Call (.Name "min" p) [e] [] pos) (low X.K cls E2 λσ M Q E=>te σ M (λx M1=>rMp x M1 Q) E):=by
 have LD:CallR X (.builtin "min") (λvs H Q2=>∃x v M Q,vs=[v]/\Den X.K H x v/\RelM X.K M H/\rMp x M Q/\Back X.K H Q Q2):=by
  refine λa_ s σ H vs us Q2 I r i_=>ex9 i_ λx v M Q e dx rm q b_=>?_
  subst e;obtain⟨u,rfl,ru⟩:=le r;exact Dv hc hu I ru dx rm q b_
 refine (ei LD hg hm (by decide +kernel) (aK ha pa_nil hs) (by decide +kernel) (by decide +kernel) hs (by rfl)).imp λσ H Q2 i_=>ex9 i_ λg_ M Q E3 rm ds lk h b_=>?_
 exact bn rm ds lk h λv H1 x M1 dx l_ t1 q1=>⟨x,v,M1,Q,rfl,dx,l_,q1,b_.mono t1⟩
end
noncomputable def isN(i:Int):Expr->Bool
 |.Constant k _ _=>match k with
  |.int j=>decide (j=i)
  |_=>false
 |_=>false
section
variable {X:Cx}
end
section
variable {X:Cx}{A:Around}
theorem Ae{kt:List (List Int)}{k:List Int}{y:D}{v:V}{b:Addr}{R:MH->Prop}{R2:Hp->Prop}(hu:A.units+1<cLine)(I:Inv X a_ σ H s)(rm:RelM X.K M H)(q:M a=some (.dt kt ds))(sq:SqT X.K H b (k.map V.int))(dy:Den X.K H y v)(rv:RelV v r)(hz:kt.length<sizeLine)
  (h:R (put M a (.dt (ah kt k) (ak kt ds k y)))) (b_:∀H' M',RelM X.K M' H'->TM X.K H H'->R M'->R2 H'):wpAny (model X.prog X.w) A (dictSet a (.ref b) r) (λ_ s'=>∃H',Inv X a_ σ H' s'/\R2 H') E s:=by
 obtain⟨vs,xs,e,z,dl⟩:=rm a _ q;have dd:=bF I (.inl e) z;have nd:(xs.map (·.1)).Nodup:=by rw[z.kx];exact z.nd
 obtain⟨KA,h1,h2,h3,h4⟩:=fA (k:=k) (b:=b) nd z.vx rv dl dy;rw[z.kx]at h1 h3;have hsz:xs.length<=sizeLine:=by
  have:=congrArg List.length z.kx;rw[ID]at this;omega
 refine wpAny_dictSet_heap (hsz:=hsz) (show A.units<cLine by omega) (dB I sq) dd λh' LA hs=>?_
 obtain⟨ob,es,ep,hq,hx,hd,he,_,_⟩:=LA;have tw:TM X.K H (upd H a (.ext (aY a (storedH xs k b r)))):=.put e (λ_ z=>by cases z) λ_ _ z=>by cases z
 have tb:aY a (storedH xs k b r) h':=⟨ob,es,ep,hq,hx,hd,he⟩;have I':Inv X a_ σ (upd H a (.ext (aY a (storedH xs k b r)))) {s with heap:=h',toks:=s.toks+(tupleKind (intKind X.prog X.w)).draws k}:=
  gB I (by rw[e];exact True.intro) hs ⟨ob,hq⟩ ⟨tb,⟨ob,hq⟩,λg1 g2 ⟨o1,LV,LW,a1,a2,a3,a4⟩ kk=>⟨o1,LV,LW,kk _ a1,a2,a3,a4⟩⟩
 refine⟨_,I',b_ _ _ (rm.write (u:=.dt (ah kt k) (ak kt ds k y)) e (λ_ z=>by cases z) (λ_ _ z=>by cases z) ⟨KA,_,ag,⟨h1,eA z.nd,IR aO hz,z.no,h2,λx KP=>?_⟩,h3.mono tw⟩) tw h⟩
 rcases h4 x KP with ⟨q1,q2⟩|⟨x',m,q1,q2⟩
 ·rw[q1,q2];exact tw.t _ _ sq
 ·rw[<-q1,<-q2];exact tw.t _ _ (z.at_ x' m)
theorem yE(hu:X.A.units+64<cLine)(hk:PE X k (low X.K cls E2 tk))(hv:PE X v (low X.K cls E2 tv)) :
  PE X (.Dict [some k] [v] pos) (low X.K cls E2 λσ M Q E=>∀p,M p=none->tk σ (put M p (.dt [] [])) (λx M1=>tv σ M1 (λy M2=>jJ p x y M2 Q) E) E):=by
 refine λa_ s σ H Q2 I i_=>ex9 i_ λg_ M Q E3 rm ds lk q b_=>?_
 have hp:H s.heap.objs.size=none:=I.h_.fresh (Iq _);have hb:=t8 I;obtain⟨ob,es,ep,hq,hx,hd,he,_,_⟩:=(Heap.DictOfH.new (knd:=tupleKind (intKind X.prog X.w)) s.heap);have tb:aY s.heap.objs.size [] (s.heap.push {cls:=.type "dict",data:=.dict #[]}):=⟨ob,es,ep,hq,hx,hd,he⟩;have N8:ObjOk X.prog X.w (upd H s.heap.objs.size (.ext (aY s.heap.objs.size []))) (s.heap.push {cls:=.type "dict",data:=.dict #[]}) s.heap.objs.size (.ext (aY s.heap.objs.size [])):=
  ⟨tb,⟨ob,hq⟩,λg1 g2 ⟨o1,LV,LW,a1,a2,a3,a4⟩ kk=>⟨o1,LV,LW,kk _ a1,a2,a3,a4⟩⟩
 have I1:=I.laid (a:=s.heap.objs.size) (o:=.ext (aY s.heap.objs.size [])) (h':=s.heap.push {cls:=.type "dict",data:=.dict #[]}) (t':=s.toks) (λ_ _ q=>Il _ q) (Iq _) N8
 have l_:RelM X.K (put M s.heap.objs.size (.dt [] [])) (upd H s.heap.objs.size (.ext (aY s.heap.objs.size []))):=rm.lay hp ⟨[],[],ag,⟨rfl,.nil,Nat.zero_le _,hb,.nil,λx hx=>nomatch hx⟩,rfl⟩
 have KI:TM X.K H (upd H s.heap.objs.size (.ext (aY s.heap.objs.size []))):=.new hp;have q0:=q s.heap.objs.size (rm.fresh hp);have hn:=pairTrees_length [some k] [v] X.env pos rfl rfl;rw[arm_eval_Dict,zip_pairTrees [some k] [v] X.env pos rfl rfl,dictDisplay_pairs (pairTrees [some k] [v] X.env pos) (by intro z;rw[z]at hn;cases hn) (by rw[hn];show 1<17;decide)]
 refine Fr (wpAny_standAt (Fr ?_));unfold subDict;refine Fr (wpAny_alloc (Fr (Jc ?_)));rw[Iu (by rw[hn];show 1<=15;decide)]
 refine Fr (pairTrees_cons_walk ?_);refine thn (hk a_ _ σ _ (λu H2=>∃x M2,Den X.K H2 x u/\RelM X.K M2 H2/\TM X.K H H2/\tv g_ M2 (λy M3=>jJ s.heap.objs.size x y M3 Q) E3) I1
  ⟨g_,_,_,E3,l_,ds.mono KI,lk.mono KI,q0,λu H2 x M2 dx C_ t2 q2=>⟨x,M2,dx,C_,KI.trans t2,q2⟩⟩) λkv s2 ⟨u,H2,I2,ru,x,M2,dx,C_,t2,q2⟩=>?_
 refine thn (hv a_ _ σ _ (λv H3=>∃y M3,Den X.K H3 x u/\Den X.K H3 y v/\RelM X.K M3 H3/\TM X.K H H3/\jJ s.heap.objs.size x y M3 Q) I2
  ⟨g_,_,_,E3,C_,ds.mono t2,lk.mono t2,q2,λv H3 y M3 dy LX t3 q3=>⟨y,M3,dx.mono t3,dy,LX,t2.trans t3,q3⟩⟩) λvv s3 ⟨v,H3,I3,rv,y,M3,R1,dy,LX,t3,q3⟩=>?_
 refine pairTrees_nil_walk ?_;refine Jc ?_;unfold jJ at q3;split at q3
 ·rename_i kk ek;obtain⟨e,q4⟩:=q3;obtain⟨b,rfl,sq⟩:=gE ek R1;cases ru;refine Fr ?_;rw[List.forIn_cons];refine Fr (Fr (JA (Ae (R:=λM'=>Q (.ref s.heap.objs.size) M') (R2:=λH'=>Q2 (.ref s.heap.objs.size) H') (show X.A.units+1<cLine by omega) I3 LX e sq dy rv (by show 0<sizeLine;decide) q4
   (λH' M' r_ Lc qq=>b_ _ _ (.ref s.heap.objs.size) _ rfl r_ (t3.trans Lc) qq)) (λ_ s4 ⟨H4,I4,q5⟩=>Ik ?_) λ_ _ z=>z))
  dsimp only;rw[List.forIn_nil];exact Ik (Ik (Ik (Ik ⟨.ref s.heap.objs.size,H4,I4,rfl,q5⟩)))
 ·exact q3.elim
end
section
variable {A:Around}{s:Shared}{ob:Obj}{es:Array DictEntry}
theorem oK(hn:(d == sysModules)=false):MeetsIn prog w (Builtin.«dict.items» ⟨[.ref d],[]⟩) (λ_ R s=>s.TypeIs (.ref d) "dict"/\R (.ok (.ret (.ref s.heap.objs.size))) {s with heap:=s.heap.push {cls:=.type "dict_items",data:=.fields #[.ref d]}}):=
 .of_wp λA R s ⟨ty,q⟩=>by
  unfold Builtin.«dict.items»;refine Fr ?_;unfold Builtin.Dict.noArgs;refine Fr (wpAny_notOrdered_dict ty (show wpAny _ _ (pure d) _ _ s from Ik (show wpAny _ _ (Builtin.Dict.showsAll d >>=_) _ _ s from ?_)));unfold Builtin.Dict.showsAll;rw[hn];exact Fr (Ik (Fr (Jd (Ik ⟨_,rfl,q⟩))))
theorem oO(vw:s.heap.IsItemsView p d)(ho:s.heap.get? d=some ob)(hd:ob.data=.dict es ep)
  (q:Q (.ref s.heap.objs.size) {s with heap:=s.heap.push {cls:=.type "dict_itemiterator",data:=.fields #[.none,.bool false,.ref d,.int 0 0,.int es.size 0,.int ep 0,.none,.none]}}):wpAny (model prog w) A (pyIter (.ref p)) Q E s:=by
 obtain⟨ov,e1,e2,e3⟩:=id vw;refine wpAny_pyIter_slot vw.typeIs F.slot_dict_items_iter (Jq F.slot_dict_items_iter vw.typeIs F.entry_dict_items_iter ?_ (F.args_dict_items_iter_1 _));unfold Builtin.«dict_items.__iter__» Builtin.Dict_items.dictOf Builtin.Dict_items.newIterator;refine Fr (Ik (Fr (Fr (Jk e1 e3 (x:=.ref d) rfl (Ik (Fr (Fr (Jy ho hd (Fr (wpAny_dictEpoch ho hd ?_))))))))));simp only[show Builtin.Dict_items.ownsTuple "dict_itemiterator"=true by decide,if_true]
 refine Jd (Ik ⟨_,rfl,"dict_itemiterator",_,⟨_,Iz _ rfl,rfl⟩,F.slot_dict_itemiterator_next.lookup,?_⟩) (by simp only[sizeOk,Builtin.Dict_items.ownedTupleFields,IF,Je,IN,List.length_nil,sizeLine_eq];omega)
 simpa [rawInt,Builtin.Dict_items.ownedTupleFields] using q
theorem oQ{e:DictEntry}(B_:IsItemIter s.heap it d i es.size ep a1 a2)(ho:s.heap.get? d=some ob)(hd:ob.data=.dict es ep)(he:es[i]?=some e)
  (hQ:∀h',IsItemIterOut h' it d (i+1) es.size ep e.key e.val s.heap.objs.size->h'.get? s.heap.objs.size=some {cls:=.type "tuple",data:=.seq #[e.key,e.val]}->
   (∀b o,b≠it->s.heap.get? b=some o->h'.get? b=some o)->Q (some (.ref s.heap.objs.size)) {s with heap:=h'}):wpAny (model prog w) A (pyNext (.ref it)) Q E s:=by
 obtain⟨hp,g,dr,tk,os⟩:=s;have ty:Shared.TypeIs ⟨hp,g,dr,tk,os⟩ (.ref it) "dict_itemiterator":=⟨_,B_,rfl⟩;have H_:i<es.size:=(Jr.mp he).1;unfold pyNext;refine Fr (wpAny_attempt (wpAny_callSpecial?_slot (name:=Str.ofString "__next__") ty F.slot_dict_itemiterator_next (Jq F.slot_dict_itemiterator_next ty F.entry_dict_itemiterator_next ?_ (F.args_dict_itemiterator_next_1 _))));refine Fr (Ik (Fr (Fr ?_)))
 first|refine Fr (wpAny_typeNameOfWhole_itemiter ty (Ik (Fr (wpAny_fieldsOf B_ rfl ?_))))|refine Fr (wpAny_typeNameOf_itemiter ty (Ik (Fr (wpAny_fieldsOf B_ rfl ?_))))
 simp only[show Builtin.Dict_items.ownsTuple "dict_itemiterator"=true by decide,if_true]
 have nn:¬ ((Value.ref d == Value.none)=true):=IP;refine (show wpAny _ _ (if (Value.ref d == Value.none)=true then _ else _) _ _ _ from ?_)
 rw[Im nn];refine Fr (Ik (Fr (Jy ho hd ?_)));rw[Im (by simp)]
 refine Fr (Ik (Fr (wpAny_dictEpoch ho hd ?_)));rw[Im (by simp)]
 refine Ik ?_;simp only[show ¬ ((i:Int)<0) from by omega,if_false,Ju,he]
 refine Fr ?_
 first|refine Fr (wpAny_typeNameOfWhole_itemiter ty (Ik (Fr (wpAny_isOneOf_itemiter ty ?_))))|refine Fr (wpAny_typeNameOf_itemiter ty (Ik (Fr (wpAny_isOneOf_itemiter ty ?_))))
 refine (show wpAny _ _ (setField (.ref it) 3 (rawInt ((i:Int)+1)) >>=_) _ _ ⟨hp,g,dr,tk,os⟩ from ?_);refine Fr (wpAny_setField_rec B_ (by simp) λk1 f1 u1=>?_)
 replace u1:Heap.SameBut it hp k1:=u1
 replace f1:IsItemIter k1 it d (i+1) es.size ep a1 a2:=by
  unfold IsItemIter;rw[show ((i+1:Nat):Int)=(i:Int)+1 by omega]
  simpa [rawInt] using f1
 have Py:Shared.TypeIs ⟨k1,g,dr,tk,os⟩ (.ref it) "dict_itemiterator":=⟨_,f1,rfl⟩;refine Fr (Jc (Fr (wpAny_isOneOf_itemiter Py (Fr (wpAny_isOneOf_itemiter Py ?_)))));show wpAny _ _ (Builtin.Dict_items.pairFromOwner (.ref it) 6 e.key e.val) _ _ ⟨k1,g,dr,tk,os⟩;unfold Builtin.Dict_items.pairFromOwner;refine Fr (wpAny_newTuple ?_);have f2:IsItemIter (k1.push {cls:=.type "tuple",data:=.seq #[e.key,e.val]}) it d (i+1) es.size ep a1 a2:=Il _ f1;generalize MS:k1.push {cls:=.type "tuple",data:=.seq #[e.key,e.val]}=k2 at f2;have z1:k1.objs.size=hp.objs.size:=u1.1;have lt:it<hp.objs.size:=Ir B_;have t2:k2.get? hp.objs.size=some {cls:=.type "tuple",data:=.seq #[e.key,e.val]}:=by rw[<-MS,<-z1];exact Iz _ rfl
 have r2:∀b o,b≠it->hp.get? b=some o->k2.get? b=some o:=λb o hb q=>by rw[<-MS];exact Il _ (u1.extBut b o hb q)
 show wpAny _ _ (Builtin.Dict_items.ownedTupleIsFree (.ref it) >>=_) _ _ ⟨k2,g,dr,tk,os⟩;rw[z1];clear MS f1 u1 Py z1 k1;unfold Builtin.Dict_items.ownedTupleIsFree;refine Fr (Fr (Jk f2 rfl (x:=.none) rfl (Ik ?_)));simp only[if_true];refine Fr (Jk f2 rfl (x:=a1) rfl (Fr (Jk f2 rfl (x:=a2) rfl (Fr (wpAny_setField_rec f2 (by simp) λk3 f3 u3=>?_)))))
 replace u3:Heap.SameBut it k2 k3:=u3
 replace f3:IsItemIter k3 it d (i+1) es.size ep e.key a2:=f3
 refine Fr (wpAny_setField_rec f3 (by simp) λk4 f4 u4=>?_)
 replace u4:Heap.SameBut it k3 k4:=u4
 replace f4:IsItemIter k4 it d (i+1) es.size ep e.key e.val:=f4
 refine Fr (wpAny_setField_rec f4 (by simp) λk5 f5 u5=>?_)
 replace u5:Heap.SameBut it k4 k5:=u5
 replace f5:IsItemIterOut k5 it d (i+1) es.size ep e.key e.val hp.objs.size:=f5
 refine Fr (wpAny_setField_rec f5 (by simp) λk6 f6 u6=>?_)
 replace u6:Heap.SameBut it k5 k6:=u6
 replace f6:IsItemIterOut k6 it d (i+1) es.size ep e.key e.val hp.objs.size:=f6
 have up:∀b o,b≠it->k2.get? b=some o->k6.get? b=some o:=λb o hb q=>u6.extBut b o hb (u5.extBut b o hb (u4.extBut b o hb (u3.extBut b o hb q)))
 exact Fr (wpAny_letGo (Ik (Ik ⟨_,rfl,Ik (hQ k6 f6 (up _ _ (Nat.ne_of_gt lt) t2) λb o hb q=>up b o hb (r2 b o hb q))⟩)))
theorem on(cm:A.handled=none)(B_:IsItemIter s.heap it d i es.size ep a1 a2)(ho:s.heap.get? d=some ob)(hd:ob.data=.dict es ep)(he:es.size<=i)
  (hQ:∀h',Heap.ExtBut it s.heap h'->Q none {s with heap:=h'}):wpAny (model prog w) A (pyNext (.ref it)) Q E s:=by
 have ty:s.TypeIs (.ref it) "dict_itemiterator":=⟨_,B_,rfl⟩;unfold pyNext;refine Fr (wpAny_attempt (wpAny_callSpecial?_slot (name:=Str.ofString "__next__") ty F.slot_dict_itemiterator_next (Jq F.slot_dict_itemiterator_next ty F.entry_dict_itemiterator_next ?_ (F.args_dict_itemiterator_next_1 _))));refine Fr (Ik (Fr (Fr ?_)))
 first|refine Fr (wpAny_typeNameOfWhole_itemiter ty (Ik (Fr (wpAny_fieldsOf B_ rfl ?_))))|refine Fr (wpAny_typeNameOf_itemiter ty (Ik (Fr (wpAny_fieldsOf B_ rfl ?_))))
 simp only[show Builtin.Dict_items.ownsTuple "dict_itemiterator"=true by decide,if_true]
 have nn:¬ ((Value.ref d == Value.none)=true):=IP;refine (show wpAny _ _ (if (Value.ref d == Value.none)=true then _ else _) _ _ s from ?_)
 rw[Im nn];refine Fr (Ik (Fr (Jy ho hd ?_)));rw[Im (by simp)]
 refine Fr (Ik (Fr (wpAny_dictEpoch ho hd ?_)));rw[Im (by simp)]
 refine Ik ?_;simp only[show ¬ ((i:Int)<0) from by omega,if_false,Ju,Array.getElem?_eq_none he]
 refine Fr ?_
 first|refine Fr (wpAny_typeNameOfWhole_itemiter ty (Ik ?_))|refine Fr (wpAny_typeNameOf_itemiter ty (Ik ?_))
 refine (show wpAny _ _ (setField (.ref it) 2 .none >>=_) _ _ s from Fr (JG B_ rfl (by simp) ?_))
 refine (show wpAny _ _ (newExc (.type "StopIteration") [] >>=_) _ _ _ from Fr ?_);simp only[newExc,newTuple,raiseNew];refine Fr (Jd (Fr (m:=firstArgMember _ _) (wpAny_of_eq (a:=Value.none) (by first|rfl|(simp only[firstArgMember];rfl)) (Jd (Fr (wpAny_handled ?_)) (by size_fits)))) (by size_fits))
 rw[show A.in1.handled=none from cm];refine Fr (Ik (wpAny_throw ?_));have fin:=λ(h':Heap) (z:Heap.ExtBut it s.heap h')=>hQ h' z
 refine Fr (wpAny_isInstance (T:="StopIteration") (b:=true) ⟨_,Iz _ rfl,rfl⟩ isSubtype_stop (Ik (fin _ (((Heap.SameBut.update ..).extBut.push _).push _))))
end
def DOb(o:Obj)(ps:List (V×V)):Prop:=∃es ep,o.ExactDict/\o.data=.dict es ep/\es.size=ps.length/\∀(i:Nat) p e,ps[i]?=some p->es[i]?=some e->RelV p.1 e.key/\RelV p.2 e.val
noncomputable def Itd(d:Addr)(o:Obj)(ps:List (V×V)):It:=
 ⟨λi H=>(∃u,H d=some (.s_ o u))/\i<ps.length,λi H v H'=>∃p,v=.ref p/\H p=none/\∃kv,ps[i]?=some kv/\H'=upd H p (.tup [kv.1,kv.2]),λi H=>(∃u,H d=some (.s_ o u))/\ps.length<=i⟩
theorem Inv.frzGet{s:Shared}(I:Inv X a_ σ H s)(e:H d=some (.s_ o u)):s.heap.get? d=some o:=(I.h_ _ _ e).1
theorem pU{K:JJ}(d it:Addr){o:Obj}{ps:List (V×V)}{es:Array DictEntry}(hd:o.data=.dict es ep)(hz:es.size=ps.length)
  (hr:∀(i:Nat) p e,ps[i]?=some p->es[i]?=some e->RelV p.1 e.key/\RelV p.2 e.val) (Nd:d≠it):Turn P w K (.Tuple Ku x1 pos) (Itd d o ps) [it] it (λi h=>∃a1 a2,IsItemIter h it d i es.size ep a1 a2) where
 mem:=by simp
 obj:=λi h st b hb=>by
  obtain⟨a1,a2,h1⟩:=st;have e':b=it:=by simpa using hb
  subst e';exact⟨_,h1,λv z=>by
   have z':Data.fields _=Data.cell v:=z;cases z'⟩
 keep:=λi h h' st k=>let ⟨a1,a2,h1⟩:=st;⟨a1,a2,k it (by simp) _ h1⟩
 item:=by
  intro X hP hw hK hc i a_ s σ H E I hf st hg;subst hP hw hK;obtain⟨⟨u,hu⟩,hi⟩:=hg;obtain⟨a1,a2,B_⟩:=st;have fi:=hf it (by simp)
  have NX:it<s.heap.objs.size:=Ir B_;have he:es[i]?=some es[i]:=by simp[show i<es.size by omega]
  have LR:ps[i]?=some ps[i]:=by simp[hi]
  obtain⟨rk,rv⟩:=hr i _ _ LR he;refine oQ B_ (I.frzGet hu) hd he λh' R4 ht k=>?_
  have hp:H s.heap.objs.size=none:=I.h_.fresh (Iq _);have I1:Inv X a_ σ (upd H s.heap.objs.size (.tup [ps[i].1,ps[i].2])) {s with heap:=s.heap.push {cls:=.type "tuple",data:=.seq #[es[i].key,es[i].val]},toks:=s.toks}:=
   I.laid (λb o e1=>Il _ e1) (Iq _) ⟨by show 2<=sizeLine;decide,[es[i].key,es[i].val],.cons rk (.cons rv .nil),⟨_,Iz _ rfl,rfl,_,rfl⟩⟩
  have OI:fE X a_ (upd H s.heap.objs.size (.tup [ps[i].1,ps[i].2])) it:=⟨by rw[ae (IM NX)];exact fi.1,fi.2⟩
  obtain⟨f0,f1,f2,f3,f4,f5⟩:=OI;have I2:Inv X a_ σ (upd H s.heap.objs.size (.tup [ps[i].1,ps[i].2])) {s with heap:=h',toks:=s.toks}:=I1.turned (t':=s.toks) (λb o hb e1=>by
   by_cases MO:b=s.heap.objs.size
   ·subst MO;have e2:(s.heap.push {cls:=.type "tuple",data:=.seq #[es[i].key,es[i].val]}).get? s.heap.objs.size=some {cls:=.type "tuple",data:=.seq #[es[i].key,es[i].val]}:=Iz _ rfl;rw[e2]at e1;cases e1;exact ht
   ·exact k b o hb ((Heap.get?_push_ne _ _ _ MO).symm.trans e1)) f0 f1 f3 f4 f5
  refine⟨.ref s.heap.objs.size,rfl,wpAny_letOwnedTupleGo_items (s:={s with heap:=h'}) R4 λh2 Mi Kc=>?_⟩
  have I3:Inv X a_ σ (upd H s.heap.objs.size (.tup [ps[i].1,ps[i].2])) {s with heap:=h2,toks:=s.toks}:=I2.turned (t':=s.toks) (λb o hb e1=>(Kc.2 b hb).trans e1) f0 f1 f3 f4 f5
  refine⟨.ref s.heap.objs.size,_,I3,rfl,⟨_,rfl,hp,_,LR,rfl⟩,⟨_,_,Mi⟩,λb hb=>?_⟩
  have e':b=it:=by simpa using hb
  subst e';exact f0
 done:=by
  intro X hP hw hK hc i a_ s σ H E I hf st hg;subst hP hw hK;obtain⟨⟨u,hu⟩,hi⟩:=hg;obtain⟨a1,a2,B_⟩:=st;obtain⟨f0,f1,f2,f3,f4,f5⟩:=hf it (by simp)
  exact on (I.ok.hd hc) B_ (I.frzGet hu) hd (by omega) λh' eb=>⟨rfl,I.turned (t':=s.toks) (λb o hb e=>eb b o hb e) f0 f1 f3 f4 f5⟩
 self:=λ_ _ _ _ _ st h=>let ⟨_,_,B_⟩:=st;PySem.W.kcp_self B_ h
theorem jQ{K:JJ}:∀ks:List Int,DenL K H (ks.map D.int) (ks.map V.int)
 |[]=>rfl
 |k::r=>⟨_,_,rfl,rfl,jQ r⟩
section
variable {X:Cx}{m_ n_:Pos}
noncomputable def prs(xs:List (List Int×Addr×Value))(vs:List V):List (V×V):=(xs.map λx=>V.ref x.2.1).zip vs
theorem qc{ob:Obj}(I:Inv X a_ σ H s)(e:H d=some (.s_ ob (.ext (aY d xs))))(vx:Vals vs (xs.map (·.2.2))):DOb ob (prs xs vs)/\ob.ExactDict:=by
 obtain⟨h1,⟨o',es,ep,g1,g2,g3,g4⟩,_⟩:=(show ObjOk X.prog X.w H s.heap d (.s_ ob (.ext (aY d xs))) from I.h_ _ _ e);rw[h1]at g1;cases g1;have hl:=vx.length;rw[ID]at hl;have hsz:es.size=xs.length:=by
  have:=congrArg List.length g4;simpa using this
 refine⟨⟨es,ep,g2,g3,by simp[prs,hl,hsz],λi p e' hp he=>?_⟩,g2⟩
 unfold prs at hp;obtain⟨a1,a2⟩:=List.getElem?_zip_eq_some.mp hp;rw[IJ]at a1;cases hx:xs[i]? with
 |none=>rw[hx]at a1;cases a1
 |some x=>
  rw[hx]at a1;have Mi:es.toList[i]?=some e':=by simpa using he
  rw[g4,IJ,hx]at Mi;cases Mi;obtain⟨u,hu,ru⟩:=vx.get a2;rw[IJ,hx]at hu;cases hu;have a1:V.ref x.2.1=p.1:=by simpa using a1
  rw[<-a1];exact⟨rfl,ru⟩
theorem Br{ob:Obj}(I:Inv X a_ σ H s)(e:H d=some (.s_ ob (.ext (aY d xs))))(z:TabOk X.K H d ks xs vs):DOb ob (prs xs vs)/\ob.ExactDict:=qc I e z.vx
def ObD(X:Cx)(d:Addr)(ob:Obj)(u:HO)(ps:List (V×V)):Prop:=∀a_ s σ H,Inv X a_ σ H s->H d=some (.s_ ob u)->DOb ob ps/\(d == sysModules)=false
def zx(X:Cx)(v:V)(vs:List V)(H:Hp)(Q:VK):Prop:=∃d ob u ps,v=.ref d/\vs=[]/\H d=some (.s_ ob u)/\ObD X d ob u ps/\∀p,H p=none->Q (.ref p) (upd H p (.ext λh=>h.IsItemsView p d))
theorem tE:MtR X "dict.items" (zx X):=by
 intro a_ s σ H v vs v2 us Q I rv rs ⟨d,ob,u,ps,e1,e2,hH,z,q⟩;subst e1 e2;cases rv;cases rs;have ho:=I.frzGet hH;obtain⟨⟨_,_,xd,_⟩,zn⟩:=z _ _ _ _ I hH;have hc:=xd.1;have hf:H s.heap.objs.size=none:=I.h_.fresh (Iq _);refine call_meetsIn PySem.F.slot_dict_items ⟨_,ho,hc⟩ PySem.F.entry_dict_items (PySem.F.args_dict_items_1 _) (oK zn) ⟨⟨_,ho,hc⟩,?_⟩;have I1:Inv X a_ σ (upd H s.heap.objs.size (.ext λh=>h.IsItemsView s.heap.objs.size d)) {s with heap:=s.heap.push {cls:=.type "dict_items",data:=.fields #[.ref d]},toks:=s.toks}:=
  I.laid (o:=.ext λh=>h.IsItemsView s.heap.objs.size d) (λb o e1=>Il _ e1) (Iq _) ⟨⟨_,Iz _ rfl,rfl,rfl⟩,⟨_,Iz _ rfl⟩,λh1 h2 ⟨ov,g1,g2,g3⟩ k=>⟨ov,k _ g1,g2,g3⟩⟩
 exact⟨.ref s.heap.objs.size,_,I1,rfl,q _ hf⟩
noncomputable def zb(X:Cx)(t2:TE):TI:=λσ H R=>t2 σ H λv H1=>∃d ob u ps,v=.ref d/\H1 d=some (.s_ ob u)/\ObD X d ob u ps/\∀p,H1 p=none->R (Itd d ob ps) (upd H1 p (.ext λh=>h.IsItemsView p d))
theorem TabOk.grow{K:JJ}(z:TabOk K H d ks xs vs)(t:TM K H H'):TabOk K H' d ks xs vs:=⟨z.kx,z.nd,z.sz,z.no,z.vx,λx hx=>t.t _ _ (z.at_ x hx)⟩
theorem ul(ho:PE X o t2)(D_:attributeBase o "items" X.env (eval o X.env)=eval o X.env)(E_:(m_.endLine == n_.line)=true):PI X (.Tuple Ku x1 pt) (.Call (.Attribute o "items" m_) [] [] n_) (zb X t2):=by
 intro a_ s σ H R I h;refine wpAny_Call_method0_late D_ E_ (thn (ho a_ s σ H _ I h) λv s0 ⟨x,H1,I1,r1,d,ob,u,ps,e1,e3,z,q⟩=>?_)
 subst e1;cases r1;obtain⟨⟨_,_,xd,_⟩,_⟩:=z _ _ _ _ I1 e3;refine⟨"dict","dict.items",PySem.F.plainAttrs_dict,PySem.F.slot_dict_items,PySem.F.type_dict_items,⟨_,I1.frzGet e3,xd.1⟩,λa ha=>?_,Calls.callWith_builtin rfl (PySem.evalArgs_none ?_)⟩
 ·cases ha;exact⟨_,I1.frzGet e3,xd.2.1⟩
 refine thn (tE a_ s0 σ H1 (.ref d) [] (.ref d) [] (λv H2=>∃p,v=.ref p/\H1 p=none/\H2=upd H1 p (.ext λh=>h.IsItemsView p d)) I1 rfl .nil ⟨d,ob,u,ps,rfl,rfl,e3,z,λp hp=>⟨p,rfl,hp,rfl⟩⟩) λv2 s1 ⟨v,H2,I2,rv,p,e1,hp,e2⟩=>?_
 have q:=q p hp;have e3:H2 d=some (.s_ ob u):=by rw[e2,ae (ay e3 hp)];exact e3
 have e4:H2 p=some (.ext λh=>h.IsItemsView p d):=by rw[e2,ag]
 rw[<-e2]at q
 ·subst e1;cases rv;obtain⟨⟨es,ep,hx,hd,hz,hr⟩,_⟩:=z _ _ _ _ I2 e3;have hv:=(I2.h_ _ _ e4).1;have ho:=I2.frzGet e3;refine oO hv ho hd ?_;have hf:H2 s1.heap.objs.size=none:=I2.h_.fresh (Iq _);have Pz:d<s1.heap.objs.size:=Ir ho;exact⟨s1.heap.objs.size,[s1.heap.objs.size],_,_,H2,rfl,I2.kept (t':=s1.toks) (λb o e=>Il _ e),pU d s1.heap.objs.size hd hz hr (IM Pz),⟨_,_,Iz _ rfl⟩,λb hb=>by
   have e':b=s1.heap.objs.size:=by simpa using hb
   subst e';exact I2.fpOk (Iq _) hf,q⟩
theorem uS{K:JJ}(e:H0 d=some (.s_ ob (.ext (aY d xs))))(z:TabOk K H0 d ks xs vs)(dl:DenL K H0 ds vs):ItOk K H0 (Itd d ob (prs xs vs)) (c5 ks ds) (λ_=>True):=by
 have l1:=dl.length;have l2:=z.vx.length;have l3:xs.length=ks.length:=by rw[<-z.kx];simp
 rw[ID]at l2;have lp:(prs xs vs).length=(c5 ks ds).length:=by simp[prs,c5];omega
 refine⟨λi H M t rm s hi=>⟨⟨_,t.g _ _ _ e⟩,by omega⟩,λi H M x H' t rm s hi y=>?_,λH M t rm s=>⟨⟨_,t.g _ _ _ e⟩,by omega⟩⟩
 obtain⟨q,rfl,hq,kv,MT,rfl⟩:=y;obtain⟨a1,a2⟩:=List.getElem?_zip_eq_some.mp MT;rw[IJ]at a1;cases hx:xs[i]? with
 |none=>rw[hx]at a1;cases a1
 |some x=>
  rw[hx]at a1;have a1:V.ref x.2.1=kv.1:=by simpa using a1
  obtain⟨dd,e1,e2⟩:=(dl.mono t).get' a2;have hk:ks[i]?=some x.1:=by rw[<-z.kx,IJ,hx];rfl
  have sq:=t.t _ _ (z.at_ x (IW hx));refine⟨.new hq,rm.grow hq,.tup [.tup (x.1.map D.int),dd],?_,⟨q,[kv.1,kv.2],rfl,.inl (.inl ag),⟨_,_,rfl,?_,_,_,rfl,e2.mono (.new hq),rfl⟩⟩⟩
  ·have ez:(ks.zip ds)[i]?=some (x.1,dd):=List.getElem?_zip_eq_some.mpr ⟨hk,e1⟩;unfold c5;rw[IJ,ez];rfl
  ·rw[<-a1];exact⟨x.2.1,x.1.map V.int,rfl,(TM.new (K:=K) hq).t _ _ sq,jQ _⟩
end
section
variable {X:Cx}
end
theorem ER.upd_nx{K:JJ}(er:ER K H D3 D2)(h:∀o_ H' u_ M',RelM K M' H'->DenS K H' u_ o_->TM K H H'->n3 u_ M'->n2 o_ H'):ER K H {D3 with nx:=n3} {D2 with nx:=n2}:=⟨h,er.rt,er.bk,er.ct⟩
section
variable {X:Cx}{cls:Nat->Addr}{E2:St->XK}{st:Stmt}{aF:List Stmt}{t u:Ends3->(St3->XN)->St3->MH->Prop}{e:Expr}{te:St3->MH->VK3->XN->Prop}{pos:Pos}
theorem Cq:PSs X [] (bJ X.K cls E2 λD _ σ M=>D.nx σ M):=pss_nil.imp λD2 σ H i_=>ex9 i_ λg_ M D3 E3 rm ds lk h er=>er.nx σ H g_ M rm ds (.refl _) h
theorem yT(h1:PS X st (bJ X.K cls E2 t))(h2:PSs X aF (bJ X.K cls E2 u)):PSs X (st::aF) (bJ X.K cls E2 λD E σ M=>t {D with nx:=λo_ M'=>u D E o_ M'} E σ M):=
 (ny h1 h2).imp λD2 σ H i_=>ex9 i_ λg_ M D3 E3 rm ds lk h er=>⟨g_,M,_,E3,rm,ds,lk,h,er.upd_nx λo_ H' u_ M' r_ JK tm q=>⟨u_,M',D3,E3,r_,JK,lk.mono tm,q,er.mono tm⟩⟩
theorem DB{i:Nat}(h2:PSs X aF (bJ X.K cls E2 u)):PSs X aF (bJ X.K cls E2 λD E σ M=>match σ[i]? with
  |some (some x)=>ba (λy M'=>u D E (σ.set i (some y)) M') x M
  |_=>False):=λa_ s σ H D2 I i_=>ex9 i_ λg_ M D3 E3 rm ds lk h er=>by
 dsimp only at h;split at h
 ·rename_i x e;obtain⟨v,e1,dv⟩:=ds.2 i x e;obtain⟨H2,M2,d2,I2,t2,C_,LG,q2⟩:=iM I rm dv h;refine h2 a_ s σ H2 D2 I2 ⟨_,M2,D3,E3,C_,?_,lk.mono t2,q2,er.mono t2⟩;have:=(ds.mono t2).set (i:=i) LG;obtain⟨l,e2⟩:=IC.mp e1
  rwa [<-e2,List.set_getElem_self]at this
 ·exact h.elim
theorem A9:PS X st (bJ X.K cls E2 λ_ _ _ _=>False):=λ_ _ _ _ _ _ i_=>ex9 i_ λ_ _ _ _ _ _ _ h _=>h.elim
theorem Bk(he:PE X e (low X.K cls E2 te))(hs:swapsWith e none pos.line X.env=pure false):PS X (.Expr e pos) (bJ X.K cls E2 λD E σ M=>te σ M (λ_ M1=>D.nx σ M1) (E σ)):=
 (lQ he hs).imp λD2 σ H i_=>ex9 i_ λg_ M D3 E3 rm ds lk h er=>bn rm ds (lk.at ds) h λv H1 x M1 dx l_ t1 q1=>er.nx σ H1 g_ M1 l_ (ds.mono t1) t1 q1
theorem DL(he:PE X e (low X.K cls E2 te)):PS X (.Return (some e) pos) (bJ X.K cls E2 λD E σ M=>te σ M D.rt (E σ)):=
 (Au he).imp λD2 σ H i_=>ex9 i_ λg_ M D3 E3 rm ds lk h er=>bn rm ds (lk.at ds) h λv H1 x M1 dx l_ t1 q1=>er.rt v H1 x M1 dx l_ t1 q1
theorem Fj(hc:PT X c (cV X.K cls E2 tA))(ha:PSs X a (bJ X.K cls E2 t))(hb:PSs X b (bJ X.K cls E2 u)) :
  PS X (.If c a b pos) (bJ X.K cls E2 λD E σ M=>tA σ M (λk M1=>if k=true then t D E σ M1 else u D E σ M1) (E σ)):=
 (Cs hc ha hb).imp λD2 σ H i_=>ex9 i_ λg_ M D3 E3 rm ds lk h er=>kY rm ds (lk.at ds) h λk H1 M1 l_ t1 q1=>by
  cases k with
  |true=>rw[Iu rfl]at q1 ⊢;exact⟨g_,M1,D3,E3,l_,ds.mono t1,lk.mono t1,q1,er.mono t1⟩
  |false=>rw[Im IP]at q1 ⊢;exact⟨g_,M1,D3,E3,l_,ds.mono t1,lk.mono t1,q1,er.mono t1⟩
theorem yh(hN:X.N.Nodup)(hi:X.N[i]?=some x)(hx:Loc X.env.scope x)(he:PE X e (low X.K cls E2 te))(hs:swapsWith e (some (.Name x JP)) pos.line X.env=pure false)(hf:X.fn x=true\/X.env.scope.names.lookup x=some .local) :
  PS X (.Assign [.Name x JP] e pos) (bJ X.K cls E2 λD E σ M=>te σ M (λx M1=>D.nx (σ.set i (some x)) M1) (E σ)):=
 (yF hN hi hx he hs hf).imp λD2 σ H i_=>ex9 i_ λg_ M D3 E3 rm ds lk h er=>bn rm ds (lk.at ds) h λv H1 x M1 dx l_ t1 q1=>er.nx _ _ _ _ l_ ((ds.mono t1).set dx) t1 q1
theorem AX(hN:X.N.Nodup)(hi:X.N[i]?=some x)(hx:Loc X.env.scope x)(hf:X.fn x=true\/X.env.scope.names.lookup x=some .local):PG X (.Name x pos) (rg X.K (wpG (.name i))):=
 (iH hN hi hx hf).imp λv σ H Q2 ⟨d,g_,M,Q,dv,rm,ds,h,b_⟩=>b_ _ _ _ _ rm (ds.set dv) (.refl _) h
noncomputable def bW(N:List Str)(sc:Scope)(fn:Bool):List Nat->List Expr->Bool
 |[],[]=>true
 |i::is,.Name x _::es=>(N[i]? == some x)&&(sc.names.lookup x == some .local||(fn&&sc.names.lookup x == some .cell))&&bW N sc fn is es
 |_,_=>false
noncomputable def jz(is:List Nat)(xs:List α)(σ:List (Option α)):List (Option α):=(is.zip xs).foldl (λσ p=>σ.set p.1 (some p.2)) σ
theorem kG(hN:X.N.Nodup)(K0:fn=true->∀x,X.fn x=true):∀{is:List Nat}{es:List Expr},bW X.N X.env.scope fn is es=true->
  PGs X es (λvs σ H Q=>vs.length=is.length/\Q (jz is vs σ) H)/\(assignEach es X.env).length=is.length/\(assignEach es X.env).findIdx? (·.1)=none
 |[],[],_=>⟨λa_ s σ H vs us Q I r ⟨e,h⟩=>w6 a_ s σ H vs us Q I r ⟨List.length_eq_zero_iff.mp e,by cases List.length_eq_zero_iff.mp e;exact h⟩,rfl,rfl⟩
 |[],_::_,h=>by simp[bW]at h
 |i::is,es,h=>by
  unfold bW at h;split at h
  ·rename_i Oo;cases Oo
  ·rename_i i' Tc x px Mq Oo;cases Oo;simp only[Ij,IH,Bool.or_eq_true]at h;obtain⟨⟨h1,h2⟩,h3⟩:=h;obtain⟨ih,il,ix⟩:=kG hN K0 h3;have hg:PG X (.Name x px) (q9 i):=by
    rcases h2 with h2|⟨h2,h4⟩
    ·exact iH hN h1 (.inl h2) (.inr h2)
    ·exact iH hN h1 (.inr h4) (.inl (K0 h2 x))
   refine⟨λa_ s σ H vs us Q I r ⟨e,q⟩=>?_,by show (assignEach Mq X.env).length+1=is.length+1;rw[il],?_⟩
   ·cases vs with
    |nil=>cases e
    |cons v vs=>exact uy hg ih rfl a_ s σ H (v::vs) us Q I r ⟨v,vs,rfl,by simpa using e,q⟩
   ·show List.findIdx? (·.1) ((false,assign (.Name x px) X.env)::assignEach Mq X.env)=none;rw[List.findIdx?_cons];simp[ix]
  ·cases h
theorem i8{K:JJ}:∀{is:List Nat}{ds:List D}{vs:List V}{g_:St3}{σ:St},DenL K H ds vs->DenS K H g_ σ->DenS K H (jz is ds g_) (jz is vs σ)
 |[],_,_,_,_,_,h=>by simpa [jz] using h
 |i::is,[],vs,_,_,dl,h=>by cases (show vs=[] from dl);simpa [jz] using h
 |i::is,d::ds,vs,_,_,dl,h=>by
  obtain⟨v,r,rfl,dv,dl⟩:=dl;exact i8 (is:=is) dl (h.set (i:=i) dv)
theorem yc(hc:X.calm=true)(hN:X.N.Nodup)(K0:fn=true->∀x,X.fn x=true)(ok:bW X.N X.env.scope fn is es=true):PG X (.Tuple es k pos) (rg X.K (wpG (.tup is))):=by
 obtain⟨h1,h2,h3⟩:=kG hN K0 ok;refine (z7 hc h1 h2 h3).imp λv σ H Q2 z_=>?_
 obtain⟨d,g_,M,Q,dv,rm,ds,h,b_⟩:=z_;simp only[wpG]at h;split at h
 ·rename_i Mq;obtain⟨p,vs,rfl,sq,dl⟩:=dv;obtain⟨z,q⟩:=h;exact⟨p,vs,rfl,sq,by rw[<-dl.length];exact z,by rw[<-dl.length];exact z,b_ _ _ _ _ rm (i8 dl ds) (.refl _) q⟩
 ·exact h.elim
theorem CG{is:List Nat}(hc:X.calm=true)(hN:X.N.Nodup)(K0:fn=true->∀x,X.fn x=true)(ok:bW X.N X.env.scope fn is es=true)(he:PE X e (low X.K cls E2 te))
  (hs:swapsWithSole [.Tuple es k p2] e pos.line X.env=pure false) (hw:swappedStores [.Tuple es k p2] e X.env=pure none) :
  PS X (.Assign [.Tuple es k p2] e pos) (bJ X.K cls E2 λD E σ M=>te σ M (λx M1=>match x with
  |.tup ds=>ds.length=is.length/\D.nx ((is.zip ds).foldl (λσ p=>σ.set p.1 (some p.2)) σ) M1
  |_=>False) (E σ)):=
 (tT he (yc (is:=is) hc hN K0 ok) hs hw (by rfl)).imp λD2 σ H i_=>ex9 i_ λg_ M D3 E3 rm ds lk h er=>bn rm ds (lk.at ds) h λv H1 x M1 dx l_ t1 q1=>
  ⟨x,g_,M1,D3.nx,dx,l_,ds.mono t1,by simp only[wpG];exact q1,λo_ H' u_ M' r' d' t' q'=>er.nx o_ H' u_ M' r' d' (t1.trans t') q'⟩
theorem Ce(hp:PassesOwn (model X.prog X.w) X.A X.env X.xe)(hc:X.calm=true)(hi:PI X tg iter (jb X.K cls E2 wi))(hg:PG X tg (rg X.K g))(hb:PSs X body (bJ X.K cls E2 t))
  (hs:∀x,foldedSetIterable iter X.env x=pure x):PS X (.For tg iter body [] pos) (bJ X.K cls E2 λD E σ M=>wi σ M (λds S M1=>jM g (λD σ M=>t D E σ M) S D ds σ M1) (E σ)):=by
 refine (zZ hp hc hi hg hb hs).imp λD2 σ H i_=>ex9 i_ λg_ M D3 E3 rm MU lk h er=>⟨g_,M,_,E3 g_,rm,MU,lk.at MU,h,λJ H1 ds S M1 ok l_ KI hP=>?_⟩
 refine⟨λi m o_ H'=>∃u_ M',m=ds.length-i/\i<=ds.length/\RelM X.K M' H'/\DenS X.K H' u_ o_/\TM X.K H1 H'/\jM g (λD σ M=>t D E3 σ M) S D3 (ds.drop i) u_ M',⟨ds.length,g_,M1,by simp,Nat.zero_le _,l_,MU.mono KI,.refl _,hP⟩,?_⟩
 rintro i m o_ H' ⟨u_,M',rfl,NX,r_,JK,Lc,p⟩;by_cases H_:i<ds.length
 ·rw[List.drop_eq_getElem_cons H_]at p;obtain⟨s',p⟩:=p;refine .inr ⟨ok.go i H' M' Lc r_ s' H_,λQG H4=>∃L4 M4,RelM X.K M4 H4/\DenS X.K H4 L4 QG/\TM X.K H1 H4/\jM g (λD σ M=>t D E3 σ M) S D3 (ds.drop (i+1)) L4 M4,?_,?_⟩
  ·rintro QG H4 ⟨L4,M4,e1,e2,e3,e4⟩;exact⟨ds.length-(i+1),by omega,L4,M4,rfl,H_,e1,e2,e3,e4⟩
  ·intro x H2 y;obtain⟨N9,C_,d,hd,dv⟩:=ok.yld i H' M' x H2 Lc r_ s' H_ y;rw[IG H_]at hd;cases hd;refine⟨_,u_,M',_,dv,C_,JK.mono N9,p,λR5 H5 Ld M5 PB Nh PC q5=>?_⟩
   have Mm:TM X.K H1 H5:=(Lc.trans N9).trans PC;exact⟨Ld,M5,_,E3,PB,Nh,lk.mono (KI.trans Mm),q5,⟨λMt H6 Lx M6 LJ N_ Lj q6=>⟨Lx,M6,LJ,N_,Mm.trans Lj,q6⟩,λv H6 d6 M6 R6 LJ Lj q6=>er.rt v H6 d6 M6 R6 LJ (KI.trans (Mm.trans Lj)) q6,
    λMt H6 Lx M6 LJ N_ Lj q6=>er.nx Mt H6 Lx M6 LJ N_ (KI.trans (Mm.trans Lj)) q6,λMt H6 Lx M6 LJ N_ Lj q6=>⟨Lx,M6,LJ,N_,Mm.trans Lj,q6⟩⟩⟩
 ·have e:i=ds.length:=by omega
  subst e;rw[List.drop_length]at p;exact .inl ⟨ok.stop H' M' Lc r_ p.1,er.nx o_ H' u_ M' r_ JK (KI.trans Lc) p.2⟩
theorem wA(hx:lV X E)(hE:E2=λ_=>E)(hc:X.calm=true)(hg:Gl X x)(hm:X.mg x=some (.ref (cls i)))(q:xf X.K (cls i))(ha:PA X (e::es) (dO X.K cls E2 tr))(I_:(x == ("__debug__" : Str))=false)
  (he:starEach (e::es) X.env=(false,eval e X.env)::starEach es X.env) (JR:(backTo n_ (starEach es X.env)).any (·.1)=false) :
  PS X (.Raise (some (.Call (.Name x np) (e::es) [] n_)) none pos) (bJ X.K cls E2 λ_ E σ M=>tr σ M (λxs M1=>xs.length<=sizeLine/\E σ ⟨i,none⟩ M1) (E σ)):=by
 subst hE;exact (tz hx hc hg hm q ha I_ he JR).imp λD2 σ H i_=>ex9 i_ λg_ M D3 E3 rm ds lk h er=>ef rm ds (lk.at ds) h λvs H1 xs M1 dl l_ t1 ⟨z,q⟩=>⟨by rw[<-dl.length];exact z,lk g_ σ ⟨i,none⟩ M1 H1 t1 (ds.mono t1) l_ q none rfl⟩
theorem CQ{m_ n_:Pos}(ho:PE X o (low X.K cls E2 to))(he:PE X e (low X.K cls E2 te))(D_:attributeBase o "append" X.env (eval o X.env)=eval o X.env)
  (E_:(m_.endLine == n_.line)=true) (hs:starEach [e] X.env=[(false,eval e X.env)]) :
  PS X (.Expr (.Call (.Attribute o "append" m_) [e] [] n_) pos) (bJ X.K cls E2 λD E σ M=>to σ M (λx M1=>match x with
  |.ref a=>match M1 a with
   |some (.lst _)=>te σ M1 (λy M2=>match M2 a with
    |some (.lst ds)=>ds.length<sizeLine/\D.nx σ (put M2 a (.lst (ds++[y])))
    |_=>False) (E σ)
   |_=>False
  |_=>False) (E σ)):=by
 have hm:MtR X "list.append" rAppend:=lA;have h1:=BY (X:=X) PySem.F.plainAttrs_list PySem.F.slot_list_append PySem.F.type_list_append hm ho (aK he pa_nil hs) D_ (by rw[hs];rfl) E_ hs (by rfl)
 refine (lQ h1 (by rfl)).imp λD2 σ H i_=>ex9 i_ λg_ M D3 E3 rm ds lk h er=>?_
 refine bn rm ds (lk.at ds) h λv H1 x M1 dx l_ t1 q1=>?_
 split at q1
 ·rename_i a;cases (show v=.ref a from dx);split at q1
  ·rename_i MU e0;obtain⟨R7,f0,_⟩:=l_ a _ e0;refine⟨.inl ⟨rfl,R7,.of f0⟩,bn l_ (ds.mono t1) ((lk.mono t1).at (ds.mono t1)) q1 λu H2 y M2 dy C_ t2 q2=>?_⟩
   split at q2
   ·rename_i R8 e1;obtain⟨vs,f1,dl⟩:=C_ a _ e1;refine⟨a,vs,u,rfl,rfl,f1,by rw[<-dl.length];exact q2.1,?_⟩
    have tw:TM X.K H2 (upd H2 a (.lst (vs++[u]))):=.put f1 (λ_=>λz=>nomatch z) λ_ _=>λz=>nomatch z
    exact er.nx _ _ _ _ (C_.write (u:=.lst (R8++[y])) f1 (λ_=>λz=>nomatch z) (λ_ _=>λz=>nomatch z) ⟨_,ag,(dl.append (.one dy)).mono tw⟩) (((ds.mono t1).mono t2).mono tw) ((t1.trans t2).trans tw) q2.2
   ·exact q2.elim
  ·exact q1.elim
 ·exact q1.elim
end
abbrev no2:St->XK:=λ_ _ _ _=>False
theorem u9{K:JJ}(h:DenS K H g_ σ):DenS K H (av js g_) (jx js σ):=by
 refine⟨by simp[av,jx],λi d e=>?_⟩
 unfold av at e;unfold jx;rw[IJ]at e ⊢;cases q:js[i]? with
 |none=>rw[q]at e;cases e
 |some o=>
  rw[q]at e;cases o with
  |none=>cases e
  |some j=>
   rw[Option.map_some,Option.bind_some]at e;cases z:g_[j]? with
   |none=>rw[z]at e;cases e
   |some y=>
    rw[z]at e;have e:some (id y)=some (some d):=e;have e:y=some d:=IK e;subst e;obtain⟨v,e1,e2⟩:=h.2 j d z;refine⟨v,?_,e2⟩;rw[Option.map_some,Option.bind_some,e1];rfl
section
variable {X:Cx}
theorem jW(rm:RelM X.K M H)(MU:DenS X.K H g_ σ)(lk:LkE X.K cls H E3 (E2 σ))
  (h:wi g_ M (λds S M1=>∀p,M1 p=none->dN g (λσ M Q=>tt σ M Q (λ_ _=>False)) (λσ M Q=>te σ M Q (λ_ _=>False)) S p Q ds [] (av js g_) (put M1 p (.lst []))) E3) (b_:Back X.K H Q Q2) :
  qz js (jb X.K cls E2 wi) (rg X.K g) (cV X.K cls no2 tt) (low X.K cls no2 te) σ H Q2:=by
 refine⟨g_,M,_,E3,rm,MU,lk,h,λJ H1 ds S M1 ok l_ KI hP p hp=>?_⟩
 have hP:=hP p (l_.fresh hp);refine⟨λi m K8 H'=>∃L5 ys M',m=ds.length-i/\i<=ds.length/\RelM X.K M' H'/\DenS X.K H' L5 K8/\TM X.K H1 H'/\dN g (λσ M Q=>tt σ M Q (λ_ _=>False)) (λσ M Q=>te σ M Q (λ_ _=>False)) S p Q (ds.drop i) ys L5 M',
  ⟨ds.length,_,[],_,by simp,Nat.zero_le _,l_.lay (u:=.lst []) hp ⟨[],ag,.nil⟩,(u9 MU).mono (KI.trans (.new hp)),.new hp,hP⟩,?_⟩
 rintro i m K8 H' ⟨L5,ys,M',rfl,NX,r_,JK,Lc,q⟩;by_cases H_:i<ds.length
 ·rw[List.drop_eq_getElem_cons H_]at q;obtain⟨s',hl,q⟩:=q;refine .inr ⟨ok.go i H' M' Lc r_ s' H_,λx H2 y=>?_⟩
  obtain⟨N9,C_,d,hd,dv⟩:=ok.yld i H' M' x H2 Lc r_ s' H_ y;rw[IG H_]at hd;cases hd;refine⟨_,L5,M',_,dv,C_,JK.mono N9,q,λR5 H5 Ld M5 PB Nh PC q5=>?_⟩
  refine⟨Ld,M5,_,_,PB,Nh,LkE.no,q5,λb H6 M6 LJ Lj q6=>?_⟩
  have Mm:TM X.K H1 H6:=((Lc.trans N9).trans PC).trans Lj;cases b with
  |true=>
   rw[Iu rfl]at q6;dsimp only;rw[Iu rfl];refine⟨Ld,M6,_,_,LJ,Nh.mono Lj,LkE.no,q6,λv H7 y M7 dy QH QI ⟨e7,q7⟩=>?_⟩
   obtain⟨vs,f7,dl⟩:=QH p _ e7;have tw:TM X.K H7 (upd H7 p (.lst (vs++[v]))):=.put f7 (λ_=>λz=>nomatch z) λ_ _=>λz=>nomatch z
   exact⟨vs,f7,by rw[<-dl.length];exact hl,ds.length-(i+1),by omega,Ld,ys++[y],_,rfl,H_,QH.write (u:=.lst (ys++[y])) f7 (λ_=>λz=>nomatch z) (λ_ _=>λz=>nomatch z) ⟨_,ag,(dl.append (.one dy)).mono tw⟩,((Nh.mono Lj).mono QI).mono tw,(Mm.trans QI).trans tw,q7⟩
  |false=>
   rw[Im IP]at q6;dsimp only;rw[Im IP];exact⟨ds.length-(i+1),by omega,Ld,ys,M6,rfl,H_,LJ,Nh.mono Lj,Mm,q6⟩
 ·have e:i=ds.length:=by omega
  subst e;rw[List.drop_length]at q;exact .inl ⟨ok.stop H' M' Lc r_ q.1,b_ _ _ _ _ fY r_ (KI.trans Lc) q.2⟩
variable (h_:eL N js scope X.env.scope X.N=true) (JO:X.calm=true) (hi:PI X tg iter (jb X.K cls E2 wi))
  (hg:∀C s2 H2 fp pn,PG (compCx X scope C N s2 H2 fp pn) tg (rg X.K g)) (ht:∀C s2 H2 fp pn,PIf (compCx X scope C N s2 H2 fp pn) ifs (cV X.K cls no2 tt)) (he:∀C s2 H2 fp pn,PE (compCx X scope C N s2 H2 fp pn) A_ (low X.K cls no2 te))
  (hs:∀x,foldedSetIterable iter X.env x=pure x)
include h_ JO hi hg ht he hs
theorem qD:PE X (.ListComp A_ [⟨tg,iter,ifs,0⟩] scope pos) (low X.K cls E2 λσ M Q E=>wi σ M (λds S M1=>∀p,M1 p=none->dN g (λσ M Q=>tt σ M Q (λ_ _=>False)) (λσ M Q=>te σ M Q (λ_ _=>False)) S p Q ds [] (av js σ) (put M1 p (.lst []))) E):=
 (xG h_ JO hi hg ht he hs).imp λσ H Q2 i_=>ex9 i_ λg_ M Q E3 rm ds lk h b_=>jW rm ds lk h b_
theorem yY(fz:Bool):PE X (.ListComp A_ [⟨tg,iter,ifs,0⟩] scope pos) (low X.K cls E2 λσ M Q E=>wi σ M (λds S M1=>∀p,M1 p=none->dN g (λσ M Q=>tt σ M Q (λ_ _=>False)) (λσ M Q=>te σ M Q (λ_ _=>False)) S p (if fz=true then iC Q else Q) ds [] (av js σ) (put M1 p (.lst []))) E):=by
 cases fz with
 |false=>exact qD h_ JO hi hg ht he hs
 |true=>exact Bm (qD h_ JO hi hg ht he hs)
theorem pT{spos:Pos}(hN:X.N.Nodup)(hy:X.N[i]?=some y)(hl:X.env.scope.names.lookup y=some .local)(ME:swapsWith (.ListComp A_ [⟨tg,iter,ifs,0⟩] scope pos) (some (.Name y py)) spos.line X.env=pure true)(fz:Bool) :
  PS X (.Assign [.Name y py] (.ListComp A_ [⟨tg,iter,ifs,0⟩] scope pos) spos) (bJ X.K cls E2 λD E σ M=>wi σ M (λds S M1=>∀p,M1 p=none->dN g (λσ M Q=>tt σ M Q (λ_ _=>False)) (λσ M Q=>te σ M Q (λ_ _=>False)) S p (if fz=true then iC (λx M1=>D.nx (σ.set i (some x)) M1) else (λx M1=>D.nx (σ.set i (some x)) M1)) ds [] (av js σ) (put M1 p (.lst []))) (E σ)):=by
 cases fz with
 |false=>exact (iW hN hy hl h_ JO hi hg ht he hs ME).imp λD2 σ H i_=>ex9 i_ λg_ M D3 E3 rm ds lk h er=>jW rm ds (lk.at ds) h λv H1 x M1 dx l_ t1 q1=>er.nx _ _ _ _ l_ ((ds.mono t1).set dx) t1 q1
 |true=>
  refine λa_ s σ H D2 I i_=>ex9 i_ λg_ M D3 E3 rm ds lk h er=>?_
  refine thn (iW hN hy hl h_ JO hi hg ht he hs ME a_ s σ H {D2 with nx:=λo_ H'=>∃x v M1,o_=σ.set i (some v)/\Den X.K H' x v/\RelM X.K M1 H'/\TM X.K H H'/\iC (λx M1=>D3.nx (g_.set i (some x)) M1) x M1} I
   (jW rm ds (lk.at ds) h λv H1 x M1 dx l_ t1 q1=>⟨x,v,M1,rfl,dx,l_,t1,q1⟩)) λfl s1 q=>?_
  cases fl with
  |next=>
   obtain⟨o_,H',I1,x,v,M1,rfl,dx,l_,t1,q1⟩:=q;unfold iC at q1;split at q1
   ·rename_i a;cases (show v=.ref a from dx);split at q1
    ·rename_i es e;obtain⟨vs,e1,dl⟩:=l_ a _ e;obtain⟨o,I2⟩:=I1.freeze e1;exact⟨_,_,I2,er.nx _ _ _ _ (l_.freeze e1) ((ds.mono (t1.trans (.freeze e1))).set (fK dl e1)) (t1.trans (.freeze e1)) q1⟩
    ·exact q1.elim
   ·exact q1.elim
  |brk=>exact q
  |cont=>exact q
  |ret u=>exact q
end
def pN(K:JJ)(cls:Nat->Addr)(t:XE->Ends3->St3->MH->Prop):Ends->St->XK:=λD2 σ c dx H=>∃i g_ M D3,(c=.ref (cls i.c)/\XD K H i dx)/\RelM K M H/\DenS K H g_ σ/\t i D3 g_ M/\ER K H D3 D2
theorem ER.goes{K:JJ}{D2:Ends}(er:ER K H D3 D2)(i:Nat):ER K H (nK D3 i) (D2.goes i):=
 ⟨λo_ H' u_ M' rm ds t q=>er.nx _ _ _ _ rm ds.drop t q,er.rt,λo_ H' u_ M' rm ds t q=>er.bk _ _ _ _ rm ds.drop t q,λo_ H' u_ M' rm ds t q=>er.ct _ _ _ _ rm ds.drop t q⟩
section
variable {X:Cx}{cls:Nat->Addr}{E2:St->XK}{c n:Str}{k j ne:Nat}{sub:Nat->Nat->Bool}{b0:Stmt}{JZ:List Stmt}{np K7 pos:Pos}{aF:List ExceptHandler}{tb:Ends3->(St3->XN)->St3->MH->Prop}{tr:XE->Ends3->St3->MH->Prop}
theorem An:PH X [] (pN X.K cls λ_ _ _ _=>False):=λ_ _ _ _ _ _ _ _ _ ⟨_,_,_,_,_,_,_,h,_⟩=>h.elim
theorem C6(hg:Gl X c)(hm:X.mg c=some (.ref (cls k)))(MV:∀i,i<ne->PySem.W.exmOne X.K (.ref (cls i)) (.ref (cls k))=some (sub i k))(hN:X.N.Nodup)(hj:X.N[j]?=some n)(hl:X.env.scope.names.lookup n=some .local)
  (hs:∀v,PSs (X.marked v) (b0::JZ) (bJ X.K cls no2 tb)) (hr:PH X aF (pN X.K cls tr)) (I_:(c == ("__debug__" : Str))=false) :
  PH X (.ExceptHandler (some (.Name c np)) (some n) (b0::JZ) K7::aF) (pN X.K cls λi D σ M=>i.c<ne/\if sub i.c k=true then (∀a,M a=none->tb (nK D j) (λ_ _ _=>False) (σ.set j (some (.ref a))) (put M a (.exc i (.ref (cls i.c))))) else tr i D σ M):=by
 intro a_ s σ H D a cv dx xi ⟨i,g_,M,D3,⟨e,xd⟩,rm,ds,⟨hi,h⟩,er⟩;subst e;refine BG (i:=j) hg hm hN hj hl hs hr I_ a_ s σ H D a _ dx xi ?_;have z:=MV i.c hi;cases q:sub i.c k with
 |true=>
  rw[q]at z;rw[Iu q]at h;refine .inl ⟨z,λa' ha=>?_⟩
  have tn:TM X.K H (upd H a' (w5 a' (.ref (cls i.c)) dx)):=.new ha;exact⟨_,_,_,_,rm.lay (u:=.exc i (.ref (cls i.c))) ha ⟨dx,ag,xd.mono tn⟩,(ds.mono tn).set fY,(λ_ _ _ _ _ _ _ _ w=>w.elim),h a' (rm.fresh ha),(er.goes j).mono tn⟩
 |false=>
  rw[q]at z;rw[Im (by rw[q];exact IP)]at h
  exact .inr ⟨z,i,g_,M,D3,⟨rfl,xd⟩,rm,ds,h,er⟩
theorem BV(hg:Gl X c)(hm:X.mg c=some (.ref (cls k)))(MV:∀i,i<ne->PySem.W.exmOne X.K (.ref (cls i)) (.ref (cls k))=some (sub i k))
  (hs:∀v,PSs (X.marked v) (b0::JZ) (bJ X.K cls no2 tb)) (hr:PH X aF (pN X.K cls tr)) (I_:(c == ("__debug__" : Str))=false) :
  PH X (.ExceptHandler (some (.Name c np)) none (b0::JZ) K7::aF) (pN X.K cls λi D σ M=>i.c<ne/\if sub i.c k=true then tb D (λ_ _ _=>False) σ M else tr i D σ M):=by
 intro a_ s σ H D a cv dx xi ⟨i,g_,M,D3,⟨e,xd⟩,rm,ds,⟨hi,h⟩,er⟩;subst e;refine Dh hg hm hs hr I_ a_ s σ H D a _ dx xi ?_;have z:=MV i.c hi;cases q:sub i.c k with
 |true=>
  rw[q]at z;rw[Iu q]at h;exact .inl ⟨z,g_,M,D3,_,rm,ds,(λ_ _ _ _ _ _ _ _ w=>w.elim),h,er⟩
 |false=>
  rw[q]at z;rw[Im (by rw[q];exact IP)]at h
  exact .inr ⟨z,i,g_,M,D3,⟨rfl,xd⟩,rm,ds,h,er⟩
theorem wc(Kb:X.stack=X.env::X.outer)(KR:X.env.frame=some X.env.locals)(hex:X.ex=[])(hh:PH X (h0::hs) th) :
  PS X (.Try body (h0::hs) [] [] pos) (λD σ H=>∀pn W,aS (CX1 X.prog X.w) (X.tryX pn W) (λσ cls d H=>th D σ cls d H)->∃t,PSs (X.tryX pn W) body t/\t D σ H):=by
 intro a_ s σ H D I h;have key:∀(W:Value->Shared->Prop),aS (CX1 X.prog X.w) (X.tryX a_ W) (λσ cls d H=>th D σ cls d H)->wpAny (model X.prog X.w) X.A (execs body X.env) (SP (X.tryX a_ W) [] D) W s:=λW hP=>by
  obtain⟨t,ht,q⟩:=h a_ W hP;exact ht [] s σ H D (I.tryX _) q
 refine wpAny_Try_except (JA (key _ ?hx) (λf s1 q=>?_) (λe s1 q=>q))
 case hx=>
  intro Ma O1 H1 s1 e s' I' hc;have I1:=I'.untry I.ok;obtain⟨a,cls,B,H2,dx,rfl,os,bare,un,h_,⟨QJ,R9⟩,ha,KO,he⟩:=hc;have LY:=wH QJ KO;obtain⟨a0,fl⟩:=QJ;have R_:Heap.FlyingW B (X.env::X.outer) a cls a0 s'.heap:=Kb▸fl;have hA:X.A.frames=some (X.env::X.outer):=Kb▸I.ok.frames;refine va hA KR R_ R9 λh4 Qd QK Sa=>qQ Qd Sa λh5 QM QN Sb=>?_
  refine hh a_ _ O1 H2 D a cls dx ⟨B,a0,I1.behind (s':=s') (h4:=h5) hex os bare un h_ KO QM.1 (QK.trans QN),⟨Kb▸QM,Sb⟩,ha,?_,λp hp z=>?_,λh6 NH ND=>I1.behind (s':=s') (h4:=h6) hex os bare un h_ KO NH ((QK.trans QN).trans ND)⟩ he
  ·cases q:X.s₀.heap.get? a with
   |none=>rfl
   |some o=>
    obtain⟨o1,e1⟩:=I1.base.there a o q (by rw[hex];exact λz=>nomatch z)
    rw[LY]at e1;cases e1
  ·have e1:=(I1.pin p hp).1;rw[z,LY]at e1;cases e1
 ·match f,q with
  |.next,⟨o_,H',J,q⟩=>exact wpAny_execs_nil ⟨o_,H',J.untry I.ok,q⟩
  |.brk,⟨o_,H',J,q⟩=>exact⟨o_,H',J.untry I.ok,q⟩
  |.cont,⟨o_,H',J,q⟩=>exact⟨o_,H',J.untry I.ok,q⟩
  |.ret u,⟨v,o_,H',J,r,q⟩=>exact⟨v,o_,H',J.untry I.ok,r,q⟩
theorem DR(Kb:X.stack=X.env::X.outer)(KR:X.env.frame=some X.env.locals)(hex:X.ex=[])(hh:PH X (h0::hs) (pN X.K cls th))
  (hb:∀pn W Oa,aS (CX1 X.prog X.w) (X.tryX pn W) Oa->PSs (X.tryX pn W) body (bJ X.K cls Oa tb)) :
  PS X (.Try body (h0::hs) [] [] pos) (bJ X.K cls E2 λD _ σ M=>tb D (λo_ i M'=>th i D o_ M') σ M):=
 (wc Kb KR hex hh).imp λD2 σ H ⟨g_,M,D3,E3,rm,ds,lk,h,er⟩ pn W hP=>⟨_,hb pn W _ hP,g_,M,D3,_,rm,ds,λu_ o_ i M' H' t JK r_ q dx xd=>⟨i,u_,M',D3,⟨rfl,xd⟩,r_,JK,q,er.mono t⟩,h,er⟩
end
section
variable {X:Cx}{s:Shared}{k_:List (Key×V)}{o:Obj}
theorem vA{h:Heap}(ok:ObjOk P w H h a (.dK k_))(g:h.get? a=some o):DOb o (k_.map λx=>(kV x.1,x.2))/\o.ExactDict/\(a == sysModules)=false:=by
 obtain⟨z,nm,vs,kv,o',es,ep,g',xd,hd,ko,pr,_⟩:=ok;cases g.symm.trans g';have key:∀{l:List DictEntry}{vs:List (Key×Value)}{k_:List (Key×V)},Pairs (aE P w) l vs->KV k_ vs->l.length=k_.length/\∀(i:Nat) p e,(k_.map λx=>(kV x.1,x.2))[i]?=some p->l[i]?=some e->RelV p.1 e.key/\RelV p.2 e.val:=by
  intro l vs k_ pr
  induction pr generalizing k_ with
  |nil=>
   intro kv;cases kv;exact⟨rfl,λi p e h=>by simp at h⟩
  |@cons e q es qs h1 h2 _ ih=>
   intro kv;cases kv with
   |@cons p _ ps _ hp t=>
    obtain⟨l1,l2⟩:=ih t;refine⟨by rw[IN,IN,l1],λi p' e' h3 h4=>?_⟩
    cases i with
    |zero=>
     simp at h3 h4;subst h3 h4;refine⟨?_,by rw[h2];exact hp.2⟩
     rw[oG,<-hp.1]at h1;rcases aH h1 with ⟨i,t,e1,e2⟩|⟨x,t,e1,e2⟩
     ·rw[e1,e2];exact⟨t,rfl⟩
     ·rw[e1,e2];exact⟨t,rfl⟩
    |succ i=>
     rw[Ip,List.getElem?_cons_succ]at h3;rw[List.getElem?_cons_succ]at h4;exact l2 i p' e' h3 h4
 obtain⟨l1,l2⟩:=key pr kv;exact⟨⟨es,ep,xd,hd,by rw[ID,<-l1,Array.length_toList],λi p e h1 h2=>l2 i p e h1 (by rw[Array.getElem?_toList];exact h2)⟩,xd,nm⟩
end
section
variable {X:Cx}{m_ n_:Pos}
theorem Ak{K:JJ}(k:Key):Den K H (kD k) (kV k):=by
 cases k<;>rfl
end
end L2
namespace L2
open PySem PySem.Spec PyProof.Rows PySem.W
noncomputable def Itk(d:Addr)(o:Obj)(vs:List V):It:=
 ⟨λi H=>(∃u,H d=some (.s_ o u))/\i<vs.length,λi H v H'=>H'=H/\vs[i]?=some v,λi H=>(∃u,H d=some (.s_ o u))/\vs.length<=i⟩
theorem sv{K:JJ}(d it:Addr){o:Obj}{vs:List V}{es:Array DictEntry}(hd:o.data=.dict es ep)(hz:es.size=vs.length)
  (hr:∀(i:Nat) v e,vs[i]?=some v->es[i]?=some e->RelV v e.key) (Nd:d≠it):Turn P w K tg (Itk d o vs) [it] it (λi h=>h.IsKeyIter it d i es.size ep) where
 mem:=by simp
 obj:=λi h st b hb=>by
  obtain⟨o1,h1,h2,h3⟩:=st;have e':b=it:=by simpa using hb
  subst e';exact⟨_,h1,λv z=>by rw[h3]at z;cases z⟩
 keep:=λi h h' st k=>st.at λo e=>k it (by simp) o e
 item:=by
  intro X hP hw hK hc i a_ s σ H E I hf st hg;subst hP hw hK;obtain⟨⟨u,hu⟩,hi⟩:=hg;have he:es[i]?=some es[i]:=by simp[show i<es.size by omega]
  have LR:vs[i]?=some vs[i]:=by simp[hi]
  have rk:=hr i _ _ LR he;obtain⟨f0,f1,f2,f3,f4,f5⟩:=hf it (by simp)
  refine uY st (I.frzGet hu) hd he λh' KY MB=>?_
  have I2:Inv X a_ σ H {s with heap:=h',toks:=s.toks}:=I.turned (t':=s.toks) (λb o hb e1=>MB.extBut b o hb e1) f0 f1 f3 f4 f5
  refine⟨_,rfl,letGo_keyiter (s':={s with heap:=h'}) KY ?_⟩
  refine⟨vs[i],H,I2,rk,⟨rfl,LR⟩,KY,λb hb=>?_⟩
  have e':b=it:=by simpa using hb
  subst e';exact f0
 done:=by
  intro X hP hw hK hc i a_ s σ H E I hf st hg;subst hP hw hK;obtain⟨⟨u,hu⟩,hi⟩:=hg;obtain⟨f0,f1,f2,f3,f4,f5⟩:=hf it (by simp)
  exact tI (I.ok.hd hc) st (I.frzGet hu) hd (by omega) λh' eb=>⟨rfl,I.turned (t':=s.toks) (λb o hb e=>eb b o hb e) f0 f1 f3 f4 f5⟩
 self:=λ_ _ _ _ _ st h=>wpAny_pyIter_keyiter st h
section
variable {X:Cx}{m_ n_:Pos}
theorem xD{K:JJ}{xs:List (List Int×Addr×Value)}{ks:List (List Int)}(e:H0 d=some (.s_ ob (.ext (aY d xs))))(z:TabOk K H0 d ks xs vs):ItOk K H0 (Itk d ob (xs.map λx=>V.ref x.2.1)) (ks.map mC) (λ_=>True):=by
 have l3:xs.length=ks.length:=by rw[<-z.kx];simp
 refine⟨λi H M t rm s hi=>⟨⟨_,t.g _ _ _ e⟩,by simp at hi ⊢;omega⟩,λi H M x H' t rm s hi y=>?_,λH M t rm s=>⟨⟨_,t.g _ _ _ e⟩,by simp;omega⟩⟩
 obtain⟨rfl,hv⟩:=y;rw[IJ]at hv;cases hx:xs[i]? with
 |none=>rw[hx]at hv;cases hv
 |some x'=>
  rw[hx]at hv;cases hv;have hk:ks[i]?=some x'.1:=by rw[<-z.kx,IJ,hx];rfl
  have sq:=t.t _ _ (z.at_ x' (IW hx));exact⟨.refl _,rm,mC x'.1,by rw[IJ,hk];rfl,ra sq (jQ _)⟩
end
section
variable {X:Cx}{m_ n_:Pos}
theorem sF{K:JJ}{ks:List Key}{vs:List V}(e:H0 d=some (.s_ ob (.dK (ks.zip vs))))(hl:ks.length=vs.length)(dl:DenL K H0 ds vs):ItOk K H0 (Itd d ob ((ks.zip vs).map λx=>(kV x.1,x.2))) (fN ks ds) (λ_=>True):=by
 have l1:=dl.length;have lp:((ks.zip vs).map λx=>(kV x.1,x.2)).length=(fN ks ds).length:=by simp[fN];omega
 refine⟨λi H M t rm s hi=>⟨⟨_,t.g _ _ _ e⟩,by omega⟩,λi H M x H' t rm s hi y=>?_,λH M t rm s=>⟨⟨_,t.g _ _ _ e⟩,by omega⟩⟩
 obtain⟨q,rfl,hq,kv,MT,rfl⟩:=y;rw[IJ]at MT;cases hx:(ks.zip vs)[i]? with
 |none=>rw[hx]at MT;cases MT
 |some x=>
  rw[hx]at MT;obtain rfl:(kV x.1,x.2)=kv:=by simpa using MT
  obtain⟨a1,a2⟩:=List.getElem?_zip_eq_some.mp hx;obtain⟨dd,e1,e2⟩:=(dl.mono t).get' a2;refine⟨.new hq,rm.grow hq,.tup [kD x.1,dd],?_,⟨q,[kV x.1,x.2],rfl,.inl (.inl ag),⟨_,_,rfl,Ak _,_,_,rfl,e2.mono (.new hq),rfl⟩⟩⟩;have ez:(ks.zip ds)[i]?=some (x.1,dd):=List.getElem?_zip_eq_some.mpr ⟨a1,e1⟩;unfold fN;rw[IJ,ez];rfl
theorem wI(ho:PE X o (low X.K cls E2 to))(D_:attributeBase o "items" X.env (eval o X.env)=eval o X.env)(E_:(m_.endLine == n_.line)=true) :
  PI X (.Tuple Ku x1 pt) (.Call (.Attribute o "items" m_) [] [] n_) (jb X.K cls E2 λσ M R E=>to σ M (λx M1=>match x with
  |.JT ks ds=>R (c5 ks ds) (λ_=>True) M1
  |.Kz ks ds=>R (fN ks ds) (λ_=>True) M1
  |_=>False) E):=
 (ul ho D_ E_).imp λσ H R2 i_=>ex9 i_ λg_ M R E3 rm ds lk h k=>bn rm ds lk h λv H1 x M1 dx l_ t1 q1=>by
  cases x with
  |JT ks es=>
   obtain⟨d,vs,ob,xs,rfl,e,z,dl⟩:=dx;refine⟨d,ob,_,prs xs vs,rfl,e,λ_ _ _ _ I e=>⟨(qc I e z.vx).1,z.no⟩,λp hp=>?_⟩
   have t2:TM X.K H1 (upd H1 p (.ext λh=>h.IsItemsView p d)):=.new hp
   exact k _ _ _ _ _ (uS (t2.g _ _ _ e) (z.grow t2) (dl.mono t2)) (l_.grow hp) (t1.trans t2) q1
  |Kz ks es=>
   obtain⟨d,vs,ob,rfl,e,hl,dl⟩:=dx;refine⟨d,ob,_,(ks.zip vs).map λx=>(kV x.1,x.2),rfl,e,λ_ _ _ _ I e=>⟨(vA (I.h_ _ _ e).2 (I.h_ _ _ e).1).1,(vA (I.h_ _ _ e).2 (I.h_ _ _ e).1).2.2⟩,λp hp=>?_⟩
   have t2:TM X.K H1 (upd H1 p (.ext λh=>h.IsItemsView p d)):=.new hp
   exact k _ _ _ _ _ (sF (t2.g _ _ _ e) hl (dl.mono t2)) (l_.grow hp) (t1.trans t2) q1
  |_=>exact q1.elim
end
end L2
namespace L2
open PySem PySem.Spec PyProof.Rows
section
variable {X:Cx}{s:Shared}
end
section
variable {X:Cx}{m_ n_:Pos}
end
end L2
namespace L2
open PySem PySem.Spec PyProof.Rows PySem.W
section
variable {X:Cx}
end
end L2
namespace L2
open PySem PySem.Spec PyProof.Rows
section
variable {X:Cx}{cls:Nat->Addr}{E2:St->XK}{tg o:Expr}
theorem CD{t2:TE}(ho:PE X o t2):PI X tg o (λσ H R=>t2 σ H λv H1=>∃d ob xs ks ws,v=.ref d/\H1 d=some (.s_ ob (.ext (aY d xs)))/\TabOk X.K H1 d ks xs ws/\R (Itk d ob (xs.map λx=>V.ref x.2.1)) H1):=by
 intro a_ s σ H R I h;refine thn (ho a_ s σ H _ I h) λv s1 ⟨x,H2,I2,r1,d,ob,xs,ks,ws,e1,e3,z,q⟩=>?_
 subst e1;cases r1;obtain⟨⟨es,ep,hx,hd,hz,hr⟩,xd⟩:=Br I2 e3 z;have ho:=I2.frzGet e3;refine Cw z.no ho xd hd ?_;have hf:H2 s1.heap.objs.size=none:=I2.h_.fresh (Iq _);have Pz:d<s1.heap.objs.size:=Ir ho;have l2:=z.vx.length;rw[ID]at l2;have NY:es.size=((xs.map λx=>V.ref x.2.1)).length:=by rw[hz];simp[prs];omega
 exact⟨s1.heap.objs.size,[s1.heap.objs.size],_,_,H2,rfl,I2.kept (t':=s1.toks) (λb o e=>Il _ e),sv d s1.heap.objs.size hd NY (λi v e hv he=>by
  obtain⟨w,hw⟩:∃w,ws[i]?=some w:=⟨ws[i]'(by have:=(IC.mp hv).1;simp at this;omega),by simp⟩
  exact (hr i (v,w) e (List.getElem?_zip_eq_some.mpr ⟨hv,hw⟩) he).1) (IM Pz),⟨_,Iz _ rfl,rfl,rfl⟩,λb hb=>by
  have e':b=s1.heap.objs.size:=by simpa using hb
  subst e';exact I2.fpOk (Iq _) hf,q⟩
theorem FC{to:St3->MH->VK3->XN->Prop}(ho:PE X o (low X.K cls E2 to)):PI X tg o (jb X.K cls E2 λσ M R E=>to σ M (λx M1=>match x with
  |.JT ks ds=>R (ks.map mC) (λ_=>True) M1
  |_=>False) E):=
 (CD ho).imp λσ H R2 i_=>ex9 i_ λg_ M R E3 rm ds lk h k=>bn rm ds lk h λv H1 x M1 dx l_ t1 q1=>by
  cases x with
  |JT ks es=>
   obtain⟨d,vs,ob,xs,rfl,e,z,dl⟩:=dx;exact⟨d,ob,xs,ks,vs,rfl,e,z,k _ _ _ _ _ (xD e z) l_ t1 q1⟩
  |_=>exact q1.elim
end
section
variable {X:Cx}{m_ n_:Pos}
end
structure Cfg where
 N:List Str
 sc:Scope
 fns:List (Option Str×Nat)
 exc:List Str
 kln:List Str
 gln:List Str
 xin:List (Nat×Nat)
 calm:Bool
 own:Bool
 tr:Bool
 fn:Bool
 cel:List (Str×NameKind):=[]
noncomputable def glB(c:Cfg)(x:Str):Bool:=c.sc.names.lookup x == some .globalImplicit
noncomputable def Bl(sc:Scope)(x:Str):Bool:=match sc.names.lookup x with
 |some .local=>true
 |some .cell=>true
 |some .free=>true
 |_=>false
noncomputable def wj(c:Cfg)(x:Str):Bool:=c.sc.names.lookup x == some .local||(c.fn&&c.sc.names.lookup x == some .cell)||(c.cel.lookup x == some .cell&&c.sc.names.lookup x == some .cell)
noncomputable def cF:Expr->Bool
 |.Starred ..=>false
 |_=>true
noncomputable def oE:Expr->Bool
 |.Set ..=>false
 |_=>true
noncomputable def lD:Expr->Bool
 |.ListComp ..=>false
 |.SetComp ..=>false
 |.DictComp ..=>false
 |_=>true
noncomputable def xK:Expr->Bool
 |.Tuple ..=>false
 |_=>true
noncomputable def lK:Expr->Bool
 |.Slice ..=>false
 |_=>true
noncomputable def yr:Expr->Bool
 |.Call ..=>false
 |_=>true
noncomputable def nw:Expr->Bool
 |.Call (.Name _ _) [] [] _=>false
 |_=>true
noncomputable def qZ:Expr->Bool
 |.UnaryOp ..=>false
 |.BoolOp ..=>false
 |.IfExp ..=>false
 |.Compare ..=>false
 |_=>true
noncomputable def jg:BI->String
 |.len=>"len"|.max=>"max"|.min=>"min"|.list _=>"list"|.all=>"all"|.any=>"any"
noncomputable def jw:BM->String
 |.get=>"get"|.clear=>"clear"|.KU=>"pop"|.remove=>"remove"
noncomputable def biNames:List Str:=["len","abs","max","min","str","list","tuple","isinstance","range","int","bool","dict","ValueError","enumerate","all","any","sum","zip","reversed","sorted"]
noncomputable def zJ(sc Lh:Scope):Scope:={sc with names:=sc.names.map λ(n,k)=>if (k == .free&&Lh.kind == .function&&Lh.names.lookup n == some .cell) then (n,.cell) else (n,k)}
noncomputable def Cfg.comp(c:Cfg)(N:List Str)(sc:Scope):Cfg:={c with N:=N,sc:=zJ sc c.sc,own:=false,tr:=false,fn:=false,cel:=sc.names}
noncomputable def Cfg.trying(c:Cfg):Cfg:={c with own:=false}
noncomputable def Cfg.caught(c:Cfg):Cfg:={c with calm:=false,own:=false,tr:=false}
noncomputable def okG(c:Cfg):ITg->Expr->Bool
 |.name i,e=>match e with
  |.Name x _=>(c.N[i]? == some x)&&wj c x
  |_=>false
 |.tup is,e=>match e with
  |.Tuple es _ _=>c.calm&&bW c.N c.sc c.fn is es
  |_=>false
noncomputable def rZ:II->Expr->Bool
 |.enum _,e=>match e with
  |.Tuple ..=>true
  |_=>false
 |.zip _ _,e=>match e with
  |.Tuple ..=>true
  |_=>false
 |.items _,e=>match e with
  |.Tuple ..=>true
  |_=>false
 |_,_=>true
mutual
noncomputable def okE:IE->Cfg->Expr->Bool
 |.var i,c,e=>match e with
  |.Name x _=>(c.N[i]? == some x)&&Bl c.sc x&&!(x == ("__debug__" : Str))&&!(x == ("__classdict__" : Str))
  |_=>false
 |.con d,_,e=>match e with
  |.Constant k _ _=>match k,d with
   |.int i,.int j=>decide (i=j)
   |.bool i,.bl j=>decide (i=j)
   |.none,.j_=>true
   |.str i,.str j=>decide (i=j)
   |_,_=>false
  |_=>false
 |.bin op a b,c,e=>match e with
  |.BinOp x Km y _=>decide (op=Km)&&okE a c x&&okE b c y
  |_=>false
 |.neg a,c,e=>match e with
  |.UnaryOp op x _=>decide (op=.USub)&&okE a c x
  |_=>false
 |.cat _ a b,c,e=>match e with
  |.BinOp x Km y _=>decide (Km=.Add)&&okE a c x&&okE b c y
  |_=>false
 |.cmp op a b,c,e=>match e with
  |.Compare x [Km] [y] _=>decide (op=Km)&&oE y&&okE a c x&&okE b c y
  |_=>false
 |.chain op1 op2 a b d,c,e=>match e with
  |.Compare x [op1',op2'] [y,z] _=>decide (op1=op1')&&decide (op2=op2')&&oE z&&okE a c x&&okE b c y&&okE d c z
  |_=>false
 |.and a b,c,e=>match e with
  |.BoolOp op (x::y::r) p=>decide (op=.And)&&okE a c x&&(match r with|[]=>okE b c y|_::_=>okE b c (.BoolOp .And (y::r) p))
  |_=>false
 |.or a b,c,e=>match e with
  |.BoolOp op (x::y::r) p=>decide (op=.Or)&&okE a c x&&(match r with|[]=>okE b c y|_::_=>okE b c (.BoolOp .Or (y::r) p))
  |_=>false
 |.not a,c,e=>match e with
  |.UnaryOp op x _=>decide (op=.Not)&&okE a c x
  |_=>false
 |.tup es,c,e=>match e with
  |.Tuple xs _ _=>okA es c xs
  |_=>false
 |.lst _ es,c,e=>match e with
  |.List xs _=>okA es c xs
  |_=>false
 |.s_ a,c,e=>okE a c e
 |.ix a b,c,e=>match e with
  |.Subscript x y _=>lK y&&okE a c x&&okE b c y
  |_=>false
 |.sl _ a lo hi,c,e=>match e with
  |.Subscript x (.Slice l h none _) _=>okE a c x&&okO lo c l&&okO hi c h
  |_=>false
 |.call f es,c,e=>match e with
  |.Call (.Name x _) args [] _=>c.calm&&(match c.fns[f]? with|some p=>decide (some x=p.1)&&decide (args.length=p.2)|none=>false)&&glB c x&&!(x == ("__debug__" : Str))&&okA es c args
  |_=>false
 |.bi b es,c,e=>match e with
  |.Call (.Name x _) args [] _=>c.calm&&decide (x=(jg b:Str))&&glB c x&&!args.isEmpty&&okA es c args
  |_=>false
 |.Lp a t,c,e=>match e with
  |.Call (.Name x _) [y,.Name z _] [] _=>decide (x=("isinstance" : Str))&&decide (z=(ce t:Str))&&glB c x&&glB c z&&cF y&&okE a c y
  |_=>false
 |.Nb a k,c,e=>match e with
  |.Call (.Name x _) [y,.Name z _] [] _=>decide (x=("isinstance" : Str))&&(c.exc[k]? == some z)&&glB c x&&glB c z&&!(z == ("__debug__" : Str))&&cF y&&okE a c y
  |_=>false
 |.Lq a b,c,e=>match e with
  |.Dict [some x] [y] _=>okE a c x&&okE b c y
  |_=>false
 |.comp _ N js tg it cond A_,c,e=>match e with
  |.ListComp el [⟨Ni,iter,ifs,as⟩] scope _=>c.calm&&decide (as=0)&&rZ it Ni&&oE iter&&eL N js scope c.sc c.N&&okI it c iter&&okG (c.comp N scope) tg Ni&&xH cond (c.comp N scope) ifs&&okE A_ (c.comp N scope) el
  |_=>false
 |.NK a,c,e=>match e with
  |.Call (.Name x _) [y] [] _=>c.calm&&decide (x=("min" : Str))&&glB c x&&cF y&&okE a c y
  |_=>false
 |.fld a f,c,e=>match e with
  |.Attribute x m _=>decide (m=fnm f)&&nw x&&okE a c x
  |_=>false
 |.make _ i es,c,e=>match e with
  |.Call (.Name x _) args [] _=>c.calm&&(c.kln[i]? == some x)&&glB c x&&!(x == ("__debug__" : Str))&&okA es c args
  |_=>false
 |.J4 a m es,c,e=>match e with
  |.Call (.Attribute x n ap) args [] cp=>c.calm&&decide (n=fnm m)&&nw x&&(ap.endLine == cp.line)&&decide (args.length<30)&&okE a c x&&okA es c args
  |_=>false
 |.ini i es,c,e=>match e with
  |.Call (.Attribute (.Name x _) n ap) args [] cp=>c.calm&&decide (n=("__init__" : Str))&&(c.kln[i]? == some x)&&glB c x&&!(x == ("__debug__" : Str))&&(ap.endLine == cp.line)&&decide (args.length<30)&&!args.isEmpty&&okA es c args
  |_=>false
 |.K_ a j,c,e=>match e with
  |.Call (.Name x _) [y,.Name z _] [] _=>decide (x=("isinstance" : Str))&&(c.kln[j]? == some z)&&glB c x&&glB c z&&!(z == ("__debug__" : Str))&&cF y&&okE a c y
  |_=>false
 |.glo k,c,e=>match e with
  |.Name x _=>(c.gln[k]? == some x)&&glB c x&&!(x == ("__debug__" : Str))
  |_=>false
 |.bm b o es,c,e=>match e with
  |.Call (.Attribute x n ap) args [] cp=>c.calm&&decide (n=(jw b:Str))&&nw x&&(ap.endLine == cp.line)&&decide (args.length<30)&&okE o c x&&okA es c args
  |_=>false
 |.Kh _,_,e=>match e with
  |.Dict [] [] _=>true
  |_=>false
 |.rep _ a b,c,e=>match e with
  |.BinOp x Km y _=>decide (Km=.Mult)&&okE a c x&&okE b c y
  |_=>false
 |.La _ a b,c,e=>match e with
  |.Call (.Name x _) [.Call (.Name x' _) [y,z] [] _] [] _=>c.calm&&decide (x=("list" : Str))&&glB c x&&decide (x'=("zip" : Str))&&glB c x'&&cF y&&cF z&&okE a c y&&okE b c z
  |_=>false
noncomputable def okT:IT->Cfg->Expr->Bool
 |.val a,c,e=>qZ e&&okE a c e
 |.cmp op a b,c,e=>match e with
  |.Compare x [Km] [y] _=>decide (op=Km)&&oE y&&okE a c x&&okE b c y
  |_=>false
 |.and a b,c,e=>match e with
  |.BoolOp op (x::y::r) p=>decide (op=.And)&&okT a c x&&(match r with|[]=>okT b c y|_::_=>okT b c (.BoolOp .And (y::r) p))
  |_=>false
 |.or a b,c,e=>match e with
  |.BoolOp op (x::y::r) p=>decide (op=.Or)&&okT a c x&&(match r with|[]=>okT b c y|_::_=>okT b c (.BoolOp .Or (y::r) p))
  |_=>false
 |.not a,c,e=>match e with
  |.UnaryOp op x _=>decide (op=.Not)&&okT a c x
  |_=>false
noncomputable def okA:IA->Cfg->List Expr->Bool
 |.nil,_,es=>es.isEmpty
 |.cons a r,c,es=>match es with
  |x::xs=>cF x&&okE a c x&&okA r c xs
  |[]=>false
noncomputable def okO:IO->Cfg->Option Expr->Bool
 |.no,_,o=>o.isNone
 |.yes a,c,o=>match o with
  |some x=>okE a c x
  |none=>false
noncomputable def xH:ITO->Cfg->List Expr->Bool
 |.no,_,es=>es.isEmpty
 |.yes t,c,es=>match es with
  |[x]=>okT t c x
  |_=>false
noncomputable def okI:II->Cfg->Expr->Bool
 |.seq a,c,e=>okE a c e
 |.enum a,c,e=>match e with
  |.Call (.Name x _) [y] [] _=>decide (x=("enumerate" : Str))&&glB c x&&cF y&&okE a c y
  |_=>false
 |.zip a b,c,e=>match e with
  |.Call (.Name x _) [y,z] [] _=>decide (x=("zip" : Str))&&glB c x&&cF y&&cF z&&okE a c y&&okE b c z
  |_=>false
 |.Lb a,c,e=>match e with
  |.Call (.Name x _) [y] [] _=>decide (x=("reversed" : Str))&&glB c x&&cF y&&okE a c y
  |_=>false
 |.items a,c,e=>match e with
  |.Call (.Attribute x n ap) [] [] cp=>decide (n=("items" : Str))&&nw x&&(ap.endLine == cp.line)&&okE a c x
  |_=>false
 |.dk a,c,e=>okE a c e
 |.KW a,c,e=>match e with
  |.Call (.Name x _) [y] [] _=>decide (x=("range" : Str))&&glB c x&&cF y&&okE a c y
  |_=>false
end
noncomputable def swB(c:Cfg)(scope:Scope)(x:Str)(l1 l2:Nat):Bool:=c.sc.kind == .function&&c.sc.names.lookup x == some .local&&l1 == l2&&!(scope.names.any λ(n,k)=>n == x&&(k == .local||k == .cell))
mutual
noncomputable def okS:IS->Cfg->Stmt->Bool
 |.set i a,c,s=>match s with
  |.Assign [.Name x px] e _=>(c.N[i]? == some x)&&wj c x&&okE a c e&&(lD e||match e,a with
   |.ListComp _ _ scope pos,.comp ..=>swB c scope x px.line pos.line||c.sc.names.lookup x == some .cell
   |_,_=>false)
  |_=>false
 |.NL is a,c,s=>match s with
  |.Assign [.Tuple es _ _] e _=>c.calm&&bW c.N c.sc c.fn is es&&xK e&&lD e&&okE a c e
  |_=>false
 |.expr a,c,s=>match s with
  |.Expr e _=>lD e&&okE a c e
  |_=>false
 |.ret a,c,s=>match s with
  |.Return (some e) _=>okE a c e
  |_=>false
 |.ifs t a b,c,s=>match s with
  |.If x y z _=>okT t c x&&jr a c y&&jr b c z
  |_=>false
 |.JW tg it body,c,s=>match s with
  |.For Ni iter b [] _=>c.own&&rZ it Ni&&c.calm&&oE iter&&okG c tg Ni&&okI it c iter&&jr body c b
  |_=>false
 |.raise k es,c,s=>match s with
  |.Raise (some (.Call (.Name x _) args [] _)) none _=>(c.xin.lookup k).isNone&&c.own&&c.calm&&(c.exc[k]? == some x)&&glB c x&&!(x == ("__debug__" : Str))&&!args.isEmpty&&okA es c args
  |_=>false
 |.Lr body hs,c,s=>match s with
  |.Try b J5 [] [] _=>c.tr&&!J5.isEmpty&&jr body c.trying b&&uj hs c J5
  |_=>false
 |.app o a,c,s=>match s with
  |.Expr (.Call (.Attribute x m ap) [y] [] cp) _=>decide (m=("append" : Str))&&yr x&&(ap.endLine == cp.line)&&cF y&&okE o c x&&okE a c y
  |_=>false
 |.del _,_,_=>false
 |.dead,_,_=>true
 |.J2 o f a,c,s=>match s with
  |.Assign [.Attribute x m _] v _=>decide (m=fnm f)&&lD v&&okE o c x&&okE a c v
  |_=>false
 |.F_ o i a,c,s=>match s with
  |.Assign [.Subscript x y _] v _=>lK y&&lD v&&okE o c x&&okE i c y&&okE a c v
  |_=>false
noncomputable def jr:ISs->Cfg->List Stmt->Bool
 |.nil,_,Li=>Li.isEmpty
 |.cons s r,c,Li=>match s with
  |.del _=>jr r c Li
  |s=>match Li with
   |st::aF=>okS s c st&&jr r c aF
   |[]=>false
noncomputable def uj:IHs->Cfg->List ExceptHandler->Bool
 |.nil,_,hs=>hs.isEmpty
 |.cons k nm body r,c,hs=>match hs with
  |.ExceptHandler (some (.Name x _)) OL K5 _::aF=>(c.exc[k]? == some x)&&glB c x&&!(x == ("__debug__" : Str))&&(match nm,OL with
   |none,none=>true
   |some j,some n=>(c.N[j]? == some n)&&c.sc.names.lookup n == some .local
   |_,_=>false)&&!K5.isEmpty&&jr body c.caught K5&&uj r c aF
  |_=>false
end
structure Good (c:Cfg)(W:WC)(X:Cx)(E2:St->XK):Prop where
 N:X.N=c.N
 nd:c.N.Nodup
 sc:X.env.scope=c.sc
 un:X.A.units+64<cLine
 calm:c.calm=true->X.calm=true
 fnx:c.fn=true->∀x,X.fn x=true
 cel:∀x,c.cel.lookup x=some .cell->X.fn x=true
 own:c.own=true->PassesOwn (model X.prog X.w) X.A X.env X.xe/\∃E,(E2=λ_=>E)/\lV X E/\qA X E/\Room 2 X.A
 tr:c.tr=true->X.stack=X.env::X.outer/\X.env.frame=some X.env.locals/\X.ex=[]
 fns:c.calm=true->∃k,Room (k+1) X.A/\∀f,f<c.fns.length->so X W.cls k (W.d_ f) (W.call f)
 fnn:∀f x n,c.fns[f]?=some (some x,n)->X.mg x=some (.ref (W.d_ f))
 kok:∀i,i<W.nk->KOk X.K W.toWB W.d_ i
 kin:∀i,i<W.nk->∃f,W.ini i=some f
 kfi:∀i f,i<W.nk->W.ini i=some f->f<c.fns.length
 kfm:∀i m f,i<W.nk->W.mth i m=some f->f<c.fns.length
 knm:∀i x,c.kln[i]?=some x->X.mg x=some (.ref (W.c_ i))/\i<W.nk
 glo:∀k x,c.gln[k]?=some x->∃u v,X.mg x=some u/\RelV v u/\∀H,Den X.K H (W.glo k) v
 exc:∀i x,c.exc[i]?=some x->X.mg x=some (.ref (W.cls i))/\(c.xin.lookup i=none->xf X.K (W.cls i))/\∀j,j<W.ne->PySem.W.exmOne X.K (.ref (W.cls j)) (.ref (W.cls i))=some (W.sub j i)
 exi:∀i,i<W.ne->ExcI X.K (W.cls i)/\PySem.W.kitOne X.K (.ref (W.cls i)) (.type "ValueError")=some true/\∀j x,c.exc[j]?=some x->PySem.W.kitOne X.K (.ref (W.cls i)) (.ref (W.cls j))=some (W.sub i j)
 xi:∀i f,c.xin.lookup i=some f->W.xin i=some f/\∃fI fd ps,XIni X.K (W.cls i) fI (fnm f)/\Binds X.K fd ps []/\FnOk X.prog X.w X.K X.mg X.base (CX1 X.prog X.w) 1 fI fd ps (nq (cpF f) X.K (W.cls i) (fnm f))
 xn:∀i f,i<W.ne->W.xin i=some f->NoAttr X.K (W.cls i) (fnm f)
 bi:∀x∈biNames,X.mg x=none
 dig:AM X.K
 pass:aS (CX1 X.prog X.w) X E2
section
variable {c:Cfg}{X:Cx}
theorem Good.gl(G:Good c W X E2)(h:glB c x=true):Gl X x:=by
 show X.env.scope.names.lookup x=_;rw[G.sc];exact IH.mp h
theorem Good.loc(G:Good c W X E2)(h:wj c x=true):Loc X.env.scope x/\(X.fn x=true\/X.env.scope.names.lookup x=some .local):=by
 unfold wj at h;rw[G.sc];simp only[Bool.or_eq_true,Ij,IH]at h;rcases h with (h|⟨h1,h2⟩)|⟨h1,h2⟩
 ·exact⟨.inl h,.inr h⟩
 ·exact⟨.inr h2,.inl (G.fnx h1 x)⟩
 ·exact⟨.inr h2,.inl (G.cel x h1)⟩
theorem Good.vis(G:Good c W X E2)(h:Bl c.sc x=true):Vis X.env.scope x:=by
 rw[G.sc];unfold Bl at h;split at h
 ·exact .inl (by assumption)
 ·exact .inr (.inl (by assumption))
 ·exact .inr (.inr (by assumption))
 ·cases h
theorem Good.at{i:Nat}{x:Str}(G:Good c W X E2)(h:(c.N[i]? == some x)=true):X.N[i]?=some x:=by rw[G.N];exact IH.mp h
theorem Good.ndX(G:Good c W X E2):X.N.Nodup:=by rw[G.N];exact G.nd
theorem Good.names(G:Good c W X E2)(h:bW c.N c.sc c.fn is es=true):bW X.N X.env.scope c.fn is es=true:=by rw[G.N,G.sc];exact h
theorem Good.trying(G:Good c W X E2)(h:aS (CX1 X.prog X.w) (X.tryX pn V') Oa):Good c.trying W (X.tryX pn V') Oa:=
 ⟨G.N,G.nd,G.sc,G.un,G.calm,G.fnx,G.cel,(λz=>nomatch z),G.tr,G.fns,G.fnn,G.kok,G.kin,G.kfi,G.kfm,G.knm,G.glo,G.exc,G.exi,G.xi,G.xn,G.bi,G.dig,h⟩
theorem uo:aS (CX1 P w) X no2:=λ_ _ _ _ _ _ _ h=>by
 obtain⟨_,_,_,_,_,_,_,_,_,_,_,_,_,he⟩:=h;exact he.elim
theorem Good.caught(G:Good c W X E2)(v:Value):Good c.caught W (X.marked v) no2:=
 ⟨G.N,G.nd,G.sc,G.un,(λz=>nomatch z),G.fnx,G.cel,(λz=>nomatch z),(λz=>nomatch z),(λz=>nomatch z),G.fnn,G.kok,G.kin,G.kfi,G.kfm,G.knm,G.glo,G.exc,G.exi,G.xi,G.xn,G.bi,G.dig,uo⟩
theorem Good.comp(G:Good c W X E2){N:List Str}{js:List (Option Nat)}{scope:Scope}(h:eL N js scope c.sc c.N=true)(C:Addr)(s2:Shared)(H2:Hp)(fp:List Addr)(pn:List (Addr×Obj)):Good (c.comp N scope) W (compCx X scope C N s2 H2 fp pn) no2:=by
 have hc:=kC h;refine⟨rfl,hc.nd,?_,G.un,G.calm,(λz=>nomatch z),(λx z=>IH.mpr z),(λz=>nomatch z),(λz=>nomatch z),G.fns,G.fnn,G.kok,G.kin,G.kfi,G.kfm,G.knm,G.glo,G.exc,G.exi,G.xi,G.xn,G.bi,G.dig,uo⟩
 show relabel scope X.env=zJ scope c.sc;unfold relabel zJ;rw[<-G.sc];rfl
end
theorem aX(h:cF e=true):starEach (e::es) env=(false,eval e env)::starEach es env:=by
 cases e<;>first|rfl|cases h
theorem uH(h:oE e=true):∀x,foldedSetIterable e env x=pure x:=by
 intro x;cases e<;>first|rfl|cases h
theorem ms(h:oE e=true):behindInMarks op e=false:=by
 cases e<;>first|rfl|cases h
theorem jn(h:lD e=true):swapsWith e t n env=pure false:=by
 cases e<;>first|rfl|cases h
theorem rO{e:Expr}(h:qZ e=true):∀whole,isTrue e env whole=(do let v<-whole;standAt e.pos;holding [v] (truthy v)):=by
 intro whole;cases e<;>first|rfl|cases h
theorem wl(h:lK e=true):l9 e:=by
 intro o i;cases e<;>first|rfl|cases h
theorem Ag{e:Expr}{m:Str}{env:Env}{whole:Sem Value}(h:yr e=true):attributeBase e m env whole=whole:=by
 cases e<;>first|rfl|cases h
theorem eO{e:Expr}{m:Str}{env:Env}{whole:Sem Value}(h:nw e=true):attributeBase e m env whole=whole:=by
 cases e with
 |Call f as ks p=>
  cases f with
  |Name x px=>
   cases as with
   |nil=>
    cases ks with
    |nil=>cases h
    |cons _ _=>rfl
   |cons _ _=>rfl
  |_=>rfl
 |_=>rfl
theorem Ao(h:lK i=true):∀v,assign (.Subscript o i p) env v=(do
   let ov<-holding [v] (eval o env)
   let iv<-holding [v,ov] (eval i env)
   standAt p
   holding [v,ov,iv] (setItem ov iv v)
   release [v,ov,iv] []):=by
 intro v;cases i<;>first|rfl|cases h
theorem vz(h:xK e=true):swappedStores [.Tuple es k p] e env=pure none:=by
 cases e<;>first|rfl|cases h
theorem cR(pos:Pos):∀{r:IA}{c:Cfg}{es:List Expr}{env:Env},okA r c es=true->(backTo pos (starEach es env)).any (·.1)=false
 |.nil,c,es,env,h=>by
  simp only[okA]at h;cases es with
  |nil=>rfl
  |cons _ _=>cases h
 |.cons a r,c,es,env,h=>by
  cases es with
  |nil=>simp[okA]at h
  |cons x xs=>
   simp only[okA,Ij]at h;rw[aX h.1.1];show (false||(backTo pos (starEach xs env)).any (·.1))=false
   rw[cR pos h.2];rfl
theorem yk(h:PE X a t):PE X (.BoolOp op [a] pos) t:=yP h
theorem yX(b:BI):((jg b:String):Str)∈biNames:=by
 cases b with
 |list fz=>cases fz<;>decide +kernel
 |_=>decide +kernel
theorem Ar(t:BT):((ce t:String):Str)∈biNames:=by cases t<;>decide +kernel
theorem vZ{X:Cx}(hu:X.A.units+64<cLine)(hc:X.calm=true)(hd:AM X.K)(hg:Gl X (jg b:String))(hm:X.mg (jg b:String)=none)(ha:PA X (e::es) (dO X.K cls E2 tr))
  (he:starEach (e::es) X.env=(false,eval e X.env)::starEach es X.env) (JR:(backTo pos (starEach es X.env)).any (·.1)=false):PE X (.Call (.Name (jg b:String) p) (e::es) [] pos) (low X.K cls E2 λσ M Q E=>tr σ M (λxs M1=>rBi b xs M1 Q) E):=by
 cases b with
 |len=>exact f8 Bn hg hm (by decide +kernel) ha (by decide +kernel) (by decide +kernel) he JR
 |max=>exact f8 (By hc) hg hm (by decide +kernel) ha (by decide +kernel) (by decide +kernel) he JR
 |min=>exact f8 (yG hc) hg hm (by decide +kernel) ha (by decide +kernel) (by decide +kernel) he JR
 |list fz=>exact xt (wS fz hc) hg hm (by cases fz<;>decide +kernel) ha (by cases fz<;>decide +kernel) (by cases fz<;>decide +kernel) he JR
 |all=>exact f8 (ym true hc) hg hm (by decide +kernel) ha (by decide +kernel) (by decide +kernel) he JR
 |any=>exact f8 (ym false hc) hg hm (by decide +kernel) ha (by decide +kernel) (by decide +kernel) he JR
theorem xO{X:Cx}{m_ pos:Pos}(hu:X.A.units+64<cLine)(ho:PE X o (low X.K cls E2 to))(ha:PA X (e::es) (dO X.K cls E2 tr))
  (hb:attributeBase o (jw b:String) X.env (eval o X.env)=eval o X.env) (hn:(e::es).length<30) (hl:(m_.endLine == pos.line)=true) (he:starEach (e::es) X.env=(false,eval e X.env)::starEach es X.env) (JR:(backTo pos (starEach es X.env)).any (·.1)=false) :
  PE X (.Call (.Attribute o (jw b:String) m_) (e::es) [] pos) (low X.K cls E2 λσ M Q E=>to σ M (λx M1=>tyB b x M1=true/\tr σ M1 (λxs M2=>rBm b x xs M2 Q) E) E):=by
 cases b with
 |get=>exact wV PySem.F.plainAttrs_dict PySem.F.slot_dict_get PySem.F.type_dict_get (vk hu) iP ho ha hb hn hl he JR
 |clear=>exact wV PySem.F.plainAttrs_list PySem.F.slot_list_clear PySem.F.type_list_clear nW fU ho ha hb hn hl he JR
 |KU=>exact wV PySem.F.plainAttrs_dict PySem.F.slot_dict_pop PySem.F.type_dict_pop (qM hu) iP ho ha hb hn hl he JR
 |remove=>exact wV PySem.F.plainAttrs_list PySem.F.slot_list_remove PySem.F.type_list_remove (kR hu) fU ho ha hb hn hl he JR
theorem vK{X:Cx}{m_ pos:Pos}(hu:X.A.units+64<cLine)(ho:PE X o (low X.K cls E2 to))
  (hb:attributeBase o (jw b:String) X.env (eval o X.env)=eval o X.env) (hl:(m_.endLine == pos.line)=true) :
  PE X (.Call (.Attribute o (jw b:String) m_) [] [] pos) (low X.K cls E2 λσ M Q E=>to σ M (λx M1=>tyB b x M1=true/\rBm b x [] M1 Q) E):=by
 cases b with
 |get=>exact qC PySem.F.plainAttrs_dict PySem.F.slot_dict_get PySem.F.type_dict_get (vk hu) iP ho hb hl
 |clear=>exact qC PySem.F.plainAttrs_list PySem.F.slot_list_clear PySem.F.type_list_clear nW fU ho hb hl
 |KU=>exact qC PySem.F.plainAttrs_dict PySem.F.slot_dict_pop PySem.F.type_dict_pop (qM hu) iP ho hb hl
 |remove=>exact qC PySem.F.plainAttrs_list PySem.F.slot_list_remove PySem.F.type_list_remove (kR hu) fU ho hb hl
theorem cP(h:okA (.cons a r) c es=true):∃x xs,es=x::xs/\cF x=true/\okE a c x=true/\okA r c xs=true:=by
 cases es with
 |nil=>simp[okA]at h
 |cons x xs=>
  simp only[okA,Ij]at h;exact⟨x,xs,rfl,h.1.1,h.1.2,h.2⟩
noncomputable def Gq:IT->Bool
 |.and _ _=>true
 |.or _ _=>true
 |_=>false
section
variable {W:WC}
theorem sG:∀(tg:ITg) {c:Cfg}{e:Expr}{X:Cx}{E2:St->XK},okG c tg e=true->Good c W X E2->PG X e (rg X.K (wpG tg))
 |.name i,c,e,X,E2,h,G=>by
  simp only[okG]at h;split at h
  ·simp only[Ij]at h;obtain⟨l1,l2⟩:=G.loc h.2;exact AX G.ndX (G.at h.1) l1 l2
  ·cases h
 |.tup is,c,e,X,E2,h,G=>by
  simp only[okG]at h;split at h
  ·simp only[Ij]at h;exact yc (G.calm h.1) G.ndX G.fnx (G.names h.2)
  ·cases h
mutual
theorem sE:∀(ie:IE) {c:Cfg}{e:Expr}{X:Cx}{E2:St->XK},okE ie c e=true->Good c W X E2->PE X e (low X.K W.cls E2 (wpE W ie))
 |.var i,c,e,X,E2,h,G=>by
  unfold okE at h;split at h
  ·simp only[Ij,Bool.not_eq_true']at h;exact DI (G.at h.1.1.1) (G.vis h.1.1.2) h.1.2 h.2
  ·cases h
 |.con d,c,e,X,E2,h,G=>by
  unfold okE at h;split at h
  ·split at h
   ·cases JB h;exact mV zw λ_=>rfl
   ·cases JB h;exact mV Di λ_=>rfl
   ·exact mV A6 λ_=>rfl
   ·cases JB h;exact mV vO λ_=>rfl
   ·cases h
  ·cases h
 |.bin op a b,c,e,X,E2,h,G=>by
  unfold okE at h;split at h
  ·simp only[Ij,Iy]at h;obtain⟨⟨rfl,h1⟩,h2⟩:=h;exact Ba (AK op) (sE a h1 G) (sE b h2 G)
  ·cases h
 |.neg a,c,e,X,E2,h,G=>by
  unfold okE at h;split at h
  ·simp only[Ij,Iy]at h;obtain⟨rfl,h1⟩:=h;exact Gb (ta:=wpE W a) (r:=rNeg) zC (sE a h1 G)
  ·cases h
 |.cat fz a b,c,e,X,E2,h,G=>by
  unfold okE at h;split at h
  ·simp only[Ij,Iy]at h;obtain⟨⟨rfl,h1⟩,h2⟩:=h;exact Ca (sE a h1 G) (sE b h2 G)
  ·cases h
 |.cmp op a b,c,e,X,E2,h,G=>by
  unfold okE at h;split at h
  ·simp only[Ij,Iy]at h;obtain⟨⟨⟨rfl,h0⟩,h1⟩,h2⟩:=h;exact DW (lU G.un op) (sE a h1 G) (sE b h2 G) (ms h0)
  ·cases h
 |.chain op1 op2 a b d,c,e,X,E2,h,G=>by
  unfold okE at h;split at h
  ·simp only[Ij,Iy]at h;obtain⟨⟨⟨⟨⟨rfl,rfl⟩,h0⟩,h1⟩,h2⟩,h3⟩:=h;exact wC (lU G.un op1) (lU G.un op2) (sE a h1 G) (sE b h2 G) (sE d h3 G) (ms h0)
  ·cases h
 |.and a b,c,e,X,E2,h,G=>by
  unfold okE at h;split at h
  ·rename_i op x y r p;simp only[Ij,Iy]at h;obtain⟨⟨rfl,h1⟩,h2⟩:=h;cases r with
   |nil=>exact yA (sE a h1 G) (yk (sE b h2 G))
   |cons z r=>exact yA (sE a h1 G) (sE b h2 G)
  ·cases h
 |.or a b,c,e,X,E2,h,G=>by
  unfold okE at h;split at h
  ·rename_i op x y r p;simp only[Ij,Iy]at h;obtain⟨⟨rfl,h1⟩,h2⟩:=h;cases r with
   |nil=>exact CT (sE a h1 G) (yk (sE b h2 G))
   |cons z r=>exact CT (sE a h1 G) (sE b h2 G)
  ·cases h
 |.not a,c,e,X,E2,h,G=>by
  unfold okE at h;split at h
  ·simp only[Ij,Iy]at h;obtain⟨rfl,h1⟩:=h;exact CV (sE a h1 G)
  ·cases h
 |.tup es,c,e,X,E2,h,G=>by
  unfold okE at h;split at h
  ·exact BH (sA es h G)
  ·cases h
 |.lst fz es,c,e,X,E2,h,G=>by
  unfold okE at h;split at h
  ·exact CL (sA es h G)
  ·cases h
 |.s_ a,c,e,X,E2,h,G=>by
  unfold okE at h;exact Cb (sE a h G)
 |.ix a b,c,e,X,E2,h,G=>by
  unfold okE at h;split at h
  ·simp only[Ij]at h;exact E8 G.un (sE a h.1.2 G) (sE b h.2 G) (wl h.1.1)
  ·cases h
 |.sl fz a lo hi,c,e,X,E2,h,G=>by
  unfold okE at h;split at h
  ·simp only[Ij]at h;exact FM (sE a h.1.1 G) (sO lo h.1.2 G) (sO hi h.2 G)
  ·cases h
 |.call f es,c,e,X,E2,h,G=>by
  unfold okE at h;split at h
  ·rename_i x px args pos;simp only[Ij,Bool.not_eq_true']at h;obtain⟨⟨⟨⟨h0,h1⟩,h2⟩,h3⟩,h4⟩:=h;split at h1
   ·rename_i p hp;simp only[Ij,Iy]at h1;obtain⟨h1,_⟩:=h1;obtain⟨p1,p2⟩:=p;cases h1;obtain⟨k,hr,hF⟩:=G.fns h0;obtain⟨fd,ps,Td,m2,m3,m5⟩:=hF f (IC.mp hp).1;have m1:=G.fnn f x p2 hp;have m4:=hr.mono (JF k);have hA:=sA es h4 G;cases args with
    |nil=>
     cases es with
     |nil=>exact wU m5 m4 (G.gl h2) m1 m2 m3 G.pass h3
     |cons _ _=>simp[okA]at h4
    |cons z zs=>
     cases es with
     |nil=>simp[okA]at h4
     |cons ea er=>
      obtain⟨_,_,e1,n1,_,n3⟩:=cP h4;cases e1;exact zi m5 m4 (G.gl h2) m1 m2 m3 G.pass hA h3 (aX n1) (cR _ n3)
   ·cases h1
  ·cases h
 |.bi b es,c,e,X,E2,h,G=>by
  unfold okE at h;split at h
  ·rename_i x px args pos;simp only[Ij,Iy]at h;obtain⟨⟨⟨⟨h0,rfl⟩,h2⟩,h3⟩,h4⟩:=h;have hA:=sA es h4 G;cases args with
   |nil=>cases h3
   |cons z zs=>
    cases es with
    |nil=>simp[okA]at h4
    |cons ea er=>
     obtain⟨_,_,e1,n1,_,n3⟩:=cP h4;cases e1;exact vZ G.un (G.calm h0) G.dig (G.gl h2) (G.bi _ (yX b)) hA (aX n1) (cR _ n3)
  ·cases h
 |.Lp a t,c,e,X,E2,h,G=>by
  unfold okE at h;split at h
  ·simp only[Ij,Iy]at h;obtain⟨⟨⟨⟨⟨rfl,rfl⟩,h2⟩,h3⟩,h4⟩,h5⟩:=h;exact B9 (sE a h5 G) (G.gl h2) (G.bi _ (by decide +kernel)) (G.gl h3) (G.bi _ (Ar t)) (aX h4)
  ·cases h
 |.Nb a k,c,e,X,E2,h,G=>by
  unfold okE at h;split at h
  ·simp only[Ij,Iy,IH,Bool.not_eq_true']at h;obtain⟨⟨⟨⟨⟨⟨rfl,h1⟩,h2⟩,h3⟩,h4⟩,h5⟩,h6⟩:=h;exact CU (sE a h6 G) (G.gl h2) (G.bi _ (by decide +kernel)) (G.gl h3) (G.exc _ _ h1).1 h4 (λi hi=>⟨(G.exi i hi).1,(G.exi i hi).2.2 _ _ h1⟩) (aX h5)
  ·cases h
 |.Lq a b,c,e,X,E2,h,G=>by
  unfold okE at h;split at h
  ·simp only[Ij]at h;exact yE G.un (sE a h.1 G) (sE b h.2 G)
  ·cases h
 |.comp fz N js tg it cond A_,c,e,X,E2,h,G=>by
  unfold okE at h;split at h
  ·simp only[Ij,Iy]at h;obtain⟨⟨⟨⟨⟨⟨⟨⟨h0,rfl⟩,ht⟩,h1⟩,h2⟩,h3⟩,h4⟩,h5⟩,h6⟩:=h;have h_:=h2;rw[<-G.sc,<-G.N]at h_;exact yY h_ (G.calm h0) (sI it h3 G ht) (λC s2 H2 fp pn=>sG tg h4 (G.comp h2 C s2 H2 fp pn)) (λC s2 H2 fp pn=>sTO cond h5 (G.comp h2 C s2 H2 fp pn)) (λC s2 H2 fp pn=>sE A_ h6 (G.comp h2 C s2 H2 fp pn)) (uH h1) fz
  ·cases h
 |.NK a,c,e,X,E2,h,G=>by
  unfold okE at h;split at h
  ·simp only[Ij,Iy]at h;obtain⟨⟨⟨⟨h0,rfl⟩,h1⟩,h2⟩,h3⟩:=h;exact B3 (G.calm h0) G.un (sE a h3 G) (G.gl h1) (G.bi _ (by decide +kernel)) (aX h2)
  ·cases h
 |.fld a f,c,e,X,E2,h,G=>by
  unfold okE at h;split at h
  ·simp only[Ij,Iy]at h;obtain⟨⟨rfl,h1⟩,h2⟩:=h;exact C9 G.kok (sE a h2 G) (eO h1)
  ·cases h
 |.make fz i es,c,e,X,E2,h,G=>by
  unfold okE at h;split at h
  ·rename_i x px args pos;simp only[Ij,Bool.not_eq_true']at h;obtain⟨⟨⟨⟨h0,h1⟩,h2⟩,h3⟩,h4⟩:=h;obtain⟨m1,hi⟩:=G.knm i x (IH.mp h1);obtain⟨k,hr,hF⟩:=G.fns h0;have hA:=sA es h4 G;cases q:W.ini i with
   |none=>exact absurd q (by obtain⟨f,hf⟩:=G.kin i hi;rw[hf];exact λz=>nomatch z)
   |some f=>
    have F:=hF f (G.kfi i f hi q);cases args with
    |nil=>
     cases es with
     |nil=>exact (xU (B:=W.toWB) (fz:=fz) (G.gl h2) m1 h3 ((G.kok i hi).mkr f q) F hr G.pass).imp λσ H Q2 i_=>ex9 i_ λg_ M Q E3 rm ds lk hh b_=>⟨g_,M,Q,E3,rm,ds,lk,by simp only[wpE,wpA,q,eZ]at hh;exact hh.2,b_⟩
     |cons _ _=>simp[okA]at h4
    |cons z zs=>
     cases es with
     |nil=>simp[okA]at h4
     |cons ea er=>
      obtain⟨_,_,e1,n1,_,n3⟩:=cP h4;cases e1;have PD:PA X (z::zs) (dO X.K W.cls E2 λσ M Q E=>wpA W (.cons ea er) σ M (λxs M1=>i<W.nk/\Q xs M1) E):=hA.imp λσ H Q2 i_=>ex9 i_ λg_ M Q E3 rm ds lk hh b_=>⟨g_,M,_,E3,rm,ds,lk,hh,λvs H' xs M' a b c d=>b_ vs H' xs M' a b c d.2⟩
      exact (AA (B:=W.toWB) (fz:=fz) (G.gl h2) m1 h3 ((G.kok i hi).mkr f q) F hr G.pass PD (aX n1) (cR _ n3)).imp λσ H Q2 i_=>ex9 i_ λg_ M Q E3 rm ds lk hh b_=>⟨g_,M,Q,E3,rm,ds,lk,by simp only[wpE,q,eZ]at hh;exact hh,b_⟩
  ·cases h
 |.J4 a m es,c,e,X,E2,h,G=>by
  unfold okE at h;split at h
  ·rename_i x n ap args cp;simp only[Ij,Iy]at h;obtain⟨⟨⟨⟨⟨⟨h0,rfl⟩,h1⟩,h2⟩,h3⟩,h4⟩,h5⟩:=h;obtain⟨k,hr,hF⟩:=G.fns h0;have hA:=sA es h5 G;cases args with
   |nil=>
    cases es with
    |nil=>exact xw (B:=W.toWB) G.kok (λi m f hi q=>hF f (G.kfm i m f hi q)) (hr.mono (JF k)) G.pass (sE a h4 G) (eO h1) h2
    |cons _ _=>simp[okA]at h5
   |cons z zs=>
    cases es with
    |nil=>simp[okA]at h5
    |cons ea er=>
     obtain⟨_,_,e1,n1,_,n3⟩:=cP h5;cases e1;exact AH (B:=W.toWB) G.kok (λi m f hi q=>hF f (G.kfm i m f hi q)) (hr.mono (JF k)) G.pass (sE a h4 G) hA (eO h1) h2 h3 (aX n1) (cR _ n3)
  ·cases h
 |.ini i es,c,e,X,E2,h,G=>by
  unfold okE at h;split at h
  ·rename_i x px n ap args cp;simp only[Ij,Iy,Bool.not_eq_true']at h;obtain⟨⟨⟨⟨⟨⟨⟨⟨h0,rfl⟩,h1⟩,h2⟩,h3⟩,h4⟩,h5⟩,h6⟩,h7⟩:=h;obtain⟨m1,hi⟩:=G.knm i x (IH.mp h1);obtain⟨k,hr,hF⟩:=G.fns h0;have hA:=sA es h7 G;cases args with
   |nil=>cases h6
   |cons z zs=>
    cases es with
    |nil=>simp[okA]at h7
    |cons ea er=>
     obtain⟨_,_,e1,n1,_,n3⟩:=cP h7;cases e1;cases q:W.ini i with
     |none=>exact absurd q (by obtain⟨f,hf⟩:=G.kin i hi;rw[hf];exact λz=>nomatch z)
     |some f=>
      have PD:PA X (z::zs) (dO X.K W.cls E2 λσ M Q E=>wpA W (.cons ea er) σ M (λxs M1=>i<W.nk/\Q xs M1) E):=hA.imp λσ H Q2 i_=>ex9 i_ λg_ M Q E3 rm ds lk hh b_=>⟨g_,M,_,E3,rm,ds,lk,hh,λvs H' xs M' a b c d=>b_ vs H' xs M' a b c d.2⟩
      exact (Cj (B:=W.toWB) (G.gl h2) m1 h3 ((G.kok i hi).ci f q) (hF f (G.kfi i f hi q)) (hr.mono (JF k)) G.pass PD h4 h5 (aX n1) (cR _ n3)).imp λσ H Q2 i_=>ex9 i_ λg_ M Q E3 rm ds lk hh b_=>⟨g_,M,Q,E3,rm,ds,lk,by simp only[wpE,q,eZ]at hh;exact hh,b_⟩
  ·cases h
 |.K_ a j,c,e,X,E2,h,G=>by
  unfold okE at h;split at h
  ·simp only[Ij,Iy,IH,Bool.not_eq_true']at h;obtain⟨⟨⟨⟨⟨⟨rfl,h1⟩,h2⟩,h3⟩,h4⟩,h5⟩,h6⟩:=h;exact DH (B:=W.toWB) G.kok (sE a h6 G) (G.gl h2) (G.bi _ (by decide +kernel)) (G.gl h3) (G.knm _ _ h1).1 h4 (aX h5)
  ·cases h
 |.glo k,c,e,X,E2,h,G=>by
  unfold okE at h;split at h
  ·rename_i x px;simp only[Ij,Bool.not_eq_true']at h;obtain⟨u,v,m1,r,hd⟩:=G.glo k x (IH.mp h.1.1);exact Cn (G.gl h.1.2) m1 r h.2 hd
  ·cases h
 |.bm b o es,c,e,X,E2,h,G=>by
  unfold okE at h;split at h
  ·rename_i x n ap args cp;simp only[Ij,Iy]at h;obtain⟨⟨⟨⟨⟨⟨h0,rfl⟩,h1⟩,h2⟩,h3⟩,h4⟩,h5⟩:=h;have hA:=sA es h5 G;cases args with
   |nil=>
    cases es with
    |nil=>exact vK G.un (sE o h4 G) (eO h1) h2
    |cons _ _=>simp[okA]at h5
   |cons z zs=>
    cases es with
    |nil=>simp[okA]at h5
    |cons ea er=>
     obtain⟨_,_,e1,n1,_,n3⟩:=cP h5;cases e1;exact xO G.un (sE o h4 G) hA (eO h1) h3 h2 (aX n1) (cR _ n3)
  ·cases h
 |.Kh tk,c,e,X,E2,h,G=>by
  unfold okE at h;split at h
  ·exact yB tk
  ·cases h
 |.rep fz a b,c,e,X,E2,h,G=>by
  unfold okE at h;split at h
  ·simp only[Ij,Iy]at h;obtain⟨⟨rfl,h1⟩,h2⟩:=h;exact Cd (sE a h1 G) (sE b h2 G)
  ·cases h
 |.La fz a b,c,e,X,E2,h,G=>by
  unfold okE at h;split at h
  ·simp only[Ij,Iy]at h;obtain⟨⟨⟨⟨⟨⟨⟨⟨h0,rfl⟩,h1⟩,rfl⟩,h2⟩,h3⟩,h4⟩,h5⟩,h6⟩:=h;exact yK (G.calm h0) (G.gl h1) (G.bi _ (by decide +kernel)) (G.gl h2) (G.bi _ (by decide +kernel)) (sE a h5 G) (sE b h6 G) (by rw[aX h3,aX h4];rfl) (aX h4)
  ·cases h
theorem sT:∀(it:IT) {c:Cfg}{e:Expr}{X:Cx}{E2:St->XK},okT it c e=true->Good c W X E2->PT X e (cV X.K W.cls E2 (wpT W it))/\(Gq it=true->PW X e (cV X.K W.cls E2 (wpT W it)))
 |.val a,c,e,X,E2,h,G=>by
  unfold okT at h;simp only[Ij]at h;exact⟨Cl (sE a h.2 G) (rO h.1),λz=>nomatch z⟩
 |.cmp op a b,c,e,X,E2,h,G=>by
  unfold okT at h;split at h
  ·simp only[Ij,Iy]at h;obtain⟨⟨⟨rfl,h0⟩,h1⟩,h2⟩:=h;exact⟨CO (lU G.un op) (sE a h1 G) (sE b h2 G) (ms h0),λz=>nomatch z⟩
  ·cases h
 |.and a b,c,e,X,E2,h,G=>by
  unfold okT at h;split at h
  ·rename_i op x y r p;simp only[Ij,Iy]at h;obtain⟨⟨rfl,h1⟩,h2⟩:=h;have hA:=(sT a h1 G).1;cases r with
   |nil=>exact⟨(qm hA (p9 (sT b h2 G).1)).pt,λ_=>qm hA (p9 (sT b h2 G).1)⟩
   |cons z r=>
    have hB:=(sT b h2 G).2;cases b with
    |and b1 b2=>exact⟨(qm hA (hB rfl)).pt,λ_=>qm hA (hB rfl)⟩
    |val b1=>simp[okT,qZ]at h2
    |_=>simp[okT]at h2
  ·cases h
 |.or a b,c,e,X,E2,h,G=>by
  unfold okT at h;split at h
  ·rename_i op x y r p;simp only[Ij,Iy]at h;obtain⟨⟨rfl,h1⟩,h2⟩:=h;have hA:=(sT a h1 G).1;cases r with
   |nil=>exact⟨(xN hA (uQ (sT b h2 G).1)).pt,λ_=>xN hA (uQ (sT b h2 G).1)⟩
   |cons z r=>
    have hB:=(sT b h2 G).2;cases b with
    |or b1 b2=>exact⟨(xN hA (hB rfl)).pt,λ_=>xN hA (hB rfl)⟩
    |val b1=>simp[okT,qZ]at h2
    |_=>simp[okT]at h2
  ·cases h
 |.not a,c,e,X,E2,h,G=>by
  unfold okT at h;split at h
  ·simp only[Ij,Iy]at h;obtain⟨rfl,h1⟩:=h;exact⟨BD (sT a h1 G).1,λz=>nomatch z⟩
  ·cases h
theorem sA:∀(ia:IA) {c:Cfg}{es:List Expr}{X:Cx}{E2:St->XK},okA ia c es=true->Good c W X E2->PA X es (dO X.K W.cls E2 (wpA W ia))
 |.nil,c,es,X,E2,h,G=>by
  simp only[okA]at h;cases es with
  |nil=>exact C5
  |cons _ _=>cases h
 |.cons a r,c,es,X,E2,h,G=>by
  obtain⟨x,xs,rfl,h1,h2,h3⟩:=cP h;exact yJ (sE a h2 G) (sA r h3 G) (aX h1)
theorem sO:∀(io:IO) {c:Cfg}{o:Option Expr}{X:Cx}{E2:St->XK},okO io c o=true->Good c W X E2->PO X o (rA X.K W.cls E2 (wpO W io))
 |.no,c,o,X,E2,h,G=>by
  simp only[okO]at h;cases o with
  |none=>exact Gj
  |some _=>cases h
 |.yes a,c,o,X,E2,h,G=>by
  cases o with
  |none=>simp[okO]at h
  |some x=>
   simp only[okO]at h;exact Dj (sE a h G)
theorem sTO:∀(io:ITO) {c:Cfg}{es:List Expr}{X:Cx}{E2:St->XK},xH io c es=true->Good c W X E2->PIf X es (cV X.K W.cls E2 (iG W io))
 |.no,c,es,X,E2,h,G=>by
  simp only[xH]at h;cases es with
  |nil=>exact λa_ s σ H Q2 I ⟨g_,M,Q,E3,rm,ds,lk,h,b_⟩=>wo a_ s σ H Q2 I (b_ _ _ _ rm (.refl _) h)
  |cons _ _=>cases h
 |.yes t,c,es,X,E2,h,G=>by
  unfold xH at h;split at h
  ·exact xI (sT t h G).1
  ·cases h
theorem sI:∀(ii:II) {c:Cfg}{e:Expr}{X:Cx}{E2:St->XK}{tg:Expr},okI ii c e=true->Good c W X E2->rZ ii tg=true->PI X tg e (jb X.K W.cls E2 (wpI W ii))
 |.seq a,c,e,X,E2,tg,h,G,_=>by
  unfold okI at h;exact DX (sE a h G)
 |.enum a,c,e,X,E2,tg,h,G,ht=>by
  unfold okI at h;split at h
  ·simp only[Ij,Iy]at h;obtain⟨⟨⟨rfl,h1⟩,h2⟩,h3⟩:=h;have hA:=sE a h3 G;cases tg<;>first
    |exact Bf (G.gl h1) (G.bi _ (by decide +kernel)) hA (aX h2)
    |(simp[rZ]at ht)
  ·cases h
 |.zip a b,c,e,X,E2,tg,h,G,ht=>by
  unfold okI at h;split at h
  ·simp only[Ij,Iy]at h;obtain⟨⟨⟨⟨⟨rfl,h1⟩,h2⟩,h3⟩,h4⟩,h5⟩:=h;have hA:=sE a h4 G;have hB:=sE b h5 G;cases tg<;>first
    |exact DF (G.gl h1) (G.bi _ (by decide +kernel)) hA hB (by rw[aX h2,aX h3];rfl) (aX h3)
    |(simp[rZ]at ht)
  ·cases h
 |.Lb a,c,e,X,E2,tg,h,G,_=>by
  unfold okI at h;split at h
  ·simp only[Ij,Iy]at h;obtain⟨⟨⟨rfl,h1⟩,h2⟩,h3⟩:=h;exact D9 (G.gl h1) (G.bi _ (by decide +kernel)) (sE a h3 G) (aX h2)
  ·cases h
 |.items a,c,e,X,E2,tg,h,G,ht=>by
  unfold okI at h;split at h
  ·simp only[Ij,Iy]at h;obtain⟨⟨⟨rfl,h1⟩,h2⟩,h3⟩:=h;have hA:=sE a h3 G;cases tg<;>first
    |exact wI hA (eO h1) h2
    |(simp[rZ]at ht)
  ·cases h
 |.dk a,c,e,X,E2,tg,h,G,_=>by
  unfold okI at h;exact FC (sE a h G)
 |.KW a,c,e,X,E2,tg,h,G,_=>by
  unfold okI at h;split at h
  ·simp only[Ij,Iy]at h;obtain⟨⟨⟨rfl,h1⟩,h2⟩,h3⟩:=h;exact FI (G.gl h1) (G.bi _ (by decide +kernel)) (sE a h3 G) (aX h2)
  ·cases h
end
end
theorem vL{X:Cx}(G:Good c W X E2){pos px spos:Pos}(h:swB c scope x px.line pos.line=true) :
  swapsWith (.ListComp el gs scope pos) (some (.Name x px)) spos.line X.env=pure true:=by
 unfold swB at h;simp only[Ij]at h;have h1:X.env.scope.kind=.function:=by rw[G.sc];exact IH.mp h.1.1.1
 have h2:X.env.kindOf x=some .local:=by show X.env.scope.names.lookup x=_;rw[G.sc];exact IH.mp h.1.1.2
 have hb:(X.env.blockKind == .function)=true:=by
  unfold Env.blockKind;rw[h1];rfl
 show (pure (X.env.blockKind == .function&&X.env.kindOf x == some .local&&px.line == pos.line&&!(scope.names.any λ(n,k)=>n == x&&(k == .local||k == .cell))):Sem Bool)=pure true
 rw[hb,h2,h.1.2,h.2];rfl
theorem Aj{c:Cfg}{X:Cx}(G:Good c W X E2){spos:Pos}(h:(c.sc.names.lookup x == some .cell)=true) :
  swapsWith (.ListComp el gs scope pos) (some (.Name x px)) spos.line X.env=pure false:=by
 have h2:X.env.kindOf x=some .cell:=by show X.env.scope.names.lookup x=_;rw[G.sc];exact IH.mp h
 show (pure (X.env.blockKind == .function&&X.env.kindOf x == some .local&&px.line == pos.line&&!(scope.names.any λ(n,k)=>n == x&&(k == .local||k == .cell))):Sem Bool)=pure false
 rw[h2,show ((some NameKind.cell:Option NameKind) == some .local)=false from rfl,Bool.and_false];rfl
theorem wp{c:Cfg}(h:swB c scope x a b=true):c.sc.names.lookup x=some .local:=by
 unfold swB at h;simp only[Ij,IH]at h;exact h.1.1.2
section
variable {W:WC}
theorem vo{fz:Bool}{N:List Str}{js:List (Option Nat)}{tg:ITg}{it:II}{cond:ITO}{A_:IE}{c:Cfg}{X:Cx}{E2:St->XK}{i:Nat}{x:Str}{px spos pos:Pos}{el:Expr}{gs:List Comprehension}{scope:Scope}
  (h:okE (.comp fz N js tg it cond A_) c (.ListComp el gs scope pos)=true) (hi:(c.N[i]? == some x)=true) (ME:swB c scope x px.line pos.line=true) (G:Good c W X E2) :
  PS X (.Assign [.Name x px] (.ListComp el gs scope pos) spos) (bJ X.K W.cls E2 (wpS W (.set i (.comp fz N js tg it cond A_)))):=by
 have sp:=vL (spos:=spos) (el:=el) (gs:=gs) G ME;unfold okE at h;split at h
 ·rename_i Te Ni iter ifs as PF JP Oo;cases Oo;simp only[Ij,Iy]at h;obtain⟨⟨⟨⟨⟨⟨⟨⟨h0,rfl⟩,ht⟩,h1⟩,h2⟩,h3⟩,h4⟩,h5⟩,h6⟩:=h;have h_:=h2;rw[<-G.sc,<-G.N]at h_;exact pT h_ (G.calm h0) (sI it h3 G ht) (λC s2 H2 fp pn=>sG tg h4 (G.comp h2 C s2 H2 fp pn)) (λC s2 H2 fp pn=>sTO cond h5 (G.comp h2 C s2 H2 fp pn)) (λC s2 H2 fp pn=>sE A_ h6 (G.comp h2 C s2 H2 fp pn)) (uH h1) G.ndX (G.at hi) (by rw[G.sc];exact wp ME) sp fz
 ·cases h
mutual
theorem sS:∀(is:IS) {c:Cfg}{s:Stmt}{X:Cx}{E2:St->XK},okS is c s=true->Good c W X E2->PS X s (bJ X.K W.cls E2 (wpS W is))
 |.set i a,c,s,X,E2,h,G=>by
  unfold okS at h;split at h
  ·simp only[Ij,Bool.or_eq_true]at h;obtain⟨⟨⟨h1,h2⟩,h3⟩,h4⟩:=h;obtain⟨l1,l2⟩:=G.loc h2;rcases h4 with h4|h4
   ·exact yh G.ndX (G.at h1) l1 (sE a h3 G) (jn h4) l2
   ·split at h4
    ·rcases Bool.or_eq_true_iff.mp h4 with h4|h4
     ·exact vo h3 h1 h4 G
     ·exact yh G.ndX (G.at h1) l1 (sE _ h3 G) (Aj G h4) l2
    ·cases h4
  ·cases h
 |.NL is a,c,s,X,E2,h,G=>by
  unfold okS at h;split at h
  ·simp only[Ij]at h;obtain⟨⟨⟨⟨h1,h2⟩,h3⟩,h4⟩,h5⟩:=h;exact CG (G.calm h1) G.ndX G.fnx (G.names h2) (sE a h5 G) (by unfold swapsWithSole;exact jn h4) (vz h3)
  ·cases h
 |.expr a,c,s,X,E2,h,G=>by
  unfold okS at h;split at h
  ·simp only[Ij]at h;exact Bk (sE a h.2 G) (jn h.1)
  ·cases h
 |.ret a,c,s,X,E2,h,G=>by
  unfold okS at h;split at h
  ·exact DL (sE a h G)
  ·cases h
 |.dead,c,s,X,E2,h,G=>A9
 |.ifs t a b,c,s,X,E2,h,G=>by
  unfold okS at h;split at h
  ·simp only[Ij]at h;exact Fj (sT t h.1.1 G).1 (sSs a h.1.2 G) (sSs b h.2 G)
  ·cases h
 |.JW tg it body,c,s,X,E2,h,G=>by
  unfold okS at h;split at h
  ·simp only[Ij]at h;obtain⟨⟨⟨⟨⟨⟨h1,ht⟩,h2⟩,h3⟩,h4⟩,h5⟩,h6⟩:=h;exact Ce (G.own h1).1 (G.calm h2) (sI it h5 G ht) (sG tg h4 G) (sSs body h6 G) (uH h3)
  ·cases h
 |.raise k es,c,s,X,E2,h,G=>by
  unfold okS at h;split at h
  ·rename_i x px args cp pos;simp only[Ij,Bool.not_eq_true']at h;obtain⟨⟨⟨⟨⟨⟨⟨h0,h1⟩,h2⟩,h3⟩,h4⟩,h5⟩,h6⟩,h7⟩:=h;obtain⟨_,E,hE,hR,Tf,OM⟩:=G.own h1;obtain⟨m1,m2,_⟩:=G.exc k x (IH.mp h3);have hA:=sA (W:=W) es h7 G;cases args with
   |nil=>cases h6
   |cons z zs=>
    cases es with
    |nil=>simp[okA]at h7
    |cons ea er=>
     obtain⟨_,_,e1,n1,_,n3⟩:=cP h7;cases e1;exact wA hR hE (G.calm h2) (G.gl h4) m1 (m2 (Option.isNone_iff_eq_none.mp h0)) hA h5 (aX n1) (cR _ n3)
  ·cases h
 |.Lr body hs,c,s,X,E2,h,G=>by
  unfold okS at h;split at h
  ·rename_i b J5 pos;simp only[Ij]at h;obtain⟨⟨⟨h1,h2⟩,h3⟩,h4⟩:=h;obtain⟨t1,t2,t3⟩:=G.tr h1;have hH:=sHs hs h4 G;cases J5 with
   |nil=>cases h2
   |cons h0 hr=>exact DR t1 t2 t3 hH λpn V' Oa hP=>sSs body h3 (G.trying hP)
  ·cases h
 |.app o a,c,s,X,E2,h,G=>by
  unfold okS at h;split at h
  ·simp only[Ij,Iy]at h;obtain⟨⟨⟨⟨⟨rfl,h1⟩,h2⟩,h3⟩,h4⟩,h5⟩:=h;exact CQ (sE o h4 G) (sE a h5 G) (Ag h1) h2 (aX h3)
  ·cases h
 |.del i,c,s,X,E2,h,G=>by
  unfold okS at h;cases h
 |.J2 o f a,c,s,X,E2,h,G=>by
  unfold okS at h;split at h
  ·simp only[Ij,Iy]at h;obtain⟨⟨⟨rfl,h1⟩,h2⟩,h3⟩:=h;exact zL (B:=W.toWB) G.kok (sE o h2 G) (sE a h3 G) (jn h1)
  ·cases h
 |.F_ o i a,c,s,X,E2,h,G=>by
  unfold okS at h;split at h
  ·simp only[Ij]at h;obtain⟨⟨⟨⟨h0,h1⟩,h2⟩,h3⟩,h4⟩:=h;exact wg G.un (sE o h2 G) (sE i h3 G) (sE a h4 G) (Ao h0) (by unfold swapsWithSole;exact jn h1) (by rfl) (by rfl)
  ·cases h
theorem sSs:∀(is:ISs) {c:Cfg}{Li:List Stmt}{X:Cx}{E2:St->XK},jr is c Li=true->Good c W X E2->PSs X Li (bJ X.K W.cls E2 (aR W is))
 |.nil,c,Li,X,E2,h,G=>by
  simp only[jr]at h;cases Li with
  |nil=>exact Cq
  |cons _ _=>cases h
 |.cons s r,c,Li,X,E2,h,G=>by
  unfold jr at h;split at h
  ·exact DB (sSs r h G)
  ·split at h
   ·simp only[Ij]at h;exact yT (t:=wpS W s) (u:=aR W r) (sS s h.1 G) (sSs r h.2 G)
   ·cases h
theorem sHs:∀(ih:IHs) {c:Cfg}{hs:List ExceptHandler}{X:Cx}{E2:St->XK},uj ih c hs=true->Good c W X E2->PH X hs (pN X.K W.cls (wpH W ih))
 |.nil,c,hs,X,E2,h,G=>by
  simp only[uj]at h;cases hs with
  |nil=>exact An
  |cons _ _=>cases h
 |.cons k nm body r,c,hs,X,E2,h,G=>by
  unfold uj at h;split at h
  ·rename_i x px OL K5 hp aF;simp only[Ij,Bool.not_eq_true']at h;obtain⟨⟨⟨⟨⟨⟨h1,h2⟩,h3⟩,h4⟩,h5⟩,h6⟩,h7⟩:=h;obtain⟨m1,m2,m3⟩:=G.exc k x (IH.mp h1);have hB:=λv=>sSs body h6 (G.caught v)
   have hR:=sHs r h7 G;cases K5 with
   |nil=>cases h5
   |cons b0 JZ=>
    cases nm with
    |none=>
     cases OL with
     |none=>exact BV (G.gl h2) m1 m3 hB hR h3
     |some n=>cases h4
    |some j=>
     cases OL with
     |none=>cases h4
     |some n=>
      simp only[Ij,IH]at h4;exact C6 (G.gl h2) m1 m3 G.ndX (by rw[G.N];exact h4.1) (by rw[G.sc];exact h4.2) hB hR h3
  ·cases h
end
end
theorem cH:∀{l:List (Nat×Nat)}{m f:Nat},l.lookup m=some f->(m,f)∈l
 |[],_,_,h=>by cases h
 |(a,b)::r,m,f,h=>by
  rw[Jm]at h;by_cases e:m=a
  ·subst e;simp at h;subst h;exact Ix
  ·have:(m == a)=false:=by simpa using e
   rw[this]at h;exact Io _ (cH h)
theorem ixc{α:Type}{P:Nat->α->Prop}{a:α}{r:List α}(h0:P 0 a)(hr:∀i x,r[i]?=some x->P (i+1) x):∀i x,(a::r)[i]?=some x->P i x
 |0,x,h=>by cases h;exact h0
 |i+1,x,h=>hr i x h
theorem ixn{α:Type}{P:Nat->α->Prop}:∀i x,([]:List α)[i]?=some x->P i x:=λi x h=>by simp at h
theorem us0{P:List Value->Prop}(h:P []):∀us:List Value,us.length=0->P us:=λus e=>(List.eq_nil_of_length_eq_zero e)▸h
theorem usS{n:Nat}{P:List Value->Prop}(h:∀a,∀us:List Value,us.length=n->P (a::us)):∀us:List Value,us.length=n+1->P us:=λus e=>by
 cases us with
 |nil=>cases e
 |cons a r=>exact h a r (Nat.succ.inj e)
structure FB where
 np:Nat
 nl:Nat
 cl:Bool
 body:ISs
 df:List Int:=[]
noncomputable def FB.full(fb:FB)(ds:List D):List D:=ds++(fb.df.drop (ds.length+fb.df.length-fb.np)).map D.int
noncomputable def pI(nl:Nat)(ds:List D):St3:=ds.map some++List.replicate (nl-ds.length) none
def aa(T:List FB)(B:WB):Nat->Nat->List D->MH->VK3->XN->Prop
 |0,_,_,_,_,_=>False
 |n+1,f,ds,M,Q,E=>match T[f]? with
  |none=>False
  |some fb=>(fb.full ds).length=fb.np/\aR {toWB:=B,call:=aa T B n} fb.body {nx:=λ_ M'=>Q .j_ (kp fb.cl M M'),rt:=λv M'=>Q v (kp fb.cl M M')} (λ_ i M'=>E i (aw M M')) (pI fb.nl (fb.full ds)) M
structure FL where
 name:Str
 qual:Str
 glob:Bool
 cl:Bool
 st:Stmt
 N:List Str
 ps:List Str
 body:ISs
 gn:Str:=name
 df:List Int:=[]
noncomputable def lL(N ps:List Str)(sc:Scope):Bool:=(sc.kind == .function)&&!sc.isCoroutine&&!sc.isGenerator&&decide N.Nodup&&(N.take ps.length == ps)&&
 ps.all (λx=>sc.names.lookup x == some .local||sc.names.lookup x == some .cell)&&sc.names.all (λy=>y.2 != .free)
theorem kF(h:lL N ps sc=true):FnScope N ps sc:=by
 unfold lL at h;simp only[Ij,Bool.not_eq_true',IH,Iy,IL,Bool.or_eq_true,bne_iff_ne]at h;obtain⟨⟨⟨⟨⟨⟨h1,h2⟩,h3⟩,h4⟩,h5⟩,h6⟩,h7⟩:=h;exact⟨h1,h2,h3,h4,h5,h6,h7⟩
structure NM where
 exc:List Str
 kln:List Str
 gln:List Str
 xin:List (Nat×Nat)
noncomputable def FL.cfg(l:FL)(fns:List (Option Str×Nat))(n:NM):Cfg:={N:=l.N,sc:=aA l.st,fns:=fns,exc:=n.exc,kln:=n.kln,gln:=n.gln,xin:=n.xin,calm:=true,own:=true,tr:=true,fn:=true}
noncomputable def FL.fb(l:FL):FB:=⟨l.ps.length,l.N.length,l.cl,l.body,l.df⟩
noncomputable def FL.ok(l:FL)(fns:List (Option Str×Nat))(n:NM):Bool:=lL l.N l.ps (aA l.st)&&jr l.body (l.cfg fns n) (bb l.st)
noncomputable def fk(L:List FL):List (Option Str×Nat):=L.map λl=>(if l.glob=true then some l.gn else none,l.ps.length)
structure FunD (K:JJ)(x qual:Str)(st:Stmt)(f:Addr)(fd:FuncData):Prop where
 ex:∃(oc:Value) (od:Option Addr) (dV kV doc pm:Value) (an:Option Addr) (JV ct:Value) (Kx:Array (Option Value)),
  fd=PySem.W.fnOf x qual (bU st) (bb st) (aA st) dV kV doc pm an JV ct/\K.lookup f=some ⟨oc,od,.func fd,Kx⟩/\PySem.W.codeIn K JV qual=true
 kp:PySem.W.keepIn K (.ref f)=true
structure Top (K:JJ)(mg:Str->Option Value)(L:List FL)(n:NM)(B:WB):Prop where
 ok:∀l∈L,l.ok (fk L) n=true
 fn:∀f l,L[f]?=some l->∃fd,FunD K l.name l.qual l.st (B.d_ f) fd/\(l.glob=true->mg l.gn=some (.ref (B.d_ f)))/\(l.df=[]->∀us:List Value,us.length=l.ps.length->bindArgs fd ⟨us,[]⟩=pure (l.ps.zip us))/\∃dv,Vals (l.df.map V.int) dv/\∀j,Binds K fd l.ps (dv.drop j)
 exi:∀i,i<B.ne->ExcI K (B.cls i)/\PySem.W.kitOne K (.ref (B.cls i)) (.type "ValueError")=some true/\∀j x,n.exc[j]?=some x->PySem.W.kitOne K (.ref (B.cls i)) (.ref (B.cls j))=some (B.sub i j)
 exc:∀i x,n.exc[i]?=some x->mg x=some (.ref (B.cls i))/\(n.xin.lookup i=none->xf K (B.cls i))/\∀j,j<B.ne->PySem.W.exmOne K (.ref (B.cls j)) (.ref (B.cls i))=some (B.sub j i)
 kok:∀i,i<B.nk->KOk K B B.d_ i
 kin:∀i,i<B.nk->∃f,B.ini i=some f
 kfi:∀i f,i<B.nk->B.ini i=some f->f<L.length
 kfm:∀i m f,i<B.nk->B.mth i m=some f->f<L.length
 knm:∀i x,n.kln[i]?=some x->mg x=some (.ref (B.c_ i))/\i<B.nk
 glo:∀k x,n.gln[k]?=some x->∃u v,mg x=some u/\RelV v u/\∀H,Den K H (B.glo k) v
 bi:∀x∈biNames,mg x=none
 dig:AM K
 xi:∀i f,n.xin.lookup i=some f->B.xin i=some f/\∃fI fd ps,XIni K (B.cls i) fI (fnm f)/\Binds K fd ps []/\∀(P:Program)(w:World)(base:Heap),FnOk P w K mg base (CX1 P w) 1 fI fd ps (nq (cpF f) K (B.cls i) (fnm f))
 xn:∀i f,i<B.ne->B.xin i=some f->NoAttr K (B.cls i) (fnm f)
section
variable {w:World}{K:JJ}{L:List FL}{B:WB}
noncomputable def spF(K:JJ)(cls:Nat->Addr)(l:FL)(t3:List D->MH->VK3->XN->Prop):Sp:=λvs H Q E=>vs.length=l.ps.length/\spX K cls t3 vs H Q E
theorem FB.full_at{fb:FB}{ds:List D}(h:ds.length=fb.np):fb.full ds=ds:=by
 unfold FB.full;rw[List.drop_of_length_le (by omega),List.map_nil,Jz]
theorem lr:∀{vs:List V}{us:List Value} (j:Nat),Vals vs us->Vals (vs.drop j) (us.drop j)
 |_,_,0,h=>h
 |_,_,_+1,.nil=>.nil
 |_,_,j+1,.cons _ h=>lr j h
theorem CP{l:FL}(hl:L[f]?=some l){dv:List Value}(hv:Vals (l.df.map V.int) dv)(hb:∀j,Binds K fd l.ps (dv.drop j)):BdT K B.cls fd l.ps (aa (L.map FL.fb) B n f) (spF K B.cls l (aa (L.map FL.fb) B n f)):=by
 rintro vs H Q E ⟨ds,M,Q3,E3,dl,rm,h,b_,lk⟩;cases n with
 |zero=>exact h.elim
 |succ n=>
  have hT:(L.map FL.fb)[f]?=some l.fb:=by rw[IJ,hl];rfl
  have h0:=h;simp only[aa,hT]at h0;have e:=h0.1;have t_:=dl.length;refine⟨(l.df.map V.int).drop (ds.length+l.df.length-l.ps.length),dv.drop (ds.length+l.df.length-l.ps.length),lr _ hv,hb _,?_,?_⟩
  ·have e2:(l.fb.full ds).length=l.ps.length:=e;unfold FB.full at e2;rw[Je,ID]at e2;rw[Je,List.length_drop,ID,<-t_];rw[List.length_drop]at e2;exact e2
  ·refine⟨l.fb.full ds,M,Q3,E3,?_,rm,?_,b_,lk⟩
   ·unfold FB.full;rw[<-List.map_drop];exact dl.append DenL.of_int
   ·simp only[aa,hT];rw[FB.full_at e];exact h0
theorem vc(T:Top K mg L nm B):∀(n f:Nat)(l:FL),L[f]?=some l->∀(fd:FuncData),FunD K l.name l.qual l.st (B.d_ f) fd->FnOk P w K mg base (CX1 P w) (2*n+2) (B.d_ f) fd l.ps (spF K B.cls l (aa (L.map FL.fb) B n f)):=by
 intro n
 induction n with
 |zero=>
  intro f l hl fd F;exact⟨λvs H Q E h=>h.1,λA outer s H args us vs Q E hr e0 hb r ⟨_,_,_,_,_,_,_,h,_⟩=>h.elim⟩
 |succ n ih=>
  intro f l hl fd F;have hT:(L.map FL.fb)[f]?=some l.fb:=by rw[IJ,hl];rfl
  have hm:l∈L:=IW hl;have ON:=T.ok l hm;unfold FL.ok at ON;rw[Ij]at ON;have S:=kF ON.1;obtain⟨oc,od,dV,kV,doc,pm,an,JV,ct,Kx,rfl,lk,Kd⟩:=F.ex;have un:∀ds M Q E,aa (L.map FL.fb) B (n+1) f ds M Q E->ds.length=l.ps.length->aR {toWB:=B,call:=aa (L.map FL.fb) B n} l.body {nx:=λ_ M'=>Q .j_ (kp l.cl M M'),rt:=λv M'=>Q v (kp l.cl M M')} (λ_ i M'=>E i (aw M M')) (pI l.N.length ds) M:=λds M Q E h e=>by
   simp only[aa,hT]at h;rw[FB.full_at (fb:=l.fb) e]at h;exact h.2
  show FnOk P w K mg base (CX1 P w) (2*n+3+1) _ _ _ _;refine ug lk Kd S (λvs H Q E h=>?_) λA outer s H vs Q E hr Me=>?_
  ·exact h.1
  ·obtain⟨L7,ds,M,Q3,E3,dl,rm,h,b_,Sd⟩:=Me;have h:=un _ _ _ _ h (by rw[dl.length];exact L7)
   have len:(fk L).length=L.length:=by unfold fk;rw[ID]
   have G:Good (l.cfg (fk L) nm) {toWB:=B,call:=aa (L.map FL.fb) B n} (cu (CX1 P w) P w K mg base l.N l.qual (aA l.st) (B.d_ f) JV A outer s H E) (λ_=>E):=by
    refine⟨rfl,S.nd,rfl,hr.units,λ_=>rfl,λ_ _=>rfl,(λ_ z=>nomatch z),λ_=>⟨Gx,E,rfl,xX,uv,hr.mono (by omega)⟩,λ_=>⟨rfl,rfl,rfl⟩,λ_=>⟨2*n+2,hr,λg hg=>?_⟩,λg x k hg=>?_,T.kok,T.kin,λi g hi q=>?_,λi m g hi q=>?_,T.knm,T.glo,T.exc,T.exi,(λi f hi=>?_),T.xn,T.bi,T.dig,λa_ σ H' s' e Nv I hc=>Cm a_ σ H' s' e Nv I hc⟩
    ·have hg:g<(fk L).length:=hg;rw[len]at hg;obtain⟨PJ,F2,_,_,LG,v2,b2⟩:=T.fn g L[g] (by simp[hg])
     exact⟨PJ,_,_,F2.kp,CP (by simp[hg]) v2 b2,ih g L[g] (by simp[hg]) PJ F2⟩
    ·have hg:(fk L)[g]?=some (some x,k):=hg;unfold fk at hg;rw[IJ]at hg;cases q:L[g]? with
     |none=>rw[q]at hg;cases hg
     |some l2=>
      rw[q]at hg;obtain⟨PJ,F2,m2,_⟩:=T.fn g l2 q;have e:((if l2.glob=true then some l2.gn else none),l2.ps.length)=(some x,k):=IK hg
      by_cases z:l2.glob=true
      ·rw[Iu z]at e;cases e;exact m2 z
      ·rw[Im z]at e;cases e
    ·show g<(fk L).length;rw[len];exact T.kfi i g hi q
    ·show g<(fk L).length;rw[len];exact T.kfm i m g hi q
    ·obtain⟨a,fI,Se,Sf,x3,b3,F3⟩:=T.xi i f hi;exact⟨a,fI,Se,Sf,x3,b3,F3 P w base⟩
   exact⟨_,sSs l.body ON.2 G,pI l.N.length ds,M,_,_,rm,pp dl,λg_ σ i M' H' t _ r_ q dx xd=>Sd i _ H' t (r_.sub λ_ _ z=>lh z) q dx xd,h,
    ⟨λo_ H' u_ M' r_ JK tm q=>b_ _ _ _ _ vJ (r_.sub λ_ _ z=>ut z) tm q,λv H' d M' dv r_ tm q=>b_ _ _ _ _ dv (r_.sub λ_ _ z=>ut z) tm q,λ_ _ _ _ _ _ _ z=>z.elim,λ_ _ _ _ _ _ _ z=>z.elim⟩⟩
end
noncomputable abbrev scr(ns:List Int):D:=.e_ (ns.map D.int)
theorem walkD{l:PySem.W.OpenLaw}{k f:Nat}{q:Program}{loose:List Str}{XP:(Str->Option Value)->Heap->Prop}{YP:World->Heap->Prop}{d:DefRec}{K:Params->JJ}{fl:FL}{x:Str}{L:List FL}{nm:NM}{BB:(Nat->Addr)->(Nat->Addr)->(Nat->Addr)->WB}
  (hn:l.most=some 63) (O9:d.params.defaults=[]) (hr:Room (2*k+2) callerA) (hY:∀(w:World)(h:Heap),YP w h->(K w.params).In h) (hf:L[f]?=some fl) (OO:fl.ps=[x]) (Kg:fl.gn=d.name) (Px:fl.glob=true)
  (T:∀(w:World)(mg:Str->Option Value)(h:Heap),(K w.params).In h->h.Ns mainGlobals mg->∃cls c_ d_,Top (K w.params) mg L nm (BB cls c_ d_))
  (main:∀(cls c_ d_:Nat->Addr)(ns:List Int),ns.length<=63->aa (L.map FL.fb) (BB cls c_ d_) k f [scr ns] (λ_=>none) (λd _=>d=.bl true) (λ_ _=>False)) (Sg:fl.df=[]:=by rfl) :
  PySem.W.WalkO q loose XP YP l.row.toRowW d [] (λf vs=>PySem.call f vs):=by
 refine Att.attach_call hn O9 λw s₀ p_ mg mb fa o pm cd doc a vs ns G Y ho hd Kd O_ LQ KN t_ hg=>?_
 have KX:=hY w _ Y;obtain⟨cls,c_,d_,T⟩:=T w mg _ KX G.T.g;obtain⟨fd,F,m1,b1,_⟩:=T.fn f fl hf;have m1:=m1 Px;rw[Kg,O_]at m1;have m1:=Value.ref.inj (IK m1);subst m1;refine vH (K:=K w.params) (CX:=CX1 l.prog w) (fd:=fd) (x:=x) (sp:=spF (K w.params) (BB cls c_ d_).cls fl (aa (L.map FL.fb) (BB cls c_ d_) k f)) KX G.T.g G.T.b G.T.builtins G.T.nolimit hg LQ KN (IR t_ (by decide)) hr (λbase kb gb=>by rw[<-OO];exact vc T k f fl hf fd F) (λs u=>?_) (λH hO hS=>?_) λH e s' h=>?_
 ·have hb:=b1 Sg [u] (by rw[OO];rfl)
  rw[OO]at hb;exact .of_eq hb
 ·have sq:SqF (K w.params) H a (ns.map V.int):=by
   cases hk:(K w.params).lookup a with
   |some ob=>
    have e:=KX a ob hk;rw[LQ]at e;cases e;exact .inr ⟨vs,_,hk,by rw[KN.length];exact IR t_ (by decide),g9 KN⟩
   |none=>
    rcases hS with (h|⟨ob,h⟩)|⟨ob,_,_,h,_⟩
    ·rcases hO a with z|⟨o2,xs,z⟩
     ·rw[h]at z;cases z
     ·rw[h]at z;cases z
    ·exact .inl ⟨ob,h⟩
    ·rw[hk]at h;cases h
  refine⟨by rw[OO];rfl,[scr ns],λ_=>none,λd _=>d=.bl true,λ_ _=>False,.one ⟨a,_,rfl,sq,.of_int⟩,λa o e=>(by cases e),main cls c_ d_ ns t_,λv H' d M' dv _ _ q=>?_,λ_ _ _ _ _ h=>h.elim⟩
  subst q;exact dv
 ·obtain⟨_,_,_,_,_,_,_,_,_,_,_,_,_,he⟩:=h;exact he
theorem Fun.bindsE{K:JJ}{st:Stmt}{ps:List Str}(F:Fun K x qual st f fd)
  (h:∀(kV doc pm:Value)(an:Option Addr)(JV ct:Value)(us:List Value),us.length=ps.length->bindArgs (PySem.W.fnOf x qual (bU st) (bb st) (aA st) .none kV doc pm an JV ct) ⟨us,[]⟩=pure (ps.zip us)):∀us:List Value,us.length=ps.length->bindArgs fd ⟨us,[]⟩=pure (ps.zip us):=by
 obtain⟨oc,od,kV,doc,pm,an,JV,ct,Kx,rfl,lk,Kd⟩:=F.ex;exact h kV doc pm an JV ct
noncomputable def tR(sl pr b:Str)(sc:Scope)(ap cp:Pos):Bool:=(ap.endLine == cp.line)&&(sc.names.lookup b == some .globalImplicit)&&lL [sl,pr] [sl,pr] sc&&
 !(b == ("__debug__" : Str))&&!(sl == ("__debug__" : Str))&&!(pr == ("__debug__" : Str))&&!(sl == ("__classdict__" : Str))&&!(pr == ("__classdict__" : Str))
theorem yM{P:Program}{w:World}{K:JJ}{mg:Str->Option Value}{base:Heap}{fI C D:Addr}{name qual:Str}{params:Arguments}{scope:Scope}{body:List Stmt}{kV doc pm JV ct oc:Value}{an od:Option Addr}{Kx:Array (Option Value)}{b sl pr f tx:Str}{j:Nat}{px ap p1 p2 cp p3 p4 p5 p6 p7:Pos}
  (Sh:body=[.Expr (.Call (.Attribute (.Name b px) "__init__" ap) [.Name sl p1,.Constant (.str tx) j p2] [] cp) p3,.Assign [.Attribute (.Name sl p4) f p5] (.Name pr p6) p7])
  (h:tR sl pr b scope ap cp=true) (lk:K.lookup fI=some ⟨oc,od,.func (PySem.W.fnOf name qual params body scope .none kV doc pm an JV ct),Kx⟩) (Kd:PySem.W.codeIn K JV qual=true) (hm:mg b=some (.ref D)) (hb:BIni K D)(q:XIni K C fI f) :
  FnOk P w K mg base (CX1 P w) 1 fI (PySem.W.fnOf name qual params body scope .none kV doc pm an JV ct) [sl,pr] (nq false K C f):=by
 subst Sh;unfold tR at h;simp only[Ij,Bool.not_eq_true']at h;obtain⟨⟨⟨⟨⟨⟨⟨h7,h8⟩,h9⟩,h10⟩,h11⟩,h12⟩,h13⟩,h14⟩:=h;exact ze lk Kd (kF h9) (IH.mp h8) hm h7 hb q h10 h11 h12 h13 h14
end L2
namespace L2
open PySem
noncomputable def m7(K:JJ)(a:Addr):Option FuncData:=match K.lookup a with
 |some ⟨_,_,.func fd,_⟩=>some fd
 |_=>none
noncomputable def fdN(l:FL)(fd:FuncData):FuncData:=PySem.W.fnOf l.name l.qual (bU l.st) (bb l.st) (aA l.st) (if l.df.isEmpty=true then .none else fd.defaults) fd.kwdefaults fd.doc fd.pyModule fd.annotations fd.code fd.closureTuple
noncomputable def fnB(K:JJ)(B:WB)(l:FL)(i:Nat):Bool:=(match m7 K (B.d_ i) with
 |some fd=>PySem.W.codeIn K fd.code l.qual
 |none=>false)&&PySem.W.keepIn K (.ref (B.d_ i))&&(!l.glob||PySem.W.nsIn K mainGlobals l.gn == some (some (.ref (B.d_ i))))
theorem xj{K:JJ}(h:m7 K a=some fd):∃oc od sl,K.lookup a=some ⟨oc,od,.func fd,sl⟩:=by
 unfold m7 at h;split at h
 ·rename_i oc od Tg sl e;cases h;exact⟨oc,od,sl,e⟩
 ·cases h
noncomputable def Dw(K:JJ)(C:Addr):Bool:=PySem.W.hasDictIn K C&&PySem.W.findIn K (.ref C) "__getattribute__" == some (some (.builtin "BaseException.__getattribute__"))&&PySem.W.findIn K (.ref C) "__getattr__" == some none&&PySem.W.findIn K (.ref C) "__class__" == some (some (.builtin "object.__class__"))&&PySem.W.mroIn K C (.type "object") == some true&&PySem.W.mroIn K C (.type "BaseException") == some true&&PySem.W.kitOne K (.ref C) (.type "ValueError") == some true
noncomputable def BK(K:JJ):Bool:=PySem.W.specialIn K (.builtin "object.__class__") "__get__" == some (some (.builtin "getset_descriptor.__get__"))&&PySem.W.takesIn K (.builtin "object.__class__") == some true&&PySem.W.nsIn K cStatics "sys.int_max_str_digits" == some none&&biNames.all λx=>PySem.W.nsIn K mainGlobals x == some none
noncomputable def Dl(K:JJ)(B:WB)(n:NM):Bool:=(List.range B.ne).all (λi=>Dw K (B.cls i)&&(List.range n.exc.length).all λj=>PySem.W.kitOne K (.ref (B.cls i)) (.ref (B.cls j)) == some (B.sub i j)&&PySem.W.exmOne K (.ref (B.cls i)) (.ref (B.cls j)) == some (B.sub i j))&&
 n.exc.zipIdx.all λp=>PySem.W.nsIn K mainGlobals p.1 == some (some (.ref (B.cls p.2)))&&((n.xin.lookup p.2).isSome||PySem.W.excIn K (B.cls p.2) bmV "ValueError.__new__")
noncomputable def kB(K:JJ)(B:WB)(fT:List (List Nat))(mT:List (List (Nat×Nat)))(iT:List Nat)(i:Nat):Bool:=
 PySem.W.plainGet K (B.c_ i) Str.empty&&PySem.W.hasDictIn K (B.c_ i)&&PySem.W.plainOver K (B.c_ i)&&PySem.W.findIn K (.ref (B.c_ i)) "__setattr__" == some (some (.builtin "object.__setattr__"))&&
 (fT.getD i []).all (λf=>PySem.W.findIn K (.ref (B.c_ i)) (fnm f) == some none)&&
 (mT.getD i []).all (λp=>PySem.W.findIn K (.ref (B.c_ i)) (fnm p.1) == some (some (.ref (B.d_ p.2)))&&PySem.W.isFn K (.ref (B.d_ p.2))&&PySem.W.keepIn K (.ref (B.d_ p.2)))&&
 (match iT[i]? with
  |some f=>PySem.W.makesIn K (B.c_ i)&&PySem.W.findIn K (.ref (B.c_ i)) "__init__" == some (some (.ref (B.d_ f)))&&PySem.W.isFn K (.ref (B.d_ f))&&PySem.W.keepIn K (.ref (B.c_ i))&&PySem.W.specialIn K (.ref (B.c_ i)) "__getattribute__" == some (some (.builtin "type.__getattribute__"))&&PySem.W.readsIn K (B.c_ i) (.type "type")&&
   (match PySem.W.findCls K (.ref (B.c_ i)) (.type "type") "__init__" with
    |some (.val (.ref g))=>g == B.d_ f
    |_=>false)
  |none=>false)&&
 PySem.W.findIn K (.ref (B.c_ i)) "__class__" == some (some (.builtin "object.__class__"))&&PySem.W.mroIn K (B.c_ i) (.type "object") == some true&&
 (List.range B.nk).all λj=>PySem.W.kitOne K (.ref (B.c_ i)) (.ref (B.c_ j)) == some (B.ksub i j)
noncomputable def Eb(L m:Nat)(mT:List (List (Nat×Nat)))(iT:List Nat):Bool:=iT.length == m&&iT.all (λf=>decide (f<L))&&mT.all λl=>l.all λp=>decide (p.2<L)
theorem g5(h:(List.range n).all p=true)(hi:i<n):p i=true:=IL.mp h i (List.mem_range.mpr hi)
theorem oR{l:List α}(h:l.zipIdx.all p=true)(hx:l[i]?=some x):p (x,i)=true:=by
 refine IL.mp h (x,i) ?_;rw[List.mem_zipIdx_iff_getElem?];exact hx
theorem CW{K:JJ}{L:List FL}{B:WB}(h:L.all (λl=>l.df.isEmpty)=true):∀(f:Nat)(l:FL),L[f]?=some l->l.df≠[]->∀fd,m7 K (B.d_ f)=some fd->∃dv,Vals (l.df.map V.int) dv/\∀j,Binds K fd l.ps (dv.drop j):=λf l hl z=>absurd (List.isEmpty_iff.mp (IL.mp h l (IW hl))) z
theorem Top.of{K:JJ}{h:Heap}{L:List FL}{n:NM}{B:WB}{fT:List (List Nat)}{mT:List (List (Nat×Nat))}(X:K.In h)(Gn:h.Ns mainGlobals mg)
  (h1:L.all (λl=>l.ok (fk L) n)=true)
  (h2:L.zipIdx.map (λp=>m7 K (B.d_ p.2))=L.zipIdx.map λp=>(m7 K (B.d_ p.2)).map (fdN p.1))
  (h3:L.zipIdx.all (λp=>fnB K B p.1 p.2)=true)
  (h4:∀(f:Nat)(l:FL),L[f]?=some l->∀us:List Value,us.length=l.ps.length->∀(kV doc pm:Value)(an:Option Addr)(JV ct:Value),bindArgs (PySem.W.fnOf l.name l.qual (bU l.st) (bb l.st) (aA l.st) .none kV doc pm an JV ct) ⟨us,[]⟩=pure (l.ps.zip us))
  (h5:BK K=true) (h6:Dl K B n=true)
  (h7:(List.range B.nk).all (kB K B fT mT iT)=true) (h8:Eb L.length B.nk mT iT=true)
  (hf:∀i f,B.fok i f=(fT.getD i []).contains f) (hm:∀i m,B.mth i m=(mT.getD i []).lookup m) (hi:∀i,B.ini i=iT[i]?)
  (h9:n.kln.zipIdx.all (λp=>PySem.W.nsIn K mainGlobals p.1 == some (some (.ref (B.c_ p.2)))&&decide (p.2<B.nk))=true)
  (glo:∀(k:Nat)(x:Str),n.gln[k]?=some x->∃u v,mg x=some u/\RelV v u/\∀H,Den K H (B.glo k) v)
  (xi:∀i f,n.xin.lookup i=some f->B.xin i=some f/\∃fI fd ps,XIni K (B.cls i) fI (fnm f)/\Binds K fd ps []/\∀(P:Program)(w:World)(base:Heap),FnOk P w K mg base (CX1 P w) 1 fI fd ps (nq (cpF f) K (B.cls i) (fnm f)))
  (xn:∀i f,i<B.ne->B.xin i=some f->NoAttr K (B.cls i) (fnm f))
  (hd:∀(f:Nat)(l:FL),L[f]?=some l->l.df≠[]->∀fd,m7 K (B.d_ f)=some fd->∃dv,Vals (l.df.map V.int) dv/\∀j,Binds K fd l.ps (dv.drop j)):Top K mg L n B:=by
 unfold BK at h5;simp only[Ij,IH]at h5;obtain⟨⟨⟨o1,o2⟩,o3⟩,o4⟩:=h5;unfold Dl at h6;rw[Ij]at h6;obtain⟨e1,e2⟩:=h6;unfold Eb at h8;simp only[Ij,IH]at h8;obtain⟨⟨t1,t2⟩,t3⟩:=h8;have ki:∀i,i<B.nk->kB K B fT mT iT i=true:=λi hi=>g5 h7 hi
 refine⟨λl hl=>IL.mp h1 l hl,λf l hl=>?_,λi hi=>?_,λi x hx=>?_,λi KC=>?_,λi KC=>?_,λi f KC KQ=>?_,λi m f KC KQ=>?_,λi x hx=>?_,glo,λx hx=>?_,o3,xi,xn⟩
 ·have g:=oR h3 hl;unfold fnB at g;simp only[Ij]at g;obtain⟨⟨g1,g2⟩,g3⟩:=g;have hz:L.zipIdx[f]?=some (l,f):=by
   rw[List.getElem?_zipIdx,hl];simp
  have e:=congrArg (λz:List (Option FuncData)=>z[f]?) h2
  simp only[IJ,hz,Option.map_some,Option.some.injEq]at e;cases hfd:m7 K (B.d_ f) with
  |none=>rw[hfd]at g1;cases g1
  |some fd=>
   rw[hfd]at e g1;simp only[Option.map_some,Option.some.injEq]at e;obtain⟨oc,od,sl,lk⟩:=xj hfd;have hb:l.df=[]->∀us:List Value,us.length=l.ps.length->bindArgs fd ⟨us,[]⟩=pure (l.ps.zip us):=λz us hu=>by
    rw[e];unfold fdN;rw[z];exact h4 f l hl us hu _ _ _ _ _ _
   refine⟨fd,⟨⟨oc,od,_,fd.kwdefaults,fd.doc,fd.pyModule,fd.annotations,fd.code,fd.closureTuple,sl,e,lk,g1⟩,g2⟩,λz=>?_,hb,?_⟩
   ·rw[z]at g3;exact PySem.W.mg_of X Gn (IH.mp (by simpa using g3))
   ·by_cases z:l.df=[]
    ·exact⟨[],by rw[z];exact .nil,λj=>by rw[List.drop_nil];exact .all (hb z)⟩
    ·exact hd f l hl z fd hfd
 ·have g:=g5 e1 hi;rw[Ij]at g;obtain⟨g1,g2⟩:=g;unfold Dw at g1;simp only[Ij,IH]at g1;obtain⟨⟨⟨⟨⟨⟨a1,a2⟩,a3⟩,a4⟩,a5⟩,a6⟩,a7⟩:=g1;refine⟨⟨a1,a2,a3,a4,o1,o2,a5,a6⟩,a7,λj x hx=>?_⟩
  have hj:j<n.exc.length:=(IC.mp hx).1;have g:=g5 g2 hj;rw[Ij,IH]at g;exact g.1
 ·have g:=oR e2 hx;rw[Ij,IH]at g;refine⟨PySem.W.mg_of X Gn g.1,λz=>?_,λj hj=>?_⟩
  ·have g2:=g.2;rw[show n.xin.lookup (x,i).2=none from z]at g2;have g3:PySem.W.excIn K (B.cls i) bmV "ValueError.__new__"=true:=by simpa using g2
   exact g3
  ·have q:=g5 e1 hj;rw[Ij]at q;have hi:i<n.exc.length:=(IC.mp hx).1;have g:=g5 q.2 hi;rw[Ij,IH,IH]at g;exact g.2
 ·have g:=ki i KC;unfold kB at g;simp only[Ij,IH]at g;obtain⟨⟨⟨⟨⟨⟨⟨⟨⟨a1,a2⟩,a3⟩,a4⟩,a5⟩,a6⟩,a7⟩,a8⟩,a9⟩,Ob⟩:=g;have iI:∀f,B.ini i=some f->PySem.W.makesIn K (B.c_ i)=true/\PySem.W.findIn K (.ref (B.c_ i)) "__init__"=some (some (.ref (B.d_ f)))/\PySem.W.isFn K (.ref (B.d_ f))=true/\PySem.W.keepIn K (.ref (B.c_ i))=true/\PySem.W.specialIn K (.ref (B.c_ i)) "__getattribute__"=some (some (.builtin "type.__getattribute__"))/\PySem.W.readsIn K (B.c_ i) (.type "type")=true/\PySem.W.findCls K (.ref (B.c_ i)) (.type "type") "__init__"=some (.val (.ref (B.d_ f))):=λf hf=>by
   rw[hi i]at hf;rw[hf]at a7;simp only[Ij,IH]at a7;obtain⟨⟨⟨⟨⟨⟨b1,b2⟩,b3⟩,b4⟩,b5⟩,b6⟩,b7⟩:=a7;refine⟨b1,b2,b3,b4,b5,b6,?_⟩;split at b7
   ·rename_i g hg;rw[hg,IH.mp b7]
   ·cases b7
  refine⟨⟨a1,a2,a3,a4⟩,λf KQ=>?_,λm f KS=>?_,λf KQ=>?_,λf KQ=>?_,⟨a8,o1,o2,a9⟩,λj hj=>?_⟩
  ·rw[hf i f]at KQ;exact IH.mp (IL.mp a5 f (List.contains_iff_mem.mp KQ))
  ·rw[hm i m]at KS;have q:=IL.mp a6 (m,f) (cH KS);simp only[Ij,IH]at q;exact⟨q.1.1,q.1.2,q.2⟩
  ·obtain⟨b1,b2,b3,b4,_⟩:=iI f KQ;exact⟨b1,b2,b3,b4⟩
  ·obtain⟨_,_,_,_,b5,b6,b7⟩:=iI f KQ;exact⟨b5,b6,b7⟩
  ·exact IH.mp (g5 Ob hj)
 ·rw[hi i];have:i<iT.length:=by rw[t1];exact KC
  exact⟨iT[i],IG this⟩
 ·rw[hi i]at KQ;exact JB (IL.mp t2 f (IW KQ))
 ·rw[hm i m]at KQ;have q:=cH KQ;by_cases z:i<mT.length
  ·rw[List.getD_eq_getElem?_getD,IG z]at q;exact JB (IL.mp (IL.mp t3 _ (Jw z)) _ q)
  ·rw[List.getD_eq_getElem?_getD,List.getElem?_eq_none (by omega)]at q
   cases q
 ·have g:=oR h9 hx;rw[Ij,IH]at g;exact⟨PySem.W.mg_of X Gn g.1,JB g.2⟩
 ·exact PySem.W.mg_none_of X Gn (IH.mp (IL.mp o4 x hx))
theorem n0{P:List Value->Prop}(h:P []):∀us:List Value,us.length=0->P us:=us0 h
theorem n1{P:List Value->Prop}(h:∀a,P [a]):∀us:List Value,us.length=1->P us:=usS λa=>us0 (h a)
theorem n2{P:List Value->Prop}(h:∀a b,P [a,b]):∀us:List Value,us.length=2->P us:=usS λa=>usS λb=>us0 (h a b)
theorem n3{P:List Value->Prop}(h:∀a b c,P [a,b,c]):∀us:List Value,us.length=3->P us:=usS λa=>usS λb=>usS λc=>us0 (h a b c)
theorem n4{P:List Value->Prop}(h:∀a b c d,P [a,b,c,d]):∀us:List Value,us.length=4->P us:=usS λa=>usS λb=>usS λc=>usS λd=>us0 (h a b c d)
theorem n5{P:List Value->Prop}(h:∀a b c d e,P [a,b,c,d,e]):∀us:List Value,us.length=5->P us:=usS λa=>usS λb=>usS λc=>usS λd=>usS λe=>us0 (h a b c d e)
end L2
namespace L2
noncomputable def oi:Option Int->D
 |none=>.j_
 |some i=>.int i
noncomputable abbrev pr(a b:Option Int):D:=.tup [oi a,oi b]
theorem bx{i j:Int}(h1:0<j)(h2:j<10 ^ 250):kU i j=True:=by
 refine eq_true ⟨h1,pQ ?_⟩;omega
theorem jZ{i j:Int}(h1 : -(10 ^ 240)<i)(h2:i<10 ^ 240)(h3 : -(10 ^ 240)<j)(h4:j<10 ^ 240):dX i j=True:=by
 refine eq_true ⟨pQ ?_,pQ ?_⟩<;>omega
theorem ju{i j:Int}(h1:0<=j)(h2:j<=1000000)(h3:i.natAbs<2 ^ 64):uC i j=True:=eq_true ⟨h1,h2,h3⟩
theorem su{α:Type}(a:α)(l:List α):atI (a::l) 0=some a:=by simp[atI,ixN]
theorem r0{α:Type}(a b:α)(l:List α):atI (a::b::l) 1=some b:=bX (j:=1) rfl
theorem sJ{α:Type}(a b c:α)(l:List α):atI (a::b::c::l) 2=some c:=bX (j:=2) rfl
theorem uI{α:Type}(a b c d:α)(l:List α):atI (a::b::c::d::l) 3=some d:=bX (j:=3) rfl
end L2
namespace L2
open PySem
section
variable {W:WC}{σ:St3}
@[simp ↓] theorem Ic:wpE W (.var 0) (some v::σ) M Q E=Q v M:=rfl
@[simp ↓] theorem HP:wpE W (.var 1) (y0::some v::σ) M Q E=Q v M:=rfl
@[simp ↓] theorem Ih:wpE W (.var 2) (y0::y1::some v::σ) M Q E=Q v M:=rfl
@[simp ↓] theorem HX:wpE W (.var 3) (y0::y1::y2::some v::σ) M Q E=Q v M:=rfl
@[simp ↓] theorem Ie:wpE W (.var 4) (y0::y1::y2::y3::some v::σ) M Q E=Q v M:=rfl
@[simp ↓] theorem Ig:wpE W (.var 5) (y0::y1::y2::y3::y4::some v::σ) M Q E=Q v M:=rfl
@[simp ↓] theorem HZ:wpE W (.var 6) (y0::y1::y2::y3::y4::y5::some v::σ) M Q E=Q v M:=rfl
@[simp ↓] theorem Ib:wpE W (.var 7) (y0::y1::y2::y3::y4::y5::y6::some v::σ) M Q E=Q v M:=rfl
@[simp ↓] theorem Ia:wpE W (.var 8) (y0::y1::y2::y3::y4::y5::y6::y7::some v::σ) M Q E=Q v M:=rfl
@[simp ↓] theorem Ii:wpE W (.var 9) (y0::y1::y2::y3::y4::y5::y6::y7::y8::some v::σ) M Q E=Q v M:=rfl
@[simp ↓] theorem GQ:wpE W (.var 10) (y0::y1::y2::y3::y4::y5::y6::y7::y8::y9::some v::σ) M Q E=Q v M:=rfl
@[simp ↓] theorem Hf:wpE W (.var 11) (y0::y1::y2::y3::y4::y5::y6::y7::y8::y9::v_::some v::σ) M Q E=Q v M:=rfl
@[simp ↓] theorem HL:wpE W (.var 12) (y0::y1::y2::y3::y4::y5::y6::y7::y8::y9::v_::x_::some v::σ) M Q E=Q v M:=rfl
@[simp ↓] theorem HG:wpE W (.var 13) (y0::y1::y2::y3::y4::y5::y6::y7::y8::y9::v_::x_::y_::some v::σ) M Q E=Q v M:=rfl
@[simp ↓] theorem G7:wpE W (.var 14) (y0::y1::y2::y3::y4::y5::y6::y7::y8::y9::v_::x_::y_::JL::some v::σ) M Q E=Q v M:=rfl
@[simp ↓] theorem Hl:wpE W (.var 15) (y0::y1::y2::y3::y4::y5::y6::y7::y8::y9::v_::x_::y_::JL::JM::some v::σ) M Q E=Q v M:=rfl
@[simp ↓] theorem GY:wpE W (.var 16) (y0::y1::y2::y3::y4::y5::y6::y7::y8::y9::v_::x_::y_::JL::JM::J3::some v::σ) M Q E=Q v M:=rfl
@[simp ↓] theorem GP:wpE W (.var 17) (y0::y1::y2::y3::y4::y5::y6::y7::y8::y9::v_::x_::y_::JL::JM::J3::J7::some v::σ) M Q E=Q v M:=rfl
@[simp ↓] theorem Ht:wpE W (.con v) σ M Q E=Q v M:=rfl
@[simp ↓] theorem Fz{op a b}:wpE W (.bin op a b) σ M Q E=wpE W a σ M (λx M1=>wpE W b σ M1 (λy M2=>j4 op x y M2 Q) E) E:=rfl
@[simp ↓] theorem Hi{a}:wpE W (.neg a) σ M Q E=wpE W a σ M (λx M1=>rNeg x M1 Q) E:=rfl
@[simp ↓] theorem Hk{fz a b}:wpE W (.cat fz a b) σ M Q E=wpE W a σ M (λx M1=>wpE W b σ M1 (λy M2=>jS fz x y M2 Q) E) E:=rfl
@[simp ↓] theorem HH{op a b}:wpE W (.cmp op a b) σ M Q E=wpE W a σ M (λx M1=>wpE W b σ M1 (λy M2=>az op x y M2 Q) E) E:=rfl
@[simp ↓] theorem Es{op Km a b c}:wpE W (.chain op Km a b c) σ M Q E=wpE W a σ M (λx M1=>wpE W b σ M1 (λy M2=>az op x y M2 λr M3=>match r with
  |.bl k=>if k=true then wpE W c σ M3 (λz M4=>az Km y z M4 Q) E else Q (.bl false) M3
  |_=>False) E) E:=rfl
@[simp ↓] theorem GU{a b}:wpE W (.and a b) σ M Q E=wpE W a σ M (λx M1=>match x with
  |.bl c=>if c=true then wpE W b σ M1 Q E else Q (.bl false) M1
  |_=>False) E:=rfl
@[simp ↓] theorem Hg{a}:wpE W (.not a) σ M Q E=wpE W a σ M (λx M1=>match x with
  |.bl c=>Q (.bl (!c)) M1
  |_=>False) E:=rfl
@[simp ↓] theorem Ha{es}:wpE W (.tup es) σ M Q E=wpA W es σ M (λxs M1=>xs.length<=sizeLine/\Q (.tup xs) M1) E:=rfl
@[simp ↓] theorem Hc{fz es}:wpE W (.lst fz es) σ M Q E=wpA W es σ M (λxs M1=>dH fz xs M1 Q) E:=rfl
@[simp ↓] theorem Hn{e}:wpE W (.s_ e) σ M Q E=wpE W e σ M (ba Q) E:=rfl
@[simp ↓] theorem HU{a b}:wpE W (.ix a b) σ M Q E=wpE W a σ M (λx M1=>wpE W b σ M1 (λy M2=>am x y M2 Q) E) E:=rfl
@[simp ↓] theorem HN{fz a lo hi}:wpE W (.sl fz a lo hi) σ M Q E=wpE W a σ M (λx M1=>wpO W lo σ M1 (λl M2=>wpO W hi σ M2 (λh M3=>mm fz x l h M3 Q) E) E) E:=rfl
@[simp ↓] theorem Fl{f es}:wpE W (.call f es) σ M Q E=wpA W es σ M (λxs M1=>W.call f xs M1 Q E) E:=rfl
@[simp ↓] theorem HW{b es}:wpE W (.bi b es) σ M Q E=wpA W es σ M (λxs M1=>rBi b xs M1 Q) E:=rfl
@[simp ↓] theorem GS{e t}:wpE W (.Lp e t) σ M Q E=wpE W e σ M (λx M1=>j6 t x M1 Q) E:=rfl
@[simp ↓] theorem Hr{e c}:wpE W (.Nb e c) σ M Q E=wpE W e σ M (λx M1=>nY W.ne W.cls (λi=>W.sub i c) x M1 Q) E:=rfl
@[simp ↓] theorem Ft{k v}:wpE W (.Lq k v) σ M Q E=∀p,M p=none->wpE W k σ (put M p (.dt [] [])) (λx M1=>wpE W v σ M1 (λy M2=>jJ p x y M2 Q) E) E:=rfl
@[simp ↓] theorem Hz{e}:wpE W (.NK e) σ M Q E=wpE W e σ M (λx M1=>rMp x M1 Q) E:=rfl
@[simp ↓] theorem HF{e f}:wpE W (.fld e f) σ M Q E=wpE W e σ M (λx M1=>cI W.toWB f x M1 Q) E:=rfl
@[simp ↓] theorem E1{i es}:wpE W (.make true i es) σ M Q E=wpA W es σ M (λxs M1=>i<W.nk/\eZ (W.ini i) λf=>∀p,M1 p=none->W.call f (.ref p::xs) (put M1 p (.ins i (W.c_ i) [] [])) (λv M2=>v=.j_/\ba Q (.ref p) M2) (λi M'=>E i (L2.del M' p))) E:=rfl
@[simp ↓] theorem EI{i es}:wpE W (.make false i es) σ M Q E=wpA W es σ M (λxs M1=>i<W.nk/\eZ (W.ini i) λf=>∀p,M1 p=none->W.call f (.ref p::xs) (put M1 p (.ins i (W.c_ i) [] [])) (λv M2=>v=.j_/\Q (.ref p) M2) (λi M'=>E i (L2.del M' p))) E:=rfl
@[simp ↓] theorem Go{e m es}:wpE W (.J4 e m es) σ M Q E=wpE W e σ M (λx M1=>eE W.toWB m x M1 λf=>wpA W es σ M1 (λxs M2=>W.call f (x::xs) M2 Q E) E) E:=rfl
@[simp ↓] theorem HE{i es}:wpE W (.ini i es) σ M Q E=wpA W es σ M (λxs M1=>i<W.nk/\eZ (W.ini i) λf=>W.call f xs M1 Q E) E:=rfl
@[simp ↓] theorem GO{e j}:wpE W (.K_ e j) σ M Q E=wpE W e σ M (λx M1=>o7 W.toWB j x M1 Q) E:=rfl
@[simp ↓] theorem G0{k}:wpE W (.glo k) σ M Q E=Q (W.glo k) M:=rfl
@[simp ↓] theorem HV{b o es}:wpE W (.bm b o es) σ M Q E=wpE W o σ M (λx M1=>tyB b x M1=true/\wpA W es σ M1 (λxs M2=>rBm b x xs M2 Q) E) E:=rfl
@[simp ↓] theorem Gh{fz a b}:wpE W (.La fz a b) σ M Q E=wpE W a σ M (λx M1=>wpE W b σ M1 (λy M2=>rLz fz x y M2 Q) E) E:=rfl
@[simp ↓] theorem GZ{fz a b}:wpE W (.rep fz a b) σ M Q E=wpE W a σ M (λx M1=>wpE W b σ M1 (λy M2=>kP fz x y M2 Q) E) E:=rfl
@[simp] theorem sP:aw M M=M:=by
 funext a;unfold aw;split<;>simp_all
@[simp] theorem mZ(h:M p=none):aw M (put M' p o)=aw M M':=by
 funext a;unfold aw put;split
 ·rename_i x e;split
  ·rename_i z;subst z;rw[h]at e;cases e
  ·rfl
 ·rfl
@[simp] theorem c9(h:M p=some u):aw M (put M' p o)=put (aw M M') p o:=by
 funext a;unfold aw put;by_cases z:a=p
 ·subst z;simp[h]
 ·simp[z]
@[simp] theorem Ek:aw (put M p o) (put M' p u)=put (aw M M') p u:=by
 funext a;unfold aw put;by_cases z:a=p
 ·subst z;simp
 ·simp[z]
@[simp ↓] theorem DG:eZ (some f) R=R f:=rfl
@[simp ↓] theorem EU{B:WB}{f i C ns ds}:cI B f (.obj i C ns ds) M Q=((C=B.c_ i/\i<B.nk/\B.fok i f=true)/\gJ f ns ds M Q):=rfl
@[simp ↓] theorem CJ{f n ns d ds}:gJ f (n::ns) (d::ds) M Q=if n=f then Q d M else gJ f ns ds M Q:=by
 unfold gJ;rw[bZ];by_cases h:n=f
 ·rw[Iu h,Iu h]
 ·rw[Im h,Im h]
@[simp ↓] theorem EZ{B:WB}{m i C ns ds}:eE B m (.obj i C ns ds) M R=((C=B.c_ i/\i<B.nk/\bZ m ns ds=none)/\eZ (B.mth i m) R):=rfl
@[simp] theorem Bz:bZ f [] ds=none:=by unfold bZ;rfl
@[simp] theorem Bu:bZ f (n::ns) (d::ds)=if n=f then some d else bZ f ns ds:=by rw[bZ]
@[simp ↓] theorem EG{B:WB}{j i C ns ds}:o7 B j (.obj i C ns ds) M Q=((C=B.c_ i/\i<B.nk/\j<B.nk)/\Q (.bl (B.ksub i j)) M):=rfl
@[simp] theorem BA:cq f []=[f]:=rfl
@[simp] theorem zk:cq f (n::ns)=if n=f then n::ns else n::cq f ns:=rfl
@[simp] theorem BC:cj f y [] ds=[y]:=by unfold cj;rfl
@[simp] theorem Az:cj f y (n::ns) (d::ds)=if n=f then y::ds else d::cj f y ns ds:=by rw[cj]
@[simp ↓] theorem EX{ds}(h:M a=none):ba Q (.ref a) (put M a (.lst ds))=Q (.e_ ds) M:=by
 simp only[ba,af,eU h]
@[simp ↓] theorem ET{i C ns ds}(h:M a=none):ba Q (.ref a) (put M a (.ins i C ns ds))=d4 ds M (λr M'=>Q (.obj i C ns r) M'):=by
 simp only[ba,af,eU h]
@[simp ↓] theorem Cu:d4 [] M R=R [] M:=rfl
@[simp ↓] theorem B0{i ds}:d4 (.int i::ds) M R=d4 ds M (λr M'=>R (.int i::r) M'):=rfl
@[simp ↓] theorem Cy{i ds}:d4 (.tup i::ds) M R=d4 ds M (λr M'=>R (.tup i::r) M'):=rfl
@[simp ↓] theorem EW{fz ds lo hi}:mm fz (.tup ds) lo hi M Q=(whole ds.length lo hi=false/\Q (.tup (dF ds lo hi)) M):=rfl
@[simp ↓] theorem Eh{ds lo hi}:mm true (.e_ ds) lo hi M Q=((dF ds lo hi).length<=sizeLine/\Q (.e_ (dF ds lo hi)) M):=rfl
@[simp ↓] theorem Er{a b}:j4 .Add (.tup a) (.tup b) M Q=(a.length+b.length<=sizeLine/\Q (.tup (a++b)) M):=rfl
@[simp ↓] theorem Fx{tk}:wpE W (.Kh tk) σ M Q E=∀p,M p=none->Q (.ref p) (put M p (if tk=true then .dt [] [] else .dk [] [])):=rfl
theorem lW{ks ds}(h:M a=some (.dk ks ds)):tyB .get (.ref a) M=true:=by simp[tyB,eW,h]
theorem qS{ks ds}(h:M a=some (.dk ks ds)):rBm .get (.ref a) [.int i,z] M Q=Q ((getD ks ds (.inl i)).getD z) M:=by simp[rBm,gD,eW,h,pR]
theorem qU{ds}(h:M a=some (.lst ds)):isLstM (.ref a) M=true:=by simp[isLstM,h]
theorem tW{ds}(h:M a=some (.lst ds)):rBm .clear (.ref a) [] M Q=Q .j_ (put M a (.lst [])):=by simp[rBm,h]
theorem iX{ks ds}(h:M a=some (.dk ks ds)):bp (.ref a) (.int i) y M R=(ks.length<sizeLine/\R (put M a (.dk (ah ks (.inl i)) (ak ks ds (.inl i) y)))):=by simp[bp,h,pR]
theorem gN{ds}(h:M a=some (.lst ds))(hj:ixN ds.length i=some j):bp (.ref a) (.int i) y M R=R (put M a (.lst (ds.set j y))):=by simp[bp,h,hj]
theorem cN[DecidableEq κ]:∀{ks:List κ}{ds:List D}{k x:κ}{y:D},ks.length=ds.length->getD (ah ks k) (ak ks ds k y) x=if k=x then some y else getD ks ds x
 |[],ds,k,x,y,_=>by
  simp only[ah,ak];by_cases h:k=x
  ·simp[getD,h]
  ·cases ds<;>simp[getD,h]
 |k'::ks,[],k,x,y,h=>by simp at h
 |k'::ks,d::ds,k,x,y,h=>by
  simp only[ah,ak];have hl:ks.length=ds.length:=by simpa using h
  by_cases e:k'=k
  ·subst e;by_cases h2:k'=x<;>simp[getD,h2]
  ·simp only[Im e,getD];by_cases h2:k'=x
   ·subst h2;rw[Iu rfl,Im (IB e),Iu rfl]
   ·rw[Im h2,Im h2];exact cN hl
theorem aU[DecidableEq κ]:∀{ks:List κ}{ds:List D}{k:κ}{y:D},ks.length=ds.length->(ah ks k).length=(ak ks ds k y).length
 |[],ds,k,y,_=>by simp[ah,ak]
 |k'::ks,[],k,y,h=>by simp at h
 |k'::ks,d::ds,k,y,h=>by
  have hl:ks.length=ds.length:=by simpa using h
  simp only[ah,ak];by_cases e:k'=k
  ·simp[e,hl]
  ·simp only[Im e,IN];rw[aU (k:=k) (y:=y) hl]
@[simp ↓] theorem Bj{ne:Nat}{cls:Nat->Addr}{r:Nat->Bool}{a:Addr}{c:Nat}{pl:Option (Nat×D)}:nY ne cls r (.ref a) (put M a (.exc ⟨c,pl⟩ (.ref (cls c)))) Q=(c<ne/\Q (.bl (r c)) (put M a (.exc ⟨c,pl⟩ (.ref (cls c))))):=by
 simp[nY,af]
@[simp ↓] theorem HJ{i De}:wpH W .nil i De σ M=False:=rfl
@[simp ↓] theorem EC{c j body r i De}:wpH W (.cons c (some j) body r) i De σ M=(i.c<W.ne/\if W.sub i.c c=true then (∀a,M a=none->aR W body (nK De j) (λ_ _ _=>False) (σ.set j (some (.ref a))) (put M a (.exc i (.ref (W.cls i.c))))) else wpH W r i De σ M):=rfl
def kZ(W:WC)(tg:ITg)(cond:ITO)(A_:IE)(S:MH->Prop)(p:Addr)(Q:VK3):List D->List D->St3->MH->Prop:=dN (wpG tg) (λσ M Q=>iG W cond σ M Q (λ_ _=>False)) (λσ M Q=>wpE W A_ σ M Q (λ_ _=>False)) S p Q
def dW(W:WC)(tg:ITg)(cond:ITO)(A_:IE)(S:MH->Prop)(Q:VK3)(ds:List D)(σ:St3)(M:MH):Prop:=∀p,M p=none->kZ W tg cond A_ S p (iC Q) ds [] σ (put M p (.lst []))
@[simp ↓] theorem Ej{N js tg it cond A_}:wpE W (.comp true N js tg it cond A_) σ M Q E=wpI W it σ M (λds S M1=>dW W tg cond A_ S Q ds (av js σ) M1) E:=rfl
@[simp ↓] theorem Ey{N js tg it cond A_}:wpE W (.comp false N js tg it cond A_) σ M Q E=wpI W it σ M (λds S M1=>∀p,M1 p=none->kZ W tg cond A_ S p Q ds [] (av js σ) (put M1 p (.lst []))) E:=rfl
@[simp ↓] theorem tL{e}:wpT W (.val e) σ M QB E=wpE W e σ M (λx M1=>match x with
  |.bl k=>QB k M1
  |_=>False) E:=rfl
@[simp ↓] theorem Ga{op a b}:wpT W (.cmp op a b) σ M QB E=wpE W a σ M (λx M1=>wpE W b σ M1 (λy M2=>az op x y M2 λr M3=>match r with
  |.bl k=>QB k M3
  |_=>False) E) E:=rfl
@[simp ↓] theorem FU{a b}:wpT W (.and a b) σ M QB E=wpT W a σ M (λc M1=>if c=true then wpT W b σ M1 QB E else QB false M1) E:=rfl
@[simp ↓] theorem HA{a b}:wpT W (.or a b) σ M QB E=wpT W a σ M (λc M1=>if c=true then QB true M1 else wpT W b σ M1 QB E) E:=rfl
@[simp ↓] theorem FQ{a}:wpT W (.not a) σ M QB E=wpT W a σ M (λc M1=>QB (!c) M1) E:=rfl
@[simp ↓] theorem Gw:wpA W .nil σ M QL E=QL [] M:=rfl
@[simp ↓] theorem EL{e r}:wpA W (.cons e r) σ M QL E=wpE W e σ M (λx M1=>wpA W r σ M1 (λxs M2=>QL (x::xs) M2) E) E:=rfl
@[simp ↓] theorem GH:wpO W .no σ M QO E=QO none M:=rfl
@[simp ↓] theorem Ff{e}:wpO W (.yes e) σ M QO E=wpE W e σ M (λx M1=>match x with
  |.int i=>QO (some i) M1
  |_=>False) E:=rfl
@[simp ↓] theorem E7{e}:iG W (.yes e) σ M QB E=wpT W e σ M QB E:=rfl
def lB(R:List D->(MH->Prop)->MH->Prop):VK3:=λx M1=>match x with
  |.tup ds=>R ds (λ_=>True) M1
  |.e_ ds=>R ds (λ_=>True) M1
  |.ref a=>match M1 a with
   |some (.lst ds)=>R ds (λM=>M a=some (.lst ds)) M1
   |_=>False
  |_=>False
@[simp ↓] theorem Ea{ds}:lB R (.tup ds) M=R ds (λ_=>True) M:=rfl
@[simp ↓] theorem Dp{ds}:lB R (.e_ ds) M=R ds (λ_=>True) M:=rfl
theorem mS{a ds}(h:M a=some (.lst ds)):lB R (.ref a) M=R ds (λM=>M a=some (.lst ds)) M:=by
 unfold lB;simp only[h]
@[simp ↓] theorem GB{e}:wpI W (.seq e) σ M R E=wpE W e σ M (lB R) E:=rfl
@[simp ↓] theorem Ev{a}:wpI W (.enum a) σ M R E=wpE W a σ M (λx M1=>match x with
  |.e_ ds=>R (bg 0 ds) (λ_=>True) M1
  |.ref a=>match M1 a with
   |some (.lst ds)=>R (bg 0 ds) (λM=>M a=some (.lst ds)) M1
   |_=>False
  |_=>False) E:=rfl
@[simp ↓] theorem EF{a}:wpI W (.Lb a) σ M R E=wpE W a σ M (λx M1=>match x with
  |.e_ ds=>R ds.reverse (λ_=>True) M1
  |_=>False) E:=rfl
@[simp ↓] theorem D6{a}:wpI W (.items a) σ M R E=wpE W a σ M (λx M1=>match x with
  |.JT ks ds=>R (c5 ks ds) (λ_=>True) M1
  |.Kz ks ds=>R (fN ks ds) (λ_=>True) M1
  |_=>False) E:=rfl
@[simp ↓] theorem GT{a}:wpI W (.dk a) σ M R E=wpE W a σ M (λx M1=>match x with
  |.JT ks ds=>R (ks.map mC) (λ_=>True) M1
  |_=>False) E:=rfl
@[simp ↓] theorem FJ{a b}:wpI W (.zip a b) σ M R E=wpE W a σ M (λx M1=>wpE W b σ M1 (λy M2=>rLs x M2 λxs S=>rLs y M2 λys S'=>R (dZ xs ys) (λM=>S M/\S' M) M2) E) E:=rfl
@[simp] theorem FW{k}:rLs (.e_ xs) M k=k xs λ_=>True:=rfl
@[simp ↓] theorem E0{a}:wpI W (.KW a) σ M R E=wpE W a σ M (λx M1=>match x with
  |.int j=>-(2 ^ 62)<=j/\j<2 ^ 62/\R (rng 0 j.toNat) (λ_=>True) M1
  |_=>False) E:=rfl
end
section
variable {W:WC}{σ:St3}{De:Ends3}{x:Option D}
@[simp ↓] theorem Fh:aR W .nil De ES σ M=De.nx σ M:=rfl
@[simp ↓] theorem Ew{s r}:aR W (.cons s r) De ES (x::σ) M=wpS W s {De with nx:=λo_ M'=>aR W r De ES o_ M'} ES (x::σ) M:=rfl
@[simp ↓] theorem E9{e}:wpS W (.set 1 e) De ES (y0::x::σ) M=wpE W e (y0::x::σ) M (λv M1=>De.nx (y0::some v::σ) M1) (ES (y0::x::σ)):=rfl
@[simp ↓] theorem FN{e}:wpS W (.set 2 e) De ES (y0::y1::x::σ) M=wpE W e (y0::y1::x::σ) M (λv M1=>De.nx (y0::y1::some v::σ) M1) (ES (y0::y1::x::σ)):=rfl
@[simp ↓] theorem Gi{e}:wpS W (.set 3 e) De ES (y0::y1::y2::x::σ) M=wpE W e (y0::y1::y2::x::σ) M (λv M1=>De.nx (y0::y1::y2::some v::σ) M1) (ES (y0::y1::y2::x::σ)):=rfl
@[simp ↓] theorem FD{e}:wpS W (.set 4 e) De ES (y0::y1::y2::y3::x::σ) M=wpE W e (y0::y1::y2::y3::x::σ) M (λv M1=>De.nx (y0::y1::y2::y3::some v::σ) M1) (ES (y0::y1::y2::y3::x::σ)):=rfl
@[simp ↓] theorem E6{e}:wpS W (.set 5 e) De ES (y0::y1::y2::y3::y4::x::σ) M=wpE W e (y0::y1::y2::y3::y4::x::σ) M (λv M1=>De.nx (y0::y1::y2::y3::y4::some v::σ) M1) (ES (y0::y1::y2::y3::y4::x::σ)):=rfl
@[simp ↓] theorem Fd{e}:wpS W (.set 6 e) De ES (y0::y1::y2::y3::y4::y5::x::σ) M=wpE W e (y0::y1::y2::y3::y4::y5::x::σ) M (λv M1=>De.nx (y0::y1::y2::y3::y4::y5::some v::σ) M1) (ES (y0::y1::y2::y3::y4::y5::x::σ)):=rfl
@[simp ↓] theorem Ge{e}:wpS W (.set 7 e) De ES (y0::y1::y2::y3::y4::y5::y6::x::σ) M=wpE W e (y0::y1::y2::y3::y4::y5::y6::x::σ) M (λv M1=>De.nx (y0::y1::y2::y3::y4::y5::y6::some v::σ) M1) (ES (y0::y1::y2::y3::y4::y5::y6::x::σ)):=rfl
@[simp ↓] theorem Gf{e}:wpS W (.set 8 e) De ES (y0::y1::y2::y3::y4::y5::y6::y7::x::σ) M=wpE W e (y0::y1::y2::y3::y4::y5::y6::y7::x::σ) M (λv M1=>De.nx (y0::y1::y2::y3::y4::y5::y6::y7::some v::σ) M1) (ES (y0::y1::y2::y3::y4::y5::y6::y7::x::σ)):=rfl
@[simp ↓] theorem E5{e}:wpS W (.set 9 e) De ES (y0::y1::y2::y3::y4::y5::y6::y7::y8::x::σ) M=wpE W e (y0::y1::y2::y3::y4::y5::y6::y7::y8::x::σ) M (λv M1=>De.nx (y0::y1::y2::y3::y4::y5::y6::y7::y8::some v::σ) M1) (ES (y0::y1::y2::y3::y4::y5::y6::y7::y8::x::σ)):=rfl
@[simp ↓] theorem EJ{e}:wpS W (.set 10 e) De ES (y0::y1::y2::y3::y4::y5::y6::y7::y8::y9::x::σ) M=wpE W e (y0::y1::y2::y3::y4::y5::y6::y7::y8::y9::x::σ) M (λv M1=>De.nx (y0::y1::y2::y3::y4::y5::y6::y7::y8::y9::some v::σ) M1) (ES (y0::y1::y2::y3::y4::y5::y6::y7::y8::y9::x::σ)):=rfl
@[simp ↓] theorem EM{e}:wpS W (.set 11 e) De ES (y0::y1::y2::y3::y4::y5::y6::y7::y8::y9::v_::x::σ) M=wpE W e (y0::y1::y2::y3::y4::y5::y6::y7::y8::y9::v_::x::σ) M (λv M1=>De.nx (y0::y1::y2::y3::y4::y5::y6::y7::y8::y9::v_::some v::σ) M1) (ES (y0::y1::y2::y3::y4::y5::y6::y7::y8::y9::v_::x::σ)):=rfl
@[simp ↓] theorem EK{e}:wpS W (.set 12 e) De ES (y0::y1::y2::y3::y4::y5::y6::y7::y8::y9::v_::x_::x::σ) M=wpE W e (y0::y1::y2::y3::y4::y5::y6::y7::y8::y9::v_::x_::x::σ) M (λv M1=>De.nx (y0::y1::y2::y3::y4::y5::y6::y7::y8::y9::v_::x_::some v::σ) M1) (ES (y0::y1::y2::y3::y4::y5::y6::y7::y8::y9::v_::x_::x::σ)):=rfl
@[simp ↓] theorem EN{e}:wpS W (.set 13 e) De ES (y0::y1::y2::y3::y4::y5::y6::y7::y8::y9::v_::x_::y_::x::σ) M=wpE W e (y0::y1::y2::y3::y4::y5::y6::y7::y8::y9::v_::x_::y_::x::σ) M (λv M1=>De.nx (y0::y1::y2::y3::y4::y5::y6::y7::y8::y9::v_::x_::y_::some v::σ) M1) (ES (y0::y1::y2::y3::y4::y5::y6::y7::y8::y9::v_::x_::y_::x::σ)):=rfl
@[simp ↓] theorem Et{e}:wpS W (.set 14 e) De ES (y0::y1::y2::y3::y4::y5::y6::y7::y8::y9::v_::x_::y_::JL::x::σ) M=wpE W e (y0::y1::y2::y3::y4::y5::y6::y7::y8::y9::v_::x_::y_::JL::x::σ) M (λv M1=>De.nx (y0::y1::y2::y3::y4::y5::y6::y7::y8::y9::v_::x_::y_::JL::some v::σ) M1) (ES (y0::y1::y2::y3::y4::y5::y6::y7::y8::y9::v_::x_::y_::JL::x::σ)):=rfl
@[simp ↓] theorem Eg{e}:wpS W (.set 15 e) De ES (y0::y1::y2::y3::y4::y5::y6::y7::y8::y9::v_::x_::y_::JL::JM::x::σ) M=wpE W e (y0::y1::y2::y3::y4::y5::y6::y7::y8::y9::v_::x_::y_::JL::JM::x::σ) M (λv M1=>De.nx (y0::y1::y2::y3::y4::y5::y6::y7::y8::y9::v_::x_::y_::JL::JM::some v::σ) M1) (ES (y0::y1::y2::y3::y4::y5::y6::y7::y8::y9::v_::x_::y_::JL::JM::x::σ)):=rfl
@[simp ↓] theorem EE{e}:wpS W (.set 16 e) De ES (y0::y1::y2::y3::y4::y5::y6::y7::y8::y9::v_::x_::y_::JL::JM::J3::x::σ) M=wpE W e (y0::y1::y2::y3::y4::y5::y6::y7::y8::y9::v_::x_::y_::JL::JM::J3::x::σ) M (λv M1=>De.nx (y0::y1::y2::y3::y4::y5::y6::y7::y8::y9::v_::x_::y_::JL::JM::J3::some v::σ) M1) (ES (y0::y1::y2::y3::y4::y5::y6::y7::y8::y9::v_::x_::y_::JL::JM::J3::x::σ)):=rfl
@[simp ↓] theorem EB{e}:wpS W (.set 17 e) De ES (y0::y1::y2::y3::y4::y5::y6::y7::y8::y9::v_::x_::y_::JL::JM::J3::J7::x::σ) M=wpE W e (y0::y1::y2::y3::y4::y5::y6::y7::y8::y9::v_::x_::y_::JL::JM::J3::J7::x::σ) M (λv M1=>De.nx (y0::y1::y2::y3::y4::y5::y6::y7::y8::y9::v_::x_::y_::JL::JM::J3::J7::some v::σ) M1) (ES (y0::y1::y2::y3::y4::y5::y6::y7::y8::y9::v_::x_::y_::JL::JM::J3::J7::x::σ)):=rfl
@[simp ↓] theorem EV{j}:(nK De j).nx σ M=De.nx (σ.set j none) M:=rfl
def fj(B:WB)(f:Nat)(y:D)(R:MH->Prop):VK3:=λx M2=>match x with
  |.ref a=>match M2 a with
   |some (.ins i C ns ds)=>(C=B.c_ i/\i<B.nk/\B.fok i f=true/\ns.length<1000)/\R (put M2 a (.ins i C (cq f ns) (cj f y ns ds)))
   |_=>False
  |_=>False
@[simp ↓] theorem Dt{B:WB}{i C ns ds}:fj B f y R (.ref a) (put M a (.ins i C ns ds))=((C=B.c_ i/\i<B.nk/\B.fok i f=true/\ns.length<1000)/\R (put M a (.ins i C (cq f ns) (cj f y ns ds)))):=by
 simp[fj,af,bc]
def sr(is:List Nat)(σ:St3)(k:St3->MH->Prop):VK3:=λx M1=>match x with
  |.tup ds=>ds.length=is.length/\k ((is.zip ds).foldl (λσ p=>σ.set p.1 (some p.2)) σ) M1
  |_=>False
@[simp ↓] theorem El{i j a b k}:sr [i,j] σ k (.tup [a,b]) M=k ((σ.set i (some a)).set j (some b)) M:=by
 simp[sr]
@[simp ↓] theorem FV{is e}:wpS W (.NL is e) De ES σ M=wpE W e σ M (sr is σ De.nx) (ES σ):=rfl
@[simp ↓] theorem Ez{e}:wpS W (.expr e) De ES σ M=wpE W e σ M (λ_ M1=>De.nx σ M1) (ES σ):=rfl
@[simp ↓] theorem Gr{e}:wpS W (.ret e) De ES σ M=wpE W e σ M De.rt (ES σ):=rfl
@[simp ↓] theorem EQ:wpS W .dead De ES σ M=False:=rfl
@[simp ↓] theorem Ei{o f e}:wpS W (.J2 o f e) De ES σ M=wpE W e σ M (λy M1=>wpE W o σ M1 (fj W.toWB f y (De.nx σ)) (ES σ)) (ES σ):=rfl
@[simp ↓] theorem Co{o i e}:wpS W (.F_ o i e) De ES σ M=wpE W e σ M (λy M1=>wpE W o σ M1 (λx M2=>wpE W i σ M2 (λk M3=>bp x k y M3 λM4=>De.nx σ M4) (ES σ)) (ES σ)) (ES σ):=rfl
@[simp ↓] theorem Fp{c a b}:wpS W (.ifs c a b) De ES σ M=wpT W c σ M (λk M1=>if k=true then aR W a De ES σ M1 else aR W b De ES σ M1) (ES σ):=rfl
def bM(W:WC)(tg:ITg)(body:ISs)(ES:St3->XN)(S:MH->Prop)(De:Ends3):List D->St3->MH->Prop:=jM (wpG tg) (λD σ M=>aR W body D ES σ M) S De
@[simp ↓] theorem FE{tg it body}:wpS W (.JW tg it body) De ES σ M=wpI W it σ M (λds S M1=>bM W tg body ES S De ds σ M1) (ES σ):=rfl
theorem aZ{tg body S}:bM W tg body ES S De [] σ M=(S M/\De.nx σ M):=rfl
theorem aD{tg body S d r}:bM W tg body ES S De (d::r) σ M=(S M/\wpG tg d σ M λKr M2=>aR W body {De with nx:=bM W tg body ES S De r,ct:=bM W tg body ES S De r,bk:=De.nx} ES Kr M2):=rfl
@[simp ↓] theorem DC{c es}:wpS W (.raise c es) De ES σ M=wpA W es σ M (λxs M1=>xs.length<=sizeLine/\ES σ ⟨c,none⟩ M1) (ES σ):=rfl
@[simp ↓] theorem FG{body hs}:wpS W (.Lr body hs) De ES σ M=aR W body De (λo_ i M'=>wpH W hs i De o_ M') σ M:=rfl
def pB(W:WC)(e:IE)(De:Ends3)(E:XN)(σ:St3):VK3:=λx M1=>match x with
  |.ref a=>match M1 a with
   |some (.lst _)=>wpE W e σ M1 (λy M2=>match M2 a with
    |some (.lst ds)=>ds.length<sizeLine/\De.nx σ (put M2 a (.lst (ds++[y])))
    |_=>False) E
   |_=>False
  |_=>False
@[simp ↓] theorem Fi{o e}:wpS W (.app o e) De ES σ M=wpE W o σ M (pB W e De (ES σ) σ) (ES σ):=rfl
def d9(p:Addr)(De:Ends3)(σ:St3):VK3:=λy M2=>match M2 p with
    |some (.lst ds)=>ds.length<sizeLine/\De.nx σ (put M2 p (.lst (ds++[y])))
    |_=>False
@[simp ↓] theorem E4{e E p ds}:pB W e De E σ (.ref p) (put M p (.lst ds))=wpE W e σ (put M p (.lst ds)) (d9 p De σ) E:=by
 unfold pB;simp only[af];rfl
@[simp ↓] theorem Ed{p ds y}:d9 p De σ y (put M p (.lst ds))=(ds.length<sizeLine/\De.nx σ (put M p (.lst (ds++[y])))):=by
 unfold d9;simp only[af,bc]
@[simp ↓] theorem qP{i d k}:wpG (.name i) d σ M k=k (σ.set i (some d)) M:=rfl
@[simp ↓] theorem F7{is d k}:wpG (.tup is) d σ M k=sr is σ k d M:=rfl
end
section
variable {i j:Int}{x:D}
@[simp ↓] theorem GJ:j4 .Add (.int i) (.int j) M Q=Q (.int (i+j)) M:=rfl
@[simp ↓] theorem Hw:j4 .Sub (.int i) (.int j) M Q=Q (.int (i-j)) M:=rfl
@[simp ↓] theorem GG:j4 .Mult (.int i) (.int j) M Q=(dX i j/\Q (.int (i*j)) M):=rfl
@[simp ↓] theorem Hy:j4 .FloorDiv (.int i) (.int j) M Q=(kU i j/\Q (.int (i / j)) M):=rfl
@[simp ↓] theorem Hb:j4 .Mod (.int i) (.int j) M Q=(0<j/\Q (.int (i % j)) M):=rfl
@[simp ↓] theorem GM:j4 .Pow (.int i) (.int j) M Q=(uC i j/\Q (.int (i ^ j.toNat)) M):=rfl
@[simp ↓] theorem GL:rNeg (.int i) M Q=Q (.int (-i)) M:=rfl
@[simp ↓] theorem HQ:az .Lt (.int i) (.int j) M Q=Q (.bl (decide (i<j))) M:=rfl
@[simp ↓] theorem HR:az .LtE (.int i) (.int j) M Q=Q (.bl (decide (i<=j))) M:=rfl
@[simp ↓] theorem HY:az .Gt (.int i) (.int j) M Q=Q (.bl (decide (j<i))) M:=rfl
@[simp ↓] theorem Ho:az .Eq (.int i) (.int j) M Q=Q (.bl (decide (i=j))) M:=by simp[az,dJ,rs,ai,plN,eqD]
@[simp ↓] theorem Hd:az .NotEq (.int i) (.int j) M Q=Q (.bl (!decide (i=j))) M:=by simp[az,dJ,rs,ai,plN,eqD]
@[simp ↓] theorem GF:az .Eq (.str s) (.str t) M Q=Q (.bl (decide (s=t))) M:=by simp[az,dJ,rs,ai,plN,eqD]
@[simp ↓] theorem GK:az .Is x .j_ M Q=Q (.bl x.isN) M:=by simp[az,rP]
@[simp ↓] theorem Fu:az .IsNot x .j_ M Q=Q (.bl (!x.isN)) M:=by simp[az,rP]
@[simp] theorem EY:(D.int i).isN=false:=rfl
@[simp] theorem Eu:D.j_.isN=true:=rfl
@[simp ↓] theorem HK{d l}:am (.tup (d::l)) (.int 0) M Q=Q d M:=by simp[am,aC,su]
@[simp ↓] theorem G6{d e l}:am (.tup (d::e::l)) (.int 1) M Q=Q e M:=by simp[am,aC,r0]
@[simp ↓] theorem HI{d e f l}:am (.tup (d::e::f::l)) (.int 2) M Q=Q f M:=by simp[am,aC,sJ]
@[simp ↓] theorem HC{d e f g l}:am (.tup (d::e::f::g::l)) (.int 3) M Q=Q g M:=by simp[am,aC,uI]
@[simp ↓] theorem GE{d e f g h l}:am (.tup (d::e::f::g::h::l)) (.int 4) M Q=Q h M:=by
 have:atI (d::e::f::g::h::l) 4=some h:=bX (j:=4) rfl;simp[am,aC,this]
theorem mG{ds y}(h:M a=some (.lst ds)):am (.ref a) y M Q=am (.e_ ds) y M Q:=by
 cases y<;>simp[am,aC,ai,h]
@[simp ↓] theorem BR{ds}:rBi (.list true) [.e_ ds] M Q=(ds.length<=sizeLine/\Q (.e_ ds) M):=rfl
@[simp ↓] theorem Fe{ds es}:az .Eq (.ref a) (.e_ es) (put M a (.lst ds)) Q=az .Eq (.e_ ds) (.e_ es) (put M a (.lst ds)) Q:=by
 simp[az,dJ,rs,ai,af]
@[simp ↓] theorem GX{d l}:am (.e_ (d::l)) (.int 0) M Q=Q d M:=by simp[am,aC,ai,su]
@[simp ↓] theorem GI{d e l}:am (.e_ (d::e::l)) (.int 1) M Q=Q e M:=by simp[am,aC,ai,r0]
@[simp ↓] theorem G8{d e f l}:am (.e_ (d::e::f::l)) (.int 2) M Q=Q f M:=by simp[am,aC,ai,sJ]
@[simp ↓] theorem Hu{d e f g l}:am (.e_ (d::e::f::g::l)) (.int 3) M Q=Q g M:=by simp[am,aC,ai,uI]
@[simp ↓] theorem Ep{ds}:rBi .len [.tup ds] M Q=Q (.int ds.length) M:=rfl
@[simp ↓] theorem ED{ds}:rBi .len [.e_ ds] M Q=Q (.int ds.length) M:=rfl
@[simp ↓] theorem Gu:rBi .max [.int i,.int j] M Q=Q (.int (if j > i then j else i)) M:=rfl
@[simp ↓] theorem F0:rBi .min [.int i,.int j] M Q=Q (.int (if j<i then j else i)) M:=rfl
@[simp ↓] theorem Hs{ds}:dH true ds M Q=(ds.length<=sizeLine/\Q (.e_ ds) M):=by simp[dH]
@[simp ↓] theorem Fq{ds es}:jS true (.e_ ds) (.e_ es) M Q=((ds++es).length<=sizeLine/\Q (.e_ (ds++es)) M):=by simp[jS,ai,dH]
@[simp ↓] theorem GR{ds}:dH false ds M Q=(ds.length<=sizeLine/\∀p,M p=none->Q (.ref p) (put M p (.lst ds))):=by simp[dH]
theorem aq(h:n<=1000):(n<=sizeLine)=True:=eq_true (IR h (by decide))
@[simp ↓] theorem EA{t}:j6 t (.int i) M Q=Q (.bl (match t with|.int=>true|_=>false)) M:=rfl
@[simp ↓] theorem EO{t ds}:j6 t (.tup ds) M Q=Q (.bl (match t with|.tuple=>true|_=>false)) M:=rfl
end
section
variable {W:WC}{tg:ITg}{cond:ITO}{A_:IE}{p:Addr}{Q:VK3}{σ:St3}{M:MH}{ys:List D}
@[simp ↓] theorem En{ds}:iC Q (.ref p) (put M p (.lst ds))=Q (.e_ ds) (L2.del (put M p (.lst ds)) p):=by
 simp only[iC,af]
def Fm(M:MH):Prop:=∃n,∀p,n<=p->M p=none
theorem Fm.nil:Fm (λ_=>none):=⟨0,λ_ _=>rfl⟩
theorem se{M:MH}(h:Fm M){p:Prop}:(∀a:Addr,M a=none->p)=p:=propext ⟨λf=>let ⟨n,k⟩:=h;f n (k n (Iq _)),λf _ _=>f⟩
theorem Fm.put{M:MH}(h:Fm M)(p:Addr)(o:DO):Fm (put M p o):=by
 obtain⟨n,h⟩:=h;refine⟨max n (p+1),λq hq=>?_⟩
 rw[aj (Nat.ne_of_gt (Nat.lt_of_succ_le (IR (Nat.le_max_right n (p+1)) hq)))];exact h q (IR (Nat.le_max_left _ _) hq)
theorem ao{M:MH}(hM:Fm M){P:Addr->Prop}{q:Prop}(h:∀p,M p=none->P p=q):(∀p,M p=none->P p)=q:=by
 rw[<-se hM (p:=q)];exact forall_congr λp=>implies_congr_ctx rfl λhp=>h p hp
theorem DS{cs:List Int}(h1 : -(cs.length:Int)<=i)(h2:i<cs.length):∃x,atI (cs.map D.int) i=some (.int x):=by
 unfold atI ixN;rw[ID];by_cases h:0<=i
 ·have hk:i.toNat<cs.length:=by omega
  rw[Iu h,Iu h2];exact⟨cs[i.toNat],by simp[IG hk]⟩
 ·have hk:(i+cs.length).toNat<cs.length:=by omega
  rw[Im h,Iu h1];exact⟨cs[(i+cs.length).toNat],by simp[IG hk]⟩
theorem gc(h:atI ds i=some x):am (.e_ ds) (.int i) M Q=Q x M:=by simp[am,aC,ai,h]
theorem bj(h:put M p o q=none):q≠p/\M q=none:=by
 unfold put at h;split at h
 ·cases h
 ·exact⟨by assumption,h⟩
theorem vB(hp:M p=none)(hq:q≠p):L2.del (put (put M p o) q u) p=put M q u:=by
 funext a;unfold L2.del put;by_cases e:a=p
 ·subst e;simp[IB hq,hp]
 ·simp[e]
def Ext(M M':MH):Prop:=Fm M'/\∀a o,M a=some o->M' a=some o
theorem Ext.put{M:MH}(hM:Fm M){p:Addr}(h:M p=none)(o:DO):Ext M (put M p o):=⟨hM.put _ _,λa u e=>by rw[aj (λz=>by rw[z,h]at e;cases e)];exact e⟩
section
variable {W:WC}{σ:St3}{M:MH}{Q:VK3}{tg:ITg}{cond:ITO}{A_:IE}{p:Addr}{S:MH->Prop}
theorem oA{d:D}{r ys:List D}:kZ W tg cond A_ S p Q (d::r) ys σ M=(S M/\ys.length<sizeLine/\wpG tg d σ M λKr M2=>iG W cond Kr M2 (λb M3=>if b=true then wpE W A_ Kr M3 (λy M4=>M4 p=some (.lst ys)/\kZ W tg cond A_ S p Q r (ys++[y]) Kr (put M4 p (.lst (ys++[y])))) (λ_ _=>False) else kZ W tg cond A_ S p Q r ys Kr M3) (λ_ _=>False)):=rfl
theorem gU{α:Type}(φ:α->D)(P:St3->Prop)(st:α->St3)(c:α->Bool)(f:α->D):∀(ds:List α)(ys:List D)(σ:St3) {M:MH},P σ->Fm M->M p=none->ys.length+ds.length<sizeLine->(∀M',Ext M M'->S M')->
  (∀d∈ds,P (st d)/\∀σ,P σ->∀(M:MH)(k:St3->MH->Prop),wpG tg (φ d) σ M k=k (st d) M)->
  (∀d∈ds,∀M',Ext M M'->∀Q:Bool->MH->Prop,iG W cond (st d) M' Q (λ_ _=>False)=Q (c d) M')->
  (∀d∈ds,c d=true->∀M',Ext M M'->∀Q,wpE W A_ (st d) M' Q (λ_ _=>False)=Q (f d) M')->
  kZ W tg cond A_ S p Q (ds.map φ) ys σ (put M p (.lst ys))=Q (.ref p) (put M p (.lst (ys++(ds.filter c).map f)))
 |[],ys,σ,M,h0,hM,hp,hl,hS,hg,hc,he=>by
  show (S (put M p (.lst ys))/\Q (.ref p) (put M p (.lst ys)))=_;simp[hS _ (.put hM hp _)]
 |d::ds,ys,σ,M,h0,hM,hp,hl,hS,hg,hc,he=>by
  have Mf:ys.length+(ds.length+1)<sizeLine:=hl;obtain⟨g1,g2⟩:=hg d Ix;have ih:=λys hy=>gU φ P st c f ds ys (st d) g1 hM hp hy hS (λe h=>hg e (Io _ h)) (λe h=>hc e (Io _ h)) (λe h=>he e (Io _ h))
  rw[Ip,oA,g2 σ h0,hc d Ix _ (.put hM hp _),eq_true (hS _ (.put hM hp _)),true_and];cases q:c d with
  |true=>
   rw[Iu rfl,he d Ix q _ (.put hM hp _),af,bc,ih _ (by rw[Je,List.length_singleton];omega)]
   simp only[List.filter_cons,q,if_true,Ip,List.append_assoc,List.singleton_append,true_and];rw[eq_true (show ys.length<sizeLine by omega),true_and]
  |false=>
   rw[Im IP,ih _ (by omega)]
   simp only[List.filter_cons,q,Jf,if_false];rw[eq_true (show ys.length<sizeLine by omega),true_and]
theorem dj{α:Type}{ds:List α}(φ:α->D)(P:St3->Prop)(st:α->St3)(c:α->Bool)(f:α->D)(h0:P σ)(hM:Fm M)(hl:ds.length<10000)
  (hg:∀d∈ds,P (st d)/\∀σ,P σ->∀(M:MH)(k:St3->MH->Prop),wpG tg (φ d) σ M k=k (st d) M)
  (hc:∀d∈ds,∀M',Ext M M'->∀Q:Bool->MH->Prop,iG W cond (st d) M' Q (λ_ _=>False)=Q (c d) M')
  (he:∀d∈ds,c d=true->∀M',Ext M M'->∀Q,wpE W A_ (st d) M' Q (λ_ _=>False)=Q (f d) M') (hS:∀M',Ext M M'->S M':=by exact λ_ _=>trivial) :
  dW W tg cond A_ S Q (ds.map φ) σ M=Q (.e_ ((ds.filter c).map f)) M:=
 ao hM λp hp=>(gU φ P st c f ds [] σ h0 hM hp (by rw[List.length_nil,Nat.zero_add];exact Nat.lt_trans hl (by decide)) hS hg hc he).trans (by simp[iC,af,eU hp])
theorem aL{α:Type}{aF:St3}{x:Option D}{ds:List α}(φ:α->D)(c:α->Bool)(f:α->D)(hM:Fm M)(hl:ds.length<10000)
  (hc:∀d∈ds,∀M',Ext M M'->∀Q:Bool->MH->Prop,iG W cond (some (φ d)::aF) M' Q (λ_ _=>False)=Q (c d) M')
  (he:∀d∈ds,c d=true->∀M',Ext M M'->∀Q,wpE W A_ (some (φ d)::aF) M' Q (λ_ _=>False)=Q (f d) M') (hS:∀M',Ext M M'->S M':=by exact λ_ _=>trivial) :
  dW W (.name 0) cond A_ S Q (ds.map φ) (x::aF) M=Q (.e_ ((ds.filter c).map f)) M:=
 dj φ (λσ=>∃y,σ=y::aF) (λd=>some (φ d)::aF) c f ⟨x,rfl⟩ hM hl (λd _=>⟨⟨_,rfl⟩,λσ ⟨y,e⟩ M k=>by subst e;rfl⟩) hc he hS
end
theorem kL(g:α->D)(f:α->Bool)(xs:List α)(h:∀x∈xs,g x=.bl (f x)):eJ (xs.map g)=some (xs.map f):=by
 induction xs with
 |nil=>rfl
 |cons a r ih=>
  rw[Ip,h a Ix];simp only[eJ];rw[ih λx hx=>h x (Io _ hx)]
  rfl
theorem qp(f:α->Bool){xs:List α}(h:∀x∈xs,g x=.bl (f x)):rBi .all [.e_ (xs.map g)] M Q=Q (.bl (xs.all f)) M:=by
 simp only[rBi,ai,kL g f xs h];simp[List.all_map,Function.comp_def]
theorem vY(f:α->Bool){xs:List α}(h:∀x∈xs,g x=.bl (f x)):rBi .any [.e_ (xs.map g)] M Q=Q (.bl (xs.any f)) M:=by
 simp only[rBi,ai,kL g f xs h];simp[List.any_map,Function.comp_def]
end
end L2
namespace L2
open PySem PySem.NumText PyProof.Rows StrLaws
end L2
namespace HD
open PySem PySem.W PyProof.Rows L2
noncomputable def pw:Program:=PySem.Challenge.pw_driftmeet_k63_what_is_left
noncomputable def top(i:Nat):Stmt:=PySem.Challenge.pw_driftmeet_k63_what_is_left.main.body.getD i (.Pass ⟨0,0,0,0⟩)
noncomputable abbrev R(a:Nat):Value:=.ref a
noncomputable abbrev I(i:Nat):Value:=.int i 0
noncomputable abbrev e(P:Params)(s:String)(t:Nat)(v:Value):DictEntry:=⟨PyData.keyHash P s,.str s t,v⟩
noncomputable abbrev co(n:String)(a:Nat)(m:String)(b c d e g h i j:Nat)(k:Bool)(l o q r s:Nat):Data:=.fields #[.str n a,.str m b,.str "/claim/cut.py" c,I d,I e,I g,I h,I i,R j,.bool k,I l,R o,.none,.none,.none,.none,I q,I r,.str "/claim/cut.py" s]
noncomputable abbrev cp(n:String)(a:Nat)(m:String)(b c d e g h i j:Nat)(k:Bool)(l o x y z q r s:Nat):Data:=.fields #[.str n a,.str m b,.str "/claim/cut.py" c,I d,I e,I g,I h,I i,R j,.bool k,I l,R o,.none,R x,R y,R z,I q,I r,.str "/claim/cut.py" s]
noncomputable abbrev v0:Value:=.type "dict"
noncomputable abbrev v1:Value:=.type "object"
noncomputable abbrev v2:Value:=.str "driftmeet.errors" 194
noncomputable abbrev v3:Value:=.type "type"
noncomputable abbrev v4:Value:=.builtin "object.__new__"
noncomputable abbrev v5:Value:=.type "ValueError"
noncomputable abbrev v6:Value:=.str "driftmeet.happenings" 360
noncomputable abbrev v7:Value:=.builtin "ValueError.__new__"
noncomputable abbrev F:=Params->Obj
noncomputable abbrev fo(n q:String)(s:Stmt)(m:String)(t c:Nat):F:=λ_=>⟨.type "function",none,.func (fnOf n q (bU s) (bb s) (aA s) .none .none .none (.str m t) none (.ref c) .none),#[]⟩
noncomputable abbrev fp(n q:String)(s:Stmt):F:=λ_=>⟨.none,none,.func {fnOf n q (bU s) (bb s) (aA s) .none .none .none .none none .none .none with globals:=0,builtins:=0},#[]⟩
noncomputable abbrev vf(l:Array Value):F:=λ_=>⟨.none,none,.fields l,#[]⟩
noncomputable abbrev tu(l:Array Value):F:=λ_=>⟨.type "tuple",none,.seq l 0,#[]⟩
noncomputable abbrev cd(d:Data):F:=λ_=>⟨.type "code",none,d,#[]⟩
noncomputable abbrev bf(a:String)(b:Nat):F:=λ_=>⟨.type "builtin_function_or_method",none,.fields #[.builtin a,.ref b],#[]⟩
noncomputable abbrev n(o:F)(x y:Params->W.BT):Params->W.BT:=λP=>.node (o P) (x P) (y P)
noncomputable abbrev z:Params->W.BT:=λ_=>.nil
noncomputable abbrev l(o:F):Params->W.BT:=λP=>.node (o P) .nil .nil
noncomputable abbrev x0(a:String)(b:Nat)(c:String)(d:Nat)(f:Nat)(g:Nat)(h:Nat):F:=cd (cp a b c (b+1) (b+2) d f 0 0 3 g true 181 (g+1) (g+2) (g+3) (g+4) h d (h+1))
noncomputable abbrev x1(a:String)(b:Nat):F:=fp a a (top b)
noncomputable abbrev x2(a:String)(b:Nat)(c:String)(d:Nat)(f:Nat):F:=fo a a (top b) c d f
noncomputable abbrev x3(a:String)(b:String)(c:Nat)(d:Nat):F:=fp a b (ar (top c) d)
noncomputable abbrev x4(a:String)(b:String)(c:Nat)(d:Nat)(f:String)(g:Nat)(h:Nat):F:=fo a b (ar (top c) d) f g h
noncomputable abbrev x5(a:String)(b:Nat)(c:Nat)(d:Nat):F:=cd (co a b a (b+1) (b+2) c 0 0 0 0 d false 181 (d+1) (b+3) c (b+4))
noncomputable abbrev x6(a:Nat)(b:Nat)(c:String)(d:Nat):F:=λ_=>⟨(.type "frame"),none,.plain,#[some (R a),some (R 3),some (R b),none,some (.str c d),none,some (R 0)]⟩
noncomputable abbrev x7(a:String)(b:Nat)(c:String)(d:String):F:=tu #[(.str a b),(.str c (b+1)),(.str d (b+2))]
noncomputable abbrev x8(a:Nat):F:=λ_=>⟨(.type "super"),none,(.fields #[(R a),(R a),(R a)]),#[]⟩
noncomputable abbrev x9(a:Nat):F:=bf "object.__init_subclass__" a
noncomputable abbrev x10(a:String)(b:Nat):F:=tu #[(.str a b)]
noncomputable abbrev x11(a:String)(b:Nat)(c:String):F:=tu #[(.str a b),(.str c (b+1))]
noncomputable abbrev x12(a:String)(b:Nat)(c:String)(d:String)(f:String):F:=tu #[(.str a b),(.str c (b+1)),(.str d (b+2)),(.str f (b+3))]
noncomputable abbrev x13(a:String)(b:Nat)(c:Nat)(d:Nat)(f:Nat):F:=cd (.fields #[(.str a b),(.str a (b+1)),(.str "/claim/cut.py" (b+2)),(I c),(I d),(I 0),(I 0),(I 3),(R f),(.bool true),(I 181),(R (f+1)),.none,.none,.none,(R (f+2)),(I (b+3)),(I c),(.str "/claim/cut.py" (b+4))])
noncomputable abbrev x14(a:Nat)(b:String)(c:Nat)(d:Nat):F:=λP=>⟨v0,none,(.dict #[e P "__module__" a v2,e P "__qualname__" (a+2) (.str b (a+1)),e P "__firstlineno__" (a+4) (.int c (a+3)),e P "__static_attributes__" (a+5) (R d)] 4),#[]⟩
noncomputable abbrev x15(a:String)(b:Nat)(c:Nat)(d:Nat):F:=λ_=>⟨v3,none,(.cls ⟨a,[(R 31)],[(R b),(R 31),v5,(.type "Exception"),(.type "BaseException"),v1],(b-1),a,true,[],[],false,none,false⟩),#[some (R c),none,some (.str a d),some (.str a (d+8)),some v7,some (.bool true)]⟩
noncomputable abbrev x16(a:Nat)(b:Nat)(c:Nat):F:=λP=>⟨v0,none,(.dict #[e P "__module__" a v2,e P "__firstlineno__" (a+4) (.int b (a+3)),e P "__static_attributes__" (a+5) (R c),e P "__doc__" (a+6) .none] 2),#[]⟩
noncomputable abbrev x17(a:Nat)(b:Nat)(c:Nat)(d:Nat)(f:String)(g:Nat)(h:Nat)(i:String)(j:Nat)(k:Nat)(m:String)(o:Nat)(p:Nat):F:=λP=>⟨v0,none,(.dict #[e P "__module__" a v6,e P "__firstlineno__" (a+4) (.int b (a+3)),e P "__init__" c (R d),e P f g (R h),e P i j (R k),e P m o (R (k+1)),e P "__doc__" (o+1) .none] p),#[]⟩
noncomputable abbrev x18(a:Nat)(b:Nat):F:=λ_=>⟨(.type "getset_descriptor"),none,(.fields #[(.str "__weakref__" a),(R b),(.builtin "ExceptionGroup.__weakref__"),.none]),#[]⟩
noncomputable abbrev x19(a:Nat)(b:String)(c:Nat)(d:Nat)(f:Nat)(g:Nat):F:=λP=>⟨v0,none,(.dict #[e P "__module__" a v6,e P "__qualname__" (a+2) (.str b (a+1)),e P "__firstlineno__" (a+4) (.int c (a+3)),e P "__init__" d (R f),e P "row" (d+7) (R (f+7)),e P "own_bounds" (d+16) (R (f+14)),e P "__static_attributes__" g (R (f+15))] 7),#[]⟩
noncomputable abbrev x20(a:Nat)(b:Nat)(c:Nat):F:=vf #[(I a),(I 4),(R b),(I c),(I 4),(R (b+7)),(I (c+3)),(I 4),(R (b+14))]
noncomputable abbrev x21(a:String)(b:Nat)(c:Nat):F:=λ_=>⟨v3,none,(.cls ⟨a,[(R 161)],[(R b),(R 161),v1],(b-1),a,true,[],[],false,none,false⟩),#[some (R (b-30)),none,some (.str a c),some (.str a (c+8)),some v4,some (.bool true)]⟩
noncomputable abbrev x22(a:String)(b:Nat)(c:String)(d:String)(f:String)(g:String):F:=tu #[(.str a b),(.str c (b+1)),(.str d (b+2)),(.str f (b+3)),(.str g (b+4))]
noncomputable abbrev x23(a:Nat)(b:Nat):F:=λ_=>⟨(.type "getset_descriptor"),none,(.fields #[(.str "__dict__" a),(R b),(.builtin "function.__dict__"),(.builtin "function.__dict__#set")]),#[]⟩
noncomputable abbrev x24(a:Nat)(b:Nat)(c:String)(d:Nat)(f:Nat)(g:String)(h:Nat)(i:Nat):F:=λP=>⟨v0,none,(.dict #[e P "__module__" a v2,e P "__firstlineno__" (a+4) (.int b (a+3)),e P c d (R f),e P g (d+2) (R h),e P "__doc__" (d+3) .none] i),#[]⟩
noncomputable abbrev x25(a:Nat)(b:String)(c:Nat)(d:String)(f:Nat)(g:Nat)(h:Nat)(i:Nat):F:=λP=>⟨v0,none,(.dict #[e P "__module__" a (.str b c),e P "__qualname__" (a+2) (.str d (a+1)),e P "__firstlineno__" (a+4) (.int f (a+3)),e P "__init__" g (R h),e P "__static_attributes__" i (R (h+1))] 5),#[]⟩
noncomputable abbrev x26(a:String)(b:Nat)(c:Nat):F:=λ_=>⟨v3,none,(.cls ⟨a,[v1],[(R b),v1],(b-1),a,true,[],[],false,none,false⟩),#[none,none,some (.str a c),some (.str a (c+8)),some v4,some (.bool true)]⟩
noncomputable def o0:F:=tu #[]
noncomputable def o1:F:=vf #[]
noncomputable def o2:F:=x5 "<module>" 182 1 11
noncomputable def o3:F:=x6 13 3 "__main__" 164
noncomputable def o11:F:=λ_=>⟨(.type "builtin_function_or_method"),none,(.fields #[(.builtin "type.__prepare__"),v3]),#[]⟩
noncomputable def o20:F:=tu #[(R 31)]
noncomputable def wz:F:=tu #[(R 161)]
noncomputable def env:Env:={scope:=pw.main.scope,locals:=mainNs,globals:=mainNs,cells:=[],code:=(R 13),frame:=some 14}
noncomputable def bE:List Stmt:=behindTheImports pw
noncomputable def b(i:Nat):Stmt:=bE.getD i (.Pass ⟨0,0,0,0⟩)
noncomputable def cE:Code:=.body bE env
noncomputable def qF:List Frame:=[topFrame ⟨0,0,0,0⟩]
noncomputable def an:Option Value:=(some (R 6))
noncomputable def hA(P:Params):Heap:=⟨⟨[boot_o_0 P,boot_o_1 P,boot_o_2 P,boot_o_3 P,boot_o_4 P,boot_o_5 P,boot_o_6 P,boot_o_7 P,boot_o_8 P,boot_o_9 P,boot_o_10 P,o0 P,o1 P,o2 P,o3 P]⟩,{}⟩
noncomputable def sA(w:World)(os:OsState):Shared:=⟨hA w.params,⟨[]⟩,{},187,os⟩
noncomputable def t0:Params->W.BT:=(n boot_o_0 (n boot_o_1 (n boot_o_3 (l boot_o_7) (l o0)) (n boot_o_5 (l boot_o_9) (l o2))) (n boot_o_2 (n boot_o_4 (l boot_o_8) (l o1)) (n boot_o_6 (l boot_o_10) (l o3))))
noncomputable def s0(w:World)(os:OsState):SharedT:=⟨t0 w.params,15,{},⟨[]⟩,{},187,os⟩
noncomputable def t1:Params->W.BT:=(n boot_o_0 (n boot_o_1 (n (λP=>⟨v0,none,(.dict #[e P "__name__" 165 (.str "law_driftmeet_k63_what_is_left" 877),e P "__doc__" 166 .none,e P "__package__" 167 .none,e P "__loader__" 168 (.builtin "__main__.__loader__#opaque"),e P "__spec__" 169 .none,e P "__annotations__" 170 (R 6),e P "__builtins__" 171 (R 4),e P "__file__" 173 (.str "/claim/cut.py" 172),e P "__cached__" 174 .none,e P "_wall" 193 (R 21),e P "DriftError" 213 (R 31),e P "NoStretch" 229 (R 44),e P "NoHand" 245 (R 56),e P "NoClock" 261 (R 68),e P "NoWay" 277 (R 80),e P "NoHappening" 293 (R 92),e P "Backward" 318 (R 111),e P "NoLetter" 334 (R 123),e P "NoName" 350 (R 135),e P "is_whole" 359 (R 144),e P "Happening" 392 (R 161),e P "Look" 433 (R 196),e P "Sight" 478 (R 229),e P "Send" 521 (R 262),e P "Take" 564 (R 295),e P "are_wholes" 570 (R 302),e P "is_letter" 577 (R 309),e P "happening" 585 (R 316),e P "count_on" 596 (R 323),e P "names" 606 (R 330),e P "Ahead" 645 (R 354),e P "refuse_by_clock" 655 (R 365),e P "refuse_by_kind" 664 (R 372),e P "check" 675 (R 379),e P "place" 685 (R 386),e P "count_letter" 694 (R 393),e P "past" 708 (R 400),e P "cut" 714 (R 405),e P "view" 723 (R 412),e P "MOST_HANDS" 727 (.int 6 726),e P "refuse_clock" 735 (R 419),e P "refuse_lengths" 743 (R 426),e P "World" 849 (R 499),e P "without_letter" 860 (R 510),e P "struck" 866 (R 515),e P "left" 876 (R 522),e P "_law_cell_at" 886 (R 529),e P "_law_stream" 897 (R 536),e P "_law_way" 906 (R 543),e P "_law_world" 922 (R 550),e P "_law_made" 928 (R 555),e P "_law_lag" 942 (R 562),e P "_law_row" 948 (R 567),e P "_law_sent" 958 (R 574),e P "_law_tale" 964 (R 579),e P "_law_names" 974 (R 586),e P "_law_struck" 984 (R 593),e P "_law_left" 990 (R 598),e P "_law_word" 1002 (R 605),e P "_law_x" 1008 (R 610),e P "law" 1014 (R 615)] 61),#[]⟩) (n boot_o_7 (n o0 (n (λ_=>⟨v3,none,(.cls ⟨"DriftError",[v5],[(R 31),v5,(.type "Exception"),(.type "BaseException"),v1],30,"DriftError",true,[],[(R 44),(R 56),(R 68),(R 80),(R 92),(R 111),(R 123),(R 135)],false,none,false⟩),#[some (R 22),none,some (.str "DriftError" 196),some (.str "DriftError" 204),some v7,some (.bool true)]⟩) (n o1 (n o11 (n (x7 "self" 511 "world" "name") (l o0) z) (l o0)) (n (x3 "own_bounds" "Look.own_bounds" 15 2) (n (x7 "counts" 591 "hand" "ahead") (l o0) z) (l (x4 "enter_way" "World.enter_way" 38 1 "driftmeet.worlds" 724 446)))) (n o20 (n (x11 "hand" 383 "reading") (n o1 (l (x2 "_law_way" 46 "law_driftmeet_k63_what_is_left" 877 542)) z) (l (x11 "short" 731 "long"))) (n o0 (n (x4 "enter" "Ahead.enter" 25 1 "driftmeet.logs" 586 350) (l o1) z) (l o0)))) (n o20 (n (x16 269 13 78) (n (x0 "is_whole" 353 "is_whole" 27 1 138 357) (n (x6 270 267 "driftmeet.happenings" 360) (l (x1 "_law_cell_at" 44)) z) (l (x0 "past" 695 "past" 150 3 394 706))) (n o1 (n (vf #[(I 109),(I 4),(R 343),(I 114),(I 4),(R 350)]) (l (x1 "_law_struck" 54)) z) (l o1))) (n (x15 "Backward" 111 95 294) (n (x7 "self" 408 "hand" "reading") (n o0 (l o0) z) (l (vf #[(I 177),(I 4),(R 439),(I 187),(I 4),(R 446),(I 194),(I 4),(R 453),(I 198),(I 4),(R 460),(I 204),(I 4),(R 467),(I 207),(I 4),(R 474),(I 210),(I 4),(R 481),(I 213),(I 4),(R 488),(I 216),(I 4),(R 495)]))) (n o0 (l o1) (l (x0 "way" 831 "World.way" 216 3 490 837)))))) (n o11 (n o1 (n o20 (n (x15 "NoName" 135 126 335) (n (x8 262) (l o0) z) (l (x1 "count_letter" 30))) (n wz (n o0 (l o0) z) (l o0))) (n o1 (n o11 (n (x21 "Take" 295 522) (l o0) z) (l o0)) (n (x9 229) (n o0 (l (x2 "law" 58 "law_driftmeet_k63_what_is_left" 877 614)) z) (l (x3 "clock" "World.clock" 38 7))))) (n (x16 237 9 54) (n o1 (n (x6 150 147 "driftmeet.happenings" 360) (n o0 (l (x0 "_law_stream" 887 "_law_stream" 236 2 530 895)) z) (l o1)) (n (x10 "self" 460) (n (x0 "__init__" 619 "Ahead.__init__" 109 1 338 623) (l o0) z) (l (x11 "self" 809 "hand")))) (n (x5 "NoLetter" 321 22 117) (n o0 (n o1 (l (x2 "_law_row" 50 "law_driftmeet_k63_what_is_left" 877 566)) z) (l (x0 "__init__" 756 "World.__init__" 177 3 434 768))) (n o1 (l (x22 "world" 668 "log" "ahead" "row" "one")) (l (x9 499))))))) (n o0 (n (x1 "_wall" 0) (n o20 (n (x16 253 11 66) (n (x5 "NoName" 337 24 129) (n (x4 "own_bounds" "Send.own_bounds" 17 2 "driftmeet.happenings" 360 258) (l (x2 "struck" 41 "driftmeet.liars" 850 514)) z) (l o0)) (n (x17 400 35 413 179 "row" 420 186 "own_bounds" 429 193 "__static_attributes__" 430 2) (n (x2 "count_on" 23 "driftmeet.logs" 586 322) (l (x2 "_law_tale" 52 "law_driftmeet_k63_what_is_left" 877 578)) z) (l o0))) (n (vf #[(I 19),(I 4),(R 107)]) (n (x18 388 161) (n (x0 "own_bounds" 551 "Take.own_bounds" 77 3 286 557) (l o0) z) (l (x2 "refuse_clock" 36 "driftmeet.worlds" 724 418))) (n (x11 "early" 473 "late") (n (x23 639 354) (l o0) z) (l o0)))) (n o1 (n o20 (n (x25 369 "driftmeet.happenings" 360 "Happening" 30 382 158 385) (n o0 (l o1) z) (l (x1 "cut" 32))) (n (x0 "__init__" 446 "Sight.__init__" 47 5 206 454) (n o1 (l o1) z) (l (x0 "hands" 799 "World.hands" 204 1 462 803)))) (n o11 (n (x4 "__init__" "Look.__init__" 15 0 "driftmeet.happenings" 360 178) (n (x1 "is_letter" 20) (l o0) z) (l o1)) (n (x3 "__init__" "Send.__init__" 17 0) (l (x0 "refuse_by_kind" 656 "refuse_by_kind" 127 3 366 662)) (l (x26 "World" 499 744)))))) (n (x5 "DriftError" 198 5 25) (n (x16 221 7 42) (n o1 (n o1 (n (x19 529 "Take" 68 543 278 561) (l o0) z) (l o1)) (n (x20 47 211 52) (n o0 (l o0) z) (l (x3 "refuse_pair" "World.refuse_pair" 38 3)))) (n (x0 "__init__" 306 "Backward.__init__" 19 2 102 311) (n (x5 "Look" 395 35 169) (n o1 (l (x2 "_law_made" 48 "law_driftmeet_k63_what_is_left" 877 554)) z) (l o0)) (n o0 (l (x1 "refuse_by_clock" 26)) (l o1)))) (n o20 (n (x16 285 15 90) (n o0 (n (x3 "row" "Take.row" 18 1) (l (x7 "_law_xs" 901 "_law_size" "_law_least")) z) (l (x0 "view" 715 "view" 161 3 406 721))) (n (x4 "row" "Sight.row" 16 1 "driftmeet.happenings" 360 218) (n (x7 "self" 629 "one" "name") (l (x1 "_law_word" 56)) z) (l (x4 "has_hand" "World.has_hand" 38 5 "driftmeet.worlds" 724 474)))) (n (x15 "NoLetter" 123 114 319) (n o0 (n (x0 "happening" 578 "happening" 83 1 310 583) (l o0) z) (l (x22 "self" 774 "one" "other" "least" "most"))) (n (x0 "row" 501 "Send.row" 63 1 246 505) (l (x2 "check" 28 "driftmeet.logs" 586 378)) (l o0))))))) (n boot_o_5 (n boot_o_9 (n (x10 "k" 190) (n (x8 31) (n (x6 64 61 "driftmeet.errors" 194) (n o0 (n (x3 "own_bounds" "Send.own_bounds" 17 2) (l (x1 "struck" 41)) z) (l (x0 "place" 676 "place" 141 2 380 683))) (n (x4 "own_bounds" "Look.own_bounds" 15 2 "driftmeet.happenings" 360 192) (n (x1 "count_on" 23) (l (x1 "_law_tale" 52)) z) (l o1))) (n (x25 301 "driftmeet.errors" 194 "Backward" 17 313 108 315) (n (λ_=>⟨v3,none,(.cls ⟨"Happening",[v1],[(R 161),v1],160,"Happening",true,[],[(R 196),(R 229),(R 262),(R 295)],false,none,false⟩),#[none,none,some (.str "Happening" 362),some (.str "Happening" 370),some v4,some (.bool true)]⟩) (n o0 (l o1) z) (l (x1 "refuse_clock" 36))) (n (x0 "own_bounds" 464 "Sight.own_bounds" 55 3 220 470) (n (λP=>⟨v0,none,(.dict #[e P "__module__" 614 (.str "driftmeet.logs" 586),e P "__firstlineno__" 618 (.int 107 617),e P "__init__" 625 (R 344),e P "enter" 634 (R 351),e P "__static_attributes__" 638 (R 352),e P "__dict__" 640 (R 355),e P "__weakref__" 642 (R 356),e P "__doc__" 643 .none] 4),#[]⟩) (l (x13 "_law_x" 1003 354 2 606)) z) (l (x0 "has_way" 814 "World.has_way" 210 3 476 820))))) (n (x14 237 "NoHand" 9 54) (n (x8 80) (n o0 (n o1 (l (x2 "_law_cell_at" 44 "law_driftmeet_k63_what_is_left" 877 528)) z) (l o0)) (n o0 (n (x6 336 333 "driftmeet.logs" 586) (l (x2 "_law_struck" 54 "law_driftmeet_k63_what_is_left" 877 592)) z) (l o0))) (n (x9 111) (n (x3 "__init__" "Look.__init__" 15 0) (n (x10 "thing" 574) (l (x0 "_law_lag" 929 "_law_lag" 264 5 556 940)) z) (l (x6 432 429 "driftmeet.worlds" 724))) (n (x12 "self" 494 "hand" "reading" "to") (l o0) (l (x11 "kept_clocks" 840 "kept_ways")))))) (n o0 (n (x6 40 37 "driftmeet.errors" 194) (n (x14 269 "NoWay" 13 78) (n (x9 135) (n wz (l (x0 "left" 867 "left" 229 4 516 874)) z) (l (x2 "count_letter" 30 "driftmeet.logs" 586 392))) (n (x19 441 "Sight" 45 456 212 475) (n (x0 "names" 597 "names" 101 1 324 604) (l (x0 "_law_names" 965 "_law_names" 321 1 580 972)) z) (l (x7 "self" 793 "one" "other")))) (n o0 (n o0 (n (x9 295) (l (x1 "_law_made" 48)) z) (l (x0 "refuse_lengths" 736 "refuse_lengths" 170 2 420 741))) (n o11 (l (x12 "world" 649 "ahead" "one" "last")) (l (x4 "clock" "World.clock" 38 7 "driftmeet.worlds" 724 488))))) (n (x8 56) (n (x6 88 85 "driftmeet.errors" 194) (n o1 (n (x10 "self" 547) (l o0) z) (l o0)) (n (x3 "row" "Sight.row" 16 1) (n o0 (l (tu #[(.str "_law_made_here" 994),(.str "_law_log" 995),(.str "_law_x_here" 996),(.str "_law_liars" 997),(.str "_law_word_here" 998),(.str "e" 999)])) z) (l (x3 "has_hand" "World.has_hand" 38 5)))) (n o0 (n (x0 "row" 414 "Look.row" 40 1 180 418) (n o0 (l o1) z) (l o0)) (n o0 (l (x1 "check" 28)) (l o1)))))) (n o2 (n (x2 "_wall" 0 "__main__" 164 20) (n (x14 221 "NoStretch" 7 42) (n (x8 68) (n o0 (n (x17 486 57 500 245 "row" 507 252 "own_bounds" 516 259 "__static_attributes__" 518 2) (l o1) z) (l (x7 "counts" 689 "one" "sender"))) (n (x8 196) (n o1 (l o1) z) (l (x0 "refuse_hand" 782 "World.refuse_hand" 194 2 448 787)))) (n (x6 100 97 "driftmeet.errors" 194) (n (x9 161) (n (x10 "letter" 560) (l (x0 "_law_world" 907 "_law_world" 248 1 544 920)) z) (l o1)) (n (x21 "Sight" 229 434) (n (x8 354) (l (x1 "law" 58)) z) (l (x11 "self" 826 "hand"))))) (n (x6 52 49 "driftmeet.errors" 194) (n (x14 285 "NoHappening" 15 90) (n (vf #[(I 32),(I 4),(R 157)]) (n (x0 "__init__" 534 "Take.__init__" 70 4 272 541) (l o0) z) (l (x2 "cut" 32 "driftmeet.logs" 586 404))) (n o0 (n o0 (l (x13 "_law_left" 985 336 3 594)) z) (l o0))) (n o0 (n o1 (n (x2 "is_letter" 20 "driftmeet.happenings" 360 308) (l (x1 "_law_row" 50)) z) (l o0)) (n (x4 "__init__" "Send.__init__" 17 0 "driftmeet.happenings" 360 244) (l o0) (l (x18 845 499)))))) (n o0 (n (x8 44) (n (x6 76 73 "driftmeet.errors" 194) (n o0 (n (x20 70 277 74) (l (x11 "_law_script" 882 "_law_k")) z) (l o0)) (n (x6 204 201 "driftmeet.happenings" 360) (n (λP=>⟨v0,none,(.dict #[e P "__module__" 614 (.str "driftmeet.logs" 586),e P "__qualname__" 616 (.str "Ahead" 615),e P "__firstlineno__" 618 (.int 107 617),e P "__init__" 625 (R 344),e P "enter" 634 (R 351),e P "__static_attributes__" 638 (R 352)] 6),#[]⟩) (l (x12 "_law_log" 978 "_law_liars" "_law_found" "_law_row_here")) z) (l (x4 "refuse_pair" "World.refuse_pair" 38 3 "driftmeet.worlds" 724 460)))) (n (x10 "last" 314) (n o0 (n (x13 "are_wholes" 565 79 2 298) (l o1) z) (l (λP=>⟨v0,none,(.dict #[e P "__module__" 751 (.str "driftmeet.worlds" 724),e P "__qualname__" 753 (.str "World" 752),e P "__firstlineno__" 755 (.int 175 754),e P "__init__" 770 (R 440),e P "enter_way" 781 (R 447),e P "refuse_hand" 789 (R 454),e P "refuse_pair" 798 (R 461),e P "hands" 805 (R 468),e P "has_hand" 813 (R 475),e P "has_way" 822 (R 482),e P "clock" 830 (R 489),e P "way" 839 (R 496),e P "__static_attributes__" 842 (R 497)] 13),#[]⟩))) (n (x5 "Send" 481 57 235) (l (x2 "refuse_by_clock" 26 "driftmeet.logs" 586 364)) (l o0)))) (n (x14 253 "NoClock" 11 66) (n (x8 92) (n (x0 "__init__" 374 "Happening.__init__" 32 3 152 380) (n (x4 "row" "Take.row" 18 1 "driftmeet.happenings" 360 284) (l (x1 "_law_way" 46)) z) (l o0)) (n o1 (n (x3 "enter" "Ahead.enter" 25 1) (l (x2 "_law_word" 56 "law_driftmeet_k63_what_is_left" 877 604)) z) (l o1))) (n (x9 123) (n (x7 "self" 424 "world" "name") (n o0 (l (x0 "_law_sent" 949 "_law_sent" 284 4 568 956)) z) (l (x3 "enter_way" "World.enter_way" 38 1))) (n o0 (l o1) (l (x0 "without_letter" 852 "without_letter" 222 2 504 858))))))))) (n boot_o_2 (n boot_o_4 (n boot_o_8 (n o1 (n (x18 209 31) (n (x5 "NoClock" 248 11 62) (n (x14 342 "NoName" 24 133) (n o0 (l o1) z) (l (x1 "place" 29))) (n (x0 "own_bounds" 421 "Look.own_bounds" 43 3 187 427) (n o0 (l o1) z) (l o0))) (n o11 (n (x17 369 30 382 158 "__static_attributes__" 385 159 "__dict__" 387 162 "__weakref__" 389 4) (n (x7 "self" 554 "world" "name") (l o0) z) (l o0)) (n (x3 "own_bounds" "Sight.own_bounds" 16 2) (n (x7 "counts" 635 "readings" "untaken") (l (x1 "_law_x" 57)) z) (l (x3 "has_way" "World.has_way" 38 6))))) (n o11 (n (x15 "NoWay" 80 71 262) (n (x2 "is_whole" 12 "driftmeet.wholes" 351 143) (n o0 (l (x0 "_law_cell_at" 879 "_law_cell_at" 232 2 523 884)) z) (l (x2 "past" 31 "driftmeet.logs" 586 399))) (n (x22 "self" 449 "hand" "reading" "early" "late") (n (x5 "Ahead" 609 107 334) (l (x0 "_law_struck" 975 "_law_struck" 328 2 587 982)) z) (l (x10 "self" 802)))) (n (x8 111) (n o0 (n o1 (l (x1 "_law_lag" 49)) z) (l (x5 "World" 746 175 430))) (n o1 (l (x7 "world" 659 "ahead" "one")) (l (x4 "way" "World.way" 38 8 "driftmeet.worlds" 724 495)))))) (n (x14 203 "DriftError" 5 29) (n (x5 "NoStretch" 216 7 38) (n o11 (n (x8 135) (n (x9 262) (l (x1 "left" 42)) z) (l (x0 "count_letter" 686 "count_letter" 146 2 387 692))) (n o11 (n (x1 "names" 24) (l (x1 "_law_names" 53)) z) (l o1))) (n (x11 "self" 309 "last") (n (x19 400 "Look" 35 413 179 430) (n (x8 295) (l o1) z) (l (x1 "refuse_lengths" 37))) (n wz (l o1) (l (x0 "clock" 823 "World.clock" 213 2 483 828))))) (n (x15 "NoHand" 56 47 230) (n (x5 "NoHappening" 280 15 86) (n o0 (n o1 (l (x2 "_law_stream" 45 "law_driftmeet_k63_what_is_left" 877 535)) z) (l (x7 "world" 718 "log" "name"))) (n o0 (n (x4 "__init__" "Ahead.__init__" 25 0 "driftmeet.logs" 586 343) (l o1) z) (l o0))) (n (x6 119 116 "driftmeet.errors" 194) (n (x3 "row" "Look.row" 15 1) (n (x11 "row" 581 "word") (l o0) z) (l (x4 "__init__" "World.__init__" 38 0 "driftmeet.worlds" 724 439))) (n (x10 "self" 504) (l o0) (l o0)))))) (n (vf #[(I 1),(I 0),(R 20),(I 5),(I 0),(R 27),(I 7),(I 0),(R 40),(I 9),(I 0),(R 52),(I 11),(I 0),(R 64),(I 13),(I 0),(R 76),(I 15),(I 0),(R 88),(I 17),(I 0),(R 100),(I 22),(I 0),(R 119),(I 24),(I 0),(R 131),(I 27),(I 0),(R 143),(I 30),(I 0),(R 150),(I 35),(I 0),(R 171),(I 45),(I 0),(R 204),(I 57),(I 0),(R 237),(I 68),(I 0),(R 270),(I 79),(I 0),(R 301),(I 81),(I 0),(R 308),(I 83),(I 0),(R 315),(I 97),(I 0),(R 322),(I 101),(I 0),(R 329),(I 107),(I 0),(R 336),(I 121),(I 0),(R 364),(I 127),(I 0),(R 371),(I 134),(I 0),(R 378),(I 141),(I 0),(R 385),(I 146),(I 0),(R 392),(I 150),(I 0),(R 399),(I 159),(I 0),(R 404),(I 161),(I 0),(R 411),(I 165),(I 0),(R 418),(I 170),(I 0),(R 425),(I 175),(I 0),(R 432),(I 222),(I 0),(R 509),(I 227),(I 0),(R 514),(I 229),(I 0),(R 521),(I 232),(I 0),(R 528),(I 236),(I 0),(R 535),(I 243),(I 0),(R 542),(I 248),(I 0),(R 549),(I 262),(I 0),(R 554),(I 264),(I 0),(R 561),(I 275),(I 0),(R 566),(I 284),(I 0),(R 573),(I 288),(I 0),(R 578),(I 321),(I 0),(R 585),(I 328),(I 0),(R 592),(I 336),(I 0),(R 597),(I 347),(I 0),(R 604),(I 354),(I 0),(R 609),(I 361),(I 0),(R 614)]) (n (x0 "_wall" 187 "_wall" 1 1 15 191) (n o11 (n (x15 "NoClock" 68 59 246) (n (x6 131 128 "driftmeet.errors" 194) (n (x10 "to" 517) (l o0) z) (l o1)) (n (x21 "Look" 196 393) (n o0 (l o0) z) (l (x3 "refuse_hand" "World.refuse_hand" 38 2)))) (n (x5 "Backward" 296 17 98) (n (x8 161) (n (x4 "own_bounds" "Take.own_bounds" 18 2 "driftmeet.happenings" 360 291) (l (x1 "_law_world" 47)) z) (l o0)) (n (x17 441 45 456 212 "row" 463 219 "own_bounds" 472 226 "__static_attributes__" 475 2) (n (x18 641 354) (l o1) z) (l o1)))) (n (x5 "NoHand" 232 9 50) (n o11 (n o0 (n (x3 "__init__" "Take.__init__" 18 0) (l (x22 "_law_cell" 890 "_law_many" "_law_found" "_law_number" "_law_k")) z) (l (x13 "cut" 709 159 2 401))) (n (x4 "__init__" "Sight.__init__" 16 0 "driftmeet.happenings" 360 211) (n (x10 "self" 622) (l (x1 "_law_left" 55)) z) (l (x4 "hands" "World.hands" 38 4 "driftmeet.worlds" 724 467)))) (n (x14 326 "NoLetter" 22 121) (n o0 (n (x0 "is_letter" 571 "is_letter" 81 1 303 575) (l o1) z) (l (tu #[(.str "self" 759),(.str "clocks" 760),(.str "ways" 761),(.str "short" 762),(.str "long" 763),(.str "one" 764),(.str "other" 765),(.str "least" 766),(.str "most" 767)]))) (n (x0 "__init__" 491 "Send.__init__" 59 4 239 498) (l (x2 "refuse_by_kind" 27 "driftmeet.logs" 586 371)) (l (x23 843 499)))))) (n (x6 27 24 "driftmeet.errors" 194) (n (x15 "NoStretch" 44 35 214) (n (x5 "NoWay" 264 13 74) (n (x10 "thing" 356) (n o0 (l o1) z) (l (tu #[(.str "world" 698),(.str "log" 699),(.str "name" 700),(.str "where" 701),(.str "counts" 702),(.str "heads" 703),(.str "other" 704),(.str "row" 705)]))) (n (x5 "Sight" 436 45 202) (n o11 (l o1) z) (l (x0 "refuse_pair" 790 "World.refuse_pair" 198 3 455 796)))) (n (x4 "__init__" "Backward.__init__" 8 0 "driftmeet.errors" 194 107) (n (x6 171 168 "driftmeet.happenings" 360) (n (x1 "are_wholes" 19) (l o0) z) (l o11)) (n (x20 59 244 63) (l (x0 "refuse_by_clock" 646 "refuse_by_clock" 121 3 359 653)) (l (x7 "self" 834 "one" "other"))))) (n o11 (n (x15 "NoHappening" 92 83 278) (n (x3 "__init__" "Happening.__init__" 14 0) (n (x0 "row" 544 "Take.row" 74 1 279 548) (l o0) z) (l (x2 "view" 33 "driftmeet.logs" 586 411))) (n o0 (n o0 (l (x0 "_law_word" 991 "_law_word" 347 4 599 1000)) z) (l o0))) (n (x8 123) (n o1 (n (x2 "happening" 21 "driftmeet.happenings" 360 315) (l (x1 "_law_sent" 51)) z) (l o0)) (n (x4 "row" "Send.row" 17 1 "driftmeet.happenings" 360 251) (l o0) (l (x1 "without_letter" 40)))))))) (n boot_o_6 (n boot_o_10 (n o0 (n (x9 31) (n o0 (n o1 (n (x0 "own_bounds" 508 "Send.own_bounds" 66 3 253 514) (l (x13 "struck" 861 227 2 511)) z) (l (x2 "place" 29 "driftmeet.logs" 586 385))) (n o0 (n (x0 "count_on" 588 "count_on" 97 2 317 594) (l (x13 "_law_tale" 959 288 3 575)) z) (l (x11 "self" 785 "hand")))) (n o0 (n (x23 386 161) (n (x3 "own_bounds" "Take.own_bounds" 18 2) (l (tu #[(.str "_law_cell" 910),(.str "_law_xs" 911),(.str "_law_hands" 912),(.str "_law_size" 913),(.str "_law_clocks" 914),(.str "_law_ways" 915),(.str "_law_one" 916),(.str "_law_short" 917),(.str "_law_other" 918),(.str "_law_ys" 919)])) z) (l (x0 "refuse_clock" 728 "refuse_clock" 165 2 413 733))) (n (x4 "own_bounds" "Sight.own_bounds" 16 2 "driftmeet.happenings" 360 225) (n (x26 "Ahead" 354 607) (l (x2 "_law_x" 57 "law_driftmeet_k63_what_is_left" 877 609)) z) (l (x4 "has_way" "World.has_way" 38 6 "driftmeet.worlds" 724 481))))) (n o0 (n (x9 80) (n o11 (n (x12 "self" 537 "hand" "reading" "letter") (l o0) z) (l o1)) (n (x3 "__init__" "Sight.__init__" 16 0) (n o0 (l o0) z) (l (x3 "hands" "World.hands" 38 4)))) (n o20 (n (x0 "__init__" 405 "Look.__init__" 37 3 173 411) (n o0 (l (x2 "_law_lag" 49 "law_driftmeet_k63_what_is_left" 877 561)) z) (l o0)) (n o0 (l (x1 "refuse_by_kind" 27)) (l (λP=>⟨v0,none,(.dict #[e P "__module__" 751 (.str "driftmeet.worlds" 724),e P "__firstlineno__" 755 (.int 175 754),e P "__init__" 770 (R 440),e P "enter_way" 781 (R 447),e P "refuse_hand" 789 (R 454),e P "refuse_pair" 798 (R 461),e P "hands" 805 (R 468),e P "has_hand" 813 (R 475),e P "has_way" 822 (R 482),e P "clock" 830 (R 489),e P "way" 839 (R 496),e P "__static_attributes__" 842 (R 497),e P "__dict__" 844 (R 500),e P "__weakref__" 846 (R 501),e P "__doc__" 847 .none] 4),#[]⟩)))))) (n o1 (n o0 (n o0 (n o0 (n o11 (l (x2 "left" 42 "driftmeet.liars" 850 521)) z) (l o0)) (n o0 (n (x2 "names" 24 "driftmeet.logs" 586 329) (l (x2 "_law_names" 53 "law_driftmeet_k63_what_is_left" 877 585)) z) (l o0))) (n (x3 "__init__" "Backward.__init__" 8 0) (n (x20 37 178 40) (n o0 (l (x13 "_law_made" 923 262 1 551)) z) (l (x2 "refuse_lengths" 37 "driftmeet.worlds" 724 425))) (n (x19 486 "Send" 57 500 245 518) (l o0) (l o0)))) (n (x9 56) (n o0 (n (x7 "self" 377 "hand" "reading") (n o0 (l o1) z) (l (x1 "view" 33))) (n (x0 "row" 457 "Sight.row" 52 1 213 461) (n o1 (l o0) z) (l (x0 "has_hand" 806 "World.has_hand" 207 2 469 811)))) (n (x16 326 22 121) (n (x4 "row" "Look.row" 15 1 "driftmeet.happenings" 360 185) (n (x1 "happening" 21) (l (x12 "_law_here" 952 "_law_row_here" "_law_moment" "_law_way_here")) z) (l o1)) (n (x3 "row" "Send.row" 17 1) (l (x0 "check" 665 "check" 134 2 373 673)) (l (x7 "row" 855 "liars" "one"))))))) (n o3 (n (tu #[v5]) (n o0 (n (x9 68) (n (x16 342 24 133) (n (x21 "Send" 262 479) (l (x12 "world" 870 "log" "x" "liars")) z) (l o0)) (n (x9 196) (n (x12 "log" 600 "counts" "told" "row") (l (x12 "_law_log" 968 "_law_many" "_law_found" "_law_row_here")) z) (l (x4 "refuse_hand" "World.refuse_hand" 38 2 "driftmeet.worlds" 724 453)))) (n o0 (n wz (n (x17 529 68 543 278 "row" 550 285 "own_bounds" 559 292 "__static_attributes__" 561 2) (l (x2 "_law_world" 47 "law_driftmeet_k63_what_is_left" 877 549)) z) (l (x11 "least" 739 "most"))) (n (x8 229) (n (x9 354) (l (x13 "law" 1009 361 1 611)) z) (l o0)))) (n o0 (n o0 (n (x5 "Happening" 364 30 148) (n (x4 "__init__" "Take.__init__" 18 0 "driftmeet.happenings" 360 277) (l (x1 "_law_stream" 45)) z) (l o0)) (n o1 (n (x3 "__init__" "Ahead.__init__" 25 0) (l (x2 "_law_left" 55 "law_driftmeet_k63_what_is_left" 877 597)) z) (l o1))) (n o1 (n (x10 "self" 417) (n o0 (l (x13 "_law_row" 943 275 5 563)) z) (l (x3 "__init__" "World.__init__" 38 0))) (n o0 (l o1) (l (x8 499)))))) (n (x24 203 5 "__static_attributes__" 208 29 "__weakref__" 32 3) (n (x9 44) (n o0 (n (x1 "is_whole" 12) (n (x5 "Take" 524 68 268) (l o0) z) (l (x1 "past" 31))) (n o0 (n o0 (l o0) z) (l o0))) (n (x24 301 17 "__init__" 313 108 "__static_attributes__" 109 2) (n o1 (n (x2 "are_wholes" 19 "driftmeet.happenings" 360 301) (l (tu #[(.str "_law_clock" 932),(.str "_law_here" 933),(.str "_law_xs" 934),(.str "_law_low" 935),(.str "_law_high" 936),(.str "_law_ticks" 937),(.str "_law_first" 938),(.str "_law_last" 939)])) z) (l o0)) (n (x6 237 234 "driftmeet.happenings" 360) (l o0) (l (x3 "way" "World.way" 38 8))))) (n o0 (n (x9 92) (n (x4 "__init__" "Happening.__init__" 14 0 "driftmeet.happenings" 360 157) (n o0 (l (x0 "_law_way" 898 "_law_way" 243 2 537 904)) z) (l o1)) (n (x7 "self" 467 "world" "name") (n (x0 "enter" 626 "Ahead.enter" 114 2 345 632) (l o0) z) (l (x7 "self" 817 "one" "other")))) (n o20 (n o0 (n o1 (l (x2 "_law_sent" 51 "law_driftmeet_k63_what_is_left" 877 573)) z) (l (x0 "enter_way" 771 "World.enter_way" 187 5 441 779))) (n o1 (l (x12 "log" 679 "name" "where" "other")) (l (x2 "without_letter" 40 "driftmeet.liars" 850 509))))))))))
noncomputable def s1(w:World)(os:OsState):SharedT:=⟨t1 w.params,616,{},⟨[]⟩,{},1015,os⟩
noncomputable def t2:Params->W.BT:=t1
noncomputable def s2(w:World)(os:OsState):SharedT:=⟨t2 w.params,616,{},⟨[]⟩,{},1015,os⟩
theorem pre:∀w:World,(λos=>topGo treeTable pw w 11 an 12 ⟨boot_heap w.params,⟨[]⟩,boot_drawn,boot_toks,os⟩ (topStub pw))=λos=>some (sA w os,⟨denote treeTable cE,cE,⟨0,0,0,0⟩,qF⟩):=λw=>by kernel_rfl
theorem blk:∀w:World,(λos=>segRun treeTable pw w 11 an 1 1 (sA w os) (blockOf bE env cE ⟨0,0,0,0⟩ qF))=λos=>some (.next,(s0 w os).abs,cE,⟨0,0,0,0⟩):=λw=>by kernel_rfl
noncomputable def g0:List Stmt:=[b 0,b 1,b 2,b 3,b 4,b 5,b 6,b 7,b 8,b 9,b 10,b 11,b 12,b 13,b 14,b 15,b 16,b 17,b 18,b 19,b 20,b 21,b 22,b 23,b 24,b 25,b 26,b 27,b 28,b 29,b 30,b 31,b 32,b 33,b 34,b 35,b 36,b 37,b 38,b 39,b 40,b 41,b 42,b 43,b 44,b 45,b 46,b 47,b 48,b 49,b 50,b 51,b 52,b 53,b 54,b 55,b 56,b 57,b 58]
theorem p0:∀w:World,(λos=>segRunT treeTable pw w 11 an 1 5271 (s0 w os) (piecesOf g0 env cE ⟨0,0,0,0⟩ qF))=λos=>some (.next,s1 w os,cE,⟨361,0,383,90⟩):=λw=>by kernel_rfl
theorem fin:∀w:World,(λos=>topRun treeTable pw w 11 an 2 (s1 w os).abs (restOf [] env cE ⟨361,0,383,90⟩ qF))=λos=>some (s2 w os).abs:=λw=>by kernel_rfl
theorem DV:bE=g0++([]):=by kernel_rfl
theorem FZ(w:World)(os:OsState):topRun treeTable pw w 11 an (5271+(2)) (s0 w os).abs (restOf (g0++([])) env cE ⟨0,0,0,0⟩ qF)=some (s2 w os).abs:=piece_app (segRun_of (congrFun (p0 w) os)) (congrFun (fin w) os)
theorem run(w:World)(os:OsState):topRun treeTable pw w 11 an (12+(1+(5271+(2)))) ⟨boot_heap w.params,⟨[]⟩,boot_drawn,boot_toks,os⟩ (topStub pw)=some (s2 w os).abs:=go_top (congrFun (pre w) os) (piece_block (congrFun (blk w) os) (by rw[DV];exact FZ w os))
noncomputable def view:Program:={pw with main:={pw.main with body:=[top 58]}}
noncomputable def loose:List Str:=(["_wall","DriftError","NoStretch","NoHand","NoClock","NoWay","NoHappening","Backward","NoLetter","NoName","is_whole","Happening","Look","Sight","Send","Take","are_wholes","is_letter","happening","count_on","names","Ahead","refuse_by_clock","refuse_by_kind","check","place","count_letter","past","cut","view","MOST_HANDS","refuse_clock","refuse_lengths","World","without_letter","struck","left","_law_cell_at","_law_stream","_law_way","_law_world","_law_made","_law_lag","_law_row","_law_sent","_law_tale","_law_names","_law_struck","_law_left","_law_word","_law_x"]:List String).map Str.ofString
noncomputable def as:List Addr:=[2,3,15,17,18,20,21,22,29,30,31,32,35,42,43,44,47,54,55,56,59,66,67,68,71,78,79,80,83,90,91,92,95,102,104,105,107,108,109,110,111,114,121,122,123,126,133,134,135,138,140,141,143,144,152,154,155,157,158,159,160,161,162,163,166,173,175,176,178,179,180,182,183,185,186,187,189,190,192,193,194,195,196,199,206,208,209,211,212,213,215,216,218,219,220,222,223,225,226,227,228,229,232,239,241,242,244,245,246,248,249,251,252,253,255,256,258,259,260,261,262,265,272,274,275,277,278,279,281,282,284,285,286,288,289,291,292,293,294,295,298,301,302,303,305,306,308,309,310,312,313,315,316,317,319,320,322,323,324,326,327,329,330,338,340,341,343,344,345,347,348,350,351,352,353,354,355,356,359,361,362,364,365,366,368,369,371,372,373,375,376,378,379,380,382,383,385,386,387,389,390,392,393,394,396,397,399,400,401,404,405,406,408,409,411,412,413,415,416,418,419,420,422,423,425,426,434,436,437,439,440,441,443,444,446,447,448,450,451,453,454,455,457,458,460,461,462,464,465,467,468,469,471,472,474,475,476,478,479,481,482,483,485,486,488,489,490,492,493,495,496,497,498,499,500,501,504,506,507,509,510,511,514,515,516,518,519,521,522,523,525,526,528,529,530,532,533,535,536,537,539,540,542,543,544,546,547,549,550,551,554,555,556,558,559,561,562,563,566,567,568,570,571,573,574,575,578,579,580,582,583,585,586,587,589,590,592,593,594,597,598,599,601,602,604,605,606,609,610,611,614,615]
noncomputable def K(P:Params):Frag:=as.map λa=>(a,((t2 P).get a).getD ⟨.none,none,.plain,#[]⟩)
theorem as_eq:∀P,as=(K P).map (·.1):=λP=>by kernel_rfl
noncomputable def h1(P:Params):Heap:=absHeap (t2 P) 616 {}
noncomputable def f1(w:World)(os:OsState):Shared:=⟨h1 w.params,⟨[]⟩,{},1015,os⟩
noncomputable def Xt(s:Shared):Bool:=xlAt view [] s&&recOk (RowW.records PySem.Challenge.rw_driftmeet_k63_what_is_left.row.toRowW) s
theorem lk1:∀w:World,(λos=>(staticsOk (importedModules pw.main.body) (boot_heap w.params) (h1 w.params)&&namesBound pw (h1 w.params)&&gensDone (f1 w os)&&laidKept (boot_heap w.params) (h1 w.params)))=λ_=>true:=λw=>by kernel_rfl
theorem lk2:∀w:World,(λos=>openSeen view loose (importedModules pw.main.body) Xt true (f1 w os))=λ_=>openGood view loose:=λw=>by kernel_rfl
theorem lk3:∀w:World,(λos=>(Hook.obs (kHook K as as_eq)) (f1 w os))=λ_=>(Hook.val (kHook K as as_eq)) w:=λw=>by kernel_rfl
theorem left:LeftO pw view loose Xt (Hook.obs (kHook K as as_eq)) (Hook.val (kHook K as as_eq)) 10666:=LeftO.of_pieces (boot_open (by kernel_rfl) (by decide) (λs=>by kernel_rfl)) (H₀:=boot_heap) (H₁:=h1) (gs₀:=⟨[]⟩) (m₀:=11) (ann:=an) (M:=12+(1+(5271+(2)))) (λw=>by kernel_rfl) (λw os=>run w os) (by decide) λw=>funext λos=>looks_pair (congrFun (lk1 w) os) (looks_pair (congrFun (lk2 w) os) (congrFun (lk3 w) os))
end HD
namespace G
open PySem L2
noncomputable def top(i:Nat):Stmt:=PySem.Challenge.pw_driftmeet_k63_what_is_left.main.body.getD i (.Pass ⟨0,0,0,0⟩)
noncomputable abbrev V0:IE:=.var 0
noncomputable abbrev V1:IE:=.var 1
noncomputable abbrev V2:IE:=.var 2
noncomputable abbrev V3:IE:=.var 3
noncomputable abbrev V4:IE:=.var 4
noncomputable abbrev V5:IE:=.var 5
noncomputable abbrev V6:IE:=.var 6
noncomputable abbrev V7:IE:=.var 7
noncomputable abbrev V8:IE:=.var 8
noncomputable abbrev V9:IE:=.var 9
noncomputable abbrev V10:IE:=.var 10
noncomputable abbrev V11:IE:=.var 11
noncomputable abbrev V12:IE:=.var 12
noncomputable abbrev V13:IE:=.var 13
noncomputable abbrev V14:IE:=.var 14
noncomputable abbrev V15:IE:=.var 15
noncomputable abbrev V16:IE:=.var 16
noncomputable abbrev V17:IE:=.var 17
noncomputable abbrev I0:IE:=.con (.int 0)
noncomputable abbrev I1:IE:=.con (.int 1)
noncomputable abbrev I2:IE:=.con (.int 2)
noncomputable abbrev I3:IE:=.con (.int 3)
noncomputable abbrev I4:IE:=.con (.int 4)
noncomputable abbrev I5:IE:=.con (.int 5)
noncomputable abbrev I6:IE:=.con (.int 6)
noncomputable abbrev I7:IE:=.con (.int 7)
noncomputable abbrev I8:IE:=.con (.int 8)
noncomputable abbrev I9:IE:=.con (.int 9)
noncomputable abbrev Ar1(a0:IE):IA:=.cons a0 .nil
noncomputable abbrev Ar2(a0 a1:IE):IA:=.cons a0 (.cons a1 .nil)
noncomputable abbrev Ar3(a0 a1 a2:IE):IA:=.cons a0 (.cons a1 (.cons a2 .nil))
noncomputable abbrev Ar4(a0 a1 a2 a3:IE):IA:=.cons a0 (.cons a1 (.cons a2 (.cons a3 .nil)))
noncomputable abbrev Ar5(a0 a1 a2 a3 a4:IE):IA:=.cons a0 (.cons a1 (.cons a2 (.cons a3 (.cons a4 .nil))))
noncomputable abbrev Ar6(a0 a1 a2 a3 a4 a5:IE):IA:=.cons a0 (.cons a1 (.cons a2 (.cons a3 (.cons a4 (.cons a5 .nil)))))
noncomputable abbrev S1(a0:IS):ISs:=.cons a0 .nil
noncomputable abbrev S2(a0 a1:IS):ISs:=.cons a0 (.cons a1 .nil)
noncomputable abbrev S3(a0 a1 a2:IS):ISs:=.cons a0 (.cons a1 (.cons a2 .nil))
noncomputable abbrev S4(a0 a1 a2 a3:IS):ISs:=.cons a0 (.cons a1 (.cons a2 (.cons a3 .nil)))
noncomputable abbrev S5(a0 a1 a2 a3 a4:IS):ISs:=.cons a0 (.cons a1 (.cons a2 (.cons a3 (.cons a4 .nil))))
noncomputable abbrev S6(a0 a1 a2 a3 a4 a5:IS):ISs:=.cons a0 (.cons a1 (.cons a2 (.cons a3 (.cons a4 (.cons a5 .nil)))))
noncomputable abbrev S7(a0 a1 a2 a3 a4 a5 a6:IS):ISs:=.cons a0 (.cons a1 (.cons a2 (.cons a3 (.cons a4 (.cons a5 (.cons a6 .nil))))))
noncomputable abbrev S12(a0 a1 a2 a3 a4 a5 a6 a7 a8 a9 Ob PK:IS):ISs:=.cons a0 (.cons a1 (.cons a2 (.cons a3 (.cons a4 (.cons a5 (.cons a6 (.cons a7 (.cons a8 (.cons a9 (.cons Ob (.cons PK .nil)))))))))))
noncomputable abbrev S14(a0 a1 a2 a3 a4 a5 a6 a7 a8 a9 Ob PK Si Sj:IS):ISs:=.cons a0 (.cons a1 (.cons a2 (.cons a3 (.cons a4 (.cons a5 (.cons a6 (.cons a7 (.cons a8 (.cons a9 (.cons Ob (.cons PK (.cons Si (.cons Sj .nil)))))))))))))
noncomputable abbrev fL(n q:String)(g c:Bool)(s:Stmt)(N:List Str)(k:Nat)(b:ISs):FL:={name:=n,qual:=q,glob:=g,cl:=c,st:=s,N:=N,ps:=N.take k,body:=b}
noncomputable abbrev fl(n:String):=fL n n true
abbrev runF(T:List FB)(B:WB)(n:Nat)(b:ISs)(σ:St3)(M:MH)(Q:VK3)(E:XN):Prop:=aR {toWB:=B,call:=aa T B n} b {nx:=λ_ M'=>Q .j_ (aw M M'),rt:=λv M'=>Q v (aw M M')} (λ_ i M'=>E i (aw M M')) σ M
noncomputable def fJ:ISs:=S1 (.ret (.and (.Lp V0 .int) (.not (.Lp V0 .bool))))
noncomputable def ax:ISs:=S2 (.J2 V0 211529960 V1) (.J2 V0 456806758904562 V2)
noncomputable def cU:ISs:=S1 (.expr (.ini 0 (Ar3 V0 V1 V2)))
noncomputable def pE:ISs:=S1 .dead
noncomputable def cB:ISs:=S3 (.expr (.ini 0 (Ar3 V0 V1 V2))) (.J2 V0 32709062885 V3) (.J2 V0 213725420 V4)
noncomputable def nI:ISs:=S1 .dead
noncomputable def cY:ISs:=S2 (.expr (.ini 0 (Ar3 V0 V1 V2))) (.J2 V0 14324 V3)
noncomputable def o6:ISs:=S1 .dead
noncomputable def cW:ISs:=S2 (.expr (.ini 0 (Ar3 V0 V1 V2))) (.J2 V0 3944367338220 V3)
noncomputable def pJ:ISs:=S1 .dead
noncomputable def dQ:ISs:=S1 (.ret (.and (.cmp .Eq (.bi .len (Ar1 V0)) V1) (.bi .all (Ar1 (.comp true ["thing"] [none] (.name 0) (.seq V0) .no (.call 0 (Ar1 V0)))))))
noncomputable def eu:ISs:=S1 (.ret (.and (.Lp V0 .tuple) (.call 10 (Ar2 V0 I2))))
noncomputable def br:ISs:=S7 (.ifs (.or (.not (.val (.Lp V0 .tuple))) (.cmp .Eq (.bi .len (Ar1 V0)) I0)) (S1 .dead) .nil) (.set 1 (.ix V0 I0)) (.ifs (.and (.cmp .Eq V1 (.con (.str "look"))) (.val (.call 10 (Ar2 (.sl true V0 (.yes I1) .no) I2)))) (S1 (.ret (.make true 1 (Ar2 (.ix V0 I1) (.ix V0 I2))))) .nil) (.ifs (.and (.cmp .Eq V1 (.con (.str "sight"))) (.val (.call 10 (Ar2 (.sl true V0 (.yes I1) .no) I4)))) (S1 (.ret (.make true 2 (Ar4 (.ix V0 I1) (.ix V0 I2) (.ix V0 I3) (.ix V0 I4))))) .nil) (.ifs (.and (.cmp .Eq V1 (.con (.str "send"))) (.val (.call 10 (Ar2 (.sl true V0 (.yes I1) .no) I3)))) (S1 (.ret (.make true 3 (Ar3 (.ix V0 I1) (.ix V0 I2) (.ix V0 I3))))) .nil) (.ifs (.and (.cmp .Eq V1 (.con (.str "take"))) (.and (.val (.call 10 (Ar2 (.sl true V0 (.yes I1) (.yes I3)) I2))) (.and (.cmp .Eq (.bi .len (Ar1 V0)) I4) (.val (.call 11 (Ar1 (.ix V0 I3))))))) (S1 (.ret (.make true 4 (Ar3 (.ix V0 I1) (.ix V0 I2) (.ix V0 I3))))) .nil) .dead
noncomputable def fR:ISs:=S3 (.set 2 (.bm .get V0 (Ar2 V1 I0))) (.F_ V0 V1 (.bin .Add V2 I1)) (.ret (.tup (Ar2 V1 V2)))
noncomputable def dP:ISs:=S1 (.app V2 (.call 13 (Ar2 V1 (.ix V3 I1))))
noncomputable def lJ:ISs:=S4 (.set 1 (.Kh false)) (.set 2 (.lst false .nil)) (.JW (.name 3) (.seq V0) dP) (.ret (.s_ V2))
noncomputable def cC:ISs:=S3 (.J2 V0 3982741043171 (.Kh false)) (.J2 V0 65196051402355442 (.Kh false)) (.J2 V0 487284377728885 (.Kh true))
noncomputable def cX:ISs:=S4 (.set 2 (.call 13 (Ar2 (.fld V0 3982741043171) (.fld V1 211529960)))) (.F_ (.fld V0 65196051402355442) (.fld V1 211529960) (.fld V1 456806758904562)) (.ifs (.val (.K_ V1 3)) (S1 (.F_ (.fld V0 487284377728885) V2 (.fld V1 14324))) .nil) (.ifs (.val (.K_ V1 4)) (S1 (.expr (.bm .KU (.fld V0 487284377728885) (Ar1 (.fld V1 3944367338220))))) .nil)
noncomputable def bw:ISs:=S3 (.ifs (.not (.val (.J4 V0 56782141471387880 (Ar1 (.fld V2 211529960))))) (S1 .dead) .nil) (.set 3 (.bm .get (.fld V1 65196051402355442) (Ar1 (.fld V2 211529960)))) (.ifs (.and (.cmp .IsNot V3 (.con .j_)) (.cmp .Lt (.fld V2 456806758904562) V3)) (S1 .dead) .nil)
noncomputable def bS:ISs:=S3 (.ifs (.and (.val (.K_ V2 2)) (.cmp .Gt (.fld V2 32709062885) (.fld V2 213725420))) (S1 .dead) .nil) (.ifs (.and (.val (.K_ V2 3)) (.not (.val (.J4 V0 535528667410664 (Ar2 (.fld V2 211529960) (.fld V2 14324)))))) (S1 .dead) .nil) (.ifs (.and (.val (.K_ V2 4)) (.cmp .NotEq (.bm .get (.fld V1 487284377728885) (Ar1 (.fld V2 3944367338220))) (.fld V2 211529960))) (S1 .dead) .nil)
noncomputable def bP:ISs:=S4 (.set 4 (.call 12 (Ar1 V3))) (.expr (.call 17 (Ar3 V0 V2 V4))) (.expr (.call 18 (Ar3 V0 V2 V4))) (.expr (.J4 V2 30815369061 (Ar1 V4)))
noncomputable def mj:ISs:=S2 (.set 2 (.make false 5 .nil)) (.JW (.name 3) (.seq V1) bP)
noncomputable def bL:ISs:=S1 (.ifs (.cmp .Eq V3 V1) (S1 (.ret V2)) .nil)
noncomputable def iR:ISs:=S2 (.JW (.tup [2,3]) (.enum (.call 14 (Ar1 V0))) bL) (.raise 8 (Ar1 (.con (.str "no happening of the log has this name"))))
noncomputable def aP:ISs:=S1 (.ifs (.val (.K_ V1 4)) (S2 (.set 2 (.ix (.fld V1 3944367338220) I0)) (.F_ V0 V2 (.bi .max (Ar2 (.ix V0 V2) (.bin .Add (.ix (.fld V1 3944367338220) I1) I1))))) .nil)
noncomputable def db:ISs:=S1 (.ifs (.cmp .Lt (.ix V6 I1) (.ix V4 (.ix V6 I0))) (S1 (.expr (.call 21 (Ar2 V4 (.call 12 (Ar1 V7)))))) .nil)
noncomputable def lI:ISs:=S6 (.set 3 (.call 20 (Ar2 V1 V2))) (.set 4 (.rep false (.lst true (Ar1 I0)) (.J4 V0 31081607400 .nil))) (.F_ V4 (.ix V2 I0) (.bin .Add (.ix V2 I1) I1)) (.set 5 (.sl true (.La true (.call 14 (Ar1 V1)) V1) .no (.yes (.bin .Add V3 I1)))) (.JW (.tup [6,7]) (.Lb V5) db) (.ret (.s_ V4))
noncomputable def uB:ISs:=S1 (.ret (.comp false ["name","row","counts"] [none,none,some 1] (.tup [0,1]) (.zip (.call 14 (Ar1 V0)) V0) (.yes (.cmp .Lt (.ix V0 I1) (.ix V2 (.ix V0 I0)))) V1))
noncomputable def lH:ISs:=S1 (.ret (.call 23 (Ar2 V1 (.call 22 (Ar3 V0 V1 V2)))))
noncomputable def cM:ISs:=S2 (.ifs (.cmp .Lt V0 I1) (S1 .dead) .nil) (.ifs (.cmp .Lt V1 V0) (S1 .dead) .nil)
noncomputable def bO:ISs:=S2 (.ifs (.cmp .Lt V0 I0) (S1 .dead) .nil) (.ifs (.and (.cmp .IsNot V1 (.con .j_)) (.cmp .Lt V1 V0)) (S1 .dead) .nil)
noncomputable def bI:ISs:=S1 (.expr (.call 25 (Ar2 V3 V4)))
noncomputable def bD:ISs:=S1 (.expr (.J4 V0 8774101686596482917 (Ar4 V5 V6 V7 V8)))
noncomputable def cJ:ISs:=S5 (.ifs (.or (.cmp .Lt (.bi .len (Ar1 V1)) I1) (.cmp .Gt (.bi .len (Ar1 V1)) (.glo 0))) (S1 .dead) .nil) (.JW (.tup [3,4]) (.seq V1) bI) (.J2 V0 136762133858116729320171 (.bi (.list false) (Ar1 V1))) (.J2 V0 8355170983792620267 (.Kh true)) (.JW (.tup [5,6,7,8]) (.seq V2) bD)
noncomputable def bB:ISs:=S4 (.expr (.J4 V0 135562951883986971505394 (Ar2 V1 V2))) (.ifs (.cmp .In (.tup (Ar2 V1 V2)) (.fld V0 8355170983792620267)) (S1 .dead) .nil) (.expr (.call 26 (Ar2 V3 V4))) (.F_ (.fld V0 8355170983792620267) (.tup (Ar2 V1 V2)) (.tup (Ar2 V3 V4)))
noncomputable def bo:ISs:=S1 (.ifs (.not (.val (.J4 V0 56782141471387880 (Ar1 V1)))) (S1 .dead) .nil)
noncomputable def bh:ISs:=S3 (.expr (.J4 V0 119080781550527859766002 (Ar1 V1))) (.expr (.J4 V0 119080781550527859766002 (Ar1 V2))) (.ifs (.cmp .Eq V1 V2) (S1 .dead) .nil)
noncomputable def bT:ISs:=S1 (.ret (.bi .len (Ar1 (.fld V0 136762133858116729320171))))
noncomputable def be:ISs:=S1 (.ret (.chain .LtE .Lt I0 V1 (.J4 V0 31081607400 .nil)))
noncomputable def b9:ISs:=S1 (.ret (.cmp .In (.tup (Ar2 V1 V2)) (.fld V0 8355170983792620267)))
noncomputable def og:ISs:=S3 .dead .dead .dead
noncomputable def bR:ISs:=S3 (.set 2 (.call 12 (Ar1 V0))) (.ifs (.and (.val (.K_ V2 4)) (.cmp .In (.ix (.fld V2 3944367338220) I0) V1)) (S1 (.ret (.tup (Ar3 (.con (.str "look")) (.fld V2 211529960) (.fld V2 456806758904562))))) .nil) (.ret V0)
noncomputable def j1:ISs:=S1 (.ret (.comp true ["row","liars"] [none,some 1] (.name 0) (.seq V0) (.yes (.cmp .NotIn (.ix V0 I1) V1)) (.call 35 (Ar2 V0 V1))))
noncomputable def me:ISs:=S1 (.ret (.call 24 (Ar3 V0 (.call 36 (Ar2 V1 V3)) V2)))
noncomputable def bY:ISs:=S2 (.ifs (.cmp .Lt V1 (.bi .len (Ar1 V0))) (S1 (.ret (.ix V0 V1))) .nil) (.ret I0)
noncomputable def cf:ISs:=S2 (.set 3 (.bin .Mod (.bin .Add (.bin .Add (.bin .Mult V3 V3) (.bin .Mult (.con (.int 48271)) V3)) V4) (.bin .Add (.bin .Pow (.con (.int 10)) (.con (.int 40))) (.con (.int 121))))) (.app V2 V3)
noncomputable def dD:ISs:=S4 (.set 2 (.lst false .nil)) (.set 3 (.bin .Add (.bin .Mod V0 (.bin .Add (.bin .Pow (.con (.int 10)) (.con (.int 40))) (.con (.int 121)))) (.con (.int 48271)))) (.JW (.name 4) (.KW (.bin .Add V1 I4)) cf) (.ret (.sl true V2 (.yes I4) .no))
noncomputable def eV:ISs:=S3 (.set 2 (.ix (.lst true (Ar3 I0 I1 (.bin .Mod (.ix V0 I0) V1))) (.bin .Mod (.ix V0 I1) I3))) (.ifs (.cmp .Eq (.bin .Mod (.bin .FloorDiv (.ix V0 I1) I3) I4) I0) (S1 (.ret (.tup (Ar2 V2 (.con .j_))))) .nil) (.ret (.tup (Ar2 V2 (.bin .Add V2 (.ix (.lst true (Ar3 I0 I1 (.bin .Mod (.ix V0 I2) V1))) (.bin .Mod (.bin .FloorDiv (.ix V0 I1) (.con (.int 12))) I3))))))
noncomputable def bH:ISs:=S2 (.set 9 (.call 39 (Ar2 (.bin .Add (.bin .Add (.bin .Add V0 (.bin .Mult I7 V6)) (.bin .Mult (.con (.int 43)) V8)) I1) I4))) (.ifs (.and (.cmp .NotEq V6 V8) (.cmp .Gt (.bin .Mod (.ix V9 I3) I6) I0)) (S1 (.F_ V5 (.tup (Ar2 V6 V8)) (.call 40 (Ar2 V9 V3)))) .nil)
noncomputable def bz:ISs:=S3 (.set 7 (.bin .Add I1 (.bin .Mod (.bin .FloorDiv (.ix V1 (.bin .Add I2 V6)) I3) V3))) (.app V4 (.tup (Ar2 V7 (.bin .Add V7 (.ix (.lst true (Ar3 I0 I1 (.bin .Mod (.ix V1 (.bin .Sub I7 V6)) V3))) (.bin .Mod (.ix V1 (.bin .Add I2 V6)) I3)))))) (.JW (.name 8) (.KW V2) bH)
noncomputable def eD:ISs:=S7 (.set 1 (.call 39 (Ar2 V0 I8))) (.set 2 (.ix (.lst true (.cons I1 (.cons I2 (Ar6 I2 I3 I3 I4 I5 I6)))) (.bin .Mod (.ix V1 I0) I8))) (.set 3 (.ix (.lst true (Ar4 I3 (.con (.int 100)) (.bin .Pow (.con (.int 10)) I9) (.bin .Pow (.con (.int 10)) (.con (.int 30))))) (.bin .Mod (.ix V1 I1) I4))) (.set 4 (.lst false .nil)) (.set 5 (.Kh true)) (.JW (.name 6) (.KW V2) bz) (.ret (.tup (Ar2 (.s_ V4) (.s_ V5))))
noncomputable def fM:ISs:=S1 (.ret (.make true 6 (Ar2 (.bi (.list true) (Ar1 (.ix V0 I0))) (.comp true ["_law_pair","_law_way_here"] [none,none] (.tup [0,1]) (.items (.ix V0 I1)) .no (.bin .Add V0 V1)))))
noncomputable def gQ:ISs:=S7 (.set 5 (.ix (.lst true (Ar4 I0 I1 (.bin .Mod (.ix V2 I1) I5) (.bin .Mod (.ix V2 I1) (.bin .Pow (.con (.int 10)) (.con (.int 12)))))) (.bin .Mod (.ix V2 I2) I4))) (.ifs (.and (.cmp .IsNot V3 (.con .j_)) (.cmp .Lt (.bin .Add (.ix V1 I2) (.bin .Mult (.ix V0 I1) V5)) V3)) (S1 (.set 5 (.bin .FloorDiv (.bin .Sub (.bin .Add (.bin .Sub V3 (.ix V1 I2)) (.ix V0 I1)) I1) (.ix V0 I1)))) .nil) (.set 6 (.bin .Add (.ix V1 I2) (.bin .Mult (.ix V0 I0) V5))) (.set 7 (.bin .Add (.ix V1 I2) (.bin .Mult (.ix V0 I1) V5))) (.ifs (.cmp .IsNot V3 (.con .j_)) (S1 (.set 6 (.bi .max (Ar2 V6 V3)))) .nil) (.ifs (.cmp .IsNot V4 (.con .j_)) (S1 (.set 7 (.bi .min (Ar2 V7 V4)))) .nil) (.ret (.tup (Ar3 V5 V6 V7)))
noncomputable def dq:ISs:=S5 (.set 5 (.comp true ["_law_pair","_law_hand"] [none,some 0] (.name 0) (.dk V3) (.yes (.cmp .Eq (.ix V0 I0) V1)) (.ix V0 I1))) (.set 6 (.bin .Mod (.bin .FloorDiv (.ix V4 I3) I2) I8)) (.ifs (.or (.cmp .Eq V6 I1) (.cmp .Eq V6 I2)) (S2 (.set 7 (.lst true (Ar4 I0 I1 (.bin .Mod (.ix V4 I0) (.con (.int 100))) (.bin .Mod (.ix V4 I0) (.bin .Pow (.con (.int 10)) (.con (.int 12))))))) (.ret (.tup (Ar5 (.con (.str "sight")) V0 V1 (.bin .Sub V2 (.ix V7 (.bin .Mod (.ix V4 I1) I4))) (.bin .Add V2 (.ix V7 (.bin .Mod (.bin .FloorDiv (.ix V4 I1) I4) I4))))))) .nil) (.ifs (.and (.cmp .Gt V6 I2) (.cmp .NotEq V5 (.lst true .nil))) (S1 (.ret (.tup (Ar4 (.con (.str "send")) V0 V1 (.ix V5 (.bin .Mod (.bin .FloorDiv (.ix V4 I2) I5) (.bi .len (Ar1 V5)))))))) .nil) (.ret (.tup (Ar3 (.con (.str "look")) V0 V1)))
noncomputable def fx:ISs:=S2 (.ifs (.cmp .Is (.ix V3 I1) (.con .j_)) (S1 (.ret (.tup (Ar4 V0 (.ix V1 I3) (.bin .Add V2 (.ix V3 I0)) (.con .j_))))) .nil) (.ret (.tup (Ar4 V0 (.ix V1 I3) (.bin .Add V2 (.ix V3 I0)) (.bin .Add V2 (.ix V3 I1)))))
noncomputable def cT:ISs:=S1 (.app V5 (.tup (Ar3 I0 (.bin .Sub (.bin .Mod V6 (.bin .Pow (.con (.int 10)) (.con (.int 12)))) (.bin .Pow (.con (.int 10)) (.con (.int 11)))) (.bin .Sub (.bin .Mod V1 (.bin .Pow (.con (.int 10)) (.con (.int 12)))) (.bin .Pow (.con (.int 10)) (.con (.int 11)))))))
noncomputable def aG:ISs:=S12 (.set 10 (.call 39 (Ar2 V9 I4))) (.set 11 (.bin .Mod (.ix V10 I0) (.bi .len (Ar1 V3)))) (.ifs (.cmp .Eq (.bin .Mod (.ix V10 I3) I2) I0) (S1 (.set 11 (.ix (.NK (.comp true ["_law_k","_law_one"] [none,none] (.tup [0,1]) (.enum V5) .no (.tup (Ar2 (.ix V1 I2) V0)))) I1))) .nil) (.set 12 (.con .j_)) (.set 13 (.call 43 (Ar5 (.ix V3 V11) (.ix V5 V11) V10 (.con .j_) (.con .j_)))) (.ifs (.and (.cmp .Gt (.bin .Mod (.bin .FloorDiv (.ix V10 I3) I2) I8) I4) (.cmp .NotEq V7 (.lst true .nil))) (S3 (.set 12 (.ix V7 (.bin .Mod (.bin .FloorDiv (.ix V10 I0) I7) (.bi .len (Ar1 V7))))) (.set 14 (.call 43 (Ar5 (.ix V3 (.ix V12 I1)) (.ix V5 (.ix V12 I1)) V10 (.ix V12 I2) (.ix V12 I3)))) (.ifs (.cmp .Gt (.ix V14 I1) (.ix V14 I2)) (S1 (.set 12 (.con .j_))) (S2 (.set 11 (.ix V12 I1)) (.set 13 V14)))) .nil) (.set 15 (.ix (.lst true (Ar3 (.ix V13 I1) (.ix V13 I2) (.bin .Add (.ix V13 I1) (.bin .Mod (.bin .FloorDiv (.ix V10 I2) I4) (.bin .Add (.bin .Sub (.ix V13 I2) (.ix V13 I1)) I1))))) (.bin .Mod (.bin .FloorDiv (.ix V10 I3) (.con (.int 16))) I3))) (.set 16 (.tup (Ar2 V11 (.ix (.ix V5 V11) I0)))) (.F_ V5 V11 (.tup (Ar3 (.bin .Add (.ix V16 I1) I1) (.bin .Add (.ix (.ix V5 V11) I1) (.ix V13 I0)) V15))) (.set 17 (.call 44 (Ar5 V11 (.ix (.ix V5 V11) I1) V15 V4 V10))) (.ifs (.cmp .IsNot V12 (.con .j_)) (S2 (.expr (.bm .remove V7 (Ar1 V12))) (.set 17 (.tup (Ar4 (.con (.str "take")) V11 (.ix (.ix V5 V11) I1) (.ix V12 I0))))) (S1 (.ifs (.cmp .Eq (.ix V17 I0) (.con (.str "send"))) (S1 (.app V7 (.call 45 (Ar4 V16 V17 V15 (.ix V4 (.tup (Ar2 V11 (.ix V17 I3)))))))) .nil))) (.app V8 (.tup (Ar2 V17 V15)))
noncomputable def fO:ISs:=S7 (.NL [3,4] V0) (.set 5 (.lst false .nil)) (.JW (.name 6) (.seq (.call 39 (Ar2 V1 (.bi .len (Ar1 V3))))) cT) (.set 7 (.lst false .nil)) (.set 8 (.lst false .nil)) (.JW (.name 9) (.seq V2) aG) (.ret (.s_ V8))
noncomputable def bA:ISs:=S2 (.F_ V1 (.ix V3 I1) (.bin .Add (.bm .get V1 (Ar2 (.ix V3 I1) I0)) I1)) (.app V2 (.tup (Ar2 (.ix V3 I1) (.bin .Sub (.ix V1 (.ix V3 I1)) I1))))
noncomputable def cS:ISs:=S4 (.set 1 (.Kh false)) (.set 2 (.lst false .nil)) (.JW (.name 3) (.seq V0) bA) (.ret (.s_ V2))
noncomputable def cg:ISs:=S1 (.ifs (.cmp .NotIn (.ix V3 I1) V1) (S2 (.ifs (.and (.cmp .Eq (.ix V3 I0) (.con (.str "take"))) (.cmp .In (.ix (.ix V3 I3) I0) V1)) (S1 (.set 3 (.tup (Ar3 (.con (.str "look")) (.ix V3 I1) (.ix V3 I2))))) .nil) (.app V2 V3)) .nil)
noncomputable def dL:ISs:=S3 (.set 2 (.lst false .nil)) (.JW (.name 3) (.seq V0) cg) (.ret (.s_ V2))
noncomputable def cZ:ISs:=S1 (.ifs (.cmp .In V7 V5) (S2 (.ifs (.cmp .Gt (.ix V7 I1) I0) (S1 (.F_ V5 (.tup (Ar2 (.ix V7 I0) (.bin .Sub (.ix V7 I1) I1))) (.con (.bl true)))) .nil) (.ifs (.cmp .Eq (.ix V6 I0) (.con (.str "take"))) (S1 (.F_ V5 (.ix V6 I3) (.con (.bl true)))) .nil)) .nil)
noncomputable def fD:ISs:=S5 (.set 3 (.call 48 (Ar2 V0 V2))) (.set 4 (.call 47 (Ar1 V3))) (.set 5 (.Lq V1 (.con (.bl true)))) (.JW (.tup [6,7]) (.Lb (.La true V3 V4)) cZ) (.ret (.comp true ["_law_row_here","_law_here","_law_seen"] [none,none,some 5] (.tup [0,1]) (.zip V3 V4) (.yes (.cmp .In V1 V2)) V0))
noncomputable def fS:ISs:=S3 (.set 4 (.con .j_)) (.Lr (S1 (.expr (.call 37 (Ar4 V0 V1 V2 V3)))) (.cons 8 (some 5) (S1 (.set 4 V5)) .nil)) (.ret (.and (.Nb V4 0) (.not (.Nb V4 2))))
noncomputable def iQ:ISs:=S3 (.set 2 (.call 47 (Ar1 V0))) (.ifs (.or (.cmp .Eq (.bin .Mod V1 I9) I4) (.cmp .Eq V2 (.lst true .nil))) (S3 (.set 3 (.bin .Mod (.bin .FloorDiv V1 I9) I6)) (.set 4 (.bi .len (Ar1 (.comp true ["_law_row_here","_law_hand"] [none,some 3] (.name 0) (.seq V0) (.yes (.cmp .Eq (.ix V0 I1) V1)) V0)))) (.ret (.ix (.lst true (Ar4 (.tup (Ar2 V3 V4)) (.tup (Ar2 (.neg I1) I0)) (.tup (Ar2 I6 I0)) (.tup (Ar2 V3 (.bin .Add V4 I1))))) (.bin .Mod (.bin .FloorDiv V1 (.con (.int 54))) I4)))) .nil) (.ret (.ix V2 (.bin .Mod (.bin .FloorDiv V1 I9) (.bi .len (Ar1 V2)))))
noncomputable def nJ:ISs:=.cons (.set 1 (.call 41 (Ar1 (.call 38 (Ar2 V0 I0))))) (.cons (.set 2 (.comp true ["_law_row_here","_law_moment"] [none,none] (.tup [0,1]) (.seq (.call 46 (Ar3 V1 (.call 38 (Ar2 V0 I1)) (.sl true V0 (.yes I2) (.yes (.con (.int 16))))))) .no V0)) (.cons (.set 3 (.call 42 (Ar1 V1))) (.cons (.set 4 (.call 39 (Ar2 (.bin .Add (.call 38 (Ar2 V0 I0)) (.call 38 (Ar2 V0 I2))) I5))) (S14 (.set 5 (.call 51 (Ar2 V2 (.ix V4 I4)))) (.set 6 (.comp true ["_law_hand","_law_x_here","_law_xs"] [none,some 5,some 4] (.name 0) (.seq (.sl true V4 .no (.yes (.bin .Mod (.ix V4 I3) I4)))) (.yes (.or (.cmp .NotEq (.bin .Mod V0 I6) (.ix V1 I0)) (.cmp .Eq (.bin .Mod (.bin .FloorDiv (.ix V2 I3) I4) I5) I2))) (.bin .Mod V0 I6))) (.set 7 (.tup (Ar2 (.bi (.list true) (Ar1 V2)) (.bi (.list true) (Ar1 V6))))) (.ifs (.or (.cmp .In (.ix V5 I0) V6) (.cmp .NotIn V5 (.call 47 (Ar1 V2)))) (S1 (.ret (.and (.call 50 (Ar4 V3 (.ix V7 I0) V5 (.ix V7 I1))) (.cmp .Eq V7 (.tup (Ar2 V2 V6)))))) .nil) (.set 8 (.call 37 (Ar4 V3 (.ix V7 I0) V5 (.ix V7 I1)))) (.set 9 (.call 49 (Ar3 V2 V5 V6))) (.ifs (.or (.not (.val (.Lp V8 .list))) (.not (.val (.bi .all (Ar1 (.comp true ["_law_row_here"] [none] (.name 0) (.seq V8) .no (.Lp V0 .tuple))))))) (S1 (.ret (.con (.bl false)))) .nil) (.ifs (.or (.cmp .NotEq V8 V9) (.or (.cmp .NotEq V7 (.tup (Ar2 V2 V6))) (.cmp .IsNot (.call 19 (Ar2 V3 (.bi (.list true) (Ar1 V8)))) (.con .j_)))) (S1 (.ret (.con (.bl false)))) .nil) (.set 10 (.comp true ["_law_hand","_law_x_here"] [none,some 5] (.name 0) (.seq (.cat true V6 (.lst true (Ar1 (.bin .Mod (.bin .FloorDiv (.ix V4 I3) (.con (.int 20))) I6))))) (.yes (.cmp .NotEq V0 (.ix V1 I0))) V0)) (.set 11 (.call 37 (Ar4 V3 (.bi (.list true) (Ar1 V2)) V5 (.bi (.list true) (Ar1 V10))))) (.set 12 (.call 47 (Ar1 V8))) (.ifs (.or (.val (.bi .any (Ar1 (.comp true ["_law_name","_law_here"] [none,some 12] (.name 0) (.seq (.call 47 (Ar1 V11))) .no (.cmp .NotIn V0 V1))))) (.cmp .NotEq (.call 37 (Ar4 V3 (.bi (.list true) (Ar1 V8)) V5 V10)) V11)) (S1 (.ret (.con (.bl false)))) .nil) (.expr (.bm .clear V8 .nil)) (.ret (.cmp .Eq (.call 37 (Ar4 V3 (.bi (.list true) (Ar1 V2)) V5 (.bi (.list true) (Ar1 V6)))) V9))))))
noncomputable def oX:FL:=fl "is_whole" true (top 12) ["thing"] 1 fJ
noncomputable def fG:FL:=fL "__init__" "Happening.__init__" false true (ar (top 14) 0) ["self","hand","reading"] 3 ax
noncomputable def j8:FL:=fL "__init__" "Look.__init__" false true (ar (top 15) 0) ["self","hand","reading"] 3 cU
noncomputable def oF:FL:=fL "row" "Look.row" false true (ar (top 15) 1) ["self"] 1 pE
noncomputable def jh:FL:=fL "__init__" "Sight.__init__" false true (ar (top 16) 0) ["self","hand","reading","early","late"] 5 cB
noncomputable def nQ:FL:=fL "row" "Sight.row" false true (ar (top 16) 1) ["self"] 1 nI
noncomputable def kj:FL:=fL "__init__" "Send.__init__" false true (ar (top 17) 0) ["self","hand","reading","to"] 4 cY
noncomputable def oI:FL:=fL "row" "Send.row" false true (ar (top 17) 1) ["self"] 1 o6
noncomputable def kf:FL:=fL "__init__" "Take.__init__" false true (ar (top 18) 0) ["self","hand","reading","letter"] 4 cW
noncomputable def pK:FL:=fL "row" "Take.row" false true (ar (top 18) 1) ["self"] 1 pJ
noncomputable def mE:FL:=fl "are_wholes" true (top 19) ["things","number"] 2 dQ
noncomputable def mX:FL:=fl "is_letter" true (top 20) ["thing"] 1 eu
noncomputable def mO:FL:=fl "happening" true (top 21) ["row","word"] 1 br
noncomputable def pO:FL:=fl "count_on" true (top 23) ["counts","hand","ahead"] 2 fR
noncomputable def wt:FL:=fl "names" true (top 24) ["log","counts","told","row"] 1 lJ
noncomputable def iS:FL:=fL "__init__" "Ahead.__init__" false false (ar (top 25) 0) ["self"] 1 cC
noncomputable def j7:FL:=fL "enter" "Ahead.enter" false true (ar (top 25) 1) ["self","one","name"] 2 cX
noncomputable def gC:FL:=fl "refuse_by_clock" true (top 26) ["world","ahead","one","last"] 3 bw
noncomputable def hU:FL:=fl "refuse_by_kind" true (top 27) ["world","ahead","one"] 3 bS
noncomputable def we:FL:=fl "check" true (top 28) ["world","log","ahead","row","one"] 2 mj
noncomputable def xA:FL:=fl "place" true (top 29) ["log","name","where","other"] 2 iR
noncomputable def jp:FL:=fl "count_letter" true (top 30) ["counts","one","sender"] 2 aP
noncomputable def zM:FL:=fl "past" true (top 31) ["world","log","name","where","counts","heads","other","row"] 3 lI
noncomputable def Dk:FL:=fl "cut" false (top 32) ["log","counts"] 2 uB
noncomputable def AO:FL:=fl "view" false (top 33) ["world","log","name"] 3 lH
noncomputable def jV:FL:=fl "refuse_clock" true (top 36) ["short","long"] 2 cM
noncomputable def gI:FL:=fl "refuse_lengths" true (top 37) ["least","most"] 2 bO
noncomputable def jf:FL:=fL "__init__" "World.__init__" false false (ar (top 38) 0) ["self","clocks","ways","short","long","one","other","least","most"] 3 cJ
noncomputable def gq:FL:=fL "enter_way" "World.enter_way" false true (ar (top 38) 1) ["self","one","other","least","most"] 5 bB
noncomputable def e8:FL:=fL "refuse_hand" "World.refuse_hand" false true (ar (top 38) 2) ["self","hand"] 2 bo
noncomputable def fh:FL:=fL "refuse_pair" "World.refuse_pair" false true (ar (top 38) 3) ["self","one","other"] 3 bh
noncomputable def ky:FL:=fL "hands" "World.hands" false true (ar (top 38) 4) ["self"] 1 bT
noncomputable def hJ:FL:=fL "has_hand" "World.has_hand" false true (ar (top 38) 5) ["self","hand"] 2 be
noncomputable def iz:FL:=fL "has_way" "World.has_way" false true (ar (top 38) 6) ["self","one","other"] 3 b9
noncomputable def nF:FL:=fL "way" "World.way" false true (ar (top 38) 8) ["self","one","other"] 3 og
noncomputable def gK:FL:=fl "without_letter" true (top 40) ["row","liars","one"] 2 bR
noncomputable def vp:FL:=fl "struck" true (top 41) ["log","liars"] 2 j1
noncomputable def zE:FL:=fl "left" false (top 42) ["world","log","x","liars"] 4 me
noncomputable def j3:FL:=fl "_law_cell_at" true (top 44) ["_law_script","_law_k"] 2 bY
noncomputable def lY:FL:=fl "_law_stream" true (top 45) ["_law_cell","_law_many","_law_found","_law_number","_law_k"] 2 dD
noncomputable def sw:FL:=fl "_law_way" true (top 46) ["_law_xs","_law_size","_law_least"] 2 eV
noncomputable def mJ:FL:=fl "_law_world" true (top 47) ["_law_cell","_law_xs","_law_hands","_law_size","_law_clocks","_law_ways","_law_one","_law_short","_law_other","_law_ys"] 1 eD
noncomputable def o5:FL:=fl "_law_made" true (top 48) ["_law_world_here"] 1 fM
noncomputable def rp:FL:=fl "_law_lag" true (top 49) ["_law_clock","_law_here","_law_xs","_law_low","_law_high","_law_ticks","_law_first","_law_last"] 5 gQ
noncomputable def sM:FL:=fl "_law_row" true (top 50) ["_law_hand","_law_reading","_law_moment","_law_ways","_law_xs","_law_tos","_law_kind","_law_gaps"] 5 dq
noncomputable def pS:FL:=fl "_law_sent" true (top 51) ["_law_here","_law_row_here","_law_moment","_law_way_here"] 4 fx
noncomputable def ow:FL:=fl "_law_tale" true (top 52) ["_law_world_here","_law_start","_law_cells","_law_clocks","_law_ways","_law_at","_law_x_here","_law_sent_here","_law_told","_law_cell","_law_xs","_law_hand","_law_letter","_law_lag_here","_law_near","_law_moment","_law_here","_law_row_here"] 3 fO
noncomputable def nu:FL:=fl "_law_names" true (top 53) ["_law_log","_law_many","_law_found","_law_row_here"] 1 cS
noncomputable def lX:FL:=fl "_law_struck" true (top 54) ["_law_log","_law_liars","_law_found","_law_row_here"] 2 dL
noncomputable def oY:FL:=fl "_law_left" true (top 55) ["_law_log","_law_x_here","_law_liars","_law_rest","_law_some","_law_seen","_law_row_here","_law_here"] 3 fD
noncomputable def pj:FL:=fl "_law_word" true (top 56) ["_law_made_here","_law_log","_law_x_here","_law_liars","_law_word_here","e"] 4 fS
noncomputable def wd:FL:=fl "_law_x" true (top 57) ["_law_log","_law_cell","_law_some","_law_hand","_law_last"] 2 iQ
noncomputable def l_law:FL:=fl "law" true (top 58) ["_law_script","_law_world_here","_law_log","_law_made_here","_law_xs","_law_x_here","_law_liars","_law_handed","_law_found","_law_due","_law_more","_law_less","_law_here"] 1 nJ
noncomputable def L:List FL:=[oX,fG,j8,oF,jh,nQ,kj,oI,kf,pK,mE,mX,mO,pO,wt,iS,j7,gC,hU,we,xA,jp,zM,Dk,AO,jV,gI,jf,gq,e8,fh,ky,hJ,iz,nF,gK,vp,zE,j3,lY,sw,mJ,o5,rp,sM,pS,ow,nu,lX,oY,pj,wd,l_law]
noncomputable def xinT:List (Nat×Nat):=[(6,245166316)]
noncomputable def nm:NM:=⟨["DriftError","NoStretch","NoHand","NoClock","NoWay","NoHappening","Backward","NoLetter","NoName"],["Happening","Look","Sight","Send","Take","Ahead","World"],["MOST_HANDS"],xinT⟩
noncomputable def xin(i:Nat):Option Nat:=xinT.lookup i
noncomputable def subT:List (List Bool):=[[true,false,false,false,false,false,false,false,false],[true,true,false,false,false,false,false,false,false],[true,false,true,false,false,false,false,false,false],[true,false,false,true,false,false,false,false,false],[true,false,false,false,true,false,false,false,false],[true,false,false,false,false,true,false,false,false],[true,false,false,false,false,false,true,false,false],[true,false,false,false,false,false,false,true,false],[true,false,false,false,false,false,false,false,true]]
noncomputable def sub(i j:Nat):Bool:=(subT.getD i []).getD j false
noncomputable def ksubT:List (List Bool):=[[true,false,false,false,false,false,false],[true,true,false,false,false,false,false],[true,false,true,false,false,false,false],[true,false,false,true,false,false,false],[true,false,false,false,true,false,false],[false,false,false,false,false,true,false],[false,false,false,false,false,false,true]]
noncomputable def ksub(i j:Nat):Bool:=(ksubT.getD i []).getD j false
noncomputable def fokT:List (List Nat):=[[211529960,456806758904562],[211529960,456806758904562],[32709062885,213725420,211529960,456806758904562],[14324,211529960,456806758904562],[3944367338220,211529960,456806758904562],[3982741043171,65196051402355442,487284377728885],[136762133858116729320171,8355170983792620267]]
noncomputable def fok(i f:Nat):Bool:=(fokT.getD i []).contains f
noncomputable def mthT:List (List (Nat×Nat)):=[[],[(1964018,3)],[(1964018,5)],[(1964018,7)],[(1964018,9)],[(30815369061,16)],[(8774101686596482917,28),(31081607400,31),(56782141471387880,32),(535528667410664,33),(119080781550527859766002,29),(135562951883986971505394,30),(1994999,34)]]
noncomputable def mth(i m:Nat):Option Nat:=(mthT.getD i []).lookup m
noncomputable def Ds:List Nat:=[1,2,4,6,8,15,27]
noncomputable def ini(i:Nat):Option Nat:=Ds[i]?
noncomputable def gloT:List D:=[.int 6]
noncomputable def glo(k:Nat):D:=gloT.getD k .j_
noncomputable def B(cls c_ d_:Nat->Addr):WB:={ne:=9,cls:=cls,sub:=sub,nk:=7,c_:=c_,ksub:=ksub,fok:=fok,mth:=mth,ini:=ini,xin:=xin,glo:=glo,d_:=d_}
section
variable {cls c_ d_:Nat->Addr}
@[simp] theorem Id:(B cls c_ d_).ne=9:=rfl
@[simp] theorem Hv:(B cls c_ d_).cls=cls:=rfl
@[simp] theorem GD:(B cls c_ d_).sub=sub:=rfl
@[simp] theorem HM:(B cls c_ d_).nk=7:=rfl
@[simp] theorem Hm:(B cls c_ d_).c_=c_:=rfl
@[simp] theorem FP:(B cls c_ d_).ksub=ksub:=rfl
@[simp] theorem G5:(B cls c_ d_).fok=fok:=rfl
@[simp] theorem Hj:(B cls c_ d_).mth=mth:=rfl
@[simp] theorem GC:(B cls c_ d_).ini=ini:=rfl
@[simp] theorem He:(B cls c_ d_).glo=glo:=rfl
end
@[simp] theorem Eo:sub 8 0=true:=rfl
@[simp] theorem Em:sub 8 2=false:=rfl
@[simp] theorem EH:sub 8 8=true:=rfl
@[simp] theorem GV:ini 0=some 1:=rfl
@[simp] theorem C7:ksub 1 2=false:=rfl
@[simp] theorem CA:ksub 1 3=false:=rfl
@[simp] theorem B8:ksub 1 4=false:=rfl
@[simp] theorem Aa:fok 1 211529960=true:=by decide
@[simp] theorem vV:fok 1 456806758904562=true:=by decide
@[simp] theorem Hh:ini 1=some 2:=rfl
@[simp] theorem Cf:ksub 2 2=true:=rfl
@[simp] theorem D7:ksub 2 3=false:=rfl
@[simp] theorem CM:ksub 2 4=false:=rfl
@[simp] theorem yg:fok 2 32709062885=true:=by decide
@[simp] theorem AD:fok 2 213725420=true:=by decide
@[simp] theorem yL:fok 2 211529960=true:=by decide
@[simp] theorem vU:fok 2 456806758904562=true:=by decide
@[simp] theorem G9:ini 2=some 4:=rfl
@[simp] theorem Dz:ksub 3 2=false:=rfl
@[simp] theorem Cz:ksub 3 3=true:=rfl
@[simp] theorem CH:ksub 3 4=false:=rfl
@[simp] theorem CK:fok 3 14324=true:=by decide
@[simp] theorem AY:fok 3 211529960=true:=by decide
@[simp] theorem vS:fok 3 456806758904562=true:=by decide
@[simp] theorem HB:ini 3=some 6:=rfl
@[simp] theorem DY:ksub 4 2=false:=rfl
@[simp] theorem BL:ksub 4 3=false:=rfl
@[simp] theorem D5:ksub 4 4=true:=rfl
@[simp] theorem xp:fok 4 3944367338220=true:=by decide
@[simp] theorem yW:fok 4 211529960=true:=by decide
@[simp] theorem vR:fok 4 456806758904562=true:=by decide
@[simp] theorem G4:ini 4=some 8:=rfl
@[simp] theorem xc:fok 5 3982741043171=true:=by decide
@[simp] theorem t5:fok 5 65196051402355442=true:=by decide
@[simp] theorem vT:fok 5 487284377728885=true:=by decide
@[simp] theorem yw:mth 5 30815369061=some 16:=by decide
@[simp] theorem GN:ini 5=some 15:=rfl
@[simp] theorem qu:fok 6 136762133858116729320171=true:=by decide
@[simp] theorem sV:fok 6 8355170983792620267=true:=by decide
@[simp] theorem Hx:ini 6=some 27:=rfl
@[simp] theorem Hq:glo 0=.int 6:=rfl
theorem AT:fnm 245166316=("last" : Str):=by decide +kernel
noncomputable def T:List FB:=L.map FL.fb
theorem Fk:L.map FL.fb=T:=rfl
section
variable {B:WB}{M:MH}{Q:VK3}{E:XN}{n:Nat}
theorem oM{x0:D}:aa T B (n+1) 0 [x0] M Q E=runF T B n fJ [some x0] M Q E:=propext ⟨λh=>h.2,λh=>⟨rfl,h⟩⟩
theorem aT{x0 x1 x2:D}:aa T B (n+1) 1 [x0,x1,x2] M Q E=runF T B n ax [some x0,some x1,some x2] M Q E:=propext ⟨λh=>h.2,λh=>⟨rfl,h⟩⟩
theorem j9{x0 x1 x2:D}:aa T B (n+1) 2 [x0,x1,x2] M Q E=runF T B n cU [some x0,some x1,some x2] M Q E:=propext ⟨λh=>h.2,λh=>⟨rfl,h⟩⟩
theorem jm{x0 x1 x2 x3 x4:D}:aa T B (n+1) 4 [x0,x1,x2,x3,x4] M Q E=runF T B n cB [some x0,some x1,some x2,some x3,some x4] M Q E:=propext ⟨λh=>h.2,λh=>⟨rfl,h⟩⟩
theorem j5{x0 x1 x2 x3:D}:aa T B (n+1) 6 [x0,x1,x2,x3] M Q E=runF T B n cY [some x0,some x1,some x2,some x3] M Q E:=propext ⟨λh=>h.2,λh=>⟨rfl,h⟩⟩
theorem kh{x0 x1 x2 x3:D}:aa T B (n+1) 8 [x0,x1,x2,x3] M Q E=runF T B n cW [some x0,some x1,some x2,some x3] M Q E:=propext ⟨λh=>h.2,λh=>⟨rfl,h⟩⟩
theorem lP{x0 x1:D}:aa T B (n+1) 10 [x0,x1] M Q E=runF T B n dQ [some x0,some x1] M Q E:=propext ⟨λh=>h.2,λh=>⟨rfl,h⟩⟩
theorem nB{x0:D}:aa T B (n+1) 11 [x0] M Q E=runF T B n eu [some x0] M Q E:=propext ⟨λh=>h.2,λh=>⟨rfl,h⟩⟩
theorem cQ{x0:D}:aa T B (n+1) 12 [x0] M Q E=runF T B n br [some x0,none] M Q E:=propext ⟨λh=>h.2,λh=>⟨rfl,h⟩⟩
theorem pk{x0 x1:D}:aa T B (n+1) 13 [x0,x1] M Q E=runF T B n fR [some x0,some x1,none] M Q E:=propext ⟨λh=>h.2,λh=>⟨rfl,h⟩⟩
theorem wP{x0:D}:aa T B (n+1) 14 [x0] M Q E=runF T B n lJ [some x0,none,none,none] M Q E:=propext ⟨λh=>h.2,λh=>⟨rfl,h⟩⟩
theorem i5{x0:D}:aa T B (n+1) 15 [x0] M Q E=aR {toWB:=B,call:=aa T B n} cC {nx:=λ_ M'=>Q .j_ M',rt:=λv M'=>Q v M'} (λ_ i M'=>E i (aw M M')) [some x0] M:=propext ⟨λh=>h.2,λh=>⟨rfl,h⟩⟩
theorem kn{x0 x1:D}:aa T B (n+1) 16 [x0,x1] M Q E=runF T B n cX [some x0,some x1,none] M Q E:=propext ⟨λh=>h.2,λh=>⟨rfl,h⟩⟩
theorem gu{x0 x1 x2:D}:aa T B (n+1) 17 [x0,x1,x2] M Q E=runF T B n bw [some x0,some x1,some x2,none] M Q E:=propext ⟨λh=>h.2,λh=>⟨rfl,h⟩⟩
theorem g7{x0 x1 x2:D}:aa T B (n+1) 18 [x0,x1,x2] M Q E=runF T B n bS [some x0,some x1,some x2] M Q E:=propext ⟨λh=>h.2,λh=>⟨rfl,h⟩⟩
theorem xx{x0 x1:D}:aa T B (n+1) 19 [x0,x1] M Q E=runF T B n mj [some x0,some x1,none,none,none] M Q E:=propext ⟨λh=>h.2,λh=>⟨rfl,h⟩⟩
theorem qe{x0 x1:D}:aa T B (n+1) 20 [x0,x1] M Q E=runF T B n iR [some x0,some x1,none,none] M Q E:=propext ⟨λh=>h.2,λh=>⟨rfl,h⟩⟩
theorem bv{x0 x1:D}:aa T B (n+1) 21 [x0,x1] M Q E=runF T B n aP [some x0,some x1,none] M Q E:=propext ⟨λh=>h.2,λh=>⟨rfl,h⟩⟩
theorem t9{x0 x1 x2:D}:aa T B (n+1) 22 [x0,x1,x2] M Q E=runF T B n lI [some x0,some x1,some x2,none,none,none,none,none] M Q E:=propext ⟨λh=>h.2,λh=>⟨rfl,h⟩⟩
theorem BP{x0 x1:D}:aa T B (n+1) 23 [x0,x1] M Q E=aR {toWB:=B,call:=aa T B n} uB {nx:=λ_ M'=>Q .j_ M',rt:=λv M'=>Q v M'} (λ_ i M'=>E i (aw M M')) [some x0,some x1] M:=propext ⟨λh=>h.2,λh=>⟨rfl,h⟩⟩
theorem uL{x0 x1 x2:D}:aa T B (n+1) 24 [x0,x1,x2] M Q E=aR {toWB:=B,call:=aa T B n} lH {nx:=λ_ M'=>Q .j_ M',rt:=λv M'=>Q v M'} (λ_ i M'=>E i (aw M M')) [some x0,some x1,some x2] M:=propext ⟨λh=>h.2,λh=>⟨rfl,h⟩⟩
theorem iY{x0 x1:D}:aa T B (n+1) 25 [x0,x1] M Q E=runF T B n cM [some x0,some x1] M Q E:=propext ⟨λh=>h.2,λh=>⟨rfl,h⟩⟩
theorem gP{x0 x1:D}:aa T B (n+1) 26 [x0,x1] M Q E=runF T B n bO [some x0,some x1] M Q E:=propext ⟨λh=>h.2,λh=>⟨rfl,h⟩⟩
theorem ja{x0 x1 x2:D}:aa T B (n+1) 27 [x0,x1,x2] M Q E=aR {toWB:=B,call:=aa T B n} cJ {nx:=λ_ M'=>Q .j_ M',rt:=λv M'=>Q v M'} (λ_ i M'=>E i (aw M M')) [some x0,some x1,some x2,none,none,none,none,none,none] M:=propext ⟨λh=>h.2,λh=>⟨rfl,h⟩⟩
theorem gz{x0 x1 x2 x3 x4:D}:aa T B (n+1) 28 [x0,x1,x2,x3,x4] M Q E=runF T B n bB [some x0,some x1,some x2,some x3,some x4] M Q E:=propext ⟨λh=>h.2,λh=>⟨rfl,h⟩⟩
theorem eX{x0 x1:D}:aa T B (n+1) 29 [x0,x1] M Q E=runF T B n bo [some x0,some x1] M Q E:=propext ⟨λh=>h.2,λh=>⟨rfl,h⟩⟩
theorem fg{x0 x1 x2:D}:aa T B (n+1) 30 [x0,x1,x2] M Q E=runF T B n bh [some x0,some x1,some x2] M Q E:=propext ⟨λh=>h.2,λh=>⟨rfl,h⟩⟩
theorem ft{x0:D}:aa T B (n+1) 31 [x0] M Q E=runF T B n bT [some x0] M Q E:=propext ⟨λh=>h.2,λh=>⟨rfl,h⟩⟩
theorem dg{x0 x1:D}:aa T B (n+1) 32 [x0,x1] M Q E=runF T B n be [some x0,some x1] M Q E:=propext ⟨λh=>h.2,λh=>⟨rfl,h⟩⟩
theorem iE{x0 x1 x2:D}:aa T B (n+1) 33 [x0,x1,x2] M Q E=runF T B n b9 [some x0,some x1,some x2] M Q E:=propext ⟨λh=>h.2,λh=>⟨rfl,h⟩⟩
theorem gY{x0 x1:D}:aa T B (n+1) 35 [x0,x1] M Q E=runF T B n bR [some x0,some x1,none] M Q E:=propext ⟨λh=>h.2,λh=>⟨rfl,h⟩⟩
theorem uh{x0 x1:D}:aa T B (n+1) 36 [x0,x1] M Q E=runF T B n j1 [some x0,some x1] M Q E:=propext ⟨λh=>h.2,λh=>⟨rfl,h⟩⟩
theorem vg{x0 x1 x2 x3:D}:aa T B (n+1) 37 [x0,x1,x2,x3] M Q E=aR {toWB:=B,call:=aa T B n} me {nx:=λ_ M'=>Q .j_ M',rt:=λv M'=>Q v M'} (λ_ i M'=>E i (aw M M')) [some x0,some x1,some x2,some x3] M:=propext ⟨λh=>h.2,λh=>⟨rfl,h⟩⟩
theorem fv{x0 x1:D}:aa T B (n+1) 38 [x0,x1] M Q E=runF T B n bY [some x0,some x1] M Q E:=propext ⟨λh=>h.2,λh=>⟨rfl,h⟩⟩
theorem mi{x0 x1:D}:aa T B (n+1) 39 [x0,x1] M Q E=runF T B n dD [some x0,some x1,none,none,none] M Q E:=propext ⟨λh=>h.2,λh=>⟨rfl,h⟩⟩
theorem lC{x0 x1:D}:aa T B (n+1) 40 [x0,x1] M Q E=runF T B n eV [some x0,some x1,none] M Q E:=propext ⟨λh=>h.2,λh=>⟨rfl,h⟩⟩
theorem mW{x0:D}:aa T B (n+1) 41 [x0] M Q E=runF T B n eD [some x0,none,none,none,none,none,none,none,none,none] M Q E:=propext ⟨λh=>h.2,λh=>⟨rfl,h⟩⟩
theorem ox{x0:D}:aa T B (n+1) 42 [x0] M Q E=runF T B n fM [some x0] M Q E:=propext ⟨λh=>h.2,λh=>⟨rfl,h⟩⟩
theorem sD{x0 x1 x2 x3 x4:D}:aa T B (n+1) 43 [x0,x1,x2,x3,x4] M Q E=runF T B n gQ [some x0,some x1,some x2,some x3,some x4,none,none,none] M Q E:=propext ⟨λh=>h.2,λh=>⟨rfl,h⟩⟩
theorem gL{x0 x1 x2 x3 x4:D}:aa T B (n+1) 44 [x0,x1,x2,x3,x4] M Q E=runF T B n dq [some x0,some x1,some x2,some x3,some x4,none,none,none] M Q E:=propext ⟨λh=>h.2,λh=>⟨rfl,h⟩⟩
theorem oS{x0 x1 x2 x3:D}:aa T B (n+1) 45 [x0,x1,x2,x3] M Q E=runF T B n fx [some x0,some x1,some x2,some x3] M Q E:=propext ⟨λh=>h.2,λh=>⟨rfl,h⟩⟩
theorem pW{x0 x1 x2:D}:aa T B (n+1) 46 [x0,x1,x2] M Q E=runF T B n fO [some x0,some x1,some x2,none,none,none,none,none,none,none,none,none,none,none,none,none,none,none] M Q E:=propext ⟨λh=>h.2,λh=>⟨rfl,h⟩⟩
theorem iu{x0:D}:aa T B (n+1) 47 [x0] M Q E=runF T B n cS [some x0,none,none,none] M Q E:=propext ⟨λh=>h.2,λh=>⟨rfl,h⟩⟩
theorem mh{x0 x1:D}:aa T B (n+1) 48 [x0,x1] M Q E=runF T B n dL [some x0,some x1,none,none] M Q E:=propext ⟨λh=>h.2,λh=>⟨rfl,h⟩⟩
theorem pq{x0 x1 x2:D}:aa T B (n+1) 49 [x0,x1,x2] M Q E=runF T B n fD [some x0,some x1,some x2,none,none,none,none,none] M Q E:=propext ⟨λh=>h.2,λh=>⟨rfl,h⟩⟩
theorem pV{x0 x1 x2 x3:D}:aa T B (n+1) 50 [x0,x1,x2,x3] M Q E=runF T B n fS [some x0,some x1,some x2,some x3,none,none] M Q E:=propext ⟨λh=>h.2,λh=>⟨rfl,h⟩⟩
theorem qg{x0 x1:D}:aa T B (n+1) 51 [x0,x1] M Q E=runF T B n iQ [some x0,some x1,none,none,none] M Q E:=propext ⟨λh=>h.2,λh=>⟨rfl,h⟩⟩
theorem B5{x0:D}:aa T B (n+1) 52 [x0] M Q E=runF T B n nJ [some x0,none,none,none,none,none,none,none,none,none,none,none,none] M Q E:=propext ⟨λh=>h.2,λh=>⟨rfl,h⟩⟩
end
theorem top_mk{P:Params}{h:Heap}{mg:Str->Option Value}(X:(HD.K P).In h)(Gn:h.Ns mainGlobals mg)
  {qt0:Tok}
  (PL:PySem.W.nsIn (HD.K P) mainGlobals "MOST_HANDS"=some (some (.int (6) qt0)))
  {h6:Addr}{xod6 xan6:Option Addr}{xsl6:Array (Option Value)}{xoc6 xkV6 xdc6 xpm6 xcd6 xct6:Value}
  (x6:d7 (HD.K P) 111=true)
  (OP:PySem.W.findIn (HD.K P) (.ref 111) "__init__"=some (some (.ref h6)))
  (OQ:(HD.K P).lookup h6=some ⟨xoc6,xod6,.func (PySem.W.fnOf "__init__" "Backward.__init__" (bU (ar (top 8) 0)) (bb (ar (top 8) 0)) (aA (ar (top 8) 0)) .none xkV6 xdc6 xpm6 xan6 xcd6 xct6),xsl6⟩)
  {PM:Str}{Sk:Nat}{PN Oc PQ PR Od PU PV PX PY PZ Sl Sm:Pos}
  (P0:bb (ar (top 8) 0)=[.Expr (.Call (.Attribute (.Name "DriftError" PN) "__init__" Oc) [.Name "self" PQ,.Constant (.str PM) Sk PR] [] Od) PU,.Assign [.Attribute (.Name "self" PV) "last" PX] (.Name "last" PY) PZ])
  (P6:tR "self" "last" "DriftError" (aA (ar (top 8) 0)) Oc Od=true)
  (OR:PySem.W.codeIn (HD.K P) xcd6 "Backward.__init__"=true)
  (P7:PySem.W.keepIn (HD.K P) (.ref h6)=true)
  (OS:PySem.W.typeIn (HD.K P) (.ref h6)=some (.type "function"))
  : ∃cls c_ d_,Top (HD.K P) mg L nm (B cls c_ d_):=by
 refine⟨λi=>([31,44,56,68,80,92,111,123,135]:List Nat).getD i 0,λi=>([161,196,229,262,295,354,499]:List Nat).getD i 0,λi=>([144,158,179,186,212,219,245,252,278,285,302,309,316,323,330,344,351,365,372,379,386,393,400,405,412,419,426,440,447,454,461,468,475,482,496,510,515,522,529,536,543,550,555,562,567,574,579,586,593,598,605,610,615]:List Nat).getD i 0,Top.of (fT:=fokT) (mT:=mthT) (iT:=Ds) X Gn (by kernel_rfl) (by kernel_rfl) (by kernel_rfl) (ixc (n1 (by intros;rfl)) (ixc (n3 (by intros;rfl)) (ixc (n3 (by intros;rfl)) (ixc (n1 (by intros;rfl)) (ixc (n5 (by intros;rfl)) (ixc (n1 (by intros;rfl)) (ixc (n4 (by intros;rfl)) (ixc (n1 (by intros;rfl)) (ixc (n4 (by intros;rfl)) (ixc (n1 (by intros;rfl)) (ixc (n2 (by intros;rfl)) (ixc (n1 (by intros;rfl)) (ixc (n1 (by intros;rfl)) (ixc (n2 (by intros;rfl)) (ixc (n1 (by intros;rfl)) (ixc (n1 (by intros;rfl)) (ixc (n2 (by intros;rfl)) (ixc (n3 (by intros;rfl)) (ixc (n3 (by intros;rfl)) (ixc (n2 (by intros;rfl)) (ixc (n2 (by intros;rfl)) (ixc (n2 (by intros;rfl)) (ixc (n3 (by intros;rfl)) (ixc (n2 (by intros;rfl)) (ixc (n3 (by intros;rfl)) (ixc (n2 (by intros;rfl)) (ixc (n2 (by intros;rfl)) (ixc (n3 (by intros;rfl)) (ixc (n5 (by intros;rfl)) (ixc (n2 (by intros;rfl)) (ixc (n3 (by intros;rfl)) (ixc (n1 (by intros;rfl)) (ixc (n2 (by intros;rfl)) (ixc (n3 (by intros;rfl)) (ixc (n3 (by intros;rfl)) (ixc (n2 (by intros;rfl)) (ixc (n2 (by intros;rfl)) (ixc (n4 (by intros;rfl)) (ixc (n2 (by intros;rfl)) (ixc (n2 (by intros;rfl)) (ixc (n2 (by intros;rfl)) (ixc (n1 (by intros;rfl)) (ixc (n1 (by intros;rfl)) (ixc (n5 (by intros;rfl)) (ixc (n5 (by intros;rfl)) (ixc (n4 (by intros;rfl)) (ixc (n3 (by intros;rfl)) (ixc (n1 (by intros;rfl)) (ixc (n2 (by intros;rfl)) (ixc (n3 (by intros;rfl)) (ixc (n4 (by intros;rfl)) (ixc (n2 (by intros;rfl)) (ixc (n1 (by intros;rfl)) (ixn)))))))))))))))))))))))))))))))))))))))))))))))))))))) (by kernel_rfl) (by kernel_rfl) (by kernel_rfl) (by kernel_rfl) (λ_ _=>rfl) (λ_ _=>rfl) (λ_=>rfl) (by kernel_rfl) ?_ ?_ ?_ (CW (by kernel_rfl))⟩
 ·intro k x hi
  match k,hi with
  |0,hi=>cases hi;exact⟨_,.int (6),PySem.W.mg_of X Gn PL,⟨_,rfl⟩,λH=>rfl⟩
  |n+1,hi=>simp[nm]at hi
 ·intro i f hx;have hx:=cH (show [(6,245166316)].lookup i=some f from hx);simp only[Iv,Prod.mk.injEq,Jh,or_false]at hx;rcases hx with ⟨rfl,rfl⟩
  ·refine⟨rfl,h6,_,["self","last"],?_,.all ((yH (st:=ar (top 8) 0) OQ OR P7).bindsE λ_ _ _ _ _ _=>usS λ_=>usS λ_=>us0 rfl),λP w base=>?_⟩<;>rw[AT]
   ·exact⟨x6,OP,OS,by kernel_rfl,by kernel_rfl,by kernel_rfl,by kernel_rfl,by kernel_rfl⟩
   ·exact yM P0 P6 OQ OR (PySem.W.mg_of X Gn (v:=.ref 31) (by kernel_rfl)) ⟨by kernel_rfl,by kernel_rfl,by kernel_rfl⟩ ⟨x6,OP,OS,by kernel_rfl,by kernel_rfl,by kernel_rfl,by kernel_rfl,by kernel_rfl⟩
 ·intro i f hi hx;have hx:=cH (show [(6,245166316)].lookup i=some f from hx);simp only[Iv,Prod.mk.injEq,Jh,or_false]at hx;rcases hx with ⟨rfl,rfl⟩
  ·show PySem.W.findIn (HD.K P) (.ref 111) (fnm 245166316)=some none
   kernel_rfl
end G
namespace G
open L2
section
variable {cls c_ d_:Nat->PySem.Addr}{M:MH}{Q:VK3}{E:XN}{n:Nat}{p q d:PySem.Addr}{cl ds:List D}{ks:List (List Int)}
noncomputable abbrev fC:Nat:=136762133858116729320171
noncomputable abbrev fW:Nat:=8355170983792620267
structure Wd (c_:Nat->PySem.Addr)(M:MH)(p q d:PySem.Addr)(cl:List D) (ks:List (List Int)) (ds:List D):Prop where
 ip:M p=some (.ins 6 (c_ 6) [fC,fW] [.ref q,.ref d])
 iq:M q=some (.lst cl)
 id:M d=some (.dt ks ds)
theorem Cv(h:Wd c_ M p q d cl ks ds):cI (B cls c_ d_) fC (.ref p) M Q=Q (.ref q) M:=by
 simp[cI,h.ip,gJ,fC,fW]
theorem yj(h:Wd c_ M p q d cl ks ds):cI (B cls c_ d_) fW (.ref p) M Q=Q (.ref d) M:=by
 simp[cI,h.ip,gJ,fC,fW]
theorem g6(h:Wd c_ M p q d cl ks ds)(hm:mth 6 m=some f)(h1:fC≠m)(h2:fW≠m):eE (B cls c_ d_) m (.ref p) M R=R f:=by
 simp[eE,h.ip,hm,h1,h2,eZ]
theorem wT(h:Wd c_ M p q d cl ks ds):aa T (B cls c_ d_) (n+1) 31 [.ref p] M Q E=Q (.int cl.length) M:=by
 simp[ft,bT,Cv h];simp[rBi,ai,aC,h.iq]
theorem ph(h:Wd c_ M p q d cl ks ds):aa T (B cls c_ d_) (n+2) 32 [.ref p,.int i] M Q E=Q (.bl (decide (0<=i)&&decide (i<cl.length))) M:=by
 simp[dg,be];by_cases h0:0<=i
 ·simp[h0];rw[g6 h (f:=31) (by decide) (by decide) (by decide),wT h]
  simp
 ·simp[h0]
noncomputable def okH(n:Nat)(i:Int):Bool:=decide (0<=i)&&decide (i<n)
theorem fq(h:Wd c_ M p q d cl ks ds)(ho:okH cl.length i=true):aa T (B cls c_ d_) (n+3) 29 [.ref p,.int i] M Q E=Q .j_ M:=by
 simp[eX,bo];rw[g6 h (f:=32) (by decide) (by decide) (by decide),ph h]
 unfold okH at ho;rw[ho];simp
theorem ke(h:Wd c_ M p q d cl ks ds)(h1:okH cl.length i=true)(h2:okH cl.length j=true)(h3:i≠j):aa T (B cls c_ d_) (n+4) 30 [.ref p,.int i,.int j] M Q E=Q .j_ M:=by
 simp[fg,bh];rw[g6 h (f:=29) (by decide) (by decide) (by decide),fq h h1]
 rw[g6 h (f:=29) (by decide) (by decide) (by decide),fq h h2]
 simp[h3]
noncomputable def mF(l:Int)(m:Option Int):Bool:=decide (l<0)||(match m with|some m=>decide (m<l)|none=>false)
theorem sf(hb:mF l m=false):aa T (B cls c_ d_) (n+1) 26 [.int l,oi m] M Q E=Q .j_ M:=by
 simp only[mF,Bool.or_eq_false_iff,decide_eq_false_iff_not]at hb;simp only[gP,bO];cases m with
 |none=>simp[hb.1,oi]
 |some m=>
  have h2:¬ m<l:=of_decide_eq_false hb.2;simp[hb.1,h2,oi]
noncomputable def mv(p:Int×Int):Bool:=decide (p.1<1)||decide (p.2<p.1)
theorem wb(hb:mv (a,b)=false):aa T (B cls c_ d_) (n+1) 25 [.int a,.int b] M Q E=Q .j_ M:=by
 simp only[mv,Bool.or_eq_false_iff,decide_eq_false_iff_not]at hb;simp[iY,cM,hb.1,hb.2]
theorem CS(h:Wd c_ M p q d cl ks ds)(hl:ks.length=ds.length):az .In (.tup [.int i,.int j]) (.ref d) M Q=Q (.bl (decide ([i,j]∈ks))) M:=by
 have e:(getD ks ds [i,j]).isSome=decide ([i,j]∈ks):=by
  clear h
  induction ks generalizing ds with
  |nil=>cases ds<;>simp[getD]
  |cons k ks ih=>
   cases ds with
   |nil=>simp at hl
   |cons x ds=>
    simp only[getD];by_cases e:k=[i,j]
    ·simp[e]
    ·rw[Im e,ih (by simpa using hl)]
     simp[IB e]
 simp[az,iF,aC,ai,h.id,gD,eW,iD,fF,cO,e]
theorem i6:∀{ks:List (List Int)},k∉ks->ah ks k=ks++[k]
 |[],_=>rfl
 |a::ks,h=>by
  have h1:a≠k:=λe=>h (by simp[e])
  have h2:k∉ks:=λe=>h (by simp[e])
  simp[ah,h1,i6 h2]
noncomputable def way(l:Int)(m:Option Int):D:=.tup [.int l,oi m]
theorem xk(h:Wd c_ M p q d cl ks ds)(hl:ks.length=ds.length)(hz:ks.length<1000)(h1:okH cl.length i=true)(h2:okH cl.length j=true)(h3:i≠j)(h4:[i,j]∉ks)(h5:mF l m=false):aa T (B cls c_ d_) (n+5) 28 [.ref p,.int i,.int j,.int l,oi m] M Q E=Q .j_ (put M d (.dt (ah ks [i,j]) (ak ks ds [i,j] (way l m)))):=by
 have hs:ks.length<PySem.sizeLine:=Iw hz (by decide)
 simp[gz,bB];rw[g6 h (f:=30) (by decide) (by decide) (by decide),ke h h1 h2 h3]
 simp[aq];rw[show cI (B cls c_ d_) 8355170983792620267 (.ref p) M _=_ from yj h];rw[CS h hl];simp[h4];rw[sf h5];rw[show cI (B cls c_ d_) 8355170983792620267 (.ref p) M _=_ from yj h];simp[bp,h.id,fF,cO,hs,c9 h.id,way]
noncomputable def cD(p:Int×Int):D:=.tup [.int p.1,.int p.2]
structure Wy where
 i:Int
 j:Int
 l:Int
 m:Option Int
noncomputable def wD(w:Wy):D:=.tup [.int w.i,.int w.j,.int w.l,oi w.m]
theorem cK{M:MH}{a b:PySem.Addr}{x y z:DO}(h:a≠b):put (put (put M a x) b y) a z=put (put M a z) b y:=by
 funext c;unfold put;by_cases h1:c=a
 ·subst h1;simp[h]
 ·simp[h1]
theorem eT(h:a≠b)(h':a≠c):put (put (put (put M a x) b y) c w) a z=put (put (put M a z) b y) c w:=by
 funext e;unfold put;by_cases h1:e=a
 ·subst h1;simp[h,h']
 ·simp[h1]
theorem gF{ns:List Nat}(h:M p=some (.ins i C ns es)):fj (B cls c_ d_) f y R (.ref p) M=((C=(B cls c_ d_).c_ i/\i<(B cls c_ d_).nk/\(B cls c_ d_).fok i f=true/\ns.length<1000)/\R (put M p (.ins i C (cq f ns) (cj f y ns es)))):=by
 simp[fj,h]
noncomputable def pr(w:Wy):List Int:=[w.i,w.j]
noncomputable def wv(w:Wy):D:=way w.l w.m
structure Wy.good (n:Nat)(w:Wy):Prop where
 i:okH n w.i=true
 j:okH n w.j=true
 ne:w.i≠w.j
 l:mF w.l w.m=false
theorem ji:∀{ks:List (List Int)}{ds:List D},ks.length=ds.length->k∉ks->ak ks ds k v=ds++[v]
 |[],[],_,_=>rfl
 |a::ks,e::ds,hl,h=>by
  have h1:a≠k:=λz=>h (by simp[z])
  have h2:k∉ks:=λz=>h (by simp[z])
  simp[ak,h1,ji (by simpa using hl) h2]
theorem lj{S:MH->Prop}(hS:S M){De:Ends3}{ES:St3->XN}{R:Prop}{x0 x1 x2 x5 x6 x7 x8:Option D}:∀(f_:List (Int×Int)) (x3 x4:Option D),(∀c∈f_,mv c=false)->(∀x y,De.nx [x0,x1,x2,x,y,x5,x6,x7,x8] M=R)->
  bM ⟨(B cls c_ d_),aa T (B cls c_ d_) (n+1)⟩ (.tup [3,4]) bI ES S De (f_.map cD) [x0,x1,x2,x3,x4,x5,x6,x7,x8] M=R
 |[],x3,x4,_,hR=>by simp[aZ,hR,hS]
 |(c1,c2)::r,x3,x4,hc,hR=>by
  have ih:=lj hS (De:=De) (ES:=ES) (R:=R) (x0:=x0) (x1:=x1) (x2:=x2) (x5:=x5) (x6:=x6) (x7:=x7) (x8:=x8) r (some (.int c1)) (some (.int c2)) (λc h=>hc c (Io _ h)) hR
  have h':=hc (c1,c2) Ix;rw[Ip,aD];simp only[bI,cD]at ih ⊢;rw[<-ih];simp[wb,h',hS]
theorem jv{S:MH->Prop}{Mb:MH}(hS:∀ks ds,S (put Mb d (.dt ks ds)))(hw:∀ks ds,Wd c_ (put Mb d (.dt ks ds)) p q d cl ks ds){De:Ends3}{ES:St3->XN}{R:Prop}{x1 x2 x3 x4:Option D}:∀(wy:List Wy) (ks:List (List Int)) (ds:List D)(x5 x6 x7 x8:Option D),ks.length=ds.length->ks.length+wy.length<500->
  (∀w∈wy,w.good cl.length)->(wy.map pr).Nodup->(∀w∈wy,pr w∉ks)->(∀x5 x6 x7 x8,De.nx [some (.ref p),x1,x2,x3,x4,x5,x6,x7,x8] (put Mb d (.dt (ks++wy.map pr) (ds++wy.map wv)))=R)->
  bM ⟨(B cls c_ d_),aa T (B cls c_ d_) (n+5)⟩ (.tup [5,6,7,8]) bD ES S De (wy.map wD) [some (.ref p),x1,x2,x3,x4,x5,x6,x7,x8] (put Mb d (.dt ks ds))=R
 |[],ks,ds,x5,x6,x7,x8,hl,hz,hg,hn,hk,hR=>by
  have:=hR x5 x6 x7 x8;simp at this;simp[aZ,this,hS]
 |w::r,ks,ds,x5,x6,x7,x8,hl,hz,hg,hn,hk,hR=>by
  simp only[IN]at hz;have g:=hg w Ix;have Lg:[w.i,w.j]∉ks:=hk w Ix;rw[Ip,Ja]at hn;have ih:=jv hS hw (De:=De) (ES:=ES) (R:=R) (x1:=x1) (x2:=x2) (x3:=x3) (x4:=x4) r (ks++[[w.i,w.j]]) (ds++[way w.l w.m]) (some (.int w.i)) (some (.int w.j)) (some (.int w.l)) (some (oi w.m)) (by simp[hl]) (by simp;omega) (λv hv=>hg v (Io _ hv)) hn.2 (λv hv=>by
   intro z;rcases IX.mp z with z|z
   ·exact hk v (Io _ hv) z
   ·exact hn.1 (by rw[show pr w=pr v from (IY.mp z).symm];exact List.mem_map_of_mem hv)) (λa b c e=>by
    have:=hR a b c e;simpa [pr,wv] using this)
  rw[Ip,aD];simp only[bD,wD]at ih ⊢;have h1:okH cl.length w.i=true/\okH cl.length w.j=true/\w.i≠w.j:=⟨g.i,g.j,g.ne⟩;simp[sr,hS];rw[g6 (hw ks ds) (f:=28) (by decide) (by decide) (by decide),xk (hw ks ds) hl (by omega) g.i g.j g.ne Lg g.l,bc,i6 Lg,ji hl Lg]
  simpa using ih
noncomputable def wO(c_:Nat->PySem.Addr)(f_:List (Int×Int))(wy:List Wy):D:=.obj 6 (c_ 6) [fC,fW] [.e_ (f_.map cD),.JT (wy.map pr) (wy.map wv)]
theorem xZ{f_:List (Int×Int)}{wy:List Wy}(hM:Fm M)(h1:1<=f_.length)(h6:f_.length<=6)(hc:∀c∈f_,mv c=false)(h2:wy.length<400)(P8:∀w∈wy,w.good f_.length)(hn:(wy.map pr).Nodup) :
  (∀p,M p=none->aa T (B cls c_ d_) (n+6) 27 [.ref p,.e_ (f_.map cD),.e_ (wy.map wD)] (put M p (.ins 6 (c_ 6) [] [])) (λv M2=>v=.j_/\ba Q (.ref p) M2) (λi M'=>E i (del M' p)))=Q (wO c_ f_ wy) M:=by
 refine ao hM λp hp=>?_
 have hz:f_.length<=PySem.sizeLine:=IR (show f_.length<=1000 by omega) (by decide)
 have hB:¬ (f_.length:Int)<1:=by omega
 have hC:¬ (6:Int)<f_.length:=by omega
 have So:¬ f_.length<1:=by omega
 have Sq:¬ 6<f_.length:=by omega
 have Nd:¬ f_=[]:=λz=>by simp[z]at h1
 simp[ja,cJ,hB,hC,So,Sq,Nd];refine iff_of_eq (lj (S:=λ_=>True) trivial f_ none none hc λx y=>?_)
 simp[rBi,aC,ai,hz];refine iff_of_eq (ao (hM.put _ _) λq hq=>?_)
 obtain⟨Nj,hq⟩:=bj hq;rw[show fj (B cls c_ d_) 136762133858116729320171 (.ref q) _ (.ref p) (put (put M p (.ins 6 (c_ 6) [] [])) q (.lst (f_.map cD)))=_ from gF (by rw[aj (IB Nj),af])]
 simp;rw[cK (IB Nj)];refine iff_of_eq (ao ((hM.put _ _).put _ _) λd hd=>?_)
 obtain⟨QP,hd⟩:=bj hd;obtain⟨Mn,hd⟩:=bj hd;rw[show fj (B cls c_ d_) 8355170983792620267 (.ref d) _ (.ref p) (put (put (put M p (.ins 6 (c_ 6) [136762133858116729320171] [.ref q])) q (.lst (f_.map cD))) d (.dt [] []))=_ from gF (by rw[aj (IB Mn),aj (IB Nj),af])]
 simp;rw[eT (IB Nj) (IB Mn)];have hw:∀ks ds,Wd c_ (put (put (put M p (.ins 6 (c_ 6) [fC,fW] [.ref q,.ref d])) q (.lst (f_.map cD))) d (.dt ks ds)) p q d (f_.map cD) ks ds:=λks ds=>
  ⟨by rw[aj (IB Mn),aj (IB Nj),af],by rw[aj (IB QP),af],af⟩
 refine iff_of_eq (jv (S:=λ_=>True) (λks ds=>trivial) hw wy [] [] none none none none rfl (by simp;omega) (by simpa using P8) hn (λw _ z=>by cases z) λx5 x6 x7 x8=>?_)
 rw[List.nil_append,List.nil_append];simp only[ba];rw[(hw _ _).ip];simp only[d4];have e1:∀J_ JK,del (put (put (put M p (.ins 6 (c_ 6) [fC,fW] [.ref q,.ref d])) q (.lst (f_.map cD))) d (.dt J_ JK)) p q=some (.lst (f_.map cD)):=λJ_ JK=>by
  unfold del;rw[Im Nj];exact (hw J_ JK).iq
 rw[e1];have e2:∀J_ JK,del (del (put (put (put M p (.ins 6 (c_ 6) [fC,fW] [.ref q,.ref d])) q (.lst (f_.map cD))) d (.dt J_ JK)) p) q d=some (.dt J_ JK):=λJ_ JK=>by
  unfold del;rw[Im QP,Im Mn];exact (hw J_ JK).id
 simp only[e2];have e3:∀J_ JK,del (del (del (put (put (put M p (.ins 6 (c_ 6) [fC,fW] [.ref q,.ref d])) q (.lst (f_.map cD))) d (.dt J_ JK)) p) q) d=M:=λJ_ JK=>by
  funext a;unfold del put;by_cases a1:a=d
  ·subst a1;simp[hd]
  ·by_cases a2:a=q
   ·subst a2;simp[hq,a1]
   ·by_cases a3:a=p
    ·subst a3;simp[hp,a1,a2]
    ·simp[a1,a2,a3]
 rw[e3];rfl
theorem oo(ns:List Int)(k:Nat):∃x:Int,∀{n:Nat}{M:MH}{Q:VK3}{E:XN},aa T (B cls c_ d_) (n+1) 38 [scr ns,.int k] M Q E=Q (.int x) M:=by
 by_cases h:k<ns.length
 ·obtain⟨x,hx⟩:=DS (cs:=ns) (i:=k) (by omega) (by omega)
  refine⟨x,?_⟩;intro n M Q E;have h':(k:Int)<ns.length:=by omega
  simp[fv,bY,scr,gc hx,h]
 ·refine⟨0,?_⟩;intro n M Q E;simp[fv,bY,scr,h]
theorem jP(lo:Int)(k:Nat):rng lo (k+1)=.int lo::rng (lo+1) k:=by
 simp only[rng,List.range_succ_eq_map,Ip,List.map_map];congr 1
 ·simp
 ·apply List.map_congr_left;intro i _;simp;omega
variable {f_:List (Int×Int)}{wy:List Wy}
theorem o_c:cI (B cls c_ d_) 136762133858116729320171 (wO c_ f_ wy) M Q=Q (.e_ (f_.map cD)) M:=by simp[wO,fC,fW]
theorem o_w:cI (B cls c_ d_) 8355170983792620267 (wO c_ f_ wy) M Q=Q (.JT (wy.map pr) (wy.map wv)) M:=by simp[wO,fC,fW]
theorem o_m(hm:mth 6 m=some f)(h1:fC≠m)(h2:fW≠m):eE (B cls c_ d_) m (wO c_ f_ wy) M R=R f:=by
 simp[wO,hm,h1,h2]
theorem o1:eE (B cls c_ d_) 31081607400 (wO c_ f_ wy) M R=R 31:=o_m (by decide) (by decide) (by decide)
theorem n9:aa T (B cls c_ d_) (n+1) 31 [wO c_ f_ wy] M Q E=Q (.int f_.length) M:=by
 simp[ft,bT,o_c]
theorem ig:aa T (B cls c_ d_) (n+2) 32 [wO c_ f_ wy,.int i] M Q E=Q (.bl (okH f_.length i)) M:=by
 simp[dg,be,okH];by_cases h0:0<=i
 ·simp[h0,o1,n9]
 ·simp[h0]
theorem vh:∀{wy:List Wy},(getD (wy.map pr) (wy.map wv) k).isSome=decide (k∈wy.map pr)
 |[]=>by simp[getD]
 |w::r=>by
  have ih:=vh (k:=k) (wy:=r);simp only[Ip,getD];by_cases e:pr w=k
  ·simp[e]
  ·rw[Im e,ih];simp[IB e]
theorem Bc:az .In (.tup [.int i,.int j]) (.JT (wy.map pr) (wy.map wv)) M Q=Q (.bl (decide ([i,j]∈wy.map pr))) M:=by
 have e:=vh (k:=[i,j]) (wy:=wy);simp[az,iF,aC,ai,gD,eW,iD,fF,cO,e]
theorem oP:aa T (B cls c_ d_) (n+1) 33 [wO c_ f_ wy,.int i,.int j] M Q E=Q (.bl (decide ([i,j]∈wy.map pr))) M:=by
 simp only[iE,b9];simp[aq,↓o_w,↓Bc]
end
section
variable {cls c_ d_:Nat->PySem.Addr}{M:MH}{Q:VK3}{E:XN}{n:Nat}{p q:PySem.Addr}{f_:List (Int×Int)}{wy:List Wy}
theorem jH:aa T (B cls c_ d_) (n+1) 0 [.int i] M Q E=Q (.bl true) M:=by
 simp[oM,fJ]
theorem yI{a b:Int}{E:PySem.Addr->XN}(hM:Fm M):(∀p,M p=none->aa T (B cls c_ d_) (n+2) 2 [.ref p,.int a,.int b] (put M p (.ins 1 (c_ 1) [] [])) (λv M2=>v=.j_/\ba Q (.ref p) M2) (E p))=Q (.obj 1 (c_ 1) [211529960,456806758904562] [.int a,.int b]) M:=
 ao hM λp hp=>by simp[j9,cU,aT,ax,hp]
theorem wW{a b c d:Int}{E:PySem.Addr->XN}(hM:Fm M):(∀p,M p=none->aa T (B cls c_ d_) (n+2) 4 [.ref p,.int a,.int b,.int c,.int d] (put M p (.ins 2 (c_ 2) [] [])) (λv M2=>v=.j_/\ba Q (.ref p) M2) (E p))=Q (.obj 2 (c_ 2) [211529960,456806758904562,32709062885,213725420] [.int a,.int b,.int c,.int d]) M:=
 ao hM λp hp=>by simp[jm,cB,aT,ax,hp]
theorem At{a b c:Int}{E:PySem.Addr->XN}(hM:Fm M):(∀p,M p=none->aa T (B cls c_ d_) (n+2) 6 [.ref p,.int a,.int b,.int c] (put M p (.ins 3 (c_ 3) [] [])) (λv M2=>v=.j_/\ba Q (.ref p) M2) (E p))=Q (.obj 3 (c_ 3) [211529960,456806758904562,14324] [.int a,.int b,.int c]) M:=
 ao hM λp hp=>by simp[j5,cY,aT,ax,hp]
theorem Aq{a b:Int}{c:List D}{E:PySem.Addr->XN}(hM:Fm M):(∀p,M p=none->aa T (B cls c_ d_) (n+2) 8 [.ref p,.int a,.int b,.tup c] (put M p (.ins 4 (c_ 4) [] [])) (λv M2=>v=.j_/\ba Q (.ref p) M2) (E p))=Q (.obj 4 (c_ 4) [211529960,456806758904562,3944367338220] [.int a,.int b,.tup c]) M:=
 ao hM λp hp=>by simp[kh,cW,aT,ax,hp]
inductive Rw where
 |look (h r:Int)|w_ (h r e l:Int)|send (h r t:Int)|take (h r a b:Int)
noncomputable def Rw.d:Rw->D
 |.look h r=>.tup [.str "look",.int h,.int r]
 |.w_ h r e l=>.tup [.str "sight",.int h,.int r,.int e,.int l]
 |.send h r t=>.tup [.str "send",.int h,.int r,.int t]
 |.take h r a b=>.tup [.str "take",.int h,.int r,.tup [.int a,.int b]]
noncomputable def Rw.o(c_:Nat->PySem.Addr):Rw->D
 |.look h r=>.obj 1 (c_ 1) [211529960,456806758904562] [.int h,.int r]
 |.w_ h r e l=>.obj 2 (c_ 2) [211529960,456806758904562,32709062885,213725420] [.int h,.int r,.int e,.int l]
 |.send h r t=>.obj 3 (c_ 3) [211529960,456806758904562,14324] [.int h,.int r,.int t]
 |.take h r a b=>.obj 4 (c_ 4) [211529960,456806758904562,3944367338220] [.int h,.int r,.tup [.int a,.int b]]
noncomputable def Rw.kd:Rw->Nat
 |.look ..=>1
 |.w_ ..=>2
 |.send ..=>3
 |.take ..=>4
theorem CI{r:Rw}{c}(j:Nat)(hj:j=2\/j=3\/j=4):wpT ⟨B cls c_ d_,c⟩ (.val (.K_ V2 j)) [x,y,some (r.o c_)] M R E=R (r.kd == j) M:=by
 rcases hj with rfl|rfl|rfl<;>cases r<;>simp[Rw.o,Rw.kd]
theorem CF{r:Rw}{c}(j:Nat)(hj:j=2\/j=3\/j=4):wpT ⟨B cls c_ d_,c⟩ (.val (.K_ V1 j)) [x,some (r.o c_),y] M R E=R (r.kd == j) M:=by
 rcases hj with rfl|rfl|rfl<;>cases r<;>simp[Rw.o,Rw.kd]
theorem oJ{ns:List Int}(hM:Fm M)(hl:ns.length<1000):aa T (B cls c_ d_) (n+2) 10 [.tup (ns.map D.int),.int k] M Q E=Q (.bl (decide ((ns.length:Int)=k))) M:=by
 simp[lP,dQ];by_cases h:(ns.length:Int)=k
 ·simp[h,av];rw[aL D.int (λ_=>true) (λ_=>.bl true) hM (by omega) (λ_ _ _ _ _=>rfl) (λi _ _ M' Th Q'=>by simp[jH])]
  rw[qp (λ_=>true) (λ_ _=>rfl)]
  have:∀l:List Int,(l.all λ_=>true)=true:=λl=>IL.mpr λ_ _=>rfl
  simp[this]
 ·simp[h]
theorem zY(hM:Fm M):aa T (B cls c_ d_) (n+2) 10 [.tup [.int a,.int b],.int k] M Q E=Q (.bl (decide (2=k))) M:=oJ (ns:=[a,b]) hM (by simp)
theorem Gm(hM:Fm M):aa T (B cls c_ d_) (n+2) 10 [.tup [.int a,.int b,.int c],.int k] M Q E=Q (.bl (decide (3=k))) M:=oJ (ns:=[a,b,c]) hM (by simp)
theorem Fy(hM:Fm M):aa T (B cls c_ d_) (n+2) 10 [.tup [.int a,.int b,.int c,.int d],.int k] M Q E=Q (.bl (decide (4=k))) M:=oJ (ns:=[a,b,c,d]) hM (by simp)
theorem vC(hM:Fm M):aa T (B cls c_ d_) (n+3) 11 [.tup [.int a,.int b]] M Q E=Q (.bl true) M:=by
 simp[nB,eu,zY hM]
theorem eB(r:Rw)(hM:Fm M):aa T (B cls c_ d_) (n+4) 12 [r.d] M Q E=Q (r.o c_) M:=by
 cases r with
 |look h r=>simp +decide [cQ,br,Rw.d,Rw.o,whole,HT.sIx,dF,zY hM,yI hM,su,r0,sJ]
 |w_ h r e l=>simp +decide [cQ,br,Rw.d,Rw.o,whole,HT.sIx,dF,Fy hM,wW hM,su,r0,sJ,uI]
 |send h r t=>simp +decide [cQ,br,Rw.d,Rw.o,whole,HT.sIx,dF,Gm hM,At hM,su,r0,sJ,uI]
 |take h r a b=>simp +decide [cQ,br,Rw.d,Rw.o,whole,HT.sIx,dF,zY hM,vC hM,Aq hM,su,r0,sJ,uI]
end
section
variable {p q:PySem.Addr}{f_:List (Int×Int)}{wy:List Wy}
noncomputable abbrev fCn:Nat:=3982741043171
noncomputable abbrev fRd:Nat:=65196051402355442
noncomputable abbrev fUn:Nat:=487284377728885
structure St where
 kc:List Key
 dc:List D
 kr:List Key
 dr:List D
 ku:List (List Int)
 du:List D
noncomputable def HS(M0:MH)(a b d:PySem.Addr)(S:St):MH:=put (put (put M0 a (.dk S.kc S.dc)) b (.dk S.kr S.dr)) d (.dt S.ku S.du)
structure Ah (c_:Nat->PySem.Addr)(M0:MH)(p a b d:PySem.Addr):Prop where
 ip:M0 p=some (.ins 5 (c_ 5) [fCn,fRd,fUn] [.ref a,.ref b,.ref d])
 pa:p≠a
 pb:p≠b
 pd:p≠d
 ab:a≠b
 ad:a≠d
 bd:b≠d
variable {S:St}
theorem Ah.gp(h:Ah c_ M0 p a b d):HS M0 a b d S p=some (.ins 5 (c_ 5) [fCn,fRd,fUn] [.ref a,.ref b,.ref d]):=by
 unfold HS;rw[aj h.pd,aj h.pb,aj h.pa];exact h.ip
theorem Ah.ga(h:Ah c_ M0 p a b d):HS M0 a b d S a=some (.dk S.kc S.dc):=by
 unfold HS;rw[aj h.ad,aj h.ab,af]
theorem Ah.gb(h:Ah c_ M0 p a b d):HS M0 a b d S b=some (.dk S.kr S.dr):=by
 unfold HS;rw[aj h.bd,af]
theorem Ah.gd(h:Ah c_ M0 p a b d):HS M0 a b d S d=some (.dt S.ku S.du):=af
theorem Ah.sa(h:Ah c_ M0 p a b d):put (HS M0 a b d S) a (.dk x y)=HS M0 a b d {S with kc:=x,dc:=y}:=by
 unfold HS;rw[eT h.ab h.ad]
theorem Ah.sb(h:Ah c_ M0 p a b d):put (HS M0 a b d S) b (.dk x y)=HS M0 a b d {S with kr:=x,dr:=y}:=by
 unfold HS;rw[cK h.bd]
theorem Ah.sd(h:Ah c_ M0 p a b d):put (HS M0 a b d S) d (.dt x y)=HS M0 a b d {S with ku:=x,du:=y}:=by
 unfold HS;rw[bc]
theorem Ah.keep(h:Ah c_ M0 p a b d):aw (HS M0 a b d S) (HS M0 a b d S')=HS M0 a b d S':=by
 show aw (HS M0 a b d S) (put (put (put M0 a (.dk S'.kc S'.dc)) b (.dk S'.kr S'.dr)) d (.dt S'.ku S'.du))=_;rw[c9 h.gd,c9 h.gb,c9 h.ga];have e:aw (HS M0 a b d S) M0=M0:=by
  funext x;unfold aw;by_cases x1:x=d
  ·subst x1;simp[h.gd]
  ·by_cases x2:x=b
   ·subst x2;simp[h.gb]
   ·by_cases x3:x=a
    ·subst x3;simp[h.ga]
    ·have:HS M0 a b d S x=M0 x:=by unfold HS;rw[aj x1,aj x2,aj x3]
     rw[this];cases M0 x<;>rfl
 rw[e];rfl
theorem Ah.fc(h:Ah c_ M0 p a b d):cI (B cls c_ d_) fCn (.ref p) (HS M0 a b d S) Q=Q (.ref a) (HS M0 a b d S):=by
 simp[cI,h.gp,gJ,fCn,fRd,fUn]
theorem Ah.fr(h:Ah c_ M0 p a b d):cI (B cls c_ d_) fRd (.ref p) (HS M0 a b d S) Q=Q (.ref b) (HS M0 a b d S):=by
 simp[cI,h.gp,gJ,fCn,fRd,fUn]
theorem Ah.fu(h:Ah c_ M0 p a b d):cI (B cls c_ d_) fUn (.ref p) (HS M0 a b d S) Q=Q (.ref d) (HS M0 a b d S):=by
 simp[cI,h.gp,gJ,fCn,fRd,fUn]
noncomputable def Rw.h:Rw->Int
 |.look h _=>h
 |.w_ h _ _ _=>h
 |.send h _ _=>h
 |.take h _ _ _=>h
noncomputable def Rw.r:Rw->Int
 |.look _ r=>r
 |.w_ _ r _ _=>r
 |.send _ r _=>r
 |.take _ r _ _=>r
theorem o9{r:Rw}:cI (B cls c_ d_) 211529960 (r.o c_) M Q=Q (.int r.h) M:=by
 cases r<;>simp[Rw.o,Rw.h]
theorem vG{r:Rw}:cI (B cls c_ d_) 456806758904562 (r.o c_) M Q=Q (.int r.r) M:=by
 cases r<;>simp[Rw.o,Rw.r]
theorem ql{ks:List Key}(hM:M a=some (.dk ks ds))(hz:ks.length<1000)(hc:(getD ks ds (.inl h)).getD (.int 0)=.int c) :
  aa T (B cls c_ d_) (n+1) 13 [.ref a,.int h] M Q E=Q (.tup [.int h,.int c]) (put M a (.dk (ah ks (.inl h)) (ak ks ds (.inl h) (.int (c+1))))):=by
 have hs:ks.length<PySem.sizeLine:=Iw hz (by decide)
 simp[pk,fR,lW hM,qS hM,hc,iX hM,hs,c9 hM,aq]
noncomputable def St.step(S:St)(c:Int)(r:Rw):St:=
 let T:St:={S with kc:=ah S.kc (.inl r.h),dc:=ak S.kc S.dc (.inl r.h) (.int (c+1)),kr:=ah S.kr (.inl r.h),dr:=ak S.kr S.dr (.inl r.h) (.int r.r)}
 match r with
 |.send h _ t=>{T with ku:=ah S.ku [h,c],du:=ak S.ku S.du [h,c] (.int t)}
 |.take _ _ i j=>{T with ku:=aJ S.ku [i,j],du:=aV S.ku S.du [i,j]}
 |_=>T
def Rw.there(r:Rw)(S:St):Prop:=match r with
 |.take h _ i j=>getD S.ku S.du [i,j]=some (.int h)
 |_=>True
theorem uw{r:Rw}(A:Ah c_ M0 p a b d)(hc:(getD S.kc S.dc (.inl r.h)).getD (.int 0)=.int c)(z1:S.kc.length<1000)(z2:S.kr.length<1000)(z3:S.ku.length<1000)(ht:r.there S) :
  aa T (B cls c_ d_) (n+2) 16 [.ref p,r.o c_] (HS M0 a b d S) Q E=Q .j_ (HS M0 a b d (S.step c r)):=by
 have s2:S.kr.length<PySem.sizeLine:=Iw z2 (by decide)
 have s3:S.ku.length<PySem.sizeLine:=Iw z3 (by decide)
 simp only[kn,cX];simp[-tL,↓CF,↓A.fc,↓o9,↓ql A.ga z1 hc,↓A.fr,↓vG,A.sa,↓iX A.gb,s2,A.sb];cases r with
 |look h v=>simp[Rw.kd,A.keep,St.step]
 |w_ h v e l=>simp[Rw.kd,A.keep,St.step]
 |send h v t=>simp[Rw.kd,Rw.o,↓A.fu,bp,A.gd,fF,cO,s3,A.sd,A.keep,St.step,Rw.h,Rw.r]
 |take h v i j=>simp[Rw.kd,Rw.o,↓A.fu,tyB,eW,iD,rBm,A.gd,fF,cO,show getD S.ku S.du [i,j]=some (.int h) from ht,A.sd,A.keep,St.step,Rw.h,Rw.r]
end
section
variable {cls c_ d_:Nat->PySem.Addr}{M:MH}{Q:VK3}{E:XN}{n:Nat}{p q a b d:PySem.Addr}{f_:List (Int×Int)}{wy:List Wy}{M0:MH}{S:St}{r:Rw}
structure Fn (H:Nat)(wy:List Wy)(S:St)(r:Rw):Prop where
 ok:okH H r.h=true
 rd:∀l,getD S.kr S.dr (.inl r.h)=some (.int l)->¬ r.r<l
 sg:∀h v e l,r=.w_ h v e l->¬ l<e
 sn:∀h v t,r=.send h v t->[h,t]∈wy.map pr
 th:r.there S
def allI(ds:List D):Prop:=∀d∈ds,∃l:Int,d=.int l
theorem qV{κ:Type}[DecidableEq κ]{k:κ}{d:D}:∀{ks:List κ}{ds:List D},getD ks ds k=some d->d∈ds
 |[],ds,h=>by simp[getD]at h
 |q::ks,[],h=>by simp[getD]at h
 |q::ks,x::ds,h=>by
  simp only[getD]at h;split at h
  ·cases h;exact Ix
  ·exact Io _ (qV h)
theorem allI.get{κ:Type}[DecidableEq κ]{ks:List κ}{ds:List D}(h:allI ds)(k:κ):getD ks ds k=none\/∃l:Int,getD ks ds k=some (.int l):=by
 cases e:getD ks ds k with
 |none=>exact .inl rfl
 |some d=>obtain⟨l,rfl⟩:=h d (qV e);exact .inr ⟨l,rfl⟩
theorem pZ(h:M a=some (.dk ks ds)):rBm .get (.ref a) [.int i] M Q=Q ((getD ks ds (.inl i)).getD .j_) M:=by simp[rBm,gD,eW,h,pR]
theorem xS(h:M a=some (.dt ks ds)):rBm .get (.ref a) [.tup [.int i,.int j]] M Q=Q ((getD ks ds [i,j]).getD .j_) M:=by simp[rBm,gD,eW,iD,h,fF,cO]
theorem sK(A:Ah c_ M0 p a b d)(hr:allI S.dr)(f:Fn f_.length wy S r):aa T (B cls c_ d_) (n+3) 17 [wO c_ f_ wy,.ref p,r.o c_] (HS M0 a b d S) Q E=Q .j_ (HS M0 a b d S):=by
 have om:∀{M:MH}{R:Nat->Prop},eE (B cls c_ d_) 56782141471387880 (wO c_ f_ wy) M R=R 32:=λ{M R}=>o_m (by decide) (by decide) (by decide)
 simp only[gu,bw];rcases hr.get (ks:=S.kr) (.inl r.h:Key) with e|⟨l,e⟩
 ·simp[↓o9,↓om,↓ig,f.ok,↓A.fr,lW A.gb,↓pZ A.gb,e,D.isN]
 ·simp[↓o9,↓om,↓ig,f.ok,↓A.fr,lW A.gb,↓pZ A.gb,e,↓vG,f.rd l e,D.isN]
theorem vn(A:Ah c_ M0 p a b d)(f:Fn f_.length wy S r):aa T (B cls c_ d_) (n+2) 18 [wO c_ f_ wy,.ref p,r.o c_] (HS M0 a b d S) Q E=Q .j_ (HS M0 a b d S):=by
 have om:∀{M:MH}{R:Nat->Prop},eE (B cls c_ d_) 535528667410664 (wO c_ f_ wy) M R=R 33:=λ{M R}=>o_m (by decide) (by decide) (by decide)
 have tg:tyB .get (.ref d) (HS M0 a b d S)=true:=by simp[tyB,eW,iD,A.gd]
 simp only[g7,bS];simp[-tL,↓CI];cases r with
 |look h v=>simp[Rw.kd]
 |w_ h v e l=>simp[Rw.kd,Rw.o,f.sg _ _ _ _ rfl]
 |send h v t=>simp[Rw.kd,Rw.o,↓om,↓oP,f.sn _ _ _ rfl]
 |take h v i j=>simp[Rw.kd,Rw.o,↓A.fu,tg,↓xS A.gd,show getD S.ku S.du [i,j]=some (.int h) from f.th]
noncomputable def bu(c:Int->Nat)(h:Int):Int->Nat:=λx=>if x=h then c x+1 else c x
structure SI (S:St)(c:Int->Nat)(m:Nat):Prop where
 l1:S.kc.length=S.dc.length
 l2:S.kr.length=S.dr.length
 l3:S.ku.length=S.du.length
 z1:S.kc.length<=m
 z2:S.kr.length<=m
 z3:S.ku.length<=m
 hc:∀h,(getD S.kc S.dc (.inl h)).getD (.int 0)=.int (c h)
 hr:allI S.dr
 hu:allI S.du
theorem nE[DecidableEq κ]:∀{ks:List κ}{ds:List D},x∈ak ks ds k y->x=y\/x∈ds
 |[],ds,h=>by
  cases ds<;>simp[ak]at h<;>simp[h]
 |q::ks,[],h=>by simp[ak]at h;exact .inl h
 |q::ks,d::ds,h=>by
  simp only[ak]at h;split at h
  ·rcases Iv.mp h with h|h
   ·exact .inl h
   ·exact .inr (Io _ h)
  ·rcases Iv.mp h with h|h
   ·exact .inr (h▸Ix)
   ·rcases nE h with h|h
    ·exact .inl h
    ·exact .inr (Io _ h)
theorem allI.put{κ:Type}[DecidableEq κ]{ks:List κ}{ds:List D}(h:allI ds){k:κ}{i:Int}:allI (ak ks ds k (.int i)):=λd hd=>by
 rcases nE hd with rfl|hd
 ·exact⟨i,rfl⟩
 ·exact h d hd
theorem kE[DecidableEq κ]:∀{ks:List κ}{ds:List D},x∈aV ks ds k->x∈ds
 |[],ds,h=>by simpa [aV] using h
 |q::ks,[],h=>by simp[aV]at h
 |q::ks,d::ds,h=>by
  simp only[aV]at h;split at h
  ·exact Io _ h
  ·rcases Iv.mp h with h|h
   ·exact h▸Ix
   ·exact Io _ (kE h)
theorem jq[DecidableEq κ]:∀{ks:List κ}{ds:List D},ks.length=ds.length->(aJ ks k).length=(aV ks ds k).length/\(aJ ks k).length<=ks.length
 |[],[],_=>by simp[aJ,aV]
 |q::ks,d::ds,h=>by
  have ih:=jq (k:=k) (ks:=ks) (ds:=ds) (by simpa using h)
  simp only[aJ,aV];split
  ·exact⟨by simpa using h,by simp⟩
  ·simp;exact ih
theorem SI.step{c:Int->Nat}{m:Nat}(I:SI S c m):SI (S.step (c r.h) r) (bu c r.h) (m+1):=by
 have p1:=aO (ks:=S.kc) (k:=(.inl r.h:Key));have p2:=aO (ks:=S.kr) (k:=(.inl r.h:Key));have z1:=I.z1;have z2:=I.z2;have z3:=I.z3;have base:∀(ku:List (List Int)) (du:List D),ku.length=du.length->ku.length<=m+1->allI du->SI {S with kc:=ah S.kc (.inl r.h),dc:=ak S.kc S.dc (.inl r.h) (.int (c r.h+1)),kr:=ah S.kr (.inl r.h),dr:=ak S.kr S.dr (.inl r.h) (.int r.r),ku:=ku,du:=du} (bu c r.h) (m+1):=λku du a1 a2 a3=>
  ⟨aU I.l1,aU I.l2,a1,by show (ah S.kc _).length<=_;omega,by show (ah S.kr _).length<=_;omega,a2,λx=>by
   show (getD (ah S.kc _) (ak S.kc S.dc _ _) _).getD _=_;rw[cN I.l1];by_cases e:r.h=x
   ·subst e;simp[bu]
   ·have e2:¬ ((Sum.inl r.h:Key)=Sum.inl x):=λz=>e (Sum.inl.inj z)
    rw[Im e2,I.hc x];simp[bu,IB e],I.hr.put,a3⟩
 cases r with
 |look h v=>exact base _ _ I.l3 (by omega) I.hu
 |w_ h v e l=>exact base _ _ I.l3 (by omega) I.hu
 |send h v t=>
  exact base _ _ (aU I.l3) (IR aO (by omega)) I.hu.put
 |take h v i j=>
  obtain⟨d1,d2⟩:=jq (k:=[i,j]) I.l3;exact base _ _ d1 (by omega) λd hd=>I.hu d (kE hd)
def eQ(H:Nat)(wy:List Wy):St->(Int->Nat)->List Rw->Prop
 |_,_,[]=>True
 |S,c,r::rs=>Fn H wy S r/\eQ H wy (S.step (c r.h) r) (bu c r.h) rs
noncomputable def rD:St->(Int->Nat)->List Rw->St
 |S,_,[]=>S
 |S,c,r::rs=>rD (S.step (c r.h) r) (bu c r.h) rs
noncomputable def vd:(Int->Nat)->List Rw->(Int->Nat)
 |c,[]=>c
 |c,r::rs=>vd (bu c r.h) rs
theorem xu(A:Ah c_ M0 p a b d):eE (B cls c_ d_) 30815369061 (.ref p) (HS M0 a b d S) R=R 16:=by
 simp[eE,A.gp,eZ,fCn,fRd,fUn]
theorem vF{De:Ends3}(A:Ah c_ M0 p a b d)(I:SI S c m)(hm:m<900)(f:Fn f_.length wy S r)(hM:Fm (HS M0 a b d S)) :
  aR ⟨(B cls c_ d_),aa T (B cls c_ d_) (n+4)⟩ bP De ES [some (wO c_ f_ wy),x1,some (.ref p),some r.d,x4] (HS M0 a b d S)=De.nx [some (wO c_ f_ wy),x1,some (.ref p),some r.d,some (r.o c_)] (HS M0 a b d (S.step (c r.h) r)):=by
 simp only[bP];simp[↓eB r hM,↓sK A I.hr f,↓vn A f,↓xu A,↓uw A (I.hc r.h) (by have:=I.z1;omega) (by have:=I.z2;omega) (by have:=I.z3;omega) f.th]
theorem Fm.hs(h:Fm M0):Fm (HS M0 a b d S):=((h.put _ _).put _ _).put _ _
theorem n8{De:Ends3}{ES:St3->XN}{x1:Option D}{R:Prop}(A:Ah c_ M0 p a b d)(hM:Fm M0):∀(rs:List Rw)(S:St)(c:Int->Nat)(m:Nat)(x3 x4:Option D),SI S c m->m+rs.length<900->eQ f_.length wy S c rs->
  (∀x3 x4,De.nx [some (wO c_ f_ wy),x1,some (.ref p),x3,x4] (HS M0 a b d (rD S c rs))=R)->
  bM ⟨(B cls c_ d_),aa T (B cls c_ d_) (n+4)⟩ (.name 3) bP ES (λ_=>True) De (rs.map Rw.d) [some (wO c_ f_ wy),x1,some (.ref p),x3,x4] (HS M0 a b d S)=R
 |[],S,c,m,x3,x4,I,hm,hf,hR=>(true_and _).trans (hR x3 x4)
 |r::rs,S,c,m,x3,x4,I,hm,hf,hR=>by
  simp only[IN]at hm;have ih:=n8 (De:=De) (ES:=ES) (x1:=x1) (R:=R) A hM rs (S.step (c r.h) r) (bu c r.h) (m+1) (some r.d) (some (r.o c_)) I.step (by omega) hf.2 hR
  rw[Ip,aD];have one:=vF (cls:=cls) (d_:=d_) (n:=n) (De:={De with nx:=bM ⟨(B cls c_ d_),aa T (B cls c_ d_) (n+4)⟩ (.name 3) bP ES (λ_=>True) De (rs.map Rw.d),ct:=bM ⟨(B cls c_ d_),aa T (B cls c_ d_) (n+4)⟩ (.name 3) bP ES (λ_=>True) De (rs.map Rw.d),bk:=De.nx}) (ES:=ES) (x1:=x1) (x4:=x4) (wy:=wy) (f_:=f_) A I (by omega) hf.1 (Fm.hs hM)
  rw[true_and,qP];show aR _ _ _ _ [some (wO c_ f_ wy),x1,some (.ref p),some r.d,x4] _=R;rw[one];exact ih
end
section
variable {p q:PySem.Addr}{f_:List (Int×Int)}{wy:List Wy}{S:St}{r:Rw}
noncomputable def S0:St:=⟨[],[],[],[],[],[]⟩
theorem si0:SI S0 (λ_=>0) 0:=⟨rfl,rfl,rfl,Iq _,Iq _,Iq _,(λ_=>rfl),(λ_ h=>by cases h),(λ_ h=>by cases h)⟩
theorem rh(h:a≠b)(h':a≠c)(h2:a≠e):put (put (put (put (put M a x) b y) c w) e u) a z=put (put (put (put M a z) b y) c w) e u:=by
 funext k;unfold put;by_cases h1:k=a
 ·subst h1;simp[h,h',h2]
 ·simp[h1]
theorem u0{rows:List Rw}(hM:Fm M)(hl:rows.length<400)(hf:eQ f_.length wy S0 (λ_=>0) rows) :
  aa T (B cls c_ d_) (n+5) 19 [wO c_ f_ wy,.e_ (rows.map Rw.d)] M Q E=Q .j_ M:=by
 simp only[xx,mj];simp;refine iff_of_eq (ao hM λp hp=>?_)
 simp only[i5,cC];simp;refine iff_of_eq (ao (hM.put _ _) λa ha=>?_)
 obtain⟨MW,ha⟩:=bj ha;rw[show fj (B cls c_ d_) 3982741043171 (.ref a) _ (.ref p) (put (put M p (.ins 5 (c_ 5) [] [])) a (.dk [] []))=_ from gF (by rw[aj (IB MW),af])]
 simp;rw[cK (IB MW)];refine iff_of_eq (ao ((hM.put _ _).put _ _) λb hb=>?_)
 obtain⟨LI,hb⟩:=bj hb;obtain⟨Oe,hb⟩:=bj hb;rw[show fj (B cls c_ d_) 65196051402355442 (.ref b) _ (.ref p) (put (put (put M p (.ins 5 (c_ 5) [3982741043171] [.ref a])) a (.dk [] [])) b (.dk [] []))=_ from gF (by rw[aj (IB Oe),aj (IB MW),af])]
 simp;rw[eT (IB MW) (IB Oe)];refine iff_of_eq (ao (((hM.put _ _).put _ _).put _ _) λd hd=>?_)
 obtain⟨I_,hd⟩:=bj hd;obtain⟨P9,hd⟩:=bj hd;obtain⟨Mn,hd⟩:=bj hd;rw[show fj (B cls c_ d_) 487284377728885 (.ref d) _ (.ref p) (put (put (put (put M p (.ins 5 (c_ 5) [3982741043171,65196051402355442] [.ref a,.ref b])) a (.dk [] [])) b (.dk [] [])) d (.dt [] []))=_ from gF (by rw[aj (IB Mn),aj (IB Oe),aj (IB MW),af])]
 simp;rw[rh (IB MW) (IB Oe) (IB Mn)];have A:Ah c_ (put M p (.ins 5 (c_ 5) [fCn,fRd,fUn] [.ref a,.ref b,.ref d])) p a b d:=⟨af,IB MW,IB Oe,IB Mn,IB LI,IB P9,IB I_⟩;have kp:∀S,aw M (HS (put M p (.ins 5 (c_ 5) [fCn,fRd,fUn] [.ref a,.ref b,.ref d])) a b d S)=M:=λS=>by
  funext k;unfold aw HS put;by_cases k1:k=d
  ·subst k1;simp[hd]
  ·by_cases k2:k=b
   ·subst k2;simp[hb]
   ·by_cases k3:k=a
    ·subst k3;simp[ha]
    ·by_cases k4:k=p
     ·subst k4;simp[hp]
     ·simp[k1,k2,k3,k4];cases M k<;>rfl
 exact iff_of_eq (n8 (n:=n) A (hM.put _ _) rows S0 (λ_=>0) 0 none none si0 (by omega) hf λx3 x4=>by simp only[kp])
end
section
variable {cls c_ d_:Nat->PySem.Addr}{M:MH}{Q:VK3}{E:XN}{n:Nat}{p q a b d m:PySem.Addr}{f_:List (Int×Int)}{wy:List Wy}{M0:MH}
variable {r:Rw}
noncomputable def nmF:List Int->(Int->Nat)->List (Int×Nat)
 |[],_=>[]
 |h::r,c=>(h,c h)::nmF r (bu c h)
noncomputable def nD(p:Int×Nat):D:=.tup [.int p.1,.int p.2]
theorem lE:am r.d (.int 1) M Q=Q (.int r.h) M:=by cases r<;>simp[Rw.d,Rw.h]
theorem jd{a b:PySem.Addr}(Kj:a≠b){M0:MH}{De:Ends3}{ES:St3->XN}{R:Prop}{log:Option D}:∀(rs:List Rw)(ks:List Key)(ds acc:List D)(c:Int->Nat)(x3:Option D),ks.length=ds.length->ks.length+rs.length<500->acc.length+rs.length<500->(∀h,(getD ks ds (.inl h)).getD (.int 0)=.int (c h))->
  (∀J_ JK x,De.nx [log,some (.ref a),some (.ref b),x] (put (put M0 a (.dk J_ JK)) b (.lst (acc++(nmF (rs.map Rw.h) c).map nD)))=R)->
  bM ⟨(B cls c_ d_),aa T (B cls c_ d_) (n+1)⟩ (.name 3) dP ES (λ_=>True) De (rs.map Rw.d) [log,some (.ref a),some (.ref b),x3] (put (put M0 a (.dk ks ds)) b (.lst acc))=R
 |[],ks,ds,acc,c,x3,_,_,_,_,hR=>by
  have:=hR ks ds x3;simp[nmF]at this;simp[aZ,this]
 |r::rs,ks,ds,acc,c,x3,hl,h1,h2,hc,hR=>by
  have ha:(put (put M0 a (.dk ks ds)) b (.lst acc)) a=some (.dk ks ds):=by rw[aj Kj,af]
  simp only[IN]at h1 h2;have hs:acc.length<PySem.sizeLine:=Iw (show acc.length<1000 by omega) (by decide)
  have ih:=jd Kj (M0:=M0) (De:=De) (ES:=ES) (R:=R) (log:=log) rs (ah ks (.inl r.h)) (ak ks ds (.inl r.h) (.int (c r.h+1))) (acc++[nD (r.h,c r.h)]) (bu c r.h) (some r.d) (aU hl) (by have:=aO (ks:=ks) (k:=(.inl r.h:Key));omega) (by simp;omega) (λx=>by
    rw[cN hl];by_cases e:r.h=x
    ·subst e;simp[bu]
    ·have e2:¬ ((Sum.inl r.h:Key)=Sum.inl x):=λz=>e (Sum.inl.inj z)
     rw[Im e2,hc x];simp[bu,IB e]) (by
    intro J_ JK x;have:=hR J_ JK x;simpa [nmF] using this)
  rw[Ip,aD];simp[dP,↓lE,ql (n:=n) ha (by omega) (hc r.h),cK Kj,hs]
  simpa [nD,dP] using ih
theorem iJ(rs:List Rw)(hl:rs.length<400)(hM:Fm M):aa T (B cls c_ d_) (n+2) 14 [.e_ (rs.map Rw.d)] M Q E=Q (.e_ ((nmF (rs.map Rw.h) λ_=>0).map nD)) M:=by
 simp[wP,lJ];refine iff_of_eq (ao hM λa ha=>?_)
 simp[aq];refine iff_of_eq (ao (hM.put _ _) λb hb=>?_)
 obtain⟨Kj,hb⟩:=bj hb;refine jd (IB Kj) rs [] [] [] _ _ rfl (by simp;omega) (by simp;omega) (λh=>rfl) λJ_ JK x=>?_
 simp[ha,hb,aj Kj]
theorem tY:∀(hs:List Int)(c:Int->Nat)(h:Int),nmF (hs++[h]) c=nmF hs c++[(h,c h+hs.count h)]
 |[],c,h=>by simp[nmF]
 |x::hs,c,h=>by
  rw[List.cons_append,nmF,nmF,tY hs (bu c x) h];have:bu c x h+hs.count h=c h+(x::hs).count h:=by
   unfold bu;by_cases z:h=x
   ·subst z;simp;omega
   ·rw[Im z,List.count_cons_of_ne (IB z)]
  rw[this];rfl
theorem t7{De:Ends3}{ES:St3->XN}{W:WC}{log:Option D}{h:Int}{c:Nat}:∀(pre post:List (Int×Nat)) (k:Nat)(x2 x3:Option D),(∀p∈pre,¬ (p.1=h/\p.2=c))->
  bM W (.tup [2,3]) bL ES (λ_=>True) De (bg k ((pre++(h,c)::post).map nD)) [log,some (.tup [.int h,.int c]),x2,x3] M=De.rt (.int ((k+pre.length:Nat):Int)) M
 |[],post,k,x2,x3,_=>by
  rw[List.nil_append,Ip,bg,aD];simp[bL,nD,az,dJ,rs,ai,plN,eqD,b8]
 |p::l,post,k,x2,x3,hn=>by
  have ih:=t7 (De:=De) (ES:=ES) (W:=W) (log:=log) l post (k+1) (some (.int k)) (some (nD p)) (λq hq=>hn q (Io _ hq))
  have h0:=hn p Ix;rw[List.cons_append,Ip,bg,aD];have e:(decide (p.1=h)&&decide ((p.2:Int)=(c:Int)))=false:=by
   rw[Bool.and_eq_false_iff];by_cases e1:p.1=h
   ·exact .inr (Jo λz=>h0 ⟨e1,by omega⟩)
   ·exact .inl (Jo e1)
  have e3:k+(p::l).length=k+1+l.length:=by simp;omega
  rw[e3,<-ih];simp[bL,nD,az,dJ,rs,ai,plN,eqD,b8,e]
theorem lF:∀(hs:List Int)(c:Int->Nat)(p:Int×Nat),p∈nmF hs c->p.1∈hs/\c p.1<=p.2/\p.2<c p.1+hs.count p.1
 |[],_,_,h=>by cases h
 |h::r,c,p,hp=>by
  rcases Iv.mp hp with rfl|hp
  ·simp
  ·obtain⟨h1,h2,h3⟩:=lF r _ p hp;unfold bu at h2 h3;by_cases e:p.1=h
   ·subst e;simp at h2 h3 ⊢;omega
   ·rw[Im e]at h2 h3;rw[List.count_cons_of_ne (IB e)];exact⟨Io _ h1,h2,h3⟩
theorem yn:∀(hs:List Int)(c:Int->Nat)(j:Nat)(h:Int),hs[j]?=some h->nmF hs c=nmF (hs.take j) c++(h,c h+(hs.take j).count h)::(nmF hs c).drop (j+1)/\∀p∈nmF (hs.take j) c,¬ (p.1=h/\p.2=c h+(hs.take j).count h)
 |[],_,_,_,e=>by simp at e
 |x::r,c,0,h,e=>by
  simp at e;subst e;simp[nmF]
 |x::r,c,j+1,h,e=>by
  have e':r[j]?=some h:=by simpa using e
  obtain⟨h1,h2⟩:=yn r (bu c x) j h e';have hb:bu c x h+(r.take j).count h=c h+((x::r).take (j+1)).count h:=by
   unfold bu;by_cases z:h=x
   ·subst z;simp;omega
   ·rw[Im z,List.take_succ_cons,List.count_cons_of_ne (IB z)]
  rw[hb]at h1 h2;refine⟨?_,λp hp hq=>?_⟩
  ·simp only[nmF,List.take_succ_cons,List.cons_append,List.drop_succ_cons];rw[List.take_succ_cons]at h1;rw[<-h1]
  ·rw[List.take_succ_cons]at hp;rcases Iv.mp hp with rfl|hp
   ·obtain⟨q1,q2⟩:=hq;simp at q1 q2;subst q1;simp at q2<;>omega
   ·exact h2 p hp hq
theorem hV:∀(hs:List Int)(c:Int->Nat),(nmF hs c).length=hs.length
 |[],_=>rfl
 |h::r,c=>by simp[nmF,hV r]
theorem ou{rs:List Rw}(hl:rs.length<400)(hM:Fm M)(hj:(rs.map Rw.h)[j]?=some h):aa T (B cls c_ d_) (n+3) 20 [.e_ (rs.map Rw.d),.tup [.int h,.int (((rs.map Rw.h).take j).count h:Nat)]] M Q E=Q (.int j) M:=by
 obtain⟨h1,h2⟩:=yn _ (λ_=>0) j h hj
 have t_:(nmF ((rs.map Rw.h).take j) (λ_=>0)).length=j:=by
  rw[hV,List.length_take];have:=(IC.mp hj).1;omega
 simp[qe,iR,iJ rs hl hM];rw[Nat.zero_add]at h1 h2;rw[h1];refine iff_of_eq ((t7 _ _ 0 none none h2).trans ?_);rw[t_];simp
end
section
variable {cls c_ d_:Nat->PySem.Addr}{M:MH}{Q:VK3}{E:XN}{n:Nat}{p q a b c d m:PySem.Addr}{f_:List (Int×Int)}{wy:List Wy}{M0:MH}{r:Rw}
noncomputable def upC(C:List Int):Rw->List Int
 |.take _ _ a b=>C.set a.toNat (max (C.getD a.toNat 0) (b+1))
 |_=>C
def Rw.ltr(H:Nat):Rw->Prop
 |.take _ _ a _=>0<=a/\a<H
 |_=>True
theorem qB{C:List Int}:(upC C r).length=C.length:=by cases r<;>simp[upC]
theorem qG{k m:Nat}(h:k<m):ixN m (k:Int)=some k:=by
 have h1:(k:Int)<m:=by omega
 simp[ixN,h]
theorem pf{C:List Int}(h:k<C.length):atI (C.map D.int) (k:Int)=some (.int (C.getD k 0)):=bX (by simp[h])
theorem FK{C:List Int}(hM:M c=some (.lst (C.map D.int)))(hr:r.ltr C.length):aa T (B cls c_ d_) (n+1) 21 [.ref c,r.o c_] M Q E=Q .j_ (put M c (.lst ((upC C r).map D.int))):=by
 have e0:put M c (.lst (C.map D.int))=M:=by
  funext x;unfold put;by_cases e:x=c
  ·subst e;simp[hM]
  ·simp[e]
 cases r with
 |take h r a b=>
  obtain⟨h0,h1⟩:=hr;obtain⟨k,rfl⟩:∃k:Nat,a=k:=⟨a.toNat,by omega⟩
  have hk:k<C.length:=by omega
  have i1:∀{Q:VK3},am (.ref c) (.int (k:Int)) M Q=Q (.int (C.getD k 0)) M:=λ{Q}=>by rw[mG hM,gc (pf hk)]
  have hm:∀x y:Int,(if x<y then y else x)=max x y:=λx y=>by split<;>omega
  simp[bv,aP,Rw.o,upC,↓i1,↓gN hM (qG (by simpa using hk)),rBi,c9 hM,List.map_set,hm]
 |look h r=>simp[bv,aP,Rw.o,upC,e0]
 |w_ h r e l=>simp[bv,aP,Rw.o,upC,e0]
 |send h r t=>simp[bv,aP,Rw.o,upC,e0]
noncomputable def cL(C:List Int)(x:(Int×Nat)×Rw):List Int:=if (x.1.2:Int)<C.getD x.1.1.toNat 0 then upC C x.2 else C
theorem rq{C:List Int}:(cL C x).length=C.length:=by
 unfold cL;split
 ·exact qB
 ·rfl
noncomputable def pD(x:(Int×Nat)×Rw):D:=.tup [nD x.1,x.2.d]
theorem kQ{De:Ends3}{ES:St3->XN}{R:Prop}{y0 y1 y2 y3 y5:Option D}(hM:Fm M0){H:Nat}:∀(L:List ((Int×Nat)×Rw)) (C:List Int)(x6 x7:Option D),C.length=H->(∀x∈L,0<=x.1.1/\x.1.1<H/\x.2.ltr H)->
  (∀x6 x7,De.nx [y0,y1,y2,y3,some (.ref c),y5,x6,x7] (put M0 c (.lst ((L.foldl cL C).map D.int)))=R)->
  bM ⟨(B cls c_ d_),aa T (B cls c_ d_) (n+4)⟩ (.tup [6,7]) db ES (λ_=>True) De (L.map pD) [y0,y1,y2,y3,some (.ref c),y5,x6,x7] (put M0 c (.lst (C.map D.int)))=R
 |[],C,x6,x7,_,_,hR=>by
  have:=hR x6 x7;simp at this;simp[aZ,this]
 |x::L,C,x6,x7,hl,hx,hR=>by
  obtain⟨h0,h1,h2⟩:=hx x Ix;obtain⟨⟨h,k⟩,r⟩:=x;simp only at h0 h1 h2;obtain⟨j,rfl⟩:∃j:Nat,h=j:=⟨h.toNat,by omega⟩
  have hj:j<C.length:=by omega
  have Of:put M0 c (.lst (C.map D.int)) c=some (.lst (C.map D.int)):=af;have i1:∀{Q:VK3},am (.ref c) (.int (j:Int)) (put M0 c (.lst (C.map D.int))) Q=Q (.int (C.getD j 0)) (put M0 c (.lst (C.map D.int))):=λ{Q}=>by rw[mG Of,gc (pf hj)]
  have ih:=kQ (De:=De) (ES:=ES) (R:=R) (y0:=y0) (y1:=y1) (y2:=y2) (y3:=y3) (y5:=y5) hM L (cL C ((j,k),r)) (some (nD (j,k))) (some r.d) (by rw[rq];exact hl) (λx KP=>hx x (Io _ KP)) (by simpa using hR)
  rw[Ip,aD];generalize bM ⟨(B cls c_ d_),aa T (B cls c_ d_) (n+4)⟩ (.tup [6,7]) db ES (λ_=>True) De (L.map pD)=K at ih ⊢
  rw[<-ih];by_cases e:(k:Int)<C.getD j 0
  ·have e':cL C (((j:Int),k),r)=upC C r:=by simp only[cL,Ju];rw[Iu e]
   rw[e'];simp only[db,pD,nD];simp[↓i1,↓eB r (hM.put _ _),↓FK Of (by rw[hl];exact h2),e,bc,nD]
   intro z;exact absurd z (by simp at e;omega)
  ·have e':cL C (((j:Int),k),r)=C:=by simp only[cL,Ju];rw[Im e]
   rw[e'];simp only[db,pD,nD];simp[↓i1,e,nD];intro z;exact absurd z (by simpa using e)
noncomputable def nms(rs:List Rw):List (Int×Nat):=nmF (rs.map Rw.h) λ_=>0
noncomputable def cG(H:Nat)(h:Int)(k:Nat):List Int:=(List.replicate H (0:Int)).set h.toNat ((k:Int)+1)
noncomputable def k7(H:Nat)(rs:List Rw)(j:Nat)(h:Int)(k:Nat):List Int:=(((nms rs).zip rs).take (j+1)).reverse.foldl cL (cG H h k)
theorem uf(xs:List D)(j:Nat)(h:j<xs.length):dF xs none (some ((j:Int)+1))=xs.take (j+1):=by
 have:HT.sIx xs.length xs.length (some ((j:Int)+1))=j+1:=by
  unfold HT.sIx;simp;split<;>omega
 simp only[dF,this];simp[HT.sIx]
theorem Bo{rs:List Rw}(hl:rs.length<400)(hM:Fm M)(h1:1<=f_.length)(h6:f_.length<=6)(hj:(rs.map Rw.h)[j]?=some h)(hr:∀r∈rs,0<=r.h/\r.h<f_.length/\r.ltr f_.length) :
  aa T (B cls c_ d_) (n+5) 22 [wO c_ f_ wy,.e_ (rs.map Rw.d),.tup [.int h,.int (((rs.map Rw.h).take j).count h:Nat)]] M Q E=Q (.e_ ((k7 f_.length rs j h (((rs.map Rw.h).take j).count h)).map D.int)) M:=by
 have OK:j<rs.length:=by have:=(IC.mp hj).1;simpa using this
 have hh:0<=h/\h<f_.length:=by
  obtain⟨x,hx,e⟩:=IV.mp (IW hj);rw[<-e];exact⟨(hr x hx).1,(hr x hx).2.1⟩
 obtain⟨k,rfl⟩:∃k:Nat,h=k:=⟨h.toNat,by omega⟩
 have hk:k<f_.length:=by omega
 have hf:(List.replicate f_.length [D.int 0]).flatten=(List.replicate f_.length (0:Int)).map D.int:=by
  rw[List.flatten_replicate_singleton];simp
 have hs:f_.length<=PySem.sizeLine:=by rw[PySem.sizeLine_eq];omega
 have hp:∀{M:MH}{Q:VK3}{E:XN},Fm M->aa T (B cls c_ d_) (n+4) 20 [.e_ (rs.map Rw.d),.tup [.int (k:Int),.int (((rs.map Rw.h).take j).count (k:Int):Nat)]] M Q E=Q (.int j) M:=λ{M Q E} hM=>ou (n:=n+1) hl hM hj
 have hn:∀{M:MH}{Q:VK3}{E:XN},Fm M->aa T (B cls c_ d_) (n+4) 14 [.e_ (rs.map Rw.d)] M Q E=Q (.e_ ((nms rs).map nD)) M:=λ{M Q E} hM=>iJ (n:=n+2) rs hl hM
 have Ti : -(2 ^ 63:Int)<=f_.length:=by omega
 have QQ:(f_.length:Int)<2 ^ 63:=by omega
 generalize O0:((rs.map Rw.h).take j).count (k:Int)=cc at hp ⊢;simp only[t9,lI];simp[↓hp hM,↓o1,↓n9,kP,ai,hf,hs,dH];have Sr:(f_.length:Int)<9223372036854775808:=by omega
 have NF:1<=PySem.sizeLine:=by decide
 simp only[Sr,NF,true_and];refine iff_of_eq (ao hM λc hc=>?_)
 have e1:(List.replicate f_.length (D.int 0)).set k (.int ((cc:Int)+1))=(cG f_.length (k:Int) cc).map D.int:=by
  unfold cG;rw[List.map_set,Ju];simp
 rw[gN af (j:=k) (qG (by simpa using hk)),bc,e1,hn (hM.put _ _)]
 have ez:dZ ((nms rs).map nD) (rs.map Rw.d)=((nms rs).zip rs).map pD:=by
  unfold dZ;rw[List.zip_map,List.map_map];rfl
 have zl:((nms rs).zip rs).length=rs.length:=by simp[nms,hV]
 have z1:(((nms rs).zip rs).map pD).length<=PySem.sizeLine:=by rw[ID,zl,PySem.sizeLine_eq];omega
 have z2:((((nms rs).zip rs).map pD).take (j+1)).length<=PySem.sizeLine:=IR (by rw[List.length_take];omega) z1
 have ec:=uf (((nms rs).zip rs).map pD) j (by rw[ID,zl];exact OK)
 simp only[rLz,dH,ez,z1,true_and,if_true,mm,ai,ec,z2];rw[<-List.map_take,<-List.map_reverse];refine kQ hM (H:=f_.length) _ _ none none (by simp[cG]) (λx hx=>?_) λx6 x7=>?_
 ·obtain⟨x1,x2⟩:=x;have KP:=List.of_mem_zip (List.mem_of_mem_take (List.mem_reverse.mp hx));obtain⟨y,hy,ey⟩:=IV.mp (lF _ _ _ KP.1).1;have g:=hr y hy;rw[ey]at g;exact⟨g.1,g.2.1,(hr x2 KP.2).2.2⟩
 ·simp[ba,af,eU hc,hc,k7]
end
section
theorem gi:∀(hs:List Int)(c:Int->Nat)(i i':Nat)(h:Int)(k k':Nat),i<i'->(nmF hs c)[i]?=some (h,k)->(nmF hs c)[i']?=some (h,k')->k<k'
 |[],_,_,_,_,_,_,_,e,_=>by simp[nmF]at e
 |x::r,c,0,i'+1,h,k,k',_,e1,e2=>by
  simp[nmF]at e1 e2;obtain⟨rfl,rfl⟩:=e1;have:=(lF r _ _ (IW e2)).2.1;simp[bu]at this;omega
 |x::r,c,i+1,i'+1,h,k,k',hi,e1,e2=>by
  simp[nmF]at e1 e2;exact gi r _ i i' h k k' (by omega) e1 e2
 |x::r,c,i,0,_,_,_,hi,_,_=>by omega
theorem vN:∀(hs:List Int)(c:Int->Nat)(j:Nat)(h:Int),hs[j]?=some h->(nmF hs c)[j]?=some (h,c h+(hs.take j).count h)
 |[],_,_,_,e=>by simp at e
 |x::r,c,0,h,e=>by
  simp at e;subst e;simp[nmF]
 |x::r,c,j+1,h,e=>by
  have e':r[j]?=some h:=by simpa using e
  have:=vN r (bu c x) j h e';have hb:bu c x h+(r.take j).count h=c h+((x::r).take (j+1)).count h:=by
   unfold bu;by_cases z:h=x
   ·subst z;simp;omega
   ·rw[Im z,List.take_succ_cons,List.count_cons_of_ne (IB z)]
  rw[hb]at this;simpa [nmF] using this
theorem qX{rs:List Rw}{r:Rw}(e:rs[j]?=some r):(nms rs)[j]?=some (r.h,((rs.map Rw.h).take j).count r.h):=by
 have:=vN (rs.map Rw.h) (λ_=>0) j r.h (by rw[IJ,e];rfl)
 rw[Nat.zero_add]at this;exact this
theorem wZ{rs:List Rw}(e:(nms rs)[j]?=some (h,k)):∃r,rs[j]?=some r/\r.h=h/\k=((rs.map Rw.h).take j).count h:=by
 have hl:j<rs.length:=by
  have:=(IC.mp e).1;simpa [nms,hV] using this
 have er:rs[j]?=some rs[j]:=IG hl;have:=qX er;rw[e]at this;simp at this;exact⟨rs[j],er,this.1.symm,by rw[this.1];exact this.2⟩
noncomputable def g(C:List Int)(h:Int):Int:=C.getD h.toNat 0
structure WFL (H:Nat)(rs:List Rw):Prop where
 hd:∀r∈rs,0<=r.h/\r.h<H
 tk:∀(i:Nat) h r a b,rs[i]?=some (.take h r a b)->∃(i' k:Nat)(r' t':Int),i' < i/\(nms rs)[i']?=some (a,k)/\b=(k:Int)/\rs[i']?=some (.send a r' t')
structure PI (H:Nat)(rs:List Rw)(j:Nat)(nh:Int)(nk:Nat)(t:Nat)(C:List Int):Prop where
 len:C.length=H
 a0:∀h,0<=g C h
 a1:∀h:Int,0<=h->h<H->0<g C h->∃(i k:Nat),i<=j/\(nms rs)[i]?=some (h,k)/\g C h=(k:Int)+1
 b:g C nh=(nk:Int)+1
 c:∀(i:Nat) h (k:Nat) h' r a b,t<=i->rs[i]?=some (.take h' r a b)->(nms rs)[i]?=some (h,k)->(k:Int)<g C h->b<g C a
variable {H:Nat}{rs:List Rw}{j t:Nat}{nh:Int}{nk:Nat}{C:List Int}
theorem WFL.nm(W:WFL H rs){i:Nat}{h:Int}{k:Nat}(e:(nms rs)[i]?=some (h,k)):0<=h/\h<H:=by
 obtain⟨r,e1,e2,_⟩:=wZ e;rw[<-e2];exact W.hd r (IW e1)
theorem PI.start(W:WFL H rs)(hj:(nms rs)[j]?=some (nh,nk)):PI H rs j nh nk (j+1) (cG H nh nk):=by
 obtain⟨h0,h1⟩:=W.nm hj;have hg:∀y:Int,g (cG H nh nk) y=if y.toNat=nh.toNat then (nk:Int)+1 else 0:=λy=>by
  unfold g cG;have hl:nh.toNat<H:=by omega
  by_cases e:y.toNat=nh.toNat
  ·rw[Iu e,e];simp[hl]
  ·rw[Im e];rw[List.getD_eq_getElem?_getD,Jp (IB e)];by_cases z:y.toNat<H
   ·simp[z]
   ·simp[List.getElem?_eq_none (show (List.replicate H (0:Int)).length<=y.toNat by simp;omega)]
 refine⟨by simp[cG],λh=>?_,λh Tj M9 hp=>?_,?_,λi h k h' r a b hi hr hn hk=>?_⟩
 ·rw[hg];split<;>omega
 ·rw[hg]at hp;split at hp
  ·rename_i e;have e':h=nh:=by omega
   subst e';exact⟨j,nk,Iq _,hj,by rw[hg,Iu rfl]⟩
  ·omega
 ·rw[hg,Iu rfl]
 ·exfalso;rw[hg]at hk;split at hk
  ·rename_i e;have hh:=(W.nm hn).1;have e':h=nh:=by omega
   subst e';have:=gi _ _ j i h nk k (by omega) hj hn
   omega
  ·omega
theorem PI.same(I:PI H rs j nh nk (t+1) C)(hn:(nms rs)[t]?=some (h,k))(hx:∀h' r a b,rs[t]?=some (.take h' r a b)->¬ (k:Int)<g C h):PI H rs j nh nk t C:=
 ⟨I.len,I.a0,I.a1,I.b,λi h2 k2 h' r a b hi hr Lz hk=>by
  by_cases e:i=t
  ·subst e;rw[hn]at Lz;cases Lz;exact absurd hk (hx _ _ _ _ hr)
  ·exact I.c i h2 k2 h' r a b (by omega) hr Lz hk⟩
theorem PI.step(W:WFL H rs)(hj:(nms rs)[j]?=some (nh,nk))(ht:t<=j){h:Int}{k:Nat}{r:Rw}(hn:(nms rs)[t]?=some (h,k))(hr:rs[t]?=some r)(I:PI H rs j nh nk (t+1) C):PI H rs j nh nk t (cL C ((h,k),r)):=by
 unfold cL;by_cases hk:(k:Int)<C.getD h.toNat 0
 ·show PI H rs j nh nk t (if (k:Int)<C.getD h.toNat 0 then upC C r else C)
  rw[Iu hk];cases r with
  |look h1 r1=>exact I.same hn λh' r a b e=>by rw[hr]at e;cases e
  |w_ h1 r1 e1 l1=>exact I.same hn λh' r a b e=>by rw[hr]at e;cases e
  |send h1 r1 t1=>exact I.same hn λh' r a b e=>by rw[hr]at e;cases e
  |take h1 r1 a b=>
   obtain⟨i',kb,rb,tb,l1,l2,rfl,l4⟩:=W.tk t _ _ _ _ hr;obtain⟨a0,a1⟩:=W.nm l2;have MQ:a.toNat<C.length:=by rw[I.len];omega
   have hg:∀y:Int,g (upC C (.take h1 r1 a kb)) y=if y.toNat=a.toNat then max (g C a) ((kb:Int)+1) else g C y:=λy=>by
    unfold g upC;by_cases e:y.toNat=a.toNat
    ·rw[Iu e,e];simp[MQ]
    ·rw[Im e,List.getD_eq_getElem?_getD,Jp (IB e),List.getD_eq_getElem?_getD]
   have QR:∀y,g C y<=g (upC C (.take h1 r1 a kb)) y:=λy=>by
    rw[hg];split
    ·rename_i e;have:g C y=g C a:=by unfold g;rw[e]
     omega
    ·omega
   have Kp:(k:Int)<g C h:=hk;refine⟨by rw[qB];exact I.len,λy=>Int.le_trans (I.a0 y) (QR y),λy y0 y1 hp=>?_,?_,λi h2 k2 h' r a2 b2 hi OM Lz MS=>?_⟩
   ·rw[hg]at hp ⊢;split at hp
    ·rename_i e;have e':y=a:=by omega
     subst e';rw[Iu rfl];by_cases z:g C y<(kb:Int)+1
     ·exact⟨i',kb,by omega,l2,by omega⟩
     ·have q:=I.a0 y;obtain⟨i,k,q1,q2,q3⟩:=I.a1 y y0 y1 (by omega)
      exact⟨i,k,q1,q2,by omega⟩
    ·rename_i e;rw[Im e];exact I.a1 y y0 y1 hp
   ·rw[hg];have hb:=I.b;split
    ·rename_i e;have n0:=(W.nm hj).1;have e':nh=a:=by omega
     subst e';have:=gi _ _ i' j nh kb nk (by omega) l2 hj
     omega
    ·exact hb
   ·by_cases e:i=t
    ·subst e;rw[hr]at OM;cases OM;rw[hg,Iu rfl];omega
    ·have Tn:=(W.nm Lz).1;have:(k2:Int)<g C h2:=by
      rw[hg]at MS;split at MS
      ·rename_i e2;have e':h2=a:=by omega
       subst e';have:=gi _ _ i' i h2 kb k2 (by omega) l2 Lz
       omega
      ·exact MS
     have:=I.c i h2 k2 h' r a2 b2 (by omega) OM Lz this
     have:=QR a2;omega
 ·show PI H rs j nh nk t (if (k:Int)<C.getD h.toNat 0 then _ else _)
  rw[Im hk];exact I.same hn λh' r a b e=>hk
theorem PI.all(W:WFL H rs)(hj:(nms rs)[j]?=some (nh,nk)):∀(l pre:List ((Int×Nat)×Rw)),((nms rs).zip rs).take (j+1)=pre++l->PI H rs j nh nk pre.length (l.foldr (λx C=>cL C x) (cG H nh nk))
 |[],pre,e=>by
  have hl:pre.length=j+1:=by
   have:=congrArg List.length e;have OK:=(IC.mp hj).1;simp[nms,hV]at this OK;omega
  rw[hl];exact PI.start W hj
 |x::l,pre,e=>by
  have ih:=PI.all W hj l (pre++[x]) (by rw[e];simp)
  rw[Je,List.length_singleton]at ih;have hx:(((nms rs).zip rs).take (j+1))[pre.length]?=some x:=by rw[e];simp
  have H_:pre.length<j+1:=by
   have:=(IC.mp hx).1;simp at this;omega
  rw[List.getElem?_take_of_lt H_]at hx;obtain⟨⟨h,k⟩,r⟩:=x;obtain⟨e1,e2⟩:=List.getElem?_zip_eq_some.mp hx;rw[List.foldr_cons];exact ih.step W hj (by omega) e1 e2
theorem PI.past(W:WFL H rs)(hj:(nms rs)[j]?=some (nh,nk)):PI H rs j nh nk 0 (k7 H rs j nh nk):=by
 have:=PI.all W hj _ [] (List.nil_append _).symm;unfold k7;rw[List.foldl_reverse];exact this
end
section
variable {S:St}{r:Rw}{pre:List Rw}{c:Int->Nat}{wy:List Wy}
noncomputable def ofH(pre:List Rw)(h:Int):List Rw:=pre.filter λr=>decide (r.h=h)
noncomputable def aW(pre:List Rw)(i j:Int):Option Rw:=if 0<=j then (ofH pre i)[j.toNat]? else none
noncomputable def Rw.tk(i j:Int):Rw->Bool
 |.take _ _ a b=>decide (a=i)&&decide (b=j)
 |_=>false
noncomputable def tkn(pre:List Rw)(i j:Int):Bool:=pre.any (Rw.tk i j)
noncomputable def Rw.un:Rw->Option D
 |.send _ _ t=>some (.int t)
 |_=>none
noncomputable def unF(pre:List Rw)(i j:Int):Option D:=if tkn pre i j=true then none else (aW pre i j).bind Rw.un
structure UI (pre:List Rw)(S:St)(c:Int->Nat):Prop where
 si:SI S c pre.length
 nd:S.ku.Nodup
 cc:∀h,c h=(ofH pre h).length
 kr:∀h,getD S.kr S.dr (.inl h)=(ofH pre h).getLast?.map λr=>D.int r.r
 un:∀i j,getD S.ku S.du [i,j]=unF pre i j
 tk:∀i j,tkn pre i j=true->(aW pre i j).isSome=true
theorem oj[DecidableEq κ]:∀{ks:List κ}{ds:List D},getD ks ds k=some v->k∈ks
 |[],ds,h=>by simp[getD]at h
 |q::ks,[],h=>by simp[getD]at h
 |q::ks,d::ds,h=>by
  simp only[getD]at h;split at h
  ·rename_i e;rw[e];exact Ix
  ·exact Io _ (oj h)
theorem lm[DecidableEq κ]:∀{ks:List κ}{ds:List D},ks.Nodup->ks.length=ds.length->getD (aJ ks k) (aV ks ds k) x=if k=x then none else getD ks ds x
 |[],[],_,_=>by simp[aJ,aV,getD]
 |q::ks,d::ds,hn,hl=>by
  have ih:=lm (k:=k) (x:=x) (ks:=ks) (ds:=ds) (Ja.mp hn).2 (by simpa using hl)
  simp only[aJ,aV];by_cases e:q=k
  ·subst e;rw[Iu rfl,Iu rfl];by_cases e2:q=x
   ·subst e2;rw[Iu rfl];cases z:getD ks ds q with
    |none=>rfl
    |some v=>exact absurd (oj z) (Ja.mp hn).1
   ·rw[Im e2];simp[getD,e2]
  ·rw[Im e,Im e];by_cases e2:q=x
   ·subst e2;rw[Im (IB e)];simp[getD]
   ·simp only[getD,Im e2];exact ih
theorem ly[DecidableEq κ]:∀{ks:List κ},x∈aJ ks k->x∈ks
 |[],h=>by simpa [aJ] using h
 |q::ks,h=>by
  simp only[aJ]at h;split at h
  ·exact Io _ h
  ·rcases Iv.mp h with h|h
   ·exact h▸Ix
   ·exact Io _ (ly h)
theorem n6[DecidableEq κ]:∀{ks:List κ},ks.Nodup->(aJ ks k).Nodup
 |[],_=>by simp[aJ]
 |q::ks,h=>by
  simp only[aJ];split
  ·exact (Ja.mp h).2
  ·exact Ja.mpr ⟨λz=>(Ja.mp h).1 (ly z),n6 (Ja.mp h).2⟩
theorem m9[DecidableEq κ]:∀{ks:List κ},x∈ah ks k->x=k\/x∈ks
 |[],h=>by simp[ah]at h;exact .inl h
 |q::ks,h=>by
  simp only[ah]at h;split at h
  ·exact .inr h
  ·rcases Iv.mp h with h|h
   ·exact .inr (h▸Ix)
   ·rcases m9 h with h|h
    ·exact .inl h
    ·exact .inr (Io _ h)
theorem qy[DecidableEq κ]:∀{ks:List κ},ks.Nodup->(ah ks k).Nodup
 |[],_=>by simp[ah]
 |q::ks,h=>by
  simp only[ah];split
  ·exact h
  ·rename_i e;refine Ja.mpr ⟨λz=>?_,qy (Ja.mp h).2⟩
   rcases m9 z with z|z
   ·exact e z
   ·exact (Ja.mp h).1 z
theorem cy:ofH (pre++[r]) i=if r.h=i then ofH pre i++[r] else ofH pre i:=by
 unfold ofH;rw[List.filter_append];by_cases e:r.h=i<;>simp[e]
theorem eI:aW (pre++[r]) i j=if r.h=i/\j=(ofH pre i).length then some r else aW pre i j:=by
 unfold aW;rw[cy];by_cases e:r.h=i
 ·rw[Iu e];by_cases h0:0<=j
  ·rw[Iu h0,Iu h0];by_cases h1:j=(ofH pre i).length
   ·rw[Iu ⟨e,h1⟩,h1];simp
   ·rw[Im λz=>h1 z.2]
    by_cases h2:j.toNat<(ofH pre i).length
    ·rw[List.getElem?_append_left h2]
    ·rw[List.getElem?_append_right (by omega),List.getElem?_eq_none (by simp;omega),List.getElem?_eq_none (by omega)]
  ·rw[Im h0,Im h0,Im λz=>h0 (by omega)]
 ·have e2:¬ (r.h=i/\j=(ofH pre i).length):=λz=>e z.1
  rw[Im e,Im e2]
theorem f9:aW (pre++[r]) r.h ((ofH pre r.h).length:Nat)=some r:=by rw[eI,Iu ⟨rfl,rfl⟩]
theorem eS:tkn (pre++[r]) i j=(tkn pre i j||r.tk i j):=by simp[tkn]
theorem gT:aW pre i ((ofH pre i).length:Nat)=none:=by simp[aW]
theorem jR(U:UI pre S c):unF pre i ((ofH pre i).length:Nat)=none:=by
 unfold unF;rw[gT];split<;>rfl
theorem tj(U:UI pre S c):tkn pre i ((ofH pre i).length:Nat)=false:=by
 cases e:tkn pre i ((ofH pre i).length:Nat) with
 |false=>rfl
 |true=>have:=U.tk _ _ e;rw[gT]at this;cases this
theorem UI.step(U:UI pre S c)(th:r.there S):UI (pre++[r]) (S.step (c r.h) r) (bu c r.h):=by
 have si:=U.si.step (r:=r);have hk:∀h,getD (ah S.kr (.inl r.h)) (ak S.kr S.dr (.inl r.h) (.int r.r)) (.inl h)=(ofH (pre++[r]) h).getLast?.map λr=>D.int r.r:=λh=>by
  rw[cN U.si.l2,cy];by_cases e:r.h=h
  ·subst e;simp
  ·have e2:¬ ((Sum.inl r.h:Key)=Sum.inl h):=λz=>e (Sum.inl.inj z)
   rw[Im e2,Im e];exact U.kr h
 have cc:∀h,bu c r.h h=(ofH (pre++[r]) h).length:=λh=>by
  rw[cy];unfold bu;by_cases e:h=r.h
  ·subst e;simp[U.cc]
  ·rw[Im e,Im (IB e)];exact U.cc h
 have tk:∀i j,tkn (pre++[r]) i j=true->(aW (pre++[r]) i j).isSome=true:=λi j h=>by
  rw[eI];split
  ·rfl
  ·rw[eS,Bool.or_eq_true]at h;rcases h with h|h
   ·exact U.tk i j h
   ·cases r with
    |take h' v a b=>
     simp only[Rw.tk,Ij,Iy]at h;obtain⟨rfl,rfl⟩:=h;have e:getD S.ku S.du [a,b]=some (.int h'):=th;rw[U.un]at e;unfold unF at e;split at e
     ·cases e
     ·cases z:aW pre a b with
      |none=>rw[z]at e;cases e
      |some _=>rfl
    |_=>cases h
 have Kf:∀i j,r.tk i j=false->¬ (r.h=i/\j=(ofH pre i).length)->unF (pre++[r]) i j=unF pre i j:=λi j h1 h2=>by
  unfold unF;rw[eS,h1,Bool.or_false,eI,Im h2]
 have cl:pre.length+1=(pre++[r]).length:=by simp
 rw[cl]at si;cases r with
 |look h v=>
  refine⟨si,U.nd,cc,hk,λi j=>?_,tk⟩
  show getD S.ku S.du [i,j]=_;rw[U.un];by_cases e:h=i/\j=(ofH pre i).length
  ·obtain⟨rfl,rfl⟩:=e;rw[jR U];unfold unF;rw[show aW (pre++[_]) h _=_ from f9];split<;>rfl
  ·exact (Kf i j rfl e).symm
 |w_ h v e l=>
  refine⟨si,U.nd,cc,hk,λi j=>?_,tk⟩
  show getD S.ku S.du [i,j]=_;rw[U.un];by_cases e:h=i/\j=(ofH pre i).length
  ·obtain⟨rfl,rfl⟩:=e;rw[jR U];unfold unF;rw[show aW (pre++[_]) h _=_ from f9];split<;>rfl
  ·exact (Kf i j rfl e).symm
 |send h v t=>
  refine⟨si,qy U.nd,cc,hk,λi j=>?_,tk⟩
  show getD (ah S.ku [h,(c h:Int)]) (ak S.ku S.du [h,(c h:Int)] (.int t)) [i,j]=_;rw[cN U.si.l3,U.un,U.cc];by_cases e:h=i/\j=(ofH pre i).length
  ·obtain⟨rfl,rfl⟩:=e;rw[Iu rfl];unfold unF;rw[eS,tj U,show aW (pre++[_]) h _=_ from f9];rfl
  ·rw[Im λz=>e (by
    simp only[List.cons.injEq,and_true]at z;exact⟨z.1,by rw[<-z.2,z.1]⟩)]
   exact (Kf i j rfl e).symm
 |take h v a b=>
  refine⟨si,n6 U.nd,cc,hk,λi j=>?_,tk⟩
  show getD (aJ S.ku [a,b]) (aV S.ku S.du [a,b]) [i,j]=_;rw[lm U.nd U.si.l3];by_cases e0:a=i/\b=j
  ·obtain⟨rfl,rfl⟩:=e0;rw[Iu rfl];unfold unF;rw[eS];simp[Rw.tk]
  ·rw[Im λz=>e0 (by simpa using z),U.un]
   have tf:(Rw.take h v a b).tk i j=false:=by
    simp only[Rw.tk];by_cases z:a=i
    ·have:¬ b=j:=λy=>e0 ⟨z,y⟩
     simp[this]
    ·simp[z]
   by_cases e:h=i/\j=(ofH pre i).length
   ·obtain⟨rfl,rfl⟩:=e;rw[jR U];unfold unF;rw[show aW (pre++[_]) h _=_ from f9];split<;>rfl
   ·exact (Kf i j tf e).symm
theorem ui0:UI [] S0 (λ_=>0):=⟨si0,List.nodup_nil,(λ_=>rfl),(λ_=>rfl),(λi j=>by unfold unF aW ofH tkn;simp[S0,getD]),(λi j h=>by simp[tkn]at h)⟩
end
section
variable {S:St}{r x:Rw}{rs pre:List Rw}{c:Int->Nat}{H:Nat}{wy:List Wy}{C D:List Int}{j:Nat}{nh:Int}{nk:Nat}
noncomputable abbrev NR:=(Int×Nat)×Rw
noncomputable abbrev Zs(rs:List Rw):List NR:=(nms rs).zip rs
noncomputable def kp(C:List Int)(x:NR):Bool:=decide ((x.1.2:Int)<g C x.1.1)
noncomputable def au(C:List Int)(rs:List Rw):List Rw:=((Zs rs).filter (kp C)).map Prod.snd
theorem gt{P:List Rw->Prop}(h0:P [])(hs:∀l x,P l->P (l++[x])):∀l,P l:=λl=>by
 have:∀(post pre:List Rw),P pre->P (pre++post):=λpost=>by
  induction post with
  |nil=>intro pre h;simpa using h
  |cons x post ih=>intro pre h;have:=ih _ (hs pre x h);simpa using this
 exact this l [] h0
theorem eR:(nms rs).length=rs.length:=by simp[nms,hV]
theorem uP:(rs.map Rw.h).count h=(ofH rs h).length:=by
 unfold ofH
 induction rs with
 |nil=>rfl
 |cons x rs ih=>
  rw[Ip,List.count_cons,List.filter_cons,ih];by_cases e:x.h=h<;>simp[e]
theorem l8:nms (rs++[x])=nms rs++[(x.h,(ofH rs x.h).length)]:=by
 unfold nms;rw[Jj,List.map_singleton,tY,uP,Nat.zero_add]
theorem dI:Zs (rs++[x])=Zs rs++[((x.h,(ofH rs x.h).length),x)]:=by
 unfold Zs;rw[l8,List.zip_append eR];rfl
theorem DK{y:NR}(h:y∈Zs rs):y.1.1=y.2.h:=by
 induction rs using gt with
 |h0=>cases h
 |hs l x ih=>
  rw[dI]at h;rcases IX.mp h with h|h
  ·exact ih h
  ·rw[IY.mp h]
theorem qj:au C (rs++[x])=au C rs++if ((ofH rs x.h).length:Int)<g C x.h then [x] else []:=by
 unfold au;rw[dI,List.filter_append,Jj];by_cases h:((ofH rs x.h).length:Int)<g C x.h<;>simp[kp,h]
theorem lu:Zs (au C rs)=(Zs rs).filter (kp C)/\∀h,ofH (au C rs) h=(ofH rs h).take (g C h).toNat:=by
 induction rs using gt with
 |h0=>exact⟨rfl,λh=>by simp[au,ofH,Zs,nms,nmF]⟩
 |hs l x ih=>
  obtain⟨A,B⟩:=ih;rw[qj,dI,List.filter_append];by_cases h:((ofH l x.h).length:Int)<g C x.h
  ·have e:ofH (au C l) x.h=ofH l x.h:=by rw[B,List.take_of_length_le (by omega)]
   rw[Iu h,dI,A,e];refine⟨by simp[kp,h],λy=>?_⟩
   rw[cy,cy];by_cases z:x.h=y
   ·subst z;rw[Iu rfl,Iu rfl,e,List.take_of_length_le (by simp;omega)]
   ·rw[Im z,Im z];exact B y
  ·rw[Im h,Jz];refine⟨by simp[kp,h,A],λy=>?_⟩
   rw[cy];by_cases z:x.h=y
   ·subst z;rw[Iu rfl,List.take_append_of_le_length (by omega)];exact B _
   ·rw[Im z];exact B y
theorem wL:∀y∈au C rs,y∈rs:=λy hy=>by
 obtain⟨z,hz,rfl⟩:=IV.mp hy;exact (List.of_mem_zip (List.mem_filter.mp hz).1).2
theorem sent_Z{a b:Int}:aW rs a b=some r<->∃k:Nat,b=k/\((a,k),r)∈Zs rs:=by
 induction rs using gt with
 |h0=>simp[aW,ofH,Zs,nms,nmF]
 |hs l x ih=>
  rw[eI,dI];by_cases e:x.h=a/\b=(ofH l a).length
  ·obtain⟨rfl,rfl⟩:=e;rw[Iu ⟨rfl,rfl⟩];constructor
   ·intro h;cases h;exact⟨_,rfl,by simp⟩
   ·rintro⟨k,hk,h⟩;rcases IX.mp h with h|h
    ·have:=ih.mpr ⟨k,hk,h⟩;rw[show ((ofH l x.h).length:Int)=((ofH l x.h).length:Nat) from rfl,gT]at this;cases this
    ·simp at h;rw[h.2]
  ·rw[Im e,ih];constructor
   ·rintro⟨k,hk,h⟩;exact⟨k,hk,Jg _ h⟩
   ·rintro⟨k,hk,h⟩;rcases IX.mp h with h|h
    ·exact⟨k,hk,h⟩
    ·simp at h;exact absurd ⟨h.1.1.symm,by rw[hk,h.1.2,h.1.1]⟩ e
structure Gd (H:Nat)(wy:List Wy)(pre:List Rw)(r:Rw):Prop where
 hd:0<=r.h/\r.h<H
 rd:∀x,(ofH pre r.h).getLast?=some x->x.r<=r.r
 sg:∀h v e l,r=.w_ h v e l->e<=l
 sn:∀h v t,r=.send h v t->[h,t]∈wy.map pr
 tk:∀h v a b,r=.take h v a b->tkn pre a b=false/\∃v',aW pre a b=some (.send a v' h)
inductive Good (H:Nat) (wy:List Wy):List Rw->Prop where
 |nil:Good H wy []
 |snoc {rs:List Rw}{x:Rw} (h:Good H wy rs) (d:Gd H wy rs x):Good H wy (rs++[x])
theorem mR:∀(rs:List Rw)(S:St)(c:Int->Nat),eQ H wy S c rs->Fn H wy (rD S c rs) x->eQ H wy S c (rs++[x])
 |[],S,c,_,h=>⟨h,trivial⟩
 |r::rs,S,c,f,h=>⟨f.1,mR rs _ _ f.2 h⟩
theorem je:∀(rs:List Rw)(S:St)(c:Int->Nat),rD S c (rs++[x])=(rD S c rs).step (vd c rs x.h) x/\vd c (rs++[x])=bu (vd c rs) x.h
 |[],S,c=>⟨rfl,rfl⟩
 |r::rs,S,c=>je rs _ _
theorem Gd.fn(d:Gd H wy rs x)(U:UI rs S c):Fn H wy S x:=⟨by simp[okH,d.hd.1,d.hd.2],λl e=>by
  rw[U.kr]at e;cases z:(ofH rs x.h).getLast? with
  |none=>rw[z]at e;cases e
  |some y=>rw[z]at e;cases e;exact Int.not_lt.mpr (d.rd y z),λ_ _ _ _ e=>Int.not_lt.mpr (d.sg _ _ _ _ e),d.sn,by
  cases x with
  |take h v a b=>
   obtain⟨t1,v',t2⟩:=d.tk _ _ _ _ rfl;show getD S.ku S.du [a,b]=_;rw[U.un,unF,t1,t2];rfl
  |_=>trivial⟩
theorem Good.fine(h:Good H wy rs):eQ H wy S0 (λ_=>0) rs/\UI rs (rD S0 (λ_=>0) rs) (vd (λ_=>0) rs):=by
 induction h with
 |nil=>exact⟨trivial,ui0⟩
 |@snoc rs x _ d ih=>
  have hf:=d.fn ih.2;refine⟨mR _ _ _ ih.1 hf,?_⟩;rw[(je rs S0 (λ_=>0)).1,(je rs S0 (λ_=>0)).2]
  exact ih.2.step hf.th
theorem tS{y:NR}(h:y∈Zs rs):∃i:Nat,rs[i]?=some y.2/\(nms rs)[i]?=some y.1:=by
 obtain⟨i,hi⟩:=List.mem_iff_getElem?.mp h;obtain⟨a1,a2⟩:=List.getElem?_zip_eq_some.mp hi;exact⟨i,a2,a1⟩
theorem Good.wfl(h:Good H wy rs):WFL H rs:=by
 induction h with
 |nil=>exact⟨λ_ h=>(by cases h),λi h r a b e=>by simp at e⟩
 |@snoc rs x _ d W=>
  refine⟨λr hr=>?_,λi h v a b e=>?_⟩
  ·rcases IX.mp hr with hr|hr
   ·exact W.hd r hr
   ·rw[IY.mp hr];exact d.hd
  ·have up:∀{i:Nat}{y:Rw},rs[i]?=some y->(rs++[x])[i]?=some y:=λ{i y} z=>by rw[List.getElem?_append_left (IC.mp z).1];exact z
   have un:∀{i:Nat}{y:Int×Nat},(nms rs)[i]?=some y->(nms (rs++[x]))[i]?=some y:=λ{i y} z=>by rw[l8,List.getElem?_append_left (IC.mp z).1];exact z
   by_cases hi:i<rs.length
   ·rw[List.getElem?_append_left hi]at e;obtain⟨i',k,r',t',h1,h2,h3,h4⟩:=W.tk i _ _ _ _ e;exact⟨i',k,r',t',h1,un h2,h3,up h4⟩
   ·have hl:=(IC.mp e).1;have:i=rs.length:=by simp at hl;omega
    subst this;simp at e;obtain⟨_,v',h2⟩:=d.tk _ _ _ _ e;obtain⟨k,hk,hz⟩:=sent_Z.mp h2;obtain⟨i',q1,q2⟩:=tS hz;exact⟨i',k,v',h,(IC.mp q1).1,un q2,hk,up q1⟩
end
section
variable {cls c_ d_:Nat->PySem.Addr}{M:MH}{Q:VK3}{E:XN}{n:Nat}{f_:List (Int×Int)}{rs:List Rw}{H:Nat}{wy:List Wy}{C:List Int}{A Bs A' B':List NR}{x x':NR}
theorem uA(h:∀q o,M q=some o->M' q=some o):aw M M'=M:=by
 funext a;unfold aw;cases e:M a with
 |none=>rfl
 |some o=>simp[h _ _ e]
theorem km:aw M M=M:=uA λ_ _ h=>h
noncomputable def pv(H:Nat)(A:List NR)(x:NR):List Int:=(A++[x]).reverse.foldl cL (cG H x.1.1 x.1.2)
theorem uN:(Zs rs).length=rs.length:=by rw[List.length_zip,eR,Nat.min_self]
theorem qk(hz:Zs rs=A++x::Bs):rs[A.length]?=some x.2/\(nms rs)[A.length]?=some x.1:=by
 have:(Zs rs)[A.length]?=some x:=by rw[hz];simp
 exact (List.getElem?_zip_eq_some.mp this).symm
theorem qK(hz:Zs rs=A++x::Bs):k7 H rs A.length x.1.1 x.1.2=pv H A x:=by
 unfold k7 pv;rw[show (nms rs).zip rs=A++x::Bs from hz,List.take_append,List.take_of_length_le (by omega)]
 simp
theorem yy(G:Good H wy rs)(hz:Zs rs=A++x::Bs):PI H rs A.length x.1.1 x.1.2 0 (pv H A x):=by
 rw[<-qK hz];exact PI.past G.wfl (qk hz).2
theorem AI:dZ ((nms rs).map nD) (rs.map Rw.d)=(Zs rs).map pD:=by
 unfold dZ Zs;rw[List.zip_map,List.map_map];rfl
theorem BF(hl:rs.length<400)(hM:Fm M)(hC:C.length=H)(hr:∀r∈rs,0<=r.h/\r.h<H)(hQ:∀p,M p=none->Q (.ref p) (put M p (.lst ((au C rs).map Rw.d)))):aa T (B cls c_ d_) (n+3) 23 [.e_ (rs.map Rw.d),.e_ (C.map D.int)] M Q E:=by
 have hn:∀{Q:VK3}{E:XN},aa T (B cls c_ d_) (n+2) 14 [.e_ (rs.map Rw.d)] M Q E=Q (.e_ ((nms rs).map nD)) M:=λ{Q E}=>iJ rs hl hM
 rw[BP];simp[uB,hn,AI,av];intro p hp;rw[gU pD (λσ=>∃x0 x1,σ=[x0,x1,some (.e_ (C.map D.int))]) (λe=>[some (nD e.1),some e.2.d,some (.e_ (C.map D.int))]) (kp C) (λe=>e.2.d) _ [] _ ⟨none,none,rfl⟩ hM hp (by rw[PySem.sizeLine_eq,uN];simp;omega) (λ_ _=>trivial) (λe he=>⟨⟨_,_,rfl⟩,by
   rintro σ ⟨x0,x1,rfl⟩ M k;simp[pD]⟩) (λe he M' hE Q'=>by
   have e1:=DK he;obtain⟨w1,w2⟩:=hr _ (List.of_mem_zip he).2;rw[<-e1]at w1 w2;obtain⟨⟨h,k⟩,r⟩:=e;simp only at w1 w2;obtain⟨h',rfl⟩:∃h':Nat,h=h':=⟨h.toNat,by omega⟩
   have hx:∀{M:MH}{Q:VK3},am (.e_ (C.map D.int)) (.int (h':Int)) M Q=Q (.int (C.getD h' 0)) M:=λ{M Q}=>gc (pf (by omega))
   simp[nD,iG,↓hx];simp[kp,g]) (λe _ _ M' hE Q'=>by simp)]
 have:=hQ p hp;unfold au at this;rw[List.map_map]at this;exact this
theorem Good.ltr(G:Good H wy rs):∀r∈rs,0<=r.h/\r.h<H/\r.ltr H:=λr hr=>by
 have W:=G.wfl;refine⟨(W.hd r hr).1,(W.hd r hr).2,?_⟩;cases r with
 |take h v a b=>
  obtain⟨i,hi⟩:=List.mem_iff_getElem?.mp hr;obtain⟨i',k,r',t',_,h2,h3,h4⟩:=W.tk i _ _ _ _ hi;have:=W.nm h2;simp only[Rw.ltr];omega
 |_=>trivial
theorem zF(G:Good f_.length wy rs)(h1:1<=f_.length)(h6:f_.length<=6)(hl:rs.length<400)(hM:Fm M)(hz:Zs rs=A++x::Bs)(hQ:∀p,M p=none->Q (.ref p) (put M p (.lst ((au (pv f_.length A x) rs).map Rw.d)))):aa T (B cls c_ d_) (n+6) 24 [wO c_ f_ wy,.e_ (rs.map Rw.d),nD x.1] M Q E:=by
 obtain⟨a1,a2⟩:=qk hz;have hx:=DK (rs:=rs) (y:=x) (by rw[hz];simp)
 have a3:=qX a1;rw[a2]at a3;have a4:x.1.2=((rs.map Rw.h).take A.length).count x.1.1:=by rw[Option.some.injEq]at a3;rw[a3]
 have hp:=λ{Q:VK3}{E:XN}=>Bo (cls:=cls) (c_:=c_) (d_:=d_) (n:=n) (M:=M) (Q:=Q) (E:=E) (wy:=wy) (f_:=f_) (rs:=rs) (j:=A.length) (h:=x.1.1) hl hM h1 h6 (by rw[IJ,a1,hx];rfl) G.ltr
 rw[<-a4,qK hz]at hp;rw[uL];simp[lH,nD,hp];exact BF (n:=n+2) hl hM (yy G hz).len (λr hr=>G.wfl.hd r hr) hQ
end
section
variable {H:Nat}{wy:List Wy}{rs:List Rw}{r:Rw}{A Bs:List NR}{x:NR}{C:List Int}{q:Int×Nat}{h:Int}
def Vec(H:Nat)(rs:List Rw)(q:Int×Nat)(C:List Int):Prop:=∃A x Bs,Zs rs=A++x::Bs/\x.1=q/\C=pv H A x
theorem nm_iff:q∈nms rs<->q.2<(ofH rs q.1).length:=by
 induction rs using gt with
 |h0=>simp[nms,nmF,ofH]
 |hs l x ih=>
  rw[l8,IX,ih,IY,cy];obtain⟨a,k⟩:=q;by_cases e:x.h=a
  ·subst e;simp;omega
  ·rw[Im e];simp only[Prod.mk.injEq];exact⟨λz=>z.resolve_right λw=>e w.1.symm,.inl⟩
theorem j0:(Zs rs).map Prod.fst=nms rs:=List.map_fst_zip (Nat.le_of_eq eR)
theorem Vec.pi(G:Good H wy rs)(v:Vec H rs q C):∃j,PI H rs j q.1 q.2 0 C/\(nms rs)[j]?=some q:=by
 obtain⟨A,x,Bs,h1,h2,h3⟩:=v;subst h2 h3;exact⟨_,yy G h1,(qk h1).2⟩
theorem mem_cut{p:Int×Nat}:p∈nms (au C rs)<->p∈nms rs/\(p.2:Int)<g C p.1:=by
 rw[<-j0,lu.1,IV];constructor
 ·rintro⟨y,hy,rfl⟩;obtain⟨hy,hk⟩:=List.mem_filter.mp hy;exact⟨(List.of_mem_zip hy).1,by simpa [kp] using hk⟩
 ·rintro⟨h1,h2⟩;rw[<-j0]at h1;obtain⟨y,hy,rfl⟩:=IV.mp h1;exact⟨y,List.mem_filter.mpr ⟨hy,by simpa [kp] using h2⟩,rfl⟩
theorem BQ{φ:Int->Int}(hz:Zs rs=A++x::Bs)(hx:0<=x.1.1)(W:WFL H rs)(h0:∀y,0<=y->0<=φ y)(h1:(x.1.2:Int)+1<=φ x.1.1)
  (hc:∀z∈A++[x],∀hh v a b,z.2=.take hh v a b->(z.1.2:Int)<φ z.1.1->b+1<=φ a):∀y,0<=y->g (pv H A x) y<=φ y:=by
 have go:∀(L:List NR)(C:List Int),(∀z∈L,z∈A++[x])->(∀y,0<=y->g C y<=φ y)->∀y,0<=y->g (L.foldl cL C) y<=φ y:=λL=>by
  induction L with
  |nil=>exact λC _ h=>h
  |cons z L ih=>
   intro C hL h;rw[List.foldl_cons];refine ih _ (λw hw=>hL w (Io _ hw)) λy hy=>?_
   unfold cL;split
   ·rename_i hk;have OT:=hL z Ix;have NU:z∈Zs rs:=by
     rw[hz];rcases IX.mp OT with w|w
     ·exact Jg _ w
     ·rw[IY.mp w];simp
    obtain⟨i,e1,e2⟩:=tS NU;have z0:=(W.nm e2).1;cases e:z.2 with
    |take hh v a b=>
     rw[e]at e1;obtain⟨i',k,r',t',_,a2,_,_⟩:=W.tk i _ _ _ _ e1;have a0:=(W.nm a2).1;have hb:=hc z OT _ _ _ _ e (Int.lt_of_lt_of_le hk (h _ z0));have NZ:=h y hy;have To:=h a a0;unfold upC g;rw[List.getD_eq_getElem?_getD,List.getElem?_set];split
     ·rename_i ey;have:y=a:=by omega
      subst this;split
      ·show max (g C y) (b+1)<=_;omega
      ·exact h0 y hy
     ·rw[<-List.getD_eq_getElem?_getD];exact NZ
    |_=>exact h y hy
   ·exact h y hy
 refine go _ _ (λz hz=>List.mem_reverse.mp hz) λy hy=>?_
 unfold g cG;rw[List.getD_eq_getElem?_getD,List.getElem?_set];split
 ·rename_i e;have:y=x.1.1:=by omega
  subst this;split
  ·exact h1
  ·exact h0 _ hy
 ·by_cases z:y.toNat<H
  ·simp[z];exact h0 y hy
  ·simp[z];exact h0 y hy
def Cls(rs:List Rw)(φ:Int->Int):Prop:=∀z∈Zs rs,∀hh v a b,z.2=.take hh v a b->(z.1.2:Int)<φ z.1.1->b+1<=φ a
theorem Vec.cl(G:Good H wy rs)(v:Vec H rs q C):Cls rs (g C):=λz hz hh w a b e hk=>by
 obtain⟨j,I,_⟩:=v.pi G;obtain⟨i,e1,e2⟩:=tS hz;rw[e]at e1;have:=I.c i _ _ _ _ _ _ (Nat.zero_le _) e1 e2 hk;omega
theorem Vec.mono{φ:Int->Int}(G:Good H wy rs)(v:Vec H rs q C)(h0:∀y,0<=y->0<=φ y)(h1:(q.2:Int)+1<=φ q.1)(hc:Cls rs φ):∀y,0<=y->g C y<=φ y:=by
 obtain⟨A,x,Bs,e1,rfl,rfl⟩:=v;refine BQ e1 (G.wfl.nm (qk e1).2).1 G.wfl h0 h1 λz hz=>hc z ?_
 rw[e1];rcases IX.mp hz with w|w
 ·exact Jg _ w
 ·rw[IY.mp w];simp
theorem Vec.nn(G:Good H wy rs)(v:Vec H rs q C):0<=g C h:=by
 obtain⟨j,I,_⟩:=v.pi G;exact I.a0 h
end
section
variable {H:Nat}{wy:List Wy}{rs pre S T:List Rw}{r:Rw}{C C1 C2 D:List Int}{q p:Int×Nat}{h i j:Int}{Z Z':List Int}{φ:Int->Int}
noncomputable def stk(Z:List Int):Rw->Rw
 |.take h v a b=>if a∈Z then .look h v else .take h v a b
 |r=>r
noncomputable def ac(Z:List Int)(rs:List Rw):List Rw:=(rs.filter λr=>!decide (r.h∈Z)).map (stk Z)
theorem kK:(stk Z r).h=r.h/\(stk Z r).r=r.r:=by
 cases r with
 |take h v a b=>by_cases e:a∈Z<;>simp[stk,e,Rw.h,Rw.r]
 |_=>exact⟨rfl,rfl⟩
theorem uZ{h v a b}(e:stk Z r=.take h v a b):r=.take h v a b/\a∉Z:=by
 cases r with
 |take h' v' a' b'=>
  by_cases z:a'∈Z
  ·rw[show stk Z (.take h' v' a' b')=.look h' v' from Iu z]at e;cases e
  ·rw[show stk Z (.take h' v' a' b')=.take h' v' a' b' from Im z]at e;cases e;exact⟨rfl,z⟩
 |_=>cases e
theorem yD(h:(stk Z r).tk i j=true):r.tk i j=true:=by
 cases e:stk Z r with
 |take _ _ a b=>rw[(uZ e).1];rw[e]at h;exact h
 |_=>rw[e]at h;cases h
theorem jG:ac Z (pre++[r])=if r.h∈Z then ac Z pre else ac Z pre++[stk Z r]:=by
 unfold ac;rw[List.filter_append,Jj];by_cases e:r.h∈Z<;>simp[e]
theorem fy(hz:h∉Z):ofH (ac Z pre) h=(ofH pre h).map (stk Z):=by
 unfold ofH ac;rw[List.filter_map,List.filter_filter];congr 1;apply List.filter_congr;intro x _;simp only[Function.comp,kK];by_cases e:x.h=h
 ·simp[e,hz]
 ·simp[e]
theorem pc(h:tkn pre i j=false):tkn (ac Z pre) i j=false:=by
 cases e:tkn (ac Z pre) i j with
 |false=>rfl
 |true=>
  obtain⟨x,hx,hk⟩:=List.any_eq_true.mp e;obtain⟨y,hy,rfl⟩:=IV.mp hx;rw[show tkn pre i j=true from List.any_eq_true.mpr ⟨y,(List.mem_filter.mp hy).1,yD hk⟩]at h;cases h
theorem Good.struck(G:Good H wy rs):Good H wy (ac Z rs):=by
 induction G with
 |nil=>exact .nil
 |@snoc rs x _ d ih=>
  rw[jG];split
  ·exact ih
  ·rename_i hz;refine .snoc ih ⟨by rw[kK.1];exact d.hd,λy hy=>?_,λh v e l ex=>?_,λh v t ex=>?_,λh v a b ex=>?_⟩
   ·rw[kK.1,fy hz,List.getLast?_map]at hy;obtain⟨z,h1,rfl⟩:=Option.map_eq_some_iff.mp hy;rw[kK.2,kK.2];exact d.rd z h1
   ·cases x with
    |take _ _ a _=>by_cases z:a∈Z<;>simp[stk,z]at ex
    |_=>exact d.sg _ _ _ _ ex
   ·cases x with
    |take _ _ a _=>by_cases z:a∈Z<;>simp[stk,z]at ex
    |_=>exact d.sn _ _ _ ex
   ·obtain⟨e1,e2⟩:=uZ ex;obtain⟨t1,v',t2⟩:=d.tk _ _ _ _ e1;refine⟨pc t1,v',?_⟩;unfold aW at t2 ⊢;split at t2
    ·rw[Iu (by assumption),fy e2,IJ,t2];rfl
    ·cases t2
theorem c6:Zs (ac Z rs)=((Zs rs).filter λz=>!decide (z.1.1∈Z)).map λz=>(z.1,stk Z z.2):=by
 induction rs using gt with
 |h0=>rfl
 |hs l x ih=>
  rw[jG,dI,List.filter_append,Jj,<-ih];by_cases z:x.h∈Z
  ·simp[z]
  ·rw[Im z,dI,kK.1,fy z];simp[z]
theorem wF(hs:∀a∈Z,a∈Z'):stk Z' (stk Z r)=stk Z' r:=by
 cases r with
 |take h v a b=>
  by_cases z:a∈Z
  ·rw[show stk Z (.take h v a b)=.look h v from Iu z];simp[stk,hs _ z]
  ·rw[show stk Z (.take h v a b)=.take h v a b from Im z]
 |_=>rfl
theorem zV:(Zs rs).map Prod.snd=rs:=List.map_snd_zip (by rw[eR];exact Iq _)
theorem jU(hs:∀a∈Z,a∈Z'):ac Z' (au C (ac Z rs))=au C (ac Z' rs):=by
 rw[<-zV (rs:=ac Z' _),c6,lu.1,c6,au,c6];simp only[List.filter_map,List.map_map,List.filter_filter,Function.comp];rw[List.filter_congr (q:=λz=>kp C (z.1,stk Z' z.2)&&!decide (z.1.1∈Z'))]
 ·apply List.map_congr_left;intro z _;simp[wF hs]
 ·intro z _;simp only[kp];by_cases a:z.1.1∈Z
  ·simp[a,hs _ a]
  ·simp[a,Bool.and_comm]
theorem Cls.sub(c:Cls S φ)(h:∀z∈Zs T,∀a b c d,z.2=.take a b c d->z∈Zs S):Cls T φ:=λz hz _ _ _ _ e=>c z (h z hz _ _ _ _ e) _ _ _ _ e
theorem pe(c:Cls (ac Z rs) φ)(hs:∀a∈Z,a∈Z'):Cls (ac Z' rs) φ:=c.sub λz hz a b x y e=>by
 rw[c6]at hz ⊢;obtain⟨w,hw,rfl⟩:=IV.mp hz;obtain⟨h1,h2⟩:=List.mem_filter.mp hw;have h3:w.1.1∉Z':=by simpa using h2
 obtain⟨e1,e2⟩:=uZ e;refine IV.mpr ⟨w,List.mem_filter.mpr ⟨h1,by simpa using λk=>h3 (hs _ k)⟩,?_⟩
 have:∀Y:List Int,x∉Y->stk Y w.2=w.2:=λY hy=>by rw[e1];exact Im hy
 rw[this Z' e2,this Z λk=>e2 (hs _ k)]
theorem Good.cut(h:Good H wy rs):Cls rs (g C)->Good H wy (au C rs):=by
 induction h with
 |nil=>exact λ_=>.nil
 |@snoc rs x _ d ih=>
  intro hc;have ih:=ih λy hy=>hc y (by rw[dI];exact Jg _ hy)
  rw[qj];split
  ·rename_i hk;have B:=λh=>(lu (C:=C) (rs:=rs)).2 h
   have e:ofH (au C rs) x.h=ofH rs x.h:=by rw[B,List.take_of_length_le (by omega)]
   refine .snoc ih ⟨d.hd,by rw[e];exact d.rd,d.sg,d.sn,λh v a b ex=>?_⟩
   obtain⟨t1,v',t2⟩:=d.tk h v a b ex;have hb:=hc ((x.h,(ofH rs x.h).length),x) (by rw[dI];simp) h v a b ex hk
   refine⟨?_,v',?_⟩
   ·cases z:tkn (au C rs) a b with
    |false=>rfl
    |true=>
     obtain⟨y,hy,Ss⟩:=List.any_eq_true.mp z;rw[show tkn rs a b=true from List.any_eq_true.mpr ⟨y,wL y hy,Ss⟩]at t1;cases t1
   ·unfold aW at t2 ⊢;split at t2
    ·rw[Iu (by assumption),B,List.getElem?_take_of_lt (by omega)];exact t2
    ·cases t2
  ·rw[Jz];exact ih
theorem Vec.in(G:Good H wy rs)(v:Vec H rs q C):(q.2:Int)+1<=g C q.1:=by
 obtain⟨j,I,_⟩:=v.pi G;rw[I.b];exact Int.le_refl _
theorem Do(G:Good H wy rs)(hs:∀a∈Z,a∈Z')(v1:Vec H (ac Z rs) q C1)(v2:Vec H (ac Z' rs) q C2):∀y,0<=y->g C2 y<=g C1 y:=
 v2.mono G.struck (λy _=>v1.nn G.struck) (v1.in G.struck) (pe (v1.cl G.struck) hs)
theorem sN(G:Good H wy rs)(hs:∀a∈Z,a∈Z')(v1:Vec H (ac Z rs) q C1)(v2:Vec H (ac Z' rs) q C2)
  (v3:Vec H (ac Z' (au C1 (ac Z rs))) q D):au D (ac Z' (au C1 (ac Z rs)))=au C2 (ac Z' rs):=by
 have G2:Good H wy (ac Z' rs):=G.struck;have G3:Good H wy (ac Z' (au C1 (ac Z rs))):=(G.struck.cut (v1.cl G.struck)).struck;have l1:=Do G hs v1 v2;rw[jU hs]at v3 G3 ⊢;have hp:∀z∈Zs (ac Z' rs),0<=z.1.1:=λz hz=>by
  obtain⟨i,_,e⟩:=tS hz;exact (G2.wfl.nm e).1
 have l2:=v3.mono (φ:=g C2) G3 (λy _=>v2.nn G2) (v2.in G2) ((v2.cl G2).sub λz hz _ _ _ _ _=>by
  rw[lu.1]at hz;exact (List.mem_filter.mp hz).1)
 have l3:=v2.mono (φ:=g D) G2 (λy _=>v3.nn G3) (v3.in G3) λz hz hh v a b e hk=>v3.cl G3 z (by
  rw[lu.1];have:=l1 _ (hp z hz);have:=l2 _ (hp z hz);exact List.mem_filter.mpr ⟨hz,by simp[kp];omega⟩) hh v a b e hk
 show ((Zs (au C1 (ac Z' rs))).filter (kp D)).map Prod.snd=((Zs _).filter _).map _;rw[lu.1,List.filter_filter];congr 1;apply List.filter_congr;intro z hz;have:=l1 _ (hp z hz);have:=l2 _ (hp z hz);have:=l3 _ (hp z hz);simp only[kp];rw[Bool.eq_iff_iff];simp;omega
end
section
variable {H:Nat}{wy:List Wy}{rs:List Rw}{C:List Int}{q p:Int×Nat}{h:Int}{s:List (List Int)}{N k b:Nat}{x:List Int}
noncomputable def kN(p:Int×Nat):List Int:=[p.1,(p.2:Int)]
noncomputable def cr(s:List (List Int))(z:NR):List (List Int):=
 if kN z.1∈s then
  let s1:=if 0<z.1.2 then ah s [z.1.1,(z.1.2:Int)-1] else s
  match z.2 with
  |.take _ _ a b=>ah s1 [a,b]
  |_=>s1
 else s
theorem re:x∈ah ks y<->x=y\/x∈ks:=by
 induction ks with
 |nil=>simp[ah]
 |cons a ks ih=>
  unfold ah;split
  ·rename_i e;subst e;simp
  ·simp only[Iv,ih];constructor
   ·rintro (h|h|h)<;>simp[h]
   ·rintro (h|h|h)<;>simp[h]
theorem step_iff{z:NR}:x∈cr s z<->x∈s\/(kN z.1∈s/\((0<z.1.2/\x=[z.1.1,(z.1.2:Int)-1])\/∃h v a b,z.2=.take h v a b/\x=[a,b])):=by
 unfold cr;by_cases e:kN z.1∈s
 ·rw[Iu e];have h1:x∈(if 0<z.1.2 then ah s [z.1.1,(z.1.2:Int)-1] else s)<->x∈s\/(0<z.1.2/\x=[z.1.1,(z.1.2:Int)-1]):=by
   split
   ·rename_i c;simp[re,c,or_comm]
   ·rename_i c;simp[c]
  cases w:z.2 with
  |take h v a b=>
   simp only[re,h1,e,true_and];constructor
   ·rintro (h|h|h)
    ·exact .inr (.inr ⟨_,_,_,_,rfl,h⟩)
    ·exact .inl h
    ·exact .inr (.inl h)
   ·rintro (h|h|⟨_,_,_,_,e,h⟩)
    ·exact .inr (.inl h)
    ·exact .inr (.inr h)
    ·cases e;exact .inl h
  |_=>simp only[h1,e,true_and];simp
 ·rw[Im e];simp[e]
noncomputable def ot(q:Int×Nat)(l:List NR):List (List Int):=l.foldr (λz s=>cr s z) [kN q]
theorem tQ{a b:Int×Nat}(h:kN a=kN b):a=b:=by
 unfold kN at h;obtain⟨a1,a2⟩:=a;obtain⟨b1,b2⟩:=b;simp at h;simp[h.1];omega
structure Sn (C:List Int)(q:Int×Nat)(l:List NR) (s:List (List Int)):Prop where
 a:∀x∈s,∃p:Int×Nat,x=kN p/\(p.2:Int)<g C p.1
 b:∀z∈l,kN z.1∈s->∀x,((0<z.1.2/\x=[z.1.1,(z.1.2:Int)-1])\/∃h v a b,z.2=.take h v a b/\x=[a,b])->x∈s
 c:kN q∈s
theorem qh(G:Good H wy rs)(v:Vec H rs q C):∀(l pre:List NR),Zs rs=pre++l->Sn C q l (ot q l)
 |[],_,_=>⟨λx hx=>⟨q,IY.mp hx,by have:=v.in G;omega⟩,λz hz=>(by cases hz),IY.mpr rfl⟩
 |z::l,pre,e=>by
  have I:=qh G v l (pre++[z]) (by rw[e];simp)
  have hz:(Zs rs)[pre.length]?=some z:=by rw[e];simp
  obtain⟨z1,z2⟩:=List.getElem?_zip_eq_some.mp hz;have hn:∀{z':NR}{i:Nat}{k:Nat},z'∈l->i<=pre.length->(nms rs)[i]?=some (z'.1.1,k)->k<z'.1.2:=λ{z' i k} LK hi e1=>by
   obtain⟨m,hm⟩:=List.mem_iff_getElem?.mp LK;have:(Zs rs)[pre.length+1+m]?=some z':=by
    rw[e,List.getElem?_append_right (by omega),show pre.length+1+m-pre.length=m+1 by omega];exact hm
   exact gi _ _ _ _ _ _ _ (show i<pre.length+1+m by omega) e1 (List.getElem?_zip_eq_some.mp this).1
  have no:∀z'∈l,¬ ((0<z.1.2/\kN z'.1=[z.1.1,(z.1.2:Int)-1])\/∃h v a b,z.2=.take h v a b/\kN z'.1=[a,b]):=by
   rintro z' LK (⟨h1,h2⟩|⟨h,w,a,b,h1,h2⟩)
   ·simp[kN]at h2;obtain⟨h2,h3⟩:=h2;have:=hn (k:=z.1.2) LK (Iq _) (by rw[z1,h2])
    omega
   ·simp[kN]at h2;rw[h1]at z2;obtain⟨i',k,_,_,c1,c2,c3,_⟩:=G.wfl.tk _ _ _ _ _ z2;obtain⟨h2,h3⟩:=h2;have:=hn (k:=k) LK (Nat.le_of_lt c1) (by rw[c2,h2])
    omega
  have OT:z∈Zs rs:=IW hz;show Sn C q (z::l) (cr (ot q l) z);refine⟨λx hx=>?_,λz' LK hk x hx=>?_,step_iff.mpr (.inl I.c)⟩
  ·rcases step_iff.mp hx with hx|⟨h1,hx⟩
   ·exact I.a x hx
   ·obtain⟨p,hp,Mu⟩:=I.a _ h1;have:=tQ hp;subst this;rcases hx with ⟨h2,rfl⟩|⟨h,w,a,b,h2,rfl⟩
    ·exact⟨(z.1.1,z.1.2-1),by simp[kN];omega,by simp;omega⟩
    ·rw[h2]at z2;obtain⟨i',k,_,_,c1,c2,c3,_⟩:=G.wfl.tk _ _ _ _ _ z2;have:=v.cl G z OT _ _ _ _ h2 Mu;exact⟨(a,k),by simp[kN,c3],by simp;omega⟩
  ·rcases Iv.mp LK with rfl|LK
   ·rcases step_iff.mp hk with hk|⟨hk,_⟩<;>exact step_iff.mpr (.inr ⟨hk,hx⟩)
   ·rcases step_iff.mp hk with hk|⟨_,hk⟩
    ·exact step_iff.mpr (.inl (I.b z' LK hk x hx))
    ·exact absurd hk (no z' LK)
noncomputable def lo(s:List (List Int))(N:Nat)(h:Int):Nat:=(List.range N).findIdx λk:Nat=>!decide ([h,(k:Int)]∈s)
theorem yo(hk:k<lo s N h):[h,(k:Int)]∈s:=by
 have h1:=List.findIdx_le_length (xs:=List.range N) (p:=λk:Nat=>!decide ([h,(k:Int)]∈s))
 have h2:=List.not_of_lt_findIdx hk;simpa using h2
theorem BS(hb:b<N)(h1:∀k:Nat,k<=b->[h,(k:Int)]∈s):b+1<=lo s N h:=by
 apply Decidable.byContradiction;intro hn;have h2:lo s N h<(List.range N).length:=by simp;omega
 have h3:(!decide ([h,(((List.range N)[lo s N h]'h2:Nat):Int)]∈s))=true:=List.findIdx_getElem (p:=λk:Nat=>!decide ([h,(k:Int)]∈s)) (w:=h2)
 have h4:=h1 (lo s N h) (by omega)
 rw[List.getElem_range h2]at h3;simp at h3;exact h3 h4
theorem tM(G:Good H wy rs)(v:Vec H rs q C)(hp:p∈nms rs):kN p∈ot q (Zs rs)<->(p.2:Int)<g C p.1:=by
 have I:=qh G v (Zs rs) [] rfl;generalize ot q (Zs rs)=s at I ⊢;constructor
 ·intro h;obtain⟨p',e,h⟩:=I.a _ h;rw[tQ e];exact h
 ·intro H_;have dn:∀(k:Nat)(y:Int),(y,k)∈nms rs->kN (y,k)∈s->∀k':Nat,k'<=k->[y,(k':Int)]∈s:=λk=>by
   induction k with
   |zero=>intro y _ hs k' Kp;rw[Nat.le_zero.mp Kp];exact hs
   |succ k ih=>
    intro y hy hs k' Kp;rcases Nat.lt_or_eq_of_le Kp with Kp|rfl
    ·obtain⟨z,hz,e⟩:=IV.mp (by rw[<-j0]at hy;exact hy)
     refine ih y (nm_iff.mpr (by have:=nm_iff.mp hy;simp at this ⊢;omega)) (I.b z hz (by rw[e];exact hs) _ (.inl ⟨by rw[e];simp,by rw[e];simp[kN]⟩)) k' (by omega)
    ·exact hs
  have hN:∀{y:Int}{k:Nat},(y,k)∈nms rs->k<rs.length:=λ{y k} hy=>by
   have:=nm_iff.mp hy;have h2:=List.length_filter_le (λr:Rw=>decide (r.h=y)) rs
   unfold ofH at this;simp at this;omega
  have up:∀{y:Int}{k:Nat},(y,k)∈nms rs->kN (y,k)∈s->(k:Int)+1<=lo s rs.length y:=λ{y k} hy hs=>by
   have:=BS (hN hy) (dn _ _ hy hs);omega
  obtain⟨j,_,hq⟩:=v.pi G;have:=v.mono (φ:=λy=>(lo s rs.length y:Int)) G (λy _=>by omega) (up (IW hq) I.c) λz hz hh w a b e hk=>by
   obtain⟨i,e1,e2⟩:=tS hz;rw[e]at e1;obtain⟨i',k,_,_,c1,c2,c3,_⟩:=G.wfl.tk _ _ _ _ _ e1;subst c3;exact up (IW c2) (I.b z hz (yo (by simpa using hk)) _ (.inr ⟨_,_,_,_,e,rfl⟩))
  obtain⟨i,hi⟩:=List.mem_iff_getElem?.mp hp;have:=this p.1 (G.wfl.nm hi).1;exact yo (N:=rs.length) (by omega)
theorem uu(G:Good H wy rs)(v:Vec H rs q C):((Zs rs).filter λz=>decide (kN z.1∈ot q (Zs rs))).map Prod.snd=au C rs:=by
 unfold au;congr 1;apply List.filter_congr;intro z hz;simp only[kp];rw[Bool.eq_iff_iff];simp[tM G v (List.of_mem_zip hz).1]
end
section
variable {S:St}{r:Rw}{rs:List Rw}{c:Int->Nat}{H:Nat}{wy:List Wy}{i j h:Int}{Z:List Int}
theorem mw(U:UI rs S c)(h:unF rs i j=some d)(ht:r.tk i j=false):unF (rs++[r]) i j=some d:=by
 have hn:¬ (r.h=i/\j=(ofH rs i).length):=λz=>by
  rw[z.2,jR U]at h;cases h
 unfold unF at h ⊢;rw[eS,ht,Bool.or_false,eI,Im hn];exact h
theorem zf(U:UI rs S c):unF (rs++[.send h v t]) h ((ofH rs h).length:Nat)=some (.int t):=by
 unfold unF;have e:aW (rs++[Rw.send h v t]) h ((ofH rs h).length:Nat)=some (.send h v t):=f9 (r:=.send h v t);rw[eS,tj U,e];rfl
def Rw.may(wy:List Wy)(rs:List Rw):Rw->Prop
 |.look ..=>True
 |.w_ _ _ e l=>e<=l
 |.send h _ t=>[h,t]∈wy.map pr
 |.take h _ a b=>unF rs a b=some (.int h)
theorem Gd.may(hd:0<=r.h/\r.h<H)(hr:∀x,(ofH rs r.h).getLast?=some x->x.r<=r.r)(hk:r.may wy rs):Gd H wy rs r:=by
 refine⟨hd,hr,λh v e l er=>(by subst er;exact hk),λh v t er=>(by subst er;exact hk),λh v a b er=>?_⟩
 subst er;have th:unF rs a b=some (.int h):=hk;unfold unF at th;split at th
 ·cases th
 ·rename_i tn;obtain⟨x,hx,hu⟩:=Option.bind_eq_some_iff.mp th;have hh:x∈ofH rs a:=by
   unfold aW at hx;split at hx
   ·exact IW hx
   ·cases hx
  have hh:x.h=a:=by simpa using (List.mem_filter.mp hh).2
  refine⟨by simpa using tn,?_⟩
  cases x with
  |send h' v' t'=>
   simp only[Rw.un,Option.some.injEq,D.int.injEq]at hu;subst hu hh;exact⟨v',hx⟩
  |_=>cases hu
end
section
variable {r:Rw}{rs:List Rw}{wy:List Wy}
noncomputable def Rw.s:Rw->PySem.Str
 |.look ..=>"look"
 |.w_ ..=>"sight"
 |.send ..=>"send"
 |.take ..=>"take"
structure Ent where
 h:Int
 k:Int
 to:Int
 lo:Int
 hi:Option Int
noncomputable def Ent.d(e:Ent):D:=.tup [.tup [.int e.h,.int e.k],.int e.to,.int e.lo,oi e.hi]
noncomputable abbrev A3:=Int×Int×Int
noncomputable def a3D(a:A3):D:=.tup [.int a.1,.int a.2.1,.int a.2.2]
structure TA (H:Nat)(wy:List Wy)(rs:List Rw)(at_:List A3)(sn:List Ent):Prop where
 f:Good H wy rs
 la:at_.length=H
 cn:∀k:Nat,k<H->(at_.getD k (0,0,0)).1=(ofH rs k).length
 rd:∀k:Nat,k<H->∀x,(ofH rs k).getLast?=some x->x.r<=(at_.getD k (0,0,0)).2.1
 un:∀e∈sn,unF rs e.h e.k=some (.int e.to)/\0<=e.to/\e.to<H
 nd:(sn.map λe=>(e.h,e.k)).Nodup
theorem gG{l:List α}(hk:k<l.length):(l.set k x).getD j d=if j=k then x else l.getD j d:=by
 rw[List.getD_eq_getElem?_getD,List.getD_eq_getElem?_getD];by_cases e:j=k
 ·subst e;simp[hk]
 ·rw[Jp (IB e),Im e]
theorem TA.step{at_:List A3}{sn J0:List Ent}{k:Nat}{v m:Int}(T:TA H wy rs at_ sn)(hk:k<H)(hh:r.h=k)(hr:r.r=v)(hv:(at_.getD k (0,0,0)).2.1<=v)
  (hK:r.may wy rs)
  (Su:∀e∈J0,unF (rs++[r]) e.h e.k=some (.int e.to)/\0<=e.to/\e.to<H) (Sv:(J0.map λe=>(e.h,e.k)).Nodup) :
  TA H wy (rs++[r]) (at_.set k ((at_.getD k (0,0,0)).1+1,v,m)) J0:=by
 have QS:k<at_.length:=by rw[T.la];exact hk
 refine⟨.snoc T.f (.may (by rw[hh];omega) (λx hx=>by
  rw[hh]at hx;have:=T.rd k hk x hx;rw[hr];omega) hK),by simp[T.la],λj hj=>?_,λj hj x hx=>?_,Su,Sv⟩
 ·rw[gG QS,cy,hh];by_cases e:j=k
  ·subst e;rw[Iu rfl,Iu rfl];rw[T.cn j hj];simp
  ·rw[Im e,Im (λz=>e (by omega))]
   exact T.cn j hj
 ·rw[cy,hh]at hx;rw[gG QS];by_cases e:j=k
  ·subst e;rw[Iu rfl]at hx;rw[Iu rfl];simp at hx;rw[<-hx,hr];exact Int.le_refl _
  ·rw[Im (λz=>e (by omega))]at hx
   rw[Im e];exact T.rd j hj x hx
theorem TA.plain{at_:List A3}(T:TA H wy rs at_ sn)(hk:k<H)(hh:r.h=k)(hr:r.r=v)(hv:(at_.getD k (0,0,0)).2.1<=v)
  (hK:r.may wy rs) (hp:r.s = "look"\/r.s = "sight"):TA H wy (rs++[r]) (at_.set k ((at_.getD k (0,0,0)).1+1,v,m)) sn:=by
 have U:=T.f.fine.2;refine T.step hk hh hr hv hK (λe he=>⟨mw U (T.un e he).1 ?_,(T.un e he).2⟩) T.nd
 cases r with
 |take=>exact absurd hp (by simp +decide [Rw.s])
 |_=>rfl
theorem TA.send{at_:List A3}{e:Ent}(T:TA H wy rs at_ sn)(hk:k<H)(hv:(at_.getD k (0,0,0)).2.1<=v)(hw:[(k:Int),e.to]∈wy.map pr)(h0:0<=e.to)(h1:e.to<H)(eh:e.h=k)(ek:e.k=(at_.getD k (0,0,0)).1) :
  TA H wy (rs++[.send k v e.to]) (at_.set k ((at_.getD k (0,0,0)).1+1,v,m)) (sn++[e]):=by
 have U:=T.f.fine.2;have ec:e.k=((ofH rs k).length:Nat):=by rw[ek];exact T.cn k hk
 refine T.step hk rfl rfl hv hw (λx hx=>?_) ?_
 ·rcases IX.mp hx with z|z
  ·exact⟨mw U (T.un x z).1 rfl,(T.un x z).2⟩
  ·rw[IY.mp z,eh,ec];exact⟨zf U,h0,h1⟩
 ·rw[Jj,List.nodup_append];refine⟨T.nd,by simp,λp hp q hq z=>?_⟩
  obtain⟨x,hx,rfl⟩:=IV.mp hp;have hq:q=(e.h,e.k):=by simpa using hq
  subst z;have u:=(T.un x hx).1;have e1:x.h=e.h:=congrArg Prod.fst hq;have e2:x.k=e.k:=congrArg Prod.snd hq;rw[e1,e2,eh,ec,jR U]at u;cases u
theorem TA.take{at_:List A3}{Kn sn2:List Ent}{v m:Int}{e:Ent}{k:Nat}(T:TA H wy rs at_ (Kn++e::sn2))(hk:e.to=k)(hv:(at_.getD k (0,0,0)).2.1<=v) :
  TA H wy (rs++[.take k v e.h e.k]) (at_.set k ((at_.getD k (0,0,0)).1+1,v,m)) (Kn++sn2):=by
 have U:=T.f.fine.2;have te:=T.un e (by simp)
 have Sw:k<H:=by have:=te.2.2;omega
 have nd:=T.nd;rw[Jj,Ip,List.nodup_append,Ja]at nd;refine T.step Sw rfl rfl hv (show unF rs e.h e.k=some (.int k) by rw[<-hk];exact te.1) (λx hx=>?_) ?_
 ·have hm:x∈Kn++e::sn2:=by
   rcases IX.mp hx with z|z
   ·exact Jg _ z
   ·exact IU _ (Io _ z)
  refine⟨mw U (T.un x hm).1 ?_,(T.un x hm).2⟩;have ne:¬ (e.h=x.h/\e.k=x.k):=λz=>by
   rcases IX.mp hx with y|y
   ·exact nd.2.2 (x.h,x.k) (IV.mpr ⟨x,y,rfl⟩) (e.h,e.k) (by simp) (by rw[z.1,z.2])
   ·exact nd.2.1.1 (IV.mpr ⟨x,y,by rw[z.1,z.2]⟩)
  simp only[Rw.tk];by_cases a:e.h=x.h
  ·have:¬ e.k=x.k:=λb=>ne ⟨a,b⟩
   simp[this]
  ·simp[a]
 ·rw[Jj,List.nodup_append];exact⟨nd.1,nd.2.1.2,λp hp q hq=>nd.2.2 p hp q (Io _ hq)⟩
end
section
noncomputable def kg:Nat->Int->Int->List Int
 |0,_,_=>[]
 |k+1,lo,x=>(x*x+48271*x+lo) % 10000000000000000000000000000000000000121::kg k (lo+1) ((x*x+48271*x+lo) % 10000000000000000000000000000000000000121)
theorem md:∀(k:Nat)(lo x:Int),(kg k lo x).length=k
 |0,_,_=>rfl
 |k+1,lo,x=>by simp[kg,md k]
theorem mK{De:Ends3}:∀(k:Nat)(lo x:Int)(acc:List Int)(x4:Option D),0<=x->x<100000000000000000000000000000000000000000->acc.length+k<500->
  (∀y x4,De.nx [x0,x1,some (.ref a),some (.int y),x4] (put M a (.lst ((acc++kg k lo x).map D.int)))=R)->
  bM W (.name 4) cf ES (λ_=>True) De (rng lo k) [x0,x1,some (.ref a),some (.int x),x4] (put M a (.lst (acc.map D.int)))=R
 |0,lo,x,acc,x4,_,_,_,hR=>by
  have:=hR x x4;simp[kg]at this;simp[rng,aZ,this]
 |k+1,lo,x,acc,x4,h0,h1,hl,hR=>by
  have c1:dX x x=True:=jZ (by omega) (by omega) (by omega) (by omega)
  have c2:dX 48271 x=True:=jZ (by omega) (by omega) (by omega) (by omega)
  have hs:acc.length<PySem.sizeLine:=Iw (show acc.length<1000 by omega) (by decide)
  have ih:=mK (W:=W) (De:=De) (ES:=ES) (R:=R) (x0:=x0) (x1:=x1) k (lo+1) ((x*x+48271*x+lo) % 10000000000000000000000000000000000000121) (acc++[(x*x+48271*x+lo) % 10000000000000000000000000000000000000121]) (some (.int lo)) (Jn _ (by decide)) (Int.lt_trans (Jl _ (by decide)) (by decide)) (by simp;omega) (λy x4=>by
   have:=hR y x4;simpa [kg] using this)
  rw[jP,aD];simp only[cf]at ih ⊢;simp[c1,c2,ju,hs];simpa using ih
noncomputable def aM(c:Int)(m:Nat):List Int:=(kg (m+4) 0 (c % 10000000000000000000000000000000000000121+48271)).drop 4
theorem bQ:(aM c m).length=m:=by simp[aM,md]
theorem eF(hM:Fm M)(hm:m<100):aa T (B cls c_ d_) (n+1) 39 [.int c,.int (m:Nat)] M Q E=Q (.e_ ((aM c m).map D.int)) M:=by
 have h0:0<=c % 10000000000000000000000000000000000000121:=Jn _ (by decide)
 have h1:c % 10000000000000000000000000000000000000121<10000000000000000000000000000000000000121:=Jl _ (by decide)
 have hb:(m:Int)+4<4611686018427387904:=by omega
 have QQ : -4611686018427387904<=(m:Int)+4:=by omega
 simp only[mi,dD];simp;refine iff_of_eq (ao hM λp hp=>?_)
 simp[ju,hb,QQ];rw[show ((m:Int)+4).toNat=m+4 by omega]
 refine iff_of_eq (mK (M:=M) (m+4) 0 _ [] none (by omega) (by omega) (by simp;omega) λy x4=>?_)
 have ln:(kg (m+4) 0 (c % 10000000000000000000000000000000000000121+48271)).length=m+4:=md _ _ _;have ec:dF ((kg (m+4) 0 (c % 10000000000000000000000000000000000000121+48271)).map D.int) (some 4) none=(aM c m).map D.int:=by
  unfold dF aM;have e4:HT.sIx ((kg (m+4) 0 (c % 10000000000000000000000000000000000000121+48271)).map D.int).length 0 (some 4)=4:=by
   rw[show (4:Int)=((4:Nat):Int) from rfl,HT.sIx_nat,ID,ln];omega
  rw[e4,HT.sIx_none,ID,ln,<-List.map_drop,<-List.map_take,List.take_of_length_le (by rw[List.length_drop,ln];omega)]
 have hz:(aM c m).length<=PySem.sizeLine:=by rw[bQ,PySem.sizeLine_eq];omega
 simp[mm,ai,af,dH,ec,hz,mZ hp]
end
section
theorem qJ(a b c:Int)(i:Int)(h0:0<=i)(h3:i<3):∃x:Int,(x=a\/x=b\/x=c)/\∀{M:MH}{Q:VK3},am (.e_ [.int a,.int b,.int c]) (.int i) M Q=Q (.int x) M:=by
 have:i=0\/i=1\/i=2:=by omega
 rcases this with rfl|rfl|rfl
 ·exact⟨a,.inl rfl,by intro M Q;simp⟩
 ·exact⟨b,.inr (.inl rfl),by intro M Q;simp⟩
 ·exact⟨c,.inr (.inr rfl),by intro M Q;simp⟩
theorem aB{l:List Int}{k:Nat}(h:k<l.length):am (.e_ (l.map D.int)) (.int (k:Nat)) M Q=Q (.int (l.getD k 0)) M:=by
 have e:(l.map D.int)[k]?=some (.int (l.getD k 0)):=by
  rw[IJ,IG h,List.getD_eq_getElem?_getD,IG h];rfl
 exact gc (bX e)
theorem Ef{xs:List Int}(hl:3<=xs.length)(h0:1<=size)(h1:size<=10 ^ 30):∃(l:Int)(m:Option Int),mF l m=false/\l<=10 ^ 30/\(∀y,m=some y->y<=2*10 ^ 30)/\∀{n:Nat}{M:MH}{Q:VK3}{E:XN},aa T (B cls c_ d_) (n+1) 40 [.e_ (xs.map D.int),.int size] M Q E=Q (way l m) M:=by
 have i0:∀{M:MH}{Q:VK3},am (.e_ (xs.map D.int)) (.int 0) M Q=Q (.int (xs.getD 0 0)) M:=λ{M Q}=>aB (k:=0) (by omega)
 have i1:∀{M:MH}{Q:VK3},am (.e_ (xs.map D.int)) (.int 1) M Q=Q (.int (xs.getD 1 0)) M:=λ{M Q}=>aB (k:=1) (by omega)
 have i2:∀{M:MH}{Q:VK3},am (.e_ (xs.map D.int)) (.int 2) M Q=Q (.int (xs.getD 2 0)) M:=λ{M Q}=>aB (k:=2) (by omega)
 generalize xs.getD 0 0=x0 at i0;generalize xs.getD 1 0=x1 at i1;generalize xs.getD 2 0=x2 at i2;have z:¬ size=0:=by omega
 have zp:0<size:=by omega
 have m0:=Jn x0 z;have m1:=Jl x0 zp;have m2:=Jn x2 z;have m3:=Jl x2 zp;obtain⟨l,LH,QT⟩:=qJ 0 1 (x0 % size) (x1 % 3) (by omega) (by omega)
 obtain⟨g,Tp,Sx⟩:=qJ 0 1 (x2 % size) (x1 / 12 % 3) (by omega) (by omega)
 have l0:0<=l/\l<=10 ^ 30:=by omega
 have g0:0<=g/\g<=10 ^ 30:=by omega
 by_cases h:x1 / 3 % 4=0
 ·refine⟨l,none,by simp[mF,l0.1],l0.2,(λy e=>by cases e),?_⟩
  intro n M Q E;simp only[lC,eV];simp[↓i0,↓i1,↓i2,z,zp,↓QT,bx,h,way,oi,aq]
 ·refine⟨l,some (l+g),by simp[mF];omega,l0.2,(λy e=>by cases e;omega),?_⟩
  intro n M Q E;simp only[lC,eV];simp[↓i0,↓i1,↓i2,z,zp,↓QT,↓Sx,bx,h,way,oi,aq]
end
section
theorem qi(a b c d:Int)(i:Int)(h0:0<=i)(h3:i<4):∃x:Int,(x=a\/x=b\/x=c\/x=d)/\∀{M:MH}{Q:VK3},am (.e_ [.int a,.int b,.int c,.int d]) (.int i) M Q=Q (.int x) M:=by
 have:i=0\/i=1\/i=2\/i=3:=by omega
 rcases this with rfl|rfl|rfl|rfl
 ·exact⟨a,.inl rfl,by intro M Q;simp⟩
 ·exact⟨b,.inr (.inl rfl),by intro M Q;simp⟩
 ·exact⟨c,.inr (.inr (.inl rfl)),by intro M Q;simp⟩
 ·exact⟨d,.inr (.inr (.inr rfl)),by intro M Q;simp⟩
noncomputable def eY(c1 mo t0:Int)(lo:Option Int):Int:=match lo with
 |some l=>if mo+c1*t0<l then (l-mo+c1-1) / c1 else t0
 |none=>t0
noncomputable def iA(c0 mo t:Int)(lo:Option Int):Int:=match lo with
 |some l=>if mo+c0*t<l then l else mo+c0*t
 |none=>mo+c0*t
noncomputable def iy(c1 mo t:Int)(hi:Option Int):Int:=match hi with
 |some l=>if l<mo+c1*t then l else mo+c1*t
 |none=>mo+c1*t
def inB(B:Int)(o:Option Int):Prop:=∀y,o=some y->-B<=y/\y<=B
theorem Dd{c1 mo t0 B:Int}{lo:Option Int}(h1:1<=c1)(h2:c1<=10 ^ 31)(t1:0<=t0)(t2:t0<=10 ^ 12)(b1:10 ^ 43<=B)(m1 : -B<=mo)(m2:mo<=B)(hl:inB B lo) :
  0<=eY c1 mo t0 lo/\c1*eY c1 mo t0 lo<=3*B/\eY c1 mo t0 lo<=3*B:=by
 have p0:c1*t0<=10 ^ 31*10 ^ 12:=Int.mul_le_mul h2 t2 t1 (by omega)
 have base:0<=t0/\c1*t0<=3*B/\t0<=3*B:=⟨t1,by omega,by omega⟩
 cases lo with
 |none=>exact base
 |some l=>
  obtain⟨l1,l2⟩:=hl l rfl;unfold eY;simp only;split
  ·rename_i H_;have hp:0<=c1*t0:=Int.mul_nonneg (by omega) t1
   have q0:0<=(l-mo+c1-1) / c1:=Int.ediv_nonneg (by omega) (by omega)
   have q1:c1*((l-mo+c1-1) / c1)<=l-mo+c1-1:=Int.mul_ediv_self_le (by omega)
   have q2:(l-mo+c1-1) / c1<=c1*((l-mo+c1-1) / c1):=by
    have:=Int.mul_le_mul_of_nonneg_right h1 q0;omega
   exact⟨q0,by omega,by omega⟩
  ·exact base
theorem D4{c0 c1 mo t B:Int}{lo hi:Option Int}(h0:1<=c0)(h1:c0<=c1)(t0:0<=t)(ht:c1*t<=3*B)(m1 : -B<=mo)(m2:mo<=B)(hl:inB B lo)(hh:inB B hi) :
  (-B<=iA c0 mo t lo/\iA c0 mo t lo<=4*B)/\(-B<=iy c1 mo t hi/\iy c1 mo t hi<=4*B)/\(lo=none->hi=none->iA c0 mo t lo<=iy c1 mo t hi):=by
 have p0:0<=c0*t:=Int.mul_nonneg (by omega) t0
 have p1:c0*t<=c1*t:=Int.mul_le_mul_of_nonneg_right h1 t0;refine⟨?_,?_,λe1 e2=>?_⟩
 ·cases lo with
  |none=>unfold iA;simp only;omega
  |some l=>obtain⟨l1,l2⟩:=hl l rfl;unfold iA;simp only;split<;>omega
 ·cases hi with
  |none=>unfold iy;simp only;omega
  |some l=>obtain⟨l1,l2⟩:=hh l rfl;unfold iy;simp only;split<;>omega
 ·subst e1 e2;unfold iA iy;simp only;omega
theorem Ct{c0 c1 cnt rd mo B:Int}{xs:List Int}{lo hi:Option Int}(hx:3<=xs.length)(h0:1<=c0)(h1:c0<=c1)(h2:c1<=10 ^ 31)(b1:10 ^ 43<=B)(b2:B<=10 ^ 60)(m1 : -B<=mo)(m2:mo<=B)(hl:inB B lo)(hh:inB B hi) :
  ∃t f l:Int,0<=t/\t<=3*B/\(-B<=f/\f<=4*B)/\(-B<=l/\l<=4*B)/\(lo=none->hi=none->f<=l)/\∀{n:Nat}{M:MH}{Q:VK3}{E:XN},aa T (G.B cls c_ d_) (n+1) 43 [.tup [.int c0,.int c1],.tup [.int cnt,.int rd,.int mo],.e_ (xs.map D.int),oi lo,oi hi] M Q E=Q (.tup [.int t,.int f,.int l]) M:=by
 have i1:∀{M:MH}{Q:VK3},am (.e_ (xs.map D.int)) (.int 1) M Q=Q (.int (xs.getD 1 0)) M:=λ{M Q}=>aB (k:=1) (by omega)
 have i2:∀{M:MH}{Q:VK3},am (.e_ (xs.map D.int)) (.int 2) M Q=Q (.int (xs.getD 2 0)) M:=λ{M Q}=>aB (k:=2) (by omega)
 generalize xs.getD 1 0=x1 at i1;generalize xs.getD 2 0=x2 at i2;obtain⟨t0,Tq,Nk⟩:=qi 0 1 (x1 % 5) (x1 % 1000000000000) (x2 % 4) (by omega) (by omega)
 have t1:0<=t0/\t0<=10 ^ 12:=by omega
 obtain⟨a1,a2,a3⟩:=Dd (lo:=lo) (c1:=c1) (mo:=mo) (t0:=t0) (B:=B) (by omega) h2 t1.1 t1.2 b1 m1 m2 hl
 obtain⟨d1,d2,d3⟩:=D4 (c0:=c0) (hi:=hi) h0 h1 a1 a2 m1 m2 hl hh;refine⟨_,_,_,a1,a3,d1,d2,d3,?_⟩;intro n M Q E;have k0:dX c1 t0=True:=jZ (by omega) (by omega) (by omega) (by omega)
 have k1:dX c0 (eY c1 mo t0 lo)=True:=jZ (by omega) (by omega) (by omega) (by omega)
 have k2:dX c1 (eY c1 mo t0 lo)=True:=jZ (by omega) (by omega) (by omega) (by omega)
 have z:¬ c1=0:=by omega
 have zp:0<c1:=by omega
 simp only[sD,gQ];cases lo with
 |none=>
  cases hi with
  |none=>
   simp only[eY]at k1 k2;simp[↓i1,↓i2,↓Nk,ju,k1,k2,oi,D.isN,eY,iA,iy,aq]
  |some y=>
   simp only[eY]at k1 k2;by_cases hy:y<mo+c1*t0<;>simp[↓i1,↓i2,↓Nk,ju,k1,k2,hy,oi,D.isN,eY,iA,iy,aq]
 |some l=>
  by_cases H_:mo+c1*t0<l
  ·simp only[eY,Iu H_]at k1 k2;obtain⟨l1,l2⟩:=hl l rfl;have kd:kU (l-mo+c1-1) c1=True:=bx zp (by omega)
   cases hi with
   |none=>simp[↓i1,↓i2,↓Nk,ju,k0,k1,k2,kd,H_,z,zp,oi,D.isN,eY,iA,iy,aq]
   |some y=>by_cases hy:y<mo+c1*((l-mo+c1-1) / c1)<;>simp[↓i1,↓i2,↓Nk,ju,k0,k1,k2,kd,hy,H_,z,zp,oi,D.isN,eY,iA,iy,aq]
  ·simp only[eY,Im H_]at k1 k2;cases hi with
   |none=>simp[↓i1,↓i2,↓Nk,ju,k0,k1,k2,H_,oi,D.isN,eY,iA,iy,aq]
   |some y=>by_cases hy:y<mo+c1*t0<;>simp[↓i1,↓i2,↓Nk,ju,k0,k1,k2,hy,H_,oi,D.isN,eY,iA,iy,aq]
end
section
variable {cls c_ d_:Nat->PySem.Addr}{M:MH}{Q:VK3}{E:XN}{n:Nat}{wy:List Wy}{f_:List (Int×Int)}
theorem yl{l:List Int}{i:Int}(h0:0<=i)(h1:i<l.length):∃x∈l,∀{M:MH}{Q:VK3},am (.e_ (l.map D.int)) (.int i) M Q=Q (.int x) M:=by
 obtain⟨k,rfl⟩:=Jx h0;have hk:k<l.length:=by omega
 exact⟨l.getD k 0,by rw[List.getD_eq_getElem?_getD,IG hk];exact Jw hk,aB hk⟩
structure WS (H:Nat)(i j:Nat)(wy:List Wy):Prop where
 nd:(wy.map pr).Nodup
 gd:∀w∈wy,w.good H
 sm:∀w∈wy,w.l<=10 ^ 30/\∀y,w.m=some y->y<=2*10 ^ 30
 lo:∀w∈wy,w.i<i\/(w.i=i/\w.j<j)
theorem WS.skip(W:WS H i j wy):WS H i (j+1) wy:=⟨W.nd,W.gd,W.sm,λw hw=>by rcases W.lo w hw with h|h;exact .inl h;exact .inr ⟨h.1,by omega⟩⟩
theorem WS.row(W:WS H i j wy):WS H (i+1) 0 wy:=⟨W.nd,W.gd,W.sm,λw hw=>.inl (by have:=W.lo w hw;omega)⟩
theorem WS.new(W:WS H i j wy)(hi:i<H)(hj:j<H)(Sy:i≠j)(hl:mF l m=false)(hs:l<=10 ^ 30/\∀y,m=some y->y<=2*10 ^ 30):WS H i (j+1) (wy++[⟨i,j,l,m⟩])/\[(i:Int),(j:Int)]∉wy.map pr:=by
 have hn:[(i:Int),(j:Int)]∉wy.map pr:=λz=>by
  obtain⟨w,hw,e⟩:=IV.mp z;simp only[pr,List.cons.injEq,and_true]at e;rcases W.lo w hw with h|h<;>omega
 have al:∀{P:Wy->Prop},(∀w∈wy,P w)->P ⟨i,j,l,m⟩->∀w∈wy++[⟨i,j,l,m⟩],P w:=λh1 h2 w hw=>by
  rcases IX.mp hw with h|h
  ·exact h1 w h
  ·obtain rfl:=IY.mp h;exact h2
 refine⟨⟨?_,al W.gd ⟨by simp[okH,hi],by simp[okH,hj],λz=>Sy (by have:(i:Int)=j:=z;omega),hl⟩,al W.sm hs,al (λw hw=>?_) (.inr ⟨rfl,by simp;omega⟩)⟩,hn⟩
 ·rw[Jj,List.nodup_append];refine⟨W.nd,by simp,λa ha b hb=>?_⟩
  simp only[Ip,List.map_nil,IY]at hb;subst hb;exact λz=>hn (by have:a=[(i:Int),(j:Int)]:=z;rw[<-this];exact ha)
 ·have:=W.lo w hw;omega
theorem gv{ks:List (List Int)}(h:M b=some (.dt ks ds))(hz:ks.length<1000):bp (.ref b) (.tup [.int i,.int j]) y M R=R (put M b (.dt (ah ks [i,j]) (ak ks ds [i,j] y))):=by
 have hs:ks.length<PySem.sizeLine:=Iw hz (by decide)
 simp[bp,h,fF,cO,hs]
theorem mH{H one:Nat}{size c:Int}{M0:MH}(Og:Fm M0)(s0:1<=size)(s1:size<=10 ^ 30)(hH:H<=6)(ho:one<H){a b:PySem.Addr}{cl:List D}{De:Ends3}{ES:St3->XN}{y1 y2 y7:Option D}:∀(k j:Nat)(wy:List Wy)(x8 x9:Option D),j+k=H->wy.length+k<400->WS H one j wy->
  (∀(Kt:List Wy) x8 x9,Kt.length<=wy.length+k->WS H (one+1) 0 Kt->De.nx [some (.int c),y1,y2,some (.int size),some (.ref a),some (.ref b),some (.int one),y7,x8,x9] (put (put M0 a (.lst cl)) b (.dt (Kt.map pr) (Kt.map wv))))->
  bM ⟨(B cls c_ d_),aa T (B cls c_ d_) (n+1)⟩ (.name 8) bH ES (λ_=>True) De (rng j k) [some (.int c),y1,y2,some (.int size),some (.ref a),some (.ref b),some (.int one),y7,x8,x9] (put (put M0 a (.lst cl)) b (.dt (wy.map pr) (wy.map wv)))
 |0,j,wy,x8,x9,h1,h2,hW,hR=>by
  show bM _ _ _ _ _ _ [] _ _;rw[aZ];exact⟨trivial,hR wy _ _ (by omega) hW.row⟩
 |k+1,j,wy,x8,x9,h1,h2,hW,hR=>by
  have fm:Fm (put (put M0 a (.lst cl)) b (.dt (wy.map pr) (wy.map wv))):=(Og.put _ _).put _ _;have st:∀{Q:VK3}{E:XN},aa T (B cls c_ d_) (n+1) 39 [.int (c+7*(one:Int)+43*(j:Int)+1),.int 4] (put (put M0 a (.lst cl)) b (.dt (wy.map pr) (wy.map wv))) Q E=Q (.e_ ((aM (c+7*(one:Int)+43*(j:Int)+1) 4).map D.int)) (put (put M0 a (.lst cl)) b (.dt (wy.map pr) (wy.map wv))):=λ{Q E}=>eF (m:=4) fm (by omega)
  have hl:(aM (c+7*(one:Int)+43*(j:Int)+1) 4).length=4:=bQ;generalize aM (c+7*(one:Int)+43*(j:Int)+1) 4=ys at st hl;have i3:∀{M:MH}{Q:VK3},am (.e_ (ys.map D.int)) (.int 3) M Q=Q (.int (ys.getD 3 0)) M:=λ{M Q}=>aB (k:=3) (by omega)
  generalize ys.getD 3 0=y at i3;obtain⟨l,m,hb,b1,b2,cw⟩:=Ef (cls:=cls) (c_:=c_) (d_:=d_) (xs:=ys) (by omega) s0 s1
  have Sz:∀{M:MH}{Q:VK3}{E:XN},aa T (B cls c_ d_) (n+1) 40 [.e_ (ys.map D.int),.int size] M Q E=Q (way l m) M:=cw;have c7:dX 7 (one:Int)=True:=jZ (by decide) (by decide) (by omega) (by omega)
  have c8:dX 43 (j:Int)=True:=jZ (by decide) (by decide) (by omega) (by omega)
  rw[jP,aD];refine⟨trivial,?_⟩;have nx:=λ(Kt:List Wy) (hw:Kt.length<=wy.length+1) (P_:WS H one (j+1) Kt) (x8 x9:Option D)=>mH Og s0 s1 hH ho (c:=c) (a:=a) (b:=b) (cl:=cl) (De:=De) (ES:=ES) (y1:=y1) (y2:=y2) (y7:=y7) k (j+1) Kt x8 x9 (by omega) (by omega) P_ (λw2 a b QU Oh=>hR w2 a b (by omega) Oh)
  push_cast at nx
  generalize bM ⟨(B cls c_ d_),aa T (B cls c_ d_) (n+1)⟩ (.name 8) bH ES (λ_=>True) De (rng ((j:Int)+1) k)=K at nx ⊢
  simp only[bH];by_cases c1:one=j
  ·subst c1;simp[c7,c8,↓st];exact nx wy (by omega) hW.skip _ _
  ·have QV:¬ (one:Int)=(j:Int):=λz=>c1 (by omega)
   by_cases c2:0<y % 6
   ·obtain⟨Oh,Lg⟩:=hW.new ho (by omega) c1 hb ⟨b1,b2⟩
    have go:∀{R:MH->Prop},bp (.ref b) (.tup [.int one,.int j]) (way l m) (put (put M0 a (.lst cl)) b (.dt (wy.map pr) (wy.map wv))) R=R (put (put M0 a (.lst cl)) b (.dt ((wy++[(⟨one,j,l,m⟩:Wy)]).map pr) ((wy++[(⟨one,j,l,m⟩:Wy)]).map wv))):=λ{R}=>by
     rw[gv af (by simp;omega),i6 Lg,ji (by simp) Lg,bc]
     simp[pr,wv]
    simp[c7,c8,↓st,QV,↓i3,c2,↓Sz,aq,↓go];have:=nx (wy++[⟨one,j,l,m⟩]) (by simp) Oh (some (.int j)) (some (.e_ (ys.map D.int)))
    rw[Jj,Jj]at this;exact this
   ·simp[c7,c8,↓st,QV,↓i3,c2];exact nx wy (by omega) hW.skip _ _
theorem kz{xs:List Int}{c size:Int}{M0:MH}(Og:Fm M0)(hl:xs.length=8)(s0:1<=size)(s1:size<=10 ^ 30){H:Nat}(hH:H<=6){a b:PySem.Addr}(Kj:a≠b){De:Ends3}{ES:St3->XN}:∀(k j:Nat) (f_:List (Int×Int)) (wy:List Wy)(x6 x7 x8 x9:Option D),j+k=H->f_.length=j->wy.length<=j*6->(∀c∈f_,mv c=false/\c.2<=10 ^ 31)->WS H j 0 wy->
  (∀(MX:List (Int×Int)) (Kt:List Wy) x6 x7 x8 x9,MX.length=H->Kt.length<=36->(∀c∈MX,mv c=false/\c.2<=10 ^ 31)->WS H H 0 Kt->De.nx [some (.int c),some (.e_ (xs.map D.int)),some (.int H),some (.int size),some (.ref a),some (.ref b),x6,x7,x8,x9] (put (put M0 a (.lst (MX.map cD))) b (.dt (Kt.map pr) (Kt.map wv))))->
  bM ⟨(B cls c_ d_),aa T (B cls c_ d_) (n+1)⟩ (.name 6) bz ES (λ_=>True) De (rng j k) [some (.int c),some (.e_ (xs.map D.int)),some (.int H),some (.int size),some (.ref a),some (.ref b),x6,x7,x8,x9] (put (put M0 a (.lst (f_.map cD))) b (.dt (wy.map pr) (wy.map wv)))
 |0,j,f_,wy,x6,x7,x8,x9,h1,h2,h3,hc,hW,hR=>by
  show bM _ _ _ _ _ _ [] _ _;rw[aZ];have e:j=H:=by omega
  subst e;exact⟨trivial,hR f_ wy _ _ _ _ h2 (by omega) hc hW⟩
 |k+1,j,f_,wy,x6,x7,x8,x9,h1,h2,h3,hc,hW,hR=>by
  have i2:∀{M:MH}{Q:VK3},am (.e_ (xs.map D.int)) (.int (2+(j:Int))) M Q=Q (.int (xs.getD (2+j) 0)) M:=λ{M Q}=>by
   have:=aB (M:=M) (Q:=Q) (l:=xs) (k:=2+j) (by omega)
   push_cast at this
   exact this
  have i7:∀{M:MH}{Q:VK3},am (.e_ (xs.map D.int)) (.int (7-(j:Int))) M Q=Q (.int (xs.getD (7-j) 0)) M:=λ{M Q}=>by
   rw[show (7-(j:Int))=((7-j:Nat):Int) by omega]
   exact aB (by omega)
  generalize xs.getD (2+j) 0=x at i2;generalize xs.getD (7-j) 0=y at i7;have z:¬ size=0:=by omega
  have zp:0<size:=by omega
  have q0:=Jn (x / 3) z;have q1:=Jl (x / 3) zp;have q2:=Jn y z;have q3:=Jl y zp;obtain⟨g,hg,gx⟩:=qJ 0 1 (y % size) (x % 3) (by omega) (by omega)
  have hs:f_.length<PySem.sizeLine:=Iw (show f_.length<1000 by omega) (by decide)
  have ha:(put (put M0 a (.lst (f_.map cD))) b (.dt (wy.map pr) (wy.map wv))) a=some (.lst (f_.map cD)):=by rw[aj Kj,af]
  have Qa:(H:Int)<4611686018427387904:=by omega
  have Qb:∀{e:IE}{MY:Ends3}{E':XN}{σ:St3}{W:WC},pB W e MY E' σ (.ref a) (put (put M0 a (.lst (f_.map cD))) b (.dt (wy.map pr) (wy.map wv)))=wpE W e σ (put (put M0 a (.lst (f_.map cD))) b (.dt (wy.map pr) (wy.map wv))) (d9 a MY σ) E':=by
   intro e MY E' σ W;simp[pB,ha];exact Iff.rfl
  have Oi:∀{y:D}{MY:Ends3}{σ:St3},d9 a MY σ y (put (put M0 a (.lst (f_.map cD))) b (.dt (wy.map pr) (wy.map wv)))=(f_.length<PySem.sizeLine/\MY.nx σ (put (put M0 a (.lst (f_.map cD++[y]))) b (.dt (wy.map pr) (wy.map wv)))):=by
   intro y MY σ;simp[d9,ha,cK Kj]
  rw[jP,aD];refine⟨trivial,?_⟩;have nx:=λ(Kt:List Wy) (hw:Kt.length<=(j+1)*6) (P_:WS H (j+1) 0 Kt) (x8 x9:Option D)=>kz (c:=c) Og hl s0 s1 hH Kj (De:=De) (ES:=ES) k (j+1) (f_++[(1+x / 3 % size,1+x / 3 % size+g)]) Kt (some (.int j)) (some (.int (1+x / 3 % size))) x8 x9 (by omega) (by simp;omega) hw (λc Ou=>by
   rcases IX.mp Ou with h|h
   ·exact hc c h
   ·obtain rfl:=IY.mp h;exact⟨by simp[mv];omega,by simp only;omega⟩) P_ hR
  push_cast at nx
  generalize bM ⟨(B cls c_ d_),aa T (B cls c_ d_) (n+1)⟩ (.name 6) bz ES (λ_=>True) De (rng ((j:Int)+1) k)=K at nx ⊢
  simp only[bz];simp[↓i2,↓i7,↓gx,z,zp,bx,↓Qb,↓Oi,aq,hs,Qa];have key:=mH (cls:=cls) (c_:=c_) (d_:=d_) (n:=n) (c:=c) Og s0 s1 hH (one:=j) (by omega) (a:=a) (b:=b) (cl:=(f_++[(1+x / 3 % size,1+x / 3 % size+g)]).map cD) (De:={De with nx:=K,ct:=K,bk:=De.nx}) (ES:=ES) (y1:=some (.e_ (xs.map D.int))) (y2:=some (.int H)) (y7:=some (.int (1+x / 3 % size))) H 0 wy x8 x9 (by omega) (by omega) hW (λKt x8 x9 hw Oh=>nx Kt (by omega) Oh _ _)
  simpa [cD] using key
structure GW (f_:List (Int×Int)) (wy:List Wy):Prop where
 l1:1<=f_.length
 l6:f_.length<=6
 w36:wy.length<=36
 ck:∀c∈f_,mv c=false/\c.2<=10 ^ 31
 nd:(wy.map pr).Nodup
 gd:∀w∈wy,w.good f_.length
 sm:∀w∈wy,w.l<=10 ^ 30/\∀y,w.m=some y->y<=2*10 ^ 30
theorem xg{c:Int}(hM:Fm M)(h:∀(f_:List (Int×Int)) (wy:List Wy),GW f_ wy->Q (.tup [.e_ (f_.map cD),.JT (wy.map pr) (wy.map wv)]) M):aa T (B cls c_ d_) (n+2) 41 [.int c] M Q E:=by
 have st:∀{M:MH}{Q:VK3}{E:XN},Fm M->aa T (B cls c_ d_) (n+1) 39 [.int c,.int 8] M Q E=Q (.e_ ((aM c 8).map D.int)) M:=λ{M Q E} fm=>eF (m:=8) fm (by omega)
 have hl:(aM c 8).length=8:=bQ;generalize aM c 8=xs at st hl;have i0:∀{M:MH}{Q:VK3},am (.e_ (xs.map D.int)) (.int 0) M Q=Q (.int (xs.getD 0 0)) M:=λ{M Q}=>aB (k:=0) (by omega)
 have i1:∀{M:MH}{Q:VK3},am (.e_ (xs.map D.int)) (.int 1) M Q=Q (.int (xs.getD 1 0)) M:=λ{M Q}=>aB (k:=1) (by omega)
 generalize xs.getD 0 0=x0 at i0;generalize xs.getD 1 0=x1 at i1;obtain⟨H0,SA,hx⟩:=yl (l:=[1,2,2,3,3,4,5,6]) (i:=x0 % 8) (by omega) (by simp;omega)
 have KP:∀{M:MH}{Q:VK3},am (.e_ [.int 1,.int 2,.int 2,.int 3,.int 3,.int 4,.int 5,.int 6]) (.int (x0 % 8)) M Q=Q (.int H0) M:=hx;obtain⟨size,Tr,hz⟩:=qi 3 100 1000000000 1000000000000000000000000000000 (x1 % 4) (by omega) (by omega)
 have Ts:1<=H0/\H0<=6:=by simp at SA;omega
 obtain⟨H,rfl⟩:∃H:Nat,H0=H:=⟨H0.toNat,by omega⟩
 have SD:H<=6:=by omega
 have Qa:(H:Int)<4611686018427387904:=by omega
 simp only[mW,eD];simp[st hM,↓i0,↓i1,↓KP,↓hz,ju,aq,Qa];intro a ha b hb;obtain⟨LI,hb⟩:=bj hb;refine kz hM hl (by omega) (by omega) SD (IB LI) H 0 [] [] none none none none (by omega) rfl (by simp) (λc hc=>by cases hc) ⟨by simp,λw hw=>(by cases hw),λw hw=>(by cases hw),λw hw=>(by cases hw)⟩ (λf_ wy x6 x7 x8 x9 l1 l2 l3 l4=>?_)
 have e1:(put (put M a (.lst (f_.map cD))) b (.dt (wy.map pr) (wy.map wv))) a=some (.lst (f_.map cD)):=by rw[aj (IB LI),af]
 simp[ba,e1,vB ha LI,af,eU hb,aq];exact h f_ wy ⟨by omega,by omega,l2,l3,l4.nd,by rw[l1];exact l4.gd,l4.sm⟩
theorem zK(G:GW f_ wy)(hM:Fm M):aa T (B cls c_ d_) (n+7) 42 [.tup [.e_ (f_.map cD),.JT (wy.map pr) (wy.map wv)]] M Q E=Q (wO c_ f_ wy) M:=by
 have hz:f_.length<=PySem.sizeLine:=IR (show f_.length<=1000 by have:=G.l6;omega) (by decide)
 have cm:∀{W:WC}{Q:VK3},dW W (.tup [0,1]) .no (.bin .Add (.var 0) (.var 1)) (λ_=>True) Q (c5 (wy.map pr) (wy.map wv)) [none,none] M=Q (.e_ (wy.map wD)) M:=λ{W Q}=>by
  rw[show c5 (wy.map pr) (wy.map wv)=wy.map λw=>.tup [.tup [.int w.i,.int w.j],wv w] by unfold c5;rw[List.zip_map',List.map_map];rfl,
   dj _ (λσ=>∃a b,σ=[a,b]) (λw=>[some (.tup [.int w.i,.int w.j]),some (wv w)]) (λ_=>true) wD ⟨_,_,rfl⟩ hM (by have:=G.w36;omega) (λw _=>⟨⟨_,_,rfl⟩,λσ ⟨a,b,e⟩ M k=>by
    subst e;simp[wpG]⟩) (λ_ _ _ _ _=>rfl) (λw _ _ M' hE Q=>by simp[wv,way,wD,aq]),List.filter_eq_self.mpr (λ_ _=>rfl)]
 simp only[ox,fM];simp[av,↓cm,hz];refine iff_of_eq ((xZ (n:=n) (Q:=λv M'=>Q v (aw M M')) (E:=λi M'=>E i (aw M M')) hM G.l1 G.l6 (λc hc=>(G.ck c hc).1) (by have:=G.w36;omega) G.gd G.nd).trans ?_)
 simp
end
section
variable {wy:List Wy}{f_:List (Int×Int)}
theorem uU:∀{wy:List Wy},(wy.map pr).Nodup->w∈wy->getD (wy.map pr) (wy.map wv) (pr w)=some (wv w)
 |v::r,hn,h=>by
  rw[Ip,Ja]at hn;simp only[Ip,getD];rcases Iv.mp h with rfl|h
  ·rw[Iu rfl]
  ·rw[Im (λz=>hn.1 (by rw[z];exact List.mem_map_of_mem h)),uU hn.2 h]
theorem zu{w:Wy}(hn:(wy.map pr).Nodup)(h:w∈wy):am (.JT (wy.map pr) (wy.map wv)) (.tup [.int w.i,.int w.j]) M Q=Q (wv w) M:=by
 have e:=uU hn h;simp only[pr]at e;simp[am,aC,ai,gD,eW,iD,fF,cO,e,pr]
theorem uV{ds:List D}(hx:ai M x=some ds)(h7:ds.all (plN 7)=true)(h8:ds.all (plN 8)=true):az .NotEq x (.e_ []) M Q=Q (.bl (!ds.isEmpty)) M:=by
 have e:rs M x=.e_ ds:=by unfold rs;rw[hx];simp only[pls,h8,if_true]
 have p:pl (.e_ ds)=true:=h7;have e2:rs M (.e_ [])=.e_ []:=rfl;show dJ true x (.e_ []) M Q=_;unfold dJ;rw[e,e2,p];cases ds<;>simp[plN,eqD,b8]
noncomputable def jB(wy:List Wy)(h:Int):List Int:=(wy.filter λw=>decide (w.i=h)).map Wy.j
theorem CC(hM:Fm M)(hl:wy.length<=36):dW W (.name 0) (.yes (.cmp .Eq (.ix (.var 0) (.con (.int 0))) (.var 1))) (.ix (.var 0) (.con (.int 1))) (λ_=>True) Q ((wy.map pr).map mC) [none,some (.int h)] M=Q (.e_ ((jB wy h).map D.int)) M:=by
 rw[List.map_map,aL (mC∘pr) (λw=>decide (w.i=h)) (λw=>.int w.j) hM (by omega) (λw _ M' hE Q=>by simp[mC,pr]) (λw _ _ M' hE Q=>by simp[mC,pr])]
 unfold jB;rw[List.map_map];rfl
theorem wB(ht:t∈jB wy h):∃w∈wy,w.i=h/\w.j=t:=by
 obtain⟨w,hw,rfl⟩:=IV.mp ht;obtain⟨h1,h2⟩:=List.mem_filter.mp hw;exact⟨w,h1,JB h2,rfl⟩
theorem Dy{h v m:Int}{xs:List Int}(hl:xs.length=4)(hw:wy.length<=36):∃r:Rw,r.h=h/\r.r=v/\r.s≠"take"/\(∀rs,r.may wy rs)/\
  ∀{n:Nat}{M:MH}{Q:VK3}{E:XN},Fm M->aa T (B cls c_ d_) (n+1) 44 [.int h,.int v,.int m,.JT (wy.map pr) (wy.map wv),.e_ (xs.map D.int)] M Q E=Q r.d M:=by
 have i0:∀{M:MH}{Q:VK3},am (.e_ (xs.map D.int)) (.int 0) M Q=Q (.int (xs.getD 0 0)) M:=λ{M Q}=>aB (k:=0) (by omega)
 have i1:∀{M:MH}{Q:VK3},am (.e_ (xs.map D.int)) (.int 1) M Q=Q (.int (xs.getD 1 0)) M:=λ{M Q}=>aB (k:=1) (by omega)
 have i2:∀{M:MH}{Q:VK3},am (.e_ (xs.map D.int)) (.int 2) M Q=Q (.int (xs.getD 2 0)) M:=λ{M Q}=>aB (k:=2) (by omega)
 have i3:∀{M:MH}{Q:VK3},am (.e_ (xs.map D.int)) (.int 3) M Q=Q (.int (xs.getD 3 0)) M:=λ{M Q}=>aB (k:=3) (by omega)
 generalize xs.getD 0 0=x0 at i0;generalize xs.getD 1 0=x1 at i1;generalize xs.getD 2 0=x2 at i2;generalize xs.getD 3 0=x3 at i3;have ct:=λ{W:WC}{M:MH}{Q:VK3} (hM:Fm M)=>CC (W:=W) (Q:=Q) (wy:=wy) (h:=h) hM hw
 by_cases k12:x3 / 2 % 8=1\/x3 / 2 % 8=2
 ·obtain⟨g,hg,gx⟩:=qi 0 1 (x0 % 100) (x0 % 1000000000000) (x1 % 4) (by omega) (by omega)
  obtain⟨k,hk,kx⟩:=qi 0 1 (x0 % 100) (x0 % 1000000000000) (x1 / 4 % 4) (by omega) (by omega)
  refine⟨.w_ h v (m-g) (m+k),rfl,rfl,by simp +decide [Rw.s],λrs=>(show m-g<=m+k by omega),?_⟩
  intro n M Q E hM;simp only[gL,dq];rcases k12 with k1|k1<;>simp[-List.map_map,av,↓ct hM,↓i0,↓i1,↓i3,k1,bx,ju,↓gx,↓kx,Rw.d,aq]
 ·obtain⟨k1,k2⟩:=not_or.mp k12;have nn:∀{M:MH}{Q:VK3},az .NotEq (.e_ ((jB wy h).map D.int)) (.e_ []) M Q=Q (.bl (!((jB wy h).map D.int).isEmpty)) M:=λ{M Q}=>uV rfl (by simp[plN]) (by simp[plN])
  by_cases k3:2<x3 / 2 % 8/\jB wy h≠[]
  ·have lp:0<(jB wy h).length:=List.length_pos_iff.mpr k3.2;have Lk:(0:Int)<(jB wy h).length:=by omega
   obtain⟨t,ht,tx⟩:=yl (l:=jB wy h) (i:=x2 / 5 % ((jB wy h).length:Int)) (Jn _ (by omega)) (Jl _ Lk)
   obtain⟨w,P8,QU,SE⟩:=wB ht;refine⟨.send h v t,rfl,rfl,by simp +decide [Rw.s],λrs=>(show [h,t]∈wy.map pr from IV.mpr ⟨w,P8,by simp[pr,QU,SE]⟩),?_⟩
   intro n M Q E hM;simp only[gL,dq];simp[-List.map_map,av,↓ct hM,↓i2,↓i3,k1,k2,k3.1,k3.2,↓nn,lp,Lk,bx,↓tx,Rw.d,aq]
  ·refine⟨.look h v,rfl,rfl,by simp +decide [Rw.s],λrs=>trivial,?_⟩
   intro n M Q E hM;simp only[gL,dq];by_cases k4:2<x3 / 2 % 8
   ·have k5:jB wy h=[]:=Classical.byContradiction λz=>k3 ⟨k4,z⟩
    simp[-List.map_map,av,↓ct hM,↓i3,k1,k2,k4,k5,↓nn,bx,Rw.d,aq]
   ·simp[-List.map_map,av,↓ct hM,↓i3,k1,k2,k4,bx,Rw.d,aq]
theorem zO{m:Option Int}:aa T (B cls c_ d_) (n+1) 45 [.tup [.int h,.int k],.tup [.str "send",.int a,.int v,.int t],.int mo,.tup [.int l,oi m]] M Q E=Q (Ent.d ⟨h,k,t,mo+l,m.map (mo+·)⟩) M:=by
 simp only[oS,fx];cases m<;>simp[oi,D.isN,Ent.d,aq]
theorem uz:∀{l:List A3}{k0:Nat},bg k0 (l.map a3D)=(l.zipIdx k0).map λp=>.tup [.int p.2,a3D p.1]
 |[],_=>rfl
 |x::r,k0=>by simp only[Ip,bg,List.zipIdx_cons,uz (l:=r)]
theorem qw:∀{l:List α},rT (l.map λa=>prD (f a))=some (l.map f)
 |[]=>rfl
 |x::r=>by simp only[Ip,prD,rT];rw[show (λa=>D.tup [.int (f a).1,.int (f a).2])=λa=>prD (f a) from rfl,qw (l:=r)]
theorem AZ{at_:List A3}(hM:Fm M)(ha:M a=some (.lst (at_.map a3D)))(h0:0<at_.length)(hl:at_.length<=6):∃(k:Nat)(m:Int),k<at_.length/\∀{W:WC}{Q:VK3},dW W (.tup [0,1]) .no (.tup (.cons (.ix (.var 1) (.con (.int 2))) (.cons (.var 0) .nil))) (λM=>M a=some (.lst (at_.map a3D))) (λx M1=>rMp x M1 Q) (bg 0 (at_.map a3D)) [none,none] M=Q (.tup [.int m,.int k]) M:=by
 let f:A3×Nat->Int×Int:=λp=>(p.1.2.2,(p.2:Int))
 have ne:at_.zipIdx.map f≠[]:=by
  cases at_ with
  |nil=>simp at h0
  |cons x r=>simp
 obtain⟨⟨x,k⟩,hp,e⟩:=IV.mp (rG ne);refine⟨k,x.2.2,(IC.mp (List.mem_zipIdx_iff_getElem?.mp hp)).1,?_⟩;intro W Q;rw[uz,dj _ (λσ=>∃a b,σ=[a,b]) (λp=>[some (.int p.2),some (a3D p.1)]) (λ_=>true) (λp=>prD (f p)) ⟨_,_,rfl⟩ hM (by simp;omega) (λp _=>⟨⟨_,_,rfl⟩,λσ ⟨a,b,e⟩ M k=>by
  subst e;simp[wpG]⟩) (λ_ _ _ _ _=>rfl) (λp _ _ M' hE Q=>by simp[f,prD,a3D,aq]) (λM' hE=>hE.2 _ _ ha),List.filter_eq_self.mpr (λ_ _=>rfl)]
 unfold rMp;simp only[ai,qw];cases h:at_.zipIdx.map f with
 |nil=>exact absurd h ne
 |cons p ps=>rw[h]at e;simp only[<-e];rfl
end
section
variable {wy:List Wy}{f_:List (Int×Int)}{td:List (Rw×Int)}{at_:List A3}{sn:List Ent}
noncomputable def tdD(p:Rw×Int):D:=.tup [p.1.d,.int p.2]
noncomputable def H3(M0:MH)(a b d:PySem.Addr)(at_:List A3)(sn:List Ent)(td:List (Rw×Int)):MH:=put (put (put M0 a (.lst (at_.map a3D))) b (.lst (sn.map Ent.d))) d (.lst (td.map tdD))
structure D3 (a b d:PySem.Addr):Prop where
 ab:a≠b
 ad:a≠d
 bd:b≠d
theorem D3.ga(h:D3 a b d):H3 M0 a b d at_ sn td a=some (.lst (at_.map a3D)):=by unfold H3;rw[aj h.ad,aj h.ab,af]
theorem D3.gb(h:D3 a b d):H3 M0 a b d at_ sn td b=some (.lst (sn.map Ent.d)):=by unfold H3;rw[aj h.bd,af]
theorem D3.gd(h:D3 a b d):H3 M0 a b d at_ sn td d=some (.lst (td.map tdD)):=af
theorem D3.sa(h:D3 a b d){x:List A3}:put (H3 M0 a b d at_ sn td) a (.lst (x.map a3D))=H3 M0 a b d x sn td:=eT h.ab h.ad
theorem D3.sb(h:D3 a b d){x:List Ent}:put (H3 M0 a b d at_ sn td) b (.lst (x.map Ent.d))=H3 M0 a b d at_ x td:=cK h.bd
theorem D3.sd(h:D3 a b d){x:List (Rw×Int)}:put (H3 M0 a b d at_ sn td) d (.lst (x.map tdD))=H3 M0 a b d at_ sn x:=bc
theorem Fm.h3(h:Fm M0):Fm (H3 M0 a b d at_ sn td):=((h.put _ _).put _ _).put _ _
structure TB (H:Nat)(wy:List Wy)(Bd:Int) (td:List (Rw×Int)) (at_:List A3)(sn:List Ent):Prop where
 ta:TA H wy (td.map Prod.fst) at_ sn
 mo:∀x∈at_,-Bd<=x.2.2/\x.2.2<=Bd
 sb:∀e∈sn,(-Bd<=e.lo/\e.lo<=Bd)/\inB Bd e.hi
noncomputable def tl:ISs->ISs
 |.cons _ r=>r
 |.nil=>.nil
noncomputable def jN:ISs:=tl (tl (tl (tl (tl (tl aG)))))
noncomputable def gR:ISs:=tl (tl (tl (tl jN)))
noncomputable abbrev a0(at_:List A3)(k:Nat):A3:=at_.getD k (0,0,0)
theorem iU(ha:M a=some (.lst (at_.map a3D)))(h:k<at_.length):am (.ref a) (.int (k:Nat)) M Q=Q (.tup [.int (a0 at_ k).1,.int (a0 at_ k).2.1,.int (a0 at_ k).2.2]) M:=by
 have e:(at_.map a3D)[k]?=some (a3D (a0 at_ k)):=by
  rw[IJ,IG h,a0,List.getD_eq_getElem?_getD,IG h];rfl
 rw[mG ha];exact gc (bX e)
theorem uq(h:k<at_.length):a0 at_ k∈at_:=by
 rw[a0,List.getD_eq_getElem?_getD,IG h];exact Jw h
theorem nr{xs:List Int}(hl:xs.length=4)(hw:wy.length<=36)(A:D3 a b d)(hM:Fm M0)(hh:hd<at_.length)(hf:f<=l)
  (k:∀(mo:Int)(r:Rw),f<=mo->mo<=l->r.h=hd->r.r=(a0 at_ hd).2.1+t->r.s≠"take"->(∀rs,r.may wy rs)->
   aR ⟨(B cls c_ d_),aa T (B cls c_ d_) (n+1)⟩ gR De ES [y0,y1,y2,some (.e_ (f_.map cD)),some (.JT (wy.map pr) (wy.map wv)),some (.ref a),y6,some (.ref b),some (.ref d),y9,some (.e_ (xs.map D.int)),some (.int hd),some lt,some (.tup [.int t,.int f,.int l]),JM,some (.int mo),some (.tup [.int hd,.int (a0 at_ hd).1]),some r.d] (H3 M0 a b d (at_.set hd ((a0 at_ hd).1+1,(a0 at_ hd).2.1+t,mo)) sn td)) :
  aR ⟨(B cls c_ d_),aa T (B cls c_ d_) (n+1)⟩ jN De ES [y0,y1,y2,some (.e_ (f_.map cD)),some (.JT (wy.map pr) (wy.map wv)),some (.ref a),y6,some (.ref b),some (.ref d),y9,some (.e_ (xs.map D.int)),some (.int hd),some lt,some (.tup [.int t,.int f,.int l]),JM,J3,J7,Ko] (H3 M0 a b d at_ sn td):=by
 have i2:∀{M:MH}{Q:VK3},am (.e_ (xs.map D.int)) (.int 2) M Q=Q (.int (xs.getD 2 0)) M:=λ{M Q}=>aB (k:=2) (by omega)
 have i3:∀{M:MH}{Q:VK3},am (.e_ (xs.map D.int)) (.int 3) M Q=Q (.int (xs.getD 3 0)) M:=λ{M Q}=>aB (k:=3) (by omega)
 generalize xs.getD 2 0=x2 at i2;generalize xs.getD 3 0=x3 at i3;have p0:0<l-f+1:=by omega
 have m0:=Jn (x2 / 4) (Int.ne_of_gt p0);have m1:=Jl (x2 / 4) p0;obtain⟨mo,Tt,mx⟩:=qJ f l (f+x2 / 4 % (l-f+1)) (x3 / 16 % 3) (by omega) (by omega)
 obtain⟨r,r1,r2,r3,r4,rx⟩:=Dy (cls:=cls) (c_:=c_) (d_:=d_) (wy:=wy) (h:=hd) (v:=(a0 at_ hd).2.1+t) (m:=mo) hl hw;have hs:hd<(at_.set hd ((a0 at_ hd).1+1,(a0 at_ hd).2.1+t,mo)).length:=by simp;exact hh
 have es:a0 (at_.set hd ((a0 at_ hd).1+1,(a0 at_ hd).2.1+t,mo)) hd=((a0 at_ hd).1+1,(a0 at_ hd).2.1+t,mo):=by rw[a0,gG hh,Iu rfl]
 have ib:=λ{Q:VK3}=>iU (Q:=Q) (A.ga (M0:=M0) (sn:=sn) (td:=td)) hs
 rw[es]at ib;have st:∀{R:MH->Prop},bp (.ref a) (.int (hd:Nat)) (.tup [.int ((a0 at_ hd).1+1),.int ((a0 at_ hd).2.1+t),.int mo]) (H3 M0 a b d at_ sn td) R=R (H3 M0 a b d (at_.set hd ((a0 at_ hd).1+1,(a0 at_ hd).2.1+t,mo)) sn td):=λ{R}=>by
  rw[gN (A.ga (M0:=M0) (sn:=sn) (td:=td)) (j:=hd) (by simp[ixN];omega),<-A.sa (at_:=at_) (x:=at_.set hd ((a0 at_ hd).1+1,(a0 at_ hd).2.1+t,mo)),List.map_set]
  rfl
 have k':=k mo r (by omega) (by omega) r1 r2 r3 r4
 rw[show jN=.cons _ (.cons _ (.cons _ (.cons _ gR))) from rfl];simp[-List.getD_eq_getElem?_getD,↓i2,↓i3,p0,bx,↓mx,↓iU (A.ga) hh,↓st,↓ib,↓rx (Fm.h3 (at_:=at_.set hd ((a0 at_ hd).1+1,(a0 at_ hd).2.1+t,mo)) hM),aq];exact k'
theorem TB.up{k:Nat}{t mo:Int}{H:Nat}{r:Rw}{J0:List Ent}(tb:TB H wy Bd td at_ sn)(hk:k<H)(b0:0<=Bd)(h1 : -Bd<=mo)(h2:mo<=4*Bd)(ta:TA H wy (td.map Prod.fst++[r]) (at_.set k ((a0 at_ k).1+1,(a0 at_ k).2.1+t,mo)) J0)
  (hs:∀e∈J0,e∈sn\/((-Bd<=e.lo/\e.lo<=5*Bd)/\∀y,e.hi=some y->-Bd<=y/\y<=5*Bd)):TB H wy (5*Bd) (td++[(r,mo)]) (at_.set k ((a0 at_ k).1+1,(a0 at_ k).2.1+t,mo)) J0:=by
 refine⟨by rw[Jj];exact ta,λx hx=>?_,λe he=>?_⟩
 ·rcases List.mem_or_eq_of_mem_set hx with h|h
  ·have:=tb.mo x h;omega
  ·rw[h];simp only;omega
 ·rcases hs e he with h|h
  ·obtain⟨c1,c2⟩:=tb.sb e h;exact⟨by omega,λy hy=>by have:=c2 y hy;omega⟩
  ·exact⟨by omega,λy hy=>by have:=h.2 y hy;omega⟩
theorem uc{De:Ends3}{r:Rw}(A:D3 a b d)(hz:td.length<400):d9 d De σ (.tup [r.d,.int mo]) (H3 M0 a b d at_ sn td)=De.nx σ (H3 M0 a b d at_ sn (td++[(r,mo)])):=by
 have hs:td.length<PySem.sizeLine:=Iw (show td.length<1000 by omega) (by decide)
 rw[<-A.sd (td:=td) (x:=td++[(r,mo)])];simp[d9,A.gd,hs,tdD]
theorem lR(h:M p=some (.lst ds)):pB W e De E σ (.ref p) M=wpE W e σ M (d9 p De σ) E:=by
 simp[pB,h];exact Iff.rfl
theorem D0{r:Rw}:am r.d (.int 0) M Q=Q (.str r.s) M:=by cases r<;>simp[Rw.d,Rw.s]
theorem AQ{De:Ends3}{e:Ent}(A:D3 a b d)(hz:sn.length<400):d9 b De σ e.d (H3 M0 a b d at_ sn td)=De.nx σ (H3 M0 a b d at_ (sn++[e]) td):=by
 have hs:sn.length<PySem.sizeLine:=Iw (show sn.length<1000 by omega) (by decide)
 rw[<-A.sb (sn:=sn) (x:=sn++[e])];simp[d9,A.gb,hs]
theorem tD{De:Ends3}{ES:St3->XN}{y0 y1 y2 y6 y9 v_ JL JM:Option D}{hd:Nat}{t mo:Int}{r:Rw}(G:GW f_ wy)(A:D3 a b d)(tb:TB f_.length wy Bd td at_ sn)(hh:hd<f_.length)(b0:10 ^ 43<=Bd)(z1:td.length<400)(z2:sn.length<400)(ht:0<=t)(m1 : -Bd<=mo)(m2:mo<=4*Bd)(r1:r.h=hd)(r2:r.r=(a0 at_ hd).2.1+t)(r3:r.s≠"take")(r4:∀rs,r.may wy rs)
  (k:∀J8 at' J0,J8.length=td.length+1->J0.length<=sn.length+1->TB f_.length wy (5*Bd) J8 at' J0->∀x_ y_ JL JM J3 J7 Ko,De.nx [y0,y1,y2,some (.e_ (f_.map cD)),some (.JT (wy.map pr) (wy.map wv)),some (.ref a),y6,some (.ref b),some (.ref d),y9,v_,x_,y_,JL,JM,J3,J7,Ko] (H3 M0 a b d at' J0 J8)) :
  aR ⟨(B cls c_ d_),aa T (B cls c_ d_) (n+1)⟩ gR De ES [y0,y1,y2,some (.e_ (f_.map cD)),some (.JT (wy.map pr) (wy.map wv)),some (.ref a),y6,some (.ref b),some (.ref d),y9,v_,some (.int hd),some .j_,JL,JM,some (.int mo),some (.tup [.int hd,.int (a0 at_ hd).1]),some r.d] (H3 M0 a b d (at_.set hd ((a0 at_ hd).1+1,(a0 at_ hd).2.1+t,mo)) sn td):=by
 have hv:(a0 at_ hd).2.1<=(a0 at_ hd).2.1+t:=by omega
 have tp:=λ{De:Ends3}{σ:St3}{at_:List A3}{sn:List Ent}=>uc (M0:=M0) (De:=De) (σ:=σ) (r:=r) (mo:=mo) (at_:=at_) (sn:=sn) A z1
 simp only[gR,jN,tl,aG];by_cases e:r.s = "send"
 ·cases r with
  |send h v to=>
   obtain rfl:h=(hd:Int):=r1;obtain rfl:v=(a0 at_ hd).2.1+t:=r2;have hm:[(hd:Int),to]∈wy.map pr:=r4 [];obtain⟨w,hw,ew⟩:=IV.mp hm;simp only[pr,List.cons.injEq,and_true]at ew;have g:=G.gd w hw;have ix:=λ{M:MH}{Q:VK3}=>zu (M:=M) (Q:=Q) G.nd hw
   rw[ew.1,ew.2]at ix;have gj:=g.j;rw[ew.2]at gj;simp only[okH,Ij,Iy]at gj;have gl:=g.l;simp only[mF,Bool.or_eq_false_iff,decide_eq_false_iff_not]at gl;obtain⟨l1,l2⟩:=G.sm w hw;have ta:=tb.ta.send (v:=(a0 at_ hd).2.1+t) (m:=mo) (e:=⟨hd,(a0 at_ hd).1,to,mo+w.l,w.m.map (mo+·)⟩) hh hv hm gj.1 gj.2 rfl rfl;have:=k (td++[(.send hd ((a0 at_ hd).2.1+t) to,mo)]) _ _ (by simp) (by simp) (tb.up hh (by omega) m1 m2 ta λe he=>by
    rcases IX.mp he with z|z
    ·exact .inl z
    ·refine .inr ?_;rw[IY.mp z];refine⟨by simp only;omega,λy hy=>?_⟩
     simp only at hy;cases em:w.m with
     |none=>rw[em]at hy;cases hy
     |some q=>
      rw[em]at hy gl;have q1:=l2 q em;have q2:¬ q<w.l:=of_decide_eq_false gl.2;simp only[Option.map,Option.some.injEq]at hy;omega)
   simp only[Rw.d]at tp;simp only[wv,way]at ix;simp[-List.getD_eq_getElem?_getD,Rw.d,D.isN,↓ix,↓zO (h:=hd) (k:=(a0 at_ hd).1) (v:=(a0 at_ hd).2.1+t) (t:=to) (l:=w.l) (a:=hd) (m:=w.m),↓lR (A.gb),↓AQ A z2,↓lR (A.gd),↓tp,aq];exact this _ _ _ _ _ _ _
  |_=>exact absurd e (by simp +decide [Rw.s])
 ·have hp:r.s = "look"\/r.s = "sight":=by
   cases r with
   |look=>exact .inl rfl
   |w_=>exact .inr rfl
   |send=>exact absurd rfl e
   |take=>exact absurd rfl r3
  have ta:=tb.ta.plain (m:=mo) hh r1 r2 hv (r4 _) hp;have:=k (td++[(r,mo)]) _ _ (by simp) (by omega) (tb.up hh (by omega) m1 m2 ta λe he=>.inl he)
  simp[-List.getD_eq_getElem?_getD,D.isN,↓D0,e,↓lR (A.gd),↓tp,aq];exact this _ _ _ _ _ _ _
theorem zz{x e:Ent}(h:¬ (x.h=e.h/\x.k=e.k)):eqD x.d e.d=false:=by
 simp only[Ent.d,eqD,b8];by_cases h1:x.h=e.h
 ·have:¬ x.k=e.k:=λz=>h ⟨h1,z⟩
  simp[this]
 ·simp[h1]
theorem jY{e:Ent}:plN (k+2) e.d=true:=by
 cases z:e.hi<;>simp[Ent.d,plN,oi,z]
theorem qI{e:Ent}:∀(Kn:List Ent)(k0:Nat),(∀x∈Kn,¬ (x.h=e.h/\x.k=e.k))->pA e.d ((Kn++e::sn2).map Ent.d) k0=some (k0+Kn.length)
 |[],k0,_=>by
  have:eqD e.d e.d=true:=jK 8 jY;simp[pA,this]
 |x::r,k0,h=>by
  simp only[List.cons_append,Ip,pA];rw[zz (h x Ix),Im IP,qI r (k0+1) λy hy=>h y (Io _ hy),IN]
  congr 1;omega
theorem Ai{e:Ent}(A:D3 a b d)(h:∀x∈Kn,¬ (x.h=e.h/\x.k=e.k)):rBm .remove (.ref b) [e.d] (H3 M0 a b d at_ (Kn++e::sn2) td) Q=Q .j_ (H3 M0 a b d at_ (Kn++sn2) td):=by
 have e1:res (H3 M0 a b d at_ (Kn++e::sn2) td) e.d=e.d:=rfl;have e2:pls ((Kn++e::sn2).map Ent.d)=true:=IL.mpr λx hx=>by
  obtain⟨y,_,rfl⟩:=IV.mp hx;exact jY
 have e3:=qI (sn2:=sn2) Kn 0 h;have e4:((Kn++e::sn2).map Ent.d).eraseIdx Kn.length=(Kn++sn2).map Ent.d:=by
  rw[Jj,Ip,List.eraseIdx_append_of_length_le (by simp)];simp
 rw[Nat.zero_add]at e3;simp only[rBm,A.gb,e1,e2,e3,e4,A.sb];rw[show pl e.d=true from jY];simp
theorem en0{e:Ent}:am e.d (.int 0) M Q=Q (.tup [.int e.h,.int e.k]) M:=by simp[Ent.d]
theorem en1{e:Ent}:am e.d (.int 1) M Q=Q (.int e.to) M:=by simp[Ent.d]
theorem en2{e:Ent}:am e.d (.int 2) M Q=Q (.int e.lo) M:=by simp[Ent.d]
theorem en3{e:Ent}:am e.d (.int 3) M Q=Q (oi e.hi) M:=by simp[Ent.d]
theorem tX{De:Ends3}{ES:St3->XN}{y0 y1 y2 y3 y4 y6 y9 v_ JL JM J7 Ko:Option D}{hd:Nat}{t mo:Int}{e:Ent}{Kn sn2:List Ent}(A:D3 a b d)(tb:TB f_.length wy Bd td at_ (Kn++e::sn2))(hh:hd<f_.length)(he:e.to=hd)(b0:0<=Bd)(z1:td.length<400)(ht:0<=t)(m1 : -Bd<=mo)(m2:mo<=4*Bd)
  (k:∀J8 at' J0,J8.length=td.length+1->J0.length<=(Kn++e::sn2).length+1->TB f_.length wy (5*Bd) J8 at' J0->∀x_ y_ JL JM J3 J7 Ko,De.nx [y0,y1,y2,y3,y4,some (.ref a),y6,some (.ref b),some (.ref d),y9,v_,x_,y_,JL,JM,J3,J7,Ko] (H3 M0 a b d at' J0 J8)) :
  aR ⟨(B cls c_ d_),aa T (B cls c_ d_) (n+1)⟩ gR De ES [y0,y1,y2,y3,y4,some (.ref a),y6,some (.ref b),some (.ref d),y9,v_,some (.int hd),some e.d,JL,JM,some (.int mo),J7,Ko] (H3 M0 a b d (at_.set hd ((a0 at_ hd).1+1,(a0 at_ hd).2.1+t,mo)) (Kn++e::sn2) td):=by
 have hv:(a0 at_ hd).2.1<=(a0 at_ hd).2.1+t:=by omega
 have hl:hd<at_.length:=by rw[tb.ta.la];exact hh
 have nd:=tb.ta.nd;rw[Jj,Ip,List.nodup_append]at nd;have hn:∀x∈Kn,¬ (x.h=e.h/\x.k=e.k):=λx hx z=>nd.2.2 (x.h,x.k) (IV.mpr ⟨x,hx,rfl⟩) (e.h,e.k) (by simp) (by rw[z.1,z.2])
 have ta:=tb.ta.take (v:=(a0 at_ hd).2.1+t) (m:=mo) he hv;have fin:=k (td++[(.take hd ((a0 at_ hd).2.1+t) e.h e.k,mo)]) _ _ (by simp) (by simp;omega) (tb.up hh b0 m1 m2 ta λx hx=>.inl (by
  rcases IX.mp hx with z|z
  ·exact Jg _ z
  ·exact IU _ (Io _ z)))
 have hs:hd<(at_.set hd ((a0 at_ hd).1+1,(a0 at_ hd).2.1+t,mo)).length:=by simp;exact hl
 have es:a0 (at_.set hd ((a0 at_ hd).1+1,(a0 at_ hd).2.1+t,mo)) hd=((a0 at_ hd).1+1,(a0 at_ hd).2.1+t,mo):=by rw[a0,gG hl,Iu rfl]
 have ib:=λ{sn:List Ent}{Q:VK3}=>iU (Q:=Q) (A.ga (M0:=M0) (sn:=sn) (td:=td)) hs
 simp only[es]at ib;have tp:=λ{De:Ends3}{σ:St3}{al:List A3}{sn:List Ent}=>uc (M0:=M0) (De:=De) (σ:=σ) (r:=.take hd ((a0 at_ hd).2.1+t) e.h e.k) (mo:=mo) (at_:=al) (sn:=sn) A z1
 simp only[Rw.d]at tp;have n0:e.d.isN=false:=rfl;simp only[gR,jN,tl,aG];simp[-List.getD_eq_getElem?_getD,n0,tyB,qU (A.gb),↓Ai A hn,↓ib,↓en0,↓lR (A.gd),↓tp,aq];exact fin _ _ _ _ _ _ _
end
section
variable {wy:List Wy}{f_:List (Int×Int)}{td:List (Rw×Int)}{at_:List A3}{sn:List Ent}
noncomputable def sY:ISs:=tl (tl (tl aG))
noncomputable abbrev k0(f_:List (Int×Int))(k:Nat):Int×Int:=f_.getD k (0,0)
theorem vQ(h:k<f_.length):am (.e_ (f_.map cD)) (.int (k:Nat)) M Q=Q (.tup [.int (k0 f_ k).1,.int (k0 f_ k).2]) M:=by
 have e:(f_.map cD)[k]?=some (cD (k0 f_ k)):=by
  rw[IJ,IG h,k0,List.getD_eq_getElem?_getD,IG h];rfl
 exact gc (bX e)
theorem Dn(G:GW f_ wy)(h:k<f_.length):1<=(k0 f_ k).1/\(k0 f_ k).1<=(k0 f_ k).2/\(k0 f_ k).2<=10 ^ 31:=by
 have hm:k0 f_ k∈f_:=by rw[k0,List.getD_eq_getElem?_getD,IG h];exact Jw h
 obtain⟨h1,h2⟩:=G.ck _ hm;simp only[mv,Bool.or_eq_false_iff,decide_eq_false_iff_not]at h1;exact⟨by omega,by omega,h2⟩
theorem vI{xs:List Int}{k:Nat}{lo hi:Option Int}(hx:3<=xs.length)(G:GW f_ wy)(tb:TB f_.length wy Bd td at_ sn)(h:k<f_.length)(b0:10 ^ 43<=Bd)(b1:Bd<=10 ^ 60)(hl:inB Bd lo)(hh:inB Bd hi) :
  ∃t f l:Int,0<=t/\(-Bd<=f/\f<=4*Bd)/\(-Bd<=l/\l<=4*Bd)/\(lo=none->hi=none->f<=l)/\∀{n:Nat}{M:MH}{Q:VK3}{E:XN},aa T (B cls c_ d_) (n+1) 43 [.tup [.int (k0 f_ k).1,.int (k0 f_ k).2],.tup [.int (a0 at_ k).1,.int (a0 at_ k).2.1,.int (a0 at_ k).2.2],.e_ (xs.map D.int),oi lo,oi hi] M Q E=Q (.tup [.int t,.int f,.int l]) M:=by
 obtain⟨c1,c2,c3⟩:=Dn G h;obtain⟨m1,m2⟩:=tb.mo _ (uq (by rw[tb.ta.la];exact h))
 obtain⟨t,f,l,t1,_,f1,l1,e,cl⟩:=Ct (cls:=cls) (c_:=c_) (d_:=d_) (cnt:=(a0 at_ k).1) (rd:=(a0 at_ k).2.1) hx c1 c2 c3 b0 b1 m1 m2 hl hh;exact⟨t,f,l,t1,f1,l1,e,cl⟩
theorem yq{xs:List Int}{De:Ends3}{ES:St3->XN}{y0 y1 y2 y6 y9 y_ JL JM J3 J7 Ko:Option D}{hd:Nat}(hl:xs.length=4)(G:GW f_ wy)(A:D3 a b d)(hM:Fm M0)(tb:TB f_.length wy Bd td at_ sn)(hh:hd<f_.length)(b0:10 ^ 43<=Bd)(b1:Bd<=10 ^ 60)(z1:td.length<400)(z2:sn.length<400)
  (k:∀J8 at' J0,J8.length=td.length+1->J0.length<=sn.length+1->TB f_.length wy (5*Bd) J8 at' J0->∀v_ x_ y_ JL JM J3 J7 Ko,De.nx [y0,y1,y2,some (.e_ (f_.map cD)),some (.JT (wy.map pr) (wy.map wv)),some (.ref a),y6,some (.ref b),some (.ref d),y9,v_,x_,y_,JL,JM,J3,J7,Ko] (H3 M0 a b d at' J0 J8)) :
  aR ⟨(B cls c_ d_),aa T (B cls c_ d_) (n+1)⟩ sY De ES [y0,y1,y2,some (.e_ (f_.map cD)),some (.JT (wy.map pr) (wy.map wv)),some (.ref a),y6,some (.ref b),some (.ref d),y9,some (.e_ (xs.map D.int)),some (.int hd),y_,JL,JM,J3,J7,Ko] (H3 M0 a b d at_ sn td):=by
 have la:=tb.ta.la;have i0:∀{M:MH}{Q:VK3},am (.e_ (xs.map D.int)) (.int 0) M Q=Q (.int (xs.getD 0 0)) M:=λ{M Q}=>aB (k:=0) (by omega)
 have i3:∀{M:MH}{Q:VK3},am (.e_ (xs.map D.int)) (.int 3) M Q=Q (.int (xs.getD 3 0)) M:=λ{M Q}=>aB (k:=3) (by omega)
 generalize xs.getD 0 0=x0 at i0;generalize xs.getD 3 0=x3 at i3;obtain⟨t,f,l,t1,f1,l1,fl,cl⟩:=vI (cls:=cls) (c_:=c_) (d_:=d_) (xs:=xs) (k:=hd) (lo:=none) (hi:=none) (by omega) G tb hh b0 b1 (λy e=>by cases e) (λy e=>by cases e)
 have fl:=fl rfl rfl;have OU:∀{M:MH}{Q:VK3}{E:XN},aa T (B cls c_ d_) (n+1) 43 [.tup [.int (k0 f_ hd).1,.int (k0 f_ hd).2],.tup [.int (a0 at_ hd).1,.int (a0 at_ hd).2.1,.int (a0 at_ hd).2.2],.e_ (xs.map D.int),.j_,.j_] M Q E=Q (.tup [.int t,.int f,.int l]) M:=cl;have ic:=λ{M:MH}{Q:VK3}=>vQ (M:=M) (Q:=Q) hh
 have ia:=λ{Q:VK3}=>iU (Q:=Q) (k:=hd) (A.ga (M0:=M0) (at_:=at_) (sn:=sn) (td:=td)) (by omega)
 have plain:∀JM,aR ⟨(B cls c_ d_),aa T (B cls c_ d_) (n+1)⟩ jN De ES [y0,y1,y2,some (.e_ (f_.map cD)),some (.JT (wy.map pr) (wy.map wv)),some (.ref a),y6,some (.ref b),some (.ref d),y9,some (.e_ (xs.map D.int)),some (.int hd),some .j_,some (.tup [.int t,.int f,.int l]),JM,J3,J7,Ko] (H3 M0 a b d at_ sn td):=λJM=>
  nr hl G.w36 A hM (by omega) fl λmo r m1 m2 r1 r2 r3 r4=>tD G A tb hh b0 z1 z2 t1 (by omega) (by omega) r1 r2 r3 r4 λJ8 at' J0 h1 h2 h3=>k J8 at' J0 h1 h2 h3 _
 have nn:∀{Q:VK3},az .NotEq (.ref b) (.e_ []) (H3 M0 a b d at_ sn td) Q=Q (.bl (!(sn.map Ent.d).isEmpty)) (H3 M0 a b d at_ sn td):=λ{Q}=>uV (by simp[ai,A.gb]) (IL.mpr λx hx=>by
  obtain⟨y,_,rfl⟩:=IV.mp hx;exact jY) (IL.mpr λx hx=>by
  obtain⟨y,_,rfl⟩:=IV.mp hx;exact jY)
 rw[show sY=.cons _ (.cons _ (.cons _ jN)) from rfl];by_cases c1:4<x3 / 2 % 8
 ·by_cases c2:sn=[]
  ·subst c2;simp[-List.getD_eq_getElem?_getD,↓ic,↓ia,↓OU,↓i3,bx,c1,↓nn];exact plain _
  ·have lp:0<sn.length:=List.length_pos_iff.mpr c2;have Lk:(0:Int)<sn.length:=by omega
   obtain⟨j,hj⟩:=Jx (Jn (x0 / 7) (Int.ne_of_gt Lk));have jl:j<sn.length:=by have:=Jl (x0 / 7) Lk;omega
   have lb:∀{Q:VK3},rBi .len [.ref b] (H3 M0 a b d at_ sn td) Q=Q (.int sn.length) (H3 M0 a b d at_ sn td):=λ{Q}=>by simp[rBi,aC,ai,A.gb]
   have xb:∀{Q:VK3},am (.ref b) (.int (j:Nat)) (H3 M0 a b d at_ sn td) Q=Q (sn[j]).d (H3 M0 a b d at_ sn td):=λ{Q}=>by
    rw[mG A.gb];exact gc (bX (by simp[jl]))
   have hm:sn[j]∈sn:=Jw jl;generalize sn[j]=e at xb hm;obtain⟨_,e0,eH⟩:=tb.ta.un e hm;obtain⟨⟨Tu,Tv⟩,ein⟩:=tb.sb e hm;obtain⟨g,hg⟩:=Jx e0;have gH:g<f_.length:=by omega
   obtain⟨t',f',l',SG,Tw,Tx,_,cn⟩:=vI (cls:=cls) (c_:=c_) (d_:=d_) (xs:=xs) (k:=g) (lo:=some e.lo) (hi:=e.hi) (by omega) G tb gH b0 b1 (λy z=>by cases z;omega) ein
   have QW:∀{M:MH}{Q:VK3}{E:XN},aa T (B cls c_ d_) (n+1) 43 [.tup [.int (k0 f_ g).1,.int (k0 f_ g).2],.tup [.int (a0 at_ g).1,.int (a0 at_ g).2.1,.int (a0 at_ g).2.2],.e_ (xs.map D.int),.int e.lo,oi e.hi] M Q E=Q (.tup [.int t',.int f',.int l']) M:=cn;have q1:∀{M:MH}{Q:VK3},am e.d (.int 1) M Q=Q (.int (g:Nat)) M:=λ{M Q}=>by rw[en1,hg]
   have QX:=λ{Q:VK3}=>iU (Q:=Q) (k:=g) (A.ga (M0:=M0) (at_:=at_) (sn:=sn) (td:=td)) (by omega)
   by_cases c3:l' < f'
   ·simp[-List.getD_eq_getElem?_getD,↓ic,↓ia,↓OU,↓i3,↓i0,bx,c1,↓nn,c2,↓lb,lp,Lk,hj,↓xb,↓q1,↓en2,↓en3,↓vQ gH,↓QX,↓QW,c3];exact plain _
   ·simp[-List.getD_eq_getElem?_getD,↓ic,↓ia,↓OU,↓i3,↓i0,bx,c1,↓nn,c2,↓lb,lp,Lk,hj,↓xb,↓q1,↓en2,↓en3,↓vQ gH,↓QX,↓QW,c3];obtain⟨Kn,sn2,rfl⟩:=List.append_of_mem hm;exact nr hl G.w36 A hM (by omega) (by omega) λmo r m1 m2 r1 r2 r3 r4=>tX A tb gH hg (by omega) z1 SG (by omega) (by omega) λJ8 at' J0 h1 h2 h3=>k J8 at' J0 h1 h2 h3 _
 ·simp[-List.getD_eq_getElem?_getD,↓ic,↓ia,↓OU,↓i3,bx,c1];exact plain _
theorem pG{De:Ends3}(G:GW f_ wy)(A:D3 a b d)(hM:Fm M0)(tb:TB f_.length wy Bd td at_ sn)(b0:10 ^ 43<=Bd)(b1:Bd<=10 ^ 60)(z1:td.length<400)(z2:sn.length<400)
  (k:∀J8 at' J0,J8.length=td.length+1->J0.length<=sn.length+1->TB f_.length wy (5*Bd) J8 at' J0->∀v_ x_ y_ JL JM J3 J7 Ko,De.nx [y0,y1,y2,some (.e_ (f_.map cD)),some (.JT (wy.map pr) (wy.map wv)),some (.ref a),y6,some (.ref b),some (.ref d),some (.int c),v_,x_,y_,JL,JM,J3,J7,Ko] (H3 M0 a b d at' J0 J8)) :
  aR ⟨(B cls c_ d_),aa T (B cls c_ d_) (n+1)⟩ aG De ES [y0,y1,y2,some (.e_ (f_.map cD)),some (.JT (wy.map pr) (wy.map wv)),some (.ref a),y6,some (.ref b),some (.ref d),some (.int c),v_,x_,y_,JL,JM,J3,J7,Ko] (H3 M0 a b d at_ sn td):=by
 have fm:Fm (H3 M0 a b d at_ sn td):=Fm.h3 hM;have st:∀{Q:VK3}{E:XN},aa T (B cls c_ d_) (n+1) 39 [.int c,.int 4] (H3 M0 a b d at_ sn td) Q E=Q (.e_ ((aM c 4).map D.int)) (H3 M0 a b d at_ sn td):=λ{Q E}=>eF (m:=4) fm (by omega)
 have hl:(aM c 4).length=4:=bQ;generalize aM c 4=xs at st hl;have i0:∀{M:MH}{Q:VK3},am (.e_ (xs.map D.int)) (.int 0) M Q=Q (.int (xs.getD 0 0)) M:=λ{M Q}=>aB (k:=0) (by omega)
 have i3:∀{M:MH}{Q:VK3},am (.e_ (xs.map D.int)) (.int 3) M Q=Q (.int (xs.getD 3 0)) M:=λ{M Q}=>aB (k:=3) (by omega)
 generalize xs.getD 0 0=x0 at i0;generalize xs.getD 3 0=x3 at i3;have la:=tb.ta.la;have l1:=G.l1;have l6:=G.l6;have lp:0<f_.length:=by omega
 have Lk:(0:Int)<f_.length:=by omega
 obtain⟨j,hj⟩:=Jx (Jn x0 (Int.ne_of_gt Lk));have jl:j<f_.length:=by have:=Jl x0 Lk;omega
 rw[show aG=.cons _ (.cons _ (.cons _ sY)) from rfl];by_cases c1:x3 % 2=0
 ·obtain⟨g,m,hg,cb⟩:=AZ (at_:=at_) fm A.ga (by omega) (by omega)
  have ga:=A.ga (M0:=M0) (at_:=at_) (sn:=sn) (td:=td);simp[↓st,↓i0,↓i3,lp,Lk,hj,c1,ga,av,↓cb];exact (yq (y9:=some (.int c)) hl G A hM tb (by omega) b0 b1 z1 z2 k)
 ·simp[↓st,↓i0,↓i3,lp,Lk,hj,c1];exact (yq (y9:=some (.int c)) hl G A hM tb jl b0 b1 z1 z2 k)
theorem kO{De:Ends3}(G:GW f_ wy)(A:D3 a b d)(hM:Fm M0):∀(cs:List Int)(Bd:Int) (td:List (Rw×Int)) (at_:List A3)(sn:List Ent)(y9 v_ x_ y_ JL JM J3 J7 Ko:Option D),10 ^ 43<=Bd->Bd*5 ^ cs.length<=10 ^ 60->td.length+cs.length<=300->sn.length+cs.length<=300->TB f_.length wy Bd td at_ sn->
  (∀(J8:List (Rw×Int)) at' J0,Good f_.length wy (J8.map Prod.fst)->J8.length=td.length+cs.length->∀y9 v_ x_ y_ JL JM J3 J7 Ko,De.nx [y0,y1,y2,some (.e_ (f_.map cD)),some (.JT (wy.map pr) (wy.map wv)),some (.ref a),y6,some (.ref b),some (.ref d),y9,v_,x_,y_,JL,JM,J3,J7,Ko] (H3 M0 a b d at' J0 J8))->
  bM ⟨(B cls c_ d_),aa T (B cls c_ d_) (n+1)⟩ (.name 9) aG ES (λ_=>True) De (cs.map D.int) [y0,y1,y2,some (.e_ (f_.map cD)),some (.JT (wy.map pr) (wy.map wv)),some (.ref a),y6,some (.ref b),some (.ref d),y9,v_,x_,y_,JL,JM,J3,J7,Ko] (H3 M0 a b d at_ sn td)
 |[],Bd,td,at_,sn,y9,v_,x_,y_,JL,JM,J3,J7,Ko,b0,b1,z1,z2,tb,k=>by
  rw[List.map_nil,aZ];exact⟨trivial,k td at_ sn tb.ta.f (by simp) _ _ _ _ _ _ _ _ _⟩
 |c::cs,Bd,td,at_,sn,y9,v_,x_,y_,JL,JM,J3,J7,Ko,b0,b1,z1,z2,tb,k=>by
  simp only[IN]at z1 z2 k b1;have p1:(1:Int)<=5 ^ cs.length:=by have:(0:Int)<5 ^ cs.length:=Int.pow_pos (by decide);omega
  have e5:Bd*5 ^ (cs.length+1)=5*Bd*5 ^ cs.length:=by rw[Int.pow_succ,Int.mul_comm (5 ^ cs.length) 5,<-Int.mul_assoc,Int.mul_comm Bd 5]
  rw[e5]at b1;have b2:5*Bd<=5*Bd*5 ^ cs.length:=by
   have:=Int.mul_le_mul_of_nonneg_left (c:=5*Bd) p1 (by omega)
   rwa [Int.mul_one]at this
  have b3:=Int.le_trans b2 b1;rw[Ip,aD];refine⟨trivial,?_⟩;rw[qP];refine pG G A hM tb b0 (by omega) (by omega) (by omega) λJ8 at' J0 h1 h2 h3 v_ x_ y_ JL JM J3 J7 Ko=>?_
  exact kO G A hM cs (5*Bd) J8 at' J0 _ _ _ _ _ _ _ _ _ (by omega) b1 (by omega) (by omega) h3 λSH a2 s2 f2 l2=>k SH a2 s2 f2 (by omega)
theorem qW{De:Ends3}{st:Int}:∀(xs:List Int)(at_:List A3)(y6:Option D),at_.length+xs.length<400->
  (∀y6,De.nx (y0::some (.int st)::y2::y3::y4::some (.ref a)::y6::ys) (put M0 a (.lst ((at_++xs.map λx=>(0,x % 1000000000000-100000000000,st % 1000000000000-100000000000)).map a3D))))->
  bM W (.name 6) cT ES (λ_=>True) De (xs.map D.int) (y0::some (.int st)::y2::y3::y4::some (.ref a)::y6::ys) (put M0 a (.lst (at_.map a3D)))
 |[],at_,y6,hl,hR=>by
  rw[List.map_nil,aZ];have:=hR y6;rw[List.map_nil,Jz]at this;exact⟨trivial,this⟩
 |x::xs,at_,y6,hl,hR=>by
  simp only[IN]at hl;have hs:at_.length<PySem.sizeLine:=Iw (show at_.length<1000 by omega) (by decide)
  have ih:=qW (W:=W) (De:=De) (ES:=ES) (y0:=y0) (y2:=y2) (y3:=y3) (y4:=y4) (ys:=ys) xs (at_++[(0,x % 1000000000000-100000000000,st % 1000000000000-100000000000)]) (some (.int x)) (by simp;omega) (λy6=>by
   have:=hR y6;simpa using this)
  rw[Ip,aD];simp only[cT]at ih ⊢;simp[ju,hs,aq];simpa [a3D] using ih
theorem D8(ha:M a=none)(hb:M b=none)(hd:M d=none):aw M (del (H3 M a b d at_ sn td) d)=M:=by
 funext k;unfold aw del H3 put;by_cases k1:k=d
 ·subst k1;simp[hd]
 ·by_cases k2:k=b
  ·subst k2;simp[hb]
  ·by_cases k3:k=a
   ·subst k3;simp[ha]
   ·simp[k1,k2,k3];cases M k<;>rfl
theorem Al{st:Int}{cs:List Int}(G:GW f_ wy)(hM:Fm M)(hl:cs.length<=16)(k:∀td:List (Rw×Int),Good f_.length wy (td.map Prod.fst)->td.length<=16->Q (.e_ (td.map tdD)) M) :
  aa T (B cls c_ d_) (n+2) 46 [.tup [.e_ (f_.map cD),.JT (wy.map pr) (wy.map wv)],.int st,.e_ (cs.map D.int)] M Q E:=by
 have l1:=G.l1;have l6:=G.l6;have sm:∀{M:MH}{Q:VK3}{E:XN},Fm M->aa T (B cls c_ d_) (n+1) 39 [.int st,.int (f_.length:Nat)] M Q E=Q (.e_ ((aM st f_.length).map D.int)) M:=λ{M Q E} fm=>eF fm (by omega)
 have sl:(aM st f_.length).length=f_.length:=bQ;generalize aM st f_.length=xs at sm sl;simp only[pW,fO];simp[sr];intro a ha;simp[sm (hM.put _ _)];refine qW (M0:=M) xs [] none (by simp;omega) λy6=>?_
 simp[-List.map_map];intro b hb d hd;obtain⟨LI,hb⟩:=bj hb;obtain⟨I_,hd⟩:=bj hd;obtain⟨P9,hd⟩:=bj hd;have A:D3 a b d:=⟨IB LI,IB P9,IB I_⟩;generalize NT:(xs.map λx=>((0:Int),x % 1000000000000-100000000000,st % 1000000000000-100000000000))=at_
 have tb:TB f_.length wy (10 ^ 43) [] at_ []:=by
  have Oj:∀x∈at_,x.1=0/\-(10 ^ 43)<=x.2.2/\x.2.2<=10 ^ 43:=λx hx=>by
   rw[<-NT]at hx;obtain⟨y,_,rfl⟩:=IV.mp hx;exact⟨rfl,by simp only;omega,by simp only;omega⟩
  have la:at_.length=f_.length:=by rw[<-NT];simp[sl]
  refine⟨⟨.nil,la,λk hk=>(Oj _ (uq (by omega))).1,λk hk x hx=>(by cases hx),λe he=>(by cases he),by simp⟩,λx hx=>(Oj x hx).2,λe he=>by cases he⟩
 refine kO (M0:=M) G A hM cs (10 ^ 43) [] at_ [] none none none none none none none none none (by omega) ?_ (by simp;omega) (by simp;omega) tb λJ8 at' J0 f l y9 v_ x_ y_ JL JM J3 J7 Ko=>?_
 ·have:(5:Int) ^ cs.length<=5 ^ 16:=by
   have:=Int.ofNat_le.mpr (Nat.pow_le_pow_right (show 5 > 0 by decide) hl)
   rw[Int.natCast_pow,Int.natCast_pow]at this;exact this
  have:=Int.mul_le_mul_of_nonneg_left (c:=(10:Int) ^ 43) this (by decide)
  exact Int.le_trans this (by decide)
 ·have:=k J8 f (by simpa [l] using hl)
  simp[ba,A.gd,D8 ha hb hd];exact this
end
section
variable {cls c_ d_:Nat->PySem.Addr}{M:MH}{Q:VK3}{E:XN}{n:Nat}{f_:List (Int×Int)}{wy:List Wy}{H:Nat}{rs rows:List Rw}{r:Rw}{Z:List Int}{S:St}{c:Int->Nat}
theorem AR:eqD r.d r.d=true:=by cases r<;>simp[Rw.d,eqD,b8]
theorem oZ:plN (m+2) r.d=true:=by cases r<;>simp[Rw.d,plN]
theorem xB:b8 (rs.map Rw.d) (rs.map Rw.d)=true:=by
 induction rs with
 |nil=>simp[b8]
 |cons r rs ih=>simp[b8,AR,ih]
theorem iL(h1:ai M u=some (rs.map Rw.d))(h2:ai M v=some (rs.map Rw.d)):dJ neg u v M Q=Q (.bl (!neg)) M:=by
 have hp:pls (rs.map Rw.d)=true:=by simp[pls,oZ]
 have h7:pl (.e_ (rs.map Rw.d))=true:=by simp[pl,plN,oZ]
 simp only[dJ,L2.rs,h1,h2,hp,if_true,h7,true_and,eqD,xB];simp
noncomputable def mD(p:Int×Int):D:=.tup [.int p.1,.int p.2]
theorem F9:eqD (mD p) (mD q)=decide (p=q):=by
 obtain⟨a,b⟩:=p;obtain⟨c,d⟩:=q;simp[mD,eqD,b8]
theorem FX{l:List (Int×Int)}(h:aC M z=some (l.map mD)):iF neg (mD p) z M Q=Q (.bl (neg ^^ decide (p∈l))) M:=by
 have hp:pls (l.map mD)=true:=by simp[plN,mD]
 have hr:res M (mD p)=mD p:=rfl;have hx:pl (mD p)=true:=by simp[mD,pl,plN]
 have ha:((l.map mD).any λd=>eqD d (mD p))=decide (p∈l):=by
  clear h hp
  induction l with
  |nil=>rfl
  |cons q l ih=>
   rw[Ip,List.any_cons,ih,F9];by_cases e:q=p
   ·simp[e]
   ·simp[e,IB e]
 simp only[iF,h,hp,hr,hx,true_and,ha]
noncomputable def pz(p:Int×Nat):Int×Int:=(p.1,p.2)
theorem BZ:nD p=mD (pz p):=rfl
theorem pz_inj:pz p=pz q<->p=q:=by
 obtain⟨a,b⟩:=p;obtain⟨c,d⟩:=q;simp[pz];omega
theorem Bt{l:List (Int×Nat)}:pz q∈l.map pz<->q∈l:=by
 constructor
 ·intro h;obtain⟨x,hx,e⟩:=IV.mp h;exact (pz_inj.mp e)▸hx
 ·exact λh=>List.mem_map_of_mem h
theorem Ck{l:List (Int×Nat)}(h:aC M z=some (l.map nD)):iF neg (nD q) z M Q=Q (.bl (neg ^^ decide (q∈l))) M:=by
 rw[BZ,FX (l:=l.map pz) (by rw[h,List.map_map];rfl)]
 simp only[Bt]
noncomputable abbrev rL(rs:List Rw):D:=.e_ (rs.map Rw.d)
noncomputable abbrev nL(rs:List Rw):D:=.e_ ((nms rs).map nD)
theorem lN(hl:rs.length<400):(au C rs).length<400:=by
 have:(au C rs).length<=(Zs rs).length:=by unfold au;rw[ID];exact List.length_filter_le ..
 rw[uN]at this;omega
theorem jA:∀{Z:List Int},((Z.map D.int).any λd=>eqD d (.int x))=decide (x∈Z)
 |[]=>rfl
 |y::r=>by
  rw[Ip,List.any_cons,jA (Z:=r)];by_cases h:y=x
  ·simp[eqD,h]
  ·have h':¬ x=y:=λz=>h z.symm
   simp[eqD,h,h']
theorem iO:az .In (.int x) (.e_ (Z.map D.int)) M Q=Q (.bl (decide (x∈Z))) M:=by
 have p:pls (Z.map D.int)=true:=by simp[plN]
 simp only[az,iF,show aC M (.e_ (Z.map D.int))=some (Z.map D.int) from rfl,show res M (.int x)=.int x from rfl,jA,p];simp[plN]
theorem nj:az .NotIn (.int x) (.e_ (Z.map D.int)) M Q=Q (.bl (!decide (x∈Z))) M:=by
 have p:pls (Z.map D.int)=true:=by simp[plN]
 simp only[az,iF,show aC M (.e_ (Z.map D.int))=some (Z.map D.int) from rfl,show res M (.int x)=.int x from rfl,jA,p];simp[plN]
theorem rF(hM:Fm M):aa T (B cls c_ d_) (n+5) 35 [r.d,.e_ (Z.map D.int)] M Q E=Q (stk Z r).d M:=by
 have ch:=λ{Q:VK3}{E:XN}=>eB (cls:=cls) (c_:=c_) (d_:=d_) (n:=n) (Q:=Q) (E:=E) r hM
 simp only[gY,bR];cases r with
 |take h v a b=>
  by_cases e:a∈Z<;>simp[↓ch,Rw.o,↓iO (x:=a),e,stk,Rw.d,aq]
 |_=>simp[↓ch,Rw.o,stk]
theorem bK:(ac Z rows).length<=rows.length:=by
 unfold ac;rw[ID];exact List.length_filter_le _ _
theorem nv(hM:Fm M)(hl:rows.length<400):aa T (B cls c_ d_) (n+6) 36 [.e_ (rows.map Rw.d),.e_ (Z.map D.int)] M Q E=Q (.e_ ((ac Z rows).map Rw.d)) M:=by
 simp only[uh,j1];simp[av];rw[aL Rw.d (λr=>!decide (r.h∈Z)) (λr=>(stk Z r).d) hM (by omega) (λr hd M' hE Q=>by simp[↓lE,↓nj]) (λr hd _ M' hE Q=>by
   simp[↓rF hE.1]),ac,List.map_map]
 simp[km];exact Iff.rfl
theorem nH{W:WC}{De:Ends3}{ES:St3->XN}{R:Prop}{a:PySem.Addr}{y0:Option D}:∀(rows:List Rw)(acc:List Rw)(y3:Option D),acc.length+rows.length<400->
  (∀y3,De.nx [y0,some (.e_ (Z.map D.int)),some (.ref a),y3] (put M a (.lst ((acc++ac Z rows).map Rw.d)))=R)->
  bM W (.name 3) cg ES (λ_=>True) De (rows.map Rw.d) [y0,some (.e_ (Z.map D.int)),some (.ref a),y3] (put M a (.lst (acc.map Rw.d)))=R
 |[],acc,y3,hl,hR=>by
  have:=hR y3;simp[ac]at this;simp[aZ,this]
 |r::rows,acc,y3,hl,hR=>by
  simp only[IN]at hl;have hs:acc.length<PySem.sizeLine:=Iw (show acc.length<1000 by omega) (by decide)
  have hi:=λ{M:MH}{Q:VK3}=>nj (M:=M) (Q:=Q) (Z:=Z) (x:=r.h)
  have ih:=λacc y3=>nH (W:=W) (De:=De) (ES:=ES) (R:=R) (a:=a) (y0:=y0) rows acc y3
  rw[Ip,aD];simp only[cg]at ih ⊢;by_cases e:r.h∈Z
  ·have e1:ac Z (r::rows)=ac Z rows:=by simp[ac,e]
   rw[e1]at hR;simp[↓lE,↓hi,e];exact iff_of_eq (ih acc _ (by omega) hR)
  ·have e1:ac Z (r::rows)=stk Z r::ac Z rows:=by simp[ac,e]
   rw[e1]at hR;have OV:=λy3=>ih (acc++[stk Z r]) y3 (by simp;omega) (λy=>by rw[List.append_assoc];exact hR y)
   by_cases et:r.s = "take"
   ·cases r with
    |take h v a b=>
     have e':¬ h∈Z:=e;by_cases ez:a∈Z
     ·simp[Rw.h]at hi;simp[Rw.d,↓hi,e',↓iO (x:=a),ez,hs,aq];simpa [stk,ez,Rw.d] using OV _
     ·simp[Rw.h]at hi;simp[Rw.d,↓hi,e',↓iO (x:=a),ez,hs,aq];simpa [stk,ez,Rw.d] using OV _
    |_=>exact absurd et (by simp +decide [Rw.s])
   ·have es:stk Z r=r:=by
     cases r with
     |take=>exact absurd rfl et
     |_=>rfl
    rw[es]at OV;simp[↓lE,↓hi,e,↓D0,et,hs];simpa using OV _
theorem B7(hM:Fm M)(hl:rows.length<300):aa T (B cls c_ d_) (n+1) 48 [.e_ (rows.map Rw.d),.e_ (Z.map D.int)] M Q E=Q (.e_ ((ac Z rows).map Rw.d)) M:=by
 simp only[mh,dL];simp;refine iff_of_eq (ao hM λp hp=>?_)
 refine nH (M:=M) rows [] none (by simp;omega) λy3=>?_
 simp[hp]
theorem eG(Kj:a≠b){De:Ends3}(hS:∀ks ds acc,F (put (put M0 a (.dk ks ds)) b (.lst acc))):∀(rs:List Rw)(ks:List Key)(ds acc:List D)(c:Int->Nat)(x3:Option D),ks.length=ds.length->ks.length+rs.length<500->acc.length+rs.length<500->(∀h,(getD ks ds (.inl h)).getD (.int 0)=.int (c h))->
  (∀J_ JK x,De.nx [log,some (.ref a),some (.ref b),x] (put (put M0 a (.dk J_ JK)) b (.lst (acc++(nmF (rs.map Rw.h) c).map nD)))=R)->
  bM W (.name 3) bA ES F De (rs.map Rw.d) [log,some (.ref a),some (.ref b),x3] (put (put M0 a (.dk ks ds)) b (.lst acc))=R
 |[],ks,ds,acc,c,x3,_,_,_,_,hR=>by
  have:=hR ks ds x3;simp[nmF]at this;simp[aZ,this,hS]
 |r::rs,ks,ds,acc,c,x3,hl,h1,h2,hc,hR=>by
  have ha:(put (put M0 a (.dk ks ds)) b (.lst acc)) a=some (.dk ks ds):=by rw[aj Kj,af]
  simp only[IN]at h1 h2;have hs:acc.length<PySem.sizeLine:=Iw (show acc.length<1000 by omega) (by decide)
  have SJ:ks.length<PySem.sizeLine:=Iw (show ks.length<1000 by omega) (by decide)
  have ih:=eG Kj (M0:=M0) (De:=De) (ES:=ES) (R:=R) (log:=log) (W:=W) hS rs (ah ks (.inl r.h)) (ak ks ds (.inl r.h) (.int (c r.h+1))) (acc++[nD (r.h,c r.h)]) (bu c r.h) (some r.d) (aU hl) (by have:=aO (ks:=ks) (k:=(.inl r.h:Key));omega) (by simp;omega) (λx=>by
    rw[cN hl];by_cases e:r.h=x
    ·subst e;simp[bu]
    ·have e2:¬ ((Sum.inl r.h:Key)=Sum.inl x):=λz=>e (Sum.inl.inj z)
     rw[Im e2,hc x];simp[bu,IB e]) (by
    intro J_ JK x;have:=hR J_ JK x;simpa [nmF] using this)
  have SK:(put (put M0 a (.dk (ah ks (.inl r.h)) (ak ks ds (.inl r.h) (.int (c r.h+1))))) b (.lst acc)) a=some (.dk (ah ks (.inl r.h)) (ak ks ds (.inl r.h) (.int (c r.h+1)))):=by rw[aj Kj,af]
  have i2:∀{Q:VK3},am (.ref a) (.int r.h) (put (put M0 a (.dk (ah ks (.inl r.h)) (ak ks ds (.inl r.h) (.int (c r.h+1))))) b (.lst acc)) Q=Q (.int (c r.h+1)) (put (put M0 a (.dk (ah ks (.inl r.h)) (ak ks ds (.inl r.h) (.int (c r.h+1))))) b (.lst acc)):=λ{Q}=>by
   simp[am,aC,ai,SK,gD,eW,pR,cN hl]
  rw[Ip,aD];simp[bA,↓lE,lW ha,qS ha,hc r.h,iX ha,SJ,cK Kj,↓i2,hs,hS,aq];simpa [nD,bA] using ih
theorem fX(rs:List Rw)(hl:rs.length<400)(hM:Fm M):aa T (B cls c_ d_) (n+1) 47 [.e_ (rs.map Rw.d)] M Q E=Q (.e_ ((nms rs).map nD)) M:=by
 simp[iu,cS];refine iff_of_eq (ao hM λa ha=>?_)
 simp[aq];refine iff_of_eq (ao (hM.put _ _) λb hb=>?_)
 obtain⟨Kj,hb⟩:=bj hb;refine eG (IB Kj) (λ_ _ _=>trivial) rs [] [] [] _ _ rfl (by simp;omega) (by simp;omega) (λh=>rfl) λJ_ JK x=>?_
 simp[ha,hb,aj Kj,nms]
theorem lw(rs:List Rw)(hp:M p=some (.lst (rs.map Rw.d)))(hl:rs.length<400)(hM:Fm M):aa T (B cls c_ d_) (n+1) 47 [.ref p] M Q E=Q (.e_ ((nms rs).map nD)) M:=by
 simp[iu,cS];refine iff_of_eq (ao hM λa ha=>?_)
 simp[aq];refine iff_of_eq (ao (hM.put _ _) λb hb=>?_)
 obtain⟨Kj,hb⟩:=bj hb;have hw:∀ks ds acc,(put (put M a (.dk ks ds)) b (.lst acc)) p=some (.lst (rs.map Rw.d)):=λks ds acc=>by
  rw[aj (λz=>by rw[z,hb]at hp;cases hp),aj (λz=>by rw[z,ha]at hp;cases hp),hp]
 rw[mS (hw _ _ _)];refine eG (IB Kj) hw rs [] [] [] _ _ rfl (by simp;omega) (by simp;omega) (λh=>rfl) λJ_ JK x=>?_
 simp[ha,hb,aj Kj,nms]
end
section
variable {cls c_ d_:Nat->PySem.Addr}{M M0:MH}{Q:VK3}{E:XN}{n:Nat}{f_:List (Int×Int)}{wy:List Wy}{H:Nat}{rs:List Rw}{r:Rw}{Z C:List Int}{q:Int×Nat}{a:PySem.Addr}{ks:List (List Int)}{ds:List D}
theorem pY{De:Ends3}:∀(l:List (Int×Nat)) (k:Nat)(x2 x3:Option D),(∀p∈l,¬ (p.1=h/\(p.2:Int)=v))->(∀x y,De.nx [log,some (.tup [.int h,.int v]),x,y] M=R)->
  bM W (.tup [2,3]) bL ES (λ_=>True) De (bg k (l.map nD)) [log,some (.tup [.int h,.int v]),x2,x3] M=R
 |[],k,x2,x3,_,hR=>by simp[bg,aZ,hR]
 |p::l,k,x2,x3,hn,hR=>by
  have ih:=pY (De:=De) (ES:=ES) (R:=R) (W:=W) (log:=log) l (k+1) (some (.int k)) (some (nD p)) (λq hq=>hn q (Io _ hq)) hR
  have h0:=hn p Ix;rw[Ip,bg,aD];have e:(decide (p.1=h)&&decide ((p.2:Int)=v))=false:=by
   rw[Bool.and_eq_false_iff];by_cases e1:p.1=h<;>by_cases e2:(p.2:Int)=v<;>simp_all
  simp[bL,nD,az,dJ,rs,ai,plN,eqD,b8,e]at ih ⊢;simpa [e] using ih
theorem oz{rs:List Rw}(hl:rs.length<400)(hM:Fm M)(hn:h∈rs.map Rw.h->v<0\/((rs.map Rw.h).count h:Int)<=v):aa T (B cls c_ d_) (n+3) 20 [.e_ (rs.map Rw.d),.tup [.int h,.int v]] M Q E=E ⟨8,none⟩ M:=by
 simp[qe,iR,iJ rs hl hM];refine iff_of_eq (pY _ 0 none none (λp hp hq=>?_) λx y=>?_)
 ·obtain⟨h1,h2,h3⟩:=lF _ _ p hp;obtain⟨q1,q2⟩:=hq;rw[q1]at h1 h3;have:=hn h1;simp at h3;omega
 ·simp[aq]
theorem sH(hl:rs.length<400)(hM:Fm M)(hp:p∉nms rs):aa T (B cls c_ d_) (n+6) 24 [wO c_ f_ wy,rL rs,nD p] M Q E=E ⟨8,none⟩ M:=by
 have hn:p.1∈rs.map Rw.h->(p.2:Int)<0\/((rs.map Rw.h).count p.1:Int)<=p.2:=λ_=>.inr (by
  rw[uP];refine Int.not_lt.mp λH_=>hp ?_
  have:p.2<(ofH rs p.1).length:=by omega
  have hs:aW rs p.1 p.2=some (ofH rs p.1)[p.2]:=by simp[aW,this]
  obtain⟨k,e,hz⟩:=sent_Z.mp hs;obtain rfl:k=p.2:=by omega
  rw[<-j0];exact IV.mpr ⟨_,hz,rfl⟩)
 rw[uL];simp[lH,nD];rw[t9];simp[lI,oz hl hM hn]
theorem mn(G:Good f_.length wy rs)(h1:1<=f_.length)(h6:f_.length<=6)(hl:rs.length<400)(hM:Fm M)(v:Vec f_.length (ac Z rs) q C)(hQ:∀p,M p=none->Q (.ref p) (put M p (.lst ((au C (ac Z rs)).map Rw.d)))):aa T (B cls c_ d_) (n+7) 37 [wO c_ f_ wy,rL rs,nD q,.e_ (Z.map D.int)] M Q E:=by
 obtain⟨A,x,Bs,hz,rfl,rfl⟩:=v;have:=bK (Z:=Z) (rows:=rs);rw[vg];simp only[me];simp[nv hM hl];exact zF (n:=n) G.struck h1 h6 (by omega) hM hz hQ
theorem rH(hl:rs.length<400)(hM:Fm M)(hp:q∉nms (ac Z rs)):aa T (B cls c_ d_) (n+7) 37 [wO c_ f_ wy,rL rs,nD q,.e_ (Z.map D.int)] M Q E=E ⟨8,none⟩ M:=by
 have:=bK (Z:=Z) (rows:=rs);rw[vg];simp only[me];simp[nv hM hl];rw[sH (n:=n) (by omega) hM hp,km]
theorem t6(hl:rs.length<400)(hM:Fm M)(hp:q∉nms (ac Z rs)):aa T (B cls c_ d_) (n+8) 50 [wO c_ f_ wy,rL rs,nD q,.e_ (Z.map D.int)] M Q E=Q (.bl true) M:=by
 rw[pV];simp[fS];rw[rH hl hM hp];simp;exact iff_of_eq (ao hM λa ha=>by simp +decide [ha])
noncomputable def zD(x:NR):D:=.tup [x.2.d,nD x.1]
theorem vy:dZ (rs.map Rw.d) ((nms rs).map nD)=(Zs rs).map zD:=by
 have:∀(l:List (Int×Nat)) (rs:List Rw),dZ (rs.map Rw.d) (l.map nD)=(l.zip rs).map zD:=λl=>by
  induction l with
  |nil=>intro rs;cases rs<;>rfl
  |cons x l ih=>
   intro rs;cases rs with
   |nil=>rfl
   |cons r rs=>have:=ih rs;unfold dZ at this ⊢;simp only[Ip,List.zip_cons_cons,this];rfl
 exact this _ _
theorem gZ(h:M a=some (.dt ks ds))(hl:ks.length=ds.length):az .In (.tup [.int i,.int j]) (.ref a) M Q=Q (.bl (decide ([i,j]∈ks))) M:=by
 have e:(getD ks ds [i,j]).isSome=decide ([i,j]∈ks):=by
  clear h
  induction ks generalizing ds with
  |nil=>cases ds<;>simp[getD]
  |cons k ks ih=>
   cases ds with
   |nil=>simp at hl
   |cons x ds=>
    simp only[getD];by_cases e:k=[i,j]
    ·simp[e]
    ·rw[Im e,ih (by simpa using hl)]
     simp[IB e]
 simp[az,iF,aC,ai,h,gD,eW,iD,fF,cO,e]
theorem kW{De:Ends3}{ES:St3->XN}{R:Prop}{W:WC}{y0 y1 y2 y3 y4:Option D}:∀(L:List NR) (ks:List (List Int)) (ds:List D)(x6 x7:Option D),ks.length=ds.length->ks.length+2*L.length<500->
  (∀JK x6 x7,(L.foldl cr ks).length=JK.length->De.nx [y0,y1,y2,y3,y4,some (.ref a),x6,x7] (put M0 a (.dt (L.foldl cr ks) JK))=R)->
  bM W (.tup [6,7]) cZ ES (λ_=>True) De (L.map zD) [y0,y1,y2,y3,y4,some (.ref a),x6,x7] (put M0 a (.dt ks ds))=R
 |[],ks,ds,x6,x7,hl,_,hR=>by simpa [aZ] using hR ds x6 x7 hl
 |z::L,ks,ds,x6,x7,hl,hk,hR=>by
  simp only[IN]at hk;rw[List.foldl_cons]at hR;have ih:=λJ_ JK h1 h2 hR=>kW (De:=De) (ES:=ES) (R:=R) (W:=W) (y0:=y0) (y1:=y1) (y2:=y2) (y3:=y3) (y4:=y4) L J_ JK (some z.2.d) (some (nD z.1)) h1 h2 hR
  rw[Ip,aD];simp only[cZ]at ih ⊢;by_cases e:[z.1.1,(z.1.2:Int)]∈ks
  ·have p1:=aO (ks:=ks) (k:=[z.1.1,(z.1.2:Int)-1]);by_cases e0:0<z.1.2
   ·cases hz:z.2 with
    |take h v i j=>
     have p2:=aO (ks:=ah ks [z.1.1,(z.1.2:Int)-1]) (k:=[i,j]);have hs:cr ks z=ah (ah ks [z.1.1,(z.1.2:Int)-1]) [i,j]:=by simp[cr,kN,e,hz,e0]
     have ih:=ih (ah (ah ks [z.1.1,(z.1.2:Int)-1]) [i,j]) (ak (ah ks [z.1.1,(z.1.2:Int)-1]) (ak ks ds [z.1.1,(z.1.2:Int)-1] (.bl true)) [i,j] (.bl true)) (aU (aU hl)) (by omega) (by rw[<-hs];exact hR)
     rw[hz]at ih;simp +decide [aq,zD,hz,nD,↓gZ af hl,e,e0,gv af,show ks.length<1000 by omega,Rw.d,bc,show (ah ks [z.1.1,(z.1.2:Int)-1]).length<1000 by omega]
     simpa [nD,Rw.d] using ih
    |_=>
     have hs:cr ks z=ah ks [z.1.1,(z.1.2:Int)-1]:=by simp[cr,kN,e,hz,e0]
     have ih:=ih (ah ks [z.1.1,(z.1.2:Int)-1]) (ak ks ds [z.1.1,(z.1.2:Int)-1] (.bl true)) (aU hl) (by omega) (by rw[<-hs];exact hR)
     rw[hz]at ih;simp +decide [aq,zD,hz,nD,↓gZ af hl,e,e0,gv af,show ks.length<1000 by omega,Rw.d,bc]
     simpa [nD,Rw.d] using ih
   ·cases hz:z.2 with
    |take h v i j=>
     have p2:=aO (ks:=ks) (k:=[i,j]);have hs:cr ks z=ah ks [i,j]:=by simp[cr,kN,e,hz,e0]
     have ih:=ih (ah ks [i,j]) (ak ks ds [i,j] (.bl true)) (aU hl) (by omega) (by rw[<-hs];exact hR)
     rw[hz]at ih;simp +decide [aq,zD,hz,nD,↓gZ af hl,e,e0,gv af,show ks.length<1000 by omega,Rw.d,bc]
     simpa [nD,Rw.d] using ih
    |_=>
     have hs:cr ks z=ks:=by simp[cr,kN,e,hz,e0]
     have ih:=ih _ _ hl (by omega) (by rw[<-hs];exact hR)
     rw[hz]at ih;simp +decide [aq,zD,hz,nD,↓gZ af hl,e,e0,Rw.d];simpa [nD,Rw.d] using ih
  ·have hs:cr ks z=ks:=Im e;have ih:=ih _ _ hl (by omega) (by rw[<-hs];exact hR)
   simp[zD,nD,↓gZ af hl,e];simpa [nD] using ih
end
section
variable {f_:List (Int×Int)}{rs:List Rw}{Z:List Int}{q:Int×Nat}
theorem xE(G:Good H wy rs)(v:Vec H (ac Z rs) q C)(hl:rs.length<100)(hM:Fm M):aa T (B cls c_ d_) (n+2) 49 [rL rs,nD q,.e_ (Z.map D.int)] M Q E=Q (rL (au C (ac Z rs))) M:=by
 have sl:=bK (Z:=Z) (rows:=rs);have sc:=uu G.struck v;have zl:=uN (rs:=ac Z rs);rw[pq];simp only[fD];simp[↓B7 (rows:=rs) hM (by omega),↓fX (ac Z rs) (by omega) hM,nD]
 refine iff_of_eq (ao hM λp hp=>?_)
 have hz:min (nms (ac Z rs)).length (ac Z rs).length<=PySem.sizeLine:=IR (show _<=1000 by omega) (by decide)
 simp[jJ,rLz,vy,fF,cO,bc,af,hz];rw[<-List.map_reverse];refine iff_of_eq (kW (M0:=M) (Zs (ac Z rs)).reverse [kN q] [.bl true] none none rfl (by simp;omega) λJK x6 x7 hd=>?_)
 rw[List.foldl_reverse]at hd ⊢;rw[show List.foldr (λx y=>cr y x) [kN q] (Zs (ac Z rs))=ot q (Zs (ac Z rs)) from rfl]at hd ⊢
 simp[av];rw[vy,dj zD (λσ=>∃a b,σ=[a,b,some (.ref p)]) (λe=>[some e.2.d,some (nD e.1),some (.ref p)]) (λz=>decide (kN z.1∈ot q (Zs (ac Z rs)))) (λe=>e.2.d) ⟨_,_,rfl⟩ (hM.put _ _) (by omega) (λe _=>⟨⟨_,_,rfl⟩,by
   rintro σ ⟨a,b,rfl⟩ M k;simp[zD]⟩) (λe _ M' hE Q'=>by
   simp[nD,iG,↓gZ (M:=M') (i:=e.1.1) (j:=e.1.2) (hE.2 _ _ af) hd,kN];exact Iff.rfl) (λe _ _ M' hE Q'=>by simp)]
 rw[<-sc,rL,List.map_map,mZ hp,sP];exact Iff.rfl
end
section
variable {f_:List (Int×Int)}{rs:List Rw}{Z:List Int}{q:Int×Nat}
theorem ye{l:List (Int×Nat)}{i:Int}(h0:0<=i)(h1:i<l.length):∃q,∀{M:MH}{Q:VK3},am (.e_ (l.map nD)) (.int i) M Q=Q (nD q) M:=by
 obtain⟨k,rfl⟩:=Jx h0;have hk:k<l.length:=by omega
 exact⟨l[k],λ{M Q}=>gc (bX (by simp[hk]))⟩
theorem tq{l:List (Int×Nat)}:az .Eq (.e_ (l.map nD)) (.e_ []) M Q=Q (.bl l.isEmpty) M:=by
 have h8:pls (l.map nD)=true:=by simp[plN,nD]
 have h7:pl (.e_ (l.map nD))=true:=by simp[pl,plN,nD]
 show dJ false _ _ M Q=_;simp only[dJ,L2.rs,ai,h8,if_true,h7,true_and];cases l<;>simp[plN,eqD,b8]
theorem c_x{c:Int}(hl:rs.length<100):∃q:Int×Nat,∀{n:Nat}{M:MH}{Q:VK3}{E:XN},Fm M->aa T (B cls c_ d_) (n+2) 51 [rL rs,.int c] M Q E=Q (nD q) M:=by
 by_cases e:c % 9=4\/nms rs=[]
 ·generalize hh:c / 9 % 6=h;obtain⟨q,hq⟩:=ye (l:=[(h,(ofH rs h).length),(-1,0),(6,0),(h,(ofH rs h).length+1)]) (i:=c / 54 % 4) (by omega) (by simp;omega)
  simp[nD]at hq;refine⟨q,λ{n M Q E} hM=>?_⟩
  have hn:=λ{Q:VK3}{E:XN}=>fX (cls:=cls) (c_:=c_) (d_:=d_) (n:=n) (M:=M) (Q:=Q) (E:=E) rs (by omega) hM
  have hc:∀{W:WC}{Q:VK3},dW W (.name 0) (.yes (.cmp .Eq (.ix (.var 0) (.con (.int 1))) (.var 1))) (.var 0) (λ_=>True) Q (rs.map Rw.d) [none,some (.int h)] M=Q (.e_ ((ofH rs h).map Rw.d)) M:=λ{W Q}=>by
   rw[aL Rw.d (λr=>decide (r.h=h)) Rw.d hM (by omega) (λr _ M' hE Q=>by simp[↓lE]) (λr _ _ M' hE Q=>by simp)];rfl
  have hz:(ofH rs h).length<4611686018427387904:=by
   have:=List.length_filter_le (λr:Rw=>decide (r.h=h)) rs
   unfold ofH;omega
  rw[qg];simp only[iQ];rcases e with e|e
  ·simp[↓hn,e,bx,hh,av,↓hc,↓hq,aq,nD]
  ·by_cases e':c % 9=4
   ·simp[↓hn,e',bx,hh,av,↓hc,↓hq,aq,nD]
   ·rw[e]at hn;simp[↓hn,e',↓tq (l:=[]),bx,hh,av,↓hc,↓hq,aq,nD]
 ·obtain⟨e1,e2⟩:=not_or.mp e;have lp:0<(nms rs).length:=List.length_pos_iff.mpr e2;obtain⟨q,hq⟩:=ye (l:=nms rs) (i:=c / 9 % ((nms rs).length:Int)) (Jn _ (by omega)) (Jl _ (by omega))
  refine⟨q,λ{n M Q E} hM=>?_⟩
  have hn:=λ{Q:VK3}{E:XN}=>fX (cls:=cls) (c_:=c_) (d_:=d_) (n:=n) (M:=M) (Q:=Q) (E:=E) rs (by omega) hM
  have en:∀{M:MH}{Q:VK3},az .Eq (.e_ ((nms rs).map nD)) (.e_ []) M Q=Q (.bl false) M:=λ{M Q}=>by rw[tq,show (nms rs).isEmpty=false by cases h:nms rs with|nil=>exact absurd h e2|cons _ _=>rfl]
  have lz:((nms rs).length:Int)<10 ^ 250:=by
   have:=eR (rs:=rs);omega
  rw[qg];simp only[iQ];simp[↓hn,e1,↓en,bx,lp,lz,↓hq]
end
section
variable {f_:List (Int×Int)}{rs rows:List Rw}{Z:List Int}{q:Int×Nat}
theorem nm_struck:q∈nms (ac Z rs)<->q∈nms rs/\q.1∉Z:=by
 rw[<-j0,<-j0,c6,List.map_map];constructor
 ·intro h;obtain⟨z,hz,rfl⟩:=IV.mp h;obtain⟨h1,h2⟩:=List.mem_filter.mp hz;exact⟨IV.mpr ⟨z,h1,rfl⟩,by simpa using h2⟩
 ·rintro⟨h,h2⟩;obtain⟨z,hz,rfl⟩:=IV.mp h;exact IV.mpr ⟨z,List.mem_filter.mpr ⟨hz,by simpa using h2⟩,rfl⟩
theorem pM(h:q∈nms rs):∃C,Vec H rs q C:=by
 rw[<-j0]at h;obtain⟨z,hz,rfl⟩:=IV.mp h;obtain⟨A,B,e⟩:=List.append_of_mem hz;exact⟨_,A,z,B,e,rfl,rfl⟩
theorem xo:(rows.map Rw.d).all (plN (k+2))=true:=IL.mpr λx hx=>by
 obtain⟨y,_,rfl⟩:=IV.mp hx;exact oZ
theorem vW{y:D}{g:Bool}(hy:L2.rs M y=y)(h:plN 8 y=true):dJ g y y M Q=Q (.bl (!g)) M:=by
 unfold dJ;rw[hy,jK 8 h,show pl y=true from h];cases g<;>simp
theorem qd{g:Bool}:dJ g (.tup [rL rows,.e_ (Z.map D.int)]) (.tup [rL rows,.e_ (Z.map D.int)]) M Q=Q (.bl (!g)) M:=vW rfl (by
  show ((rows.map Rw.d).all (plN 6)&&((Z.map D.int).all (plN 6)&&true))=true;rw[xo];simp[plN])
theorem wE{td:List (Rw×Int)}(hM:Fm M)(hl:td.length<400):dW W (.tup [0,1]) .no (.var 0) (λ_=>True) Q (td.map tdD) [none,none] M=Q (.e_ ((td.map Prod.fst).map Rw.d)) M:=by
 rw[dj tdD (λσ=>∃a b,σ=[a,b]) (λd=>[some d.1.d,some (.int d.2)]) (λ_=>true) (λd=>d.1.d) ⟨_,_,rfl⟩ hM (by omega) (λd _=>⟨⟨_,_,rfl⟩,λσ ⟨a,b,e⟩ M k=>by
  subst e;simp[wpG,tdD]⟩) (λ_ _ _ _ _=>rfl) (λ_ _ _ _ _ _=>by simp),List.filter_eq_self.mpr (λ_ _=>rfl),List.map_map]
 rfl
theorem vP(ns:List Int)(lo:Option Int)(k:Nat):∃cs:List Int,dF (ns.map D.int) lo (some (k:Int))=cs.map D.int/\cs.length<=k:=by
 refine⟨(ns.drop (HT.sIx ns.length 0 lo)).take (HT.sIx ns.length ns.length (some (k:Int))-HT.sIx ns.length 0 lo),?_,?_⟩
 ·simp[dF,List.map_take,List.map_drop]
 ·have:HT.sIx ns.length ns.length (some (k:Int))<=k:=by rw[HT.sIx_nat];omega
  rw[List.length_take];omega
theorem uT(hM:Fm M)(hl:rows.length<400)(hp:M p=some (.lst (rows.map Rw.d))):dW W (.name 0) .no (.Lp (.var 0) .tuple) (λM=>M p=some (.lst (rows.map Rw.d))) Q (rows.map Rw.d) [none] M=Q (.e_ (rows.map λ_=>.bl true)) M:=by
 rw[aL Rw.d (λ_=>true) (λ_=>.bl true) hM (by omega) (λ_ _ _ _ _=>rfl) (λr _ _ M' hE Q=>by cases r<;>simp[Rw.d]) (λM' hE=>hE.2 _ _ hp),List.filter_eq_self.mpr (λ_ _=>rfl)]
theorem AW{cs xs:List Int}(hx:xs.length=5)(hy:xs.getD 3 0=y)(hM:Fm M)(hl:cs.length<400):dW W (.name 0) (.yes (.or (.cmp .NotEq (.bin .Mod (.var 0) (.con (.int 6))) (.ix (.var 1) (.con (.int 0)))) (.cmp .Eq (.bin .Mod (.bin .FloorDiv (.ix (.var 2) (.con (.int 3))) (.con (.int 4))) (.con (.int 5))) (.con (.int 2))))) (.bin .Mod (.var 0) (.con (.int 6))) (λ_=>True) Q (cs.map D.int) [none,some (nD q),some (.e_ (xs.map D.int))] M=Q (.e_ (((cs.filter λx=>decide (x % 6≠q.1)||decide (y / 4 % 5=2)).map λx=>x % 6).map D.int)) M:=by
 have i3:∀{M:MH}{Q:VK3},am (.e_ (xs.map D.int)) (.int 3) M Q=Q (.int y) M:=λ{M Q}=>by rw[<-hy];exact aB (k:=3) (by omega)
 rw[aL D.int (λx=>decide (x % 6≠q.1)||decide (y / 4 % 5=2)) (λx=>.int (x % 6)) hM (by omega) (λx _ M' hE Q=>by by_cases e:x % 6=q.1<;>simp[iG,nD,e,↓i3,bx]) (λx _ _ M' hE Q=>by simp),List.map_map]
 rfl
theorem Bp{cs:List Int}(hM:Fm M)(hl:cs.length<400):dW W (.name 0) (.yes (.cmp .NotEq (.var 0) (.ix (.var 1) (.con (.int 0))))) (.var 0) (λ_=>True) Q (cs.map D.int) [none,some (nD q)] M=Q (.e_ ((cs.filter λx=>decide (x≠q.1)).map D.int)) M:=by
 rw[aL D.int (λx=>decide (x≠q.1)) D.int hM (by omega) (λx _ M' hE Q=>by simp[iG,nD]) (λx _ _ M' hE Q=>by simp)]
theorem yZ{l k:List (Int×Nat)}(hM:Fm M)(hl:l.length<400):dW W (.name 0) .no (.cmp .NotIn (.var 0) (.var 1)) (λ_=>True) Q (l.map nD) [none,some (.e_ (k.map nD))] M=Q (.e_ (l.map λq=>.bl (!decide (q∈k)))) M:=by
 rw[aL nD (λ_=>true) (λq=>.bl (!decide (q∈k))) hM (by omega) (λ_ _ _ _ _=>rfl) (λq _ _ M' hE Q=>by
  have hi:∀{M:MH}{Q:VK3},az .NotIn (nD q) (.e_ (k.map nD)) M Q=Q (.bl (!decide (q∈k))) M:=λ{M Q}=>by
   simp only[az];rw[Ck (l:=k) rfl];simp
  simp[↓hi]),List.filter_eq_self.mpr (λ_ _=>rfl)]
end
section
variable {f_:List (Int×Int)}{rs:List Rw}{Z Z':List Int}{q:Int×Nat}
noncomputable def sZ:ISs:=tl (tl (tl (tl (tl (tl (tl nJ))))))
noncomputable def uX:ISs:=tl (tl (tl sZ))
noncomputable def tZ:ISs:=tl (tl (tl uX))
noncomputable def yU:ISs:=tl (tl (tl tZ))
theorem sz(h:n<1000):n<=PySem.sizeLine:=IR (Nat.le_of_lt h) (by decide)
theorem DT{De:Ends3}(G:Good f_.length wy rs)(h1:1<=f_.length)(h6:f_.length<=6)(hl:rs.length<100)(hz:Z.length<100)(v:Vec f_.length (ac Z rs) q C)(L6:∀M,De.rt (.bl true) M)(hM:Fm M)(hp:M p=some (.lst ds)) :
  aR ⟨(B cls c_ d_),aa T (B cls c_ d_) 8⟩ yU De ES [y0,y1,some (rL rs),some (wO c_ f_ wy),y4,some (nD q),some (.e_ (Z.map D.int)),y7,some (.ref p),some (rL (au C (ac Z rs))),v_,x_,y_] M:=by
 have ty:=qU hp;simp only[yU,tZ,uX,sZ,tl,nJ];simp[tyB,ty,tW hp,sz (show rs.length<1000 by omega),sz (show Z.length<1000 by omega)]
 refine mn (n:=1) G h1 h6 (by omega) (hM.put _ _) v λp' LR=>?_
 have e1:∀{M:MH}{Q:VK3},M p'=some (.lst ((au C (ac Z rs)).map Rw.d))->az .Eq (.ref p') (.e_ ((au C (ac Z rs)).map Rw.d)) M Q=Q (.bl true) M:=λ{M Q} h=>iL (neg:=false) (by simp[ai,h]) rfl
 have e2:∀{M:MH}{Q:VK3},az .Eq (.e_ ((au C (ac Z rs)).map Rw.d)) (.e_ ((au C (ac Z rs)).map Rw.d)) M Q=Q (.bl true) M:=λ{M Q}=>iL (neg:=false) rfl rfl
 simp[e1 af,e2];exact L6 _
theorem C3{De:Ends3}(G:Good f_.length wy rs)(h1:1<=f_.length)(h6:f_.length<=6)(hl:rs.length<100)(hz:Z.length<100)(LK:Z'.length<100)(v:Vec f_.length (ac Z rs) q C)(hs:∀a∈Z,a∈Z')(hq:q.1∉Z')(Lu:q∈nms rs)(L6:∀M,De.rt (.bl true) M)(hM:Fm M)(hp:M p=some (.lst ((au C (ac Z rs)).map Rw.d))) :
  aR ⟨(B cls c_ d_),aa T (B cls c_ d_) 8⟩ tZ De ES [y0,y1,some (rL rs),some (wO c_ f_ wy),y4,some (nD q),some (.e_ (Z.map D.int)),y7,some (.ref p),some (rL (au C (ac Z rs))),some (.e_ (Z'.map D.int)),x_,y_] M:=by
 have sl:=bK (Z:=Z) (rows:=rs);have Nq:=bK (Z:=Z') (rows:=rs);have cl:=lN (rs:=ac Z rs) (C:=C) (by omega)
 obtain⟨C2,v2⟩:=pM (H:=f_.length) (nm_struck.mpr ⟨Lu,hq⟩);have Tz:=lN (rs:=ac Z' rs) (C:=C2) (by omega)
 have Gs:Good f_.length wy (ac Z rs):=G.struck;have G1:Good f_.length wy (au C (ac Z rs)):=Gs.cut (v.cl Gs);obtain⟨D3,v3⟩:=pM (H:=f_.length) (q:=q) (rs:=ac Z' (au C (ac Z rs))) (by
  rw[jU hs];exact mem_cut.mpr ⟨nm_struck.mpr ⟨Lu,hq⟩,by have:=v.in Gs;omega⟩)
 have ll:=sN G hs v v2 v3;rw[show tZ=.cons _ (.cons _ (.cons _ yU)) from rfl];simp[sz (show rs.length<1000 by omega),sz (show Z'.length<1000 by omega)]
 refine mn (n:=1) G h1 h6 (by omega) hM v2 λp2 Mu=>?_
 have m1:put M p2 (.lst ((au C2 (ac Z' rs)).map Rw.d)) p=some (.lst ((au C (ac Z rs)).map Rw.d)):=by rw[aj (λz=>by rw[z,Mu]at hp;cases hp),hp]
 have m2:put M p2 (.lst ((au C2 (ac Z' rs)).map Rw.d)) p2=some (.lst ((au C2 (ac Z' rs)).map Rw.d)):=af;have fm:Fm (put M p2 (.lst ((au C2 (ac Z' rs)).map Rw.d))):=hM.put _ _;generalize put M p2 (.lst ((au C2 (ac Z' rs)).map Rw.d))=M2 at m1 m2 fm ⊢;have cn:=λ{Q:VK3}{E:XN}=>lw (cls:=cls) (c_:=c_) (d_:=d_) (n:=7) (Q:=Q) (E:=E) _ m1 (by omega) fm
 have SM:=λ{Q:VK3}{E:XN}=>lw (cls:=cls) (c_:=c_) (d_:=d_) (n:=7) (Q:=Q) (E:=E) _ m2 (by omega) fm
 have nc:=λ{W:WC}{Q:VK3}=>yZ (W:=W) (Q:=Q) (l:=nms (au C2 (ac Z' rs))) (k:=nms (au C (ac Z rs))) fm (by rw[eR];omega)
 have al:∀{M:MH}{Q:VK3},rBi .any [.e_ ((nms (au C2 (ac Z' rs))).map λq=>.bl (!decide (q∈nms (au C (ac Z rs)))))] M Q=Q (.bl false) M:=λ{M Q}=>by
  rw[vY (λq=>!decide (q∈nms (au C (ac Z rs)))) (λ_ _=>rfl),List.any_eq_false.mpr λx hx=>?_]
  obtain⟨a1,a2⟩:=mem_cut.mp hx;obtain⟨b1,b2⟩:=nm_struck.mp a1;obtain⟨i,hi⟩:=List.mem_iff_getElem?.mp b1;have:=Do G hs v v2 x.1 (G.wfl.nm hi).1;simpa using mem_cut.mpr ⟨nm_struck.mpr ⟨b1,λz=>b2 (hs _ z)⟩,by omega⟩
 have li:∀{Q:VK3},rBi (.list true) [.ref p] M2 Q=Q (.e_ ((au C (ac Z rs)).map Rw.d)) M2:=λ{Q}=>by simp[rBi,aC,ai,m1,sz (show (au C (ac Z rs)).length<1000 by omega)]
 simp[↓cn,↓SM,av,↓nc,↓al,↓li];refine mn (n:=1) G1 h1 h6 (by omega) fm v3 λp3 QY=>?_
 rw[ll];have e1:∀{Q:VK3},az .NotEq (.ref p3) (.ref p2) (put M2 p3 (.lst ((au C2 (ac Z' rs)).map Rw.d))) Q=Q (.bl false) (put M2 p3 (.lst ((au C2 (ac Z' rs)).map Rw.d))):=λ{Q}=>iL (rs:=au C2 (ac Z' rs)) (neg:=true) (by simp[ai,af]) (by simp only[ai];rw[aj (λz=>by rw[z,QY]at m2;cases m2),m2])
 simp[↓e1];exact DT G h1 h6 hl hz v L6 (fm.put _ _) (by rw[aj (λz=>by rw[z,QY]at m1;cases m1),m1])
theorem Dg{De:Ends3}{ES:St3->XN}{y0 y1 v_ x_ y_:Option D}{xs:List Int}(G:Good f_.length wy rs)(h1:1<=f_.length)(h6:f_.length<=6)(hl:rs.length<100)(hz:Z.length<50)(hx:xs.length=5)(v:Vec f_.length (ac Z rs) q C)(hq:q.1∉Z)(Lu:q∈nms rs)(L6:∀M,De.rt (.bl true) M)(hM:Fm M)(hp:M p=some (.lst ((au C (ac Z rs)).map Rw.d))) :
  aR ⟨(B cls c_ d_),aa T (B cls c_ d_) 8⟩ uX De ES [y0,y1,some (rL rs),some (wO c_ f_ wy),some (.e_ (xs.map D.int)),some (nD q),some (.e_ (Z.map D.int)),some (.tup [rL rs,.e_ (Z.map D.int)]),some (.ref p),some (rL (au C (ac Z rs))),v_,x_,y_] M:=by
 have sl:=bK (Z:=Z) (rows:=rs);have cl:=lN (rs:=ac Z rs) (C:=C) (by omega)
 have Gs:Good f_.length wy (ac Z rs):=G.struck;have G1:Good f_.length wy (au C (ac Z rs)):=Gs.cut (v.cl Gs);have ib:∀{Q:VK3},j6 .list (.ref p) M Q=Q (.bl true) M:=λ{Q}=>by simp[j6,hp]
 have wk:∀{R:List D->(MH->Prop)->MH->Prop},lB R (.ref p) M=R ((au C (ac Z rs)).map Rw.d) (λM=>M p=some (.lst ((au C (ac Z rs)).map Rw.d))) M:=λ{R}=>mS hp
 have tc:=λ{W:WC}{Q:VK3}=>uT (W:=W) (Q:=Q) hM (by omega) hp
 have al:∀{M:MH}{Q:VK3},rBi .all [.e_ ((au C (ac Z rs)).map λ_=>.bl true)] M Q=Q (.bl true) M:=λ{M Q}=>by
  rw[qp (λ_=>true) (λ_ _=>rfl),IL.mpr λ_ _=>rfl]
 have n1:∀{Q:VK3},az .NotEq (.ref p) (.e_ ((au C (ac Z rs)).map Rw.d)) M Q=Q (.bl false) M:=λ{Q}=>iL (rs:=au C (ac Z rs)) (neg:=true) (by simp[ai,hp]) rfl
 have n2:∀{Q:VK3},az .NotEq (.tup [rL rs,.e_ (Z.map D.int)]) (.tup [rL rs,.e_ (Z.map D.int)]) M Q=Q (.bl false) M:=λ{Q}=>qd (g:=true)
 have li:∀{Q:VK3},rBi (.list true) [.ref p] M Q=Q (.e_ ((au C (ac Z rs)).map Rw.d)) M:=λ{Q}=>by simp[rBi,aC,ai,hp,sz (show (au C (ac Z rs)).length<1000 by omega)]
 have ck:=λ{Q:VK3}{E:XN}=>u0 (cls:=cls) (c_:=c_) (d_:=d_) (n:=3) (Q:=Q) (E:=E) (f_:=f_) (wy:=wy) hM (by omega) G1.fine.1
 have i3:∀{M:MH}{Q:VK3},am (.e_ (xs.map D.int)) (.int 3) M Q=Q (.int (xs.getD 3 0)) M:=λ{M Q}=>aB (k:=3) (by omega)
 generalize xs.getD 3 0=x3 at i3;have mc:=λ{W:WC}{Q:VK3}=>Bp (W:=W) (Q:=Q) (q:=q) (cs:=Z++[x3 / 20 % 6]) hM (by simp;omega)
 have zl:((Z++[x3 / 20 % 6]).filter λx=>decide (x≠q.1)).length<100:=Nat.lt_of_le_of_lt (List.length_filter_le _ _) (by simp;omega)
 have zs:∀a∈Z,a∈(Z++[x3 / 20 % 6]).filter λx=>decide (x≠q.1):=λa ha=>List.mem_filter.mpr ⟨Jg _ ha,by
  have:a≠q.1:=λz=>hq (by rw[<-z];exact ha)
  simpa using this⟩
 have zq:q.1∉(Z++[x3 / 20 % 6]).filter λx=>decide (x≠q.1):=λz=>by simpa using (List.mem_filter.mp z).2
 generalize ((Z++[x3 / 20 % 6]).filter λx=>decide (x≠q.1))=Z' at mc zl zs zq
 rw[Jj,List.map_singleton]at mc;rw[show uX=.cons _ (.cons _ (.cons _ tZ)) from rfl];simp[↓ib,↓wk,av,↓tc,↓al,↓n1,↓n2,↓li,↓ck,D.isN,↓i3,bx,↓mc,aq,sz (show Z.length+1<1000 by omega)]
 exact C3 G h1 h6 hl (by omega) zl v zs zq Lu L6 hM hp
theorem Db{De:Ends3}{ES:St3->XN}{y0 y1 y8 y9 v_ x_ y_:Option D}{xs:List Int}(G:Good f_.length wy rs)(h1:1<=f_.length)(h6:f_.length<=6)(hl:rs.length<100)(hz:Z.length<50)(hx:xs.length=5)(L6:∀M,De.rt (.bl true) M)(hM:Fm M) :
  aR ⟨(B cls c_ d_),aa T (B cls c_ d_) 8⟩ sZ De ES [y0,y1,some (rL rs),some (wO c_ f_ wy),some (.e_ (xs.map D.int)),some (nD q),some (.e_ (Z.map D.int)),some (.tup [rL rs,.e_ (Z.map D.int)]),y8,y9,v_,x_,y_] M:=by
 have hi:∀{M:MH}{Q:VK3},az .In (.int q.1) (.e_ (Z.map D.int)) M Q=Q (.bl (decide (q.1∈Z))) M:=λ{M Q}=>iO
 have ni:∀{M:MH}{Q:VK3},az .NotIn (nD q) (.e_ ((nms rs).map nD)) M Q=Q (.bl (!decide (q∈nms rs))) M:=λ{M Q}=>by
  simp only[az];rw[Ck (l:=nms rs) rfl];simp
 have cn:=λ{Q:VK3}{E:XN}=>fX (cls:=cls) (c_:=c_) (d_:=d_) (n:=7) (M:=M) (Q:=Q) (E:=E) rs (by omega) hM
 have x0:∀{M:MH}{Q:VK3},am (nD q) (.int 0) M Q=Q (.int q.1) M:=λ{M Q}=>by simp[nD]
 have n2:∀{M:MH}{Q:VK3},az .Eq (.tup [rL rs,.e_ (Z.map D.int)]) (.tup [rL rs,.e_ (Z.map D.int)]) M Q=Q (.bl true) M:=λ{M Q}=>qd (g:=false)
 rw[show sZ=.cons _ (.cons _ (.cons _ uX)) from rfl];by_cases e1:q.1∈Z
 ·have cw:=λ{Q:VK3}{E:XN}=>t6 (cls:=cls) (c_:=c_) (d_:=d_) (n:=0) (M:=M) (Q:=Q) (E:=E) (f_:=f_) (wy:=wy) (rs:=rs) (Z:=Z) (q:=q) (by omega) hM (λz=>(nm_struck.mp z).2 e1)
  simp[↓x0,↓hi,e1,↓cw,↓n2,aq];exact L6 _
 ·by_cases e2:q∈nms rs
  ·obtain⟨C,v⟩:=pM (H:=f_.length) (nm_struck.mpr ⟨e2,e1⟩);simp[↓x0,↓hi,e1,↓cn,↓ni,e2];refine mn (n:=1) G h1 h6 (by omega) hM v λp hp=>?_
   have lf:=λ{Q:VK3}{E:XN}=>xE (cls:=cls) (c_:=c_) (d_:=d_) (n:=6) (M:=put M p (.lst ((au C (ac Z rs)).map Rw.d))) (Q:=Q) (E:=E) G v hl (hM.put _ _)
   simp[↓lf];exact Dg G h1 h6 hl hz hx v e1 e2 L6 (hM.put _ _) af
  ·have cw:=λ{Q:VK3}{E:XN}=>t6 (cls:=cls) (c_:=c_) (d_:=d_) (n:=0) (M:=M) (Q:=Q) (E:=E) (f_:=f_) (wy:=wy) (rs:=rs) (Z:=Z) (q:=q) (by omega) hM (λz=>e2 (nm_struck.mp z).1)
   simp[↓x0,↓hi,e1,↓cn,↓ni,e2,↓cw,↓n2,aq];exact L6 _
end
theorem main(cls c_ d_:Nat->PySem.Addr)(ns:List Int)(hl:ns.length<=63):aa (L.map FL.fb) (B cls c_ d_) 9 52 [scr ns] (λ_=>none) (λd _=>d=.bl true) (λ_ _=>False):=by
 rw[Fk];obtain⟨c0,SN⟩:=oo (cls:=cls) (c_:=c_) (d_:=d_) ns 0;obtain⟨c1,SO⟩:=oo (cls:=cls) (c_:=c_) (d_:=d_) ns 1;obtain⟨c2,Mw⟩:=oo (cls:=cls) (c_:=c_) (d_:=d_) ns 2;have h0:∀{M:MH}{Q:VK3}{E:XN},aa T (B cls c_ d_) 8 38 [scr ns,.int 0] M Q E=Q (.int c0) M:=SN;have h1:∀{M:MH}{Q:VK3}{E:XN},aa T (B cls c_ d_) 8 38 [scr ns,.int 1] M Q E=Q (.int c1) M:=SO;have h2:∀{M:MH}{Q:VK3}{E:XN},aa T (B cls c_ d_) 8 38 [scr ns,.int 2] M Q E=Q (.int c2) M:=Mw;obtain⟨cs,Ox,LD⟩:=vP ns (some 2) 16;have sc:dF (ns.map D.int) (some 2) (some 16)=cs.map D.int:=Ox;rw[B5,show nJ=.cons _ (.cons _ (.cons _ (.cons _ (.cons _ (.cons _ (.cons _ sZ)))))) from rfl];simp[↓h0];refine xg (n:=6) Fm.nil λf_ wy G=>?_
 simp[↓h1,sc,sz (show cs.length<1000 by omega)]
 refine Al (n:=6) G Fm.nil LD λtd f l=>?_
 have tc:=λ{W:WC}{Q:VK3}=>wE (W:=W) (Q:=Q) (M:=λ_=>none) (td:=td) Fm.nil (by omega)
 generalize hr:td.map Prod.fst=rows at f tc;have rl:rows.length<100:=by rw[<-hr,ID];omega
 have mk:=λ{Q:VK3}{E:XN}=>zK (cls:=cls) (c_:=c_) (d_:=d_) (n:=1) (M:=λ_=>none) (Q:=Q) (E:=E) G Fm.nil
 have st:∀{Q:VK3}{E:XN},aa T (B cls c_ d_) 8 39 [.int (c0+c2),.int 5] (λ_=>none) Q E=Q (.e_ ((aM (c0+c2) 5).map D.int)) (λ_=>none):=λ{Q E}=>eF (n:=7) (m:=5) Fm.nil (by omega)
 have xl:(aM (c0+c2) 5).length=5:=bQ;generalize aM (c0+c2) 5=xs at st xl;have i3:∀{M:MH}{Q:VK3},am (.e_ (xs.map D.int)) (.int 3) M Q=Q (.int (xs.getD 3 0)) M:=λ{M Q}=>aB (k:=3) (by omega)
 have i4:∀{M:MH}{Q:VK3},am (.e_ (xs.map D.int)) (.int 4) M Q=Q (.int (xs.getD 4 0)) M:=λ{M Q}=>aB (k:=4) (by omega)
 generalize SQ:xs.getD 3 0=x3 at i3;obtain⟨q,hq⟩:=c_x (cls:=cls) (c_:=c_) (d_:=d_) (rs:=rows) (c:=xs.getD 4 0) rl;have cx:=λ{Q:VK3}{E:XN}=>hq (n:=6) (Q:=Q) (E:=E) Fm.nil
 obtain⟨j,hj⟩:=Jx (Jn x3 (show (4:Int)≠0 by decide))
 obtain⟨zs,QD,TC⟩:=vP xs none j;have jl:j<=3:=by omega
 have zc:=λ{W:WC}{Q:VK3}=>AW (W:=W) (Q:=Q) (M:=λ_=>none) (q:=q) (cs:=zs) xl SQ Fm.nil (by omega)
 have zl:((zs.filter λx=>decide (x % 6≠q.1)||decide (x3 / 4 % 5=2)).map λx=>x % 6).length<50:=by
  rw[ID];exact Nat.lt_of_le_of_lt (List.length_filter_le _ _) (by omega)
 generalize ((zs.filter λx=>decide (x % 6≠q.1)||decide (x3 / 4 % 5=2)).map λx=>x % 6)=Z at zc zl
 simp[av,↓tc,↓mk,↓h0,↓h2,↓st,↓i3,↓i4,↓cx,hj,QD,sz (show zs.length<1000 by omega),↓zc,sz (show rows.length<1000 by omega),sz (show Z.length<1000 by omega),aq]
 exact Db f G.l1 G.l6 rl zl xl (λ_=>rfl) Fm.nil
end G
open PySem PySem.W PyProof.Rows
set_option maxRecDepth 100000 in
set_option maxHeartbeats 0 in
theorem PySem.Challenge.cw_driftmeet_k63_what_is_left_holds : PySem.Challenge.rw_driftmeet_k63_what_is_left.Holds := by
 w_on
 refine PySem.W.holds_law (by decide +kernel) λSR=>?_
 refine holds_open (q:=HD.view) (loose:=HD.loose) (Xt:=HD.Xt) (XP:=XL HD.view []) (Yf:=Hook.obs (kHook HD.K HD.as HD.as_eq)) (Ya:=Hook.val (kHook HD.K HD.as HD.as_eq)) (YP:=Hook.says (kHook HD.K HD.as HD.as_eq)) (N:=10666) HD.left (Hook.of (kHook HD.K HD.as HD.as_eq)) (Hook.keeps (kHook HD.K HD.as HD.as_eq)) (λs e=>xl_of s (Bool.and_eq_true_iff.mp e).1) XL.keeps (by rfl) (by rfl) (by rfl) (λs e=>recFacts_of (Bool.and_eq_true_iff.mp e).2) (by kernel_rfl) (by first|assumption|decide +kernel) (by decide +kernel) ⟨rfl,rfl,rfl,rfl,rfl,by decide +kernel⟩ ?hw ?hc
 (case hw=>w_witness2)
 k_fill
 refine L2.walkD (l:=PySem.Challenge.rw_driftmeet_k63_what_is_left) (k:=9) (f:=52) (fl:=G.l_law) (x:="_law_script") (L:=G.L) (nm:=G.nm) (BB:=G.B) rfl rfl ⟨rfl,by decide,by decide⟩ (λw h Y=>PySem.W.kIn_of Y) rfl rfl rfl rfl ?F (λcls c_ d_ ns hl=>G.main cls c_ d_ ns hl)
 case F=>
  intro w mg h KX Gn
  refine' G.top_mk (qt0:=726) (h6:=108) (xod6:=none) (xan6:=none) (xsl6:=#[]) (xoc6:=.type "function") (xkV6:=.none) (xdc6:=.none) (xpm6:=.str "driftmeet.errors" 194) (xcd6:=.ref 107) (xct6:=.none) KX Gn ?PL ?x6 ?OP ?OQ ?P0 ?P6 ?OR ?P7 ?OS
  (case PL=>kernel_rfl)
  (case x6=>kernel_rfl)
  (case OP=>kernel_rfl)
  (case OQ=>kernel_rfl)
  (case P0=>rfl)
  (case P6=>kernel_rfl)
  (case OR=>kernel_rfl)
  (case P7=>kernel_rfl)
  (case OS=>kernel_rfl)
  all_goals exact⟨0,0,0,0⟩
