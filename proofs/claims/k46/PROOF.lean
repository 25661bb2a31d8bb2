import PyProof.Rows.All
import Wide.All
import OpenK.AllK
import Wide.FinOn
import Lean
import PyProof.EqAt
import PyProof.EqKinds
import PyProof.TupleCall
import PySem.Challenge.RW_driftmeet_k46_the_spread_of_names
set_option Elab.async false
set_option linter.all false
set_option bootstrap.genMatcherCode false
set_option genSizeOf false
set_option maxRecDepth 100000
theorem wz_:PySem.Challenge.rw_driftmeet_k46_the_spread_of_names.wellSaid=true:=by decide +kernel
set_option maxHeartbeats 4000000
namespace L2
open PySem PySem.Spec PyProof.Rows
abbrev Ks:=PySem.W.Frag
def AV:=@wpAny_bind
def Jj:=@Bool.and_eq_true
def Jk:=@List.mem_cons_of_mem
def Jl:=@wpAny_pure
def Jm:=@if_neg
def Jn:=@Heap.get?_push_of_some
def Jo:=@List.mem_cons_self
def Jp:=@Nat.le_refl
def Jq:=@List.mem_cons
def Jr:=@Heap.get?_push_size
def Js:=@if_pos
def Jt:=@Heap.lt_size
def Ju:=@decide_eq_true_eq
def Jv:=@List.length_map
def Jw:=@Nat.lt_of_lt_of_le
def Jx:=@List.length_cons
def Jy:=@List.size_toArray
def Jz:=@List.getElem?_map
def JA:=@Ne.symm
def JB:=@List.mem_singleton
def JD:=@List.all_eq_true
def JE:=@Option.some.inj
def JF:=@Nat.le_trans
def JG:=@List.getElem?_eq_getElem
def JH:=@Bool.false_ne_true
def JI:=@Nat.ne_of_lt
def JJ:=@beq_iff_eq
def JK:=@List.mem_append
def JL:=@List.mem_append_right
def JM:=@List.mem_map
def JN:=@List.nodup_cons
def JO:=@Heap.get?_update_other
def JP:=@beq_eq_false_iff_ne
def JQ:=@List.getElem?_eq_some_iff
def JR:=@List.length_append
def JS:=@Option.isSome_iff_exists
def JT:=@wpAny_newObj_type
def JU:=@tupleKind_room_in1
def JV:=@Heap.get?_update_self
def JW:=@Int.emod_lt_of_pos
def JX:=@List.lookup_cons
def JY:=@wpAny_truthy_bool
def JZ:=@wpAny_dictEntries
def J0:=@List.append_nil
def J4:=@List.map_append
def J5:=@decide_eq_false
def J6:=@Int.emod_nonneg
def J7:=@List.find?_cons
def J8:=@List.mem_append_left
def J9:=@List.getElem_mem
def Ka:=@List.mem_of_getElem?
def Kb:=@Array.getElem?_eq_some_iff
def Kc:=@wpAny_holding
def Kd:=@List.not_mem_nil
def Ke:=@Nat.lt_irrefl
def Kf:=@Int.eq_ofNat_of_zero_le
def Kg:=@wpAny_field
def Kh:=@Bool.false_eq_true
def Ki:=@of_decide_eq_true
def Kj:=@wpAny_call_entry
def Kk:=@Obj.data_mapFields
def Kl:=@Int.toNat_natCast
def Km:=@wpAny_mono
def Kn:=@Nat.le_succ
def Ko:=@wpAny_setField
def Kp:=@Nat.le_add_right
def Kq:=@List.getElem?_set_ne
def Kr:=@Bool.and_eq_true_iff
end L2
namespace L2
open PySem PySem.Spec PyProof.Rows
noncomputable abbrev Key:=Sum Int Str
noncomputable def jx:Key->Value->Bool
 |.inl k,v=>Value.isInt k v
 |.inr x,v=>Value.isStrOf x v
noncomputable def GH(w:World):Key->Int
 |.inl k=>hashInt k
 |.inr x=>hashStr w x
theorem aG:∀{k:Key}{v:Value},jx k v=true->(∃i t,k=Sum.inl i/\v=Value.int i t)\/(∃x t,k=Sum.inr x/\v=Value.str x t)
 |.inl i,v,h=>by
  obtain⟨t,e⟩:=Value.isInt_shape (k:=i) (v:=v) h;exact .inl ⟨i,t,rfl,e⟩
 |.inr x,v,h=>by
  obtain⟨t,e⟩:=Value.isStrOf_shape (x:=x) (v:=v) h;exact .inr ⟨x,t,rfl,e⟩
theorem uq(i:Int)(t:Tok):jx (.inl i) (.int i t)=true:=by simp[jx,Value.isInt]
theorem tq(x:Str)(t:Tok):jx (.inr x) (.str x t)=true:=by simp[jx,Value.isStrOf]
theorem Bv(a b:Int):decide ((Sum.inl a:Key)=Sum.inl b)=(a == b):=by
 by_cases e:a=b
 ·subst e;simp
 ·have h:¬ (Sum.inl a:Key)=Sum.inl b:=λq=>e (Sum.inl.inj q)
  rw[J5 h];exact (JP.mpr e).symm
theorem Bg(a b:Str):decide ((Sum.inr a:Key)=Sum.inr b)=decide (a=b):=by
 by_cases e:a=b
 ·subst e;simp
 ·have h:¬ (Sum.inr a:Key)=Sum.inr b:=λq=>e (Sum.inr.inj q)
  rw[J5 h,J5 e]
theorem Cs(a:Int)(b:Str):decide ((Sum.inl a:Key)=Sum.inr b)=false:=J5 (λq=>nomatch q)
theorem CT(a:Str)(b:Int):decide ((Sum.inr a:Key)=Sum.inl b)=false:=J5 (λq=>nomatch q)
noncomputable def aD(prog:Program)(w:World):PySem.KeyKind prog w Key where
 is:=jx
 hash:=GH w
 inj:=λv a b ha hb=>by
  rcases aG ha with ⟨i,t,rfl,rfl⟩|⟨x,t,rfl,rfl⟩
  ·rcases aG hb with ⟨j,u,rfl,e⟩|⟨y,u,rfl,e⟩
   ·injection e with e1 _;rw[e1]
   ·exact nomatch e
  ·rcases aG hb with ⟨j,u,rfl,e⟩|⟨y,u,rfl,e⟩
   ·exact nomatch e
   ·injection e with e1 _;rw[e1]
 byValue:=λk v h=>by
  rcases aG h with ⟨i,t,rfl,rfl⟩|⟨x,t,rfl,rfl⟩<;>rfl
 pyHash:=λhv h=>by
  rcases aG hv with ⟨i,t,rfl,rfl⟩|⟨x,t,rfl,rfl⟩
  ·exact wpAny_pyHash_int h
  ·exact wpAny_pyHash_str h
 eqBool:=λhu hv h=>by
  rcases aG hu with ⟨i,t,rfl,rfl⟩|⟨x,t,rfl,rfl⟩
  ·rcases aG hv with ⟨j,u,rfl,rfl⟩|⟨y,u,rfl,rfl⟩
   ·rw[Bv]at h;exact wpAny_eqBool_int h
   ·rw[Cs]at h;exact SeqAt.EqAt.int_str i t y u _ _ _ _ h
  ·rcases aG hv with ⟨j,u,rfl,rfl⟩|⟨y,u,rfl,rfl⟩
   ·rw[CT]at h;exact SeqAt.EqAt.str_int x t j u _ _ _ _ h
   ·rw[Bg]at h;exact wpAny_eqBool_str h
 «strs»:=λk x t v h=>by
  rcases aG h with ⟨i,u,rfl,e⟩|⟨y,u,rfl,e⟩
  ·exact nomatch e
  ·injection e with e1 _
   subst e1;cases v<;>rfl
theorem qE(prog:Program)(w:World)(k:Key)(v:Value):(aD prog w).is k v=jx k v:=rfl
theorem nH(prog:Program)(w:World)(i:Int)(t:Tok):(aD prog w).is (.inl i) (.int i t)=true:=uq i t
theorem pB(prog:Program)(w:World)(x:Str)(t:Tok):(aD prog w).is (.inr x) (.str x t)=true:=tq x t
inductive V where
 |i_|bl (b:Bool)|int (i:Int)|str (x:Str)|OJ (b:Array UInt8)|OK (b:UInt64)|ref (a:Addr)|ty (n:String)
 deriving DecidableEq
def RelV:V->Value->Prop
 |.i_,u=>u=Value.none
 |.bl b,u=>u=Value.bool b
 |.int i,u=>∃t,u=Value.int i t
 |.str x,u=>∃t,u=Value.str x t
 |.OJ b,u=>∃t,u=Value.bytes b t
 |.OK b,u=>∃t,u=Value.float b t
 |.ref a,u=>u=Value.ref a
 |.ty n,u=>u=Value.type n
abbrev Vals:List V->List Value->Prop:=Paired RelV
theorem Vals.length{xs:List V}{us:List Value}(r:Vals xs us):xs.length=us.length:=Paired.length r
theorem Vals.get:∀{xs:List V}{us:List Value}{i:Nat}{x:V},Vals xs us->xs[i]?=some x->∃u,us[i]?=some u/\RelV x u
 |_,_,_,_,.nil,e=>by simp at e
 |_,_,0,_,.cons r _,e=>by simp at e;subst e;exact⟨_,rfl,r⟩
 |_,_,i+1,x,.cons _ t,e=>by
  obtain⟨u,h1,h2⟩:=Vals.get (i:=i) (x:=x) t (by simpa using e)
  exact⟨u,by simpa using h1,h2⟩
theorem Vals.set(r:RelV x u):∀{xs:List V}{us:List Value} (i:Nat),Vals xs us->Vals (xs.set i x) (us.set i u)
 |_,_,_,.nil=>.nil
 |_,_,0,.cons _ t=>.cons r t
 |_,_,i+1,.cons q t=>.cons q (Vals.set r i t)
theorem Vals.append:∀{xs ys:List V}{us ws:List Value},Vals xs us->Vals ys ws->Vals (xs++ys) (us++ws)
 |_,_,_,_,.nil,s=>s
 |_,_,_,_,.cons r t,s=>.cons r (Vals.append t s)
theorem Vals.take:∀{xs:List V}{us:List Value} (n:Nat),Vals xs us->Vals (xs.take n) (us.take n)
 |_,_,0,_=>.nil
 |_,_,_+1,.nil=>.nil
 |_,_,n+1,.cons r t=>.cons r (Vals.take n t)
theorem Vals.drop:∀{xs:List V}{us:List Value} (n:Nat),Vals xs us->Vals (xs.drop n) (us.drop n)
 |_,_,0,r=>r
 |_,_,_+1,.nil=>.nil
 |_,_,n+1,.cons _ t=>Vals.drop n t
def RelO:Option V->Option Value->Prop
 |some v,some u=>RelV v u
 |none,none=>True
 |_,_=>False
def KV:List (κ×V)->List (κ×Value)->Prop:=Paired λ(p:κ×V) (q:κ×Value)=>p.1=q.1/\RelV p.2 q.2
noncomputable def kV:Key->V
 |.inl i=>.int i
 |.inr x=>.str x
inductive HO where
 |lst (xs:List V)
 |tup (xs:List V)
 |dK (l_:List (Key×V))|dT (l_:List (List Key×V))
 |set (S:Int->Bool) (n:Nat)
 |ins (C dx:Addr) (fs:List (Str×V))
 |own (x:Addr)
 |xd (fs:List (Str×V))
 |met (f x:Addr)
 |rng (lo hi:Int)
 |t_ (o:Obj) (u:HO)
 |Md (ps:Array Value)
 |ext (φ:Heap->Prop)
noncomputable abbrev Hp:=Addr->Option HO
noncomputable def upd(H:Hp)(a:Addr)(o:HO):Hp:=λb=>if b=a then some o else H b
theorem ah:upd H a o a=some o:=by unfold upd;rw[Js rfl]
theorem ae(h:b≠a):upd H a o b=H b:=by unfold upd;rw[Jm h]
theorem db{H:Hp}{a b:Addr}{o u:HO}(h:H a=some o)(h':H b=some u)(d:o≠u):a≠b:=by
 intro e;subst e;rw[h]at h';exact d (JE h')
theorem aA{H:Hp}{a b:Addr}{o:HO}(h:H a=some o)(h':H b=none):a≠b:=by
 intro e;subst e;rw[h]at h';cases h'
section
variable (P:Program) (w:World)
def ObjOk(H:Hp)(h:Heap)(a:Addr):HO->Prop
 |.lst xs=>xs.length<=sizeLine/\∃(its:List Value) (n:Nat),Vals xs its/\h.get? a=some {cls:=.type "list",data:=.seq its.toArray n}
 |.tup xs=>xs.length<=sizeLine/\∃its:List Value,Vals xs its/\IsTup h a its.toArray
 |.dK l_=>l_.length<=sizeLine/\(a == sysModules)=false/\∃vs,KV l_ vs/\h.DictOf (aD P w) a vs
 |.dT l_=>l_.length<=sizeLine/\(a == sysModules)=false/\∃xs:List (List Key×Addr×Value),
   Paired (λ(p:List Key×V) (q:List Key×Addr×Value)=>p.1=q.1/\H q.2.1=some (.tup (p.1.map kV))/\RelV p.2 q.2.2) l_ xs/\
   ∃o es ep,h.get? a=some o/\o.ExactDict/\o.data=.dict es ep/\es.toList=xs.map (entryOfKey (tupleKind (aD P w)))/\(xs.map (·.1)).Nodup
 |.set S n=>h.SetOf (intKind P w) a S n
 |.ins C dx fs=>H dx=some (.own a)/\fs.length<=1000/\dx≠a/\h.get? a=some (PySem.W.instObj C dx)/\
   ∃mA,h.Ns1 dx mA/\(∀f,RelO (fs.lookup f) (mA f))/\PySem.Within mA (fs.map (·.1))
 |.own _=>∃o,h.get? a=some o
 |.xd fs=>∃mA,h.Ns1 a mA/\∀f,RelO (fs.lookup f) (mA f)
 |.rng lo hi=>∃t u v,h.get? a=some {cls:=.type "range",data:=.fields #[.int lo t,.int hi u,.int 1 v]}
 |.t_ o u=>h.get? a=some o/\ObjOk H h a u
 |.Md ps=>h.get? a=some {cls:=.none,data:=.fields ps}
 |.met f x=>h.get? a=some (PySem.W.methodObj (.ref f) (.ref x))
 |.ext φ=>φ h/\(∃o,h.get? a=some o)/\∀h1 h2:Heap,φ h1->(∀o,h1.get? a=some o->h2.get? a=some o)->φ h2
def HOk(H:Hp)(h:Heap):Prop:=∀a o,H a=some o->ObjOk P w H h a o
end
section
variable {P:Program}{w:World}{H H':Hp}{h h':Heap}{a:Addr}{o:HO}
theorem ObjOk.lt(x:ObjOk P w H h a o):a<h.objs.size:=by
 cases o with
 |lst xs=>obtain⟨_,_,_,_,e⟩:=x;exact Jt e
 |tup xs=>obtain⟨_,_,_,p⟩:=x;exact p.lt
 |dK l_=>obtain⟨_,_,_,_,o,_,_,e,_⟩:=x;exact Jt e
 |dT l_=>obtain⟨_,_,_,_,o,_,_,e,_⟩:=x;exact Jt e
 |set S n=>obtain⟨o,_,_,_,e,_⟩:=x;exact Jt e
 |ins C dx fs=>obtain⟨_,_,_,e,_⟩:=x;exact Jt e
 |own y=>obtain⟨_,e⟩:=x;exact Jt e
 |xd fs=>obtain⟨_,⟨_,_,_,e,_⟩,_⟩:=x;exact Jt e
 |rng lo hi=>obtain⟨_,_,_,e⟩:=x;exact Jt e
 |t_ ob u=>obtain⟨e,_⟩:=x;exact Jt e
 |Md ps=>exact Jt (show h.get? a=some _ from x)
 |met f y=>exact Jt (show h.get? a=some _ from x)
 |ext φ=>obtain⟨_,⟨_,e⟩,_⟩:=x;exact Jt e
theorem Paired.mapP:∀{NJ:List α}{NK:List β},Paired F NJ NK->(∀a b,F a b->G a b)->Paired G NJ NK
 |_,_,.nil,_=>.nil
 |_,_,.cons r t,f=>.cons (f _ _ r) (Paired.mapP t f)
theorem ObjOk.stay(x:ObjOk P w H h a o)(k:∀b u,(b=a\/H b=some (.own a))->h.get? b=some u->h'.get? b=some u)
  (ho:∀b,H b=some (.own a)->H' b=some (.own a)) (ht:∀b xs,H b=some (.tup xs)->H' b=some (.tup xs)):ObjOk P w H' h' a o:=by
 induction o with
 |lst xs=>obtain⟨z,its,n,r,e⟩:=x;exact⟨z,its,n,r,k _ _ (.inl rfl) e⟩
 |tup xs=>obtain⟨z,its,r,ob,e,c⟩:=x;exact⟨z,its,r,ob,k _ _ (.inl rfl) e,c⟩
 |dK l_=>obtain⟨z,y,vs,r,ob,es,ep,e,c⟩:=x;exact⟨z,y,vs,r,ob,es,ep,k _ _ (.inl rfl) e,c⟩
 |dT l_=>
  obtain⟨z,y,xs,r,ob,es,ep,e,c⟩:=x;exact⟨z,y,xs,Paired.mapP r λp q z=>⟨z.1,ht _ _ z.2.1,z.2.2⟩,ob,es,ep,k _ _ (.inl rfl) e,c⟩
 |set S n=>obtain⟨ob,es,ep,t,e,c⟩:=x;exact⟨ob,es,ep,t,k _ _ (.inl rfl) e,c⟩
 |ins C dx fs=>
  obtain⟨d,z,ne,e,mA,⟨od,es,ep,e2,c⟩,r⟩:=x;exact⟨ho _ d,z,ne,k _ _ (.inl rfl) e,mA,⟨od,es,ep,k _ _ (.inr d) e2,c⟩,r⟩
 |own y=>obtain⟨ob,e⟩:=x;exact⟨ob,k _ _ (.inl rfl) e⟩
 |xd fs=>obtain⟨mA,⟨od,es,ep,e,c⟩,r⟩:=x;exact⟨mA,⟨od,es,ep,k _ _ (.inl rfl) e,c⟩,r⟩
 |rng lo hi=>obtain⟨t,u,v,e⟩:=x;exact⟨t,u,v,k _ _ (.inl rfl) e⟩
 |t_ ob u ih=>obtain⟨e,q⟩:=x;exact⟨k _ _ (.inl rfl) e,ih q⟩
 |Md ps=>
  have e:h.get? a=some {cls:=.none,data:=.fields ps}:=x;show h'.get? a=some {cls:=.none,data:=.fields ps};exact k a _ (.inl rfl) e
 |met f y=>
  have e:h.get? a=some (PySem.W.methodObj (.ref f) (.ref y)):=x;show h'.get? a=some (PySem.W.methodObj (.ref f) (.ref y));exact k a _ (.inl rfl) e
 |ext φ=>obtain⟨p,⟨o,e⟩,st⟩:=x;exact⟨st _ _ p λo q=>k _ _ (.inl rfl) q,⟨o,k _ _ (.inl rfl) e⟩,st⟩
theorem HOk.lt(x:HOk P w H h)(e:H a=some o):a<h.objs.size:=(x a o e).lt
theorem HOk.fresh(x:HOk P w H h)(e:h.objs.size<=a):H a=none:=by
 cases q:H a with
 |none=>rfl
 |some u=>exact absurd (Jw (x.lt q) e) (Ke _)
theorem HOk.kept(x:HOk P w H h)(k:∀b u,h.get? b=some u->h'.get? b=some u):HOk P w H h':=λa o e=>
 (x a o e).stay (λb u _ q=>k b u q) (λ_ q=>q) λ_ _ q=>q
theorem HOk.laid(x:HOk P w H h)(k:∀b u,h.get? b=some u->h'.get? b=some u)(hp:h.objs.size<=a)(new:ObjOk P w (upd H a o) h' a o):HOk P w (upd H a o) h':=λb u e=>by
 have hn:=x.fresh hp;by_cases hb:b=a
 ·subst hb;rw[ah]at e;cases e;exact new
 ·rw[ae hb]at e;exact (x b u e).stay (λc v _ q=>k c v q) (λc q=>by rw[ae (aA q hn)];exact q) λc xs q=>by rw[ae (aA q hn)];exact q
end
def Rd(H:Hp)(a:Addr)(u:HO):Prop:=H a=some u\/∃o,H a=some (.t_ o u)
theorem Rd.ok{P:Program}{w:World}{H:Hp}{h:Heap}{a:Addr}{u:HO}(r:Rd H a u)(x:HOk P w H h):ObjOk P w H h a u:=by
 rcases r with r|⟨o,r⟩
 ·exact x a u r
 ·obtain⟨_,q⟩:=x a _ r;exact q
def Mut:Option HO->Prop
 |some (.lst _)=>True
 |some (.dK _)=>True
 |some (.dT _)=>True
 |some (.set _ _)=>True
 |some (.ins _ _ _)=>True
 |some (.ext _)=>True
 |_=>False
section
variable {P:Program}{w:World}{h h':Heap}{x e:Addr}
theorem HOk.write(ok:HOk P w H h)(mu:Mut (H x))(he:e=x\/H e=some (.own x))(k:∀b u,b≠e->h.get? b=some u->h'.get? b=some u)(My:∃u,h'.get? e=some u)
  (new:ObjOk P w (upd H x o') h' x o'):HOk P w (upd H x o') h':=λb u q=>by
 have NL:∀c y,H c=some (.own y)->c≠x:=λc y r z=>by subst z;rw[r]at mu;exact mu
 have xC:∀c xs,H c=some (.tup xs)->c≠x:=λc xs r z=>by subst z;rw[r]at mu;exact mu
 by_cases hb:b=x
 ·subst hb;rw[ah]at q;cases q;exact new
 ·rw[ae hb]at q;by_cases MS:b=e
  ·have q':H b=some (.own x):=by
    rcases he with z|z
    ·exact absurd (MS.trans z) hb
    ·rw[MS];exact z
   rw[q]at q';cases q';obtain⟨v,hv⟩:=My;exact⟨v,by rw[MS];exact hv⟩
  ·refine (ok b u q).stay (λc v hc r=>k c v ?_ r) (λc r=>by rw[ae (NL c b r)];exact r) λc xs r=>by rw[ae (xC c xs r)];exact r
   rcases hc with rfl|hc
   ·exact MS
   ·rintro rfl;rcases he with z|z
    ·exact NL c b hc z
    ·rw[hc]at z;cases z;exact hb rfl
end
structure Un (fs ex:List Addr)(H H':Hp)(h h':Heap):Prop where
 keep:∀b o,h.get? b=some o->H b=none->b∉fs->b∉ex->h'.get? b=some o
 slot:∀b o,h.get? b=some o->H b=none->b∈fs->b∉ex->∃sl,h'.get? b=some {o with slots:=sl}
 free:∀b o,h.get? b=some o->H b=none->b∉ex->H' b=none
 there:∀b o,h.get? b=some o->b∉ex->∃o',h'.get? b=some o'
 KD:∀b xs,H b=some (.tup xs)->H' b=some (.tup xs)
 Kz:∀b o u,H b=some (.t_ o u)->H' b=some (.t_ o u)
 KJ:∀b ps,H b=some (.Md ps)->∃Lj,H' b=some (.Md (ps++Lj))
section
variable {fs Tc ex Td:List Addr}{H H1 H2:Hp}{h h1 h2 h':Heap}{a x e:Addr}{o:HO}
theorem Un.any(u:Un fs ex H H1 h h1)(q:h.get? b=some ob)(n:H b=none)(hx:b∉ex):∃sl,h1.get? b=some {ob with slots:=sl}:=by
 by_cases hb:b∈fs
 ·exact u.slot b ob q n hb hx
 ·exact⟨ob.slots,u.keep b ob q n hb hx⟩
theorem Un.kept(k:∀b u,h.get? b=some u->h'.get? b=some u):Un fs ex H H h h':=
 ⟨λb ob q _ _ _=>k b ob q,λb ob q _ _ _=>⟨ob.slots,k b ob q⟩,λ_ _ _ n _=>n,λb ob q _=>⟨ob,k b ob q⟩,λ_ _ q=>q,λ_ _ _ q=>q,λ_ ps q=>⟨#[],by rw[q];simp⟩⟩
theorem Un.refl:Un fs ex H H h h:=Un.kept λ_ _ q=>q
theorem Un.laid(k:∀b u,h.get? b=some u->h'.get? b=some u)(hp:h.objs.size<=a)(hn:H a=none):Un fs ex H (upd H a o) h h' where
 keep:=λb u q _ _ _=>k b u q
 slot:=λb u q _ _ _=>⟨u.slots,k b u q⟩
 free:=λb u q n _=>by rw[ae (JI (Jw (Jt q) hp))];exact n
 there:=λb u q _=>⟨u,k b u q⟩
 KD:=λb xs q=>by rw[ae (aA q hn)];exact q
 Kz:=λb u xs q=>by rw[ae (aA q hn)];exact q
 KJ:=λb ps q=>⟨#[],by rw[ae (aA q hn),q];simp⟩
theorem Un.write(mu:Mut (H x))(he:e=x\/H e=some (.own x))(k:∀b u,b≠e->h.get? b=some u->h'.get? b=some u)(My:∃u,h'.get? e=some u):Un fs ex H (upd H x o) h h':=by
 have hx:∀b,H b=none->b≠x:=λb n z=>by subst z;rw[n]at mu;exact mu
 have hb:∀b,H b=none->b≠e:=λb n z=>by
  subst z;rcases he with r|r
  ·exact hx b n r
  ·rw[n]at r;cases r
 have hm:∀b u,H b=some u->¬ Mut (some u)->b≠x:=λb u q nm z=>by subst z;rw[q]at mu;exact nm mu
 refine⟨λb u q n _ _=>k b u (hb b n) q,λb u q n _ _=>⟨u.slots,k b u (hb b n) q⟩,λb u q n _=>by rw[ae (hx b n)];exact n,λb u q _=>?_,
  λb xs q=>by rw[ae (hm b _ q λz=>z)];exact q,λb u xs q=>by rw[ae (hm b _ q λz=>z)];exact q,λb ps q=>⟨#[],by rw[ae (hm b _ q λz=>z),q];simp⟩⟩
 by_cases MS:b=e
 ·subst MS;exact My
 ·exact⟨u,k b u MS q⟩
end
noncomputable def trk(h:Heap)(H:Hp):List Addr:=(List.range h.objs.size).filter λa=>(H a).isSome
noncomputable def m8(h:Heap)(H:Hp):Heap:=PySem.W.hideAll h (trk h H)
theorem ua(h:Heap)(H:Hp):(m8 h H).objs.size=h.objs.size:=PySem.W.hideAll_size _ _
theorem vO{h:Heap}(e:h.get? b=some o)(n:H b=none):(m8 h H).get? b=some o:=
 PySem.W.hideAll_get _ e λhm=>by
  have q:(H b).isSome=true:=(List.mem_filter.mp hm).2;rw[n]at q;simp at q
theorem xy{h:Heap}(e:(m8 h H).get? b=some o):h.get? b=some o/\H b=none:=by
 have e':h.get? b=some o:=PySem.W.of_hideAll (trk h H) e;refine⟨e',?_⟩;cases q:H b with
 |none=>rfl
 |some x=>
  have hm:b∈trk h H:=List.mem_filter.mpr ⟨List.mem_range.mpr (Jt e'),by simp[q]⟩
  have z:(m8 h H).get? b=none:=PySem.W.hideAll_none (trk h H) hm;rw[z]at e;cases e
noncomputable def xF(g h:Heap)(L:Addr):List (Addr×Obj):=(List.range h.objs.size).filterMap λa=>if a=L\/(g.get? a).isSome=true then none else (h.get? a).map λo=>(a,o)
noncomputable def aU(g h:Heap)(L d:Addr):List (Addr×Obj):=(xF g h L).filter λp=>decide (p.1≠d)
structure Mod (K:Ks)(mg:Str->Option Value)(base:Heap):Prop where
 kin:K.In base
 glob:base.Ns mainGlobals mg
 blt:∃mb,base.Ns builtinsNs mb/\∀x:Str,x≠"__name__"->mb x=bootBuiltins x
 nolimit:base.NoLimit
structure Cx where
 prog:Program
 w:World
 K:Ks
 mg:Str->Option Value
 base:Heap
 A:Around
 N:List Str
 s₀:Shared
 H₀:Hp
 env:Env
 outer:List Env
 stack:List Env
 ex:List Addr
 fn:Str->Bool
 calm:Bool
 pn:List (Addr×Obj)
 xe:Value->Shared->Prop
noncomputable def frs(l:List Env):List Addr:=l.filterMap (·.frame)
noncomputable abbrev Cx.fs(X:Cx):List Addr:=frs X.outer
def Vis(sc:Scope)(x:Str):Prop:=sc.names.lookup x=some .local\/sc.names.lookup x=some .cell\/sc.names.lookup x=some .free
def Loc(sc:Scope)(x:Str):Prop:=sc.names.lookup x=some .local\/sc.names.lookup x=some .cell
def Hn(env:Env)(h:Heap)(m:Str->Option Value)(x:Str)(u:Value):Prop:=
 (env.kindOf x=some .local/\m x=some u)\/((env.kindOf x=some .cell\/env.kindOf x=some .free)/\∃c,env.cells.lookup x=some c/\h.IsCell c (some u))
structure Cx.Ok (X:Cx):Prop where
 mod:Mod X.K X.mg X.base
 kind:X.env.scope.kind=.function
 glob:X.env.globals=mainGlobals
 blt:X.env.builtins=builtinsNs
 above:X.s₀.heap.objs.size<=X.env.locals
 inj:∀x y c,X.env.cells.lookup x=some c->X.env.cells.lookup y=some c->x=y
 has:∀x,(X.env.kindOf x=some .cell\/X.env.kindOf x=some .free)->∃c,X.env.cells.lookup x=some c
 cab:∀x c,X.fn x=true->X.env.cells.lookup x=some c->X.s₀.heap.objs.size<=c
 hd:X.calm=true->X.A.handled=none
 frames:X.A.frames=some X.stack
 stk:X.stack=X.outer\/(X.stack=X.env::X.outer/\X.env.frame=some X.env.locals)
 exf:∀b∈X.ex,b≠X.env.locals/\∀x c,X.env.cells.lookup x=some c->c≠b
 bs:∀b o,X.base.get? b=some o->X.s₀.heap.get? b=some o/\X.H₀ b=none
 bsz:X.base.objs.size<=X.s₀.heap.objs.size
 noex:∀b o,X.base.get? b=some o->b∉X.ex
 exfs:∀b∈X.ex,b∉X.fs
 funs:X.s₀.heap.FunFrames X.base X.outer
 frf:∀b∈X.fs,X.H₀ b=none
structure Inv (X:Cx) (a_:List (Addr×Obj)) (Z:List (Option V)) (H:Hp)(s:Shared):Prop where
 ok:X.Ok
 os:s.os=X.s₀.os
 bare:AllBare s.gens
 base:Un X.fs X.ex X.H₀ H X.s₀.heap s.heap
 loc:∃m,s.heap.Ns X.env.locals m/\∀(i:Nat)(x:Str)(v:V),X.N[i]?=some x->Z[i]?=some (some v)->Vis X.env.scope x->∃u,RelV v u/\Hn X.env s.heap m x u
 cell:∀x c,X.env.cells.lookup x=some c->∃v,s.heap.IsCell c v
 free:H X.env.locals=none
 freeC:∀x c,X.env.cells.lookup x=some c->H c=none
 pin:∀p∈X.pn++a_,s.heap.get? p.1=some p.2/\H p.1=none/\p.1≠X.env.locals/\p.1∉X.fs/\∀v,p.2.data≠.cell v
 j_:HOk X.prog X.w H s.heap
 len:Z.length=X.N.length
section
variable {X:Cx}{Z:List (Option V)}{s:Shared}{h':Heap}
theorem Cx.Ok.nofr(ok:X.Ok)(e:X.base.get? b=some o):b∉X.fs:=λhb=>by
 have:=(ok.funs.mem hb).1;rw[e]at this;cases this
theorem Inv.bs(I:Inv X a_ Z H s):∀b o,X.base.get? b=some o->s.heap.get? b=some o/\H b=none:=λb o e=>
 ⟨I.base.keep b o (I.ok.bs b o e).1 (I.ok.bs b o e).2 (I.ok.nofr e) (I.ok.noex b o e),I.base.free b o (I.ok.bs b o e).1 (I.ok.bs b o e).2 (I.ok.noex b o e)⟩
theorem Inv.bk(I:Inv X a_ Z H s):∀b o,X.base.get? b=some o->s.heap.get? b=some o:=λb o e=>(I.bs b o e).1
theorem Inv.mod(I:Inv X a_ Z H s):Mod X.K X.mg X.base:=I.ok.mod
theorem Inv.kIn(I:Inv X a_ Z H s):X.K.In s.heap:=I.ok.mod.kin.keeps I.bk
theorem Inv.lt(I:Inv X a_ Z H s):X.env.locals<s.heap.objs.size:=let ⟨_,hn,_⟩:=I.loc;hn.lt
theorem Inv.sz(I:Inv X a_ Z H s):X.s₀.heap.objs.size<=s.heap.objs.size:=JF I.ok.above (Nat.le_of_lt I.lt)
theorem Inv.nofs(I:Inv X a_ Z H s)(h:s.heap.objs.size<=a):a∉X.fs:=λhb=>by
 obtain⟨_,o,ho,_⟩:=I.ok.funs.mem hb;exact absurd (Jw (Jt ho) (JF I.sz h)) (Ke _)
theorem Inv.cne(I:Inv X a_ Z H s):∀x c,X.env.cells.lookup x=some c->c≠X.env.locals:=λx c e z=>by
 obtain⟨v,o,ho,hd⟩:=I.cell x c e;obtain⟨m,⟨o',es,ep,Lc,Pe,_⟩,_⟩:=I.loc;rw[z,Lc]at ho;cases ho;rw[Pe]at hd;cases hd
theorem Inv.funs(I:Inv X a_ Z H s):s.heap.FunFrames X.base X.outer:=by
 have all:∀(l:List Env),(∀b∈frs l,b∈X.fs)->X.s₀.heap.FunFrames X.base l->s.heap.FunFrames X.base l:=by
  intro l
  induction l with
  |nil=>intro _ _;trivial
  |cons env r ih=>
   intro hs hl;obtain⟨hk,⟨L,o,hf,hn,ho,hd⟩,hr⟩:=hl;have hL:L∈X.fs:=hs L (by unfold frs;rw[List.filterMap_cons,hf];exact Jo)
   obtain⟨sl,e⟩:=I.base.slot L o ho (I.ok.frf L hL) hL λz=>I.ok.exfs L z hL
   exact⟨hk,⟨L,_,hf,hn,e,hd⟩,ih (λb hb=>hs b (by unfold frs;rw[List.filterMap_cons,hf];exact Jk _ hb)) hr⟩
 exact all X.outer (λ_ hb=>hb) I.ok.funs
theorem Inv.stack(I:Inv X a_ Z H s):s.heap.FunFrames X.base X.stack:=by
 rcases I.ok.stk with e|⟨e,hf⟩
 ·rw[e];exact I.funs
 ·rw[e];obtain⟨m,hn,_⟩:=I.loc;refine .cons (by rw[I.ok.kind];decide) hf hn ?_ I.funs
  exact Heap.get?_none_of_le (JF I.ok.bsz I.ok.above)
theorem Inv.stkSub(I:Inv X a_ Z H s):∀b∈frs X.stack,b∈X.env.locals::X.fs:=λb hb=>by
 rcases I.ok.stk with e|⟨e,hf⟩
 ·rw[e]at hb;exact Jk _ hb
 ·rw[e]at hb;unfold frs at hb;rw[List.filterMap_cons,hf]at hb;exact hb
theorem Inv.stkFree(I:Inv X a_ Z H s):∀b∈frs X.stack,H b=none:=λb hb=>by
 rcases Jq.mp (I.stkSub b hb) with e|hb
 ·rw[e];exact I.free
 ·obtain⟨_,o,ho,_⟩:=I.ok.funs.mem hb;exact I.base.free b o ho (I.ok.frf b hb) λz=>I.ok.exfs b z hb
theorem Inv.step{g':Array GenState}{t':Nat}{d':Drawn}{ch:List Addr}(I:Inv X a_ Z H s)
  (Me:∀b∈ch,(b∈X.ex\/X.s₀.heap.objs.size<=b)/\b≠X.env.locals/\(∀x c,X.env.cells.lookup x=some c->c≠b)/\∀p∈X.pn++a_,p.1≠b)
  (keep:∀b o,b≠X.env.locals->b∉X.fs->b∉ch->s.heap.get? b=some o->H b=none->h'.get? b=some o)
  (slot:∀b o,b≠X.env.locals->b∈X.fs->b∉ch->s.heap.get? b=some o->H b=none->∃sl,h'.get? b=some {o with slots:=sl}) (free:∀b o,b∉ch->s.heap.get? b=some o->H b=none->H' b=none)
  (there:∀b o,b∉ch->s.heap.get? b=some o->∃o',h'.get? b=some o')
  (KD:∀b xs,H b=some (.tup xs)->H' b=some (.tup xs)) (Kz:∀b o u,H b=some (.t_ o u)->H' b=some (.t_ o u)) (KJ:∀b ps,H b=some (.Md ps)->∃Lj,H' b=some (.Md (ps++Lj)))
  (ns:∀m,s.heap.Ns X.env.locals m->h'.Ns X.env.locals m)(j_:HOk X.prog X.w H' h')(hg:AllBare g') :
  Inv X a_ Z H' {s with heap:=h',gens:=g',drawn:=d',toks:=t'}:=by
 have QQ:∀b o,X.s₀.heap.get? b=some o->b≠X.env.locals:=λb o e=>JI (Jw (Jt e) I.ok.above)
 have Mz:∀b o,X.s₀.heap.get? b=some o->b∉X.ex->b∉ch:=λb o e hx hb=>by
  rcases (Me b hb).1 with z|z
  ·exact hx z
  ·exact absurd (Jw (Jt e) z) (Ke _)
 have MQ:∀x c,X.env.cells.lookup x=some c->∀v,s.heap.IsCell c v->h'.IsCell c v:=λx c e v ⟨o,ho,hd⟩=>by
  have NN:c∉ch:=λz=>(Me c z).2.2.1 x c e rfl
  by_cases hc:c∈X.fs
  ·obtain⟨sl,q⟩:=slot c o (I.cne x c e) hc NN ho (I.freeC x c e);exact⟨_,q,hd⟩
  ·exact⟨o,keep c o (I.cne x c e) hc NN ho (I.freeC x c e),hd⟩
 refine⟨I.ok,I.os,hg,⟨λb o e n hb hx=>?_,λb o e n hb hx=>?_,λb o e n hx=>?_,λb o e hx=>?_,λb xs e=>KD b xs (I.base.KD b xs e),λb o xs e=>Kz b o xs (I.base.Kz b o xs e),λb ps e=>?_⟩,?_,λx c e=>?_,?_,λx c e=>?_,λp hp=>?_,j_,I.len⟩
 ·exact keep b o (QQ b o e) hb (Mz b o e hx) (I.base.keep b o e n hb hx) (I.base.free b o e n hx)
 ·obtain⟨sl,e1⟩:=I.base.slot b o e n hb hx;obtain⟨QR,e2⟩:=slot b _ (QQ b o e) hb (Mz b o e hx) e1 (I.base.free b o e n hx);exact⟨QR,e2⟩
 ·obtain⟨o',e1⟩:=I.base.there b o e hx;exact free b o' (Mz b o e hx) e1 (I.base.free b o e n hx)
 ·obtain⟨o',e1⟩:=I.base.there b o e hx;exact there b o' (Mz b o e hx) e1
 ·obtain⟨m1,e1⟩:=I.base.KJ b ps e;obtain⟨m2,e2⟩:=KJ b _ e1;exact⟨m1++m2,by rw[e2,Array.append_assoc]⟩
 ·obtain⟨m,hn,hl⟩:=I.loc;refine⟨m,ns m hn,λi x v e1 e2 e3=>?_⟩
  obtain⟨u,r,l⟩:=hl i x v e1 e2 e3;refine⟨u,r,?_⟩;rcases l with l|⟨k,c,e,z⟩
  ·exact .inl l
  ·exact .inr ⟨k,c,e,MQ x c e _ z⟩
 ·obtain⟨v,z⟩:=I.cell x c e;exact⟨v,MQ x c e v z⟩
 ·obtain⟨m,⟨o,_,_,ho,_⟩,_⟩:=I.loc;exact free _ o (λz=>(Me _ z).2.1 rfl) ho I.free
 ·obtain⟨v,o,ho,hd⟩:=I.cell x c e;exact free c o (λz=>(Me c z).2.2.1 x c e rfl) ho (I.freeC x c e)
 ·obtain⟨e,n,ne,nf,d⟩:=I.pin p hp;have NN:p.1∉ch:=λz=>(Me p.1 z).2.2.2 p hp rfl
  exact⟨keep p.1 p.2 ne nf NN e n,free p.1 p.2 NN e n,ne,nf,d⟩
theorem Inv.un{t':Nat}(I:Inv X a_ Z H s)(u:Un X.fs [] H H' s.heap h')(j_:HOk X.prog X.w H' h'):Inv X a_ Z H' {s with heap:=h',toks:=t'}:=by
 obtain⟨m,⟨o,es,ep,ho,r⟩,_⟩:=id I.loc;obtain⟨sl,hL⟩:=u.any ho I.free (by simp)
 exact I.step (g':=s.gens) (d':=s.drawn) (ch:=[]) (λ_ z=>nomatch z) (λb o _ hb _ e n=>u.keep b o e n hb (by simp)) (λb o _ hb _ e n=>u.slot b o e n hb (by simp)) (λb o _ e n=>u.free b o e n (by simp)) (λb o _ e=>u.there b o e (by simp)) u.KD u.Kz u.KJ (λm' hm=>by
  obtain⟨o',Mj,LX,Lc,r'⟩:=hm;rw[ho]at Lc;cases Lc;exact⟨_,Mj,LX,hL,r'⟩) j_ I.bare
theorem Inv.call{g':Array GenState}{t':Nat}{d':Drawn}{ch:List Addr}(I:Inv X a_ Z H s)(u:Un (frs X.stack) ch H H' s.heap h')(j_:HOk X.prog X.w H' h')(hg:AllBare g')
  (Me:∀b∈ch,(b∈X.ex\/X.s₀.heap.objs.size<=b)/\b≠X.env.locals/\(∀x c,X.env.cells.lookup x=some c->c≠b)/\∀p∈X.pn++a_,p.1≠b) :
  Inv X a_ Z H' {s with heap:=h',gens:=g',drawn:=d',toks:=t'}:=by
 obtain⟨m,⟨o,es,ep,ho,r⟩,_⟩:=id I.loc;obtain⟨sl,hL⟩:=u.any ho I.free λz=>(Me _ z).2.1 rfl
 exact I.step (ch:=ch) Me (λb o hL hb hc e n=>u.keep b o e n (λz=>(Jq.mp (I.stkSub b z)).elim hL hb) hc) (λb o _ _ hc e n=>u.any e n hc) (λb o hc e n=>u.free b o e n hc) (λb o hc e=>u.there b o e hc) u.KD u.Kz u.KJ (λm' hm=>by
  obtain⟨o',Mj,LX,Lc,r'⟩:=hm;rw[ho]at Lc;cases Lc;exact⟨_,Mj,LX,hL,r'⟩) j_ hg
theorem Inv.turned{t':Nat}{it:Addr}(I:Inv X a_ Z H s)(k:∀b o,b≠it->s.heap.get? b=some o->h'.get? b=some o)(hn:H it=none)(hL:it≠X.env.locals)
  (h1:it∈X.ex\/X.s₀.heap.objs.size<=it) (h2:∀x c,X.env.cells.lookup x=some c->c≠it) (h3:∀p∈X.pn++a_,p.1≠it):Inv X a_ Z H {s with heap:=h',toks:=t'}:=by
 have MA:∀b u,H b=some u->b≠it:=λb u e z=>by rw[z,hn]at e;cases e
 refine I.step (g':=s.gens) (d':=s.drawn) (ch:=[it]) (λb hb=>?_) (λb o _ _ hc e _=>k b o (λz=>hc (by simp[z])) e) (λb o _ _ hc e _=>⟨o.slots,k b o (λz=>hc (by simp[z])) e⟩) (λ_ _ _ _ n=>n)
  (λb o hc e=>⟨o,k b o (λz=>hc (by simp[z])) e⟩) (λ_ _ e=>e) (λ_ _ _ e=>e) (λb ps e=>⟨#[],by rw[e];simp⟩) (λm hm=>?_) (λb u e=>?_) I.bare
 ·have e:b=it:=by simpa using hb
  subst e;exact⟨h1,hL,h2,h3⟩
 ·obtain⟨o,es,ep,ho,r⟩:=hm;exact⟨o,es,ep,k _ o (JA hL) ho,r⟩
 ·refine (I.j_ b u e).stay (λc v hc q=>k c v ?_ q) (λ_ q=>q) λ_ _ q=>q
  rcases hc with z|z
  ·rw[z];exact MA b u e
  ·exact MA c _ z
theorem Inv.tok(I:Inv X a_ Z H s)(t:Nat):Inv X a_ Z H {s with toks:=t}:=I.un (h':=s.heap) (t':=t) Un.refl I.j_
theorem Inv.kept(I:Inv X a_ Z H s)(k:∀b u,s.heap.get? b=some u->h'.get? b=some u):Inv X a_ Z H {s with heap:=h',toks:=t'}:=I.un (Un.kept k) (I.j_.kept k)
theorem Inv.laid(I:Inv X a_ Z H s)(k:∀b u,s.heap.get? b=some u->h'.get? b=some u)(hp:s.heap.objs.size<=a)(new:ObjOk X.prog X.w (upd H a o) h' a o) :
  Inv X a_ Z (upd H a o) {s with heap:=h',toks:=t'}:=I.un (Un.laid k hp (I.j_.fresh hp)) (I.j_.laid k hp new)
theorem Inv.write(I:Inv X a_ Z H s)(mu:Mut (H x))(he:e=x\/H e=some (.own x))(k:∀b u,b≠e->s.heap.get? b=some u->h'.get? b=some u)(My:∃u,h'.get? e=some u)
  (new:ObjOk X.prog X.w (upd H x o) h' x o):Inv X a_ Z (upd H x o) {s with heap:=h',toks:=t'}:=I.un (Un.write mu he k My) (I.j_.write mu he k My new)
theorem Inv.pins_of(I:Inv X a_ Z H s)(h:∀p∈MB,s.heap.get? p.1=some p.2/\H p.1=none/\p.1≠X.env.locals/\p.1∉X.fs/\∀v,p.2.data≠.cell v):Inv X MB Z H s:=
 ⟨I.ok,I.os,I.bare,I.base,I.loc,I.cell,I.free,I.freeC,λp hp=>(JK.mp hp).elim (λz=>I.pin p (J8 _ z)) (h p),I.j_,I.len⟩
theorem o9{N:List Str}(hN:N.Nodup){i j:Nat}{x:Str}(a:N[i]?=some x)(b:N[j]?=some x):i=j:=by
 obtain⟨h1,e1⟩:=JQ.mp a;obtain⟨h2,e2⟩:=JQ.mp b;exact (List.getElem_inj hN).mp (e1.trans e2.symm)
theorem tZ{M:Model}{A:Around}{E:Value->Shared->Prop}{i:Nat}{x:Str}{v:V}{u:Value}{Q:Unit->Shared->Prop}(I:Inv X a_ Z H s)(hN:X.N.Nodup)(hi:X.N[i]?=some x)(hx:Loc X.env.scope x)(r:RelV v u)
  (h:∀s',Inv X a_ (Z.set i (some v)) H s'->(∃a,Heap.SameBut a s.heap s'.heap/\(a=X.env.locals\/X.env.cells.lookup x=some a))->Q () s') (hf:X.fn x=true\/X.env.scope.names.lookup x=some .local:=by first|exact .inl rfl|exact .inr rfl|assumption):wpAny M A (storeName X.env x u) Q E s:=by
 obtain⟨m,hn,hl⟩:=id I.loc;have Pf:(X.env.scope.kind == .class||(X.env.scope.kind == .module&&X.env.locals != X.env.globals))=false:=by rw[I.ok.kind];rfl
 have NP:i<Z.length:=by rw[I.len];exact (JQ.mp hi).1
 have cne:=I.cne;have tracked:∀{a:Addr}{h':Heap},(∃o,s.heap.get? a=some o/\H a=none)->Heap.SameBut a s.heap h'->HOk X.prog X.w H h':=λ{a h'} ha hs b ob e=>by
  obtain⟨_,_,MC⟩:=ha;refine (I.j_ b ob e).stay (λc w' hc q=>(hs.2 c ?_).trans q) (λ_ q=>q) λ_ _ q=>q
  rintro rfl;rcases hc with rfl|hc
  ·rw[MC]at e;cases e
  ·rw[MC]at hc;cases hc
 rcases hx with hk|hk
 ·refine wpAny_storeName_local hk hn (λh' Pg hs=>?_) Pf
  obtain⟨oL,_,_,RA,_⟩:=id hn;refine h _ ⟨I.ok,I.os,I.bare,⟨λb o e n hb hx=>?_,λb o e n hb hx=>?_,I.base.free,λb o e hx=>?_,I.base.KD,I.base.Kz,I.base.KJ⟩,⟨_,Pg,λj y v' e1 e2 e3=>?_⟩,λy c e=>?_,I.free,I.freeC,λp hp=>?_,tracked ⟨oL,RA,I.free⟩ hs,by simpa using I.len⟩ ⟨_,hs,.inl rfl⟩
  ·exact (hs.2 b (JI (Jw (Jt e) I.ok.above))).trans (I.base.keep b o e n hb hx)
  ·obtain⟨sl,e1⟩:=I.base.slot b o e n hb hx;exact⟨sl,(hs.2 b (JI (Jw (Jt e) I.ok.above))).trans e1⟩
  ·obtain⟨o',e1⟩:=I.base.there b o e hx;exact⟨o',(hs.2 b (JI (Jw (Jt e) I.ok.above))).trans e1⟩
  ·by_cases hj:j=i
   ·subst hj;rw[hi]at e1;cases e1;rw[List.getElem?_set_self NP]at e2;cases e2;exact⟨u,r,.inl ⟨hk,by simp⟩⟩
   ·rw[Kq (JA hj)]at e2;obtain⟨u',r',q⟩:=hl j y v' e1 e2 e3;refine⟨u',r',?_⟩;rcases q with ⟨k,e⟩|⟨k,c,e,z⟩
    ·refine .inl ⟨k,?_⟩;have:y≠x:=λe=>hj (o9 hN e1 (e▸hi))
     simp[this,e]
    ·exact .inr ⟨k,c,e,z.sameBut hs (cne y c e)⟩
  ·obtain⟨w',z⟩:=I.cell y c e;exact⟨w',z.sameBut hs (cne y c e)⟩
  ·obtain⟨e,n,ne,nf,d⟩:=I.pin p hp;exact⟨(hs.2 p.1 ne).trans e,n,ne,nf,d⟩
 ·have LK:X.fn x=true:=by
   rcases hf with z|z
   ·exact z
   ·rw[z]at hk;cases hk
  obtain⟨c,hc⟩:=I.ok.has x (.inl hk);obtain⟨w',z⟩:=I.cell x c hc;refine wpAny_storeName_cell I.ok.kind hk hc z (λh' OL hs=>?_)
  obtain⟨oc,QS,Ph⟩:=id z;refine h {s with heap:=h'} ⟨I.ok,I.os,I.bare,⟨λb o e n hb hx=>?_,λb o e n hb hx=>?_,I.base.free,λb o e hx=>?_,I.base.KD,I.base.Kz,I.base.KJ⟩,⟨m,hn.sameBut hs (JA (cne x c hc)),λj y v' e1 e2 e3=>?_⟩,λy c' e=>?_,I.free,I.freeC,λp hp=>?_,tracked ⟨oc,QS,I.freeC x c hc⟩ hs,by simpa using I.len⟩ ⟨c,hs,.inr hc⟩
  ·exact (hs.2 b (JI (Jw (Jt e) (I.ok.cab x c LK hc)))).trans (I.base.keep b o e n hb hx)
  ·obtain⟨sl,e1⟩:=I.base.slot b o e n hb hx;exact⟨sl,(hs.2 b (JI (Jw (Jt e) (I.ok.cab x c LK hc)))).trans e1⟩
  ·obtain⟨o',e1⟩:=I.base.there b o e hx;exact⟨o',(hs.2 b (JI (Jw (Jt e) (I.ok.cab x c LK hc)))).trans e1⟩
  ·by_cases hj:j=i
   ·subst hj;rw[hi]at e1;cases e1;rw[List.getElem?_set_self NP]at e2;cases e2;exact⟨u,r,.inr ⟨.inl hk,c,hc,OL⟩⟩
   ·rw[Kq (JA hj)]at e2;obtain⟨u',r',q⟩:=hl j y v' e1 e2 e3;refine⟨u',r',?_⟩;rcases q with q|⟨k,c',e,z'⟩
    ·exact .inl q
    ·refine .inr ⟨k,c',e,z'.sameBut hs ?_⟩;rintro rfl;exact hj (o9 hN e1 (I.ok.inj _ _ _ e hc▸hi))
  ·by_cases OM:c'=c
   ·subst OM;exact⟨_,OL⟩
   ·obtain⟨w2,z2⟩:=I.cell y c' e;exact⟨w2,z2.sameBut hs OM⟩
  ·obtain⟨e,n,ne,nf,d⟩:=I.pin p hp;refine⟨(hs.2 p.1 ?_).trans e,n,ne,nf,d⟩;intro q;rw[q,QS]at e;have q':oc=p.2:=JE e;exact d w' (by rw[<-q'];exact Ph)
theorem oq(I:Inv X a_ Z H s)(hN:X.N.Nodup)(hi:X.N[i]?=some x)(hx:Loc X.env.scope x)(r:RelV v u)
  (h:∀s',Inv X a_ (Z.set i (some v)) H s'->Q () s') (hf:X.fn x=true\/X.env.scope.names.lookup x=some .local:=by first|exact .inl rfl|exact .inr rfl|assumption):wpAny M A (storeName X.env x u) Q E s:=
 tZ I hN hi hx r (λs' I' _=>h s' I') hf
theorem Inv.call'{s':Shared}(I:Inv X a_ Z H s)(ho:s'.os=s.os)(u:Un (frs X.stack) ch H H' s.heap s'.heap)(j_:HOk X.prog X.w H' s'.heap)(hg:AllBare s'.gens)
  (Me:∀b∈ch,(b∈X.ex\/X.s₀.heap.objs.size<=b)/\b≠X.env.locals/\(∀x c,X.env.cells.lookup x=some c->c≠b)/\∀p∈X.pn++a_,p.1≠b):Inv X a_ Z H' s':=by
 obtain⟨h',g',d',t',o'⟩:=s';have e:o'=s.os:=ho;subst e;exact I.call (g':=g') (t':=t') (d':=d') u j_ hg Me
end
noncomputable abbrev XK:=Value->Option Addr->Hp->Prop
noncomputable abbrev St:=List (Option V)
noncomputable abbrev VK:=V->Hp->Prop
noncomputable abbrev TE:=St->Hp->VK->Prop
noncomputable abbrev TT:=St->Hp->(Bool->Hp->Prop)->Prop
noncomputable abbrev TA:=St->Hp->(List V->Hp->Prop)->Prop
structure j2 where
 nx:St->Hp->Prop
 rt:VK
 bk:St->Hp->Prop:=λ_ _=>False
 ct:St->Hp->Prop:=λ_ _=>False
noncomputable abbrev TS:=j2->St->Hp->Prop
def EP(X:Cx)(a_:List (Addr×Obj))(Z:St)(Q:VK)(u:Value)(s':Shared):Prop:=∃v H',Inv X a_ Z H' s'/\RelV v u/\Q v H'
def TP(X:Cx)(a_:List (Addr×Obj))(Z:St)(Q:Bool->Hp->Prop)(b:Bool)(s':Shared):Prop:=∃H',Inv X a_ Z H' s'/\Q b H'
def AP(X:Cx)(a_:List (Addr×Obj))(Z:St)(Q:List V->Hp->Prop)(us:List Value)(s':Shared):Prop:=∃vs H',Inv X a_ Z H' s'/\Vals vs us/\Q vs H'
def SP(X:Cx)(a_:List (Addr×Obj))(D:j2)(f:Flow)(s':Shared):Prop:=
 match f with
 |.next=>∃m_ H',Inv X a_ m_ H' s'/\D.nx m_ H'
 |.brk=>∃m_ H',Inv X a_ m_ H' s'/\D.bk m_ H'
 |.cont=>∃m_ H',Inv X a_ m_ H' s'/\D.ct m_ H'
 |.ret u=>∃v m_ H',Inv X a_ m_ H' s'/\RelV v u/\D.rt v H'
def PE(X:Cx)(e:Expr)(t:TE):Prop:=
 ∀(a_:List (Addr×Obj)) (s:Shared)(Z:St)(H:Hp)(Q:VK),Inv X a_ Z H s->t Z H Q->wpAny (model X.prog X.w) X.A (eval e X.env) (EP X a_ Z Q) X.xe s
def PT(X:Cx)(e:Expr)(t:TT):Prop:=
 ∀(a_:List (Addr×Obj)) (s:Shared)(Z:St)(H:Hp)(Q:Bool->Hp->Prop),Inv X a_ Z H s->t Z H Q->wpAny (model X.prog X.w) X.A (isTrue e X.env (eval e X.env)) (TP X a_ Z Q) X.xe s
def PW(X:Cx)(e:Expr)(t:TT):Prop:=
 ∀(whole:Sem Value) (a_:List (Addr×Obj)) (s:Shared)(Z:St)(H:Hp)(Q:Bool->Hp->Prop),Inv X a_ Z H s->t Z H Q->wpAny (model X.prog X.w) X.A (isTrue e X.env whole) (TP X a_ Z Q) X.xe s
theorem PW.pt(h:PW X e t):PT X e t:=h _
def PA(X:Cx)(es:List Expr)(t:TA):Prop:=
 ∀(pos:Pos) (a_:List (Addr×Obj)) (s:Shared)(Z:St)(H:Hp)(Q:List V->Hp->Prop),Inv X a_ Z H s->t Z H Q->wpAny (model X.prog X.w) X.A (spliced (backTo pos (starEach es X.env))) (AP X a_ Z Q) X.xe s
def PS(X:Cx)(st:Stmt)(t:TS):Prop:=
 ∀(a_:List (Addr×Obj)) (s:Shared)(Z:St)(H:Hp)(D:j2),Inv X a_ Z H s->t D Z H->wpAny (model X.prog X.w) X.A (exec st X.env) (SP X a_ D) X.xe s
def PSs(X:Cx)(st:List Stmt)(t:TS):Prop:=
 ∀(a_:List (Addr×Obj)) (s:Shared)(Z:St)(H:Hp)(D:j2),Inv X a_ Z H s->t D Z H->wpAny (model X.prog X.w) X.A (execs st X.env) (SP X a_ D) X.xe s
theorem thn{α:Type}{t:Sem α}{Q Q':α->Shared->Prop}{M:Model}{A:Around}{E:Value->Shared->Prop}{s:Shared}(h:wpAny M A t Q E s)(hQ:∀a s,Q a s->Q' a s):wpAny M A t Q' E s:=Km h hQ λ_ _ x=>x
section
variable {X:Cx}
theorem bin{a b:Expr}{ta tb:TE}(ha:PE X a ta)(hb:PE X b tb){a_:List (Addr×Obj)}{s:Shared}{Z:St}{H:Hp}{R:V->V->Hp->Prop}(I:Inv X a_ Z H s)(h:ta Z H λx H1=>tb Z H1 λy H2=>R x y H2)
  {α:Type}{Q:α->Shared->Prop}{f:Value->Value->Sem α}
  (hf:∀v u s2 x y H2,Inv X a_ Z H2 s2->RelV x v->RelV y u->R x y H2->wpAny (model X.prog X.w) X.A (f v u) Q X.xe s2) :
  wpAny (model X.prog X.w) X.A (eval a X.env) (λv q_=>wpAny (model X.prog X.w) X.A (eval b X.env) (λu MT=>wpAny (model X.prog X.w) X.A (f v u) Q X.xe MT) X.xe q_) X.xe s:=by
 refine thn (ha a_ s Z H _ I h) λv s1 ⟨x,H1,I1,r1,q1⟩=>?_
 refine thn (hb a_ s1 Z H1 _ I1 q1) λu s2 ⟨y,H2,I2,r2,q2⟩=>?_
 exact hf v u s2 x y H2 I2 r1 r2 q2
noncomputable def xJ(i:Nat):TE:=λZ H Q=>∃v,Z[i]?=some (some v)/\Q v H
noncomputable def tC(v:V):TE:=λ_ H Q=>Q v H
theorem mh(hN:X.N[i]?=some x)(hv:Vis X.env.scope x)(hd:(x == ("__debug__" : Str))=false:=by decide)(K9:(x == ("__classdict__" : Str))=false:=by decide):PE X (.Name x pos) (xJ i):=by
 intro a_ s Z H Q I h;obtain⟨v,e,h⟩:=h;obtain⟨m,hn,hl⟩:=I.loc;obtain⟨u,r,l⟩:=hl i x v hN e hv;have fin:EP X a_ Z Q u s:=⟨v,H,I,r,h⟩;rcases l with ⟨hk,hm⟩|⟨hk,c,hc,MD⟩
 ·exact wpAny_Name (wpAny_loadName_local I.ok.kind hk hn hm fin) hd
 ·rcases hk with hk|hk
  ·exact wpAny_Name (wpAny_loadName_cell I.ok.kind hk hc MD fin) hd
  ·exact wpAny_Name (wpAny_loadName_free I.ok.kind hk hc MD fin K9) hd
theorem By{i j pos}:PE X (.Constant (.int i) j pos) (tC (.int i)):=λ_ _ _ H _ I h=>wpAny_Constant_int ⟨.int i,H,I.tok _,⟨_,rfl⟩,h⟩
theorem Ey{b j pos}:PE X (.Constant (.bool b) j pos) (tC (.bl b)):=λ_ _ _ H _ I h=>Constant_bool ⟨.bl b,H,I,rfl,h⟩
theorem Cz{j pos}:PE X (.Constant .none j pos) (tC .i_):=λ_ _ _ H _ I h=>Constant_none ⟨.i_,H,I,rfl,h⟩
theorem vC{x j pos}:PE X (.Constant (.str x) j pos) (tC (.str x)):=λ_ _ _ H _ I h=>Calls.Constant_str ⟨.str x,H,I.tok _,⟨_,rfl⟩,h⟩
def Gl(X:Cx)(x:Str):Prop:=X.env.kindOf x=some .globalImplicit
theorem gO(I:Inv X a_ Z H s)(hg:Gl X x)(hm:X.mg x=some u)(h:Q u s)
  (hd:(x == ("__debug__" : Str))=false:=by decide):wpAny (model X.prog X.w) X.A (eval (.Name x pos) X.env) Q E s:=
 Calls.Name_function_global I.ok.kind hg (Calls.loadGlobal_global (by rw[I.ok.glob];exact I.mod.glob.keeps I.bk) hm h) hd
theorem iC(I:Inv X a_ Z H s)(hg:Gl X x)(hm:X.mg x=none)(hv:bootBuiltins x=some u)(h:Q u s)
  (hn:x≠"__name__":=by decide) (hd:(x == ("__debug__" : Str))=false:=by decide):wpAny (model X.prog X.w) X.A (eval (.Name x pos) X.env) Q E s:=by
 obtain⟨mb,h1,h2⟩:=I.mod.blt;exact Calls.Name_function_global I.ok.kind hg (Calls.loadGlobal_builtin (by rw[I.ok.glob];exact I.mod.glob.keeps I.bk) hm (by rw[I.ok.blt];exact h1.keeps I.bk) ((h2 x hn).trans hv) h) hd
theorem mz(hg:Gl X x)(hm:X.mg x=some u)(r:RelV v u)(hd:(x == ("__debug__" : Str))=false:=by decide):PE X (.Name x pos) (tC v):=
 λ_ _ _ H _ I h=>gO I hg hm ⟨v,H,I,r,h⟩ hd
theorem zf(hg:Gl X x)(hm:X.mg x=none)(hv:bootBuiltins x=some u)(r:RelV v u)(hn:x≠"__name__":=by decide)(hd:(x == ("__debug__" : Str))=false:=by decide):PE X (.Name x pos) (tC v):=
 λ_ _ _ H _ I h=>iC I hg hm hv ⟨v,H,I,r,h⟩ hn hd
variable {a b:Expr}{ta tb:TE}{pos:Pos}
noncomputable def tB(t:TE):TT:=λZ H Q=>t Z H λx H1=>∃c,x=.bl c/\Q c H1
theorem AL{e:Expr}(h:PE X e t)(he:∀whole,isTrue e X.env whole=(do let v<-whole;standAt e.pos;holding [v] (truthy v)):=by intro _;rfl):PT X e (tB t):=by
 intro a_ s Z H Q I hw;refine isTrue_plain (thn (h a_ s Z H _ I hw) λv s1 ⟨x,H1,I1,r1,q1⟩=>?_) (he _)
 obtain⟨d,rfl,q⟩:=q1;cases r1;exact JY ⟨H1,I1,q⟩
variable {tA NQ:TT}{aU:List Expr}
noncomputable def F5(t u:TT):TT:=λZ H Q=>t Z H λc H1=>if c=true then u Z H1 Q else Q false H1
noncomputable def tOr(t u:TT):TT:=λZ H Q=>t Z H λc H1=>if c=true then Q true H1 else u Z H1 Q
noncomputable def Hl(t:TT):TT:=λZ H Q=>t Z H λc H1=>Q (!c) H1
theorem yC(ha:PT X a tA):PW X (.BoolOp .And [a] pos) tA:=by
 intro wh a_ s Z H Q I h;refine isTrue_and (thn (ha a_ s Z H Q I h) λc s1 e=>?_)
 cases c with
 |true=>exact isTrue_and_nil e
 |false=>exact e
theorem Av(ha:PT X a tA):PW X (.BoolOp .Or [a] pos) tA:=by
 intro wh a_ s Z H Q I h;refine isTrue_or (thn (ha a_ s Z H Q I h) λc s1 e=>?_)
 cases c with
 |false=>exact isTrue_or_nil e
 |true=>exact e
theorem CU(ha:PT X a tA)(hb:PW X (.BoolOp .And (b::aU) pos) NQ):PW X (.BoolOp .And (a::b::aU) pos) (F5 tA NQ):=by
 intro wh a_ s Z H Q I h;refine isTrue_and (thn (ha a_ s Z H _ I h) λc s1 ⟨H1,I1,q1⟩=>?_)
 cases c with
 |true=>exact hb wh a_ s1 Z H1 Q I1 q1
 |false=>exact⟨H1,I1,q1⟩
theorem DT(ha:PT X a tA)(hb:PW X (.BoolOp .Or (b::aU) pos) NQ):PW X (.BoolOp .Or (a::b::aU) pos) (tOr tA NQ):=by
 intro wh a_ s Z H Q I h;refine isTrue_or (thn (ha a_ s Z H _ I h) λc s1 ⟨H1,I1,q1⟩=>?_)
 cases c with
 |true=>exact⟨H1,I1,q1⟩
 |false=>exact hb wh a_ s1 Z H1 Q I1 q1
theorem BR(ha:PT X a tA):PT X (.UnaryOp .Not a pos) (Hl tA):=by
 intro a_ s Z H Q I h;exact isTrue_not (ha a_ s Z H (λc H1=>Q (!c) H1) I h)
noncomputable def DI(ta tb:TE):TE:=λZ H Q=>ta Z H λx H1=>∃c,x=.bl c/\if c=true then tb Z H1 Q else Q (.bl false) H1
noncomputable def Gb(ta tb:TE):TE:=λZ H Q=>ta Z H λx H1=>∃c,x=.bl c/\if c=true then Q (.bl true) H1 else tb Z H1 Q
noncomputable def C8(ta:TE):TE:=λZ H Q=>ta Z H λx H1=>∃c,x=.bl c/\Q (.bl (!c)) H1
theorem AU{op}(h:PE X a t):PE X (.BoolOp op [a] pos) t:=λa_ s Z H Q I hw=>BoolOp_one (h a_ s Z H Q I hw)
theorem AD(ha:PE X a ta)(hb:PE X (.BoolOp .And (b::aU) pos) tb):PE X (.BoolOp .And (a::b::aU) pos) (DI ta tb):=by
 intro a_ s Z H Q I h;refine BoolOp_and (thn (ha a_ s Z H _ I h) λv s1 ⟨x,H1,I1,r1,q1⟩=>?_)
 obtain⟨c,rfl,q1⟩:=q1;cases r1;refine JY ?_;cases c with
 |true=>exact hb a_ s1 Z H1 Q I1 q1
 |false=>exact⟨.bl false,H1,I1,rfl,q1⟩
theorem EB(ha:PE X a ta)(hb:PE X (.BoolOp .Or (b::aU) pos) tb):PE X (.BoolOp .Or (a::b::aU) pos) (Gb ta tb):=by
 intro a_ s Z H Q I h;refine BoolOp_or (thn (ha a_ s Z H _ I h) λv s1 ⟨x,H1,I1,r1,q1⟩=>?_)
 obtain⟨c,rfl,q1⟩:=q1;cases r1;refine JY ?_;cases c with
 |false=>exact hb a_ s1 Z H1 Q I1 q1
 |true=>exact⟨.bl true,H1,I1,rfl,q1⟩
theorem Cj(ha:PE X a ta):PE X (.UnaryOp .Not a pos) (C8 ta):=by
 intro a_ s Z H Q I h;refine UnaryOp_ (thn (ha a_ s Z H _ I h) λv s1 ⟨x,H1,I1,r1,q1⟩=>?_)
 obtain⟨c,rfl,q1⟩:=q1;cases r1;exact not_of (JY ⟨.bl (!c),H1,I1,rfl,q1⟩)
noncomputable def tIf(t:TT)(ta tb:TE):TE:=λZ H Q=>t Z H λc H1=>if c=true then ta Z H1 Q else tb Z H1 Q
theorem wX(hc:PT X c tA)(ha:PE X a ta)(hb:PE X b tb):PE X (.IfExp c a b pos) (tIf tA ta tb):=by
 intro a_ s Z H Q I h;refine wpAny_IfExp (thn (hc a_ s Z H _ I h) λd s1 ⟨H1,I1,q1⟩=>?_)
 cases d with
 |true=>exact ha a_ s1 Z H1 Q I1 q1
 |false=>exact hb a_ s1 Z H1 Q I1 q1
end
def SqL(K:Ks)(H:Hp)(a:Addr)(xs:List V):Prop:=
 Rd H a (.lst xs)\/
  ∃(o:Obj) (its:Array Value) (n:Nat),K.lookup a=some o/\o.cls=.type "list"/\o.dict=none/\o.data=.seq its n/\its.size<=sizeLine/\Vals xs its.toList
def SqT(K:Ks)(H:Hp)(a:Addr)(xs:List V):Prop:=
 Rd H a (.tup xs)\/
  ∃(o:Obj) (its:Array Value) (n:Nat),K.lookup a=some o/\o.cls=.type "tuple"/\o.data=.seq its n/\its.size<=sizeLine/\Vals xs its.toList
noncomputable def G0:Value->Option V
 |.none=>some .i_
 |.bool b=>some (.bl b)
 |.int i _=>some (.int i)
 |.str x _=>some (.str x)
 |.bytes b _=>some (.OJ b)
 |.float b _=>some (.OK b)
 |.ref a=>some (.ref a)
 |.type n=>some (.ty n)
 |_=>none
theorem RelV.abs(r:RelV x u):G0 u=some x:=by
 cases x with
 |i_=>cases r;rfl
 |bl _=>cases r;rfl
 |int _=>obtain⟨t,rfl⟩:=r;rfl
 |str _=>obtain⟨t,rfl⟩:=r;rfl
 |OJ _=>obtain⟨t,rfl⟩:=r;rfl
 |OK _=>obtain⟨t,rfl⟩:=r;rfl
 |ref _=>cases r;rfl
 |ty _=>cases r;rfl
theorem RelV.inj(r:RelV x u)(q:RelV y u):x=y:=JE (r.abs.symm.trans q.abs)
theorem Vals.inj:∀{xs ys:List V}{us:List Value},Vals xs us->Vals ys us->xs=ys
 |_,_,_,.nil,.nil=>rfl
 |_,_,_,.cons r t,.cons r' t'=>by rw[r.inj r',Vals.inj t t']
section
variable {X:Cx}{s:Shared}{a:Addr}{xs ys:List V}
theorem SqL.of{K:Ks}(h:H a=some (.lst xs)):SqL K H a xs:=.inl (.inl h)
theorem SqT.of{K:Ks}(h:H a=some (.tup xs)):SqT K H a xs:=.inl (.inl h)
theorem Inv.list(I:Inv X a_ Z H s)(h:SqL X.K H a xs):∃its:List Value,Vals xs its/\PlainL s.heap a its.toArray/\xs.length<=sizeLine:=by
 rcases h with h|⟨o,its,n,hk,hc,hd,hs,hz,r⟩
 ·obtain⟨z,its,n,r,e⟩:=h.ok I.j_;exact⟨its,r,⟨_,n,e,rfl,rfl,rfl⟩,z⟩
 ·refine⟨its.toList,r,⟨o,n,I.kIn a o hk,hc,hd,by simpa using hs⟩,?_⟩
  have e:=r.length;simp only[Array.length_toList]at e;omega
theorem Inv.tuple(I:Inv X a_ Z H s)(h:SqT X.K H a xs):∃its:List Value,Vals xs its/\IsTup s.heap a its.toArray/\xs.length<=sizeLine:=by
 rcases h with h|⟨o,its,n,hk,hc,hs,hz,r⟩
 ·obtain⟨z,its,r,p⟩:=h.ok I.j_;exact⟨its,r,p,z⟩
 ·refine⟨its.toList,r,⟨o,I.kIn a o hk,hc,n,by simpa using hs⟩,?_⟩
  have e:=r.length;simp only[Array.length_toList]at e;omega
theorem Inv.list_inj(I:Inv X a_ Z H s)(h:SqL X.K H a xs)(h':SqL X.K H a ys):xs=ys:=by
 obtain⟨its,r,⟨o,n,e,_,_,d⟩,_⟩:=I.list h;obtain⟨its',r',⟨o',n',e',_,_,d'⟩,_⟩:=I.list h';rw[e]at e';cases e';rw[d]at d';injection d' with d1 _
 have:its=its':=by simpa using congrArg Array.toList d1
 subst this;exact r.inj r'
theorem Inv.tuple_inj(I:Inv X a_ Z H s)(h:SqT X.K H a xs)(h':SqT X.K H a ys):xs=ys:=by
 obtain⟨its,r,⟨o,e,_,n,d⟩,_⟩:=I.tuple h;obtain⟨its',r',⟨o',e',_,n',d'⟩,_⟩:=I.tuple h';rw[e]at e';cases e';rw[d]at d';injection d' with d1 _
 have:its=its':=by simpa using congrArg Array.toList d1
 subst this;exact r.inj r'
end
section
variable {X:Cx}{s:Shared}
end
section
variable {X:Cx}{st:Stmt}{aU:List Stmt}{t u:TS}{e:Expr}{te:TE}{pos:Pos}
noncomputable def tNext:TS:=λD Z H=>D.nx Z H
noncomputable def Gw(t u:TS):TS:=λD Z H=>t {D with nx:=u D} Z H
theorem pss_nil:PSs X [] tNext:=λ_ _ Z H _ I h=>wpAny_execs_nil ⟨Z,H,I,h⟩
theorem nZ(h1:PS X st t)(h2:PSs X aU u):PSs X (st::aU) (Gw t u):=by
 intro a_ s Z H D I h;refine wpAny_execs_cons (thn (h1 a_ s Z H {D with nx:=u D} I h) λf s1 q=>?_)
 cases f with
 |next=>
  obtain⟨m_,H',I',q⟩:=q;exact h2 a_ s1 m_ H' D I' q
 |ret v=>exact q
 |brk=>exact q
 |cont=>exact q
theorem yl(h1:PS X st t):PSs X [st] t:=by
 intro a_ s Z H D I h;refine wpAny_execs_cons (thn (h1 a_ s Z H D I h) λf s1 q=>?_)
 cases f with
 |next=>exact wpAny_execs_nil q
 |ret v=>exact q
 |brk=>exact q
 |cont=>exact q
theorem Inv.quiet(I:Inv X a_ Z H s):interactive X.env=false:=by simp[interactive,I.ok.kind]
noncomputable def Dc(te:TE):TS:=λD Z H=>te Z H λ_ H1=>D.nx Z H1
theorem mF(he:PE X e te)(hs:swapsWith e none pos.line X.env=pure false:=by rfl):PS X (.Expr e pos) (Dc te):=by
 intro a_ s Z H D I h;exact wpAny_Expr_any (thn (he a_ s Z H _ I h) λv s1 ⟨x,H1,I1,r1,q1⟩=>⟨Z,H1,I1,q1⟩) I.quiet hs
noncomputable def Gm(te:TE):TS:=λD Z H=>te Z H D.rt
theorem Br(he:PE X e te):PS X (.Return (some e) pos) (Gm te):=by
 intro a_ s Z H D I h;exact wpAny_Return_some (thn (he a_ s Z H _ I h) λv s1 ⟨x,H1,I1,r1,q1⟩=>⟨x,Z,H1,I1,r1,q1⟩)
noncomputable def tRetN:TS:=λD _ H=>D.rt .i_ H
theorem ps_retN:PS X (.Return none pos) tRetN:=λ_ _ Z H _ I h=>wpAny_Return_none ⟨.i_,Z,H,I,rfl,h⟩
noncomputable def GV(c:TT)(t u:TS):TS:=λD Z H=>c Z H λb H1=>if b=true then t D Z H1 else u D Z H1
theorem EQ(hc:PT X c tc)(ha:PSs X a t)(hb:PSs X b u):PS X (.If c a b pos) (GV tc t u):=by
 intro a_ s Z H D I h;refine wpAny_If (thn (hc a_ s Z H _ I h) λd s1 ⟨H1,I1,q1⟩=>?_)
 cases d with
 |true=>exact ha a_ s1 Z H1 D I1 q1
 |false=>exact hb a_ s1 Z H1 D I1 q1
end
noncomputable abbrev TG:=V->St->Hp->(St->Hp->Prop)->Prop
noncomputable abbrev TGs:=List V->St->Hp->(St->Hp->Prop)->Prop
def PG(X:Cx)(K8:Expr)(t:TG):Prop:=
 ∀(a_:List (Addr×Obj)) (s:Shared)(Z:St)(H:Hp)(v:V)(u:Value)(Q:St->Hp->Prop),Inv X a_ Z H s->RelV v u->t v Z H Q->
  wpAny (model X.prog X.w) X.A (assign K8 X.env u) (λ_ s'=>∃m_ H',Inv X a_ m_ H' s'/\Q m_ H') X.xe s
def PGs(X:Cx)(ts:List Expr)(t:TGs):Prop:=
 ∀(a_:List (Addr×Obj)) (s:Shared)(Z:St)(H:Hp)(vs:List V)(us:List Value)(Q:St->Hp->Prop),Inv X a_ Z H s->Vals vs us->t vs Z H Q->
  wpAny (model X.prog X.w) X.A (assignInOrder ((assignEach ts X.env).map (·.2)) us) (λ_ s'=>∃m_ H',Inv X a_ m_ H' s'/\Q m_ H') X.xe s
noncomputable abbrev TSet:=V->V->V->Hp->(Hp->Prop)->Prop
def AY(X:Cx)(t:TSet):Prop:=
 ∀(a_:List (Addr×Obj)) (s:Shared)(Z:St)(H:Hp)(o i v:V)(ov iv u:Value)(Q:Hp->Prop),Inv X a_ Z H s->RelV o ov->RelV i iv->RelV v u->t o i v H Q->
  wpAny (model X.prog X.w) X.A (setItem ov iv u) (λ_ s'=>∃H',Inv X a_ Z H' s'/\Q H') X.xe s
section
variable {X:Cx}{pos:Pos}
noncomputable def rS(i:Nat):TG:=λv Z H Q=>Q (Z.set i (some v)) H
theorem jj(hN:X.N.Nodup)(hi:X.N[i]?=some x)(hx:Loc X.env.scope x)(hf:X.fn x=true\/X.env.scope.names.lookup x=some .local:=by first|exact .inl rfl|exact .inr rfl|assumption):PG X (.Name x pos) (rS i):=by
 intro a_ s Z H v u Q I r h;exact wpAny_assign_Name (oq I hN hi hx r (λs' I'=>⟨_,H,I',h⟩) hf)
noncomputable def gNil:TGs:=λvs Z H Q=>vs=[]/\Q Z H
noncomputable def DU(t:TG)(u:TGs):TGs:=λvs Z H Q=>∃v r,vs=v::r/\t v Z H λm_ H'=>u r m_ H' Q
theorem xY:PGs X [] gNil:=by
 intro a_ s Z H vs us Q I r h;obtain⟨e,h⟩:=h;subst e;cases r;exact assignInOrder_nil ⟨Z,H,I,h⟩
theorem vT(h1:PG X e t)(h2:PGs X es u)
  (hs:(assignEach (e::es) X.env).map (·.2)=assign e X.env::(assignEach es X.env).map (·.2):=by rfl):PGs X (e::es) (DU t u):=by
 intro a_ s Z H vs us Q I r h;obtain⟨v,vr,e1,h⟩:=h;subst e1;cases r with
 |cons r rr=>
  rw[hs];refine assignInOrder_cons (thn (h1 a_ s Z H _ _ _ I r h) λ_ s1 ⟨Nq,H1,I1,q1⟩=>?_)
  exact h2 a_ s1 Nq H1 _ _ Q I1 rr q1
noncomputable def Gr(K:Ks)(n:Nat)(t:TGs):TG:=λv Z H Q=>∃a xs,v=.ref a/\SqT K H a xs/\xs.length=n/\t xs Z H Q
theorem Az(hc:X.calm=true)(h:PGs X es t)
  (hn:(assignEach es X.env).length=n:=by rfl) (LH:(assignEach es X.env).findIdx? (·.1)=none:=by rfl):PG X (.Tuple es k pos) (Gr X.K n t):=by
 intro a_ s Z H v u Q I r hw;obtain⟨a,xs,e1,hq,hl,hw⟩:=hw;subst e1;cases r;obtain⟨its,rv,ht,hz⟩:=I.tuple hq;refine assign_Tuple_tuple (I.ok.hd hc) ht (by simp[hn,<-hl,rv.length]) LH λh' hx=>?_
 have I1:Inv X a_ Z H {s with heap:=h'}:=I.kept (t':=s.toks) λb o e=>hx b o (JI (Jt e)) e
 exact h a_ _ Z H xs _ Q I1 (by simpa using rv) hw
noncomputable def Gd(to ti:TE)(t:TSet):TG:=λv Z H Q=>to Z H λo H1=>ti Z H1 λi H2=>t o i v H2 λH3=>Q Z H3
theorem CV(ho:PE X o to)(hi:PE X i ti)(hs:AY X t)
  (ha:∀v,assign (.Subscript o i pos) X.env v=(do
   let ov<-holding [v] (eval o X.env)
   let iv<-holding [v,ov] (eval i X.env)
   standAt pos
   holding [v,ov,iv] (setItem ov iv v)
   release [v,ov,iv] []):=by intro _;rfl):PG X (.Subscript o i pos) (Gd to ti t):=by
 intro a_ s Z H v u Q I r h;rw[ha];refine AV (Kc (thn (ho a_ s Z H _ I h) λov s1 ⟨x,H1,I1,r1,q1⟩=>?_))
 refine AV (Kc (thn (hi a_ s1 Z H1 _ I1 q1) λiv s2 ⟨y,H2,I2,r2,q2⟩=>?_))
 refine AV (wpAny_standAt (AV (Kc (thn (hs a_ s2 Z H2 x y v ov iv u _ I2 r1 r2 r q2) λ_ s3 ⟨H3,I3,q3⟩=>?_))))
 exact wpAny_release ⟨Z,H3,I3,q3⟩
noncomputable def Cu(te:TE)(g:TG):TS:=λD Z H=>te Z H λx H1=>g x Z H1 D.nx
theorem wC(he:PE X e te)(hg:PG X tg g)(hs:swapsWithSole [tg] e pos.line X.env=pure false:=by rfl)(hw:swappedStores [tg] e X.env=pure none:=by rfl)
  (h1:(assignEach [tg] X.env).map (·.2)=[assign tg X.env]:=by rfl):PS X (.Assign [tg] e pos) (Cu te g):=by
 intro a_ s Z H D I h;refine wpAny_Assign_stores (thn (he a_ s Z H _ I h) λv s1 ⟨x,H1,I1,r1,q1⟩=>?_) hs hw
 rw[h1];exact thn (hg a_ s1 Z H1 x v _ I1 r1 q1) λ_ s2 q=>q
theorem BL(hN:X.N.Nodup)(hi:X.N[i]?=some x)(hx:Loc X.env.scope x)(he:PE X e te)(hs:swapsWith e (some (.Name x Kx)) pos.line X.env=pure false:=by rfl)(hf:X.fn x=true\/X.env.scope.names.lookup x=some .local:=by first|exact .inl rfl|exact .inr rfl|assumption) :
  PS X (.Assign [.Name x Kx] e pos) (Cu te (rS i)):=by
 intro a_ s Z H D I h;refine wpAny_Assign_Name (thn (he a_ s Z H _ I h) λv s1 ⟨y,H1,I1,r1,q1⟩=>?_) hs
 exact oq I1 hN hi hx r1 (λs2 I2=>⟨_,H1,I2,q1⟩) hf
end
section
variable {X:Cx}{pos:Pos}
noncomputable def Ci(c:TT)(tb:TS):TS:=λD Z H=>∃W:Nat->St->Hp->Prop,(∃m,W m Z H)/\∀m Z H,W m Z H->
 c Z H λb H1=>if b=true then ∃N:St->Hp->Prop,(∀m_ H',N m_ H'->∃m',m' < m/\W m' m_ H')/\tb {D with nx:=N,ct:=N,bk:=D.nx} Z H1 else D.nx Z H1
theorem wZ(hp:PassesOwn (model X.prog X.w) X.A X.env X.xe)(hc:PT X c tc)(hb:PSs X body tb):PS X (.While c body [] pos) (Ci tc tb):=by
 intro a_ s Z H D I h;obtain⟨W,⟨m0,w0⟩,mj⟩:=h;refine wpAny_While (codeAny_whileLoop (λn s'=>∃m_ H',Inv X a_ m_ H' s'/\W n m_ H') ?_ m0 ⟨Z,H,I,w0⟩)
 rintro n s1 ⟨Nq,H1,I1,w1⟩;refine wpAny_passesOwn hp (thn (hc a_ s1 Nq H1 _ I1 (mj n Nq H1 w1)) λb s2 ⟨H2,I2,q2⟩=>?_)
 cases b with
 |true=>
  obtain⟨N,hN,q2⟩:=q2;rw[Js rfl];refine wpAny_passesOwn hp (thn (hb a_ s2 Nq H2 _ I2 q2) λf s3 q3=>?_)
  cases f with
  |next=>
   obtain⟨h_,H3,I3,n3⟩:=q3;obtain⟨m',hm,w3⟩:=hN h_ H3 n3;exact⟨m',hm,h_,H3,I3,w3⟩
  |cont=>
   obtain⟨h_,H3,I3,n3⟩:=q3;obtain⟨m',hm,w3⟩:=hN h_ H3 n3;exact⟨m',hm,h_,H3,I3,w3⟩
  |brk=>exact q3
  |ret v=>exact q3
 |false=>
  rw[Jm JH];exact wpAny_execs_nil ⟨Nq,H2,I2,q2⟩
end
structure It where
 go:Nat->Hp->Prop
 yld:Nat->Hp->V->Hp->Prop
 stop:Nat->Hp->Prop
def fj(X:Cx)(a_:List (Addr×Obj))(H:Hp)(b:Addr):Prop:=
 H b=none/\b≠X.env.locals/\b∉X.fs/\(b∈X.ex\/X.s₀.heap.objs.size<=b)/\(∀x c,X.env.cells.lookup x=some c->c≠b)/\∀p∈X.pn++a_,p.1≠b
theorem Inv.fpOk{s:Shared}(I:Inv X a_ Z H s)(hb:s.heap.objs.size<=b)(hn:H' b=none):fj X a_ H' b:=by
 refine⟨hn,Nat.ne_of_gt (Jw I.lt hb),I.nofs hb,.inr (JF I.sz hb),λx c e z=>?_,λp hp z=>?_⟩
 ·obtain⟨v,q⟩:=I.cell x c e;exact absurd (Jw q.lt (by rw[z];exact hb)) (Ke _)
 ·exact absurd (Jw (Jt (I.pin p hp).1) (by rw[z];exact hb)) (Ke _)
structure Turn (P:Program)(w:World)(K:Ks)(tg:Expr)(J:It)(fp:List Addr)(it:Addr)(tn:Nat->Heap->Prop):Prop where
 mem:it∈fp
 obj:∀i h,tn i h->∀b∈fp,∃o,h.get? b=some o/\∀v,o.data≠.cell v
 keep:∀i h h',tn i h->(∀b∈fp,∀o,h.get? b=some o->h'.get? b=some o)->tn i h'
 item:∀(X:Cx),X.prog=P->X.w=w->X.K=K->X.calm=true->∀(i:Nat) (a_:List (Addr×Obj)) (s:Shared)(Z:St)(H:Hp)(E:Value->Shared->Prop),Inv X a_ Z H s->(∀b∈fp,fj X a_ H b)->tn i s.heap->J.go i H->
  wpAny (model P w) X.A (pyNext (.ref it)) (λr s1=>∃u,r=some u/\
   wpAny (model P w) X.A (letOwnedTupleGo tg (.ref it) u) (λ_ s2=>∃x H',Inv X a_ Z H' s2/\RelV x u/\J.yld i H x H'/\tn (i+1) s2.heap/\∀b∈fp,H' b=none) E s1) E s
 done:∀(X:Cx),X.prog=P->X.w=w->X.K=K->X.calm=true->∀(i:Nat) (a_:List (Addr×Obj)) (s:Shared)(Z:St)(H:Hp)(E:Value->Shared->Prop),Inv X a_ Z H s->(∀b∈fp,fj X a_ H b)->tn i s.heap->J.stop i H->
  wpAny (model P w) X.A (pyNext (.ref it)) (λr s1=>r=none/\Inv X a_ Z H s1) E s
 self:∀(A:Around)(i:Nat)(s:Shared)(Q:Value->Shared->Prop)(E:Value->Shared->Prop),tn i s.heap->Q (.ref it) s->wpAny (model P w) A (pyIter (.ref it)) Q E s
noncomputable abbrev TI:=St->Hp->(It->Hp->Prop)->Prop
def PIE(X:Cx)(a_:List (Addr×Obj))(Z:St)(tg:Expr)(R:It->Hp->Prop)(Pj:Value)(s2:Shared):Prop:=
 ∃(it:Addr)(fp:List Addr)(tn:Nat->Heap->Prop)(J:It)(H':Hp),Pj=.ref it/\Inv X a_ Z H' s2/\Turn X.prog X.w X.K tg J fp it tn/\tn 0 s2.heap/\(∀b∈fp,fj X a_ H' b)/\R J H'
def PI(X:Cx)(tg iter:Expr)(wi:TI):Prop:=
 ∀(a_:List (Addr×Obj)) (s:Shared)(Z:St)(H:Hp)(R:It->Hp->Prop),Inv X a_ Z H s->wi Z H R->
  wpAny (model X.prog X.w) X.A (eval iter X.env) (λv s1=>wpAny (model X.prog X.w) X.A (pyIter v) (PIE X a_ Z tg R) X.xe s1) X.xe s
theorem wL {s : Shared} {o : Obj} (ho : s.heap.get? it = some o) (hc : o.cls = .type n) (hd : o.data = .fields vs)
    (hn : ["enumerate", "zip", "dict_itemiterator", "dict_reverseitemiterator", "odict_iterator", "itertools.zip_longest", "itertools.pairwise"].contains n = false) (hQ : Q () s) : wpAny M A (letOwnedTupleGo tg (.ref it) u) Q E s := by
  unfold letOwnedTupleGo;cases tg <;> first
    | exact Jl hQ
    | (cases u <;> first
        | exact Jl hQ
        | (refine AV (wpAny_load ho ?_)
           rw [hc, hd];show wpAny M A (if (["enumerate", "zip", "dict_itemiterator", "dict_reverseitemiterator", "odict_iterator", "itertools.zip_longest", "itertools.pairwise"].contains n && vs[0]? == some (rawInt _)) = true then _ else _) Q E s
           rw [Jm (by intro h; rw [hn, Bool.false_and] at h; cases h)]
           exact Jl hQ))
noncomputable def Itl(K:Ks)(a:Addr):It:=
 ⟨λi H=>∃xs x,SqL K H a xs/\xs[i]?=some x,λi H x H'=>H'=H/\∀xs,SqL K H a xs->xs[i]?=some x,λi H=>∃xs,SqL K H a xs/\xs.length<=i⟩
noncomputable def Itt(K:Ks)(a:Addr):It:=
 ⟨λi H=>∃xs x,SqT K H a xs/\xs[i]?=some x,λi H x H'=>H'=H/\∀xs,SqT K H a xs->xs[i]?=some x,λi H=>∃xs,SqT K H a xs/\xs.length<=i⟩
noncomputable def Itr(lo:Int)(n:Nat):It:=⟨λi _=>i<n,λi H x H'=>H'=H/\x=.int (lo+i),λi _=>n<=i⟩
theorem tz{K:Ks}(a it:Addr):Turn P w K tg (Itl K a) [it] it (λi h=>h.IsListIter it a i) where
 mem:=by simp
 obj:=λi h st b hb=>by
  have e:b=it:=by simpa using hb
  subst e;obtain⟨o,e,c,d⟩:=st;exact⟨o,e,λv z=>by rw[d]at z;cases z⟩
 keep:=λi h h' st k=>st.at λo e=>k it (by simp) o e
 item:=by
  intro X hP hw hK hc i a_ s Z H E I hf st hg;subst hP hw hK;obtain⟨xs,x,hq,hx⟩:=hg;obtain⟨its,rv,p,hz⟩:=I.list hq;obtain⟨u,hu,ru⟩:=rv.get hx;obtain⟨f0,f1,f2,f3,f4,f5⟩:=hf it (by simp)
  refine wpAny_pyNext_list_item st p.isList (x:=u) (by simpa using hu) λh' ME sb=>?_
  have I1:Inv X a_ Z H {s with heap:=h'}:=I.turned (t':=s.toks) (λb o hb e=>(sb.2 b hb).trans e) f0 f1 f3 f4 f5
  obtain⟨o,e,c,d⟩:=id ME;exact⟨u,rfl,wL (s:={s with heap:=h'}) e c d (by decide) ⟨x,H,I1,ru,⟨rfl,λys hy=>by rw[I.list_inj hy hq];exact hx⟩,ME,λb hb=>(hf b hb).1⟩⟩
 done:=by
  intro X hP hw hK hc i a_ s Z H E I hf st hg;subst hP hw hK;obtain⟨xs,hq,hx⟩:=hg;obtain⟨its,rv,p,hz⟩:=I.list hq;obtain⟨f0,f1,f2,f3,f4,f5⟩:=hf it (by simp)
  have hl:=rv.length;exact wpAny_pyNext_list_end (I.ok.hd hc) st p.isList (by simp;omega) λh' eb=>⟨rfl,I.turned (t':=s.toks) (λb o hb e=>eb b o hb e) f0 f1 f3 f4 f5⟩
 self:=λ_ _ _ _ _ st h=>wpAny_pyIter_listiter st h
theorem qg{K:Ks}(a it:Addr):Turn P w K tg (Itt K a) [it] it (λi h=>h.IsTupleIter it a i) where
 mem:=by simp
 obj:=λi h st b hb=>by
  have e:b=it:=by simpa using hb
  subst e;obtain⟨o,e,c,d⟩:=st;exact⟨o,e,λv z=>by rw[d]at z;cases z⟩
 keep:=λi h h' st k=>st.at λo e=>k it (by simp) o e
 item:=by
  intro X hP hw hK hc i a_ s Z H E I hf st hg;subst hP hw hK;obtain⟨xs,x,hq,hx⟩:=hg;obtain⟨its,rv,p,hz⟩:=I.tuple hq;obtain⟨u,hu,ru⟩:=rv.get hx;obtain⟨f0,f1,f2,f3,f4,f5⟩:=hf it (by simp)
  refine wpAny_pyNext_tuple_item st (show s.heap.IsTuple a its.toArray from p) (x:=u) (by simpa using hu) λh' ME sb=>?_
  have I1:Inv X a_ Z H {s with heap:=h'}:=I.turned (t':=s.toks) (λb o hb e=>(sb.2 b hb).trans e) f0 f1 f3 f4 f5
  obtain⟨o,e,c,d⟩:=id ME;exact⟨u,rfl,wL (s:={s with heap:=h'}) e c d (by decide) ⟨x,H,I1,ru,⟨rfl,λys hy=>by rw[I.tuple_inj hy hq];exact hx⟩,ME,λb hb=>(hf b hb).1⟩⟩
 done:=by
  intro X hP hw hK hc i a_ s Z H E I hf st hg;subst hP hw hK;obtain⟨xs,hq,hx⟩:=hg;obtain⟨its,rv,p,hz⟩:=I.tuple hq;obtain⟨f0,f1,f2,f3,f4,f5⟩:=hf it (by simp)
  have hl:=rv.length;exact wpAny_pyNext_tuple_end (I.ok.hd hc) st (show s.heap.IsTuple a its.toArray from p) (by simp;omega) λh' eb=>⟨rfl,I.turned (t':=s.toks) (λb o hb e=>eb b o hb e) f0 f1 f3 f4 f5⟩
 self:=λ_ _ _ _ _ st h=>wpAny_pyIter_tupleiter st h
theorem qp{K:Ks}(it:Addr)(lo:Int)(n:Nat):Turn P w K tg (Itr lo n) [it] it (λi h=>IsRangeIter h it (lo+(i:Nat)*1) ((n:Int)-(i:Nat)) 1) where
 mem:=by simp
 obj:=λi h st b hb=>by
  have e:b=it:=by simpa using hb
  subst e;exact⟨_,st,λv z=>by
   have z':Data.fields _=Data.cell v:=z;cases z'⟩
 keep:=λi h h' st k=>k it (by simp) _ st
 item:=by
  intro X hP hw hK hc i a_ s Z H E I hf st hg;subst hP hw hK;obtain⟨f0,f1,f2,f3,f4,f5⟩:=hf it (by simp)
  have W:=Walks.range (prog:=X.prog) (w:=X.w) (I.ok.hd hc) it lo 1 n;refine W.item i s _ _ hg st λv h' tk hv ME kk=>?_
  obtain⟨t,rfl⟩:=hv;have I1:Inv X a_ Z H {s with heap:=h',toks:=tk}:=I.turned (λb o hb e=>kk b o (by simpa using hb) e) f0 f1 f3 f4 f5
  refine⟨_,rfl,wL (s:={s with heap:=h',toks:=tk}) (n:="range_iterator") ME rfl rfl (by decide) ⟨.int (lo+i),H,I1,⟨t,?_⟩,⟨rfl,rfl⟩,ME,λb hb=>(hf b hb).1⟩⟩
  rw[Int.mul_one]
 done:=by
  intro X hP hw hK hc i a_ s Z H E I hf st hg;subst hP hw hK;obtain⟨f0,f1,f2,f3,f4,f5⟩:=hf it (by simp)
  exact wpAny_pyNext_range_end (I.ok.hd hc) st (by have:n<=i:=hg;omega) λh' eb=>⟨rfl,I.turned (t':=s.toks) (λb o hb e=>eb b o hb e) f0 f1 f3 f4 f5⟩
 self:=λ_ _ _ _ _ st h=>wpAny_pyIter_rangeiter st h
section
variable {X:Cx}
theorem vJ{s:Shared}{lo:Int}(I:Inv X a_ Z H s)(h1 : -(2 ^ 62)<=lo)(h2:lo<2 ^ 62)(h3 : -(2 ^ 62)<=hi)(h4:hi<2 ^ 62)
  (q:R (Itr lo (hi-lo).toNat) H):wpAny (model X.prog X.w) X.A (pyIter (.ref s.heap.objs.size)) (PIE X a_ Z tg R) E {s with heap:=s.heap.push {cls:=.type "range",data:=.fields #[.int lo t,.int hi u,.int 1 v]},toks:=tk}:=by
 refine wpAny_pyIter_range (IsRange.new ..) (small_one h1 h2 h3 h4) ?_;have I1:Inv X a_ Z H {s with heap:=s.heap.push {cls:=.type "range",data:=.fields #[.int lo t,.int hi u,.int 1 v]},toks:=tk}:=I.kept λb o e=>Jn _ e
 refine⟨(s.heap.push {cls:=.type "range",data:=.fields #[.int lo t,.int hi u,.int 1 v]}).objs.size,[(s.heap.push {cls:=.type "range",data:=.fields #[.int lo t,.int hi u,.int 1 v]}).objs.size],_,_,H,rfl,
  I1.kept (t':=tk) λb o e=>Jn _ e,qp _ lo (hi-lo).toNat,?_,λb hb=>?_,q⟩
 ·have e1:lo+((0:Nat):Int)*1=lo:=by simp
  have e2:(((hi-lo).toNat:Nat):Int)-((0:Nat):Int)=Builtin.Range.rangeSize lo hi 1:=by rw[rangeSize_one];split<;>omega
  show IsRangeIter _ _ (lo+((0:Nat):Int)*1) ((((hi-lo).toNat:Nat):Int)-((0:Nat):Int)) 1;rw[e1,e2];exact Jr _ rfl
 ·have e:b=(s.heap.push {cls:=.type "range",data:=.fields #[.int lo t,.int hi u,.int 1 v]}).objs.size:=by simpa using hb
  subst e;exact I1.fpOk (Jp _) (I1.j_.fresh (Jp _))
noncomputable def Dl(ta:TA):TI:=λZ H R=>ta Z H λvs H1=>∃j:Int,vs=[.int j]/\-(2 ^ 62)<=j/\j<2 ^ 62/\R (Itr 0 j.toNat) H1
theorem tI(hg:Gl X "range")(hm:X.mg "range"=none)(ha:PA X [a] ta)(hs:starEach [a] X.env=[(false,eval a X.env)]:=by rfl):PI X tg (.Call (.Name "range" p) [a] [] pos) (Dl ta):=by
 intro a_ s Z H R I h;refine Call_ (iC I hg hm boot_range (PyProof.Rows.callWith_type1 (thn (ha pos a_ s Z H _ I h) λus s1 ⟨vs,H1,I1,r1,q1⟩=>?_) hs rfl))
 obtain⟨j,e,q1,q2,q⟩:=q1;subst e;cases r1 with
 |cons r rr=>
  cases rr;obtain⟨t,rfl⟩:=r;exact call_range_1 (vJ I1 (by omega) (by omega) q1 q2 (by simpa using q))
noncomputable def Gp(wi:TI)(g:TG)(tb:TS):TS:=λD Z H=>wi Z H λJ H1=>∃W:Nat->Nat->St->Hp->Prop,(∃m,W 0 m Z H1)/\∀i m Z H,W i m Z H->
 (J.stop i H/\D.nx Z H)\/(J.go i H/\∃N:St->Hp->Prop,(∀m_ H',N m_ H'->∃m',m' < m/\W (i+1) m' m_ H')/\∀x H',J.yld i H x H'->g x Z H' λK_ H2=>tb {D with nx:=N,ct:=N,bk:=D.nx} K_ H2)
noncomputable def jz(fp:List Addr)(h:Heap):List (Addr×Obj):=fp.filterMap λb=>(h.get? b).map λo=>(b,o)
theorem dW{h:Heap}(hb:b∈fp)(e:h.get? b=some o):(b,o)∈jz fp h:=List.mem_filterMap.mpr ⟨b,hb,by rw[e];rfl⟩
theorem uv{h:Heap}{p:Addr×Obj}(hp:p∈jz fp h):p.1∈fp/\h.get? p.1=some p.2:=by
 obtain⟨b,hb,e⟩:=List.mem_filterMap.mp hp;cases q:h.get? b with
 |none=>rw[q]at e;cases e
 |some o=>
  rw[q]at e;have e':(b,o)=p:=JE e;subst e';exact⟨hb,q⟩
theorem Inv.pinned{s:Shared}(I:Inv X a_ Z H s)(hf:∀b∈fp,fj X a_ H b)(ho:∀b∈fp,∃o,s.heap.get? b=some o/\∀v,o.data≠.cell v):Inv X (a_++jz fp s.heap) Z H s:=
 I.pins_of λp hp=>(JK.mp hp).elim (λz=>I.pin p (JL _ z)) λz=>by
  obtain⟨hb,e⟩:=uv z;obtain⟨f0,f1,f2,_⟩:=hf p.1 hb;obtain⟨o,e',d⟩:=ho p.1 hb;rw[e]at e';cases e';exact⟨e,f0,f1,f2,d⟩
theorem Inv.unpinned(I:Inv X (a_++pl) Z H s):Inv X a_ Z H s:=I.pins_of λp hp=>I.pin p (JL _ (J8 _ hp))
theorem vP(hp:PassesOwn (model X.prog X.w) X.A X.env X.xe)(hc:X.calm=true)(hi:PI X tg iter wi)(hg:PG X tg g)(hb:PSs X body tb)
  (hs:∀x,foldedSetIterable iter X.env x=pure x:=by intro _;rfl):PS X (.For tg iter body [] pos) (Gp wi g tb):=by
 intro a_ s Z H D I h;refine wpAny_For (thn (hi a_ s Z H _ I h) λv s1 h1=>thn h1 λPj s2 h2=>?_) hs
 obtain⟨it,fp,tn,J,H2,e,I2,T,ON,f2,W,⟨m0,w0⟩,mj⟩:=h2;subst e;have MU:∀{H':Hp},(∀b∈fp,H' b=none)->∀b∈fp,fj X a_ H' b:=λhn b hb=>⟨hn b hb,(f2 b hb).2⟩
 refine codeAny_forLoop_any (λn s'=>∃i m_ H',Inv X a_ m_ H' s'/\tn i s'.heap/\(∀b∈fp,H' b=none)/\W i n m_ H') ?_ m0 ⟨0,Z,H2,I2,ON,λb hb=>(f2 b hb).1,w0⟩
 rintro n s3 ⟨i,h_,H3,I3,NR,OO,w3⟩;rcases mj i n h_ H3 w3 with ⟨stop,qn⟩|⟨go,N,hN,step⟩
 ·refine wpAny_passesOwn hp (thn (T.done X rfl rfl rfl hc i a_ s3 h_ H3 X.xe I3 (MU OO) NR stop) λr s4 ⟨hr,I4⟩=>?_)
  subst hr;exact wpAny_execs_nil ⟨h_,H3,I4,qn⟩
 ·refine wpAny_passesOwn hp (thn (T.item X rfl rfl rfl hc i a_ s3 h_ H3 X.xe I3 (MU OO) NR go) λr s4 ⟨u,hr,h4⟩=>?_)
  subst hr;refine wpAny_passesOwn hp (thn h4 λ_ s5 ⟨x,H5,I5,r5,y5,Pk,RB⟩=>?_)
  have RC:=I5.pinned (MU RB) (T.obj _ _ Pk);refine wpAny_passesOwn hp (thn (hg _ s5 h_ H5 x u _ RC r5 (step x H5 y5)) λ_ s6 ⟨LI,H6,I6,q6⟩=>?_)
  refine wpAny_passesOwn hp (thn (hb _ s6 LI H6 _ I6 q6) λf s7 q7=>?_)
  have again:∀{Lk:St}{H7:Hp},Inv X (a_++jz fp s5.heap) Lk H7 s7->N Lk H7->∃m,m<n/\∃i m_ H',Inv X a_ m_ H' s7/\tn i s7.heap/\(∀b∈fp,H' b=none)/\W i m m_ H':=λ{Lk H7} I7 n7=>by
   obtain⟨m',hm,w7⟩:=hN Lk H7 n7;refine⟨m',hm,i+1,Lk,H7,I7.unpinned,T.keep _ _ _ Pk λb hb o e=>(I7.pin (b,o) (JL _ (JL _ (dW hb e)))).1,λb hb=>?_,w7⟩
   obtain⟨o,e,d⟩:=T.obj _ _ Pk b hb;exact (I7.pin (b,o) (JL _ (JL _ (dW hb e)))).2.1
  cases f with
  |next=>obtain⟨Lk,H7,I7,n7⟩:=q7;exact again I7 n7
  |cont=>obtain⟨Lk,H7,I7,n7⟩:=q7;exact again I7 n7
  |brk=>obtain⟨Lk,H7,I7,q7⟩:=q7;exact⟨Lk,H7,I7.unpinned,q7⟩
  |ret v=>obtain⟨x7,Lk,H7,I7,r7,q7⟩:=q7;exact⟨x7,Lk,H7,I7.unpinned,r7,q7⟩
end
noncomputable abbrev R2:=V->V->Hp->VK->Prop
def OpR(X:Cx)(f:Value->Value->Sem Value)(r:R2):Prop:=
 ∀(a_:List (Addr×Obj)) (s:Shared)(Z:St)(H:Hp)(x y:V)(v u:Value)(Q:VK),Inv X a_ Z H s->RelV x v->RelV y u->r x y H Q->
  wpAny (model X.prog X.w) X.A (f v u) (EP X a_ Z Q) X.xe s
def UnR(X:Cx)(f:Value->Sem Value)(r:V->Hp->VK->Prop):Prop:=
 ∀(a_:List (Addr×Obj)) (s:Shared)(Z:St)(H:Hp)(x:V)(v:Value)(Q:VK),Inv X a_ Z H s->RelV x v->r x H Q->
  wpAny (model X.prog X.w) X.A (f v) (EP X a_ Z Q) X.xe s
def CallR(X:Cx)(f:Value)(r:List V->Hp->VK->Prop):Prop:=
 ∀(a_:List (Addr×Obj)) (s:Shared)(Z:St)(H:Hp)(xs:List V)(us:List Value)(Q:VK),Inv X a_ Z H s->Vals xs us->r xs H Q->
  wpAny (model X.prog X.w) X.A (call f us) (EP X a_ Z Q) X.xe s
noncomputable def tOp(r:R2)(ta tb:TE):TE:=λZ H Q=>ta Z H λx H1=>tb Z H1 λy H2=>r x y H2 Q
noncomputable def tUn(r:V->Hp->VK->Prop)(ta:TE):TE:=λZ H Q=>ta Z H λx H1=>r x H1 Q
def rI(C:Int->Int->Prop)(g:Int->Int->V):R2:=λx y H Q=>∃i j,x=.int i/\y=.int j/\C i j/\Q (g i j) H
def rI0(g:Int->Int->V):R2:=λx y H Q=>∃i j,x=.int i/\y=.int j/\Q (g i j) H
def rU(g:Int->V):V->Hp->VK->Prop:=λx H Q=>∃i,x=.int i/\Q (g i) H
section
variable {X:Cx}{a b c:Expr}{ta tb tc:TE}{pos:Pos}
theorem AM(ha:PE X a ta)(hb:PE X b tb){a_:List (Addr×Obj)}{s:Shared}{Z:St}{H:Hp}{R:V->V->Hp->Prop}(I:Inv X a_ Z H s)
  (h:ta Z H λx H1=>tb Z H1 λy H2=>R x y H2) {Q:Value->Shared->Prop}{f:Value->Value->Sem Value}
  (hf:∀v u s2 x y H2,Inv X a_ Z H2 s2->RelV x v->RelV y u->R x y H2->wpAny (model X.prog X.w) X.A (f v u) Q X.xe s2) :
  wpAny (model X.prog X.w) X.A (eval a X.env) (λv q_=>wpAny (model X.prog X.w) X.A (eval b X.env) (λu MT=>wpAny (model X.prog X.w) X.A (f v u) Q X.xe MT) X.xe q_) X.xe s:=by
 refine thn (ha a_ s Z H _ I h) λv s1 ⟨x,H1,I1,r1,q1⟩=>?_
 refine thn (hb a_ s1 Z H1 _ I1 q1) λu s2 ⟨y,H2,I2,r2,q2⟩=>?_
 exact hf v u s2 x y H2 I2 r1 r2 q2
theorem E6{op:Operator}{r:R2}(ho:OpR X (binaryOp op) r)(ha:PE X a ta)(hb:PE X b tb):PE X (.BinOp a op b pos) (tOp r ta tb):=by
 intro a_ s Z H Q I h;exact wpAny_BinOp (AM ha hb I h λv u s2 x y H2 I2 rx ry q=>ho a_ s2 Z H2 x y v u Q I2 rx ry q)
theorem Et(ho:UnR X (unaryOp op) r)(ha:PE X a ta):PE X (.UnaryOp op a pos) (tUn r ta):=by
 intro a_ s Z H Q I h;exact UnaryOp_ (thn (ha a_ s Z H _ I h) λv s1 ⟨x,H1,I1,r1,q1⟩=>ho a_ s1 Z H1 x v Q I1 r1 q1)
theorem opI{f:Value->Value->Sem Value}{C:Int->Int->Prop}{g:Int->Int->Int}
  (rule:∀(i j:Int)(t u:Tok)(s:Shared)(Q:Value->Shared->Prop)(E:Value->Shared->Prop),C i j->Q (.int (g i j) s.toks) {s with toks:=s.toks+1}->wpAny (model X.prog X.w) X.A (f (.int i t) (.int j u)) Q E s) :
  OpR X f (rI C λi j=>.int (g i j)):=by
 intro a_ s Z H x y v u Q I rx ry h;obtain⟨i,j,rfl,rfl,hc,q⟩:=h;obtain⟨t,rfl⟩:=rx;obtain⟨t',rfl⟩:=ry;exact rule i j t t' s _ _ hc ⟨.int (g i j),H,I.tok _,⟨_,rfl⟩,q⟩
theorem Bw{f:Value->Value->Sem Value}{g:Int->Int->Int}
  (rule:∀(i j:Int)(t u:Tok)(s:Shared)(Q:Value->Shared->Prop)(E:Value->Shared->Prop),Q (.int (g i j) s.toks) {s with toks:=s.toks+1}->wpAny (model X.prog X.w) X.A (f (.int i t) (.int j u)) Q E s) :
  OpR X f (rI0 λi j=>.int (g i j)):=by
 intro a_ s Z H x y v u Q I rx ry h;obtain⟨i,j,rfl,rfl,q⟩:=h;obtain⟨t,rfl⟩:=rx;obtain⟨t',rfl⟩:=ry;exact rule i j t t' s _ _ ⟨.int (g i j),H,I.tok _,⟨_,rfl⟩,q⟩
theorem zC{f:Value->Value->Sem Value}{g:Int->Int->Bool}
  (rule:∀(i j:Int)(t u:Tok)(s:Shared)(Q:Value->Shared->Prop)(E:Value->Shared->Prop),Q (.bool (g i j)) s->wpAny (model X.prog X.w) X.A (f (.int i t) (.int j u)) Q E s) :
  OpR X f (rI0 λi j=>.bl (g i j)):=by
 intro a_ s Z H x y v u Q I rx ry h;obtain⟨i,j,rfl,rfl,q⟩:=h;obtain⟨t,rfl⟩:=rx;obtain⟨t',rfl⟩:=ry;exact rule i j t t' s _ _ ⟨.bl (g i j),H,I,rfl,q⟩
def uF(i j:Int):Prop:=0<=j/\j<=1000000/\i.natAbs<2 ^ 64
theorem qT(k:Nat):(0:Int)<=2 ^ k:=by
 rw[two_pow_cast];exact Int.natCast_nonneg _
theorem CM:OpR X (binaryOp .Add) (rI0 λi j=>.int (i+j)):=Bw λ_ _ _ _ _ _ _ q=>add_int q
theorem B4:OpR X (binaryOp .Sub) (rI0 λi j=>.int (i-j)):=Bw λ_ _ _ _ _ _ _ q=>sub_int q
theorem BW:OpR X (binaryOp .Mod) (rI (λ_ j=>0<j) λi j=>.int (i % j)):=opI λi j _ _ _ _ _ hc q=>by
 have h1:(0:Int)<j:=hc;exact mod_int' (by omega) (by rw[Int.fmod_eq_emod_of_nonneg i (by omega)];exact q)
theorem AH:OpR X (binaryOp .Pow) (rI uF λi j=>.int (i ^ j.toNat)):=opI λ_ _ _ _ _ _ _ hc q=>pow_int_small hc.1 hc.2.1 hc.2.2 q
theorem Ay:OpR X (binaryOp .RShift) (rI (λ_ j=>0<=j) λi j=>.int (i / 2 ^ j.toNat)):=opI λi j _ _ _ _ _ hc q=>
 rshift_int hc (by rw[Int.fdiv_eq_ediv_of_nonneg i (qT _)];exact q)
theorem BJ:OpR X (binaryOp .BitAnd) (rI0 λi j=>.int (Builtin.bitAnd i j)):=Bw λ_ _ _ _ _ _ _ q=>and_int q
theorem unI{f:Value->Sem Value}{g:Int->Int}
  (rule:∀(i:Int)(t:Tok)(s:Shared)(Q:Value->Shared->Prop)(E:Value->Shared->Prop),Q (.int (g i) s.toks) {s with toks:=s.toks+1}->wpAny (model X.prog X.w) X.A (f (.int i t)) Q E s) :
  UnR X f (rU λi=>.int (g i)):=by
 intro a_ s Z H x v Q I rx h;obtain⟨i,rfl,q⟩:=h;obtain⟨t,rfl⟩:=rx;exact rule i t s _ _ ⟨.int (g i),H,I.tok _,⟨_,rfl⟩,q⟩
theorem B9:UnR X (unaryOp .USub) (rU λi=>.int (-i)):=unI λ_ _ _ _ _ q=>neg_int q
end
section
variable {X:Cx}{a b c:Expr}{ta tb tc:TE}{pos:Pos}
theorem vF(I:Inv X a_ Z H s)(q:Q (.bl k) H)(e:k=k'):EP X a_ Z Q (.bool k') s:=by
 subst e;exact⟨.bl k,H,I,rfl,q⟩
theorem Ej:OpR X (compareOp .Lt) (rI0 λi j=>.bl (decide (i<j))):=zC λ_ _ _ _ _ _ _ q=>lt_int q
theorem Ef:OpR X (compareOp .LtE) (rI0 λi j=>.bl (decide (i<=j))):=zC λ_ _ _ _ _ _ _ q=>le_int q
theorem D6:OpR X (compareOp .Gt) (rI0 λi j=>.bl (decide (j<i))):=zC λ_ _ _ _ _ _ _ q=>gt_int q
theorem Er:OpR X (compareOp .GtE) (rI0 λi j=>.bl (decide (j<=i))):=zC λ_ _ _ _ _ _ _ q=>ge_int q
theorem CH:OpR X (compareOp .Is) (λx y H Q=>y=.i_/\Q (.bl (decide (x=.i_))) H):=by
 intro a_ s Z H x y v u Q I rx ry h;obtain⟨rfl,q⟩:=h;cases ry;refine is_none_gen (vF I q ?_);cases x<;>first
  |(cases rx;rfl)
  |(obtain⟨t,rfl⟩:=rx;rfl)
theorem zG:OpR X (compareOp .IsNot) (λx y H Q=>y=.i_/\Q (.bl (!decide (x=.i_))) H):=by
 intro a_ s Z H x y v u Q I rx ry h;obtain⟨rfl,q⟩:=h;cases ry;refine isnot_none_gen (vF I q ?_);cases x<;>first
  |(cases rx;rfl)
  |(obtain⟨t,rfl⟩:=rx;rfl)
theorem yB{op:CmpOp}{r:R2}(ho:OpR X (compareOp op) r)(ha:PE X a ta)(hb:PE X b tb)(hm:behindInMarks op b=false):PE X (.Compare a [op] [b] pos) (tOp r ta tb):=by
 intro a_ s Z H Q I h;exact wpAny_Compare1 (AM ha hb I h λv u s2 x y H2 I2 rx ry q=>ho a_ s2 Z H2 x y v u Q I2 rx ry q) hm
noncomputable def zT(t:TE):TT:=λZ H Q=>t Z H λx H'=>∃k,x=.bl k/\Q k H'
theorem zy(ho:OpR X (compareOp op) r)(ha:PE X a ta)(hb:PE X b tb)(hm:behindInMarks op b=false):PT X (.Compare a [op] [b] pos) (zT (tOp r ta tb)):=by
 intro a_ s Z H Q I h;refine wpAny_isTrue_Compare1 (thn (ha a_ s Z H _ I h) λv s1 ⟨x,H1,I1,r1,q1⟩=>thn (hb a_ s1 Z H1 _ I1 q1) λu s2 ⟨y,H2,I2,r2,q2⟩=>
  thn (ho a_ s2 Z H2 x y v u _ I2 r1 r2 q2) λc s3 ⟨z,H3,I3,r3,k,e,q3⟩=>?_) hm
 subst e;cases r3;exact JY ⟨H3,I3,q3⟩
noncomputable def xm(r r':R2)(ta tb tc:TE):TE:=λZ H Q=>ta Z H λx H1=>tb Z H1 λy H2=>r x y H2 λz H3=>∃k,z=.bl k/\
 (if k=true then tc Z H3 λw' H4=>r' y w' H4 Q else Q (.bl false) H3)
theorem uP(ho:OpR X (compareOp op) r)(Lc:OpR X (compareOp KN) r')(ha:PE X a ta)(hb:PE X b tb)(hc:PE X c tc)
  (hm:lastMarks [op,KN] [b,c]=false:=by with_unfolding_all rfl):PE X (.Compare a [op,KN] [b,c] pos) (xm r r' ta tb tc):=by
 intro a_ s Z H Q I h;refine Compare_chain (thn (ha a_ s Z H _ I h) λv s1 ⟨x,H1,I1,r1,q1⟩=>chain_link (thn (hb a_ s1 Z H1 _ I1 q1) λu s2 ⟨y,H2,I2,r2,q2⟩=>
  thn (ho a_ s2 Z H2 x y v u _ I2 r1 r2 q2) λd s3 ⟨z,H3,I3,r3,k,e,q3⟩=>?_)) hm
 subst e;cases r3;refine JY ?_;cases k with
 |false=>exact ite_ff ⟨.bl false,H3,I3,rfl,q3⟩
 |true=>exact ite_tt (chain_last (thn (hc a_ s3 Z H3 _ I3 q3) λw' s4 ⟨z',H4,I4,r4,q4⟩=>Lc a_ s4 Z H4 y z' u w' Q I4 r2 r4 q4))
theorem u0(ho:OpR X (compareOp op) r)(Lc:OpR X (compareOp KN) r')(ha:PE X a ta)(hb:PE X b tb)(hc:PE X c tc)
  (hm:lastMarks [op,KN] [b,c]=false:=by with_unfolding_all rfl):PT X (.Compare a [op,KN] [b,c] pos) (zT (xm r r' ta tb tc)):=by
 intro a_ s Z H Q I h;refine isTrue_chain (thn (ha a_ s Z H _ I h) λv s1 ⟨x,H1,I1,r1,q1⟩=>test_link (thn (hb a_ s1 Z H1 _ I1 q1) λu s2 ⟨y,H2,I2,r2,q2⟩=>
  thn (ho a_ s2 Z H2 x y v u _ I2 r1 r2 q2) λd s3 ⟨z,H3,I3,r3,k,e,q3⟩=>?_)) hm
 subst e;cases r3;refine JY ?_;cases k with
 |false=>
  obtain⟨k',e',q'⟩:=q3;cases e';exact ite_ff ⟨H3,I3,q'⟩
 |true=>
  refine ite_tt (test_last (thn (hc a_ s3 Z H3 _ I3 q3) λw' s4 ⟨z',H4,I4,r4,q4⟩=>thn (Lc a_ s4 Z H4 y z' u w' _ I4 r2 r4 q4) λd' s5 ⟨z2,H5,I5,r5,k2,e2,q5⟩=>?_))
  subst e2;cases r5;exact JY ⟨H5,I5,q5⟩
theorem jo:(sizeLine:Nat)<2 ^ 63:=by rw[sizeLine_eq];decide
theorem g7(r:Vals [x] us):∃u,us=[u]/\RelV x u:=by
 cases r with
 |cons r1 r2=>cases r2;exact⟨_,rfl,r1⟩
theorem zJ(r:Vals [x,y] us):∃u w',us=[u,w']/\RelV x u/\RelV y w':=by
 cases r with
 |cons r1 r2=>
  cases r2 with
  |cons r3 r4=>cases r4;exact⟨_,_,rfl,r1,r3⟩
theorem u8:CallR X (.builtin "abs") (λxs H Q=>∃i,xs=[.int i]/\Q (.int (if i<0 then -i else i)) H):=by
 intro a_ s Z H xs us Q I r h;obtain⟨i,rfl,q⟩:=h;obtain⟨u,rfl,t,rfl⟩:=g7 r;exact call_abs_int λu tk=>⟨.int (if i<0 then -i else i),H,I.tok _,⟨_,rfl⟩,q⟩
theorem tj(hc:X.calm=true):CallR X (.builtin "max") (λxs H Q=>∃i j,xs=[.int i,.int j]/\Q (.int (if j > i then j else i)) H):=by
 intro a_ s Z H xs us Q I r h;obtain⟨i,j,rfl,q⟩:=h;obtain⟨u,w',rfl,⟨t,rfl⟩,⟨t',rfl⟩⟩:=zJ r;refine max_two_ints (I.ok.hd hc) λh' tk k=>⟨_,H,I.kept k,?_,q⟩
 by_cases hj:j > i
 ·rw[Js hj,Js hj];exact⟨_,rfl⟩
 ·rw[Jm hj,Jm hj];exact⟨_,rfl⟩
theorem um(hc:X.calm=true):CallR X (.builtin "min") (λxs H Q=>∃i j,xs=[.int i,.int j]/\Q (.int (if j<i then j else i)) H):=by
 intro a_ s Z H xs us Q I r h;obtain⟨i,j,rfl,q⟩:=h;obtain⟨u,w',rfl,⟨t,rfl⟩,⟨t',rfl⟩⟩:=zJ r;refine min_two_ints (I.ok.hd hc) λh' tk k=>⟨_,H,I.kept k,?_,q⟩
 by_cases hj:j<i
 ·rw[Js hj,Js hj];exact⟨_,rfl⟩
 ·rw[Jm hj,Jm hj];exact⟨_,rfl⟩
end
structure ObjM (h:Heap)(x dx C:Addr)(mA:Str->Option Value):Prop where
 obj:h.get? x=some (PySem.W.instObj C dx)
 ns:h.Ns1 dx mA
 ne:dx≠x
theorem uf{h:Heap}(n:h.Ns1 dx mA):∃od,h.get? dx=some od/\∀name,PySem.W.lookIn name od=some (mA name):=by
 obtain⟨o,es,ep,ho,hd,hk,_,hm⟩:=n;refine⟨o,ho,λname=>?_⟩
 have e:=hm name;unfold nsFind findBy at e;rw[<-Array.find?_toList]at e;unfold PySem.W.lookIn;rw[hd];dsimp only;split
 ·rename_i y q;rw[q]at e;exact congrArg some e
 ·rename_i q;rw[q]at e;have a:es.toList.any (·.refKey)=false:=by
   rw[List.any_eq_false];intro y hy;obtain⟨z,t,Pl⟩:=hk y (Array.mem_toList_iff.mp hy);simp[DictEntry.refKey,Pl]
  have a':¬ es.toList.any (·.refKey)=true:=by rw[a];exact JH
  rw[Jm a'];exact congrArg some e
theorem ObjM.look(I:ObjM h x dx C mA):∃od,PySem.W.InstAt h x (PySem.W.instObj C dx) C (some od)/\∀name,PySem.W.lookIn name od=some (mA name):=
 let ⟨od,ho,hl⟩:=uf I.ns
 ⟨od,⟨I.obj,rfl,rfl,ho⟩,hl⟩
section
variable {w:World}{A:Around}{s:Shared}{K:Ks}{x:Addr}
theorem zD(X:K.In s.heap)(I:ObjM s.heap x dx C mA)(hg:PySem.W.plainGet K C name=true)(hh:PySem.W.hasDictIn K C=true)
  (ha:PySem.W.findIn K (.ref C) name=some none) (hv:mA name=some v) (Pm:PySem.W.handedIn v=true) (h:Q v {s with toks:=s.toks+1}) :
  wpAny (model prog w) A (getAttr (.ref x) name expr) Q E s:=by
 obtain⟨od,J,hl⟩:=I.look;exact PySem.W.get_value X J (PySem.W.plainGet_of hg).1 (PySem.W.findObj_own hh ha rfl (by rw[hl,hv])) Pm h
theorem wH(X:K.In s.heap)(I:ObjM s.heap x dx C mA)(hg:PySem.W.plainGet K C name=true)
  (hf:PySem.W.findIn K (.ref C) name=some (some (.ref f))) (ht:PySem.W.isFn K (.ref f)=true) (hv:mA name=none) (h:Q (.ref f,[.ref x]) s) :
  wpAny (model prog w) A (getMethod (.ref x) name pl) Q E s:=by
 obtain⟨od,J,hl⟩:=I.look;exact PySem.W.method_fn X J (PySem.W.plainGet_of hg).1 (PySem.W.plainGet_of hg).2 hf (JJ.mp ht) (by show (PySem.W.lookIn name od).map (·.isSome)=some false;rw[hl,hv];rfl) h
theorem yG{ns:List Str}(X:K.In s.heap)(I:ObjM s.heap x dx C mA)
  (hs:PySem.W.findIn K (.ref C) "__setattr__"=some (some (.builtin "object.__setattr__"))) (hp:PySem.W.plainOver K C=true) (ht:PySem.W.takerIn K C name=some none) (hh:PySem.W.hasDictIn K C=true)
  (hw:PySem.Within mA ns) (hsz:ns.length<=sizeLine)
  (h:∀h',ObjM h' x dx C (λy=>if y=name then some v else mA y)->Heap.SameBut dx s.heap h'->Q () {s with heap:=h',toks:=s.toks+2}) :
  wpAny (model prog w) A (setAttr (.ref x) name v) Q E s:=by
 obtain⟨od,J,hl⟩:=I.look;refine PySem.W.set_plain X J hs (PySem.W.osa_open (s:={s with toks:=s.toks+1}) (r:=none) X J hp ht λb=>?_)
 obtain⟨cd,hc,Pe⟩:=PySem.W.any_some hh;have hx:s.heap.get? x=some ⟨.ref C,some dx,.plain,#[]⟩:=I.obj;refine AV (Jl (AV (AV (wpAny_loadPart hx (AV (PySem.W.Looks.here (s:={s with toks:=s.toks+1}) (PySem.W.looks_clsIn X hc) ?_))))))
 rw[Pe];refine Jl (a:=some dx) (AV (Jl (AV ?_)));refine wpAny_nsSet1 (s:={s with toks:=s.toks+1}) I.ns λh' QT La=>?_
 obtain⟨oD,RD,RE,Pn,Po,Pp⟩:=QT.count (PySem.Within.cons name v hw);refine AV (wpAny_lookBehind Pn (by rw[Po];exact pastItsLine_dict (JF Pp (by rw[Jx];omega))) ?_)
 exact Jl (h _ ⟨(La.2 _ (JA I.ne)).trans I.obj,QT,I.ne⟩ La)
theorem uN(X:K.In s.heap)(hm:PySem.W.makesIn K C=true)
  (hi:PySem.W.findIn K (.ref C) "__init__"=some (some (.ref f))) (hf:PySem.W.typeIn K (.ref f)=some (.type "function"))
  (h:codeAny (model prog w) (A.under (.builtin "type.__call__" ⟨.ref C::vs,kw⟩)) (.call (.ref f) ⟨.ref (s.heap.objs.size+1)::vs,kw⟩) (PySem.W.InitBack (s.heap.objs.size+1) R)
   {s with heap:=(s.heap.push PySem.W.emptyDict).push (PySem.W.instObj C s.heap.objs.size)}) :
  codeAny (model prog w) A (.call (.ref C) ⟨vs,kw⟩) R s:=by
 obtain⟨hh,g,d,t,os⟩:=s;exact PySem.W.make_core (PySem.W.makes_of X hm) (PySem.W.looks_findIn X hi) (λself=>PySem.W.bind_fn X self hf) (.inl rfl) h
end
noncomputable def c6(f:Str)(v:V):List (Str×V)->List (Str×V)
 |[]=>[(f,v)]
 |(g,x)::r=>if g=f then (g,v)::r else (g,x)::c6 f v r
theorem iO(f g:Str)(v:V):∀fs:List (Str×V),(c6 f v fs).lookup g=if g=f then some v else fs.lookup g
 |[]=>by
  show List.lookup g [(f,v)]=_;by_cases h:g=f
  ·have hb:(g == f)=true:=JJ.mpr h;simp only[List.lookup,hb,Js h]
  ·have hb:(g == f)=false:=JP.mpr h;simp only[List.lookup,hb,Jm h]
 |(k,x)::r=>by
  have ih:=iO f g v r;rw[show c6 f v ((k,x)::r)=(if k=f then (k,v)::r else (k,x)::c6 f v r) from rfl]
  by_cases hk:k=f
  ·rw[Js hk];by_cases h:g=k
   ·have hb:(g == k)=true:=JJ.mpr h;simp only[List.lookup,hb,Js (h.trans hk)]
   ·have hb:(g == k)=false:=JP.mpr h;simp only[List.lookup,hb,Jm (λe:g=f=>h (e.trans hk.symm))]
  ·rw[Jm hk];by_cases h:g=k
   ·have hb:(g == k)=true:=JJ.mpr h;simp only[List.lookup,hb,Jm (λe:g=f=>hk (h.symm.trans e))]
   ·have hb:(g == k)=false:=JP.mpr h;simp only[List.lookup,hb];exact ih
theorem iK(f:Str)(v:V):∀fs:List (Str×V),f∈(c6 f v fs).map (·.1)/\∀g,g∈fs.map (·.1)->g∈(c6 f v fs).map (·.1)
 |[]=>⟨by simp[c6],λg h=>by simp at h⟩
 |(k,x)::r=>by
  obtain⟨i1,i2⟩:=iK f v r;rw[show c6 f v ((k,x)::r)=(if k=f then (k,v)::r else (k,x)::c6 f v r) from rfl]
  by_cases hk:k=f
  ·rw[Js hk];subst hk;exact⟨by simp,λg h=>by simpa using h⟩
  ·rw[Jm hk];refine⟨?_,λg h=>?_⟩
   ·rw[List.map_cons];exact Jk _ i1
   ·rw[List.map_cons]at h ⊢;rcases Jq.mp h with e|e
    ·exact Jq.mpr (.inl e)
    ·exact Jk _ (i2 g e)
theorem iU(f:Str)(v:V):∀fs:List (Str×V),(c6 f v fs).length<=fs.length+1
 |[]=>by simp[c6]
 |(k,x)::r=>by
  have ih:=iU f v r;rw[show c6 f v ((k,x)::r)=(if k=f then (k,v)::r else (k,x)::c6 f v r) from rfl]
  by_cases hk:k=f
  ·rw[Js hk,Jx,Jx];omega
  ·rw[Jm hk,Jx,Jx];omega
theorem RelO.some_of(r:RelO (some v) o):∃u,o=some u/\RelV v u:=by
 cases o with
 |none=>exact (show False from r).elim
 |some u=>exact⟨u,rfl,r⟩
theorem RelO.none_of(r:RelO none o):o=none:=by
 cases o with
 |none=>rfl
 |some u=>exact (show False from r).elim
theorem ur(r:RelV v u):PySem.W.handedIn u=true:=by
 cases v with
 |i_=>cases (show u=Value.none from r);rfl
 |bl b=>cases (show u=Value.bool b from r);rfl
 |int i=>obtain⟨t,e⟩:=(show ∃t,u=Value.int i t from r);cases e;rfl
 |str x=>obtain⟨t,e⟩:=(show ∃t,u=Value.str x t from r);cases e;rfl
 |OJ b=>obtain⟨t,e⟩:=(show ∃t,u=Value.bytes b t from r);cases e;rfl
 |OK b=>obtain⟨t,e⟩:=(show ∃t,u=Value.float b t from r);cases e;rfl
 |ref a=>cases (show u=Value.ref a from r);rfl
 |ty n=>cases (show u=Value.type n from r);rfl
section
variable {P:Program}{w:World}{h h':Heap}{a:Addr}{fs:List (Str×V)}
theorem xI(j_:HOk P w H h)(e:H a=some (.ins C dx fs)):∃mA,ObjM h a dx C mA/\(∀f,RelO (fs.lookup f) (mA f))/\PySem.Within mA (fs.map (·.1))/\fs.length<=1000/\H dx=some (.own a):=by
 obtain⟨d,z,ne,ob,mA,n,r,q⟩:=(show ObjOk P w H h a (.ins C dx fs) from j_ a _ e);exact⟨mA,⟨ob,n,ne⟩,r,q,z,d⟩
end
structure Cls (K:Ks)(C:Addr):Prop where
 pg:PySem.W.plainGet K C Str.empty=true
 hd:PySem.W.hasDictIn K C=true
 po:PySem.W.plainOver K C=true
 sa:PySem.W.findIn K (.ref C) "__setattr__"=some (some (.builtin "object.__setattr__"))
theorem Cls.get{K:Ks}{C:Addr}(c:Cls K C)(f:Str):PySem.W.plainGet K C f=true:=c.pg
def NoAttr(K:Ks)(C:Addr)(f:Str):Prop:=PySem.W.findIn K (.ref C) f=some none
theorem NoAttr.taker{K:Ks}(n:NoAttr K C f):PySem.W.takerIn K C f=some none:=by
 unfold PySem.W.takerIn;rw[show PySem.W.findIn K (.ref C) f=some none from n];rfl
structure Meth (K:Ks)(C:Addr)(m:Str)(f:Addr):Prop where
 at_:PySem.W.findIn K (.ref C) m=some (some (.ref f))
 fn:PySem.W.isFn K (.ref f)=true
 kp:PySem.W.keepIn K (.ref f)=true
section
variable {X:Cx}{s:Shared}{a:Addr}{fs:List (Str×V)}{A:Around}
theorem pV(I:Inv X a_ Z H s)(e:H a=some (.ins C dx fs))(c:Cls X.K C)(n:NoAttr X.K C f)(hl:fs.length<1000)(ry:RelV y u)
  (h:∀s',Inv X a_ Z (upd H a (.ins C dx (c6 f y fs))) s'->Q () s'):wpAny (model X.prog X.w) A (setAttr (.ref a) f u) Q E s:=by
 obtain⟨mA,O,r,wi,_,ho⟩:=xI I.j_ e;have hz:(fs.map (·.1)).length<=sizeLine:=by rw[Jv,sizeLine_eq];omega
 refine yG I.kIn O c.sa c.po n.taker c.hd wi hz λh' O' sb=>h _ ?_
 have hd:∃o,h'.get? dx=some o:=let ⟨o,_,_,e',_⟩:=O'.ns;⟨o,e'⟩
 refine I.write (x:=a) (e:=dx) (by rw[e];exact True.intro) (.inr ho) (λb q hb z=>(sb.2 b hb).trans z) hd ?_
 refine⟨by rw[ae O.ne];exact ho,?_,O.ne,O'.obj,_,O'.ns,λg=>?_,λg hg=>?_⟩
 ·have:=iU f y fs;omega
 ·show RelO ((c6 f y fs).lookup g) (if g=f then some u else mA g)
  rw[iO];by_cases q:g=f
  ·rw[Js q,Js q];exact ry
  ·rw[Jm q,Jm q];exact r g
 ·by_cases q:g=f
  ·rw[q];exact (iK f y fs).1
  ·refine (iK f y fs).2 g (wi g λz=>hg ?_)
   show (if g=f then some u else mA g)=none
   rw[Jm q];exact z
theorem Inv.made(I:Inv X a_ Z H s):Inv X a_ Z (upd (upd H s.heap.objs.size (.own (s.heap.objs.size+1))) (s.heap.objs.size+1) (.ins C s.heap.objs.size []))
  {s with heap:=(s.heap.push PySem.W.emptyDict).push (PySem.W.instObj C s.heap.objs.size)}:=by
 have e1:(s.heap.push PySem.W.emptyDict).get? s.heap.objs.size=some PySem.W.emptyDict:=Jr s.heap rfl;have e2:((s.heap.push PySem.W.emptyDict).push (PySem.W.instObj C s.heap.objs.size)).get? (s.heap.objs.size+1)=some (PySem.W.instObj C s.heap.objs.size):=by
  have:=Jr (s.heap.push PySem.W.emptyDict) (o:=PySem.W.instObj C s.heap.objs.size) rfl
  rwa [Heap.size_push]at this
 have e3:(s.heap.push PySem.W.emptyDict).Ns s.heap.objs.size (λ_=>none):=⟨PySem.W.emptyDict,#[],_,e1,rfl,(λe he=>absurd he (by simp)),λ_=>rfl⟩
 have I1:=I.laid (a:=s.heap.objs.size) (o:=.own (s.heap.objs.size+1)) (h':=s.heap.push PySem.W.emptyDict) (t':=s.toks) (λb u q=>Jn _ q) (Jp _) ⟨_,e1⟩
 refine I1.laid (a:=s.heap.objs.size+1) (o:=.ins C s.heap.objs.size []) (t':=s.toks) (λb u q=>Jn _ q) (Nat.le_of_eq (Heap.size_push _ _)) ?_
 have ne:s.heap.objs.size≠s.heap.objs.size+1:=JI (Nat.lt_succ_self _);refine⟨by rw[ae ne,ah],Nat.zero_le _,ne,e2,λ_=>none,(Heap.Ns1.of_empty e3).at λo q=>Jn _ q,λ_=>True.intro,λy hy=>absurd rfl hy⟩
theorem zc(hb:attributeBase e f env (eval e env)=eval e env)
  (h:wpAny (model prog w) A (eval e env) (λo q_=>wpAny (model prog w) A (getAttr o f true) Q E q_) E s):wpAny (model prog w) A (eval (.Attribute e f pos) env) Q E s:=
 Attribute_any_ h (by rw[arm_eval_Attribute,hb])
end
noncomputable def Hi(K:Ks)(ta tv:TE)(f:Str):TS:=λD Z H=>tv Z H λy H1=>ta Z H1 λx H2=>∃a C dx fs,x=.ref a/\H2 a=some (.ins C dx fs)/\Cls K C/\NoAttr K C f/\fs.length<1000/\
 D.nx Z (upd H2 a (.ins C dx (c6 f y fs)))
section
variable {X:Cx}{o:Expr}{pos:Pos}
theorem CS(ha:PE X o ta)(hv:PE X value tv)(hs:swapsWith value (some (.Attribute o f Kx)) pos.line X.env=pure false):PS X (.Assign [.Attribute o f Kx] value pos) (Hi X.K ta tv f):=by
 intro a_ s Z H D I h;refine plainObj_wpAny_Assign_Attribute (thn (hv a_ s Z H _ I h) λu s1 ⟨y,H1,I1,ry,q⟩=>thn (ha a_ s1 Z H1 _ I1 q) λov s2 ⟨x,H2,I2,rx,a,C,dx,fs,ex,ea,c,n,l,q2⟩=>?_) hs
 subst ex;obtain rfl:ov=Value.ref a:=rx;exact pV I2 ea c n l ry λs3 I3=>⟨Z,_,I3,q2⟩
end
section
variable {X:Cx}{s:Shared}{A:Around}{c:Value}{b:Bool}
end
structure Room (k:Nat)(A:Around):Prop where
 hd:A.handled=none
 dp:A.depth+3*k+5<recursionLimit
 un:A.units+16*k+200<cLine
theorem Room.mono(r:Room k A)(h:j<=k):Room j A:=⟨r.hd,by have:=r.dp;omega,by have:=r.un;omega⟩
theorem Room.deeper{A:Around}(r:Room (k+1) A)(env:Env):Room k (A.deeper env):=
 ⟨r.hd,by have:=r.dp;show A.depth+1+3*k+5<_;omega,by have:=r.un;show A.units+3+16*k+200<_;omega⟩
theorem qc{A:Around}:(A.under (.builtin "type.__call__" ⟨.ref C::us,kw⟩)).depth=A.depth+1:=by
 first|rfl|simp[Around.under,Code.weight,Code.isCreation,Code.isGuard,Code.isCaller,Code.frames,Code.isFrame,guardIds]
theorem qS{A:Around}:(A.under (.builtin "type.__call__" ⟨.ref C::us,kw⟩)).units=A.units+1:=by
 first|rfl|simp[Around.under,Code.cUnits,Code.frames,Code.isFrame]
theorem Room.make{A:Around}(r:Room (k+1) A)(C:Addr)(us:List Value)(kw:List (Str×Value)):Room k (A.under (.builtin "type.__call__" ⟨.ref C::us,kw⟩)):=
 ⟨r.hd,by have:=r.dp;rw[qc];omega,by have:=r.un;rw[qS];omega⟩
theorem Room.depth{A:Around}(r:Room k A):A.depth<recursionLimit:=by have:=r.dp;omega
theorem Room.units{A:Around}(r:Room k A):A.units+64<cLine:=by have:=r.un;omega
noncomputable def tNil:TA:=λ_ H Q=>Q [] H
noncomputable def En(ta:TE)(tr:TA):TA:=λZ H Q=>ta Z H λx H1=>tr Z H1 λxs H2=>Q (x::xs) H2
section
variable {X:Cx}{pos:Pos}
theorem pa_nil:PA X [] tNil:=λ_ _ _ _ H Q I h=>Calls.spliced_nil ⟨[],H,I,.nil,h⟩
theorem bb(ha:PE X e te)(hr:PA X es t)(hs:starEach (e::es) X.env=(false,eval e X.env)::starEach es X.env:=by rfl):PA X (e::es) (En te t):=by
 intro pos a_ s Z H Q I h;rw[hs];show wpAny _ _ (spliced ((false,eval e X.env)::backTo pos (starEach es X.env))) _ _ s;refine Calls.spliced_cons (thn (ha a_ s Z H _ I h) λu s1 ⟨x,H1,I1,r1,q1⟩=>?_)
 exact thn (hr pos a_ s1 Z H1 _ I1 q1) λus s2 ⟨xs,H2,I2,r2,q2⟩=>⟨x::xs,H2,I2,.cons r1 r2,q2⟩
noncomputable def G5(t:TA):TE:=λZ H Q=>t Z H λxs H1=>xs.length<=sizeLine/\∀p,H1 p=none->Q (.ref p) (upd H1 p (.tup xs))
noncomputable def F6(t:TA):TE:=λZ H Q=>t Z H λxs H1=>xs.length<=sizeLine/\∀p,H1 p=none->Q (.ref p) (upd H1 p (.lst xs))
theorem CD{x1}(h:PA X es t):PE X (.Tuple es x1 pos) (G5 t):=by
 intro a_ s Z H Q I hq;refine wpAny_Tuple_spliced (thn (h pos a_ s Z H _ I hq) λus s1 ⟨xs,H1,I1,r,z,q⟩=>⟨by rw[<-r.length];exact z,?_⟩)
 have hf:H1 s1.heap.objs.size=none:=I1.j_.fresh (Jp _);refine⟨.ref s1.heap.objs.size,upd H1 s1.heap.objs.size (.tup xs),I1.laid (t':=s1.toks) (λb u e=>Jn _ e) (Jp _) ?_,rfl,q _ hf⟩
 exact⟨z,us,r,⟨_,Jr _ rfl,rfl,_,rfl⟩⟩
theorem Bl(h:PA X es t):PE X (.List es pos) (F6 t):=by
 intro a_ s Z H Q I hq;refine wpAny_List_spliced (thn (h pos a_ s Z H _ I hq) λus s1 ⟨xs,H1,I1,r,z,q⟩=>⟨by rw[<-r.length];exact z,?_⟩)
 have hf:H1 s1.heap.objs.size=none:=I1.j_.fresh (Jp _);refine⟨.ref s1.heap.objs.size,upd H1 s1.heap.objs.size (.lst xs),I1.laid (t':=s1.toks) (λb u e=>Jn _ e) (Jp _) ?_,rfl,q _ hf⟩
 exact⟨z,us,0,r,Jr _ rfl⟩
end
noncomputable abbrev Sp:=List V->Hp->VK->XK->Prop
noncomputable abbrev CXT:=List Env->Hp->Shared->XK->Value->Shared->Prop
structure Env0 (P:Program)(w:World)(K:Ks)(mg:Str->Option Value)(base:Heap)(A:Around)(outer:List Env)(s:Shared)(H:Hp):Prop where
 frames:A.frames=some outer
 mod:Mod K mg base
 bs:∀b o,base.get? b=some o->s.heap.get? b=some o/\H b=none
 bsz:base.objs.size<=s.heap.objs.size
 funs:s.heap.FunFrames base outer
 frf:∀b∈frs outer,H b=none
 j_:HOk P w H s.heap
 bare:AllBare s.gens
def CE(outer:List Env)(P:Program)(w:World)(H:Hp)(s:Shared)(Q:VK)(u:Value)(s':Shared):Prop:=
 ∃v H',s'.os=s.os/\AllBare s'.gens/\Un (frs outer) [] H H' s.heap s'.heap/\HOk P w H' s'.heap/\RelV v u/\Q v H'
def CR(CX:CXT)(outer:List Env)(P:Program)(w:World)(H:Hp)(s:Shared)(Q:VK)(E:XK)(r:Result)(s':Shared):Prop:=
 match r with
 |.ok (.ret u)=>CE outer P w H s Q u s'
 |.ok _=>False
 |.error e=>CX outer H s E e s'
structure FnOk (P:Program)(w:World)(K:Ks)(mg:Str->Option Value)(base:Heap)(CX:CXT)(k:Nat)(f:Addr)(fd:FuncData)(ps:List Str)(sp:Sp):Prop where
 len:∀vs H Q E,sp vs H Q E->vs.length=ps.length
 run:∀(A:Around)(outer:List Env)(s:Shared)(H:Hp)(args:Args)(us:List Value)(vs:List V)(Q:VK)(E:XK),Room k A->Env0 P w K mg base A outer s H->BindsTo s fd args (ps.zip us)->Vals vs us->sp vs H Q E->
  codeAny (model P w) A (.call (.ref f) args) (CR CX outer P w H s Q E) s
theorem Env0.make{K:Ks}{A:Around}(e:Env0 P w K mg base A outer s H)(C:Addr)(us:List Value)(kw:List (Str×Value)) :
  Env0 P w K mg base (A.under (.builtin "type.__call__" ⟨.ref C::us,kw⟩)) outer s H:=⟨by first|exact e.frames|(simpa [Around.under,Code.envs,Code.isFrame,pushEnvs] using e.frames),e.mod,e.bs,e.bsz,e.funs,e.frf,e.j_,e.bare⟩
section
variable {X:Cx}{s:Shared}
theorem Inv.env0(I:Inv X a_ Z H s):Env0 X.prog X.w X.K X.mg X.base X.A X.stack s H:=
 ⟨I.ok.frames,I.ok.mod,I.bs,JF I.ok.bsz I.sz,I.stack,I.stkFree,I.j_,I.bare⟩
theorem Inv.after(I:Inv X a_ Z H s)(h:CE X.stack X.prog X.w H s Q u s'):EP X a_ Z Q u s':=by
 obtain⟨v,H',os,bare,un,j_,r,q⟩:=h;obtain⟨hh,g,d,t,RF⟩:=s';obtain rfl:RF=s.os:=os;exact⟨v,H',I.call (h':=hh) (g':=g) (d':=d) (t':=t) (ch:=[]) un j_ bare (λb z=>absurd z (by simp)),r,q⟩
end
def Binds(K:Ks)(fd:FuncData)(ps:List Str)(ds:List Value):Prop:=
 ∀(s:Shared)(us:List Value),K.In s.heap->(us++ds).length=ps.length->BindsTo s fd ⟨us,[]⟩ (ps.zip (us++ds))
theorem Binds.all{K:Ks}{ps:List Str}(h:∀us:List Value,us.length=ps.length->bindArgs fd ⟨us,[]⟩=pure (ps.zip us)):Binds K fd ps []:=λs us _ hl=>by
 rw[J0]at hl ⊢;exact .of_eq (h us hl)
def Bh(CX:CXT)(X:Cx)(E:XK):Prop:=∀(a_:List (Addr×Obj)) (Z:St)(H:Hp)(s:Shared)(e:Value)(s':Shared),Inv X a_ Z H s->CX X.stack H s E e s'->X.xe e s'
section
variable {X:Cx}{k:Nat}{ps:List Str}{x:Str}{p pos n_:Pos}{o:Expr}
structure Mk (K:Ks)(C f:Addr):Prop where
 makes:PySem.W.makesIn K C=true
 init:PySem.W.findIn K (.ref C) "__init__"=some (some (.ref f))
 fn:PySem.W.isFn K (.ref f)=true
 kp:PySem.W.keepIn K (.ref C)=true
end
section
variable {X:Cx}{k:Nat}{ps ks:List Str}{x:Str}{p pos n_:Pos}{o:Expr}
end
structure FnScope (N P:List Str)(sc:Scope):Prop where
 kind:sc.kind=.function
 co:sc.isCoroutine=false
 gen:sc.isGenerator=false
 nd:N.Nodup
 pre:N.take P.length=P
 par:∀x∈P,sc.names.lookup x=some .local\/sc.names.lookup x=some .cell
 nofree:∀y∈sc.names,y.2≠.free
theorem lY{kindOf:Str->Option NameKind}{x:Str}:∀{Lw:List (Str×Value)}{m:Str->Option Value},(∀v,(x,v)∉Lw)->bindL kindOf Lw m x=m x
 |[],_,_=>rfl
 |(n,v)::r,m,h=>by
  unfold bindL;rw[lY λw hw=>h w (Jk _ hw)]
  split
  ·have:x≠n:=by rintro rfl;exact h v Jo
   simp[this]
  ·rfl
theorem lK{kindOf:Str->Option NameKind}{x:Str}:∀{Lw:List (Str×Value)}{m:Str->Option Value},(∀v,(x,v)∉Lw)->bindC kindOf Lw m x=m x
 |[],_,_=>rfl
 |(n,v)::r,m,h=>by
  unfold bindC;rw[lK λw hw=>h w (Jk _ hw)]
  split
  ·rfl
  ·have:x≠n:=by rintro rfl;exact h v Jo
   simp[this]
theorem md{kindOf:Str->Option NameKind}{x:Str}{v:Value}:∀{P:List Str}{vs:List Value}{i:Nat}{m:Str->Option Value},P.Nodup->P[i]?=some x->vs[i]?=some v->kindOf x=some .local->
  bindL kindOf (P.zip vs) m x=some v
 |[],_,_,_,_,h,_,_=>by simp at h
 |_::_,[],_,_,_,_,h,_=>by simp at h
 |p::P,w::vs,0,m,nd,h1,h2,hk=>by
  simp at h1 h2;subst h1;subst h2;show bindL kindOf ((p,w)::P.zip vs) m p=_;unfold bindL;rw[lY λv hv=>(JN.mp nd).1 (List.of_mem_zip hv).1,Js hk]
  simp
 |p::P,w::vs,i+1,m,nd,h1,h2,hk=>by
  show bindL kindOf ((p,w)::P.zip vs) m x=_;unfold bindL;exact md (i:=i) (JN.mp nd).2 (by simpa using h1) (by simpa using h2) hk
theorem lJ{kindOf:Str->Option NameKind}{x:Str}{v:Value}:∀{P:List Str}{vs:List Value}{i:Nat}{m:Str->Option Value},P.Nodup->P[i]?=some x->vs[i]?=some v->kindOf x≠some .local->
  bindC kindOf (P.zip vs) m x=some v
 |[],_,_,_,_,h,_,_=>by simp at h
 |_::_,[],_,_,_,_,h,_=>by simp at h
 |p::P,w::vs,0,m,nd,h1,h2,hk=>by
  simp at h1 h2;subst h1;subst h2;show bindC kindOf ((p,w)::P.zip vs) m p=_;unfold bindC;rw[lK λv hv=>(JN.mp nd).1 (List.of_mem_zip hv).1,Jm hk]
  simp
 |p::P,w::vs,i+1,m,nd,h1,h2,hk=>by
  show bindC kindOf ((p,w)::P.zip vs) m x=_;unfold bindC;exact lJ (i:=i) (JN.mp nd).2 (by simpa using h1) (by simpa using h2) hk
noncomputable def start(N:List Str)(vs:List V):St:=vs.map some++List.replicate (N.length-vs.length) none
noncomputable def cg(CX:CXT)(P:Program)(w:World)(K:Ks)(mg:Str->Option Value)(base:Heap)(N:List Str)(qual:Str)(scope:Scope)(f:Addr)(cd:Value)(A:Around)(outer:List Env)(s:Shared)(H:Hp)(E:XK):Cx where
 prog:=P
 w:=w
 K:=K
 mg:=mg
 base:=base
 A:=A.deeper (envOfC qual scope s.heap.objs.size f cd)
 N:=N
 s₀:=s
 H₀:=H
 env:=envOfC qual scope s.heap.objs.size f cd
 outer:=outer
 stack:=envOfC qual scope s.heap.objs.size f cd::outer
 ex:=[]
 calm:=true
 fn:=λ_=>true
 pn:=[]
 xe:=λe s'=>wpAny (model P w) (A.deeper (envOfC qual scope s.heap.objs.size f cd)) (leaving (envOfC qual scope s.heap.objs.size f cd) e) (λ_ NS=>CX outer H s E e NS) (λe' NS=>CX outer H s E e' NS) s'
theorem nI{sc:Scope}(h:sc.names.lookup x=some .cell):∃c,(cellsFrom n sc.names []).lookup x=some c:=by
 have q:=PySem.W.cellsFrom_some sc.names n [] (.inl h);exact JS.mp q
theorem tM{K:Ks}{ps:List Str}{scope:Scope}{A:Around}{s:Shared}{vs:List V}
  (S:FnScope N ps scope) (hd:A.handled=none) (e0:Env0 P w K mg base A outer s H) (hl:vs.length=ps.length) (r:Vals vs us)
  (x:InCallC s s.heap.objs.size (bindL (envOfC qual scope s.heap.objs.size f cd).kindOf (ps.zip us) λ_=>none) (cellsFrom (s.heap.objs.size+1) scope.names []) (bindC (envOfC qual scope s.heap.objs.size f cd).kindOf (ps.zip us) λ_=>none) s1) :
  Inv (cg CX P w K mg base N qual scope f cd A outer s H E) [] (start N vs) H s1:=by
 have Kt:ps.length<=N.length:=by have:=congrArg List.length S.pre;rw[List.length_take]at this;omega
 obtain⟨h1,tk,rfl,hk⟩:=x.done;have NU:∀b:Addr,b∉(cg CX P w K mg base N qual scope f cd A outer s H E).ex:=λb z=>absurd (show b∈([]:List Addr) from z) (by simp)
 refine⟨⟨e0.mod,S.kind,rfl,rfl,Jp _,λy z c h1 h2=>?_,λy hy=>?_,λy c _ h=>?_,λ_=>hd,Around.frames_deeper e0.frames,.inr ⟨rfl,rfl⟩,λb z=>absurd z (NU b),e0.bs,e0.bsz,λb _ _=>NU b,λb z=>absurd z (NU b),e0.funs,e0.frf⟩,
  rfl,e0.bare,Un.kept hk,⟨_,x.toInCall.ns,λi y v h1 h2 h3=>?_⟩,λy c h=>⟨_,x.cell y c h⟩,e0.j_.fresh (Jp _),λy c h=>?_,λp hp=>absurd (show p∈([]:List (Addr×Obj)) from hp) (by simp),e0.j_.kept hk,?_⟩
 ·exact name_of_addr x.apart (PySem.mem_of_lookup h1) (PySem.mem_of_lookup h2)
 ·have hy:scope.names.lookup y=some .cell\/scope.names.lookup y=some .free:=hy;rcases hy with hy|hy
  ·exact nI hy
  ·exact absurd rfl (S.nofree _ (PySem.mem_of_lookup hy))
 ·exact Nat.le_of_lt (x.above y c (PySem.mem_of_lookup h))
 ·have hi:i<vs.length:=by
   unfold start at h2;by_cases hi:i<vs.length
   ·exact hi
   ·rw[List.getElem?_append_right (by simpa using hi)]at h2
    rw[List.getElem?_replicate]at h2;split at h2<;>cases h2
  have ha:vs[i]?=some v:=by
   unfold start at h2;rw[List.getElem?_append_left (by simpa using hi),Jz]at h2
   cases e:vs[i]? with
   |none=>rw[e]at h2;cases h2
   |some a=>rw[e]at h2;cases h2;rfl
  obtain⟨u,hu,rv⟩:=r.get ha;have hp:ps[i]?=some y:=by
   rw[<-S.pre,List.getElem?_take_of_lt (by omega)];exact h1
  have QU:ps.Nodup:=by rw[<-S.pre];exact S.nd.sublist (List.take_sublist _ _)
  refine⟨u,rv,?_⟩;rcases S.par y (Ka hp) with k|k
  ·exact .inl ⟨k,md QU hp hu k⟩
  ·obtain⟨c,e⟩:=nI (n:=s.heap.objs.size+1) k;refine .inr ⟨.inl k,c,e,?_⟩;have q:=x.cell y c e;rw[lJ QU hp hu (by show scope.names.lookup y≠_;rw[k];decide)]at q
   exact q
 ·exact e0.j_.fresh (Nat.le_of_lt (x.above y c (PySem.mem_of_lookup h)))
 ·unfold start;show _=N.length;rw[JR,Jv,List.length_replicate];omega
theorem wl{CX:CXT}{P:Program}{w:World}{K:Ks}{mg:Str->Option Value}{base:Heap}{k:Nat}{f:Addr}{name qual:Str}{params:Arguments}{body:List Stmt}{scope:Scope}{dV kV doc pm Kw ct oc:Value}{an od:Option Addr}
  {Ll:Array (Option Value)}{N ps:List Str}{sp:Sp} (lk:K.lookup f=some ⟨oc,od,.func (PySem.W.fnOf name qual params body scope dV kV doc pm an Kw ct),Ll⟩) (K9:PySem.W.codeIn K Kw qual=true) (S:FnScope N ps scope)
  (len:∀vs H Q E,sp vs H Q E->vs.length=ps.length)
  (NV:∀(A:Around)(outer:List Env)(s:Shared)(H:Hp)(vs:List V)(Q:VK)(E:XK),Room k (A.deeper (envOfC qual scope s.heap.objs.size f Kw))->sp vs H Q E->
   ∃t,PSs (cg CX P w K mg base N qual scope f Kw A outer s H E) body t/\t {nx:=λ_ H'=>Q .i_ H',rt:=Q} (start N vs) H) :
  FnOk P w K mg base CX (k+1) f (PySem.W.fnOf name qual params body scope dV kV doc pm an Kw ct) ps sp:=by
 refine⟨len,λA outer s H args us vs Q E hr e0 hb r MF=>?_⟩
 have hl:=len _ _ _ _ MF;have KX:K.In s.heap:=e0.mod.kin.keeps λb o e=>(e0.bs b o e).1
 have S9:s.heap.NoLimit:=e0.mod.nolimit.keeps λb o e=>(e0.bs b o e).1
 have NW:∀y∈ps.zip us,scope.names.lookup y.1=some .local\/(scope.names.lookup y.1=some .cell/\((cellsFrom (s.heap.objs.size+1) scope.names []).lookup y.1).isSome=true):=λ⟨n,v⟩ hy=>by
  rcases S.par n (List.of_mem_zip hy).1 with q|q
  ·exact .inl q
  ·exact .inr ⟨q,PySem.W.cellsFrom_some _ _ _ (.inl q)⟩
 refine codeAny_call_function hr.depth (KX _ _ lk) rfl S.co S.gen rfl (PySem.W.codeRec_of KX K9) (hb _ _ _ _ ?_);refine wpAny_newFunctionEnv_cells S.kind NW λenv he s1 x=>?_
 subst he;refine⟨S9.keeps x.toInCall.keep,codeAny_func ?_⟩;obtain⟨t,ht,hq⟩:=NV A outer s H vs Q E (hr.deeper _) MF;have I:Inv (cg CX P w K mg base N qual scope f Kw A outer s H E) [] (start N vs) H s1:=tM S hr.hd e0 hl r x;refine Km (ht [] s1 (start N vs) H _ I hq) (λfl s' hs=>?_) λe s' hs=>hs
 have fin:∀{m_:St}{H':Hp}{v:V}{u:Value},Inv (cg CX P w K mg base N qual scope f Kw A outer s H E) [] m_ H' s'->RelV v u->Q v H'->CE outer P w H s Q u s':=
  λ{m_ H' v u} J rv q=>⟨v,H',J.os,J.bare,J.base,J.j_,rv,q⟩
 cases fl with
 |ret u=>
  obtain⟨v,m_,H',J,rv,q⟩:=hs;exact fin J rv q
 |next=>
  obtain⟨m_,H',J,q⟩:=hs;exact fin (v:=V.i_) (u:=Value.none) J rfl q
 |brk=>
  obtain⟨_,_,_,q⟩:=hs;exact False.elim q
 |cont=>
  obtain⟨_,_,_,q⟩:=hs;exact False.elim q
section
variable {X:Cx}{x:Str}{p pos:Pos}{id:String}
noncomputable def tCB(r:List V->Hp->VK->Prop)(t:TA):TE:=λZ H Q=>t Z H λvs H1=>r vs H1 Q
theorem jO(hc:CallR X (.builtin id) r)(hg:Gl X x)(hm:X.mg x=none)(hv:bootBuiltins x=some (.builtin id))(ha:PA X (e::es) t)(hn:x≠"__name__":=by decide)(KU:(x == ("__debug__" : Str))=false:=by decide)
  (he:starEach (e::es) X.env=(false,eval e X.env)::starEach es X.env:=by rfl) (Kt:(backTo pos (starEach es X.env)).any (·.1)=false:=by rfl):PE X (.Call (.Name x p) (e::es) [] pos) (tCB r t):=by
 intro a_ s Z H Q I h;refine wpAny_Call_Name_kw (iC I hg hm hv ?_ hn KU);exact PyProof.Rows.callWith_builtin1 (thn (ha pos a_ s Z H _ I h) λus s1 ⟨vs,H1,I1,r1,q1⟩=>hc a_ s1 Z H1 vs us Q I1 r1 q1) he Kt
theorem lT(hc:CallR X (.type T) r)(hg:Gl X x)(hm:X.mg x=none)(hv:bootBuiltins x=some (.type T))(ha:PA X (e::es) t)(hn:x≠"__name__":=by decide)(KU:(x == ("__debug__" : Str))=false:=by decide)
  (he:starEach (e::es) X.env=(false,eval e X.env)::starEach es X.env:=by rfl) (Kt:(backTo pos (starEach es X.env)).any (·.1)=false:=by rfl):PE X (.Call (.Name x p) (e::es) [] pos) (tCB r t):=by
 intro a_ s Z H Q I h;refine wpAny_Call_Name_kw (iC I hg hm hv ?_ hn KU);exact PyProof.Rows.callWith_type1 (thn (ha pos a_ s Z H _ I h) λus s1 ⟨vs,H1,I1,r1,q1⟩=>hc a_ s1 Z H1 vs us Q I1 r1 q1) he Kt
end
section
variable [DecidableEq κ]
noncomputable def d5(l_:List (κ×V))(k:κ):Option V:=(l_.find? λkv=>decide (kv.1=k)).map (·.2)
noncomputable def dO(l_:List (κ×V))(k:κ)(v:V):List (κ×V):=
 if (l_.any λkv=>decide (kv.1=k))=true then l_.map (λkv=>if kv.1=k then (kv.1,v) else kv) else l_++[(k,v)]
theorem eO{p:κ×V}(e:p.1=k):d5 (p::r) k=some p.2:=by simp[d5,J7,e]
theorem dh{p:κ×V}(e:¬ p.1=k):d5 (p::r) k=d5 r k:=by simp[d5,J7,e]
theorem oz(k:κ):∀l_:List (κ×V),(l_.any λkv=>decide (kv.1=k))=(d5 l_ k).isSome
 |[]=>rfl
 |p::r=>by
  rw[List.any_cons];by_cases e:p.1=k
  ·simp only[eO e,decide_eq_true e,Bool.true_or,Option.isSome_some]
  ·rw[dh e,J5 e,Bool.false_or];exact oz k r
theorem iP(l_:List (κ×V))(k:κ)(v:V):(dO l_ k v).length<=l_.length+1:=by
 unfold dO;split
 ·rw[Jv];omega
 ·rw[JR,Jx,List.length_nil];omega
theorem RelO.isSome_eq{o:Option V}{u:Option Value}(r:RelO o u):o.isSome=u.isSome:=by
 cases o with
 |none=>cases u with
  |none=>rfl
  |some _=>exact (show False from r).elim
 |some _=>cases u with
  |none=>exact (show False from r).elim
  |some _=>rfl
theorem RelO.getD{o:Option V}{u:Option Value}(r:RelO o u)(rd:RelV d d'):RelV (o.getD d) (u.getD d'):=by
 cases o with
 |none=>cases u with
  |none=>exact rd
  |some _=>exact (show False from r).elim
 |some _=>cases u with
  |none=>exact (show False from r).elim
  |some _=>exact r
theorem KV.val(r:KV l_ vs)(k:κ):RelO (d5 l_ k) (valueAt vs k):=by
 unfold KV at r
 induction r with
 |nil=>exact True.intro
 |@cons p q ps qs h t ih=>
  obtain⟨h1,h2⟩:=h;by_cases e:p.1=k
  ·have e':q.1=k:=h1.symm.trans e;have b:valueAt (q::qs) k=some q.2:=by simp[valueAt,J7,e']
   rw[eO e,b];exact h2
  ·have e':¬ q.1=k:=λz=>e (h1.trans z)
   have b:valueAt (q::qs) k=valueAt qs k:=by simp[valueAt,J7,e']
   rw[dh e,b];exact ih
theorem KV.any{l_:List (κ×V)}{vs:List (κ×Value)}(r:KV l_ vs)(k:κ):(l_.any λkv=>decide (kv.1=k))=vs.any λkv=>decide (kv.1=k):=by
 unfold KV at r
 induction r with
 |nil=>rfl
 |cons h t ih=>rw[List.any_cons,List.any_cons,ih,h.1]
theorem KV.repl{l_:List (κ×V)}{vs:List (κ×Value)}(r:KV l_ vs)(k:κ)(ry:RelV y u) :
  KV (l_.map λkv=>if kv.1=k then (kv.1,y) else kv) (vs.map λkv=>if kv.1=k then (kv.1,u) else kv):=by
 unfold KV at r ⊢
 induction r with
 |nil=>exact .nil
 |@cons p q ps qs h t ih=>
  rw[List.map_cons,List.map_cons];refine .cons ?_ ih;obtain⟨h1,h2⟩:=h;by_cases e:p.1=k
  ·rw[Js e,Js (h1.symm.trans e)];exact⟨h1,ry⟩
  ·rw[Jm e,Jm (λz=>e (h1.trans z))];exact⟨h1,h2⟩
theorem KV.put(r:KV l_ vs)(k:κ)(ry:RelV y u):KV (dO l_ k y) (stored vs k u):=by
 unfold dO stored;rw[r.any k];by_cases e:(vs.any λkv=>decide (kv.1=k))=true
 ·rw[Js e,Js e];exact r.repl k ry
 ·rw[Jm e,Jm e];exact Paired.snoc r ⟨rfl,ry⟩
theorem KV.keys{l_:List (κ×V)}{vs:List (κ×Value)}(r:KV l_ vs):l_.map (·.1)=vs.map (·.1):=by
 unfold KV at r
 induction r with
 |nil=>rfl
 |cons h t ih=>rw[List.map_cons,List.map_cons,ih,h.1]
theorem KV.length{l_:List (κ×V)}{vs:List (κ×Value)}(r:KV l_ vs):l_.length=vs.length:=Paired.length r
end
theorem j5(r:RelV (kV k) u):(aD P w).is k u=true:=by
 cases k with
 |inl i=>obtain⟨t,e⟩:=(show ∃t,u=Value.int i t from r);subst e;exact nH P w i t
 |inr x=>obtain⟨t,e⟩:=(show ∃t,u=Value.str x t from r);subst e;exact pB P w x t
theorem lL:∀{ks:List Key}{us:List Value},Vals (ks.map kV) us->ItemsAre (aD P w) ks us
 |[],_,r=>by rw[List.map_nil]at r;cases r;exact .nil
 |k::ks,_,r=>by
  rw[List.map_cons]at r;cases r with
  |cons h t=>exact .cons (j5 h) (lL t)
abbrev KT(H:Hp):List (List Key×V)->List (List Key×Addr×Value)->Prop:=Paired λp q=>p.1=q.1/\H q.2.1=some (.tup (p.1.map kV))/\RelV p.2 q.2.2
theorem KT.val(r:KT H l_ xs)(k:List Key):RelO (d5 l_ k) ((atKey xs k).map (·.2)):=by
 induction r with
 |nil=>exact True.intro
 |@cons p q ps qs h t ih=>
  obtain⟨h1,_,h2⟩:=h;by_cases e:p.1=k
  ·have e':q.1=k:=h1.symm.trans e;have b:atKey (q::qs) k=some q.2:=by simp[atKey,J7,e']
   rw[eO e,b];exact h2
  ·have e':¬ q.1=k:=λz=>e (h1.trans z)
   have b:atKey (q::qs) k=atKey qs k:=by simp[atKey,J7,e']
   rw[dh e,b];exact ih
theorem KT.repl{l_:List (List Key×V)}{xs:List (List Key×Addr×Value)}(r:KT H l_ xs)(k:List Key)(ry:RelV y u) :
  KT H (l_.map λkv=>if kv.1=k then (kv.1,y) else kv) (xs.map (putAt k u)):=by
 induction r with
 |nil=>exact .nil
 |@cons p q ps qs h t ih=>
  rw[List.map_cons,List.map_cons];refine .cons ?_ ih;obtain⟨h1,h2,h3⟩:=h;unfold putAt;by_cases e:p.1=k
  ·rw[Js e,Js (h1.symm.trans e)];exact⟨h1,h2,ry⟩
  ·rw[Jm e,Jm (λz=>e (h1.trans z))];exact⟨h1,h2,h3⟩
theorem KT.put(r:KT H l_ xs)(k:List Key)(hb:H b=some (.tup (k.map kV)))(ry:RelV y u) :
  KT H (dO l_ k y) (storedH xs k b u):=by
 have e:(l_.any λkv=>decide (kv.1=k))=(atKey xs k).isSome:=by
  rw[oz,(r.val k).isSome_eq,Option.isSome_map]
 unfold dO storedH;rw[e];by_cases q:(atKey xs k).isSome=true
 ·rw[Js q,Js q];exact r.repl k ry
 ·rw[Jm q,Jm q];exact Paired.snoc r ⟨rfl,hb,ry⟩
theorem KT.keeps(r:KT H l_ xs)(ht:∀b ys,H b=some (.tup ys)->H' b=some (.tup ys)):KT H' l_ xs:=
 Paired.mapP r λ_ _ z=>⟨z.1,ht _ _ z.2.1,z.2.2⟩
section
variable {w:World}{h:Heap}{a:Addr}
theorem zX(ok:HOk P w H h)(e:Rd H a u):ObjOk P w H h a u:=e.ok ok
theorem iX{l_:List (Key×V)}(ok:HOk P w H h)(e:Rd H a (.dK l_)):l_.length<=sizeLine/\(a == sysModules)=false/\∃vs,KV l_ vs/\h.DictOf (aD P w) a vs:=
 show ObjOk P w H h a (.dK l_) from zX ok e
theorem zR{l_:List (Key×V)}(ok:HOk P w H h)(e:H a=some (.dK l_)):l_.length<=sizeLine/\(a == sysModules)=false/\∃vs,KV l_ vs/\h.DictOf (aD P w) a vs:=iX ok (.inl e)
theorem fG{ks:List Key}(ok:HOk P w H h)(e:H a=some (.tup (ks.map kV))):(tupleKind (aD P w)).is h ks a:=by
 obtain⟨_,its,r,o,h1,h2,n,h3⟩:=(show ObjOk P w H h a (.tup (ks.map kV)) from ok a _ e);exact⟨o,its.toArray,n,h1,h2,h3,by simpa using lL r⟩
theorem lZ{l_:List (List Key×V)}(ok:HOk P w H h)(e:Rd H a (.dT l_)):l_.length<=sizeLine/\(a == sysModules)=false/\
  ∃xs,KT H l_ xs/\h.DictOfH (tupleKind (aD P w)) a xs:=by
 obtain⟨z,y,xs,r,o,es,ep,h1,h2,h3,h4,h5⟩:=(show ObjOk P w H h a (.dT l_) from zX ok e);refine⟨z,y,xs,r,o,es,ep,h1,h2,h3,h4,λx hx=>?_,h5⟩
 have all:∀{l:List (List Key×V)}{m:List (List Key×Addr×Value)},KT H l m->∀x∈m,(tupleKind (aD P w)).is h x.1 x.2.1:=by
  intro l m q
  induction q with
  |nil=>intro x hx;exact nomatch hx
  |@cons p q ps qs hq t ih=>
   intro x hx;rcases Jq.mp hx with e|hx
   ·subst e;exact fG ok (by rw[<-hq.1];exact hq.2.1)
   ·exact ih x hx
 exact all r x hx
theorem Dw{l_:List (List Key×V)}(ok:HOk P w H h)(e:H a=some (.dT l_)):l_.length<=sizeLine/\(a == sysModules)=false/\
  ∃xs,KT H l_ xs/\h.DictOfH (tupleKind (aD P w)) a xs:=lZ ok (.inl e)
end
def DGet(H:Hp)(a:Addr)(y:V)(r:Option V):Prop:=
 (∃l_ k,Rd H a (.dK l_)/\y=kV k/\r=d5 l_ k)\/∃l_ k b,Rd H a (.dT l_)/\y=.ref b/\H b=some (.tup (k.map kV))/\r=d5 l_ k
def DPut(H:Hp)(a:Addr)(y v:V)(H':Hp):Prop:=
 (∃l_ k,H a=some (.dK l_)/\y=kV k/\l_.length<sizeLine/\H'=upd H a (.dK (dO l_ k v)))\/
 ∃l_ k b,H a=some (.dT l_)/\y=.ref b/\H b=some (.tup (k.map kV))/\l_.length<sizeLine/\H'=upd H a (.dT (dO l_ k v))
section
variable {X:Cx}{s:Shared}{a:Addr}{y:V}{o:Option V}{A:Around}
theorem tR(hu:A.units+1<cLine)(I:Inv X a_ Z H s)(g:DGet H a y (some v))(ry:RelV y u)(h:∀w' s',Inv X a_ Z H s'->RelV v w'->Q w' s') :
  wpAny (model X.prog X.w) A (getItem (.ref a) u) Q E s:=by
 rcases g with ⟨l_,k,e,ey,l⟩|⟨l_,k,b,e,ey,eb,l⟩
 ·subst ey;obtain⟨z,hd,vs,rel,dd⟩:=iX I.j_ e;obtain⟨w',hw,KG⟩:=RelO.some_of (v:=v) (o:=valueAt vs k) (by rw[l];exact rel.val k)
  exact wpAny_getItem_of (j5 ry) dd.mapOf hw (h w' _ (I.tok _) KG)
 ·subst ey;cases (show u=Value.ref b from ry);obtain⟨z,hd,xs,rel,dd⟩:=lZ I.j_ e;obtain⟨w',hw,KG⟩:=RelO.some_of (v:=v) (o:=(atKey xs k).map (·.2)) (by rw[l];exact rel.val k)
  obtain⟨p,hp,Pq⟩:=Option.map_eq_some_iff.mp hw;refine wpAny_getItem_heap (JU hu) (fG I.j_ eb) dd hp ?_;rw[Pq];exact h w' _ (I.tok _) KG
theorem GS(hu:A.units+1<cLine)(I:Inv X a_ Z H s)(g:DGet H a y o)(ry:RelV y u)(h:∀s',Inv X a_ Z H s'->Q (.bool o.isSome) s') :
  wpAny (model X.prog X.w) A (compareOp .In u (.ref a)) Q E s:=by
 rcases g with ⟨l_,k,e,ey,l⟩|⟨l_,k,b,e,ey,eb,l⟩
 ·subst ey;obtain⟨z,hd,vs,rel,dd⟩:=iX I.j_ e;refine wpAny_in_of (j5 ry) hd dd.mapOf ?_;rw[<-(rel.val k).isSome_eq,<-l];exact h _ (I.tok _)
 ·subst ey;cases (show u=Value.ref b from ry);obtain⟨z,hd,xs,rel,dd⟩:=lZ I.j_ e;refine wpAny_in_heap (JU hu) (fG I.j_ eb) hd dd ?_;have q:=(rel.val k).isSome_eq;rw[Option.isSome_map]at q;rw[<-q,<-l];exact h _ (I.tok _)
theorem yi(hu:A.units+1<cLine)(I:Inv X a_ Z H s)(g:DGet H a y o)(ry:RelV y u)(h:∀s',Inv X a_ Z H s'->Q (.bool (!o.isSome)) s') :
  wpAny (model X.prog X.w) A (compareOp .NotIn u (.ref a)) Q E s:=by
 rcases g with ⟨l_,k,e,ey,l⟩|⟨l_,k,b,e,ey,eb,l⟩
 ·subst ey;obtain⟨z,hd,vs,rel,dd⟩:=iX I.j_ e;refine wpAny_notIn_of (j5 ry) hd dd.mapOf ?_;rw[<-(rel.val k).isSome_eq,<-l];exact h _ (I.tok _)
 ·subst ey;cases (show u=Value.ref b from ry);obtain⟨z,hd,xs,rel,dd⟩:=lZ I.j_ e;refine wpAny_notIn_heap (JU hu) (fG I.j_ eb) hd dd ?_;have q:=(rel.val k).isSome_eq;rw[Option.isSome_map]at q;rw[<-q,<-l];exact h _ (I.tok _)
theorem jg{h':Heap}(I:Inv X a_ Z H s)(mu:Mut (H a))(hs:Heap.SameBut a s.heap h')(he:∃q,h'.get? a=some q)(new:ObjOk X.prog X.w (upd H a ob) h' a ob) :
  Inv X a_ Z (upd H a ob) {s with heap:=h',toks:=t'}:=
 I.write (x:=a) (e:=a) mu (.inl rfl) (λb q hb z=>(hs.2 b hb).trans z) he new
theorem B2{h':Heap}{l_:List (Key×V)}(z:l_.length<=sizeLine)(hd:(a == sysModules)=false)(rel:KV l_ vs)(dd:h'.DictOf (aD P w) a vs) :
  ObjOk P w H' h' a (.dK l_):=⟨z,hd,vs,rel,dd⟩
theorem ui(hu:A.units+1<cLine)(I:Inv X a_ Z H s)(g:DPut H a y v H')(ry:RelV y u)(rv:RelV v r)(h:∀s',Inv X a_ Z H' s'->Q () s') :
  wpAny (model X.prog X.w) A (setItem (.ref a) u r) Q E s:=by
 rcases g with ⟨l_,k,e,ey,l,eH⟩|⟨l_,k,b,e,ey,eb,l,eH⟩
 ·subst ey eH;obtain⟨z,hd,vs,rel,dd⟩:=zR I.j_ e;have hz:vs.length<=sizeLine:=by rw[<-rel.length];exact z
  have hl:(dO l_ k v).length<=sizeLine:=by have:=iP l_ k v;omega
  refine wpAny_setItem_pairs (hsz:=hz) (j5 ry) dd λh' MG hs=>h _ ?_
  have he:∃q,h'.get? a=some q:=let ⟨q,_,_,hq,_⟩:=MG;⟨q,hq⟩
  exact jg I (by rw[e];exact True.intro) hs he (B2 hl hd (rel.put k rv) MG)
 ·subst ey eH;cases (show u=Value.ref b from ry);obtain⟨z,hd,xs,rel,dd⟩:=Dw I.j_ e;have hz:xs.length<=sizeLine:=by rw[<-Paired.length rel];exact z
  have hl:(dO l_ k v).length<=sizeLine:=by have:=iP l_ k v;omega
  refine wpAny_setItem_heap (hsz:=hz) (JU hu) (fG I.j_ eb) dd λh' MG hs=>h _ ?_
  obtain⟨q,es,ep,hq,h2,h3,h4,_,h5⟩:=MG;refine jg I (by rw[e];exact True.intro) hs ⟨q,hq⟩ ⟨hl,hd,_,(rel.put k eb rv).keeps λc ys ec=>?_,q,es,ep,hq,h2,h3,h4,h5⟩
  rw[ae (db ec e (λz=>nomatch z))]
  exact ec
end
section
variable {X:Cx}{s:Shared}{a:Addr}{l_:List (Key×V)}{A:Around}
end
section
variable {X:Cx}{o:Expr}{pos:Pos}
end
section
variable {X:Cx}
end
structure M1 (X:Cx)(o:Expr)(m:Str)(n_:Pos)(e:Expr)(p_:Pos):Prop where
 base:attributeBase o m X.env (eval o X.env)=eval o X.env
 Pr:((backTo p_ (starEach [e] X.env)).all (λx=>!x.1)&&(backToKw p_ (keywordEach [] X.env)).all (λx=>x.1.isSome)
  &&decide (([e]:List Expr).length+([]:List Keyword).length+(if ([]:List Keyword).isEmpty then 0 else 1)<30))=true
 line:(n_.endLine == p_.line)=true
 trees:backTo p_ (starEach [e] X.env)=[(false,eval e X.env)]
structure M2 (X:Cx)(o:Expr)(m:Str)(n_:Pos)(e f:Expr)(p_:Pos):Prop where
 base:attributeBase o m X.env (eval o X.env)=eval o X.env
 Pr:((backTo p_ (starEach [e,f] X.env)).all (λx=>!x.1)&&(backToKw p_ (keywordEach [] X.env)).all (λx=>x.1.isSome)
  &&decide (([e,f]:List Expr).length+([]:List Keyword).length+(if ([]:List Keyword).isEmpty then 0 else 1)<30))=true
 line:(n_.endLine == p_.line)=true
 trees:backTo p_ (starEach [e,f] X.env)=[(false,eval e X.env),(false,eval f X.env)]
section
variable {X:Cx}{s:Shared}{a:Addr}{y d:V}{o:Option V}{A:Around}
theorem BX(hu:A.units+1<cLine)(I:Inv X a_ Z H s)(g:DGet H a y o)(ry:RelV y u)(h:∀w' s',Inv X a_ Z H s'->RelV (o.getD .i_) w'->Q w' s') :
  wpAny (model X.prog X.w) A (call (.builtin "dict.get") [.ref a,u]) Q E s:=by
 rcases g with ⟨l_,k,e,ey,l⟩|⟨l_,k,b,e,ey,eb,l⟩
 ·subst ey;obtain⟨z,hd,vs,rel,dd⟩:=iX I.j_ e;refine call_meetsIn PySem.F.slot_dict_get dd.typeIs PySem.F.entry_dict_get (PySem.F.args_dict_get_2 _ _) (meets_dict_get (aD X.prog X.w) a (j5 ry) hd) ⟨_,dd.mapOf,h _ _ (I.tok _) ?_⟩;rw[l];exact (rel.val k).getD rfl
 ·subst ey;cases (show u=Value.ref b from ry);obtain⟨z,hd,xs,rel,dd⟩:=lZ I.j_ e;refine call_meetsIn PySem.F.slot_dict_get dd.typeIs PySem.F.entry_dict_get (PySem.F.args_dict_get_2 _ _) (meetsH_dict_get (tupleKind (aD X.prog X.w)) a b hd) ⟨JU hu,k,xs,fG I.j_ eb,dd,h _ _ (I.tok _) ?_⟩;rw[l];exact (rel.val k).getD rfl
theorem BH(hu:A.units+1<cLine)(I:Inv X a_ Z H s)(g:DGet H a y o)(ry:RelV y u)(rd:RelV d r)(h:∀w' s',Inv X a_ Z H s'->RelV (o.getD d) w'->Q w' s') :
  wpAny (model X.prog X.w) A (call (.builtin "dict.get") [.ref a,u,r]) Q E s:=by
 rcases g with ⟨l_,k,e,ey,l⟩|⟨l_,k,b,e,ey,eb,l⟩
 ·subst ey;obtain⟨z,hd,vs,rel,dd⟩:=iX I.j_ e;refine call_meetsIn PySem.F.slot_dict_get dd.typeIs PySem.F.entry_dict_get (PySem.F.args_dict_get_3 _ _ _) (meets_dict_get_default (aD X.prog X.w) a (j5 ry) hd r) ⟨_,dd.mapOf,h _ _ (I.tok _) ?_⟩;rw[l];exact (rel.val k).getD rd
 ·subst ey;cases (show u=Value.ref b from ry);obtain⟨z,hd,xs,rel,dd⟩:=lZ I.j_ e;refine call_meetsIn PySem.F.slot_dict_get dd.typeIs PySem.F.entry_dict_get (PySem.F.args_dict_get_3 _ _ _) (meetsH_dict_get_default (tupleKind (aD X.prog X.w)) a b hd r) ⟨JU hu,k,xs,fG I.j_ eb,dd,h _ _ (I.tok _) ?_⟩;rw[l];exact (rel.val k).getD rd
end
section
variable {X:Cx}{o:Expr}
end
section
variable {X:Cx}{s:Shared}{a:Addr}{l_:List (Key×V)}{A:Around}
end
section
variable {X:Cx}{s:Shared}{a:Addr}{y:V}{A:Around}
end
end L2
namespace HT
open PySem PyProof.Rows
section
open PySem.SeqAt
open PySem.AutoSeq1 (wpAny_loadPart')
open PySem.MeetsSeq PySem.MeetsSeq2 PySem.MeetsSeq3
end
section
variable {w:World}{A:Around}{s:Shared}
theorem cat_tup{vs ws:List Value}(ht:IsTup s.heap t vs.toArray)(hb:IsTup s.heap b ws.toArray)(hv:vs≠[])
  (h1:ws=[]->Q (.ref t) s) (h2:ws≠[]->Q (.ref s.heap.objs.size) {s with heap:=s.heap.push {cls:=.type "tuple",data:=.seq (vs++ws).toArray}})
  (hsz:vs.length+ws.length<=sizeLine):wpAny (model prog w) A (binaryOp .Add (.ref t) (.ref b)) Q E s:=by
 obtain⟨⟨cls,dd,data,sl⟩,ho,hc,n,hd⟩:=id ht;obtain⟨⟨Pt,Mf,data2,LY⟩,MV,hc2,n2,hd2⟩:=id hb;simp only at hc hd hc2 hd2;subst hc hd hc2 hd2;have e:vs.toArray++ws.toArray=(vs++ws).toArray:=by simp
 by_cases hw:ws=[]
 ·exact concat_meets ⟨_,ho,rfl⟩ ⟨_,MV,rfl⟩ noFill_tuple_add seq_tuple_add PySem.F.slot_tuple_add PySem.F.entry_tuple_add (PySem.F.args_tuple_add_2 _ _)
   (tuple_addW1 t b vs.toArray ws.toArray n n2 dd Mf sl LY (by simpa using hv) (by simp[hw])) ⟨ho,MV,h1 hw⟩
 ·refine concat_meets ⟨_,ho,rfl⟩ ⟨_,MV,rfl⟩ noFill_tuple_add seq_tuple_add PySem.F.slot_tuple_add PySem.F.entry_tuple_add (PySem.F.args_tuple_add_2 _ _)
   (tuple_addW2 t b vs.toArray ws.toArray n n2 dd Mf sl LY (by simpa using hv) (by simpa using hw) (by rw[List.size_toArray,List.size_toArray];exact hsz)) ⟨ho,MV,?_⟩
  rw[e];exact h2 hw
noncomputable def sIx(n d:Nat):Option Int->Nat
 |none=>d
 |some v=>if v<0 then (v+(n:Int)).toNat else min v.toNat n
theorem sIx_none(n d:Nat):sIx n d none=d:=rfl
theorem sIx_nat(n d k:Nat):sIx n d (some (k:Int))=min k n:=by
 show (if (k:Int)<0 then ((k:Int)+(n:Int)).toNat else min (k:Int).toNat n)=min k n
 rw[if_neg (by omega),Int.toNat_natCast]
theorem Ar(n d:Nat)(hd:d<=n)(o:Option Int):sIx n d o<=n:=by
 cases o with
 |none=>exact hd
 |some v=>
  show (if v<0 then (v+(n:Int)).toNat else min v.toNat n)<=n
  by_cases hv:v<0
  ·rw[if_pos hv];omega
  ·rw[if_neg hv];exact Nat.min_le_right _ _
theorem rP(v:Int)(n d:Nat):(if v<0 then max (v+(n:Int)) 0 else min v (n:Int))=((sIx n d (some v):Nat):Int):=by
 show (if v<0 then max (v+(n:Int)) 0 else min v (n:Int))=(((if v<0 then (v+(n:Int)).toNat else min v.toNat n):Nat):Int)
 by_cases hv:v<0
 ·simp only[if_pos hv];omega
 ·simp only[if_neg hv];omega
theorem qL(lo hi:Option Int)(n:Nat):Builtin.Slice.sliceAdjust lo hi 1 (n:Int)=(((sIx n 0 lo:Nat):Int),((sIx n n hi:Nat):Int)):=by
 have h1:¬ ((1:Int)<0):=by omega
 unfold Builtin.Slice.sliceAdjust;simp only[h1,if_false];refine Prod.ext ?_ ?_
 ·cases lo with
  |none=>rfl
  |some v=>exact rP v n 0
 ·cases hi with
  |none=>rfl
  |some v=>exact rP v n n
theorem qr(i j:Nat):Builtin.Slice.slicePlaces (i:Int) (j:Int) 1=j-i:=by
 unfold Builtin.Slice.slicePlaces;have h1:(1:Int) > 0:=by omega
 simp only[h1,if_true,Int.ediv_one];split<;>omega
theorem kj(p:IsPart v o)(h:Q o s):wpAny (model prog w) A (Builtin.Slice.slicePartIndex v) Q E s:=by
 cases p with
 |none=>exact slicePart_none h
 |int i t=>exact slicePart_int h
theorem iw{sl:Addr}{vl vu:Value}{lo hi:Option Int}{n:Nat}{Q:Int×Int×Nat->Shared->Prop}(hs:s.heap.IsSliceOf sl vl vu .none)(pl:IsPart vl lo)(pu:IsPart vu hi)
  (h:Q (((sIx n 0 lo:Nat):Int),1,sIx n n hi-sIx n 0 lo) s):wpAny (model prog w) A (Builtin.Slice.sliceApplied (.ref sl) (pure (n:Int))) Q E s:=by
 obtain⟨os,NZ,QV,OP⟩:=id hs;unfold Builtin.Slice.sliceApplied Builtin.Slice.sliceFields;refine wpAny_bind (wpAny_bind (wpAny_field NZ OP (x:=vl) rfl (wpAny_bind (wpAny_field NZ OP (x:=vu) rfl (wpAny_bind (wpAny_field NZ OP (x:=.none) rfl (wpAny_pure ?_)))))));refine wpAny_bind (slicePart_none ?_);show wpAny _ _ (if ((1:Int) == 0)=true then _ else _) _ _ s
 rw[if_neg (by decide)]
 refine wpAny_bind (kj pl (wpAny_bind (kj pu (wpAny_bind (wpAny_pure ?_)))));show wpAny _ _ (match Builtin.Slice.sliceAdjust lo hi 1 (n:Int) with|(lo,hi)=>pure (lo,(1:Int),Builtin.Slice.slicePlaces lo hi 1)) _ _ s
 rw[qL lo hi n];show wpAny _ _ (pure (((sIx n 0 lo:Nat):Int),(1:Int),Builtin.Slice.slicePlaces ((sIx n 0 lo:Nat):Int) ((sIx n n hi:Nat):Int) 1)) _ _ s;rw[qr];exact wpAny_pure h
theorem vh(xs:Array Value)(i k:Nat):((List.range k).filterMap λ(m:Nat)=>xs[((i:Int)+(m:Int)*1).toNat]?).toArray=((xs.toList.drop i).take k).toArray:=by
 have e:(λ(m:Nat)=>xs[((i:Int)+(m:Int)*1).toNat]?)=λm=>xs[i+m]?:=by
  funext m;have:((i:Int)+(m:Int)*1).toNat=i+m:=by omega
  rw[this]
 rw[e];have:=pick_run xs i k;rw[List.filterMap_map]at this;have e2:((λx=>xs[x]?)∘λx=>i+x)=λm=>xs[i+m]?:=rfl
 rw[e2]at this;rw[this]
theorem getItem_tuple_cut{items:Array Value}{lo:Option Int}(ht:IsTup s.heap t items)(hs:s.heap.IsSliceOf sl vl vu .none)(pl:IsPart vl lo)(pu:IsPart vu hi)
  (hw:¬ (sIx items.size 0 lo=0/\sIx items.size items.size hi=items.size))
  (h:Q (.ref s.heap.objs.size) {s with heap:=s.heap.push {cls:=.type "tuple",data:=.seq ((items.toList.drop (sIx items.size 0 lo)).take (sIx items.size items.size hi-sIx items.size 0 lo)).toArray}})
  (hsz:items.size<=sizeLine):wpAny (model prog w) A (getItem (.ref t) (.ref sl)) Q E s:=by
 have LL:sizeOk (.seq ((items.toList.drop (sIx items.size 0 lo)).take (sIx items.size items.size hi-sIx items.size 0 lo)).toArray):=by
  show ((items.toList.drop (sIx items.size 0 lo)).take (sIx items.size items.size hi-sIx items.size 0 lo)).toArray.size<=sizeLine;rw[List.size_toArray,List.length_take,List.length_drop,Array.length_toList];omega
 have hj:sIx items.size items.size hi<=items.size:=Ar _ _ (Nat.le_refl _) hi;obtain⟨os,NZ,QV,OP⟩:=id hs;have RG:s.TypeIs (.ref sl) "slice":=⟨os,NZ,QV⟩;unfold getItem
 try with_reducible refine wpAny_holding ?_
 first|refine wpAny_bind (wpAny_pure ?_)|skip
 refine wpAny_bind (wpAny_sequenceKey ht.typeIs (by decide) ?_)
 refine wpAny_bind (wpAny_callSpecial?_slot (name:=Str.ofString "__getitem__") ht.typeIs PyProof.Rows.slot_tuple_getitem
  (wpAny_call_entry PyProof.Rows.slot_tuple_getitem ht.typeIs entry_tuple_getitem ?_ (args_tuple_getitem _ _)))
 show wpAny _ _ (Builtin.Tuple.tupleItemsOf (.ref t) >>=_) _ _ s;refine wpAny_bind (tupleItemsOf_ ht ?_);refine wpAny_bind (wpAny_typeOf RG ?_);rw[if_pos (by decide)]
 refine wpAny_bind (iw hs pl pu ?_);have MI:¬ ((((sIx items.size 0 lo:Nat):Int) == 0&&(1:Int) == 1&&(sIx items.size items.size hi-sIx items.size 0 lo) == items.size)=true):=by
  intro q;rw[Bool.and_eq_true,Bool.and_eq_true]at q;have q1:((sIx items.size 0 lo:Nat):Int)=0:=eq_of_beq q.1.1;have q2:sIx items.size items.size hi-sIx items.size 0 lo=items.size:=eq_of_beq q.2;exact hw ⟨by omega,by omega⟩
 show wpAny _ _ (if (((sIx items.size 0 lo:Nat):Int) == 0&&(1:Int) == 1&&(sIx items.size items.size hi-sIx items.size 0 lo) == items.size)=true then _ else _) _ _ s
 rw[if_neg MI,vh]
 first
  |exact wpAny_bind (m:=Builtin.Tuple.tupleExact _) (wpAny_newObj_type (wpAny_pure ⟨_,rfl,wpAny_pure h⟩) LL)
  |exact wpAny_bind (m:=Builtin.Tuple.tupleExact _) (wpAny_newObj_type (wpAny_bind (wpAny_pure (wpAny_pure ⟨_,rfl,wpAny_pure h⟩))) LL)
  |exact wpAny_bind (wpAny_bind (m:=Builtin.Tuple.tupleExact _) (wpAny_newObj_type (wpAny_pure (wpAny_pure ⟨_,rfl,wpAny_pure h⟩)) LL))
  |exact wpAny_bind (wpAny_bind (m:=Builtin.Tuple.tupleExact _) (wpAny_newObj_type (wpAny_pure ⟨_,rfl,wpAny_pure h⟩) LL))
end
end HT
namespace L2
open PySem PySem.Spec PyProof.Rows
noncomputable abbrev TO:=St->Hp->(Option Int->Hp->Prop)->Prop
def PO(X:Cx)(e:Option Expr)(t:TO):Prop:=
 ∀(a_:List (Addr×Obj)) (s:Shared)(Z:St)(H:Hp)(Q:Option Int->Hp->Prop),Inv X a_ Z H s->t Z H Q->
  wpAny (model X.prog X.w) X.A (evalPart e X.env) (λu s'=>∃o H',Inv X a_ Z H' s'/\IsPart u o/\Q o H') X.xe s
noncomputable def tNoPart:TO:=λ_ H Q=>Q none H
noncomputable def DF(t:TE):TO:=λZ H Q=>t Z H λx H1=>∃i,x=.int i/\Q (some i) H1
section
variable {X:Cx}{lo:Option Expr}
theorem po_none:PO X none tNoPart:=by
 intro a_ s Z H Q I h;rw[evalPart_none];exact Jl ⟨none,H,I,.none,h⟩
theorem zj(h:PE X e te):PO X (some e) (DF te):=by
 intro a_ s Z H Q I hw;rw[evalPart_some];refine thn (h a_ s Z H _ I hw) λu s1 ⟨x,H1,I1,r1,q1⟩=>?_
 obtain⟨i,rfl,q⟩:=q1;obtain⟨t,rfl⟩:=r1;exact⟨some i,H1,I1,.int i t,q⟩
def SlR(X:Cx)(r:V->Option Int->Option Int->Hp->VK->Prop):Prop:=
 ∀(a_:List (Addr×Obj)) (s:Shared)(Z:St)(H:Hp)(x:V)(v vl vu:Value)(lo hi:Option Int)(sl:Addr)(Q:VK),Inv X a_ Z H s->RelV x v->s.heap.IsSliceOf sl vl vu .none->IsPart vl lo->IsPart vu hi->r x lo hi H Q->
  ∃T id,typeLookup (.type T) "__getitem__"=pure (some (.builtin id))/\s.TypeIs v T/\wpAny (model X.prog X.w) X.A (getItem v (.ref sl)) (EP X a_ Z Q) X.xe s
noncomputable def tSl(r:V->Option Int->Option Int->Hp->VK->Prop)(te:TE)(tl th:TO):TE:=λZ H Q=>te Z H λx H1=>tl Z H1 λl H2=>th Z H2 λu H3=>r x l u H3 Q
theorem uH(hr:SlR X r)(he:PE X e te)(hl:PO X lo tl)(hu:PO X hi th):PE X (.Subscript e (.Slice lo hi none p2) pos) (tSl r te tl th):=by
 intro a_ s Z H Q I h;refine Subscript_ (thn (he a_ s Z H _ I h) λv s1 ⟨x,H1,I1,r1,q1⟩=>?_)
 refine wpAny_Slice (thn (hl a_ s1 Z H1 _ I1 q1) λvl s2 ⟨l,H2,I2,pl,q2⟩=>thn (hu a_ s2 Z H2 _ I2 q2) λvu s3 ⟨u,H3,I3,pu,q3⟩=>?_)
 rw[evalPart_none];refine Jl ?_;have I4:Inv X a_ Z H3 {s3 with heap:=s3.heap.push {cls:=.type "slice",data:=.fields #[vl,vu,.none]}}:=I3.kept (t':=s3.toks) λb ob q=>Jn _ q
 obtain⟨T,id,hT,ht,hg⟩:=hr a_ {s3 with heap:=s3.heap.push {cls:=.type "slice",data:=.fields #[vl,vu,.none]}} Z H3 x v vl vu l u s3.heap.objs.size Q I4 r1 (Heap.IsSliceOf.new ..) pl pu q3
 show wpAny (model X.prog X.w) X.A (subscriptTail e (.Slice lo hi none p2) v (.ref s3.heap.objs.size)) (EP X a_ Z Q) X.xe {s3 with heap:=s3.heap.push {cls:=.type "slice",data:=.fields #[vl,vu,.none]}}
 exact tail_any (ops:=[.ref s3.heap.objs.size,v]) ht hT hg (by with_unfolding_all rfl)
noncomputable def qU(xs:List V)(lo hi:Option Int):List V:=(xs.drop (HT.sIx xs.length 0 lo)).take (HT.sIx xs.length xs.length hi-HT.sIx xs.length 0 lo)
theorem iY(xs:List V)(lo hi:Option Int):(qU xs lo hi).length<=xs.length:=by
 unfold qU;rw[List.length_take,List.length_drop];omega
def G4(K:Ks):V->Option Int->Option Int->Hp->VK->Prop:=λx lo hi H Q=>∃a xs,x=.ref a/\SqT K H a xs/\
 ¬ (HT.sIx xs.length 0 lo=0/\HT.sIx xs.length xs.length hi=xs.length)/\∀p,H p=none->Q (.ref p) (upd H p (.tup (qU xs lo hi)))
theorem AJ:SlR X (G4 X.K):=by
 intro a_ s Z H x v vl vu lo hi sl Q I rx hs pl pu h;obtain⟨a,xs,rfl,hx,hw,q⟩:=h;cases rx;obtain⟨its,r,ht,hz⟩:=I.tuple hx;have E_:its.toArray.size=xs.length:=by rw[Jy];exact r.length.symm
 refine⟨"tuple",_,PyProof.Rows.slot_tuple_getitem.lookup,ht.typeIs,?_⟩;refine HT.getItem_tuple_cut ht hs pl pu (by rw[E_];exact hw) ?_ (by rw[E_];exact hz)
 rw[E_];refine⟨.ref s.heap.objs.size,_,I.laid (t':=s.toks) (o:=.tup (qU xs lo hi)) (λb ob q=>Jn _ q) (Jp _) ?_,rfl,q _ (I.j_.fresh (Jp _))⟩
 exact⟨JF (iY xs lo hi) hz,_,(r.drop (HT.sIx xs.length 0 lo)).take (HT.sIx xs.length xs.length hi-HT.sIx xs.length 0 lo),IsTup.new _ _⟩
def DE(K:Ks):R2:=λx y H Q=>∃a b xs ys,x=.ref a/\y=.ref b/\SqT K H a xs/\SqT K H b ys/\xs≠[]/\xs.length+ys.length<=sizeLine/\
 (ys=[]->Q (.ref a) H)/\(ys≠[]->∀p,H p=none->Q (.ref p) (upd H p (.tup (xs++ys))))
theorem Vals.nil_iff(r:Vals xs us):us=[]<->xs=[]:=by
 cases r with
 |nil=>simp
 |cons _ _=>simp
theorem yO:OpR X (binaryOp .Add) (DE X.K):=by
 intro a_ s Z H x y v u Q I rx ry h;obtain⟨a,b,xs,ys,rfl,rfl,ha,hb,hx,hz,q1,q2⟩:=h;cases rx;cases ry;obtain⟨its,r1,p1,_⟩:=I.tuple ha;obtain⟨s_,r2,p2,_⟩:=I.tuple hb;refine HT.cat_tup p1 p2 (λz=>hx (r1.nil_iff.mp z)) (λz=>⟨.ref a,H,I,rfl,q1 (r2.nil_iff.mp z)⟩) (λz=>?_) (by rw[<-r1.length,<-r2.length];exact hz)
 refine⟨.ref s.heap.objs.size,_,I.laid (t':=s.toks) (o:=.tup (xs++ys)) (λb ob q=>Jn _ q) (Jp _) ?_,rfl,q2 (λw=>z (r2.nil_iff.mpr w)) _ (I.j_.fresh (Jp _))⟩
 exact⟨by rw[JR];exact hz,_,r1.append r2,IsTup.new _ _⟩
end
noncomputable def ixN(n:Nat)(i:Int):Option Nat:=if 0<=i then (if i<n then some i.toNat else none) else if -(n:Int)<=i then some (i+n).toNat else none
noncomputable def atI(xs:List α)(i:Int):Option α:=(ixN xs.length i).bind λj=>xs[j]?
theorem rH(h:ixN n i=some j):seqIndex? i n=some j/\j<n/\-(n:Int)<=i/\i<n:=by
 unfold ixN at h;by_cases h0:0<=i
 ·rw[Js h0]at h;by_cases h1:i<n
  ·rw[Js h1]at h;have e:i.toNat=j:=JE h;exact⟨by rw[seqIndex_of h0 h1,e],by omega,by omega,h1⟩
  ·rw[Jm h1]at h;cases h
 ·rw[Jm h0]at h;by_cases h1 : -(n:Int)<=i
  ·rw[Js h1]at h;have e:(i+n).toNat=j:=JE h;exact⟨by rw[seqIndex_neg (by omega) h1,e],by omega,h1,by omega⟩
  ·rw[Jm h1]at h;cases h
theorem mU{xs:List α}(h:atI xs i=some v):∃j,seqIndex? i xs.length=some j/\xs[j]?=some v/\j<xs.length/\-(xs.length:Int)<=i/\i<xs.length:=by
 unfold atI at h;cases e:ixN xs.length i with
 |none=>rw[e]at h;cases h
 |some j=>
  rw[e]at h;obtain⟨h1,h2,h3,h4⟩:=rH e;exact⟨j,h1,h,h2,h3,h4⟩
theorem bO{α:Type}{xs:List α}{j:Nat}{v:α}(h:xs[j]?=some v):atI xs (j:Int)=some v:=by
 have hj:j<xs.length:=(JQ.mp h).1;have e:ixN xs.length (j:Int)=some j:=by
  unfold ixN;rw[Js (by omega),Js (by omega)];simp
 unfold atI;rw[e];exact h
def mH(b:Expr):Prop:=∀o i,subscripted b false o i=operate [o,i] (getItem o i)
def IxR(X:Cx)(r:R2):Prop:=
 ∀(value KI:Expr) (a_:List (Addr×Obj)) (s:Shared)(Z:St)(H:Hp)(x y:V)(v u:Value)(Q:VK),Inv X a_ Z H s->RelV x v->RelV y u->r x y H Q->
  subscripted KI false v u=operate [v,u] (getItem v u)->wpAny (model X.prog X.w) X.A (subscriptTail value KI v u) (EP X a_ Z Q) X.xe s
def MtR(X:Cx)(id:String)(r:V->List V->Hp->VK->Prop):Prop:=
 ∀(a_:List (Addr×Obj)) (s:Shared)(Z:St)(H:Hp)(x:V)(xs:List V)(v:Value)(us:List Value)(Q:VK),Inv X a_ Z H s->RelV x v->Vals xs us->r x xs H Q->
  wpAny (model X.prog X.w) X.A (call (.builtin id) (v::us)) (EP X a_ Z Q) X.xe s
section
variable {X:Cx}{a:Expr}
theorem IxR.or(h:IxR X r)(h':IxR X r'):IxR X (λx y H Q=>r x y H Q\/r' x y H Q):=by
 intro value KI a_ s Z H x y v u Q I rx ry q hs;rcases q with q|q
 ·exact h value KI a_ s Z H x y v u Q I rx ry q hs
 ·exact h' value KI a_ s Z H x y v u Q I rx ry q hs
theorem Fk(hr:IxR X r)(ha:PE X a ta)(hb:PE X b tb)(hs:mH b):PE X (.Subscript a b pos) (tOp r ta tb):=by
 intro a_ s Z H Q I h;exact Subscript_ (AM ha hb I h λv u s2 x y H2 I2 rx ry q=>hr a b a_ s2 Z H2 x y v u Q I2 rx ry q (hs _ _))
def Ff(K:Ks):R2:=λx y H Q=>∃p xs i v,x=.ref p/\y=.int i/\SqL K H p xs/\atI xs i=some v/\Q v H
def Dd(K:Ks):R2:=λx y H Q=>∃p xs i v,x=.ref p/\y=.int i/\SqT K H p xs/\atI xs i=some v/\Q v H
def rIxS:R2:=λx y H Q=>∃z i c,x=.str z/\y=.int i/\z.length<=sizeLine/\atI z.cps.toList i=some c/\Q (.str ⟨#[c]⟩) H
theorem ix_list:IxR X (Ff X.K):=by
 intro value KI a_ s Z H x y v u Q I rx ry h hs;obtain⟨p,xs,i,z,rfl,rfl,hq,he,q⟩:=h;cases rx;obtain⟨t,rfl⟩:=ry;obtain⟨its,r,pl,hz⟩:=I.list hq;obtain⟨j,h1,h2,h3,h4,h5⟩:=mU he;obtain⟨w,ew,KG⟩:=r.get h2;have hl:=r.length;have hn:=jo;have fin:EP X a_ Z Q w s:=⟨z,H,I,KG,q⟩;by_cases h0:0<=i
 ·have hj:i.toNat=j:=by
   rw[seqIndex_of h0 h5]at h1;exact JE h1
  exact item_listR pl.isList h0 (by omega) (by rw[hj];simpa using ew) fin hs
 ·have hj:(i+(its.toArray.size:Int)).toNat=j:=by
   rw[seqIndex_neg (by omega) h4]at h1
   rw[Jy,<-hl];exact JE h1
  exact subscriptTail_builtinR (x:=w) pl.isList.typeIs slot_list_getitem.lookup
   (wpAny_getItem_list_neg (Q:=λr s'=>r=w/\EP X a_ Z Q r s') pl.isList (by omega) (by rw[Jy]<;>omega) (by omega) (by rw[hj];simpa using ew) ⟨rfl,fin⟩) hs
theorem ix_tup:IxR X (Dd X.K):=by
 intro value KI a_ s Z H x y v u Q I rx ry h hs;obtain⟨p,xs,i,z,rfl,rfl,hq,he,q⟩:=h;cases rx;obtain⟨t,rfl⟩:=ry;obtain⟨its,r,pl,hz⟩:=I.tuple hq;obtain⟨j,h1,h2,h3,h4,h5⟩:=mU he;obtain⟨w,ew,KG⟩:=r.get h2;have hl:=r.length;have hn:=jo;have fin:EP X a_ Z Q w s:=⟨z,H,I,KG,q⟩;exact subscriptTail_builtinR (x:=w) pl.typeIs slot_tuple_getitem.lookup
  (getItem_tuple (j:=j) (Q:=λr s'=>r=w/\EP X a_ Z Q r s') pl (by omega) (by omega) (by rw[Jy,<-hl];exact h1) (by simpa using ew) ⟨rfl,fin⟩) hs
theorem AW:IxR X rIxS:=by
 intro value KI a_ s Z H x y v u Q I rx ry h hs;obtain⟨z,i,c,rfl,rfl,hz,he,q⟩:=h;obtain⟨t,rfl⟩:=rx;obtain⟨t',rfl⟩:=ry;obtain⟨j,h1,h2,h3,h4,h5⟩:=mU he;have hl:z.cps.toList.length=z.length:=by simp[Str.length]
 rw[hl]at h1 h4 h5;have hn:=jo;exact tail_any (typeIs_str s z t) slot_str_getitem.lookup (getItem_str (c:=c) (by
  have e1:decide (i < -(2 ^ 63:Int))=false:=J5 (by omega)
  have e2:decide (i>=2 ^ 63)=false:=J5 (by omega)
  rw[e1,e2,Bool.or_false]) (by rw[h1];simpa using h2) ⟨.str ⟨#[c]⟩,H,I.tok _,⟨_,rfl⟩,q⟩) hs
def rIx(K:Ks):R2:=λx y H Q=>Ff K x y H Q\/Dd K x y H Q\/rIxS x y H Q
theorem A2:IxR X (rIx X.K):=ix_list.or (ix_tup.or AW)
theorem qw(its:List Value)(n j:Nat)(u:Value):Obj.mapSeq (·.setIfInBounds j u) {cls:=.type "list",data:=.seq its.toArray n}={cls:=.type "list",data:=.seq (its.set j u).toArray n}:=by
 simp[Obj.mapSeq]
theorem Inv.lst{s:Shared}(I:Inv X a_ Z H s)(h:H p=some (.lst xs)) :
  ∃(its:List Value) (n:Nat),Vals xs its/\s.heap.get? p=some {cls:=.type "list",data:=.seq its.toArray n}/\xs.length<=sizeLine:=by
 obtain⟨z,its,n,r,e⟩:=I.j_ p _ h;exact⟨its,n,r,e,z⟩
theorem Inv.lstUpd{a_:List (Addr×Obj)}{Z:St}{H:Hp}{s:Shared}{p:Addr}{xs ys:List V}{its its':List Value}{n n':Nat}{f:Obj->Obj}(I:Inv X a_ Z H s)(h:H p=some (.lst xs))
  (ho:s.heap.get? p=some {cls:=.type "list",data:=.seq its.toArray n}) (hf:f {cls:=.type "list",data:=.seq its.toArray n}={cls:=.type "list",data:=.seq its'.toArray n'}) (r:Vals ys its') (hz:ys.length<=sizeLine) (t:Nat) :
  Inv X a_ Z (upd H p (.lst ys)) {s with heap:=s.heap.update p f,toks:=t}:=by
 have e:(s.heap.update p f).get? p=some {cls:=.type "list",data:=.seq its'.toArray n'}:=by
  rw[JV f ho (by rw[hf]<;>rfl),hf]
 refine I.write (x:=p) (e:=p) (by rw[h];trivial) (.inl rfl) (λb u hb q=>(JO _ _ (JA hb)).trans q) ⟨_,e⟩ ?_
 exact⟨hz,its',n',r,e⟩
def rSetL:V->V->V->Hp->(Hp->Prop)->Prop:=λo i v H Q=>∃p xs k j,o=.ref p/\i=.int k/\H p=some (.lst xs)/\ixN xs.length k=some j/\Q (upd H p (.lst (xs.set j v)))
theorem wI:AY X rSetL:=by
 intro a_ s Z H o i v ov iv u Q I ro ri rv h;obtain⟨p,xs,k,j,rfl,rfl,hp,hj,q⟩:=h;cases ro;obtain⟨t,rfl⟩:=ri;obtain⟨its,n,r,ho,hz⟩:=I.lst hp;obtain⟨h1,h2,h3,h4⟩:=rH hj;have hl:=r.length;have hn:=jo;have I':Inv X a_ Z (upd H p (.lst (xs.set j v))) {s with heap:=s.heap.update p (Obj.mapSeq (·.setIfInBounds j u))}:=
  I.lstUpd hp ho (qw its n j u) (r.set rv j) (by rw[List.length_set];exact hz) s.toks
 by_cases h0:0<=k
 ·have hk:k.toNat=j:=by
   rw[seqIndex_of h0 h4]at h1;exact JE h1
  exact PySem.W.ki_setAt ho h0 (by omega) (by rw[Jy,<-hl];exact h4) (by rw[hk];exact⟨_,I',q⟩)
 ·have hk:(k+(its.toArray.size:Int)).toNat=j:=by
   rw[seqIndex_neg (by omega) h3]at h1
   rw[Jy,<-hl];exact JE h1
  exact PySem.W.ki_setBack ho (by omega) (by rw[Jy,<-hl];exact h3) (by omega) (by rw[hk];exact⟨_,I',q⟩)
theorem mZ(lo hi:Option Int)(n:Nat):(sliceBounds lo hi none n).1=((HT.sIx n 0 lo:Nat):Int)/\(sliceBounds lo hi none n).2.1=((HT.sIx n n hi:Nat):Int)/\(sliceBounds lo hi none n).2.2=1:=by
 refine⟨?_,?_,rfl⟩
 ·cases lo with
  |none=>simp[sliceBounds,HT.sIx]
  |some i=>
   simp only[sliceBounds,HT.sIx,Option.getD_none,show (1:Int) > 0 by decide,if_true]
   by_cases h:i<0
   ·simp only[h,if_true]<;>omega
   ·simp only[h,if_false]<;>omega
 ·cases hi with
  |none=>simp[sliceBounds,HT.sIx]
  |some i=>
   simp only[sliceBounds,HT.sIx,Option.getD_none,show (1:Int) > 0 by decide,if_true]
   by_cases h:i<0
   ·simp only[h,if_true]<;>omega
   ·simp only[h,if_false]<;>omega
theorem k7(its:List Value)(lo hi:Option Int):slicePick its.toArray lo hi none=((its.drop (HT.sIx its.length 0 lo)).take (HT.sIx its.length its.length hi-HT.sIx its.length 0 lo)).toArray:=by
 obtain⟨h1,h2,h3⟩:=mZ lo hi its.toArray.size;unfold slicePick;rw[h1,h2,h3];simp only[sliceRange_one,pick_run,Jy]<;>rfl
theorem mG:CallR X (.builtin "len") (λxs H Q=>∃p ys,xs=[.ref p]/\(SqL X.K H p ys\/SqT X.K H p ys)/\Q (.int ys.length) H):=by
 intro a_ s Z H xs us Q I r h;obtain⟨p,ys,rfl,hq,q⟩:=h;obtain⟨u,rfl,rx⟩:=g7 r;cases rx;have hn:=jo;rcases hq with hq|hq
 ·obtain⟨its,r',pl,hz⟩:=I.list hq;have E_:=r'.length;exact Calls.call_len_list pl.isList (by simp only[Jy]<;>omega) ⟨.int ys.length,H,I.tok _,⟨s.toks+1,by rw[Jy,E_]⟩,q⟩
 ·obtain⟨its,r',pl,hz⟩:=I.tuple hq;have E_:=r'.length;exact len_tuple pl (by simp only[Jy]<;>omega) ⟨.int ys.length,H,I.tok _,⟨s.toks+1,by rw[Jy,E_]⟩,q⟩
theorem gD:CallR X (.type "list") (λxs H Q=>∃p ys,xs=[.ref p]/\(SqL X.K H p ys\/SqT X.K H p ys)/\∀l,H l=none->Q (.ref l) (upd H l (.lst ys))):=by
 intro a_ s Z H xs us Q I r h;obtain⟨p,ys,rfl,hq,q⟩:=h;obtain⟨u,rfl,rx⟩:=g7 r;cases rx;have fin:∀(its:List Value),Vals ys its->ys.length<=sizeLine->∀(h':Heap)(c':Nat),(∀b o',s.heap.get? b=some o'->h'.get? b=some o')->
   h'.get? s.heap.objs.size=some {cls:=.type "list",dict:=none,data:=.seq its.toArray c',slots:=#[]}->EP X a_ Z Q (.ref s.heap.objs.size) {s with heap:=h'}:=λits r' hz h' c' kp e=>
  ⟨.ref s.heap.objs.size,_,I.laid (t':=s.toks) kp (Jp _) (show ObjOk X.prog X.w _ h' _ (.lst ys) from⟨hz,its,c',r',e⟩),rfl,q _ (I.j_.fresh (Jp _))⟩
 rcases hq with hq|hq
 ·obtain⟨its,r',pl,hz⟩:=I.list hq;have E_:=r'.length;obtain⟨o,ho,hc,n,hd⟩:=pl.isList;exact call_list_seq p (.inl rfl) ho hc hd (λh' c' kp e=>fin its r' hz h' c' kp e) (by simp only[Jy]<;>omega)
 ·obtain⟨its,r',pl,hz⟩:=I.tuple hq;have E_:=r'.length;obtain⟨o,ho,hc,n,hd⟩:=pl;exact call_list_seq p (.inr rfl) ho hc hd (λh' c' kp e=>fin its r' hz h' c' kp e) (by simp only[Jy]<;>omega)
def tyV(K:Ks)(T:String)(x:V)(H:Hp):Prop:=match x with
 |.str _=>T = "str"
 |.int _=>T = "int"
 |.ref p=>(T = "list"/\∃xs,SqL K H p xs)\/(T = "tuple"/\∃o,K.lookup p=some o/\o.cls=.type "tuple"/\o.dict=none)\/
   (T = "dict"/\((∃l_,H p=some (.dK l_))\/∃l_,H p=some (.dT l_)))\/(T = "set"/\∃S n,H p=some (.set S n))
 |_=>False
theorem A1{s:Shared}(I:Inv X a_ Z H s)(r:RelV x v)(ty:tyV X.K T x H) :
  s.TypeIs v T/\∀a,v=.ref a->∃ob,s.heap.get? a=some ob/\ob.dict=none:=by
 cases x with
 |str z=>
  obtain⟨t,rfl⟩:=r;cases (show T = "str" from ty);exact⟨typeIs_str s z t,λ_ e=>nomatch e⟩
 |int i=>
  obtain⟨t,rfl⟩:=r;cases (show T = "int" from ty);exact⟨typeIs_int s i t,λ_ e=>nomatch e⟩
 |ref p=>
  cases r;rcases ty with ⟨rfl,xs,hq⟩|⟨rfl,o,hk,hc,hd⟩|⟨rfl,hk⟩|⟨rfl,S,n,hk⟩
  ·obtain⟨its,_,pl,_⟩:=I.list hq;refine⟨pl.isList.typeIs,λa e=>?_⟩
   cases e;obtain⟨o,n,e,c,hd,_⟩:=pl;exact⟨o,e,hd⟩
  ·refine⟨⟨o,I.kIn p o hk,hc⟩,λa e=>?_⟩
   cases e;exact⟨o,I.kIn _ o hk,hd⟩
  ·have z:∃o,s.heap.get? p=some o/\o.ExactDict:=by
    rcases hk with ⟨l_,hk⟩|⟨l_,hk⟩
    ·obtain⟨_,_,_,_,o,_,_,e,ex,_⟩:=I.j_ p _ hk;exact⟨o,e,ex⟩
    ·obtain⟨_,_,_,_,o,_,_,e,ex,_⟩:=I.j_ p _ hk;exact⟨o,e,ex⟩
   obtain⟨o,e,ex⟩:=z;refine⟨⟨o,e,ex.1⟩,λa e2=>?_⟩
   cases e2;exact⟨o,e,ex.2.1⟩
  ·obtain⟨o,_,_,_,e,ex,_⟩:=I.j_ p _ hk;refine⟨⟨o,e,ex.1⟩,λa e2=>?_⟩
   cases e2;exact⟨o,e,ex.2.1⟩
 |_=>exact False.elim ty
noncomputable def tBM(K:Ks)(T:String)(r:V->List V->Hp->VK->Prop)(to:TE)(t:TA):TE:=λZ H Q=>to Z H λx H1=>tyV K T x H1/\t Z H1 λxs H2=>r x xs H2 Q
variable {o:Expr}{id:String}
theorem DM(pa:PlainAttrs T)(slot:Slot T name id)(Ml:typeOf (.builtin id)=pure (.type "method_descriptor"))(hm:MtR X id r)(ho:PE X o to)(ha:PA X (e::es) t)
  (v_:attributeBase o name X.env (eval o X.env)=eval o X.env:=by rfl)
  (MW:((backTo p_ (starEach (e::es) X.env)).all (λx=>!x.1)&&(backToKw p_ (keywordEach [] X.env)).all (λx=>x.1.isSome)
   &&decide ((e::es).length+([]:List Keyword).length+(if ([]:List Keyword).isEmpty then 0 else 1)<30))=true:=by rfl)
  (w_:(n_.endLine == p_.line)=true:=by rfl) (hs:starEach (e::es) X.env=(false,eval e X.env)::starEach es X.env:=by rfl) (KW:(backTo p_ (starEach es X.env)).any (·.1)=false:=by rfl) :
  PE X (.Call (.Attribute o name n_) (e::es) [] p_) (tBM X.K T r to t):=by
 intro a_ s Z H Q I h;refine wpAny_Call_method_late v_ MW w_ rfl (thn (ho a_ s Z H _ I h) λv s1 ⟨x,H1,I1,r1,ty,q1⟩=>?_)
 obtain⟨h1,h2⟩:=A1 I1 r1 ty;refine⟨T,id,pa,slot,Ml,h1,h2,?_⟩;have hA:=ha p_ a_ s1 Z H1 _ I1 q1;rw[hs]at hA ⊢;refine Calls.callWith_builtin (by show (false||(backTo p_ (starEach es X.env)).any (·.1))=false;rw[KW]<;>rfl) (Calls.evalArgs_plain ?_)
 exact thn hA λus s2 ⟨vs,H2,I2,r2,q2⟩=>hm a_ s2 Z H2 x vs v us Q I2 r1 r2 q2
end
def MtM(X:Cx)(id:String)(r:V->List V->Hp->VK->Prop):Prop:=
 ∀(a_:List (Addr×Obj)) (s:Shared)(Z:St)(H:Hp)(x:V)(xs:List V)(v:Value)(us:List Value)(Q:VK),Inv X a_ Z H s->RelV x v->Vals xs us->r x xs H Q->
  wpAny (model X.prog X.w) X.A (call (.builtin id) (v::us)) (EP X a_ Z Q) X.xe s
theorem Vals.one{x:V}{us:List Value}(h:Vals [x] us):∃u,us=[u]/\RelV x u:=by
 cases h with|cons r t=>cases t;exact⟨_,rfl,r⟩
theorem Vals.two{x y:V}{us:List Value}(h:Vals [x,y] us):∃u v,us=[u,v]/\RelV x u/\RelV y v:=by
 cases h with|cons r t=>cases t with|cons q t=>cases t;exact⟨_,_,rfl,r,q⟩
section
variable {X:Cx}{s:Shared}{l:Addr}{xs ys:List V}
theorem Inv.lset{its its':List Value}{n:Nat}{f:Array Value->Array Value}{t':Nat}(I:Inv X a_ Z H s)(hH:H l=some (.lst xs))
  (e:s.heap.get? l=some {cls:=.type "list",data:=.seq its.toArray n}) (hf:f its.toArray=its'.toArray) (hv:Vals ys its') (hz:ys.length<=sizeLine) :
  Inv X a_ Z (upd H l (.lst ys)) {s with heap:=s.heap.update l (Obj.mapSeq f),toks:=t'}:=by
 have q:=PySem.IsL.update e f;rw[hf]at q;refine I.write (x:=l) (e:=l) (by rw[hH];exact trivial) (.inl rfl) (λb' u hb hu=>(JO s.heap (Obj.mapSeq f) (JA hb)).trans hu) ⟨_,q⟩ ?_
 exact⟨hz,its',_,hv,q⟩
theorem Inv.lnew(I:Inv X a_ Z H s)(hv:Vals ys its)(hz:ys.length<=sizeLine) :
  Inv X a_ Z (upd H s.heap.objs.size (.lst ys)) {s with heap:=s.heap.push {cls:=.type "list",data:=.seq its.toArray},toks:=t'}:=
 I.laid (λ_ _ q=>Jn _ q) (Jp _) ⟨hz,its,0,hv,Jr _ rfl⟩
theorem Inv.fresh(I:Inv X a_ Z H s):H s.heap.objs.size=none:=I.j_.fresh (Jp _)
theorem Inv.lstM(I:Inv X a_ Z H s)(hH:H l=some (.lst xs)):xs.length<=sizeLine/\∃(its:List Value) (n:Nat),Vals xs its/\xs.length=its.length/\s.heap.get? l=some {cls:=.type "list",data:=.seq its.toArray n}:=by
 obtain⟨z,its,n,r,e⟩:=I.j_ l _ hH;exact⟨z,its,n,r,r.length,e⟩
theorem uL{n:Nat}(h:n<=sizeLine):Builtin.List.listTooLong n=false:=by
 unfold Builtin.List.listTooLong;exact J5 (by omega)
end
section
variable {X:Cx}
def rAppend:V->List V->Hp->VK->Prop:=λx vs H Q=>∃l xs y,x=.ref l/\vs=[y]/\H l=some (.lst xs)/\xs.length<sizeLine/\Q .i_ (upd H l (.lst (xs++[y])))
theorem lw:MtM X "list.append" rAppend:=by
 intro a_ s Z H x vs v us Q I rx rv h;obtain⟨l,xs,y,rfl,rfl,hH,hz,q⟩:=h;cases rx;obtain⟨u,rfl,ru⟩:=rv.one;obtain⟨z,its,n,r,hl,e⟩:=I.lstM hH;refine call_meets F.slot_list_append ⟨_,e,rfl⟩ F.entry_list_append (F.args_list_append_2 _ _) (PySem.list_append l its.toArray n u (by rw[Jy];omega)) ⟨e,?_⟩
 refine⟨.i_,_,I.lset (its':=its++[u]) hH e (by simp) (r.append (.cons ru .nil)) ?_,rfl,q⟩
 rw[JR,List.length_singleton];omega
end
section
variable {w:World}{A:Around}{s:Shared}
set_option maxRecDepth 100000 in
end
section
variable {X:Cx}
end
end L2
namespace Att
open PySem PySem.W PySem.Calls PyProof.Rows
theorem i6:∀(ns:List Int)(vs:List Value),WellAll P h vs (ns.map WData.int)->IntsAre vs ns:=by
 intro ns
 induction ns with
 |nil=>
  intro vs w;rw[List.map_nil]at w;cases w;exact .nil
 |cons n ns ih=>
  intro vs w;rw[List.map_cons]at w;cases w with
  |cons a b=>
   cases a;exact .cons _ _ (ih _ b)
theorem uw{l:OpenLaw}(hn:l.most=some n){h:Heap}
  (Lb:l.row.toRowW.claim.pre args=true) (Pu:WellAll P h OG args) :
  ∃a vs ns,OG=[Value.ref a]/\args=[WData.list (ns.map WData.int)]/\h.get? a=some {cls:=.type "list",data:=.seq vs.toArray}/\IntsAre vs ns/\ns.length<=n:=by
 have RH:WShape.hasAll [] args [.list .int]=true:=(pre_splitW Lb).1;have hc:l.pre.holds [] {args:=args}=true:=(pre_splitW Lb).2;obtain⟨d,r,rfl,h1,h2⟩:=hasAllW_cons RH;obtain rfl:=hasAllW_nil h2;obtain⟨xs,rfl,h3⟩:=hasW_list h1;obtain⟨ns,rfl⟩:=items_int h3;have E_:ns.length<=n:=by
  unfold OpenLaw.pre at hc;have h4:(WTm.not (.lt (.lit (.int (n:Int))) (.len (.arg 0)))).holds [] {args:=[.list (ns.map .int)]}=true:=by
   have h4:=(holds_andW hc).1;rw[hn]at h4;exact h4
  have h5:=condW_of h4 (w_not (w_lt w_lit (w_len_list (w_arg rfl))));rw[List.length_map]at h5;refine Nat.le_of_not_lt λq=>?_
  have q':(n:Int)<((ns.length:Nat):Int):=by omega
  first
   |(rw[decide_eq_true q']at h5;exact absurd h5 (by decide))
   |(simp at h5;omega)
 cases Pu with
 |cons w1 w2=>
  cases w2;cases w1 with
  |list ho Pw=>exact⟨_,_,ns,rfl,rfl,ho,i6 ns _ Pw,E_⟩
theorem uk(l:OpenLaw)(args:List WData):l.row.toRowW.claim.post args (.bool true) args=true:=
 postW_of (r:=l.row.toRowW) (X:=(true == true))
  (show WShape.has [] (.bool true) .bool=true by first|rfl|decide|simp[WShape.has,WShape.arms,WShape.armsAll])
  (show (WTm.eq .res (.lit (.bool true))).value [] {args:=args,res:=some (.bool true),after:=args}=some (.bool (true == true)) from w_eq_bool (w_res rfl) w_lit) rfl
theorem attach_call{l:OpenLaw}{d:DefRec}
  (hn:l.most=some n) (MX:d.params.defaults=[])
  (call:∀(w:World)(s₀ q_:Shared)(mg mb:Str->Option Value)(fa:Addr)(o:Obj)(pm cd doc:Value)(a:Addr)(vs:List Value)(ns:List Int),
   Ground q loose [] XP w s₀ mg mb q_.heap->YP w q_.heap->
   q_.heap.get? fa=some o->o.data=.func (docDef d.name d.params d.body d.scope pm cd doc)->q_.heap.CodeRec cd d.name->mg d.name=some (.ref fa)->
   q_.heap.get? a=some {cls:=.type "list",data:=.seq vs.toArray}->IntsAre vs ns->ns.length<=n->q_.gens=#[]->
   codeAny (model l.prog w) callerA (.call (.ref fa) ⟨[.ref a],[]⟩) (λr s'=>r=.ok (.ret (.bool true))/\OldK q_.heap s'.heap/\s'.os=q_.os/\AllBare s'.gens) q_) :
  WalkO q loose XP YP l.row.toRowW d [] (λf vs=>PySem.call f vs):=by
 intro w s₀ q_ mg mb G Y fa o pm cd doc dV kV ho hd K9 hD Px hg args OG as Lb hlay hrd Pu hlo;obtain rfl:dV=.none:=Dflts.none hD MX;obtain rfl:kV=.none:=Dflts.noKw hD;obtain⟨a,vs,ns,rfl,rfl,Mm,Lx,E_⟩:=uw hn Lb Pu;refine enter_call (codeAny_mono (call w s₀ q_ mg mb fa o pm cd doc a vs ns G Y ho (fd_plain hd) K9 Px Mm Lx E_ hg) λr s' hq=>?_)
 obtain⟨rfl,h2,h3,h4⟩:=hq;exact⟨.inl ⟨.bool true,.bool true,[],rfl,λ_=>rfl,.bool true,uk l _,λ_=>⟨List.Pairwise.nil,λ_ hm=>(nomatch hm)⟩⟩,h2,h3,h4⟩
section
variable {w:World}{A:Around}{s:Shared}{K:Frag}
end
end Att
namespace L2
open PySem PySem.Spec PyProof.Rows
theorem ik:∀{vs:List Value}{ns:List Int},IntsAre vs ns->Vals (ns.map V.int) vs
 |_,_,.nil=>.nil
 |_,_,.cons n t h=>.cons ⟨t,rfl⟩ (ik h)
def DN(H:Hp):Prop:=∀b,H b=none\/∃o xs,H b=some (.t_ o (.lst xs))
theorem wB{K:Ks}{q_:Shared}
  (KX:K.In q_.heap)(N0:q_.heap.Ns mainGlobals mg)(hb:q_.heap.Ns builtinsNs mb) (RI:∀x:Str,x≠"__name__"->mb x=bootBuiltins x) (Py:q_.heap.NoLimit) (hg:q_.gens=#[])
  (ha:q_.heap.get? a=some {cls:=.type "list",data:=.seq vs.toArray}) (hi:IntsAre vs ns) (hl:ns.length<=sizeLine) (hr:Room k callerA)
  (F:∀base:Heap,K.In base->base.Ns mainGlobals mg->FnOk P w K mg base CX k fa fd [x] sp) (N2:∀(s:Shared)(u:Value),BindsTo s fd ⟨[u],[]⟩ [(x,u)])
  (MF:∀H:Hp,DN H->SqL K H a (ns.map V.int)->sp [.ref a] H (λv _=>v=.bl true) λ_ _ _=>False)
  (RJ:∀H e s',CX [] H q_ (λ_ _ _=>False) e s'->False) :
  codeAny (model P w) callerA (.call (.ref fa) ⟨[.ref a],[]⟩) (λr s'=>r=.ok (.ret (.bool true))/\OldK q_.heap s'.heap/\s'.os=q_.os/\AllBare s'.gens) q_:=by
 have rv:=ik hi;have Pz:=hi.length;have core:∀H:Hp,DN H->SqL K H a (ns.map V.int)->HOk P w H q_.heap->(∀b,H b≠none->b=a)->(H a≠none->K.lookup a=none)->
   codeAny (model P w) callerA (.call (.ref fa) ⟨[.ref a],[]⟩) (λr s'=>r=.ok (.ret (.bool true))/\OldK q_.heap s'.heap/\s'.os=q_.os/\AllBare s'.gens) q_:=by
  intro H hO hS j_ hA hK;have LO:∀{b:Addr}{o:Obj},q_.heap.get? b=some o->H b=none->(m8 q_.heap H).get? b=some o:=λe n=>vO e n
  have NU:∀{b:Addr}{o:Obj}{es:Array DictEntry}{ep:Nat},q_.heap.get? b=some o->o.data=.dict es ep->H b=none:=λ{b o es ep} e d=>by
   cases q:H b with
   |none=>rfl
   |some u=>
    have e':b=a:=hA b (by rw[q];simp)
    subst e';rw[ha]at e;cases e;have d':Data.seq vs.toArray _=Data.dict es ep:=d;cases d'
  have OQ:∀{b:Addr}{m:Str->Option Value},q_.heap.Ns b m->(m8 q_.heap H).Ns b m:=λ{b m} ⟨o,es,ep,e,d,r⟩=>⟨o,es,ep,LO e (NU e d),d,r⟩
  have QW:K.In (m8 q_.heap H):=λb o e=>LO (KX b o e) (by
   cases q:H b with
   |none=>rfl
   |some u=>
    have e':b=a:=hA b (by rw[q];simp)
    subst e';rw[hK (by rw[q];simp)]at e;cases e)
  have hM:Mod K mg (m8 q_.heap H):=⟨QW,OQ N0,⟨mb,OQ hb,RI⟩,let ⟨mc,h1,h2⟩:=Py;⟨mc,OQ h1,h2⟩⟩
  have e0:Env0 P w K mg (m8 q_.heap H) callerA [] q_ H:=⟨rfl,hM,λb o e=>xy e,Nat.le_of_eq (ua _ _),trivial,λb hb=>absurd (show b∈([]:List Addr) from hb) (by simp),j_,.of_eq hg⟩
  refine codeAny_mono ((F _ QW (OQ N0)).run callerA [] q_ H ⟨[.ref a],[]⟩ [.ref a] [.ref a] _ _ hr e0 (N2 q_ (.ref a)) (.cons rfl .nil) (MF H hO hS)) λr s' h=>?_
  cases r with
  |error e=>exact (RJ H e s' h).elim
  |ok fl=>
   cases fl with
   |next=>exact False.elim h
   |brk=>exact False.elim h
   |cont=>exact False.elim h
   |ret u=>
    obtain⟨v,H',os,bare,un,PB,r',q⟩:=h;have q':v=.bl true:=q;subst q';obtain rfl:u=Value.bool true:=r';refine⟨rfl,OldK.of_keep λb o e=>?_,os,bare⟩
    cases q:H b with
    |none=>exact un.keep b o e q (by intro z;exact absurd (show b∈([]:List Addr) from z) (by simp)) (by simp)
    |some u=>
     rcases hO b with z|⟨ob,xs,z⟩
     ·rw[q]at z;cases z
     ·have z2:=un.Kz b ob _ z;obtain⟨e1,_⟩:=j_ b _ z;obtain⟨e2,_⟩:=PB b _ z2;rw[e]at e1;cases e1;exact e2
 cases hk:K.lookup a with
 |some o=>
  have e:=KX a o hk;rw[ha]at e;cases e;refine core (λ_=>none) (λ_=>.inl rfl) (.inr ⟨_,vs.toArray,_,hk,rfl,rfl,rfl,by rw[Jy,Pz];exact hl,by simpa using rv⟩) (λb u z=>by have z':(none:Option HO)=some u:=z;cases z') (λb z=>absurd rfl z) λz=>absurd rfl z
 |none=>
  refine core (λb=>if b=a then some (.t_ {cls:=.type "list",data:=.seq vs.toArray} (.lst (ns.map V.int))) else none) (λb=>?_) (.inl (.inr ⟨{cls:=.type "list",data:=.seq vs.toArray},Js rfl⟩)) (λb u z=>?_) (λb z=>?_) λ_=>hk
  ·by_cases hb:b=a
   ·exact .inr ⟨_,_,Js hb⟩
   ·exact .inl (Jm hb)
  ·by_cases hb:b=a
   ·have z':=(Js hb).symm.trans z;cases z';subst hb;exact⟨ha,by rw[Jv];exact hl,vs,_,rv,ha⟩
   ·have z':=(Jm hb).symm.trans z;cases z'
  ·by_cases hb:b=a
   ·exact hb
   ·exact absurd (Jm hb) z
noncomputable def aj(s:Stmt)(j:Nat):Stmt:=match s with
 |.ClassDef _ _ _ body _ _ _ _ _ _ _=>body.getD j (.Pass ⟨0,0,0,0⟩)
 |_=>.Pass ⟨0,0,0,0⟩
noncomputable def bG(s:Stmt):Arguments:=match s with
 |.FunctionDef _ a _ _ _ _ _ _ _ _=>a
 |_=>{posonlyargs:=[],args:=[],vararg:=none,kwonlyargs:=[],kw_defaults:=[],kwarg:=none,defaults:=[]}
noncomputable def aV(s:Stmt):List Stmt:=match s with
 |.FunctionDef _ _ b _ _ _ _ _ _ _=>b
 |_=>[]
noncomputable def ay(s:Stmt):Scope:=match s with
 |.FunctionDef _ _ _ _ _ _ sc _ _ _=>sc
 |_=>{kind:=.function,names:=[],isGenerator:=false,isCoroutine:=false}
structure Fun (K:Ks)(x qual:Str)(st:Stmt)(f:Addr)(fd:FuncData):Prop where
 ex:∃(oc:Value) (od:Option Addr) (kV doc pm:Value) (an:Option Addr) (Kw ct:Value) (Ll:Array (Option Value)),
  fd=PySem.W.fnOf x qual (bG st) (aV st) (ay st) .none kV doc pm an Kw ct/\K.lookup f=some ⟨oc,od,.func fd,Ll⟩/\PySem.W.codeIn K Kw qual=true
 kp:PySem.W.keepIn K (.ref f)=true
section
variable {K:Ks}
theorem Bm{x qual:Str}{st:Stmt}{f:Addr}{oc:Value}{od an:Option Addr}{Ll:Array (Option Value)}{kV doc pm Kw ct:Value}(l:K.lookup f=some ⟨oc,od,.func (PySem.W.fnOf x qual (bG st) (aV st) (ay st) .none kV doc pm an Kw ct),Ll⟩)
  (c:PySem.W.codeIn K Kw qual=true) (k:PySem.W.keepIn K (.ref f)=true):Fun K x qual st f (PySem.W.fnOf x qual (bG st) (aV st) (ay st) .none kV doc pm an Kw ct):=⟨⟨oc,od,kV,doc,pm,an,Kw,ct,Ll,rfl,l,c⟩,k⟩
end
section
variable {X:Cx}
end
section
variable {κ:Type} [DecidableEq κ]
end
def DA(h:Heap)(e:Addr)(d:Option Addr):Prop:=∃o,h.get? e=some o/\o.dict=d
theorem jE(f:Array Value->Array Value)(o:Obj):(Obj.mapFields f o).dict=o.dict:=by
 obtain⟨c,d,x,sl⟩:=o;cases x<;>rfl
section
variable {A:Around}{s:Shared}{base:Heap}{env:Env}
theorem rM{oe:Obj}{vs:Array Value}(L6:A.frames=some (env::outer))(hl:s.heap.FunFrames base (env::outer))(hf:env.frame=some L)(he:s.heap.get? e=some oe)(Mn:base.StaysIn s.heap)(MY:base.get? e=none)
  (hd:oe.data=.fields vs) (hsz:1<vs.size) (h0:vs[0]?=some a0) (k:∀h',Heap.NotedW base (env::outer) e oe.cls a0 (rawInt L) s.heap h'->DA h' e oe.dict->Q () {s with heap:=h'}) :
  wpAny M A (do let fr<-frameOf env;let pl<-entryPlaceOf L hadNext;let t<-EntryCells.newEntry head fr .none (rawInt L) .none pl;setField (.ref e) 1 t) Q E s:=by
 have S_:e∉(env::outer).filterMap (·.frame):=λz=>by
  obtain⟨_,o,ho,nf⟩:=hl.mem z;cases he.symm.trans ho;exact nf vs hd
 refine AV (wpAny_frameOf_fun L6 hl hf λg1 N3=>AV (wpAny_entryPlaceOf λpl Kt=>?_))
 unfold EntryCells.newEntry newFields;refine AV (JT ?_ (Kt.sizeOk5 _ _ _ _ _));generalize hT:({cls:=.type "traceback",dict:=none,data:=.fields ([head,.ref L,.none,rawInt L,.none]++(if pl.isEmpty then List.replicate 6 Value.none else pl)).toArray}:Obj)=oT
 have e1:g1.get? e=some oe:=(N3.2.1 e S_).trans he;have b1:base.StaysIn g1:=λb o q=>(N3.2.1 b λz=>by rw[(hl.mem z).1]at q;cases q).trans (Mn b o q)
 have e2:(g1.push oT).get? e=some oe:=Jn oT e1;refine Ko e2 hd hsz (k _ ?_ ?_)
 ·have ne:g1.objs.size≠e:=Nat.ne_of_gt (Jt e1);have d3:=Kk hd (·.setIfInBounds 1 (Value.ref g1.objs.size));have e3:=JV (Obj.mapFields (·.setIfInBounds 1 (Value.ref g1.objs.size))) e2 (Obj.isFreed_of_fields d3);have t3:(g1.push oT).get? g1.objs.size=some oT:=Jr g1 (by rw[<-hT];rfl)
  have t4:((g1.push oT).update e (Obj.mapFields (·.setIfInBounds 1 (Value.ref g1.objs.size)))).get? g1.objs.size=some oT:=(JO _ _ (JA ne)).trans t3;have stay:∀b o,b≠e->g1.get? b=some o->((g1.push oT).update e (Obj.mapFields (·.setIfInBounds 1 (Value.ref g1.objs.size)))).get? b=some o:=λb o n q=>
   (JO _ _ (JA n)).trans (Jn oT q)
  have MR:∀b o,s.heap.get? b=some o->(∀ws,o.data≠.fields ws)->b≠e:=λb o q nf z=>by
   subst z;cases he.symm.trans q;exact nf vs hd
  refine⟨λb o q=>stay b o (λz=>by rw[z,MY]at q;cases q) (b1 b o q),hl.of_keeps λb o q nf=>?_,⟨_,_,g1.objs.size,oT,_,e3,⟨Obj.cls_mapFields _ _,?_⟩,d3,by simp[hsz],b1.fresh,ne,t4,by rw[<-hT],?_⟩,λb o q nf=>?_⟩
  ·obtain⟨sl,z⟩:=N3.2.2 b o q;exact⟨_,stay b _ (MR b o q nf) z,rfl⟩
  ·rw[Array.getElem?_setIfInBounds_ne (by decide)];exact h0
  ·first|(simp;done)|(rcases Kt with rfl|⟨_,_,_,_,_,_,_,rfl⟩<;>simp)
  ·obtain⟨sl,z⟩:=N3.2.2 b o q;exact⟨sl,stay b _ (MR b o q nf) z⟩
 ·have d3:=Kk hd (·.setIfInBounds 1 (Value.ref g1.objs.size));exact⟨_,JV (Obj.mapFields (·.setIfInBounds 1 (Value.ref g1.objs.size))) e2 (Obj.isFreed_of_fields d3),jE _ _⟩
theorem pi(Mn:base.StaysIn s.heap)(hl:s.heap.FunFrames base l)(ht:s.heap.TracedAtW base e cls a0 fl)(hd:DA s.heap e d)
  (k:∀h',base.StaysIn h'->h'.FunFrames base l->h'.TracedW base e cls a0->s.heap.UpToSlots h'->DA h' e d->Q () {s with heap:=h'}):wpAny M A (setFlight (.ref e) none) Q E s:=by
 obtain⟨oe,vs,T,oT,ts,he,hc,hv,h1,nT,ne,hT,dT,h3⟩:=ht;obtain⟨RK,N4,hd⟩:=hd;cases he.symm.trans N4;have sz:3<ts.size:=(Kb.mp h3).1;unfold setFlight;refine AV (Kg he hv h1 ?_);rw[Js (by simp:(Value.ref T != Value.none)=true)]
 have Mo:∀b,b≠T->(s.heap.update T (Obj.mapFields (·.setIfInBounds 3 ((none:Option Addr).elim Value.none λf=>rawInt f)))).get? b=s.heap.get? b:=λb n=>JO _ _ (JA n)
 have plain:∀b o,s.heap.get? b=some o->(∀ws,o.data≠.fields ws)->b≠T:=λb o q nf z=>by
  subst z;cases hT.symm.trans q;exact nf ts dT
 have ee:=(Mo e (JA ne)).trans he;refine Ko hT dT sz (k _ (λb o q=>(Mo b λz=>by rw[z,nT]at q;cases q).trans (Mn b o q)) (hl.of_keeps λb o q nf=>⟨o,(Mo b (plain b o q nf)).trans q,rfl⟩) ⟨oe,vs,T,_,_,ee,hc,hv,h1,nT,ne,JV _ hT (Obj.isFreed_of_fields (Kk dT _)),Kk dT _,by simp[sz]⟩
  (λb o q nf=>⟨o.slots,(Mo b (plain b o q nf)).trans q⟩) ⟨oe,ee,hd⟩)
theorem B8(L6:A.frames=some (env::outer))(hf:env.frame=some L)(fl:Heap.FlyingW base (env::outer) e cls a0 s.heap)(hd:DA s.heap e d)
  (k:∀h',Heap.HeldW base (env::outer) e cls a0 L h'->s.heap.UpToSlots h'->DA h' e d->Q () {s with heap:=h'}):wpAny M A (noteFrame (.ref e) env) Q E s:=by
 obtain⟨Mn,MY,hl,oe,vs,T,oT,ts,he,⟨rfl,h0⟩,hv,h1,nT,ne,hT,dT,h3⟩:=fl;obtain⟨RK,N4,rfl⟩:=hd;cases he.symm.trans N4;unfold noteFrame;simp only[hf];refine AV (Kg he hv h1 ?_);rw[Js (by simp:(Value.ref T != Value.none)=true)]
 refine AV (Kg hT dT h3 ?_);rw[Jm (by simp[rawInt]:¬ ((Value.none == rawInt L)=true))]
 refine AV (Ko hT dT (Kb.mp h3).1 ?_);have Mo:∀b,b≠T->(s.heap.update T (Obj.mapFields (·.setIfInBounds 3 Value.none))).get? b=s.heap.get? b:=λb n=>JO _ _ (JA n)
 have plain:∀b o,s.heap.get? b=some o->(∀ws,o.data≠.fields ws)->b≠T:=λb o q nf z=>by
  subst z;cases hT.symm.trans q;exact nf ts dT
 exact rM L6 (hl.of_keeps λb o q nf=>⟨o,(Mo b (plain b o q nf)).trans q,rfl⟩) hf ((Mo e (JA ne)).trans he) (λb o q=>(Mo b λz=>by rw[z,nT]at q;cases q).trans (Mn b o q)) MY hv (Kb.mp h1).1 h0
  λh' ⟨x1,x2,x3,x4⟩ dd=>k h' ⟨x1,MY,x2,x3⟩ (λb o q nf=>x4 b o ((Mo b (plain b o q nf)).trans q) nf) dd
theorem yc(hh:Heap.HeldW base l e cls a0 L s.heap)(hd:DA s.heap e d)(k:∀h',Heap.FlyingW base l e cls a0 h'->s.heap.UpToSlots h'->DA h' e d->Q () {s with heap:=h'}):wpAny M A (setFlight (.ref e) none) Q E s:=
 pi hh.1 hh.2.2.1 hh.2.2.2 hd λh' k1 k2 k3 k4 k5=>k h' ⟨k1,hh.2.1,k2,k3⟩ k4 k5
theorem eo{h:Heap}(x:h.FunFrames base (env::outer)):h.FunFrames base outer:=x.2.2
theorem uW(L6:A.frames=some (env::outer))(hf:env.frame=some L)(fl:Heap.FlyingW base (env::outer) e cls a0 s.heap)(hd:DA s.heap e d)
  (k:∀h',Heap.FlyingW base outer e cls a0 h'->s.heap.UpToSlots h'->DA h' e d->Q () {s with heap:=h'}):wpAny M A (leaving env (.ref e)) Q E s:=by
 unfold leaving;refine AV (B8 L6 hf fl hd λh1 x1 u1 d1=>yc x1 d1 λh2 x2 u2 d2=>k h2 ⟨x2.1,x2.2.1,eo x2.2.2.1,x2.2.2.2⟩ (u1.trans u2) d2)
theorem xZ{oe:Obj}(L6:A.frames=some (env::outer))(hf:env.frame=some L)(Mn:base.StaysIn s.heap)(hl:s.heap.FunFrames base (env::outer))(he:s.heap.get? e=some oe)(MY:base.get? e=none)(hv:oe.data=.fields vs)(h0:vs[0]?=some a0)(h1:vs[1]?=some .none)
  (k:∀h',Heap.FlyingW base outer e oe.cls a0 h'->s.heap.UpToSlots h'->DA h' e oe.dict->Q () {s with heap:=h'}):wpAny M A (leaving env (.ref e)) Q E s:=by
 unfold leaving noteFrame;simp only[hf];refine AV (AV (Kg he hv h1 ?_));rw[Jm (by decide)]
 refine rM L6 hl hf he Mn MY hv (Kb.mp h1).1 h0 λh1 x1 d1=>?_
 exact pi x1.1 x1.2.1 x1.2.2.1 d1 λh2 k1 k2 k3 k4 k5=>k h2 ⟨k1,MY,eo k2,k3⟩ (Heap.UpToSlots.trans x1.2.2.2 k4) k5
end
section
variable {h h':Heap}{o:HO}
theorem ObjOk.isAt(x:ObjOk P w H h a o):∃ob,h.get? a=some ob:=by
 cases o with
 |lst xs=>obtain⟨_,_,_,_,e⟩:=x;exact⟨_,e⟩
 |tup xs=>obtain⟨_,_,_,ob,e,_⟩:=x;exact⟨_,e⟩
 |set S n=>obtain⟨ob,_,_,_,e,_⟩:=x;exact⟨_,e⟩
 |ins C dx fs=>obtain⟨_,_,_,e,_⟩:=x;exact⟨_,e⟩
 |own y=>exact x
 |xd fs=>obtain⟨_,⟨ob,_,_,e,_⟩,_⟩:=x;exact⟨_,e⟩
 |rng lo hi=>obtain⟨_,_,_,e⟩:=x;exact⟨_,e⟩
 |t_ ob u=>exact⟨_,x.1⟩
 |Md ps=>exact⟨_,x⟩
 |met f y=>exact⟨_,x⟩
 |ext φ=>exact x.2.1
 |_=>obtain⟨_,_,_,_,ob,_,_,e,_⟩:=x;exact⟨_,e⟩
theorem HOk.keptT(x:HOk P w H h)(k:∀b u ob,H b=some u->h.get? b=some ob->h'.get? b=some ob):HOk P w H h':=λa o e=>
 (x a o e).stay (λb u hb q=>hb.elim (λz=>by subst z;exact k _ _ _ e q) (λz=>k _ _ _ z q)) (λ_ q=>q) λ_ _ q=>q
end
def Fly(B:Heap)(l:List Env)(a:Addr)(cls:Value)(h:Heap):Prop:=∃a0,Heap.FlyingW B l a cls a0 h
def Within(B:Heap)(l:List Env)(hs:Heap)(H':Hp)(h':Heap):Prop:=
 ∀b ob,h'.get? b=some ob->(H' b≠none\/((∃o',hs.get? b=some o')/\b∉frs l))->B.get? b=some ob
noncomputable def CX1(P:Program)(w:World):CXT:=λouter H s E e s'=>
 ∃(a:Addr) (cls:Value) (B:Heap) (H':Hp) (dx:Option Addr),e=.ref a/\s'.os=s.os/\AllBare s'.gens/\Un (frs outer) [] H H' s.heap s'.heap/\HOk P w H' s'.heap/\
  (Fly B outer a cls s'.heap/\DA s'.heap a dx)/\H' a=none/\Within B outer s.heap H' s'.heap/\E cls dx H'
theorem Inv.notrk{s:Shared}(I:Inv X a_ Z H s)(hn:s.heap.get? e=none):H e=none:=by
 cases q:H e with
 |none=>rfl
 |some u=>
  obtain⟨ob,z⟩:=(I.j_ e u q).isAt;rw[hn]at z;cases z
theorem Inv.oldNe{X:Cx}(I:Inv X a_ Z H s)(q:X.s₀.heap.get? b=some o)(hb:b∉X.fs):b∉frs X.stack:=λhm=>by
 rcases Jq.mp (I.stkSub b hm) with z|z
 ·have:=Jw (Jt q) I.ok.above;rw[z]at this;exact absurd this (Ke _)
 ·exact hb z
section
variable {K:Ks}{s:Shared}
theorem lU{s1:Shared}{oe:Obj}{h':Heap}
  (I:Inv (cg (CX1 P w) P w K mg base N qual scope f cd A outer s H E) a_ Z H1 s1) (hk:∀b o,s1.heap.get? b=some o->b≠e->h'.get? b=some o) (RL:∀o,s1.heap.get? e=some o->∃vs,o.data=.fields vs) (QX:H1 e=none) (MI:s.heap.get? e=none)
  (OR:h'.get? e=some oe) (hv:oe.data=.fields vs) (RM:vs[0]?=some a0) (RN:vs[1]?=some .none) (he:E oe.cls oe.dict H1) :
  (cg (CX1 P w) P w K mg base N qual scope f cd A outer s H E).xe (.ref e) {s1 with heap:=h'}:=by
 have L6:((cg (CX1 P w) P w K mg base N qual scope f cd A outer s H E).A).frames=some (envOfC qual scope s.heap.objs.size f cd::outer):=I.ok.frames;have hl:s1.heap.FunFrames base (envOfC qual scope s.heap.objs.size f cd::outer):=I.stack;have L7:∀env∈(envOfC qual scope s.heap.objs.size f cd::outer),∀b,env.frame=some b->b∈e::frs (envOfC qual scope s.heap.objs.size f cd::outer):=λenv he b hb=>Jk _ (List.mem_filterMap.mpr ⟨env,he,hb⟩)
 have hB:∀b o,(PySem.W.hideAll s1.heap (e::frs (envOfC qual scope s.heap.objs.size f cd::outer))).get? b=some o->s1.heap.get? b=some o/\b≠e:=λb o q=>⟨PySem.W.of_hideAll _ q,λz=>by
  subst z;rw[PySem.W.hideAll_none _ Jo]at q;cases q⟩
 have RO:s1.heap.FunFrames (PySem.W.hideAll s1.heap (e::frs (envOfC qual scope s.heap.objs.size f cd::outer))) (envOfC qual scope s.heap.objs.size f cd::outer):=PySem.W.funFrames_hide hl L7;show wpAny _ _ (leaving _ _) _ _ _;refine xZ (base:=PySem.W.hideAll s1.heap (e::frs (envOfC qual scope s.heap.objs.size f cd::outer))) L6 rfl (λb o q=>hk b o (hB b o q).1 (hB b o q).2) (RO.of_keeps λb o q nf=>⟨o,hk b o q (λz=>by
  subst z;obtain⟨ws,dw⟩:=RL o q;exact nf ws dw),rfl⟩) OR (PySem.W.hideAll_none _ Jo) hv RM RN λh2 fl up dd=>?_
 have tB:∀b u ob,H1 b=some u->s1.heap.get? b=some ob->(PySem.W.hideAll s1.heap (e::frs (envOfC qual scope s.heap.objs.size f cd::outer))).get? b=some ob:=λb u ob hb q=>
  PySem.W.hideAll_get _ q λhm=>by
   rcases Jq.mp hm with z|hm
   ·rw[z,QX]at hb;cases hb
   ·have z:=I.stkFree b hm;rw[hb]at z;cases z
 have one:∀b o,s.heap.get? b=some o->b≠e:=λb o q z=>by rw[z,MI]at q;cases q
 have oB:∀b o ob,s.heap.get? b=some o->b∉frs outer->s1.heap.get? b=some ob->(PySem.W.hideAll s1.heap (e::frs (envOfC qual scope s.heap.objs.size f cd::outer))).get? b=some ob:=λb o ob q hb q1=>
  PySem.W.hideAll_get _ q1 λhm=>(Jq.mp hm).elim (one b o q) (I.oldNe q hb)
 have st:=fl.1;have slot:∀b o,s.heap.get? b=some o->H b=none->b∈frs outer->∃sl,h2.get? b=some {o with slots:=sl}:=λb o q n hb=>by
  obtain⟨sl,e1⟩:=I.base.slot b o q n hb (λz=>nomatch z)
  obtain⟨_,o2,e2,nf⟩:=I.ok.funs.mem hb;have e3:o2=o:=JE (e2.symm.trans q);subst e3;obtain⟨LY,e4⟩:=up b _ (hk _ _ e1 (one b _ q)) nf;exact⟨LY,e4⟩
 refine⟨e,oe.cls,_,H1,oe.dict,rfl,I.os,I.bare,⟨λb o q n hb _=>?_,λb o q n hb _=>slot b o q n hb,λb o q n _=>I.base.free b o q n (λz=>nomatch z),λb o q _=>?_,I.base.KD,I.base.Kz,I.base.KJ⟩,?_,⟨⟨_,fl⟩,dd⟩,QX,λb ob q hb=>?_,he⟩
 ·exact st b o (oB b o o q hb (I.base.keep b o q n hb (λz=>nomatch z)))
 ·by_cases hb:b∈frs outer
  ·obtain⟨sl,z⟩:=slot b o q (I.ok.frf b hb) hb;exact⟨_,z⟩
  ·obtain⟨o',e1⟩:=I.base.there b o q (λz=>nomatch z)
   exact⟨o',st b o' (oB b o o' q hb e1)⟩
 ·exact I.j_.keptT λb u ob hb q=>st b ob (tB b u ob hb q)
 ·rcases hb with hb|⟨⟨o',Lc⟩,hb⟩
  ·cases z:H1 b with
   |none=>exact absurd z hb
   |some u=>
    obtain⟨o1,e1⟩:=(I.j_ b u z).isAt;have e2:=tB b u o1 z e1;have e3:o1=ob:=JE ((st b o1 e2).symm.trans q);rw[<-e3];exact e2
  ·obtain⟨o1,e1⟩:=I.base.there b o' Lc (λz=>nomatch z)
   have e2:=oB b o' o1 Lc hb e1;have e3:o1=ob:=JE ((st b o1 e2).symm.trans q);rw[<-e3];exact e2
theorem tQ{s1:Shared}
  (I:Inv (cg (CX1 P w) P w K mg base N qual scope f cd A outer s H E) a_ Z H1 s1) (hx:Heap.MadeExcOf s1.heap h' e cls args)(he:E cls none H1) :
  (cg (CX1 P w) P w K mg base N qual scope f cd A outer s H E).xe (.ref e) {s1 with heap:=h'}:=by
 obtain⟨t,e1,_,_⟩:=hx.there;refine lU I (λb o q _=>hx.keeps b o q) (λo q=>by rw[hx.new]at q;cases q) (I.notrk hx.new) ?_ e1 rfl rfl rfl he
 cases q:s.heap.get? e with
 |none=>rfl
 |some o=>
  obtain⟨o1,z⟩:=I.base.there e o q (λz=>nomatch z)
  rw[hx.new]at z;cases z
theorem xh(hE:∀c d H',E' c d H'->E c d H')
  (I:Inv (cg (CX1 P w) P w K mg base N qual scope f cd A outer s H E) a_ Z H1 s1) (hc:CX1 P w (envOfC qual scope s.heap.objs.size f cd::outer) H1 s1 E' e s') :
  (cg (CX1 P w) P w K mg base N qual scope f cd A outer s H E).xe e s':=by
 obtain⟨a,cls,B,H2,dx,rfl,os,bare,un,j_,⟨⟨a0,fl⟩,dd⟩,ha,NI,he⟩:=hc;have L6:((cg (CX1 P w) P w K mg base N qual scope f cd A outer s H E).A).frames=some (envOfC qual scope s.heap.objs.size f cd::outer):=I.ok.frames;show wpAny _ _ (leaving _ _) _ _ _;refine uW L6 rfl fl dd λh2 QY up Mf=>?_
 have st:=QY.1;have nil:∀b:Addr,b∉([]:List Addr):=λb z=>nomatch z
 have slot:∀b o,s.heap.get? b=some o->H b=none->b∈frs outer->∃sl,h2.get? b=some {o with slots:=sl}:=λb o q n hb=>by
  obtain⟨sl,e1⟩:=I.base.slot b o q n hb (nil b);obtain⟨N3,e2⟩:=un.any e1 (I.base.free b o q n (nil b)) (nil b);obtain⟨_,o2,e3,nf⟩:=I.ok.funs.mem hb;have e4:o2=o:=JE (e3.symm.trans q);subst e4;obtain⟨LY,e5⟩:=up b _ e2 nf;exact⟨LY,e5⟩
 have K2:∀b o,s.heap.get? b=some o->b∉frs outer->∃ob,s'.heap.get? b=some ob/\B.get? b=some ob:=λb o q hb=>by
  obtain⟨o1,e1⟩:=I.base.there b o q (nil b);obtain⟨o2,e2⟩:=un.there b o1 e1 (nil b);exact⟨o2,e2,NI b o2 e2 (.inr ⟨⟨o1,e1⟩,I.oldNe q hb⟩)⟩
 refine⟨a,cls,B,H2,dx,rfl,os.trans I.os,bare,⟨λb o q n hb _=>?_,λb o q n hb _=>slot b o q n hb,λb o q n _=>?_,λb o q _=>?_,λb xs q=>un.KD b xs (I.base.KD b xs q),λb o u q=>un.Kz b o u (I.base.Kz b o u q),λb ps q=>?_⟩,?_,⟨⟨a0,QY⟩,Mf⟩,ha,λb ob q hb=>?_,hE _ _ _ he⟩
 ·have e1:=I.base.keep b o q n hb (nil b);have e2:=un.keep b o e1 (I.base.free b o q n (nil b)) (I.oldNe q hb) (nil b);exact st b o (NI b o e2 (.inr ⟨⟨o,e1⟩,I.oldNe q hb⟩))
 ·obtain⟨o1,e1⟩:=I.base.there b o q (nil b);exact un.free b o1 e1 (I.base.free b o q n (nil b)) (nil b)
 ·by_cases hb:b∈frs outer
  ·obtain⟨sl,z⟩:=slot b o q (I.ok.frf b hb) hb;exact⟨_,z⟩
  ·obtain⟨ob,_,e2⟩:=K2 b o q hb;exact⟨ob,st b ob e2⟩
 ·obtain⟨m1,e1⟩:=I.base.KJ b ps q;obtain⟨m2,e2⟩:=un.KJ b _ e1;exact⟨m1++m2,by rw[e2,Array.append_assoc]⟩
 ·exact j_.keptT λb u ob hb q=>st b ob (NI b ob q (.inl (by rw[hb];exact λz=>nomatch z)))
 ·rcases hb with hb|⟨⟨o',Lc⟩,hb⟩
  ·cases z:H2 b with
   |none=>exact absurd z hb
   |some u=>
    obtain⟨o1,e1⟩:=(j_ b u z).isAt;have e2:=NI b o1 e1 (.inl hb);have e3:o1=ob:=JE ((st b o1 e2).symm.trans q);rw[<-e3];exact e2
  ·obtain⟨o1,e1,e2⟩:=K2 b o' Lc hb;have e3:o1=ob:=JE ((st b o1 e2).symm.trans q);rw[<-e3];exact e2
theorem C9:Bh (CX1 P w) (cg (CX1 P w) P w K mg base N qual scope f cd A outer s H E) E:=λ_ _ _ _ _ _ I h=>xh (λ_ _ _ z=>z) I h
theorem GF:PassesOwn (model P w) (cg (CX1 P w) P w K mg base N qual scope f cd A outer s H E).A (cg (CX1 P w) P w K mg base N qual scope f cd A outer s H E).env (cg (CX1 P w) P w K mg base N qual scope f cd A outer s H E).xe:=
 PassesOwn.leaving
end
def u9(X:Cx)(E:XK):Prop:=∀(a_:List (Addr×Obj)) (Z:St)(H:Hp)(s:Shared)(e:Addr)(cls:Value)(args:List Value)(h':Heap),Inv X a_ Z H s->Heap.MadeExcOf s.heap h' e cls args->E cls none H->X.xe (.ref e) {s with heap:=h'}
def rJ(X:Cx)(E:XK):Prop:=∀(a_:List (Addr×Obj)) (Z:St)(H:Hp)(s:Shared)(e:Addr)(oe:Obj)(vs:Array Value)(a0:Value),Inv X a_ Z H s->H e=none->X.s₀.heap.get? e=none->s.heap.get? e=some oe->oe.data=.fields vs->vs[0]?=some a0->vs[1]?=some .none->E oe.cls oe.dict H->X.xe (.ref e) s
theorem vN{K:Ks} :
  rJ (cg (CX1 P w) P w K mg base N qual scope f cd A outer s H E) E:=λ_ _ _ s1 e oe vs a0 I ht h0 OR hv v0 v1 he=>lU (h':=s1.heap) I (λ_ _ q _=>q) (λo q=>by
 cases OR.symm.trans q;exact⟨vs,hv⟩) ht h0 OR hv v0 v1 he
theorem yj{K:Ks} :
  u9 (cg (CX1 P w) P w K mg base N qual scope f cd A outer s H E) E:=λ_ _ _ _ _ _ _ _ I hx he=>tQ I hx he
abbrev bmV:List Value:=[.type "ValueError",.type "Exception",.type "BaseException",.type "object"]
def Dr(K:Ks)(C:Addr):Prop:=PySem.W.excIn K C bmV "ValueError.__new__"=true
section
variable {X:Cx}
end
def bB(CX:CXT)(X:Cx)(E:St->XK):Prop:=∀(a_:List (Addr×Obj)) (Z:St)(H:Hp)(s:Shared)(e:Value)(s':Shared),Inv X a_ Z H s->CX X.stack H s (E Z) e s'->X.xe e s'
section
variable {X:Cx}{p:Pos}{o:Expr}
end
section
variable {X:Cx}{Z:St}{s1 s':Shared}{B:Heap}
end
noncomputable def GI(a:Addr)(cls:Value)(dx:Option Addr):HO:=.ext λh=>∃o vs,h.get? a=some o/\o.cls=cls/\o.data=.fields vs/\o.dict=dx
section
variable {X:Cx}{Z:St}{s:Shared}
end
section
variable {X:Cx}
end
section
variable {X:Cx}{c n:Str}{C:Addr}{b0:Stmt}{N5:List Stmt}{np PC pos:Pos}{aU:List ExceptHandler}{ts:TS}{tr:j2->St->XK}{i:Nat}
end
end L2
namespace L2
open PySem PySem.Spec PySem.Calls PyProof.Rows
noncomputable def eX(K:Ks)(C:Addr):Bool:=match K.lookup C with
 |some ⟨.type "type",_,.cls k,sl⟩=>(match k.mro with
  |.ref C2::above=>C2 == C&&!k.hasDel&&PySem.W.tailIn K bmV above&&(match sl.toList with
   |[_,_,_,_,some (.builtin mk),_]=>mk == "ValueError.__new__"
   |_=>false)
  |_=>false)
 |_=>false
theorem pc{K:Ks}{h:Heap}(X:K.In h)(z:eX K C=true) :
  ∃bm M nm qn bs b1 sn sb b2 co dd x0 x1 x2 x3 x5,h.get? C=some (excClassObj nm qn C M bs bm b1 sn sb b2 co dd x0 x1 x2 x3 x5 "ValueError.__new__")/\OwnTail h bmV bm:=by
 unfold eX at z;split at z
 ·rename_i dd k sl ho;split at z
  ·rename_i C2 above hm;rw[Jj,Jj,Jj,JJ]at z;obtain⟨⟨⟨rfl,z2⟩,z3⟩,z4⟩:=z;split at z4
   ·rename_i x0 x1 x2 x3 mk x5 hs;rw[JJ]at z4;subst z4;cases k with
    |mk nm bs mro ns qn hd sn sub ab Ta del=>
     cases hm;cases del with
     |true=>cases z2
     |false=>
      have es:sl=#[x0,x1,x2,x3,some (.builtin "ValueError.__new__"),x5]:=by
       cases sl with
       |mk l=>cases hs;rfl
      subst es;exact⟨above,ns,nm,qn,bs,hd,sn,sub,ab,Ta,dd,x0,x1,x2,x3,x5,X _ _ ho,PySem.W.tail_of_in X z3⟩
   ·cases z4
  ·cases z
 ·cases z
noncomputable abbrev exB:ExcBaseFacts "ValueError" "ValueError.__new__" "ValueError.__init__" bmV:=PySem.F.excBase_ValueError
section
variable {A:Around}{h:Heap}{os:OsState}{K:Ks}
theorem wG{oe:Obj}{us:List Value}(X:K.In h)(z:eX K C=true)(he:h.get? e=some oe)(hc:oe.cls=.ref C)(hd:oe.data=.fields vs)(h0:vs[0]?=some (.ref t0))(hl:us.length<=sizeLine)
  (k:Q .none ⟨(h.push {cls:=.type "tuple",data:=.seq us.toArray}).update e (Obj.mapFields (·.setIfInBounds 0 (.ref h.objs.size))),g,d,t,os⟩):wpAny (model prog w) A (call (.builtin "ValueError.__init__") (.ref e::us)) Q E ⟨h,g,d,t,os⟩:=by
 obtain⟨bm,M,nm,qn,bs,b1,sn,sb,b2,co,dd,x0,x1,x2,x3,x5,hC,T⟩:=pc X z;refine wpAny_call (codeAny_call_builtin exB.init.plain exB.initEntry (wpAny_check_init_subU exB T hC he hc ?_));unfold Builtin.«BaseException.__init__»;dsimp only;rw[Jm (by simp)]
 unfold newTuple Builtin.BaseException.bexcPut;have e1:=Jn (h:=h) {cls:=.type "tuple",data:=.seq us.toArray} he;refine AV (JT ?_ (by show us.toArray.size<=sizeLine;rw[Jy];exact hl))
 exact AV (AV (Kg e1 hd h0 (AV (Ko e1 hd (Kb.mp h0).1 (wpAny_letGo (Jl k))))))
theorem oj(T:OwnTail h bmV bm):refuseLoop self "__setattr__" bm=pure ():=by
 induction T with
 |base=>exact PySem.F.store_ValueError.passes self
 |own _ _ _ _ ih=>rw[refuseLoop_ref];exact ih
theorem xa{oe:Obj}{s:Shared}(X:K.In s.heap)(z:eX K C=true)(he:s.heap.get? e=some oe)(hc:oe.cls=.ref C)(hd:oe.data=.fields vs)(OS:oe.dict=none)
  (LK:PySem.W.findIn K (.ref C) name=some none) (PD:PySem.W.hasDictIn K C=true) (hm:PySem.W.mroIn K C (.type "object")=some true)
  (k:∀h' t',h'.get? e=some {oe with dict:=some s.heap.objs.size}->h'.Ns1 s.heap.objs.size (λy=>if y=name then some v else none)->(∀b o,b≠e->s.heap.get? b=some o->h'.get? b=some o)->R (.ok (.ret .none)) {s with heap:=h',toks:=t'}) :
  codeAny (model prog w) A (.call (.builtin "object.__setattr__") ⟨[.ref e,.str name tk,v],[]⟩) R s:=by
 obtain⟨bm,M,nm,qn,bs,b1,sn,sb,b2,co,dd,x0,x1,x2,x3,x5,hC,T⟩:=pc X z;have SF:=PySem.F.store_ValueError;have LT:PySem.W.Looks (model prog w) s.heap (typeOf (.ref e)) (.ref C):=hc▸(PySem.W.Looks.ld he).andThen .now;have sub:PySem.W.Looks (model prog w) s.heap (isInstance (.ref e) (.type "object")) true:=LT.andThen (PySem.W.looks_mroIn X hm);obtain⟨cd,K9,RP⟩:=PySem.W.any_some PD;have LM:PySem.W.Looks (model prog w) s.heap (mroOf (.ref C)) cd.mro:=(PySem.W.looks_clsIn X K9).andThen .now;have em:cd.mro=.ref C::bm:=by
  unfold PySem.W.clsIn at K9;split at K9
  ·rename_i c' d' Te QR ho;cases K9;have:=X _ _ ho;rw[hC]at this;cases this;rfl
  ·cases K9
 refine codeAny_call_builtin SF.slot.plain SF.entry (@PySem.W.check_slot (model prog w) _ _ s "object.__setattr__" "object" "__setattr__" (.ref e) [.str name tk,v] [] _ SF.kind SF.split sub (SF.args (.ref e) (.str name tk) v) ?_);rw[PySem.W.osa_eq,refuse_eq];refine AV (AV (LT.here (AV (LM.here ?_))));rw[em,refuseLoop_ref,oj T];refine Jl (AV (LT.here (AV ((PySem.W.looks_findIn X LK).here (AV (Jl ?_))))));dsimp only;obtain⟨oc,od,Tf,Ll⟩:=oe;dsimp only at hc hd OS;subst hc hd OS;refine AV (Jl (AV (AV (wpAny_loadPart he (AV ((PySem.W.looks_clsIn X K9).here ?_))))));rw[RP];refine AV (wpAny_alloc' ?_);have ne:e≠s.heap.objs.size:=JI (Jt he);have e1:(s.heap.push {cls:=.type "dict",data:=.dict #[]}).get? e=some ⟨.ref C,none,.fields vs,Ll⟩:=Jn _ he;refine AV (wpAny_update' e1 (Jl ?_));generalize hH:(s.heap.push {cls:=.type "dict",data:=.dict #[]}).update e (λo=>{cls:=o.cls,dict:=some s.heap.objs.size,data:=o.data,slots:=o.slots})=H1
 have gd:H1.get? s.heap.objs.size=some {cls:=.type "dict",data:=.dict #[]}:=by
  rw[<-hH];exact (Heap.get?_update_ne _ _ _ _ ne.symm).trans (Heap.get?_push_at rfl rfl)
 have ge:H1.get? e=some ⟨.ref C,some s.heap.objs.size,.fields vs,Ll⟩:=by
  rw[<-hH];exact JV _ e1 rfl
 have gk:∀b o,b≠e->s.heap.get? b=some o->H1.get? b=some o:=λb o n q=>by
  rw[<-hH];exact (Heap.get?_update_ne _ _ _ _ n).trans (Jn _ q)
 have nd:H1.Ns s.heap.objs.size (λ_=>none):=⟨_,#[],_,gd,rfl,λx hx=>absurd hx (by simp),λ_=>rfl⟩
 show wpAny _ _ (Builtin.ObjectAttr.storeInDict s.heap.objs.size (.str name tk) name v) _ _ _;unfold Builtin.ObjectAttr.storeInDict Builtin.ObjectAttr.newKeyGuard;refine AV (Jl (AV (wpAny_nsSet1 (Heap.Ns1.of_empty nd) λh' n' hs=>?_)))
 obtain⟨oD,RD,RE,Pn,Po,Pp⟩:=n'.count (PySem.Within.cons name v PySem.Within.nil);refine AV (wpAny_lookBehind Pn (by rw[Po];exact pastItsLine_dict (JF Pp (by rw[Jx,List.length_nil,sizeLine_eq];omega))) ?_)
 exact Jl (k h' _ ((hs.2 e ne).trans ge) n' λb o n q=>(hs.2 b (JI (Jt q))).trans (gk b o n q))
theorem yL{oe:Obj}{s:Shared}(X:K.In s.heap)(z:eX K C=true)(he:s.heap.get? e=some oe)(hc:oe.cls=.ref C)(hd:oe.data=.fields vs)(OS:oe.dict=none)
  (OT:PySem.W.findIn K (.ref C) "__setattr__"=some (some (.builtin "object.__setattr__"))) (LK:PySem.W.findIn K (.ref C) name=some none) (PD:PySem.W.hasDictIn K C=true) (hm:PySem.W.mroIn K C (.type "object")=some true)
  (k:∀h' t',h'.get? e=some {oe with dict:=some s.heap.objs.size}->h'.Ns1 s.heap.objs.size (λy=>if y=name then some v else none)->(∀b o,b≠e->s.heap.get? b=some o->h'.get? b=some o)->Q () {s with heap:=h',toks:=t'}) :
  wpAny (model prog w) A (setAttr (.ref e) name v) Q E s:=by
 have LT:PySem.W.Looks (model prog w) s.heap (typeOf (.ref e)) (.ref C):=hc▸(PySem.W.Looks.ld he).andThen .now;have f3:=PySem.F.store_ValueError.slot.bind (.ref e);unfold setAttr callSpecial? specialOf;refine AV (wpAny_mkText (AV (AV (AV (LT.at ((PySem.W.looks_findIn X OT).at (Kc (AV ?_))))))));rw[f3];refine Jl (AV (wpAny_call (xa (s:={s with toks:=s.toks+1}) X z he hc hd OS LK PD hm λh' t' q1 q2 q3=>?_)))
 exact Jl (Jl (k h' t' q1 q2 q3))
end
section
variable {pos:Pos}
theorem gT{args:List Expr}(h1:(backTo pos (starEach args env)).any (·.1)=false)(h2:args.length<30):methodCallForm (args.length+([]:List Keyword).length) (backTo pos (starEach args env)) (backToKw pos (keywordEach [] env))=true:=by
 unfold methodCallForm;have a:(backTo pos (starEach args env)).all (!·.1)=true:=by
  rw[JD];intro x hx;have:=List.any_eq_false.mp h1 x hx;simpa using this
 rw[a];have:(backToKw pos (keywordEach [] env)).all (·.1.isSome)=true:=rfl;rw[this];have h3:(backToKw pos (keywordEach ([]:List Keyword) env)).isEmpty=true:=rfl;simp only[h3,if_true,List.length_nil,Bool.true_and,Nat.add_zero,Ju];exact h2
theorem fc{n_:Pos}{args:List Expr}(hb:attributeBase o m env (eval o env)=eval o env)
  (hf:methodCallForm (args.length+([]:List Keyword).length) (backTo pos (starEach args env)) (backToKw pos (keywordEach [] env))=true) (hl:(n_.endLine == pos.line)=true) :
  eval (.Call (.Attribute o m n_) args [] pos) env=(do
   let ov<-eval o env
   standAt n_.atName
   let (f,first)<-holding [ov] (getMethod ov m (do return (<-importBound o env).getD true))
   callWith pos f first (backTo pos (starEach args env)) (backToKw pos (keywordEach [] env))):=by
 rw[arm_eval_Call,hb];unfold methodCall calleeOf methodCallPos;simp only[hf,hl];rfl
end
noncomputable def uu(e C:Addr):HO:=.ext λh=>∃t0,h.get? e=some {cls:=.ref C,data:=.fields #[.ref t0,.none,.none,.none,.bool false,.none]}
noncomputable def sY(e C dx:Addr):HO:=.ext λh=>∃t0,h.get? e=some {cls:=.ref C,dict:=some dx,data:=.fields #[.ref t0,.none,.none,.none,.bool false,.none]}
theorem xK{h:Heap}(q:h.get? e=some {cls:=.ref C,data:=.fields #[.ref t0,.none,.none,.none,.bool false,.none]}):ObjOk P w H h e (uu e C):=
 ⟨⟨t0,q⟩,⟨_,q⟩,λ_ _ ⟨t1,z⟩ k=>⟨t1,k _ z⟩⟩
theorem yp{h:Heap}(q:h.get? e=some {cls:=.ref C,dict:=some dx,data:=.fields #[.ref t0,.none,.none,.none,.bool false,.none]}):ObjOk P w H h e (sY e C dx):=
 ⟨⟨t0,q⟩,⟨_,q⟩,λ_ _ ⟨t1,z⟩ k=>⟨t1,k _ z⟩⟩
structure XIni (K:Ks)(C fI:Addr)(f:Str):Prop where
 cl:eX K C=true
 ini:PySem.W.findIn K (.ref C) "__init__"=some (some (.ref fI))
 fn:PySem.W.typeIn K (.ref fI)=some (.type "function")
 sa:PySem.W.findIn K (.ref C) "__setattr__"=some (some (.builtin "object.__setattr__"))
 at_:PySem.W.findIn K (.ref C) f=some none
 hd:PySem.W.hasDictIn K C=true
 ob:PySem.W.mroIn K C (.type "object")=some true
 kp:PySem.W.keepIn K (.ref C)=true
structure BIni (K:Ks)(D:Addr):Prop where
 ga:PySem.W.specialIn K (.ref D) "__getattribute__"=some (some (.builtin "type.__getattribute__"))
 rd:PySem.W.readsIn K D (.type "type")=true
 at_:PySem.W.findCls K (.ref D) (.type "type") "__init__"=some (.val (.builtin "ValueError.__init__"))
noncomputable def tXI(K:Ks)(t:TA):TE:=λZ H Q=>t Z H λvs H1=>∃a r C,vs=.ref a::r/\eX K C=true/\H1 a=some (uu a C)/\r.length<=sizeLine/\Q .i_ H1
noncomputable def sXF(C:Addr)(f:Str)(ta tv:TE):TS:=λD Z H=>tv Z H λy H1=>ta Z H1 λx H2=>∃a,x=.ref a/\H2 a=some (uu a C)/\∀dx o,H2 dx=none->dx≠a->D.nx Z (upd (upd H2 a (sY a C dx)) dx (.t_ o (.xd [(f,y)])))
section
variable {X:Cx}{D:Addr}{n_ pos:Pos}
theorem yy(hg:Gl X x)(hm:X.mg x=some (.ref D))(KU:(x == ("__debug__" : Str))=false)(b:BIni X.K D)(ha:PA X (e::es) t)(hl:(n_.endLine == pos.line)=true)(hn:(e::es).length<30)
  (he:starEach (e::es) X.env=(false,eval e X.env)::starEach es X.env) (Kt:(backTo pos (starEach es X.env)).any (·.1)=false) :
  PE X (.Call (.Attribute (.Name x px) "__init__" n_) (e::es) [] pos) (tXI X.K t):=by
 intro a_ s Z H Q I h;have LH:(backTo pos (starEach (e::es) X.env)).any (·.1)=false:=by
  rw[he];show ((false,_)::backTo pos (starEach es X.env)).any (·.1)=false;rw[List.any_cons,Kt];rfl
 have hT:PE X (.Name x px) (tC (.ref D)):=mz hg hm rfl KU;refine PySem.W.methodCall_KW (thn (hT a_ s Z H (λv H1=>v=.ref D/\H1=H) I ⟨rfl,rfl⟩) λu s1 ⟨v,H1,I1,r1,e1,e2⟩=>?_) (fc (by rfl) (gT LH hn) hl)
 subst e1 e2;obtain rfl:u=Value.ref D:=r1;refine PySem.W.method_cls I1.kIn b.ga (PySem.W.cls_value I1.kIn b.rd b.at_ (by decide +kernel) ?_)
 have I2:=I1.tok (s1.toks+1);rw[he];refine PySem.W.callWith_of (P:=λh=>X.K.In h) (by show ((false||(backTo pos (starEach es X.env)).any (·.1))||false)=false;rw[Kt];rfl) (λ_ _=>⟨.machine,.inr (.inl rfl),.now⟩) (PySem.Calls.evalArgs_plain ?_)
 have h2:=ha pos a_ _ Z H1 _ I2 h;rw[he]at h2;refine thn h2 λus s2 ⟨vs,H2,I3,r,a,rs,C,ev,z,ea,hz,q⟩=>⟨I3.kIn,?_⟩
 subst ev;cases r with
 |@cons v u vs us rv r=>
  obtain rfl:u=Value.ref a:=rv;have oa:=I3.j_ a _ ea;obtain⟨⟨t0,go⟩,_,_⟩:=oa;obtain⟨h2,g2,d2,t2,Tg⟩:=s2;refine wG (oe:=_) (t0:=t0) I3.kIn z go rfl rfl rfl (by rw[<-r.length];exact hz) ?_
  refine⟨.i_,H2,?_,rfl,q⟩;have ge:((h2.push {cls:=.type "tuple",data:=.seq us.toArray}).update a (Obj.mapFields (·.setIfInBounds 0 (.ref h2.objs.size)))).get? a=some {cls:=.ref C,data:=.fields #[.ref h2.objs.size,.none,.none,.none,.bool false,.none]}:=
   JV _ (Jn _ go) rfl
  have w:=I3.write (x:=a) (e:=a) (o:=uu a C) (h':=(h2.push {cls:=.type "tuple",data:=.seq us.toArray}).update a (Obj.mapFields (·.setIfInBounds 0 (.ref h2.objs.size)))) (t':=t2) (by rw[ea];exact True.intro) (.inl rfl)
   (λb ob n q=>(JO _ _ (JA n)).trans (Jn _ q)) ⟨_,ge⟩ (xK ge)
  have eq:upd H2 a (uu a C)=H2:=by
   funext b;by_cases hb:b=a
   ·rw[hb,ah,ea]
   ·rw[ae hb]
  rw[eq]at w;exact w
theorem zt(q:XIni X.K C fI f)(ha:PE X o ta)(hv:PE X value tv)(hs:swapsWith value (some (.Attribute o f Kx)) pos.line X.env=pure false):PS X (.Assign [.Attribute o f Kx] value pos) (sXF C f ta tv):=by
 intro a_ s Z H D I h;refine plainObj_wpAny_Assign_Attribute (thn (hv a_ s Z H _ I h) λu s1 ⟨y,H1,I1,ry,h1⟩=>thn (ha a_ s1 Z H1 _ I1 h1) λov s2 ⟨x,H2,I2,rx,a,ex,ea,h2⟩=>?_) hs
 subst ex;obtain rfl:ov=Value.ref a:=rx;obtain⟨⟨t0,go⟩,_,_⟩:=I2.j_ a _ ea;refine yL (vs:=#[.ref t0,.none,.none,.none,.bool false,.none]) I2.kIn q.cl go rfl rfl rfl q.sa q.at_ q.hd q.ob λh' t' g1 g2 g3=>?_
 obtain⟨od,es,ep,gd,gr⟩:=id g2;have hn:H2 s2.heap.objs.size=none:=I2.j_.fresh (Jp _);have ne:s2.heap.objs.size≠a:=Nat.ne_of_gt (Jt go);have RQ:HOk X.prog X.w (upd H2 a (sY a C s2.heap.objs.size)) h':=I2.j_.write (x:=a) (e:=a) (by rw[ea];exact True.intro) (.inl rfl) (λb u n q=>g3 b u n q) ⟨_,g1⟩ (yp g1)
 have un:∀b u,H2 b=some u->(∀φ,u≠.ext φ)->upd (upd H2 a (sY a C s2.heap.objs.size)) s2.heap.objs.size (.t_ od (.xd [(f,y)])) b=some u:=λb u q nx=>by
  rw[ae (aA q hn),ae (λz=>by rw[z,ea]at q;cases q;exact nx _ rfl)]
  exact q
 refine⟨Z,_,I2.un (t':=t') ⟨λb ob z n _ _=>g3 b ob (λw=>by rw[w,ea]at n;cases n) z,λb ob z n _ _=>⟨ob.slots,g3 b ob (λw=>by rw[w,ea]at n;cases n) z⟩,λb ob z n _=>?_,λb ob z _=>?_,λb xs z=>un b _ z (λ_ w=>nomatch w),λb ob u z=>un b _ z (λ_ w=>nomatch w),λb ps z=>⟨#[],by rw[Array.append_empty];exact un b _ z (λ_ w=>nomatch w)⟩⟩ (λb u z=>?_),h2 _ od hn ne⟩
 ·rw[ae (JI (Jt z)),ae (λw=>by rw[w,ea]at n;cases n)]
  exact n
 ·by_cases w:b=a
  ·subst w;exact⟨_,g1⟩
  ·exact⟨_,g3 b ob w z⟩
 ·by_cases w:b=s2.heap.objs.size
  ·subst w;rw[ah]at z;cases z;refine⟨gd,_,g2,λn=>?_⟩
   show RelO (List.lookup n [(f,y)]) (if n=f then some u else none)
   by_cases wn:n=f
   ·rw[Js wn,wn,JX,beq_self_eq_true];exact ry
   ·rw[Jm wn,JX,JP.mpr wn];exact True.intro
  ·rw[ae w]at z;refine (RQ b u z).stay (λ_ _ _ q=>q) (λc q=>?_) λc xs q=>?_
   ·rw[ae λe=>?_]
    ·exact q
    ·rw[e,ae ne,hn]at q;cases q
   ·rw[ae λe=>?_]
    ·exact q
    ·rw[e,ae ne,hn]at q;cases q
noncomputable def pK(cp:Bool)(K:Ks)(C:Addr)(f:Str):Sp:=λvs H Q _=>∃a v,vs=[.ref a,v]/\H a=some (uu a C)/\(cp=false->∀dx ob,H dx=none->dx≠a->Q .i_ (upd (upd H a (sY a C dx)) dx (.t_ ob (.xd [(f,v)]))))/\
 (cp=true->∃p ws,v=.ref p/\SqL K H p ws/\∀q dx ob,H q=none->H dx=none->dx≠a->dx≠q->Q .i_ (upd (upd (upd H q (.lst ws)) a (sY a C dx)) dx (.t_ ob (.xd [(f,.ref q)]))))
end
theorem yI{P:Program}{w:World}{K:Ks}{mg:Str->Option Value}{base:Heap}{fI C D:Addr}{name qual:Str}{params:Arguments}{scope:Scope}{kV doc pm Kw ct oc:Value}{an od:Option Addr}{Ll:Array (Option Value)}{b sl pr f tx:Str}{j:Nat}{px n_ p1 p2 cp p3 p4 p5 p6 p7 p8 p9:Pos}
  (lk:K.lookup fI=some ⟨oc,od,.func (PySem.W.fnOf name qual params [.Expr (.Call (.Attribute (.Name b px) "__init__" n_) [.Name sl p1,.Constant (.str tx) j p2] [] cp) p3,.Assign [.Attribute (.Name sl p4) f p5] (.Call (.Name "list" p8) [.Name pr p6] [] p9) p7] scope .none kV doc pm an Kw ct),Ll⟩)
  (K9:PySem.W.codeIn K Kw qual=true) (S:FnScope [sl,pr] [sl,pr] scope) (hg:scope.names.lookup b=some .globalImplicit) (N6:scope.names.lookup ("list" : Str)=some .globalImplicit) (PF:mg "list"=none) (hm:mg b=some (.ref D)) (hl:(n_.endLine == cp.line)=true) (hb:BIni K D) (q:XIni K C fI f)
  (RR:(b == ("__debug__" : Str))=false) (QZ:(sl == ("__debug__" : Str))=false) (RS:(pr == ("__debug__" : Str))=false) (Q0:(sl == ("__classdict__" : Str))=false) (RT:(pr == ("__classdict__" : Str))=false) :
  FnOk P w K mg base (CX1 P w) 1 fI (PySem.W.fnOf name qual params [.Expr (.Call (.Attribute (.Name b px) "__init__" n_) [.Name sl p1,.Constant (.str tx) j p2] [] cp) p3,.Assign [.Attribute (.Name sl p4) f p5] (.Call (.Name "list" p8) [.Name pr p6] [] p9) p7] scope .none kV doc pm an Kw ct) [sl,pr] (pK true K C f):=by
 refine wl (k:=0) lk K9 S (λvs H Q E ⟨_,_,e,_⟩=>by subst e;rfl) λA outer s H vs Q E hr MF=>?_
 obtain⟨a,v,ev,ea,_,h⟩:=MF;obtain⟨p0,ws,ep,sq,h⟩:=h rfl;subst ev;have vs:∀x∈[sl,pr],Vis scope x:=λx hx=>(S.par x hx).elim .inl λz=>.inr (.inl z)
 have h0:PE (cg (CX1 P w) P w K mg base [sl,pr] qual scope fI Kw A outer s H E) (.Name sl p1) (xJ 0):=mh rfl (vs _ (by simp)) QZ Q0
 have h4:PE (cg (CX1 P w) P w K mg base [sl,pr] qual scope fI Kw A outer s H E) (.Name sl p4) (xJ 0):=mh rfl (vs _ (by simp)) QZ Q0
 have h1:PE (cg (CX1 P w) P w K mg base [sl,pr] qual scope fI Kw A outer s H E) (.Name pr p6) (xJ 1):=mh rfl (vs _ (by simp)) RS RT
 refine⟨_,nZ (mF (yy (D:=D) hg hm RR hb (bb h0 (bb vC pa_nil)) hl (by simp) rfl rfl)) (yl (zt q h4 (lT (T:="list") gD N6 PF (by decide +kernel) (bb h1 pa_nil)) rfl)),?_⟩
 refine⟨.ref a,rfl,?_⟩;refine⟨a,[.str tx],C,rfl,q.cl,ea,by rw[sizeLine_eq];simp,?_⟩
 refine⟨v,rfl,p0,ws,by rw[ep],.inl sq,λq hq=>⟨.ref a,rfl,a,rfl,?_,λdx ob n ne=>?_⟩⟩
 ·rw[ae (aA ea hq)];exact ea
 ·have nq:dx≠q:=λz=>by rw[z,ah]at n;cases n
  rw[ae nq]at n;exact h q dx ob hq n ne nq
end L2
namespace L2
open PySem PySem.Spec PyProof.Rows
noncomputable def aQ(names:List (Str×NameKind))(cs:List (Str×Addr))(acc:List (Str×Addr)):List (Str×Addr):=match names with
 |[]=>acc
 |(n,k)::r=>if k=.free then (match cs.lookup n with|some c=>aQ r cs ((n,c)::acc)|none=>aQ r cs acc) else aQ r cs acc
theorem bJ{cs:List (Str×Addr)}:∀{names:List (Str×NameKind)}{acc:List (Str×Addr)},(∀p∈acc,cs.lookup p.1=some p.2)->∀p∈aQ names cs acc,cs.lookup p.1=some p.2
 |[],_,h,p,hp=>h p hp
 |(n,k)::r,acc,h,p,hp=>by
  unfold aQ at hp;split at hp
  ·split at hp
   next c e=>
    refine bJ (λq hq=>?_) p hp
    rcases Jq.mp hq with z|z
    ·subst z;exact e
    ·exact h q z
   next=>exact bJ h p hp
  ·exact bJ h p hp
theorem dP:∀{names:List (Str×NameKind)}{acc:List (Str×Addr)}{p:Str×Addr},p∈acc->p∈aQ names cs acc
 |[],_,_,h=>h
 |(n,k)::r,acc,p,h=>by
  unfold aQ;split
  ·split
   ·exact dP (Jk _ h)
   ·exact dP h
  ·exact dP h
theorem dG{cs:List (Str×Addr)}(e:cs.lookup x=some c):∀{names:List (Str×NameKind)}{acc:List (Str×Addr)},(x,NameKind.free)∈names->(x,c)∈aQ names cs acc
 |(n,k)::r,acc,h=>by
  rcases Jq.mp h with z|z
  ·cases z;unfold aQ;rw[Js rfl,e];exact dP Jo
  ·unfold aQ;split
   ·split
    ·exact dG e z
    ·exact dG e z
   ·exact dG e z
theorem eF{l:List (Str×Addr)}(h:(x,c)∈l)(u:∀p∈l,p.1=x->p.2=c):l.lookup x=some c:=by
 induction l with
 |nil=>cases h
 |cons p r ih=>
  obtain⟨n,d⟩:=p;by_cases e:x=n
  ·subst e;rw[JX,beq_self_eq_true];exact congrArg some (u (x,d) Jo rfl)
  ·rw[JX];rw[JP.mpr e];rcases Jq.mp h with z|z
   ·cases z;exact absurd rfl e
   ·exact ih z λq hq=>u q (Jk _ hq)
theorem bC{l:List (Str×Addr)}(h:l.lookup x=some c):(x,c)∈l:=PySem.mem_of_lookup h
theorem n6{cs:List (Str×Addr)}(hm:(x,NameKind.free)∈names)(e:cs.lookup x=some c):(aQ names cs []).lookup x=some c:=by
 refine eF (dG e hm) λp hp hx=>?_
 have z:=bJ (acc:=[]) (λp hp=>nomatch hp) p hp
 rw[hx,e]at z;exact (JE z).symm
theorem uz{env:Env}(e:env.cells.lookup n=some c):cellOf env n=pure c:=by
 unfold cellOf;rw[e]
theorem lg{scope:Scope}{env:Env}(h:∀y∈scope.names,y.2=.free->∃c,env.cells.lookup y.1=some c):closureFor scope env=pure (aQ scope.names env.cells []):=by
 have go:∀(names:List (Str×NameKind)) (acc:List (Str×Addr)),(∀y∈names,y.2=.free->∃c,env.cells.lookup y.1=some c)->
   (forIn names acc λx r=>match x with
    |(n,k)=>if (k == NameKind.free)=true then do let c<-cellOf env n;pure (ForInStep.yield ((n,c)::r)) else pure (ForInStep.yield r):Sem (List (Str×Addr)))=pure (aQ names env.cells acc):=by
  intro names
  induction names with
  |nil=>intro acc _;rfl
  |cons y r ih=>
   intro acc hy;obtain⟨n,k⟩:=y;rw[List.forIn_cons];by_cases hk:k=NameKind.free
   ·subst hk;obtain⟨c,e⟩:=hy (n,.free) Jo rfl;simp only[beq_self_eq_true,if_true];rw[uz e];show (forIn r ((n,c)::acc) _:Sem _)=_;rw[ih _ λz hz=>hy z (Jk _ hz)]
    conv=>rhs;unfold aQ
    simp only[if_true,e]
   ·have hb:(k == NameKind.free)=false:=by simpa using hk
    simp only[hb,Kh,if_false];show (forIn r acc _:Sem _)=_;rw[ih _ λz hz=>hy z (Jk _ hz)]
    conv=>rhs;unfold aQ
    simp only[hk,if_false]
 have e:=go scope.names [] h;show ((forIn scope.names [] λx r=>match x with
    |(n,k)=>if (k == NameKind.free)=true then do let c<-cellOf env n;pure (ForInStep.yield ((n,c)::r)) else pure (ForInStep.yield r):Sem (List (Str×Addr))) >>=λz=>pure z)=_
 rw[e];rfl
theorem aN:∀(names:List (Str×NameKind)) (n:Nat) (acc:List (Str×Addr)),cellsFrom n names acc=cellsFrom n names []++acc
 |[],_,_=>rfl
 |(x,k)::r,n,acc=>by
  unfold cellsFrom;split
  ·rw[aN r (n+1) ((x,n)::acc),aN r (n+1) [(x,n)],List.append_assoc];rfl
  ·exact aN r n acc
theorem aH:∀{names:List (Str×NameKind)}{n:Nat}{p:Str×Addr},p∈cellsFrom n names []->(p.1,NameKind.cell)∈names/\n<=p.2
 |[],_,_,h=>nomatch h
 |(x,k)::r,n,p,h=>by
  unfold cellsFrom at h;split at h
  ·rename_i hk;rw[aN]at h;rcases JK.mp h with z|z
   ·obtain⟨a,b⟩:=aH z;exact⟨Jk _ a,by omega⟩
   ·obtain rfl:=JB.mp z;exact⟨by rw[show k=NameKind.cell from by simpa using hk];exact Jo,Jp _⟩
  ·obtain⟨a,b⟩:=aH h;exact⟨Jk _ a,b⟩
theorem ce:∀{names:List (Str×NameKind)}{n:Nat}{x:Str},(x,NameKind.cell)∈names->∃c,(x,c)∈cellsFrom n names []
 |(y,k)::r,n,x,h=>by
  rcases Jq.mp h with z|z
  ·cases z;unfold cellsFrom;rw[Js (by rfl),aN]
   exact⟨n,JL _ Jo⟩
  ·unfold cellsFrom;split
   ·obtain⟨c,e⟩:=ce z (n:=n+1);rw[aN];exact⟨c,J8 _ e⟩
   ·exact ce z
theorem dD:∀{l:List (Str×Addr)}{x:Str}{c:Addr},(x,c)∈l->∃c',l.lookup x=some c'
 |(y,d)::r,x,c,h=>by
  rw[JX];cases e:x == y with
  |true=>exact⟨d,rfl⟩
  |false=>
   rcases Jq.mp h with z|z
   ·cases z;simp at e
   ·exact dD z
theorem iF
  (hQ:Q {scope:=scope,locals:=s.heap.objs.size,globals:=globals,cells:=cellsFrom (s.heap.objs.size+1) scope.names []++cl,qual:=qual,func:=none,code:=outer.code,frame:=outer.frame,builtins:=outer.builtins} {s with heap:=pushCells (s.heap.push {cls:=.type "dict",data:=.dict #[]}) scope.names}) :
  wpAny M A (newFunctionEnv scope globals cl [] qual none .none (some outer)) Q E s:=by
 simp only[newFunctionEnv,Option.isSome_some,if_true];refine AV (wpAny_alloc ?_);refine AV (wpAny_layCells _ (λname kind cells=>by cases PH:kind == NameKind.cell<;>simp[PH]) _ _ _ _ ?_)
 rw[show ({s with heap:=s.heap.push {cls:=.type "dict",data:=.dict #[]}}:Shared).heap.objs.size=s.heap.objs.size+1 from Heap.size_push ..,aN]
 refine AV ?_;rw[List.forIn_nil];exact Jl (Jl hQ)
noncomputable def eP(N:List Str)(js:List (Option Nat))(sc LZ:Scope)(oN:List Str):Bool:=
 N.length == js.length&&decide N.Nodup&&
 (N.zip js).all (λp=>match p.2 with
  |none=>sc.names.lookup p.1 == some .local||sc.names.lookup p.1 == some .cell
  |some j=>oN[j]? == some p.1&&sc.names.contains (p.1,NameKind.free)&&LZ.names.lookup p.1 == some .cell)&&
 decide (sc.names.map (·.1)).Nodup&&sc.names.all (λy=>(y.2 != .free||LZ.names.lookup y.1 == some .cell)&&(y.2 != .local||sc.names.lookup y.1 == some .local))&&(sc.kind == .function)&&(LZ.kind == .function)
noncomputable def j8(js:List (Option Nat))(Z:St):St:=js.map λo=>o.bind λj=>(Z[j]?).bind id
noncomputable abbrev compCx(X:Cx)(scope:Scope)(C:Addr)(N:List Str)(s2:Shared)(H2:Hp)(fp:List Addr)(a_:List (Addr×Obj)):Cx:=
 {X with env:=compEnvC scope (cellsFrom (C+1) scope.names []++aQ scope.names X.env.cells []) C X.env,N:=N,s₀:=s2,H₀:=H2,outer:=X.stack,stack:=X.stack,ex:=fp,fn:=λx=>scope.names.lookup x == some .cell,pn:=X.pn++a_,xe:=λ_ _=>False}
theorem gP{env:Env}(hk:env.scope.kind=.function)(hc:env.kindOf x=some .cell):∀{names:List (Str×NameKind)},(x,NameKind.free)∈names->(∀y∈names,y.1=x->y.2=.free)->
  (names.map λ(n,k)=>if (k == .free&&env.scope.kind == .function&&env.kindOf n == some .cell) then (n,.cell) else (n,k)).lookup x=some NameKind.cell
 |(n,k)::r,hm,hu=>by
  show List.lookup x ((if (k == NameKind.free&&env.scope.kind == .function&&env.kindOf n == some .cell)=true then (n,NameKind.cell) else (n,k))::_)=_
  by_cases e:x=n
  ·subst e;have ek:k=.free:=hu (x,k) Jo rfl;subst ek;simp only[hk,hc,beq_self_eq_true,Bool.and_self,if_true];rw[JX,beq_self_eq_true]
  ·have Mp:(x,NameKind.free)∈r:=by
    rcases Jq.mp hm with z|z
    ·cases z;exact absurd rfl e
    ·exact z
   have ih:=gP hk hc Mp λy hy=>hu y (Jk _ hy)
   split
   ·rw[JX,JP.mpr e];exact ih
   ·rw[JX,JP.mpr e];exact ih
structure CompOk (N:List Str) (js:List (Option Nat)) (sc LZ:Scope)(oN:List Str):Prop where
 len:N.length=js.length
 nd:N.Nodup
 own:∀(i:Nat)(x:Str),N[i]?=some x->js[i]?=some none->sc.names.lookup x=some .local\/sc.names.lookup x=some .cell
 fr:∀(i:Nat)(x:Str)(j:Nat),N[i]?=some x->js[i]?=some (some j)->oN[j]?=some x/\(x,NameKind.free)∈sc.names/\LZ.names.lookup x=some .cell
 ndn:(sc.names.map (·.1)).Nodup
 nf:∀y∈sc.names,y.2=.free->LZ.names.lookup y.1=some .cell
 nl:∀y∈sc.names,y.2=.local->sc.names.lookup y.1=some .local
 k1:sc.kind=.function
 k2:LZ.kind=.function
theorem ls(h:eP N js sc LZ oN=true):CompOk N js sc LZ oN:=by
 unfold eP at h;simp only[Jj,JJ,Ju,JD,Bool.or_eq_true,bne_iff_ne]at h;obtain⟨⟨⟨⟨⟨⟨h1,h2⟩,h3⟩,h4⟩,h5⟩,h6⟩,h7⟩:=h;have zip:∀(i:Nat)(x:Str)(o:Option Nat),N[i]?=some x->js[i]?=some o->(x,o)∈N.zip js:=λi x o e1 e2=>
  Ka (i:=i) (by rw[List.getElem?_zip_eq_some];exact⟨e1,e2⟩)
 refine⟨h1,h2,λi x e1 e2=>?_,λi x j e1 e2=>?_,h4,λy hy e=>?_,λy hy e=>?_,h6,h7⟩
 ·have z:=h3 _ (zip i x _ e1 e2);simpa using z
 ·have z:=h3 _ (zip i x _ e1 e2);simp only[Jj,JJ]at z;exact⟨z.1.1,List.contains_iff_mem.mp z.1.2,z.2⟩
 ·rcases (h5 y hy).1 with z|z
  ·exact absurd e z
  ·exact z
 ·rcases (h5 y hy).2 with z|z
  ·exact absurd e z
  ·exact z
theorem eG{env:Env}:∀{names:List (Str×NameKind)},
  (names.map λ(n,k)=>if (k == .free&&env.scope.kind == .function&&env.kindOf n == some .cell) then (n,.cell) else (n,k)).lookup x=some k->∃k',(x,k')∈names/\(k'=k\/k'=.free)
 |[],h=>by cases h
 |(n,k0)::r,h=>by
  have h:List.lookup x ((if (k0 == NameKind.free&&env.scope.kind == .function&&env.kindOf n == some .cell)=true then (n,NameKind.cell) else (n,k0))::_)=_:=h
  by_cases e:x=n
  ·subst e;split at h
   next hc=>
    refine⟨k0,Jo,.inr ?_⟩;have:=(Kr.mp (Kr.mp hc).1).1;simpa using this
   next=>
    rw[JX,beq_self_eq_true]at h;exact⟨k0,Jo,.inl (JE h)⟩
  ·have h':List.lookup x (r.map λ(n,k)=>if (k == .free&&env.scope.kind == .function&&env.kindOf n == some .cell) then (n,.cell) else (n,k))=some k:=by
    split at h
    ·rw[JX,JP.mpr e]at h;exact h
    ·rw[JX,JP.mpr e]at h;exact h
   obtain⟨k',m,z⟩:=eG h';exact⟨k',Jk _ m,z⟩
theorem ue(I:Nat->Shared->Prop)
  (mj:∀n s,I n s->wpAny (model prog w) A (pyNext it) (λr s1=>match r with
   |none=>R (.ok .next) s1
   |some v=>wpAny (model prog w) A (letOwnedTupleGo K8 it v) (λ_ s2=>wpAny (model prog w) A (assign K8 env v) (λ_ s3=>
     wpAny (model prog w) A (forIn ifs true λc r=>if r=true then do let ok<-isTrue c env (eval c env);pure (ForInStep.yield ok) else pure (ForInStep.yield r)) (λok s4=>
      if ok=true then wpAny (model prog w) A (eval I_ env) (λx s5=>wpAny (model prog w) A (call (.builtin "list.append") [acc,x]) (λ_ s6=>∃m,m<n/\I m s6) (λ_ _=>False) s5) (λ_ _=>False) s4
      else ∃m,m<n/\I m s4) (λ_ _=>False) s3) (λ_ _=>False) s2) (λ_ _=>False) s1) (λ_ _=>False) s)
  (n:Nat)(h:I n s):codeAny (model prog w) A (.compLoop (.ListComp I_ [⟨K8,iter,ifs,0⟩] scope pos) 0 it acc env) R s:=by
 have no:∀{α:Type}{t:Sem α}{Q:α->Shared->Prop}{E:Value->Shared->Prop}{z:Shared},wpAny (model prog w) A t Q (λ_ _=>False) z->wpAny (model prog w) A t Q E z:=λh=>wpAny_noRaise h
 refine codeAny_loop rfl I (λn s hI=>?_) n h
 show wpAny _ A ((compTurn (.ListComp I_ [⟨K8,iter,ifs,0⟩] scope pos) 0 it acc env).onRaise (λx=>do noteFrame x env;theTreesLotGoes x)) _ _ s
 refine wpAny_noted ?_;rw[compTurn_list];refine AV (wpAny_standAt (AV (no (Km (mj n s hI) (λr s1 h1=>?_) λ_ _ z=>z))))
 cases r with
 |none=>exact Jl h1
 |some v=>
  refine AV (no (Km h1 (λ_ s2 h2=>?_) λ_ _ z=>z))
  refine AV (no (Km h2 (λ_ s3 h3=>?_) λ_ _ z=>z))
  refine AV (no (Km h3 (λok s4 h4=>?_) λ_ _ z=>z))
  cases ok with
  |false=>exact Jl ⟨rfl,h4⟩
  |true=>
   refine AV (AV (no (Km h4 (λx s5 h5=>?_) λ_ _ z=>z)))
   exact AV (no (Km h5 (λ_ s6 h6=>Jl (Jl ⟨rfl,h6⟩)) λ_ _ z=>z))
def PIf(X:Cx)(ifs:List Expr)(tt:TT):Prop:=∀(a_:List (Addr×Obj)) (s:Shared)(Z:St)(H:Hp)(Q:Bool->Hp->Prop),Inv X a_ Z H s->tt Z H Q->
 wpAny (model X.prog X.w) X.A (forIn ifs true λc r=>if r=true then do let ok<-isTrue c X.env (eval c X.env);pure (ForInStep.yield ok) else pure (ForInStep.yield r)) (TP X a_ Z Q) X.xe s
noncomputable def tYes:TT:=λ_ H Q=>Q true H
theorem xG:PIf X [] tYes:=λa_ s Z H Q I h=>wpAny_tests_nil ⟨H,I,h⟩
theorem yn(h:PT X c t):PIf X [c] t:=λa_ s Z H Q I q=>wpAny_tests_one (h a_ s Z H Q I q)
noncomputable def sh(js:List (Option Nat))(wi:TI)(g:TG)(tt:TT)(te:TE):TE:=λZ H Q=>wi Z H λJ H1=>∀p,H1 p=none->∃W:Nat->Nat->St->Hp->Prop,(∃m,W 0 m (j8 js Z) (upd H1 p (.lst [])))/\
 ∀(i:Nat) m Ly H,W i m Ly H->(J.stop i H/\Q (.ref p) H)\/(J.go i H/\∀x H',J.yld i H x H'->g x Ly H' λK_ H2=>tt K_ H2 λb H3=>
  if b=true then te K_ H3 λy H4=>∃ys,H4 p=some (.lst ys)/\ys.length<sizeLine/\∃m',m' < m/\W (i+1) m' K_ (upd H4 p (.lst (ys++[y]))) else ∃m',m' < m/\W (i+1) m' K_ H3)
section
variable {X:Cx}
theorem oA(j_:eP N js scope X.env.scope X.N=true)(G_:X.calm=true)(hi:PI X tg iter wi)
  (hg:∀C s2 H2 fp pn,PG (compCx X scope C N s2 H2 fp pn) tg g) (ht:∀C s2 H2 fp pn,PIf (compCx X scope C N s2 H2 fp pn) ifs tt) (he:∀C s2 H2 fp pn,PE (compCx X scope C N s2 H2 fp pn) I_ te)
  (hs:∀x,foldedSetIterable iter X.env x=pure x) (I:Inv X a_ Z H s)(h:sh js wi g tt te Z H Q)
  (fin:∀(D C:Addr)(s5:Shared)(H4:Hp)(m5:Str->Option Value),s5.heap.Ns C m5->fj X a_ H4 C->(∀h',Heap.SameBut C s5.heap h'->Inv X a_ Z H4 {s5 with heap:=h'})->Q (.ref D) H4->compPost (model X.prog X.w) X.A X.xe use Qf (.ref D) C (.ok .next) s5) :
  wpAny (model X.prog X.w) X.A (comprehension (.ListComp I_ [⟨tg,iter,ifs,0⟩] scope pos) scope X.env Kx (newList []) false (eval iter X.env) use) Qf X.xe s:=by
 have O:=ls j_;have L8:∀y∈scope.names,y.2=.free->∃c,X.env.cells.lookup y.1=some c:=λy hy e=>I.ok.has y.1 (.inl (O.nf y hy e))
 refine wpAny_comprehension_free (use:=use) rfl hs (lg L8) O.k1 O.nl (thn (hi a_ s Z H _ I h) λxv s1 h1=>thn h1 λPj s2 h2=>?_)
 obtain⟨it,fp,tn,J,H2,rfl,I2,T,ON,f2,hQ⟩:=h2;refine JT (iF ?_);dsimp only;have PJ:(s2.heap.push {cls:=.type "list",dict:=none,data:=.seq ([]:List Value).toArray}).objs.size=s2.heap.objs.size+1:=Heap.size_push ..;have Q1:((s2.heap.push {cls:=.type "list",dict:=none,data:=.seq ([]:List Value).toArray}).push {cls:=.type "dict",data:=.dict #[]}).objs.size=s2.heap.objs.size+1+1:=by rw[Heap.size_push,PJ]
 have N0:(pushCells ((s2.heap.push {cls:=.type "list",dict:=none,data:=.seq ([]:List Value).toArray}).push {cls:=.type "dict",data:=.dict #[]}) scope.names).Ns (s2.heap.objs.size+1) (λ_=>none):=by
  rw[<-PJ];exact (Heap.Ns.new _ (.type "dict")).keeps (pushCells_keeps _ _)
 have keep:∀b o,s2.heap.get? b=some o->(pushCells ((s2.heap.push {cls:=.type "list",dict:=none,data:=.seq ([]:List Value).toArray}).push {cls:=.type "dict",data:=.dict #[]}) scope.names).get? b=some o:=λb o e=>
  pushCells_keeps _ _ b o (Jn _ (Jn _ e))
 have Q4:(pushCells ((s2.heap.push {cls:=.type "list",dict:=none,data:=.seq ([]:List Value).toArray}).push {cls:=.type "dict",data:=.dict #[]}) scope.names).get? s2.heap.objs.size=some {cls:=.type "list",data:=.seq ([]:List Value).toArray}:=
  pushCells_keeps _ _ _ _ (Jn _ (Jr _ rfl))
 have OU:=cellsFrom_ok scope.names ((s2.heap.push {cls:=.type "list",dict:=none,data:=.seq ([]:List Value).toArray}).push {cls:=.type "dict",data:=.dict #[]}) (s2.heap.objs.size+1+1) [] ⟨λ_ _ hm=>(nomatch hm),List.Pairwise.nil⟩ (by rw[Q1];exact Jp _)
 rw[Q1]at OU;rw[PJ];generalize pushCells ((s2.heap.push {cls:=.type "list",dict:=none,data:=.seq ([]:List Value).toArray}).push {cls:=.type "dict",data:=.dict #[]}) scope.names=N7 at N0 keep Q4 OU ⊢;have Q5:H2 s2.heap.objs.size=none:=I2.j_.fresh (Jp _);have RU:H2 (s2.heap.objs.size+1)=none:=I2.j_.fresh (Kn _);have RV:s2.heap.objs.size+1≠s2.heap.objs.size:=Nat.succ_ne_self _;obtain⟨W,⟨m0,w0⟩,mj⟩:=hQ s2.heap.objs.size Q5;have K3:∀b∈fp,b<s2.heap.objs.size:=λb hb=>by
  obtain⟨o,e,_⟩:=T.obj 0 _ ON b hb;exact Jt e
 have lk:∀x c,(cellsFrom (s2.heap.objs.size+1+1) scope.names []++aQ scope.names X.env.cells []).lookup x=some c->(x,c)∈cellsFrom (s2.heap.objs.size+1+1) scope.names []\/X.env.cells.lookup x=some c:=λx c e=>by
  rcases JK.mp (bC e) with z|z
  ·exact .inl z
  ·exact .inr (bJ (acc:=[]) (λp hp=>nomatch hp) _ z)
 have K2:∀x c,X.env.cells.lookup x=some c->c<s2.heap.objs.size:=λx c e=>by
  obtain⟨v,o,ho,hd⟩:=I2.cell x c e;exact Jt ho
 have cne:∀b∈fp,∀x c,(cellsFrom (s2.heap.objs.size+1+1) scope.names []++aQ scope.names X.env.cells []).lookup x=some c->c≠b:=λb hb x c e=>by
  rcases lk x c e with z|z
  ·have a1:=(aH z).2;exact Nat.ne_of_gt (Jw (K3 b hb) (JF (Kp _ 2) a1))
  ·exact (f2 b hb).2.2.2.2.1 x c z
 let Xc:Cx:=compCx X scope (s2.heap.objs.size+1) N s2 H2 fp a_
 have RW:Xc.Ok:=by
  refine⟨I2.ok.mod,O.k1,I2.ok.glob,I2.ok.blt,Kn _,λx y c e1 e2=>?_,λx hx=>?_,λx c e1 e2=>?_,I2.ok.hd,I2.ok.frames,.inl rfl,λb hb=>?_,I2.bs,JF I2.ok.bsz I2.sz,λb o e hb=>?_,λb hb hm=>?_,I2.stack,I2.stkFree⟩
  ·rcases lk x c e1 with z1|z1<;>rcases lk y c e2 with z2|z2
   ·exact name_of_addr OU.apart z1 z2
   ·have a1:=(aH z1).2;exact absurd (Jw (K2 _ _ z2) (JF (Kp _ 2) a1)) (Ke _)
   ·have a1:=(aH z2).2;exact absurd (Jw (K2 _ _ z1) (JF (Kp _ 2) a1)) (Ke _)
   ·exact I2.ok.inj x y c z1 z2
  ·have hx:(relabel scope X.env).names.lookup x=some .cell\/(relabel scope X.env).names.lookup x=some .free:=hx;have key:(x,NameKind.free)∈scope.names\/(x,NameKind.cell)∈scope.names:=by
    rcases hx with hx|hx
    ·obtain⟨k',m,z⟩:=eG hx;rcases z with z|z
     ·subst z;exact .inr m
     ·subst z;exact .inl m
    ·obtain⟨k',m,z⟩:=eG hx;rcases z with z|z<;>(subst z;exact .inl m)
   rcases key with key|key
   ·obtain⟨c,e⟩:=L8 _ key rfl;exact dD (JL _ (bC (n6 key e)))
   ·obtain⟨c,e⟩:=ce key (n:=s2.heap.objs.size+1+1);exact dD (J8 _ e)
  ·have e1:scope.names.lookup x=some .cell:=JJ.mp e1;obtain⟨c1,h1⟩:=ce (PySem.mem_of_lookup e1) (n:=s2.heap.objs.size+1+1);obtain⟨c2,h2⟩:=dD h1;have e2:(cellsFrom (s2.heap.objs.size+1+1) scope.names []++aQ scope.names X.env.cells []).lookup x=some c:=e2;rw[List.lookup_append,h2]at e2;cases e2;have a1:=(aH (bC h2)).2;exact JF (Kp _ 2) a1
  ·exact⟨JI (Nat.lt_succ_of_lt (K3 b hb)),λx c e=>cne b hb x c e⟩
  ·rcases (f2 b hb).2.2.2.1 with z|z
   ·exact I2.ok.noex b o e z
   ·exact absurd (Jw (Jt e) (JF I2.ok.bsz z)) (Ke _)
  ·rcases Jq.mp (I2.stkSub b hm) with z|z
   ·exact (f2 b hb).2.1 z
   ·exact (f2 b hb).2.2.1 z
 have I3:Inv Xc [] (j8 js Z) (upd H2 s2.heap.objs.size (.lst [])) {s2 with heap:=N7}:=by
  refine⟨RW,rfl,I2.bare,Un.laid keep (Jp _) Q5,⟨_,N0,λi x v e1 e2 e3=>?_⟩,λx c e=>?_,?_,λx c e=>?_,λp hp=>?_,?_,?_⟩
  ·have e2:(js.map λo=>o.bind λj=>(Z[j]?).bind id)[i]?=some (some v):=e2
   rw[Jz]at e2;cases q:js[i]? with
   |none=>rw[q]at e2;cases e2
   |some o=>
    rw[q]at e2;cases o with
    |none=>cases e2
    |some j=>
     obtain⟨a1,a2,a3⟩:=O.fr i x j e1 q;have hv:Z[j]?=some (some v):=by
      cases z:Z[j]? with
      |none=>rw[Option.map_some,Option.bind_some,z]at e2;cases e2
      |some y=>
       rw[Option.map_some,Option.bind_some,z]at e2;have e2:some (id y)=some (some v):=e2;rw[show y=some v from JE e2]
     obtain⟨m,hn,hl⟩:=I2.loc;obtain⟨u,r,l⟩:=hl j x v a1 hv (.inr (.inl a3));refine⟨u,r,?_⟩;rcases l with ⟨k,_⟩|⟨k,c,e,o,ho,hd⟩
     ·rw[show X.env.kindOf x=some .cell from a3]at k;cases k
     ·have only:∀y∈scope.names,y.1=x->y.2=.free:=λy hy PK=>?_
      ·refine .inr ⟨.inl (gP I2.ok.kind a3 a2 only),c,eF (JL _ (bC (n6 a2 e))) (λp hp hx=>?_),o,keep _ _ ho,hd⟩
       rcases JK.mp hp with z|z
       ·have:=only _ (aH z).1 hx;cases this
       ·have z:=bJ (acc:=[]) (λp hp=>nomatch hp) p z
        rw[hx,e]at z;exact (JE z).symm
      obtain⟨i1,h1,OV⟩:=List.mem_iff_getElem.mp hy;obtain⟨i2,h2,N8⟩:=List.mem_iff_getElem.mp a2;have:i1=i2:=by
       refine (List.getElem_inj (h₀:=by rw[Jv];exact h1) (h₁:=by rw[Jv];exact h2) O.ndn).mp ?_
       rw[List.getElem_map,List.getElem_map,OV,N8];exact PK
      subst this;rw[OV]at N8;rw[N8]
  ·rcases lk x c e with z|z
   ·exact⟨none,(OU.empty x c z).1⟩
   ·obtain⟨v,o,ho,hd⟩:=I2.cell x c z;exact⟨v,o,keep _ _ ho,hd⟩
  ·show upd H2 _ _ (s2.heap.objs.size+1)=none;rw[ae RV];exact RU
  ·rcases lk x c e with z|z
   ·have a1:=(aH z).2;show upd H2 _ _ c=none;rw[ae (Nat.ne_of_gt (Jw (Nat.lt_add_of_pos_right (by decide:0<2)) a1))]
    exact I2.j_.fresh (JF (Kp _ 2) a1)
   ·have a2:=K2 _ _ z;show upd H2 _ _ c=none;rw[ae (JI a2)];exact I2.freeC x c z
  ·have hp:p∈X.pn++a_:=by rw[J0]at hp;exact hp
   obtain⟨e,n,ne,nf,d⟩:=I2.pin p hp;refine⟨keep _ _ e,by rw[ae (JI (Jt e))];exact n,JI (Nat.lt_succ_of_lt (Jt e)),λhm=>?_,d⟩
   rcases Jq.mp (I2.stkSub _ hm) with z|z
   ·exact ne z
   ·exact nf z
  ·exact I2.j_.laid keep (Jp _) ⟨Nat.zero_le _,[],0,.nil,Q4⟩
  ·show (js.map _).length=N.length;rw[Jv,O.len]
 have PL:∀{H':Hp},(∀b∈fp,H' b=none)->∀b∈fp,fj Xc [] H' b:=λ{H'} hn b hb=>by
  refine⟨hn b hb,JI (Nat.lt_succ_of_lt (K3 b hb)),λhm=>?_,.inl hb,λx c e=>cne b hb x c e,λp hp=>(f2 b hb).2.2.2.2.2 p (by rw[J0]at hp;exact hp)⟩
  rcases Jq.mp (I2.stkSub b hm) with z|z
  ·exact (f2 b hb).2.1 z
  ·exact (f2 b hb).2.2.1 z
 have NR:tn 0 N7:=T.keep 0 _ _ ON λb hb o e=>keep b o e
 have OO:∀b∈fp,(upd H2 s2.heap.objs.size (.lst [])) b=none:=λb hb=>by
  rw[ae (JI (K3 b hb))];exact (f2 b hb).1
 have OH:codeAny (model X.prog X.w) X.A (.compLoop (.ListComp I_ [⟨tg,iter,ifs,0⟩] scope pos) 0 (.ref it) (.ref s2.heap.objs.size) (compEnvC scope (cellsFrom (s2.heap.objs.size+1+1) scope.names []++aQ scope.names X.env.cells []) (s2.heap.objs.size+1) X.env))
   (compPost (model X.prog X.w) X.A X.xe use Qf (.ref s2.heap.objs.size) (s2.heap.objs.size+1)) {s2 with heap:=N7}:=by
  refine ue (λn s'=>∃i Ly H',Inv Xc [] Ly H' s'/\tn i s'.heap/\(∀b∈fp,H' b=none)/\W i n Ly H') ?_ m0 ⟨0,_,_,I3,NR,OO,w0⟩
  rintro n s4 ⟨i,Ly,H4,I4,Q6,Q7,w4⟩;rcases mj i n Ly H4 w4 with ⟨stop,q⟩|⟨go,step⟩
  ·refine thn (T.done Xc rfl rfl rfl G_ i [] s4 Ly H4 (λ_ _=>False) I4 (PL Q7) Q6 stop) λr s5 ⟨hr,I5⟩=>?_
   subst hr;obtain⟨m5,RX,_⟩:=I5.loc;have MZ:Un (frs X.stack) fp H2 H4 s2.heap s5.heap:=I5.base;have Mz:∀b o,s2.heap.get? b=some o->b≠s2.heap.objs.size+1:=λb o e=>JI (Nat.lt_succ_of_lt (Jt e))
   have fC:H4 (s2.heap.objs.size+1)=none:=I5.free;refine fin _ _ _ H4 m5 RX (I2.fpOk (Kn _) fC) (λh' Ld=>?_) q
   refine I2.call' (s':={s5 with heap:=h'}) (ch:=fp) I5.os ⟨λb o q n hb hx=>(Ld.2 b (Mz b o q)).trans (MZ.keep b o q n hb hx),λb o q n hb hx=>?_,MZ.free,λb o q hx=>?_,MZ.KD,MZ.Kz,MZ.KJ⟩ ?_ I5.bare (λb hb=>⟨(f2 b hb).2.2.2.1,(f2 b hb).2.1,(f2 b hb).2.2.2.2.1,(f2 b hb).2.2.2.2.2⟩)
   ·obtain⟨sl,z⟩:=MZ.slot b o q n hb hx;exact⟨sl,(Ld.2 b (Mz b o q)).trans z⟩
   ·obtain⟨o',z⟩:=MZ.there b o q hx;exact⟨o',(Ld.2 b (Mz b o q)).trans z⟩
   ·exact I5.j_.keptT λb u ob hb q=>(Ld.2 b λz=>by rw[z,fC]at hb;cases hb).trans q
  ·refine thn (T.item Xc rfl rfl rfl G_ i [] s4 Ly H4 (λ_ _=>False) I4 (PL Q7) Q6 go) λr s5 z_=>?_
   obtain⟨u,hr,h5⟩:=z_;subst hr;refine thn h5 λ_ s6 z_=>?_
   obtain⟨x,H6,I6,r6,y6,PM,RY⟩:=z_;have RZ:=I6.pinned (PL RY) (T.obj _ _ PM);refine thn (hg _ _ _ _ _ _ s6 Ly H6 x u _ RZ r6 (step x H6 y6)) λ_ s7 z_=>?_
   obtain⟨Lk,H7,I7,q7⟩:=z_;refine thn (ht _ _ _ _ _ _ s7 Lk H7 _ I7 q7) λok s8 z_=>?_
   obtain⟨H8,I8,q8⟩:=z_;have c_:∀{H9:Hp}{s9:Shared}{PN:St},Inv Xc ([]++jz fp s6.heap) PN H9 s9->Inv Xc [] PN H9 s9/\tn (i+1) s9.heap/\∀b∈fp,H9 b=none:=λ{H9 s9 PN} I9=>by
    refine⟨I9.unpinned,T.keep _ _ _ PM λb hb o e=>(I9.pin (b,o) (JL _ (JL _ (dW hb e)))).1,λb hb=>?_⟩
    obtain⟨o,e,d⟩:=T.obj _ _ PM b hb;exact (I9.pin (b,o) (JL _ (JL _ (dW hb e)))).2.1
   cases ok with
   |false=>
    rw[Jm JH]at q8 ⊢;obtain⟨m',hm,w8⟩:=q8;obtain⟨b1,b2,b3⟩:=c_ I8;exact⟨m',hm,i+1,Lk,H8,b1,b2,b3,w8⟩
   |true=>
    rw[Js rfl]at q8 ⊢;refine thn (he _ _ _ _ _ _ s8 Lk H8 _ I8 q8) λy s9 z_=>?_
    obtain⟨z,H9,I9,r9,ys,e9,hl,m',hm,w9⟩:=z_;refine thn (lw (X:=Xc) _ s9 Lk H9 (.ref s2.heap.objs.size) [z] (.ref s2.heap.objs.size) [y] (λ_ Q8=>Q8=upd H9 s2.heap.objs.size (.lst (ys++[z]))) I9 rfl (.cons r9 .nil) ⟨_,ys,z,rfl,rfl,e9,hl,rfl⟩) λ_ Th z_=>?_
    obtain⟨_,Q8,R0,_,R1⟩:=z_;subst R1;obtain⟨b1,b2,b3⟩:=c_ R0;exact⟨m',hm,i+1,Lk,_,b1,b2,b3,w9⟩
 exact codeAny_compStart_list OH (T.self _ 0 _ _ _ NR OH)
theorem yR(j_:eP N js scope X.env.scope X.N=true)(G_:X.calm=true)(hi:PI X tg iter wi)
  (hg:∀C s2 H2 fp pn,PG (compCx X scope C N s2 H2 fp pn) tg g) (ht:∀C s2 H2 fp pn,PIf (compCx X scope C N s2 H2 fp pn) ifs tt) (he:∀C s2 H2 fp pn,PE (compCx X scope C N s2 H2 fp pn) I_ te)
  (hs:∀x,foldedSetIterable iter X.env x=pure x:=by intro _;rfl):PE X (.ListComp I_ [⟨tg,iter,ifs,0⟩] scope pos) (sh js wi g tt te):=λa_ s Z H Q I h=>by
 rw[eval_ListComp];exact oA (use:=none) j_ G_ hi hg ht he hs I h λD C s5 H4 m5 hn _ key q=>⟨m5,hn,λh' Nr=>⟨.ref D,H4,key h' Nr,rfl,q⟩⟩
theorem kM{spos:Pos}(hN:X.N.Nodup)(hy:X.N[i]?=some y)(hl:X.env.scope.names.lookup y=some .local)(j_:eP N js scope X.env.scope X.N=true)(G_:X.calm=true)(hi:PI X tg iter wi)
  (hg:∀C s2 H2 fp pn,PG (compCx X scope C N s2 H2 fp pn) tg g) (ht:∀C s2 H2 fp pn,PIf (compCx X scope C N s2 H2 fp pn) ifs tt) (he:∀C s2 H2 fp pn,PE (compCx X scope C N s2 H2 fp pn) I_ te)
  (hs:∀x,foldedSetIterable iter X.env x=pure x) (M8:swapsWith (.ListComp I_ [⟨tg,iter,ifs,0⟩] scope pos) (some (.Name y py)) spos.line X.env=pure true) :
  PS X (.Assign [.Name y py] (.ListComp I_ [⟨tg,iter,ifs,0⟩] scope pos) spos) (Cu (sh js wi g tt te) (rS i)):=by
 intro a_ s Z H D I h;rw[exec_Assign_Name_used _ _ _ _ M8];refine AV (wpAny_standAt (AV ?_));show wpAny _ _ (do let _<-comprehension (.ListComp I_ [⟨tg,iter,ifs,0⟩] scope pos) scope X.env _ (newList []) false (eval iter X.env) (some (assign (.Name y py) X.env))) _ _ s
 refine AV (Km (oA (use:=some (assign (.Name y py) X.env)) (Qf:=λ_ s'=>SP X a_ D .next s') j_ G_ hi hg ht he hs I h λDa C s5 H4 m5 hn fp key q=>?_) (λ_ s' hq=>Jl (Jl hq)) λ_ _ z=>z)
 show wpAny _ _ (assign (.Name y py) X.env (.ref Da)) _ _ _;have J:Inv X a_ Z H4 s5:=key s5.heap (Heap.SameBut.refl _ _);obtain⟨oC,es,ep,eC,rC⟩:=id hn;obtain⟨f0,f1,f2,f3,f4,f5⟩:=id fp;have JC:Inv X (a_++[(C,oC)]) Z H4 s5:=J.pins_of λp hp=>by
  rcases JK.mp hp with z|z
  ·exact J.pin p (JL _ z)
  ·have e:p=(C,oC):=by simpa using z
   subst e;exact⟨eC,f0,f1,f2,λv hv=>by
    have z:=rC.1;rw[show oC.data=.cell v from hv]at z;cases z⟩
 refine thn ((jj (pos:=py) hN hy (.inl hl) (.inr hl)) _ s5 Z H4 (.ref Da) (.ref Da) (λm_ H'=>H'=H4/\D.nx m_ H') JC rfl ⟨rfl,q⟩) λ_ s6 z_=>?_
 obtain⟨LI,H6,I6,e6,q6⟩:=z_;subst e6;have R4:s6.heap.get? C=some oC:=(I6.pin (C,oC) (JL _ (JL _ (by simp)))).1
 refine⟨m5,hn.at' λo e=>?_,λh' Ld=>⟨LI,H6,?_,q6⟩⟩
 ·rw[eC]at e;cases e;exact R4
 ·exact (Inv.unpinned I6).turned (t':=s6.toks) (it:=C) (λb o hb e=>(Ld.2 b hb).trans e) f0 f1 f3 f4 f5
end
end L2
namespace L2
open PySem PySem.Spec PySem.Calls PyProof.Rows PySem.W PySem.Builtin PySem.Builtin.ObjectAttr PySem.Builtin.Getset_descriptor
section
variable {h:Heap}{os:OsState}{o:Obj}{K:Ks}
variable (Ti:findIn K (.ref C) "__getattribute__"=some (some (.builtin "BaseException.__getattribute__"))) (Tj:findIn K (.ref C) "__getattr__"=some none) (Q9:findIn K (.ref C) "__class__"=some (some (.builtin "object.__class__")))
 (hn:specialIn K (.builtin "object.__class__") "__get__"=some (some (.builtin "getset_descriptor.__get__"))) (R5:takesIn K (.builtin "object.__class__")=some true) (hm:mroIn K C (.type "object")=some true) (Tn:mroIn K C (.type "BaseException")=some true)
end
structure ExcI (K:Ks)(C:Addr):Prop where
 hd:PySem.W.hasDictIn K C=true
 ga:findIn K (.ref C) "__getattribute__"=some (some (.builtin "BaseException.__getattribute__"))
 gn:findIn K (.ref C) "__getattr__"=some none
 cl:findIn K (.ref C) "__class__"=some (some (.builtin "object.__class__"))
 n:specialIn K (.builtin "object.__class__") "__get__"=some (some (.builtin "getset_descriptor.__get__"))
 tk:takesIn K (.builtin "object.__class__")=some true
 m:mroIn K C (.type "object")=some true
 mB:mroIn K C (.type "BaseException")=some true
end L2
namespace L2
open PySem PySem.Spec PySem.Calls PyProof.Rows PySem.W PySem.Builtin PySem.Builtin.ObjectAttr
section
variable {h:Heap}{os:OsState}{o:Obj}{K:Ks}
end
end L2
namespace L2
open PySem PySem.Spec PySem.Calls PyProof.Rows PySem.W
section
variable {α β:Type}{n:Nat}{f:Nat->Nat->Bool}{p:Array Nat}
abbrev Up(f:Nat->Nat->Bool)(p:Array Nat)(m:Nat):Prop:=∀i j,i<j->j<m->f (p.getD i 0) (p.getD j 0)=true
end
section
variable {s:Shared}
end
end L2
namespace L2
open PySem PySem.Spec PySem.Calls PyProof.Rows PySem.W
open AutoSeq1 (wpAny_loadPart')
open MeetsSeq MeetsSeq2 MeetsSeq3
section
variable {A:Around}{s:Shared}
end
end L2
namespace L2
open PySem PySem.Spec PyProof.Rows
section
variable {A:Around}{s:Shared}{St:Nat->Heap->Prop}{xs:Array (Int×Tok)}
end
end L2
namespace L2
open PySem PySem.Spec PySem.Calls PyProof.Rows PySem.W
open AutoSeq1 (wpAny_loadPart')
noncomputable def lt2(p q:Int×Int):Bool:=if p.1=q.1 then decide (p.2<q.2) else decide (p.1<q.1)
def P2(h:Heap)(v:Value)(p:Int×Int):Prop:=∃a n t u dd sl,v=.ref a/\h.get? a=some {cls:=.type "tuple",dict:=dd,data:=.seq #[.int p.1 t,.int p.2 u] n,slots:=sl}
theorem BK(l b:Addr)(n m:Nat)(p q:Int×Int)(t1 t2 t3 t4:Tok)(dd Mf:Option Addr)(sl LY:Array (Option Value)) :
  Meets (Builtin.«tuple.__lt__» ⟨[.ref l,.ref b],[]⟩)
   (λA R s=>s.heap.get? l=some {cls:=.type "tuple",dict:=dd,data:=.seq #[.int p.1 t1,.int p.2 t2] n,slots:=sl}/\s.heap.get? b=some {cls:=.type "tuple",dict:=Mf,data:=.seq #[.int q.1 t3,.int q.2 t4] m,slots:=LY}/\
    R (.ok (.ret (.bool (lt2 p q)))) s):=by
 intro prog w A R s h;obtain⟨hp,g,d,tk,os⟩:=s;obtain⟨hl,hb,h⟩:=h;have f2:=AutoSeq1.sub_tuple_tuple
 wp_walk using wpAny_loadPart' hl,wpAny_loadPart' hb
 show wpAny _ _ (eqBool (.int p.1 t1) (.int q.1 t3)) _ _ _;refine wpAny_eqBool_int ?_;by_cases e:p.1=q.1
 ·rw[JJ.mpr e];unfold lt2 at h;rw[Js e]at h
  wp_walk
  show wpAny _ _ (eqBool (.int p.2 t2) (.int q.2 t4)) _ _ _;refine wpAny_eqBool_int ?_;by_cases e2:p.2=q.2
  ·rw[JJ.mpr e2]
   wp_walk
   rw[e2]at h;simp only[Int.lt_irrefl,decide_false]at h;exact h
  ·rw[JP.mpr e2];simp only[Bool.not_false,if_true];refine AV (wpAny_rule ?_);refine AV (show wpAny _ _ (compareOp .Lt (.int p.2 t2) (.int q.2 t4)) _ _ _ from wpAny_lt_int ?_)
   wp_walk
   exact h
 ·rw[JP.mpr e];unfold lt2 at h;rw[Jm e]at h;simp only[Bool.not_false,if_true];refine AV (wpAny_rule ?_);refine AV (show wpAny _ _ (compareOp .Lt (.int p.1 t1) (.int q.1 t3)) _ _ _ from wpAny_lt_int ?_)
  wp_walk
  exact h
theorem C6{prog:Program}{w:World}{A:Around}{E:Value->Shared->Prop}{s:Shared}{u v:Value}{p q:Int×Int}{Q:Value->Shared->Prop}(hu:A.units<cLine)(h1:P2 s.heap u p)(h2:P2 s.heap v q)(h:Q (.bool (lt2 p q)) s):wpAny (model prog w) A (richCompare .Lt u v) Q E s:=by
 obtain⟨a,n,t1,t2,dd,sl,rfl,g1⟩:=h1;obtain⟨b,m,t3,t4,Mf,LY,rfl,g2⟩:=h2;exact richCompare_meets_room (op:=.Lt) ⟨_,g1,rfl⟩ ⟨_,g2,rfl⟩ PySem.F.slot_tuple_lt PySem.F.entry_tuple_lt (PySem.F.args_tuple_lt_2 _ _) (BK a b n m p q t1 t2 t3 t4 dd Mf sl LY)
  ⟨g1,g2,show Value.bool (lt2 p q)≠Value.notImplemented/\Q (.bool (lt2 p q)) s from⟨(λx=>nomatch x),h⟩⟩ hu
section
variable {prog:Program}{w:World}{A:Around}{s:Shared}{St:Nat->Heap->Prop}{I l:Addr}{fp wr:List Addr}{n:Nat}{P:Nat->Value->Prop}{R:Result->Shared->Prop}{kw:List (Str×Value)}{Q:Value->Shared->Prop}{E:Value->Shared->Prop}
theorem xS{G:Heap->Prop}(W:Walks prog w A.in1 I fp wr n P St)(bt:Nat->Nat->Bool)(PQ:∀i j vi vj (s:Shared)(Q:Value->Shared->Prop)(E:Value->Shared->Prop),G s.heap->P i vi->P j vj->Q (.bool (bt i j)) s->wpAny (model prog w) A.in1 (richCompare .Lt vi vj) Q E s)(S:Addr)(Nu:S∉fp)(hG:∀h h',G h->(∀b o,b∉wr->b≠S->h.get? b=some o->h'.get? b=some o)->G h') :
  ∀(k j:Nat)(s:Shared)(vb:Value)(c:Nat),n-(j+1)=k->j+1<=n->St (j+1) s.heap->G s.heap->P (argBest bt j) vb->s.heap.get? S=some {cls:=.type "list",dict:=none,data:=.seq #[vb,vb] c,slots:=#[]}->
  (∀v h' tk,P (argBest bt (n-1)) v->(∀b o,b∉wr->b≠S->s.heap.get? b=some o->h'.get? b=some o)->R (.ok (.ret v)) {s with heap:=h',toks:=tk})->
  codeAny (model prog w) A (.builtin "min.loop" ⟨[.ref I,.none,.ref S],kw⟩) R s:=by
 have OW:S∉wr:=λh=>Nu (W.sub _ h)
 have K5:(toString "min"++toString ".loop" : String) = "min.loop":=by decide
 intro k
 induction k with
 |zero=>
  intro j s vb c hk hj LH hg OX hS hR;have L7:j+1=n:=by omega
  refine codeAny_builtin F.entry_min_loop ?_;rw[Around.under_plainId F.plain_min_loop _];show wpAny _ A.in1 (seqItems? (.ref S) >>=_) _ _ s;refine AV (wpAny_seqItems hS rfl ?_);show wpAny _ A.in1 (tryCatch (pyNext (.ref I)) _ >>=_) _ _ s;refine AV (wpAny_tryCatch (W.done s _ _ (L7▸LH) λh' tk LP=>?_))
  have MJ:=LP S _ OW hS;show wpAny _ A.in1 (updateSeq S (λ_=>#[]) >>=_) _ _ _
  refine AV (wpAny_updateSeq MJ rfl (AV (wpAny_letGo (Jl ?_))));exact hR vb _ tk (by rw[<-L7];exact OX) λb o M_ Nv e=>(JO _ _ (JA Nv)).trans (LP b o M_ e)
 |succ k ih=>
  intro j s vb c hk hj LH hg OX hS hR;have Ku:j+1<n:=by omega
  refine codeAny_builtin F.entry_min_loop ?_;rw[Around.under_plainId F.plain_min_loop _];show wpAny _ A.in1 (seqItems? (.ref S) >>=_) _ _ s;refine AV (wpAny_seqItems hS rfl ?_);show wpAny _ A.in1 (tryCatch (pyNext (.ref I)) _ >>=_) _ _ s;refine AV (wpAny_tryCatch (W.item (j+1) s _ _ Ku LH λv h' tk hP Mq LP=>?_))
  have MJ:=LP S _ OW hS;show wpAny _ A.in1 (tryCatch (holding [v,v] (richCompare .Lt v vb >>=_)) _ >>=_) _ _ _;refine AV (wpAny_tryCatch (Kc (AV (PQ (j+1) (argBest bt j) v vb _ _ _ (hG _ _ hg λb o h1 _ h2=>LP b o h1 h2) hP OX ?_))))
  refine AV (Kc (JY (AV (wpAny_letGo (Jl ?_)))));cases hb:bt (j+1) (argBest bt j) with
  |true=>
   simp only[if_true];refine AV (wpAny_updateSeq MJ rfl (AV (wpAny_letGo ?_)));rw[K5];refine Jl ⟨plainId_quiet F.plain_min_loop _,ih (j+1) _ v _ (by omega) Ku (W.frame _ _ _ Mq λb Lm o e=>?_) (hG _ _ hg λb o h1 h2 h3=>(JO _ _ (JA h2)).trans (LP b o h1 h3)) (by simp only[argBest,hb,if_true];exact hP) (JV _ MJ rfl) λv' N9 L9 N_ L_=>?_⟩
   ·exact (JO _ _ (λh:S=b=>Nu (by rw[h];exact Lm))).trans e
   ·exact hR v' N9 L9 N_ λb o M_ Nv e=>L_ b o M_ Nv ((JO _ _ (JA Nv)).trans (LP b o M_ e))
  |false=>
   simp only[Kh,if_false];refine AV (wpAny_letGo ?_);rw[K5];refine Jl ⟨plainId_quiet F.plain_min_loop _,ih (j+1) _ vb c (by omega) Ku Mq (hG _ _ hg λb o h1 _ h3=>LP b o h1 h3) (by simp only[argBest,hb,Kh,if_false];exact OX) MJ λv' N9 L9 N_ L_=>?_⟩
   exact hR v' N9 L9 N_ λb o M_ Nv e=>L_ b o M_ Nv (LP b o M_ e)
theorem zd{items:Array Value}(hl:s.heap.IsList l items)(h:∀s2:Shared,s2={s with heap:=s.heap.push {cls:=.type "list_iterator",data:=.fields #[.ref l,.int 0 0]}}->(s2.heap.IsListIter s.heap.objs.size l 0/\s2.heap.IsList l items)->(∀b∈[s.heap.objs.size,l],b<s2.heap.objs.size)->l≠s.heap.objs.size->Q (.ref s.heap.objs.size) s2):wpAny (model prog w) A (pyIter (.ref l)) Q E s:=by
 have Ku:l<s.heap.objs.size:=by obtain⟨_,e,_⟩:=hl;exact Jt e
 refine wpAny_pyIter_list hl (h _ rfl ⟨⟨_,Jr _ rfl,rfl,rfl⟩,hl.push _⟩ (λb hb=>?_) (JI Ku))
 have e:(s.heap.push {cls:=.type "list_iterator",data:=.fields #[.ref l,.int 0 0]}).objs.size=s.heap.objs.size+1:=by simp[Heap.push]
 show b<(s.heap.push _).objs.size;rw[e];rcases Jq.mp hb with rfl|hb
 ·omega
 ·rw[JB.mp hb];exact Nat.lt_succ_of_lt Ku
theorem BD{items:Array Value}{ps:Nat->Int×Int}(hh:A.handled=none)(hu:A.units+1<cLine)(hl:s.heap.IsList l items)(hn:0<items.size)(hP:∀i v,items[i]?=some v->P2 s.heap v (ps i))
  (h:∀v h' tk,items[argBest (λi j=>lt2 (ps i) (ps j)) (items.size-1)]?=some v->(∀b o,s.heap.get? b=some o->h'.get? b=some o)->Q v {s with heap:=h',toks:=tk}) :
  wpAny (model prog w) A (call (.builtin "min") [.ref l]) Q E s:=by
 have K5:(toString "min"++toString ".loop" : String) = "min.loop":=by decide
 refine kmk_tree F.kind_min F.plain_min F.entry_min (by unfold argsOk;kernel_rfl) ?_
 show wpAny _ A.in1 (Builtin.Builtins.bindParams "min" ["key","default"] 0 ⟨[],[]⟩ >>=_) _ _ s;refine AV (wpAny_of_eq (show Builtin.Builtins.bindParams "min" ["key","default"] 0 ⟨[],[]⟩=pure [none,none] from rfl) ?_);refine AV (Jl ?_);refine AV (zd hl λs2 e st R6 R7=>?_)
 refine AV (JT ?_);have Nu:s2.heap.objs.size∉[s.heap.objs.size,l]:=λhm=>Ke _ (R6 _ hm)
 have W:=Walks.list (prog:=prog) (w:=w) (A:=A.in1) hh s.heap.objs.size l R7 items;have OW:s2.heap.objs.size∉[s.heap.objs.size]:=λh=>Nu (W.sub _ h)
 have LW:∀b o,s.heap.get? b=some o->b∉[s.heap.objs.size]/\b≠s2.heap.objs.size:=λb o eb=>by
  have h1:=Jt eb;refine⟨λhm=>?_,?_⟩
  ·rw[JB.mp hm]at h1;exact Ke _ h1
  ·subst e;exact JI (Jt (Jn _ eb))
 rw[K5];refine Jl ⟨plainId_quiet F.plain_min_loop _,?_⟩;refine codeAny_builtin F.entry_min_loop ?_;rw[Around.under_plainId F.plain_min_loop _];have LH:(λi h=>h.IsListIter s.heap.objs.size l i/\h.IsList l items) 0 (s2.heap.push {cls:=.type "list",data:=.seq #[]}):=W.frame 0 s2.heap _ st λb _ o e=>Jn _ e
 have hS:(s2.heap.push {cls:=.type "list",data:=.seq #[]}).get? s2.heap.objs.size=some {cls:=.type "list",dict:=none,data:=.seq #[] 0,slots:=#[]}:=Jr _ rfl;show wpAny _ A.in1 (seqItems? (.ref _) >>=_) _ _ _;refine AV (wpAny_seqItems hS rfl ?_);show wpAny _ A.in1 (tryCatch (pyNext (.ref _)) _ >>=_) _ _ _;have kp:∀{h':Heap},(∀b o,b∉[s.heap.objs.size]->(s2.heap.push {cls:=.type "list",data:=.seq #[]}).get? b=some o->h'.get? b=some o)->∀b o,s.heap.get? b=some o->h'.get? b=some o:=λ{h'} hk=>by
  subst e;exact old_kept λb o hb e=>hk b o hb (Jn _ e)
 refine AV (wpAny_tryCatch (W.item 0 _ _ _ hn LH λv h' tk R8 Mq LP=>?_))
 have MJ:=LP _ _ OW hS;show wpAny _ A.in1 (updateSeq _ (λ_=>#[v,v]) >>=_) _ _ _
 refine AV (wpAny_updateSeq MJ rfl ?_);rw[K5];refine Jl ⟨plainId_quiet F.plain_min_loop _,xS (G:=λhx=>∀b o,s.heap.get? b=some o->hx.get? b=some o) W (λi j=>lt2 (ps i) (ps j)) (λi j vi vj sx Q' E' hg hi hj hq=>?_) _ Nu (λha hb g k b o eb=>k b o (LW b o eb).1 (LW b o eb).2 (g b o eb)) _ 0 _ v _ rfl hn (W.frame _ _ _ Mq λb Lm o e=>?_) (λb o eb=>?_) R8 (JV _ MJ rfl) λv' N9 L9 N_ L_=>?_⟩
 ·have up:∀{v i},items[i]?=some v->P2 sx.heap v (ps i):=λ{v i} hv=>by
   obtain⟨a,n,t,u,dd,sl,e1,e2⟩:=hP i v hv;exact⟨a,n,t,u,dd,sl,e1,hg _ _ e2⟩
  exact C6 (by show A.units+1<cLine;exact hu) (up hi) (up hj) hq
 ·exact (JO _ _ (λh:_=b=>Nu (by rw[h];exact Lm))).trans e
 ·exact (JO _ _ (JA (LW b o eb).2)).trans (kp LP b o eb)
 ·have:=h v' N9 L9 N_ (λb o eb=>L_ b o (LW b o eb).1 (LW b o eb).2 ((JO _ _ (JA (LW b o eb).2)).trans (kp LP b o eb)))
  subst e;exact this
end
end L2
namespace L2
open PySem PySem.Spec PyProof.Rows
inductive D where
 |i_|bl (b:Bool)|int (i:Int)|str (x:Str)|tup (ds:List D)|g_ (ds:List D)|ref (a:Addr)
 |obj (i:Nat) (C:Addr) (ns:List Nat) (ds:List D)|Ln (ks:List Key) (ds:List D)|Kv (ks:List (List Int)) (ds:List D)
noncomputable def qY:Nat->Nat->List Nat
 |0,_=>[]
 |k+1,n=>if n=0 then [] else (n % 128)::qY k (n / 128)
noncomputable def fnm(n:Nat):Str:=⟨(qY n n).toArray⟩
noncomputable def yA:List Nat->Nat
 |[]=>0
 |d::r=>d+128*yA r
theorem kI:∀(k n:Nat),n<=k->yA (qY k n)=n
 |0,n,h=>by have:n=0:=Nat.le_zero.mp h;subst this;rfl
 |k+1,n,h=>by
  unfold qY;by_cases z:n=0
  ·rw[Js z];exact z.symm
  ·rw[Jm z];show n % 128+128*yA (qY k (n / 128))=n;rw[kI k (n / 128) (by omega)]
   omega
theorem mS(h:fnm a=fnm b):a=b:=by
 have e:qY a a=qY b b:=by
  have:=congrArg (λx:Str=>x.cps.toList) h
  simpa [fnm] using this
 have:=congrArg yA e
 rwa [kI a a (Jp _),kI b b (Jp _)]at this
noncomputable def tH(k:List Int):Int:=reduceHash (Builtin.Tuple.tupleHashOf (k.map hashInt))
def aB(a:Addr)(xs:List (List Int×Addr×Value)):Heap->Prop:=λh=>∃o es ep,h.get? a=some o/\o.ExactDict/\o.data=.dict es ep/\es.toList=xs.map λx=>(⟨tH x.1,.ref x.2.1,x.2.2⟩:DictEntry)
structure TabOk (K:Ks)(H:Hp)(a:Addr) (ks:List (List Int)) (xs:List (List Int×Addr×Value)) (vs:List V):Prop where
 kx:xs.map (·.1)=ks
 nd:ks.Nodup
 sz:ks.length<=sizeLine
 no:(a == sysModules)=false
 vx:Vals vs (xs.map (·.2.2))
 at_:∀x∈xs,SqT K H x.2.1 (x.1.map V.int)
def SqM(K:Ks)(a:Addr)(xs:List V):Prop:=∃(its:List Value) (n:Nat),K.lookup a=some {cls:=.type "list",data:=.seq its.toArray n}/\its.length<=sizeLine/\Vals xs its
def SqF(K:Ks)(H:Hp)(a:Addr)(xs:List V):Prop:=(∃o,H a=some (.t_ o (.lst xs)))\/SqM K a xs
theorem SqM.sq{K:Ks}(h:SqM K a xs):SqL K H a xs:=by
 obtain⟨its,n,e,z,r⟩:=h;exact .inr ⟨_,its.toArray,n,e,rfl,rfl,rfl,by simpa using z,by simpa using r⟩
theorem SqF.sq{K:Ks}(h:SqF K H a xs):SqL K H a xs:=by
 rcases h with h|h
 ·exact .inl (.inr h)
 ·exact h.sq
mutual
def Den(K:Ks)(H:Hp):D->V->Prop
 |.i_,v=>v=.i_
 |.bl b,v=>v=.bl b
 |.int i,v=>v=.int i
 |.str x,v=>v=.str x
 |.tup ds,v=>∃p vs,v=.ref p/\SqT K H p vs/\DenL K H ds vs
 |.g_ ds,v=>∃p vs,v=.ref p/\SqF K H p vs/\DenL K H ds vs
 |.ref a,v=>v=.ref a
 |.obj _ C ns ds,v=>∃p vs o dx,v=.ref p/\H p=some (.t_ o (.ins C dx ((ns.map fnm).zip vs)))/\ns.length=vs.length/\DenL K H ds vs
 |.Ln ks ds,v=>∃p vs o,v=.ref p/\H p=some (.t_ o (.dK (ks.zip vs)))/\ks.length=vs.length/\DenL K H ds vs
 |.Kv ks ds,v=>∃p vs o xs,v=.ref p/\H p=some (.t_ o (.ext (aB p xs)))/\TabOk K H p ks xs vs/\DenL K H ds vs
def DenL(K:Ks)(H:Hp):List D->List V->Prop
 |[],vs=>vs=[]
 |d::ds,vs=>∃v r,vs=v::r/\Den K H d v/\DenL K H ds r
end
structure TM (K:Ks)(H H':Hp):Prop where
 t:∀p xs,SqT K H p xs->SqT K H' p xs
 f:∀p xs,SqF K H p xs->SqF K H' p xs
 g:∀p o u,H p=some (.t_ o u)->H' p=some (.t_ o u)
theorem TM.refl{K:Ks}(H:Hp):TM K H H:=⟨λ_ _ h=>h,λ_ _ h=>h,λ_ _ _ h=>h⟩
theorem TM.trans{K:Ks}(a:TM K H H1)(b:TM K H1 H2):TM K H H2:=⟨λp xs h=>b.t p xs (a.t p xs h),λp xs h=>b.f p xs (a.f p xs h),λp o u h=>b.g p o u (a.g p o u h)⟩
theorem TM.un{K:Ks}(t:∀b xs,H b=some (.tup xs)->H' b=some (.tup xs))(f:∀b o u,H b=some (.t_ o u)->H' b=some (.t_ o u)):TM K H H':=⟨λq xs h=>by
 rcases h with (h|⟨ob,h⟩)|h
 ·exact .inl (.inl (t _ _ h))
 ·exact .inl (.inr ⟨ob,f _ _ _ h⟩)
 ·exact .inr h,λq xs h=>by
 rcases h with ⟨ob,h⟩|h
 ·exact .inl ⟨ob,f _ _ _ h⟩
 ·exact .inr h,f⟩
theorem TM.new{K:Ks}(hp:H p=none):TM K H (upd H p o):=
 .un (λb xs h=>by rw[ae (aA h hp)];exact h) λb ob u h=>by rw[ae (aA h hp)];exact h
theorem TM.put{K:Ks}(hp:H p=some u)(h1:∀xs,u≠.tup xs)(h2:∀ob v,u≠.t_ ob v):TM K H (upd H p o):=
 .un (λb xs h=>by rw[ae (db h hp λz=>h1 _ z.symm)];exact h) λb ob u h=>by rw[ae (db h hp λz=>h2 _ _ z.symm)];exact h
section
variable {K:Ks}
mutual
theorem Den.mono(t:TM K H H'):∀{d:D}{v:V},Den K H d v->Den K H' d v
 |.i_,_,h=>h
 |.bl _,_,h=>h
 |.int _,_,h=>h
 |.str _,_,h=>h
 |.ref _,_,h=>h
 |.tup ds,v,h=>by
  obtain⟨p,vs,e,s,l⟩:=h;exact⟨p,vs,e,t.t _ _ s,DenL.mono t l⟩
 |.g_ ds,v,h=>by
  obtain⟨p,vs,e,s,l⟩:=h;exact⟨p,vs,e,t.f _ _ s,DenL.mono t l⟩
 |.obj i C ns ds,v,h=>by
  obtain⟨p,vs,o,dx,e,s,z,l⟩:=h;exact⟨p,vs,o,dx,e,t.g _ _ _ s,z,DenL.mono t l⟩
 |.Ln ks ds,v,h=>by
  obtain⟨p,vs,o,e,s,z,l⟩:=h;exact⟨p,vs,o,e,t.g _ _ _ s,z,DenL.mono t l⟩
 |.Kv ks ds,v,h=>by
  obtain⟨p,vs,o,xs,e,s,z,l⟩:=h;exact⟨p,vs,o,xs,e,t.g _ _ _ s,⟨z.kx,z.nd,z.sz,z.no,z.vx,λx hx=>t.t _ _ (z.at_ x hx)⟩,DenL.mono t l⟩
theorem DenL.mono(t:TM K H H'):∀{ds:List D}{vs:List V},DenL K H ds vs->DenL K H' ds vs
 |[],_,h=>h
 |d::ds,vs,h=>by
  obtain⟨v,r,e,a,b⟩:=h;exact⟨v,r,e,Den.mono t a,DenL.mono t b⟩
end
theorem DenL.length:∀{ds:List D}{vs:List V},DenL K H ds vs->ds.length=vs.length
 |[],_,h=>by cases h;rfl
 |d::ds,vs,h=>by
  obtain⟨v,r,rfl,_,b⟩:=h;rw[Jx,Jx,DenL.length b]
theorem DenL.get:∀{ds:List D}{vs:List V}{i:Nat}{d:D},DenL K H ds vs->ds[i]?=some d->∃v,vs[i]?=some v/\Den K H d v
 |[],_,_,_,_,e=>by simp at e
 |d::ds,vs,0,d',h,e=>by
  obtain⟨v,r,rfl,a,b⟩:=h;simp at e;subst e;exact⟨v,rfl,a⟩
 |d::ds,vs,i+1,d',h,e=>by
  obtain⟨v,r,rfl,a,b⟩:=h;obtain⟨u,e1,e2⟩:=DenL.get (i:=i) b (by simpa using e)
  exact⟨u,by simpa using e1,e2⟩
theorem DenL.get':∀{ds:List D}{vs:List V}{i:Nat}{v:V},DenL K H ds vs->vs[i]?=some v->∃d,ds[i]?=some d/\Den K H d v
 |[],_,_,_,h,e=>by cases h;simp at e
 |d::ds,vs,0,v',h,e=>by
  obtain⟨v,r,rfl,a,b⟩:=h;simp at e;subst e;exact⟨d,rfl,a⟩
 |d::ds,vs,i+1,v',h,e=>by
  obtain⟨v,r,rfl,a,b⟩:=h;obtain⟨u,e1,e2⟩:=DenL.get' (i:=i) b (by simpa using e)
  exact⟨u,by simpa using e1,e2⟩
theorem DenL.append:∀{ds es:List D}{vs ws:List V},DenL K H ds vs->DenL K H es ws->DenL K H (ds++es) (vs++ws)
 |[],_,_,_,h,g=>by cases h;exact g
 |d::ds,_,_,_,h,g=>by
  obtain⟨v,r,rfl,a,b⟩:=h;exact⟨v,r++_,rfl,a,DenL.append b g⟩
theorem DenL.nil:DenL K H [] []:=rfl
theorem DenL.cons(a:Den K H d v)(b:DenL K H ds vs):DenL K H (d::ds) (v::vs):=⟨v,vs,rfl,a,b⟩
theorem DenL.one(a:Den K H d v):DenL K H [d] [v]:=.cons a .nil
theorem DenL.take:∀{ds:List D}{vs:List V} (n:Nat),DenL K H ds vs->DenL K H (ds.take n) (vs.take n)
 |_,_,0,_=>rfl
 |[],_,n+1,h=>by cases h;rfl
 |d::ds,_,n+1,h=>by
  obtain⟨v,r,rfl,a,b⟩:=h;exact⟨v,r.take n,rfl,a,DenL.take n b⟩
theorem DenL.drop:∀{ds:List D}{vs:List V} (n:Nat),DenL K H ds vs->DenL K H (ds.drop n) (vs.drop n)
 |_,_,0,h=>h
 |[],_,n+1,h=>by cases h;rfl
 |d::ds,_,n+1,h=>by
  obtain⟨v,r,rfl,a,b⟩:=h;exact DenL.drop n b
theorem DenL.set(a:Den K H d v):∀{ds:List D}{vs:List V} (i:Nat),DenL K H ds vs->DenL K H (ds.set i d) (vs.set i v)
 |[],_,_,h=>by cases h;rfl
 |_::ds,_,0,h=>by
  obtain⟨_,r,rfl,_,b⟩:=h;exact⟨v,r,rfl,a,b⟩
 |e::ds,_,i+1,h=>by
  obtain⟨u,r,rfl,c,b⟩:=h;exact⟨u,_,rfl,c,DenL.set a i b⟩
theorem DenL.int_of:∀{ns:List Int}{vs:List V},DenL K H (ns.map D.int) vs->vs=ns.map V.int
 |[],_,h=>h
 |n::ns,vs,h=>by
  obtain⟨v,r,rfl,a,b⟩:=h;rw[DenL.int_of b];cases (show v=.int n from a);rfl
theorem DenL.of_int:∀{ns:List Int},DenL K H (ns.map D.int) (ns.map V.int)
 |[]=>rfl
 |n::ns=>⟨.int n,ns.map V.int,rfl,rfl,DenL.of_int⟩
end
structure XE where
 c:Nat
 pl:Option (Nat×D)
def XD(K:Ks)(H:Hp)(i:XE)(dx:Option Addr):Prop:=match i.pl with
 |none=>dx=none
 |some (f,y)=>∃p o v,dx=some p/\H p=some (.t_ o (.xd [(fnm f,v)]))/\Den K H y v
theorem XD.mono{K:Ks}(t:TM K H H')(h:XD K H i dx):XD K H' i dx:=by
 obtain⟨c,pl⟩:=i;cases pl with
 |none=>exact h
 |some q=>
  obtain⟨p,o,v,e,g,d⟩:=h;exact⟨p,o,v,e,t.g _ _ _ g,d.mono t⟩
inductive DO where
 |lst (ds:List D)
 |dk (ks:List Key) (ds:List D)
 |dt (ks:List (List Int)) (ds:List D)
 |ins (i:Nat) (C:Addr) (ns:List Nat) (ds:List D)
 |exc (i:XE) (cls:Value)
 |J_ (φ:Heap->Prop)
noncomputable abbrev MH:=Addr->Option DO
noncomputable def put(M:MH)(a:Addr)(o:DO):MH:=λb=>if b=a then some o else M b
theorem ac:put M a o a=some o:=Js rfl
theorem af(h:b≠a):put M a o b=M b:=Jm h
theorem ba:put (put M a o) a u=put M a u:=by
 funext b;unfold put;split<;>rfl
def OD(K:Ks)(H:Hp)(a:Addr):DO->Prop
 |.lst ds=>∃vs,H a=some (.lst vs)/\DenL K H ds vs
 |.dk ks ds=>∃vs,H a=some (.dK (ks.zip vs))/\ks.length=vs.length/\DenL K H ds vs
 |.dt ks ds=>∃vs xs,H a=some (.ext (aB a xs))/\TabOk K H a ks xs vs/\DenL K H ds vs
 |.ins _ C ns ds=>∃dx vs,H a=some (.ins C dx ((ns.map fnm).zip vs))/\ns.length=vs.length/\DenL K H ds vs
 |.exc i cls=>∃dx,H a=some (GI a cls dx)/\XD K H i dx
 |.J_ φ=>H a=some (.ext φ)
def RelM(K:Ks)(M:MH)(H:Hp):Prop:=∀a o,M a=some o->OD K H a o
noncomputable abbrev St3:=List (Option D)
def DenS(K:Ks)(H:Hp)(h_:St3)(Z:St):Prop:=h_.length=Z.length/\∀(i:Nat)(d:D),h_[i]?=some (some d)->∃v,Z[i]?=some (some v)/\Den K H d v
section
variable {K:Ks}
theorem OD.tracked(h:OD K H a o):∃u,H a=some u:=by
 cases o with
 |dt ks ds=>obtain⟨_,_,e,_⟩:=h;exact⟨_,e⟩
 |ins i C ns ds=>obtain⟨_,_,e,_⟩:=h;exact⟨_,e⟩
 |J_ φ=>exact⟨_,h⟩
 |_=>obtain⟨_,e,_⟩:=h;exact⟨_,e⟩
theorem RelM.fresh(r:RelM K M H)(hp:H p=none):M p=none:=by
 cases e:M p with
 |none=>rfl
 |some o=>
  obtain⟨u,z⟩:=(r p o e).tracked;rw[hp]at z;cases z
theorem OD.stay(t:TM K H H')(e:H' a=H a)(h:OD K H a o):OD K H' a o:=by
 cases o with
 |lst ds=>obtain⟨vs,q,l⟩:=h;exact⟨vs,e.trans q,l.mono t⟩
 |dk ks ds=>obtain⟨vs,q,n,l⟩:=h;exact⟨vs,e.trans q,n,l.mono t⟩
 |dt ks ds=>obtain⟨vs,xs,q,z,l⟩:=h;exact⟨vs,xs,e.trans q,⟨z.kx,z.nd,z.sz,z.no,z.vx,λx hx=>t.t _ _ (z.at_ x hx)⟩,l.mono t⟩
 |ins i C ns ds=>obtain⟨dx,vs,q,n,l⟩:=h;exact⟨dx,vs,e.trans q,n,l.mono t⟩
 |exc i cls=>obtain⟨dx,q,x⟩:=h;exact⟨dx,e.trans q,x.mono t⟩
 |J_ φ=>exact e.trans h
theorem RelM.grow(r:RelM K M H)(hp:H p=none):RelM K M (upd H p o):=λa u e=>by
 obtain⟨x,z⟩:=(r a u e).tracked;exact (r a u e).stay (.new hp) (ae (aA z hp))
theorem RelM.lay(r:RelM K M H)(hp:H p=none)(h:OD K (upd H p o) p u):RelM K (put M p u) (upd H p o):=λa x e=>by
 by_cases ha:a=p
 ·subst ha;rw[ac]at e;cases e;exact h
 ·rw[af ha]at e;exact r.grow hp a x e
theorem RelM.write(r:RelM K M H)(hp:H p=some w)(h1:∀xs,w≠.tup xs)(h2:∀ob v,w≠.t_ ob v)(h:OD K (upd H p o) p u):RelM K (put M p u) (upd H p o):=λa x e=>by
 by_cases ha:a=p
 ·subst ha;rw[ac]at e;cases e;exact h
 ·rw[af ha]at e;exact (r a x e).stay (.put hp h1 h2) (ae ha)
def Sub(M' M:MH):Prop:=∀a o,M' a=some o->M a=some o
theorem RelM.sub(r:RelM K M H)(s:Sub M' M):RelM K M' H:=λa o e=>r a o (s a o e)
theorem DenS.mono(t:TM K H H')(h:DenS K H h_ Z):DenS K H' h_ Z:=⟨h.1,λi d e=>let ⟨v,e1,e2⟩:=h.2 i d e;⟨v,e1,e2.mono t⟩⟩
theorem DenS.set{h_:St3}{Z:St}(h:DenS K H h_ Z)(e:Den K H d v):DenS K H (h_.set i (some d)) (Z.set i (some v)):=by
 refine⟨by rw[List.length_set,List.length_set];exact h.1,λj d' q=>?_⟩
 by_cases hj:i=j
 ·subst hj;rw[List.getElem?_set]at q ⊢;rw[Js rfl]at q ⊢;rw[<-h.1];split at q
  next hl=>
   cases q;exact⟨v,Js hl,e⟩
  next=>cases q
 ·rw[Kq hj]at q ⊢;exact h.2 j d' q
theorem qM{N:List Str}{ds:List D}(h:DenL K H ds vs):DenS K H (ds.map some++List.replicate (N.length-ds.length) none) (start N vs):=by
 have hl:=h.length;refine⟨by unfold start;simp[hl],λi d e=>?_⟩
 by_cases hi:i<ds.length
 ·rw[List.getElem?_append_left (by simpa using hi),Jz]at e
  have e':ds[i]?=some d:=by
   cases q:ds[i]? with
   |none=>rw[q]at e;cases e
   |some x=>rw[q]at e;cases e;rfl
  obtain⟨v,e1,e2⟩:=h.get e';refine⟨v,?_,e2⟩;unfold start;rw[List.getElem?_append_left (by simpa [<-hl] using hi),Jz,e1]
  rfl
 ·rw[List.getElem?_append_right (by simpa using hi),List.getElem?_replicate]at e
  split at e<;>cases e
end
noncomputable abbrev VK3:=D->MH->Prop
noncomputable abbrev TE3:=St3->MH->VK3->Prop
noncomputable abbrev TT3:=St3->MH->(Bool->MH->Prop)->Prop
structure Ends3 where
 nx:St3->MH->Prop
 rt:VK3
 bk:St3->MH->Prop:=λ_ _=>False
 ct:St3->MH->Prop:=λ_ _=>False
noncomputable abbrev TS3:=Ends3->St3->MH->Prop
structure ER (K:Ks)(H:Hp)(D3:Ends3)(D2:j2):Prop where
 nx:∀m_ H' u_ M',RelM K M' H'->DenS K H' u_ m_->TM K H H'->D3.nx u_ M'->D2.nx m_ H'
 rt:∀v H' d M',Den K H' d v->RelM K M' H'->TM K H H'->D3.rt d M'->D2.rt v H'
 bk:∀m_ H' u_ M',RelM K M' H'->DenS K H' u_ m_->TM K H H'->D3.bk u_ M'->D2.bk m_ H'
 ct:∀m_ H' u_ M',RelM K M' H'->DenS K H' u_ m_->TM K H H'->D3.ct u_ M'->D2.ct m_ H'
theorem ER.mono{K:Ks}(r:ER K H D3 D2)(t:TM K H H1):ER K H1 D3 D2:=
 ⟨λa b c d h1 h2 h3 h4=>r.nx a b c d h1 h2 (t.trans h3) h4,λa b c d h1 h2 h3 h4=>r.rt a b c d h1 h2 (t.trans h3) h4,λa b c d h1 h2 h3 h4=>r.bk a b c d h1 h2 (t.trans h3) h4,λa b c d h1 h2 h3 h4=>r.ct a b c d h1 h2 (t.trans h3) h4⟩
section
variable {K:Ks}
theorem dH:Den K H (.int i) (.int i):=rfl
theorem bU{b:Bool}:Den K H (.bl b) (.bl b):=rfl
theorem vp:Den K H .i_ .i_:=rfl
theorem jk:Den K H (.ref a) (.ref a):=rfl
theorem nw(h:SqT K H p vs)(l:DenL K H ds vs):Den K H (.tup ds) (.ref p):=⟨p,vs,rfl,h,l⟩
end
noncomputable abbrev R3:=D->D->MH->VK3->Prop
abbrev Back(K:Ks)(H:Hp)(Q:VK3)(Q2:VK):Prop:=∀v H' d M',Den K H' d v->RelM K M' H'->TM K H H'->Q d M'->Q2 v H'
def Op3(X:Cx)(f:Value->Value->Sem Value)(r3:R3):Prop:=∃r2,OpR X f r2/\∀(H:Hp)(x y:D)(v u:V)(M:MH)(Q:VK3)(Q2:VK),Den X.K H x v->Den X.K H y u->RelM X.K M H->r3 x y M Q->Back X.K H Q Q2->r2 v u H Q2
def Un3(X:Cx)(f:Value->Sem Value)(r3:D->MH->VK3->Prop):Prop:=∃r2,UnR X f r2/\∀(H:Hp)(x:D)(v:V)(M:MH)(Q:VK3)(Q2:VK),Den X.K H x v->RelM X.K M H->r3 x M Q->Back X.K H Q Q2->r2 v H Q2
def o6(X:Cx)(f:Value)(r3:List D->MH->VK3->Prop):Prop:=∃r2,CallR X f r2/\∀(H:Hp)(xs:List D)(vs:List V)(M:MH)(Q:VK3)(Q2:VK),DenL X.K H xs vs->RelM X.K M H->r3 xs M Q->Back X.K H Q Q2->r2 vs H Q2
noncomputable def c3(d:D):TE3:=λ_ M Q=>Q d M
def rI3(C:Int->Int->Prop)(g:Int->Int->D):R3:=λx y M Q=>∃i j,x=.int i/\y=.int j/\C i j/\Q (g i j) M
section
variable {X:Cx}{a b c e:Expr}{ta tb tc te:TE3}{pos:Pos}
noncomputable def q3(t:TE3):TT3:=λZ M Q=>t Z M λx M1=>∃k,x=.bl k/\Q k M1
variable {tA NQ:TT3}{aU:List Expr}
theorem xM{K:Ks}(h:DenL K H ds vs)(e:atI ds i=some d):∃v,atI vs i=some v/\Den K H d v:=by
 unfold atI at e ⊢;rw[<-h.length];cases q:ixN ds.length i with
 |none=>rw[q]at e;cases e
 |some j=>
  rw[q]at e;obtain⟨v,e1,e2⟩:=h.get (show ds[j]?=some d from e);exact⟨v,e1,e2⟩
def Is(M:MH)(x:D)(ds:List D):Prop:=x=.g_ ds\/∃a,x=.ref a/\M a=some (.lst ds)
theorem RelM.list{K:Ks}(rm:RelM K M H)(h:Is M x ds)(dv:Den K H x v):∃p vs,v=.ref p/\SqL K H p vs/\DenL K H ds vs:=by
 rcases h with rfl|⟨a,rfl,h⟩
 ·obtain⟨p,vs,e,s,l⟩:=dv;exact⟨p,vs,e,s.sq,l⟩
 ·obtain⟨vs,e,l⟩:=rm a _ h;exact⟨a,vs,dv,.of e,l⟩
def isIB:V->D->Prop:=λv d=>(∃i,v=.int i/\d=.int i)\/(∃b,v=.bl b/\d=.bl b)
theorem isIB.den{K:Ks}(h:isIB v d):Den K H d v:=by
 rcases h with ⟨i,rfl,rfl⟩|⟨b,rfl,rfl⟩<;>rfl
theorem jH(h:OpR X f (rI C g))(hg:∀i j,isIB (g i j) (g3 i j)):Op3 X f (rI3 C g3):=
 ⟨_,h,λH x y v u M Q Q2 dx dy rm ⟨i,j,e1,e2,hc,q⟩ k=>by
  subst e1;subst e2;cases (show v=.int i from dx);cases (show u=.int j from dy);exact⟨i,j,rfl,rfl,hc,k _ H _ M (hg i j).den rm (.refl _) q⟩⟩
def nB(g:Int->Int->D):R3:=λx y M Q=>∃i j,x=.int i/\y=.int j/\Q (g i j) M
theorem dq(h:OpR X f (rI0 g))(hg:∀i j,isIB (g i j) (g3 i j)):Op3 X f (nB g3):=
 ⟨_,h,λH x y v u M Q Q2 dx dy rm ⟨i,j,e1,e2,q⟩ k=>by
  subst e1;subst e2;cases (show v=.int i from dx);cases (show u=.int j from dy);exact⟨i,j,rfl,rfl,k _ H _ M (hg i j).den rm (.refl _) q⟩⟩
noncomputable def big:Nat:=2 ^ 4096
theorem pY(h:n<10 ^ 250):n<big:=Jw h (by decide +kernel)
def cQ(i j:Int):Prop:=(i.natAbs<big/\j.natAbs<big)
theorem iS{k:Int}(h:k.natAbs<big):Builtin.Int.intBits k<=2 ^ 20:=by
 unfold Builtin.Int.intBits;by_cases h0:k.natAbs=0
 ·have:k=0:=by omega
  subst this;decide
 ·have To:k.natAbs.log2<4096:=(Nat.log2_lt h0).mpr h;split<;>omega
theorem xP:OpR X (binaryOp .Mult) (rI cQ λi j=>.int (i*j)):=opI λ_ _ _ _ _ _ _ hc q=>mul_int q (.of_bits (iS hc.1) (iS hc.2))
def lA(_ j:Int):Prop:=0<j/\j.toNat<big
theorem w5:OpR X (binaryOp .FloorDiv) (rI lA λi j=>.int (i / j)):=opI λi j _ _ _ _ _ hc q=>by
 have h1:(0:Int)<j:=hc.1;have h2:j.toNat<big:=hc.2;refine floordiv_int (by omega) (by rw[Int.fdiv_eq_ediv_of_nonneg i (by omega)];exact q) (.inl (PyProof.noPylong_of_log2 ?_))
 have h3:j.natAbs<2 ^ 4096:=by
  have e:j.natAbs=j.toNat:=by omega
  rw[e];exact h2
 have h0:j.natAbs≠0:=by omega
 have:=(Nat.log2_lt h0).mpr h3;omega
theorem E7:Op3 X (binaryOp .Add) (nB λi j=>.int (i+j)):=dq CM λ_ _=>.inl ⟨_,rfl,rfl⟩
theorem ET:Op3 X (binaryOp .Sub) (nB λi j=>.int (i-j)):=dq B4 λ_ _=>.inl ⟨_,rfl,rfl⟩
theorem D8:Op3 X (binaryOp .Mult) (rI3 cQ λi j=>.int (i*j)):=jH xP λ_ _=>.inl ⟨_,rfl,rfl⟩
theorem A8:Op3 X (binaryOp .FloorDiv) (rI3 lA λi j=>.int (i / j)):=jH w5 λ_ _=>.inl ⟨_,rfl,rfl⟩
theorem DB:Op3 X (binaryOp .Mod) (rI3 (λ_ j=>0<j) λi j=>.int (i % j)):=jH BW λ_ _=>.inl ⟨_,rfl,rfl⟩
theorem EZ:Op3 X (binaryOp .Pow) (rI3 uF λi j=>.int (i ^ j.toNat)):=jH AH λ_ _=>.inl ⟨_,rfl,rfl⟩
theorem EK:Op3 X (binaryOp .RShift) (rI3 (λ_ j=>0<=j) λi j=>.int (i / 2 ^ j.toNat)):=jH Ay λ_ _=>.inl ⟨_,rfl,rfl⟩
theorem Fj:Op3 X (binaryOp .BitAnd) (nB λi j=>.int (Builtin.bitAnd i j)):=dq BJ λ_ _=>.inl ⟨_,rfl,rfl⟩
theorem GE:Op3 X (compareOp .Lt) (nB λi j=>.bl (decide (i<j))):=dq Ej λ_ _=>.inr ⟨_,rfl,rfl⟩
theorem GL:Op3 X (compareOp .LtE) (nB λi j=>.bl (decide (i<=j))):=dq Ef λ_ _=>.inr ⟨_,rfl,rfl⟩
theorem Ha:Op3 X (compareOp .Gt) (nB λi j=>.bl (decide (j<i))):=dq D6 λ_ _=>.inr ⟨_,rfl,rfl⟩
theorem GT:Op3 X (compareOp .GtE) (nB λi j=>.bl (decide (j<=i))):=dq Er λ_ _=>.inr ⟨_,rfl,rfl⟩
def rU3(g:Int->Int):D->MH->VK3->Prop:=λx M Q=>∃i,x=.int i/\Q (.int (g i)) M
theorem EG:Un3 X (unaryOp .USub) (rU3 λi=>-i):=⟨_,B9,λH x v M Q Q2 dx rm ⟨i,e,q⟩ k=>by
 subst e;cases (show v=.int i from dx);exact⟨i,rfl,k _ H _ M dH rm (.refl _) q⟩⟩
noncomputable def D.isN:D->Bool
 |.i_=>true
 |_=>false
theorem sy{K:Ks}{d:D}(h:Den K H d v):decide (v=.i_)=d.isN:=by
 cases d with
 |i_=>cases (show v=.i_ from h);rfl
 |bl b=>cases (show v=.bl b from h);rfl
 |int i=>cases (show v=.int i from h);rfl
 |str x=>cases (show v=.str x from h);rfl
 |tup ds=>obtain⟨p,vs,rfl,_⟩:=h;rfl
 |g_ ds=>obtain⟨p,vs,rfl,_⟩:=h;rfl
 |ref a=>cases (show v=.ref a from h);rfl
 |Ln ks ds=>obtain⟨p,vs,_,rfl,_⟩:=h;rfl
 |_=>obtain⟨p,vs,_,_,rfl,_⟩:=h;rfl
def rIs3:R3:=λx y M Q=>y=.i_/\Q (.bl x.isN) M
def rIsN3:R3:=λx y M Q=>y=.i_/\Q (.bl (!x.isN)) M
theorem G1:Op3 X (compareOp .Is) rIs3:=⟨_,CH,λH x y v u M Q Q2 dx dy rm ⟨e,q⟩ k=>by
 subst e;refine⟨dy,?_⟩;rw[sy dx];exact k _ H _ M bU rm (.refl _) q⟩
theorem yD:Op3 X (compareOp .IsNot) rIsN3:=⟨_,zG,λH x y v u M Q Q2 dx dy rm ⟨e,q⟩ k=>by
 subst e;refine⟨dy,?_⟩;rw[sy dx];exact k _ H _ M bU rm (.refl _) q⟩
variable {id:String}
def rLen3:List D->MH->VK3->Prop:=λxs M Q=>∃x ds,xs=[x]/\(Is M x ds\/x=.tup ds)/\Q (.int ds.length) M
theorem DS:o6 X (.builtin "len") rLen3:=⟨_,mG,λH xs vs M Q Q2 dl rm ⟨x,ds,e,h,q⟩ k=>by
 subst e;obtain⟨v,r,rfl,dv,rfl⟩:=dl;rcases h with h|rfl
 ·obtain⟨a,ys,rfl,sq,l⟩:=rm.list h dv;exact⟨a,ys,rfl,.inl sq,by rw[<-l.length];exact k _ H _ M dH rm (.refl _) q⟩
 ·obtain⟨a,ys,rfl,sq,l⟩:=dv;exact⟨a,ys,rfl,.inr sq,by rw[<-l.length];exact k _ H _ M dH rm (.refl _) q⟩⟩
def rAbs3:List D->MH->VK3->Prop:=λxs M Q=>∃i,xs=[.int i]/\Q (.int (if i<0 then -i else i)) M
theorem Ec:o6 X (.builtin "abs") rAbs3:=⟨_,u8,λH xs vs M Q Q2 dl rm ⟨i,e,q⟩ k=>by
 subst e;obtain⟨v,r,rfl,dv,rfl⟩:=dl;cases (show v=.int i from dv);exact⟨i,rfl,k _ H _ M dH rm (.refl _) q⟩⟩
def rMax3:List D->MH->VK3->Prop:=λxs M Q=>∃i j,xs=[.int i,.int j]/\Q (.int (if j > i then j else i)) M
theorem EM(hc:X.calm=true):o6 X (.builtin "max") rMax3:=⟨_,tj hc,λH xs vs M Q Q2 dl rm ⟨i,j,e,q⟩ k=>by
 subst e;obtain⟨v,r,rfl,dv,w,r',rfl,dw,rfl⟩:=dl;cases (show v=.int i from dv);cases (show w=.int j from dw);exact⟨i,j,rfl,k _ H _ M dH rm (.refl _) q⟩⟩
def rMin3:List D->MH->VK3->Prop:=λxs M Q=>∃i j,xs=[.int i,.int j]/\Q (.int (if j<i then j else i)) M
theorem DY(hc:X.calm=true):o6 X (.builtin "min") rMin3:=⟨_,um hc,λH xs vs M Q Q2 dl rm ⟨i,j,e,q⟩ k=>by
 subst e;obtain⟨v,r,rfl,dv,w,r',rfl,dw,rfl⟩:=dl;cases (show v=.int i from dv);cases (show w=.int j from dw);exact⟨i,j,rfl,k _ H _ M dH rm (.refl _) q⟩⟩
end
abbrev BackS(K:Ks)(H:Hp)(Q:St3->MH->Prop)(Q2:St->Hp->Prop):Prop:=∀m_ H' u_ M',RelM K M' H'->DenS K H' u_ m_->TM K H H'->Q u_ M'->Q2 m_ H'
section
variable {X:Cx}{st:Stmt}{aU:List Stmt}{t u:TS3}{e:Expr}{te:TE3}{pos:Pos}
structure ItOk (K:Ks)(H0:Hp)(J:It)(ds:List D)(S:MH->Prop):Prop where
 go:∀(i:Nat) H M,TM K H0 H->RelM K M H->S M->i<ds.length->J.go i H
 yld:∀(i:Nat) H M x H',TM K H0 H->RelM K M H->S M->i<ds.length->J.yld i H x H'->TM K H H'/\RelM K M H'/\∃d,ds[i]?=some d/\Den K H' d x
 stop:∀H M,TM K H0 H->RelM K M H->S M->J.stop ds.length H
noncomputable def rng(lo:Int)(n:Nat):List D:=(List.range n).map λ(i:Nat)=>D.int (lo+i)
theorem mQ(lo:Int)(n:Nat):(rng lo n).length=n:=by unfold rng;rw[Jv,List.length_range]
theorem CB{lo:Int}(h:i<n):(rng lo n)[i]?=some (.int (lo+i)):=by
 unfold rng;rw[Jz,List.getElem?_range h];rfl
theorem AE{K:Ks}{lo:Int}:ItOk K H0 (Itr lo n) (rng lo n) (λ_=>True):=by
 refine⟨λi H M _ _ _ hi=>?_,λi H M x H' _ rm _ hi y=>?_,λH M _ _ _=>?_⟩
 ·rw[mQ]at hi;exact hi
 ·rw[mQ]at hi;obtain⟨e,y⟩:=y;subst e;subst y;exact⟨.refl _,rm,_,CB hi,rfl⟩
 ·rw[mQ];exact Jp _
end
section
variable {K:Ks}
end
section
variable {X:Cx}
end
noncomputable abbrev XN:=XE->MH->Prop
noncomputable def del(M:MH)(a:Addr):MH:=λb=>if b=a then none else M b
theorem gY(h:M a=none):del (put M a o) a=M:=by
 funext b;unfold del put;by_cases e:b=a
 ·subst e;rw[Js rfl,h]
 ·rw[Jm e,Jm e]
theorem nh(h:del M a b=some o):b≠a/\M b=some o:=by
 unfold del at h;split at h
 ·cases h
 ·exact⟨by assumption,h⟩
noncomputable def av(M M':MH):MH:=λa=>match M a with
 |some _=>M' a
 |none=>none
theorem lV(h:av M M' a=some o):M' a=some o:=by
 unfold av at h;split at h
 ·exact h
 ·cases h
noncomputable def kp(b:Bool)(M M':MH):MH:=if b=true then av M M' else M'
theorem vD(h:kp b M M' a=some o):M' a=some o:=by
 cases b with
 |true=>exact lV h
 |false=>exact h
inductive BI where
 |len  |abs  |max  |min  |list (fz:Bool)  |all  |any  |Nw
inductive BM where
 |get  |extend  |remove
inductive BT where
 |int|bool|str|tuple|list|dict
mutual
inductive IE where
 |var (i:Nat)
 |con (d:D)
 |bin (op:Operator) (a b:IE)
 |neg (a:IE)
 |cat (fz:Bool) (a b:IE)
 |cmp (op:CmpOp) (a b:IE)
 |chain (op KN:CmpOp) (a b c:IE)
 |and (a b:IE)
 |or (a b:IE)
 |not (a:IE)
 |Oa (c:IT) (a b:IE)
 |tup (es:IA)
 |lst (fz:Bool) (es:IA)
 |t_ (e:IE)
 |ix (a b:IE)
 |sl (fz:Bool) (a:IE) (lo hi:IO)
 |call (f:Nat) (es:IA)
 |bi (b:BI) (es:IA)
 |L0 (e:IE) (t:BT)
 |LQ (k v:IE)
 |comp (fz:Bool) (N:List Str) (js:List (Option Nat)) (tg:ITg) (it:II) (cond:ITO) (I_:IE)
 |Ob (e:IE)
 |fld (e:IE) (f:Nat)
 |make (fz:Bool) (i:Nat) (es:IA)
 |y_ (e:IE) (m:Nat) (es:IA)
 |ini (i:Nat) (es:IA)
 |glo (k:Nat)
 |bm (b:BM) (o:IE) (es:IA)
 |KO (tk:Bool)
inductive IT where
 |val (e:IE)
 |cmp (op:CmpOp) (a b:IE)
 |chain (op KN:CmpOp) (a b c:IE)
 |and (a b:IT)
 |or (a b:IT)
 |not (a:IT)
inductive IA where
 |nil|cons (e:IE) (r:IA)
inductive IO where
 |no|yes (e:IE)
inductive ITO where
 |no|yes (e:IT)
inductive II where
 |seq (e:IE)
 |LJ (a:IE)
 |enum (a:IE)
 |zip (a b:IE)
 |items (a:IE)
 |dk (a:IE)
inductive ITg where
 |name (i:Nat)|tup (is:List Nat)
end
mutual
inductive IS where
 |set (i:Nat) (e:IE)
 |Nx (is:List Nat) (e:IE)
 |expr (e:IE)
 |ret (e:IE)
 |LR
 |ifs (c:IT) (a b:ISs)
 |C_ (tg:ITg) (it:II) (body:ISs)
 |Oc (c:IT) (body:ISs)
 |app (o e:IE)
 |del (i:Nat)
 |KY (o:IE) (f:Nat) (e:IE)
 |A_ (o i e:IE)
 |dead
 |LS (tg:ITg) (o:IE) (body:ISs)
inductive ISs where
 |nil|cons (s:IS) (r:ISs)
end
noncomputable def am(M:MH):D->Option (List D)
 |.g_ ds=>some ds
 |.ref a=>match M a with
  |some (.lst ds)=>some ds
  |_=>none
 |_=>none
noncomputable def ax(M:MH):D->Option (List D)
 |.tup ds=>some ds
 |x=>am M x
noncomputable def res(M:MH)(x:D):D:=match am M x with
 |some ds=>.g_ ds
 |none=>x
def dX(fz:Bool)(ds:List D)(M:MH)(Q:VK3):Prop:=ds.length<=sizeLine/\if fz=true then Q (.g_ ds) M else ∀p,M p=none->Q (.ref p) (put M p (.lst ds))
noncomputable def plN:Nat->D->Bool
 |_,.ref _=>false
 |n,.tup ds=>match n with
  |0=>false
  |m+1=>ds.all (plN m)
 |n,.g_ ds=>match n with
  |0=>false
  |m+1=>ds.all (plN m)
 |_,.obj _ _ _ _=>false
 |_,.Ln _ _=>false
 |_,.Kv _ _=>false
 |_,_=>true
noncomputable abbrev pl(x:D):Bool:=plN 8 x
noncomputable abbrev pls(ds:List D):Bool:=ds.all (plN 8)
mutual
noncomputable def eqD:D->D->Bool
 |.i_,y=>match y with
  |.i_=>true
  |_=>false
 |.bl a,y=>match y with
  |.bl b=>a == b
  |.int b=>decide ((if a=true then (1:Int) else 0)=b)
  |_=>false
 |.int a,y=>match y with
  |.int b=>decide (a=b)
  |.bl b=>decide (a=if b=true then (1:Int) else 0)
  |_=>false
 |.str a,y=>match y with
  |.str b=>decide (a=b)
  |_=>false
 |.tup a,y=>match y with
  |.tup b=>cH a b
  |_=>false
 |.g_ a,y=>match y with
  |.g_ b=>cH a b
  |_=>false
 |.ref _,_=>false
 |.obj _ _ _ _,_=>false
 |.Ln _ _,_=>false
 |.Kv _ _,_=>false
noncomputable def cH:List D->List D->Bool
 |[],y=>match y with
  |[]=>true
  |_=>false
 |a::r,y=>match y with
  |b::t=>eqD a b&&cH r t
  |_=>false
end
def rII(C:Int->Int->Prop)(g:Int->Int->D)(x y:D)(M:MH)(Q:VK3):Prop:=match x,y with
 |.int i,.int j=>C i j/\Q (g i j) M
 |_,_=>False
def rI2(g:Int->Int->D)(x y:D)(M:MH)(Q:VK3):Prop:=match x,y with
 |.int i,.int j=>Q (g i j) M
 |_,_=>False
def vo(x y:D)(M:MH)(Q:VK3):Prop:=match x,y with
 |.int i,.int j=>Q (.int (i+j)) M
 |.tup a,.tup b=>a.length+b.length<=sizeLine/\Q (.tup (a++b)) M
 |_,_=>False
def wF(x y:D)(M:MH)(Q:VK3):Prop:=match x,y with
 |.int i,.int j=>cQ i j/\Q (.int (i*j)) M
 |_,_=>False
def le:Operator->D->D->MH->VK3->Prop
 |.Add=>vo
 |.Sub=>rI2 λi j=>.int (i-j)
 |.Mult=>wF
 |.FloorDiv=>rII lA λi j=>.int (i / j)
 |.Mod=>rII (λ_ j=>0<j) λi j=>.int (i % j)
 |.Pow=>rII uF λi j=>.int (i ^ j.toNat)
 |.RShift=>rII (λ_ j=>0<=j) λi j=>.int (i / 2 ^ j.toNat)
 |.BitAnd=>rI2 λi j=>.int (Builtin.bitAnd i j)
 |_=>λ_ _ _ _=>False
def rNeg(x:D)(M:MH)(Q:VK3):Prop:=match x with
 |.int i=>Q (.int (-i)) M
 |_=>False
def jw(fz:Bool)(x y:D)(M:MH)(Q:VK3):Prop:=match am M x,am M y with
 |some a,some b=>dX fz (a++b) M Q
 |_,_=>match x,y with
  |.tup a,.tup b=>a.length+b.length<=sizeLine/\Q (.tup (a++b)) M
  |_,_=>False
noncomputable def rs(M:MH)(x:D):D:=match am M x with
 |some ds=>.g_ (if pls ds=true then ds else ds.map (res M))
 |none=>x
def ij(neg:Bool)(x y:D)(M:MH)(Q:VK3):Prop:=pl (rs M x)=true/\pl (rs M y)=true/\Q (.bl (neg ^^ eqD (rs M x) (rs M y))) M
def tL(neg:Bool)(x y:D)(M:MH)(Q:VK3):Prop:=match y with
 |.i_=>Q (.bl (neg ^^ x.isN)) M
 |.bl b=>match x with
  |.bl a=>Q (.bl (neg ^^ (a == b))) M
  |.i_=>Q (.bl neg) M
  |_=>False
 |_=>False
noncomputable def tE:D->Option Key
 |.int i=>some (.inl i)
 |.str s=>some (.inr s)
 |_=>none
noncomputable def bz:List D->Option (List Int)
 |[]=>some []
 |.int i::r=>match bz r with
  |some ns=>some (i::ns)
  |none=>none
 |_::_=>none
noncomputable def g5:D->Option (List Int)
 |.tup es=>bz es
 |_=>none
noncomputable def getD[DecidableEq κ]:List κ->List D->κ->Option D
 |k::ks,d::ds,x=>if k=x then some d else getD ks ds x
 |_,_,_=>none
noncomputable def ai[DecidableEq κ]:List κ->κ->List κ
 |[],x=>[x]
 |k::ks,x=>if k=x then k::ks else k::ai ks x
noncomputable def aq[DecidableEq κ]:List κ->List D->κ->D->List D
 |k::ks,d::ds,x,y=>if k=x then y::ds else d::aq ks ds x y
 |_,_,_,y=>[y]
noncomputable def dZ(M:MH):D->Option (List Key×List D)
 |.Ln ks ds=>some (ks,ds)
 |.ref a=>match M a with
  |some (.dk ks ds)=>some (ks,ds)
  |_=>none
 |_=>none
noncomputable def cI(M:MH):D->Option (List (List Int)×List D)
 |.Kv ks ds=>some (ks,ds)
 |.ref a=>match M a with
  |some (.dt ks ds)=>some (ks,ds)
  |_=>none
 |_=>none
noncomputable def d7(M:MH)(x y:D):Option (Option D):=match dZ M x with
 |some (ks,ds)=>match tE y with
  |some k=>some (getD ks ds k)
  |none=>none
 |none=>match cI M x with
  |some (ks,ds)=>match g5 y with
   |some k=>some (getD ks ds k)
   |none=>none
  |none=>none
def jq(neg:Bool)(x y:D)(M:MH)(Q:VK3):Prop:=match ax M y with
 |some ds=>pl (res M x)=true/\pls ds=true/\Q (.bl (neg ^^ ds.any λd=>eqD d (res M x))) M
 |none=>match d7 M y x with
  |some o=>Q (.bl (neg ^^ o.isSome)) M
  |none=>False
def aI:CmpOp->D->D->MH->VK3->Prop
 |.Eq=>ij false
 |.NotEq=>ij true
 |.Lt=>rI2 λi j=>.bl (decide (i<j))
 |.LtE=>rI2 λi j=>.bl (decide (i<=j))
 |.Gt=>rI2 λi j=>.bl (decide (j<i))
 |.GtE=>rI2 λi j=>.bl (decide (j<=i))
 |.Is=>tL false
 |.IsNot=>tL true
 |.In=>jq false
 |.NotIn=>jq true
def ao(x y:D)(M:MH)(Q:VK3):Prop:=match ax M x with
 |some ds=>match y with
  |.int i=>match atI ds i with
   |some d=>Q d M
   |none=>False
  |_=>False
 |none=>match d7 M x y with
  |some (some d)=>Q d M
  |some none=>False
  |none=>False
noncomputable def cZ(xs:List D)(lo hi:Option Int):List D:=(xs.drop (HT.sIx xs.length 0 lo)).take (HT.sIx xs.length xs.length hi-HT.sIx xs.length 0 lo)
noncomputable def whole(n:Nat)(lo hi:Option Int):Bool:=HT.sIx n 0 lo == 0&&HT.sIx n n hi == n
def nA(fz:Bool)(x:D)(lo hi:Option Int)(M:MH)(Q:VK3):Prop:=match x with
 |.tup ds=>whole ds.length lo hi=false/\Q (.tup (cZ ds lo hi)) M
 |x=>match am M x with
  |some ds=>dX fz (cZ ds lo hi) M Q
  |none=>False
noncomputable def eV:List D->Option (List Bool)
 |[]=>some []
 |.bl i::r=>match eV r with
  |some ns=>some (i::ns)
  |none=>none
 |_::_=>none
noncomputable def qo(y:D):List D->Nat->Option Nat
 |[],_=>none
 |d::r,k=>if eqD d y=true then some k else qo y r (k+1)
noncomputable def isLstM(x:D)(M:MH):Bool:=match x with
 |.ref a=>match M a with
  |some (.lst _)=>true
  |_=>false
 |_=>false
noncomputable def zU(n:Nat)(i:Int):Nat:=if i<0 then (i+n).toNat else min i.toNat n
noncomputable def tyB:BM->D->MH->Bool
 |.get,x,M=>(dZ M x).isSome||(cI M x).isSome
 |.extend,x,M=>isLstM x M
 |.remove,x,M=>isLstM x M
def rBm:BM->D->List D->MH->VK3->Prop
 |.get,x,ys,M,Q=>match ys with
  |[y]=>match d7 M x y with
   |some o=>Q (o.getD .i_) M
   |none=>False
  |[y,z]=>match d7 M x y with
   |some o=>Q (o.getD z) M
   |none=>False
  |_=>False
 |.remove,x,ys,M,Q=>match x,ys with
  |.ref a,[y]=>match M a with
   |some (.lst ds)=>(pl (res M y)=true/\pls ds=true)/\(match qo (res M y) ds 0 with
    |some k=>Q .i_ (put M a (.lst (ds.eraseIdx k)))
    |none=>False)
   |_=>False
  |_,_=>False
 |.extend,x,ys,M,Q=>match x,ys with
  |.ref a,[y]=>match M a,am M y with
   |some (.lst ds),some es=>ds.length+es.length<=sizeLine/\Q .i_ (put M a (.lst (ds++es)))
   |_,_=>False
  |_,_=>False
noncomputable def jd(k:List Int):D:=.tup (k.map D.int)
def rBi:BI->List D->MH->VK3->Prop
 |.len,xs,M,Q=>match xs with
  |[x]=>match ax M x with
   |some ds=>Q (.int ds.length) M
   |none=>match cI M x with
    |some (ks,_)=>Q (.int ks.length) M
    |none=>False
  |_=>False
 |.abs,xs,M,Q=>match xs with
  |[.int i]=>Q (.int (if i<0 then -i else i)) M
  |_=>False
 |.max,xs,M,Q=>match xs with
  |[.int i,.int j]=>Q (.int (if j > i then j else i)) M
  |_=>False
 |.min,xs,M,Q=>match xs with
  |[.int i,.int j]=>Q (.int (if j<i then j else i)) M
  |_=>False
 |.list fz,xs,M,Q=>match xs with
  |[x]=>match ax M x with
   |some ds=>dX fz ds M Q
   |none=>match cI M x with
    |some (ks,_)=>dX fz (ks.map jd) M Q
    |none=>False
  |_=>False
 |.Nw,xs,M,Q=>match xs with
  |[x]=>match cI M x with
   |some (ks,ds)=>(ks.map tH).Nodup/\∀p,M p=none->Q (.ref p) (put M p (.dt ks ds))
   |none=>False
  |_=>False
 |.all,xs,M,Q=>match xs with
  |[x]=>match am M x with
   |some ds=>match eV ds with
    |some bs=>Q (.bl (bs.all id)) M
    |none=>False
   |none=>False
  |_=>False
 |.any,xs,M,Q=>match xs with
  |[x]=>match am M x with
   |some ds=>match eV ds with
    |some bs=>Q (.bl (bs.any id)) M
    |none=>False
   |none=>False
  |_=>False
def pk(t:BT)(x:D)(M:MH)(Q:VK3):Prop:=match x with
 |.i_=>Q (.bl false) M
 |.bl _=>Q (.bl (match t with|.int=>true|.bool=>true|_=>false)) M
 |.int _=>Q (.bl (match t with|.int=>true|_=>false)) M
 |.str _=>Q (.bl (match t with|.str=>true|_=>false)) M
 |.tup _=>Q (.bl (match t with|.tuple=>true|_=>false)) M
 |.g_ _=>Q (.bl (match t with|.list=>true|_=>false)) M
 |.ref a=>match M a with
  |some (.lst _)=>Q (.bl (match t with|.list=>true|_=>false)) M
  |some (.dk _ _)=>Q (.bl (match t with|.dict=>true|_=>false)) M
  |some (.dt _ _)=>Q (.bl (match t with|.dict=>true|_=>false)) M
  |_=>False
 |.Ln _ _=>Q (.bl (match t with|.dict=>true|_=>false)) M
 |.Kv _ _=>Q (.bl (match t with|.dict=>true|_=>false)) M
 |.obj _ _ _ _=>False
noncomputable def prD(p:Int×Int):D:=.tup [.int p.1,.int p.2]
noncomputable def tU:List D->Option (List (Int×Int))
 |[]=>some []
 |.tup [.int a,.int b]::r=>match tU r with
  |some ps=>some ((a,b)::ps)
  |none=>none
 |_::_=>none
noncomputable def wK(ps:List (Int×Int)):Int×Int:=ps.getD (argBest (λi j=>lt2 (ps.getD i (0,0)) (ps.getD j (0,0))) (ps.length-1)) (0,0)
def rMp(x:D)(M:MH)(Q:VK3):Prop:=match am M x with
 |some ds=>match tU ds with
  |some (p::ps)=>Q (prD (wK (p::ps))) M
  |_=>False
 |none=>False
def iN(p:Addr)(x y:D)(M:MH)(Q:VK3):Prop:=match g5 x with
 |some k=>M p=some (.dt [] [])/\Q (.ref p) (put M p (.dt [k] [y]))
 |none=>False
structure WB where
 ne:Nat
 cls:Nat->Addr
 sub:Nat->Nat->Bool
 nk:Nat
 b_:Nat->Addr
 ksub:Nat->Nat->Bool
 fok:Nat->Nat->Bool
 mth:Nat->Nat->Option Nat
 ini:Nat->Option Nat
 xin:Nat->Option Nat
 glo:Nat->D
 d_:Nat->Addr
structure WC extends WB where
 call:Nat->List D->MH->VK3->XN->Prop
noncomputable def bI(f:Nat):List Nat->List D->Option D
 |n::ns,d::ds=>if n=f then some d else bI f ns ds
 |_,_=>none
noncomputable def ca(f:Nat):List Nat->List Nat
 |n::ns=>if n=f then n::ns else n::ca f ns
 |[]=>[f]
noncomputable def bY(f:Nat)(y:D):List Nat->List D->List D
 |n::ns,d::ds=>if n=f then y::ds else d::bY f y ns ds
 |_,_=>[y]
def kP(f:Nat)(ns:List Nat)(ds:List D)(M:MH)(Q:VK3):Prop:=match bI f ns ds with
 |some d=>Q d M
 |none=>False
def dQ(B:WB)(f:Nat)(x:D)(M:MH)(Q:VK3):Prop:=match x with
 |.obj i C ns ds=>(C=B.b_ i/\i<B.nk/\B.fok i f=true)/\kP f ns ds M Q
 |.ref a=>match M a with
  |some (.ins i C ns ds)=>(C=B.b_ i/\i<B.nk/\B.fok i f=true)/\kP f ns ds M Q
  |_=>False
 |_=>False
def ft(o:Option Nat)(R:Nat->Prop):Prop:=match o with
 |some f=>R f
 |none=>False
def cj(B:WB)(m:Nat)(x:D)(M:MH)(R:Nat->Prop):Prop:=match x with
 |.obj i C ns ds=>(C=B.b_ i/\i<B.nk/\bI m ns ds=none)/\ft (B.mth i m) R
 |.ref a=>match M a with
  |some (.ins i C ns ds)=>(C=B.b_ i/\i<B.nk/\bI m ns ds=none)/\ft (B.mth i m) R
  |_=>False
 |_=>False
def jb(Q:VK3):VK3:=λx M=>match x with
 |.ref a=>match M a with
  |some (.lst ds)=>Q (.g_ ds) (del M a)
  |_=>False
 |_=>False
def d4:List D->MH->(List D->MH->Prop)->Prop
 |[],M,R=>R [] M
 |d::ds,M,R=>match d with
  |.ref a=>match M a with
   |some (.lst es)=>d4 ds (del M a) λr M'=>R (.g_ es::r) M'
   |some (.dk ks es)=>d4 ds (del M a) λr M'=>R (.Ln ks es::r) M'
   |some (.dt ks es)=>d4 ds (del M a) λr M'=>R (.Kv ks es::r) M'
   |_=>d4 ds M λr M'=>R (.ref a::r) M'
  |d=>d4 ds M λr M'=>R (d::r) M'
def aX(Q:VK3):VK3:=λx M=>match x with
 |.ref a=>match M a with
  |some (.lst ds)=>Q (.g_ ds) (del M a)
  |some (.dk ks ds)=>Q (.Ln ks ds) (del M a)
  |some (.dt ks ds)=>Q (.Kv ks ds) (del M a)
  |some (.ins i C ns ds)=>d4 ds (del M a) λr M'=>Q (.obj i C ns r) M'
  |_=>False
 |_=>False
def wpG:ITg->D->St3->MH->(St3->MH->Prop)->Prop
 |.name i,d,Z,M,Q=>Q (Z.set i (some d)) M
 |.tup is,d,Z,M,Q=>match d with
  |.tup ds=>ds.length=is.length/\Q ((is.zip ds).foldl (λZ p=>Z.set p.1 (some p.2)) Z) M
  |_=>False
noncomputable def aL(js:List (Option Nat))(Z:St3):St3:=js.map λo=>o.bind λj=>(Z[j]?).bind id
def dn(g:D->St3->MH->(St3->MH->Prop)->Prop)(tt:St3->MH->(Bool->MH->Prop)->Prop)(te:St3->MH->VK3->Prop)(S:MH->Prop)(p:Addr)(Q:VK3):List D->List D->St3->MH->Prop
 |[],_,_,M=>S M/\Q (.ref p) M
 |d::r,ys,Z,M=>S M/\ys.length<sizeLine/\g d Z M λK_ M2=>tt K_ M2 λb M3=>if b=true then te K_ M3 λy M4=>M4 p=some (.lst ys)/\dn g tt te S p Q r (ys++[y]) K_ (put M4 p (.lst (ys++[y]))) else dn g tt te S p Q r ys K_ M3
noncomputable def kD:Key->D
 |.inl i=>.int i
 |.inr x=>.str x
noncomputable def f8(ks:List Key)(ds:List D):List D:=(ks.zip ds).map λp=>.tup [kD p.1,p.2]
def aE(x k y:D)(M:MH)(R:MH->Prop):Prop:=match x with
 |.ref a=>match M a,k with
  |some (.lst ds),.int i=>(match ixN ds.length i with
   |some j=>R (put M a (.lst (ds.set j y)))
   |none=>False)
  |some (.dk ks ds),k=>(match tE k with
   |some q=>ks.length<sizeLine/\R (put M a (.dk (ai ks q) (aq ks ds q y)))
   |none=>False)
  |some (.dt ks ds),k=>(match g5 k with
   |some q=>ks.length<sizeLine/\R (put M a (.dt (ai ks q) (aq ks ds q y)))
   |none=>False)
  |_,_=>False
 |_=>False
noncomputable def bR:Nat->List D->List D
 |_,[]=>[]
 |k,d::r=>.tup [.int k,d]::bR (k+1) r
noncomputable def aw(ks:List (List Int))(ds:List D):List D:=(ks.zip ds).map λp=>.tup [.tup (p.1.map D.int),p.2]
noncomputable def gL(xs ys:List D):List D:=(xs.zip ys).map λp=>.tup [p.1,p.2]
def rLs(x:D)(M:MH)(k:List D->(MH->Prop)->Prop):Prop:=match x with
 |.g_ xs=>k xs λ_=>True
 |.ref b=>match M b with
  |some (.lst ys)=>k ys λM=>M b=some (.lst ys)
  |_=>False
 |_=>False
noncomputable def cpF(f:Nat):Bool:=f == 217822450
def uc(x:D)(M:MH)(R:Addr->List (List Int)->List D->Prop):Prop:=match x with
 |.ref d=>match M d with
  |some (.dt ks es)=>R d ks es
  |_=>False
 |_=>False
noncomputable def qG(d:Addr)(φ:Heap->Prop)(ks:List (List Int))(es:List D)(D:Ends3):Ends3:=
 ⟨λZ M=>M d=some (.J_ φ)/\D.nx Z (put M d (.dt ks es)),λv M=>M d=some (.J_ φ)/\D.rt v (put M d (.dt ks es)),λZ M=>M d=some (.J_ φ)/\D.bk Z (put M d (.dt ks es)),λZ M=>M d=some (.J_ φ)/\D.ct Z (put M d (.dt ks es))⟩
section
variable (W:WC)
mutual
def wpE:IE->St3->MH->VK3->XN->Prop
 |.var i,Z,M,Q,_=>match Z[i]? with
  |some (some d)=>Q d M
  |_=>False
 |.con d,_,M,Q,_=>Q d M
 |.bin op a b,Z,M,Q,E=>wpE a Z M (λx M1=>wpE b Z M1 (λy M2=>le op x y M2 Q) E) E
 |.neg a,Z,M,Q,E=>wpE a Z M (λx M1=>rNeg x M1 Q) E
 |.cat fz a b,Z,M,Q,E=>wpE a Z M (λx M1=>wpE b Z M1 (λy M2=>jw fz x y M2 Q) E) E
 |.cmp op a b,Z,M,Q,E=>wpE a Z M (λx M1=>wpE b Z M1 (λy M2=>aI op x y M2 Q) E) E
 |.chain op KN a b c,Z,M,Q,E=>wpE a Z M (λx M1=>wpE b Z M1 (λy M2=>aI op x y M2 λr M3=>match r with
  |.bl k=>if k=true then wpE c Z M3 (λz M4=>aI KN y z M4 Q) E else Q (.bl false) M3
  |_=>False) E) E
 |.and a b,Z,M,Q,E=>wpE a Z M (λx M1=>match x with
  |.bl c=>if c=true then wpE b Z M1 Q E else Q (.bl false) M1
  |_=>False) E
 |.or a b,Z,M,Q,E=>wpE a Z M (λx M1=>match x with
  |.bl c=>if c=true then Q (.bl true) M1 else wpE b Z M1 Q E
  |_=>False) E
 |.not a,Z,M,Q,E=>wpE a Z M (λx M1=>match x with
  |.bl c=>Q (.bl (!c)) M1
  |_=>False) E
 |.Oa c a b,Z,M,Q,E=>wpT c Z M (λk M1=>if k=true then wpE a Z M1 Q E else wpE b Z M1 Q E) E
 |.tup es,Z,M,Q,E=>wpA es Z M (λxs M1=>xs.length<=sizeLine/\Q (.tup xs) M1) E
 |.lst fz es,Z,M,Q,E=>wpA es Z M (λxs M1=>dX fz xs M1 Q) E
 |.t_ e,Z,M,Q,E=>wpE e Z M (aX Q) E
 |.ix a b,Z,M,Q,E=>wpE a Z M (λx M1=>wpE b Z M1 (λy M2=>ao x y M2 Q) E) E
 |.sl fz a lo hi,Z,M,Q,E=>wpE a Z M (λx M1=>wpO lo Z M1 (λl M2=>wpO hi Z M2 (λh M3=>nA fz x l h M3 Q) E) E) E
 |.call f es,Z,M,Q,E=>wpA es Z M (λxs M1=>W.call f xs M1 Q E) E
 |.bi b es,Z,M,Q,E=>wpA es Z M (λxs M1=>rBi b xs M1 Q) E
 |.L0 e t,Z,M,Q,E=>wpE e Z M (λx M1=>pk t x M1 Q) E
 |.LQ k v,Z,M,Q,E=>∀p,M p=none->wpE k Z (put M p (.dt [] [])) (λx M1=>wpE v Z M1 (λy M2=>iN p x y M2 Q) E) E
 |.comp fz _ js tg it cond I_,Z,M,Q,E=>wpI it Z M (λds S M1=>∀p,M1 p=none->
   dn (wpG tg) (λZ M Q=>pf cond Z M Q (λ_ _=>False)) (λZ M Q=>wpE I_ Z M Q (λ_ _=>False)) S p (if fz=true then jb Q else Q) ds [] (aL js Z) (put M1 p (.lst []))) E
 |.Ob e,Z,M,Q,E=>wpE e Z M (λx M1=>rMp x M1 Q) E
 |.fld e f,Z,M,Q,E=>wpE e Z M (λx M1=>dQ W.toWB f x M1 Q) E
 |.make fz i es,Z,M,Q,E=>wpA es Z M (λxs M1=>i<W.nk/\ft (W.ini i) λf=>∀p,M1 p=none->
   W.call f (.ref p::xs) (put M1 p (.ins i (W.b_ i) [] [])) (λv M2=>v=.i_/\if fz=true then aX Q (.ref p) M2 else Q (.ref p) M2) (λi M'=>E i (del M' p))) E
 |.y_ e m es,Z,M,Q,E=>wpE e Z M (λx M1=>cj W.toWB m x M1 λf=>wpA es Z M1 (λxs M2=>W.call f (x::xs) M2 Q E) E) E
 |.ini i es,Z,M,Q,E=>wpA es Z M (λxs M1=>i<W.nk/\ft (W.ini i) λf=>W.call f xs M1 Q E) E
 |.glo k,_,M,Q,_=>Q (W.glo k) M
 |.bm b o es,Z,M,Q,E=>wpE o Z M (λx M1=>tyB b x M1=true/\wpA es Z M1 (λxs M2=>rBm b x xs M2 Q) E) E
 |.KO tk,_,M,Q,_=>∀p,M p=none->Q (.ref p) (put M p (if tk=true then .dt [] [] else .dk [] []))
def wpT:IT->St3->MH->(Bool->MH->Prop)->XN->Prop
 |.val e,Z,M,Q,E=>wpE e Z M (λx M1=>match x with
  |.bl k=>Q k M1
  |_=>False) E
 |.cmp op a b,Z,M,Q,E=>wpE a Z M (λx M1=>wpE b Z M1 (λy M2=>aI op x y M2 λr M3=>match r with
  |.bl k=>Q k M3
  |_=>False) E) E
 |.chain op KN a b c,Z,M,Q,E=>wpE a Z M (λx M1=>wpE b Z M1 (λy M2=>aI op x y M2 λr M3=>match r with
  |.bl k=>if k=true then wpE c Z M3 (λz M4=>aI KN y z M4 λr M5=>match r with
   |.bl k=>Q k M5
   |_=>False) E else Q false M3
  |_=>False) E) E
 |.and a b,Z,M,Q,E=>wpT a Z M (λc M1=>if c=true then wpT b Z M1 Q E else Q false M1) E
 |.or a b,Z,M,Q,E=>wpT a Z M (λc M1=>if c=true then Q true M1 else wpT b Z M1 Q E) E
 |.not a,Z,M,Q,E=>wpT a Z M (λc M1=>Q (!c) M1) E
def wpA:IA->St3->MH->(List D->MH->Prop)->XN->Prop
 |.nil,_,M,Q,_=>Q [] M
 |.cons e r,Z,M,Q,E=>wpE e Z M (λx M1=>wpA r Z M1 (λxs M2=>Q (x::xs) M2) E) E
def wpO:IO->St3->MH->(Option Int->MH->Prop)->XN->Prop
 |.no,_,M,Q,_=>Q none M
 |.yes e,Z,M,Q,E=>wpE e Z M (λx M1=>match x with
  |.int i=>Q (some i) M1
  |_=>False) E
def pf:ITO->St3->MH->(Bool->MH->Prop)->XN->Prop
 |.no,_,M,Q,_=>Q true M
 |.yes e,Z,M,Q,E=>wpT e Z M Q E
def wpI:II->St3->MH->(List D->(MH->Prop)->MH->Prop)->XN->Prop
 |.seq e,Z,M,R,E=>wpE e Z M (λx M1=>match x with
  |.tup ds=>R ds (λ_=>True) M1
  |.g_ ds=>R ds (λ_=>True) M1
  |.ref a=>match M1 a with
   |some (.lst ds)=>R ds (λM=>M a=some (.lst ds)) M1
   |_=>False
  |_=>False) E
 |.enum a,Z,M,R,E=>wpE a Z M (λx M1=>match x with
  |.g_ ds=>R (bR 0 ds) (λ_=>True) M1
  |.ref a=>match M1 a with
   |some (.lst ds)=>R (bR 0 ds) (λM=>M a=some (.lst ds)) M1
   |_=>False
  |_=>False) E
 |.zip a b,Z,M,R,E=>wpE a Z M (λx M1=>wpE b Z M1 (λy M2=>rLs x M2 λxs S=>rLs y M2 λys S'=>R (gL xs ys) (λM=>S M/\S' M) M2) E) E
 |.items a,Z,M,R,E=>wpE a Z M (λx M1=>match x with
  |.Kv ks ds=>R (aw ks ds) (λ_=>True) M1
  |.Ln ks ds=>R (f8 ks ds) (λ_=>True) M1
  |_=>False) E
 |.dk a,Z,M,R,E=>wpE a Z M (λx M1=>match x with
  |.Kv ks ds=>R (ks.map jd) (λ_=>True) M1
  |_=>False) E
 |.LJ a,Z,M,R,E=>wpE a Z M (λx M1=>match x with
  |.int j=>-(2 ^ 62)<=j/\j<2 ^ 62/\R (rng 0 j.toNat) (λ_=>True) M1
  |_=>False) E
end
def eA(g:D->St3->MH->(St3->MH->Prop)->Prop)(tb:Ends3->St3->MH->Prop)(S:MH->Prop)(D:Ends3):List L2.D->St3->MH->Prop
 |[],Z,M=>S M/\D.nx Z M
 |d::r,Z,M=>S M/\g d Z M λK_ M2=>tb {D with nx:=eA g tb S D r,ct:=eA g tb S D r,bk:=D.nx} K_ M2
mutual
def wpS:IS->Ends3->(St3->XN)->St3->MH->Prop
 |.set i e,D,E,Z,M=>wpE W e Z M (λx M1=>D.nx (Z.set i (some x)) M1) (E Z)
 |.Nx is e,D,E,Z,M=>wpE W e Z M (λx M1=>match x with
  |.tup ds=>ds.length=is.length/\D.nx ((is.zip ds).foldl (λZ p=>Z.set p.1 (some p.2)) Z) M1
  |_=>False) (E Z)
 |.expr e,D,E,Z,M=>wpE W e Z M (λ_ M1=>D.nx Z M1) (E Z)
 |.ret e,D,E,Z,M=>wpE W e Z M D.rt (E Z)
 |.LR,D,_,_,M=>D.rt .i_ M
 |.ifs c a b,D,E,Z,M=>wpT W c Z M (λk M1=>if k=true then aR a D E Z M1 else aR b D E Z M1) (E Z)
 |.C_ tg it body,D,E,Z,M=>wpI W it Z M (λds S M1=>eA (wpG tg) (λD Z M=>aR body D E Z M) S D ds Z M1) (E Z)
 |.Oc c body,D,E,Z,M=>∃P:Nat->St3->MH->Prop,(∃m,P m Z M)/\∀m Z M,P m Z M->wpT W c Z M (λb M1=>if b=true then
   aR body {D with nx:=λm_ M'=>∃m',m' < m/\P m' m_ M',ct:=λm_ M'=>∃m',m' < m/\P m' m_ M',bk:=D.nx} E Z M1 else D.nx Z M1) (E Z)
 |.app o e,D,E,Z,M=>wpE W o Z M (λx M1=>match x with
  |.ref a=>match M1 a with
   |some (.lst _)=>wpE W e Z M1 (λy M2=>match M2 a with
    |some (.lst ds)=>ds.length<sizeLine/\D.nx Z (put M2 a (.lst (ds++[y])))
    |_=>False) (E Z)
   |_=>False
  |_=>False) (E Z)
 |.del i,D,_,Z,M=>match Z[i]? with
  |some (some x)=>aX (λy M'=>D.nx (Z.set i (some y)) M') x M
  |_=>False
 |.KY o f e,D,E,Z,M=>wpE W e Z M (λy M1=>wpE W o Z M1 (λx M2=>match x with
  |.ref a=>match M2 a with
   |some (.ins i C ns ds)=>(C=W.b_ i/\i<W.nk/\W.fok i f=true/\ns.length<1000)/\D.nx Z (put M2 a (.ins i C (ca f ns) (bY f y ns ds)))
   |_=>False
  |_=>False) (E Z)) (E Z)
 |.A_ o i e,D,E,Z,M=>wpE W e Z M (λy M1=>wpE W o Z M1 (λx M2=>wpE W i Z M2 (λk M3=>aE x k y M3 λM4=>D.nx Z M4) (E Z)) (E Z)) (E Z)
 |.dead,_,_,_,_=>False
 |.LS tg o body,D,E,Z,M=>wpE W o Z M (λx M1=>uc x M1 λd ks es=>∀φ,eA (wpG tg) (λD Z M=>aR body D (λ_ _ _=>False) Z M) (λM=>M d=some (.J_ φ)) (qG d φ ks es D) (aw ks es) Z (put M1 d (.J_ φ))) (E Z)
def aR:ISs->Ends3->(St3->XN)->St3->MH->Prop
 |.nil,D,_,Z,M=>D.nx Z M
 |.cons s r,D,E,Z,M=>wpS s {D with nx:=λm_ M'=>aR r D E m_ M'} E Z M
end
end
def LkE(K:Ks)(cls:Nat->Addr)(H:Hp)(E3:XN)(E:XK):Prop:=∀i M' H',TM K H H'->RelM K M' H'->E3 i M'->∀dx,XD K H' i dx->E (.ref (cls i.c)) dx H'
def LkS(K:Ks)(cls:Nat->Addr)(H:Hp)(E3:St3->XN)(E2:St->XK):Prop:=∀h_ Z i M' H',TM K H H'->DenS K H' h_ Z->RelM K M' H'->E3 h_ i M'->∀dx,XD K H' i dx->E2 Z (.ref (cls i.c)) dx H'
section
variable {K:Ks}
theorem LkE.mono(h:LkE K cls H E3 E)(t:TM K H H1):LkE K cls H1 E3 E:=λi M' H' t' r q=>h i M' H' (t.trans t') r q
theorem LkS.mono(h:LkS K cls H E3 E2)(t:TM K H H1):LkS K cls H1 E3 E2:=λh_ Z i M' H' t' d r q=>h h_ Z i M' H' (t.trans t') d r q
theorem LkS.at(h:LkS K cls H E3 E2)(ds:DenS K H h_ Z):LkE K cls H (E3 h_) (E2 Z):=λi M' H' t r q=>h h_ Z i M' H' t (ds.mono t) r q
theorem LkE.no:LkE K cls H (λ_ _=>False) E:=λ_ _ _ _ _ h=>h.elim
theorem Back.mono(h:Back K H Q Q2)(t:TM K H H1):Back K H1 Q Q2:=λv H' d M' a b c e=>h v H' d M' a b (t.trans c) e
end
section
variable (K:Ks) (cls:Nat->Addr) (E2:St->XK)
noncomputable def low(t:St3->MH->VK3->XN->Prop):TE:=λZ H Q2=>∃h_ M Q E3,RelM K M H/\DenS K H h_ Z/\LkE K cls H E3 (E2 Z)/\t h_ M Q E3/\Back K H Q Q2
noncomputable def cq(t:St3->MH->(Bool->MH->Prop)->XN->Prop):TT:=λZ H Q2=>∃h_ M Q E3,RelM K M H/\DenS K H h_ Z/\LkE K cls H E3 (E2 Z)/\t h_ M Q E3/\∀b H' M',RelM K M' H'->TM K H H'->Q b M'->Q2 b H'
noncomputable def dY(t:St3->MH->(List D->MH->Prop)->XN->Prop):TA:=λZ H Q2=>∃h_ M Q E3,RelM K M H/\DenS K H h_ Z/\LkE K cls H E3 (E2 Z)/\t h_ M Q E3/\∀vs H' ds M',DenL K H' ds vs->RelM K M' H'->TM K H H'->Q ds M'->Q2 vs H'
noncomputable def ud(t:St3->MH->(Option Int->MH->Prop)->XN->Prop):TO:=λZ H Q2=>∃h_ M Q E3,RelM K M H/\DenS K H h_ Z/\LkE K cls H E3 (E2 Z)/\t h_ M Q E3/\∀o H' M',RelM K M' H'->TM K H H'->Q o M'->Q2 o H'
noncomputable def lq(t:St3->MH->(List D->(MH->Prop)->MH->Prop)->XN->Prop):TI:=λZ H R2=>∃h_ M R E3,RelM K M H/\DenS K H h_ Z/\LkE K cls H E3 (E2 Z)/\t h_ M R E3/\∀J H' ds S M',ItOk K H' J ds S->RelM K M' H'->TM K H H'->R ds S M'->R2 J H'
noncomputable def bH(t:Ends3->(St3->XN)->St3->MH->Prop):TS:=λD2 Z H=>∃h_ M D3 E3,RelM K M H/\DenS K H h_ Z/\LkS K cls H E3 E2/\t D3 E3 h_ M/\ER K H D3 D2
noncomputable def qh(t:D->St3->MH->(St3->MH->Prop)->Prop):TG:=λv Z H Q2=>∃d h_ M Q,Den K H d v/\RelM K M H/\DenS K H h_ Z/\t d h_ M Q/\BackS K H Q Q2
end
section
variable {X:Cx}{st:Stmt}
theorem PE.imp(h:PE X e t)(f:∀Z H Q,t' Z H Q->t Z H Q):PE X e t':=λa_ s Z H Q I q=>h a_ s Z H Q I (f Z H Q q)
theorem PT.imp(h:PT X e t)(f:∀Z H Q,t' Z H Q->t Z H Q):PT X e t':=λa_ s Z H Q I q=>h a_ s Z H Q I (f Z H Q q)
theorem PW.imp(h:PW X e t)(f:∀Z H Q,t' Z H Q->t Z H Q):PW X e t':=λwhole a_ s Z H Q I q=>h whole a_ s Z H Q I (f Z H Q q)
theorem PA.imp(h:PA X es t)(f:∀Z H Q,t' Z H Q->t Z H Q):PA X es t':=λpos a_ s Z H Q I q=>h pos a_ s Z H Q I (f Z H Q q)
theorem PO.imp(h:PO X o t)(f:∀Z H Q,t' Z H Q->t Z H Q):PO X o t':=λa_ s Z H Q I q=>h a_ s Z H Q I (f Z H Q q)
theorem PI.imp(h:PI X tg e t)(f:∀Z H Q,t' Z H Q->t Z H Q):PI X tg e t':=λa_ s Z H Q I q=>h a_ s Z H Q I (f Z H Q q)
theorem PS.imp(h:PS X st t)(f:∀D Z H,t' D Z H->t D Z H):PS X st t':=λa_ s Z H D I q=>h a_ s Z H D I (f D Z H q)
theorem PSs.imp(h:PSs X L1 t)(f:∀D Z H,t' D Z H->t D Z H):PSs X L1 t':=λa_ s Z H D I q=>h a_ s Z H D I (f D Z H q)
theorem PG.imp(h:PG X e t)(f:∀v Z H Q,t' v Z H Q->t v Z H Q):PG X e t':=λa_ s Z H v u Q I r q=>h a_ s Z H v u Q I r (f v Z H Q q)
end
section
variable {X:Cx}{s:Shared}
theorem HOk.freeze(x:HOk P w H h)(e:H a=some (.lst xs)):∃o,HOk P w (upd H a (.t_ o (.lst xs))) h:=by
 obtain⟨o,ho⟩:=(x a _ e).isAt;refine⟨o,λb u q=>?_⟩
 have own:∀c y,H c=some (.own y)->(upd H a (.t_ o (.lst xs))) c=some (.own y):=λc y z=>by
  rw[ae (db z e (λw=>nomatch w))];exact z
 have tup:∀c ys,H c=some (.tup ys)->(upd H a (.t_ o (.lst xs))) c=some (.tup ys):=λc ys z=>by
  rw[ae (db z e (λw=>nomatch w))];exact z
 by_cases hb:b=a
 ·subst hb;rw[ah]at q;cases q;exact⟨ho,(x b _ e).stay (λ_ _ _ q=>q) (λc z=>own c _ z) λc ys z=>tup c ys z⟩
 ·rw[ae hb]at q;exact (x b u q).stay (λ_ _ _ q=>q) (λc z=>own c _ z) λc ys z=>tup c ys z
theorem Inv.freeze(I:Inv X a_ Z H s)(e:H a=some (.lst xs)):∃o,Inv X a_ Z (upd H a (.t_ o (.lst xs))) s:=by
 obtain⟨o,ok⟩:=I.j_.freeze e;have ne:∀b,H b=none->b≠a:=λb z=>λq=>by rw[q,e]at z;cases z
 refine⟨o,⟨I.ok,I.os,I.bare,⟨I.base.keep,I.base.slot,λb ob q n hx=>?_,I.base.there,λb ys q=>?_,λb ob u q=>?_,λb ps q=>?_⟩,I.loc,I.cell,?_,λx c z=>?_,λp hp=>?_,ok,I.len⟩⟩
 ·have z:=I.base.free b ob q n hx;rw[ae (ne b z)];exact z
 ·have z:=I.base.KD b ys q;rw[ae (db z e (λw=>nomatch w))];exact z
 ·have z:=I.base.Kz b ob u q;rw[ae (db z e (λw=>nomatch w))];exact z
 ·obtain⟨Lj,z⟩:=I.base.KJ b ps q;exact⟨Lj,by rw[ae (db z e (λw=>nomatch w))];exact z⟩
 ·rw[ae (ne _ I.free)];exact I.free
 ·rw[ae (ne _ (I.freeC x c z))];exact I.freeC x c z
 ·obtain⟨p1,p2,p3⟩:=I.pin p hp;exact⟨p1,by rw[ae (ne _ p2)];exact p2,p3⟩
end
section
variable {K:Ks}{xs:List V}
theorem TM.freeze(e:H a=some (.lst xs)):TM K H (upd H a (.t_ o (.lst xs))):=
 .put e (λ_=>λz=>nomatch z) λ_ _=>λz=>nomatch z
theorem RelM.freeze(r:RelM K M H)(e:H a=some (.lst xs)):RelM K (del M a) (upd H a (.t_ o (.lst xs))):=λb u q=>by
 obtain⟨ne,q⟩:=nh q;exact (r b u q).stay (.freeze e) (ae ne)
theorem gg(h:DenL K H ds xs)(e:H a=some (.lst xs)):Den K (upd H a (.t_ o (.lst xs))) (.g_ ds) (.ref a):=⟨a,xs,rfl,.inl ⟨o,ah⟩,h.mono (.freeze e)⟩
end
theorem de{X:Cx}
  (I:Inv X a_ Z (upd H p (.lst vs)) s) (hp:H p=none) (dl:DenL X.K H ds vs)(rm:RelM X.K M H)(tm:TM X.K H0 H)(h:dX fz ds M Q)(c_:Back X.K H0 Q Q2):EP X a_ Z Q2 (.ref p) s:=by
 obtain⟨_,h⟩:=h;cases fz with
 |true=>
  rw[Js rfl]at h;obtain⟨o,I2⟩:=I.freeze ah;refine⟨.ref p,_,I2,rfl,c_ _ _ _ _ (gg (o:=o) (dl.mono (.new hp)) ah) ?_ (tm.trans ((TM.new hp).trans (.freeze ah))) h⟩;have r2:RelM X.K (put M p (.lst ds)) (upd H p (.lst vs)):=rm.lay hp ⟨vs,ah,dl.mono (.new hp)⟩;have r3:=r2.freeze (o:=o) (xs:=vs) ah;rw[gY (rm.fresh hp)]at r3;exact r3
 |false=>
  rw[Jm JH]at h;exact⟨.ref p,_,I,rfl,c_ _ _ _ _ jk (rm.lay (u:=.lst ds) hp ⟨vs,ah,dl.mono (.new hp)⟩) (tm.trans (.new hp)) (h p (rm.fresh hp))⟩
def RdL(K:Ks)(H:Hp)(p:Addr)(vs:List V):Prop:=Rd H p (.lst vs)\/SqM K p vs
theorem RdL.sq{K:Ks}(h:RdL K H p vs):SqL K H p vs:=by
 rcases h with h|h
 ·exact .inl h
 ·exact h.sq
theorem SqF.rd{K:Ks}(h:SqF K H p vs):RdL K H p vs:=by
 rcases h with h|h
 ·exact .inl (.inr h)
 ·exact .inr h
theorem bj{K:Ks}(rm:RelM K M H)(h:am M x=some ds)(dv:Den K H x v):∃p vs,v=.ref p/\RdL K H p vs/\DenL K H ds vs:=by
 cases x with
 |g_ es=>
  cases (show es=ds from JE h);obtain⟨p,vs,e,s,l⟩:=dv;exact⟨p,vs,e,s.rd,l⟩
 |ref a=>
  have h:(match M a with|some (.lst ds)=>some ds|_=>none)=some ds:=h
  split at h
  next es q=>
   cases h;obtain⟨vs,e,l⟩:=rm a _ q;exact⟨a,vs,dv,.inl (.inl e),l⟩
  next=>cases h
 |_=>cases h
theorem iH{K:Ks}(rm:RelM K M H)(h:ax M x=some ds)(dv:Den K H x v):∃p vs,v=.ref p/\(SqL K H p vs\/SqT K H p vs)/\DenL K H ds vs:=by
 cases x with
 |tup es=>
  cases (show es=ds from JE h);obtain⟨p,vs,e,s,l⟩:=dv;exact⟨p,vs,e,.inr s,l⟩
 |g_ es=>obtain⟨p,vs,e,s,l⟩:=bj rm (show am M (.g_ es)=some ds from h) dv;exact⟨p,vs,e,.inl s.sq,l⟩
 |ref a=>obtain⟨p,vs,e,s,l⟩:=bj rm (show am M (.ref a)=some ds from h) dv;exact⟨p,vs,e,.inl s.sq,l⟩
 |_=>cases h
theorem Inv.rdL{X:Cx}{s:Shared}{xs:List V}(I:Inv X a_ Z H s)(h:RdL X.K H l xs):xs.length<=sizeLine/\∃(its:List Value) (n:Nat),Vals xs its/\xs.length=its.length/\s.heap.get? l=some {cls:=.type "list",data:=.seq its.toArray n}:=by
 rcases h with h|⟨its,n,e,z,r⟩
 ·obtain⟨z,its,n,r,e⟩:=h.ok I.j_;exact⟨z,its,n,r,r.length,e⟩
 ·exact⟨by rw[r.length];exact z,its,n,r,r.length,I.kIn _ _ e⟩
noncomputable def va:HO->Bool
 |.lst _=>true
 |.dK _=>true
 |.dT _=>true
 |.ins _ _ _=>true
 |.ext _=>true
 |_=>false
theorem ml(h:va u=true):(∀y,HO.own y≠u)/\(∀xs,HO.tup xs≠u)/\(∀o v,HO.t_ o v≠u)/\∀ps,HO.Md ps≠u:=by
 cases u<;>first
  |(cases h;done)
  |exact⟨λ_ z=>(by cases z),λ_ z=>(by cases z),λ_ _ z=>(by cases z),λ_ z=>(by cases z)⟩
section
variable {X:Cx}
theorem HOk.frzU(x:HOk P w H h)(e:H a=some u)(hu:va u=true):∃o,HOk P w (upd H a (.t_ o u)) h:=by
 obtain⟨n1,n2,_,_⟩:=ml hu;obtain⟨o,ho⟩:=(x a _ e).isAt;refine⟨o,λb v q=>?_⟩
 have own:∀c y,H c=some (.own y)->(upd H a (.t_ o u)) c=some (.own y):=λc y z=>by
  rw[ae (db z e (n1 y))];exact z
 have tup:∀c ys,H c=some (.tup ys)->(upd H a (.t_ o u)) c=some (.tup ys):=λc ys z=>by
  rw[ae (db z e (n2 ys))];exact z
 by_cases hb:b=a
 ·subst hb;rw[ah]at q;cases q;exact⟨ho,(x b _ e).stay (λ_ _ _ q=>q) (λc z=>own c _ z) λc ys z=>tup c ys z⟩
 ·rw[ae hb]at q;exact (x b v q).stay (λ_ _ _ q=>q) (λc z=>own c _ z) λc ys z=>tup c ys z
theorem Inv.frzU(I:Inv X a_ Z H s)(e:H a=some u)(hu:va u=true):∃o,Inv X a_ Z (upd H a (.t_ o u)) s:=by
 obtain⟨n1,n2,n3,n4⟩:=ml hu;obtain⟨o,ok⟩:=I.j_.frzU e hu;have ne:∀b,H b=none->b≠a:=λb z=>λq=>by rw[q,e]at z;cases z
 refine⟨o,⟨I.ok,I.os,I.bare,⟨I.base.keep,I.base.slot,λb ob q n hx=>?_,I.base.there,λb ys q=>?_,λb ob u q=>?_,λb ps q=>?_⟩,I.loc,I.cell,?_,λx c z=>?_,λp hp=>?_,ok,I.len⟩⟩
 ·have z:=I.base.free b ob q n hx;rw[ae (ne b z)];exact z
 ·have z:=I.base.KD b ys q;rw[ae (db z e (n2 _))];exact z
 ·have z:=I.base.Kz b ob u q;rw[ae (db z e (n3 _ _))];exact z
 ·obtain⟨Lj,z⟩:=I.base.KJ b ps q;exact⟨Lj,by rw[ae (db z e (n4 _))];exact z⟩
 ·rw[ae (ne _ I.free)];exact I.free
 ·rw[ae (ne _ (I.freeC x c z))];exact I.freeC x c z
 ·obtain⟨p1,p2,p3⟩:=I.pin p hp;exact⟨p1,by rw[ae (ne _ p2)];exact p2,p3⟩
end
section
variable {K:Ks}
theorem TM.frzU(e:H a=some u)(hu:va u=true):TM K H (upd H a (.t_ o u)):=by
 obtain⟨_,n2,n3,_⟩:=ml hu;exact .put e (λxs z=>n2 xs z.symm) λob v z=>n3 ob v z.symm
theorem RelM.frzU(r:RelM K M H)(e:H a=some u)(hu:va u=true):RelM K (del M a) (upd H a (.t_ o u)):=λb v q=>by
 obtain⟨ne,q⟩:=nh q;exact (r b v q).stay (.frzU e hu) (ae ne)
end
noncomputable def fzD:DO->D
 |.lst ds=>.g_ ds
 |.dk ks ds=>.Ln ks ds
 |.dt ks ds=>.Kv ks ds
 |.ins i C ns ds=>.obj i C ns ds
 |.exc _ _=>.i_
 |.J_ _=>.i_
theorem eB{X:Cx}(I:Inv X a_ Z H s)(rm:RelM X.K M H)(e:M a=some o)(ho:(∀i c,o≠.exc i c)/\∀φ,o≠.J_ φ) :
  ∃H',Inv X a_ Z H' s/\TM X.K H H'/\RelM X.K (del M a) H'/\Den X.K H' (fzD o) (.ref a):=by
 cases o with
 |lst ds=>
  obtain⟨vs,e1,dl⟩:=rm a _ e;obtain⟨ob,I2⟩:=I.frzU e1 rfl;exact⟨_,I2,.frzU e1 rfl,rm.frzU e1 rfl,a,vs,rfl,.inl ⟨ob,ah⟩,dl.mono (.frzU e1 rfl)⟩
 |dk ks ds=>
  obtain⟨vs,e1,hl,dl⟩:=rm a _ e;obtain⟨ob,I2⟩:=I.frzU e1 rfl;exact⟨_,I2,.frzU e1 rfl,rm.frzU e1 rfl,a,vs,ob,rfl,ah,hl,dl.mono (.frzU e1 rfl)⟩
 |dt ks ds=>
  obtain⟨vs,xs,e1,z,dl⟩:=rm a _ e;obtain⟨ob,I2⟩:=I.frzU e1 rfl;have t:TM X.K H (upd H a (.t_ ob (.ext (aB a xs)))):=.frzU e1 rfl;exact⟨_,I2,t,rm.frzU e1 rfl,a,vs,ob,xs,rfl,ah,⟨z.kx,z.nd,z.sz,z.no,z.vx,λx hx=>t.t _ _ (z.at_ x hx)⟩,dl.mono t⟩
 |ins i C ns ds=>
  obtain⟨dx,vs,e1,hl,dl⟩:=rm a _ e;obtain⟨ob,I2⟩:=I.frzU e1 rfl;exact⟨_,I2,.frzU e1 rfl,rm.frzU e1 rfl,a,vs,ob,dx,rfl,ah,hl,dl.mono (.frzU e1 rfl)⟩
 |exc i c=>exact absurd rfl (ho.1 i c)
 |J_ φ=>exact absurd rfl (ho.2 φ)
theorem fX{X:Cx}:∀{ds:List D}{vs:List V}{H:Hp}{M:MH}{R:List D->MH->Prop},Inv X a_ Z H s->RelM X.K M H->DenL X.K H ds vs->d4 ds M R->
  ∃H' M' r,Inv X a_ Z H' s/\TM X.K H H'/\RelM X.K M' H'/\DenL X.K H' r vs/\R r M'
 |[],vs,H,M,R,I,rm,dl,h=>⟨H,M,[],I,.refl _,rm,dl,h⟩
 |d::ds,_,H,M,R,I,rm,dl,h=>by
  obtain⟨v,r,rfl,dv,dl⟩:=dl;have keep:∀(d:D),Den X.K H d v->d4 ds M (λr M'=>R (d::r) M')->∃H' M' r',Inv X a_ Z H' s/\TM X.K H H'/\RelM X.K M' H'/\DenL X.K H' r' (v::r)/\R r' M':=λd dv h=>by
   obtain⟨H',M',r',I',t,r_,MK,q⟩:=fX I rm dl h;exact⟨H',M',d::r',I',t,r_,.cons (dv.mono t) MK,q⟩
  have fz:∀(a:Addr)(o:DO),v=.ref a->M a=some o->((∀i c,o≠.exc i c)/\∀φ,o≠.J_ φ)->d4 ds (del M a) (λr M'=>R (fzD o::r) M')->∃H' M' r',Inv X a_ Z H' s/\TM X.K H H'/\RelM X.K M' H'/\DenL X.K H' r' (v::r)/\R r' M':=λa o e eM ne h=>by
   subst e;obtain⟨H1,I1,t1,o_,d1⟩:=eB I rm eM ne;obtain⟨H',M',r',I',t,r_,MK,q⟩:=fX I1 o_ (dl.mono t1) h;exact⟨H',M',_::r',I',t1.trans t,r_,.cons (d1.mono t) MK,q⟩
  cases d with
  |ref a=>
   simp only[d4]at h;have e:v=.ref a:=dv;split at h
   ·rename_i es q;exact fz a (.lst es) e q ⟨(λ_ _ z=>nomatch z),(λ_ z=>nomatch z)⟩ h
   ·rename_i ks es q;exact fz a (.dk ks es) e q ⟨(λ_ _ z=>nomatch z),(λ_ z=>nomatch z)⟩ h
   ·rename_i ks es q;exact fz a (.dt ks es) e q ⟨(λ_ _ z=>nomatch z),(λ_ z=>nomatch z)⟩ h
   ·exact keep _ dv h
  |_=>exact keep _ dv (by simpa only[d4] using h)
theorem jm{X:Cx}(I:Inv X a_ Z H s)(rm:RelM X.K M H)(dx:Den X.K H x v)(h:aX Q x M) :
  ∃H' M' d,Inv X a_ Z H' s/\TM X.K H H'/\RelM X.K M' H'/\Den X.K H' d v/\Q d M':=by
 unfold aX at h;split at h
 ·rename_i a;cases (show v=.ref a from dx);split at h
  ·rename_i es q;obtain⟨H1,I1,t1,o_,d1⟩:=eB (o:=.lst es) I rm q ⟨(λ_ _ z=>nomatch z),(λ_ z=>nomatch z)⟩
   exact⟨H1,_,_,I1,t1,o_,d1,h⟩
  ·rename_i ks es q;obtain⟨H1,I1,t1,o_,d1⟩:=eB (o:=.dk ks es) I rm q ⟨(λ_ _ z=>nomatch z),(λ_ z=>nomatch z)⟩
   exact⟨H1,_,_,I1,t1,o_,d1,h⟩
  ·rename_i ks es q;obtain⟨H1,I1,t1,o_,d1⟩:=eB (o:=.dt ks es) I rm q ⟨(λ_ _ z=>nomatch z),(λ_ z=>nomatch z)⟩
   exact⟨H1,_,_,I1,t1,o_,d1,h⟩
  ·rename_i i C ns es q;obtain⟨H1,I1,t1,o_,d1⟩:=eB (o:=.ins i C ns es) I rm q ⟨(λ_ _ z=>nomatch z),(λ_ z=>nomatch z)⟩
   obtain⟨a',vs,ob,Lz,e',he,hl,dl⟩:=d1;cases e';obtain⟨H2,M2,r,I2,t2,H_,K6,q2⟩:=fX I1 o_ dl h;refine⟨H2,M2,.obj i C ns r,I2,t1.trans t2,H_,?_,q2⟩;exact⟨a,vs,ob,Lz,rfl,t2.g _ _ _ he,hl,K6⟩
  ·exact h.elim
 ·exact h.elim
end L2
namespace L2
open PySem PySem.Spec PySem.Calls PyProof.Rows
section
variable {X:Cx}{D:Addr}
end
end L2
namespace L2
open PySem PySem.Spec PyProof.Rows
section
variable {X:Cx}
theorem jU:∀{xs ys:List D},cH xs ys=true->xs.length=ys.length
 |[],[],_=>rfl
 |[],_::_,h=>by simp[cH]at h
 |_::_,[],h=>by simp[cH]at h
 |x::xs,y::ys,h=>by
  simp only[cH,Jj]at h;rw[Jx,Jx,jU h.2]
theorem fK:∀{xs ys:List D},xs.length=ys.length->cH xs ys=(List.range xs.length).all λj=>eqD (xs.getD j .i_) (ys.getD j .i_)
 |[],[],_=>by simp[cH]
 |[],_::_,h=>by simp at h
 |_::_,[],h=>by simp at h
 |x::xs,y::ys,h=>by
  have ih:=fK (xs:=xs) (ys:=ys) (by simpa using h)
  simp only[cH,Jx,List.range_succ_eq_map,List.all_cons,List.all_map,ih];rfl
theorem xl{xs ys:List D}:cH xs ys=((List.range (min xs.length ys.length)).all (λj=>eqD (xs.getD j .i_) (ys.getD j .i_))&&(xs.length == ys.length)):=by
 by_cases h:xs.length=ys.length
 ·rw[fK h,h,Nat.min_self,beq_self_eq_true,Bool.and_true]
 ·have e1:(xs.length == ys.length)=false:=JP.mpr h;rw[e1,Bool.and_false];cases q:cH xs ys with
  |false=>rfl
  |true=>exact absurd (jU q) h
theorem mW{K:Ks}(I:Inv X a_ Z H s)(hK:K=X.K):∀(n:Nat) {x y:D}{v:V},plN n x=true->plN n y=true->Den K H x v->Den K H y v->x=y:=by
 subst hK;have lists:∀(n:Nat),(∀{x y:D}{v:V},plN n x=true->plN n y=true->Den X.K H x v->Den X.K H y v->x=y)->∀{xs ys:List D}{vs:List V},xs.all (plN n)=true->ys.all (plN n)=true->DenL X.K H xs vs->DenL X.K H ys vs->xs=ys:=by
  intro n ih xs
  induction xs with
  |nil=>
   intro ys vs _ _ h1 h2;cases (show vs=[] from h1);cases ys with
   |nil=>rfl
   |cons y ys=>obtain⟨_,_,e,_⟩:=h2;cases e
  |cons x xs PR=>
   intro ys vs p1 p2 h1 h2;obtain⟨v,r,rfl,d1,l1⟩:=h1;cases ys with
   |nil=>cases (show v::r=[] from h2)
   |cons y ys=>
    obtain⟨v',r',e,d2,l2⟩:=h2;cases e;simp only[List.all_cons,Jj]at p1 p2;rw[ih p1.1 p2.1 d1 d2,PR p1.2 p2.2 l1 l2]
 have ML:∀{p:Addr}{vs ws:List V},SqT X.K H p vs->SqF X.K H p ws->False:=λ{p vs ws} h1 h2=>by
  obtain⟨its,_,t1,_⟩:=I.tuple h1;obtain⟨z,s_,n2,_,_,e2⟩:=I.rdL h2.rd;obtain⟨o,e1,c1,_⟩:=(show s.heap.IsTuple p its.toArray from t1);rw[e2]at e1;cases e1;injection c1 with z;exact absurd z (by decide)
 have tt:∀{p:Addr}{vs ws:List V},SqT X.K H p vs->SqT X.K H p ws->vs=ws:=λ{p vs ws} q1 q2=>by
  obtain⟨its,r1,t1,_⟩:=I.tuple q1;obtain⟨s_,r2,t2,_⟩:=I.tuple q2;obtain⟨o1,e1,c1,n1,f1⟩:=(show s.heap.IsTuple p its.toArray from t1);obtain⟨o2,e2,c2,n2,f2⟩:=(show s.heap.IsTuple p s_.toArray from t2);rw[e1]at e2;cases e2;rw[f1]at f2;have:its=s_:=by injection f2 with z;simpa using z
  subst this;exact r1.inj r2
 have ff:∀{p:Addr}{vs ws:List V},SqF X.K H p vs->SqF X.K H p ws->vs=ws:=λ{p vs ws} q1 q2=>by
  obtain⟨_,its,n1,r1,_,e1⟩:=I.rdL q1.rd;obtain⟨_,s_,n2,r2,_,e2⟩:=I.rdL q2.rd;rw[e1]at e2;have:its=s_:=by
   have z:=JE e2;injection z with z1 z2 z3 z4
   injection z3 with z5 z6
   simpa using z5
  subst this;exact r1.inj r2
 intro n
 induction n with
 |zero=>
  intro x y v p1 p2 d1 d2;cases x<;>cases y<;>first|(cases p1;done)|(cases p2;done)|(cases (show v=_ from d1);cases (show _=_ from d2)<;>rfl)
 |succ n ih=>
  intro x y v p1 p2 d1 d2;cases x<;>cases y<;>first|(cases p1;done)|(cases p2;done)|(cases (show v=_ from d1);cases (show _=_ from d2)<;>rfl)|(cases (show v=_ from d1);obtain⟨_,_,e,_⟩:=d2;cases e;done)|(obtain⟨_,_,rfl,_⟩:=d1;cases (show _=_ from d2);done)|(obtain⟨p,vs,rfl,q1,l1⟩:=d1;obtain⟨p',Lo,e,q2,l2⟩:=d2;cases e;first|exact (ML q1 q2).elim|exact (ML q2 q1).elim|(first|cases tt q1 q2|cases ff q1 q2);rw[lists n ih (by simpa [plN] using p1) (by simpa [plN] using p2) l1 l2])
theorem gu:∀(n:Nat) {x:D},plN n x=true->eqD x x=true:=by
 have lists:∀(n:Nat),(∀{x:D},plN n x=true->eqD x x=true)->∀{xs:List D},xs.all (plN n)=true->cH xs xs=true:=by
  intro n ih xs
  induction xs with
  |nil=>intro _;rfl
  |cons x xs PR=>
   intro h;simp only[List.all_cons,Jj]at h;simp only[cH,Jj];exact⟨ih h.1,PR h.2⟩
 intro n
 induction n with
 |zero=>exact λ{x} h=>by cases x<;>first|(cases h;done)|simp[eqD]
 |succ n ih=>exact λ{x} h=>by cases x<;>first|(cases h;done)|(simp only[eqD];exact lists n ih (by simpa [plN] using h))|simp[eqD]
theorem oZ{K:Ks}(I:Inv X a_ Z H s)(hK:K=X.K)(n:Nat)(p1:plN n x=true)(p2:plN n y=true)(d1:Den K H x v)(d2:Den K H y v):eqD x y=true:=by
 rw[mW I hK n p1 p2 d1 d2];exact gu n p2
theorem Aw(a b:Bool):eqD (.bl a) (.bl b)=(a == b):=by simp[eqD]
theorem A6(a:Bool)(b:Int):eqD (.bl a) (.int b)=((if a then 1 else 0) == b):=by simp[eqD];rfl
theorem A4(a:Int)(b:Bool):eqD (.int a) (.bl b)=(a == (if b then 1 else 0)):=by simp[eqD];rfl
theorem BO(a b:Int):eqD (.int a) (.int b)=(a == b):=by simp[eqD];rfl
theorem CK(a b:Str):eqD (.str a) (.str b)=(a == b):=by simp[eqD];rfl
abbrev Eq3(A:Around)(s:Shared)(v u:Value)(k:Bool):Prop:=SeqAt.RcAt A s v u k/\SeqAt.RcNeAt A s v u (!k)/\SeqAt.EqAt A s v u k
inductive Seen (s:Shared):D->Value->Prop where
 |i_:Seen s .i_ .none
 |bl (b:Bool):Seen s (.bl b) (.bool b)
 |int (i:Int) (t:Tok):Seen s (.int i) (.int i t)
 |str (x:Str) (t:Tok):Seen s (.str x) (.str x t)
 |tup {ds:List D}{p:Addr}{its:List Value} (h:s.heap.IsTuple p its.toArray):Seen s (.tup ds) (.ref p)
 |g_ {ds:List D}{p:Addr}{its:List Value} (h:s.heap.IsList p its.toArray):Seen s (.g_ ds) (.ref p)
theorem jh{X:Cx}(I:Inv X a_ Z H s)(p:plN n x=true)(d:Den X.K H x v)(r:RelV v v2):Seen s x v2:=by
 cases x with
 |i_=>cases (show v=.i_ from d);cases r;exact .i_
 |bl b=>cases (show v=.bl b from d);cases r;exact .bl b
 |int i=>cases (show v=.int i from d);obtain⟨t,rfl⟩:=r;exact .int i t
 |str i=>cases (show v=.str i from d);obtain⟨t,rfl⟩:=r;exact .str i t
 |tup ds=>
  obtain⟨q,vs,rfl,sq,_⟩:=d;cases r;obtain⟨its,_,t,_⟩:=I.tuple sq;exact .tup (its:=its) t
 |g_ ds=>
  obtain⟨q,vs,rfl,sq,_⟩:=d;cases r;obtain⟨its,_,t,_⟩:=I.list sq.sq;exact .g_ (its:=its) t.isList
 |ref a=>simp[plN]at p
 |obj _ _ _ _=>simp[plN]at p
 |Ln _ _=>simp[plN]at p
 |Kv _ _=>simp[plN]at p
theorem uS{A:Around}(hx:Seen s x v)(hy:Seen s y u)(hu:A.units<cLine)(seq:∀ds es,(x=.tup ds/\y=.tup es)\/(x=.g_ ds/\y=.g_ es)->Eq3 A s v u (eqD x y)):Eq3 A s v u (eqD x y):=by
 cases hx with
 |i_=>
  cases hy with
  |i_=>exact⟨.none_none,.none_none,.same _⟩
  |bl b=>exact⟨.none_bool b,.none_bool b,.none_bool b⟩
  |int b tb=>exact⟨.none_int b tb,.none_int b tb,.none_int b tb⟩
  |str b tb=>exact⟨.none_str b tb,.none_str b tb,.none_str b tb⟩
  |@tup es p2 s_ h2=>exact⟨.none_tuple h2 hu,.none_tuple h2 hu,.none_tuple h2 hu⟩
  |@g_ es p2 s_ h2=>exact⟨.none_list h2 hu,.none_list h2 hu,.none_list h2 hu⟩
 |bl a=>
  cases hy with
  |i_=>exact⟨.bool_none a,.bool_none a,.bool_none a⟩
  |bl b=>rw[Aw];exact⟨.bool_bool a b,.bool_bool a b,.bool_bool a b⟩
  |int b tb=>rw[A6];exact⟨.bool_int a b tb,.bool_int a b tb,.bool_int a b tb⟩
  |str b tb=>exact⟨.bool_str a b tb,.bool_str a b tb,.bool_str a b tb⟩
  |@tup es p2 s_ h2=>exact⟨.bool_tuple a h2 hu,.bool_tuple a h2 hu,.bool_tuple a h2 hu⟩
  |@g_ es p2 s_ h2=>exact⟨.bool_list a h2 hu,.bool_list a h2 hu,.bool_list a h2 hu⟩
 |int a ta=>
  cases hy with
  |i_=>exact⟨.int_none a ta,.int_none a ta,.int_none a ta⟩
  |bl b=>rw[A4];exact⟨.int_bool a ta b,.int_bool a ta b,.int_bool a ta b⟩
  |int b tb=>rw[BO];exact⟨.int_int a ta b tb,.int_int a ta b tb,.int_int a ta b tb⟩
  |str b tb=>exact⟨.int_str a ta b tb,.int_str a ta b tb,.int_str a ta b tb⟩
  |@tup es p2 s_ h2=>exact⟨.int_tuple a ta h2 hu,.int_tuple a ta h2 hu,.int_tuple a ta h2 hu⟩
  |@g_ es p2 s_ h2=>exact⟨.int_list a ta h2 hu,.int_list a ta h2 hu,.int_list a ta h2 hu⟩
 |str a ta=>
  cases hy with
  |i_=>exact⟨.str_none a ta,.str_none a ta,.str_none a ta⟩
  |bl b=>exact⟨.str_bool a ta b,.str_bool a ta b,.str_bool a ta b⟩
  |int b tb=>exact⟨.str_int a ta b tb,.str_int a ta b tb,.str_int a ta b tb⟩
  |str b tb=>rw[CK];exact⟨.str_str a ta b tb,.str_str a ta b tb,.str_str a ta b tb⟩
  |@tup es p2 s_ h2=>exact⟨.str_tuple a ta h2 hu,.str_tuple a ta h2 hu,.str_tuple a ta h2 hu⟩
  |@g_ es p2 s_ h2=>exact⟨.str_list a ta h2 hu,.str_list a ta h2 hu,.str_list a ta h2 hu⟩
 |@tup ds p its h=>
  cases hy with
  |i_=>exact⟨.tuple_none h hu,.tuple_none h hu,.tuple_none h hu⟩
  |bl b=>exact⟨.tuple_bool b h hu,.tuple_bool b h hu,.tuple_bool b h hu⟩
  |int b tb=>exact⟨.tuple_int b tb h hu,.tuple_int b tb h hu,.tuple_int b tb h hu⟩
  |str b tb=>exact⟨.tuple_str b tb h hu,.tuple_str b tb h hu,.tuple_str b tb h hu⟩
  |@tup es p2 s_ h2=>exact seq ds es (.inl ⟨rfl,rfl⟩)
  |@g_ es p2 s_ h2=>exact⟨.tuple_list h h2 hu,.tuple_list h h2 hu,.tuple_list h h2 hu⟩
 |@g_ ds p its h=>
  cases hy with
  |i_=>exact⟨.list_none h hu,.list_none h hu,.list_none h hu⟩
  |bl b=>exact⟨.list_bool b h hu,.list_bool b h hu,.list_bool b h hu⟩
  |int b tb=>exact⟨.list_int b tb h hu,.list_int b tb h hu,.list_int b tb h hu⟩
  |str b tb=>exact⟨.list_str b tb h hu,.list_str b tb h hu,.list_str b tb h hu⟩
  |@tup es p2 s_ h2=>exact⟨.list_tuple h h2 hu,.list_tuple h h2 hu,.list_tuple h h2 hu⟩
  |@g_ es p2 s_ h2=>exact seq ds es (.inr ⟨rfl,rfl⟩)
theorem CC{K:Ks}(I:Inv X a_ Z H s)(hK:K=X.K):∀(n:Nat) {A:Around}{x y:D}{v u:V}{v2 u2:Value},plN n x=true->plN n y=true->Den K H x v->Den K H y u->RelV v v2->RelV u u2->A.units+n<cLine->
  Eq3 A s v2 u2 (eqD x y):=by
 subst hK;have items:∀(n:Nat),(∀{A:Around}{x y:D}{v u:V}{v2 u2:Value},plN n x=true->plN n y=true->Den X.K H x v->Den X.K H y u->RelV v v2->RelV u u2->A.units+n<cLine->
   Eq3 A s v2 u2 (eqD x y))->∀{A:Around}{xs ys:List D}{vs us:List V}{its s_:List Value},xs.all (plN n)=true->ys.all (plN n)=true->DenL X.K H xs vs->DenL X.K H ys us->Vals vs its->Vals us s_->A.units+(n+1)<cLine->
   ∀j (h1:j<its.toArray.size)(h2:j<s_.toArray.size),SeqAt.EqAt A.in1 s its.toArray[j] s_.toArray[j] (eqD (xs.getD j .i_) (ys.getD j .i_)):=by
  intro n ih A xs ys vs us its s_ p1 p2 l1 l2 r1 r2 hu j h1 h2;have h1:j<its.length:=by simpa using h1
  have h2:j<s_.length:=by simpa using h2
  have hx:j<xs.length:=by rw[l1.length,r1.length];exact h1
  have hy:j<ys.length:=by rw[l2.length,r2.length];exact h2
  obtain⟨v,e1,d1⟩:=l1.get (i:=j) (d:=xs[j]) (by simp[hx])
  obtain⟨u,e2,d2⟩:=l2.get (i:=j) (d:=ys[j]) (by simp[hy])
  obtain⟨v2,e3,rv⟩:=r1.get e1;obtain⟨u2,e4,ru⟩:=r2.get e2;rw[show its.toArray[j]=v2 by simpa [h1] using e3,show s_.toArray[j]=u2 by simpa [h2] using e4,show xs.getD j .i_=xs[j] by simp[hx],show ys.getD j .i_=ys[j] by simp[hy]]
  exact (ih (JD.mp p1 _ (J9 hx)) (JD.mp p2 _ (J9 hy)) d1 d2 rv ru (by show A.units+1+n<cLine;omega)).2.2
 intro n
 induction n with
 |zero=>
  intro A x y v u v2 u2 p1 p2 d1 d2 r1 r2 hu;refine uS (jh I p1 d1 r1) (jh I p2 d2 r2) (by omega) λds es z=>?_
  rcases z with ⟨rfl,rfl⟩|⟨rfl,rfl⟩<;>cases p1
 |succ n ih=>
  intro A x y v u v2 u2 p1 p2 d1 d2 r1 r2 hu;refine uS (jh I p1 d1 r1) (jh I p2 d2 r2) (by omega) λds es z=>?_
  rcases z with ⟨rfl,rfl⟩|⟨rfl,rfl⟩
  ·obtain⟨p,vs,rfl,q1,l1⟩:=id d1;obtain⟨p',us,rfl,q2,l2⟩:=id d2;cases r1;cases r2;obtain⟨its,v1,t1,_⟩:=I.tuple q1;obtain⟨s_,v2,t2,_⟩:=I.tuple q2;have he:=items n ih (A:=A) (by simpa [plN] using p1) (by simpa [plN] using p2) l1 l2 v1 v2 hu
   have ee:eqD (.tup ds) (.tup es)=((List.range (min its.toArray.size s_.toArray.size)).all (λj=>eqD (ds.getD j .i_) (es.getD j .i_))&&its.toArray.size == s_.toArray.size):=by
    simp only[eqD];rw[xl,l1.length,v1.length,l2.length,v2.length];rfl
   have rc:=SeqAt.RcAt.tuples (A:=A) t1 t2 (by omega) he
   rw[<-ee]at rc;have rn:=SeqAt.RcNeAt.tuples (A:=A) t1 t2 (by omega) he
   rw[<-ee]at rn;refine⟨rc,rn,?_⟩;by_cases hp:p=p'
   ·subst hp;rw[oZ I rfl (n+1) p1 p2 d1 d2];exact .same _
   ·exact .of_refs hp rc
  ·obtain⟨p,vs,rfl,q1,l1⟩:=id d1;obtain⟨p',us,rfl,q2,l2⟩:=id d2;cases r1;cases r2;obtain⟨its,v1,t1,_⟩:=I.list q1.sq;obtain⟨s_,v2,t2,_⟩:=I.list q2.sq;have he:=items n ih (A:=A) (by simpa [plN] using p1) (by simpa [plN] using p2) l1 l2 v1 v2 hu
   have PU:SeqAt.RcAt A s (.ref p) (.ref p') (eqD (.g_ ds) (.g_ es))/\SeqAt.RcNeAt A s (.ref p) (.ref p') (!eqD (.g_ ds) (.g_ es)):=by
    by_cases hl:its.toArray.size=s_.toArray.size
    ·have ee:eqD (.g_ ds) (.g_ es)=(List.range its.toArray.size).all λj=>eqD (ds.getD j .i_) (es.getD j .i_):=by
      have e1:ds.length=es.length:=by rw[l1.length,v1.length,l2.length,v2.length];simpa using hl
      simp only[eqD];rw[fK e1,l1.length,v1.length];rfl
     rw[ee];exact⟨.lists t1.isList t2.isList hl (by omega) he,.lists t1.isList t2.isList hl (by omega) he⟩
    ·have ee:eqD (.g_ ds) (.g_ es)=false:=by
      simp only[eqD];cases q:cH ds es with
      |false=>rfl
      |true=>
       have:=jU q;rw[l1.length,v1.length,l2.length,v2.length]at this;exact absurd (by simpa using this) hl
     rw[ee];exact⟨.lists_lengths t1.isList t2.isList (by simpa using hl) (by omega),.lists_lengths t1.isList t2.isList (by simpa using hl) (by omega)⟩
   refine⟨PU.1,PU.2,?_⟩;by_cases hp:p=p'
   ·subst hp;rw[oZ I rfl (n+1) p1 p2 d1 d2];exact .same _
   ·exact .of_refs hp PU.1
end
def VO(X:Cx)(f:Value->Value->Sem Value)(r:D->D->MH->VK3->Prop):Prop:=
 ∀(a_:List (Addr×Obj)) (s:Shared)(Z:St)(H:Hp)(x y:D)(v u:V)(v2 u2:Value)(M:MH)(Q:VK3)(Q2:VK),Inv X a_ Z H s->RelV v v2->RelV u u2->Den X.K H x v->Den X.K H y u->RelM X.K M H->r x y M Q->Back X.K H Q Q2->
  wpAny (model X.prog X.w) X.A (f v2 u2) (EP X a_ Z Q2) X.xe s
def VU(X:Cx)(f:Value->Sem Value)(r:D->MH->VK3->Prop):Prop:=
 ∀(a_:List (Addr×Obj)) (s:Shared)(Z:St)(H:Hp)(x:D)(v:V)(v2:Value)(M:MH)(Q:VK3)(Q2:VK),Inv X a_ Z H s->RelV v v2->Den X.K H x v->RelM X.K M H->r x M Q->Back X.K H Q Q2->
  wpAny (model X.prog X.w) X.A (f v2) (EP X a_ Z Q2) X.xe s
def VC(X:Cx)(f:Value)(r:List D->MH->VK3->Prop):Prop:=
 ∀(a_:List (Addr×Obj)) (s:Shared)(Z:St)(H:Hp)(xs:List D)(vs:List V)(us:List Value)(M:MH)(Q:VK3)(Q2:VK),Inv X a_ Z H s->Vals vs us->DenL X.K H xs vs->RelM X.K M H->r xs M Q->Back X.K H Q Q2->
  wpAny (model X.prog X.w) X.A (call f us) (EP X a_ Z Q2) X.xe s
section
variable {X:Cx}
theorem VO.of3(h:Op3 X f r):VO X f r:=by
 obtain⟨r2,h2,hl⟩:=h;exact λa_ s Z H x y v u v2 u2 M Q Q2 I rv ru dx dy rm q c_=>h2 a_ s Z H v u v2 u2 Q2 I rv ru (hl H x y v u M Q Q2 dx dy rm q c_)
theorem VU.of3(h:Un3 X f r):VU X f r:=by
 obtain⟨r2,h2,hl⟩:=h;exact λa_ s Z H x v v2 M Q Q2 I rv dx rm q c_=>h2 a_ s Z H v v2 Q2 I rv (hl H x v M Q Q2 dx rm q c_)
theorem VC.of3(h:o6 X f r):VC X f r:=by
 obtain⟨r2,h2,hl⟩:=h;exact λa_ s Z H xs vs us M Q Q2 I rv dx rm q c_=>h2 a_ s Z H vs us Q2 I rv (hl H xs vs M Q Q2 dx rm q c_)
theorem VO.imp(h:VO X f r)(g:∀x y M Q,r' x y M Q->r x y M Q):VO X f r':=
 λa_ s Z H x y v u v2 u2 M Q Q2 I rv ru dx dy rm q c_=>h a_ s Z H x y v u v2 u2 M Q Q2 I rv ru dx dy rm (g x y M Q q) c_
theorem VU.imp(h:VU X f r)(g:∀x M Q,r' x M Q->r x M Q):VU X f r':=
 λa_ s Z H x v v2 M Q Q2 I rv dx rm q c_=>h a_ s Z H x v v2 M Q Q2 I rv dx rm (g x M Q q) c_
theorem VC.imp(h:VC X f r)(g:∀x M Q,r' x M Q->r x M Q):VC X f r':=
 λa_ s Z H x v v2 M Q Q2 I rv dx rm q c_=>h a_ s Z H x v v2 M Q Q2 I rv dx rm (g x M Q q) c_
theorem iy(h:rI2 g x y M Q):nB g x y M Q:=by
 unfold rI2 at h;split at h
 ·exact⟨_,_,rfl,rfl,h⟩
 ·exact h.elim
theorem nj(h:rII C g x y M Q):rI3 C g x y M Q:=by
 unfold rII at h;split at h
 ·exact⟨_,_,rfl,rfl,h⟩
 ·exact h.elim
theorem xx{s:Shared}{ws:List Value}(ht:IsTup s.heap t #[])(hb:IsTup s.heap b ws.toArray)(h:Q (.ref b) s):wpAny (model prog w) A (binaryOp .Add (.ref t) (.ref b)) Q E s:=by
 obtain⟨⟨cls,dd,data,sl⟩,ho,hc,n,hd⟩:=id ht;obtain⟨⟨Pt,Mf,data2,LY⟩,MV,hc2,n2,hd2⟩:=id hb;simp only at hc hd hc2 hd2;subst hc hd hc2 hd2;exact concat_meets ⟨_,ho,rfl⟩ ⟨_,MV,rfl⟩ noFill_tuple_add seq_tuple_add PySem.F.slot_tuple_add PySem.F.entry_tuple_add (PySem.F.args_tuple_add_2 _ _) (tuple_addW0 t b #[] ws.toArray n n2 dd Mf sl LY rfl) ⟨ho,MV,h⟩
theorem so{a b:List D}(I:Inv X a_ Z H s)(rv:RelV v v2)(ru:RelV u u2)(dx:Den X.K H (.tup a) v)(dy:Den X.K H (.tup b) u)(rm:RelM X.K M H)
  (q:a.length+b.length<=sizeLine/\Q (.tup (a++b)) M) (c_:Back X.K H Q Q2):wpAny (model X.prog X.w) X.A (binaryOp .Add v2 u2) (EP X a_ Z Q2) X.xe s:=by
 obtain⟨p1,vs,rfl,PV,Od⟩:=dx;obtain⟨p2,us,rfl,Na,K6⟩:=dy;obtain⟨h2,q⟩:=q;by_cases h1:a=[]
 ·subst h1;cases (show vs=[] from Od);cases rv;cases ru;obtain⟨its,r1,R9,_⟩:=I.tuple PV;obtain⟨s_,r2,R_,_⟩:=I.tuple Na;cases r1;exact xx R9 R_ ⟨.ref p2,H,I,rfl,c_ _ _ (.tup b) _ ⟨p2,us,rfl,Na,K6⟩ rm (.refl _) q⟩
 refine yO a_ s Z H _ _ v2 u2 Q2 I rv ru ⟨p1,p2,vs,us,rfl,rfl,PV,Na,λz=>?_,by rw[<-Od.length,<-K6.length];exact h2,λz=>?_,λ_ p hp=>?_⟩
 ·have:=Od.length;rw[z]at this;cases a with
  |nil=>exact h1 rfl
  |cons _ _=>cases this
 ·have hb:b=[]:=List.length_eq_zero_iff.mp (by rw[K6.length,z];rfl)
  subst hb;rw[J0]at q;exact c_ _ _ (.tup a) _ ⟨p1,vs,rfl,PV,Od⟩ rm (.refl _) q
 ·exact c_ _ _ (.tup (a++b)) _ ⟨p,_,rfl,.of ah,(Od.append K6).mono (.new hp)⟩ (rm.grow hp) (.new hp) q
theorem AT(op:Operator):VO X (binaryOp op) (le op):=by
 cases op with
 |Add=>
  intro a_ s Z H x y v u v2 u2 M Q Q2 I rv ru dx dy rm q c_;have q':vo x y M Q:=q;clear q;unfold vo at q';split at q'
  ·exact VO.of3 E7 a_ s Z H _ _ v u v2 u2 M Q Q2 I rv ru dx dy rm ⟨_,_,rfl,rfl,q'⟩ c_
  ·exact so I rv ru dx dy rm q' c_
  ·exact q'.elim
 |Sub=>exact (VO.of3 ET).imp λ_ _ _ _ h=>iy h
 |Mult=>
  intro a_ s Z H x y v u v2 u2 M Q Q2 I rv ru dx dy rm q c_;have q':wF x y M Q:=q;clear q;unfold wF at q';split at q'
  ·exact VO.of3 D8 a_ s Z H _ _ v u v2 u2 M Q Q2 I rv ru dx dy rm ⟨_,_,rfl,rfl,q'⟩ c_
  ·exact q'.elim
 |FloorDiv=>exact (VO.of3 A8).imp λ_ _ _ _ h=>nj h
 |Mod=>exact (VO.of3 DB).imp λ_ _ _ _ h=>nj h
 |Pow=>exact (VO.of3 EZ).imp λ_ _ _ _ h=>nj h
 |RShift=>exact (VO.of3 EK).imp λ_ _ _ _ h=>nj h
 |BitAnd=>exact (VO.of3 Fj).imp λ_ _ _ _ h=>iy h
 |_=>exact λa_ s Z H x y v u v2 u2 M Q Q2 I rv ru dx dy rm q c_=>False.elim q
theorem Bz:VU X (unaryOp .USub) rNeg:=(VU.of3 EG).imp λx M Q h=>by
 unfold rNeg at h;split at h
 ·exact⟨_,rfl,h⟩
 ·exact h.elim
theorem B7(fz:Bool):VO X (binaryOp .Add) (jw fz):=by
 intro a_ s Z H x y v u v2 u2 M Q Q2 I rv ru dx dy rm q c_;unfold jw at q;split at q
 next a b ea eb=>
  obtain⟨l,xs,rfl,hH,dl⟩:=bj rm ea dx;obtain⟨b',zs,rfl,hB,K6⟩:=bj rm eb dy;cases rv;cases ru;obtain⟨z,its,n,r,hl,e⟩:=I.rdL hH;obtain⟨z2,s_,n2,r2,Ny,e2⟩:=I.rdL hB;have E_:xs.length+zs.length<=sizeLine:=by
   have:=q.1;rw[JR,dl.length,K6.length]at this;exact this
  refine PySem.P.add_list e e2 ?_ (by rw[Jy,Jy];omega)
  have ea:its.toArray++s_.toArray=(its++s_).toArray:=by simp
  rw[ea];exact de (I.lnew (t':=s.toks) (r.append r2) (by rw[JR];omega)) I.fresh (dl.append K6) rm (.refl _) q c_
 next=>
  split at q
  ·exact so I rv ru dx dy rm q c_
  ·exact q.elim
theorem ye{K:Ks}(rm:RelM K M H)(dx:Den K H x v)(hp:pl (res M x)=true) :
  (∃a ds,x=.ref a/\M a=some (.lst ds)/\res M x=.g_ ds)\/(res M x=x):=by
 cases x with
 |ref a=>
  cases e:M a with
  |none=>
   have:res M (.ref a)=.ref a:=by simp[res,am,e]
   rw[this]at hp;simp[plN]at hp
  |some o=>
   cases o with
   |lst ds=>exact .inl ⟨a,ds,rfl,e,by simp[res,am,e]⟩
   |_=>
    have:res M (.ref a)=.ref a:=by simp[res,am,e]
    rw[this]at hp;simp[plN]at hp
 |g_ ds=>exact .inr rfl
 |_=>exact .inr rfl
theorem og(I:Inv X a_ Z H s)(rm:RelM X.K M H)(dx:Den X.K H x v)(hp:pl (res M x)=true) :
  ∃H',Inv X a_ Z H' s/\TM X.K H H'/\Den X.K H' (res M x) v:=by
 rcases ye rm dx hp with ⟨a,ds,rfl,q,e⟩|e
 ·obtain⟨vs,e1,l⟩:=rm a _ q;obtain⟨o,I2⟩:=I.freeze e1;refine⟨_,I2,.freeze e1,?_⟩;rw[e];cases (show v=.ref a from dx);exact gg l e1
 ·rw[e];exact⟨H,I,.refl _,dx⟩
def nz(K:Ks)(M:MH)(H:Hp):Prop:=∀a ds,M a=some (.lst ds)->∃vs,(H a=some (.lst vs)\/∃o,H a=some (.t_ o (.lst vs)))/\DenL K H ds vs
theorem RelM.z{K:Ks}(rm:RelM K M H):nz K M H:=λa ds q=>by
 obtain⟨vs,e,l⟩:=rm a _ q;exact⟨vs,.inl e,l⟩
theorem EE(I:Inv X a_ Z H s)(rz:nz X.K M H)(q:M a=some (.lst ds)) :
  ∃H',Inv X a_ Z H' s/\TM X.K H H'/\nz X.K M H'/\∃vs,SqF X.K H' a vs/\DenL X.K H' ds vs/\DenL X.K H ds vs:=by
 obtain⟨vs,e|⟨o,e⟩,l⟩:=rz a ds q
 ·obtain⟨o,I2⟩:=I.freeze e;have t:TM X.K H (upd H a (.t_ o (.lst vs))):=.freeze e;refine⟨_,I2,t,λb es qb=>?_,vs,.inl ⟨o,ah⟩,l.mono t,l⟩
  obtain⟨us,e2,l2⟩:=rz b es qb;by_cases hb:b=a
  ·subst hb;rw[q]at qb;cases qb;exact⟨vs,.inr ⟨o,ah⟩,l.mono t⟩
  ·refine⟨us,?_,l2.mono t⟩;rw[ae hb];exact e2
 ·exact⟨H,I,.refl _,rz,vs,.inl ⟨o,e⟩,l,l⟩
theorem D7(I:Inv X a_ Z H s)(rz:nz X.K M H)(dx:Den X.K H x v) :
  ∃H',Inv X a_ Z H' s/\TM X.K H H'/\nz X.K M H'/\Den X.K H' (res M x) v:=by
 cases x with
 |ref a=>
  cases e:M a with
  |none=>
   have:res M (.ref a)=.ref a:=by simp[res,am,e]
   rw[this];exact⟨H,I,.refl _,rz,dx⟩
  |some o=>
   cases o with
   |lst ds=>
    obtain⟨H',I2,t,Nb,vs,sq,l,_⟩:=EE I rz e;have:res M (.ref a)=.g_ ds:=by simp[res,am,e]
    rw[this];exact⟨H',I2,t,Nb,a,vs,dx,sq,l⟩
   |_=>
    have:res M (.ref a)=.ref a:=by simp[res,am,e]
    rw[this];exact⟨H,I,.refl _,rz,dx⟩
 |g_ ds=>exact⟨H,I,.refl _,rz,dx⟩
 |_=>exact⟨H,I,.refl _,rz,dx⟩
theorem uE:∀{ds:List D}{vs:List V}{H:Hp},Inv X a_ Z H s->nz X.K M H->DenL X.K H ds vs->
  ∃H',Inv X a_ Z H' s/\TM X.K H H'/\nz X.K M H'/\DenL X.K H' (ds.map (res M)) vs
 |[],vs,H,I,rz,dl=>⟨H,I,.refl _,rz,dl⟩
 |d::ds,vs,H,I,rz,dl=>by
  obtain⟨v,r,rfl,dv,dr⟩:=dl;obtain⟨H1,I1,t1,PX,d1⟩:=D7 I rz dv;obtain⟨H2,I2,t2,Nb,d2⟩:=uE I1 PX (dr.mono t1);exact⟨H2,I2,t1.trans t2,Nb,v,r,rfl,d1.mono t2,d2⟩
theorem zI(I:Inv X a_ Z H s)(rz:nz X.K M H)(dx:Den X.K H x v) :
  ∃H',Inv X a_ Z H' s/\TM X.K H H'/\nz X.K M H'/\Den X.K H' (rs M x) v:=by
 cases x with
 |ref a=>
  cases e:M a with
  |none=>
   have:rs M (.ref a)=.ref a:=by simp[rs,am,e]
   rw[this];exact⟨H,I,.refl _,rz,dx⟩
  |some o=>
   cases o with
   |lst ds=>
    have:rs M (.ref a)=.g_ (if pls ds=true then ds else ds.map (res M)):=by simp[rs,am,e]
    rw[this];obtain⟨H',I2,t,Nb,vs,sq,l,_⟩:=EE I rz e;split
    ·exact⟨H',I2,t,Nb,a,vs,dx,sq,l⟩
    ·obtain⟨H3,I3,t3,PY,l3⟩:=uE I2 Nb l;exact⟨H3,I3,t.trans t3,PY,a,vs,dx,t3.f _ _ sq,l3⟩
   |_=>
    have:rs M (.ref a)=.ref a:=by simp[rs,am,e]
    rw[this];exact⟨H,I,.refl _,rz,dx⟩
 |g_ ds=>
  have:rs M (.g_ ds)=.g_ (if pls ds=true then ds else ds.map (res M)):=by simp[rs,am]
  rw[this];split
  ·exact⟨H,I,.refl _,rz,dx⟩
  ·obtain⟨p,vs,e,sq,l⟩:=dx;obtain⟨H3,I3,t3,PY,l3⟩:=uE I rz l;exact⟨H3,I3,t3,PY,p,vs,e,t3.f _ _ sq,l3⟩
 |_=>exact⟨H,I,.refl _,rz,dx⟩
theorem DD(I:Inv X a_ Z H s)(rm:RelM X.K M H)(dx:Den X.K H x v)(dy:Den X.K H y u) :
  ∃H',Inv X a_ Z H' s/\Den X.K H' (rs M x) v/\Den X.K H' (rs M y) u:=by
 obtain⟨H1,I1,t1,PX,d1⟩:=zI I rm.z dx;obtain⟨H2,I2,t2,Nb,d2⟩:=zI I1 PX (dy.mono t1);exact⟨H2,I2,d1.mono t2,d2⟩
theorem Ak(hu:X.A.units+64<cLine)(neg:Bool):VO X (compareOp (if neg=true then .NotEq else .Eq)) (ij neg):=by
 intro a_ s Z H x y v u v2 u2 M Q Q2 I rv ru dx dy rm q c_;obtain⟨h1,h2,q⟩:=q;obtain⟨H',I',d1,d2⟩:=DD I rm dx dy;obtain⟨rc,rn,_⟩:=CC I' rfl 8 (A:=X.A) h1 h2 d1 d2 rv ru (by omega)
 have fin:=c_ _ _ _ _ (bU (K:=X.K) (H:=H)) rm (.refl _) q;cases neg with
 |true=>
  refine rn _ _ _ _ ⟨.bl _,H,I,rfl,?_⟩;rw[Bool.true_xor]at fin;exact fin
 |false=>
  refine rc _ _ _ _ ⟨.bl _,H,I,rfl,?_⟩;rw[Bool.false_xor]at fin;exact fin
end
section
variable {K:Ks}
theorem j3[DecidableEq κ]:∀{ks:List κ}{ds:List D}{vs:List V}{k:κ},DenL K H ds vs->ks.length=vs.length->
  (∀d,getD ks ds k=some d->∃v,d5 (ks.zip vs) k=some v/\Den K H d v)/\(getD ks ds k=none->d5 (ks.zip vs) k=none)
 |[],_,vs,k,_,_=>⟨λd e=>by simp[getD]at e,λ_=>by simp[d5]⟩
 |q::ks,[],vs,k,dl,hl=>by cases (show vs=[] from dl);cases hl
 |q::ks,d0::ds,_,k,dl,hl=>by
  obtain⟨v,r,rfl,dv,dl⟩:=dl;have ih:=j3 (ks:=ks) (k:=k) dl (by simpa using hl)
  by_cases z:q=k
  ·refine⟨λd e=>?_,λe=>?_⟩
   ·simp only[getD,Js z]at e;cases e;exact⟨v,eO (p:=(q,v)) z,dv⟩
   ·simp only[getD,Js z]at e;cases e
  ·refine⟨λd e=>?_,λe=>?_⟩
   ·simp only[getD,Jm z]at e;obtain⟨w,h1,h2⟩:=ih.1 d e;exact⟨w,(dh (p:=(q,v)) z).trans h1,h2⟩
   ·simp only[getD,Jm z]at e;exact (dh (p:=(q,v)) z).trans (ih.2 e)
theorem nW(h:tE y=some k)(d:Den K H y u):u=kV k:=by
 cases y with
 |int i=>cases (show some (Sum.inl i)=some k from h);exact d
 |str x=>cases (show some (Sum.inr x)=some k from h);exact d
 |_=>cases h
theorem l7:∀{es:List D}{vs:List V}{k:List Int},bz es=some k->DenL K H es vs->vs=k.map V.int
 |[],vs,k,h,dl=>by cases (show some []=some k from h);exact dl
 |d::es,_,k,h,dl=>by
  obtain⟨v,r,rfl,dv,dl⟩:=dl;cases d with
  |int i=>
   simp only[bz]at h;split at h
   ·rename_i ns q;cases h;rw[l7 q dl];cases (show v=.int i from dv);rfl
   ·cases h
  |_=>cases h
theorem kH{k:List Int}(h:g5 y=some k)(d:Den K H y u):∃b,u=.ref b/\SqT K H b (k.map V.int):=by
 cases y with
 |tup es=>
  obtain⟨b,vs,e,sq,dl⟩:=d;refine⟨b,e,?_⟩;rw[<-l7 h dl];exact sq
 |_=>cases h
theorem pC{ks:List Key}(h:dZ M x=some (ks,ds))(rm:RelM K M H)(d:Den K H x v):∃p vs,v=.ref p/\Rd H p (.dK (ks.zip vs))/\ks.length=vs.length/\DenL K H ds vs:=by
 cases x with
 |Ln KP F_=>
  cases h;obtain⟨p,vs,o,rfl,e,hl,dl⟩:=d;exact⟨p,vs,rfl,.inr ⟨o,e⟩,hl,dl⟩
 |ref a=>
  simp only[dZ]at h;split at h
  ·rename_i q;cases h;obtain⟨vs,e,hl,dl⟩:=rm a _ q;exact⟨a,vs,d,.inl e,hl,dl⟩
  ·cases h
 |_=>cases h
theorem ef(h:cI M x=some (ks,ds))(rm:RelM K M H)(d:Den K H x v):∃p vs xs,v=.ref p/\Rd H p (.ext (aB p xs))/\TabOk K H p ks xs vs/\DenL K H ds vs:=by
 cases x with
 |Kv KP F_=>
  cases h;obtain⟨p,vs,o,xs,rfl,e,z,dl⟩:=d;exact⟨p,vs,xs,rfl,.inr ⟨o,e⟩,z,dl⟩
 |ref a=>
  simp only[cI]at h;split at h
  ·rename_i q;cases h;obtain⟨vs,xs,e,z,dl⟩:=rm a _ q;exact⟨a,vs,xs,d,.inl e,z,dl⟩
  ·cases h
 |_=>cases h
theorem TabOk.len{ks:List (List Int)}{vs:List V}(z:TabOk K H a ks xs vs):ks.length=vs.length:=by
 rw[<-z.kx,Jv,z.vx.length,Jv]
theorem c4:∀{xs:List (List Int×Addr×Value)}{vs:List V} (k:List Int),Vals vs (xs.map (·.2.2))->RelO (d5 ((xs.map (·.1)).zip vs) k) ((atKey xs k).map (·.2))
 |[],vs,k,r=>by cases r;exact True.intro
 |x::xs,vs,k,r=>by
  rw[List.map_cons]at r;cases r with
  |@cons v _ vs _ h t=>
   have ih:=c4 k t;by_cases e:x.1=k
   ·have b:atKey (x::xs) k=some x.2:=by simp[atKey,J7,e]
    rw[List.map_cons,List.zip_cons_cons,eO (p:=(x.1,v)) e,b];exact h
   ·have b:atKey (x::xs) k=atKey xs k:=by simp[atKey,J7,e]
    rw[List.map_cons,List.zip_cons_cons,dh (p:=(x.1,v)) e,b];exact ih
end
inductive DRd (X:Cx) (H:Hp) (a:Addr) (u:V):Option V->Prop where
 |k {l_:List (Key×V)}{k:Key} (e:Rd H a (.dK l_)) (hu:u=kV k):DRd X H a u (d5 l_ k)
 |t {ks:List (List Int)}{xs:List (List Int×Addr×Value)}{vs:List V}{k:List Int}{b:Addr} (e:Rd H a (.ext (aB a xs))) (z:TabOk X.K H a ks xs vs) (hu:u=.ref b) (sq:SqT X.K H b (k.map V.int)):DRd X H a u (d5 (ks.zip vs) k)
def OptDen(K:Ks)(H:Hp):Option D->Option V->Prop
 |some d,some v=>Den K H d v
 |none,none=>True
 |_,_=>False
theorem gR{X:Cx}(h:d7 M x y=some o)(rm:RelM X.K M H)(dx:Den X.K H x v)(dy:Den X.K H y u):∃a ov,v=.ref a/\DRd X H a u ov/\OptDen X.K H o ov:=by
 unfold d7 at h;split at h
 ·rename_i ks ds e;split at h
  ·rename_i k ek;cases h;obtain⟨p,vs,rfl,rd,hl,dl⟩:=pC e rm dx;refine⟨p,_,rfl,.k rd (nW ek dy),?_⟩;have g:=j3 (k:=k) dl hl;cases q:getD ks ds k with
   |none=>rw[g.2 q];exact True.intro
   |some d=>obtain⟨w,h1,h2⟩:=g.1 d q;rw[h1];exact h2
  ·cases h
 ·split at h
  ·rename_i ks ds e;split at h
   ·rename_i k ek;cases h;obtain⟨p,vs,xs,rfl,rd,z,dl⟩:=ef e rm dx;obtain⟨b,hb,sq⟩:=kH ek dy;refine⟨p,_,rfl,.t rd z hb sq,?_⟩;have g:=j3 (k:=k) dl z.len;cases q:getD ks ds k with
    |none=>rw[g.2 q];exact True.intro
    |some d=>obtain⟨w,h1,h2⟩:=g.1 d q;rw[h1];exact h2
   ·cases h
  ·cases h
section
variable {X:Cx}{s:Shared}{o:Option V}{A:Around}
theorem j6:∀{ks:List Int}{us:List Value},Vals (ks.map V.int) us->ItemsAre (intKind P w) ks us
 |[],_,r=>by rw[List.map_nil]at r;cases r;exact .nil
 |k::ks,_,r=>by
  rw[List.map_cons]at r;cases r with
  |cons h t=>
   obtain⟨tk,rfl⟩:=h;exact .cons (by show Value.isInt k (.int k tk)=true;simp[Value.isInt]) (j6 t)
theorem eJ{k:List Int}(I:Inv X a_ Z H s)(sq:SqT X.K H b (k.map V.int)):(tupleKind (intKind X.prog X.w)).is s.heap k b:=by
 obtain⟨its,r,⟨o,e,c,n,d⟩,_⟩:=I.tuple sq;exact⟨o,its.toArray,n,e,c,d,by simpa using j6 r⟩
theorem bS(I:Inv X a_ Z H s)(e:Rd H a (.ext (aB a xs)))(z:TabOk X.K H a ks xs vs):s.heap.DictOfH (tupleKind (intKind X.prog X.w)) a xs:=by
 obtain⟨⟨ob,es,ep,h1,h2,h3,h4⟩,_⟩:=(show ObjOk X.prog X.w H s.heap a (.ext (aB a xs)) from e.ok I.j_);exact⟨ob,es,ep,h1,h2,h3,h4,λx hx=>eJ I (z.at_ x hx),by rw[z.kx];exact z.nd⟩
theorem DRd.isDict(I:Inv X a_ Z H s)(g:DRd X H a y o):s.TypeIs (.ref a) "dict":=by
 cases g with
 |k e _=>obtain⟨_,_,vs,_,dd⟩:=iX I.j_ e;exact dd.typeIs
 |t e z _ _=>exact (bS I e z).typeIs
theorem tJ(hu:A.units+1<cLine)(I:Inv X a_ Z H s)(g:DRd X H a y o)(ho:o=some v)(ry:RelV y u)(h:∀w' s',Inv X a_ Z H s'->RelV v w'->Q w' s') :
  wpAny (model X.prog X.w) A (getItem (.ref a) u) Q E s:=by
 cases g with
 |k e hk=>exact tR hu I (.inl ⟨_,_,e,hk,ho.symm⟩) ry h
 |@t ks xs vs k b e z hb sq=>
  subst hb;cases (show u=Value.ref b from ry);have dd:=bS I e z;have rel:=c4 (vs:=vs) k z.vx;rw[z.kx]at rel;obtain⟨w',hw,KG⟩:=RelO.some_of (v:=v) (o:=(atKey xs k).map (·.2)) (by rw[<-ho];exact rel)
  obtain⟨p,hp,Pq⟩:=Option.map_eq_some_iff.mp hw;refine wpAny_getItem_heap (JU hu) (eJ I sq) dd hp ?_;rw[Pq];exact h w' _ (I.tok _) KG
theorem G6(neg:Bool)(hu:A.units+1<cLine)(I:Inv X a_ Z H s)(g:DRd X H a y o)(ry:RelV y u)(h:∀s',Inv X a_ Z H s'->Q (.bool (neg ^^ o.isSome)) s') :
  wpAny (model X.prog X.w) A (compareOp (if neg=true then .NotIn else .In) u (.ref a)) Q E s:=by
 cases g with
 |k e hk=>
  cases neg with
  |true=>exact yi hu I (.inl ⟨_,_,e,hk,rfl⟩) ry λs' I'=>by have:=h s' I';rw[Bool.true_xor]at this;exact this
  |false=>exact GS hu I (.inl ⟨_,_,e,hk,rfl⟩) ry λs' I'=>by have:=h s' I';rw[Bool.false_xor]at this;exact this
 |@t ks xs vs k b e z hb sq=>
  subst hb;cases (show u=Value.ref b from ry);have dd:=bS I e z;have rel:=c4 (vs:=vs) k z.vx;rw[z.kx]at rel;have q:=rel.isSome_eq;rw[Option.isSome_map]at q;rw[q]at h;cases neg with
  |true=>
   refine wpAny_notIn_heap (JU hu) (eJ I sq) z.no dd ?_;have:=h _ (I.tok (s.toks+(tupleKind (intKind X.prog X.w)).draws k));rw[Bool.true_xor]at this;exact this
  |false=>
   refine wpAny_in_heap (JU hu) (eJ I sq) z.no dd ?_;have:=h _ (I.tok (s.toks+(tupleKind (intKind X.prog X.w)).draws k));rw[Bool.false_xor]at this;exact this
theorem CA(hu:A.units+1<cLine)(I:Inv X a_ Z H s)(g:DRd X H a y o)(ry:RelV y u)(h:∀w' s',Inv X a_ Z H s'->RelV (o.getD .i_) w'->Q w' s') :
  wpAny (model X.prog X.w) A (call (.builtin "dict.get") [.ref a,u]) Q E s:=by
 cases g with
 |k e hk=>exact BX hu I (.inl ⟨_,_,e,hk,rfl⟩) ry h
 |@t ks xs vs k b e z hb sq=>
  subst hb;cases (show u=Value.ref b from ry);have dd:=bS I e z;have rel:=c4 (vs:=vs) k z.vx;rw[z.kx]at rel;exact call_meetsIn PySem.F.slot_dict_get dd.typeIs PySem.F.entry_dict_get (PySem.F.args_dict_get_2 _ _) (meetsH_dict_get (tupleKind (intKind X.prog X.w)) a b z.no) ⟨JU hu,k,xs,eJ I sq,dd,h _ _ (I.tok _) (rel.getD rfl)⟩
theorem A0(hu:A.units+1<cLine)(I:Inv X a_ Z H s)(g:DRd X H a y o)(ry:RelV y u)(rd:RelV d r)(h:∀w' s',Inv X a_ Z H s'->RelV (o.getD d) w'->Q w' s') :
  wpAny (model X.prog X.w) A (call (.builtin "dict.get") [.ref a,u,r]) Q E s:=by
 cases g with
 |k e hk=>exact BH hu I (.inl ⟨_,_,e,hk,rfl⟩) ry rd h
 |@t ks xs vs k b e z hb sq=>
  subst hb;cases (show u=Value.ref b from ry);have dd:=bS I e z;have rel:=c4 (vs:=vs) k z.vx;rw[z.kx]at rel;exact call_meetsIn PySem.F.slot_dict_get dd.typeIs PySem.F.entry_dict_get (PySem.F.args_dict_get_3 _ _ _) (meetsH_dict_get_default (tupleKind (intKind X.prog X.w)) a b z.no r) ⟨JU hu,k,xs,eJ I sq,dd,h _ _ (I.tok _) (rel.getD rd)⟩
end
section
variable {K:Ks}
theorem tS[DecidableEq κ]{l:List (κ×V)}:dO ((q,w)::l) k v=if q=k then (q,v)::l.map (λkv=>if kv.1=k then (kv.1,v) else kv) else (q,w)::dO l k v:=by
 unfold dO;by_cases e:q=k
 ·simp[e]
 ·by_cases g:(l.any λkv=>decide (kv.1=k))=true
  ·simp[e,g]
  ·simp[e,g]
theorem oX[DecidableEq κ]:∀{ks:List κ}{vs:List V},¬ k∈ks->(ks.zip vs).map (λkv=>if kv.1=k then (kv.1,v) else kv)=ks.zip vs
 |[],_,_=>by simp
 |q::ks,[],_=>by simp
 |q::ks,w::vs,h=>by
  have hq:¬ q=k:=λz=>h (by simp[z])
  have ih:=oX (k:=k) (v:=v) (ks:=ks) (vs:=vs) λm=>h (Jk _ m)
  simp only[List.zip_cons_cons,List.map_cons,Jm hq,ih]
theorem nN[DecidableEq κ]:∀{ks:List κ}{ds:List D}{vs:List V}{k:κ}{y:D}{v:V},ks.Nodup->DenL K H ds vs->ks.length=vs.length->Den K H y v->
  ∃Lo,dO (ks.zip vs) k v=(ai ks k).zip Lo/\(ai ks k).length=Lo.length/\DenL K H (aq ks ds k y) Lo
 |[],ds,vs,k,y,v,_,dl,hl,dy=>by
  cases vs with
  |nil=>exact⟨[v],rfl,rfl,by unfold aq;exact .one dy⟩
  |cons _ _=>cases hl
 |q::ks,[],vs,k,y,v,_,dl,hl,dy=>by cases (show vs=[] from dl);cases hl
 |q::ks,d::ds,_,k,y,v,nd,dl,hl,dy=>by
  obtain⟨w,r,rfl,dw,dl⟩:=dl;obtain⟨n1,n2⟩:=JN.mp nd;rw[List.zip_cons_cons,tS];by_cases e:q=k
  ·subst e;rw[Js rfl,oX n1];refine⟨v::r,?_,?_,?_⟩
   ·simp[ai]
   ·simpa [ai] using hl
   ·simp only[aq,Js];exact .cons dy dl
  ·rw[Jm e];obtain⟨Lo,h1,h2,h3⟩:=nN (k:=k) (v:=v) n2 dl (by simpa using hl) dy
   refine⟨w::Lo,?_,?_,?_⟩
   ·simp[ai,Jm e,h1]
   ·simp[ai,Jm e,h2]
   ·simp only[aq,Jm e];exact .cons dw h3
theorem nX{x:List Int×Addr×Value}{xs:List (List Int×Addr×Value)}:storedH (x::xs) k b r=if x.1=k then (x.1,x.2.1,r)::xs.map (putAt k r) else x::storedH xs k b r:=by
 unfold storedH;by_cases e:x.1=k
 ·have b':atKey (x::xs) k=some x.2:=by simp[atKey,J7,e]
  rw[b',Js e];simp[putAt,e]
 ·have b':atKey (x::xs) k=atKey xs k:=by simp[atKey,J7,e]
  rw[b',Jm e];by_cases g:(atKey xs k).isSome=true
  ·rw[Js g,Js g];simp[putAt,e]
  ·rw[Jm g,Jm g];rfl
theorem jC:∀{xs:List (List Int×Addr×Value)},¬ k∈xs.map (·.1)->xs.map (putAt k r)=xs
 |[],_=>rfl
 |x::xs,h=>by
  have hq:¬ x.1=k:=λz=>h (by simp[z])
  rw[List.map_cons,jC λm=>h (Jk _ m)]
  simp[putAt,hq]
theorem fU:∀{xs:List (List Int×Addr×Value)}{ds:List D}{vs:List V}{k:List Int}{b:Addr}{r:Value}{y:D}{v:V},(xs.map (·.1)).Nodup->Vals vs (xs.map (·.2.2))->RelV v r->DenL K H ds vs->Den K H y v->
  ∃Lo,(storedH xs k b r).map (·.1)=ai (xs.map (·.1)) k/\Vals Lo ((storedH xs k b r).map (·.2.2))/\DenL K H (aq (xs.map (·.1)) ds k y) Lo/\∀x∈storedH xs k b r,(x.1=k/\x.2.1=b)\/∃x'∈xs,x'.1=x.1/\x'.2.1=x.2.1
 |[],ds,vs,k,b,r,y,v,_,vr,rv,dl,dy=>by
  cases vr;cases ds with
  |cons _ _=>obtain⟨_,_,z,_⟩:=dl;cases z
  |nil=>exact⟨[v],rfl,.cons rv .nil,by unfold aq;exact .one dy,λx hx=>.inl (by simp[storedH,atKey]at hx;simp[hx])⟩
 |x::xs,ds,vs,k,b,r,y,v,nd,vr,rv,dl,dy=>by
  rw[List.map_cons]at vr nd;cases vr with
  |@cons w _ vs _ h t=>
   cases ds with
   |nil=>cases (show w::vs=[] from dl)
   |cons d ds=>
    obtain⟨w',r',e',dw,dl⟩:=dl;cases e';obtain⟨n1,n2⟩:=JN.mp nd;rw[nX];by_cases e:x.1=k
    ·rw[Js e,jC (by rw[<-e];exact n1)]
     refine⟨v::vs,?_,.cons rv t,?_,λz hz=>?_⟩
     ·simp[ai,e]
     ·simp only[List.map_cons,aq,Js e];exact .cons dy dl
     ·rcases Jq.mp hz with rfl|hz
      ·exact .inr ⟨x,Jo,rfl,rfl⟩
      ·exact .inr ⟨z,Jk _ hz,rfl,rfl⟩
    ·rw[Jm e];obtain⟨Lo,h1,h2,h3,h4⟩:=fU (k:=k) (b:=b) n2 t rv dl dy;refine⟨w::Lo,?_,.cons h h2,?_,λz hz=>?_⟩
     ·simp only[List.map_cons,ai,Jm e,h1]
     ·simp only[List.map_cons,aq,Jm e];exact .cons dw h3
     ·rcases Jq.mp hz with rfl|hz
      ·exact .inr ⟨z,Jo,rfl,rfl⟩
      ·rcases h4 z hz with q|⟨x',LU,q⟩
       ·exact .inl q
       ·exact .inr ⟨x',Jk _ LU,q⟩
theorem bh[DecidableEq κ]:∀{ks:List κ}{k:κ},(ai ks k).length<=ks.length+1
 |[],_=>by simp[ai]
 |q::ks,k=>by
  unfold ai;split
  ·simp
  ·have:=bh (ks:=ks) (k:=k);simp only[Jx];omega
theorem putD1_mem[DecidableEq κ]:∀{ks:List κ}{k x:κ},x∈ai ks k<->x∈ks\/x=k
 |[],k,x=>by simp[ai]
 |q::ks,k,x=>by
  unfold ai;split
  ·rename_i e;subst e;simp;intro z;exact .inl z
  ·rw[Jq,putD1_mem,Jq,or_assoc]
theorem eW[DecidableEq κ]:∀{ks:List κ}{k:κ},ks.Nodup->(ai ks k).Nodup
 |[],k,_=>by simp[ai]
 |q::ks,k,h=>by
  obtain⟨n1,n2⟩:=JN.mp h;unfold ai;split
  ·exact h
  ·rename_i e;refine JN.mpr ⟨λm=>?_,eW n2⟩
   rcases putD1_mem.mp m with z|z
   ·exact n1 z
   ·exact e z
end
section
variable {X:Cx}{A:Around}{ks:List Key}
theorem pj:∀{ks:List κ}{vs:List V},ks.length=vs.length->(ks.zip vs).map (·.1)=ks
 |[],_,_=>by simp
 |q::ks,[],h=>by cases h
 |q::ks,v::vs,h=>by simp[pj (ks:=ks) (vs:=vs) (by simpa using h)]
theorem vH{vs:List V}(I:Inv X a_ Z H s)(e:H a=some (.dK (ks.zip vs)))(hl:ks.length=vs.length):ks.Nodup:=by
 obtain⟨_,_,ws,rel,_,_,_,_,_,_,_,_,nd⟩:=zR I.j_ e;rw[<-rel.keys,pj hl]at nd;exact nd
theorem AI{k:Key}{y:D}{v w:V}{R:MH->Prop}{R2:Hp->Prop}(hu:A.units+1<cLine)(I:Inv X a_ Z H s)(rm:RelM X.K M H)(q:M a=some (.dk ks ds))(hk:w=kV k)(KG:RelV w u)(dy:Den X.K H y v)(rv:RelV v r)(hz:ks.length<sizeLine)
  (h:R (put M a (.dk (ai ks k) (aq ks ds k y)))) (c_:∀H' M',RelM X.K M' H'->TM X.K H H'->R M'->R2 H'):wpAny (model X.prog X.w) A (setItem (.ref a) u r) (λ_ s'=>∃H',Inv X a_ Z H' s'/\R2 H') E s:=by
 obtain⟨vs,e,hl,dl⟩:=rm a _ q;subst hk;obtain⟨Lo,h1,h2,h3⟩:=nN (k:=k) (v:=v) (vH I e hl) dl hl dy;refine ui hu I (.inl ⟨_,k,e,rfl,?_,rfl⟩) KG rv λs' I'=>⟨_,I',?_⟩
 ·rw[List.length_zip,hl,Nat.min_self,<-hl];exact hz
 ·have tw:TM X.K H (upd H a (.dK (dO (ks.zip vs) k v))):=.put e (λ_ z=>by cases z) λ_ _ z=>by cases z
  exact c_ _ _ (rm.write (u:=.dk (ai ks k) (aq ks ds k y)) e (λ_ z=>by cases z) (λ_ _ z=>by cases z) ⟨Lo,by rw[ah,h1],h2,h3.mono tw⟩) tw h
theorem B0{kt:List (List Int)}{k:List Int}{y:D}{v:V}{b:Addr}{R:MH->Prop}{R2:Hp->Prop}(hu:A.units+1<cLine)(I:Inv X a_ Z H s)(rm:RelM X.K M H)(q:M a=some (.dt kt ds))(sq:SqT X.K H b (k.map V.int))(dy:Den X.K H y v)(rv:RelV v r)(hz:kt.length<sizeLine)
  (h:R (put M a (.dt (ai kt k) (aq kt ds k y)))) (c_:∀H' M',RelM X.K M' H'->TM X.K H H'->R M'->R2 H'):wpAny (model X.prog X.w) A (setItem (.ref a) (.ref b) r) (λ_ s'=>∃H',Inv X a_ Z H' s'/\R2 H') E s:=by
 obtain⟨vs,xs,e,z,dl⟩:=rm a _ q;have dd:=bS I (.inl e) z;have nd:(xs.map (·.1)).Nodup:=by rw[z.kx];exact z.nd
 obtain⟨Lo,h1,h2,h3,h4⟩:=fU (k:=k) (b:=b) nd z.vx rv dl dy;rw[z.kx]at h1 h3;have hsz:xs.length<=sizeLine:=by
  have:=congrArg List.length z.kx;rw[Jv]at this;omega
 refine wpAny_setItem_heap (hsz:=hsz) (JU hu) (eJ I sq) dd λh' MG hs=>?_
 obtain⟨ob,es,ep,hq,hx,hd,he,_,_⟩:=MG;have tw:TM X.K H (upd H a (.ext (aB a (storedH xs k b r)))):=.put e (λ_ z=>by cases z) λ_ _ z=>by cases z
 have tb:aB a (storedH xs k b r) h':=⟨ob,es,ep,hq,hx,hd,he⟩;have I':Inv X a_ Z (upd H a (.ext (aB a (storedH xs k b r)))) {s with heap:=h',toks:=s.toks+(tupleKind (intKind X.prog X.w)).draws k}:=
  jg I (by rw[e];exact True.intro) hs ⟨ob,hq⟩ ⟨tb,⟨ob,hq⟩,λg1 g2 ⟨o1,Mr,Ms,a1,a2,a3,a4⟩ kk=>⟨o1,Mr,Ms,kk _ a1,a2,a3,a4⟩⟩
 refine⟨_,I',c_ _ _ (rm.write (u:=.dt (ai kt k) (aq kt ds k y)) e (λ_ z=>by cases z) (λ_ _ z=>by cases z) ⟨Lo,_,ah,⟨h1,eW z.nd,JF bh hz,z.no,h2,λx LU=>?_⟩,h3.mono tw⟩) tw h⟩
 rcases h4 x LU with ⟨q1,q2⟩|⟨x',m,q1,q2⟩
 ·rw[q1,q2];exact tw.t _ _ sq
 ·rw[<-q1,<-q2];exact tw.t _ _ (z.at_ x' m)
end
end L2
namespace L2
open PySem PySem.Spec PyProof.Rows PySem.W
section
variable {A:Around}{s:Shared}{ob:Obj}{es:Array DictEntry}{e:DictEntry}
theorem tY(hn:(d == sysModules)=false):MeetsIn prog w (Builtin.«dict.__len__» ⟨[.ref d],[]⟩) (λ_ R s=>∃ob es ep,s.heap.get? d=some ob/\ob.data=.dict es ep/\R (.ok (.ret (.int es.size s.toks))) {s with toks:=s.toks+1}):=
 .of_wp λA R s ⟨ob,es,ep,ho,hd,q⟩=>by
  show wpAny _ _ (dictSize d >>=_) _ _ s;unfold dictSize;refine AV (AV (JZ ho hd (Jl ?_)));show wpAny _ _ (Builtin.Dict.pendingCount d >>=_) _ _ s;exact AV (wpAny_pendingCount_other hn (wpAny_ret_mkInt q))
theorem Hg(hn:(d == sysModules)=false)(ho:s.heap.get? d=some ob)(hx:ob.ExactDict)(hd:ob.data=.dict es ep)(hz:(es.size:Int)<2 ^ 63)(q:Q (.int es.size (s.toks+1)) {s with toks:=s.toks+1+1}) :
  wpAny (model prog w) A (call (.builtin "len") [.ref d]) Q E s:=by
 have hT:s.TypeIs (.ref d) "dict":=⟨_,ho,hx.1⟩;refine Calls.call_function_entry kind_len plain_len entry_len (args_len1 _) ?_;unfold Builtin.«len»;refine AV (m:=oneArg "len" _) (Jl ?_);refine AV (m:=callSpecial? (.ref d) (Str.ofString "__len__")) (wpAny_callSpecial?_slot (name:=Str.ofString "__len__") hT F.slot_dict_len
  (call_meetsIn F.slot_dict_len hT F.entry_dict_len (F.args_dict_len_1 _) (tY hn) ⟨ob,es,ep,ho,hd,?_⟩))
 show wpAny _ _ _ _ _ {s with toks:=s.toks+1}
 refine AV (Kc (Jl ?_));refine AV (wpAny_letGo ?_);show wpAny _ _ (if ((es.size:Nat):Int)<0 then _ else _) _ _ _
 rw[Jm (by omega)]
 show wpAny _ _ (if ((es.size:Nat):Int)>=2 ^ 63 then _ else _) _ _ _
 rw[Jm (by omega)]
 exact AV (wpAny_mkInt (Jl ⟨_,rfl,q⟩))
theorem Ag(hn:(d == sysModules)=false)(ho:s.heap.get? d=some ob)(hx:ob.ExactDict)(hd:ob.data=.dict es ep)
  (hQ:Q (.ref s.heap.objs.size) {s with heap:=s.heap.push {cls:=.type "dict_keyiterator",data:=.fields #[.ref d,.int 0 0,.int es.size 0,.int ep 0]}}):wpAny (model prog w) A (pyIter (.ref d)) Q E s:=by
 have hT:s.TypeIs (.ref d) "dict":=⟨_,ho,hx.1⟩;refine wpAny_pyIter_slot hT F.slot_dict_iter (Kj F.slot_dict_iter hT F.entry_dict_iter ?_ (F.args_dict_iter_1 _));unfold Builtin.«dict.__iter__»;refine AV ?_;unfold Builtin.Dict.dictSlotNone;refine AV (wpAny_notOrdered_dict hT ?_);show wpAny _ _ (pure (Value.ref d)) _ _ s;refine Jl ?_;show wpAny _ _ (Builtin.Dict.showsAll d >>=_) _ _ s;unfold Builtin.Dict.showsAll;rw[Jm (by rw[hn];exact JH)]
 refine AV (Jl (AV (JZ ho hd (AV (wpAny_dictEpoch ho hd ?_)))));refine AV (JT (Jl ⟨_,rfl,"dict_keyiterator",_,⟨_,Jr _ rfl,rfl⟩,F.slot_dict_keyiterator_next.lookup,?_⟩));simpa [rawInt] using hQ
theorem nU(B_:s.heap.IsKeyIter it d i es.size ep)(Oe:s.heap.get? d=some ob)(Of:ob.data=.dict es ep)(he:es[i]?=some e)
  (hQ:∀h',h'.IsKeyIter it d (i+1) es.size ep->Heap.SameBut it s.heap h'->Q (some e.key) {s with heap:=h'}):wpAny (model prog w) A (pyNext (.ref it)) Q E s:=by
 obtain⟨o,ho,hc,hd⟩:=id B_;unfold pyNext;refine AV (wpAny_attempt (wpAny_callSpecial?_slot (name:=Str.ofString "__next__") B_.typeIs F.slot_dict_keyiterator_next
  (Kj F.slot_dict_keyiterator_next B_.typeIs F.entry_dict_keyiterator_next ?_ (F.args_dict_keyiterator_next_1 _))))
 refine AV (Jl (AV (AV ?_)))
 first|refine AV (wpAny_typeNameOfWhole_keyiter B_.typeIs (Jl ?_))|refine AV (wpAny_typeNameOf_keyiter B_.typeIs (Jl ?_))
 refine AV (wpAny_fieldsOf ho hd ?_);simp only[show Builtin.Dict_items.ownsTuple "dict_keyiterator"=false by decide,Kh,if_false]
 show wpAny _ _ (if (Value.ref d == Value.none)=true then _ else _) _ _ s
 rw[Jm (show ¬ ((Value.ref d == Value.none)=true) from JH)];refine AV (Jl (AV (JZ Oe Of ?_)));rw[Jm (by simp)]
 refine AV (Jl (AV (wpAny_dictEpoch Oe Of ?_)));rw[Jm (by simp)]
 refine Jl ?_;simp only[show ¬ ((i:Int)<0) from by omega,if_false,Kl,he]
 refine AV ?_
 first|refine AV (wpAny_typeNameOfWhole_keyiter B_.typeIs (Jl ?_))|refine AV (wpAny_typeNameOf_keyiter B_.typeIs (Jl ?_))
 refine AV (wpAny_isOneOf_keyiter B_.typeIs ?_);show wpAny _ _ (setField (.ref it) 1 (rawInt ((i:Int)+1)) >>=_) _ _ s;refine AV (Ko ho hd (by simp) ?_)
 have Lf:(s.heap.update it (Obj.mapFields (·.setIfInBounds 1 (rawInt ((i:Int)+1))))).IsKeyIter it d (i+1) es.size ep:=
  ⟨_,JV _ ho (Obj.isFreed_of_fields (Kk hd _)),(Obj.cls_mapFields ..).trans hc,by rw[Kk hd];simp[rawInt]⟩
 refine AV (Kc ?_);refine AV (wpAny_isOneOf_keyiter (s:={s with heap:=s.heap.update it (Obj.mapFields (·.setIfInBounds 1 (rawInt ((i:Int)+1))))}) Lf.typeIs ?_)
 show wpAny _ _ (pure e.key) _ _ _;exact Jl (Jl ⟨_,rfl,Jl (hQ _ Lf (Heap.SameBut.update ..))⟩)
theorem nM(hh:A.handled=none)(B_:s.heap.IsKeyIter it d i es.size ep)(Oe:s.heap.get? d=some ob)(Of:ob.data=.dict es ep)(he:es.size<=i)
  (hQ:∀h',Heap.ExtBut it s.heap h'->Q none {s with heap:=h'}):wpAny (model prog w) A (pyNext (.ref it)) Q E s:=by
 obtain⟨o,ho,hc,hd⟩:=id B_;unfold pyNext;refine AV (wpAny_attempt (wpAny_callSpecial?_slot (name:=Str.ofString "__next__") B_.typeIs F.slot_dict_keyiterator_next
  (Kj F.slot_dict_keyiterator_next B_.typeIs F.entry_dict_keyiterator_next ?_ (F.args_dict_keyiterator_next_1 _))))
 refine AV (Jl (AV (AV ?_)))
 first|refine AV (wpAny_typeNameOfWhole_keyiter B_.typeIs (Jl ?_))|refine AV (wpAny_typeNameOf_keyiter B_.typeIs (Jl ?_))
 refine AV (wpAny_fieldsOf ho hd ?_);simp only[show Builtin.Dict_items.ownsTuple "dict_keyiterator"=false by decide,Kh,if_false]
 show wpAny _ _ (if (Value.ref d == Value.none)=true then _ else _) _ _ s
 rw[Jm (show ¬ ((Value.ref d == Value.none)=true) from JH)];refine AV (Jl (AV (JZ Oe Of ?_)));rw[Jm (by simp)]
 refine AV (Jl (AV (wpAny_dictEpoch Oe Of ?_)));rw[Jm (by simp)]
 refine Jl ?_;simp only[show ¬ ((i:Int)<0) from by omega,if_false,Kl,Array.getElem?_eq_none he]
 refine AV ?_
 first|refine AV (wpAny_typeNameOfWhole_keyiter B_.typeIs (Jl ?_))|refine AV (wpAny_typeNameOf_keyiter B_.typeIs (Jl ?_))
 show wpAny _ _ (setField (.ref it) 0 .none >>=_) _ _ s;refine AV (Ko ho hd (by simp) ?_)
 show wpAny _ _ (newExc (.type "StopIteration") [] >>=_) _ _ _;refine AV ?_;simp only[newExc,newTuple];refine AV (JT ?_ (by size_fits))
 refine AV (m:=firstArgMember _ _) (wpAny_of_eq (a:=Value.none) (by first|rfl|(simp only[firstArgMember];rfl)) ?_)
 refine JT ?_ (by size_fits)
 simp only[raiseNew];refine AV (wpAny_handled ?_);rw[show A.in1.handled=none from hh];refine AV (Jl (wpAny_throw ?_));refine AV (wpAny_isInstance (T:="StopIteration") (b:=true) ⟨_,Jr _ rfl,rfl⟩ isSubtype_stop ?_);exact Jl (hQ _ (((Heap.SameBut.update ..).extBut.push _).push _))
theorem sP(hh:A.handled=none)(I d:Addr)(LA:d≠I)(hd:ob.data=.dict es ep) :
  Walks prog w A I [I,d] [I] es.size (λi v=>∃e,es[i]?=some e/\v=e.key) (λi h=>h.IsKeyIter I d i es.size ep/\h.get? d=some ob) where
 sub:=λb hb=>by simp at hb;simp[hb]
 frame:=λ_ _ _ st hk=>⟨st.1.at λo e=>hk I (by simp) o e,hk d (by simp) _ st.2⟩
 item:=λi s Q E hi st hQ=>by
  have he:es[i]?=some es[i]:=by simp[hi]
  refine nU st.1 st.2 hd he λh' Lf Nr=>?_
  exact hQ _ h' s.toks ⟨_,he,rfl⟩ ⟨Lf,Nr.extBut d ob LA st.2⟩ λb o hb e=>Nr.extBut b o (λh=>hb (by simp[h])) e
 done:=λs Q E st hQ=>nM hh st.1 st.2 hd (Jp _) λh' N4=>hQ h' s.toks λb o hb e=>N4 b o (λh=>hb (by simp[h])) e
 self:=λ_ _ _ _ st hQ=>wpAny_pyIter_keyiter st.1 hQ
theorem uI(lo:(d == sysModules)=false)(hx:ob.ExactDict)(hd:ob.data=.dict es ep):KdlSrc prog w "dict" d d es.size (λi v=>∃e,es[i]?=some e/\v=e.key) (λh=>h.get? d=some ob) where
 type:=λ_ hm=>⟨_,hm,hx.1⟩
 there:=λ_ hm=>⟨Jt hm,Jt hm⟩
 keep:=λ_ _ hm hk=>hk d (.inl rfl) _ hm
 notList:=by decide
 notTuple:=by decide
 hint:=λ_ _ _ _ hm hq=>kdl_hint_dict ⟨_,hm,hx.1⟩ hq
 iter:=λ_ _ hh hm=>⟨_,_,(λ_ _ hq=>Ag lo hm hx hd hq),sP hh _ d (JI (Jt hm)) hd,⟨⟨_,Jr _ rfl,rfl,rfl⟩,Jn _ hm⟩⟩
end
end L2
namespace L2
open PySem PySem.Spec PyProof.Rows
section
variable {X:Cx}
theorem zL(neg:Bool):VO X (compareOp (if neg=true then .IsNot else .Is)) (tL neg):=by
 intro a_ s Z H x y v u v2 u2 M Q Q2 I rv ru dx dy rm q c_;unfold tL at q;split at q
 ·cases (show u=.i_ from dy);cases neg with
  |true=>exact VO.of3 yD a_ s Z H x .i_ v .i_ v2 u2 M Q Q2 I rv ru dx dy rm ⟨rfl,by rw[Bool.true_xor]at q;exact q⟩ c_
  |false=>exact VO.of3 G1 a_ s Z H x .i_ v .i_ v2 u2 M Q Q2 I rv ru dx dy rm ⟨rfl,by rw[Bool.false_xor]at q;exact q⟩ c_
 ·rename_i b;cases (show u=.bl b from dy);cases ru;have fin:∀k,Q (.bl k) M->EP X a_ Z Q2 (.bool k) s:=λk q=>⟨.bl k,H,I,rfl,c_ _ _ _ _ bU rm (.refl _) q⟩
  split at q
  ·rename_i a;cases (show v=.bl a from dx);cases rv;have e:((Value.bool a == Value.bool b):Bool)=(a == b):=by cases a<;>cases b<;>rfl
   cases neg with
   |true=>exact wpAny_isNot_plain rfl (by rw[e];rw[Bool.true_xor]at q;exact fin _ q)
   |false=>exact wpAny_is_plain rfl (by rw[e];rw[Bool.false_xor]at q;exact fin _ q)
  ·cases (show v=.i_ from dx);cases rv;cases neg with
   |true=>exact wpAny_isNot_other rfl (λz=>nomatch z) (fin _ q)
   |false=>exact wpAny_is_other rfl (λz=>nomatch z) (fin _ q)
  ·exact q.elim
 ·exact q.elim
theorem vL:∀{ds:List D}{us:List β},Paired R ds us->(∀d u,d∈ds->R d u->e u=f d)->us.any e=ds.any f
 |_,_,.nil,_=>rfl
 |d::ds,u::us,.cons r t,h=>by
  rw[List.any_cons,List.any_cons,h d u Jo r,vL t λd u hd=>h d u (Jk _ hd)]
theorem iJ{K:Ks}:∀{ds:List D}{vs:List V}{us:List Value},DenL K H ds vs->Vals vs us->Paired (λd u=>∃v,Den K H d v/\RelV v u) ds us
 |[],_,_,h,r=>by cases (show _=[] from h);cases r;exact .nil
 |d::ds,_,_,h,r=>by
  obtain⟨v,r',rfl,dv,dl⟩:=h;cases r with
  |cons r1 r2=>exact .cons ⟨v,dv,r1⟩ (iJ dl r2)
theorem Paired.mem_right:∀{l:List α}{m:List β},Paired R l m->∀b∈m,∃a∈l,R a b
 |_,_,.nil,b,hb=>by cases hb
 |a::l,c::m,.cons r t,b,hb=>by
  rcases Jq.mp hb with rfl|hb
  ·exact⟨a,Jo,r⟩
  ·obtain⟨a',h1,h2⟩:=Paired.mem_right t b hb;exact⟨a',Jk _ h1,h2⟩
theorem zS(hu:X.A.units+64<cLine)(neg:Bool):VO X (compareOp (if neg=true then .NotIn else .In)) (jq neg):=by
 intro a_ s Z H x y v u v2 u2 M Q Q2 I rv ru dx dy rm q c_;unfold jq at q;split at q
 ·rename_i ds Sa;obtain⟨p1,p2,q⟩:=q;obtain⟨p,vs,rfl,hq,dl⟩:=iH rm Sa dy;cases ru;obtain⟨H',I',t',d1⟩:=og I rm dx p1;have MK:=dl.mono t';have fin:EP X a_ Z Q2 (.bool (neg ^^ ds.any λd=>eqD d (res M x))) s:=⟨.bl _,H,I,rfl,c_ _ _ _ _ bU rm (.refl _) q⟩
  classical
  have key:∀{its:List Value},Vals vs its->∃e:Value->Bool,its.any e=(ds.any λd=>eqD d (res M x))/\∀w∈its,SeqAt.EqAt X.A.in1 s w v2 (e w):=λ{its} r=>by
   have pd:=iJ MK r
   let e:Value->Bool:=λw=>if h:∃d∈ds,∃v,Den X.K H' d v/\RelV v w then eqD h.choose (res M x) else false
   have he:∀d w,d∈ds->(∃v,Den X.K H' d v/\RelV v w)->e w=eqD d (res M x):=λd w hd ⟨v',dv,KG⟩=>by
    have h:∃d∈ds,∃v,Den X.K H' d v/\RelV v w:=⟨d,hd,v',dv,KG⟩;obtain⟨hm,PZ,Mg,P0⟩:=h.choose_spec;have:PZ=v':=P0.inj KG;subst this;have e1:h.choose=d:=mW I' rfl 8 (JD.mp p2 _ hm) (JD.mp p2 _ hd) Mg dv;show (if h:∃d∈ds,∃v,Den X.K H' d v/\RelV v w then eqD h.choose (res M x) else false)=_
    rw[dif_pos h,e1]
   refine⟨e,vL pd he,λw hw=>?_⟩
   obtain⟨d,hd,v',dv,KG⟩:=Paired.mem_right pd w hw;rw[he d w hd ⟨v',dv,KG⟩];exact (CC I' rfl 8 (A:=X.A.in1) (JD.mp p2 _ hd) p1 dv d1 KG rv (by show X.A.units+1+8<cLine;omega)).2.2
  rcases hq with hq|hq
  ·obtain⟨its,r,Nc,hz⟩:=I.list hq;obtain⟨e,e1,e2⟩:=key r;have ea:its.toArray.any e=ds.any λd=>eqD d (res M x):=by rw[<-e1];simp
   cases neg with
   |true=>exact SeqAt.notIn_listAt e Nc.isList (λw hw=>e2 w (by simpa using hw)) (by rw[ea];rw[Bool.true_xor]at fin;exact fin)
   |false=>exact SeqAt.in_listAt e Nc.isList (λw hw=>e2 w (by simpa using hw)) (by rw[ea];rw[Bool.false_xor]at fin;exact fin)
  ·obtain⟨its,r,Nc,hz⟩:=I.tuple hq;obtain⟨e,e1,e2⟩:=key r;have ea:its.toArray.any e=ds.any λd=>eqD d (res M x):=by rw[<-e1];simp
   cases neg with
   |true=>exact SeqAt.notIn_tupleAt e Nc (λw hw=>e2 w (by simpa using hw)) (by rw[ea];rw[Bool.true_xor]at fin;exact fin)
   |false=>exact SeqAt.in_tupleAt e Nc (λw hw=>e2 w (by simpa using hw)) (by rw[ea];rw[Bool.false_xor]at fin;exact fin)
 ·split at q
  ·rename_i o e;obtain⟨a,ov,rfl,g,od⟩:=gR (X:=X) e rm dy dx;cases ru;refine G6 neg (by omega) I g rv λs' I'=>⟨.bl (neg ^^ ov.isSome),H,I',rfl,c_ _ _ (.bl _) _ bU rm (.refl _) ?_⟩
   have:o.isSome=ov.isSome:=by
    cases o<;>cases ov<;>first|rfl|exact od.elim
   rw[<-this];exact q
  ·exact q.elim
theorem iE(hu:X.A.units+64<cLine)(op:CmpOp):VO X (compareOp op) (aI op):=by
 cases op with
 |Eq=>exact Ak hu false
 |NotEq=>exact Ak hu true
 |Lt=>exact (VO.of3 GE).imp λ_ _ _ _ h=>iy h
 |LtE=>exact (VO.of3 GL).imp λ_ _ _ _ h=>iy h
 |Gt=>exact (VO.of3 Ha).imp λ_ _ _ _ h=>iy h
 |GtE=>exact (VO.of3 GT).imp λ_ _ _ _ h=>iy h
 |Is=>exact zL false
 |IsNot=>exact zL true
 |In=>exact zS hu false
 |NotIn=>exact zS hu true
theorem gV{K:Ks}(h:DenL K H [d] vs):∃v,vs=[v]/\Den K H d v:=by
 obtain⟨v,r,rfl,dv,rfl⟩:=h;exact⟨v,rfl,dv⟩
def rLen0(xs:List D)(M:MH)(Q:VK3):Prop:=match xs with
  |[x]=>match ax M x with
   |some ds=>Q (.int ds.length) M
   |none=>False
  |_=>False
theorem xR:VC X (.builtin "len") rLen0:=(VC.of3 DS).imp λxs M Q h=>by
 simp only[rLen0]at h;split at h
 ·rename_i x;split at h
  ·rename_i ds e;refine⟨x,ds,rfl,?_,h⟩;cases x with
   |tup es=>exact .inr (by rw[show es=ds from JE e])
   |g_ es=>exact .inl (.inl (by rw[show es=ds from JE e]))
   |ref a=>
    cases q:M a with
    |none=>simp[ax,am,q]at e
    |some o=>
     cases o with
     |lst es=>exact .inl (.inr ⟨a,rfl,by rw[q];simp[ax,am,q]at e;rw[e]⟩)
     |_=>simp[ax,am,q]at e
   |_=>cases e
  ·exact h.elim
 ·exact h.elim
theorem mP{s:Shared}{ks:List (List Int)}{xs:List (List Int×Addr×Value)}(I:Inv X a_ Z H s)(e:Rd H p (.ext (aB p xs)))(z:TabOk X.K H p ks xs vs) :
  ∃ob es ep,s.heap.get? p=some ob/\ob.ExactDict/\ob.data=.dict es ep/\es.toList=(xs.map λx=>(⟨tH x.1,.ref x.2.1,x.2.2⟩:DictEntry))/\es.size=ks.length:=by
 obtain⟨⟨ob,es,ep,h1,h2,h3,h4⟩,_⟩:=(show ObjOk X.prog X.w H s.heap p (.ext (aB p xs)) from e.ok I.j_);refine⟨ob,es,ep,h1,h2,h3,h4,?_⟩;have:=congrArg List.length h4;have l3:xs.length=ks.length:=by rw[<-z.kx];simp
 simp at this;omega
theorem Cn:VC X (.builtin "len") (rBi .len):=by
 intro a_ s Z H xs vs us M Q Q2 I rs dl rm q c_;by_cases h:rLen0 xs M Q
 ·exact xR a_ s Z H xs vs us M Q Q2 I rs dl rm h c_
 ·simp only[rBi]at q;split at q
  ·split at q
   ·rename_i ds e;exact absurd (by simp only[rLen0,e];exact q) h
   ·split at q
    ·rename_i ks ds e;obtain⟨v,rfl,dv⟩:=gV dl;obtain⟨p,ws,ts,rfl,rd,z,_⟩:=ef e rm dv;obtain⟨ob,es,ep,h1,h2,h3,h4,h5⟩:=mP I rd z;obtain⟨u,rfl,rx⟩:=g7 rs;cases rx;refine Hg z.no h1 h2 h3 (by have:=z.sz;have:=sizeLine_eq;omega) ⟨.int es.size,H,I.tok _,⟨_,rfl⟩,?_⟩
     rw[h5];exact c_ _ _ _ _ dH rm (.refl _) q
    ·exact q.elim
  ·exact q.elim
theorem Bb:VC X (.builtin "abs") (rBi .abs):=(VC.of3 Ec).imp λxs M Q h=>by
 simp only[rBi]at h;split at h
 ·exact⟨_,rfl,h⟩
 ·exact h.elim
theorem BF(hc:X.calm=true):VC X (.builtin "max") (rBi .max):=(VC.of3 (EM hc)).imp λxs M Q h=>by
 simp only[rBi]at h;split at h
 ·exact⟨_,_,rfl,h⟩
 ·exact h.elim
theorem BU(hc:X.calm=true):VC X (.builtin "min") (rBi .min):=(VC.of3 (DY hc)).imp λxs M Q h=>by
 simp only[rBi]at h;split at h
 ·exact⟨_,_,rfl,h⟩
 ·exact h.elim
theorem lG{K:Ks}:∀ks:List Int,DenL K H (ks.map D.int) (ks.map V.int)
 |[]=>rfl
 |k::r=>⟨_,_,rfl,rfl,lG r⟩
theorem nL{K:Ks}:∀{ts:List (List Int×Addr×Value)},(∀x∈ts,SqT K H x.2.1 (x.1.map V.int))->DenL K H ((ts.map (·.1)).map jd) (ts.map λx=>V.ref x.2.1)
 |[],_=>rfl
 |x::r,h=>⟨_,_,rfl,nw (h x Jo) (lG _),nL λy hy=>h y (Jk _ hy)⟩
theorem l5:∀ts:List (List Int×Addr×Value),Vals (ts.map λx=>V.ref x.2.1) (ts.map λx=>Value.ref x.2.1)
 |[]=>.nil
 |x::r=>.cons rfl (l5 r)
theorem zg(fz:Bool)(hc:X.calm=true):VC X (.type "list") (rBi (.list fz)):=by
 intro a_ s Z H xs vs us M Q Q2 I r dl rm q c_;simp only[rBi]at q;split at q
 ·rename_i x;split at q
  ·rename_i ds e;obtain⟨v,rfl,dv⟩:=gV dl;obtain⟨p,vs,rfl,hq,K6⟩:=iH rm e dv;refine thn (gD a_ s Z H _ us (λw H'=>∃l,w=.ref l/\H l=none/\H'=upd H l (.lst vs)) I r ⟨p,vs,rfl,hq,λl hl=>⟨l,rfl,hl,rfl⟩⟩) λu s1 z_=>?_
   obtain⟨w,H1,I1,r1,l,e1,hl,e2⟩:=z_;subst e1;subst e2;cases r1;exact de I1 hl K6 rm (.refl _) q c_
  ·split at q
   ·rename_i ks ds e;obtain⟨v,rfl,dv⟩:=gV dl;obtain⟨p,ws,ts,rfl,rd,z,_⟩:=ef e rm dv;obtain⟨ob,es,ep,h1,h2,h3,h4,h5⟩:=mP I rd z;obtain⟨u,rfl,rx⟩:=g7 r;cases rx;have hz:es.size<=sizeLine:=by have:=z.sz;omega
    refine PySem.W.kdl_call (uI z.no h2 h3) (I.ok.hd hc) h1 hz λh' tk LV c' kp e hi=>?_
    have hp:H s.heap.objs.size=none:=I.j_.fresh (Jp _);have ea:LV.toList=ts.map λx=>Value.ref x.2.1:=by
     refine List.ext_getElem? λj=>?_
     by_cases hj:j<LV.size
     ·have e1:LV[j]?=some LV[j]:=by simp[hj]
      obtain⟨en,e2,e3⟩:=hi.2 j _ e1;have e4:es.toList[j]?=some en:=by simpa using e2
      rw[h4,Jz]at e4;cases hx:ts[j]? with
      |none=>rw[hx]at e4;cases e4
      |some x=>
       rw[hx]at e4;cases e4;rw[Array.getElem?_toList,e1,e3,Jz,hx];rfl
     ·have h6:=hi.1;have h7:ts.length=es.size:=by
       have:=congrArg List.length h4;simpa using this.symm
      rw[List.getElem?_eq_none (by simpa using hj),List.getElem?_eq_none (by rw[Jv];omega)]
    have hv:Vals (ts.map λx=>V.ref x.2.1) LV.toList:=by rw[ea];exact l5 ts
    have I1:=I.laid (a:=s.heap.objs.size) (o:=.lst (ts.map λx=>V.ref x.2.1)) (t':=tk) kp (Jp _) ⟨by rw[hv.length,ea,Jv];have:=z.sz;rw[<-z.kx,Jv]at this;exact this,LV.toList,c',hv,by simpa using e⟩
    exact de I1 hp (by rw[<-z.kx];exact nL z.at_) rm (.refl _) q c_
   ·exact q.elim
 ·exact q.elim
end
end L2
namespace L2
open PySem PySem.Spec PyProof.Rows PySem.W
theorem ints_of{K:Ks}:∀{es:List D}{ns:List Int}{vs:List V}{us:List Value},bz es=some ns->DenL K H es vs->Vals vs us->IntsAre us ns
 |[],ns,vs,us,h,dl,r=>by
  cases (show []=ns from JE h);cases (show vs=[] from dl);cases r;exact .nil
 |d::es,ns,vs,us,h,dl,r=>by
  obtain⟨v,ws,rfl,dv,dl⟩:=dl;cases d with
  |int i=>
   cases q:bz es with
   |none=>simp[bz,q]at h
   |some ms=>
    simp[bz,q]at h;subst h;cases (show v=.int i from dv);cases r with
    |cons h1 h2=>
     obtain⟨t,rfl⟩:=h1;exact .cons _ _ (ints_of q dl h2)
  |_=>simp[bz]at h
end L2
namespace L2
open PySem PySem.Spec PyProof.Rows
theorem ex9{α β γ δ:Sort _}{P1 P2 P3 P4 P5:α->β->γ->δ->Prop}{R:Prop}(h:∃a b c d,P1 a b c d/\P2 a b c d/\P3 a b c d/\P4 a b c d/\P5 a b c d)(k:∀a b c d,P1 a b c d->P2 a b c d->P3 a b c d->P4 a b c d->P5 a b c d->R):R:=
 h.elim λa h=>h.elim λb h=>h.elim λc h=>h.elim λd h=>k a b c d h.1 h.2.1 h.2.2.1 h.2.2.2.1 h.2.2.2.2
def Hj(K:Ks)(r:D->D->MH->VK3->Prop):R2:=λv u H Q2=>∃x y M Q,Den K H x v/\Den K H y u/\RelM K M H/\r x y M Q/\Back K H Q Q2
def Ge(K:Ks)(r:D->MH->VK3->Prop):V->Hp->VK->Prop:=λv H Q2=>∃x M Q,Den K H x v/\RelM K M H/\r x M Q/\Back K H Q Q2
def F8(K:Ks)(r:List D->MH->VK3->Prop):List V->Hp->VK->Prop:=λvs H Q2=>∃xs M Q,DenL K H xs vs/\RelM K M H/\r xs M Q/\Back K H Q Q2
section
variable {X:Cx}
theorem VO.op{f:Value->Value->Sem Value}{r:D->D->MH->VK3->Prop}(h:VO X f r):OpR X f (Hj X.K r):=λa_ s Z H v u v2 u2 Q2 I rv ru ⟨x,y,M,Q,dx,dy,rm,q,c_⟩=>h a_ s Z H x y v u v2 u2 M Q Q2 I rv ru dx dy rm q c_
theorem VU.op{f:Value->Sem Value}{r:D->MH->VK3->Prop}(h:VU X f r):UnR X f (Ge X.K r):=λa_ s Z H v v2 Q2 I rv ⟨x,M,Q,dx,rm,q,c_⟩=>h a_ s Z H x v v2 M Q Q2 I rv dx rm q c_
theorem VC.op{f:Value}{r:List D->MH->VK3->Prop}(h:VC X f r):CallR X f (F8 X.K r):=λa_ s Z H vs us Q2 I rv ⟨xs,M,Q,dx,rm,q,c_⟩=>h a_ s Z H xs vs us M Q Q2 I rv dx rm q c_
end
section
variable {K:Ks}
theorem qm{ta tb:St3->MH->VK3->XN->Prop}{R3:D->D->MH->Prop}{R2:V->V->Hp->Prop}(rm:RelM K M H)(ds:DenS K H h_ Z)(lk:LkE K cls H E3 (E2 Z))
  (h:ta h_ M (λx M1=>tb h_ M1 (λy M2=>R3 x y M2) E3) E3) (k:∀v u H' x y M',Den K H' x v->Den K H' y u->RelM K M' H'->TM K H H'->R3 x y M'->R2 v u H') :
  low K cls E2 ta Z H λv H1=>low K cls E2 tb Z H1 λu H2=>R2 v u H2:=
 ⟨h_,M,_,E3,rm,ds,lk,h,λv H1 x M1 dv o_ t1 h1=>⟨h_,M1,_,E3,o_,ds.mono t1,lk.mono t1,h1,λu H2 y M2 du H_ t2 h2=>k v u H2 x y M2 (dv.mono t2) du H_ (t1.trans t2) h2⟩⟩
theorem aZ{ta:St3->MH->VK3->XN->Prop}{R3:VK3}{R2:VK}(rm:RelM K M H)(ds:DenS K H h_ Z)(lk:LkE K cls H E3 (E2 Z))(h:ta h_ M R3 E3)(k:∀v H' x M',Den K H' x v->RelM K M' H'->TM K H H'->R3 x M'->R2 v H') :
  low K cls E2 ta Z H R2:=⟨h_,M,R3,E3,rm,ds,lk,h,k⟩
end
section
variable {X:Cx}{cls:Nat->Addr}{E2:St->XK}{a b c e:Expr}{ta tb tc te:St3->MH->VK3->XN->Prop}{pos:Pos}
theorem Dx{i:Nat}{x:Str}(hN:X.N[i]?=some x)(hv:Vis X.env.scope x)(hd:(x == ("__debug__" : Str))=false)(K9:(x == ("__classdict__" : Str))=false) :
  PE X (.Name x pos) (low X.K cls E2 λZ M Q _=>match Z[i]? with|some (some d)=>Q d M|_=>False):=
 (mh hN hv hd K9).imp λZ H Q2 k_=>ex9 k_ λh_ M Q E3 rm ds lk h c_=>by
  try dsimp only at h
  split at h
  ·rename_i d e;obtain⟨v,e1,e2⟩:=ds.2 i d e;exact⟨v,e1,c_ _ _ _ _ e2 rm (.refl _) h⟩
  ·exact h.elim
theorem nC{v:V}{d:D}(h:PE X e (tC v))(hd:∀H,Den X.K H d v):PE X e (low X.K cls E2 λ_ M Q _=>Q d M):=
 h.imp λZ H Q2 k_=>ex9 k_ λh_ M Q E3 rm ds lk h c_=>c_ _ _ _ _ (hd H) rm (.refl _) h
theorem Ek{op:Operator}{r:D->D->MH->VK3->Prop}(ho:VO X (binaryOp op) r)(ha:PE X a (low X.K cls E2 ta))(hb:PE X b (low X.K cls E2 tb)) :
  PE X (.BinOp a op b pos) (low X.K cls E2 λZ M Q E=>ta Z M (λx M1=>tb Z M1 (λy M2=>r x y M2 Q) E) E):=
 (E6 ho.op ha hb).imp λZ H Q2 k_=>ex9 k_ λh_ M Q E3 rm ds lk h c_=>qm rm ds lk h λv u H' x y M' dx dy r_ t q=>⟨x,y,M',Q,dx,dy,r_,q,c_.mono t⟩
theorem GX{op:UnaryOp}{r:D->MH->VK3->Prop}(ho:VU X (unaryOp op) r)(ha:PE X a (low X.K cls E2 ta)) :
  PE X (.UnaryOp op a pos) (low X.K cls E2 λZ M Q E=>ta Z M (λx M1=>r x M1 Q) E):=
 (Et ho.op ha).imp λZ H Q2 k_=>ex9 k_ λh_ M Q E3 rm ds lk h c_=>aZ rm ds lk h λv H' x M' dx r_ t q=>⟨x,M',Q,dx,r_,q,c_.mono t⟩
theorem DG{op:CmpOp}{r:D->D->MH->VK3->Prop}(ho:VO X (compareOp op) r)(ha:PE X a (low X.K cls E2 ta))(hb:PE X b (low X.K cls E2 tb))(hm:behindInMarks op b=false) :
  PE X (.Compare a [op] [b] pos) (low X.K cls E2 λZ M Q E=>ta Z M (λx M1=>tb Z M1 (λy M2=>r x y M2 Q) E) E):=
 (yB ho.op ha hb hm).imp λZ H Q2 k_=>ex9 k_ λh_ M Q E3 rm ds lk h c_=>qm rm ds lk h λv u H' x y M' dx dy r_ t q=>⟨x,y,M',Q,dx,dy,r_,q,c_.mono t⟩
abbrev boolQ(Q:Bool->MH->Prop):VK3:=λr M=>match r with
 |.bl k=>Q k M
 |_=>False
theorem iD{K:Ks}{H:Hp}{Q:Bool->MH->Prop}{Q2:Bool->Hp->Prop}(k:∀b H' M',RelM K M' H'->TM K H H'->Q b M'->Q2 b H'):Back K H (boolQ Q) λx H1=>∃k,x=.bl k/\Q2 k H1:=λv H' d M' dv rm t q=>by
 unfold boolQ at q;split at q
 ·exact⟨_,dv,k _ _ _ rm t q⟩
 ·exact q.elim
theorem D1{op:CmpOp}{r:D->D->MH->VK3->Prop}(ho:VO X (compareOp op) r)(ha:PE X a (low X.K cls E2 ta))(hb:PE X b (low X.K cls E2 tb))(hm:behindInMarks op b=false) :
  PT X (.Compare a [op] [b] pos) (cq X.K cls E2 λZ M Q E=>ta Z M (λx M1=>tb Z M1 (λy M2=>r x y M2 (boolQ Q)) E) E):=
 (zy ho.op ha hb hm).imp λZ H Q2 k_=>ex9 k_ λh_ M Q E3 rm ds lk h c_=>qm rm ds lk h λv u H' x y M' dx dy r_ t q=>⟨x,y,M',_,dx,dy,r_,q,(iD c_).mono t⟩
theorem Eu(ha:PE X a (low X.K cls E2 ta))(he:∀whole,isTrue a X.env whole=(do let v<-whole;standAt a.pos;holding [v] (truthy v))):PT X a (cq X.K cls E2 λZ M Q E=>ta Z M (boolQ Q) E):=
 (AL ha he).imp λZ H Q2 k_=>ex9 k_ λh_ M Q E3 rm ds lk h c_=>aZ rm ds lk h λv H' x M' dx r_ t q=>iD c_ v H' x M' dx r_ t q
variable {tA tB:St3->MH->(Bool->MH->Prop)->XN->Prop}{aU:List Expr}
theorem iR{K:Ks}{Z:St}{H:Hp}{h_:St3}{M:MH}{E3:XN}{R3:Bool->MH->Prop}{R2:Bool->Hp->Prop}(rm:RelM K M H)(ds:DenS K H h_ Z)(lk:LkE K cls H E3 (E2 Z))(h:tA h_ M R3 E3)(k:∀b H' M',RelM K M' H'->TM K H H'->R3 b M'->R2 b H') :
  cq K cls E2 tA Z H R2:=⟨h_,M,R3,E3,rm,ds,lk,h,k⟩
theorem rB(ha:PT X a (cq X.K cls E2 tA)):PW X (.BoolOp .And [a] pos) (cq X.K cls E2 tA):=yC ha
theorem vE(ha:PT X a (cq X.K cls E2 tA)):PW X (.BoolOp .Or [a] pos) (cq X.K cls E2 tA):=Av ha
theorem sD(ha:PT X a (cq X.K cls E2 tA))(hb:PW X (.BoolOp .And (b::aU) pos) (cq X.K cls E2 tB)) :
  PW X (.BoolOp .And (a::b::aU) pos) (cq X.K cls E2 λZ M Q E=>tA Z M (λc M1=>if c=true then tB Z M1 Q E else Q false M1) E):=
 (CU ha hb).imp λZ H Q2 k_=>ex9 k_ λh_ M Q E3 rm ds lk h c_=>iR rm ds lk h λc H' M' r_ t q=>by
  cases c with
  |true=>rw[Js rfl]at q ⊢;exact iR r_ (ds.mono t) (lk.mono t) q λb H2 M2 r2 t2 q2=>c_ b H2 M2 r2 (t.trans t2) q2
  |false=>rw[Jm JH]at q ⊢;exact c_ _ _ _ r_ t q
theorem xT(ha:PT X a (cq X.K cls E2 tA))(hb:PW X (.BoolOp .Or (b::aU) pos) (cq X.K cls E2 tB)) :
  PW X (.BoolOp .Or (a::b::aU) pos) (cq X.K cls E2 λZ M Q E=>tA Z M (λc M1=>if c=true then Q true M1 else tB Z M1 Q E) E):=
 (DT ha hb).imp λZ H Q2 k_=>ex9 k_ λh_ M Q E3 rm ds lk h c_=>iR rm ds lk h λc H' M' r_ t q=>by
  cases c with
  |true=>rw[Js rfl]at q ⊢;exact c_ _ _ _ r_ t q
  |false=>rw[Jm JH]at q ⊢;exact iR r_ (ds.mono t) (lk.mono t) q λb H2 M2 r2 t2 q2=>c_ b H2 M2 r2 (t.trans t2) q2
theorem Fa(ha:PT X a (cq X.K cls E2 tA)):PT X (.UnaryOp .Not a pos) (cq X.K cls E2 λZ M Q E=>tA Z M (λc M1=>Q (!c) M1) E):=
 (BR ha).imp λZ H Q2 k_=>ex9 k_ λh_ M Q E3 rm ds lk h c_=>iR rm ds lk h λc H' M' r_ t q=>c_ _ _ _ r_ t q
theorem zK(ha:PE X a (low X.K cls E2 ta))(hb:PE X (.BoolOp .And (b::aU) pos) (low X.K cls E2 tb)) :
  PE X (.BoolOp .And (a::b::aU) pos) (low X.K cls E2 λZ M Q E=>ta Z M (λx M1=>match x with|.bl c=>if c=true then tb Z M1 Q E else Q (.bl false) M1|_=>False) E):=
 (AD ha hb).imp λZ H Q2 k_=>ex9 k_ λh_ M Q E3 rm ds lk h c_=>aZ rm ds lk h λv H' x M' dx r_ t q=>by
  split at q
  ·rename_i c;cases (show v=.bl c from dx);refine⟨c,rfl,?_⟩;cases c with
   |true=>rw[Js rfl]at q ⊢;exact aZ r_ (ds.mono t) (lk.mono t) q λv2 H2 x2 M2 d2 r2 t2 q2=>c_ v2 H2 x2 M2 d2 r2 (t.trans t2) q2
   |false=>rw[Jm JH]at q ⊢;exact c_ _ _ _ _ bU r_ t q
  ·exact q.elim
theorem Fe(ha:PE X a (low X.K cls E2 ta))(hb:PE X (.BoolOp .Or (b::aU) pos) (low X.K cls E2 tb)) :
  PE X (.BoolOp .Or (a::b::aU) pos) (low X.K cls E2 λZ M Q E=>ta Z M (λx M1=>match x with|.bl c=>if c=true then Q (.bl true) M1 else tb Z M1 Q E|_=>False) E):=
 (EB ha hb).imp λZ H Q2 k_=>ex9 k_ λh_ M Q E3 rm ds lk h c_=>aZ rm ds lk h λv H' x M' dx r_ t q=>by
  split at q
  ·rename_i c;cases (show v=.bl c from dx);refine⟨c,rfl,?_⟩;cases c with
   |true=>rw[Js rfl]at q ⊢;exact c_ _ _ _ _ bU r_ t q
   |false=>rw[Jm JH]at q ⊢;exact aZ r_ (ds.mono t) (lk.mono t) q λv2 H2 x2 M2 d2 r2 t2 q2=>c_ v2 H2 x2 M2 d2 r2 (t.trans t2) q2
  ·exact q.elim
theorem Ep(ha:PE X a (low X.K cls E2 ta)):PE X (.UnaryOp .Not a pos) (low X.K cls E2 λZ M Q E=>ta Z M (λx M1=>match x with|.bl c=>Q (.bl (!c)) M1|_=>False) E):=
 (Cj ha).imp λZ H Q2 k_=>ex9 k_ λh_ M Q E3 rm ds lk h c_=>aZ rm ds lk h λv H' x M' dx r_ t q=>by
  split at q
  ·rename_i c;cases (show v=.bl c from dx);exact⟨c,rfl,c_ _ _ _ _ bU r_ t q⟩
  ·exact q.elim
theorem G8(hc:PT X c (cq X.K cls E2 tA))(ha:PE X a (low X.K cls E2 ta))(hb:PE X b (low X.K cls E2 tb)) :
  PE X (.IfExp c a b pos) (low X.K cls E2 λZ M Q E=>tA Z M (λk M1=>if k=true then ta Z M1 Q E else tb Z M1 Q E) E):=
 (wX hc ha hb).imp λZ H Q2 k_=>ex9 k_ λh_ M Q E3 rm ds lk h c_=>iR rm ds lk h λk H' M' r_ t q=>by
  cases k with
  |true=>rw[Js rfl]at q ⊢;exact aZ r_ (ds.mono t) (lk.mono t) q λv2 H2 x2 M2 d2 r2 t2 q2=>c_ v2 H2 x2 M2 d2 r2 (t.trans t2) q2
  |false=>rw[Jm JH]at q ⊢;exact aZ r_ (ds.mono t) (lk.mono t) q λv2 H2 x2 M2 d2 r2 t2 q2=>c_ v2 H2 x2 M2 d2 r2 (t.trans t2) q2
theorem yN{op KN:CmpOp}{r r':D->D->MH->VK3->Prop}(ho:VO X (compareOp op) r)(Lc:VO X (compareOp KN) r')(ha:PE X a (low X.K cls E2 ta))(hb:PE X b (low X.K cls E2 tb))(hc:PE X c (low X.K cls E2 tc))(hm:lastMarks [op,KN] [b,c]=false) :
  PE X (.Compare a [op,KN] [b,c] pos) (low X.K cls E2 λZ M Q E=>ta Z M (λx M1=>tb Z M1 (λy M2=>r x y M2 λz M3=>match z with
   |.bl k=>if k=true then tc Z M3 (λz M4=>r' y z M4 Q) E else Q (.bl false) M3
   |_=>False) E) E):=
 (uP ho.op Lc.op ha hb hc hm).imp λZ H Q2 k_=>ex9 k_ λh_ M Q E3 rm ds lk h c_=>qm rm ds lk h λv u H' x y M' dx dy r_ t q=>⟨x,y,M',_,dx,dy,r_,q,λw H1 z M1 dz o_ t1 q1=>by
  split at q1
  ·rename_i k;refine⟨k,dz,?_⟩;cases k with
   |true=>rw[Js rfl]at q1 ⊢;exact aZ o_ ((ds.mono t).mono t1) ((lk.mono t).mono t1) q1 λv2 H2 x2 M2 d2 r2 t2 q2=>⟨y,x2,M2,Q,(dy.mono t1).mono t2,d2,r2,q2,(c_.mono t).mono (t1.trans t2)⟩
   |false=>rw[Jm JH]at q1 ⊢;exact c_ _ _ _ _ bU o_ (t.trans t1) q1
  ·exact q1.elim⟩
theorem yJ{op KN:CmpOp}{r r':D->D->MH->VK3->Prop}(ho:VO X (compareOp op) r)(Lc:VO X (compareOp KN) r')(ha:PE X a (low X.K cls E2 ta))(hb:PE X b (low X.K cls E2 tb))(hc:PE X c (low X.K cls E2 tc))(hm:lastMarks [op,KN] [b,c]=false) :
  PT X (.Compare a [op,KN] [b,c] pos) (cq X.K cls E2 λZ M Q E=>ta Z M (λx M1=>tb Z M1 (λy M2=>r x y M2 λz M3=>match z with
   |.bl k=>if k=true then tc Z M3 (λz M4=>r' y z M4 (boolQ Q)) E else Q false M3
   |_=>False) E) E):=
 (u0 ho.op Lc.op ha hb hc hm).imp λZ H Q2 k_=>ex9 k_ λh_ M Q E3 rm ds lk h c_=>qm rm ds lk h λv u H' x y M' dx dy r_ t q=>⟨x,y,M',_,dx,dy,r_,q,λw H1 z M1 dz o_ t1 q1=>by
  split at q1
  ·rename_i k;refine⟨k,dz,?_⟩;cases k with
   |true=>rw[Js rfl]at q1 ⊢;exact aZ o_ ((ds.mono t).mono t1) ((lk.mono t).mono t1) q1 λv2 H2 x2 M2 d2 r2 t2 q2=>⟨y,x2,M2,_,(dy.mono t1).mono t2,d2,r2,q2,((iD c_).mono t).mono (t1.trans t2)⟩
   |false=>rw[Jm JH]at q1 ⊢;exact⟨false,rfl,c_ _ _ _ o_ (t.trans t1) q1⟩
  ·exact q1.elim⟩
variable {es:List Expr}{tr:St3->MH->(List D->MH->Prop)->XN->Prop}
theorem fw{K:Ks}{Z:St}{H:Hp}{h_:St3}{M:MH}{E3:XN}{R3:List D->MH->Prop}{R2:List V->Hp->Prop}(rm:RelM K M H)(ds:DenS K H h_ Z)(lk:LkE K cls H E3 (E2 Z))(h:tr h_ M R3 E3)(k:∀vs H' xs M',DenL K H' xs vs->RelM K M' H'->TM K H H'->R3 xs M'->R2 vs H') :
  dY K cls E2 tr Z H R2:=⟨h_,M,R3,E3,rm,ds,lk,h,k⟩
theorem Ei:PA X [] (dY X.K cls E2 λ_ M Q _=>Q [] M):=pa_nil.imp λZ H Q2 k_=>ex9 k_ λh_ M Q E3 rm ds lk h c_=>c_ _ _ _ _ .nil rm (.refl _) h
theorem Bt(ha:PE X e (low X.K cls E2 te))(hr:PA X es (dY X.K cls E2 tr))(hs:starEach (e::es) X.env=(false,eval e X.env)::starEach es X.env) :
  PA X (e::es) (dY X.K cls E2 λZ M Q E=>te Z M (λx M1=>tr Z M1 (λxs M2=>Q (x::xs) M2) E) E):=
 (bb ha hr hs).imp λZ H Q2 k_=>ex9 k_ λh_ M Q E3 rm ds lk h c_=>aZ rm ds lk h λv H1 x M1 dx o_ t1 q1=>fw o_ (ds.mono t1) (lk.mono t1) q1 λvs H2 xs M2 dl H_ t2 q2=>c_ _ _ _ _ (.cons (dx.mono t2) dl) H_ (t1.trans t2) q2
theorem DZ{x1}(h:PA X es (dY X.K cls E2 tr)):PE X (.Tuple es x1 pos) (low X.K cls E2 λZ M Q E=>tr Z M (λxs M1=>xs.length<=sizeLine/\Q (.tup xs) M1) E):=
 (CD h).imp λZ H Q2 k_=>ex9 k_ λh_ M Q E3 rm ds lk h c_=>fw rm ds lk h λvs H' xs M' dl r_ t ⟨z,q⟩=>⟨by rw[<-dl.length];exact z,λp hp=>
  c_ _ _ _ _ (nw (.of ah) (dl.mono (.new hp))) (r_.grow hp) (t.trans (.new hp)) q⟩
theorem Eo{t2:TE}(h:PE X e t2){t:St3->MH->VK3->XN->Prop}{fz:Bool}
  (f:∀Z H h_ M Q E3 (R2:VK),RelM X.K M H->DenS X.K H h_ Z->LkE X.K cls H E3 (E2 Z)->t h_ M Q E3->(∀H' vs ds M' p,H' p=none->DenL X.K H' ds vs->RelM X.K M' H'->TM X.K H H'->dX fz ds M' Q->R2 (.ref p) (upd H' p (.lst vs)))->t2 Z H R2):PE X e (low X.K cls E2 t):=by
 refine λa_ s Z H Q2 I k_=>ex9 k_ λh_ M Q E3 rm ds lk q c_=>?_
 refine thn (h a_ s Z H (λv H1=>∃p H' vs ds M',v=.ref p/\H1=upd H' p (.lst vs)/\H' p=none/\DenL X.K H' ds vs/\RelM X.K M' H'/\TM X.K H H'/\dX fz ds M' Q) I
  (f Z H h_ M Q E3 _ rm ds lk q λH' vs ds M' p hp dl r_ t' n=>⟨p,H',vs,ds,M',rfl,rfl,hp,dl,r_,t',n⟩)) λu s1 ⟨v,H1,I1,r1,p,H',vs,F_,M',e1,e2,hp,dl,r_,t',n⟩=>?_
 subst e1;subst e2;cases r1;exact de I1 hp dl r_ t' n c_
theorem E4(h:PA X es (dY X.K cls E2 tr)):PE X (.List es pos) (low X.K cls E2 λZ M Q E=>tr Z M (λxs M1=>dX fz xs M1 Q) E):=
 Eo (fz:=fz) (Bl h) λZ H h_ M Q E3 R2 rm ds lk q k=>fw rm ds lk q λvs H' xs M' dl r_ t n=>⟨by rw[<-dl.length];exact n.1,λp hp=>k H' vs xs M' p hp dl r_ t n⟩
theorem Ct(hu:X.A.units+64<cLine):IxR X (λv u H Q2=>∃x y M Q,Den X.K H x v/\Den X.K H y u/\RelM X.K M H/\ao x y M Q/\Back X.K H Q Q2):=by
 intro value KI a_ s Z H v u v2 u2 Q2 I rv ru ⟨x,y,M,Q,dx,dy,rm,q,c_⟩ hs;unfold ao at q;split at q
 ·rename_i es e;split at q
  ·rename_i i;cases (show u=.int i from dy);split at q
   ·rename_i d e2;obtain⟨p,vs,rfl,hq,dl⟩:=iH rm e dx;obtain⟨w,e4,e5⟩:=xM dl e2;refine A2 value KI a_ s Z H _ _ v2 u2 Q2 I rv ru ?_ hs;rcases hq with hq|hq
    ·exact .inl ⟨p,vs,i,w,rfl,rfl,hq,e4,c_ _ _ _ _ e5 rm (.refl _) q⟩
    ·exact .inr (.inl ⟨p,vs,i,w,rfl,rfl,hq,e4,c_ _ _ _ _ e5 rm (.refl _) q⟩)
   ·exact q.elim
  ·exact q.elim
 ·split at q
  ·rename_i d e;obtain⟨a,ov,rfl,g,od⟩:=gR (X:=X) e rm dx dy;cases rv;cases ov with
   |none=>exact od.elim
   |some w=>exact tail_any (g.isDict I) PySem.F.slot_dict_getitem.lookup (tJ (by omega) I g rfl ru λw' s' I' KG=>⟨w,H,I',KG,c_ _ _ _ _ od rm (.refl _) q⟩) hs
  ·exact q.elim
  ·exact q.elim
theorem G9(hu:X.A.units+64<cLine)(ha:PE X a (low X.K cls E2 ta))(hb:PE X b (low X.K cls E2 tb))(hs:mH b):PE X (.Subscript a b pos) (low X.K cls E2 λZ M Q E=>ta Z M (λx M1=>tb Z M1 (λy M2=>ao x y M2 Q) E) E):=
 (Fk (Ct hu) ha hb hs).imp λZ H Q2 k_=>ex9 k_ λh_ M Q E3 rm ds lk h c_=>qm rm ds lk h λv u H' x y M' dx dy r_ t q=>⟨x,y,M',Q,dx,dy,r_,q,c_.mono t⟩
variable {lo hi:Option Expr}{tl th:St3->MH->(Option Int->MH->Prop)->XN->Prop}{p2:Pos}
theorem GM:PO X none (ud X.K cls E2 λ_ M Q _=>Q none M):=po_none.imp λZ H Q2 k_=>ex9 k_ λh_ M Q E3 rm ds lk h c_=>c_ _ _ _ rm (.refl _) h
theorem Dv(h:PE X e (low X.K cls E2 te)):PO X (some e) (ud X.K cls E2 λZ M Q E=>te Z M (λx M1=>match x with|.int i=>Q (some i) M1|_=>False) E):=
 (zj h).imp λZ H Q2 k_=>ex9 k_ λh_ M Q E3 rm ds lk h c_=>aZ rm ds lk h λv H1 x M1 dx o_ t1 q1=>by
  split at q1
  ·exact⟨_,dx,c_ _ _ _ o_ t1 q1⟩
  ·exact q1.elim
theorem Ah{t:St3->MH->(Option Int->MH->Prop)->XN->Prop}{K:Ks}{Z:St}{H:Hp}{h_:St3}{M:MH}{E3:XN}{R3:Option Int->MH->Prop}{R2:Option Int->Hp->Prop}(rm:RelM K M H)(ds:DenS K H h_ Z)(lk:LkE K cls H E3 (E2 Z))(h:t h_ M R3 E3)(k:∀o H' M',RelM K M' H'->TM K H H'->R3 o M'->R2 o H') :
  ud K cls E2 t Z H R2:=⟨h_,M,R3,E3,rm,ds,lk,h,k⟩
theorem Ew(ha:PE X a (low X.K cls E2 ta))(hb:PE X b (low X.K cls E2 tb)) :
  PE X (.BinOp a .Add b pos) (low X.K cls E2 λZ M Q E=>ta Z M (λx M1=>tb Z M1 (λy M2=>jw fz x y M2 Q) E) E):=Ek (B7 fz) ha hb
theorem Es(h:PE X e (low X.K cls E2 te)):PE X e (low X.K cls E2 λZ M Q E=>te Z M (aX Q) E):=by
 refine λa_ s Z H Q2 I k_=>ex9 k_ λh_ M Q E3 rm ds lk q c_=>?_
 refine thn (h a_ s Z H (λv H1=>∃d M1,Den X.K H1 d v/\RelM X.K M1 H1/\TM X.K H H1/\aX Q d M1) I ⟨h_,M,_,E3,rm,ds,lk,q,λv H' d M' a b c e=>⟨d,M',a,b,c,e⟩⟩) λu s1 z_=>?_
 obtain⟨v,H1,I1,r1,d,M1,dv,o_,t1,q1⟩:=z_;obtain⟨H2,M2,d2,I2,t2,H_,Mg,q2⟩:=jm I1 o_ dv q1;exact⟨v,H2,I2,r1,c_ _ _ _ _ Mg H_ (t1.trans t2) q2⟩
theorem CL(h:PE X e (low X.K cls E2 te)):PE X e (low X.K cls E2 λZ M Q E=>te Z M (jb Q) E):=by
 refine λa_ s Z H Q2 I k_=>ex9 k_ λh_ M Q E3 rm ds lk q c_=>?_
 refine thn (h a_ s Z H (λv H1=>∃d M1,Den X.K H1 d v/\RelM X.K M1 H1/\TM X.K H H1/\jb Q d M1) I ⟨h_,M,_,E3,rm,ds,lk,q,λv H' d M' a b c e=>⟨d,M',a,b,c,e⟩⟩) λu s1 z_=>?_
 obtain⟨v,H1,I1,r1,d,M1,dv,o_,t1,q1⟩:=z_;have q1:aX Q d M1:=by
  unfold jb at q1;split at q1
  ·split at q1
   ·rename_i a F_ e;simp only[aX,e];exact q1
   ·exact q1.elim
  ·exact q1.elim
 obtain⟨H2,M2,d2,I2,t2,H_,Mg,q2⟩:=jm I1 o_ dv q1;exact⟨v,H2,I2,r1,c_ _ _ _ _ Mg H_ (t1.trans t2) q2⟩
end
theorem vd{K:Ks}(h:CX1 P w outer H s (λc d H'=>TM K H H'->E c d H') e s'):CX1 P w outer H s E e s':=by
 obtain⟨a,cls,B,H',dx,h1,h2,h3,un,j_,fl,ha,NI,he⟩:=h;exact⟨a,cls,B,H',dx,h1,h2,h3,un,j_,fl,ha,NI,he (.un un.KD un.Kz)⟩
section
variable {X:Cx}{cls:Nat->Addr}{E2:St->XK}{k:Nat}{f:Addr}{fd:FuncData}{ps:List Str}{x:Str}{p pos:Pos}{e:Expr}{es:List Expr}{tr:St3->MH->(List D->MH->Prop)->XN->Prop}{t3:List D->MH->VK3->XN->Prop}
noncomputable def spX(K:Ks)(cls:Nat->Addr)(t3:List D->MH->VK3->XN->Prop):Sp:=λvs H Q E=>∃ds M Q3 E3,DenL K H ds vs/\RelM K M H/\t3 ds M Q3 E3/\Back K H Q3 Q/\LkE K cls H E3 E
def BdT(K:Ks)(cls:Nat->Addr)(fd:FuncData)(ps:List Str)(t3:List D->MH->VK3->XN->Prop)(sp:Sp):Prop:=∀vs H Q E,spX K cls t3 vs H Q E->∃Nd ds,Vals Nd ds/\Binds K fd ps ds/\sp (vs++Nd) H Q E
theorem gB(F:FnOk X.prog X.w X.K X.mg X.base (CX1 X.prog X.w) k f fd ps sp)(hr:Room k X.A)(hb:BdT X.K cls fd ps t3 sp)(hx:bB (CX1 X.prog X.w) X E2)
  (I:Inv X a_ Z H s)(r:Vals vs us) (h:spX X.K cls t3 vs H Q (λc d H'=>TM X.K H H'->E2 Z c d H')):wpAny (model X.prog X.w) X.A (call (.ref f) us) (EP X a_ Z Q) X.xe s:=by
 obtain⟨Nd,Nf,hv,bd,h'⟩:=hb _ _ _ _ h;have r2:Vals (vs++Nd) (us++Nf):=r.append hv;have hl:(us++Nf).length=ps.length:=by rw[<-r2.length];exact F.len _ _ _ _ h'
 refine wpAny_call (codeAny_mono (F.run X.A X.stack s H ⟨us,[]⟩ (us++Nf) (vs++Nd) Q _ hr I.env0 (bd s us I.kIn hl) r2 h') λz s' hq=>?_)
 match z,hq with
 |.error e,hq=>exact hx a_ Z H s e s' I (vd hq)
 |.ok (.ret u),hq=>exact I.after hq
 |.ok .next,hq=>exact hq.elim
 |.ok .brk,hq=>exact hq.elim
 |.ok .cont,hq=>exact hq.elim
theorem kC{Z:St}{H:Hp}{xs:List D}{vs:List V}{M:MH}{Q:VK3}{Q2:VK}{E3:XN}(dl:DenL X.K H xs vs)(rm:RelM X.K M H)(lk:LkE X.K cls H E3 (E2 Z))(q:t3 xs M Q E3)(c_:Back X.K H Q Q2) :
  spX X.K cls t3 vs H Q2 (λc d H'=>TM X.K H H'->E2 Z c d H'):=
 ⟨xs,M,Q,E3,dl,rm,q,c_,λi M' H' t r_ q dx xd _=>lk i M' H' t r_ q dx xd⟩
theorem B6(F:FnOk X.prog X.w X.K X.mg X.base (CX1 X.prog X.w) k f fd ps sp)(hr:Room k X.A)(hg:Gl X x)(hm:X.mg x=some (.ref f))(hk:PySem.W.keepIn X.K (.ref f)=true)(hb:BdT X.K cls fd ps t3 sp)(hx:bB (CX1 X.prog X.w) X E2)
  (ha:PA X (e::es) (dY X.K cls E2 tr)) (KU:(x == ("__debug__" : Str))=false) (he:starEach (e::es) X.env=(false,eval e X.env)::starEach es X.env) (Kt:(backTo pos (starEach es X.env)).any (·.1)=false) :
  PE X (.Call (.Name x p) (e::es) [] pos) (low X.K cls E2 λZ M Q E=>tr Z M (λxs M1=>t3 xs M1 Q E) E):=λa_ s Z H Q2 I k_=>ex9 k_ λh_ M Q E3 rm ds lk h c_=>
 wpAny_Call_Name_kw (gO I hg hm (PySem.W.callWith_K (h₀:=X.base) I.ok.mod.kin hk (thn (ha pos a_ s Z H _ I (fw (R2:=λvs H1=>spX X.K cls t3 vs H1 Q2 (λc d H'=>TM X.K H1 H'->E2 Z c d H')) rm ds lk h
  λvs H1 xs M1 dl o_ t1 q1=>kC dl o_ (lk.mono t1) q1 (c_.mono t1))) λus s1 ⟨vs,H1,I1,r,q⟩=>⟨I1.kIn,gB F hr hb hx I1 r q⟩) he Kt) KU)
theorem yQ(F:FnOk X.prog X.w X.K X.mg X.base (CX1 X.prog X.w) k f fd ps sp)(hr:Room k X.A)(hg:Gl X x)(hm:X.mg x=some (.ref f))(hk:PySem.W.keepIn X.K (.ref f)=true)(hb:BdT X.K cls fd ps t3 sp)(hx:bB (CX1 X.prog X.w) X E2)(KU:(x == ("__debug__" : Str))=false) :
  PE X (.Call (.Name x p) [] [] pos) (low X.K cls E2 λZ M Q E=>t3 [] M Q E):=λa_ s Z H Q2 I k_=>ex9 k_ λh_ M Q E3 rm ds lk h c_=>
 wpAny_Call_Name_kw (gO I hg hm (PySem.W.callWith_K0 I.kIn hk (gB (us:=[]) F hr hb hx I .nil (kC (xs:=[]) .nil rm lk h c_))) KU)
theorem fh{id:String}(hc:VC X (.builtin id) r)(hg:Gl X x)(hm:X.mg x=none)(hv:bootBuiltins x=some (.builtin id))(ha:PA X (e::es) (dY X.K cls E2 tr))(hn:x≠"__name__")(KU:(x == ("__debug__" : Str))=false)
  (he:starEach (e::es) X.env=(false,eval e X.env)::starEach es X.env) (Kt:(backTo pos (starEach es X.env)).any (·.1)=false):PE X (.Call (.Name x p) (e::es) [] pos) (low X.K cls E2 λZ M Q E=>tr Z M (λxs M1=>r xs M1 Q) E):=
 (jO hc.op hg hm hv ha hn KU he Kt).imp λZ H Q2 k_=>ex9 k_ λh_ M Q E3 rm ds lk h c_=>fw rm ds lk h λvs H1 xs M1 dl o_ t1 q1=>⟨xs,M1,Q,dl,o_,q1,c_.mono t1⟩
theorem sw(hc:VC X (.type T) r)(hg:Gl X x)(hm:X.mg x=none)(hv:bootBuiltins x=some (.type T))(ha:PA X (e::es) (dY X.K cls E2 tr))(hn:x≠"__name__")(KU:(x == ("__debug__" : Str))=false)
  (he:starEach (e::es) X.env=(false,eval e X.env)::starEach es X.env) (Kt:(backTo pos (starEach es X.env)).any (·.1)=false):PE X (.Call (.Name x p) (e::es) [] pos) (low X.K cls E2 λZ M Q E=>tr Z M (λxs M1=>r xs M1 Q) E):=
 (lT hc.op hg hm hv ha hn KU he Kt).imp λZ H Q2 k_=>ex9 k_ λh_ M Q E3 rm ds lk h c_=>fw rm ds lk h λvs H1 xs M1 dl o_ t1 q1=>⟨xs,M1,Q,dl,o_,q1,c_.mono t1⟩
noncomputable def bV:BT->String
 |.int=>"int"|.bool=>"bool"|.str=>"str"|.tuple=>"tuple"|.list=>"list"|.dict=>"dict"
theorem AX{a_:List (Addr×Obj)}{Z:St}{H:Hp}{s:Shared}{A:Around}{Ex:Value->Shared->Prop}{t:BT}{x:D}{v:V}{v2:Value}{M:MH}{Q:VK3}{Q2:VK}(I:Inv X a_ Z H s)(rv:RelV v v2)(dx:Den X.K H x v)(rm:RelM X.K M H)(q:pk t x M Q)(c_:Back X.K H Q Q2) :
  wpAny (model X.prog X.w) A (call (.builtin "isinstance") [v2,.type (bV t)]) (EP X a_ Z Q2) Ex s:=by
 have fin:∀b,Q (.bl b) M->∀tk,EP X a_ Z Q2 (.bool b) {s with toks:=tk}:=λb q tk=>⟨.bl b,H,I.tok _,rfl,c_ _ _ _ _ bU rm (.refl _) q⟩
 cases x with
 |i_=>cases (show v=.i_ from dx);cases rv;cases t<;>exact PySem.W.kia_one PySem.W.kitx_none I.kIn True.intro rfl (λz=>nomatch z) (fin _ q)
 |bl b=>cases (show v=.bl b from dx);cases rv;cases t<;>exact PySem.W.kia_one PySem.W.kitx_bool I.kIn True.intro rfl (λz=>nomatch z) (fin _ q)
 |int i=>cases (show v=.int i from dx);obtain⟨tk,rfl⟩:=rv;cases t<;>exact PySem.W.kia_one PySem.W.kitx_int I.kIn True.intro rfl (λz=>nomatch z) (fin _ q)
 |str i=>cases (show v=.str i from dx);obtain⟨tk,rfl⟩:=rv;cases t<;>exact PySem.W.kia_one PySem.W.kitx_str I.kIn True.intro rfl (λz=>nomatch z) (fin _ q)
 |tup ds=>
  obtain⟨a,vs,rfl,sq,_⟩:=dx;cases rv;obtain⟨its,_,tt,_⟩:=I.tuple sq;obtain⟨o,h1,h2,_⟩:=(show s.heap.IsTuple a its.toArray from tt);cases t<;>exact PySem.W.kia_one PySem.W.kitx_tuple I.kIn ⟨o,h1,h2⟩ rfl (λz=>nomatch z) (fin _ q)
 |g_ ds=>
  obtain⟨a,vs,rfl,sq,_⟩:=dx;cases rv;obtain⟨_,its,n,_,_,h1⟩:=I.rdL sq.rd;cases t<;>exact PySem.W.kia_one PySem.W.kitx_list I.kIn ⟨_,h1,rfl⟩ rfl (λz=>nomatch z) (fin _ q)
 |ref a=>
  cases (show v=.ref a from dx);cases rv;simp only[pk]at q;split at q
  ·rename_i ds e;obtain⟨vs,e1,_⟩:=rm a _ e;obtain⟨_,its,n,_,_,h1⟩:=I.rdL (.inl (.inl e1));cases t<;>exact PySem.W.kia_one PySem.W.kitx_list I.kIn ⟨_,h1,rfl⟩ rfl (λz=>nomatch z) (fin _ q)
  ·rename_i ks ds e;obtain⟨vs,e1,_,_⟩:=rm a _ e;obtain⟨_,_,_,_,o,_,_,h1,h2,_⟩:=I.j_ a _ e1;cases t<;>exact PySem.W.kia_one PySem.W.kitx_dict I.kIn ⟨o,h1,h2.1⟩ rfl (λz=>nomatch z) (fin _ q)
  ·rename_i ks ds e;obtain⟨vs,xs,e1,_⟩:=rm a _ e;obtain⟨⟨o,es,ep,h1,h2,_⟩,_⟩:=(show ObjOk X.prog X.w H s.heap a (.ext (aB a xs)) from I.j_ a _ e1);cases t<;>exact PySem.W.kia_one PySem.W.kitx_dict I.kIn ⟨o,h1,h2.1⟩ rfl (λz=>nomatch z) (fin _ q)
  ·exact q.elim
 |Ln ks ds=>
  obtain⟨a,vs,ob,rfl,e1,_⟩:=dx;cases rv;obtain⟨_,_,_,ws,_,p⟩:=(show ObjOk X.prog X.w H s.heap a (.t_ ob (.dK (ks.zip vs))) from I.j_ a _ e1);obtain⟨o,es,ep,h1,h2,_⟩:=p;cases t<;>exact PySem.W.kia_one PySem.W.kitx_dict I.kIn ⟨o,h1,h2.1⟩ rfl (λz=>nomatch z) (fin _ q)
 |Kv ks ds=>
  obtain⟨a,vs,ob,xs,rfl,e1,_⟩:=dx;cases rv;obtain⟨_,⟨o,es,ep,h1,h2,_⟩,_⟩:=(show ObjOk X.prog X.w H s.heap a (.t_ ob (.ext (aB a xs))) from I.j_ a _ e1);cases t<;>exact PySem.W.kia_one PySem.W.kitx_dict I.kIn ⟨o,h1,h2.1⟩ rfl (λz=>nomatch z) (fin _ q)
 |obj i C ns ds=>exact (show False from q).elim
theorem EL(ha:PE X e (low X.K cls E2 te))(hg:Gl X "isinstance")(hm:X.mg "isinstance"=none)(Sb:Gl X (bV t))(P6:X.mg (bV t)=none)(hs:starEach (e::[.Name (bV t) p2]) X.env=(false,eval e X.env)::starEach [.Name (bV t) p2] X.env) :
  PE X (.Call (.Name "isinstance" p) [e,.Name (bV t) p2] [] pos) (low X.K cls E2 λZ M Q E=>te Z M (λx M1=>pk t x M1 Q) E):=by
 have hT:PE X (.Name (bV t) p2) (tC (.ty (bV t))):=by
  cases t<;>exact zf Sb P6 (by decide +kernel) rfl
 have hc:CallR X (.builtin "isinstance") (λvs H Q2=>∃x v M Q,vs=[v,.ty (bV t)]/\Den X.K H x v/\RelM X.K M H/\pk t x M Q/\Back X.K H Q Q2):=by
  refine λa_ s Z H vs us Q2 I r k_=>ex9 k_ λx v M Q e dx rm q c_=>?_
  subst e;obtain⟨u,w,rfl,ru,rw⟩:=Vals.two r;cases (show w=Value.type (bV t) from rw);exact AX I ru dx rm q c_
 refine (jO hc hg hm (by decide +kernel) (bb ha (bb hT pa_nil (by rfl)) hs) (by decide +kernel) (by decide +kernel) hs (by rfl)).imp λZ H Q2 k_=>ex9 k_ λh_ M Q E3 rm ds lk h c_=>?_
 exact aZ rm ds lk h λv H1 x M1 dx o_ t1 q1=>⟨x,v,M1,Q,rfl,dx,o_,q1,c_.mono t1⟩
end
section
variable {X:Cx}
theorem Bf{K:Ks}(sq:SqT K H0 p vs)(dl:DenL K H0 ds vs):ItOk K H0 (Itt K p) ds (λ_=>True):=by
 refine⟨λi H M t rm s hi=>?_,λi H M x H' t rm s hi y=>?_,λH M t rm s=>?_⟩
 ·have Lp:i<vs.length:=by rw[<-dl.length];exact hi
  exact⟨vs,vs[i],t.t _ _ sq,by simp[Lp]⟩
 ·obtain⟨e,y⟩:=y;subst e;obtain⟨d,e1,e2⟩:=(dl.mono t).get' (y vs (t.t _ _ sq));exact⟨.refl _,rm,d,e1,e2⟩
 ·exact⟨vs,t.t _ _ sq,by rw[dl.length];exact Jp _⟩
theorem Bn{K:Ks}(sq:SqF K H0 p vs)(dl:DenL K H0 ds vs):ItOk K H0 (Itl K p) ds (λ_=>True):=by
 refine⟨λi H M t rm s hi=>?_,λi H M x H' t rm s hi y=>?_,λH M t rm s=>?_⟩
 ·have Lp:i<vs.length:=by rw[<-dl.length];exact hi
  exact⟨vs,vs[i],(t.f _ _ sq).sq,by simp[Lp]⟩
 ·obtain⟨e,y⟩:=y;subst e;obtain⟨d,e1,e2⟩:=(dl.mono t).get' (y vs (t.f _ _ sq).sq);exact⟨.refl _,rm,d,e1,e2⟩
 ·exact⟨vs,(t.f _ _ sq).sq,by rw[dl.length];exact Jp _⟩
theorem Cy{K:Ks}:ItOk K H0 (Itl K p) ds (λM=>M p=some (.lst ds)):=by
 refine⟨λi H M t rm s hi=>?_,λi H M x H' t rm s hi y=>?_,λH M t rm s=>?_⟩
 ·obtain⟨vs,e,dl⟩:=rm p _ s;have Lp:i<vs.length:=by rw[<-dl.length];exact hi
  exact⟨vs,vs[i],.of e,by simp[Lp]⟩
 ·obtain⟨vs,e,dl⟩:=rm p _ s;obtain⟨e',y⟩:=y;subst e';obtain⟨d,e1,e2⟩:=dl.get' (y vs (.of e));exact⟨.refl _,rm,d,e1,e2⟩
 ·obtain⟨vs,e,dl⟩:=rm p _ s;exact⟨vs,.of e,by rw[dl.length];exact Jp _⟩
theorem ly(I:Inv X a_ Z H s)(hq:SqL X.K H a xs)(q:R (Itl X.K a) H):wpAny (model X.prog X.w) X.A (pyIter (.ref a)) (PIE X a_ Z tg R) Ex s:=by
 obtain⟨its,rv,p,hz⟩:=I.list hq;refine wpAny_pyIter_list p.isList ?_;refine⟨s.heap.objs.size,[s.heap.objs.size],_,_,H,rfl,I.kept (t':=s.toks) λb o e=>Jn _ e,tz a _,⟨_,Jr _ rfl,rfl,rfl⟩,λb hb=>?_,q⟩
 have e:b=s.heap.objs.size:=by simpa using hb
 subst e;exact I.fpOk (Jp _) (I.j_.fresh (Jp _))
theorem vV(I:Inv X a_ Z H s)(hq:SqT X.K H a xs)(q:R (Itt X.K a) H):wpAny (model X.prog X.w) X.A (pyIter (.ref a)) (PIE X a_ Z tg R) Ex s:=by
 obtain⟨its,rv,p,hz⟩:=I.tuple hq;refine wpAny_pyIter_tuple (show s.heap.IsTuple a its.toArray from p) ?_;refine⟨s.heap.objs.size,[s.heap.objs.size],_,_,H,rfl,I.kept (t':=s.toks) λb o e=>Jn _ e,qg a _,⟨_,Jr _ rfl,rfl,rfl⟩,λb hb=>?_,q⟩
 have e:b=s.heap.objs.size:=by simpa using hb
 subst e;exact I.fpOk (Jp _) (I.j_.fresh (Jp _))
theorem Ee(hl:PE X l (low X.K cls E2 te)):PI X tg l (lq X.K cls E2 λZ M R E=>te Z M (λx M1=>match x with
  |.tup ds=>R ds (λ_=>True) M1
  |.g_ ds=>R ds (λ_=>True) M1
  |.ref a=>match M1 a with
   |some (.lst ds)=>R ds (λM=>M a=some (.lst ds)) M1
   |_=>False
  |_=>False) E):=by
 refine λa_ s Z H R2 I k_=>ex9 k_ λh_ M R E3 rm ds lk h k=>?_
 refine thn (hl a_ s Z H _ I ⟨h_,M,_,E3,rm,ds,lk,h,λv H' d M' a b c e=>(⟨d,M',a,b,c,e⟩:(λv H'=>∃d M',Den X.K H' d v/\RelM X.K M' H'/\TM X.K H H'/\(match d with
  |.tup ds=>R ds (λ_=>True) M'
  |.g_ ds=>R ds (λ_=>True) M'
  |.ref a=>match M' a with
   |some (.lst ds)=>R ds (λM=>M a=some (.lst ds)) M'
   |_=>False
  |_=>False)) v H')⟩) λu s1 ⟨v,H1,I1,r1,d,M1,dv,o_,t1,q1⟩=>?_
 split at q1
 ·obtain⟨p,vs,rfl,sq,dl⟩:=dv;cases r1;exact vV I1 sq (k _ _ _ _ _ (Bf sq dl) o_ t1 q1)
 ·obtain⟨p,vs,rfl,sq,dl⟩:=dv;cases r1;exact ly I1 sq.sq (k _ _ _ _ _ (Bn sq dl) o_ t1 q1)
 ·rename_i a;cases (show v=.ref a from dv);cases r1;split at q1
  ·rename_i F_ e;obtain⟨vs,e1,dl⟩:=o_ a _ e;exact ly I1 (.of e1) (k _ _ _ _ _ Cy o_ t1 q1)
  ·exact q1.elim
 ·exact q1.elim
theorem GO(hg:Gl X "range")(hm:X.mg "range"=none)(ha:PE X a (low X.K cls E2 ta))(hs:starEach [a] X.env=[(false,eval a X.env)]):PI X tg (.Call (.Name "range" p) [a] [] pos) (lq X.K cls E2 λZ M R E=>ta Z M (λx M1=>match x with
  |.int j=>-(2 ^ 62)<=j/\j<2 ^ 62/\R (rng 0 j.toNat) (λ_=>True) M1
  |_=>False) E):=
 (tI hg hm (bb ha pa_nil hs) hs).imp λZ H R2 k_=>ex9 k_ λh_ M R E3 rm ds lk h k=>aZ rm ds lk h λv H1 x M1 dx o_ t1 q1=>by
  split at q1
  ·rename_i j;cases (show v=.int j from dx);exact⟨j,rfl,q1.1,q1.2.1,k _ _ _ _ _ AE o_ t1 q1.2.2⟩
  ·exact q1.elim
end
section
variable {X:Cx}
end
section
variable {K:Ks}
theorem fV:∀{ns:List Nat}{ds:List D}{vs:List V}{f:Nat}{d:D},DenL K H ds vs->bI f ns ds=some d->∃v,((ns.map fnm).zip vs).lookup (fnm f)=some v/\Den K H d v
 |[],_,_,_,_,_,e=>by simp[bI]at e
 |n::ns,[],_,_,_,_,e=>by simp[bI]at e
 |n::ns,d0::ds,_,f,d,dl,e=>by
  obtain⟨v,r,rfl,dv,dl⟩:=dl;simp only[bI]at e;by_cases z:n=f
  ·rw[Js z]at e;cases e;subst z;exact⟨v,by simp[List.lookup],dv⟩
  ·rw[Jm z]at e;obtain⟨u,h1,h2⟩:=fV dl e;refine⟨u,?_,h2⟩;have nb:(fnm f == fnm n)=false:=JP.mpr λq=>z (mS q).symm
   simp[List.lookup,nb,h1]
theorem fF:∀{ns:List Nat}{ds:List D}{vs:List V}{f:Nat},DenL K H ds vs->ns.length=vs.length->bI f ns ds=none->((ns.map fnm).zip vs).lookup (fnm f)=none
 |[],_,_,_,_,_,_=>by simp
 |n::ns,[],vs,_,dl,hl,_=>by cases (show vs=[] from dl);cases hl
 |n::ns,d0::ds,_,f,dl,hl,e=>by
  obtain⟨v,r,rfl,dv,dl⟩:=dl;simp only[bI]at e;by_cases z:n=f
  ·rw[Js z]at e;cases e
  ·rw[Jm z]at e;have h1:=fF dl (by simpa using hl) e
   have nb:(fnm f == fnm n)=false:=JP.mpr λq=>z (mS q).symm
   simp[List.lookup,nb,h1]
theorem ot:∀{ns:List Nat}{ds:List D}{vs:List V}{f:Nat}{y:D}{u:V},DenL K H ds vs->ns.length=vs.length->Den K H y u->
  ∃ws,c6 (fnm f) u ((ns.map fnm).zip vs)=((ca f ns).map fnm).zip ws/\(ca f ns).length=ws.length/\DenL K H (bY f y ns ds) ws
 |[],ds,vs,f,y,u,dl,hl,dy=>by
  cases vs with
  |nil=>exact⟨[u],rfl,rfl,by unfold bY;exact .one dy⟩
  |cons _ _=>cases hl
 |n::ns,[],vs,f,y,u,dl,hl,dy=>by cases (show vs=[] from dl);cases hl
 |n::ns,d::ds,_,f,y,u,dl,hl,dy=>by
  obtain⟨v,r,rfl,dv,dl⟩:=dl;have Ng:ns.length=r.length:=by simpa using hl
  by_cases z:n=f
  ·subst z;refine⟨u::r,?_,?_,?_⟩
   ·simp[c6,ca]
   ·simp[ca,Ng]
   ·simp only[bY,Js];exact .cons dy dl
  ·obtain⟨ws,h1,h2,h3⟩:=ot (f:=f) (u:=u) dl Ng dy;have nf:¬ fnm n=fnm f:=λq=>z (mS q)
   refine⟨v::ws,?_,?_,?_⟩
   ·simp only[List.map_cons,List.zip_cons_cons,c6,Jm nf,ca,Jm z];rw[h1]
   ·simp[ca,Jm z,h2]
   ·simp only[bY,Jm z];exact .cons dv h3
end
theorem vQ{fs:List (Str×V)}(j_:HOk P w H h)(e:Rd H a (.ins C dx fs)):∃mA,ObjM h a dx C mA/\(∀f,RelO (fs.lookup f) (mA f))/\H dx=some (.own a):=by
 obtain⟨d,z,ne,ob,mA,n,r,q⟩:=(show ObjOk P w H h a (.ins C dx fs) from e.ok j_);exact⟨mA,⟨ob,n,ne⟩,r,d⟩
section
variable {X:Cx}{fs:List (Str×V)}
theorem vR(I:Inv X a_ Z H s)(e:Rd H a (.ins C dx fs))(c:Cls X.K C)(n:NoAttr X.K C f)(l:fs.lookup f=some v)
  (h:∀u s',Inv X a_ Z H s'->RelV v u->Q u s'):wpAny (model X.prog X.w) A (getAttr (.ref a) f b) Q E s:=by
 obtain⟨mA,O,r,_⟩:=vQ I.j_ e;obtain⟨u,hu,ru⟩:=RelO.some_of (v:=v) (o:=mA f) (by rw[<-l];exact r f)
 exact zD I.kIn O (c.get f) c.hd n hu (ur ru) (h u _ (I.tok _) ru)
theorem o7{m:Str}{g:Addr}{pl:Sem Bool}{Q:Value×List Value->Shared->Prop}(I:Inv X a_ Z H s)(e:Rd H a (.ins C dx fs))(c:Cls X.K C)(k:Meth X.K C m g)(l:fs.lookup m=none)
  (h:Q (.ref g,[.ref a]) s):wpAny (model X.prog X.w) A (getMethod (.ref a) m pl) Q E s:=by
 obtain⟨mA,O,r,_⟩:=vQ I.j_ e;have hn:mA m=none:=RelO.none_of (by rw[<-l];exact r m)
 exact wH I.kIn O (c.get m) k.at_ k.fn hn h
end
structure ClsI (K:Ks)(C f:Addr):Prop where
 ga:PySem.W.specialIn K (.ref C) "__getattribute__"=some (some (.builtin "type.__getattribute__"))
 rd:PySem.W.readsIn K C (.type "type")=true
 at_:PySem.W.findCls K (.ref C) (.type "type") "__init__"=some (.val (.ref f))
structure TyI (K:Ks)(C:Addr):Prop where
 ha:PySem.W.findIn K (.ref C) "__class__"=some (some (.builtin "object.__class__"))
 hn:PySem.W.specialIn K (.builtin "object.__class__") "__get__"=some (some (.builtin "getset_descriptor.__get__"))
 R5:PySem.W.takesIn K (.builtin "object.__class__")=some true
 hm:PySem.W.mroIn K C (.type "object")=some true
structure KOk (K:Ks)(B:WB)(d_:Nat->Addr)(i:Nat):Prop where
 cl:Cls K (B.b_ i)
 na:∀f,B.fok i f=true->NoAttr K (B.b_ i) (fnm f)
 mt:∀m f,B.mth i m=some f->Meth K (B.b_ i) (fnm m) (d_ f)
 mkr:∀f,B.ini i=some f->Mk K (B.b_ i) (d_ f)
 ci:∀f,B.ini i=some f->ClsI K (B.b_ i) (d_ f)
 ty:TyI K (B.b_ i)
 is:∀j,j<B.nk->PySem.W.kitOne K (.ref (B.b_ i)) (.ref (B.b_ j))=some (B.ksub i j)
section
variable {X:Cx}{B:WB}
theorem yb{K:Ks}(hk:∀i,i<B.nk->KOk K B d_ i)(dx:Den K H x v)(rm:RelM K M H)(h:dQ B f x M Q) :
  ∃a C dx fs u d,v=.ref a/\Rd H a (.ins C dx fs)/\Cls K C/\NoAttr K C (fnm f)/\fs.lookup (fnm f)=some u/\Den K H d u/\Q d M:=by
 unfold dQ at h;split at h
 ·rename_i i C ns ds;obtain⟨p,vs,ob,Lz,rfl,e,hl,dl⟩:=dx;obtain⟨⟨rfl,hi,hf⟩,h⟩:=h;unfold kP at h;split at h
  ·rename_i d q;obtain⟨u,h1,h2⟩:=fV dl q;exact⟨p,_,Lz,_,u,d,rfl,.inr ⟨ob,e⟩,(hk i hi).cl,(hk i hi).na f hf,h1,h2,h⟩
  ·exact h.elim
 ·rename_i a;split at h
  ·rename_i i C ns ds q;obtain⟨Lz,vs,e,hl,dl⟩:=rm a _ q;obtain⟨⟨rfl,hi,hf⟩,h⟩:=h;unfold kP at h;split at h
   ·rename_i d q;obtain⟨u,h1,h2⟩:=fV dl q;exact⟨a,_,Lz,_,u,d,dx,.inl e,(hk i hi).cl,(hk i hi).na f hf,h1,h2,h⟩
   ·exact h.elim
  ·exact h.elim
 ·exact h.elim
theorem Ez(hk:∀i,i<B.nk->KOk X.K B d_ i)(he:PE X e (low X.K cls E2 te))(hb:attributeBase e (fnm f) X.env (eval e X.env)=eval e X.env):PE X (.Attribute e (fnm f) pos) (low X.K cls E2 λZ M Q E=>te Z M (λx M1=>dQ B f x M1 Q) E):=by
 refine λa_ s Z H Q2 I k_=>ex9 k_ λh_ M Q E3 rm ds lk h c_=>?_
 refine zc hb (thn (he a_ s Z H (λv H1=>∃x M1,Den X.K H1 x v/\RelM X.K M1 H1/\TM X.K H H1/\dQ B f x M1 Q) I ⟨h_,M,_,E3,rm,ds,lk,h,λv H' d M' a b c e=>⟨d,M',a,b,c,e⟩⟩) λu s1 z_=>?_)
 obtain⟨v,H1,I1,r1,x,M1,dx,o_,t1,q1⟩:=z_;obtain⟨a,C,Lz,fs,u',d,rfl,rd,c,n,l,du,q⟩:=yb hk dx o_ q1;obtain rfl:u=Value.ref a:=r1;exact vR I1 rd c n l λTp s2 I2 ru=>⟨u',H1,I2,ru,c_ _ _ _ _ du o_ t1 q⟩
end
def tO(X:Cx)(cls:Nat->Addr)(k:Nat)(a:Addr)(t3:List D->MH->VK3->XN->Prop):Prop:=∃fd ps sp,PySem.W.keepIn X.K (.ref a)=true/\BdT X.K cls fd ps t3 sp/\FnOk X.prog X.w X.K X.mg X.base (CX1 X.prog X.w) k a fd ps sp
section
variable {X:Cx}{B:WB}{d_:Nat->Addr}{cls:Nat->Addr}{E2:St->XK}{o e:Expr}{es:List Expr}{to te:St3->MH->VK3->XN->Prop}{tr:St3->MH->(List D->MH->Prop)->XN->Prop}{pos n_ p:Pos}{m k:Nat}
 {Lq:Nat->List D->MH->VK3->XN->Prop}
theorem rA{K:Ks}{H:Hp}{x:D}{v:V}{M:MH}{R:Nat->Prop}(hk:∀i,i<B.nk->KOk K B d_ i)(dx:Den K H x v)(rm:RelM K M H)(h:cj B m x M R) :
  ∃a C dx fs f,v=.ref a/\Rd H a (.ins C dx fs)/\Cls K C/\Meth K C (fnm m) (d_ f)/\fs.lookup (fnm m)=none/\(∃i,i<B.nk/\B.mth i m=some f)/\R f:=by
 unfold cj at h;split at h
 ·rename_i i C ns ds;obtain⟨p,vs,ob,Lz,rfl,e,hl,dl⟩:=dx;obtain⟨⟨rfl,hi,hf⟩,h⟩:=h;unfold ft at h;split at h
  ·rename_i f q;exact⟨p,_,Lz,_,f,rfl,.inr ⟨ob,e⟩,(hk i hi).cl,(hk i hi).mt m f q,fF dl hl hf,⟨i,hi,q⟩,h⟩
  ·exact h.elim
 ·rename_i a;split at h
  ·rename_i i C ns ds q;obtain⟨Lz,vs,e,hl,dl⟩:=rm a _ q;obtain⟨⟨rfl,hi,hf⟩,h⟩:=h;unfold ft at h;split at h
   ·rename_i f q;exact⟨a,_,Lz,_,f,dx,.inl e,(hk i hi).cl,(hk i hi).mt m f q,fF dl hl hf,⟨i,hi,q⟩,h⟩
   ·exact h.elim
  ·exact h.elim
 ·exact h.elim
theorem AZ(hk:∀i,i<B.nk->KOk X.K B d_ i)(hf:∀i m f,i<B.nk->B.mth i m=some f->tO X cls k (d_ f) (Lq f))(hr:Room k X.A)(hx:bB (CX1 X.prog X.w) X E2)
  (ho:PE X o (low X.K cls E2 to)) (ha:PA X (e::es) (dY X.K cls E2 tr)) (hb:attributeBase o (fnm m) X.env (eval o X.env)=eval o X.env) (hl:(n_.endLine == pos.line)=true) (hn:(e::es).length<30)
  (he:starEach (e::es) X.env=(false,eval e X.env)::starEach es X.env) (Kt:(backTo pos (starEach es X.env)).any (·.1)=false) :
  PE X (.Call (.Attribute o (fnm m) n_) (e::es) [] pos) (low X.K cls E2 λZ M Q E=>to Z M (λx M1=>cj B m x M1 λf=>tr Z M1 (λxs M2=>Lq f (x::xs) M2 Q E) E) E):=by
 refine λa_ s Z H Q2 I k_=>ex9 k_ λh_ M Q E3 rm ds lk h c_=>?_
 have LH:(backTo pos (starEach (e::es) X.env)).any (·.1)=false:=by
  rw[he];show ((false,_)::backTo pos (starEach es X.env)).any (·.1)=false;rw[List.any_cons,Kt];rfl
 refine PySem.W.methodCall_KW (thn (ho a_ s Z H (λv H1=>∃x M1,Den X.K H1 x v/\RelM X.K M1 H1/\TM X.K H H1/\cj B m x M1 λf=>tr h_ M1 (λxs M2=>Lq f (x::xs) M2 Q E3) E3) I ⟨h_,M,_,E3,rm,ds,lk,h,λv H' d M' a b c e=>⟨d,M',a,b,c,e⟩⟩) λu s1 ⟨v,H1,I1,r1,x,M1,dx,o_,t1,q1⟩=>?_) (fc hb (gT LH hn) hl)
 obtain⟨a,C,Lz,fs,f,rfl,rd,c,mt,l,⟨i,hi,P7⟩,q⟩:=rA hk dx o_ q1;obtain rfl:u=Value.ref a:=r1;obtain⟨fd,ps,sp,kp,bd,F⟩:=hf i m f hi P7;refine o7 I1 rd c mt l ?_;refine PySem.W.callWith_K (first:=[.ref a]) (h₀:=X.base) I.ok.mod.kin mt.kp (thn (ha pos a_ s1 Z H1 _ I1 (fw (R2:=λvs H2=>spX X.K cls (Lq f) (.ref a::vs) H2 Q2 (λc d H'=>TM X.K H2 H'->E2 Z c d H')) o_ (ds.mono t1) (lk.mono t1) q
  λvs H2 xs M2 dl H_ t2 q2=>kC (.cons (dx.mono t2) dl) H_ (lk.mono (t1.trans t2)) q2 (c_.mono (t1.trans t2)))) λus s2 ⟨vs,H2,I2,r,q2⟩=>⟨I2.kIn,?_⟩) he Kt
 exact gB (us:=.ref a::us) (vs:=.ref a::vs) F hr bd hx I2 (.cons rfl r) q2
theorem yT(hk:∀i,i<B.nk->KOk X.K B d_ i)(hf:∀i m f,i<B.nk->B.mth i m=some f->tO X cls k (d_ f) (Lq f))(hr:Room k X.A)(hx:bB (CX1 X.prog X.w) X E2)
  (ho:PE X o (low X.K cls E2 to)) (hb:attributeBase o (fnm m) X.env (eval o X.env)=eval o X.env) (hl:(n_.endLine == pos.line)=true) :
  PE X (.Call (.Attribute o (fnm m) n_) [] [] pos) (low X.K cls E2 λZ M Q E=>to Z M (λx M1=>cj B m x M1 λf=>Lq f [x] M1 Q E) E):=by
 refine λa_ s Z H Q2 I k_=>ex9 k_ λh_ M Q E3 rm ds lk h c_=>?_
 refine PySem.W.methodCall_KW (thn (ho a_ s Z H (λv H1=>∃x M1,Den X.K H1 x v/\RelM X.K M1 H1/\TM X.K H H1/\cj B m x M1 λf=>Lq f [x] M1 Q E3) I ⟨h_,M,_,E3,rm,ds,lk,h,λv H' d M' a b c e=>⟨d,M',a,b,c,e⟩⟩) λu s1 ⟨v,H1,I1,r1,x,M1,dx,o_,t1,q1⟩=>?_) (fc hb (gT (by rfl) (by decide)) hl)
 obtain⟨a,C,Lz,fs,f,rfl,rd,c,mt,l,⟨i,hi,P7⟩,q⟩:=rA hk dx o_ q1;obtain rfl:u=Value.ref a:=r1;obtain⟨fd,ps,sp,kp,bd,F⟩:=hf i m f hi P7;refine o7 I1 rd c mt l ?_;exact PySem.W.callWith_K0 (first:=[.ref a]) I1.kIn mt.kp (gB (us:=[.ref a]) (vs:=[.ref a]) F hr bd hx I1 (.cons rfl .nil) (kC (.one dx) o_ (lk.mono t1) q (c_.mono t1)))
theorem D9{i f:Nat}{x:Str}{px:Pos}(hg:Gl X x)(hm:X.mg x=some (.ref (B.b_ i)))(KU:(x == ("__debug__" : Str))=false)(ci:ClsI X.K (B.b_ i) (d_ f))(hf:tO X cls k (d_ f) (Lq f))(hr:Room k X.A)(hx:bB (CX1 X.prog X.w) X E2)
  (ha:PA X (e::es) (dY X.K cls E2 tr)) (hl:(n_.endLine == pos.line)=true) (hn:(e::es).length<30)
  (he:starEach (e::es) X.env=(false,eval e X.env)::starEach es X.env) (Kt:(backTo pos (starEach es X.env)).any (·.1)=false) :
  PE X (.Call (.Attribute (.Name x px) "__init__" n_) (e::es) [] pos) (low X.K cls E2 λZ M Q E=>tr Z M (λxs M1=>Lq f xs M1 Q E) E):=by
 refine λa_ s Z H Q2 I k_=>ex9 k_ λh_ M Q E3 rm ds lk h c_=>?_
 have LH:(backTo pos (starEach (e::es) X.env)).any (·.1)=false:=by
  rw[he];show ((false,_)::backTo pos (starEach es X.env)).any (·.1)=false;rw[List.any_cons,Kt];rfl
 obtain⟨fd,ps,sp,kp,bd,F⟩:=hf;have hT:PE X (.Name x px) (tC (.ref (B.b_ i))):=mz hg hm rfl KU;refine PySem.W.methodCall_KW (thn (hT a_ s Z H (λv H1=>v=.ref (B.b_ i)/\H1=H) I ⟨rfl,rfl⟩) λu s1 ⟨v,H1,I1,r1,e1,e2⟩=>?_) (fc (by rfl) (gT LH hn) hl)
 subst e1 e2;obtain rfl:u=Value.ref (B.b_ i):=r1;refine PySem.W.method_cls I1.kIn ci.ga (PySem.W.cls_value I1.kIn ci.rd ci.at_ rfl ?_);have I2:=I1.tok (s1.toks+1);refine PySem.W.callWith_K (first:=[]) (h₀:=X.base) I.ok.mod.kin kp (thn (ha pos a_ _ Z H1 _ I2 (fw (R2:=λvs H2=>spX X.K cls (Lq f) vs H2 Q2 (λc d H'=>TM X.K H2 H'->E2 Z c d H')) rm ds lk h
  λvs H2 xs M2 dl H_ t2 q2=>kC dl H_ (lk.mono t2) q2 (c_.mono t2))) λus s2 ⟨vs,H2,I3,r,q2⟩=>⟨I3.kIn,?_⟩) he Kt
 exact gB F hr bd hx I3 r q2
theorem ma(M:Mk X.K C f)(F:FnOk X.prog X.w X.K X.mg X.base (CX1 X.prog X.w) k f fd ps sp)(hr:Room (k+1) X.A)(hb:BdT X.K cls fd ps t3 sp)
  (hx:bB (CX1 X.prog X.w) X E2) (I:Inv X a_ Z H s)(r:Vals vs us)
  (h:∀x dx,H x=none->H dx=none->dx≠x->spX X.K cls t3 (.ref x::vs) (upd (upd H dx (.own x)) x (.ins C dx [])) (λv H2=>v=.i_/\Q (.ref x) H2) (λc d H'=>TM X.K (upd (upd H dx (.own x)) x (.ins C dx [])) H'->E2 Z c d H')) :
  wpAny (model X.prog X.w) X.A (call (.ref C) us) (EP X a_ Z Q) X.xe s:=by
 have hq:=h (s.heap.objs.size+1) s.heap.objs.size (I.j_.fresh (Kn _)) (I.j_.fresh (Jp _)) (JI (Nat.lt_succ_self _));have I2:=Inv.made (C:=C) I;have r2:Vals (V.ref (s.heap.objs.size+1)::vs) (Value.ref (s.heap.objs.size+1)::us):=.cons rfl r;obtain⟨Nd,Nf,hv,bd,hq⟩:=hb _ _ _ _ hq;have r2:Vals ((V.ref (s.heap.objs.size+1)::vs)++Nd) ((Value.ref (s.heap.objs.size+1)::us)++Nf):=r2.append hv;have hl:(Value.ref (s.heap.objs.size+1)::us++Nf).length=ps.length:=by rw[<-r2.length];exact F.len _ _ _ _ hq
 have Mt:=bd _ (Value.ref (s.heap.objs.size+1)::us) I2.kIn hl;refine wpAny_call (uN (f:=f) I.kIn M.makes M.init (JJ.mp M.fn) (codeAny_mono (F.run _ X.stack _ _ ⟨Value.ref (s.heap.objs.size+1)::us,[]⟩ (Value.ref (s.heap.objs.size+1)::us++Nf) _ _ _ (hr.make C us [])
  (I2.env0.make C us []) Mt r2 hq) λr s' Ma=>?_))
 match r,Ma with
 |.error e,Ma=>exact hx a_ Z _ _ e s' I2 (vd Ma)
 |.ok (.ret u),Ma=>
  obtain⟨v,H',I3,rv,ev,q3⟩:=I2.after Ma;subst ev;exact⟨rv,⟨V.ref (s.heap.objs.size+1),H',I3,rfl,q3⟩⟩
 |.ok .next,Ma=>exact Ma.elim
 |.ok .brk,Ma=>exact Ma.elim
 |.ok .cont,Ma=>exact Ma.elim
theorem TM.made{K:Ks}(hx:H x=none)(hd:H dx=none)(ne:dx≠x):TM K H (upd (upd H dx (.own x)) x (.ins C dx [])):=
 (TM.new hd).trans (.new (by rw[ae (JA ne)];exact hx))
theorem sM{Z:St}{H:Hp}{xs:List D}{vs:List V}{M:MH}{Q:VK3}{Q2:VK}{E3:XN}{i:Nat}{fz:Bool}{t3:List D->MH->VK3->XN->Prop}(dl:DenL X.K H xs vs)(rm:RelM X.K M H)(lk:LkE X.K cls H E3 (E2 Z))
  (q:∀p,M p=none->t3 (.ref p::xs) (put M p (.ins i (B.b_ i) [] [])) (λv M2=>v=.i_/\if fz=true then aX Q (.ref p) M2 else Q (.ref p) M2) (λj M'=>E3 j (del M' p))) :
  ∀x dx,H x=none->H dx=none->dx≠x->spX X.K cls t3 (.ref x::vs) (upd (upd H dx (.own x)) x (.ins (B.b_ i) dx [])) (λv H2=>v=.i_/\∃M2,RelM X.K M2 H2/\TM X.K H H2/\if fz=true then aX Q (.ref x) M2 else Q (.ref x) M2)
   (λc d H'=>TM X.K (upd (upd H dx (.own x)) x (.ins (B.b_ i) dx [])) H'->E2 Z c d H'):=λx dx hx hd ne=>by
 have t:=TM.made (K:=X.K) (C:=B.b_ i) hx hd ne;have LU:(upd H dx (.own x)) x=none:=by rw[ae (JA ne)];exact hx
 have H_:RelM X.K (put M x (.ins i (B.b_ i) [] [])) (upd (upd H dx (.own x)) x (.ins (B.b_ i) dx [])):=(rm.grow hd).lay LU ⟨dx,[],ah,rfl,rfl⟩;refine⟨.ref x::xs,_,_,_,.cons rfl (dl.mono t),H_,q x (rm.fresh hx),λv H' d M' dv r_ t' ⟨e,q'⟩=>?_,λj M' H' t' r_ q' dy xd _=>lk j (del M' x) H' (t.trans t') (r_.sub λb o z=>(nh z).2) q' dy xd⟩
 subst e;exact⟨dv,M',r_,t.trans t',q'⟩
theorem pE(c_:Back X.K H Q Q2)
  (h:EP X a_ Z (λv H2=>∃x,v=.ref x/\∃M2,RelM X.K M2 H2/\TM X.K H H2/\if fz=true then aX Q (.ref x) M2 else Q (.ref x) M2) u s'):EP X a_ Z Q2 u s':=by
 obtain⟨v,H2,I2,r,x,rfl,M2,H_,t2,q⟩:=h;cases fz with
 |true=>
  obtain⟨H3,M3,d,I3,t3,Mu,dv,q3⟩:=jm I2 H_ jk (show aX Q (.ref x) M2 from q);exact⟨.ref x,H3,I3,r,c_ _ _ _ _ dv Mu (t2.trans t3) q3⟩
 |false=>exact⟨.ref x,H2,I2,r,c_ _ _ _ _ jk H_ t2 q⟩
theorem Co{i f:Nat}{fz:Bool}{x:Str}(hg:Gl X x)(hm:X.mg x=some (.ref (B.b_ i)))(KU:(x == ("__debug__" : Str))=false)(mk:Mk X.K (B.b_ i) (d_ f))(hf:tO X cls k (d_ f) (Lq f))(hr:Room (k+1) X.A)(hx:bB (CX1 X.prog X.w) X E2)
  (ha:PA X (e::es) (dY X.K cls E2 tr)) (he:starEach (e::es) X.env=(false,eval e X.env)::starEach es X.env) (Kt:(backTo pos (starEach es X.env)).any (·.1)=false) :
  PE X (.Call (.Name x p) (e::es) [] pos) (low X.K cls E2 λZ M Q E=>tr Z M (λxs M1=>∀p,M1 p=none->Lq f (.ref p::xs) (put M1 p (.ins i (B.b_ i) [] [])) (λv M2=>v=.i_/\if fz=true then aX Q (.ref p) M2 else Q (.ref p) M2) (λi M'=>E i (del M' p))) E):=by
 refine λa_ s Z H Q2 I k_=>ex9 k_ λh_ M Q E3 rm ds lk h c_=>?_
 obtain⟨fd,ps,sp,kp,bd,F⟩:=hf;refine wpAny_Call_Name_kw (gO I hg hm ?_ KU);refine PySem.W.callWith_K (h₀:=X.base) I.ok.mod.kin mk.kp (thn (ha pos a_ s Z H (λvs H1=>TM X.K H H1/\∃xs M1,DenL X.K H1 xs vs/\RelM X.K M1 H1/\∀p,M1 p=none->Lq f (.ref p::xs) (put M1 p (.ins i (B.b_ i) [] [])) (λv M2=>v=.i_/\if fz=true then aX Q (.ref p) M2 else Q (.ref p) M2) (λi M'=>E3 i (del M' p))) I
  (fw rm ds lk h λvs H1 xs M1 dl o_ t1 q1=>⟨t1,xs,M1,dl,o_,q1⟩)) λus s1 ⟨vs,H1,I1,r,t1,xs,M1,dl,o_,q1⟩=>⟨I1.kIn,?_⟩) he Kt
 refine thn (ma (Q:=λv H2=>∃x,v=.ref x/\∃M2,RelM X.K M2 H2/\TM X.K H1 H2/\if fz=true then aX Q (.ref x) M2 else Q (.ref x) M2) mk F hr bd hx I1 r λx dx n1 n2 n3=>?_) λu s2 q2=>pE (fz:=fz) (c_.mono t1) q2
 obtain⟨a1,a2,a3,a4,b1,b2,b3,b4,b5⟩:=sM (fz:=fz) (i:=i) (t3:=Lq f) (Q2:=Q2) dl o_ (lk.mono t1) q1 x dx n1 n2 n3;exact⟨a1,a2,a3,a4,b1,b2,b3,λv H' d M' dv r_ t' q'=>by
  obtain⟨e,w⟩:=b4 v H' d M' dv r_ t' q';exact⟨e,x,rfl,w⟩,b5⟩
theorem xL{i f:Nat}{fz:Bool}{x:Str}(hg:Gl X x)(hm:X.mg x=some (.ref (B.b_ i)))(KU:(x == ("__debug__" : Str))=false)(mk:Mk X.K (B.b_ i) (d_ f))(hf:tO X cls k (d_ f) (Lq f))(hr:Room (k+1) X.A)(hx:bB (CX1 X.prog X.w) X E2) :
  PE X (.Call (.Name x p) [] [] pos) (low X.K cls E2 λZ M Q E=>∀p,M p=none->Lq f [.ref p] (put M p (.ins i (B.b_ i) [] [])) (λv M2=>v=.i_/\if fz=true then aX Q (.ref p) M2 else Q (.ref p) M2) (λi M'=>E i (del M' p))):=by
 refine λa_ s Z H Q2 I k_=>ex9 k_ λh_ M Q E3 rm ds lk h c_=>?_
 obtain⟨fd,ps,sp,kp,bd,F⟩:=hf;refine wpAny_Call_Name_kw (gO I hg hm ?_ KU);refine PySem.W.callWith_K0 I.kIn mk.kp ?_;refine thn (ma (us:=[]) (vs:=[]) (Q:=λv H2=>∃x,v=.ref x/\∃M2,RelM X.K M2 H2/\TM X.K H H2/\if fz=true then aX Q (.ref x) M2 else Q (.ref x) M2) mk F hr bd hx I .nil λx dx n1 n2 n3=>?_) λu s2 q2=>pE (fz:=fz) c_ q2
 obtain⟨a1,a2,a3,a4,b1,b2,b3,b4,b5⟩:=sM (fz:=fz) (i:=i) (t3:=Lq f) (xs:=[]) (vs:=[]) (Q2:=Q2) .nil rm lk h x dx n1 n2 n3;exact⟨a1,a2,a3,a4,b1,b2,b3,λv H' d M' dv r_ t' q'=>by
  obtain⟨e,w⟩:=b4 v H' d M' dv r_ t' q';exact⟨e,x,rfl,w⟩,b5⟩
theorem Bu(hk:∀i,i<B.nk->KOk X.K B d_ i)(ho:PE X o (low X.K cls E2 to))(hv:PE X value (low X.K cls E2 tv))(hs:swapsWith value (some (.Attribute o (fnm f) Kx)) pos.line X.env=pure false) :
  PS X (.Assign [.Attribute o (fnm f) Kx] value pos) (bH X.K cls E2 λD E Z M=>tv Z M (λy M1=>to Z M1 (λx M2=>match x with
  |.ref a=>match M2 a with
   |some (.ins i C ns ds)=>(C=B.b_ i/\i<B.nk/\B.fok i f=true/\ns.length<1000)/\D.nx Z (put M2 a (.ins i C (ca f ns) (bY f y ns ds)))
   |_=>False
  |_=>False) (E Z)) (E Z)):=
 (CS ho hv hs).imp λD2 Z H k_=>ex9 k_ λh_ M D3 E3 rm ds lk h er=>aZ rm ds (lk.at ds) h λv H1 y M1 dy o_ t1 q1=>aZ o_ (ds.mono t1) ((lk.at ds).mono t1) q1 λw H2 x M2 dx H_ t2 q2=>by
  split at q2
  ·rename_i a;split at q2
   ·rename_i i C ns es q;obtain⟨Lz,vs,e,hl,dl⟩:=H_ a _ q;obtain⟨⟨rfl,hi,hf,hz⟩,q2⟩:=q2;obtain⟨ws,h1,h2,h3⟩:=ot (f:=f) (u:=v) dl hl (dy.mono t2);refine⟨a,_,Lz,_,dx,e,(hk i hi).cl,(hk i hi).na f hf,?_,?_⟩
    ·rw[List.length_zip,Jv,hl,Nat.min_self,<-hl];exact hz
    ·have tw:TM X.K H2 (upd H2 a (.ins (B.b_ i) Lz (c6 (fnm f) v ((ns.map fnm).zip vs)))):=.put e (λ_ z=>by cases z) λ_ _ z=>by cases z
     refine er.nx _ _ h_ _ (H_.write (u:=.ins i (B.b_ i) (ca f ns) (bY f y ns es)) e (λ_ z=>by cases z) (λ_ _ z=>by cases z) ⟨Lz,ws,by rw[ah,h1],h2,h3.mono tw⟩) (((ds.mono t1).mono t2).mono tw) ((t1.trans t2).trans tw) q2
   ·exact q2.elim
  ·exact q2.elim
theorem Dk(hg:Gl X x)(hm:X.mg x=some u)(r:RelV v u)(KU:(x == ("__debug__" : Str))=false)(hd:∀H,Den X.K H d v):PE X (.Name x pos) (low X.K cls E2 λ_ M Q _=>Q d M):=nC (mz hg hm r KU) hd
end
def VS(X:Cx)(r:D->Option Int->Option Int->MH->VK3->Prop):Prop:=
 ∀(a_:List (Addr×Obj)) (s:Shared)(Z:St)(H:Hp)(x:D)(v:V)(v2 vl vu:Value)(lo hi:Option Int)(sl:Addr)(M:MH)(Q:VK3)(Q2:VK),Inv X a_ Z H s->RelV v v2->Den X.K H x v->RelM X.K M H->s.heap.IsSliceOf sl vl vu .none->IsPart vl lo->IsPart vu hi->r x lo hi M Q->Back X.K H Q Q2->
  ∃T id,typeLookup (.type T) "__getitem__"=pure (some (.builtin id))/\s.TypeIs v2 T/\wpAny (model X.prog X.w) X.A (getItem v2 (.ref sl)) (EP X a_ Z Q2) X.xe s
section
variable {X:Cx}{lo:Option Expr}
theorem VS.op(h:VS X r):SlR X (λv lo hi H Q2=>∃x M Q,Den X.K H x v/\RelM X.K M H/\r x lo hi M Q/\Back X.K H Q Q2):=by
 intro a_ s Z H v v2 vl vu lo hi sl Q2 I rv hs pl pu ⟨x,M,Q,dx,rm,q,c_⟩;exact h a_ s Z H x v v2 vl vu lo hi sl M Q Q2 I rv dx rm hs pl pu q c_
theorem pD{K:Ks}{lo:Option Int}(dl:DenL K H ds vs):DenL K H (cZ ds lo hi) (qU vs lo hi):=by
 unfold cZ qU;rw[dl.length];exact (dl.drop _).take _
theorem DP(fz:Bool):VS X (nA fz):=by
 intro a_ s Z H x v v2 vl vu lo hi sl M Q Q2 I rv dx rm hs pl pu q c_;unfold nA at q;split at q
 ·rename_i ds;obtain⟨p,vs,rfl,sq,dl⟩:=dx;obtain⟨hw,q⟩:=q;refine AJ a_ s Z H _ v2 vl vu lo hi sl Q2 I rv hs pl pu ⟨p,vs,rfl,sq,λz=>?_,λp' hp=>?_⟩
  ·unfold whole at hw;rw[dl.length,z.1,z.2]at hw;simp at hw
  ·exact c_ _ _ (.tup (cZ ds lo hi)) _ ⟨p',_,rfl,.of ah,(pD dl).mono (.new hp)⟩ (rm.grow hp) (.new hp) q
 ·split at q
  ·rename_i ds e;obtain⟨p,vs,rfl,hq,dl⟩:=bj rm e dx;cases rv;obtain⟨its,r,ht,hz⟩:=I.list hq.sq;have E_:=r.length;refine⟨"list",_,slot_list_getitem.lookup,ht.isList.typeIs,?_⟩;refine wpAny_getItem_list_slice ht.isList hs pl pu .none (by simp) ?_ (by rw[Jy]<;>omega)
   rw[k7,<-E_];have I2:=I.laid (t':=s.toks) (o:=.lst (qU vs lo hi)) (h':=s.heap.push {cls:=.type "list",data:=.seq ((its.drop (HT.sIx vs.length 0 lo)).take (HT.sIx vs.length vs.length hi-HT.sIx vs.length 0 lo)).toArray 0}) (λb ob q=>Jn _ q) (Jp _)
    ⟨JF (iY vs lo hi) hz,_,0,(r.drop (HT.sIx vs.length 0 lo)).take (HT.sIx vs.length vs.length hi-HT.sIx vs.length 0 lo),Jr _ rfl⟩
   exact de I2 (I.j_.fresh (Jp _)) (pD dl) rm (.refl _) q c_
  ·exact q.elim
theorem Hf(ha:PE X a (low X.K cls E2 ta))(hl:PO X lo (ud X.K cls E2 tl))(hh:PO X hi (ud X.K cls E2 th)) :
  PE X (.Subscript a (.Slice lo hi none p2) pos) (low X.K cls E2 λZ M Q E=>ta Z M (λx M1=>tl Z M1 (λl M2=>th Z M2 (λh M3=>nA fz x l h M3 Q) E) E) E):=
 (uH (DP fz).op ha hl hh).imp λZ H Q2 k_=>ex9 k_ λh_ M Q E3 rm ds lk h c_=>aZ rm ds lk h λv H1 x M1 dx o_ t1 q1=>Ah o_ (ds.mono t1) (lk.mono t1) q1 λl H2 M2 H_ t2 q2=>Ah H_ ((ds.mono t1).mono t2) ((lk.mono t1).mono t2) q2 λh H3 M3 Mu t3 q3=>
  ⟨x,M3,Q,(dx.mono t2).mono t3,Mu,q3,c_.mono ((t1.trans t2).trans t3)⟩
theorem lM{K:Ks}:∀{ds:List D}{bs:List Bool}{vs:List V}{us:List Value},eV ds=some bs->DenL K H ds vs->Vals vs us->LSm.BoolsAre us bs
 |[],bs,vs,us,e,dl,r=>by
  cases (show vs=[] from dl);cases r;cases (show some []=some bs from e);exact .nil
 |d::ds,bs,_,us,e,dl,r=>by
  obtain⟨v,vs,rfl,dv,dl⟩:=dl;cases r with
  |cons ru rt=>
   cases d with
   |bl b=>
    simp only[eV]at e;split at e
    ·rename_i ns q;cases e;cases (show v=.bl b from dv);cases ru;exact .cons b (lM q dl rt)
    ·cases e
   |_=>cases e
theorem zV(al:Bool)(hc:X.calm=true):VC X (.builtin (if al=true then "all" else "any")) (rBi (if al=true then .all else .any)):=by
 intro a_ s Z H xs vs us M Q Q2 I r dl rm q c_;have hh:X.A.handled=none:=I.ok.hd hc;have key:∃x ds bs,xs=[x]/\am M x=some ds/\eV ds=some bs/\Q (.bl (if al=true then bs.all id else bs.any id)) M:=by
  cases al with
  |true=>
   simp only[if_true,rBi]at q;split at q
   ·split at q
    ·split at q
     ·exact⟨_,_,_,rfl,by assumption,by assumption,q⟩
     ·exact q.elim
    ·exact q.elim
   ·exact q.elim
  |false=>
   simp only[Kh,if_false,rBi]at q;split at q
   ·split at q
    ·split at q
     ·exact⟨_,_,_,rfl,by assumption,by assumption,q⟩
     ·exact q.elim
    ·exact q.elim
   ·exact q.elim
 obtain⟨x,ds,bs,rfl,e1,e2,q⟩:=key;obtain⟨v,rfl,dv⟩:=gV dl;obtain⟨u,rfl,ru⟩:=g7 r;obtain⟨p,ws,rfl,hq,K6⟩:=bj rm e1 dv;cases ru;obtain⟨its,r2,Nc,hz⟩:=I.list hq.sq;have hb:=lM e2 K6 r2;have hl:=Nc.isList;have Ku:p<s.heap.objs.size:=by obtain⟨_,e,_⟩:=hl;exact Jt e
 have fin:∀h' tk,(∀b o,s.heap.get? b=some o->h'.get? b=some o)->EP X a_ Z Q2 (.bool (if al=true then bs.all id else bs.any id)) {s with heap:=h',toks:=tk}:=λh' tk hk=>
  ⟨.bl _,H,I.kept (t':=tk) hk,rfl,c_ _ _ _ _ bU rm (.refl _) q⟩
 cases al with
 |true=>
  refine call_all_walk (wpAny_pyIter_list hl ?_);refine⟨s.heap.objs.size,[s.heap.objs.size,p],[s.heap.objs.size],its.toArray.size,_,_,λi=>(bs[i]?).getD true,rfl,Walks.list (A:=X.A.in1) hh _ p (JI Ku) its.toArray,
   ⟨⟨_,Jr _ rfl,rfl,rfl⟩,hl.push _⟩,λi v s' Q' E' hP hQ=>?_,λh' tk hk=>?_⟩
  ·obtain⟨b,e,rfl⟩:=hb.get i v (by simpa using hP)
   simp only[e,Option.getD_some]at hQ;exact JY hQ
  ·have e:((List.range its.toArray.size).all λi=>(bs[i]?).getD true)=bs.all id:=by
    rw[Jy,hb.length];exact LSm.range_all bs
   rw[e];exact fin h' tk (LSm.kept_iter hk)
 |false=>
  refine call_any_walk (wpAny_pyIter_list hl ?_);refine⟨s.heap.objs.size,[s.heap.objs.size,p],[s.heap.objs.size],its.toArray.size,_,_,λi=>(bs[i]?).getD false,rfl,Walks.list (A:=X.A.in1) hh _ p (JI Ku) its.toArray,
   ⟨⟨_,Jr _ rfl,rfl,rfl⟩,hl.push _⟩,λi v s' Q' E' hP hQ=>?_,λh' tk hk=>?_⟩
  ·obtain⟨b,e,rfl⟩:=hb.get i v (by simpa using hP)
   simp only[e,Option.getD_some]at hQ;exact JY hQ
  ·have e:((List.range its.toArray.size).any λi=>(bs[i]?).getD false)=bs.any id:=by
    rw[Jy,hb.length];exact LSm.range_any bs
   rw[e];exact fin h' tk (LSm.kept_iter hk)
end
def TyV(X:Cx)(T:String)(x:V)(H:Hp):Prop:=∀(a_:List (Addr×Obj)) (Z:St)(s:Shared)(v:Value),Inv X a_ Z H s->RelV x v->s.TypeIs v T/\∀a,v=.ref a->∃ob,s.heap.get? a=some ob/\ob.dict=none
section
variable {X:Cx}{o:Expr}{n_ p_ pos:Pos}{id:String}
theorem B3(pa:PlainAttrs T)(slot:Slot T name id)(Ml:typeOf (.builtin id)=pure (.type "method_descriptor"))(hm:MtR X id r)(ho:PE X o t2)(ha:PA X (e::es) ta)
  (v_:attributeBase o name X.env (eval o X.env)=eval o X.env)
  (MW:((backTo p_ (starEach (e::es) X.env)).all (λx=>!x.1)&&(backToKw p_ (keywordEach [] X.env)).all (λx=>x.1.isSome)
   &&decide ((e::es).length+([]:List Keyword).length+(if ([]:List Keyword).isEmpty then 0 else 1)<30))=true)
  (w_:(n_.endLine == p_.line)=true) (hs:starEach (e::es) X.env=(false,eval e X.env)::starEach es X.env) (KW:(backTo p_ (starEach es X.env)).any (·.1)=false) :
  PE X (.Call (.Attribute o name n_) (e::es) [] p_) (λZ H Q=>t2 Z H λx H1=>TyV X T x H1/\ta Z H1 λxs H2=>r x xs H2 Q):=by
 intro a_ s Z H Q I h;refine wpAny_Call_method_late v_ MW w_ rfl (thn (ho a_ s Z H _ I h) λv s1 z_=>?_)
 obtain⟨x,H1,I1,r1,ty,q1⟩:=z_;obtain⟨h1,h2⟩:=ty a_ Z s1 v I1 r1;refine⟨T,id,pa,slot,Ml,h1,h2,?_⟩;have hA:=ha p_ a_ s1 Z H1 _ I1 q1;rw[hs]at hA ⊢;refine Calls.callWith_builtin (by show (false||(backTo p_ (starEach es X.env)).any (·.1))=false;rw[KW]<;>rfl) (Calls.evalArgs_plain ?_)
 exact thn hA λus s2 ⟨vs,H2,I2,r2,q2⟩=>hm a_ s2 Z H2 x vs v us Q I2 r1 r2 q2
theorem yM(pa:PlainAttrs T)(slot:Slot T name id)(Ml:typeOf (.builtin id)=pure (.type "method_descriptor"))(hm:MtR X id r)(ho:PE X o t2)
  (v_:attributeBase o name X.env (eval o X.env)=eval o X.env) (w_:(n_.endLine == p_.line)=true):PE X (.Call (.Attribute o name n_) [] [] p_) (λZ H Q=>t2 Z H λx H1=>TyV X T x H1/\r x [] H1 Q):=by
 intro a_ s Z H Q I h;refine wpAny_Call_method0_late v_ w_ (thn (ho a_ s Z H _ I h) λv s1 z_=>?_)
 obtain⟨x,H1,I1,r1,ty,q1⟩:=z_;obtain⟨h1,h2⟩:=ty a_ Z s1 v I1 r1;exact⟨T,id,pa,slot,Ml,h1,h2,Calls.callWith_builtin rfl (PySem.evalArgs_none (hm a_ s1 Z H1 x [] v [] Q I1 r1 .nil q1))⟩
def VM(X:Cx)(id:String)(r:D->List D->MH->VK3->Prop):Prop:=
 ∀(a_:List (Addr×Obj)) (s:Shared)(Z:St)(H:Hp)(x:D)(xs:List D)(v:V)(vs:List V)(v2:Value)(us:List Value)(M:MH)(Q:VK3)(Q2:VK),Inv X a_ Z H s->RelV v v2->Vals vs us->Den X.K H x v->DenL X.K H xs vs->RelM X.K M H->r x xs M Q->Back X.K H Q Q2->
  wpAny (model X.prog X.w) X.A (call (.builtin id) (v2::us)) (EP X a_ Z Q2) X.xe s
theorem VM.op(h:VM X id r):MtR X id (λv vs H Q2=>∃x xs M Q,Den X.K H x v/\DenL X.K H xs vs/\RelM X.K M H/\r x xs M Q/\Back X.K H Q Q2):=by
 intro a_ s Z H v vs v2 us Q2 I rv rs ⟨x,xs,M,Q,dx,dl,rm,q,c_⟩;exact h a_ s Z H x xs v vs v2 us M Q Q2 I rv rs dx dl rm q c_
def TyD(X:Cx)(T:String)(tb:D->MH->Bool):Prop:=∀(x:D)(v:V)(M:MH)(H:Hp),Den X.K H x v->RelM X.K M H->tb x M=true->TyV X T v H
theorem Bj(pa:PlainAttrs T)(slot:Slot T name id)(Ml:typeOf (.builtin id)=pure (.type "method_descriptor"))(hm:VM X id r)(ht:TyD X T tb)(ho:PE X o (low X.K cls E2 to))(ha:PA X (e::es) (dY X.K cls E2 tr))
  (v_:attributeBase o name X.env (eval o X.env)=eval o X.env) (hn:(e::es).length<30)
  (w_:(n_.endLine == p_.line)=true) (hs:starEach (e::es) X.env=(false,eval e X.env)::starEach es X.env) (KW:(backTo p_ (starEach es X.env)).any (·.1)=false) :
  PE X (.Call (.Attribute o name n_) (e::es) [] p_) (low X.K cls E2 λZ M Q E=>to Z M (λx M1=>tb x M1=true/\tr Z M1 (λxs M2=>r x xs M2 Q) E) E):=by
 have LH:(backTo p_ (starEach (e::es) X.env)).any (·.1)=false:=by
  rw[hs];show ((false,_)::backTo p_ (starEach es X.env)).any (·.1)=false;rw[List.any_cons,KW];rfl
 refine (B3 pa slot Ml hm.op ho ha v_ (gT LH hn) w_ hs KW).imp λZ H Q2 k_=>ex9 k_ λh_ M Q E3 rm ds lk h c_=>aZ rm ds lk h λv H1 x M1 dx o_ t1 q1=>?_
 exact⟨ht x v M1 H1 dx o_ q1.1,fw o_ (ds.mono t1) (lk.mono t1) q1.2 λvs H2 xs M2 dl H_ t2 q2=>⟨x,xs,M2,Q,dx.mono t2,dl,H_,q2,c_.mono (t1.trans t2)⟩⟩
theorem vy(pa:PlainAttrs T)(slot:Slot T name id)(Ml:typeOf (.builtin id)=pure (.type "method_descriptor"))(hm:VM X id r)(ht:TyD X T tb)(ho:PE X o (low X.K cls E2 to))
  (v_:attributeBase o name X.env (eval o X.env)=eval o X.env) (w_:(n_.endLine == p_.line)=true) :
  PE X (.Call (.Attribute o name n_) [] [] p_) (low X.K cls E2 λZ M Q E=>to Z M (λx M1=>tb x M1=true/\r x [] M1 Q) E):=
 (yM pa slot Ml hm.op ho v_ w_).imp λZ H Q2 k_=>ex9 k_ λh_ M Q E3 rm ds lk h c_=>aZ rm ds lk h λv H1 x M1 dx o_ t1 q1=>⟨ht x v M1 H1 dx o_ q1.1,x,[],M1,Q,dx,.nil,o_,q1.2,c_.mono t1⟩
theorem xE(hb:∀x M,tb x M=true->(am M x).isSome=true):TyD X "list" tb:=λx v M H dx rm h a_ Z s v2 I rv=>by
 obtain⟨ds,e⟩:=JS.mp (hb x M h);obtain⟨p,vs,rfl,hq,dl⟩:=bj rm e dx;cases rv;obtain⟨its,_,pl,_⟩:=I.list hq.sq;refine⟨pl.isList.typeIs,λa e=>?_⟩
 cases e;obtain⟨o,n,e,c,hd,_⟩:=pl;exact⟨o,e,hd⟩
theorem rV:∀{ds:List D}{k j:Nat},qo y ds k=some j->k<=j/\(∃d,ds[j-k]?=some d/\eqD d y=true)/\∀m d,m<j-k->ds[m]?=some d->eqD d y=false
 |[],_,_,e=>by cases e
 |d::r,k,j,e=>by
  simp only[qo]at e;by_cases h:eqD d y=true
  ·rw[Js h]at e;cases e;exact⟨Jp _,⟨d,by simp,h⟩,λm d' hm _=>absurd hm (by omega)⟩
  ·rw[Jm h]at e;obtain⟨h1,⟨d1,h2,h3⟩,h4⟩:=rV e;refine⟨by omega,⟨d1,?_,h3⟩,λm d' hm he=>?_⟩
   ·have:j-k=(j-(k+1))+1:=by omega
    rw[this,List.getElem?_cons_succ];exact h2
   ·cases m with
    |zero=>simp at he;subst he;simpa using h
    |succ m=>exact h4 m d' (by omega) (by simpa using he)
theorem rb:TyD X "dict" (tyB .get):=λx v M H dx rm h a_ Z s v2 I rv=>by
 simp only[tyB,Bool.or_eq_true]at h;rcases h with h|h
 ·obtain⟨⟨ks,ds⟩,e⟩:=JS.mp h;obtain⟨p,vs,rfl,rd,_⟩:=pC e rm dx;cases rv;obtain⟨_,_,ws,_,dd⟩:=iX I.j_ rd;refine⟨dd.typeIs,λb q=>?_⟩
  cases q;obtain⟨ob,_,_,h1,h2,_⟩:=dd;exact⟨ob,h1,h2.2.1⟩
 ·obtain⟨⟨ks,ds⟩,e⟩:=JS.mp h;obtain⟨p,vs,xs,rfl,rd,z,_⟩:=ef e rm dx;cases rv;have dd:=bS I rd z;refine⟨dd.typeIs,λb q=>?_⟩
  cases q;obtain⟨ob,_,_,h1,h2,_⟩:=dd;exact⟨ob,h1,h2.2.1⟩
theorem OptDen.getD{K:Ks}{o:Option D}{ov:Option V}(h:OptDen K H o ov)(dv:Den K H d v):Den K H (o.getD d) (ov.getD v):=by
 cases o with
 |none=>cases ov with
  |none=>exact dv
  |some _=>exact h.elim
 |some d'=>cases ov with
  |none=>exact h.elim
  |some v'=>exact h
theorem lI{K:Ks}(h:DenL K H (d::ds) vs):∃v ws,vs=v::ws/\Den K H d v/\DenL K H ds ws:=by
 obtain⟨v,r,e,dv,dl⟩:=h;exact⟨v,r,e,dv,dl⟩
theorem wQ(hu:X.A.units+64<cLine):VM X "dict.get" (rBm .get):=by
 intro a_ s Z H x xs v vs v2 us M Q Q2 I rv rs dx dl rm q c_;simp only[rBm]at q;split at q
 ·rename_i y;split at q
  ·rename_i o e;obtain⟨yv,rfl,dy⟩:=gV dl;obtain⟨u,rfl,ru⟩:=rs.one;obtain⟨a,ov,rfl,g,od⟩:=gR e rm dx dy;cases rv;exact CA (by omega) I g ru λw' s' I' KG=>⟨_,H,I',KG,c_ _ _ _ _ (od.getD (show Den X.K H .i_ .i_ from rfl)) rm (.refl _) q⟩
  ·exact q.elim
 ·rename_i y z;split at q
  ·rename_i o e;obtain⟨yv,wv,rfl,dy,dw⟩:=lI dl;obtain⟨zv,rfl,dz⟩:=gV dw;obtain⟨u,w,rfl,ru,KG⟩:=rs.two;obtain⟨a,ov,rfl,g,od⟩:=gR e rm dx dy;cases rv;exact A0 (by omega) I g ru KG λw' s' I' KG=>⟨_,H,I',KG,c_ _ _ _ _ (od.getD dz) rm (.refl _) q⟩
  ·exact q.elim
 ·exact q.elim
theorem BY(hu:X.A.units+64<cLine):AY X (λo i v H R2=>∃x k y M R,Den X.K H x o/\Den X.K H k i/\Den X.K H y v/\RelM X.K M H/\aE x k y M R/\∀H' M',RelM X.K M' H'->TM X.K H H'->R M'->R2 H'):=by
 intro a_ s Z H o i v ov iv u R2 I ro ri rv ⟨x,k,y,M,R,dx,dk,dy,rm,q,c_⟩;unfold aE at q;split at q
 ·rename_i a;cases (show o=.ref a from dx);split at q
  ·rename_i ds n e;split at q
   ·rename_i j ej;cases (show i=.int n from dk);obtain⟨vs,e1,dl⟩:=rm a _ e;have tw:TM X.K H (upd H a (.lst (vs.set j v))):=.put e1 (λ_ z=>by cases z) λ_ _ z=>by cases z
    refine wI a_ s Z H _ _ v ov iv u R2 I ro ri rv ⟨a,vs,n,j,rfl,rfl,e1,by rw[<-dl.length];exact ej,?_⟩
    exact c_ _ _ (rm.write (u:=.lst (ds.set j y)) e1 (λ_ z=>by cases z) (λ_ _ z=>by cases z) ⟨_,ah,(dl.set dy j).mono tw⟩) tw q
   ·exact q.elim
  ·rename_i ks ds e;split at q
   ·rename_i k' ek;cases ro;exact AI (by omega) I rm e (nW ek dk) ri dy rv q.1 q.2 c_
   ·exact q.elim
  ·rename_i ks ds e;split at q
   ·rename_i k' ek;cases ro;obtain⟨b,rfl,sq⟩:=kH ek dk;cases ri;exact B0 (by omega) I rm e sq dy rv q.1 q.2 c_
   ·exact q.elim
  ·exact q.elim
 ·exact q.elim
theorem xW(hu:X.A.units+64<cLine)(ho:PE X o (low X.K cls E2 to))(hi:PE X ixe (low X.K cls E2 ti))(hv:PE X value (low X.K cls E2 tv))
  (ha:∀v,assign (.Subscript o ixe Kx) X.env v=(do
   let ov<-holding [v] (eval o X.env)
   let iv<-holding [v,ov] (eval ixe X.env)
   standAt Kx
   holding [v,ov,iv] (setItem ov iv v)
   release [v,ov,iv] [])) (hs:swapsWithSole [.Subscript o ixe Kx] value pos.line X.env=pure false) (hw:swappedStores [.Subscript o ixe Kx] value X.env=pure none) (h1:(assignEach [.Subscript o ixe Kx] X.env).map (·.2)=[assign (.Subscript o ixe Kx) X.env]) :
  PS X (.Assign [.Subscript o ixe Kx] value pos) (bH X.K cls E2 λD E Z M=>tv Z M (λy M1=>to Z M1 (λx M2=>ti Z M2 (λk M3=>aE x k y M3 λM4=>D.nx Z M4) (E Z)) (E Z)) (E Z)):=
 (wC hv (CV ho hi (BY hu) ha) hs hw h1).imp λD2 Z H k_=>ex9 k_ λh_ M D3 E3 rm ds lk h er=>aZ rm ds (lk.at ds) h λv H1 y M1 dy o_ t1 q1=>
  aZ o_ (ds.mono t1) ((lk.at ds).mono t1) q1 λw H2 x M2 dx H_ t2 q2=>aZ H_ ((ds.mono t1).mono t2) (((lk.at ds).mono t1).mono t2) q2 λz H3 k M3 dk Mu t3 q3=>
   ⟨x,k,y,M3,_,dx.mono t3,dk,(dy.mono t2).mono t3,Mu,q3,λH' M' r_ t' q'=>er.nx _ _ h_ M' r_ ((((ds.mono t1).mono t2).mono t3).mono t') (((t1.trans t2).trans t3).trans t') q'⟩
end
end L2
namespace L2
open PySem PySem.Spec PyProof.Rows PySem.W
section
variable {A:Around}{s:Shared} [DecidableEq κ] {knd:HeapKind prog w κ}{xs:List (κ×Addr×Value)}{p:Addr×Value}
end
section
variable {X:Cx}
end
end L2
namespace L2
open PySem PySem.Spec PyProof.Rows
section
variable {X:Cx}
theorem VM.of{id:String}{r3:D->List D->MH->VK3->Prop}{r:V->List V->Hp->VK->Prop}(h:MtM X id r)
  (hr:∀(H:Hp)(x:D)(xs:List D)(v:V)(vs:List V)(M:MH)(Q:VK3)(Q2:VK),Den X.K H x v->DenL X.K H xs vs->RelM X.K M H->r3 x xs M Q->Back X.K H Q Q2->r v vs H Q2):VM X id r3:=
 λa_ s Z H x xs v vs v2 us M Q Q2 I rv rs dx dl rm q c_=>h a_ s Z H v vs v2 us Q2 I rv rs (hr H x xs v vs M Q Q2 dx dl rm q c_)
theorem gU:TyD X "list" isLstM:=xE λx M h=>by
 unfold isLstM at h;split at h
 ·split at h
  ·rename_i e;simp[am,e]
  ·cases h
 ·cases h
theorem DenL.app{K:Ks}:∀{ds es:List D}{vs ws:List V},DenL K H ds vs->DenL K H es ws->DenL K H (ds++es) (vs++ws)
 |[],es,vs,ws,h,g=>by cases (show vs=[] from h);exact g
 |d::ds,es,vs,ws,h,g=>by
  obtain⟨v,us,rfl,dv,dw⟩:=lI h;exact .cons dv (DenL.app dw g)
noncomputable def Fc(xs:List V)(i:Int)(y:V):List V:=xs.take (zU xs.length i)++y::xs.drop (zU xs.length i)
theorem ins_len{xs:List V}:(Fc xs i y).length=xs.length+1:=by
 unfold Fc;simp;omega
theorem sC{K:Ks}{H:Hp}{M:MH}{a:Addr}{ds es:List D}{vs:List V}(rm:RelM K M H)(e:H a=some (.lst vs))(ws:List V)(h:DenL K H es ws):RelM K (put M a (.lst es)) (upd H a (.lst ws))/\TM K H (upd H a (.lst ws)):=by
 have tw:TM K H (upd H a (.lst ws)):=.put e (λ_ z=>by cases z) λ_ _ z=>by cases z
 exact⟨rm.write (u:=.lst es) e (λ_ z=>by cases z) (λ_ _ z=>by cases z) ⟨_,ah,h.mono tw⟩,tw⟩
def wp:V->List V->Hp->VK->Prop:=λx vs H Q=>∃l b xs zs,x=.ref l/\vs=[.ref b]/\H l=some (.lst xs)/\RdL X.K H b zs/\xs.length+zs.length<=sizeLine/\Q .i_ (upd H l (.lst (xs++zs)))
theorem qC:MtM X "list.extend" (wp (X:=X)):=by
 intro a_ s Z H x vs v us Q I rx rv h;obtain⟨l,b,xs,zs,rfl,rfl,hH,hB,hz,q⟩:=h;cases rx;obtain⟨u,rfl,ru⟩:=rv.one;cases ru;obtain⟨z,its,n,r,hl,e⟩:=I.lstM hH;obtain⟨z2,s_,n2,r2,Ny,e2⟩:=I.rdL hB;have hsz:its.toArray.size+s_.toArray.size<=sizeLine:=by rw[Jy,Jy];omega
 have Og:¬ (!its.toArray.isEmpty&&Builtin.List.listTooLong (its.toArray.size+s_.toArray.size))=true:=by
  rw[uL hsz,Bool.and_false];exact JH
 refine call_meets F.slot_list_extend ⟨_,e,rfl⟩ F.entry_list_extend (F.args_list_extend_2 _ _)
  (AutoSeq1.list_extend_list_list_0 l its.toArray n b s_.toArray n2 Og (by rw[Jy];omega) (by omega)) ⟨e,e2,?_⟩
 refine⟨.i_,_,I.lset (its':=its++s_) hH e (by simp) (r.append r2) ?_,rfl,q⟩
 rw[JR];omega
theorem lD:VM X "list.extend" (rBm .extend):=VM.of qC λH x xs v vs M Q Q2 dx dl rm q c_=>by
 simp only[rBm]at q;split at q
 ·rename_i a y;split at q
  ·rename_i ds es e e';obtain⟨ws,e1,dw⟩:=rm a _ e;cases (show v=.ref a from dx);obtain⟨yv,rfl,dy⟩:=gV dl;obtain⟨p,us,rfl,hq,du⟩:=bj rm e' dy;obtain⟨r1,t1⟩:=sC (ds:=ds) rm e1 _ (dw.append du);exact⟨a,p,ws,us,rfl,rfl,e1,hq,by rw[<-dw.length,<-du.length];exact q.1,c_ _ _ .i_ _ rfl r1 t1 q.2⟩
  ·exact q.elim
 ·exact q.elim
theorem DenL.erase{K:Ks}{H:Hp}{ds:List D}{vs:List V}(k:Nat)(h:DenL K H ds vs):DenL K H (ds.eraseIdx k) (vs.eraseIdx k):=by
 rw[List.eraseIdx_eq_take_drop_succ,List.eraseIdx_eq_take_drop_succ];exact (h.take _).app (h.drop _)
end
end L2
namespace L2
open PySem PySem.Spec PyProof.Rows SeqAt PySem.MeetsSeq AutoSeq1
theorem sB(p:Addr)(its:Array Value)(c:Nat)(x:Value)(f:Value->Bool)(j:Nat)(hj:j<its.size)(hz:its.size<=sizeLine)(B_:f its[j]=true):∀(k i:Nat),j-i=k->i<=j->(∀m (hm:m<its.size),i<=m->m<j->f its[m]=false)->
  Meets (Builtin.«list.remove.loop» ⟨[.ref p,x,rawInt i],[]⟩) (λA R s=>s.heap.get? p=some {cls:=.type "list",dict:=none,data:=.seq its c,slots:=#[]}/\(∀y,y∈its->EqAt A.in1 s y x (f y))/\R (.ok (.ret .none)) {s with heap:=s.heap.update p (Obj.mapSeq λxs=>xs.eraseIdxIfInBounds j)})
 |0,i,e,Mx,_=>by
  intro prog w A R s q;obtain⟨h1,h2,h3,h4,h5⟩:=s;obtain⟨hg,he,q⟩:=q;obtain rfl:i=j:=by omega
  wp_walk using wpAny_loadPart' hg
  rw[show its[((i:Nat):Int).toNat]?=some its[i] by simp[hj]]
  refine AV (he _ (Array.getElem_mem hj) prog w _ _ ?_);rw[B_];have z2:(its.eraseIdxIfInBounds i).size<=sizeLine+1:=JF (size_erased its _) (Nat.le_succ_of_le hz)
  wp_walk using (wpAny_updateSeq hg rfl (hz:=hz) (_hz':=z2)),wpAny_loadPart' hg
  simpa using q
 |k+1,i,e,Mx,MI=>by
  intro prog w A R s q;obtain⟨h1,h2,h3,h4,h5⟩:=s;obtain⟨hg,he,q⟩:=q;have lt:i<its.size:=by omega
  wp_walk using wpAny_loadPart' hg
  rw[show its[((i:Nat):Int).toNat]?=some its[i] by simp[lt]]
  refine AV (he _ (Array.getElem_mem lt) prog w _ _ ?_);rw[MI i lt (Jp _) (by omega)]
  wp_walk
  rw[show ((i:Int)+1)=((i+1:Nat):Int) by push_cast;rfl]
  exact⟨plainId_quiet plain_remove_loop _,codeAny_builtin entry_remove_loop (by
   rw[Around.under_plainId plain_remove_loop _];exact sB p its c x f j hj hz B_ k (i+1) (by omega) (by omega) (λm hm a b=>MI m hm (by omega) b) prog w A R _ ⟨hg,he,q⟩)⟩
theorem Di(p:Addr)(its:Array Value)(c:Nat)(x:Value)(f:Value->Bool)(j:Nat)(hj:j<its.size)(hz:its.size<=sizeLine)(B_:f its[j]=true)(MI:∀m (hm:m<its.size),m<j->f its[m]=false) :
  Meets (Builtin.«list.remove» ⟨[.ref p,x],[]⟩) (λA R s=>s.heap.get? p=some {cls:=.type "list",dict:=none,data:=.seq its c,slots:=#[]}/\(∀y,y∈its->EqAt A.in1 s y x (f y))/\R (.ok (.ret .none)) {s with heap:=s.heap.update p (Obj.mapSeq λxs=>xs.eraseIdxIfInBounds j)}):=by
 intro prog w A R s q;obtain⟨h1,h2,h3,h4,h5⟩:=s;obtain⟨hg,he,q⟩:=q
 wp_walk using wpAny_loadPart' hg
 exact⟨plainId_quiet plain_remove_loop _,codeAny_builtin entry_remove_loop (by
  rw[Around.under_plainId plain_remove_loop _];exact sB p its c x f j hj hz B_ j 0 (by omega) (Nat.zero_le _) (λm hm _ b=>MI m hm b) prog w A R _ ⟨hg,he,q⟩)⟩
theorem jN:∀{vs:List V}{us:List Value},Vals vs us->∀j,Vals (vs.eraseIdx j) (us.eraseIdx j)
 |_,_,.nil,_=>.nil
 |_,_,.cons _ r,0=>r
 |_,_,.cons h r,j+1=>.cons h (jN r j)
theorem lN{X:Cx}(hu:X.A.units+64<cLine):VM X "list.remove" (rBm .remove):=by
 intro a_ s Z H x xs v vs v2 us M Q Q2 I rv rs dx dl rm q c_;simp only[rBm]at q;split at q
 ·rename_i p y;split at q
  ·rename_i ds e;obtain⟨⟨p1,p2⟩,q⟩:=q;split at q
   ·rename_i j ej;obtain⟨_,⟨d1,h2,h3⟩,h4⟩:=rV ej;obtain⟨ws,hH,K6⟩:=rm p _ e;cases (show v=.ref p from dx);cases rv;obtain⟨yv,rfl,dy⟩:=gV dl;obtain⟨u,rfl,ru⟩:=rs.one;obtain⟨z,its,n,r2,Ny,ho⟩:=I.lstM hH;obtain⟨H',I',t',d2⟩:=og I rm dy p1;have MK:=K6.mono t';have pd:=iJ MK r2
    classical
    let f:Value->Bool:=λw=>if h:∃d∈ds,∃v,Den X.K H' d v/\RelV v w then eqD h.choose (res M y) else false
    have hf:∀d w,d∈ds->(∃v,Den X.K H' d v/\RelV v w)->f w=eqD d (res M y):=λd w hd ⟨v',dv,KG⟩=>by
     have h:∃d∈ds,∃v,Den X.K H' d v/\RelV v w:=⟨d,hd,v',dv,KG⟩;obtain⟨hm,PZ,Mg,P0⟩:=h.choose_spec;have:PZ=v':=P0.inj KG;subst this;have e1:h.choose=d:=mW I' rfl 8 (JD.mp p2 _ hm) (JD.mp p2 _ hd) Mg dv;show (if h:∃d∈ds,∃v,Den X.K H' d v/\RelV v w then eqD h.choose (res M y) else false)=_
     rw[dif_pos h,e1]
    have Nz:∀(m:Nat)(hm:m<its.toArray.size),∃d,ds[m]?=some d/\f its.toArray[m]=eqD d (res M y):=λm hm=>by
     have Mp:m<ds.length:=by rw[K6.length,Ny];simpa using hm
     refine⟨ds[m],by simp[Mp],?_⟩
     obtain⟨v',e1,e2⟩:=MK.get (i:=m) (d:=ds[m]) (by simp[Mp])
     obtain⟨w',e3,e4⟩:=r2.get e1;have:its.toArray[m]=w':=by
      have P6:m<its.length:=by simpa using hm
      have:its[m]?=some its[m]:=by simp[P6]
      rw[this]at e3;simpa using e3
     rw[this];exact hf _ _ (J9 Mp) ⟨v',e2,e4⟩
    have hj:j<its.toArray.size:=by
     have h5:j<ds.length:=(JQ.mp (by simpa using h2)).1
     rw[Jy,<-Ny,<-K6.length];exact h5
    have Sd:its.toArray.size<=sizeLine:=by rw[Jy,<-Ny];exact z
    obtain⟨r1,t1⟩:=sC (ds:=ds) rm hH _ (K6.erase j);refine call_meets PySem.F.slot_list_remove ⟨_,ho,rfl⟩ PySem.F.entry_list_remove (PySem.F.args_list_remove_2 _ _) (Di p its.toArray n u f j hj Sd ?_ ?_) ⟨ho,λw hw=>?_,?_⟩
    ·obtain⟨d,e1,e2⟩:=Nz j hj;rw[e2];simp at h2;rw[e1]at h2;cases h2;exact h3
    ·intro m hm Ku;obtain⟨d,e1,e2⟩:=Nz m hm;rw[e2];exact h4 m d (by simpa using Ku) e1
    ·obtain⟨d,hd,v',dv,KG⟩:=Paired.mem_right pd w (by simpa using hw)
     rw[hf d w hd ⟨v',dv,KG⟩];exact (CC I' rfl 8 (A:=X.A.in1) (JD.mp p2 _ hd) p1 dv d2 KG ru (by show X.A.units+1+8<cLine;omega)).2.2
    ·refine⟨.i_,_,I.lset (its':=its.eraseIdx j) hH ho ?_ (jN r2 j) ?_,rfl,c_ _ _ .i_ _ rfl r1 t1 q⟩
     ·show its.toArray.eraseIdxIfInBounds j=_;unfold Array.eraseIdxIfInBounds;rw[dif_pos hj];simp
     ·exact JF (by rw[List.length_eraseIdx];split<;>omega) z
   ·exact q.elim
  ·exact q.elim
 ·exact q.elim
end L2
namespace L2
open PySem PySem.Spec PyProof.Rows PySem.W
section
variable {X:Cx}
end
end L2
namespace L2
open PySem PySem.Spec PyProof.Rows PySem.Calls PySem.NumText PySem.W.KIN
end L2
namespace L2
open PySem PySem.Spec PyProof.Rows
def AA(K:Ks):Prop:=PySem.W.nsIn K cStatics "sys.int_max_str_digits"=some none
section
variable {X:Cx}
end
section
variable {X:Cx}{s:Shared}{h':Heap}
theorem Inv.turned2(I:Inv X a_ Z H s)(k:∀b o,b≠it->b≠it'->s.heap.get? b=some o->h'.get? b=some o)(f:fj X a_ H it)(f':fj X a_ H it'):Inv X a_ Z H {s with heap:=h',toks:=t'}:=by
 obtain⟨hn,hL,_,h1,h2,h3⟩:=f;obtain⟨Pg,Q_,_,N7,P8,Se⟩:=f';have MA:∀b u,H b=some u->b≠it:=λb u e z=>by rw[z,hn]at e;cases e
 have Oh:∀b u,H b=some u->b≠it':=λb u e z=>by rw[z,Pg]at e;cases e
 have kc:∀b o,b∉[it,it']->s.heap.get? b=some o->h'.get? b=some o:=λb o hc e=>k b o (λz=>hc (by simp[z])) (λz=>hc (by simp[z])) e
 refine I.step (g':=s.gens) (d':=s.drawn) (ch:=[it,it']) (λb hb=>?_) (λb o _ _ hc e _=>kc b o hc e) (λb o _ _ hc e _=>⟨o.slots,kc b o hc e⟩) (λ_ _ _ _ n=>n)
  (λb o hc e=>⟨o,kc b o hc e⟩) (λ_ _ e=>e) (λ_ _ _ e=>e) (λb ps e=>⟨#[],by rw[e];simp⟩) (λm hm=>?_) (λb u e=>?_) I.bare
 ·rcases Jq.mp hb with rfl|hb
  ·exact⟨h1,hL,h2,h3⟩
  ·have e:b=it':=by simpa using hb
   subst e;exact⟨N7,Q_,P8,Se⟩
 ·obtain⟨o,es,ep,ho,r⟩:=hm;exact⟨o,es,ep,k _ o (JA hL) (JA Q_) ho,r⟩
 ·refine (I.j_ b u e).stay (λc v hc q=>k c v ?_ ?_ q) (λ_ q=>q) λ_ _ q=>q
  ·rcases hc with z|z
   ·rw[z];exact MA b u e
   ·exact MA c _ z
  ·rcases hc with z|z
   ·rw[z];exact Oh b u e
   ·exact Oh c _ z
noncomputable def Ite(K:Ks)(a:Addr):It:=
 ⟨λi H=>∃xs x,SqL K H a xs/\xs[i]?=some x,λi H v H'=>∃p,v=.ref p/\H p=none/\∃x,(∀xs,SqL K H a xs->xs[i]?=some x)/\H'=upd H p (.tup [.int i,x]),λi H=>∃xs,SqL K H a xs/\xs.length<=i⟩
theorem tX{K:Ks}(a e it:Addr)(LA:e≠it):Turn P w K (.Tuple KL x1 pos) (Ite K a) [e,it] e (λi h=>(∃K2,IsEnum h e it i K2)/\h.IsListIter it a i) where
 mem:=by simp
 obj:=λi h st b hb=>by
  obtain⟨⟨K2,h1⟩,h2⟩:=st;rcases Jq.mp hb with rfl|hb
  ·exact⟨_,h1,λv z=>by
    have z':Data.fields _=Data.cell v:=z;cases z'⟩
  ·have e':b=it:=by simpa using hb
   subst e';obtain⟨o,e1,c,d⟩:=h2;exact⟨o,e1,λv z=>by rw[d]at z;cases z⟩
 keep:=λi h h' st k=>⟨let ⟨K2,h1⟩:=st.1;⟨K2,k e (by simp) _ h1⟩,st.2.at λo e1=>k it (by simp) o e1⟩
 item:=by
  intro X hP hw hK hc i a_ s Z H E I hf st hg;subst hP hw hK;obtain⟨xs,x,hq,hx⟩:=hg;obtain⟨its,rv,p,hz⟩:=I.list hq;obtain⟨u,hu,ru⟩:=rv.get hx;obtain⟨⟨K2,he⟩,B_⟩:=st;have fe:=hf e (by simp)
  have fi:=hf it (by simp)
  have Sf:e<s.heap.objs.size:=Jt he;obtain⟨oi,Sg,_⟩:=id B_;have MM:it<s.heap.objs.size:=Jt Sg;refine wpAny_pyNext_enum_item he B_ p.isList (x:=u) (by simpa using hu) LA λh' My Lf ht hsz k=>?_
  have hp:H s.heap.objs.size=none:=I.j_.fresh (Jp _);have I1:Inv X a_ Z (upd H s.heap.objs.size (.tup [.int i,x])) {s with heap:=s.heap.push {cls:=.type "tuple",data:=.seq #[.int i s.toks,u]},toks:=s.toks+1}:=
   I.laid (λb o e1=>Jn _ e1) (Jp _) ⟨by show 2<=sizeLine;decide,[.int i s.toks,u],.cons ⟨_,rfl⟩ (.cons ru .nil),⟨_,Jr _ rfl,rfl,_,rfl⟩⟩
  have Ra:fj X a_ (upd H s.heap.objs.size (.tup [.int i,x])) e:=⟨by rw[ae (JI Sf)];exact fe.1,fe.2⟩
  have NA:fj X a_ (upd H s.heap.objs.size (.tup [.int i,x])) it:=⟨by rw[ae (JI MM)];exact fi.1,fi.2⟩
  have I2:Inv X a_ Z (upd H s.heap.objs.size (.tup [.int i,x])) {s with heap:=h',toks:=s.toks+1}:=I1.turned2 (t':=s.toks+1) (λb o h1 h2 e1=>by
   by_cases hb:b=s.heap.objs.size
   ·subst hb;have e2:(s.heap.push {cls:=.type "tuple",data:=.seq #[.int i s.toks,u]}).get? s.heap.objs.size=some {cls:=.type "tuple",data:=.seq #[.int i s.toks,u]}:=Jr _ rfl;rw[e2]at e1;cases e1;exact ht
   ·exact k b o h1 h2 ((Heap.get?_push_ne _ _ _ hb).symm.trans e1)) Ra NA
  refine⟨.ref s.heap.objs.size,rfl,wpAny_letOwnedTupleGo_enum (s:={s with heap:=h',toks:=s.toks+1}) My λh2 Mh La=>?_⟩
  obtain⟨f0,f1,f2,f3,f4,f5⟩:=Ra;have I3:Inv X a_ Z (upd H s.heap.objs.size (.tup [.int i,x])) {s with heap:=h2,toks:=s.toks+1}:=I2.turned (t':=s.toks+1) (λb o hb e1=>(La.2 b hb).trans e1) f0 f1 f3 f4 f5
  refine⟨.ref s.heap.objs.size,_,I3,rfl,⟨_,rfl,hp,x,λys hy=>by rw[I.list_inj hy hq];exact hx,rfl⟩,⟨⟨_,Mh⟩,?_⟩,λb hb=>?_⟩
  ·exact Lf.at λo e1=>(La.2 it (JA LA)).trans e1
  ·rcases Jq.mp hb with rfl|hb
   ·exact f0
   ·have e':b=it:=by simpa using hb
    subst e';exact NA.1
 done:=by
  intro X hP hw hK hc i a_ s Z H E I hf st hg;subst hP hw hK;obtain⟨xs,hq,hx⟩:=hg;obtain⟨its,rv,p,hz⟩:=I.list hq;obtain⟨⟨K2,he⟩,B_⟩:=st;obtain⟨f0,f1,f2,f3,f4,f5⟩:=hf it (by simp)
  have hl:=rv.length;exact wpAny_pyNext_enum_end (I.ok.hd hc) he B_ p.isList (by simp;omega) λh' eb=>⟨rfl,I.turned (t':=s.toks) (λb o hb e=>eb b o hb e) f0 f1 f3 f4 f5⟩
 self:=λ_ _ _ _ _ st h=>let ⟨⟨_,he⟩,_⟩:=st;wpAny_pyIter_enum he h
theorem iL:∀{ds:List D}{k i:Nat}{d:D},ds[i]?=some d->(bR k ds)[i]?=some (.tup [.int (k+i:Nat),d])
 |[],_,_,_,h=>by simp at h
 |x::r,k,0,d,h=>by
  have e:x=d:=by simpa using h
  subst e;rfl
 |x::r,k,i+1,d,h=>by
  have:=iL (ds:=r) (k:=k+1) (i:=i) (d:=d) (by simpa using h)
  rw[show k+1+i=k+(i+1) by omega]at this
  exact this
theorem dg:∀{ds:List D}{k:Nat},(bR k ds).length=ds.length
 |[],_=>rfl
 |x::r,k=>by
  show (bR (k+1) r).length+1=r.length+1;rw[dg]
theorem zr{K:Ks}(sq:SqF K H0 p vs)(dl:DenL K H0 ds vs):ItOk K H0 (Ite K p) (bR 0 ds) (λ_=>True):=by
 have E_:=dl.length;refine⟨λi H M t rm s hi=>?_,λi H M x H' t rm s hi y=>?_,λH M t rm s=>?_⟩
 ·rw[dg]at hi;have Lp:i<vs.length:=by omega
  exact⟨vs,vs[i],(t.f _ _ sq).sq,by simp[Lp]⟩
 ·obtain⟨q,rfl,hq,v,hv,rfl⟩:=y;obtain⟨d,e1,e2⟩:=(dl.mono t).get' (hv vs (t.f _ _ sq).sq);refine⟨.new hq,rm.grow hq,.tup [.int i,d],?_,⟨q,[.int i,v],rfl,.inl (.inl ah),⟨_,_,rfl,rfl,_,_,rfl,e2.mono (.new hq),rfl⟩⟩⟩;have:=iL (k:=0) e1;simpa using this
 ·rw[dg];exact⟨vs,(t.f _ _ sq).sq,by omega⟩
theorem vU{K:Ks}:ItOk K H0 (Ite K p) (bR 0 ds) (λM=>M p=some (.lst ds)):=by
 refine⟨λi H M t rm s hi=>?_,λi H M x H' t rm s hi y=>?_,λH M t rm s=>?_⟩
 ·obtain⟨vs,e,dl⟩:=rm p _ s;rw[dg]at hi;have Lp:i<vs.length:=by rw[<-dl.length];exact hi
  exact⟨vs,vs[i],.of e,by simp[Lp]⟩
 ·obtain⟨vs,e,dl⟩:=rm p _ s;obtain⟨q,rfl,hq,v,hv,rfl⟩:=y;obtain⟨d,e1,e2⟩:=dl.get' (hv vs (.of e));refine⟨.new hq,rm.grow hq,.tup [.int i,d],?_,⟨q,[.int i,v],rfl,.inl (.inl ah),⟨_,_,rfl,rfl,_,_,rfl,e2.mono (.new hq),rfl⟩⟩⟩;have:=iL (k:=0) e1;simpa using this
 ·obtain⟨vs,e,dl⟩:=rm p _ s;rw[dg];exact⟨vs,.of e,by rw[dl.length];exact Jp _⟩
noncomputable def Em(K:Ks)(ta:TA):TI:=λZ H R=>ta Z H λvs H1=>∃a,vs=[.ref a]/\(∃xs,SqL K H1 a xs)/\R (Ite K a) H1
theorem yS(hg:Gl X "enumerate")(hm:X.mg "enumerate"=none)(ha:PA X [a] ta)(hs:starEach [a] X.env=[(false,eval a X.env)]):PI X (.Tuple KL x1 pt) (.Call (.Name "enumerate" p) [a] [] pos) (Em X.K ta):=by
 intro a_ s Z H R I h;refine Call_ (iC I hg hm (u:=.type "enumerate") (by decide +kernel) (PyProof.Rows.callWith_type1 (thn (ha pos a_ s Z H _ I h) λus s1 ⟨vs,H1,I1,r1,q1⟩=>?_) hs rfl))
 obtain⟨b,e,⟨xs,hq⟩,q⟩:=q1;subst e;obtain⟨u,rfl,ru⟩:=g7 r1;cases ru;obtain⟨its,rv,pl,hz⟩:=I1.list hq;refine call_enumerate_list pl.isList λh' he B_ hsz k=>?_
 refine wpAny_pyIter_enum (s:={s1 with heap:=h'}) he ?_
 refine⟨s1.heap.objs.size+1,[s1.heap.objs.size+1,s1.heap.objs.size],_,_,H1,rfl,I1.kept (t':=s1.toks) k,tX b (s1.heap.objs.size+1) s1.heap.objs.size (Nat.succ_ne_self _),⟨⟨_,he⟩,B_⟩,λc hc=>?_,q⟩
 have Mx:s1.heap.objs.size<=c:=by
  rcases Jq.mp hc with rfl|hc
  ·exact Kn _
  ·have e':c=s1.heap.objs.size:=by simpa using hc
   exact Nat.le_of_eq e'.symm
 exact I1.fpOk Mx (I1.j_.fresh Mx)
theorem BV(hg:Gl X "enumerate")(hm:X.mg "enumerate"=none)(ha:PE X a (low X.K cls E2 ta))(hs:starEach [a] X.env=[(false,eval a X.env)]) :
  PI X (.Tuple KL x1 pt) (.Call (.Name "enumerate" p) [a] [] pos) (lq X.K cls E2 λZ M R E=>ta Z M (λx M1=>match x with
  |.g_ ds=>R (bR 0 ds) (λ_=>True) M1
  |.ref a=>match M1 a with
   |some (.lst ds)=>R (bR 0 ds) (λM=>M a=some (.lst ds)) M1
   |_=>False
  |_=>False) E):=
 (yS hg hm (bb ha pa_nil hs) hs).imp λZ H R2 k_=>ex9 k_ λh_ M R E3 rm ds lk h k=>aZ rm ds lk h λv H1 x M1 dx o_ t1 q1=>by
  cases x with
  |g_ es=>
   obtain⟨q,vs,rfl,sq,dl⟩:=dx;exact⟨q,rfl,⟨vs,sq.sq⟩,k _ _ _ _ _ (zr sq dl) o_ t1 q1⟩
  |ref a=>
   cases (show v=.ref a from dx);have q1:(match M1 a with
    |some (.lst ds)=>R (bR 0 ds) (λM=>M a=some (.lst ds)) M1
    |_=>False):=q1
   split at q1
   ·rename_i ds e;obtain⟨vs,eH,dl⟩:=o_ a _ e;exact⟨a,rfl,⟨vs,.of eH⟩,k _ _ _ _ _ vU o_ t1 q1⟩
   ·exact q1.elim
  |_=>exact q1.elim
end
section
variable {X:Cx}{s:Shared}{h':Heap}
theorem Inv.turnedL{t':Nat}{ch:List Addr}(I:Inv X a_ Z H s)(k:∀b o,b∉ch->s.heap.get? b=some o->h'.get? b=some o)(f:∀b∈ch,fj X a_ H b):Inv X a_ Z H {s with heap:=h',toks:=t'}:=by
 have MA:∀b u,H b=some u->b∉ch:=λb u e z=>by rw[(f b z).1]at e;cases e
 refine I.step (g':=s.gens) (d':=s.drawn) (ch:=ch) (λb hb=>?_) (λb o _ _ hc e _=>k b o hc e) (λb o _ _ hc e _=>⟨o.slots,k b o hc e⟩) (λ_ _ _ _ n=>n)
  (λb o hc e=>⟨o,k b o hc e⟩) (λ_ _ e=>e) (λ_ _ _ e=>e) (λb ps e=>⟨#[],by rw[e];simp⟩) (λm hm=>?_) (λb u e=>?_) I.bare
 ·obtain⟨hn,hL,_,h1,h2,h3⟩:=f b hb;exact⟨h1,hL,h2,h3⟩
 ·obtain⟨o,es,ep,ho,r⟩:=hm;exact⟨o,es,ep,k _ o (λz=>(f _ z).2.1 rfl) ho,r⟩
 ·refine (I.j_ b u e).stay (λc v hc q=>k c v ?_ q) (λ_ q=>q) λ_ _ q=>q
  rcases hc with z|z
  ·rw[z];exact MA b u e
  ·exact MA c _ z
noncomputable def Itz(K:Ks)(a b:Addr):It:=
 ⟨λi H=>∃xs ys x y,SqL K H a xs/\SqL K H b ys/\xs[i]?=some x/\ys[i]?=some y,λi H v H'=>∃p,v=.ref p/\H p=none/\∃x y,(∀xs,SqL K H a xs->xs[i]?=some x)/\(∀ys,SqL K H b ys->ys[i]?=some y)/\H'=upd H p (.tup [x,y]),λi H=>∃xs ys,SqL K H a xs/\SqL K H b ys/\(xs.length<=i\/ys.length<=i)⟩
theorem vM{P:Program}{w:World}{K:Ks}{KL:List Expr}{x1:Nat}{pos:Pos}(a b z TI TO i1 i2:Addr)(D:ZipApart z TI TO i1 i2 a b):Turn P w K (.Tuple KL x1 pos) (Itz K a b) [z,TI,TO,i1,i2] z (λi h=>IsZip h z TI TO .none/\IsPair h TI (.ref i1) (.ref i2)/\(∃c d,IsPair h TO c d)/\h.IsListIter i1 a i/\h.IsListIter i2 b i) where
 mem:=by simp
 obj:=λi h st c hc=>by
  obtain⟨h1,h2,⟨_,_,h3⟩,h4,h5⟩:=st;simp only[Jq,Kd,or_false]at hc;rcases hc with rfl|rfl|rfl|rfl|rfl
  ·exact⟨_,h1,λv q=>by have q':Data.fields _=Data.cell v:=q;cases q'⟩
  ·exact⟨_,h2,λv q=>by have q':Data.seq _ _=Data.cell v:=q;cases q'⟩
  ·exact⟨_,h3,λv q=>by have q':Data.seq _ _=Data.cell v:=q;cases q'⟩
  ·obtain⟨o,e1,c,d⟩:=h4;exact⟨o,e1,λv q=>by rw[d]at q;cases q⟩
  ·obtain⟨o,e1,c,d⟩:=h5;exact⟨o,e1,λv q=>by rw[d]at q;cases q⟩
 keep:=λi h h' st k=>by
  obtain⟨h1,h2,⟨c,d,h3⟩,h4,h5⟩:=st;exact⟨k z (by simp) _ h1,k TI (by simp) _ h2,⟨c,d,k TO (by simp) _ h3⟩,h4.at λo e1=>k i1 (by simp) o e1,h5.at λo e1=>k i2 (by simp) o e1⟩
 item:=by
  intro X hP hw hK hc i a_ s Z H E I hf st hg;subst hP hw hK;obtain⟨xs,ys,x,y,hq,NC,hx,hy⟩:=hg;obtain⟨its,rv,p,hz⟩:=I.list hq;obtain⟨s_,OY,p2,Oi⟩:=I.list NC;obtain⟨u,hu,ru⟩:=rv.get hx;obtain⟨u2,Sh,Si⟩:=OY.get hy;obtain⟨h1,h2,⟨c,d,h3⟩,h4,h5⟩:=st;have lt:∀{c o},s.heap.get? c=some o->c<s.heap.objs.size:=λe=>Jt e
  refine wpAny_pyNext_zip_item D h1 h2 h3 h4 h5 p.isList p2.isList (x:=u) (y:=u2) (by simpa using hu) (by simpa using Sh) λh' a1 a2 a3 a4 a5 a6 k=>?_
  have hp:H s.heap.objs.size=none:=I.j_.fresh (Jp _);have I1:Inv X a_ Z (upd H s.heap.objs.size (.tup [x,y])) {s with heap:=s.heap.push {cls:=.type "tuple",data:=.seq #[u,u2]},toks:=s.toks}:=
   I.laid (λb o e1=>Jn _ e1) (Jp _) ⟨by show 2<=sizeLine;decide,[u,u2],.cons ru (.cons Si .nil),⟨_,Jr _ rfl,rfl,_,rfl⟩⟩
  have Ku:∀b∈[z,TI,TO,i1,i2],b<s.heap.objs.size:=λb hb=>by
   simp only[Jq,Kd,or_false]at hb;rcases hb with rfl|rfl|rfl|rfl|rfl
   ·exact lt h1
   ·exact lt h2
   ·exact lt h3
   ·obtain⟨_,e,_⟩:=h4;exact lt e
   ·obtain⟨_,e,_⟩:=h5;exact lt e
  have LC:∀b∈[z,TI,TO,i1,i2],fj X a_ (upd H s.heap.objs.size (.tup [x,y])) b:=λb hb=>⟨by rw[ae (JI (Ku b hb))];exact (hf b hb).1,(hf b hb).2⟩
  have I2:=I1.turnedL (t':=s.toks) (h':=h') (ch:=[z,TI,TO,i1,i2]) (λb o hb e1=>by
   simp only[Jq,Kd,or_false,not_or]at hb;obtain⟨n1,n2,n3,n4,n5⟩:=hb;by_cases hb:b=s.heap.objs.size
   ·subst hb;have e2:(s.heap.push {cls:=.type "tuple",data:=.seq #[u,u2]}).get? s.heap.objs.size=some {cls:=.type "tuple",data:=.seq #[u,u2]}:=Jr _ rfl;rw[e2]at e1;cases e1;exact a5
   ·exact k b o n1 n3 n4 n5 ((Heap.get?_push_ne _ _ _ hb).symm.trans e1)) LC
  refine⟨.ref s.heap.objs.size,rfl,wpAny_letOwnedTupleGo_zip (s:={s with heap:=h',toks:=s.toks}) a1 λP8 Mh La=>?_⟩
  have I3:=I2.turnedL (t':=s.toks) (h':=P8) (ch:=[z,TI,TO,i1,i2]) (λb o hb e1=>(La.2 b (λq=>hb (by simp[q]))).trans e1) LC
  refine⟨.ref s.heap.objs.size,_,I3,rfl,⟨_,rfl,hp,x,y,λSj ND=>by rw[I.list_inj ND hq];exact hx,λSj ND=>by rw[I.list_inj ND NC];exact hy,rfl⟩,⟨Mh,?_,⟨u,u2,?_⟩,?_,?_⟩,λb hb=>(LC b hb).1⟩
  ·exact (La.2 TI D.TIz).trans (k _ _ D.TIz D.TITO D.TIi1 D.TIi2 h2)
  ·exact (La.2 TO D.TOz).trans a2
  ·exact a3.at λo e1=>(La.2 i1 D.i1z).trans e1
  ·exact a4.at λo e1=>(La.2 i2 D.i2z).trans e1
 done:=by
  intro X hP hw hK hc i a_ s Z H E I hf st hg;subst hP hw hK;obtain⟨xs,ys,hq,NC,hx⟩:=hg;obtain⟨its,rv,p,hz⟩:=I.list hq;obtain⟨s_,OY,p2,Oi⟩:=I.list NC;obtain⟨h1,h2,⟨c,d,h3⟩,h4,h5⟩:=st;have hl:=rv.length;have Ny:=OY.length;refine wpAny_pyNext_zip_end (I.ok.hd hc) D h1 h2 h3 h4 h5 p.isList p2.isList ?_ λh' eb=>⟨rfl,I.turnedL (t':=s.toks) (ch:=[z,TI,TO,i1,i2]) (λb o hb e=>?_) hf⟩
  ·rcases hx with hx|hx
   ·exact .inl (by simp;omega)
   ·exact .inr (by simp;omega)
  ·simp only[Jq,Kd,or_false,not_or]at hb;exact eb b o hb.1 hb.2.2.1 hb.2.2.2.1 hb.2.2.2.2 e
 self:=λ_ _ _ _ _ st h=>wpAny_pyIter_zip st.1 h
def RdQ(K:Ks)(H0:Hp)(p:Addr)(ds:List D)(S:MH->Prop):Prop:=∀H M,TM K H0 H->RelM K M H->S M->∃vs,SqL K H p vs/\DenL K H ds vs
theorem wm{K:Ks}{x:D}{v:V}(dx:Den K H0 x v)(rm:RelM K M H0)(h:rLs x M k):∃p ds S,v=.ref p/\RdQ K H0 p ds S/\S M/\k ds S:=by
 cases x with
 |g_ es=>
  obtain⟨q,vs,rfl,sq,dl⟩:=dx;exact⟨q,es,_,rfl,λH M t _ _=>⟨vs,(t.f _ _ sq).sq,dl.mono t⟩,trivial,h⟩
 |ref b=>
  cases (show v=.ref b from dx);dsimp only[rLs]at h;split at h
  ·rename_i ys e;exact⟨b,ys,_,rfl,λH M t rm s=>let ⟨ws,z,dl⟩:=rm b (.lst ys) s;⟨ws,.of z,dl⟩,e,h⟩
  ·exact h.elim
 |_=>exact h.elim
theorem An{K:Ks}(h1:RdQ K H0 p ds S)(h2:RdQ K H0 q es S'):ItOk K H0 (Itz K p q) (gL ds es) (λM=>S M/\S' M):=by
 refine⟨λi H M t rm s hi=>?_,λi H M x H' t rm s hi y=>?_,λH M t rm s=>?_⟩
 all_goals
  obtain⟨vs,sq,dl⟩:=h1 H M t rm s.1;obtain⟨ws,Na,K6⟩:=h2 H M t rm s.2;have E_:=dl.length;have Rb:=K6.length
 ·simp only[gL,Jv,List.length_zip]at hi;have Lp:i<vs.length:=by omega
  have OZ:i<ws.length:=by omega
  exact⟨vs,ws,vs[i],ws[i],sq,Na,by simp[Lp],by simp[OZ]⟩
 ·obtain⟨q,rfl,hq,v,w,hv,hw,rfl⟩:=y;obtain⟨d,e1,e2⟩:=dl.get' (hv vs sq);obtain⟨d',OV,N8⟩:=K6.get' (hw ws Na);refine⟨.new hq,rm.grow hq,.tup [d,d'],?_,⟨q,[v,w],rfl,.inl (.inl ah),⟨_,_,rfl,e2.mono (.new hq),_,_,rfl,N8.mono (.new hq),rfl⟩⟩⟩;have ez:(ds.zip es)[i]?=some (d,d'):=List.getElem?_zip_eq_some.mpr ⟨e1,OV⟩;simp[gL,ez]
 ·refine⟨vs,ws,sq,Na,?_⟩;simp only[gL,Jv,List.length_zip];omega
noncomputable def GQ(K:Ks)(ta:TA):TI:=λZ H R=>ta Z H λvs H1=>∃a b,vs=[.ref a,.ref b]/\(∃xs,SqL K H1 a xs)/\(∃ys,SqL K H1 b ys)/\R (Itz K a b) H1
theorem Am(hg:Gl X "zip")(hm:X.mg "zip"=none)(ha:PA X [a,b] ta)(hs:starEach [a,b] X.env=[(false,eval a X.env),(false,eval b X.env)])(La:starEach [b] X.env=[(false,eval b X.env)]):PI X (.Tuple KL x1 pt) (.Call (.Name "zip" p) [a,b] [] pos) (GQ X.K ta):=by
 intro a_ s Z H R I h;refine Call_ (iC I hg hm (u:=.type "zip") (by decide +kernel) (PyProof.Rows.callWith_type1 (thn (ha pos a_ s Z H _ I h) λus s1 ⟨vs,H1,I1,r1,q1⟩=>?_) (by rw[hs,La]) (by rw[La];rfl)))
 obtain⟨c,d,e,⟨xs,hq⟩,⟨ys,NC⟩,q⟩:=q1;subst e;obtain⟨u,w,rfl,ru,KG⟩:=r1.two;cases ru;cases KG;obtain⟨its,rv,pl,hz⟩:=I1.list hq;obtain⟨s_,OY,Rc,Oi⟩:=I1.list NC;have a1:c<s1.heap.objs.size:=by obtain⟨_,_,e,_⟩:=pl;exact Jt e
 have a2:d<s1.heap.objs.size:=by obtain⟨_,_,e,_⟩:=Rc;exact Jt e
 refine call_zip_2 pl.isList Rc.isList λh' h1 h2 h3 h4 h5 _ k=>?_
 refine wpAny_pyIter_zip (s:={s1 with heap:=h'}) h1 ?_
 refine⟨s1.heap.objs.size+4,[s1.heap.objs.size+4,s1.heap.objs.size+2,s1.heap.objs.size+3,s1.heap.objs.size,s1.heap.objs.size+1],_,_,H1,rfl,I1.kept (t':=s1.toks) k,vM c d _ _ _ _ _ (zipApart_new a1 a2),⟨h1,h2,⟨_,_,h3⟩,h4,h5⟩,λb hb=>?_,q⟩
 have Mx:s1.heap.objs.size<=b:=by
  simp only[Jq,Kd,or_false]at hb;rcases hb with rfl|rfl|rfl|rfl|rfl<;>first|exact Jp _|exact Kp _ _
 exact I1.fpOk Mx (I1.j_.fresh Mx)
theorem E9(hg:Gl X "zip")(hm:X.mg "zip"=none)(ha:PE X a (low X.K cls E2 ta))(hb:PE X b (low X.K cls E2 tb))(hs:starEach [a,b] X.env=[(false,eval a X.env),(false,eval b X.env)])(La:starEach [b] X.env=[(false,eval b X.env)]) :
  PI X (.Tuple KL x1 pt) (.Call (.Name "zip" p) [a,b] [] pos) (lq X.K cls E2 λZ M R E=>ta Z M (λx M1=>tb Z M1 (λy M2=>rLs x M2 λxs S=>rLs y M2 λys S'=>R (gL xs ys) (λM=>S M/\S' M) M2) E) E):=
 (Am hg hm (bb ha (bb hb pa_nil La) (by rw[hs,La])) hs La).imp λZ H R2 k_=>ex9 k_ λh_ M R E3 rm ds lk h k=>qm rm ds lk h λv w H2 x y M2 dx dy H_ t2 q2=>by
  obtain⟨p,es,S,rfl,r1,s1,q2⟩:=wm dx H_ q2;obtain⟨q,fs,S',rfl,r2,s2,q2⟩:=wm dy H_ q2;exact⟨p,q,rfl,(r1 _ _ (.refl _) H_ s1).imp λ_ z=>z.1,(r2 _ _ (.refl _) H_ s2).imp λ_ z=>z.1,k _ _ _ _ _ (An r1 r2) H_ t2 q2⟩
end
section
variable {A:Around}{s:Shared}
end
section
variable {prog:Program}{w:World}{A:Around}{E:Value->Shared->Prop}{s:Shared}{z TI TO i1 i2 l1 l2 S:Addr}{xs ys:Array Value}{i:Nat}
end
section
variable {prog:Program}{w:World}{A:Around}{s:Shared}{R:Result->Shared->Prop}{z TI TO i1 i2 l1 l2 S lo:Addr}{xs ys:Array Value}
end
section
variable {prog:Program}{w:World}{A:Around}{E:Value->Shared->Prop}{s:Shared}{R:Result->Shared->Prop}{z TI TO i1 i2 l1 l2 S lo:Addr}{xs ys:Array Value}
end
section
variable {X:Cx}{s:Shared}{h':Heap}
end
section
variable {X:Cx}
end
section
variable {A:Around}{s:Shared}{items:Array Value}
end
section
variable {X:Cx}
theorem BQ(rm:RelM X.K M H)(dx:Den X.K H x v)(e:am M x=some ds):∃a vs,v=.ref a/\RdL X.K H a vs/\DenL X.K H ds vs:=by
 cases x with
 |g_ es=>
  cases e;obtain⟨a,vs,rfl,sq,dl⟩:=dx;exact⟨a,vs,rfl,sq.rd,dl⟩
 |ref a=>
  cases q:M a with
  |none=>simp[am,q]at e
  |some o=>
   cases o with
   |lst es=>
    simp[am,q]at e;subst e;cases (show v=.ref a from dx);obtain⟨vs,e1,dl⟩:=rm a _ q;exact⟨a,vs,rfl,.inl (.inl e1),dl⟩
   |_=>simp[am,q]at e
 |_=>cases e
theorem pT{s:Shared}(I:Inv X a_ Z H s):(s.heap.objs.size == sysModules)=false:=by
 have h:mainGlobals<s.heap.objs.size:=(I.mod.glob.keeps I.bk).lt;have h2:sysModules<mainGlobals:=by decide
 exact JP.mpr (Nat.ne_of_gt (Nat.lt_trans h2 h))
theorem Ba(tk:Bool):PE X (.Dict [] [] pos) (low X.K cls E2 λZ M Q E=>∀p,M p=none->Q (.ref p) (put M p (if tk=true then .dt [] [] else .dk [] []))):=by
 refine λa_ s Z H Q2 I k_=>ex9 k_ λh_ M Q E3 rm ds lk q c_=>?_
 have hp:H s.heap.objs.size=none:=I.j_.fresh (Jp _);have hb:=pT I;have q0:=q s.heap.objs.size (rm.fresh hp);cases tk with
 |false=>
  have Nh:ObjOk X.prog X.w (upd H s.heap.objs.size (.dK [])) (s.heap.push {cls:=.type "dict",data:=.dict #[]}) s.heap.objs.size (.dK []):=⟨Nat.zero_le _,hb,[],.nil,Heap.DictOf.new s.heap⟩;have I1:=I.laid (a:=s.heap.objs.size) (o:=.dK []) (h':=s.heap.push {cls:=.type "dict",data:=.dict #[]}) (t':=s.toks) (λ_ _ q=>Jn _ q) (Jp _) Nh
  have o_:RelM X.K (put M s.heap.objs.size (.dk [] [])) (upd H s.heap.objs.size (.dK [])):=rm.lay hp ⟨[],ah,rfl,rfl⟩;exact wpAny_Dict_empty ⟨.ref s.heap.objs.size,_,I1,rfl,c_ _ _ (.ref s.heap.objs.size) _ rfl o_ (.new hp) q0⟩
 |true=>
  obtain⟨ob,es,ep,hq,hx,hd,he,_,_⟩:=(Heap.DictOfH.new (knd:=tupleKind (intKind X.prog X.w)) s.heap);have tb:aB s.heap.objs.size [] (s.heap.push {cls:=.type "dict",data:=.dict #[]}):=⟨ob,es,ep,hq,hx,hd,he⟩;have Nh:ObjOk X.prog X.w (upd H s.heap.objs.size (.ext (aB s.heap.objs.size []))) (s.heap.push {cls:=.type "dict",data:=.dict #[]}) s.heap.objs.size (.ext (aB s.heap.objs.size [])):=
   ⟨tb,⟨ob,hq⟩,λg1 g2 ⟨o1,Mr,Ms,a1,a2,a3,a4⟩ kk=>⟨o1,Mr,Ms,kk _ a1,a2,a3,a4⟩⟩
  have I1:=I.laid (a:=s.heap.objs.size) (o:=.ext (aB s.heap.objs.size [])) (h':=s.heap.push {cls:=.type "dict",data:=.dict #[]}) (t':=s.toks) (λ_ _ q=>Jn _ q) (Jp _) Nh
  have o_:RelM X.K (put M s.heap.objs.size (.dt [] [])) (upd H s.heap.objs.size (.ext (aB s.heap.objs.size []))):=rm.lay hp ⟨[],[],ah,⟨rfl,.nil,Nat.zero_le _,hb,.nil,λx hx=>nomatch hx⟩,rfl⟩
  exact wpAny_Dict_empty ⟨.ref s.heap.objs.size,_,I1,rfl,c_ _ _ (.ref s.heap.objs.size) _ rfl o_ (.new hp) q0⟩
end
section
variable {A:Around}{s:Shared}{ob:Obj}{es:Array DictEntry}{ep:Nat}{d o:Addr}{nm:String}
theorem nR{v:Int}:∀{l:List DictEntry},(l.map (·.hash)).Nodup->(l.filter λx=>x.hash == v).length<=1
 |[],_=>Nat.zero_le _
 |e::l,h=>by
  rw[List.map_cons,JN]at h;rw[List.filter_cons];split
  ·rename_i c;rw[List.filter_eq_nil_iff.mpr λx hx c'=>h.1 (JM.mpr ⟨x,hx,(eq_of_beq c').trans (eq_of_beq c).symm⟩)]
   exact Jp _
  ·exact nR h.2
theorem nE(ho:s.heap.get? o=some ob)(hd:ob.data=.dict es ep)(hk:∀e∈es.toList,∃a,e.key=.ref a/\s.TypeIs (.ref a) "tuple")(nd:(es.toList.map (·.hash)).Nodup)(q:Q es s):wpAny (model prog w) A (Builtin.Dict.entriesForEmpty nm o) Q E s:=by
 unfold Builtin.Dict.entriesForEmpty;refine AV (JZ ho hd ?_);refine AV (wpAny_forIn_array' _ (λl _ s'=>s'=s/\∀e∈l,e∈es.toList) _ (λe aU b s' ⟨e1,hl⟩=>?_) (λb s' ⟨e1,_⟩=>?_) es _ ⟨rfl,λ_ h=>h⟩)
 ·subst e1;obtain⟨a,ea,hT⟩:=hk e (hl e Jo);have hf:(es.filter λx=>x.hash == e.hash).size<=1:=by
   rw[<-Array.length_toList,Array.toList_filter];exact nR nd
  refine AV ?_;rw[ea];unfold Builtin.Dict.quietEq;refine AV (wpAny_specialOf hT F.slot_tuple_eq.lookup (Jl ?_));rw[Js (by decide),Jm (by omega)]
  exact Jl ⟨rfl,λx hx=>hl x (Jk _ hx)⟩
 ·subst e1;exact Jl q
theorem sX{o1:Obj}(Sk:d≠o)(no:(o == sysModules)=false)(h1:s.heap.get? d=some o1)(x1:o1.ExactDict)(d1:o1.data=.dict #[] 0)(ho:s.heap.get? o=some ob)(hd:ob.data=.dict es ep)(hz:es.size<=sizeLine)(hk:∀e∈es.toList,∃a,e.key=.ref a/\s.TypeIs (.ref a) "tuple")(nd:(es.toList.map (·.hash)).Nodup)
  (q:∀h' o2 LX,h'.get? d=some o2->o2.ExactDict->o2.data=.dict es LX->Heap.SameBut d s.heap h'->Q () {s with heap:=h'}):wpAny (model prog w) A (Builtin.Dict.mergeDict nm d o) Q E s:=by
 unfold Builtin.Dict.mergeDict;rw[Jm (by simp[Sk])]
 unfold Builtin.Dict.showsAll;rw[Jm (by rw[no];exact JH)]
 refine AV (Jl (AV (JZ ho hd ?_)));by_cases h0:es=#[]
 ·subst h0;simp;refine AV (wpAny_dictEpoch ho hd (AV (JZ ho hd ?_)));show wpAny _ _ (pure PUnit.unit) Q E s;exact Jl (q s.heap o1 0 h1 x1 d1 (.refl ..))
 ·have Pr:(decide (es.size<=8)&&es.all λe=>(keyPart e.key).isSome)=false:=Bool.eq_false_iff.mpr λz=>by
   obtain⟨e,he⟩:=List.exists_mem_of_ne_nil es.toList (by simpa using h0)
   obtain⟨a,ea,_⟩:=hk e he;rw[Jj,<-Array.all_toList,JD]at z;have:=z.2 e he;rw[ea]at this;cases this
  simp only[Pr];rw[Js (show (!false)=true from rfl)];refine AV (JZ h1 d1 ?_);rw[Js (show (#[]:Array DictEntry).isEmpty=true from rfl)];refine AV (nE ho hd hk nd ?_);rw[Js (by simp[h0])]
  exact AV (wpAny_updateDictKeysTo h1 d1 (Jl (q _ _ _ (JV _ h1 (Obj.isFreed_of_dict (Obj.data_mapDictKeys d1 _))) (x1.mapDictKeys _) (Obj.data_mapDictKeys d1 _) (Heap.SameBut.update ..))) (by show es.size<=_;omega))
theorem wb(no:(o == sysModules)=false)(ho:s.heap.get? o=some ob)(hx:ob.ExactDict)(hd:ob.data=.dict es ep)(hz:es.size<=sizeLine)(hk:∀e∈es.toList,∃a,e.key=.ref a/\s.TypeIs (.ref a) "tuple")(nd:(es.toList.map (·.hash)).Nodup)
  (q:∀h' o2 LX,h'.get? s.heap.objs.size=some o2->o2.ExactDict->o2.data=.dict es LX->(∀b u,s.heap.get? b=some u->h'.get? b=some u)->Q (.ref s.heap.objs.size) {s with heap:=h'}):wpAny (model prog w) A (call (.type "dict") [.ref o]) Q E s:=by
 have lt:=Jt ho;refine callType_codes F.kt_called_dict (F.kt_typeCall_dict_1 _) F.entry_dict_init (kt_code_dict_new _ (Q₁:=λv s1=>v=.ref s.heap.objs.size/\s1={s with heap:=s.heap.push {cls:=.type "dict",data:=.dict #[]}}) ⟨rfl,rfl⟩) λv s1 ⟨e1,e2⟩=>?_
 subst e1;subst e2;have up:∀{b u},s.heap.get? b=some u->(s.heap.push {cls:=.type "dict",data:=.dict #[]}).get? b=some u:=λh=>Jn _ h
 have hT:({s with heap:=s.heap.push {cls:=.type "dict",data:=.dict #[]}}:Shared).TypeIs (.ref s.heap.objs.size) "dict":=⟨_,Jr _ rfl,rfl⟩
 have P9:({s with heap:=s.heap.push {cls:=.type "dict",data:=.dict #[]}}:Shared).TypeIs (.ref o) "dict":=⟨_,up ho,hx.1⟩
 refine⟨hT,F.args_dict_init_2 _ _,?_⟩;unfold Builtin.«dict.__init__»;refine AV ?_;unfold Builtin.Dict.selfAndRest;refine AV (wpAny_notOrdered_dict hT ?_);refine AV (Jl (Jl ?_));show wpAny _ _ (Builtin.Dict.updateFrom "dict.__init__" _ (.ref o) [] .none) _ _ _;unfold Builtin.Dict.updateFrom;refine AV (wpAny_typeOf P9 ?_);rw[Jm (by decide)]
 refine AV ?_;unfold Builtin.Dict.merge;refine AV ?_;unfold Builtin.Dict.readDirectly;refine AV (wpAny_isInstance P9 isSubtype_dict_dict ?_);rw[Jm (by decide)]
 refine AV (wpAny_specialOf P9 F.slot_dict_iter.lookup (Jl ?_));rw[Js (by decide)]
 refine AV (Jl ?_);refine sX (Nat.ne_of_gt lt) no (Jr _ rfl) ⟨rfl,rfl,rfl⟩ rfl (up ho) hd hz (λe he=>?_) nd λh' o2 LX g1 g2 g3 g4=>?_
 ·obtain⟨a,ea,u,hu,hc⟩:=hk e he;exact⟨a,ea,u,up hu,hc⟩
 ·refine AV (Jl (Jl ⟨rfl,q _ _ _ g1 g2 g3 λb u hb=>?_⟩))
  exact (g4.2 b (JI (Jt hb))).trans (up hb)
end
theorem zq{X:Cx}:VC X (.type "dict") (rBi .Nw):=by
 intro a_ s Z H xs vs us M Q Q2 I r dl rm q c_;simp only[rBi]at q;split at q
 ·split at q
  ·rename_i ks ds e;obtain⟨v,rfl,dv⟩:=gV dl;obtain⟨p,ws,ts,rfl,rd,z,K6⟩:=ef e rm dv;obtain⟨ob,es,ep,h1,h2,h3,h4,h5⟩:=mP I rd z;obtain⟨u,rfl,rx⟩:=g7 r;cases rx;have hp:H s.heap.objs.size=none:=I.j_.fresh (Jp _);refine wb z.no h1 h2 h3 (by have:=z.sz;omega) (λe he=>?_) ?_ λh' o2 LX g1 g2 g3 kp=>?_
   ·rw[h4]at he;obtain⟨x,hx,rfl⟩:=JM.mp he;obtain⟨its,_,⟨o1,e1,c1,_⟩,_⟩:=I.tuple (z.at_ x hx);exact⟨x.2.1,rfl,o1,e1,c1⟩
   ·have e2:es.toList.map (·.hash)=ks.map tH:=by rw[h4,<-z.kx,List.map_map,List.map_map];rfl
    rw[e2];exact q.1
   ·have Nh:ObjOk X.prog X.w (upd H s.heap.objs.size (.ext (aB s.heap.objs.size ts))) h' s.heap.objs.size (.ext (aB s.heap.objs.size ts)):=
     ⟨⟨o2,es,LX,g1,g2,g3,h4⟩,⟨o2,g1⟩,λ_ _ ⟨o1,Mr,Ms,a1,a2,a3,a4⟩ kk=>⟨o1,Mr,Ms,kk _ a1,a2,a3,a4⟩⟩
    have I1:=I.laid (a:=s.heap.objs.size) (t':=s.toks) kp (Jp _) Nh;have o_:RelM X.K (put M s.heap.objs.size (.dt ks ds)) (upd H s.heap.objs.size (.ext (aB s.heap.objs.size ts))):=rm.lay hp ⟨ws,ts,ah,⟨z.kx,z.nd,z.sz,pT I,z.vx,λx hx=>(TM.new hp).t _ _ (z.at_ x hx)⟩,K6.mono (.new hp)⟩
    exact⟨.ref s.heap.objs.size,_,I1,rfl,c_ _ _ (.ref s.heap.objs.size) _ rfl o_ (.new hp) (q.2 _ (rm.fresh hp))⟩
  ·exact q.elim
 ·exact q.elim
section
variable {X:Cx}
end
theorem rq:∀{ds:List D}{ps:List (Int×Int)},tU ds=some ps->ds=ps.map prD
 |[],ps,h=>by cases h;rfl
 |d::r,ps,h=>by
  unfold tU at h;split at h
  ·rename_i e;cases e
  ·rename_i a b r' e;cases e;split at h
   ·rename_i qs e2;cases h;rw[rq e2];rfl
   ·cases h
  ·cases h
theorem kE(bt:Nat->Nat->Bool):∀k,argBest bt k<=k
 |0=>Jp _
 |k+1=>by
  unfold argBest;split
  ·exact Jp _
  ·exact Nat.le_succ_of_le (kE bt k)
theorem sU{ps:List (Int×Int)}(h:ps≠[]):wK ps∈ps:=by
 have hl:0<ps.length:=List.length_pos_iff.mpr h;unfold wK;have:=kE (λi j=>lt2 (ps.getD i (0,0)) (ps.getD j (0,0))) (ps.length-1)
 rw[List.getD_eq_getElem?_getD,JG (by omega)]
 exact J9 _
section
variable {X:Cx}{cls:Nat->Addr}{E2:St->XK}{e:Expr}{pos p:Pos}
theorem Fn{a_:List (Addr×Obj)}{Z:St}{H:Hp}{s:Shared}{Ex:Value->Shared->Prop}{x:D}{v:V}{v2:Value}{M:MH}{Q:VK3}{Q2:VK}(hc:X.calm=true)(hu:X.A.units+64<cLine)
  (I:Inv X a_ Z H s)(rv:RelV v v2)(dx:Den X.K H x v)(rm:RelM X.K M H)(q:rMp x M Q)(c_:Back X.K H Q Q2) :
  wpAny (model X.prog X.w) X.A (call (.builtin "min") [v2]) (EP X a_ Z Q2) Ex s:=by
 have hh:=I.ok.hd hc;unfold rMp at q;split at q
 ·rename_i ds e1;obtain⟨a,vs,rfl,rd,dl⟩:=BQ rm dx e1;cases rv;obtain⟨_,its,n,r,E_,hg⟩:=I.rdL rd;have hl:s.heap.IsList a its.toArray:=⟨_,hg,rfl,n,rfl⟩;split at q
  ·rename_i p0 ps e2;have el:=rq e2;have lv:vs.length=its.length:=r.length;have ld:ds.length=vs.length:=dl.length;have lp:ds.length=(p0::ps).length:=by rw[el,Jv]
   have at_:∀(i:Nat)(u:Value),its.toArray[i]?=some u->∃w,Den X.K H (prD ((p0::ps).getD i (0,0))) w/\RelV w u:=λi u hv=>by
    have hv:its[i]?=some u:=by simpa using hv
    have hi:i<its.length:=(JQ.mp hv).1;have OZ:i<(p0::ps).length:=by omega
    have ed:ds[i]?=some (prD ((p0::ps).getD i (0,0))):=by
     rw[el,Jz,JG OZ,List.getD_eq_getElem?_getD,JG OZ];rfl
    obtain⟨w,w1,w2⟩:=dl.get ed;obtain⟨u',u1,u2⟩:=r.get w1;rw[hv]at u1;cases u1;exact⟨w,w2,u2⟩
   refine BD (ps:=λi=>(p0::ps).getD i (0,0)) hh (by omega) hl (by rw[Jy];simp at lp;omega) (λi u hv=>?_) λu h' tk hv k=>?_
   ·obtain⟨w,w2,u2⟩:=at_ i u hv;obtain⟨b,zs,rfl,sq,dz⟩:=w2;cases u2;have ez:=DenL.int_of (ns:=[((p0::ps).getD i (0,0)).1,((p0::ps).getD i (0,0)).2]) dz;subst ez;obtain⟨Tq,r2,⟨⟨c1,dd,da,sl⟩,g2,cc,m,d2⟩,_⟩:=I.tuple sq;simp only at cc d2;subst cc d2;cases r2 with
    |cons h1 r2=>
     cases r2 with
     |cons h2 r2=>
      cases r2;obtain⟨t1,rfl⟩:=h1;obtain⟨t2,rfl⟩:=h2;exact⟨b,m,t1,t2,dd,sl,rfl,g2⟩
   ·have es:its.toArray.size=(p0::ps).length:=by rw[Jy];omega
    rw[es]at hv;obtain⟨w,w2,u2⟩:=at_ _ u hv;exact⟨w,H,I.kept k,u2,c_ _ _ _ _ w2 rm (.refl _) q⟩
  ·exact q.elim
 ·exact q.elim
theorem EW{te:St3->MH->VK3->XN->Prop}(hc:X.calm=true)(hu:X.A.units+64<cLine)(ha:PE X e (low X.K cls E2 te))(hg:Gl X "min")(hm:X.mg "min"=none)(hs:starEach (e::[]) X.env=(false,eval e X.env)::starEach [] X.env) :
  PE X (.Call (.Name "min" p) [e] [] pos) (low X.K cls E2 λZ M Q E=>te Z M (λx M1=>rMp x M1 Q) E):=by
 have Q9:CallR X (.builtin "min") (λvs H Q2=>∃x v M Q,vs=[v]/\Den X.K H x v/\RelM X.K M H/\rMp x M Q/\Back X.K H Q Q2):=by
  refine λa_ s Z H vs us Q2 I r k_=>ex9 k_ λx v M Q e dx rm q c_=>?_
  subst e;obtain⟨u,rfl,ru⟩:=g7 r;exact Fn hc hu I ru dx rm q c_
 refine (jO Q9 hg hm (by decide +kernel) (bb ha pa_nil hs) (by decide +kernel) (by decide +kernel) hs (by rfl)).imp λZ H Q2 k_=>ex9 k_ λh_ M Q E3 rm ds lk h c_=>?_
 exact aZ rm ds lk h λv H1 x M1 dx o_ t1 q1=>⟨x,v,M1,Q,rfl,dx,o_,q1,c_.mono t1⟩
end
noncomputable def isN(i:Int):Expr->Bool
 |.Constant k _ _=>match k with
  |.int j=>decide (j=i)
  |_=>false
 |_=>false
section
variable {X:Cx}
end
section
variable {X:Cx}{A:Around}
theorem BS{kt:List (List Int)}{k:List Int}{y:D}{v:V}{b:Addr}{R:MH->Prop}{R2:Hp->Prop}(hu:A.units+1<cLine)(I:Inv X a_ Z H s)(rm:RelM X.K M H)(q:M a=some (.dt kt ds))(sq:SqT X.K H b (k.map V.int))(dy:Den X.K H y v)(rv:RelV v r)(hz:kt.length<sizeLine)
  (h:R (put M a (.dt (ai kt k) (aq kt ds k y)))) (c_:∀H' M',RelM X.K M' H'->TM X.K H H'->R M'->R2 H'):wpAny (model X.prog X.w) A (dictSet a (.ref b) r) (λ_ s'=>∃H',Inv X a_ Z H' s'/\R2 H') E s:=by
 obtain⟨vs,xs,e,z,dl⟩:=rm a _ q;have dd:=bS I (.inl e) z;have nd:(xs.map (·.1)).Nodup:=by rw[z.kx];exact z.nd
 obtain⟨Lo,h1,h2,h3,h4⟩:=fU (k:=k) (b:=b) nd z.vx rv dl dy;rw[z.kx]at h1 h3;have hsz:xs.length<=sizeLine:=by
  have:=congrArg List.length z.kx;rw[Jv]at this;omega
 refine wpAny_dictSet_heap (hsz:=hsz) (show A.units<cLine by omega) (eJ I sq) dd λh' MG hs=>?_
 obtain⟨ob,es,ep,hq,hx,hd,he,_,_⟩:=MG;have tw:TM X.K H (upd H a (.ext (aB a (storedH xs k b r)))):=.put e (λ_ z=>by cases z) λ_ _ z=>by cases z
 have tb:aB a (storedH xs k b r) h':=⟨ob,es,ep,hq,hx,hd,he⟩;have I':Inv X a_ Z (upd H a (.ext (aB a (storedH xs k b r)))) {s with heap:=h',toks:=s.toks+(tupleKind (intKind X.prog X.w)).draws k}:=
  jg I (by rw[e];exact True.intro) hs ⟨ob,hq⟩ ⟨tb,⟨ob,hq⟩,λg1 g2 ⟨o1,Mr,Ms,a1,a2,a3,a4⟩ kk=>⟨o1,Mr,Ms,kk _ a1,a2,a3,a4⟩⟩
 refine⟨_,I',c_ _ _ (rm.write (u:=.dt (ai kt k) (aq kt ds k y)) e (λ_ z=>by cases z) (λ_ _ z=>by cases z) ⟨Lo,_,ah,⟨h1,eW z.nd,JF bh hz,z.no,h2,λx LU=>?_⟩,h3.mono tw⟩) tw h⟩
 rcases h4 x LU with ⟨q1,q2⟩|⟨x',m,q1,q2⟩
 ·rw[q1,q2];exact tw.t _ _ sq
 ·rw[<-q1,<-q2];exact tw.t _ _ (z.at_ x' m)
theorem BE(hu:X.A.units+64<cLine)(hk:PE X k (low X.K cls E2 tk))(hv:PE X v (low X.K cls E2 tv)) :
  PE X (.Dict [some k] [v] pos) (low X.K cls E2 λZ M Q E=>∀p,M p=none->tk Z (put M p (.dt [] [])) (λx M1=>tv Z M1 (λy M2=>iN p x y M2 Q) E) E):=by
 refine λa_ s Z H Q2 I k_=>ex9 k_ λh_ M Q E3 rm ds lk q c_=>?_
 have hp:H s.heap.objs.size=none:=I.j_.fresh (Jp _);have hb:=pT I;obtain⟨ob,es,ep,hq,hx,hd,he,_,_⟩:=(Heap.DictOfH.new (knd:=tupleKind (intKind X.prog X.w)) s.heap);have tb:aB s.heap.objs.size [] (s.heap.push {cls:=.type "dict",data:=.dict #[]}):=⟨ob,es,ep,hq,hx,hd,he⟩;have Nh:ObjOk X.prog X.w (upd H s.heap.objs.size (.ext (aB s.heap.objs.size []))) (s.heap.push {cls:=.type "dict",data:=.dict #[]}) s.heap.objs.size (.ext (aB s.heap.objs.size [])):=
  ⟨tb,⟨ob,hq⟩,λg1 g2 ⟨o1,Mr,Ms,a1,a2,a3,a4⟩ kk=>⟨o1,Mr,Ms,kk _ a1,a2,a3,a4⟩⟩
 have I1:=I.laid (a:=s.heap.objs.size) (o:=.ext (aB s.heap.objs.size [])) (h':=s.heap.push {cls:=.type "dict",data:=.dict #[]}) (t':=s.toks) (λ_ _ q=>Jn _ q) (Jp _) Nh
 have o_:RelM X.K (put M s.heap.objs.size (.dt [] [])) (upd H s.heap.objs.size (.ext (aB s.heap.objs.size []))):=rm.lay hp ⟨[],[],ah,⟨rfl,.nil,Nat.zero_le _,hb,.nil,λx hx=>nomatch hx⟩,rfl⟩
 have Lr:TM X.K H (upd H s.heap.objs.size (.ext (aB s.heap.objs.size []))):=.new hp;have q0:=q s.heap.objs.size (rm.fresh hp);have hn:=pairTrees_length [some k] [v] X.env pos rfl rfl;rw[arm_eval_Dict,zip_pairTrees [some k] [v] X.env pos rfl rfl,dictDisplay_pairs (pairTrees [some k] [v] X.env pos) (by intro z;rw[z]at hn;cases hn) (by rw[hn];show 1<17;decide)]
 refine AV (wpAny_standAt (AV ?_));unfold subDict;refine AV (wpAny_alloc (AV (Kc ?_)));rw[Js (by rw[hn];show 1<=15;decide)]
 refine AV (pairTrees_cons_walk ?_);refine thn (hk a_ _ Z _ (λu H2=>∃x M2,Den X.K H2 x u/\RelM X.K M2 H2/\TM X.K H H2/\tv h_ M2 (λy M3=>iN s.heap.objs.size x y M3 Q) E3) I1
  ⟨h_,_,_,E3,o_,ds.mono Lr,lk.mono Lr,q0,λu H2 x M2 dx H_ t2 q2=>⟨x,M2,dx,H_,Lr.trans t2,q2⟩⟩) λkv s2 ⟨u,H2,I2,ru,x,M2,dx,H_,t2,q2⟩=>?_
 refine thn (hv a_ _ Z _ (λv H3=>∃y M3,Den X.K H3 x u/\Den X.K H3 y v/\RelM X.K M3 H3/\TM X.K H H3/\iN s.heap.objs.size x y M3 Q) I2
  ⟨h_,_,_,E3,H_,ds.mono t2,lk.mono t2,q2,λv H3 y M3 dy Mu t3 q3=>⟨y,M3,dx.mono t3,dy,Mu,t2.trans t3,q3⟩⟩) λvv s3 ⟨v,H3,I3,rv,y,M3,Sl,dy,Mu,t3,q3⟩=>?_
 refine pairTrees_nil_walk ?_;refine Kc ?_;unfold iN at q3;split at q3
 ·rename_i kk ek;obtain⟨e,q4⟩:=q3;obtain⟨b,rfl,sq⟩:=kH ek Sl;cases ru;refine AV ?_;rw[List.forIn_cons];refine AV (AV (Km (BS (R:=λM'=>Q (.ref s.heap.objs.size) M') (R2:=λH'=>Q2 (.ref s.heap.objs.size) H') (show X.A.units+1<cLine by omega) I3 Mu e sq dy rv (by show 0<sizeLine;decide) q4
   (λH' M' r_ K4 qq=>c_ _ _ (.ref s.heap.objs.size) _ rfl r_ (t3.trans K4) qq)) (λ_ s4 ⟨H4,I4,q5⟩=>Jl ?_) λ_ _ z=>z))
  dsimp only;rw[List.forIn_nil];exact Jl (Jl (Jl (Jl ⟨.ref s.heap.objs.size,H4,I4,rfl,q5⟩)))
 ·exact q3.elim
end
section
variable {A:Around}{s:Shared}{ob:Obj}{es:Array DictEntry}
theorem jL(hn:(d == sysModules)=false):MeetsIn prog w (Builtin.«dict.items» ⟨[.ref d],[]⟩) (λ_ R s=>s.TypeIs (.ref d) "dict"/\R (.ok (.ret (.ref s.heap.objs.size))) {s with heap:=s.heap.push {cls:=.type "dict_items",data:=.fields #[.ref d]}}):=
 .of_wp λA R s ⟨ty,q⟩=>by
  unfold Builtin.«dict.items»;refine AV ?_;unfold Builtin.Dict.noArgs;refine AV (wpAny_notOrdered_dict ty (show wpAny _ _ (pure d) _ _ s from Jl (show wpAny _ _ (Builtin.Dict.showsAll d >>=_) _ _ s from ?_)));unfold Builtin.Dict.showsAll;rw[hn];exact AV (Jl (AV (JT (Jl ⟨_,rfl,q⟩))))
theorem jF(vw:s.heap.IsItemsView p d)(ho:s.heap.get? d=some ob)(hd:ob.data=.dict es ep)
  (q:Q (.ref s.heap.objs.size) {s with heap:=s.heap.push {cls:=.type "dict_itemiterator",data:=.fields #[.none,.bool false,.ref d,.int 0 0,.int es.size 0,.int ep 0,.none,.none]}}):wpAny (model prog w) A (pyIter (.ref p)) Q E s:=by
 obtain⟨ov,e1,e2,e3⟩:=id vw;refine wpAny_pyIter_slot vw.typeIs F.slot_dict_items_iter (Kj F.slot_dict_items_iter vw.typeIs F.entry_dict_items_iter ?_ (F.args_dict_items_iter_1 _));unfold Builtin.«dict_items.__iter__» Builtin.Dict_items.dictOf Builtin.Dict_items.newIterator;refine AV (Jl (AV (AV (Kg e1 e3 (x:=.ref d) rfl (Jl (AV (AV (JZ ho hd (AV (wpAny_dictEpoch ho hd ?_))))))))));simp only[show Builtin.Dict_items.ownsTuple "dict_itemiterator"=true by decide,if_true]
 refine JT (Jl ⟨_,rfl,"dict_itemiterator",_,⟨_,Jr _ rfl,rfl⟩,F.slot_dict_itemiterator_next.lookup,?_⟩) (by simp only[sizeOk,Builtin.Dict_items.ownedTupleFields,Jy,JR,Jx,List.length_nil,sizeLine_eq];omega)
 simpa [rawInt,Builtin.Dict_items.ownedTupleFields] using q
theorem j0{e:DictEntry}(B_:IsItemIter s.heap it d i es.size ep a1 a2)(ho:s.heap.get? d=some ob)(hd:ob.data=.dict es ep)(he:es[i]?=some e)
  (hQ:∀h',IsItemIterOut h' it d (i+1) es.size ep e.key e.val s.heap.objs.size->h'.get? s.heap.objs.size=some {cls:=.type "tuple",data:=.seq #[e.key,e.val]}->
   (∀b o,b≠it->s.heap.get? b=some o->h'.get? b=some o)->Q (some (.ref s.heap.objs.size)) {s with heap:=h'}):wpAny (model prog w) A (pyNext (.ref it)) Q E s:=by
 obtain⟨hp,g,dr,tk,os⟩:=s;have ty:Shared.TypeIs ⟨hp,g,dr,tk,os⟩ (.ref it) "dict_itemiterator":=⟨_,B_,rfl⟩;have Ku:i<es.size:=(Kb.mp he).1;unfold pyNext;refine AV (wpAny_attempt (wpAny_callSpecial?_slot (name:=Str.ofString "__next__") ty F.slot_dict_itemiterator_next (Kj F.slot_dict_itemiterator_next ty F.entry_dict_itemiterator_next ?_ (F.args_dict_itemiterator_next_1 _))));refine AV (Jl (AV (AV ?_)))
 first|refine AV (wpAny_typeNameOfWhole_itemiter ty (Jl (AV (wpAny_fieldsOf B_ rfl ?_))))|refine AV (wpAny_typeNameOf_itemiter ty (Jl (AV (wpAny_fieldsOf B_ rfl ?_))))
 simp only[show Builtin.Dict_items.ownsTuple "dict_itemiterator"=true by decide,if_true]
 have nn:¬ ((Value.ref d == Value.none)=true):=JH;refine (show wpAny _ _ (if (Value.ref d == Value.none)=true then _ else _) _ _ _ from ?_)
 rw[Jm nn];refine AV (Jl (AV (JZ ho hd ?_)));rw[Jm (by simp)]
 refine AV (Jl (AV (wpAny_dictEpoch ho hd ?_)));rw[Jm (by simp)]
 refine Jl ?_;simp only[show ¬ ((i:Int)<0) from by omega,if_false,Kl,he]
 refine AV ?_
 first|refine AV (wpAny_typeNameOfWhole_itemiter ty (Jl (AV (wpAny_isOneOf_itemiter ty ?_))))|refine AV (wpAny_typeNameOf_itemiter ty (Jl (AV (wpAny_isOneOf_itemiter ty ?_))))
 refine (show wpAny _ _ (setField (.ref it) 3 (rawInt ((i:Int)+1)) >>=_) _ _ ⟨hp,g,dr,tk,os⟩ from ?_);refine AV (wpAny_setField_rec B_ (by simp) λk1 f1 u1=>?_)
 replace u1:Heap.SameBut it hp k1:=u1
 replace f1:IsItemIter k1 it d (i+1) es.size ep a1 a2:=by
  unfold IsItemIter;rw[show ((i+1:Nat):Int)=(i:Int)+1 by omega]
  simpa [rawInt] using f1
 have P_:Shared.TypeIs ⟨k1,g,dr,tk,os⟩ (.ref it) "dict_itemiterator":=⟨_,f1,rfl⟩;refine AV (Kc (AV (wpAny_isOneOf_itemiter P_ (AV (wpAny_isOneOf_itemiter P_ ?_)))));show wpAny _ _ (Builtin.Dict_items.pairFromOwner (.ref it) 6 e.key e.val) _ _ ⟨k1,g,dr,tk,os⟩;unfold Builtin.Dict_items.pairFromOwner;refine AV (wpAny_newTuple ?_);have f2:IsItemIter (k1.push {cls:=.type "tuple",data:=.seq #[e.key,e.val]}) it d (i+1) es.size ep a1 a2:=Jn _ f1;generalize Qa:k1.push {cls:=.type "tuple",data:=.seq #[e.key,e.val]}=k2 at f2;have z1:k1.objs.size=hp.objs.size:=u1.1;have lt:it<hp.objs.size:=Jt B_;have t2:k2.get? hp.objs.size=some {cls:=.type "tuple",data:=.seq #[e.key,e.val]}:=by rw[<-Qa,<-z1];exact Jr _ rfl
 have r2:∀b o,b≠it->hp.get? b=some o->k2.get? b=some o:=λb o hb q=>by rw[<-Qa];exact Jn _ (u1.extBut b o hb q)
 show wpAny _ _ (Builtin.Dict_items.ownedTupleIsFree (.ref it) >>=_) _ _ ⟨k2,g,dr,tk,os⟩;rw[z1];clear Qa f1 u1 P_ z1 k1;unfold Builtin.Dict_items.ownedTupleIsFree;refine AV (AV (Kg f2 rfl (x:=.none) rfl (Jl ?_)));simp only[if_true];refine AV (Kg f2 rfl (x:=a1) rfl (AV (Kg f2 rfl (x:=a2) rfl (AV (wpAny_setField_rec f2 (by simp) λk3 f3 u3=>?_)))))
 replace u3:Heap.SameBut it k2 k3:=u3
 replace f3:IsItemIter k3 it d (i+1) es.size ep e.key a2:=f3
 refine AV (wpAny_setField_rec f3 (by simp) λk4 f4 u4=>?_)
 replace u4:Heap.SameBut it k3 k4:=u4
 replace f4:IsItemIter k4 it d (i+1) es.size ep e.key e.val:=f4
 refine AV (wpAny_setField_rec f4 (by simp) λk5 f5 u5=>?_)
 replace u5:Heap.SameBut it k4 k5:=u5
 replace f5:IsItemIterOut k5 it d (i+1) es.size ep e.key e.val hp.objs.size:=f5
 refine AV (wpAny_setField_rec f5 (by simp) λk6 f6 u6=>?_)
 replace u6:Heap.SameBut it k5 k6:=u6
 replace f6:IsItemIterOut k6 it d (i+1) es.size ep e.key e.val hp.objs.size:=f6
 have up:∀b o,b≠it->k2.get? b=some o->k6.get? b=some o:=λb o hb q=>u6.extBut b o hb (u5.extBut b o hb (u4.extBut b o hb (u3.extBut b o hb q)))
 exact AV (wpAny_letGo (Jl (Jl ⟨_,rfl,Jl (hQ k6 f6 (up _ _ (Nat.ne_of_gt lt) t2) λb o hb q=>up b o hb (r2 b o hb q))⟩)))
theorem jt(cm:A.handled=none)(B_:IsItemIter s.heap it d i es.size ep a1 a2)(ho:s.heap.get? d=some ob)(hd:ob.data=.dict es ep)(he:es.size<=i)
  (hQ:∀h',Heap.ExtBut it s.heap h'->Q none {s with heap:=h'}):wpAny (model prog w) A (pyNext (.ref it)) Q E s:=by
 have ty:s.TypeIs (.ref it) "dict_itemiterator":=⟨_,B_,rfl⟩;unfold pyNext;refine AV (wpAny_attempt (wpAny_callSpecial?_slot (name:=Str.ofString "__next__") ty F.slot_dict_itemiterator_next (Kj F.slot_dict_itemiterator_next ty F.entry_dict_itemiterator_next ?_ (F.args_dict_itemiterator_next_1 _))));refine AV (Jl (AV (AV ?_)))
 first|refine AV (wpAny_typeNameOfWhole_itemiter ty (Jl (AV (wpAny_fieldsOf B_ rfl ?_))))|refine AV (wpAny_typeNameOf_itemiter ty (Jl (AV (wpAny_fieldsOf B_ rfl ?_))))
 simp only[show Builtin.Dict_items.ownsTuple "dict_itemiterator"=true by decide,if_true]
 have nn:¬ ((Value.ref d == Value.none)=true):=JH;refine (show wpAny _ _ (if (Value.ref d == Value.none)=true then _ else _) _ _ s from ?_)
 rw[Jm nn];refine AV (Jl (AV (JZ ho hd ?_)));rw[Jm (by simp)]
 refine AV (Jl (AV (wpAny_dictEpoch ho hd ?_)));rw[Jm (by simp)]
 refine Jl ?_;simp only[show ¬ ((i:Int)<0) from by omega,if_false,Kl,Array.getElem?_eq_none he]
 refine AV ?_
 first|refine AV (wpAny_typeNameOfWhole_itemiter ty (Jl ?_))|refine AV (wpAny_typeNameOf_itemiter ty (Jl ?_))
 refine (show wpAny _ _ (setField (.ref it) 2 .none >>=_) _ _ s from AV (Ko B_ rfl (by simp) ?_))
 refine (show wpAny _ _ (newExc (.type "StopIteration") [] >>=_) _ _ _ from AV ?_);simp only[newExc,newTuple,raiseNew];refine AV (JT (AV (m:=firstArgMember _ _) (wpAny_of_eq (a:=Value.none) (by first|rfl|(simp only[firstArgMember];rfl)) (JT (AV (wpAny_handled ?_)) (by size_fits)))) (by size_fits))
 rw[show A.in1.handled=none from cm];refine AV (Jl (wpAny_throw ?_));have fin:=λ(h':Heap) (z:Heap.ExtBut it s.heap h')=>hQ h' z
 refine AV (wpAny_isInstance (T:="StopIteration") (b:=true) ⟨_,Jr _ rfl,rfl⟩ isSubtype_stop (Jl (fin _ (((Heap.SameBut.update ..).extBut.push _).push _))))
end
def DOb(o:Obj)(ps:List (V×V)):Prop:=∃es ep,o.ExactDict/\o.data=.dict es ep/\es.size=ps.length/\∀(i:Nat) p e,ps[i]?=some p->es[i]?=some e->RelV p.1 e.key/\RelV p.2 e.val
noncomputable def Itd(d:Addr)(o:Obj)(ps:List (V×V)):It:=
 ⟨λi H=>(∃u,H d=some (.t_ o u))/\i<ps.length,λi H v H'=>∃p,v=.ref p/\H p=none/\∃kv,ps[i]?=some kv/\H'=upd H p (.tup [kv.1,kv.2]),λi H=>(∃u,H d=some (.t_ o u))/\ps.length<=i⟩
theorem Inv.frzGet{s:Shared}(I:Inv X a_ Z H s)(e:H d=some (.t_ o u)):s.heap.get? d=some o:=(I.j_ _ _ e).1
theorem qA{K:Ks}(d it:Addr){o:Obj}{ps:List (V×V)}{es:Array DictEntry}(hd:o.data=.dict es ep)(hz:es.size=ps.length)
  (hr:∀(i:Nat) p e,ps[i]?=some p->es[i]?=some e->RelV p.1 e.key/\RelV p.2 e.val) (LA:d≠it):Turn P w K (.Tuple KL x1 pos) (Itd d o ps) [it] it (λi h=>∃a1 a2,IsItemIter h it d i es.size ep a1 a2) where
 mem:=by simp
 obj:=λi h st b hb=>by
  obtain⟨a1,a2,h1⟩:=st;have e':b=it:=by simpa using hb
  subst e';exact⟨_,h1,λv z=>by
   have z':Data.fields _=Data.cell v:=z;cases z'⟩
 keep:=λi h h' st k=>let ⟨a1,a2,h1⟩:=st;⟨a1,a2,k it (by simp) _ h1⟩
 item:=by
  intro X hP hw hK hc i a_ s Z H E I hf st hg;subst hP hw hK;obtain⟨⟨u,hu⟩,hi⟩:=hg;obtain⟨a1,a2,B_⟩:=st;have fi:=hf it (by simp)
  have MM:it<s.heap.objs.size:=Jt B_;have he:es[i]?=some es[i]:=by simp[show i<es.size by omega]
  have MN:ps[i]?=some ps[i]:=by simp[hi]
  obtain⟨rk,rv⟩:=hr i _ _ MN he;refine j0 B_ (I.frzGet hu) hd he λh' Qb ht k=>?_
  have hp:H s.heap.objs.size=none:=I.j_.fresh (Jp _);have I1:Inv X a_ Z (upd H s.heap.objs.size (.tup [ps[i].1,ps[i].2])) {s with heap:=s.heap.push {cls:=.type "tuple",data:=.seq #[es[i].key,es[i].val]},toks:=s.toks}:=
   I.laid (λb o e1=>Jn _ e1) (Jp _) ⟨by show 2<=sizeLine;decide,[es[i].key,es[i].val],.cons rk (.cons rv .nil),⟨_,Jr _ rfl,rfl,_,rfl⟩⟩
  have NA:fj X a_ (upd H s.heap.objs.size (.tup [ps[i].1,ps[i].2])) it:=⟨by rw[ae (JI MM)];exact fi.1,fi.2⟩
  obtain⟨f0,f1,f2,f3,f4,f5⟩:=NA;have I2:Inv X a_ Z (upd H s.heap.objs.size (.tup [ps[i].1,ps[i].2])) {s with heap:=h',toks:=s.toks}:=I1.turned (t':=s.toks) (λb o hb e1=>by
   by_cases Mt:b=s.heap.objs.size
   ·subst Mt;have e2:(s.heap.push {cls:=.type "tuple",data:=.seq #[es[i].key,es[i].val]}).get? s.heap.objs.size=some {cls:=.type "tuple",data:=.seq #[es[i].key,es[i].val]}:=Jr _ rfl;rw[e2]at e1;cases e1;exact ht
   ·exact k b o hb ((Heap.get?_push_ne _ _ _ Mt).symm.trans e1)) f0 f1 f3 f4 f5
  refine⟨.ref s.heap.objs.size,rfl,wpAny_letOwnedTupleGo_items (s:={s with heap:=h'}) Qb λh2 Mh La=>?_⟩
  have I3:Inv X a_ Z (upd H s.heap.objs.size (.tup [ps[i].1,ps[i].2])) {s with heap:=h2,toks:=s.toks}:=I2.turned (t':=s.toks) (λb o hb e1=>(La.2 b hb).trans e1) f0 f1 f3 f4 f5
  refine⟨.ref s.heap.objs.size,_,I3,rfl,⟨_,rfl,hp,_,MN,rfl⟩,⟨_,_,Mh⟩,λb hb=>?_⟩
  have e':b=it:=by simpa using hb
  subst e';exact f0
 done:=by
  intro X hP hw hK hc i a_ s Z H E I hf st hg;subst hP hw hK;obtain⟨⟨u,hu⟩,hi⟩:=hg;obtain⟨a1,a2,B_⟩:=st;obtain⟨f0,f1,f2,f3,f4,f5⟩:=hf it (by simp)
  exact jt (I.ok.hd hc) B_ (I.frzGet hu) hd (by omega) λh' eb=>⟨rfl,I.turned (t':=s.toks) (λb o hb e=>eb b o hb e) f0 f1 f3 f4 f5⟩
 self:=λ_ _ _ _ _ st h=>let ⟨_,_,B_⟩:=st;PySem.W.kcp_self B_ h
theorem kJ{K:Ks}:∀ks:List Int,DenL K H (ks.map D.int) (ks.map V.int)
 |[]=>rfl
 |k::r=>⟨_,_,rfl,rfl,kJ r⟩
section
variable {X:Cx}{n_ p_:Pos}
noncomputable def prs(xs:List (List Int×Addr×Value))(vs:List V):List (V×V):=(xs.map λx=>V.ref x.2.1).zip vs
theorem rW{ob:Obj}(I:Inv X a_ Z H s)(e:H d=some (.t_ ob (.ext (aB d xs))))(vx:Vals vs (xs.map (·.2.2))):DOb ob (prs xs vs)/\ob.ExactDict:=by
 obtain⟨h1,⟨o',es,ep,g1,g2,g3,g4⟩,_⟩:=(show ObjOk X.prog X.w H s.heap d (.t_ ob (.ext (aB d xs))) from I.j_ _ _ e);rw[h1]at g1;cases g1;have hl:=vx.length;rw[Jv]at hl;have hsz:es.size=xs.length:=by
  have:=congrArg List.length g4;simpa using this
 refine⟨⟨es,ep,g2,g3,by simp[prs,hl,hsz],λi p e' hp he=>?_⟩,g2⟩
 unfold prs at hp;obtain⟨a1,a2⟩:=List.getElem?_zip_eq_some.mp hp;rw[Jz]at a1;cases hx:xs[i]? with
 |none=>rw[hx]at a1;cases a1
 |some x=>
  rw[hx]at a1;have Mh:es.toList[i]?=some e':=by simpa using he
  rw[g4,Jz,hx]at Mh;cases Mh;obtain⟨u,hu,ru⟩:=vx.get a2;rw[Jz,hx]at hu;cases hu;have a1:V.ref x.2.1=p.1:=by simpa using a1
  rw[<-a1];exact⟨rfl,ru⟩
theorem AQ{ob:Obj}(I:Inv X a_ Z H s)(e:H d=some (.t_ ob (.ext (aB d xs))))(z:TabOk X.K H d ks xs vs):DOb ob (prs xs vs)/\ob.ExactDict:=rW I e z.vx
def ObD(X:Cx)(d:Addr)(ob:Obj)(u:HO)(ps:List (V×V)):Prop:=∀a_ s Z H,Inv X a_ Z H s->H d=some (.t_ ob u)->DOb ob ps/\(d == sysModules)=false
def Cr(X:Cx)(v:V)(vs:List V)(H:Hp)(Q:VK):Prop:=∃d ob u ps,v=.ref d/\vs=[]/\H d=some (.t_ ob u)/\ObD X d ob u ps/\∀p,H p=none->Q (.ref p) (upd H p (.ext λh=>h.IsItemsView p d))
theorem vc:MtR X "dict.items" (Cr X):=by
 intro a_ s Z H v vs v2 us Q I rv rs ⟨d,ob,u,ps,e1,e2,hH,z,q⟩;subst e1 e2;cases rv;cases rs;have ho:=I.frzGet hH;obtain⟨⟨_,_,xd,_⟩,zn⟩:=z _ _ _ _ I hH;have hc:=xd.1;have hf:H s.heap.objs.size=none:=I.j_.fresh (Jp _);refine call_meetsIn PySem.F.slot_dict_items ⟨_,ho,hc⟩ PySem.F.entry_dict_items (PySem.F.args_dict_items_1 _) (jL zn) ⟨⟨_,ho,hc⟩,?_⟩;have I1:Inv X a_ Z (upd H s.heap.objs.size (.ext λh=>h.IsItemsView s.heap.objs.size d)) {s with heap:=s.heap.push {cls:=.type "dict_items",data:=.fields #[.ref d]},toks:=s.toks}:=
  I.laid (o:=.ext λh=>h.IsItemsView s.heap.objs.size d) (λb o e1=>Jn _ e1) (Jp _) ⟨⟨_,Jr _ rfl,rfl,rfl⟩,⟨_,Jr _ rfl⟩,λh1 h2 ⟨ov,g1,g2,g3⟩ k=>⟨ov,k _ g1,g2,g3⟩⟩
 exact⟨.ref s.heap.objs.size,_,I1,rfl,q _ hf⟩
noncomputable def AF(X:Cx)(t2:TE):TI:=λZ H R=>t2 Z H λv H1=>∃d ob u ps,v=.ref d/\H1 d=some (.t_ ob u)/\ObD X d ob u ps/\∀p,H1 p=none->R (Itd d ob ps) (upd H1 p (.ext λh=>h.IsItemsView p d))
theorem TabOk.grow{K:Ks}(z:TabOk K H d ks xs vs)(t:TM K H H'):TabOk K H' d ks xs vs:=⟨z.kx,z.nd,z.sz,z.no,z.vx,λx hx=>t.t _ _ (z.at_ x hx)⟩
theorem vG(ho:PE X o t2)(v_:attributeBase o "items" X.env (eval o X.env)=eval o X.env)(w_:(n_.endLine == p_.line)=true):PI X (.Tuple KL x1 pt) (.Call (.Attribute o "items" n_) [] [] p_) (AF X t2):=by
 intro a_ s Z H R I h;refine wpAny_Call_method0_late v_ w_ (thn (ho a_ s Z H _ I h) λv s0 ⟨x,H1,I1,r1,d,ob,u,ps,e1,e3,z,q⟩=>?_)
 subst e1;cases r1;obtain⟨⟨_,_,xd,_⟩,_⟩:=z _ _ _ _ I1 e3;refine⟨"dict","dict.items",PySem.F.plainAttrs_dict,PySem.F.slot_dict_items,PySem.F.type_dict_items,⟨_,I1.frzGet e3,xd.1⟩,λa ha=>?_,Calls.callWith_builtin rfl (PySem.evalArgs_none ?_)⟩
 ·cases ha;exact⟨_,I1.frzGet e3,xd.2.1⟩
 refine thn (vc a_ s0 Z H1 (.ref d) [] (.ref d) [] (λv H2=>∃p,v=.ref p/\H1 p=none/\H2=upd H1 p (.ext λh=>h.IsItemsView p d)) I1 rfl .nil ⟨d,ob,u,ps,rfl,rfl,e3,z,λp hp=>⟨p,rfl,hp,rfl⟩⟩) λv2 s1 ⟨v,H2,I2,rv,p,e1,hp,e2⟩=>?_
 have q:=q p hp;have e3:H2 d=some (.t_ ob u):=by rw[e2,ae (aA e3 hp)];exact e3
 have e4:H2 p=some (.ext λh=>h.IsItemsView p d):=by rw[e2,ah]
 rw[<-e2]at q
 ·subst e1;cases rv;obtain⟨⟨es,ep,hx,hd,hz,hr⟩,_⟩:=z _ _ _ _ I2 e3;have hv:=(I2.j_ _ _ e4).1;have ho:=I2.frzGet e3;refine jF hv ho hd ?_;have hf:H2 s1.heap.objs.size=none:=I2.j_.fresh (Jp _);have Oj:d<s1.heap.objs.size:=Jt ho;exact⟨s1.heap.objs.size,[s1.heap.objs.size],_,_,H2,rfl,I2.kept (t':=s1.toks) (λb o e=>Jn _ e),qA d s1.heap.objs.size hd hz hr (JI Oj),⟨_,_,Jr _ rfl⟩,λb hb=>by
   have e':b=s1.heap.objs.size:=by simpa using hb
   subst e';exact I2.fpOk (Jp _) hf,q⟩
theorem uZ{K:Ks}(e:H0 d=some (.t_ ob (.ext (aB d xs))))(z:TabOk K H0 d ks xs vs)(dl:DenL K H0 ds vs):ItOk K H0 (Itd d ob (prs xs vs)) (aw ks ds) (λ_=>True):=by
 have l1:=dl.length;have l2:=z.vx.length;have l3:xs.length=ks.length:=by rw[<-z.kx];simp
 rw[Jv]at l2;have lp:(prs xs vs).length=(aw ks ds).length:=by simp[prs,aw];omega
 refine⟨λi H M t rm s hi=>⟨⟨_,t.g _ _ _ e⟩,by omega⟩,λi H M x H' t rm s hi y=>?_,λH M t rm s=>⟨⟨_,t.g _ _ _ e⟩,by omega⟩⟩
 obtain⟨q,rfl,hq,kv,LD,rfl⟩:=y;obtain⟨a1,a2⟩:=List.getElem?_zip_eq_some.mp LD;rw[Jz]at a1;cases hx:xs[i]? with
 |none=>rw[hx]at a1;cases a1
 |some x=>
  rw[hx]at a1;have a1:V.ref x.2.1=kv.1:=by simpa using a1
  obtain⟨dd,e1,e2⟩:=(dl.mono t).get' a2;have hk:ks[i]?=some x.1:=by rw[<-z.kx,Jz,hx];rfl
  have sq:=t.t _ _ (z.at_ x (Ka hx));refine⟨.new hq,rm.grow hq,.tup [.tup (x.1.map D.int),dd],?_,⟨q,[kv.1,kv.2],rfl,.inl (.inl ah),⟨_,_,rfl,?_,_,_,rfl,e2.mono (.new hq),rfl⟩⟩⟩
  ·have ez:(ks.zip ds)[i]?=some (x.1,dd):=List.getElem?_zip_eq_some.mpr ⟨hk,e1⟩;unfold aw;rw[Jz,ez];rfl
  ·rw[<-a1];exact⟨x.2.1,x.1.map V.int,rfl,(TM.new (K:=K) hq).t _ _ sq,kJ _⟩
end
section
variable {X:Cx}
end
theorem ER.upd_nx{K:Ks}(er:ER K H D3 D2)(h:∀m_ H' u_ M',RelM K M' H'->DenS K H' u_ m_->TM K H H'->n3 u_ M'->n2 m_ H'):ER K H {D3 with nx:=n3} {D2 with nx:=n2}:=⟨h,er.rt,er.bk,er.ct⟩
section
variable {X:Cx}{cls:Nat->Addr}{E2:St->XK}{st:Stmt}{aU:List Stmt}{t u:Ends3->(St3->XN)->St3->MH->Prop}{e:Expr}{te:St3->MH->VK3->XN->Prop}{pos:Pos}
theorem DC:PSs X [] (bH X.K cls E2 λD _ Z M=>D.nx Z M):=pss_nil.imp λD2 Z H k_=>ex9 k_ λh_ M D3 E3 rm ds lk h er=>er.nx Z H h_ M rm ds (.refl _) h
theorem AS(h1:PS X st (bH X.K cls E2 t))(h2:PSs X aU (bH X.K cls E2 u)):PSs X (st::aU) (bH X.K cls E2 λD E Z M=>t {D with nx:=λm_ M'=>u D E m_ M'} E Z M):=
 (nZ h1 h2).imp λD2 Z H k_=>ex9 k_ λh_ M D3 E3 rm ds lk h er=>⟨h_,M,_,E3,rm,ds,lk,h,er.upd_nx λm_ H' u_ M' r_ F_ tm q=>⟨u_,M',D3,E3,r_,F_,lk.mono tm,q,er.mono tm⟩⟩
theorem EV{i:Nat}(h2:PSs X aU (bH X.K cls E2 u)):PSs X aU (bH X.K cls E2 λD E Z M=>match Z[i]? with
  |some (some x)=>aX (λy M'=>u D E (Z.set i (some y)) M') x M
  |_=>False):=λa_ s Z H D2 I k_=>ex9 k_ λh_ M D3 E3 rm ds lk h er=>by
 dsimp only at h;split at h
 ·rename_i x e;obtain⟨v,e1,dv⟩:=ds.2 i x e;obtain⟨H2,M2,d2,I2,t2,H_,Mg,q2⟩:=jm I rm dv h;refine h2 a_ s Z H2 D2 I2 ⟨_,M2,D3,E3,H_,?_,lk.mono t2,q2,er.mono t2⟩;have:=(ds.mono t2).set (i:=i) Mg;obtain⟨l,e2⟩:=JQ.mp e1
  rwa [<-e2,List.set_getElem_self]at this
 ·exact h.elim
theorem AO:PS X st (bH X.K cls E2 λ_ _ _ _=>False):=λ_ _ _ _ _ _ k_=>ex9 k_ λ_ _ _ _ _ _ _ h _=>h.elim
theorem Bo(he:PE X e (low X.K cls E2 te))(hs:swapsWith e none pos.line X.env=pure false):PS X (.Expr e pos) (bH X.K cls E2 λD E Z M=>te Z M (λ_ M1=>D.nx Z M1) (E Z)):=
 (mF he hs).imp λD2 Z H k_=>ex9 k_ λh_ M D3 E3 rm ds lk h er=>aZ rm ds (lk.at ds) h λv H1 x M1 dx o_ t1 q1=>er.nx Z H1 h_ M1 o_ (ds.mono t1) t1 q1
theorem ED(he:PE X e (low X.K cls E2 te)):PS X (.Return (some e) pos) (bH X.K cls E2 λD E Z M=>te Z M D.rt (E Z)):=
 (Br he).imp λD2 Z H k_=>ex9 k_ λh_ M D3 E3 rm ds lk h er=>aZ rm ds (lk.at ds) h λv H1 x M1 dx o_ t1 q1=>er.rt v H1 x M1 dx o_ t1 q1
theorem Ap:PS X (.Return none pos) (bH X.K cls E2 λD _ _ M=>D.rt .i_ M):=ps_retN.imp λD2 Z H k_=>ex9 k_ λh_ M D3 E3 rm ds lk h er=>er.rt .i_ H .i_ M rfl rm (.refl _) h
theorem Gg(hc:PT X c (cq X.K cls E2 tA))(ha:PSs X a (bH X.K cls E2 t))(hb:PSs X b (bH X.K cls E2 u)) :
  PS X (.If c a b pos) (bH X.K cls E2 λD E Z M=>tA Z M (λk M1=>if k=true then t D E Z M1 else u D E Z M1) (E Z)):=
 (EQ hc ha hb).imp λD2 Z H k_=>ex9 k_ λh_ M D3 E3 rm ds lk h er=>iR rm ds (lk.at ds) h λk H1 M1 o_ t1 q1=>by
  cases k with
  |true=>rw[Js rfl]at q1 ⊢;exact⟨h_,M1,D3,E3,o_,ds.mono t1,lk.mono t1,q1,er.mono t1⟩
  |false=>rw[Jm JH]at q1 ⊢;exact⟨h_,M1,D3,E3,o_,ds.mono t1,lk.mono t1,q1,er.mono t1⟩
theorem Ai(hN:X.N.Nodup)(hi:X.N[i]?=some x)(hx:Loc X.env.scope x)(he:PE X e (low X.K cls E2 te))(hs:swapsWith e (some (.Name x Kx)) pos.line X.env=pure false)(hf:X.fn x=true\/X.env.scope.names.lookup x=some .local) :
  PS X (.Assign [.Name x Kx] e pos) (bH X.K cls E2 λD E Z M=>te Z M (λx M1=>D.nx (Z.set i (some x)) M1) (E Z)):=
 (BL hN hi hx he hs hf).imp λD2 Z H k_=>ex9 k_ λh_ M D3 E3 rm ds lk h er=>aZ rm ds (lk.at ds) h λv H1 x M1 dx o_ t1 q1=>er.nx _ _ _ _ o_ ((ds.mono t1).set dx) t1 q1
theorem AC(hN:X.N.Nodup)(hi:X.N[i]?=some x)(hx:Loc X.env.scope x)(hf:X.fn x=true\/X.env.scope.names.lookup x=some .local):PG X (.Name x pos) (qh X.K (wpG (.name i))):=
 (jj hN hi hx hf).imp λv Z H Q2 ⟨d,h_,M,Q,dv,rm,ds,h,c_⟩=>c_ _ _ _ _ rm (ds.set dv) (.refl _) h
noncomputable def bQ(N:List Str)(sc:Scope)(fn:Bool):List Nat->List Expr->Bool
 |[],[]=>true
 |i::is,.Name x _::es=>(N[i]? == some x)&&(sc.names.lookup x == some .local||(fn&&sc.names.lookup x == some .cell))&&bQ N sc fn is es
 |_,_=>false
noncomputable def jM(is:List Nat)(xs:List α)(Z:List (Option α)):List (Option α):=(is.zip xs).foldl (λZ p=>Z.set p.1 (some p.2)) Z
theorem lH(hN:X.N.Nodup)(LK:fn=true->∀x,X.fn x=true):∀{is:List Nat}{es:List Expr},bQ X.N X.env.scope fn is es=true->
  PGs X es (λvs Z H Q=>vs.length=is.length/\Q (jM is vs Z) H)/\(assignEach es X.env).length=is.length/\(assignEach es X.env).findIdx? (·.1)=none
 |[],[],_=>⟨λa_ s Z H vs us Q I r ⟨e,h⟩=>xY a_ s Z H vs us Q I r ⟨List.length_eq_zero_iff.mp e,by cases List.length_eq_zero_iff.mp e;exact h⟩,rfl,rfl⟩
 |[],_::_,h=>by simp[bQ]at h
 |i::is,es,h=>by
  unfold bQ at h;split at h
  ·rename_i OI;cases OI
  ·rename_i i' Tr x px Mj OI;cases OI;simp only[Jj,JJ,Bool.or_eq_true]at h;obtain⟨⟨h1,h2⟩,h3⟩:=h;obtain⟨ih,il,ix⟩:=lH hN LK h3;have hg:PG X (.Name x px) (rS i):=by
    rcases h2 with h2|⟨h2,h4⟩
    ·exact jj hN h1 (.inl h2) (.inr h2)
    ·exact jj hN h1 (.inr h4) (.inl (LK h2 x))
   refine⟨λa_ s Z H vs us Q I r ⟨e,q⟩=>?_,by show (assignEach Mj X.env).length+1=is.length+1;rw[il],?_⟩
   ·cases vs with
    |nil=>cases e
    |cons v vs=>exact vT hg ih rfl a_ s Z H (v::vs) us Q I r ⟨v,vs,rfl,by simpa using e,q⟩
   ·show List.findIdx? (·.1) ((false,assign (.Name x px) X.env)::assignEach Mj X.env)=none;rw[List.findIdx?_cons];simp[ix]
  ·cases h
theorem kg{K:Ks}:∀{is:List Nat}{ds:List D}{vs:List V}{h_:St3}{Z:St},DenL K H ds vs->DenS K H h_ Z->DenS K H (jM is ds h_) (jM is vs Z)
 |[],_,_,_,_,_,h=>by simpa [jM] using h
 |i::is,[],vs,_,_,dl,h=>by cases (show vs=[] from dl);simpa [jM] using h
 |i::is,d::ds,vs,_,_,dl,h=>by
  obtain⟨v,r,rfl,dv,dl⟩:=dl;exact kg (is:=is) dl (h.set (i:=i) dv)
theorem zY(hc:X.calm=true)(hN:X.N.Nodup)(LK:fn=true->∀x,X.fn x=true)(ok:bQ X.N X.env.scope fn is es=true):PG X (.Tuple es k pos) (qh X.K (wpG (.tup is))):=by
 obtain⟨h1,h2,h3⟩:=lH hN LK ok;refine (Az hc h1 h2 h3).imp λv Z H Q2 z_=>?_
 obtain⟨d,h_,M,Q,dv,rm,ds,h,c_⟩:=z_;simp only[wpG]at h;split at h
 ·rename_i Mj;obtain⟨p,vs,rfl,sq,dl⟩:=dv;obtain⟨z,q⟩:=h;exact⟨p,vs,rfl,sq,by rw[<-dl.length];exact z,by rw[<-dl.length];exact z,c_ _ _ _ _ rm (kg dl ds) (.refl _) q⟩
 ·exact h.elim
theorem Do{is:List Nat}(hc:X.calm=true)(hN:X.N.Nodup)(LK:fn=true->∀x,X.fn x=true)(ok:bQ X.N X.env.scope fn is es=true)(he:PE X e (low X.K cls E2 te))
  (hs:swapsWithSole [.Tuple es k p2] e pos.line X.env=pure false) (hw:swappedStores [.Tuple es k p2] e X.env=pure none) :
  PS X (.Assign [.Tuple es k p2] e pos) (bH X.K cls E2 λD E Z M=>te Z M (λx M1=>match x with
  |.tup ds=>ds.length=is.length/\D.nx ((is.zip ds).foldl (λZ p=>Z.set p.1 (some p.2)) Z) M1
  |_=>False) (E Z)):=
 (wC he (zY (is:=is) hc hN LK ok) hs hw (by rfl)).imp λD2 Z H k_=>ex9 k_ λh_ M D3 E3 rm ds lk h er=>aZ rm ds (lk.at ds) h λv H1 x M1 dx o_ t1 q1=>
  ⟨x,h_,M1,D3.nx,dx,o_,ds.mono t1,by simp only[wpG];exact q1,λm_ H' u_ M' r' d' t' q'=>er.nx m_ H' u_ M' r' d' (t1.trans t') q'⟩
theorem EY(hp:PassesOwn (model X.prog X.w) X.A X.env X.xe)(hc:X.calm=true)(hi:PI X tg iter (lq X.K cls E2 wi))(hg:PG X tg (qh X.K g))(hb:PSs X body (bH X.K cls E2 t))
  (hs:∀x,foldedSetIterable iter X.env x=pure x):PS X (.For tg iter body [] pos) (bH X.K cls E2 λD E Z M=>wi Z M (λds S M1=>eA g (λD Z M=>t D E Z M) S D ds Z M1) (E Z)):=by
 refine (vP hp hc hi hg hb hs).imp λD2 Z H k_=>ex9 k_ λh_ M D3 E3 rm Mc lk h er=>⟨h_,M,_,E3 h_,rm,Mc,lk.at Mc,h,λJ H1 ds S M1 ok o_ Lr hP=>?_⟩
 refine⟨λi m m_ H'=>∃u_ M',m=ds.length-i/\i<=ds.length/\RelM X.K M' H'/\DenS X.K H' u_ m_/\TM X.K H1 H'/\eA g (λD Z M=>t D E3 Z M) S D3 (ds.drop i) u_ M',⟨ds.length,h_,M1,by simp,Nat.zero_le _,o_,Mc.mono Lr,.refl _,hP⟩,?_⟩
 rintro i m m_ H' ⟨u_,M',rfl,MM,r_,F_,K4,p⟩;by_cases Ku:i<ds.length
 ·rw[List.drop_eq_getElem_cons Ku]at p;obtain⟨s',p⟩:=p;refine .inr ⟨ok.go i H' M' K4 r_ s' Ku,λMO H4=>∃KQ M4,RelM X.K M4 H4/\DenS X.K H4 KQ MO/\TM X.K H1 H4/\eA g (λD Z M=>t D E3 Z M) S D3 (ds.drop (i+1)) KQ M4,?_,?_⟩
  ·rintro MO H4 ⟨KQ,M4,e1,e2,e3,e4⟩;exact⟨ds.length-(i+1),by omega,KQ,M4,rfl,Ku,e1,e2,e3,e4⟩
  ·intro x H2 y;obtain⟨L3,H_,d,hd,dv⟩:=ok.yld i H' M' x H2 K4 r_ s' Ku y;rw[JG Ku]at hd;cases hd;refine⟨_,u_,M',_,dv,H_,F_.mono L3,p,λRf H5 Ls M5 Ol MP Om q5=>?_⟩
   have Lu:TM X.K H1 H5:=(K4.trans L3).trans Om;exact⟨Ls,M5,_,E3,Ol,MP,lk.mono (Lr.trans Lu),q5,⟨λLI H6 KA M6 KZ Lv KR q6=>⟨KA,M6,KZ,Lv,Lu.trans KR,q6⟩,λv H6 d6 M6 Oo KZ KR q6=>er.rt v H6 d6 M6 Oo KZ (Lr.trans (Lu.trans KR)) q6,
    λLI H6 KA M6 KZ Lv KR q6=>er.nx LI H6 KA M6 KZ Lv (Lr.trans (Lu.trans KR)) q6,λLI H6 KA M6 KZ Lv KR q6=>⟨KA,M6,KZ,Lv,Lu.trans KR,q6⟩⟩⟩
 ·have e:i=ds.length:=by omega
  subst e;rw[List.drop_length]at p;exact .inl ⟨ok.stop H' M' K4 r_ p.1,er.nx m_ H' u_ M' r_ F_ (Lr.trans K4) p.2⟩
theorem zB(hp:PassesOwn (model X.prog X.w) X.A X.env X.xe)(hc:PT X c (cq X.K cls E2 tA))(hb:PSs X body (bH X.K cls E2 t)) :
  PS X (.While c body [] pos) (bH X.K cls E2 λD E Z M=>∃P:Nat->St3->MH->Prop,(∃m,P m Z M)/\∀m Z M,P m Z M->tA Z M (λb M1=>if b=true then
   t {D with nx:=λm_ M'=>∃m',m' < m/\P m' m_ M',ct:=λm_ M'=>∃m',m' < m/\P m' m_ M',bk:=D.nx} E Z M1 else D.nx Z M1) (E Z)):=by
 refine (wZ hp hc hb).imp λD2 Z H k_=>ex9 k_ λh_ M D3 E3 rm ds lk h er=>?_
 obtain⟨P,⟨m0,p0⟩,step⟩:=h;refine⟨λm m_ H'=>∃u_ M',RelM X.K M' H'/\DenS X.K H' u_ m_/\TM X.K H H'/\P m u_ M',⟨m0,h_,M,rm,ds,.refl _,p0⟩,?_⟩
 rintro m m_ H' ⟨u_,M',r_,F_,K4,p⟩;refine iR r_ F_ ((lk.mono K4).at F_) (step m u_ M' p) λb H1 M1 o_ Lr q=>?_
 cases b with
 |true=>
  rw[Js rfl]at q ⊢;refine⟨λMO H4=>∃KQ M4 m',m' < m/\RelM X.K M4 H4/\DenS X.K H4 KQ MO/\TM X.K H H4/\P m' KQ M4,?_,?_⟩
  ·rintro MO H4 ⟨KQ,M4,m',hm,e1,e2,e3,e4⟩;exact⟨m',hm,KQ,M4,e1,e2,e3,e4⟩
  ·have Lu:=K4.trans Lr;exact⟨u_,M1,_,E3,o_,F_.mono Lr,lk.mono Lu,q,⟨λLI H6 KA M6 KZ Lv KR ⟨m',hm,q6⟩=>⟨KA,M6,m',hm,KZ,Lv,Lu.trans KR,q6⟩,λv H6 d6 M6 Oo KZ KR q6=>er.rt v H6 d6 M6 Oo KZ (Lu.trans KR) q6,
    λLI H6 KA M6 KZ Lv KR q6=>er.nx LI H6 KA M6 KZ Lv (Lu.trans KR) q6,λLI H6 KA M6 KZ Lv KR ⟨m',hm,q6⟩=>⟨KA,M6,m',hm,KZ,Lv,Lu.trans KR,q6⟩⟩⟩
 |false=>
  rw[Jm JH]at q ⊢;exact er.nx m_ H1 u_ M1 o_ (F_.mono Lr) (K4.trans Lr) q
theorem DW{n_ p_:Pos}(ho:PE X o (low X.K cls E2 to))(he:PE X e (low X.K cls E2 te))(v_:attributeBase o "append" X.env (eval o X.env)=eval o X.env)
  (w_:(n_.endLine == p_.line)=true) (hs:starEach [e] X.env=[(false,eval e X.env)]) :
  PS X (.Expr (.Call (.Attribute o "append" n_) [e] [] p_) pos) (bH X.K cls E2 λD E Z M=>to Z M (λx M1=>match x with
  |.ref a=>match M1 a with
   |some (.lst _)=>te Z M1 (λy M2=>match M2 a with
    |some (.lst ds)=>ds.length<sizeLine/\D.nx Z (put M2 a (.lst (ds++[y])))
    |_=>False) (E Z)
   |_=>False
  |_=>False) (E Z)):=by
 have hm:MtR X "list.append" rAppend:=lw;have h1:=DM (X:=X) PySem.F.plainAttrs_list PySem.F.slot_list_append PySem.F.type_list_append hm ho (bb he pa_nil hs) v_ (by rw[hs];rfl) w_ hs (by rfl)
 refine (mF h1 (by rfl)).imp λD2 Z H k_=>ex9 k_ λh_ M D3 E3 rm ds lk h er=>?_
 refine aZ rm ds (lk.at ds) h λv H1 x M1 dx o_ t1 q1=>?_
 split at q1
 ·rename_i a;cases (show v=.ref a from dx);split at q1
  ·rename_i Mc e0;obtain⟨Sm,f0,_⟩:=o_ a _ e0;refine⟨.inl ⟨rfl,Sm,.of f0⟩,aZ o_ (ds.mono t1) ((lk.mono t1).at (ds.mono t1)) q1 λu H2 y M2 dy H_ t2 q2=>?_⟩
   split at q2
   ·rename_i Sn e1;obtain⟨vs,f1,dl⟩:=H_ a _ e1;refine⟨a,vs,u,rfl,rfl,f1,by rw[<-dl.length];exact q2.1,?_⟩
    have tw:TM X.K H2 (upd H2 a (.lst (vs++[u]))):=.put f1 (λ_=>λz=>nomatch z) λ_ _=>λz=>nomatch z
    exact er.nx _ _ _ _ (H_.write (u:=.lst (Sn++[y])) f1 (λ_=>λz=>nomatch z) (λ_ _=>λz=>nomatch z) ⟨_,ah,(dl.append (.one dy)).mono tw⟩) (((ds.mono t1).mono t2).mono tw) ((t1.trans t2).trans tw) q2.2
   ·exact q2.elim
  ·exact q1.elim
 ·exact q1.elim
end
abbrev no2:St->XK:=λ_ _ _ _=>False
theorem uY{K:Ks}(h:DenS K H h_ Z):DenS K H (aL js h_) (j8 js Z):=by
 refine⟨by simp[aL,j8],λi d e=>?_⟩
 unfold aL at e;unfold j8;rw[Jz]at e ⊢;cases q:js[i]? with
 |none=>rw[q]at e;cases e
 |some o=>
  rw[q]at e;cases o with
  |none=>cases e
  |some j=>
   rw[Option.map_some,Option.bind_some]at e;cases z:h_[j]? with
   |none=>rw[z]at e;cases e
   |some y=>
    rw[z]at e;have e:some (id y)=some (some d):=e;have e:y=some d:=JE e;subst e;obtain⟨v,e1,e2⟩:=h.2 j d z;refine⟨v,?_,e2⟩;rw[Option.map_some,Option.bind_some,e1];rfl
section
variable {X:Cx}
theorem jp(rm:RelM X.K M H)(Mc:DenS X.K H h_ Z)(lk:LkE X.K cls H E3 (E2 Z))
  (h:wi h_ M (λds S M1=>∀p,M1 p=none->dn g (λZ M Q=>tt Z M Q (λ_ _=>False)) (λZ M Q=>te Z M Q (λ_ _=>False)) S p Q ds [] (aL js h_) (put M1 p (.lst []))) E3) (c_:Back X.K H Q Q2) :
  sh js (lq X.K cls E2 wi) (qh X.K g) (cq X.K cls no2 tt) (low X.K cls no2 te) Z H Q2:=by
 refine⟨h_,M,_,E3,rm,Mc,lk,h,λJ H1 ds S M1 ok o_ Lr hP p hp=>?_⟩
 have hP:=hP p (o_.fresh hp);refine⟨λi m Ly H'=>∃Lh ys M',m=ds.length-i/\i<=ds.length/\RelM X.K M' H'/\DenS X.K H' Lh Ly/\TM X.K H1 H'/\dn g (λZ M Q=>tt Z M Q (λ_ _=>False)) (λZ M Q=>te Z M Q (λ_ _=>False)) S p Q (ds.drop i) ys Lh M',
  ⟨ds.length,_,[],_,by simp,Nat.zero_le _,o_.lay (u:=.lst []) hp ⟨[],ah,.nil⟩,(uY Mc).mono (Lr.trans (.new hp)),.new hp,hP⟩,?_⟩
 rintro i m Ly H' ⟨Lh,ys,M',rfl,MM,r_,F_,K4,q⟩;by_cases Ku:i<ds.length
 ·rw[List.drop_eq_getElem_cons Ku]at q;obtain⟨s',hl,q⟩:=q;refine .inr ⟨ok.go i H' M' K4 r_ s' Ku,λx H2 y=>?_⟩
  obtain⟨L3,H_,d,hd,dv⟩:=ok.yld i H' M' x H2 K4 r_ s' Ku y;rw[JG Ku]at hd;cases hd;refine⟨_,Lh,M',_,dv,H_,F_.mono L3,q,λRf H5 Ls M5 Ol MP Om q5=>?_⟩
  refine⟨Ls,M5,_,_,Ol,MP,LkE.no,q5,λb H6 M6 KZ KR q6=>?_⟩
  have Lu:TM X.K H1 H6:=((K4.trans L3).trans Om).trans KR;cases b with
  |true=>
   rw[Js rfl]at q6;dsimp only;rw[Js rfl];refine⟨Ls,M6,_,_,KZ,MP.mono KR,LkE.no,q6,λv H7 y M7 dy Rg Rh ⟨e7,q7⟩=>?_⟩
   obtain⟨vs,f7,dl⟩:=Rg p _ e7;have tw:TM X.K H7 (upd H7 p (.lst (vs++[v]))):=.put f7 (λ_=>λz=>nomatch z) λ_ _=>λz=>nomatch z
   exact⟨vs,f7,by rw[<-dl.length];exact hl,ds.length-(i+1),by omega,Ls,ys++[y],_,rfl,Ku,Rg.write (u:=.lst (ys++[y])) f7 (λ_=>λz=>nomatch z) (λ_ _=>λz=>nomatch z) ⟨_,ah,(dl.append (.one dy)).mono tw⟩,((MP.mono KR).mono Rh).mono tw,(Lu.trans Rh).trans tw,q7⟩
  |false=>
   rw[Jm JH]at q6;dsimp only;rw[Jm JH];exact⟨ds.length-(i+1),by omega,Ls,ys,M6,rfl,Ku,KZ,MP.mono KR,Lu,q6⟩
 ·have e:i=ds.length:=by omega
  subst e;rw[List.drop_length]at q;exact .inl ⟨ok.stop H' M' K4 r_ q.1,c_ _ _ _ _ jk r_ (Lr.trans K4) q.2⟩
variable (j_:eP N js scope X.env.scope X.N=true) (G_:X.calm=true) (hi:PI X tg iter (lq X.K cls E2 wi))
  (hg:∀C s2 H2 fp pn,PG (compCx X scope C N s2 H2 fp pn) tg (qh X.K g)) (ht:∀C s2 H2 fp pn,PIf (compCx X scope C N s2 H2 fp pn) ifs (cq X.K cls no2 tt)) (he:∀C s2 H2 fp pn,PE (compCx X scope C N s2 H2 fp pn) I_ (low X.K cls no2 te))
  (hs:∀x,foldedSetIterable iter X.env x=pure x)
include j_ G_ hi hg ht he hs
theorem su:PE X (.ListComp I_ [⟨tg,iter,ifs,0⟩] scope pos) (low X.K cls E2 λZ M Q E=>wi Z M (λds S M1=>∀p,M1 p=none->dn g (λZ M Q=>tt Z M Q (λ_ _=>False)) (λZ M Q=>te Z M Q (λ_ _=>False)) S p Q ds [] (aL js Z) (put M1 p (.lst []))) E):=
 (yR j_ G_ hi hg ht he hs).imp λZ H Q2 k_=>ex9 k_ λh_ M Q E3 rm ds lk h c_=>jp rm ds lk h c_
theorem Cl(fz:Bool):PE X (.ListComp I_ [⟨tg,iter,ifs,0⟩] scope pos) (low X.K cls E2 λZ M Q E=>wi Z M (λds S M1=>∀p,M1 p=none->dn g (λZ M Q=>tt Z M Q (λ_ _=>False)) (λZ M Q=>te Z M Q (λ_ _=>False)) S p (if fz=true then jb Q else Q) ds [] (aL js Z) (put M1 p (.lst []))) E):=by
 cases fz with
 |false=>exact su j_ G_ hi hg ht he hs
 |true=>exact CL (su j_ G_ hi hg ht he hs)
theorem qx{spos:Pos}(hN:X.N.Nodup)(hy:X.N[i]?=some y)(hl:X.env.scope.names.lookup y=some .local)(M8:swapsWith (.ListComp I_ [⟨tg,iter,ifs,0⟩] scope pos) (some (.Name y py)) spos.line X.env=pure true)(fz:Bool) :
  PS X (.Assign [.Name y py] (.ListComp I_ [⟨tg,iter,ifs,0⟩] scope pos) spos) (bH X.K cls E2 λD E Z M=>wi Z M (λds S M1=>∀p,M1 p=none->dn g (λZ M Q=>tt Z M Q (λ_ _=>False)) (λZ M Q=>te Z M Q (λ_ _=>False)) S p (if fz=true then jb (λx M1=>D.nx (Z.set i (some x)) M1) else (λx M1=>D.nx (Z.set i (some x)) M1)) ds [] (aL js Z) (put M1 p (.lst []))) (E Z)):=by
 cases fz with
 |false=>exact (kM hN hy hl j_ G_ hi hg ht he hs M8).imp λD2 Z H k_=>ex9 k_ λh_ M D3 E3 rm ds lk h er=>jp rm ds (lk.at ds) h λv H1 x M1 dx o_ t1 q1=>er.nx _ _ _ _ o_ ((ds.mono t1).set dx) t1 q1
 |true=>
  refine λa_ s Z H D2 I k_=>ex9 k_ λh_ M D3 E3 rm ds lk h er=>?_
  refine thn (kM hN hy hl j_ G_ hi hg ht he hs M8 a_ s Z H {D2 with nx:=λm_ H'=>∃x v M1,m_=Z.set i (some v)/\Den X.K H' x v/\RelM X.K M1 H'/\TM X.K H H'/\jb (λx M1=>D3.nx (h_.set i (some x)) M1) x M1} I
   (jp rm ds (lk.at ds) h λv H1 x M1 dx o_ t1 q1=>⟨x,v,M1,rfl,dx,o_,t1,q1⟩)) λfl s1 q=>?_
  cases fl with
  |next=>
   obtain⟨m_,H',I1,x,v,M1,rfl,dx,o_,t1,q1⟩:=q;unfold jb at q1;split at q1
   ·rename_i a;cases (show v=.ref a from dx);split at q1
    ·rename_i es e;obtain⟨vs,e1,dl⟩:=o_ a _ e;obtain⟨o,I2⟩:=I1.freeze e1;exact⟨_,_,I2,er.nx _ _ _ _ (o_.freeze e1) ((ds.mono (t1.trans (.freeze e1))).set (gg dl e1)) (t1.trans (.freeze e1)) q1⟩
    ·exact q1.elim
   ·exact q1.elim
  |brk=>exact q
  |cont=>exact q
  |ret u=>exact q
end
section
variable {X:Cx}{cls:Nat->Addr}{E2:St->XK}{c n:Str}{k j ne:Nat}{sub:Nat->Nat->Bool}{b0:Stmt}{N5:List Stmt}{np PC pos:Pos}{aU:List ExceptHandler}{tb:Ends3->(St3->XN)->St3->MH->Prop}{tr:XE->Ends3->St3->MH->Prop}
end
section
variable {X:Cx}{s:Shared}{l_:List (Key×V)}{o:Obj}
theorem Inv.rehang(I:Inv X a_ Z H s)(e:H a=some u)(n1:∀xs,u≠.tup xs)(n2:∀ps,u≠.Md ps)(n3:∀b,u≠.own b)(n4:∀ob v,u≠.t_ ob v)(ok:ObjOk X.prog X.w H s.heap a u'):Inv X a_ Z (upd H a u') s:=by
 have ne:∀b,H b=none->b≠a:=λb z q=>by rw[q,e]at z;cases z
 have own:∀c b,H c=some (.own b)->c≠a:=λc b z q=>by rw[q,e]at z;cases z;exact n3 _ rfl
 have tup:∀c xs,H c=some (.tup xs)->c≠a:=λc b z q=>by rw[q,e]at z;cases z;exact n1 _ rfl
 refine⟨I.ok,I.os,I.bare,⟨I.base.keep,I.base.slot,λb ob q n hx=>?_,I.base.there,λb ys q=>?_,λb ob v q=>?_,λb ps q=>?_⟩,I.loc,I.cell,?_,λx c z=>?_,λp hp=>?_,λb v q=>?_,I.len⟩
 ·have z:=I.base.free b ob q n hx;rw[ae (ne b z)];exact z
 ·have z:=I.base.KD b ys q;rw[ae (tup _ _ z)];exact z
 ·have z:=I.base.Kz b ob v q;rw[ae (λw=>by rw[w,e]at z;cases z;exact n4 _ _ rfl)];exact z
 ·obtain⟨Lj,z⟩:=I.base.KJ b ps q;exact⟨Lj,by rw[ae (λw=>by rw[w,e]at z;cases z;exact n2 _ rfl)];exact z⟩
 ·rw[ae (ne _ I.free)];exact I.free
 ·rw[ae (ne _ (I.freeC x c z))];exact I.freeC x c z
 ·obtain⟨e1,e2,e3⟩:=I.pin p hp;exact⟨e1,by rw[ae (ne _ e2)];exact e2,e3⟩
 ·by_cases w:b=a
  ·subst w;rw[ah]at q;cases q;exact ok.stay (λ_ _ _ z=>z) (λc z=>by rw[ae (own _ _ z)];exact z) λc xs z=>by rw[ae (tup _ _ z)];exact z
  ·rw[ae w]at q;exact (I.j_ b v q).stay (λ_ _ _ z=>z) (λc z=>by rw[ae (own _ _ z)];exact z) λc xs z=>by rw[ae (tup _ _ z)];exact z
theorem vZ{h:Heap}(ok:ObjOk P w H h a (.dK l_))(g:h.get? a=some o):DOb o (l_.map λx=>(kV x.1,x.2))/\o.ExactDict/\(a == sysModules)=false:=by
 obtain⟨z,nm,vs,kv,o',es,ep,g',xd,hd,ko,pr,_⟩:=ok;cases g.symm.trans g';have key:∀{l:List DictEntry}{vs:List (Key×Value)}{l_:List (Key×V)},Pairs (aD P w) l vs->KV l_ vs->l.length=l_.length/\∀(i:Nat) p e,(l_.map λx=>(kV x.1,x.2))[i]?=some p->l[i]?=some e->RelV p.1 e.key/\RelV p.2 e.val:=by
  intro l vs l_ pr
  induction pr generalizing l_ with
  |nil=>
   intro kv;cases kv;exact⟨rfl,λi p e h=>by simp at h⟩
  |@cons e q es qs h1 h2 _ ih=>
   intro kv;cases kv with
   |@cons p _ ps _ hp t=>
    obtain⟨l1,l2⟩:=ih t;refine⟨by rw[Jx,Jx,l1],λi p' e' h3 h4=>?_⟩
    cases i with
    |zero=>
     simp at h3 h4;subst h3 h4;refine⟨?_,by rw[h2];exact hp.2⟩
     rw[qE,<-hp.1]at h1;rcases aG h1 with ⟨i,t,e1,e2⟩|⟨x,t,e1,e2⟩
     ·rw[e1,e2];exact⟨t,rfl⟩
     ·rw[e1,e2];exact⟨t,rfl⟩
    |succ i=>
     rw[List.map_cons,List.getElem?_cons_succ]at h3;rw[List.getElem?_cons_succ]at h4;exact l2 i p' e' h3 h4
 obtain⟨l1,l2⟩:=key pr kv;exact⟨⟨es,ep,xd,hd,by rw[Jv,<-l1,Array.length_toList],λi p e h1 h2=>l2 i p e h1 (by rw[Array.getElem?_toList];exact h2)⟩,xd,nm⟩
end
noncomputable def Itg(G:Hp->Prop)(ps:List (V×V)):It:=
 ⟨λi H=>G H/\i<ps.length,λi H v H'=>∃p,v=.ref p/\H p=none/\∃kv,ps[i]?=some kv/\H'=upd H p (.tup [kv.1,kv.2]),λi H=>G H/\ps.length<=i⟩
theorem o5{K:Ks}(d it:Addr){o:Obj}{ps:List (V×V)}{es:Array DictEntry}(hd:o.data=.dict es ep)(hz:es.size=ps.length)
  (hr:∀(i:Nat) p e,ps[i]?=some p->es[i]?=some e->RelV p.1 e.key/\RelV p.2 e.val) (LA:d≠it) (hG:∀(X:Cx) (a_:List (Addr×Obj)) (Z:St)(H:Hp)(s:Shared),Inv X a_ Z H s->G H->s.heap.get? d=some o):Turn P w K (.Tuple KL x1 pos) (Itg G ps) [it] it (λi h=>∃a1 a2,IsItemIter h it d i es.size ep a1 a2) where
 mem:=by simp
 obj:=λi h st b hb=>by
  obtain⟨a1,a2,h1⟩:=st;have e':b=it:=by simpa using hb
  subst e';exact⟨_,h1,λv z=>by
   have z':Data.fields _=Data.cell v:=z;cases z'⟩
 keep:=λi h h' st k=>let ⟨a1,a2,h1⟩:=st;⟨a1,a2,k it (by simp) _ h1⟩
 item:=by
  intro X hP hw hK hc i a_ s Z H E I hf st hg;subst hP hw hK;obtain⟨hu,hi⟩:=hg;obtain⟨a1,a2,B_⟩:=st;have fi:=hf it (by simp)
  have MM:it<s.heap.objs.size:=Jt B_;have he:es[i]?=some es[i]:=by simp[show i<es.size by omega]
  have MN:ps[i]?=some ps[i]:=by simp[hi]
  obtain⟨rk,rv⟩:=hr i _ _ MN he;refine j0 B_ (hG _ _ _ _ _ I hu) hd he λh' Qb ht k=>?_
  have hp:H s.heap.objs.size=none:=I.j_.fresh (Jp _);have I1:Inv X a_ Z (upd H s.heap.objs.size (.tup [ps[i].1,ps[i].2])) {s with heap:=s.heap.push {cls:=.type "tuple",data:=.seq #[es[i].key,es[i].val]},toks:=s.toks}:=
   I.laid (λb o e1=>Jn _ e1) (Jp _) ⟨by show 2<=sizeLine;decide,[es[i].key,es[i].val],.cons rk (.cons rv .nil),⟨_,Jr _ rfl,rfl,_,rfl⟩⟩
  have NA:fj X a_ (upd H s.heap.objs.size (.tup [ps[i].1,ps[i].2])) it:=⟨by rw[ae (JI MM)];exact fi.1,fi.2⟩
  obtain⟨f0,f1,f2,f3,f4,f5⟩:=NA;have I2:Inv X a_ Z (upd H s.heap.objs.size (.tup [ps[i].1,ps[i].2])) {s with heap:=h',toks:=s.toks}:=I1.turned (t':=s.toks) (λb o hb e1=>by
   by_cases Mt:b=s.heap.objs.size
   ·subst Mt;have e2:(s.heap.push {cls:=.type "tuple",data:=.seq #[es[i].key,es[i].val]}).get? s.heap.objs.size=some {cls:=.type "tuple",data:=.seq #[es[i].key,es[i].val]}:=Jr _ rfl;rw[e2]at e1;cases e1;exact ht
   ·exact k b o hb ((Heap.get?_push_ne _ _ _ Mt).symm.trans e1)) f0 f1 f3 f4 f5
  refine⟨.ref s.heap.objs.size,rfl,wpAny_letOwnedTupleGo_items (s:={s with heap:=h'}) Qb λh2 Mh La=>?_⟩
  have I3:Inv X a_ Z (upd H s.heap.objs.size (.tup [ps[i].1,ps[i].2])) {s with heap:=h2,toks:=s.toks}:=I2.turned (t':=s.toks) (λb o hb e1=>(La.2 b hb).trans e1) f0 f1 f3 f4 f5
  refine⟨.ref s.heap.objs.size,_,I3,rfl,⟨_,rfl,hp,_,MN,rfl⟩,⟨_,_,Mh⟩,λb hb=>?_⟩
  have e':b=it:=by simpa using hb
  subst e';exact f0
 done:=by
  intro X hP hw hK hc i a_ s Z H E I hf st hg;subst hP hw hK;obtain⟨hu,hi⟩:=hg;obtain⟨a1,a2,B_⟩:=st;obtain⟨f0,f1,f2,f3,f4,f5⟩:=hf it (by simp)
  exact jt (I.ok.hd hc) B_ (hG _ _ _ _ _ I hu) hd (by omega) λh' eb=>⟨rfl,I.turned (t':=s.toks) (λb o hb e=>eb b o hb e) f0 f1 f3 f4 f5⟩
 self:=λ_ _ _ _ _ st h=>let ⟨_,_,B_⟩:=st;PySem.W.kcp_self B_ h
section
variable {X:Cx}{n_ p_:Pos}
theorem AR{K:Ks}(k:Key):Den K H (kD k) (kV k):=by
 cases k<;>rfl
end
end L2
namespace L2
open PySem PySem.Spec PyProof.Rows PySem.W
noncomputable def Itk(d:Addr)(o:Obj)(vs:List V):It:=
 ⟨λi H=>(∃u,H d=some (.t_ o u))/\i<vs.length,λi H v H'=>H'=H/\vs[i]?=some v,λi H=>(∃u,H d=some (.t_ o u))/\vs.length<=i⟩
theorem uA{K:Ks}(d it:Addr){o:Obj}{vs:List V}{es:Array DictEntry}(hd:o.data=.dict es ep)(hz:es.size=vs.length)
  (hr:∀(i:Nat) v e,vs[i]?=some v->es[i]?=some e->RelV v e.key) (LA:d≠it):Turn P w K tg (Itk d o vs) [it] it (λi h=>h.IsKeyIter it d i es.size ep) where
 mem:=by simp
 obj:=λi h st b hb=>by
  obtain⟨o1,h1,h2,h3⟩:=st;have e':b=it:=by simpa using hb
  subst e';exact⟨_,h1,λv z=>by rw[h3]at z;cases z⟩
 keep:=λi h h' st k=>st.at λo e=>k it (by simp) o e
 item:=by
  intro X hP hw hK hc i a_ s Z H E I hf st hg;subst hP hw hK;obtain⟨⟨u,hu⟩,hi⟩:=hg;have he:es[i]?=some es[i]:=by simp[show i<es.size by omega]
  have MN:vs[i]?=some vs[i]:=by simp[hi]
  have rk:=hr i _ _ MN he;obtain⟨f0,f1,f2,f3,f4,f5⟩:=hf it (by simp)
  refine nU st (I.frzGet hu) hd he λh' Lf Nr=>?_
  have I2:Inv X a_ Z H {s with heap:=h',toks:=s.toks}:=I.turned (t':=s.toks) (λb o hb e1=>Nr.extBut b o hb e1) f0 f1 f3 f4 f5
  refine⟨_,rfl,letGo_keyiter (s':={s with heap:=h'}) Lf ?_⟩
  refine⟨vs[i],H,I2,rk,⟨rfl,MN⟩,Lf,λb hb=>?_⟩
  have e':b=it:=by simpa using hb
  subst e';exact f0
 done:=by
  intro X hP hw hK hc i a_ s Z H E I hf st hg;subst hP hw hK;obtain⟨⟨u,hu⟩,hi⟩:=hg;obtain⟨f0,f1,f2,f3,f4,f5⟩:=hf it (by simp)
  exact nM (I.ok.hd hc) st (I.frzGet hu) hd (by omega) λh' eb=>⟨rfl,I.turned (t':=s.toks) (λb o hb e=>eb b o hb e) f0 f1 f3 f4 f5⟩
 self:=λ_ _ _ _ _ st h=>wpAny_pyIter_keyiter st h
section
variable {X:Cx}{n_ p_:Pos}
theorem yh{K:Ks}{xs:List (List Int×Addr×Value)}{ks:List (List Int)}(e:H0 d=some (.t_ ob (.ext (aB d xs))))(z:TabOk K H0 d ks xs vs):ItOk K H0 (Itk d ob (xs.map λx=>V.ref x.2.1)) (ks.map jd) (λ_=>True):=by
 have l3:xs.length=ks.length:=by rw[<-z.kx];simp
 refine⟨λi H M t rm s hi=>⟨⟨_,t.g _ _ _ e⟩,by simp at hi ⊢;omega⟩,λi H M x H' t rm s hi y=>?_,λH M t rm s=>⟨⟨_,t.g _ _ _ e⟩,by simp;omega⟩⟩
 obtain⟨rfl,hv⟩:=y;rw[Jz]at hv;cases hx:xs[i]? with
 |none=>rw[hx]at hv;cases hv
 |some x'=>
  rw[hx]at hv;cases hv;have hk:ks[i]?=some x'.1:=by rw[<-z.kx,Jz,hx];rfl
  have sq:=t.t _ _ (z.at_ x' (Ka hx));exact⟨.refl _,rm,jd x'.1,by rw[Jz,hk];rfl,nw sq (kJ _)⟩
end
section
variable {X:Cx}{n_ p_:Pos}
theorem sZ{K:Ks}{ks:List Key}{vs:List V}(e:H0 d=some (.t_ ob (.dK (ks.zip vs))))(hl:ks.length=vs.length)(dl:DenL K H0 ds vs):ItOk K H0 (Itd d ob ((ks.zip vs).map λx=>(kV x.1,x.2))) (f8 ks ds) (λ_=>True):=by
 have l1:=dl.length;have lp:((ks.zip vs).map λx=>(kV x.1,x.2)).length=(f8 ks ds).length:=by simp[f8];omega
 refine⟨λi H M t rm s hi=>⟨⟨_,t.g _ _ _ e⟩,by omega⟩,λi H M x H' t rm s hi y=>?_,λH M t rm s=>⟨⟨_,t.g _ _ _ e⟩,by omega⟩⟩
 obtain⟨q,rfl,hq,kv,LD,rfl⟩:=y;rw[Jz]at LD;cases hx:(ks.zip vs)[i]? with
 |none=>rw[hx]at LD;cases LD
 |some x=>
  rw[hx]at LD;obtain rfl:(kV x.1,x.2)=kv:=by simpa using LD
  obtain⟨a1,a2⟩:=List.getElem?_zip_eq_some.mp hx;obtain⟨dd,e1,e2⟩:=(dl.mono t).get' a2;refine⟨.new hq,rm.grow hq,.tup [kD x.1,dd],?_,⟨q,[kV x.1,x.2],rfl,.inl (.inl ah),⟨_,_,rfl,AR _,_,_,rfl,e2.mono (.new hq),rfl⟩⟩⟩;have ez:(ks.zip ds)[i]?=some (x.1,dd):=List.getElem?_zip_eq_some.mpr ⟨a1,e1⟩;unfold f8;rw[Jz,ez];rfl
theorem yf(ho:PE X o (low X.K cls E2 to))(v_:attributeBase o "items" X.env (eval o X.env)=eval o X.env)(w_:(n_.endLine == p_.line)=true) :
  PI X (.Tuple KL x1 pt) (.Call (.Attribute o "items" n_) [] [] p_) (lq X.K cls E2 λZ M R E=>to Z M (λx M1=>match x with
  |.Kv ks ds=>R (aw ks ds) (λ_=>True) M1
  |.Ln ks ds=>R (f8 ks ds) (λ_=>True) M1
  |_=>False) E):=
 (vG ho v_ w_).imp λZ H R2 k_=>ex9 k_ λh_ M R E3 rm ds lk h k=>aZ rm ds lk h λv H1 x M1 dx o_ t1 q1=>by
  cases x with
  |Kv ks es=>
   obtain⟨d,vs,ob,xs,rfl,e,z,dl⟩:=dx;refine⟨d,ob,_,prs xs vs,rfl,e,λ_ _ _ _ I e=>⟨(rW I e z.vx).1,z.no⟩,λp hp=>?_⟩
   have t2:TM X.K H1 (upd H1 p (.ext λh=>h.IsItemsView p d)):=.new hp
   exact k _ _ _ _ _ (uZ (t2.g _ _ _ e) (z.grow t2) (dl.mono t2)) (o_.grow hp) (t1.trans t2) q1
  |Ln ks es=>
   obtain⟨d,vs,ob,rfl,e,hl,dl⟩:=dx;refine⟨d,ob,_,(ks.zip vs).map λx=>(kV x.1,x.2),rfl,e,λ_ _ _ _ I e=>⟨(vZ (I.j_ _ _ e).2 (I.j_ _ _ e).1).1,(vZ (I.j_ _ _ e).2 (I.j_ _ _ e).1).2.2⟩,λp hp=>?_⟩
   have t2:TM X.K H1 (upd H1 p (.ext λh=>h.IsItemsView p d)):=.new hp
   exact k _ _ _ _ _ (sZ (t2.g _ _ _ e) hl (dl.mono t2)) (o_.grow hp) (t1.trans t2) q1
  |_=>exact q1.elim
end
end L2
namespace L2
open PySem PySem.Spec PyProof.Rows
section
variable {X:Cx}{s:Shared}
def ku(o:Obj)(xs:List (List Int×Addr×Value)):Prop:=∃es ep,o.ExactDict/\o.data=.dict es ep/\es.toList=xs.map λx=>(⟨tH x.1,.ref x.2.1,x.2.2⟩:DictEntry)
abbrev phO(a:Addr)(o:Obj):Heap->Prop:=λh=>h.get? a=some o
theorem Inv.stillT(I:Inv X a_ Z H s)(e:H a=some (.ext (aB a xs))):∃o,ku o xs/\Inv X a_ Z (upd H a (.ext (phO a o))) s/\s.heap.get? a=some o:=by
 obtain⟨⟨o,es,ep,g,r1,r2,r3⟩,_⟩:=I.j_ a _ e;exact⟨o,⟨es,ep,r1,r2,r3⟩,I.rehang e (λ_ z=>nomatch z) (λ_ z=>nomatch z) (λ_ z=>nomatch z) (λ_ _ z=>nomatch z) ⟨g,⟨o,g⟩,λh1 h2 k1 k=>k _ k1⟩,g⟩
theorem Inv.movesT(I:Inv X a_ Z H s)(t:ku o xs)(e:H a=some (.ext (phO a o))):Inv X a_ Z (upd H a (.ext (aB a xs))) s:=by
 obtain⟨g,_⟩:=I.j_ a _ e;obtain⟨es,ep,r1,r2,r3⟩:=t;exact I.rehang e (λ_ z=>nomatch z) (λ_ z=>nomatch z) (λ_ z=>nomatch z) (λ_ _ z=>nomatch z) ⟨⟨o,es,ep,g,r1,r2,r3⟩,⟨o,g⟩,λh1 h2 ⟨o',Mj,LX,q,r⟩ k=>⟨o',Mj,LX,k _ q,r⟩⟩
end
noncomputable def ox(xs:List (List Int×Addr×Value))(vs:List V):List (V×V):=(xs.zip vs).map λp=>(.ref p.1.2.1,p.2)
noncomputable def yr(X:Cx)(t2:TE):TI:=λZ H R=>t2 Z H λv H1=>∃d xs vs,v=.ref d/\H1 d=some (.ext (aB d xs))/\(d == sysModules)=false/\Vals vs (xs.map (·.2.2))/\∀ob p,ku ob xs->H1 p=none->R (Itg (λH=>H d=some (.ext (phO d ob))) (ox xs vs)) (upd (upd H1 d (.ext (phO d ob))) p (.ext λh=>h.IsItemsView p d))
section
variable {X:Cx}{n_ p_:Pos}
theorem t8(ho:PE X o t2)(v_:attributeBase o "items" X.env (eval o X.env)=eval o X.env)(w_:(n_.endLine == p_.line)=true):PI X (.Tuple KL x1 pt) (.Call (.Attribute o "items" n_) [] [] p_) (yr X t2):=by
 intro a_ s Z H R I h;refine wpAny_Call_method0_late v_ w_ (thn (ho a_ s Z H _ I h) λv s0 ⟨x,H1,I1,r1,d,xs,vs,e1,e3,nm,hv,q⟩=>?_)
 subst e1;cases r1;obtain⟨ob,tb,I2,go⟩:=I1.stillT e3;obtain⟨es,ep,xd,hd,he⟩:=id tb;have l1:es.size=xs.length:=by have:=congrArg List.length he;simpa using this
 have l2:vs.length=xs.length:=by have:=hv.length;simpa using this
 have hz:es.size=(ox xs vs).length:=by simp[ox];omega
 have hr:∀(i:Nat) p e,(ox xs vs)[i]?=some p->es[i]?=some e->RelV p.1 e.key/\RelV p.2 e.val:=λi p e h1 h2=>by
  unfold ox at h1;rw[Jz]at h1;cases hz:(xs.zip vs)[i]? with
  |none=>rw[hz]at h1;cases h1
  |some q=>
   rw[hz]at h1;have h1:(V.ref q.1.2.1,q.2)=p:=by simpa using h1
   obtain⟨a1,a2⟩:=List.getElem?_zip_eq_some.mp hz;have h3:es.toList[i]?=some e:=by simpa using h2
   rw[he,Jz,a1]at h3;cases h3;obtain⟨u,b1,b2⟩:=hv.get a2;rw[Jz,a1]at b1;cases b1;rw[<-h1];exact⟨rfl,b2⟩
 refine⟨"dict","dict.items",PySem.F.plainAttrs_dict,PySem.F.slot_dict_items,PySem.F.type_dict_items,⟨_,go,xd.1⟩,λa ha=>?_,Calls.callWith_builtin rfl (PySem.evalArgs_none ?_)⟩
 ·cases ha;exact⟨_,go,xd.2.1⟩
 have hp:H1 s0.heap.objs.size=none:=I1.j_.fresh (Jp _);have Oj:d<s0.heap.objs.size:=Jt go;refine call_meetsIn PySem.F.slot_dict_items ⟨_,go,xd.1⟩ PySem.F.entry_dict_items (PySem.F.args_dict_items_1 _) (jL nm) ⟨⟨_,go,xd.1⟩,?_⟩;have q:=q ob s0.heap.objs.size tb hp;have I3:Inv X a_ Z (upd (upd H1 d (.ext (phO d ob))) s0.heap.objs.size (.ext λh=>h.IsItemsView s0.heap.objs.size d)) {s0 with heap:=s0.heap.push {cls:=.type "dict_items",data:=.fields #[.ref d]},toks:=s0.toks}:=
  I2.laid (o:=.ext λh=>h.IsItemsView s0.heap.objs.size d) (λb o e1=>Jn _ e1) (Jp _) ⟨⟨_,Jr _ rfl,rfl,rfl⟩,⟨_,Jr _ rfl⟩,λh1 h2 ⟨ov,g1,g2,g3⟩ k=>⟨ov,k _ g1,g2,g3⟩⟩
 have Tb:(s0.heap.push {cls:=.type "dict_items",data:=.fields #[.ref d]}).get? d=some ob:=Jn _ go;refine jF (s:={s0 with heap:=s0.heap.push {cls:=.type "dict_items",data:=.fields #[.ref d]}}) ⟨_,Jr _ rfl,rfl,rfl⟩ Tb hd ?_
 have sz:(s0.heap.push {cls:=.type "dict_items",data:=.fields #[.ref d]}).objs.size=s0.heap.objs.size+1:=Heap.size_push ..;have hf:=I3.j_.fresh (Jp (s0.heap.push {cls:=.type "dict_items",data:=.fields #[.ref d]}).objs.size);refine⟨_,[(s0.heap.push {cls:=.type "dict_items",data:=.fields #[.ref d]}).objs.size],_,_,_,rfl,I3.kept (t':=s0.toks) (λb o e=>Jn _ e),o5 d (s0.heap.push {cls:=.type "dict_items",data:=.fields #[.ref d]}).objs.size hd hz hr (JI (by rw[sz];exact Nat.lt_succ_of_lt Oj)) (G:=λH=>H d=some (.ext (phO d ob))) (λX' MB m_ H' s' I' hG=>(show ObjOk X'.prog X'.w H' s'.heap d (.ext (phO d ob)) from I'.j_ d _ hG).1),⟨_,_,Jr _ rfl⟩,λb hb=>?_,q⟩
 have e':b=(s0.heap.push {cls:=.type "dict_items",data:=.fields #[.ref d]}).objs.size:=by simpa using hb
 subst e';exact I3.fpOk (Jp _) hf
theorem Bx(hp:PassesOwn (model X.prog X.w) X.A X.env X.xe)(G_:X.calm=true)(ho:PE X o (low X.K cls E2 to))(v_:attributeBase o "items" X.env (eval o X.env)=eval o X.env)(w_:(n_.endLine == p_.line)=true)(hg:PG X (.Tuple KL x1 pt) (qh X.K g))(hb:PSs X body (bH X.K cls E2 t))
  (hs:∀x,foldedSetIterable (.Call (.Attribute o "items" n_) [] [] p_) X.env x=pure x) :
  PS X (.For (.Tuple KL x1 pt) (.Call (.Attribute o "items" n_) [] [] p_) body [] pos) (bH X.K cls E2 λD E Z M=>to Z M (λx M1=>uc x M1 λd ks es=>∀φ,eA g (λD Z M=>t D (λ_ _ _=>False) Z M) (λM=>M d=some (.J_ φ)) (qG d φ ks es D) (aw ks es) Z (put M1 d (.J_ φ))) (E Z)):=by
 refine λa_ s Z H D2 I k_=>ex9 k_ λh_ M D3 E3 rm Mc lk h er=>?_
 refine thn (vP hp G_ (t8 ho v_ w_) hg hb hs a_ s Z H ⟨λm_ H'=>∃d ob xs,ku ob xs/\H' d=some (.ext (phO d ob))/\D2.nx m_ (upd H' d (.ext (aB d xs))),λv H'=>∃d ob xs,ku ob xs/\H' d=some (.ext (phO d ob))/\D2.rt v (upd H' d (.ext (aB d xs))),λm_ H'=>∃d ob xs,ku ob xs/\H' d=some (.ext (phO d ob))/\D2.bk m_ (upd H' d (.ext (aB d xs))),λm_ H'=>∃d ob xs,ku ob xs/\H' d=some (.ext (phO d ob))/\D2.ct m_ (upd H' d (.ext (aB d xs)))⟩ I ?_) λf s1 hf=>?_
 rotate_left
 ·cases f with
  |next=>
   obtain⟨m_,H',I',d,ob,xs,tb,e,q⟩:=hf;exact⟨m_,_,I'.movesT tb e,q⟩
  |brk=>
   obtain⟨m_,H',I',d,ob,xs,tb,e,q⟩:=hf;exact⟨m_,_,I'.movesT tb e,q⟩
  |cont=>
   obtain⟨m_,H',I',d,ob,xs,tb,e,q⟩:=hf;exact⟨m_,_,I'.movesT tb e,q⟩
  |ret u=>
   obtain⟨v,m_,H',I',r,d,ob,xs,tb,e,q⟩:=hf;exact⟨v,m_,_,I'.movesT tb e,r,q⟩
 refine aZ rm Mc (lk.at Mc) h λv H1 x M1 dx o_ t1 q1=>?_
 unfold uc at q1;split at q1
 ·rename_i d;cases (show v=.ref d from dx);split at q1
  ·rename_i ks es em;obtain⟨vs,xs,ed,tk,dl⟩:=o_ d _ em;refine⟨d,xs,vs,rfl,ed,tk.no,tk.vx,λob p0 tb O0=>?_⟩
   have np:p0≠d:=λz=>by rw[z,ed]at O0;cases O0
   have tA:TM X.K H1 (upd H1 d (.ext (phO d ob))):=.put ed (λ_ z=>nomatch z) λ_ _ z=>nomatch z
   have tB:TM X.K H1 (upd (upd H1 d (.ext (phO d ob))) p0 (.ext λh=>h.IsItemsView p0 d)):=tA.trans (.new (by rw[ae np];exact O0))
   have So:RelM X.K (put M1 d (.J_ (phO d ob))) (upd H1 d (.ext (phO d ob))):=o_.write (u:=.J_ (phO d ob)) ed (λ_ z=>nomatch z) (λ_ _ z=>nomatch z) ah
   have Sq:=So.grow (p:=p0) (o:=.ext λh=>h.IsItemsView p0 d) (by rw[ae np];exact O0)
   have q1:=q1 (phO d ob);have l1:=dl.length;have lx:xs.length=ks.length:=by rw[<-tk.kx];simp
   have lv:vs.length=xs.length:=by have:=tk.vx.length;simpa using this
   have li:(aw ks es).length=ks.length:=by simp[aw];omega
   have lp:(ox xs vs).length=ks.length:=by simp[ox];omega
   have bk:∀{M':MH}{H':Hp},RelM X.K M' H'->TM X.K H1 H'->M' d=some (.J_ (phO d ob))->H' d=some (.ext (phO d ob))/\RelM X.K (put M' d (.dt ks es)) (upd H' d (.ext (aB d xs)))/\TM X.K H' (upd H' d (.ext (aB d xs))):=λ{M' H'} r_ K4 hM=>by
    have e:H' d=some (.ext (phO d ob)):=r_ d _ hM;have L3:TM X.K H' (upd H' d (.ext (aB d xs))):=.put e (λ_ z=>nomatch z) λ_ _ z=>nomatch z
    refine⟨e,r_.write e (λ_ z=>nomatch z) (λ_ _ z=>nomatch z) ⟨vs,xs,ah,⟨tk.kx,tk.nd,tk.sz,tk.no,tk.vx,λx hx=>L3.t _ _ (K4.t _ _ (tk.at_ x hx))⟩,dl.mono (K4.trans L3)⟩,L3⟩
   have Qc:ER X.K (upd (upd H1 d (.ext (phO d ob))) p0 (.ext λh=>h.IsItemsView p0 d)) (qG d (phO d ob) ks es D3) ⟨λm_ H'=>∃d ob xs,ku ob xs/\H' d=some (.ext (phO d ob))/\D2.nx m_ (upd H' d (.ext (aB d xs))),λv H'=>∃d ob xs,ku ob xs/\H' d=some (.ext (phO d ob))/\D2.rt v (upd H' d (.ext (aB d xs))),λm_ H'=>∃d ob xs,ku ob xs/\H' d=some (.ext (phO d ob))/\D2.bk m_ (upd H' d (.ext (aB d xs))),λm_ H'=>∃d ob xs,ku ob xs/\H' d=some (.ext (phO d ob))/\D2.ct m_ (upd H' d (.ext (aB d xs)))⟩:=by
    refine⟨λm_ H' u_ M' r d' tm q=>?_,λv H' d' M' dv r tm q=>?_,λm_ H' u_ M' r d' tm q=>?_,λm_ H' u_ M' r d' tm q=>?_⟩
    ·obtain⟨z1,z2,z3⟩:=bk r (tB.trans tm) q.1;exact⟨d,ob,xs,tb,z1,er.nx _ _ _ _ z2 (d'.mono z3) (t1.trans ((tB.trans tm).trans z3)) q.2⟩
    ·obtain⟨z1,z2,z3⟩:=bk r (tB.trans tm) q.1;exact⟨d,ob,xs,tb,z1,er.rt _ _ _ _ (dv.mono z3) z2 (t1.trans ((tB.trans tm).trans z3)) q.2⟩
    ·obtain⟨z1,z2,z3⟩:=bk r (tB.trans tm) q.1;exact⟨d,ob,xs,tb,z1,er.bk _ _ _ _ z2 (d'.mono z3) (t1.trans ((tB.trans tm).trans z3)) q.2⟩
    ·obtain⟨z1,z2,z3⟩:=bk r (tB.trans tm) q.1;exact⟨d,ob,xs,tb,z1,er.ct _ _ _ _ z2 (d'.mono z3) (t1.trans ((tB.trans tm).trans z3)) q.2⟩
   generalize Ts:upd (upd H1 d (.ext (phO d ob))) p0 (.ext λh=>h.IsItemsView p0 d)=H2 at *
   refine⟨λi m Ly H'=>∃Lh M',m=(aw ks es).length-i/\i<=(aw ks es).length/\RelM X.K M' H'/\DenS X.K H' Lh Ly/\TM X.K H2 H'/\eA g (λD Z M=>t D (λ_ _ _=>False) Z M) (λM=>M d=some (.J_ (phO d ob))) (qG d (phO d ob) ks es D3) ((aw ks es).drop i) Lh M',
    ⟨_,_,_,rfl,Nat.zero_le _,Sq,Mc.mono (t1.trans tB),.refl _,q1⟩,?_⟩
   rintro i m Ly H' ⟨Lh,M',rfl,MM,r_,F_,K4,q⟩;by_cases Ku:i<(aw ks es).length
   ·rw[List.drop_eq_getElem_cons Ku]at q;obtain⟨s',q⟩:=q;refine .inr ⟨⟨r_ d _ s',by omega⟩,λMO H4=>∃KQ M4,RelM X.K M4 H4/\DenS X.K H4 KQ MO/\TM X.K H2 H4/\eA g (λD Z M=>t D (λ_ _ _=>False) Z M) (λM=>M d=some (.J_ (phO d ob))) (qG d (phO d ob) ks es D3) ((aw ks es).drop (i+1)) KQ M4,?_,?_⟩
    ·rintro MO H4 ⟨KQ,M4,e1,e2,e3,e4⟩;exact⟨(aw ks es).length-(i+1),by omega,KQ,M4,rfl,Ku,e1,e2,e3,e4⟩
    ·intro x H3 y;obtain⟨pp,rfl,O1,kv,LD,rfl⟩:=y;have L3:TM X.K H' (upd H' pp (.tup [kv.1,kv.2])):=.new O1;unfold ox at LD;rw[Jz]at LD;cases hz:(xs.zip vs)[i]? with
     |none=>rw[hz]at LD;cases LD
     |some kw=>
      rw[hz]at LD;have LD:(V.ref kw.1.2.1,kw.2)=kv:=by simpa using LD
      obtain⟨a1,a2⟩:=List.getElem?_zip_eq_some.mp hz;have Lu:=tB.trans K4;obtain⟨dd,b1,b2⟩:=(dl.mono Lu).get' a2;have hk:ks[i]?=some kw.1.1:=by rw[<-tk.kx,Jz,a1];rfl
      have ei:(aw ks es)[i]=.tup [.tup (kw.1.1.map D.int),dd]:=by
       have:(aw ks es)[i]?=some (.tup [.tup (kw.1.1.map D.int),dd]):=by
        have ez:(ks.zip es)[i]?=some (kw.1.1,dd):=List.getElem?_zip_eq_some.mpr ⟨hk,b1⟩;unfold aw;rw[Jz,ez];rfl
       rw[JG Ku]at this;exact JE this
      have dv:Den X.K (upd H' pp (.tup [kv.1,kv.2])) ((aw ks es)[i]) (.ref pp):=by
       rw[ei,<-LD];exact⟨pp,[.ref kw.1.2.1,kw.2],rfl,.inl (.inl ah),⟨_,_,rfl,⟨kw.1.2.1,kw.1.1.map V.int,rfl,TM.t (.new O1) _ _ (Lu.t _ _ (tk.at_ kw.1 (Ka a1))),DenL.of_int⟩,_,_,rfl,b2.mono (.new O1),rfl⟩⟩
      refine⟨_,Lh,M',_,dv,r_.grow O1,F_.mono L3,q,λRf H5 Ls M5 Ol MP Om q5=>?_⟩
      have O2:TM X.K H2 H5:=(K4.trans L3).trans Om;exact⟨Ls,M5,_,_,Ol,MP,(λ_ _ _ _ _ _ _ _ h=>h.elim),q5,⟨λLI H6 KA M6 KZ Lv KR q6=>⟨KA,M6,KZ,Lv,O2.trans KR,q6⟩,λv H6 d6 M6 Oo KZ KR q6=>Qc.rt v H6 d6 M6 Oo KZ (O2.trans KR) q6,
       λLI H6 KA M6 KZ Lv KR q6=>Qc.nx LI H6 KA M6 KZ Lv (O2.trans KR) q6,λLI H6 KA M6 KZ Lv KR q6=>⟨KA,M6,KZ,Lv,O2.trans KR,q6⟩⟩⟩
   ·have e:i=(aw ks es).length:=by omega
    subst e;rw[List.drop_length]at q;exact .inl ⟨⟨r_ d _ q.1,by omega⟩,Qc.nx _ _ _ _ r_ F_ K4 q.2⟩
  ·exact q1.elim
 ·exact q1.elim
end
end L2
namespace L2
open PySem PySem.Spec PyProof.Rows PySem.W
section
variable {X:Cx}
end
end L2
namespace L2
open PySem PySem.Spec PyProof.Rows
section
variable {X:Cx}{cls:Nat->Addr}{E2:St->XK}{tg o:Expr}
theorem Dz{t2:TE}(ho:PE X o t2):PI X tg o (λZ H R=>t2 Z H λv H1=>∃d ob xs ks ws,v=.ref d/\H1 d=some (.t_ ob (.ext (aB d xs)))/\TabOk X.K H1 d ks xs ws/\R (Itk d ob (xs.map λx=>V.ref x.2.1)) H1):=by
 intro a_ s Z H R I h;refine thn (ho a_ s Z H _ I h) λv s1 ⟨x,H2,I2,r1,d,ob,xs,ks,ws,e1,e3,z,q⟩=>?_
 subst e1;cases r1;obtain⟨⟨es,ep,hx,hd,hz,hr⟩,xd⟩:=AQ I2 e3 z;have ho:=I2.frzGet e3;refine Ag z.no ho xd hd ?_;have hf:H2 s1.heap.objs.size=none:=I2.j_.fresh (Jp _);have Oj:d<s1.heap.objs.size:=Jt ho;have l2:=z.vx.length;rw[Jv]at l2;have Oi:es.size=((xs.map λx=>V.ref x.2.1)).length:=by rw[hz];simp[prs];omega
 exact⟨s1.heap.objs.size,[s1.heap.objs.size],_,_,H2,rfl,I2.kept (t':=s1.toks) (λb o e=>Jn _ e),uA d s1.heap.objs.size hd Oi (λi v e hv he=>by
  obtain⟨w,hw⟩:∃w,ws[i]?=some w:=⟨ws[i]'(by have:=(JQ.mp hv).1;simp at this;omega),by simp⟩
  exact (hr i (v,w) e (List.getElem?_zip_eq_some.mpr ⟨hv,hw⟩) he).1) (JI Oj),⟨_,Jr _ rfl,rfl,rfl⟩,λb hb=>by
  have e':b=s1.heap.objs.size:=by simpa using hb
  subst e';exact I2.fpOk (Jp _) hf,q⟩
theorem Gj{to:St3->MH->VK3->XN->Prop}(ho:PE X o (low X.K cls E2 to)):PI X tg o (lq X.K cls E2 λZ M R E=>to Z M (λx M1=>match x with
  |.Kv ks ds=>R (ks.map jd) (λ_=>True) M1
  |_=>False) E):=
 (Dz ho).imp λZ H R2 k_=>ex9 k_ λh_ M R E3 rm ds lk h k=>aZ rm ds lk h λv H1 x M1 dx o_ t1 q1=>by
  cases x with
  |Kv ks es=>
   obtain⟨d,vs,ob,xs,rfl,e,z,dl⟩:=dx;exact⟨d,ob,xs,ks,vs,rfl,e,z,k _ _ _ _ _ (yh e z) o_ t1 q1⟩
  |_=>exact q1.elim
end
section
variable {X:Cx}{n_ p_:Pos}
end
structure Cfg where
 N:List Str
 sc:Scope
 fns:List (Option Str×Nat)
 exc:List Str
 kln:List Str
 gln:List Str
 xin:List (Nat×Nat)
 calm:Bool
 own:Bool
 tr:Bool
 fn:Bool
 cel:List (Str×NameKind):=[]
noncomputable def glB(c:Cfg)(x:Str):Bool:=c.sc.names.lookup x == some .globalImplicit
noncomputable def Aq(sc:Scope)(x:Str):Bool:=match sc.names.lookup x with
 |some .local=>true
 |some .cell=>true
 |some .free=>true
 |_=>false
noncomputable def yo(c:Cfg)(x:Str):Bool:=c.sc.names.lookup x == some .local||(c.fn&&c.sc.names.lookup x == some .cell)||(c.cel.lookup x == some .cell&&c.sc.names.lookup x == some .cell)
noncomputable def fB:Expr->Bool
 |.Starred ..=>false
 |_=>true
noncomputable def nV:Expr->Bool
 |.Set ..=>false
 |_=>true
noncomputable def lz:Expr->Bool
 |.ListComp ..=>false
 |.SetComp ..=>false
 |.DictComp ..=>false
 |_=>true
noncomputable def xC:Expr->Bool
 |.Tuple ..=>false
 |_=>true
noncomputable def mn:Expr->Bool
 |.Slice ..=>false
 |_=>true
noncomputable def Aj:Expr->Bool
 |.Call ..=>false
 |_=>true
noncomputable def lW:Expr->Bool
 |.Call (.Name _ _) [] [] _=>false
 |_=>true
noncomputable def sk:Expr->Bool
 |.UnaryOp ..=>false
 |.BoolOp ..=>false
 |.IfExp ..=>false
 |.Compare ..=>false
 |_=>true
noncomputable def jX:BI->String
 |.len=>"len"|.abs=>"abs"|.max=>"max"|.min=>"min"|.list _=>"list"|.all=>"all"|.any=>"any"|.Nw=>"dict"
noncomputable def jQ:BM->String
 |.get=>"get"|.extend=>"extend"|.remove=>"remove"
noncomputable def biNames:List Str:=["len","abs","max","min","str","list","tuple","isinstance","range","int","bool","dict","ValueError","enumerate","all","any","sum","zip","reversed","sorted"]
noncomputable def Ax(sc LZ:Scope):Scope:={sc with names:=sc.names.map λ(n,k)=>if (k == .free&&LZ.kind == .function&&LZ.names.lookup n == some .cell) then (n,.cell) else (n,k)}
noncomputable def Cfg.comp(c:Cfg)(N:List Str)(sc:Scope):Cfg:={c with N:=N,sc:=Ax sc c.sc,own:=false,tr:=false,fn:=false,cel:=sc.names}
noncomputable def okG(c:Cfg):ITg->Expr->Bool
 |.name i,e=>match e with
  |.Name x _=>(c.N[i]? == some x)&&yo c x
  |_=>false
 |.tup is,e=>match e with
  |.Tuple es _ _=>c.calm&&bQ c.N c.sc c.fn is es
  |_=>false
noncomputable def t7:II->Expr->Bool
 |.enum _,e=>match e with
  |.Tuple ..=>true
  |_=>false
 |.zip _ _,e=>match e with
  |.Tuple ..=>true
  |_=>false
 |.items _,e=>match e with
  |.Tuple ..=>true
  |_=>false
 |_,_=>true
mutual
noncomputable def okE:IE->Cfg->Expr->Bool
 |.var i,c,e=>match e with
  |.Name x _=>(c.N[i]? == some x)&&Aq c.sc x&&!(x == ("__debug__" : Str))&&!(x == ("__classdict__" : Str))
  |_=>false
 |.con d,_,e=>match e with
  |.Constant k _ _=>match k,d with
   |.int i,.int j=>decide (i=j)
   |.bool i,.bl j=>decide (i=j)
   |.none,.i_=>true
   |.str i,.str j=>decide (i=j)
   |_,_=>false
  |_=>false
 |.bin op a b,c,e=>match e with
  |.BinOp x KN y _=>decide (op=KN)&&okE a c x&&okE b c y
  |_=>false
 |.neg a,c,e=>match e with
  |.UnaryOp op x _=>decide (op=.USub)&&okE a c x
  |_=>false
 |.cat _ a b,c,e=>match e with
  |.BinOp x KN y _=>decide (KN=.Add)&&okE a c x&&okE b c y
  |_=>false
 |.cmp op a b,c,e=>match e with
  |.Compare x [KN] [y] _=>decide (op=KN)&&nV y&&okE a c x&&okE b c y
  |_=>false
 |.chain op1 op2 a b d,c,e=>match e with
  |.Compare x [op1',op2'] [y,z] _=>decide (op1=op1')&&decide (op2=op2')&&nV z&&okE a c x&&okE b c y&&okE d c z
  |_=>false
 |.and a b,c,e=>match e with
  |.BoolOp op (x::y::r) p=>decide (op=.And)&&okE a c x&&(match r with|[]=>okE b c y|_::_=>okE b c (.BoolOp .And (y::r) p))
  |_=>false
 |.or a b,c,e=>match e with
  |.BoolOp op (x::y::r) p=>decide (op=.Or)&&okE a c x&&(match r with|[]=>okE b c y|_::_=>okE b c (.BoolOp .Or (y::r) p))
  |_=>false
 |.not a,c,e=>match e with
  |.UnaryOp op x _=>decide (op=.Not)&&okE a c x
  |_=>false
 |.Oa t a b,c,e=>match e with
  |.IfExp x y z _=>okT t c x&&okE a c y&&okE b c z
  |_=>false
 |.tup es,c,e=>match e with
  |.Tuple xs _ _=>okA es c xs
  |_=>false
 |.lst _ es,c,e=>match e with
  |.List xs _=>okA es c xs
  |_=>false
 |.t_ a,c,e=>okE a c e
 |.ix a b,c,e=>match e with
  |.Subscript x y _=>mn y&&okE a c x&&okE b c y
  |_=>false
 |.sl _ a lo hi,c,e=>match e with
  |.Subscript x (.Slice l h none _) _=>okE a c x&&okO lo c l&&okO hi c h
  |_=>false
 |.call f es,c,e=>match e with
  |.Call (.Name x _) args [] _=>c.calm&&(match c.fns[f]? with|some p=>decide (some x=p.1)&&decide (args.length=p.2)|none=>false)&&glB c x&&!(x == ("__debug__" : Str))&&okA es c args
  |_=>false
 |.bi b es,c,e=>match e with
  |.Call (.Name x _) args [] _=>c.calm&&decide (x=(jX b:Str))&&glB c x&&!args.isEmpty&&okA es c args
  |_=>false
 |.L0 a t,c,e=>match e with
  |.Call (.Name x _) [y,.Name z _] [] _=>decide (x=("isinstance" : Str))&&decide (z=(bV t:Str))&&glB c x&&glB c z&&fB y&&okE a c y
  |_=>false
 |.LQ a b,c,e=>match e with
  |.Dict [some x] [y] _=>okE a c x&&okE b c y
  |_=>false
 |.comp _ N js tg it cond I_,c,e=>match e with
  |.ListComp el [⟨NF,iter,ifs,as⟩] scope _=>c.calm&&decide (as=0)&&t7 it NF&&nV iter&&eP N js scope c.sc c.N&&okI it c iter&&okG (c.comp N scope) tg NF&&xB cond (c.comp N scope) ifs&&okE I_ (c.comp N scope) el
  |_=>false
 |.Ob a,c,e=>match e with
  |.Call (.Name x _) [y] [] _=>c.calm&&decide (x=("min" : Str))&&glB c x&&fB y&&okE a c y
  |_=>false
 |.fld a f,c,e=>match e with
  |.Attribute x m _=>decide (m=fnm f)&&lW x&&okE a c x
  |_=>false
 |.make _ i es,c,e=>match e with
  |.Call (.Name x _) args [] _=>c.calm&&(c.kln[i]? == some x)&&glB c x&&!(x == ("__debug__" : Str))&&okA es c args
  |_=>false
 |.y_ a m es,c,e=>match e with
  |.Call (.Attribute x n ap) args [] cp=>c.calm&&decide (n=fnm m)&&lW x&&(ap.endLine == cp.line)&&decide (args.length<30)&&okE a c x&&okA es c args
  |_=>false
 |.ini i es,c,e=>match e with
  |.Call (.Attribute (.Name x _) n ap) args [] cp=>c.calm&&decide (n=("__init__" : Str))&&(c.kln[i]? == some x)&&glB c x&&!(x == ("__debug__" : Str))&&(ap.endLine == cp.line)&&decide (args.length<30)&&!args.isEmpty&&okA es c args
  |_=>false
 |.glo k,c,e=>match e with
  |.Name x _=>(c.gln[k]? == some x)&&glB c x&&!(x == ("__debug__" : Str))
  |_=>false
 |.bm b o es,c,e=>match e with
  |.Call (.Attribute x n ap) args [] cp=>c.calm&&decide (n=(jQ b:Str))&&lW x&&(ap.endLine == cp.line)&&decide (args.length<30)&&okE o c x&&okA es c args
  |_=>false
 |.KO _,_,e=>match e with
  |.Dict [] [] _=>true
  |_=>false
noncomputable def okT:IT->Cfg->Expr->Bool
 |.val a,c,e=>sk e&&okE a c e
 |.cmp op a b,c,e=>match e with
  |.Compare x [KN] [y] _=>decide (op=KN)&&nV y&&okE a c x&&okE b c y
  |_=>false
 |.chain op1 op2 a b d,c,e=>match e with
  |.Compare x [op1',op2'] [y,z] _=>decide (op1=op1')&&decide (op2=op2')&&nV z&&okE a c x&&okE b c y&&okE d c z
  |_=>false
 |.and a b,c,e=>match e with
  |.BoolOp op (x::y::r) p=>decide (op=.And)&&okT a c x&&(match r with|[]=>okT b c y|_::_=>okT b c (.BoolOp .And (y::r) p))
  |_=>false
 |.or a b,c,e=>match e with
  |.BoolOp op (x::y::r) p=>decide (op=.Or)&&okT a c x&&(match r with|[]=>okT b c y|_::_=>okT b c (.BoolOp .Or (y::r) p))
  |_=>false
 |.not a,c,e=>match e with
  |.UnaryOp op x _=>decide (op=.Not)&&okT a c x
  |_=>false
noncomputable def okA:IA->Cfg->List Expr->Bool
 |.nil,_,es=>es.isEmpty
 |.cons a r,c,es=>match es with
  |x::xs=>fB x&&okE a c x&&okA r c xs
  |[]=>false
noncomputable def okO:IO->Cfg->Option Expr->Bool
 |.no,_,o=>o.isNone
 |.yes a,c,o=>match o with
  |some x=>okE a c x
  |none=>false
noncomputable def xB:ITO->Cfg->List Expr->Bool
 |.no,_,es=>es.isEmpty
 |.yes t,c,es=>match es with
  |[x]=>okT t c x
  |_=>false
noncomputable def okI:II->Cfg->Expr->Bool
 |.seq a,c,e=>okE a c e
 |.enum a,c,e=>match e with
  |.Call (.Name x _) [y] [] _=>decide (x=("enumerate" : Str))&&glB c x&&fB y&&okE a c y
  |_=>false
 |.zip a b,c,e=>match e with
  |.Call (.Name x _) [y,z] [] _=>decide (x=("zip" : Str))&&glB c x&&fB y&&fB z&&okE a c y&&okE b c z
  |_=>false
 |.items a,c,e=>match e with
  |.Call (.Attribute x n ap) [] [] cp=>decide (n=("items" : Str))&&lW x&&(ap.endLine == cp.line)&&okE a c x
  |_=>false
 |.dk a,c,e=>okE a c e
 |.LJ a,c,e=>match e with
  |.Call (.Name x _) [y] [] _=>decide (x=("range" : Str))&&glB c x&&fB y&&okE a c y
  |_=>false
end
noncomputable def swB(c:Cfg)(scope:Scope)(x:Str)(l1 l2:Nat):Bool:=c.sc.kind == .function&&c.sc.names.lookup x == some .local&&l1 == l2&&!(scope.names.any λ(n,k)=>n == x&&(k == .local||k == .cell))
mutual
noncomputable def okS:IS->Cfg->Stmt->Bool
 |.set i a,c,s=>match s with
  |.Assign [.Name x px] e _=>(c.N[i]? == some x)&&yo c x&&okE a c e&&(lz e||match e,a with
   |.ListComp _ _ scope pos,.comp ..=>swB c scope x px.line pos.line||c.sc.names.lookup x == some .cell
   |_,_=>false)
  |_=>false
 |.Nx is a,c,s=>match s with
  |.Assign [.Tuple es _ _] e _=>c.calm&&bQ c.N c.sc c.fn is es&&xC e&&lz e&&okE a c e
  |_=>false
 |.expr a,c,s=>match s with
  |.Expr e _=>lz e&&okE a c e
  |_=>false
 |.ret a,c,s=>match s with
  |.Return (some e) _=>okE a c e
  |_=>false
 |.LR,_,s=>match s with
  |.Return none _=>true
  |_=>false
 |.ifs t a b,c,s=>match s with
  |.If x y z _=>okT t c x&&kA a c y&&kA b c z
  |_=>false
 |.C_ tg it body,c,s=>match s with
  |.For NF iter b [] _=>c.own&&t7 it NF&&c.calm&&nV iter&&okG c tg NF&&okI it c iter&&kA body c b
  |_=>false
 |.LS tg o body,c,s=>match s with
  |.For (.Tuple KL x1 pt) (.Call (.Attribute x n ap) [] [] cp) b [] _=>c.own&&c.calm&&decide (n=("items" : Str))&&lW x&&(ap.endLine == cp.line)&&okG c tg (.Tuple KL x1 pt)&&okE o c x&&kA body c b
  |_=>false
 |.Oc t body,c,s=>match s with
  |.While x b [] _=>c.own&&okT t c x&&kA body c b
  |_=>false
 |.app o a,c,s=>match s with
  |.Expr (.Call (.Attribute x m ap) [y] [] cp) _=>decide (m=("append" : Str))&&Aj x&&(ap.endLine == cp.line)&&fB y&&okE o c x&&okE a c y
  |_=>false
 |.del _,_,_=>false
 |.dead,_,_=>true
 |.KY o f a,c,s=>match s with
  |.Assign [.Attribute x m _] v _=>decide (m=fnm f)&&lz v&&okE o c x&&okE a c v
  |_=>false
 |.A_ o i a,c,s=>match s with
  |.Assign [.Subscript x y _] v _=>mn y&&lz v&&okE o c x&&okE i c y&&okE a c v
  |_=>false
noncomputable def kA:ISs->Cfg->List Stmt->Bool
 |.nil,_,L1=>L1.isEmpty
 |.cons s r,c,L1=>match s with
  |.del _=>kA r c L1
  |s=>match L1 with
   |st::aU=>okS s c st&&kA r c aU
   |[]=>false
end
structure Good (c:Cfg)(W:WC)(X:Cx)(E2:St->XK):Prop where
 N:X.N=c.N
 nd:c.N.Nodup
 sc:X.env.scope=c.sc
 un:X.A.units+64<cLine
 calm:c.calm=true->X.calm=true
 fnx:c.fn=true->∀x,X.fn x=true
 cel:∀x,c.cel.lookup x=some .cell->X.fn x=true
 own:c.own=true->PassesOwn (model X.prog X.w) X.A X.env X.xe/\∃E,(E2=λ_=>E)/\u9 X E/\rJ X E/\Room 2 X.A
 tr:c.tr=true->X.stack=X.env::X.outer/\X.env.frame=some X.env.locals/\X.ex=[]
 fns:c.calm=true->∃k,Room (k+1) X.A/\∀f,f<c.fns.length->tO X W.cls k (W.d_ f) (W.call f)
 fnn:∀f x n,c.fns[f]?=some (some x,n)->X.mg x=some (.ref (W.d_ f))
 kok:∀i,i<W.nk->KOk X.K W.toWB W.d_ i
 kin:∀i,i<W.nk->∃f,W.ini i=some f
 kfi:∀i f,i<W.nk->W.ini i=some f->f<c.fns.length
 kfm:∀i m f,i<W.nk->W.mth i m=some f->f<c.fns.length
 knm:∀i x,c.kln[i]?=some x->X.mg x=some (.ref (W.b_ i))/\i<W.nk
 glo:∀k x,c.gln[k]?=some x->∃u v,X.mg x=some u/\RelV v u/\∀H,Den X.K H (W.glo k) v
 exc:∀i x,c.exc[i]?=some x->X.mg x=some (.ref (W.cls i))/\(c.xin.lookup i=none->Dr X.K (W.cls i))/\∀j,j<W.ne->PySem.W.exmOne X.K (.ref (W.cls j)) (.ref (W.cls i))=some (W.sub j i)
 exi:∀i,i<W.ne->ExcI X.K (W.cls i)/\PySem.W.kitOne X.K (.ref (W.cls i)) (.type "ValueError")=some true/\∀j x,c.exc[j]?=some x->PySem.W.kitOne X.K (.ref (W.cls i)) (.ref (W.cls j))=some (W.sub i j)
 xi:∀i f,c.xin.lookup i=some f->W.xin i=some f/\∃fI fd ps,XIni X.K (W.cls i) fI (fnm f)/\Binds X.K fd ps []/\FnOk X.prog X.w X.K X.mg X.base (CX1 X.prog X.w) 1 fI fd ps (pK (cpF f) X.K (W.cls i) (fnm f))
 xn:∀i f,i<W.ne->W.xin i=some f->NoAttr X.K (W.cls i) (fnm f)
 bi:∀x∈biNames,X.mg x=none
 dig:AA X.K
 pass:bB (CX1 X.prog X.w) X E2
section
variable {c:Cfg}{X:Cx}
theorem Good.gl(G:Good c W X E2)(h:glB c x=true):Gl X x:=by
 show X.env.scope.names.lookup x=_;rw[G.sc];exact JJ.mp h
theorem Good.loc(G:Good c W X E2)(h:yo c x=true):Loc X.env.scope x/\(X.fn x=true\/X.env.scope.names.lookup x=some .local):=by
 unfold yo at h;rw[G.sc];simp only[Bool.or_eq_true,Jj,JJ]at h;rcases h with (h|⟨h1,h2⟩)|⟨h1,h2⟩
 ·exact⟨.inl h,.inr h⟩
 ·exact⟨.inr h2,.inl (G.fnx h1 x)⟩
 ·exact⟨.inr h2,.inl (G.cel x h1)⟩
theorem Good.vis(G:Good c W X E2)(h:Aq c.sc x=true):Vis X.env.scope x:=by
 rw[G.sc];unfold Aq at h;split at h
 ·exact .inl (by assumption)
 ·exact .inr (.inl (by assumption))
 ·exact .inr (.inr (by assumption))
 ·cases h
theorem Good.at{i:Nat}{x:Str}(G:Good c W X E2)(h:(c.N[i]? == some x)=true):X.N[i]?=some x:=by rw[G.N];exact JJ.mp h
theorem Good.ndX(G:Good c W X E2):X.N.Nodup:=by rw[G.N];exact G.nd
theorem Good.names(G:Good c W X E2)(h:bQ c.N c.sc c.fn is es=true):bQ X.N X.env.scope c.fn is es=true:=by rw[G.N,G.sc];exact h
theorem Ch:bB (CX1 P w) X no2:=λ_ _ _ _ _ _ _ h=>by
 obtain⟨_,_,_,_,_,_,_,_,_,_,_,_,_,he⟩:=h;exact he.elim
theorem Good.comp(G:Good c W X E2){N:List Str}{js:List (Option Nat)}{scope:Scope}(h:eP N js scope c.sc c.N=true)(C:Addr)(s2:Shared)(H2:Hp)(fp:List Addr)(pn:List (Addr×Obj)):Good (c.comp N scope) W (compCx X scope C N s2 H2 fp pn) no2:=by
 have hc:=ls h;refine⟨rfl,hc.nd,?_,G.un,G.calm,(λz=>nomatch z),(λx z=>JJ.mpr z),(λz=>nomatch z),(λz=>nomatch z),G.fns,G.fnn,G.kok,G.kin,G.kfi,G.kfm,G.knm,G.glo,G.exc,G.exi,G.xi,G.xn,G.bi,G.dig,Ch⟩
 show relabel scope X.env=Ax scope c.sc;unfold relabel Ax;rw[<-G.sc];rfl
end
theorem b8(h:fB e=true):starEach (e::es) env=(false,eval e env)::starEach es env:=by
 cases e<;>first|rfl|cases h
theorem wo(h:nV e=true):∀x,foldedSetIterable e env x=pure x:=by
 intro x;cases e<;>first|rfl|cases h
theorem jf(h:nV e=true):behindInMarks op e=false:=by
 cases e<;>first|rfl|cases h
theorem jT(h:lz e=true):swapsWith e t n env=pure false:=by
 cases e<;>first|rfl|cases h
theorem tW{e:Expr}(h:sk e=true):∀whole,isTrue e env whole=(do let v<-whole;standAt e.pos;holding [v] (truthy v)):=by
 intro whole;cases e<;>first|rfl|cases h
theorem yq(h:mn e=true):mH e:=by
 intro o i;cases e<;>first|rfl|cases h
theorem Al{e:Expr}{m:Str}{env:Env}{whole:Sem Value}(h:Aj e=true):attributeBase e m env whole=whole:=by
 cases e<;>first|rfl|cases h
theorem dj{e:Expr}{m:Str}{env:Env}{whole:Sem Value}(h:lW e=true):attributeBase e m env whole=whole:=by
 cases e with
 |Call f as ks p=>
  cases f with
  |Name x px=>
   cases as with
   |nil=>
    cases ks with
    |nil=>cases h
    |cons _ _=>rfl
   |cons _ _=>rfl
  |_=>rfl
 |_=>rfl
theorem Ck(h:mn i=true):∀v,assign (.Subscript o i p) env v=(do
   let ov<-holding [v] (eval o env)
   let iv<-holding [v,ov] (eval i env)
   standAt p
   holding [v,ov,iv] (setItem ov iv v)
   release [v,ov,iv] []):=by
 intro v;cases i<;>first|rfl|cases h
theorem xc(h:xC e=true):swappedStores [.Tuple es k p] e env=pure none:=by
 cases e<;>first|rfl|cases h
theorem dM(pos:Pos):∀{r:IA}{c:Cfg}{es:List Expr}{env:Env},okA r c es=true->(backTo pos (starEach es env)).any (·.1)=false
 |.nil,c,es,env,h=>by
  simp only[okA]at h;cases es with
  |nil=>rfl
  |cons _ _=>cases h
 |.cons a r,c,es,env,h=>by
  cases es with
  |nil=>simp[okA]at h
  |cons x xs=>
   simp only[okA,Jj]at h;rw[b8 h.1.1];show (false||(backTo pos (starEach xs env)).any (·.1))=false
   rw[dM pos h.2];rfl
theorem zO(h:PE X a t):PE X (.BoolOp op [a] pos) t:=AU h
theorem Cm(b:BI):((jX b:String):Str)∈biNames:=by
 cases b with
 |list fz=>cases fz<;>decide +kernel
 |_=>decide +kernel
theorem Cg(t:BT):((bV t:String):Str)∈biNames:=by cases t<;>decide +kernel
theorem zF{X:Cx}(hu:X.A.units+64<cLine)(hc:X.calm=true)(hd:AA X.K)(hg:Gl X (jX b:String))(hm:X.mg (jX b:String)=none)(ha:PA X (e::es) (dY X.K cls E2 tr))
  (he:starEach (e::es) X.env=(false,eval e X.env)::starEach es X.env) (Kt:(backTo pos (starEach es X.env)).any (·.1)=false):PE X (.Call (.Name (jX b:String) p) (e::es) [] pos) (low X.K cls E2 λZ M Q E=>tr Z M (λxs M1=>rBi b xs M1 Q) E):=by
 cases b with
 |len=>exact fh Cn hg hm (by decide +kernel) ha (by decide +kernel) (by decide +kernel) he Kt
 |abs=>exact fh Bb hg hm (by decide +kernel) ha (by decide +kernel) (by decide +kernel) he Kt
 |max=>exact fh (BF hc) hg hm (by decide +kernel) ha (by decide +kernel) (by decide +kernel) he Kt
 |min=>exact fh (BU hc) hg hm (by decide +kernel) ha (by decide +kernel) (by decide +kernel) he Kt
 |list fz=>exact sw (zg fz hc) hg hm (by cases fz<;>decide +kernel) ha (by cases fz<;>decide +kernel) (by cases fz<;>decide +kernel) he Kt
 |all=>exact fh (zV true hc) hg hm (by decide +kernel) ha (by decide +kernel) (by decide +kernel) he Kt
 |any=>exact fh (zV false hc) hg hm (by decide +kernel) ha (by decide +kernel) (by decide +kernel) he Kt
 |Nw=>exact sw zq hg hm (by decide +kernel) ha (by decide +kernel) (by decide +kernel) he Kt
theorem xN{X:Cx}{n_ pos:Pos}(hu:X.A.units+64<cLine)(ho:PE X o (low X.K cls E2 to))(ha:PA X (e::es) (dY X.K cls E2 tr))
  (hb:attributeBase o (jQ b:String) X.env (eval o X.env)=eval o X.env) (hn:(e::es).length<30) (hl:(n_.endLine == pos.line)=true) (he:starEach (e::es) X.env=(false,eval e X.env)::starEach es X.env) (Kt:(backTo pos (starEach es X.env)).any (·.1)=false) :
  PE X (.Call (.Attribute o (jQ b:String) n_) (e::es) [] pos) (low X.K cls E2 λZ M Q E=>to Z M (λx M1=>tyB b x M1=true/\tr Z M1 (λxs M2=>rBm b x xs M2 Q) E) E):=by
 cases b with
 |get=>exact Bj PySem.F.plainAttrs_dict PySem.F.slot_dict_get PySem.F.type_dict_get (wQ hu) rb ho ha hb hn hl he Kt
 |extend=>exact Bj PySem.F.plainAttrs_list PySem.F.slot_list_extend PySem.F.type_list_extend lD gU ho ha hb hn hl he Kt
 |remove=>exact Bj PySem.F.plainAttrs_list PySem.F.slot_list_remove PySem.F.type_list_remove (lN hu) gU ho ha hb hn hl he Kt
theorem wT{X:Cx}{n_ pos:Pos}(hu:X.A.units+64<cLine)(ho:PE X o (low X.K cls E2 to))
  (hb:attributeBase o (jQ b:String) X.env (eval o X.env)=eval o X.env) (hl:(n_.endLine == pos.line)=true) :
  PE X (.Call (.Attribute o (jQ b:String) n_) [] [] pos) (low X.K cls E2 λZ M Q E=>to Z M (λx M1=>tyB b x M1=true/\rBm b x [] M1 Q) E):=by
 cases b with
 |get=>exact vy PySem.F.plainAttrs_dict PySem.F.slot_dict_get PySem.F.type_dict_get (wQ hu) rb ho hb hl
 |extend=>exact vy PySem.F.plainAttrs_list PySem.F.slot_list_extend PySem.F.type_list_extend lD gU ho hb hl
 |remove=>exact vy PySem.F.plainAttrs_list PySem.F.slot_list_remove PySem.F.type_list_remove (lN hu) gU ho hb hl
theorem dL(h:okA (.cons a r) c es=true):∃x xs,es=x::xs/\fB x=true/\okE a c x=true/\okA r c xs=true:=by
 cases es with
 |nil=>simp[okA]at h
 |cons x xs=>
  simp only[okA,Jj]at h;exact⟨x,xs,rfl,h.1.1,h.1.2,h.2⟩
noncomputable def GG:IT->Bool
 |.and _ _=>true
 |.or _ _=>true
 |_=>false
section
variable {W:WC}
theorem sG:∀(tg:ITg) {c:Cfg}{e:Expr}{X:Cx}{E2:St->XK},okG c tg e=true->Good c W X E2->PG X e (qh X.K (wpG tg))
 |.name i,c,e,X,E2,h,G=>by
  simp only[okG]at h;split at h
  ·simp only[Jj]at h;obtain⟨l1,l2⟩:=G.loc h.2;exact AC G.ndX (G.at h.1) l1 l2
  ·cases h
 |.tup is,c,e,X,E2,h,G=>by
  simp only[okG]at h;split at h
  ·simp only[Jj]at h;exact zY (G.calm h.1) G.ndX G.fnx (G.names h.2)
  ·cases h
mutual
theorem sE:∀(ie:IE) {c:Cfg}{e:Expr}{X:Cx}{E2:St->XK},okE ie c e=true->Good c W X E2->PE X e (low X.K W.cls E2 (wpE W ie))
 |.var i,c,e,X,E2,h,G=>by
  unfold okE at h;split at h
  ·simp only[Jj,Bool.not_eq_true']at h;exact Dx (G.at h.1.1.1) (G.vis h.1.1.2) h.1.2 h.2
  ·cases h
 |.con d,c,e,X,E2,h,G=>by
  unfold okE at h;split at h
  ·split at h
   ·cases Ki h;exact nC By λ_=>rfl
   ·cases Ki h;exact nC Ey λ_=>rfl
   ·exact nC Cz λ_=>rfl
   ·cases Ki h;exact nC vC λ_=>rfl
   ·cases h
  ·cases h
 |.bin op a b,c,e,X,E2,h,G=>by
  unfold okE at h;split at h
  ·simp only[Jj,Ju]at h;obtain⟨⟨rfl,h1⟩,h2⟩:=h;exact Ek (AT op) (sE a h1 G) (sE b h2 G)
  ·cases h
 |.neg a,c,e,X,E2,h,G=>by
  unfold okE at h;split at h
  ·simp only[Jj,Ju]at h;obtain⟨rfl,h1⟩:=h;exact GX (ta:=wpE W a) (r:=rNeg) Bz (sE a h1 G)
  ·cases h
 |.cat fz a b,c,e,X,E2,h,G=>by
  unfold okE at h;split at h
  ·simp only[Jj,Ju]at h;obtain⟨⟨rfl,h1⟩,h2⟩:=h;exact Ew (sE a h1 G) (sE b h2 G)
  ·cases h
 |.cmp op a b,c,e,X,E2,h,G=>by
  unfold okE at h;split at h
  ·simp only[Jj,Ju]at h;obtain⟨⟨⟨rfl,h0⟩,h1⟩,h2⟩:=h;exact DG (iE G.un op) (sE a h1 G) (sE b h2 G) (jf h0)
  ·cases h
 |.chain op1 op2 a b d,c,e,X,E2,h,G=>by
  unfold okE at h;split at h
  ·simp only[Jj,Ju]at h;obtain⟨⟨⟨⟨⟨rfl,rfl⟩,h0⟩,h1⟩,h2⟩,h3⟩:=h;exact yN (iE G.un op1) (iE G.un op2) (sE a h1 G) (sE b h2 G) (sE d h3 G) (jf h0)
  ·cases h
 |.and a b,c,e,X,E2,h,G=>by
  unfold okE at h;split at h
  ·rename_i op x y r p;simp only[Jj,Ju]at h;obtain⟨⟨rfl,h1⟩,h2⟩:=h;cases r with
   |nil=>exact zK (sE a h1 G) (zO (sE b h2 G))
   |cons z r=>exact zK (sE a h1 G) (sE b h2 G)
  ·cases h
 |.or a b,c,e,X,E2,h,G=>by
  unfold okE at h;split at h
  ·rename_i op x y r p;simp only[Jj,Ju]at h;obtain⟨⟨rfl,h1⟩,h2⟩:=h;cases r with
   |nil=>exact Fe (sE a h1 G) (zO (sE b h2 G))
   |cons z r=>exact Fe (sE a h1 G) (sE b h2 G)
  ·cases h
 |.not a,c,e,X,E2,h,G=>by
  unfold okE at h;split at h
  ·simp only[Jj,Ju]at h;obtain⟨rfl,h1⟩:=h;exact Ep (sE a h1 G)
  ·cases h
 |.Oa t a b,c,e,X,E2,h,G=>by
  unfold okE at h;split at h
  ·simp only[Jj]at h;exact G8 (sT t h.1.1 G).1 (sE a h.1.2 G) (sE b h.2 G)
  ·cases h
 |.tup es,c,e,X,E2,h,G=>by
  unfold okE at h;split at h
  ·exact DZ (sA es h G)
  ·cases h
 |.lst fz es,c,e,X,E2,h,G=>by
  unfold okE at h;split at h
  ·exact E4 (sA es h G)
  ·cases h
 |.t_ a,c,e,X,E2,h,G=>by
  unfold okE at h;exact Es (sE a h G)
 |.ix a b,c,e,X,E2,h,G=>by
  unfold okE at h;split at h
  ·simp only[Jj]at h;exact G9 G.un (sE a h.1.2 G) (sE b h.2 G) (yq h.1.1)
  ·cases h
 |.sl fz a lo hi,c,e,X,E2,h,G=>by
  unfold okE at h;split at h
  ·simp only[Jj]at h;exact Hf (sE a h.1.1 G) (sO lo h.1.2 G) (sO hi h.2 G)
  ·cases h
 |.call f es,c,e,X,E2,h,G=>by
  unfold okE at h;split at h
  ·rename_i x px args pos;simp only[Jj,Bool.not_eq_true']at h;obtain⟨⟨⟨⟨h0,h1⟩,h2⟩,h3⟩,h4⟩:=h;split at h1
   ·rename_i p hp;simp only[Jj,Ju]at h1;obtain⟨h1,_⟩:=h1;obtain⟨p1,p2⟩:=p;cases h1;obtain⟨k,hr,hF⟩:=G.fns h0;obtain⟨fd,ps,Tt,m2,m3,m5⟩:=hF f (JQ.mp hp).1;have m1:=G.fnn f x p2 hp;have m4:=hr.mono (Kn k);have hA:=sA es h4 G;cases args with
    |nil=>
     cases es with
     |nil=>exact yQ m5 m4 (G.gl h2) m1 m2 m3 G.pass h3
     |cons _ _=>simp[okA]at h4
    |cons z zs=>
     cases es with
     |nil=>simp[okA]at h4
     |cons ea er=>
      obtain⟨_,_,e1,n1,_,n3⟩:=dL h4;cases e1;exact B6 m5 m4 (G.gl h2) m1 m2 m3 G.pass hA h3 (b8 n1) (dM _ n3)
   ·cases h1
  ·cases h
 |.bi b es,c,e,X,E2,h,G=>by
  unfold okE at h;split at h
  ·rename_i x px args pos;simp only[Jj,Ju]at h;obtain⟨⟨⟨⟨h0,rfl⟩,h2⟩,h3⟩,h4⟩:=h;have hA:=sA es h4 G;cases args with
   |nil=>cases h3
   |cons z zs=>
    cases es with
    |nil=>simp[okA]at h4
    |cons ea er=>
     obtain⟨_,_,e1,n1,_,n3⟩:=dL h4;cases e1;exact zF G.un (G.calm h0) G.dig (G.gl h2) (G.bi _ (Cm b)) hA (b8 n1) (dM _ n3)
  ·cases h
 |.L0 a t,c,e,X,E2,h,G=>by
  unfold okE at h;split at h
  ·simp only[Jj,Ju]at h;obtain⟨⟨⟨⟨⟨rfl,rfl⟩,h2⟩,h3⟩,h4⟩,h5⟩:=h;exact EL (sE a h5 G) (G.gl h2) (G.bi _ (by decide +kernel)) (G.gl h3) (G.bi _ (Cg t)) (b8 h4)
  ·cases h
 |.LQ a b,c,e,X,E2,h,G=>by
  unfold okE at h;split at h
  ·simp only[Jj]at h;exact BE G.un (sE a h.1 G) (sE b h.2 G)
  ·cases h
 |.comp fz N js tg it cond I_,c,e,X,E2,h,G=>by
  unfold okE at h;split at h
  ·simp only[Jj,Ju]at h;obtain⟨⟨⟨⟨⟨⟨⟨⟨h0,rfl⟩,ht⟩,h1⟩,h2⟩,h3⟩,h4⟩,h5⟩,h6⟩:=h;have j_:=h2;rw[<-G.sc,<-G.N]at j_;exact Cl j_ (G.calm h0) (sI it h3 G ht) (λC s2 H2 fp pn=>sG tg h4 (G.comp h2 C s2 H2 fp pn)) (λC s2 H2 fp pn=>sTO cond h5 (G.comp h2 C s2 H2 fp pn)) (λC s2 H2 fp pn=>sE I_ h6 (G.comp h2 C s2 H2 fp pn)) (wo h1) fz
  ·cases h
 |.Ob a,c,e,X,E2,h,G=>by
  unfold okE at h;split at h
  ·simp only[Jj,Ju]at h;obtain⟨⟨⟨⟨h0,rfl⟩,h1⟩,h2⟩,h3⟩:=h;exact EW (G.calm h0) G.un (sE a h3 G) (G.gl h1) (G.bi _ (by decide +kernel)) (b8 h2)
  ·cases h
 |.fld a f,c,e,X,E2,h,G=>by
  unfold okE at h;split at h
  ·simp only[Jj,Ju]at h;obtain⟨⟨rfl,h1⟩,h2⟩:=h;exact Ez G.kok (sE a h2 G) (dj h1)
  ·cases h
 |.make fz i es,c,e,X,E2,h,G=>by
  unfold okE at h;split at h
  ·rename_i x px args pos;simp only[Jj,Bool.not_eq_true']at h;obtain⟨⟨⟨⟨h0,h1⟩,h2⟩,h3⟩,h4⟩:=h;obtain⟨m1,hi⟩:=G.knm i x (JJ.mp h1);obtain⟨k,hr,hF⟩:=G.fns h0;have hA:=sA es h4 G;cases q:W.ini i with
   |none=>exact absurd q (by obtain⟨f,hf⟩:=G.kin i hi;rw[hf];exact λz=>nomatch z)
   |some f=>
    have F:=hF f (G.kfi i f hi q);cases args with
    |nil=>
     cases es with
     |nil=>exact (xL (B:=W.toWB) (fz:=fz) (G.gl h2) m1 h3 ((G.kok i hi).mkr f q) F hr G.pass).imp λZ H Q2 k_=>ex9 k_ λh_ M Q E3 rm ds lk hh c_=>⟨h_,M,Q,E3,rm,ds,lk,by simp only[wpE,wpA,q,ft]at hh;exact hh.2,c_⟩
     |cons _ _=>simp[okA]at h4
    |cons z zs=>
     cases es with
     |nil=>simp[okA]at h4
     |cons ea er=>
      obtain⟨_,_,e1,n1,_,n3⟩:=dL h4;cases e1;have Qd:PA X (z::zs) (dY X.K W.cls E2 λZ M Q E=>wpA W (.cons ea er) Z M (λxs M1=>i<W.nk/\Q xs M1) E):=hA.imp λZ H Q2 k_=>ex9 k_ λh_ M Q E3 rm ds lk hh c_=>⟨h_,M,_,E3,rm,ds,lk,hh,λvs H' xs M' a b c d=>c_ vs H' xs M' a b c d.2⟩
      exact (Co (B:=W.toWB) (fz:=fz) (G.gl h2) m1 h3 ((G.kok i hi).mkr f q) F hr G.pass Qd (b8 n1) (dM _ n3)).imp λZ H Q2 k_=>ex9 k_ λh_ M Q E3 rm ds lk hh c_=>⟨h_,M,Q,E3,rm,ds,lk,by simp only[wpE,q,ft]at hh;exact hh,c_⟩
  ·cases h
 |.y_ a m es,c,e,X,E2,h,G=>by
  unfold okE at h;split at h
  ·rename_i x n ap args cp;simp only[Jj,Ju]at h;obtain⟨⟨⟨⟨⟨⟨h0,rfl⟩,h1⟩,h2⟩,h3⟩,h4⟩,h5⟩:=h;obtain⟨k,hr,hF⟩:=G.fns h0;have hA:=sA es h5 G;cases args with
   |nil=>
    cases es with
    |nil=>exact yT (B:=W.toWB) G.kok (λi m f hi q=>hF f (G.kfm i m f hi q)) (hr.mono (Kn k)) G.pass (sE a h4 G) (dj h1) h2
    |cons _ _=>simp[okA]at h5
   |cons z zs=>
    cases es with
    |nil=>simp[okA]at h5
    |cons ea er=>
     obtain⟨_,_,e1,n1,_,n3⟩:=dL h5;cases e1;exact AZ (B:=W.toWB) G.kok (λi m f hi q=>hF f (G.kfm i m f hi q)) (hr.mono (Kn k)) G.pass (sE a h4 G) hA (dj h1) h2 h3 (b8 n1) (dM _ n3)
  ·cases h
 |.ini i es,c,e,X,E2,h,G=>by
  unfold okE at h;split at h
  ·rename_i x px n ap args cp;simp only[Jj,Ju,Bool.not_eq_true']at h;obtain⟨⟨⟨⟨⟨⟨⟨⟨h0,rfl⟩,h1⟩,h2⟩,h3⟩,h4⟩,h5⟩,h6⟩,h7⟩:=h;obtain⟨m1,hi⟩:=G.knm i x (JJ.mp h1);obtain⟨k,hr,hF⟩:=G.fns h0;have hA:=sA es h7 G;cases args with
   |nil=>cases h6
   |cons z zs=>
    cases es with
    |nil=>simp[okA]at h7
    |cons ea er=>
     obtain⟨_,_,e1,n1,_,n3⟩:=dL h7;cases e1;cases q:W.ini i with
     |none=>exact absurd q (by obtain⟨f,hf⟩:=G.kin i hi;rw[hf];exact λz=>nomatch z)
     |some f=>
      have Qd:PA X (z::zs) (dY X.K W.cls E2 λZ M Q E=>wpA W (.cons ea er) Z M (λxs M1=>i<W.nk/\Q xs M1) E):=hA.imp λZ H Q2 k_=>ex9 k_ λh_ M Q E3 rm ds lk hh c_=>⟨h_,M,_,E3,rm,ds,lk,hh,λvs H' xs M' a b c d=>c_ vs H' xs M' a b c d.2⟩
      exact (D9 (B:=W.toWB) (G.gl h2) m1 h3 ((G.kok i hi).ci f q) (hF f (G.kfi i f hi q)) (hr.mono (Kn k)) G.pass Qd h4 h5 (b8 n1) (dM _ n3)).imp λZ H Q2 k_=>ex9 k_ λh_ M Q E3 rm ds lk hh c_=>⟨h_,M,Q,E3,rm,ds,lk,by simp only[wpE,q,ft]at hh;exact hh,c_⟩
  ·cases h
 |.glo k,c,e,X,E2,h,G=>by
  unfold okE at h;split at h
  ·rename_i x px;simp only[Jj,Bool.not_eq_true']at h;obtain⟨u,v,m1,r,hd⟩:=G.glo k x (JJ.mp h.1.1);exact Dk (G.gl h.1.2) m1 r h.2 hd
  ·cases h
 |.bm b o es,c,e,X,E2,h,G=>by
  unfold okE at h;split at h
  ·rename_i x n ap args cp;simp only[Jj,Ju]at h;obtain⟨⟨⟨⟨⟨⟨h0,rfl⟩,h1⟩,h2⟩,h3⟩,h4⟩,h5⟩:=h;have hA:=sA es h5 G;cases args with
   |nil=>
    cases es with
    |nil=>exact wT G.un (sE o h4 G) (dj h1) h2
    |cons _ _=>simp[okA]at h5
   |cons z zs=>
    cases es with
    |nil=>simp[okA]at h5
    |cons ea er=>
     obtain⟨_,_,e1,n1,_,n3⟩:=dL h5;cases e1;exact xN G.un (sE o h4 G) hA (dj h1) h3 h2 (b8 n1) (dM _ n3)
  ·cases h
 |.KO tk,c,e,X,E2,h,G=>by
  unfold okE at h;split at h
  ·exact Ba tk
  ·cases h
theorem sT:∀(it:IT) {c:Cfg}{e:Expr}{X:Cx}{E2:St->XK},okT it c e=true->Good c W X E2->PT X e (cq X.K W.cls E2 (wpT W it))/\(GG it=true->PW X e (cq X.K W.cls E2 (wpT W it)))
 |.val a,c,e,X,E2,h,G=>by
  unfold okT at h;simp only[Jj]at h;exact⟨Eu (sE a h.2 G) (tW h.1),λz=>nomatch z⟩
 |.cmp op a b,c,e,X,E2,h,G=>by
  unfold okT at h;split at h
  ·simp only[Jj,Ju]at h;obtain⟨⟨⟨rfl,h0⟩,h1⟩,h2⟩:=h;exact⟨D1 (iE G.un op) (sE a h1 G) (sE b h2 G) (jf h0),λz=>nomatch z⟩
  ·cases h
 |.chain op1 op2 a b d,c,e,X,E2,h,G=>by
  unfold okT at h;split at h
  ·simp only[Jj,Ju]at h;obtain⟨⟨⟨⟨⟨rfl,rfl⟩,h0⟩,h1⟩,h2⟩,h3⟩:=h;exact⟨yJ (iE G.un op1) (iE G.un op2) (sE a h1 G) (sE b h2 G) (sE d h3 G) (jf h0),λz=>nomatch z⟩
  ·cases h
 |.and a b,c,e,X,E2,h,G=>by
  unfold okT at h;split at h
  ·rename_i op x y r p;simp only[Jj,Ju]at h;obtain⟨⟨rfl,h1⟩,h2⟩:=h;have hA:=(sT a h1 G).1;cases r with
   |nil=>exact⟨(sD hA (rB (sT b h2 G).1)).pt,λ_=>sD hA (rB (sT b h2 G).1)⟩
   |cons z r=>
    have hB:=(sT b h2 G).2;cases b with
    |and b1 b2=>exact⟨(sD hA (hB rfl)).pt,λ_=>sD hA (hB rfl)⟩
    |val b1=>simp[okT,sk]at h2
    |_=>simp[okT]at h2
  ·cases h
 |.or a b,c,e,X,E2,h,G=>by
  unfold okT at h;split at h
  ·rename_i op x y r p;simp only[Jj,Ju]at h;obtain⟨⟨rfl,h1⟩,h2⟩:=h;have hA:=(sT a h1 G).1;cases r with
   |nil=>exact⟨(xT hA (vE (sT b h2 G).1)).pt,λ_=>xT hA (vE (sT b h2 G).1)⟩
   |cons z r=>
    have hB:=(sT b h2 G).2;cases b with
    |or b1 b2=>exact⟨(xT hA (hB rfl)).pt,λ_=>xT hA (hB rfl)⟩
    |val b1=>simp[okT,sk]at h2
    |_=>simp[okT]at h2
  ·cases h
 |.not a,c,e,X,E2,h,G=>by
  unfold okT at h;split at h
  ·simp only[Jj,Ju]at h;obtain⟨rfl,h1⟩:=h;exact⟨Fa (sT a h1 G).1,λz=>nomatch z⟩
  ·cases h
theorem sA:∀(ia:IA) {c:Cfg}{es:List Expr}{X:Cx}{E2:St->XK},okA ia c es=true->Good c W X E2->PA X es (dY X.K W.cls E2 (wpA W ia))
 |.nil,c,es,X,E2,h,G=>by
  simp only[okA]at h;cases es with
  |nil=>exact Ei
  |cons _ _=>cases h
 |.cons a r,c,es,X,E2,h,G=>by
  obtain⟨x,xs,rfl,h1,h2,h3⟩:=dL h;exact Bt (sE a h2 G) (sA r h3 G) (b8 h1)
theorem sO:∀(io:IO) {c:Cfg}{o:Option Expr}{X:Cx}{E2:St->XK},okO io c o=true->Good c W X E2->PO X o (ud X.K W.cls E2 (wpO W io))
 |.no,c,o,X,E2,h,G=>by
  simp only[okO]at h;cases o with
  |none=>exact GM
  |some _=>cases h
 |.yes a,c,o,X,E2,h,G=>by
  cases o with
  |none=>simp[okO]at h
  |some x=>
   simp only[okO]at h;exact Dv (sE a h G)
theorem sTO:∀(io:ITO) {c:Cfg}{es:List Expr}{X:Cx}{E2:St->XK},xB io c es=true->Good c W X E2->PIf X es (cq X.K W.cls E2 (pf W io))
 |.no,c,es,X,E2,h,G=>by
  simp only[xB]at h;cases es with
  |nil=>exact λa_ s Z H Q2 I ⟨h_,M,Q,E3,rm,ds,lk,h,c_⟩=>xG a_ s Z H Q2 I (c_ _ _ _ rm (.refl _) h)
  |cons _ _=>cases h
 |.yes t,c,es,X,E2,h,G=>by
  unfold xB at h;split at h
  ·exact yn (sT t h G).1
  ·cases h
theorem sI:∀(ii:II) {c:Cfg}{e:Expr}{X:Cx}{E2:St->XK}{tg:Expr},okI ii c e=true->Good c W X E2->t7 ii tg=true->PI X tg e (lq X.K W.cls E2 (wpI W ii))
 |.seq a,c,e,X,E2,tg,h,G,_=>by
  unfold okI at h;exact Ee (sE a h G)
 |.enum a,c,e,X,E2,tg,h,G,ht=>by
  unfold okI at h;split at h
  ·simp only[Jj,Ju]at h;obtain⟨⟨⟨rfl,h1⟩,h2⟩,h3⟩:=h;have hA:=sE a h3 G;cases tg<;>first
    |exact BV (G.gl h1) (G.bi _ (by decide +kernel)) hA (b8 h2)
    |(simp[t7]at ht)
  ·cases h
 |.zip a b,c,e,X,E2,tg,h,G,ht=>by
  unfold okI at h;split at h
  ·simp only[Jj,Ju]at h;obtain⟨⟨⟨⟨⟨rfl,h1⟩,h2⟩,h3⟩,h4⟩,h5⟩:=h;have hA:=sE a h4 G;have hB:=sE b h5 G;cases tg<;>first
    |exact E9 (G.gl h1) (G.bi _ (by decide +kernel)) hA hB (by rw[b8 h2,b8 h3];rfl) (b8 h3)
    |(simp[t7]at ht)
  ·cases h
 |.items a,c,e,X,E2,tg,h,G,ht=>by
  unfold okI at h;split at h
  ·simp only[Jj,Ju]at h;obtain⟨⟨⟨rfl,h1⟩,h2⟩,h3⟩:=h;have hA:=sE a h3 G;cases tg<;>first
    |exact yf hA (dj h1) h2
    |(simp[t7]at ht)
  ·cases h
 |.dk a,c,e,X,E2,tg,h,G,_=>by
  unfold okI at h;exact Gj (sE a h G)
 |.LJ a,c,e,X,E2,tg,h,G,_=>by
  unfold okI at h;split at h
  ·simp only[Jj,Ju]at h;obtain⟨⟨⟨rfl,h1⟩,h2⟩,h3⟩:=h;exact GO (G.gl h1) (G.bi _ (by decide +kernel)) (sE a h3 G) (b8 h2)
  ·cases h
end
end
theorem vB{X:Cx}(G:Good c W X E2){pos px spos:Pos}(h:swB c scope x px.line pos.line=true) :
  swapsWith (.ListComp el gs scope pos) (some (.Name x px)) spos.line X.env=pure true:=by
 unfold swB at h;simp only[Jj]at h;have h1:X.env.scope.kind=.function:=by rw[G.sc];exact JJ.mp h.1.1.1
 have h2:X.env.kindOf x=some .local:=by show X.env.scope.names.lookup x=_;rw[G.sc];exact JJ.mp h.1.1.2
 have hb:(X.env.blockKind == .function)=true:=by
  unfold Env.blockKind;rw[h1];rfl
 show (pure (X.env.blockKind == .function&&X.env.kindOf x == some .local&&px.line == pos.line&&!(scope.names.any λ(n,k)=>n == x&&(k == .local||k == .cell))):Sem Bool)=pure true
 rw[hb,h2,h.1.2,h.2];rfl
theorem Ce{c:Cfg}{X:Cx}(G:Good c W X E2){spos:Pos}(h:(c.sc.names.lookup x == some .cell)=true) :
  swapsWith (.ListComp el gs scope pos) (some (.Name x px)) spos.line X.env=pure false:=by
 have h2:X.env.kindOf x=some .cell:=by show X.env.scope.names.lookup x=_;rw[G.sc];exact JJ.mp h
 show (pure (X.env.blockKind == .function&&X.env.kindOf x == some .local&&px.line == pos.line&&!(scope.names.any λ(n,k)=>n == x&&(k == .local||k == .cell))):Sem Bool)=pure false
 rw[h2,show ((some NameKind.cell:Option NameKind) == some .local)=false from rfl,Bool.and_false];rfl
theorem yH{c:Cfg}(h:swB c scope x a b=true):c.sc.names.lookup x=some .local:=by
 unfold swB at h;simp only[Jj,JJ]at h;exact h.1.1.2
section
variable {W:WC}
theorem uD{fz:Bool}{N:List Str}{js:List (Option Nat)}{tg:ITg}{it:II}{cond:ITO}{I_:IE}{c:Cfg}{X:Cx}{E2:St->XK}{i:Nat}{x:Str}{px spos pos:Pos}{el:Expr}{gs:List Comprehension}{scope:Scope}
  (h:okE (.comp fz N js tg it cond I_) c (.ListComp el gs scope pos)=true) (hi:(c.N[i]? == some x)=true) (M8:swB c scope x px.line pos.line=true) (G:Good c W X E2) :
  PS X (.Assign [.Name x px] (.ListComp el gs scope pos) spos) (bH X.K W.cls E2 (wpS W (.set i (.comp fz N js tg it cond I_)))):=by
 have sp:=vB (spos:=spos) (el:=el) (gs:=gs) G M8;unfold okE at h;split at h
 ·rename_i Tu NF iter ifs as Qe Kx OI;cases OI;simp only[Jj,Ju]at h;obtain⟨⟨⟨⟨⟨⟨⟨⟨h0,rfl⟩,ht⟩,h1⟩,h2⟩,h3⟩,h4⟩,h5⟩,h6⟩:=h;have j_:=h2;rw[<-G.sc,<-G.N]at j_;exact qx j_ (G.calm h0) (sI it h3 G ht) (λC s2 H2 fp pn=>sG tg h4 (G.comp h2 C s2 H2 fp pn)) (λC s2 H2 fp pn=>sTO cond h5 (G.comp h2 C s2 H2 fp pn)) (λC s2 H2 fp pn=>sE I_ h6 (G.comp h2 C s2 H2 fp pn)) (wo h1) G.ndX (G.at hi) (by rw[G.sc];exact yH M8) sp fz
 ·cases h
mutual
theorem sS:∀(is:IS) {c:Cfg}{s:Stmt}{X:Cx}{E2:St->XK},okS is c s=true->Good c W X E2->PS X s (bH X.K W.cls E2 (wpS W is))
 |.set i a,c,s,X,E2,h,G=>by
  unfold okS at h;split at h
  ·simp only[Jj,Bool.or_eq_true]at h;obtain⟨⟨⟨h1,h2⟩,h3⟩,h4⟩:=h;obtain⟨l1,l2⟩:=G.loc h2;rcases h4 with h4|h4
   ·exact Ai G.ndX (G.at h1) l1 (sE a h3 G) (jT h4) l2
   ·split at h4
    ·rcases Bool.or_eq_true_iff.mp h4 with h4|h4
     ·exact uD h3 h1 h4 G
     ·exact Ai G.ndX (G.at h1) l1 (sE _ h3 G) (Ce G h4) l2
    ·cases h4
  ·cases h
 |.Nx is a,c,s,X,E2,h,G=>by
  unfold okS at h;split at h
  ·simp only[Jj]at h;obtain⟨⟨⟨⟨h1,h2⟩,h3⟩,h4⟩,h5⟩:=h;exact Do (G.calm h1) G.ndX G.fnx (G.names h2) (sE a h5 G) (by unfold swapsWithSole;exact jT h4) (xc h3)
  ·cases h
 |.expr a,c,s,X,E2,h,G=>by
  unfold okS at h;split at h
  ·simp only[Jj]at h;exact Bo (sE a h.2 G) (jT h.1)
  ·cases h
 |.ret a,c,s,X,E2,h,G=>by
  unfold okS at h;split at h
  ·exact ED (sE a h G)
  ·cases h
 |.LR,c,s,X,E2,h,G=>by
  unfold okS at h;split at h
  ·exact Ap
  ·cases h
 |.dead,c,s,X,E2,h,G=>AO
 |.ifs t a b,c,s,X,E2,h,G=>by
  unfold okS at h;split at h
  ·simp only[Jj]at h;exact Gg (sT t h.1.1 G).1 (sSs a h.1.2 G) (sSs b h.2 G)
  ·cases h
 |.C_ tg it body,c,s,X,E2,h,G=>by
  unfold okS at h;split at h
  ·simp only[Jj]at h;obtain⟨⟨⟨⟨⟨⟨h1,ht⟩,h2⟩,h3⟩,h4⟩,h5⟩,h6⟩:=h;exact EY (G.own h1).1 (G.calm h2) (sI it h5 G ht) (sG tg h4 G) (sSs body h6 G) (wo h3)
  ·cases h
 |.LS tg o body,c,s,X,E2,h,G=>by
  unfold okS at h;split at h
  ·simp only[Jj,Ju]at h;obtain⟨⟨⟨⟨⟨⟨⟨h1,h2⟩,rfl⟩,h3⟩,h4⟩,h5⟩,h6⟩,h7⟩:=h;exact Bx (G.own h1).1 (G.calm h2) (sE o h6 G) (dj h3) h4 (sG tg h5 G) (sSs body h7 G) (λ_=>rfl)
  ·cases h
 |.Oc t body,c,s,X,E2,h,G=>by
  unfold okS at h;split at h
  ·simp only[Jj]at h;exact zB (G.own h.1.1).1 (sT t h.1.2 G).1 (sSs body h.2 G)
  ·cases h
 |.app o a,c,s,X,E2,h,G=>by
  unfold okS at h;split at h
  ·simp only[Jj,Ju]at h;obtain⟨⟨⟨⟨⟨rfl,h1⟩,h2⟩,h3⟩,h4⟩,h5⟩:=h;exact DW (sE o h4 G) (sE a h5 G) (Al h1) h2 (b8 h3)
  ·cases h
 |.del i,c,s,X,E2,h,G=>by
  unfold okS at h;cases h
 |.KY o f a,c,s,X,E2,h,G=>by
  unfold okS at h;split at h
  ·simp only[Jj,Ju]at h;obtain⟨⟨⟨rfl,h1⟩,h2⟩,h3⟩:=h;exact Bu (B:=W.toWB) G.kok (sE o h2 G) (sE a h3 G) (jT h1)
  ·cases h
 |.A_ o i a,c,s,X,E2,h,G=>by
  unfold okS at h;split at h
  ·simp only[Jj]at h;obtain⟨⟨⟨⟨h0,h1⟩,h2⟩,h3⟩,h4⟩:=h;exact xW G.un (sE o h2 G) (sE i h3 G) (sE a h4 G) (Ck h0) (by unfold swapsWithSole;exact jT h1) (by rfl) (by rfl)
  ·cases h
theorem sSs:∀(is:ISs) {c:Cfg}{L1:List Stmt}{X:Cx}{E2:St->XK},kA is c L1=true->Good c W X E2->PSs X L1 (bH X.K W.cls E2 (aR W is))
 |.nil,c,L1,X,E2,h,G=>by
  simp only[kA]at h;cases L1 with
  |nil=>exact DC
  |cons _ _=>cases h
 |.cons s r,c,L1,X,E2,h,G=>by
  unfold kA at h;split at h
  ·exact EV (sSs r h G)
  ·split at h
   ·simp only[Jj]at h;exact AS (t:=wpS W s) (u:=aR W r) (sS s h.1 G) (sSs r h.2 G)
   ·cases h
end
end
theorem cu:∀{l:List (Nat×Nat)}{m f:Nat},l.lookup m=some f->(m,f)∈l
 |[],_,_,h=>by cases h
 |(a,b)::r,m,f,h=>by
  rw[JX]at h;by_cases e:m=a
  ·subst e;simp at h;subst h;exact Jo
  ·have:(m == a)=false:=by simpa using e
   rw[this]at h;exact Jk _ (cu h)
theorem ixc{α:Type}{P:Nat->α->Prop}{a:α}{r:List α}(h0:P 0 a)(hr:∀i x,r[i]?=some x->P (i+1) x):∀i x,(a::r)[i]?=some x->P i x
 |0,x,h=>by cases h;exact h0
 |i+1,x,h=>hr i x h
theorem ixn{α:Type}{P:Nat->α->Prop}:∀i x,([]:List α)[i]?=some x->P i x:=λi x h=>by simp at h
theorem us0{P:List Value->Prop}(h:P []):∀us:List Value,us.length=0->P us:=λus e=>(List.eq_nil_of_length_eq_zero e)▸h
theorem usS{n:Nat}{P:List Value->Prop}(h:∀a,∀us:List Value,us.length=n->P (a::us)):∀us:List Value,us.length=n+1->P us:=λus e=>by
 cases us with
 |nil=>cases e
 |cons a r=>exact h a r (Nat.succ.inj e)
structure FB where
 np:Nat
 nl:Nat
 cl:Bool
 body:ISs
 df:List Int:=[]
noncomputable def FB.full(fb:FB)(ds:List D):List D:=ds++(fb.df.drop (ds.length+fb.df.length-fb.np)).map D.int
noncomputable def qj(nl:Nat)(ds:List D):St3:=ds.map some++List.replicate (nl-ds.length) none
def aa(T:List FB)(B:WB):Nat->Nat->List D->MH->VK3->XN->Prop
 |0,_,_,_,_,_=>False
 |n+1,f,ds,M,Q,E=>match T[f]? with
  |none=>False
  |some fb=>(fb.full ds).length=fb.np/\aR {toWB:=B,call:=aa T B n} fb.body {nx:=λ_ M'=>Q .i_ (kp fb.cl M M'),rt:=λv M'=>Q v (kp fb.cl M M')} (λ_ i M'=>E i (av M M')) (qj fb.nl (fb.full ds)) M
structure FL where
 name:Str
 qual:Str
 glob:Bool
 cl:Bool
 st:Stmt
 N:List Str
 ps:List Str
 body:ISs
 gn:Str:=name
 df:List Int:=[]
noncomputable def nc(N ps:List Str)(sc:Scope):Bool:=(sc.kind == .function)&&!sc.isCoroutine&&!sc.isGenerator&&decide N.Nodup&&(N.take ps.length == ps)&&
 ps.all (λx=>sc.names.lookup x == some .local||sc.names.lookup x == some .cell)&&sc.names.all (λy=>y.2 != .free)
theorem lC(h:nc N ps sc=true):FnScope N ps sc:=by
 unfold nc at h;simp only[Jj,Bool.not_eq_true',JJ,Ju,JD,Bool.or_eq_true,bne_iff_ne]at h;obtain⟨⟨⟨⟨⟨⟨h1,h2⟩,h3⟩,h4⟩,h5⟩,h6⟩,h7⟩:=h;exact⟨h1,h2,h3,h4,h5,h6,h7⟩
structure NM where
 exc:List Str
 kln:List Str
 gln:List Str
 xin:List (Nat×Nat)
noncomputable def FL.cfg(l:FL)(fns:List (Option Str×Nat))(n:NM):Cfg:={N:=l.N,sc:=ay l.st,fns:=fns,exc:=n.exc,kln:=n.kln,gln:=n.gln,xin:=n.xin,calm:=true,own:=true,tr:=true,fn:=true}
noncomputable def FL.fb(l:FL):FB:=⟨l.ps.length,l.N.length,l.cl,l.body,l.df⟩
noncomputable def FL.ok(l:FL)(fns:List (Option Str×Nat))(n:NM):Bool:=nc l.N l.ps (ay l.st)&&kA l.body (l.cfg fns n) (aV l.st)
noncomputable def fv(L:List FL):List (Option Str×Nat):=L.map λl=>(if l.glob=true then some l.gn else none,l.ps.length)
structure FunD (K:Ks)(x qual:Str)(st:Stmt)(f:Addr)(fd:FuncData):Prop where
 ex:∃(oc:Value) (od:Option Addr) (dV kV doc pm:Value) (an:Option Addr) (Kw ct:Value) (Ll:Array (Option Value)),
  fd=PySem.W.fnOf x qual (bG st) (aV st) (ay st) dV kV doc pm an Kw ct/\K.lookup f=some ⟨oc,od,.func fd,Ll⟩/\PySem.W.codeIn K Kw qual=true
 kp:PySem.W.keepIn K (.ref f)=true
structure Top (K:Ks)(mg:Str->Option Value)(L:List FL)(n:NM)(B:WB):Prop where
 ok:∀l∈L,l.ok (fv L) n=true
 fn:∀f l,L[f]?=some l->∃fd,FunD K l.name l.qual l.st (B.d_ f) fd/\(l.glob=true->mg l.gn=some (.ref (B.d_ f)))/\(l.df=[]->∀us:List Value,us.length=l.ps.length->bindArgs fd ⟨us,[]⟩=pure (l.ps.zip us))/\∃dv,Vals (l.df.map V.int) dv/\∀j,Binds K fd l.ps (dv.drop j)
 exi:∀i,i<B.ne->ExcI K (B.cls i)/\PySem.W.kitOne K (.ref (B.cls i)) (.type "ValueError")=some true/\∀j x,n.exc[j]?=some x->PySem.W.kitOne K (.ref (B.cls i)) (.ref (B.cls j))=some (B.sub i j)
 exc:∀i x,n.exc[i]?=some x->mg x=some (.ref (B.cls i))/\(n.xin.lookup i=none->Dr K (B.cls i))/\∀j,j<B.ne->PySem.W.exmOne K (.ref (B.cls j)) (.ref (B.cls i))=some (B.sub j i)
 kok:∀i,i<B.nk->KOk K B B.d_ i
 kin:∀i,i<B.nk->∃f,B.ini i=some f
 kfi:∀i f,i<B.nk->B.ini i=some f->f<L.length
 kfm:∀i m f,i<B.nk->B.mth i m=some f->f<L.length
 knm:∀i x,n.kln[i]?=some x->mg x=some (.ref (B.b_ i))/\i<B.nk
 glo:∀k x,n.gln[k]?=some x->∃u v,mg x=some u/\RelV v u/\∀H,Den K H (B.glo k) v
 bi:∀x∈biNames,mg x=none
 dig:AA K
 xi:∀i f,n.xin.lookup i=some f->B.xin i=some f/\∃fI fd ps,XIni K (B.cls i) fI (fnm f)/\Binds K fd ps []/\∀(P:Program)(w:World)(base:Heap),FnOk P w K mg base (CX1 P w) 1 fI fd ps (pK (cpF f) K (B.cls i) (fnm f))
 xn:∀i f,i<B.ne->B.xin i=some f->NoAttr K (B.cls i) (fnm f)
section
variable {w:World}{K:Ks}{L:List FL}{B:WB}
noncomputable def spF(K:Ks)(cls:Nat->Addr)(l:FL)(t3:List D->MH->VK3->XN->Prop):Sp:=λvs H Q E=>vs.length=l.ps.length/\spX K cls t3 vs H Q E
theorem FB.full_at{fb:FB}{ds:List D}(h:ds.length=fb.np):fb.full ds=ds:=by
 unfold FB.full;rw[List.drop_of_length_le (by omega),List.map_nil,J0]
theorem l9:∀{vs:List V}{us:List Value} (j:Nat),Vals vs us->Vals (vs.drop j) (us.drop j)
 |_,_,0,h=>h
 |_,_,_+1,.nil=>.nil
 |_,_,j+1,.cons _ h=>l9 j h
theorem D5{l:FL}(hl:L[f]?=some l){dv:List Value}(hv:Vals (l.df.map V.int) dv)(hb:∀j,Binds K fd l.ps (dv.drop j)):BdT K B.cls fd l.ps (aa (L.map FL.fb) B n f) (spF K B.cls l (aa (L.map FL.fb) B n f)):=by
 rintro vs H Q E ⟨ds,M,Q3,E3,dl,rm,h,c_,lk⟩;cases n with
 |zero=>exact h.elim
 |succ n=>
  have hT:(L.map FL.fb)[f]?=some l.fb:=by rw[Jz,hl];rfl
  have h0:=h;simp only[aa,hT]at h0;have e:=h0.1;have E_:=dl.length;refine⟨(l.df.map V.int).drop (ds.length+l.df.length-l.ps.length),dv.drop (ds.length+l.df.length-l.ps.length),l9 _ hv,hb _,?_,?_⟩
  ·have e2:(l.fb.full ds).length=l.ps.length:=e;unfold FB.full at e2;rw[JR,Jv]at e2;rw[JR,List.length_drop,Jv,<-E_];rw[List.length_drop]at e2;exact e2
  ·refine⟨l.fb.full ds,M,Q3,E3,?_,rm,?_,c_,lk⟩
   ·unfold FB.full;rw[<-List.map_drop];exact dl.append DenL.of_int
   ·simp only[aa,hT];rw[FB.full_at e];exact h0
theorem uM(T:Top K mg L nm B):∀(n f:Nat)(l:FL),L[f]?=some l->∀(fd:FuncData),FunD K l.name l.qual l.st (B.d_ f) fd->FnOk P w K mg base (CX1 P w) (2*n+2) (B.d_ f) fd l.ps (spF K B.cls l (aa (L.map FL.fb) B n f)):=by
 intro n
 induction n with
 |zero=>
  intro f l hl fd F;exact⟨λvs H Q E h=>h.1,λA outer s H args us vs Q E hr e0 hb r ⟨_,_,_,_,_,_,_,h,_⟩=>h.elim⟩
 |succ n ih=>
  intro f l hl fd F;have hT:(L.map FL.fb)[f]?=some l.fb:=by rw[Jz,hl];rfl
  have hm:l∈L:=Ka hl;have O3:=T.ok l hm;unfold FL.ok at O3;rw[Jj]at O3;have S:=lC O3.1;obtain⟨oc,od,dV,kV,doc,pm,an,Kw,ct,Ll,rfl,lk,K9⟩:=F.ex;have un:∀ds M Q E,aa (L.map FL.fb) B (n+1) f ds M Q E->ds.length=l.ps.length->aR {toWB:=B,call:=aa (L.map FL.fb) B n} l.body {nx:=λ_ M'=>Q .i_ (kp l.cl M M'),rt:=λv M'=>Q v (kp l.cl M M')} (λ_ i M'=>E i (av M M')) (qj l.N.length ds) M:=λds M Q E h e=>by
   simp only[aa,hT]at h;rw[FB.full_at (fb:=l.fb) e]at h;exact h.2
  show FnOk P w K mg base (CX1 P w) (2*n+3+1) _ _ _ _;refine wl lk K9 S (λvs H Q E h=>?_) λA outer s H vs Q E hr MF=>?_
  ·exact h.1
  ·obtain⟨Mx,ds,M,Q3,E3,dl,rm,h,c_,Sr⟩:=MF;have h:=un _ _ _ _ h (by rw[dl.length];exact Mx)
   have len:(fv L).length=L.length:=by unfold fv;rw[Jv]
   have G:Good (l.cfg (fv L) nm) {toWB:=B,call:=aa (L.map FL.fb) B n} (cg (CX1 P w) P w K mg base l.N l.qual (ay l.st) (B.d_ f) Kw A outer s H E) (λ_=>E):=by
    refine⟨rfl,S.nd,rfl,hr.units,λ_=>rfl,λ_ _=>rfl,(λ_ z=>nomatch z),λ_=>⟨GF,E,rfl,yj,vN,hr.mono (by omega)⟩,λ_=>⟨rfl,rfl,rfl⟩,λ_=>⟨2*n+2,hr,λg hg=>?_⟩,λg x k hg=>?_,T.kok,T.kin,λi g hi q=>?_,λi m g hi q=>?_,T.knm,T.glo,T.exc,T.exi,(λi f hi=>?_),T.xn,T.bi,T.dig,λa_ Z H' s' e NS I hc=>C9 a_ Z H' s' e NS I hc⟩
    ·have hg:g<(fv L).length:=hg;rw[len]at hg;obtain⟨Qg,F2,_,_,Mg,v2,b2⟩:=T.fn g L[g] (by simp[hg])
     exact⟨Qg,_,_,F2.kp,D5 (by simp[hg]) v2 b2,ih g L[g] (by simp[hg]) Qg F2⟩
    ·have hg:(fv L)[g]?=some (some x,k):=hg;unfold fv at hg;rw[Jz]at hg;cases q:L[g]? with
     |none=>rw[q]at hg;cases hg
     |some l2=>
      rw[q]at hg;obtain⟨Qg,F2,m2,_⟩:=T.fn g l2 q;have e:((if l2.glob=true then some l2.gn else none),l2.ps.length)=(some x,k):=JE hg
      by_cases z:l2.glob=true
      ·rw[Js z]at e;cases e;exact m2 z
      ·rw[Jm z]at e;cases e
    ·show g<(fv L).length;rw[len];exact T.kfi i g hi q
    ·show g<(fv L).length;rw[len];exact T.kfm i m g hi q
    ·obtain⟨a,fI,Ss,Su,x3,b3,F3⟩:=T.xi i f hi;exact⟨a,fI,Ss,Su,x3,b3,F3 P w base⟩
   exact⟨_,sSs l.body O3.2 G,qj l.N.length ds,M,_,_,rm,qM dl,λh_ Z i M' H' t _ r_ q dx xd=>Sr i _ H' t (r_.sub λ_ _ z=>lV z) q dx xd,h,
    ⟨λm_ H' u_ M' r_ F_ tm q=>c_ _ _ _ _ vp (r_.sub λ_ _ z=>vD z) tm q,λv H' d M' dv r_ tm q=>c_ _ _ _ _ dv (r_.sub λ_ _ z=>vD z) tm q,λ_ _ _ _ _ _ _ z=>z.elim,λ_ _ _ _ _ _ _ z=>z.elim⟩⟩
end
noncomputable abbrev scr(ns:List Int):D:=.g_ (ns.map D.int)
theorem walkD{l:PySem.W.OpenLaw}{k f:Nat}{q:Program}{loose:List Str}{XP:(Str->Option Value)->Heap->Prop}{YP:World->Heap->Prop}{d:DefRec}{K:Params->Ks}{fl:FL}{x:Str}{L:List FL}{nm:NM}{BB:(Nat->Addr)->(Nat->Addr)->(Nat->Addr)->WB}
  (hn:l.most=some 63) (MX:d.params.defaults=[]) (hr:Room (2*k+2) callerA) (hY:∀(w:World)(h:Heap),YP w h->(K w.params).In h) (hf:L[f]?=some fl) (O4:fl.ps=[x]) (K5:fl.gn=d.name) (N6:fl.glob=true)
  (T:∀(w:World)(mg:Str->Option Value)(h:Heap),(K w.params).In h->h.Ns mainGlobals mg->∃cls b_ d_,Top (K w.params) mg L nm (BB cls b_ d_))
  (main:∀(cls b_ d_:Nat->Addr)(ns:List Int),ns.length<=63->aa (L.map FL.fb) (BB cls b_ d_) k f [scr ns] (λ_=>none) (λd _=>d=.bl true) (λ_ _=>False)) (Sv:fl.df=[]:=by rfl) :
  PySem.W.WalkO q loose XP YP l.row.toRowW d [] (λf vs=>PySem.call f vs):=by
 refine Att.attach_call hn MX λw s₀ q_ mg mb fa o pm cd doc a vs ns G Y ho hd K9 Px Mm Lx E_ hg=>?_
 have KX:=hY w _ Y;obtain⟨cls,b_,d_,T⟩:=T w mg _ KX G.T.g;obtain⟨fd,F,m1,b1,_⟩:=T.fn f fl hf;have m1:=m1 N6;rw[K5,Px]at m1;have m1:=Value.ref.inj (JE m1);subst m1;refine wB (K:=K w.params) (CX:=CX1 l.prog w) (fd:=fd) (x:=x) (sp:=spF (K w.params) (BB cls b_ d_).cls fl (aa (L.map FL.fb) (BB cls b_ d_) k f)) KX G.T.g G.T.b G.T.builtins G.T.nolimit hg Mm Lx (JF E_ (by decide)) hr (λbase kb gb=>by rw[<-O4];exact uM T k f fl hf fd F) (λs u=>?_) (λH hO hS=>?_) λH e s' h=>?_
 ·have hb:=b1 Sv [u] (by rw[O4];rfl)
  rw[O4]at hb;exact .of_eq hb
 ·have sq:SqF (K w.params) H a (ns.map V.int):=by
   cases hk:(K w.params).lookup a with
   |some ob=>
    have e:=KX a ob hk;rw[Mm]at e;cases e;exact .inr ⟨vs,_,hk,by rw[Lx.length];exact JF E_ (by decide),ik Lx⟩
   |none=>
    rcases hS with (h|⟨ob,h⟩)|⟨ob,_,_,h,_⟩
    ·rcases hO a with z|⟨o2,xs,z⟩
     ·rw[h]at z;cases z
     ·rw[h]at z;cases z
    ·exact .inl ⟨ob,h⟩
    ·rw[hk]at h;cases h
  refine⟨by rw[O4];rfl,[scr ns],λ_=>none,λd _=>d=.bl true,λ_ _=>False,.one ⟨a,_,rfl,sq,.of_int⟩,λa o e=>(by cases e),main cls b_ d_ ns E_,λv H' d M' dv _ _ q=>?_,λ_ _ _ _ _ h=>h.elim⟩
  subst q;exact dv
 ·obtain⟨_,_,_,_,_,_,_,_,_,_,_,_,_,he⟩:=h;exact he
theorem Fun.bindsE{K:Ks}{st:Stmt}{ps:List Str}(F:Fun K x qual st f fd)
  (h:∀(kV doc pm:Value)(an:Option Addr)(Kw ct:Value)(us:List Value),us.length=ps.length->bindArgs (PySem.W.fnOf x qual (bG st) (aV st) (ay st) .none kV doc pm an Kw ct) ⟨us,[]⟩=pure (ps.zip us)):∀us:List Value,us.length=ps.length->bindArgs fd ⟨us,[]⟩=pure (ps.zip us):=by
 obtain⟨oc,od,kV,doc,pm,an,Kw,ct,Ll,rfl,lk,K9⟩:=F.ex;exact h kV doc pm an Kw ct
noncomputable def uJ(sl pr b:Str)(sc:Scope)(ap cp:Pos):Bool:=(ap.endLine == cp.line)&&(sc.names.lookup b == some .globalImplicit)&&nc [sl,pr] [sl,pr] sc&&
 !(b == ("__debug__" : Str))&&!(sl == ("__debug__" : Str))&&!(pr == ("__debug__" : Str))&&!(sl == ("__classdict__" : Str))&&!(pr == ("__classdict__" : Str))
theorem yw{P:Program}{w:World}{K:Ks}{mg:Str->Option Value}{base:Heap}{fI C D:Addr}{name qual:Str}{params:Arguments}{scope:Scope}{body:List Stmt}{kV doc pm Kw ct oc:Value}{an od:Option Addr}{Ll:Array (Option Value)}{b sl pr f tx:Str}{j:Nat}{px ap p1 p2 cp p3 p4 p5 p6 p7 p8 p9:Pos}
  (Sw:body=[.Expr (.Call (.Attribute (.Name b px) "__init__" ap) [.Name sl p1,.Constant (.str tx) j p2] [] cp) p3,.Assign [.Attribute (.Name sl p4) f p5] (.Call (.Name "list" p8) [.Name pr p6] [] p9) p7])
  (h:uJ sl pr b scope ap cp=true) (lk:K.lookup fI=some ⟨oc,od,.func (PySem.W.fnOf name qual params body scope .none kV doc pm an Kw ct),Ll⟩) (K9:PySem.W.codeIn K Kw qual=true) (N6:scope.names.lookup ("list" : Str)=some .globalImplicit) (PF:mg "list"=none) (hm:mg b=some (.ref D)) (hb:BIni K D) (q:XIni K C fI f) :
  FnOk P w K mg base (CX1 P w) 1 fI (PySem.W.fnOf name qual params body scope .none kV doc pm an Kw ct) [sl,pr] (pK true K C f):=by
 subst Sw;unfold uJ at h;simp only[Jj,Bool.not_eq_true']at h;obtain⟨⟨⟨⟨⟨⟨⟨h7,h8⟩,h9⟩,h10⟩,h11⟩,h12⟩,h13⟩,h14⟩:=h;exact yI lk K9 (lC h9) (JJ.mp h8) N6 PF hm h7 hb q h10 h11 h12 h13 h14
end L2
namespace L2
open PySem
noncomputable def oR(K:Ks)(a:Addr):Option FuncData:=match K.lookup a with
 |some ⟨_,_,.func fd,_⟩=>some fd
 |_=>none
noncomputable def fdN(l:FL)(fd:FuncData):FuncData:=PySem.W.fnOf l.name l.qual (bG l.st) (aV l.st) (ay l.st) (if l.df.isEmpty=true then .none else fd.defaults) fd.kwdefaults fd.doc fd.pyModule fd.annotations fd.code fd.closureTuple
noncomputable def fnB(K:Ks)(B:WB)(l:FL)(i:Nat):Bool:=(match oR K (B.d_ i) with
 |some fd=>PySem.W.codeIn K fd.code l.qual
 |none=>false)&&PySem.W.keepIn K (.ref (B.d_ i))&&(!l.glob||PySem.W.nsIn K mainGlobals l.gn == some (some (.ref (B.d_ i))))
theorem zo{K:Ks}(h:oR K a=some fd):∃oc od sl,K.lookup a=some ⟨oc,od,.func fd,sl⟩:=by
 unfold oR at h;split at h
 ·rename_i oc od Tv sl e;cases h;exact⟨oc,od,sl,e⟩
 ·cases h
noncomputable def EJ(K:Ks)(C:Addr):Bool:=PySem.W.hasDictIn K C&&PySem.W.findIn K (.ref C) "__getattribute__" == some (some (.builtin "BaseException.__getattribute__"))&&PySem.W.findIn K (.ref C) "__getattr__" == some none&&PySem.W.findIn K (.ref C) "__class__" == some (some (.builtin "object.__class__"))&&PySem.W.mroIn K C (.type "object") == some true&&PySem.W.mroIn K C (.type "BaseException") == some true&&PySem.W.kitOne K (.ref C) (.type "ValueError") == some true
noncomputable def Dm(K:Ks):Bool:=PySem.W.specialIn K (.builtin "object.__class__") "__get__" == some (some (.builtin "getset_descriptor.__get__"))&&PySem.W.takesIn K (.builtin "object.__class__") == some true&&PySem.W.nsIn K cStatics "sys.int_max_str_digits" == some none&&biNames.all λx=>PySem.W.nsIn K mainGlobals x == some none
noncomputable def EO(K:Ks)(B:WB)(n:NM):Bool:=(List.range B.ne).all (λi=>EJ K (B.cls i)&&(List.range n.exc.length).all λj=>PySem.W.kitOne K (.ref (B.cls i)) (.ref (B.cls j)) == some (B.sub i j)&&PySem.W.exmOne K (.ref (B.cls i)) (.ref (B.cls j)) == some (B.sub i j))&&
 n.exc.zipIdx.all λp=>PySem.W.nsIn K mainGlobals p.1 == some (some (.ref (B.cls p.2)))&&((n.xin.lookup p.2).isSome||PySem.W.excIn K (B.cls p.2) bmV "ValueError.__new__")
noncomputable def kB(K:Ks)(B:WB)(fT:List (List Nat))(mT:List (List (Nat×Nat)))(iT:List Nat)(i:Nat):Bool:=
 PySem.W.plainGet K (B.b_ i) Str.empty&&PySem.W.hasDictIn K (B.b_ i)&&PySem.W.plainOver K (B.b_ i)&&PySem.W.findIn K (.ref (B.b_ i)) "__setattr__" == some (some (.builtin "object.__setattr__"))&&
 (fT.getD i []).all (λf=>PySem.W.findIn K (.ref (B.b_ i)) (fnm f) == some none)&&
 (mT.getD i []).all (λp=>PySem.W.findIn K (.ref (B.b_ i)) (fnm p.1) == some (some (.ref (B.d_ p.2)))&&PySem.W.isFn K (.ref (B.d_ p.2))&&PySem.W.keepIn K (.ref (B.d_ p.2)))&&
 (match iT[i]? with
  |some f=>PySem.W.makesIn K (B.b_ i)&&PySem.W.findIn K (.ref (B.b_ i)) "__init__" == some (some (.ref (B.d_ f)))&&PySem.W.isFn K (.ref (B.d_ f))&&PySem.W.keepIn K (.ref (B.b_ i))&&PySem.W.specialIn K (.ref (B.b_ i)) "__getattribute__" == some (some (.builtin "type.__getattribute__"))&&PySem.W.readsIn K (B.b_ i) (.type "type")&&
   (match PySem.W.findCls K (.ref (B.b_ i)) (.type "type") "__init__" with
    |some (.val (.ref g))=>g == B.d_ f
    |_=>false)
  |none=>false)&&
 PySem.W.findIn K (.ref (B.b_ i)) "__class__" == some (some (.builtin "object.__class__"))&&PySem.W.mroIn K (B.b_ i) (.type "object") == some true&&
 (List.range B.nk).all λj=>PySem.W.kitOne K (.ref (B.b_ i)) (.ref (B.b_ j)) == some (B.ksub i j)
noncomputable def Du(L m:Nat)(mT:List (List (Nat×Nat)))(iT:List Nat):Bool:=iT.length == m&&iT.all (λf=>decide (f<L))&&mT.all λl=>l.all λp=>decide (p.2<L)
theorem iA(h:(List.range n).all p=true)(hi:i<n):p i=true:=JD.mp h i (List.mem_range.mpr hi)
theorem qW{l:List α}(h:l.zipIdx.all p=true)(hx:l[i]?=some x):p (x,i)=true:=by
 refine JD.mp h (x,i) ?_;rw[List.mem_zipIdx_iff_getElem?];exact hx
theorem Dq{K:Ks}{L:List FL}{B:WB}(h:L.all (λl=>l.df.isEmpty)=true):∀(f:Nat)(l:FL),L[f]?=some l->l.df≠[]->∀fd,oR K (B.d_ f)=some fd->∃dv,Vals (l.df.map V.int) dv/\∀j,Binds K fd l.ps (dv.drop j):=λf l hl z=>absurd (List.isEmpty_iff.mp (JD.mp h l (Ka hl))) z
theorem Top.of{K:Ks}{h:Heap}{L:List FL}{n:NM}{B:WB}{fT:List (List Nat)}{mT:List (List (Nat×Nat))}(X:K.In h)(Gn:h.Ns mainGlobals mg)
  (h1:L.all (λl=>l.ok (fv L) n)=true)
  (h2:L.zipIdx.map (λp=>oR K (B.d_ p.2))=L.zipIdx.map λp=>(oR K (B.d_ p.2)).map (fdN p.1))
  (h3:L.zipIdx.all (λp=>fnB K B p.1 p.2)=true)
  (h4:∀(f:Nat)(l:FL),L[f]?=some l->∀us:List Value,us.length=l.ps.length->∀(kV doc pm:Value)(an:Option Addr)(Kw ct:Value),bindArgs (PySem.W.fnOf l.name l.qual (bG l.st) (aV l.st) (ay l.st) .none kV doc pm an Kw ct) ⟨us,[]⟩=pure (l.ps.zip us))
  (h5:Dm K=true) (h6:EO K B n=true)
  (h7:(List.range B.nk).all (kB K B fT mT iT)=true) (h8:Du L.length B.nk mT iT=true)
  (hf:∀i f,B.fok i f=(fT.getD i []).contains f) (hm:∀i m,B.mth i m=(mT.getD i []).lookup m) (hi:∀i,B.ini i=iT[i]?)
  (h9:n.kln.zipIdx.all (λp=>PySem.W.nsIn K mainGlobals p.1 == some (some (.ref (B.b_ p.2)))&&decide (p.2<B.nk))=true)
  (glo:∀(k:Nat)(x:Str),n.gln[k]?=some x->∃u v,mg x=some u/\RelV v u/\∀H,Den K H (B.glo k) v)
  (xi:∀i f,n.xin.lookup i=some f->B.xin i=some f/\∃fI fd ps,XIni K (B.cls i) fI (fnm f)/\Binds K fd ps []/\∀(P:Program)(w:World)(base:Heap),FnOk P w K mg base (CX1 P w) 1 fI fd ps (pK (cpF f) K (B.cls i) (fnm f)))
  (xn:∀i f,i<B.ne->B.xin i=some f->NoAttr K (B.cls i) (fnm f))
  (hd:∀(f:Nat)(l:FL),L[f]?=some l->l.df≠[]->∀fd,oR K (B.d_ f)=some fd->∃dv,Vals (l.df.map V.int) dv/\∀j,Binds K fd l.ps (dv.drop j)):Top K mg L n B:=by
 unfold Dm at h5;simp only[Jj,JJ]at h5;obtain⟨⟨⟨o1,o2⟩,o3⟩,o4⟩:=h5;unfold EO at h6;rw[Jj]at h6;obtain⟨e1,e2⟩:=h6;unfold Du at h8;simp only[Jj,JJ]at h8;obtain⟨⟨t1,t2⟩,t3⟩:=h8;have ki:∀i,i<B.nk->kB K B fT mT iT i=true:=λi hi=>iA h7 hi
 refine⟨λl hl=>JD.mp h1 l hl,λf l hl=>?_,λi hi=>?_,λi x hx=>?_,λi Lp=>?_,λi Lp=>?_,λi f Lp LC=>?_,λi m f Lp LC=>?_,λi x hx=>?_,glo,λx hx=>?_,o3,xi,xn⟩
 ·have g:=qW h3 hl;unfold fnB at g;simp only[Jj]at g;obtain⟨⟨g1,g2⟩,g3⟩:=g;have hz:L.zipIdx[f]?=some (l,f):=by
   rw[List.getElem?_zipIdx,hl];simp
  have e:=congrArg (λz:List (Option FuncData)=>z[f]?) h2
  simp only[Jz,hz,Option.map_some,Option.some.injEq]at e;cases hfd:oR K (B.d_ f) with
  |none=>rw[hfd]at g1;cases g1
  |some fd=>
   rw[hfd]at e g1;simp only[Option.map_some,Option.some.injEq]at e;obtain⟨oc,od,sl,lk⟩:=zo hfd;have hb:l.df=[]->∀us:List Value,us.length=l.ps.length->bindArgs fd ⟨us,[]⟩=pure (l.ps.zip us):=λz us hu=>by
    rw[e];unfold fdN;rw[z];exact h4 f l hl us hu _ _ _ _ _ _
   refine⟨fd,⟨⟨oc,od,_,fd.kwdefaults,fd.doc,fd.pyModule,fd.annotations,fd.code,fd.closureTuple,sl,e,lk,g1⟩,g2⟩,λz=>?_,hb,?_⟩
   ·rw[z]at g3;exact PySem.W.mg_of X Gn (JJ.mp (by simpa using g3))
   ·by_cases z:l.df=[]
    ·exact⟨[],by rw[z];exact .nil,λj=>by rw[List.drop_nil];exact .all (hb z)⟩
    ·exact hd f l hl z fd hfd
 ·have g:=iA e1 hi;rw[Jj]at g;obtain⟨g1,g2⟩:=g;unfold EJ at g1;simp only[Jj,JJ]at g1;obtain⟨⟨⟨⟨⟨⟨a1,a2⟩,a3⟩,a4⟩,a5⟩,a6⟩,a7⟩:=g1;refine⟨⟨a1,a2,a3,a4,o1,o2,a5,a6⟩,a7,λj x hx=>?_⟩
  have hj:j<n.exc.length:=(JQ.mp hx).1;have g:=iA g2 hj;rw[Jj,JJ]at g;exact g.1
 ·have g:=qW e2 hx;rw[Jj,JJ]at g;refine⟨PySem.W.mg_of X Gn g.1,λz=>?_,λj hj=>?_⟩
  ·have g2:=g.2;rw[show n.xin.lookup (x,i).2=none from z]at g2;have g3:PySem.W.excIn K (B.cls i) bmV "ValueError.__new__"=true:=by simpa using g2
   exact g3
  ·have q:=iA e1 hj;rw[Jj]at q;have hi:i<n.exc.length:=(JQ.mp hx).1;have g:=iA q.2 hi;rw[Jj,JJ,JJ]at g;exact g.2
 ·have g:=ki i Lp;unfold kB at g;simp only[Jj,JJ]at g;obtain⟨⟨⟨⟨⟨⟨⟨⟨⟨a1,a2⟩,a3⟩,a4⟩,a5⟩,a6⟩,a7⟩,a8⟩,a9⟩,Oq⟩:=g;have iI:∀f,B.ini i=some f->PySem.W.makesIn K (B.b_ i)=true/\PySem.W.findIn K (.ref (B.b_ i)) "__init__"=some (some (.ref (B.d_ f)))/\PySem.W.isFn K (.ref (B.d_ f))=true/\PySem.W.keepIn K (.ref (B.b_ i))=true/\PySem.W.specialIn K (.ref (B.b_ i)) "__getattribute__"=some (some (.builtin "type.__getattribute__"))/\PySem.W.readsIn K (B.b_ i) (.type "type")=true/\PySem.W.findCls K (.ref (B.b_ i)) (.type "type") "__init__"=some (.val (.ref (B.d_ f))):=λf hf=>by
   rw[hi i]at hf;rw[hf]at a7;simp only[Jj,JJ]at a7;obtain⟨⟨⟨⟨⟨⟨b1,b2⟩,b3⟩,b4⟩,b5⟩,b6⟩,b7⟩:=a7;refine⟨b1,b2,b3,b4,b5,b6,?_⟩;split at b7
   ·rename_i g hg;rw[hg,JJ.mp b7]
   ·cases b7
  refine⟨⟨a1,a2,a3,a4⟩,λf LC=>?_,λm f Mp=>?_,λf LC=>?_,λf LC=>?_,⟨a8,o1,o2,a9⟩,λj hj=>?_⟩
  ·rw[hf i f]at LC;exact JJ.mp (JD.mp a5 f (List.contains_iff_mem.mp LC))
  ·rw[hm i m]at Mp;have q:=JD.mp a6 (m,f) (cu Mp);simp only[Jj,JJ]at q;exact⟨q.1.1,q.1.2,q.2⟩
  ·obtain⟨b1,b2,b3,b4,_⟩:=iI f LC;exact⟨b1,b2,b3,b4⟩
  ·obtain⟨_,_,_,_,b5,b6,b7⟩:=iI f LC;exact⟨b5,b6,b7⟩
  ·exact JJ.mp (iA Oq hj)
 ·rw[hi i];have:i<iT.length:=by rw[t1];exact Lp
  exact⟨iT[i],JG this⟩
 ·rw[hi i]at LC;exact Ki (JD.mp t2 f (Ka LC))
 ·rw[hm i m]at LC;have q:=cu LC;by_cases z:i<mT.length
  ·rw[List.getD_eq_getElem?_getD,JG z]at q;exact Ki (JD.mp (JD.mp t3 _ (J9 z)) _ q)
  ·rw[List.getD_eq_getElem?_getD,List.getElem?_eq_none (by omega)]at q
   cases q
 ·have g:=qW h9 hx;rw[Jj,JJ]at g;exact⟨PySem.W.mg_of X Gn g.1,Ki g.2⟩
 ·exact PySem.W.mg_none_of X Gn (JJ.mp (JD.mp o4 x hx))
theorem n0{P:List Value->Prop}(h:P []):∀us:List Value,us.length=0->P us:=us0 h
theorem n1{P:List Value->Prop}(h:∀a,P [a]):∀us:List Value,us.length=1->P us:=usS λa=>us0 (h a)
theorem n2{P:List Value->Prop}(h:∀a b,P [a,b]):∀us:List Value,us.length=2->P us:=usS λa=>usS λb=>us0 (h a b)
theorem n3{P:List Value->Prop}(h:∀a b c,P [a,b,c]):∀us:List Value,us.length=3->P us:=usS λa=>usS λb=>usS λc=>us0 (h a b c)
theorem n4{P:List Value->Prop}(h:∀a b c d,P [a,b,c,d]):∀us:List Value,us.length=4->P us:=usS λa=>usS λb=>usS λc=>usS λd=>us0 (h a b c d)
theorem n5{P:List Value->Prop}(h:∀a b c d e,P [a,b,c,d,e]):∀us:List Value,us.length=5->P us:=usS λa=>usS λb=>usS λc=>usS λd=>usS λe=>us0 (h a b c d e)
end L2
namespace L2
noncomputable def oi:Option Int->D
 |none=>.i_
 |some i=>.int i
noncomputable abbrev pr(a b:Option Int):D:=.tup [oi a,oi b]
theorem c9{i j:Int}(h1:0<j)(h2:j<10 ^ 250):lA i j=True:=by
 refine eq_true ⟨h1,pY ?_⟩;omega
theorem gN{i j:Int}(h1 : -(10 ^ 240)<i)(h2:i<10 ^ 240)(h3 : -(10 ^ 240)<j)(h4:j<10 ^ 240):cQ i j=True:=by
 refine eq_true ⟨pY ?_,pY ?_⟩<;>omega
theorem kN{i j:Int}(h1:0<=j)(h2:j<=1000000)(h3:i.natAbs<2 ^ 64):uF i j=True:=eq_true ⟨h1,h2,h3⟩
theorem tf{α:Type}(a:α)(l:List α):atI (a::l) 0=some a:=by simp[atI,ixN]
theorem uy{α:Type}(a b:α)(l:List α):atI (a::b::l) 1=some b:=bO (j:=1) rfl
theorem tD{α:Type}(a b c:α)(l:List α):atI (a::b::c::l) 2=some c:=bO (j:=2) rfl
theorem vW{α:Type}(a b c d:α)(l:List α):atI (a::b::c::d::l) 3=some d:=bO (j:=3) rfl
end L2
namespace L2
open PySem
section
variable {W:WC}{Z:St3}
@[simp ↓] theorem Ji:wpE W (.var 0) (some v::Z) M Q E=Q v M:=rfl
@[simp ↓] theorem IX:wpE W (.var 1) (y0::some v::Z) M Q E=Q v M:=rfl
@[simp ↓] theorem Jh:wpE W (.var 2) (y0::y1::some v::Z) M Q E=Q v M:=rfl
@[simp ↓] theorem Jf:wpE W (.var 3) (y0::y1::y2::some v::Z) M Q E=Q v M:=rfl
@[simp ↓] theorem IQ:wpE W (.var 4) (y0::y1::y2::y3::some v::Z) M Q E=Q v M:=rfl
@[simp ↓] theorem F9:wpE W (.var 5) (y0::y1::y2::y3::y4::some v::Z) M Q E=Q v M:=rfl
@[simp ↓] theorem IV:wpE W (.var 6) (y0::y1::y2::y3::y4::y5::some v::Z) M Q E=Q v M:=rfl
@[simp ↓] theorem IR:wpE W (.var 7) (y0::y1::y2::y3::y4::y5::y6::some v::Z) M Q E=Q v M:=rfl
@[simp ↓] theorem IZ:wpE W (.var 8) (y0::y1::y2::y3::y4::y5::y6::y7::some v::Z) M Q E=Q v M:=rfl
@[simp ↓] theorem Jg:wpE W (.var 9) (y0::y1::y2::y3::y4::y5::y6::y7::y8::some v::Z) M Q E=Q v M:=rfl
@[simp ↓] theorem Ht:wpE W (.var 10) (y0::y1::y2::y3::y4::y5::y6::y7::y8::y9::some v::Z) M Q E=Q v M:=rfl
@[simp ↓] theorem HM:wpE W (.var 11) (y0::y1::y2::y3::y4::y5::y6::y7::y8::y9::x_::some v::Z) M Q E=Q v M:=rfl
@[simp ↓] theorem HX:wpE W (.var 12) (y0::y1::y2::y3::y4::y5::y6::y7::y8::y9::x_::y11::some v::Z) M Q E=Q v M:=rfl
@[simp ↓] theorem Hz:wpE W (.var 13) (y0::y1::y2::y3::y4::y5::y6::y7::y8::y9::x_::y11::y12::some v::Z) M Q E=Q v M:=rfl
@[simp ↓] theorem IM:wpE W (.var 14) (y0::y1::y2::y3::y4::y5::y6::y7::y8::y9::x_::y11::y12::y13::some v::Z) M Q E=Q v M:=rfl
@[simp ↓] theorem IP:wpE W (.var 15) (y0::y1::y2::y3::y4::y5::y6::y7::y8::y9::x_::y11::y12::y13::y14::some v::Z) M Q E=Q v M:=rfl
@[simp ↓] theorem Hv:wpE W (.var 16) (y0::y1::y2::y3::y4::y5::y6::y7::y8::y9::x_::y11::y12::y13::y14::y15::some v::Z) M Q E=Q v M:=rfl
@[simp ↓] theorem HN:wpE W (.var 17) (y0::y1::y2::y3::y4::y5::y6::y7::y8::y9::x_::y11::y12::y13::y14::y15::y16::some v::Z) M Q E=Q v M:=rfl
@[simp ↓] theorem HR:wpE W (.con v) Z M Q E=Q v M:=rfl
@[simp ↓] theorem Ho{op a b}:wpE W (.bin op a b) Z M Q E=wpE W a Z M (λx M1=>wpE W b Z M1 (λy M2=>le op x y M2 Q) E) E:=rfl
@[simp ↓] theorem ID{a}:wpE W (.neg a) Z M Q E=wpE W a Z M (λx M1=>rNeg x M1 Q) E:=rfl
@[simp ↓] theorem HJ{fz a b}:wpE W (.cat fz a b) Z M Q E=wpE W a Z M (λx M1=>wpE W b Z M1 (λy M2=>jw fz x y M2 Q) E) E:=rfl
@[simp ↓] theorem IH{op a b}:wpE W (.cmp op a b) Z M Q E=wpE W a Z M (λx M1=>wpE W b Z M1 (λy M2=>aI op x y M2 Q) E) E:=rfl
@[simp ↓] theorem Fs{op KN a b c}:wpE W (.chain op KN a b c) Z M Q E=wpE W a Z M (λx M1=>wpE W b Z M1 (λy M2=>aI op x y M2 λr M3=>match r with
  |.bl k=>if k=true then wpE W c Z M3 (λz M4=>aI KN y z M4 Q) E else Q (.bl false) M3
  |_=>False) E) E:=rfl
@[simp ↓] theorem Ic{a b}:wpE W (.and a b) Z M Q E=wpE W a Z M (λx M1=>match x with
  |.bl c=>if c=true then wpE W b Z M1 Q E else Q (.bl false) M1
  |_=>False) E:=rfl
@[simp ↓] theorem Ia{a}:wpE W (.not a) Z M Q E=wpE W a Z M (λx M1=>match x with
  |.bl c=>Q (.bl (!c)) M1
  |_=>False) E:=rfl
@[simp ↓] theorem Ie{c a b}:wpE W (.Oa c a b) Z M Q E=wpT W c Z M (λk M1=>if k=true then wpE W a Z M1 Q E else wpE W b Z M1 Q E) E:=rfl
@[simp ↓] theorem HI{es}:wpE W (.tup es) Z M Q E=wpA W es Z M (λxs M1=>xs.length<=sizeLine/\Q (.tup xs) M1) E:=rfl
@[simp ↓] theorem Io{fz es}:wpE W (.lst fz es) Z M Q E=wpA W es Z M (λxs M1=>dX fz xs M1 Q) E:=rfl
@[simp ↓] theorem IB{e}:wpE W (.t_ e) Z M Q E=wpE W e Z M (aX Q) E:=rfl
@[simp ↓] theorem Jd{a b}:wpE W (.ix a b) Z M Q E=wpE W a Z M (λx M1=>wpE W b Z M1 (λy M2=>ao x y M2 Q) E) E:=rfl
@[simp ↓] theorem Jc{fz a lo hi}:wpE W (.sl fz a lo hi) Z M Q E=wpE W a Z M (λx M1=>wpO W lo Z M1 (λl M2=>wpO W hi Z M2 (λh M3=>nA fz x l h M3 Q) E) E) E:=rfl
@[simp ↓] theorem Gk{f es}:wpE W (.call f es) Z M Q E=wpA W es Z M (λxs M1=>W.call f xs M1 Q E) E:=rfl
@[simp ↓] theorem IW{b es}:wpE W (.bi b es) Z M Q E=wpA W es Z M (λxs M1=>rBi b xs M1 Q) E:=rfl
@[simp ↓] theorem Hw{e t}:wpE W (.L0 e t) Z M Q E=wpE W e Z M (λx M1=>pk t x M1 Q) E:=rfl
@[simp ↓] theorem G2{k v}:wpE W (.LQ k v) Z M Q E=∀p,M p=none->wpE W k Z (put M p (.dt [] [])) (λx M1=>wpE W v Z M1 (λy M2=>iN p x y M2 Q) E) E:=rfl
@[simp ↓] theorem IF{e}:wpE W (.Ob e) Z M Q E=wpE W e Z M (λx M1=>rMp x M1 Q) E:=rfl
@[simp ↓] theorem Ij{e f}:wpE W (.fld e f) Z M Q E=wpE W e Z M (λx M1=>dQ W.toWB f x M1 Q) E:=rfl
@[simp ↓] theorem FO{i es}:wpE W (.make true i es) Z M Q E=wpA W es Z M (λxs M1=>i<W.nk/\ft (W.ini i) λf=>∀p,M1 p=none->W.call f (.ref p::xs) (put M1 p (.ins i (W.b_ i) [] [])) (λv M2=>v=.i_/\aX Q (.ref p) M2) (λi M'=>E i (L2.del M' p))) E:=rfl
@[simp ↓] theorem FJ{i es}:wpE W (.make false i es) Z M Q E=wpA W es Z M (λxs M1=>i<W.nk/\ft (W.ini i) λf=>∀p,M1 p=none->W.call f (.ref p::xs) (put M1 p (.ins i (W.b_ i) [] [])) (λv M2=>v=.i_/\Q (.ref p) M2) (λi M'=>E i (L2.del M' p))) E:=rfl
@[simp ↓] theorem G3{e m es}:wpE W (.y_ e m es) Z M Q E=wpE W e Z M (λx M1=>cj W.toWB m x M1 λf=>wpA W es Z M1 (λxs M2=>W.call f (x::xs) M2 Q E) E) E:=rfl
@[simp ↓] theorem Iz{i es}:wpE W (.ini i es) Z M Q E=wpA W es Z M (λxs M1=>i<W.nk/\ft (W.ini i) λf=>W.call f xs M1 Q E) E:=rfl
@[simp ↓] theorem IK{k}:wpE W (.glo k) Z M Q E=Q (W.glo k) M:=rfl
@[simp ↓] theorem IU{b o es}:wpE W (.bm b o es) Z M Q E=wpE W o Z M (λx M1=>tyB b x M1=true/\wpA W es Z M1 (λxs M2=>rBm b x xs M2 Q) E) E:=rfl
@[simp] theorem ul:av M M=M:=by
 funext a;unfold av;split<;>simp_all
@[simp] theorem eR(h:M p=none):av M (put M' p o)=av M M':=by
 funext a;unfold av put;split
 ·rename_i x e;split
  ·rename_i z;subst z;rw[h]at e;cases e
  ·rfl
 ·rfl
@[simp] theorem gC(h:M p=some u):av M (put M' p o)=put (av M M') p o:=by
 funext a;unfold av put;by_cases z:a=p
 ·subst z;simp[h]
 ·simp[z]
@[simp] theorem FI:av (put M p o) (put M' p u)=put (av M M') p u:=by
 funext a;unfold av put;by_cases z:a=p
 ·subst z;simp
 ·simp[z]
@[simp ↓] theorem DR:ft (some f) R=R f:=rfl
@[simp ↓] theorem FH{B:WB}{f i C ns ds}:dQ B f (.obj i C ns ds) M Q=((C=B.b_ i/\i<B.nk/\B.fok i f=true)/\kP f ns ds M Q):=rfl
@[simp ↓] theorem DV{f n ns d ds}:kP f (n::ns) (d::ds) M Q=if n=f then Q d M else kP f ns ds M Q:=by
 unfold kP;rw[bI];by_cases h:n=f
 ·rw[Js h,Js h]
 ·rw[Jm h,Jm h]
@[simp ↓] theorem gF{B:WB}{m i C ns ds}:cj B m (.obj i C ns ds) M R=((C=B.b_ i/\i<B.nk/\bI m ns ds=none)/\ft (B.mth i m) R):=rfl
@[simp ↓] theorem FF{B:WB}{m i C ns ds}:cj B m (.ref a) (put M a (.ins i C ns ds)) R=((C=B.b_ i/\i<B.nk/\bI m ns ds=none)/\ft (B.mth i m) R):=by
 simp[cj,ac]
@[simp] theorem CZ:bI f [] ds=none:=by unfold bI;rfl
@[simp] theorem Cb:bI f (n::ns) (d::ds)=if n=f then some d else bI f ns ds:=by rw[bI]
@[simp] theorem C0:ca f []=[f]:=rfl
@[simp] theorem BA:ca f (n::ns)=if n=f then n::ns else n::ca f ns:=rfl
@[simp] theorem C1:bY f y [] ds=[y]:=by unfold bY;rfl
@[simp] theorem BC:bY f y (n::ns) (d::ds)=if n=f then y::ds else d::bY f y ns ds:=by rw[bY]
@[simp ↓] theorem FW{ds}(h:M a=none):aX Q (.ref a) (put M a (.lst ds))=Q (.g_ ds) M:=by
 simp only[aX,ac,gY h]
@[simp ↓] theorem FC{i C ns ds}(h:M a=none):aX Q (.ref a) (put M a (.ins i C ns ds))=d4 ds M (λr M'=>Q (.obj i C ns r) M'):=by
 simp only[aX,ac,gY h]
@[simp ↓] theorem Dj:d4 [] M R=R [] M:=rfl
@[simp ↓] theorem DL{i ds}:d4 (.int i::ds) M R=d4 ds M (λr M'=>R (.int i::r) M'):=rfl
@[simp ↓] theorem C3{i ds}:d4 (.tup i::ds) M R=d4 ds M (λr M'=>R (.tup i::r) M'):=rfl
@[simp ↓] theorem FV{fz ds lo hi}:nA fz (.tup ds) lo hi M Q=(whole ds.length lo hi=false/\Q (.tup (cZ ds lo hi)) M):=rfl
@[simp ↓] theorem Ft{ds lo hi}:nA true (.g_ ds) lo hi M Q=((cZ ds lo hi).length<=sizeLine/\Q (.g_ (cZ ds lo hi)) M):=rfl
@[simp ↓] theorem FE{a b}:le .Add (.tup a) (.tup b) M Q=(a.length+b.length<=sizeLine/\Q (.tup (a++b)) M):=rfl
@[simp ↓] theorem Gs{tk}:wpE W (.KO tk) Z M Q E=∀p,M p=none->Q (.ref p) (put M p (if tk=true then .dt [] [] else .dk [] [])):=rfl
theorem v9{ks ds}(h:M a=some (.dk ks ds)):tyB .get (.ref a) M=true:=by simp[tyB,dZ,h]
theorem sJ{ks ds}(h:M a=some (.dk ks ds)):rBm .get (.ref a) [.int i,z] M Q=Q ((getD ks ds (.inl i)).getD z) M:=by simp[rBm,d7,dZ,h,tE]
theorem sv{ds}(h:M a=some (.lst ds)):isLstM (.ref a) M=true:=by simp[isLstM,h]
@[simp] theorem Be{x}:tyB .extend x M=isLstM x M:=rfl
theorem nS{ks ds}(h:M a=some (.dk ks ds)):aE (.ref a) (.int i) y M R=(ks.length<sizeLine/\R (put M a (.dk (ai ks (.inl i)) (aq ks ds (.inl i) y)))):=by simp[aE,h,tE]
theorem tK{ds}(h:M a=some (.lst ds))(hj:ixN ds.length i=some j):aE (.ref a) (.int i) y M R=R (put M a (.lst (ds.set j y))):=by simp[aE,h,hj]
theorem cB[DecidableEq κ]:∀{ks:List κ}{ds:List D}{k x:κ}{y:D},ks.length=ds.length->getD (ai ks k) (aq ks ds k y) x=if k=x then some y else getD ks ds x
 |[],ds,k,x,y,_=>by
  simp only[ai,aq];by_cases h:k=x
  ·simp[getD,h]
  ·cases ds<;>simp[getD,h]
 |k'::ks,[],k,x,y,h=>by simp at h
 |k'::ks,d::ds,k,x,y,h=>by
  simp only[ai,aq];have hl:ks.length=ds.length:=by simpa using h
  by_cases e:k'=k
  ·subst e;by_cases h2:k'=x<;>simp[getD,h2]
  ·simp only[Jm e,getD];by_cases h2:k'=x
   ·subst h2;rw[Js rfl,Jm (JA e),Js rfl]
   ·rw[Jm h2,Jm h2];exact cB hl
theorem cr[DecidableEq κ]:∀{ks:List κ}{ds:List D}{k:κ}{y:D},ks.length=ds.length->(ai ks k).length=(aq ks ds k y).length
 |[],ds,k,y,_=>by simp[ai,aq]
 |k'::ks,[],k,y,h=>by simp at h
 |k'::ks,d::ds,k,y,h=>by
  have hl:ks.length=ds.length:=by simpa using h
  simp only[ai,aq];by_cases e:k'=k
  ·simp[e,hl]
  ·simp only[Jm e,Jx];rw[cr (k:=k) (y:=y) hl]
def n8(W:WC)(tg:ITg)(cond:ITO)(I_:IE)(S:MH->Prop)(p:Addr)(Q:VK3):List D->List D->St3->MH->Prop:=dn (wpG tg) (λZ M Q=>pf W cond Z M Q (λ_ _=>False)) (λZ M Q=>wpE W I_ Z M Q (λ_ _=>False)) S p Q
def kL(W:WC)(tg:ITg)(cond:ITO)(I_:IE)(S:MH->Prop)(Q:VK3)(ds:List D)(Z:St3)(M:MH):Prop:=∀p,M p=none->n8 W tg cond I_ S p (jb Q) ds [] Z (put M p (.lst []))
@[simp ↓] theorem FT{N js tg it cond I_}:wpE W (.comp true N js tg it cond I_) Z M Q E=wpI W it Z M (λds S M1=>kL W tg cond I_ S Q ds (aL js Z) M1) E:=rfl
@[simp ↓] theorem Hr{e}:wpT W (.val e) Z M QB E=wpE W e Z M (λx M1=>match x with
  |.bl k=>QB k M1
  |_=>False) E:=rfl
@[simp ↓] theorem Hm{op a b}:wpT W (.cmp op a b) Z M QB E=wpE W a Z M (λx M1=>wpE W b Z M1 (λy M2=>aI op x y M2 λr M3=>match r with
  |.bl k=>QB k M3
  |_=>False) E) E:=rfl
@[simp ↓] theorem GD{a b}:wpT W (.and a b) Z M QB E=wpT W a Z M (λc M1=>if c=true then wpT W b Z M1 QB E else QB false M1) E:=rfl
@[simp ↓] theorem Iq{a b}:wpT W (.or a b) Z M QB E=wpT W a Z M (λc M1=>if c=true then QB true M1 else wpT W b Z M1 QB E) E:=rfl
@[simp ↓] theorem Gz{a}:wpT W (.not a) Z M QB E=wpT W a Z M (λc M1=>QB (!c) M1) E:=rfl
@[simp ↓] theorem GP:wpA W .nil Z M QL E=QL [] M:=rfl
@[simp ↓] theorem FP{e r}:wpA W (.cons e r) Z M QL E=wpE W e Z M (λx M1=>wpA W r Z M1 (λxs M2=>QL (x::xs) M2) E) E:=rfl
@[simp ↓] theorem Hs:wpO W .no Z M QO E=QO none M:=rfl
@[simp ↓] theorem F4{e}:wpO W (.yes e) Z M QO E=wpE W e Z M (λx M1=>match x with
  |.int i=>QO (some i) M1
  |_=>False) E:=rfl
@[simp ↓] theorem He{e}:pf W (.yes e) Z M QB E=wpT W e Z M QB E:=rfl
def pI(R:List D->(MH->Prop)->MH->Prop):VK3:=λx M1=>match x with
  |.tup ds=>R ds (λ_=>True) M1
  |.g_ ds=>R ds (λ_=>True) M1
  |.ref a=>match M1 a with
   |some (.lst ds)=>R ds (λM=>M a=some (.lst ds)) M1
   |_=>False
  |_=>False
@[simp ↓] theorem Eb{ds}:pI R (.tup ds) M=R ds (λ_=>True) M:=rfl
@[simp ↓] theorem wV{ds}:pI R (.g_ ds) M=R ds (λ_=>True) M:=rfl
theorem wt{a ds}(h:M a=some (.lst ds)):pI R (.ref a) M=R ds (λM=>M a=some (.lst ds)) M:=by
 unfold pI;simp only[h]
@[simp ↓] theorem GN{e}:wpI W (.seq e) Z M R E=wpE W e Z M (pI R) E:=rfl
@[simp ↓] theorem Fx{a}:wpI W (.enum a) Z M R E=wpE W a Z M (λx M1=>match x with
  |.g_ ds=>R (bR 0 ds) (λ_=>True) M1
  |.ref a=>match M1 a with
   |some (.lst ds)=>R (bR 0 ds) (λM=>M a=some (.lst ds)) M1
   |_=>False
  |_=>False) E:=rfl
@[simp ↓] theorem El{a}:wpI W (.items a) Z M R E=wpE W a Z M (λx M1=>match x with
  |.Kv ks ds=>R (aw ks ds) (λ_=>True) M1
  |.Ln ks ds=>R (f8 ks ds) (λ_=>True) M1
  |_=>False) E:=rfl
@[simp ↓] theorem Ix{a}:wpI W (.dk a) Z M R E=wpE W a Z M (λx M1=>match x with
  |.Kv ks ds=>R (ks.map jd) (λ_=>True) M1
  |_=>False) E:=rfl
@[simp ↓] theorem Hc{a b}:wpI W (.zip a b) Z M R E=wpE W a Z M (λx M1=>wpE W b Z M1 (λy M2=>rLs x M2 λxs S=>rLs y M2 λys S'=>R (gL xs ys) (λM=>S M/\S' M) M2) E) E:=rfl
@[simp] theorem Gq{k}:rLs (.g_ xs) M k=k xs λ_=>True:=rfl
@[simp ↓] theorem FN{a}:wpI W (.LJ a) Z M R E=wpE W a Z M (λx M1=>match x with
  |.int j=>-(2 ^ 62)<=j/\j<2 ^ 62/\R (rng 0 j.toNat) (λ_=>True) M1
  |_=>False) E:=rfl
end
section
variable {W:WC}{Z:St3}{De:Ends3}{x:Option D}
@[simp ↓] theorem Hd:aR W .nil De ES Z M=De.nx Z M:=rfl
@[simp ↓] theorem Fr{s r}:aR W (.cons s r) De ES (x::Z) M=wpS W s {De with nx:=λm_ M'=>aR W r De ES m_ M'} ES (x::Z) M:=rfl
@[simp ↓] theorem GC{e}:wpS W (.set 1 e) De ES (y0::x::Z) M=wpE W e (y0::x::Z) M (λv M1=>De.nx (y0::some v::Z) M1) (ES (y0::x::Z)):=rfl
@[simp ↓] theorem Gi{e}:wpS W (.set 2 e) De ES (y0::y1::x::Z) M=wpE W e (y0::y1::x::Z) M (λv M1=>De.nx (y0::y1::some v::Z) M1) (ES (y0::y1::x::Z)):=rfl
@[simp ↓] theorem Gh{e}:wpS W (.set 3 e) De ES (y0::y1::y2::x::Z) M=wpE W e (y0::y1::y2::x::Z) M (λv M1=>De.nx (y0::y1::y2::some v::Z) M1) (ES (y0::y1::y2::x::Z)):=rfl
@[simp ↓] theorem GK{e}:wpS W (.set 4 e) De ES (y0::y1::y2::y3::x::Z) M=wpE W e (y0::y1::y2::y3::x::Z) M (λv M1=>De.nx (y0::y1::y2::y3::some v::Z) M1) (ES (y0::y1::y2::y3::x::Z)):=rfl
@[simp ↓] theorem GJ{e}:wpS W (.set 5 e) De ES (y0::y1::y2::y3::y4::x::Z) M=wpE W e (y0::y1::y2::y3::y4::x::Z) M (λv M1=>De.nx (y0::y1::y2::y3::y4::some v::Z) M1) (ES (y0::y1::y2::y3::y4::x::Z)):=rfl
@[simp ↓] theorem Gu{e}:wpS W (.set 6 e) De ES (y0::y1::y2::y3::y4::y5::x::Z) M=wpE W e (y0::y1::y2::y3::y4::y5::x::Z) M (λv M1=>De.nx (y0::y1::y2::y3::y4::y5::some v::Z) M1) (ES (y0::y1::y2::y3::y4::y5::x::Z)):=rfl
@[simp ↓] theorem Hh{e}:wpS W (.set 7 e) De ES (y0::y1::y2::y3::y4::y5::y6::x::Z) M=wpE W e (y0::y1::y2::y3::y4::y5::y6::x::Z) M (λv M1=>De.nx (y0::y1::y2::y3::y4::y5::y6::some v::Z) M1) (ES (y0::y1::y2::y3::y4::y5::y6::x::Z)):=rfl
@[simp ↓] theorem F7{e}:wpS W (.set 8 e) De ES (y0::y1::y2::y3::y4::y5::y6::y7::x::Z) M=wpE W e (y0::y1::y2::y3::y4::y5::y6::y7::x::Z) M (λv M1=>De.nx (y0::y1::y2::y3::y4::y5::y6::y7::some v::Z) M1) (ES (y0::y1::y2::y3::y4::y5::y6::y7::x::Z)):=rfl
@[simp ↓] theorem F1{e}:wpS W (.set 9 e) De ES (y0::y1::y2::y3::y4::y5::y6::y7::y8::x::Z) M=wpE W e (y0::y1::y2::y3::y4::y5::y6::y7::y8::x::Z) M (λv M1=>De.nx (y0::y1::y2::y3::y4::y5::y6::y7::y8::some v::Z) M1) (ES (y0::y1::y2::y3::y4::y5::y6::y7::y8::x::Z)):=rfl
@[simp ↓] theorem FX{e}:wpS W (.set 10 e) De ES (y0::y1::y2::y3::y4::y5::y6::y7::y8::y9::x::Z) M=wpE W e (y0::y1::y2::y3::y4::y5::y6::y7::y8::y9::x::Z) M (λv M1=>De.nx (y0::y1::y2::y3::y4::y5::y6::y7::y8::y9::some v::Z) M1) (ES (y0::y1::y2::y3::y4::y5::y6::y7::y8::y9::x::Z)):=rfl
@[simp ↓] theorem FK{e}:wpS W (.set 11 e) De ES (y0::y1::y2::y3::y4::y5::y6::y7::y8::y9::x_::x::Z) M=wpE W e (y0::y1::y2::y3::y4::y5::y6::y7::y8::y9::x_::x::Z) M (λv M1=>De.nx (y0::y1::y2::y3::y4::y5::y6::y7::y8::y9::x_::some v::Z) M1) (ES (y0::y1::y2::y3::y4::y5::y6::y7::y8::y9::x_::x::Z)):=rfl
@[simp ↓] theorem Fp{e}:wpS W (.set 12 e) De ES (y0::y1::y2::y3::y4::y5::y6::y7::y8::y9::x_::y11::x::Z) M=wpE W e (y0::y1::y2::y3::y4::y5::y6::y7::y8::y9::x_::y11::x::Z) M (λv M1=>De.nx (y0::y1::y2::y3::y4::y5::y6::y7::y8::y9::x_::y11::some v::Z) M1) (ES (y0::y1::y2::y3::y4::y5::y6::y7::y8::y9::x_::y11::x::Z)):=rfl
@[simp ↓] theorem FR{e}:wpS W (.set 13 e) De ES (y0::y1::y2::y3::y4::y5::y6::y7::y8::y9::x_::y11::y12::x::Z) M=wpE W e (y0::y1::y2::y3::y4::y5::y6::y7::y8::y9::x_::y11::y12::x::Z) M (λv M1=>De.nx (y0::y1::y2::y3::y4::y5::y6::y7::y8::y9::x_::y11::y12::some v::Z) M1) (ES (y0::y1::y2::y3::y4::y5::y6::y7::y8::y9::x_::y11::y12::x::Z)):=rfl
@[simp ↓] theorem FG{e}:wpS W (.set 14 e) De ES (y0::y1::y2::y3::y4::y5::y6::y7::y8::y9::x_::y11::y12::y13::x::Z) M=wpE W e (y0::y1::y2::y3::y4::y5::y6::y7::y8::y9::x_::y11::y12::y13::x::Z) M (λv M1=>De.nx (y0::y1::y2::y3::y4::y5::y6::y7::y8::y9::x_::y11::y12::y13::some v::Z) M1) (ES (y0::y1::y2::y3::y4::y5::y6::y7::y8::y9::x_::y11::y12::y13::x::Z)):=rfl
@[simp ↓] theorem Fw{e}:wpS W (.set 15 e) De ES (y0::y1::y2::y3::y4::y5::y6::y7::y8::y9::x_::y11::y12::y13::y14::x::Z) M=wpE W e (y0::y1::y2::y3::y4::y5::y6::y7::y8::y9::x_::y11::y12::y13::y14::x::Z) M (λv M1=>De.nx (y0::y1::y2::y3::y4::y5::y6::y7::y8::y9::x_::y11::y12::y13::y14::some v::Z) M1) (ES (y0::y1::y2::y3::y4::y5::y6::y7::y8::y9::x_::y11::y12::y13::y14::x::Z)):=rfl
@[simp ↓] theorem Fu{e}:wpS W (.set 16 e) De ES (y0::y1::y2::y3::y4::y5::y6::y7::y8::y9::x_::y11::y12::y13::y14::y15::x::Z) M=wpE W e (y0::y1::y2::y3::y4::y5::y6::y7::y8::y9::x_::y11::y12::y13::y14::y15::x::Z) M (λv M1=>De.nx (y0::y1::y2::y3::y4::y5::y6::y7::y8::y9::x_::y11::y12::y13::y14::y15::some v::Z) M1) (ES (y0::y1::y2::y3::y4::y5::y6::y7::y8::y9::x_::y11::y12::y13::y14::y15::x::Z)):=rfl
@[simp ↓] theorem Fo{e}:wpS W (.set 17 e) De ES (y0::y1::y2::y3::y4::y5::y6::y7::y8::y9::x_::y11::y12::y13::y14::y15::y16::x::Z) M=wpE W e (y0::y1::y2::y3::y4::y5::y6::y7::y8::y9::x_::y11::y12::y13::y14::y15::y16::x::Z) M (λv M1=>De.nx (y0::y1::y2::y3::y4::y5::y6::y7::y8::y9::x_::y11::y12::y13::y14::y15::y16::some v::Z) M1) (ES (y0::y1::y2::y3::y4::y5::y6::y7::y8::y9::x_::y11::y12::y13::y14::y15::y16::x::Z)):=rfl
def iW(B:WB)(f:Nat)(y:D)(R:MH->Prop):VK3:=λx M2=>match x with
  |.ref a=>match M2 a with
   |some (.ins i C ns ds)=>(C=B.b_ i/\i<B.nk/\B.fok i f=true/\ns.length<1000)/\R (put M2 a (.ins i C (ca f ns) (bY f y ns ds)))
   |_=>False
  |_=>False
@[simp ↓] theorem DX{B:WB}{i C ns ds}:iW B f y R (.ref a) (put M a (.ins i C ns ds))=((C=B.b_ i/\i<B.nk/\B.fok i f=true/\ns.length<1000)/\R (put M a (.ins i C (ca f ns) (bY f y ns ds)))):=by
 simp[iW,ac,ba]
def hZ(is:List Nat)(Z:St3)(k:St3->MH->Prop):VK3:=λx M1=>match x with
  |.tup ds=>ds.length=is.length/\k ((is.zip ds).foldl (λZ p=>Z.set p.1 (some p.2)) Z) M1
  |_=>False
@[simp ↓] theorem F0{i j a b k}:hZ [i,j] Z k (.tup [a,b]) M=k ((Z.set i (some a)).set j (some b)) M:=by
 simp[hZ]
@[simp ↓] theorem GR{is e}:wpS W (.Nx is e) De ES Z M=wpE W e Z M (hZ is Z De.nx) (ES Z):=rfl
@[simp ↓] theorem FU{e}:wpS W (.expr e) De ES Z M=wpE W e Z M (λ_ M1=>De.nx Z M1) (ES Z):=rfl
@[simp ↓] theorem GY{e}:wpS W (.ret e) De ES Z M=wpE W e Z M De.rt (ES Z):=rfl
@[simp ↓] theorem FQ:wpS W .LR De ES Z M=De.rt .i_ M:=rfl
@[simp ↓] theorem FY:wpS W .dead De ES Z M=False:=rfl
@[simp ↓] theorem FZ{o f e}:wpS W (.KY o f e) De ES Z M=wpE W e Z M (λy M1=>wpE W o Z M1 (iW W.toWB f y (De.nx Z)) (ES Z)) (ES Z):=rfl
@[simp ↓] theorem DH{o i e}:wpS W (.A_ o i e) De ES Z M=wpE W e Z M (λy M1=>wpE W o Z M1 (λx M2=>wpE W i Z M2 (λk M3=>aE x k y M3 λM4=>De.nx Z M4) (ES Z)) (ES Z)) (ES Z):=rfl
@[simp ↓] theorem GZ{c a b}:wpS W (.ifs c a b) De ES Z M=wpT W c Z M (λk M1=>if k=true then aR W a De ES Z M1 else aR W b De ES Z M1) (ES Z):=rfl
def aJ(W:WC)(tg:ITg)(body:ISs)(ES:St3->XN)(S:MH->Prop)(De:Ends3):List D->St3->MH->Prop:=eA (wpG tg) (λD Z M=>aR W body D ES Z M) S De
@[simp ↓] theorem Gc{tg it body}:wpS W (.C_ tg it body) De ES Z M=wpI W it Z M (λds S M1=>aJ W tg body ES S De ds Z M1) (ES Z):=rfl
theorem aS{tg body S}:aJ W tg body ES S De [] Z M=(S M/\De.nx Z M):=rfl
theorem ar{tg body S d r}:aJ W tg body ES S De (d::r) Z M=(S M/\wpG tg d Z M λK_ M2=>aR W body {De with nx:=aJ W tg body ES S De r,ct:=aJ W tg body ES S De r,bk:=De.nx} ES K_ M2):=rfl
def lf(W:WC)(e:IE)(De:Ends3)(E:XN)(Z:St3):VK3:=λx M1=>match x with
  |.ref a=>match M1 a with
   |some (.lst _)=>wpE W e Z M1 (λy M2=>match M2 a with
    |some (.lst ds)=>ds.length<sizeLine/\De.nx Z (put M2 a (.lst (ds++[y])))
    |_=>False) E
   |_=>False
  |_=>False
@[simp ↓] theorem G7{o e}:wpS W (.app o e) De ES Z M=wpE W o Z M (lf W e De (ES Z) Z) (ES Z):=rfl
def cJ(p:Addr)(De:Ends3)(Z:St3):VK3:=λy M2=>match M2 p with
    |some (.lst ds)=>ds.length<sizeLine/\De.nx Z (put M2 p (.lst (ds++[y])))
    |_=>False
@[simp ↓] theorem Fv{e E p ds}:lf W e De E Z (.ref p) (put M p (.lst ds))=wpE W e Z (put M p (.lst ds)) (cJ p De Z) E:=by
 unfold lf;simp only[ac];rfl
@[simp ↓] theorem Dh{p ds y}:cJ p De Z y (put M p (.lst ds))=(ds.length<sizeLine/\De.nx Z (put M p (.lst (ds++[y])))):=by
 unfold cJ;simp only[ac,ba]
@[simp ↓] theorem yg{i d k}:wpG (.name i) d Z M k=k (Z.set i (some d)) M:=rfl
@[simp ↓] theorem GU{is d k}:wpG (.tup is) d Z M k=hZ is Z k d M:=rfl
end
section
variable {i j:Int}{x:D}
@[simp ↓] theorem IC:le .Add (.int i) (.int j) M Q=Q (.int (i+j)) M:=rfl
@[simp ↓] theorem HQ:le .Sub (.int i) (.int j) M Q=Q (.int (i-j)) M:=rfl
@[simp ↓] theorem Ib:le .Mult (.int i) (.int j) M Q=(cQ i j/\Q (.int (i*j)) M):=rfl
@[simp ↓] theorem HF:le .FloorDiv (.int i) (.int j) M Q=(lA i j/\Q (.int (i / j)) M):=rfl
@[simp ↓] theorem Ii:le .Mod (.int i) (.int j) M Q=(0<j/\Q (.int (i % j)) M):=rfl
@[simp ↓] theorem HU:le .Pow (.int i) (.int j) M Q=(uF i j/\Q (.int (i ^ j.toNat)) M):=rfl
@[simp ↓] theorem Ik:rNeg (.int i) M Q=Q (.int (-i)) M:=rfl
@[simp ↓] theorem Ja:aI .Lt (.int i) (.int j) M Q=Q (.bl (decide (i<j))) M:=rfl
@[simp ↓] theorem IY:aI .LtE (.int i) (.int j) M Q=Q (.bl (decide (i<=j))) M:=rfl
@[simp ↓] theorem Je:aI .Gt (.int i) (.int j) M Q=Q (.bl (decide (j<i))) M:=rfl
@[simp ↓] theorem Im:aI .Eq (.int i) (.int j) M Q=Q (.bl (decide (i=j))) M:=by simp[aI,ij,rs,am,plN,eqD]
@[simp ↓] theorem IJ:aI .NotEq (.int i) (.int j) M Q=Q (.bl (!decide (i=j))) M:=by simp[aI,ij,rs,am,plN,eqD]
@[simp ↓] theorem Hu:aI .Eq (.str s) (.str t) M Q=Q (.bl (decide (s=t))) M:=by simp[aI,ij,rs,am,plN,eqD]
@[simp ↓] theorem Iy:aI .Is x .i_ M Q=Q (.bl x.isN) M:=by simp[aI,tL]
@[simp ↓] theorem Gv:aI .IsNot x .i_ M Q=Q (.bl (!x.isN)) M:=by simp[aI,tL]
@[simp] theorem Fq:(D.int i).isN=false:=rfl
@[simp] theorem Fy:D.i_.isN=true:=rfl
@[simp ↓] theorem Id{d l}:ao (.tup (d::l)) (.int 0) M Q=Q d M:=by simp[ao,ax,tf]
@[simp ↓] theorem Ir{d e l}:ao (.tup (d::e::l)) (.int 1) M Q=Q e M:=by simp[ao,ax,uy]
@[simp ↓] theorem Hy{d e f l}:ao (.tup (d::e::f::l)) (.int 2) M Q=Q f M:=by simp[ao,ax,tD]
@[simp ↓] theorem Iv{d e f g l}:ao (.tup (d::e::f::g::l)) (.int 3) M Q=Q g M:=by simp[ao,ax,vW]
@[simp ↓] theorem HA{d e f g h l}:ao (.tup (d::e::f::g::h::l)) (.int 4) M Q=Q h M:=by
 have:atI (d::e::f::g::h::l) 4=some h:=bO (j:=4) rfl;simp[ao,ax,this]
theorem vY{ds y}(h:M a=some (.lst ds)):ao (.ref a) y M Q=ao (.g_ ds) y M Q:=by
 cases y<;>simp[ao,ax,am,h]
@[simp ↓] theorem DJ{ds}:rBi (.list true) [.g_ ds] M Q=(ds.length<=sizeLine/\Q (.g_ ds) M):=rfl
@[simp ↓] theorem IL{d l}:ao (.g_ (d::l)) (.int 0) M Q=Q d M:=by simp[ao,ax,am,tf]
@[simp ↓] theorem HY{d e l}:ao (.g_ (d::e::l)) (.int 1) M Q=Q e M:=by simp[ao,ax,am,uy]
@[simp ↓] theorem Ip{d e f l}:ao (.g_ (d::e::f::l)) (.int 2) M Q=Q f M:=by simp[ao,ax,am,tD]
@[simp ↓] theorem Iw{d e f g l}:ao (.g_ (d::e::f::g::l)) (.int 3) M Q=Q g M:=by simp[ao,ax,am,vW]
@[simp ↓] theorem FD{ds}:rBi .len [.tup ds] M Q=Q (.int ds.length) M:=rfl
@[simp ↓] theorem Fz{ds}:rBi .len [.g_ ds] M Q=Q (.int ds.length) M:=rfl
@[simp ↓] theorem Go:rBi .abs [.int i] M Q=Q (.int (if i<0 then -i else i)) M:=rfl
@[simp ↓] theorem Gx:rBi .max [.int i,.int j] M Q=Q (.int (if j > i then j else i)) M:=rfl
@[simp ↓] theorem GB:rBi .min [.int i,.int j] M Q=Q (.int (if j<i then j else i)) M:=rfl
@[simp ↓] theorem Ig{ds}:dX true ds M Q=(ds.length<=sizeLine/\Q (.g_ ds) M):=by simp[dX]
@[simp ↓] theorem GA{ds es}:jw true (.g_ ds) (.g_ es) M Q=((ds++es).length<=sizeLine/\Q (.g_ (ds++es)) M):=by simp[jw,am,dX]
@[simp ↓] theorem HL{ds}:dX false ds M Q=(ds.length<=sizeLine/\∀p,M p=none->Q (.ref p) (put M p (.lst ds))):=by simp[dX]
theorem au(h:n<=1000):(n<=sizeLine)=True:=eq_true (JF h (by decide))
theorem Fb(h:n<1000):(n<sizeLine)=True:=eq_true (Jw h (by decide))
@[simp ↓] theorem FA{t}:pk t (.int i) M Q=Q (.bl (match t with|.int=>true|_=>false)) M:=rfl
@[simp ↓] theorem FM{t ds}:pk t (.tup ds) M Q=Q (.bl (match t with|.tuple=>true|_=>false)) M:=rfl
end
section
variable {W:WC}{tg:ITg}{cond:ITO}{I_:IE}{p:Addr}{Q:VK3}{Z:St3}{M:MH}{ys:List D}
@[simp ↓] theorem FS{ds}:jb Q (.ref p) (put M p (.lst ds))=Q (.g_ ds) (L2.del (put M p (.lst ds)) p):=by
 simp only[jb,ac]
def Fm(M:MH):Prop:=∃n,∀p,n<=p->M p=none
theorem Fm.nil:Fm (λ_=>none):=⟨0,λ_ _=>rfl⟩
theorem ut{M:MH}(h:Fm M){p:Prop}:(∀a:Addr,M a=none->p)=p:=propext ⟨λf=>let ⟨n,k⟩:=h;f n (k n (Jp _)),λf _ _=>f⟩
theorem Fm.put{M:MH}(h:Fm M)(p:Addr)(o:DO):Fm (put M p o):=by
 obtain⟨n,h⟩:=h;refine⟨max n (p+1),λq hq=>?_⟩
 rw[af (Nat.ne_of_gt (Nat.lt_of_succ_le (JF (Nat.le_max_right n (p+1)) hq)))];exact h q (JF (Nat.le_max_left _ _) hq)
theorem aC{M:MH}(hM:Fm M){P:Addr->Prop}{q:Prop}(h:∀p,M p=none->P p=q):(∀p,M p=none->P p)=q:=by
 rw[<-ut hM (p:=q)];exact forall_congr λp=>implies_congr_ctx rfl λhp=>h p hp
theorem EA{cs:List Int}(h1 : -(cs.length:Int)<=i)(h2:i<cs.length):∃x,atI (cs.map D.int) i=some (.int x):=by
 unfold atI ixN;rw[Jv];by_cases h:0<=i
 ·have hk:i.toNat<cs.length:=by omega
  rw[Js h,Js h2];exact⟨cs[i.toNat],by simp[JG hk]⟩
 ·have hk:(i+cs.length).toNat<cs.length:=by omega
  rw[Jm h,Js h1];exact⟨cs[(i+cs.length).toNat],by simp[JG hk]⟩
theorem j9(h:atI ds i=some x):ao (.g_ ds) (.int i) M Q=Q x M:=by simp[ao,ax,am,h]
theorem C4(ns:List Int)(k:Nat):cZ (ns.map D.int) none (some (k:Int))=(ns.take k).map D.int:=by
 have h:¬ ((k:Int)<0):=by omega
 unfold cZ HT.sIx;simp[h]
theorem bW(h:put M p o q=none):q≠p/\M q=none:=by
 unfold put at h;split at h
 ·cases h
 ·exact⟨by assumption,h⟩
theorem wJ(hp:M p=none)(hq:q≠p):L2.del (put (put M p o) q u) p=put M q u:=by
 funext a;unfold L2.del put;by_cases e:a=p
 ·subst e;simp[JA hq,hp]
 ·simp[e]
def Ext(M M':MH):Prop:=Fm M'/\∀a o,M a=some o->M' a=some o
theorem Ext.put{M:MH}(hM:Fm M){p:Addr}(h:M p=none)(o:DO):Ext M (put M p o):=⟨hM.put _ _,λa u e=>by rw[af (λz=>by rw[z,h]at e;cases e)];exact e⟩
section
variable {W:WC}{Z:St3}{M:MH}{Q:VK3}{tg:ITg}{cond:ITO}{I_:IE}{p:Addr}{S:MH->Prop}
theorem pP{d:D}{r ys:List D}:n8 W tg cond I_ S p Q (d::r) ys Z M=(S M/\ys.length<sizeLine/\wpG tg d Z M λK_ M2=>pf W cond K_ M2 (λb M3=>if b=true then wpE W I_ K_ M3 (λy M4=>M4 p=some (.lst ys)/\n8 W tg cond I_ S p Q r (ys++[y]) K_ (put M4 p (.lst (ys++[y])))) (λ_ _=>False) else n8 W tg cond I_ S p Q r ys K_ M3) (λ_ _=>False)):=rfl
theorem lu{α:Type}(φ:α->D)(P:St3->Prop)(st:α->St3)(c:α->Bool)(f:α->D):∀(ds:List α)(ys:List D)(Z:St3) {M:MH},P Z->Fm M->M p=none->ys.length+ds.length<sizeLine->(∀M',Ext M M'->S M')->
  (∀d∈ds,P (st d)/\∀Z,P Z->∀(M:MH)(k:St3->MH->Prop),wpG tg (φ d) Z M k=k (st d) M)->
  (∀d∈ds,∀M',Ext M M'->∀Q:Bool->MH->Prop,pf W cond (st d) M' Q (λ_ _=>False)=Q (c d) M')->
  (∀d∈ds,c d=true->∀M',Ext M M'->∀Q,wpE W I_ (st d) M' Q (λ_ _=>False)=Q (f d) M')->
  n8 W tg cond I_ S p Q (ds.map φ) ys Z (put M p (.lst ys))=Q (.ref p) (put M p (.lst (ys++(ds.filter c).map f)))
 |[],ys,Z,M,h0,hM,hp,hl,hS,hg,hc,he=>by
  show (S (put M p (.lst ys))/\Q (.ref p) (put M p (.lst ys)))=_;simp[hS _ (.put hM hp _)]
 |d::ds,ys,Z,M,h0,hM,hp,hl,hS,hg,hc,he=>by
  have Ng:ys.length+(ds.length+1)<sizeLine:=hl;obtain⟨g1,g2⟩:=hg d Jo;have ih:=λys hy=>lu φ P st c f ds ys (st d) g1 hM hp hy hS (λe h=>hg e (Jk _ h)) (λe h=>hc e (Jk _ h)) (λe h=>he e (Jk _ h))
  rw[List.map_cons,pP,g2 Z h0,hc d Jo _ (.put hM hp _),eq_true (hS _ (.put hM hp _)),true_and];cases q:c d with
  |true=>
   rw[Js rfl,he d Jo q _ (.put hM hp _),ac,ba,ih _ (by rw[JR,List.length_singleton];omega)]
   simp only[List.filter_cons,q,if_true,List.map_cons,List.append_assoc,List.singleton_append,true_and];rw[eq_true (show ys.length<sizeLine by omega),true_and]
  |false=>
   rw[Jm JH,ih _ (by omega)]
   simp only[List.filter_cons,q,Kh,if_false];rw[eq_true (show ys.length<sizeLine by omega),true_and]
theorem fg{α:Type}{ds:List α}(φ:α->D)(P:St3->Prop)(st:α->St3)(c:α->Bool)(f:α->D)(h0:P Z)(hM:Fm M)(hl:ds.length<10000)
  (hg:∀d∈ds,P (st d)/\∀Z,P Z->∀(M:MH)(k:St3->MH->Prop),wpG tg (φ d) Z M k=k (st d) M)
  (hc:∀d∈ds,∀M',Ext M M'->∀Q:Bool->MH->Prop,pf W cond (st d) M' Q (λ_ _=>False)=Q (c d) M')
  (he:∀d∈ds,c d=true->∀M',Ext M M'->∀Q,wpE W I_ (st d) M' Q (λ_ _=>False)=Q (f d) M') (hS:∀M',Ext M M'->S M':=by exact λ_ _=>trivial) :
  kL W tg cond I_ S Q (ds.map φ) Z M=Q (.g_ ((ds.filter c).map f)) M:=
 aC hM λp hp=>(lu φ P st c f ds [] Z h0 hM hp (by rw[List.length_nil,Nat.zero_add];exact Nat.lt_trans hl (by decide)) hS hg hc he).trans (by simp[jb,ac,gY hp])
theorem gw{α:Type}{aU:St3}{x:Option D}{ds:List α}(φ:α->D)(c:α->Bool)(f:α->D)(hM:Fm M)(hl:ds.length<10000)
  (hc:∀d∈ds,∀M',Ext M M'->∀Q:Bool->MH->Prop,pf W cond (some (φ d)::aU) M' Q (λ_ _=>False)=Q (c d) M')
  (he:∀d∈ds,c d=true->∀M',Ext M M'->∀Q,wpE W I_ (some (φ d)::aU) M' Q (λ_ _=>False)=Q (f d) M') (hS:∀M',Ext M M'->S M':=by exact λ_ _=>trivial) :
  kL W (.name 0) cond I_ S Q (ds.map φ) (x::aU) M=Q (.g_ ((ds.filter c).map f)) M:=
 fg φ (λZ=>∃y,Z=y::aU) (λd=>some (φ d)::aU) c f ⟨x,rfl⟩ hM hl (λd _=>⟨⟨_,rfl⟩,λZ ⟨y,e⟩ M k=>by subst e;rfl⟩) hc he hS
end
theorem wa(P:St3->Prop)(hS:S M)(h0:P Z)(step:∀d∈ds,∀Z,P Z->∀k:St3->MH->Prop,(∀m_,P m_->k m_ M)->wpG tg d Z M λK_ M2=>aR W body {De with nx:=k,ct:=k,bk:=De.nx} ES K_ M2)(done:∀Z,P Z->De.nx Z M) :
  aJ W tg body ES S De ds Z M:=by
 induction ds generalizing Z with
 |nil=>rw[aS];exact⟨hS,done Z h0⟩
 |cons d ds ih=>
  rw[ar];exact⟨hS,step d Jo Z h0 _ λm_ p=>ih p λe he=>step e (Jk _ he)⟩
theorem tG(g:α->D)(f:α->Bool)(xs:List α)(h:∀x∈xs,g x=.bl (f x)):eV (xs.map g)=some (xs.map f):=by
 induction xs with
 |nil=>rfl
 |cons a r ih=>
  rw[List.map_cons,h a Jo];simp only[eV];rw[ih λx hx=>h x (Jk _ hx)]
  rfl
theorem zu(f:α->Bool){xs:List α}(h:∀x∈xs,g x=.bl (f x)):rBi .all [.g_ (xs.map g)] M Q=Q (.bl (xs.all f)) M:=by
 simp only[rBi,am,tG g f xs h];simp[List.all_map,Function.comp_def]
end
end L2
namespace L2
open PySem PySem.NumText PyProof.Rows StrLaws
end L2
namespace HD
open PySem PySem.W PyProof.Rows L2
noncomputable def pw:Program:=PySem.Challenge.pw_driftmeet_k46_the_spread_of_names
noncomputable def top(i:Nat):Stmt:=PySem.Challenge.pw_driftmeet_k46_the_spread_of_names.main.body.getD i (.Pass ⟨0,0,0,0⟩)
noncomputable abbrev R(a:Nat):Value:=.ref a
noncomputable abbrev I(i:Nat):Value:=.int i 0
noncomputable abbrev e(P:Params)(s:String)(t:Nat)(v:Value):DictEntry:=⟨PyData.keyHash P s,.str s t,v⟩
noncomputable abbrev co(n:String)(a:Nat)(m:String)(b c d e g h i j:Nat)(k:Bool)(l o q r s:Nat):Data:=.fields #[.str n a,.str m b,.str "/claim/cut.py" c,I d,I e,I g,I h,I i,R j,.bool k,I l,R o,.none,.none,.none,.none,I q,I r,.str "/claim/cut.py" s]
noncomputable abbrev cp(n:String)(a:Nat)(m:String)(b c d e g h i j:Nat)(k:Bool)(l o x y z q r s:Nat):Data:=.fields #[.str n a,.str m b,.str "/claim/cut.py" c,I d,I e,I g,I h,I i,R j,.bool k,I l,R o,.none,R x,R y,R z,I q,I r,.str "/claim/cut.py" s]
noncomputable abbrev v0:Value:=.type "dict"
noncomputable abbrev v1:Value:=.type "object"
noncomputable abbrev v2:Value:=.str "driftmeet.errors" 194
noncomputable abbrev v3:Value:=.type "type"
noncomputable abbrev v4:Value:=.builtin "object.__new__"
noncomputable abbrev v5:Value:=.str "driftmeet.nets" 674
noncomputable abbrev v6:Value:=.type "ValueError"
noncomputable abbrev v7:Value:=.str "driftmeet.happenings" 328
noncomputable abbrev v8:Value:=.builtin "ValueError.__new__"
noncomputable abbrev F:=Params->Obj
noncomputable abbrev fo(n q:String)(s:Stmt)(m:String)(t c:Nat):F:=λ_=>⟨.type "function",none,.func (fnOf n q (bG s) (aV s) (ay s) .none .none .none (.str m t) none (.ref c) .none),#[]⟩
noncomputable abbrev fp(n q:String)(s:Stmt):F:=λ_=>⟨.none,none,.func {fnOf n q (bG s) (aV s) (ay s) .none .none .none .none none .none .none with globals:=0,builtins:=0},#[]⟩
noncomputable abbrev vf(l:Array Value):F:=λ_=>⟨.none,none,.fields l,#[]⟩
noncomputable abbrev tu(l:Array Value):F:=λ_=>⟨.type "tuple",none,.seq l 0,#[]⟩
noncomputable abbrev cd(d:Data):F:=λ_=>⟨.type "code",none,d,#[]⟩
noncomputable abbrev bf(a:String)(b:Nat):F:=λ_=>⟨.type "builtin_function_or_method",none,.fields #[.builtin a,.ref b],#[]⟩
noncomputable abbrev n(o:F)(x y:Params->W.BT):Params->W.BT:=λP=>.node (o P) (x P) (y P)
noncomputable abbrev z:Params->W.BT:=λ_=>.nil
noncomputable abbrev l(o:F):Params->W.BT:=λP=>.node (o P) .nil .nil
noncomputable abbrev x0(a:String)(b:Nat)(c:String)(d:Nat)(f:Nat)(g:Nat)(h:Nat):F:=cd (cp a b c (b+1) (b+2) d f 0 0 3 g true 181 (g+1) (g+2) (g+3) (g+4) h d (h+1))
noncomputable abbrev x1(a:String)(b:Nat):F:=fp a a (top b)
noncomputable abbrev x2(a:String)(b:Nat)(c:String)(d:Nat)(f:Nat):F:=fo a a (top b) c d f
noncomputable abbrev x3(a:String)(b:String)(c:Nat)(d:Nat):F:=fp a b (aj (top c) d)
noncomputable abbrev x4(a:String)(b:String)(c:Nat)(d:Nat)(f:String)(g:Nat)(h:Nat):F:=fo a b (aj (top c) d) f g h
noncomputable abbrev x5(a:String)(b:Nat):F:=tu #[(.str a b)]
noncomputable abbrev x6(a:String)(b:Nat)(c:String)(d:String):F:=tu #[(.str a b),(.str c (b+1)),(.str d (b+2))]
noncomputable abbrev x7(a:String)(b:Nat)(c:Nat)(d:Nat):F:=cd (co a b a (b+1) (b+2) c 0 0 0 0 d false 181 (d+1) (b+3) c (b+4))
noncomputable abbrev x8(a:Nat)(b:Nat)(c:String)(d:Nat):F:=λ_=>⟨(.type "frame"),none,.plain,#[some (R a),some (R 3),some (R b),none,some (.str c d),none,some (R 0)]⟩
noncomputable abbrev x9(a:String)(b:Nat)(c:String):F:=tu #[(.str a b),(.str c (b+1))]
noncomputable abbrev x10(a:Nat):F:=λ_=>⟨(.type "super"),none,(.fields #[(R a),(R a),(R a)]),#[]⟩
noncomputable abbrev x11(a:Nat):F:=bf "object.__init_subclass__" a
noncomputable abbrev x12(a:String)(b:Nat)(c:String)(d:String)(f:String):F:=tu #[(.str a b),(.str c (b+1)),(.str d (b+2)),(.str f (b+3))]
noncomputable abbrev x13(a:String)(b:Nat)(c:String)(d:String)(f:String)(g:String):F:=tu #[(.str a b),(.str c (b+1)),(.str d (b+2)),(.str f (b+3)),(.str g (b+4))]
noncomputable abbrev x14(a:Nat)(b:String)(c:Nat)(d:Nat):F:=λP=>⟨v0,none,(.dict #[e P "__module__" a v2,e P "__qualname__" (a+2) (.str b (a+1)),e P "__firstlineno__" (a+4) (.int c (a+3)),e P "__static_attributes__" (a+5) (R d)] 4),#[]⟩
noncomputable abbrev x15(a:String)(b:Nat)(c:Nat)(d:Nat):F:=λ_=>⟨v3,none,(.cls ⟨a,[(R 31)],[(R b),(R 31),v6,(.type "Exception"),(.type "BaseException"),v1],(b-1),a,true,[],[],false,none,false⟩),#[some (R c),none,some (.str a d),some (.str a (d+8)),some v8,some (.bool true)]⟩
noncomputable abbrev x16(a:Nat)(b:Nat)(c:Nat):F:=λP=>⟨v0,none,(.dict #[e P "__module__" a v2,e P "__firstlineno__" (a+4) (.int b (a+3)),e P "__static_attributes__" (a+5) (R c),e P "__doc__" (a+6) .none] 2),#[]⟩
noncomputable abbrev x17(a:Nat)(b:Nat)(c:Nat)(d:Nat)(f:String)(g:Nat)(h:Nat)(i:String)(j:Nat)(k:Nat)(m:String)(o:Nat)(p:Nat):F:=λP=>⟨v0,none,(.dict #[e P "__module__" a v7,e P "__firstlineno__" (a+4) (.int b (a+3)),e P "__init__" c (R d),e P f g (R h),e P i j (R k),e P m o (R (k+1)),e P "__doc__" (o+1) .none] p),#[]⟩
noncomputable abbrev x18(a:String)(b:Nat)(c:Nat)(d:Nat)(f:Nat):F:=cd (.fields #[(.str a b),(.str a (b+1)),(.str "/claim/cut.py" (b+2)),(I c),(I d),(I 0),(I 0),(I 3),(R f),(.bool true),(I 181),(R (f+1)),.none,.none,.none,(R (f+2)),(I (b+3)),(I c),(.str "/claim/cut.py" (b+4))])
noncomputable abbrev x19(a:Nat)(b:Nat):F:=λ_=>⟨(.type "getset_descriptor"),none,(.fields #[(.str "__weakref__" a),(R b),(.builtin "ExceptionGroup.__weakref__"),.none]),#[]⟩
noncomputable abbrev x20(a:Nat)(b:String)(c:Nat)(d:Nat)(f:Nat)(g:Nat)(h:Nat):F:=λP=>⟨v0,none,(.dict #[e P "__module__" a v7,e P "__qualname__" (a+2) (.str b (a+1)),e P "__firstlineno__" (a+4) (.int c (a+3)),e P "__init__" d (R f),e P "row" (d+7) (R (f+7)),e P "own_bounds" g (R (f+14)),e P "__static_attributes__" h (R (f+15))] 7),#[]⟩
noncomputable abbrev x21(a:Nat)(b:Nat)(c:Nat):F:=vf #[(I a),(I 4),(R b),(I c),(I 4),(R (b+7)),(I (c+3)),(I 4),(R (b+14))]
noncomputable abbrev x22(a:String)(b:Nat)(c:Nat):F:=λ_=>⟨v3,none,(.cls ⟨a,[(R 138)],[(R b),(R 138),v1],(b-1),a,true,[],[],false,none,false⟩),#[some (R (b-30)),none,some (.str a c),some (.str a (c+8)),some v4,some (.bool true)]⟩
noncomputable abbrev x23(a:String)(b:Nat)(c:String)(d:String)(f:String)(g:String)(h:String)(i:String)(j:String):F:=tu #[(.str a b),(.str c (b+1)),(.str d (b+2)),(.str f (b+3)),(.str g (b+4)),(.str h (b+5)),(.str i (b+6)),(.str j (b+7))]
noncomputable abbrev x24(a:Nat)(b:Nat):F:=λ_=>⟨(.type "getset_descriptor"),none,(.fields #[(.str "__dict__" a),(R b),(.builtin "function.__dict__"),(.builtin "function.__dict__#set")]),#[]⟩
noncomputable abbrev x25(a:Nat)(b:Nat)(c:String)(d:Nat)(f:Nat)(g:String)(h:Nat)(i:Nat):F:=λP=>⟨v0,none,(.dict #[e P "__module__" a v2,e P "__firstlineno__" (a+4) (.int b (a+3)),e P c d (R f),e P g (d+2) (R h),e P "__doc__" (d+3) .none] i),#[]⟩
noncomputable abbrev x26(a:Nat)(b:String)(c:Nat)(d:String)(f:Nat)(g:Nat)(h:Nat)(i:Nat):F:=λP=>⟨v0,none,(.dict #[e P "__module__" a (.str b c),e P "__qualname__" (a+2) (.str d (a+1)),e P "__firstlineno__" (a+4) (.int f (a+3)),e P "__init__" g (R h),e P "__static_attributes__" i (R (h+1))] 5),#[]⟩
noncomputable abbrev x27(a:String)(b:Nat)(c:Nat):F:=λ_=>⟨v3,none,(.cls ⟨a,[v1],[(R b),v1],(b-1),a,true,[],[],false,none,false⟩),#[none,none,some (.str a c),some (.str a (c+8)),some v4,some (.bool true)]⟩
noncomputable def o0:F:=tu #[]
noncomputable def o1:F:=vf #[]
noncomputable def o2:F:=x7 "<module>" 182 1 11
noncomputable def o3:F:=x8 13 3 "__main__" 164
noncomputable def o11:F:=λ_=>⟨(.type "builtin_function_or_method"),none,(.fields #[(.builtin "type.__prepare__"),v3]),#[]⟩
noncomputable def o20:F:=tu #[(R 31)]
noncomputable def o89:F:=tu #[(R 138)]
noncomputable def env:Env:={scope:=pw.main.scope,locals:=mainNs,globals:=mainNs,cells:=[],code:=(R 13),frame:=some 14}
noncomputable def bE:List Stmt:=behindTheImports pw
noncomputable def b(i:Nat):Stmt:=bE.getD i (.Pass ⟨0,0,0,0⟩)
noncomputable def cE:Code:=.body bE env
noncomputable def qF:List Frame:=[topFrame ⟨0,0,0,0⟩]
noncomputable def an:Option Value:=(some (R 6))
noncomputable def hA(P:Params):Heap:=⟨⟨[boot_o_0 P,boot_o_1 P,boot_o_2 P,boot_o_3 P,boot_o_4 P,boot_o_5 P,boot_o_6 P,boot_o_7 P,boot_o_8 P,boot_o_9 P,boot_o_10 P,o0 P,o1 P,o2 P,o3 P]⟩,{}⟩
noncomputable def sA(w:World)(os:OsState):Shared:=⟨hA w.params,⟨[]⟩,{},187,os⟩
noncomputable def t0:Params->W.BT:=(n boot_o_0 (n boot_o_1 (n boot_o_3 (l boot_o_7) (l o0)) (n boot_o_5 (l boot_o_9) (l o2))) (n boot_o_2 (n boot_o_4 (l boot_o_8) (l o1)) (n boot_o_6 (l boot_o_10) (l o3))))
noncomputable def s0(w:World)(os:OsState):SharedT:=⟨t0 w.params,15,{},⟨[]⟩,{},187,os⟩
noncomputable def t1:Params->W.BT:=(n boot_o_0 (n boot_o_1 (n (λP=>⟨v0,none,(.dict #[e P "__name__" 165 (.str "law_driftmeet_k46_the_spread_of_names" 984),e P "__doc__" 166 .none,e P "__package__" 167 .none,e P "__loader__" 168 (.builtin "__main__.__loader__#opaque"),e P "__spec__" 169 .none,e P "__annotations__" 170 (R 6),e P "__builtins__" 171 (R 4),e P "__file__" 173 (.str "/claim/cut.py" 172),e P "__cached__" 174 .none,e P "_wall" 193 (R 21),e P "DriftError" 213 (R 31),e P "NoHand" 229 (R 44),e P "NoClock" 245 (R 56),e P "NoWay" 261 (R 68),e P "NoHappening" 277 (R 80),e P "NoName" 293 (R 92),e P "Ring" 318 (R 111),e P "is_whole" 327 (R 120),e P "NOUGHT" 333 (R 121),e P "Happening" 364 (R 138),e P "Look" 405 (R 173),e P "Sight" 450 (R 206),e P "Send" 493 (R 239),e P "Take" 538 (R 272),e P "are_wholes" 544 (R 279),e P "is_letter" 551 (R 286),e P "happening" 559 (R 293),e P "count_on" 570 (R 300),e P "names" 580 (R 307),e P "clock_bounds" 592 (R 314),e P "bounds" 606 (R 321),e P "refuse_unknown" 616 (R 328),e P "go_on" 630 (R 335),e P "settle" 643 (R 342),e P "way_by" 652 (R 349),e P "spans" 661 (R 356),e P "road" 672 (R 363),e P "road_roads" 673 (R 363),e P "Net" 803 (R 458),e P "net_of" 818 (R 469),e P "net_for" 831 (R 476),e P "between" 843 (R 483),e P "spread" 857 (R 490),e P "MOST_HANDS" 861 (.int 6 860),e P "refuse_clock" 869 (R 497),e P "refuse_lengths" 877 (R 504),e P "World" 983 (R 577),e P "_law_cell_at" 993 (R 588),e P "_law_stream" 1004 (R 595),e P "_law_way" 1013 (R 602),e P "_law_world" 1029 (R 609),e P "_law_made" 1035 (R 614),e P "_law_lag" 1049 (R 621),e P "_law_row" 1055 (R 626),e P "_law_sent" 1065 (R 633),e P "_law_tale" 1071 (R 638),e P "_law_whole" 1078 (R 645),e P "_law_name" 1085 (R 652),e P "_law_names" 1095 (R 659),e P "_law_no_more" 1103 (R 666),e P "_law_alike" 1111 (R 673),e P "law" 1117 (R 678)] 62),#[]⟩) (n boot_o_7 (n o0 (n (λ_=>⟨v3,none,(.cls ⟨"DriftError",[v6],[(R 31),v6,(.type "Exception"),(.type "BaseException"),v1],30,"DriftError",true,[],[(R 44),(R 56),(R 68),(R 80),(R 92),(R 111)],false,none,false⟩),#[some (R 22),none,some (.str "DriftError" 196),some (.str "DriftError" 204),some v8,some (.bool true)]⟩) (n o1 (n (x7 "Happening" 336 27 125) (n (x4 "__init__" "Take.__init__" 17 0 "driftmeet.happenings" 328 254) (l (x8 510 507 "driftmeet.worlds" 858)) z) (n (x0 "refuse_ring" 695 "Net.refuse_ring" 167 4 378 703) (l o0) z)) (n o1 (n (x1 "bounds" 26) (l (x9 "kept_clocks" 974 "kept_ways")) z) (l (x4 "road" "Net.road" 36 10 "driftmeet.nets" 674 446)))) (n o20 (n (x5 "self" 389) (n o0 (l o0) z) (n (x6 "self" 743 "x" "y") (l (x1 "_law_alike" 62)) z)) (n o0 (n o1 (l (x1 "_law_world" 52)) z) (l (tu #[(.str "world" 835),(.str "log" 836),(.str "x" 837),(.str "y" 838),(.str "net" 839),(.str "back" 840)]))))) (n o20 (n (x16 269 13 78) (n o89 (n (x17 501 65 515 255 "row" 522 262 "own_bounds" 533 269 "__static_attributes__" 535 2) (l o1) z) (n o0 (l (x12 "_law_log" 1089 "_law_many" "_law_found" "_law_row_here")) z)) (n (x10 206) (n (x2 "go_on" 29 "driftmeet.roads" 607 334) (l (x13 "_law_cell" 997 "_law_many" "_law_found" "_law_number" "_law_k")) z) (l o0))) (n (x15 "Ring" 111 95 294) (n (x11 173) (n (x12 "log" 574 "counts" "told" "row") (l (x0 "has_way" 948 "World.has_way" 298 3 554 954)) z) (l (x3 "times" "Net.times" 36 8))) (n (x22 "Send" 239 451) (n o0 (l o1) z) (l (x1 "refuse_clock" 45)))))) (n o11 (n o1 (n o20 (n (x4 "__init__" "Happening.__init__" 13 0 "driftmeet.happenings" 328 134) (n o0 (l o0) z) (n (x4 "name" "Net.name" 36 2 "driftmeet.nets" 674 390) (l o1) z)) (n (x6 "self" 439 "world" "name") (n (x0 "refuse_unknown" 609 "refuse_unknown" 123 2 322 614) (l o1) z) (l (λ_=>⟨(.type "function"),none,(.func (fnOf "latest" "Net.latest" (bG (aj (top 36) 11)) (aV (aj (top 36) 11)) (ay (aj (top 36) 11)) (R 448) .none .none v5 none (R 454) .none)),#[]⟩)))) (n o1 (n o0 (n o1 (l (x3 "has_hand" "World.has_hand" 47 5)) z) (l o0)) (n o1 (n (x13 "edges" 665 "x" "y" "sums" "back") (l o0) z) (l o0)))) (n (x16 237 9 54) (n o1 (n o1 (n (x2 "are_wholes" 18 "driftmeet.happenings" 328 278) (l (x6 "self" 927 "one" "other")) z) (n o1 (l o0) z)) (n (x8 214 211 "driftmeet.happenings" 328) (n o0 (l o0) z) (l o1))) (n (x0 "is_whole" 321 "is_whole" 23 1 114 325) (n o0 (n o0 (l (x4 "clock" "World.clock" 47 7 "driftmeet.worlds" 858 566)) z) (l (x0 "most" 766 "Net.most" 209 3 434 772))) (n (x7 "Take" 496 65 245) (n (x3 "__init__" "Net.__init__" 36 0) (l (x1 "_law_sent" 56)) z) (l (x0 "refuse_lengths" 870 "refuse_lengths" 258 2 498 875))))))) (n o0 (n (x1 "_wall" 0) (n o20 (n (x16 253 11 66) (n (x6 "self" 349 "hand" "reading") (n o0 (l o0) z) (n (x9 "self" 709 "x") (l (x1 "_law_whole" 58)) z)) (n (x0 "row" 429 "Sight.row" 49 1 190 433) (n o1 (l (x19 979 577)) z) (l (x12 "self" 788 "x" "y" "far")))) (n (vf #[(I 19),(I 4),(R 107)]) (n (x4 "row" "Look.row" 14 1 "driftmeet.happenings" 328 162) (n (x1 "happening" 20) (l o0) z) (n (x4 "bound" "Net.bound" 36 6 "driftmeet.nets" 674 418) (l o1) z)) (n (x3 "row" "Send.row" 16 1) (n (x0 "spans" 653 "spans" 148 2 350 659) (l o1) z) (l (x2 "between" 41 "driftmeet.known" 819 482))))) (n o1 (n o20 (n (x21 34 155 37) (n o0 (l (x0 "refuse_hand" 916 "World.refuse_hand" 282 2 526 921)) z) (n (x3 "put_round" "Net.put_round" 36 4) (l (x2 "_law_names" 60 "law_driftmeet_k46_the_spread_of_names" 984 658)) z)) (n (x20 458 "Send" 54 472 222 488 490) (n o0 (l (x2 "_law_stream" 50 "law_driftmeet_k46_the_spread_of_names" 984 594)) z) (l (x1 "net_of" 38)))) (n o1 (n o0 (n (x2 "names" 23 "driftmeet.logs" 560 306) (l (x9 "self" 960 "hand")) z) (l o1)) (n o11 (n o0 (l o0) z) (l o1))))) (n (x7 "DriftError" 198 5 25) (n (x16 221 7 42) (n o1 (n (x24 358 138) (n (x3 "own_bounds" "Take.own_bounds" 17 2) (l (x3 "enter_way" "World.enter_way" 47 1)) z) (n o0 (l (x0 "_law_name" 1079 "_law_name" 402 1 646 1083)) z)) (n (x4 "own_bounds" "Sight.own_bounds" 15 2 "driftmeet.happenings" 328 202) (n (x23 "row" 620 "x" "sums" "back" "fallen" "y" "most" "total") (l (x0 "_law_cell_at" 986 "_law_cell_at" 311 2 582 991)) z) (l (x24 797 458)))) (n (x0 "__init__" 306 "Ring.__init__" 19 2 102 311) (n o0 (n (x0 "count_on" 562 "count_on" 98 2 294 568) (l o1) z) (l o0)) (n (x0 "own_bounds" 480 "Send.own_bounds" 63 3 230 486) (n (x2 "road" 33 "driftmeet.roads" 607 362) (l (x1 "_law_lag" 54)) z) (l o0)))) (n o20 (n (x16 285 15 90) (n (x0 "__init__" 377 "Look.__init__" 34 3 150 383) (n o0 (l (x4 "refuse_pair" "World.refuse_pair" 47 3 "driftmeet.worlds" 858 538)) z) (n (x0 "names" 733 "Net.names" 192 1 406 737) (l o0) z)) (n o0 (n (x1 "way_by" 31) (l o0) z) (l (x0 "net_for" 821 "net_for" 228 3 470 829)))) (n o11 (n (x3 "__init__" "Sight.__init__" 15 0) (n o0 (l o0) z) (l (x6 "self" 778 "x" "y"))) (n (x12 "self" 509 "hand" "reading" "letter") (n o1 (l o1) z) (l (λP=>⟨v0,none,(.dict #[e P "__module__" 885 (.str "driftmeet.worlds" 858),e P "__qualname__" 887 (.str "World" 886),e P "__firstlineno__" 889 (.int 263 888),e P "__init__" 904 (R 518),e P "enter_way" 915 (R 525),e P "refuse_hand" 923 (R 532),e P "refuse_pair" 932 (R 539),e P "hands" 939 (R 546),e P "has_hand" 947 (R 553),e P "has_way" 956 (R 560),e P "clock" 964 (R 567),e P "way" 973 (R 574),e P "__static_attributes__" 976 (R 575)] 13),#[]⟩)))))))) (n boot_o_5 (n boot_o_9 (n (x5 "k" 190) (n (x10 31) (n (x8 64 61 "driftmeet.errors" 194) (n o0 (n o1 (l o1) z) (n o0 (l (x5 "_law_found" 1075)) z)) (n o0 (n (x2 "bounds" 26 "driftmeet.bounds" 581 320) (l (x27 "World" 577 878)) z) (l o0))) (n (x26 301 "driftmeet.errors" 194 "Ring" 17 313 108 315) (n (x3 "row" "Look.row" 14 1) (n (x9 "row" 555 "word") (l (x0 "hands" 933 "World.hands" 292 1 540 937)) z) (n (x3 "bound" "Net.bound" 36 6) (l (x2 "_law_alike" 62 "law_driftmeet_k46_the_spread_of_names" 984 672)) z)) (n (x5 "self" 476) (n o0 (l (x2 "_law_world" 52 "law_driftmeet_k46_the_spread_of_names" 984 608)) z) (l (x1 "between" 41))))) (n (x14 237 "NoClock" 9 54) (n (x10 80) (n (x20 372 "Look" 32 385 156 401 402) (n (x10 272) (l o0) z) (n (x6 "self" 727 "x" "most") (l (x1 "_law_names" 60)) z)) (n o89 (n o1 (l (x1 "_law_stream" 50)) z) (l (tu #[(.str "world" 809),(.str "log" 810),(.str "net" 811),(.str "name" 812),(.str "x" 813),(.str "y" 814),(.str "most" 815)])))) (n (x11 111) (n o11 (n (x1 "names" 23) (l o0) z) (l (x4 "times" "Net.times" 36 8 "driftmeet.nets" 674 432))) (n (x11 239) (n (x7 "Net" 678 162 367) (l (x18 "_law_row" 1050 354 5 622)) z) (l (x2 "refuse_clock" 45 "driftmeet.worlds" 858 496)))))) (n o0 (n (x8 40 37 "driftmeet.errors" 194) (n (x14 269 "NoHappening" 13 78) (n (x17 341 27 354 135 "__static_attributes__" 357 136 "__dict__" 359 139 "__weakref__" 361 4) (n (x13 "self" 526 "world" "name" "way" "told") (l (x13 "self" 908 "one" "other" "least" "most")) z) (n o1 (l o0) z)) (n (x3 "own_bounds" "Sight.own_bounds" 15 2) (n o0 (l o0) z) (l (λP=>⟨v0,none,(.dict #[e P "__module__" 683 v5,e P "__firstlineno__" 687 (.int 162 686),e P "__init__" 694 (R 377),e P "refuse_ring" 705 (R 384),e P "name" 713 (R 391),e P "put" 723 (R 398),e P "put_round" 732 (R 405),e P "names" 739 (R 412),e P "bound" 748 (R 419),e P "edges" 758 (R 426),e P "times" 765 (R 433),e P "most" 774 (R 440),e P "road" 783 (R 447),e P "latest" 794 (R 455),e P "__static_attributes__" 796 (R 456),e P "__dict__" 798 (R 459),e P "__weakref__" 800 (R 460),e P "__doc__" 801 .none] 4),#[]⟩)))) (n o0 (n (x0 "own_bounds" 393 "Look.own_bounds" 40 3 164 399) (n o0 (l (x4 "has_hand" "World.has_hand" 47 5 "driftmeet.worlds" 858 552)) z) (l (x0 "edges" 749 "Net.edges" 200 1 420 756))) (n o0 (n (x1 "road" 33) (l (x23 "_law_clock" 1039 "_law_here" "_law_xs" "_law_low" "_law_high" "_law_ticks" "_law_first" "_law_last")) z) (l (x0 "spread" 844 "spread" 238 3 484 855))))) (n (x10 56) (n (x8 88 85 "driftmeet.errors" 194) (n o0 (n o1 (l (x3 "refuse_pair" "World.refuse_pair" 47 3)) z) (n o0 (l (x0 "_law_no_more" 1096 "_law_no_more" 413 2 660 1101)) z)) (n o1 (n (x6 "back" 647 "y" "way") (l (x0 "_law_way" 1005 "_law_way" 322 2 596 1011)) z) (l o0))) (n (tu #[(.int (-1) 331),(.int 0 332)]) (n (x13 "self" 421 "hand" "reading" "early" "late") (n (x0 "clock_bounds" 583 "clock_bounds" 109 4 308 590) (l o1) z) (l o0)) (n o0 (n (x4 "__init__" "Net.__init__" 36 0 "driftmeet.nets" 674 376) (l (x2 "_law_sent" 56 "law_driftmeet_k46_the_spread_of_names" 984 632)) z) (l o0)))))) (n o2 (n (x2 "_wall" 0 "__main__" 164 20) (n (x14 221 "NoHand" 7 42) (n (x10 68) (n (x3 "__init__" "Happening.__init__" 13 0) (n (x0 "row" 516 "Take.row" 71 1 256 520) (l (x0 "__init__" 890 "World.__init__" 265 3 512 902)) z) (n (x3 "name" "Net.name" 36 2) (l (x2 "_law_whole" 58 "law_driftmeet_k46_the_spread_of_names" 984 644)) z)) (n o0 (n o0 (l (x11 577)) z) (l (x3 "latest" "Net.latest" 36 11)))) (n (x8 100 97 "driftmeet.errors" 194) (n o1 (n (x2 "happening" 20 "driftmeet.happenings" 328 292) (l (x9 "self" 943 "hand")) z) (n o1 (l (x18 "law" 1112 425 1 674)) z)) (n (x4 "row" "Send.row" 16 1 "driftmeet.happenings" 328 228) (n o0 (l (x18 "_law_made" 1030 341 1 610)) z) (l o1)))) (n (x8 52 49 "driftmeet.errors" 194) (n (x14 285 "NoName" 15 90) (n (x8 148 145 "driftmeet.happenings" 328) (n (x1 "are_wholes" 18) (l o0) z) (n (x4 "put_round" "Net.put_round" 36 4 "driftmeet.nets" 674 404) (l o1) z)) (n (x21 56 221 60) (n (x0 "settle" 631 "settle" 135 3 336 641) (l o1) z) (l (x2 "net_of" 38 "driftmeet.histories" 804 468)))) (n o0 (n (x7 "Sight" 408 42 179) (n o1 (l (x3 "clock" "World.clock" 47 7)) z) (l o0)) (n o0 (n (x5 "self" 691) (l (x12 "_law_here" 1059 "_law_row_here" "_law_moment" "_law_way_here")) z) (l o0))))) (n o0 (n (x10 44) (n (x8 76 73 "driftmeet.errors" 194) (n (x10 138) (n (x4 "own_bounds" "Take.own_bounds" 17 2 "driftmeet.happenings" 328 268) (l (x4 "enter_way" "World.enter_way" 47 1 "driftmeet.worlds" 858 524)) z) (n (x0 "put" 714 "Net.put" 178 4 392 721) (l o0) z)) (n (x17 413 42 428 189 "row" 435 196 "own_bounds" 444 203 "__static_attributes__" 447 2) (n (x1 "go_on" 29) (l o0) z) (l (x10 458)))) (n (x5 "ring" 314) (n (x22 "Look" 173 365) (n o0 (l o0) z) (l (x5 "self" 762))) (n (x5 "to" 489) (n o11 (l (x2 "_law_lag" 54 "law_driftmeet_k46_the_spread_of_names" 984 620)) z) (l (x9 "short" 865 "long"))))) (n (x14 253 "NoWay" 11 66) (n (x10 92) (n o0 (n (x0 "is_letter" 545 "is_letter" 82 1 280 549) (l o1) z) (n o0 (l (x9 "_law_found" 1107 "_law_some")) z)) (n (x0 "__init__" 463 "Send.__init__" 56 4 216 470) (n (x2 "way_by" 31 "driftmeet.roads" 607 348) (l (tu #[(.str "_law_cell" 1017),(.str "_law_xs" 1018),(.str "_law_hands" 1019),(.str "_law_size" 1020),(.str "_law_clocks" 1021),(.str "_law_ways" 1022),(.str "_law_one" 1023),(.str "_law_short" 1024),(.str "_law_other" 1025),(.str "_law_ys" 1026)])) z) (l o0))) (n o0 (n (x4 "__init__" "Sight.__init__" 15 0 "driftmeet.happenings" 328 188) (n (x23 "world" 596 "log" "told" "readings" "here" "row" "one" "last") (l (x0 "way" 965 "World.way" 305 3 568 971)) z) (l (x3 "road" "Net.road" 36 10))) (n (x3 "__init__" "Take.__init__" 17 0) (n o0 (l (x18 "_law_tale" 1066 367 3 634)) z) (l (vf #[(I 265),(I 4),(R 517),(I 275),(I 4),(R 524),(I 282),(I 4),(R 531),(I 286),(I 4),(R 538),(I 292),(I 4),(R 545),(I 295),(I 4),(R 552),(I 298),(I 4),(R 559),(I 301),(I 4),(R 566),(I 305),(I 4),(R 573)]))))))))) (n boot_o_2 (n boot_o_4 (n boot_o_8 (n o1 (n (x19 209 31) (n (x7 "NoWay" 248 11 62) (n (x8 127 124 "driftmeet.happenings" 328) (n o0 (l o0) z) (n (x4 "refuse_ring" "Net.refuse_ring" 36 1 "driftmeet.nets" 674 383) (l o1) z)) (n (x5 "self" 432) (n (x0 "bounds" 593 "bounds" 111 2 315 604) (l (λP=>⟨v0,none,(.dict #[e P "__module__" 885 (.str "driftmeet.worlds" 858),e P "__firstlineno__" 889 (.int 263 888),e P "__init__" 904 (R 518),e P "enter_way" 915 (R 525),e P "refuse_hand" 923 (R 532),e P "refuse_pair" 932 (R 539),e P "hands" 939 (R 546),e P "has_hand" 947 (R 553),e P "has_way" 956 (R 560),e P "clock" 964 (R 567),e P "way" 973 (R 574),e P "__static_attributes__" 976 (R 575),e P "__dict__" 978 (R 578),e P "__weakref__" 980 (R 579),e P "__doc__" 981 .none] 4),#[]⟩)) z) (l (tu #[(.int 0 784)])))) (n o11 (n o0 (n o1 (l (x3 "hands" "World.hands" 47 4)) z) (n o0 (l (x0 "_law_alike" 1104 "_law_alike" 417 2 667 1109)) z)) (n o1 (n (x6 "edges" 656 "x" "sums") (l (x0 "_law_world" 1014 "_law_world" 327 1 603 1027)) z) (l o0)))) (n o11 (n (x15 "NoHappening" 80 71 262) (n o11 (n (x22 "Take" 272 494) (l (x9 "self" 919 "hand")) z) (n o1 (l o0) z)) (n (x11 206) (n o0 (l o0) z) (l o1))) (n (x10 111) (n o89 (n o0 (l (x4 "has_way" "World.has_way" 47 6 "driftmeet.worlds" 858 559)) z) (l (x0 "times" 759 "Net.times" 206 1 427 763))) (n (x10 239) (n (vf #[(I 164),(I 4),(R 376),(I 167),(I 4),(R 383),(I 174),(I 4),(R 390),(I 178),(I 4),(R 397),(I 187),(I 4),(R 404),(I 192),(I 4),(R 411),(I 195),(I 4),(R 418),(I 200),(I 4),(R 425),(I 206),(I 4),(R 432),(I 209),(I 4),(R 439),(I 213),(I 4),(R 446),(I 216),(I 4),(R 454)]) (l (x1 "_law_row" 55)) z) (l (x0 "refuse_clock" 862 "refuse_clock" 253 2 491 867)))))) (n (x14 203 "DriftError" 5 29) (n (x7 "NoHand" 216 7 38) (n o11 (n (x9 "hand" 355 "reading") (n o1 (l o1) z) (n o0 (l (x5 "_law_found" 1082)) z)) (n o0 (n (x2 "refuse_unknown" 28 "driftmeet.roads" 607 327) (l (x9 "_law_script" 989 "_law_k")) z) (l (x5 "kept" 795)))) (n (x9 "self" 309 "ring") (n (x3 "own_bounds" "Look.own_bounds" 14 2) (n (x6 "counts" 565 "hand" "ahead") (l (x0 "has_hand" 940 "World.has_hand" 295 2 547 945)) z) (l (x3 "edges" "Net.edges" 36 7))) (n (x6 "self" 483 "world" "name") (n o0 (l o1) z) (l (x1 "spread" 42))))) (n (x15 "NoClock" 56 47 230) (n (x7 "NoName" 280 15 86) (n (x6 "self" 380 "hand" "reading") (n o0 (l o0) z) (n (x5 "self" 736) (l (x1 "_law_no_more" 61)) z)) (n o0 (n o1 (l (x1 "_law_way" 51)) z) (l (x13 "world" 824 "log" "some" "there" "name")))) (n (x2 "is_whole" 10 "driftmeet.wholes" 319 119) (n o1 (n (x1 "clock_bounds" 25) (l o0) z) (l (x4 "most" "Net.most" 36 9 "driftmeet.nets" 674 439))) (n (x8 247 244 "driftmeet.happenings" 328) (n (x0 "__init__" 688 "Net.__init__" 164 1 371 692) (l (x0 "_law_sent" 1056 "_law_sent" 363 4 627 1063)) z) (l (x2 "refuse_lengths" 46 "driftmeet.worlds" 858 503))))))) (n (vf #[(I 1),(I 0),(R 20),(I 5),(I 0),(R 27),(I 7),(I 0),(R 40),(I 9),(I 0),(R 52),(I 11),(I 0),(R 64),(I 13),(I 0),(R 76),(I 15),(I 0),(R 88),(I 17),(I 0),(R 100),(I 23),(I 0),(R 119),(I 27),(I 0),(R 127),(I 32),(I 0),(R 148),(I 42),(I 0),(R 181),(I 54),(I 0),(R 214),(I 65),(I 0),(R 247),(I 80),(I 0),(R 278),(I 82),(I 0),(R 285),(I 84),(I 0),(R 292),(I 98),(I 0),(R 299),(I 102),(I 0),(R 306),(I 109),(I 0),(R 313),(I 111),(I 0),(R 320),(I 123),(I 0),(R 327),(I 126),(I 0),(R 334),(I 135),(I 0),(R 341),(I 143),(I 0),(R 348),(I 148),(I 0),(R 355),(I 153),(I 0),(R 362),(I 162),(I 0),(R 369),(I 219),(I 0),(R 468),(I 228),(I 0),(R 475),(I 234),(I 0),(R 482),(I 238),(I 0),(R 489),(I 253),(I 0),(R 496),(I 258),(I 0),(R 503),(I 263),(I 0),(R 510),(I 311),(I 0),(R 587),(I 315),(I 0),(R 594),(I 322),(I 0),(R 601),(I 327),(I 0),(R 608),(I 341),(I 0),(R 613),(I 343),(I 0),(R 620),(I 354),(I 0),(R 625),(I 363),(I 0),(R 632),(I 367),(I 0),(R 637),(I 400),(I 0),(R 644),(I 402),(I 0),(R 651),(I 406),(I 0),(R 658),(I 413),(I 0),(R 665),(I 417),(I 0),(R 672),(I 425),(I 0),(R 677)]) (n (x0 "_wall" 187 "_wall" 1 1 15 191) (n o11 (n (x15 "NoWay" 68 59 246) (n o0 (n (x3 "row" "Take.row" 17 1) (l (x3 "__init__" "World.__init__" 47 0)) z) (n o0 (l (x0 "_law_whole" 1072 "_law_whole" 400 1 639 1076)) z)) (n (x4 "row" "Sight.row" 15 1 "driftmeet.happenings" 328 195) (n (x9 "edges" 612 "x") (l (x10 577)) z) (l o0))) (n (x7 "Ring" 296 17 98) (n o0 (n (x0 "happening" 552 "happening" 84 1 287 557) (l o1) z) (n o0 (l (x1 "law" 63)) z)) (n (x0 "row" 473 "Send.row" 60 1 223 477) (n (x2 "spans" 32 "driftmeet.roads" 607 355) (l (x1 "_law_made" 53)) z) (l o0)))) (n (x7 "NoClock" 232 9 50) (n o11 (n (x7 "Look" 367 32 146) (n o1 (l (x4 "refuse_hand" "World.refuse_hand" 47 2 "driftmeet.worlds" 858 531)) z) (n (x0 "put_round" 724 "Net.put_round" 187 3 399 730) (l o0) z)) (n o0 (n (x1 "settle" 30) (l o0) z) (l (x0 "net_of" 806 "net_of" 219 2 463 816)))) (n (x5 "thing" 324) (n (x21 44 188 49) (n o0 (l o0) z) (l (x6 "self" 769 "x" "y"))) (n (x20 501 "Take" 65 515 255 533 535) (n o1 (l o1) z) (l (x9 "least" 873 "most")))))) (n (x8 27 24 "driftmeet.errors" 194) (n (x15 "NoHand" 44 35 214) (n (x7 "NoHappening" 264 13 74) (n (x19 360 138) (n (x0 "own_bounds" 523 "Take.own_bounds" 74 3 263 531) (l (x0 "enter_way" 905 "World.enter_way" 275 5 519 913)) z) (n (x3 "put" "Net.put" 36 3) (l (x2 "_law_name" 59 "law_driftmeet_k46_the_spread_of_names" 984 651)) z)) (n (x9 "early" 445 "late") (n o0 (l (x2 "_law_cell_at" 49 "law_driftmeet_k46_the_spread_of_names" 984 587)) z) (l (x19 799 458)))) (n (x4 "__init__" "Ring.__init__" 8 0 "driftmeet.errors" 194 107) (n (x17 372 32 385 156 "row" 392 163 "own_bounds" 401 170 "__static_attributes__" 402 2) (n (x2 "count_on" 22 "driftmeet.logs" 560 299) (l (x6 "self" 951 "one" "other")) z) (l o1)) (n (x4 "own_bounds" "Send.own_bounds" 16 2 "driftmeet.happenings" 328 235) (n o0 (l (x0 "_law_lag" 1036 "_law_lag" 343 5 615 1047)) z) (l o1)))) (n o11 (n (x15 "NoName" 92 83 278) (n (x4 "__init__" "Look.__init__" 14 0 "driftmeet.happenings" 328 155) (n (x1 "is_letter" 19) (l o0) z) (n (x4 "names" "Net.names" 36 5 "driftmeet.nets" 674 411) (l o1) z)) (n (x3 "__init__" "Send.__init__" 16 0) (n (x0 "way_by" 644 "way_by" 143 2 343 650) (l o1) z) (l (x2 "net_for" 40 "driftmeet.known" 819 475)))) (n (x26 341 "driftmeet.happenings" 328 "Happening" 27 354 135 357) (n (x0 "__init__" 418 "Sight.__init__" 44 5 183 426) (n o1 (l (x3 "way" "World.way" 47 8)) z) (l o0)) (n o0 (n (x13 "self" 698 "x" "y" "most" "back") (l (x1 "_law_tale" 57)) z) (l o0))))))) (n boot_o_6 (n boot_o_10 (n o0 (n (x11 31) (n o0 (n o1 (n (x5 "self" 519) (l (tu #[(.str "self" 893),(.str "clocks" 894),(.str "ways" 895),(.str "short" 896),(.str "long" 897),(.str "one" 898),(.str "other" 899),(.str "least" 900),(.str "most" 901)])) z) (n o1 (l o0) z)) (n (x3 "row" "Sight.row" 15 1) (n o0 (l (x24 977 577)) z) (l o1))) (n o0 (n (x0 "row" 386 "Look.row" 37 1 157 390) (n o0 (l (x4 "hands" "World.hands" 47 4 "driftmeet.worlds" 858 545)) z) (n (x0 "bound" 740 "Net.bound" 195 3 413 746) (l o0) z)) (n o0 (n (x1 "spans" 32) (l o0) z) (l (x0 "between" 832 "between" 234 4 477 841))))) (n o0 (n (x11 80) (n o0 (n (x11 272) (l (x3 "refuse_hand" "World.refuse_hand" 47 2)) z) (n o0 (l (x0 "_law_names" 1086 "_law_names" 406 1 653 1093)) z)) (n o11 (n (tu #[(.str "edges" 634),(.str "sums" 635),(.str "back" 636),(.str "fallen" 637),(.str "again" 638),(.str "x" 639),(.str "y" 640)]) (l (x0 "_law_stream" 994 "_law_stream" 315 2 589 1002)) z) (l o0))) (n o0 (n (x20 413 "Sight" 42 428 189 444 447) (n (x0 "names" 571 "names" 102 1 301 578) (l o1) z) (l o0)) (n o89 (n (x8 369 366 "driftmeet.nets" 674) (l (x2 "_law_row" 55 "law_driftmeet_k46_the_spread_of_names" 984 625)) z) (l o0))))) (n o1 (n o0 (n o0 (n (λ_=>⟨v3,none,(.cls ⟨"Happening",[v1],[(R 138),v1],137,"Happening",true,[],[(R 173),(R 206),(R 239),(R 272)],false,none,false⟩),#[none,none,some (.str "Happening" 334),some (.str "Happening" 342),some v4,some (.bool true)]⟩) (n o0 (l o0) z) (n (x12 "self" 717 "x" "y" "most") (l (x1 "_law_name" 59)) z)) (n (x0 "own_bounds" 436 "Sight.own_bounds" 52 3 197 442) (n o1 (l (x1 "_law_cell_at" 49)) z) (l (x27 "Net" 458 676)))) (n (x3 "__init__" "Ring.__init__" 8 0) (n (x4 "own_bounds" "Look.own_bounds" 14 2 "driftmeet.happenings" 328 169) (n (x1 "count_on" 22) (l o0) z) (l (x4 "edges" "Net.edges" 36 7 "driftmeet.nets" 674 425))) (n (x3 "own_bounds" "Send.own_bounds" 16 2) (n (x0 "road" 662 "road" 153 3 357 670) (l o0) z) (l (x2 "spread" 42 "driftmeet.known" 819 489))))) (n (x11 56) (n o0 (n (x3 "__init__" "Look.__init__" 14 0) (n (x5 "thing" 548) (l (x0 "refuse_pair" 924 "World.refuse_pair" 286 3 533 930)) z) (n (x3 "names" "Net.names" 36 5) (l (x2 "_law_no_more" 61 "law_driftmeet_k46_the_spread_of_names" 984 665)) z)) (n (x12 "self" 466 "hand" "reading" "to") (n o0 (l (x2 "_law_way" 51 "law_driftmeet_k46_the_spread_of_names" 984 601)) z) (l (x1 "net_for" 40)))) (n o0 (n o0 (n (x2 "clock_bounds" 25 "driftmeet.bounds" 581 313) (l (x6 "self" 968 "one" "other")) z) (l o1)) (n o1 (n o0 (l o0) z) (l o11)))))) (n o3 (n (tu #[v6]) (n o0 (n (x11 68) (n (x0 "__init__" 346 "Happening.__init__" 29 3 129 352) (n (x4 "row" "Take.row" 17 1 "driftmeet.happenings" 328 261) (l (x4 "__init__" "World.__init__" 47 0 "driftmeet.worlds" 858 517)) z) (n (x0 "name" 706 "Net.name" 174 2 385 711) (l o0) z)) (n o1 (n (x1 "refuse_unknown" 28) (l o0) z) (l (x0 "latest" 785 "Net.latest" 216 4 449 792)))) (n o0 (n (x6 "self" 396 "world" "name") (n o0 (l o0) z) (n (x12 "self" 752 "told" "x" "row") (l (x2 "law" 63 "law_driftmeet_k46_the_spread_of_names" 984 677)) z)) (n o0 (n o1 (l (x2 "_law_made" 53 "law_driftmeet_k46_the_spread_of_names" 984 613)) z) (l (x23 "world" 847 "log" "some" "edges" "widest" "x" "sums" "y"))))) (n o0 (n o0 (n o0 (n (x18 "are_wholes" 539 80 2 275) (l o1) z) (n o0 (l (x9 "_law_one" 1099 "_law_other")) z)) (n (x7 "Send" 453 54 212) (n (x2 "settle" 30 "driftmeet.roads" 607 341) (l (x6 "_law_xs" 1008 "_law_size" "_law_least")) z) (l o0))) (n (x1 "is_whole" 10) (n (x8 181 178 "driftmeet.happenings" 328) (n (x12 "clock" 586 "last" "here" "ticks") (l (x0 "clock" 957 "World.clock" 301 2 561 962)) z) (l (x3 "most" "Net.most" 36 9))) (n (x21 67 254 71) (n o0 (l o0) z) (l (x1 "refuse_lengths" 46)))))) (n (x25 203 5 "__static_attributes__" 208 29 "__weakref__" 32 3) (n (x11 44) (n o0 (n (x11 138) (n (x5 "letter" 534) (l o0) z) (n (x4 "put" "Net.put" 36 3 "driftmeet.nets" 674 397) (l o1) z)) (n (x22 "Sight" 206 406) (n (x0 "go_on" 617 "go_on" 126 4 329 628) (l o1) z) (l (x11 458)))) (n (x25 301 17 "__init__" 313 108 "__static_attributes__" 109 2) (n (x10 173) (n o1 (l (x3 "has_way" "World.has_way" 47 6)) z) (l o0)) (n (x17 458 54 472 222 "row" 479 229 "own_bounds" 488 236 "__static_attributes__" 490 2) (n (λP=>⟨v0,none,(.dict #[e P "__module__" 683 v5,e P "__qualname__" 685 (.str "Net" 684),e P "__firstlineno__" 687 (.int 162 686),e P "__init__" 694 (R 377),e P "refuse_ring" 705 (R 384),e P "name" 713 (R 391),e P "put" 723 (R 398),e P "put_round" 732 (R 405),e P "names" 739 (R 412),e P "bound" 748 (R 419),e P "edges" 758 (R 426),e P "times" 765 (R 433),e P "most" 774 (R 440),e P "road" 783 (R 447),e P "latest" 794 (R 455),e P "__static_attributes__" 796 (R 456)] 16),#[]⟩) (l o0) z) (l o0)))) (n o0 (n (x11 92) (n o1 (n (x2 "is_letter" 19 "driftmeet.happenings" 328 285) (l (x5 "self" 936)) z) (n o1 (l o0) z)) (n (x4 "__init__" "Send.__init__" 16 0 "driftmeet.happenings" 328 221) (n o0 (l o0) z) (l o1))) (n (vf #[(I 29),(I 4),(R 134)]) (n o0 (n o0 (l (x4 "way" "World.way" 47 8 "driftmeet.worlds" 858 573)) z) (l (x0 "road" 775 "Net.road" 213 3 441 781))) (n (x0 "__init__" 506 "Take.__init__" 67 4 249 513) (n (x3 "refuse_ring" "Net.refuse_ring" 36 1) (l (x2 "_law_tale" 57 "law_driftmeet_k46_the_spread_of_names" 984 637)) z) (l (x7 "World" 880 263 508))))))))))
noncomputable def s1(w:World)(os:OsState):SharedT:=⟨t1 w.params,679,{},⟨[]⟩,{},1118,os⟩
noncomputable def t2:Params->W.BT:=t1
noncomputable def s2(w:World)(os:OsState):SharedT:=⟨t2 w.params,679,{},⟨[]⟩,{},1118,os⟩
theorem pre:∀w:World,(λos=>topGo treeTable pw w 11 an 12 ⟨boot_heap w.params,⟨[]⟩,boot_drawn,boot_toks,os⟩ (topStub pw))=λos=>some (sA w os,⟨denote treeTable cE,cE,⟨0,0,0,0⟩,qF⟩):=λw=>by kernel_rfl
theorem blk:∀w:World,(λos=>segRun treeTable pw w 11 an 1 1 (sA w os) (blockOf bE env cE ⟨0,0,0,0⟩ qF))=λos=>some (.next,(s0 w os).abs,cE,⟨0,0,0,0⟩):=λw=>by kernel_rfl
noncomputable def g0:List Stmt:=[b 0,b 1,b 2,b 3,b 4,b 5,b 6,b 7,b 8,b 9,b 10,b 11,b 12,b 13,b 14,b 15,b 16,b 17,b 18,b 19,b 20,b 21,b 22,b 23,b 24,b 25,b 26,b 27,b 28,b 29,b 30,b 31,b 32,b 33,b 34,b 35,b 36,b 37,b 38,b 39,b 40,b 41,b 42,b 43,b 44,b 45,b 46,b 47,b 48,b 49,b 50,b 51,b 52,b 53,b 54,b 55,b 56,b 57,b 58,b 59,b 60,b 61,b 62,b 63]
theorem p0:∀w:World,(λos=>segRunT treeTable pw w 11 an 1 5301 (s0 w os) (piecesOf g0 env cE ⟨0,0,0,0⟩ qF))=λos=>some (.next,s1 w os,cE,⟨425,0,452,15⟩):=λw=>by kernel_rfl
theorem fin:∀w:World,(λos=>topRun treeTable pw w 11 an 2 (s1 w os).abs (restOf [] env cE ⟨425,0,452,15⟩ qF))=λos=>some (s2 w os).abs:=λw=>by kernel_rfl
theorem Df:bE=g0++([]):=by kernel_rfl
theorem Hb(w:World)(os:OsState):topRun treeTable pw w 11 an (5301+(2)) (s0 w os).abs (restOf (g0++([])) env cE ⟨0,0,0,0⟩ qF)=some (s2 w os).abs:=piece_app (segRun_of (congrFun (p0 w) os)) (congrFun (fin w) os)
theorem run(w:World)(os:OsState):topRun treeTable pw w 11 an (12+(1+(5301+(2)))) ⟨boot_heap w.params,⟨[]⟩,boot_drawn,boot_toks,os⟩ (topStub pw)=some (s2 w os).abs:=go_top (congrFun (pre w) os) (piece_block (congrFun (blk w) os) (by rw[Df];exact Hb w os))
noncomputable def view:Program:={pw with main:={pw.main with body:=[top 63]}}
noncomputable def loose:List Str:=(["_wall","DriftError","NoHand","NoClock","NoWay","NoHappening","NoName","Ring","is_whole","NOUGHT","Happening","Look","Sight","Send","Take","are_wholes","is_letter","happening","count_on","names","clock_bounds","bounds","refuse_unknown","go_on","settle","way_by","spans","road","road_roads","Net","net_of","net_for","between","spread","MOST_HANDS","refuse_clock","refuse_lengths","World","_law_cell_at","_law_stream","_law_way","_law_world","_law_made","_law_lag","_law_row","_law_sent","_law_tale","_law_whole","_law_name","_law_names","_law_no_more","_law_alike"]:List String).map Str.ofString
noncomputable def as:List Addr:=[2,3,15,17,18,20,21,22,29,30,31,32,35,42,43,44,47,54,55,56,59,66,67,68,71,78,79,80,83,90,91,92,95,102,104,105,107,108,109,110,111,114,116,117,119,120,121,129,131,132,134,135,136,137,138,139,140,143,150,152,153,155,156,157,159,160,162,163,164,166,167,169,170,171,172,173,176,183,185,186,188,189,190,192,193,195,196,197,199,200,202,203,204,205,206,209,216,218,219,221,222,223,225,226,228,229,230,232,233,235,236,237,238,239,242,249,251,252,254,255,256,258,259,261,262,263,265,266,268,269,270,271,272,275,278,279,280,282,283,285,286,287,289,290,292,293,294,296,297,299,300,301,303,304,306,307,308,310,311,313,314,315,317,318,320,321,322,324,325,327,328,329,331,332,334,335,336,338,339,341,342,343,345,346,348,349,350,352,353,355,356,357,359,360,362,363,371,373,374,376,377,378,380,381,383,384,385,387,388,390,391,392,394,395,397,398,399,401,402,404,405,406,408,409,411,412,413,415,416,418,419,420,422,423,425,426,427,429,430,432,433,434,436,437,439,440,441,443,444,446,447,448,449,451,452,454,455,456,457,458,459,460,463,465,466,468,469,470,472,473,475,476,477,479,480,482,483,484,486,487,489,490,491,493,494,496,497,498,500,501,503,504,512,514,515,517,518,519,521,522,524,525,526,528,529,531,532,533,535,536,538,539,540,542,543,545,546,547,549,550,552,553,554,556,557,559,560,561,563,564,566,567,568,570,571,573,574,575,576,577,578,579,582,584,585,587,588,589,591,592,594,595,596,598,599,601,602,603,605,606,608,609,610,613,614,615,617,618,620,621,622,625,626,627,629,630,632,633,634,637,638,639,641,642,644,645,646,648,649,651,652,653,655,656,658,659,660,662,663,665,666,667,669,670,672,673,674,677,678]
noncomputable def K(P:Params):Frag:=as.map λa=>(a,((t2 P).get a).getD ⟨.none,none,.plain,#[]⟩)
theorem as_eq:∀P,as=(K P).map (·.1):=λP=>by kernel_rfl
noncomputable def h1(P:Params):Heap:=absHeap (t2 P) 679 {}
noncomputable def f1(w:World)(os:OsState):Shared:=⟨h1 w.params,⟨[]⟩,{},1118,os⟩
noncomputable def Xt(s:Shared):Bool:=xlAt view [] s&&recOk (RowW.records PySem.Challenge.rw_driftmeet_k46_the_spread_of_names.row.toRowW) s
theorem lk1:∀w:World,(λos=>(staticsOk (importedModules pw.main.body) (boot_heap w.params) (h1 w.params)&&namesBound pw (h1 w.params)&&gensDone (f1 w os)&&laidKept (boot_heap w.params) (h1 w.params)))=λ_=>true:=λw=>by kernel_rfl
theorem lk2:∀w:World,(λos=>openSeen view loose (importedModules pw.main.body) Xt true (f1 w os))=λ_=>openGood view loose:=λw=>by kernel_rfl
theorem lk3:∀w:World,(λos=>(Hook.obs (kHook K as as_eq)) (f1 w os))=λ_=>(Hook.val (kHook K as as_eq)) w:=λw=>by kernel_rfl
theorem left:LeftO pw view loose Xt (Hook.obs (kHook K as as_eq)) (Hook.val (kHook K as as_eq)) 10726:=LeftO.of_pieces (boot_open (by kernel_rfl) (by decide) (λs=>by kernel_rfl)) (H₀:=boot_heap) (H₁:=h1) (gs₀:=⟨[]⟩) (m₀:=11) (ann:=an) (M:=12+(1+(5301+(2)))) (λw=>by kernel_rfl) (λw os=>run w os) (by decide) λw=>funext λos=>looks_pair (congrFun (lk1 w) os) (looks_pair (congrFun (lk2 w) os) (congrFun (lk3 w) os))
end HD
namespace G
open PySem L2
noncomputable def top(i:Nat):Stmt:=PySem.Challenge.pw_driftmeet_k46_the_spread_of_names.main.body.getD i (.Pass ⟨0,0,0,0⟩)
noncomputable abbrev V0:IE:=.var 0
noncomputable abbrev V1:IE:=.var 1
noncomputable abbrev V2:IE:=.var 2
noncomputable abbrev V3:IE:=.var 3
noncomputable abbrev V4:IE:=.var 4
noncomputable abbrev V5:IE:=.var 5
noncomputable abbrev V6:IE:=.var 6
noncomputable abbrev V7:IE:=.var 7
noncomputable abbrev V8:IE:=.var 8
noncomputable abbrev V9:IE:=.var 9
noncomputable abbrev V10:IE:=.var 10
noncomputable abbrev V11:IE:=.var 11
noncomputable abbrev V12:IE:=.var 12
noncomputable abbrev V13:IE:=.var 13
noncomputable abbrev V14:IE:=.var 14
noncomputable abbrev V15:IE:=.var 15
noncomputable abbrev V16:IE:=.var 16
noncomputable abbrev V17:IE:=.var 17
noncomputable abbrev I0:IE:=.con (.int 0)
noncomputable abbrev I1:IE:=.con (.int 1)
noncomputable abbrev I2:IE:=.con (.int 2)
noncomputable abbrev I3:IE:=.con (.int 3)
noncomputable abbrev I4:IE:=.con (.int 4)
noncomputable abbrev I5:IE:=.con (.int 5)
noncomputable abbrev I6:IE:=.con (.int 6)
noncomputable abbrev I7:IE:=.con (.int 7)
noncomputable abbrev I8:IE:=.con (.int 8)
noncomputable abbrev I9:IE:=.con (.int 9)
noncomputable abbrev Ar1(a0:IE):IA:=.cons a0 .nil
noncomputable abbrev Ar2(a0 a1:IE):IA:=.cons a0 (.cons a1 .nil)
noncomputable abbrev Ar3(a0 a1 a2:IE):IA:=.cons a0 (.cons a1 (.cons a2 .nil))
noncomputable abbrev Ar4(a0 a1 a2 a3:IE):IA:=.cons a0 (.cons a1 (.cons a2 (.cons a3 .nil)))
noncomputable abbrev Ar5(a0 a1 a2 a3 a4:IE):IA:=.cons a0 (.cons a1 (.cons a2 (.cons a3 (.cons a4 .nil))))
noncomputable abbrev Ar6(a0 a1 a2 a3 a4 a5:IE):IA:=.cons a0 (.cons a1 (.cons a2 (.cons a3 (.cons a4 (.cons a5 .nil)))))
noncomputable abbrev S1(a0:IS):ISs:=.cons a0 .nil
noncomputable abbrev S2(a0 a1:IS):ISs:=.cons a0 (.cons a1 .nil)
noncomputable abbrev S3(a0 a1 a2:IS):ISs:=.cons a0 (.cons a1 (.cons a2 .nil))
noncomputable abbrev S4(a0 a1 a2 a3:IS):ISs:=.cons a0 (.cons a1 (.cons a2 (.cons a3 .nil)))
noncomputable abbrev S5(a0 a1 a2 a3 a4:IS):ISs:=.cons a0 (.cons a1 (.cons a2 (.cons a3 (.cons a4 .nil))))
noncomputable abbrev S7(a0 a1 a2 a3 a4 a5 a6:IS):ISs:=.cons a0 (.cons a1 (.cons a2 (.cons a3 (.cons a4 (.cons a5 (.cons a6 .nil))))))
noncomputable abbrev S12(a0 a1 a2 a3 a4 a5 a6 a7 a8 a9 Oq Qh:IS):ISs:=.cons a0 (.cons a1 (.cons a2 (.cons a3 (.cons a4 (.cons a5 (.cons a6 (.cons a7 (.cons a8 (.cons a9 (.cons Oq (.cons Qh .nil)))))))))))
noncomputable abbrev S14(a0 a1 a2 a3 a4 a5 a6 a7 a8 a9 Oq Qh Sx Sy:IS):ISs:=.cons a0 (.cons a1 (.cons a2 (.cons a3 (.cons a4 (.cons a5 (.cons a6 (.cons a7 (.cons a8 (.cons a9 (.cons Oq (.cons Qh (.cons Sx (.cons Sy .nil)))))))))))))
noncomputable abbrev fL(n q:String)(g c:Bool)(s:Stmt)(N:List Str)(k:Nat)(b:ISs):FL:={name:=n,qual:=q,glob:=g,cl:=c,st:=s,N:=N,ps:=N.take k,body:=b}
noncomputable abbrev fl(n:String):=fL n n true
abbrev runF(T:List FB)(B:WB)(n:Nat)(b:ISs)(Z:St3)(M:MH)(Q:VK3)(E:XN):Prop:=aR {toWB:=B,call:=aa T B n} b {nx:=λ_ M'=>Q .i_ (av M M'),rt:=λv M'=>Q v (av M M')} (λ_ i M'=>E i (av M M')) Z M
noncomputable def fS:ISs:=S1 (.ret (.and (.L0 V0 .int) (.not (.L0 V0 .bool))))
noncomputable def az:ISs:=S2 (.KY V0 211529960 V1) (.KY V0 456806758904562 V2)
noncomputable def cW:ISs:=S1 (.expr (.ini 0 (Ar3 V0 V1 V2)))
noncomputable def qk:ISs:=S1 .dead
noncomputable def bq:ISs:=S1 (.ret (.lst true .nil))
noncomputable def cv:ISs:=S3 (.expr (.ini 0 (Ar3 V0 V1 V2))) (.KY V0 32709062885 V3) (.KY V0 213725420 V4)
noncomputable def pM:ISs:=S1 .dead
noncomputable def be:ISs:=S1 (.ret (.lst true (Ar2 (.tup (Ar3 (.glo 0) V2 (.fld V0 213725420))) (.tup (Ar3 V2 (.glo 0) (.neg (.fld V0 32709062885)))))))
noncomputable def cR:ISs:=S2 (.expr (.ini 0 (Ar3 V0 V1 V2))) (.KY V0 14324 V3)
noncomputable def pQ:ISs:=S1 .dead
noncomputable def bx:ISs:=S1 (.ret (.lst true .nil))
noncomputable def cX:ISs:=S2 (.expr (.ini 0 (Ar3 V0 V1 V2))) (.KY V0 3944367338220 V3)
noncomputable def qv:ISs:=S1 .dead
noncomputable def aW:ISs:=S4 (.set 3 (.y_ V1 1994999 (Ar2 (.ix (.fld V0 3944367338220) I0) (.fld V0 211529960)))) (.set 4 (.lst false (Ar1 (.tup (Ar3 V2 (.fld V0 3944367338220) (.neg (.ix V3 I0))))))) (.ifs (.cmp .IsNot (.ix V3 I1) (.con .i_)) (S1 (.app V4 (.tup (Ar3 (.fld V0 3944367338220) V2 (.ix V3 I1))))) .nil) (.ret (.t_ V4))
noncomputable def dm:ISs:=S1 (.ret (.and (.cmp .Eq (.bi .len (Ar1 V0)) V1) (.bi .all (Ar1 (.comp true ["thing"] [none] (.name 0) (.seq V0) .no (.call 0 (Ar1 V0)))))))
noncomputable def eS:ISs:=S1 (.ret (.and (.L0 V0 .tuple) (.call 14 (Ar2 V0 I2))))
noncomputable def bo:ISs:=S7 (.ifs (.or (.not (.val (.L0 V0 .tuple))) (.cmp .Eq (.bi .len (Ar1 V0)) I0)) (S1 .dead) .nil) (.set 1 (.ix V0 I0)) (.ifs (.and (.cmp .Eq V1 (.con (.str "look"))) (.val (.call 14 (Ar2 (.sl true V0 (.yes I1) .no) I2)))) (S1 (.ret (.make true 1 (Ar2 (.ix V0 I1) (.ix V0 I2))))) .nil) (.ifs (.and (.cmp .Eq V1 (.con (.str "sight"))) (.val (.call 14 (Ar2 (.sl true V0 (.yes I1) .no) I4)))) (S1 (.ret (.make true 2 (Ar4 (.ix V0 I1) (.ix V0 I2) (.ix V0 I3) (.ix V0 I4))))) .nil) (.ifs (.and (.cmp .Eq V1 (.con (.str "send"))) (.val (.call 14 (Ar2 (.sl true V0 (.yes I1) .no) I3)))) (S1 (.ret (.make true 3 (Ar3 (.ix V0 I1) (.ix V0 I2) (.ix V0 I3))))) .nil) (.ifs (.and (.cmp .Eq V1 (.con (.str "take"))) (.and (.val (.call 14 (Ar2 (.sl true V0 (.yes I1) (.yes I3)) I2))) (.and (.cmp .Eq (.bi .len (Ar1 V0)) I4) (.val (.call 15 (Ar1 (.ix V0 I3))))))) (S1 (.ret (.make true 4 (Ar3 (.ix V0 I1) (.ix V0 I2) (.ix V0 I3))))) .nil) .dead
noncomputable def gc:ISs:=S3 (.set 2 (.bm .get V0 (Ar2 V1 I0))) (.A_ V0 V1 (.bin .Add V2 I1)) (.ret (.tup (Ar2 V1 V2)))
noncomputable def di:ISs:=S1 (.app V2 (.call 17 (Ar2 V1 (.ix V3 I1))))
noncomputable def mJ:ISs:=S4 (.set 1 (.KO false)) (.set 2 (.lst false .nil)) (.C_ (.name 3) (.seq V0) di) (.ret (.t_ V2))
noncomputable def cG:ISs:=S1 (.ret (.lst true (Ar2 (.tup (Ar3 V1 V2 (.bin .Mult (.ix V0 I1) V3))) (.tup (Ar3 V2 V1 (.bin .Mult (.neg (.ix V0 I0)) V3))))))
noncomputable def cK:ISs:=S5 (.set 6 (.call 16 (Ar1 V5))) (.expr (.bm .extend V2 (Ar1 (.y_ V6 1067955986548848835567 (Ar2 V0 V4))))) (.set 7 (.tup (Ar2 (.ix V4 I0) (.bin .Sub (.ix V4 I1) I1)))) (.ifs (.cmp .In V7 V3) (S1 (.expr (.bm .extend V2 (Ar1 (.call 19 (Ar4 (.y_ V0 28932044387 (Ar1 (.fld V6 211529960))) V7 V4 (.bin .Sub (.fld V6 456806758904562) (.ix V3 V7)))))))) .nil) (.A_ V3 V4 (.fld V6 456806758904562))
noncomputable def jZ:ISs:=S4 (.set 2 (.lst false .nil)) (.set 3 (.KO true)) (.C_ (.tup [4,5]) (.zip (.call 18 (Ar1 V1)) V1) cK) (.ret (.t_ V2))
noncomputable def bM:ISs:=S1 (.ifs (.cmp .NotIn V1 V0) (S1 .dead) .nil)
noncomputable def bc:ISs:=S2 (.set 7 (.bin .Add (.ix V2 V1) V6)) (.ifs (.or (.cmp .NotIn V5 V2) (.cmp .Lt V7 (.ix V2 V5))) (S3 (.A_ V2 V5 V7) (.A_ V3 V5 V1) (.app V4 V5)) .nil)
noncomputable def mi:ISs:=S3 (.set 4 (.lst false .nil)) (.LS (.tup [5,6]) V0 bc) (.ret (.t_ V4))
noncomputable def eT:ISs:=S1 (.A_ V4 V6 (.con (.bl true)))
noncomputable def cL:ISs:=S1 (.C_ (.name 6) (.seq (.call 22 (Ar4 (.ix V0 V5) V5 V1 V2))) eT)
noncomputable def iZ:ISs:=S3 (.set 4 (.KO true)) (.C_ (.name 5) (.seq V3) cL) (.set 3 (.bi (.list true) (Ar1 V4)))
noncomputable def kh:ISs:=S2 (.set 3 (.bi (.list true) (Ar1 V1))) (.Oc (.cmp .Gt (.bi .len (Ar1 V3)) I0) iZ)
noncomputable def mN:ISs:=S4 (.expr (.call 21 (Ar2 V0 V1))) (.set 2 (.LQ V1 I0)) (.expr (.call 23 (Ar3 V0 V2 (.KO true)))) (.ret V2)
noncomputable def dC:ISs:=S1 (.KY V0 245117675 (.KO true))
noncomputable def bu:ISs:=S3 (.ifs (.or (.cmp .NotIn V1 (.fld V0 245117675)) (.cmp .NotIn V2 (.fld V0 245117675))) (S1 .LR) .nil) (.set 4 (.y_ V0 245168109 (Ar2 V2 V1))) (.ifs (.and (.cmp .IsNot V4 (.con .i_)) (.cmp .Lt (.bin .Add V4 V3) I0)) (S1 .dead) .nil)
noncomputable def dJ:ISs:=S1 (.ifs (.cmp .NotIn V1 (.fld V0 245117675)) (S1 (.A_ (.fld V0 245117675) V1 (.KO true))) .nil)
noncomputable def iB:ISs:=S5 (.ifs (.cmp .Eq V1 V2) (S2 .dead .LR) .nil) (.expr (.y_ V0 122623138502931931312882 (Ar3 V1 V2 V3))) (.expr (.y_ V0 213610734 (Ar1 V1))) (.expr (.y_ V0 213610734 (Ar1 V2))) (.A_ (.ix (.fld V0 245117675) V1) V2 (.bi .min (Ar2 V3 (.bm .get (.ix (.fld V0 245117675) V1) (Ar2 V2 V3)))))
noncomputable def i4:ISs:=S2 .dead .dead
noncomputable def nY:ISs:=S1 .dead
noncomputable def pA:ISs:=S3 .dead .dead .dead
noncomputable def cz:ISs:=S1 (.A_ V1 V2 (.bi .Nw (Ar1 V3)))
noncomputable def eK:ISs:=S3 (.set 1 (.KO true)) (.LS (.tup [2,3]) (.fld V0 245117675) cz) (.ret V1)
noncomputable def gh:ISs:=S2 (.expr (.call 21 (Ar2 (.fld V0 245117675) V2))) (.ret (.bm .get (.call 24 (Ar2 (.fld V0 245117675) V1)) (Ar1 V2)))
noncomputable def pR:ISs:=S1 .dead
noncomputable def eE:ISs:=S1 (.expr (.y_ V2 213610734 (Ar1 V3)))
noncomputable def eZ:ISs:=S1 (.expr (.y_ V2 1915632 (Ar3 V4 V5 V6)))
noncomputable def kf:ISs:=S5 (.set 2 (.make false 5 .nil)) (.expr (.y_ V2 213610734 (Ar1 (.glo 0)))) (.C_ (.name 3) (.seq (.call 18 (Ar1 V1))) eE) (.C_ (.tup [4,5,6]) (.seq (.call 20 (Ar2 V0 V1))) eZ) (.ret V2)
noncomputable def dI:ISs:=S1 (.ifs (.cmp .NotIn V4 V3) (S1 .dead) .nil)
noncomputable def hV:ISs:=S3 (.set 3 (.cat true (.lst true (Ar1 (.glo 0))) (.call 18 (Ar1 V1)))) (.C_ (.name 4) (.seq V2) dI) (.ret (.call 35 (Ar2 V0 V1)))
noncomputable def hX:ISs:=S3 (.set 4 (.call 36 (Ar3 V0 V1 (.lst true (Ar2 V2 V3))))) (.set 5 (.y_ V4 245168109 (Ar2 V3 V2))) (.ret (.tup (Ar2 (.Oa (.cmp .Is V5 (.con .i_)) (.con .i_) (.neg V5)) (.y_ V4 245168109 (Ar2 V2 V3)))))
noncomputable def bg:ISs:=S2 (.ifs (.cmp .NotIn V7 V6) (S1 (.ret (.tup (Ar3 (.con .i_) V5 V7)))) .nil) (.ifs (.cmp .Gt (.ix V6 V7) (.ix V4 I0)) (S1 (.set 4 (.tup (Ar3 (.ix V6 V7) V5 V7)))) .nil)
noncomputable def cM:ISs:=S2 (.set 6 (.call 24 (Ar2 V3 V5))) (.C_ (.name 7) (.seq V2) bg)
noncomputable def kG:ISs:=S5 (.ifs (.cmp .Eq (.bi .len (Ar1 V2)) I0) (S1 .dead) .nil) (.set 3 (.y_ (.call 36 (Ar3 V0 V1 V2)) 31083590245 .nil)) (.set 4 (.tup (Ar3 I0 (.ix V2 I0) (.ix V2 I0)))) (.C_ (.name 5) (.seq V2) cM) (.ret V4)
noncomputable def cA:ISs:=S2 (.ifs (.cmp .Lt V0 I1) (S1 .dead) .nil) (.ifs (.cmp .Lt V1 V0) (S1 .dead) .nil)
noncomputable def bK:ISs:=S2 (.ifs (.cmp .Lt V0 I0) (S1 .dead) .nil) (.ifs (.and (.cmp .IsNot V1 (.con .i_)) (.cmp .Lt V1 V0)) (S1 .dead) .nil)
noncomputable def bA:ISs:=S1 (.expr (.call 39 (Ar2 V3 V4)))
noncomputable def bp:ISs:=S1 (.expr (.y_ V0 8774101686596482917 (Ar4 V5 V6 V7 V8)))
noncomputable def cC:ISs:=S5 (.ifs (.or (.cmp .Lt (.bi .len (Ar1 V1)) I1) (.cmp .Gt (.bi .len (Ar1 V1)) (.glo 1))) (S1 .dead) .nil) (.C_ (.tup [3,4]) (.seq V1) bA) (.KY V0 136762133858116729320171 (.bi (.list false) (Ar1 V1))) (.KY V0 8355170983792620267 (.KO true)) (.C_ (.tup [5,6,7,8]) (.seq V2) bp)
noncomputable def bv:ISs:=S4 (.expr (.y_ V0 135562951883986971505394 (Ar2 V1 V2))) (.ifs (.cmp .In (.tup (Ar2 V1 V2)) (.fld V0 8355170983792620267)) (S1 .dead) .nil) (.expr (.call 40 (Ar2 V3 V4))) (.A_ (.fld V0 8355170983792620267) (.tup (Ar2 V1 V2)) (.tup (Ar2 V3 V4)))
noncomputable def aP:ISs:=S1 (.ifs (.not (.val (.y_ V0 56782141471387880 (Ar1 V1)))) (S1 .dead) .nil)
noncomputable def aO:ISs:=S3 (.expr (.y_ V0 119080781550527859766002 (Ar1 V1))) (.expr (.y_ V0 119080781550527859766002 (Ar1 V2))) (.ifs (.cmp .Eq V1 V2) (S1 .dead) .nil)
noncomputable def bP:ISs:=S1 (.ret (.bi .len (Ar1 (.fld V0 136762133858116729320171))))
noncomputable def aY:ISs:=S1 (.ret (.chain .LtE .Lt I0 V1 (.y_ V0 31081607400 .nil)))
noncomputable def bT:ISs:=S1 (.ret (.cmp .In (.tup (Ar2 V1 V2)) (.fld V0 8355170983792620267)))
noncomputable def cS:ISs:=S2 (.expr (.y_ V0 119080781550527859766002 (Ar1 V1))) (.ret (.ix (.fld V0 136762133858116729320171) V1))
noncomputable def eQ:ISs:=S3 (.expr (.y_ V0 135562951883986971505394 (Ar2 V1 V2))) (.ifs (.not (.val (.y_ V0 535528667410664 (Ar2 V1 V2)))) (S1 .dead) .nil) (.ret (.ix (.fld V0 8355170983792620267) (.tup (Ar2 V1 V2))))
noncomputable def bN:ISs:=S2 (.ifs (.cmp .Lt V1 (.bi .len (Ar1 V0))) (S1 (.ret (.ix V0 V1))) .nil) (.ret I0)
noncomputable def bX:ISs:=S2 (.set 3 (.bin .Mod (.bin .Add (.bin .Add (.bin .Mult V3 V3) (.bin .Mult (.con (.int 48271)) V3)) V4) (.bin .Add (.bin .Pow (.con (.int 10)) (.con (.int 40))) (.con (.int 121))))) (.app V2 V3)
noncomputable def dN:ISs:=S4 (.set 2 (.lst false .nil)) (.set 3 (.bin .Add (.bin .Mod V0 (.bin .Add (.bin .Pow (.con (.int 10)) (.con (.int 40))) (.con (.int 121)))) (.con (.int 48271)))) (.C_ (.name 4) (.LJ (.bin .Add V1 I4)) bX) (.ret (.sl true V2 (.yes I4) .no))
noncomputable def e8:ISs:=S3 (.set 2 (.ix (.lst true (Ar3 I0 I1 (.bin .Mod (.ix V0 I0) V1))) (.bin .Mod (.ix V0 I1) I3))) (.ifs (.cmp .Eq (.bin .Mod (.bin .FloorDiv (.ix V0 I1) I3) I4) I0) (S1 (.ret (.tup (Ar2 V2 (.con .i_))))) .nil) (.ret (.tup (Ar2 V2 (.bin .Add V2 (.ix (.lst true (Ar3 I0 I1 (.bin .Mod (.ix V0 I2) V1))) (.bin .Mod (.bin .FloorDiv (.ix V0 I1) (.con (.int 12))) I3))))))
noncomputable def bF:ISs:=S2 (.set 9 (.call 51 (Ar2 (.bin .Add (.bin .Add (.bin .Add V0 (.bin .Mult I7 V6)) (.bin .Mult (.con (.int 43)) V8)) I1) I4))) (.ifs (.and (.cmp .NotEq V6 V8) (.cmp .Gt (.bin .Mod (.ix V9 I3) I6) I0)) (S1 (.A_ V5 (.tup (Ar2 V6 V8)) (.call 52 (Ar2 V9 V3)))) .nil)
noncomputable def bw:ISs:=S3 (.set 7 (.bin .Add I1 (.bin .Mod (.bin .FloorDiv (.ix V1 (.bin .Add I2 V6)) I3) V3))) (.app V4 (.tup (Ar2 V7 (.bin .Add V7 (.ix (.lst true (Ar3 I0 I1 (.bin .Mod (.ix V1 (.bin .Sub I7 V6)) V3))) (.bin .Mod (.ix V1 (.bin .Add I2 V6)) I3)))))) (.C_ (.name 8) (.LJ V2) bF)
noncomputable def d8:ISs:=S7 (.set 1 (.call 51 (Ar2 V0 I8))) (.set 2 (.ix (.lst true (.cons I1 (.cons I2 (Ar6 I2 I3 I3 I4 I5 I6)))) (.bin .Mod (.ix V1 I0) I8))) (.set 3 (.ix (.lst true (Ar4 I3 (.con (.int 100)) (.bin .Pow (.con (.int 10)) I9) (.bin .Pow (.con (.int 10)) (.con (.int 30))))) (.bin .Mod (.ix V1 I1) I4))) (.set 4 (.lst false .nil)) (.set 5 (.KO true)) (.C_ (.name 6) (.LJ V2) bw) (.ret (.tup (Ar2 (.t_ V4) (.t_ V5))))
noncomputable def fR:ISs:=S1 (.ret (.make true 6 (Ar2 (.bi (.list true) (Ar1 (.ix V0 I0))) (.comp true ["_law_pair","_law_way_here"] [none,none] (.tup [0,1]) (.items (.ix V0 I1)) .no (.bin .Add V0 V1)))))
noncomputable def iG:ISs:=S7 (.set 5 (.ix (.lst true (Ar4 I0 I1 (.bin .Mod (.ix V2 I1) I5) (.bin .Mod (.ix V2 I1) (.bin .Pow (.con (.int 10)) (.con (.int 12)))))) (.bin .Mod (.ix V2 I2) I4))) (.ifs (.and (.cmp .IsNot V3 (.con .i_)) (.cmp .Lt (.bin .Add (.ix V1 I2) (.bin .Mult (.ix V0 I1) V5)) V3)) (S1 (.set 5 (.bin .FloorDiv (.bin .Sub (.bin .Add (.bin .Sub V3 (.ix V1 I2)) (.ix V0 I1)) I1) (.ix V0 I1)))) .nil) (.set 6 (.bin .Add (.ix V1 I2) (.bin .Mult (.ix V0 I0) V5))) (.set 7 (.bin .Add (.ix V1 I2) (.bin .Mult (.ix V0 I1) V5))) (.ifs (.cmp .IsNot V3 (.con .i_)) (S1 (.set 6 (.bi .max (Ar2 V6 V3)))) .nil) (.ifs (.cmp .IsNot V4 (.con .i_)) (S1 (.set 7 (.bi .min (Ar2 V7 V4)))) .nil) (.ret (.tup (Ar3 V5 V6 V7)))
noncomputable def dc:ISs:=S5 (.set 5 (.comp true ["_law_pair","_law_hand"] [none,some 0] (.name 0) (.dk V3) (.yes (.cmp .Eq (.ix V0 I0) V1)) (.ix V0 I1))) (.set 6 (.bin .Mod (.bin .FloorDiv (.ix V4 I3) I2) I8)) (.ifs (.or (.cmp .Eq V6 I1) (.cmp .Eq V6 I2)) (S2 (.set 7 (.lst true (Ar4 I0 I1 (.bin .Mod (.ix V4 I0) (.con (.int 100))) (.bin .Mod (.ix V4 I0) (.bin .Pow (.con (.int 10)) (.con (.int 12))))))) (.ret (.tup (Ar5 (.con (.str "sight")) V0 V1 (.bin .Sub V2 (.ix V7 (.bin .Mod (.ix V4 I1) I4))) (.bin .Add V2 (.ix V7 (.bin .Mod (.bin .FloorDiv (.ix V4 I1) I4) I4))))))) .nil) (.ifs (.and (.cmp .Gt V6 I2) (.cmp .NotEq V5 (.lst true .nil))) (S1 (.ret (.tup (Ar4 (.con (.str "send")) V0 V1 (.ix V5 (.bin .Mod (.bin .FloorDiv (.ix V4 I2) I5) (.bi .len (Ar1 V5)))))))) .nil) (.ret (.tup (Ar3 (.con (.str "look")) V0 V1)))
noncomputable def fJ:ISs:=S2 (.ifs (.cmp .Is (.ix V3 I1) (.con .i_)) (S1 (.ret (.tup (Ar4 V0 (.ix V1 I3) (.bin .Add V2 (.ix V3 I0)) (.con .i_))))) .nil) (.ret (.tup (Ar4 V0 (.ix V1 I3) (.bin .Add V2 (.ix V3 I0)) (.bin .Add V2 (.ix V3 I1)))))
noncomputable def cT:ISs:=S1 (.app V5 (.tup (Ar3 I0 (.bin .Sub (.bin .Mod V6 (.bin .Pow (.con (.int 10)) (.con (.int 12)))) (.bin .Pow (.con (.int 10)) (.con (.int 11)))) (.bin .Sub (.bin .Mod V1 (.bin .Pow (.con (.int 10)) (.con (.int 12)))) (.bin .Pow (.con (.int 10)) (.con (.int 11)))))))
noncomputable def aF:ISs:=S12 (.set 10 (.call 51 (Ar2 V9 I4))) (.set 11 (.bin .Mod (.ix V10 I0) (.bi .len (Ar1 V3)))) (.ifs (.cmp .Eq (.bin .Mod (.ix V10 I3) I2) I0) (S1 (.set 11 (.ix (.Ob (.comp true ["_law_k","_law_one"] [none,none] (.tup [0,1]) (.enum V5) .no (.tup (Ar2 (.ix V1 I2) V0)))) I1))) .nil) (.set 12 (.con .i_)) (.set 13 (.call 55 (Ar5 (.ix V3 V11) (.ix V5 V11) V10 (.con .i_) (.con .i_)))) (.ifs (.and (.cmp .Gt (.bin .Mod (.bin .FloorDiv (.ix V10 I3) I2) I8) I4) (.cmp .NotEq V7 (.lst true .nil))) (S3 (.set 12 (.ix V7 (.bin .Mod (.bin .FloorDiv (.ix V10 I0) I7) (.bi .len (Ar1 V7))))) (.set 14 (.call 55 (Ar5 (.ix V3 (.ix V12 I1)) (.ix V5 (.ix V12 I1)) V10 (.ix V12 I2) (.ix V12 I3)))) (.ifs (.cmp .Gt (.ix V14 I1) (.ix V14 I2)) (S1 (.set 12 (.con .i_))) (S2 (.set 11 (.ix V12 I1)) (.set 13 V14)))) .nil) (.set 15 (.ix (.lst true (Ar3 (.ix V13 I1) (.ix V13 I2) (.bin .Add (.ix V13 I1) (.bin .Mod (.bin .FloorDiv (.ix V10 I2) I4) (.bin .Add (.bin .Sub (.ix V13 I2) (.ix V13 I1)) I1))))) (.bin .Mod (.bin .FloorDiv (.ix V10 I3) (.con (.int 16))) I3))) (.set 16 (.tup (Ar2 V11 (.ix (.ix V5 V11) I0)))) (.A_ V5 V11 (.tup (Ar3 (.bin .Add (.ix V16 I1) I1) (.bin .Add (.ix (.ix V5 V11) I1) (.ix V13 I0)) V15))) (.set 17 (.call 56 (Ar5 V11 (.ix (.ix V5 V11) I1) V15 V4 V10))) (.ifs (.cmp .IsNot V12 (.con .i_)) (S2 (.expr (.bm .remove V7 (Ar1 V12))) (.set 17 (.tup (Ar4 (.con (.str "take")) V11 (.ix (.ix V5 V11) I1) (.ix V12 I0))))) (S1 (.ifs (.cmp .Eq (.ix V17 I0) (.con (.str "send"))) (S1 (.app V7 (.call 57 (Ar4 V16 V17 V15 (.ix V4 (.tup (Ar2 V11 (.ix V17 I3)))))))) .nil))) (.app V8 (.tup (Ar2 V17 V15)))
noncomputable def fZ:ISs:=S7 (.Nx [3,4] V0) (.set 5 (.lst false .nil)) (.C_ (.name 6) (.seq (.call 51 (Ar2 V1 (.bi .len (Ar1 V3))))) cT) (.set 7 (.lst false .nil)) (.set 8 (.lst false .nil)) (.C_ (.name 9) (.seq V2) aF) (.ret (.t_ V8))
noncomputable def eU:ISs:=S1 (.ret (.and (.L0 V0 .int) (.not (.L0 V0 .bool))))
noncomputable def fE:ISs:=S2 (.ifs (.or (.not (.val (.L0 V0 .tuple))) (.cmp .NotEq (.bi .len (Ar1 V0)) I2)) (S1 (.ret (.con (.bl false)))) .nil) (.ret (.and (.call 59 (Ar1 (.ix V0 I0))) (.call 59 (Ar1 (.ix V0 I1)))))
noncomputable def br:ISs:=S2 (.A_ V1 (.ix V3 I1) (.bin .Add (.bm .get V1 (Ar2 (.ix V3 I1) I0)) I1)) (.app V2 (.tup (Ar2 (.ix V3 I1) (.bin .Sub (.ix V1 (.ix V3 I1)) I1))))
noncomputable def eY:ISs:=S4 (.set 1 (.KO false)) (.set 2 (.lst false .nil)) (.C_ (.name 3) (.seq V0) br) (.ret (.t_ V2))
noncomputable def cU:ISs:=S2 (.ifs (.cmp .Is V1 (.con .i_)) (S1 (.ret (.con (.bl true)))) .nil) (.ret (.and (.cmp .IsNot V0 (.con .i_)) (.cmp .LtE V0 V1)))
noncomputable def eN:ISs:=S4 (.ifs (.or (.not (.val (.L0 V0 .tuple))) (.cmp .NotEq (.bi .len (Ar1 V0)) I3)) (S1 (.ret (.con (.bl false)))) .nil) (.ifs (.and (.cmp .IsNot (.ix V0 I0) (.con .i_)) (.not (.val (.call 59 (Ar1 (.ix V0 I0)))))) (S1 (.ret (.con (.bl false)))) .nil) (.ifs (.or (.not (.val (.call 60 (Ar1 (.ix V0 I1))))) (.not (.val (.call 60 (Ar1 (.ix V0 I2)))))) (S1 (.ret (.con (.bl false)))) .nil) (.ret (.and (.cmp .In (.ix V0 I1) V1) (.cmp .In (.ix V0 I2) V1)))
noncomputable def g8:ISs:=S1 (.A_ V5 V6 (.ix V7 I1))
noncomputable def gW:ISs:=S1 (.app V9 (.ix (.bi (.list true) (Ar1 V5)) (.bin .Mod V10 (.bi .len (Ar1 V5)))))
noncomputable def gJ:ISs:=S4 (.Nx [15,16] (.call 37 (Ar4 V4 (.bi (.list true) (Ar1 V3)) V10 V14))) (.ifs (.cmp .IsNot V15 (.con .i_)) (S1 (.set 15 (.bin .Sub I0 V15))) .nil) (.ifs (.or (.not (.val (.call 62 (Ar2 V16 (.ix V12 I0))))) (.not (.val (.call 62 (Ar2 V15 (.ix V12 I0)))))) (S1 (.ret (.con (.bl false)))) .nil) (.ifs (.not (.val (.call 62 (Ar2 (.bi .abs (Ar1 (.bin .Sub (.ix V5 V10) (.ix V5 V14)))) (.ix V12 I0))))) (S1 (.ret (.con (.bl false)))) .nil)
noncomputable def pe:ISs:=S1 (.C_ (.name 14) (.seq (.sl true V9 (.yes V13) .no)) gJ)
noncomputable def oO:ISs:=.cons (.set 1 (.call 53 (Ar1 (.call 50 (Ar2 V0 I0))))) (S14 (.set 2 (.call 58 (Ar3 V1 (.call 50 (Ar2 V0 I1)) (.sl true V0 (.yes I2) (.yes (.con (.int 14))))))) (.set 3 (.comp true ["_law_row_here","_law_moment"] [none,none] (.tup [0,1]) (.seq V2) .no V0)) (.set 4 (.call 54 (Ar1 V1))) (.set 5 (.LQ (.tup (Ar2 (.neg I1) I0)) I0)) (.C_ (.tup [6,7]) (.zip (.call 61 (Ar1 V3)) V2) g8) (.set 8 (.call 51 (Ar2 (.bin .Add (.call 50 (Ar2 V0 I0)) (.call 50 (Ar2 V0 I2))) I6))) (.set 9 (.lst false .nil)) (.C_ (.name 10) (.seq (.sl true V8 .no (.yes (.bin .Add I1 (.bin .Mod (.ix V8 I5) I5))))) gW) (.set 11 (.bi (.list true) (Ar1 V9))) (.set 12 (.call 38 (Ar3 V4 (.bi (.list true) (Ar1 V3)) V11))) (.ifs (.or (.not (.val (.call 63 (Ar2 V12 V9)))) (.cmp .NotEq V11 V9)) (S1 (.ret (.con (.bl false)))) .nil) (.ifs (.cmp .NotEq (.ix (.call 37 (Ar4 V4 (.bi (.list true) (Ar1 V3)) (.ix V12 I1) (.ix V12 I2))) I1) (.ix V12 I0)) (S1 (.ret (.con (.bl false)))) .nil) (.C_ (.tup [13,10]) (.enum V9) pe) (.ret (.con (.bl true))))
noncomputable def qQ:FL:=fl "is_whole" true (top 10) ["thing"] 1 fS
noncomputable def fD:FL:=fL "__init__" "Happening.__init__" false true (aj (top 13) 0) ["self","hand","reading"] 3 az
noncomputable def kO:FL:=fL "__init__" "Look.__init__" false true (aj (top 14) 0) ["self","hand","reading"] 3 cW
noncomputable def qO:FL:=fL "row" "Look.row" false true (aj (top 14) 1) ["self"] 1 qk
noncomputable def gX:FL:=fL "own_bounds" "Look.own_bounds" false true (aj (top 14) 2) ["self","world","name"] 3 bq
noncomputable def jD:FL:=fL "__init__" "Sight.__init__" false true (aj (top 15) 0) ["self","hand","reading","early","late"] 5 cv
noncomputable def pH:FL:=fL "row" "Sight.row" false true (aj (top 15) 1) ["self"] 1 pM
noncomputable def fP:FL:=fL "own_bounds" "Sight.own_bounds" false true (aj (top 15) 2) ["self","world","name"] 3 be
noncomputable def k9:FL:=fL "__init__" "Send.__init__" false true (aj (top 16) 0) ["self","hand","reading","to"] 4 cR
noncomputable def pZ:FL:=fL "row" "Send.row" false true (aj (top 16) 1) ["self"] 1 pQ
noncomputable def gZ:FL:=fL "own_bounds" "Send.own_bounds" false true (aj (top 16) 2) ["self","world","name"] 3 bx
noncomputable def lm:FL:=fL "__init__" "Take.__init__" false true (aj (top 17) 0) ["self","hand","reading","letter"] 4 cX
noncomputable def qD:FL:=fL "row" "Take.row" false true (aj (top 17) 1) ["self"] 1 qv
noncomputable def gi:FL:=fL "own_bounds" "Take.own_bounds" false true (aj (top 17) 2) ["self","world","name","way","told"] 3 aW
noncomputable def m7:FL:=fl "are_wholes" true (top 18) ["things","number"] 2 dm
noncomputable def pF:FL:=fl "is_letter" true (top 19) ["thing"] 1 eS
noncomputable def nQ:FL:=fl "happening" true (top 20) ["row","word"] 1 bo
noncomputable def qz:FL:=fl "count_on" true (top 22) ["counts","hand","ahead"] 2 gc
noncomputable def yE:FL:=fl "names" true (top 23) ["log","counts","told","row"] 1 mJ
noncomputable def jJ:FL:=fl "clock_bounds" true (top 25) ["clock","last","here","ticks"] 4 cG
noncomputable def vn:FL:=fl "bounds" true (top 26) ["world","log","told","readings","here","row","one","last"] 2 jZ
noncomputable def im:FL:=fl "refuse_unknown" true (top 28) ["edges","x"] 2 bM
noncomputable def zw:FL:=fl "go_on" true (top 29) ["row","x","sums","back","fallen","y","most","total"] 4 mi
noncomputable def wW:FL:=fl "settle" true (top 30) ["edges","sums","back","fallen","again","x","y"] 3 kh
noncomputable def zH:FL:=fl "spans" false (top 32) ["edges","x","sums"] 2 mN
noncomputable def mK:FL:=fL "__init__" "Net.__init__" false false (aj (top 36) 0) ["self"] 1 dC
noncomputable def gS:FL:=fL "refuse_ring" "Net.refuse_ring" false true (aj (top 36) 1) ["self","x","y","most","back"] 4 bu
noncomputable def qi:FL:=fL "name" "Net.name" false false (aj (top 36) 2) ["self","x"] 2 dJ
noncomputable def tF:FL:=fL "put" "Net.put" false false (aj (top 36) 3) ["self","x","y","most"] 4 iB
noncomputable def i8:FL:=fL "put_round" "Net.put_round" false true (aj (top 36) 4) ["self","x","most"] 3 i4
noncomputable def o8:FL:=fL "names" "Net.names" false true (aj (top 36) 5) ["self"] 1 nY
noncomputable def nJ:FL:=fL "bound" "Net.bound" false true (aj (top 36) 6) ["self","x","y"] 3 pA
noncomputable def nK:FL:=fL "edges" "Net.edges" false false (aj (top 36) 7) ["self","told","x","row"] 1 eK
noncomputable def qP:FL:=fL "most" "Net.most" false true (aj (top 36) 9) ["self","x","y"] 3 gh
noncomputable def qK:FL:=fL "road" "Net.road" false true (aj (top 36) 10) ["self","x","y"] 3 pR
noncomputable def vA:FL:=fl "net_of" false (top 38) ["world","log","net","name","x","y","most"] 2 kf
noncomputable def t5:FL:=fl "net_for" false (top 40) ["world","log","some","there","name"] 3 hV
noncomputable def tN:FL:=fl "between" true (top 41) ["world","log","x","y","net","back"] 4 hX
noncomputable def wP:FL:=fl "spread" true (top 42) ["world","log","some","edges","widest","x","sums","y"] 3 kG
noncomputable def j1:FL:=fl "refuse_clock" true (top 45) ["short","long"] 2 cA
noncomputable def g9:FL:=fl "refuse_lengths" true (top 46) ["least","most"] 2 bK
noncomputable def jy:FL:=fL "__init__" "World.__init__" false false (aj (top 47) 0) ["self","clocks","ways","short","long","one","other","least","most"] 3 cC
noncomputable def gq:FL:=fL "enter_way" "World.enter_way" false true (aj (top 47) 1) ["self","one","other","least","most"] 5 bv
noncomputable def fq:FL:=fL "refuse_hand" "World.refuse_hand" false true (aj (top 47) 2) ["self","hand"] 2 aP
noncomputable def fk:FL:=fL "refuse_pair" "World.refuse_pair" false true (aj (top 47) 3) ["self","one","other"] 3 aO
noncomputable def kT:FL:=fL "hands" "World.hands" false true (aj (top 47) 4) ["self"] 1 bP
noncomputable def iz:FL:=fL "has_hand" "World.has_hand" false true (aj (top 47) 5) ["self","hand"] 2 aY
noncomputable def ja:FL:=fL "has_way" "World.has_way" false true (aj (top 47) 6) ["self","one","other"] 3 bT
noncomputable def kY:FL:=fL "clock" "World.clock" false true (aj (top 47) 7) ["self","hand"] 2 cS
noncomputable def nP:FL:=fL "way" "World.way" false true (aj (top 47) 8) ["self","one","other"] 3 eQ
noncomputable def kR:FL:=fl "_law_cell_at" true (top 49) ["_law_script","_law_k"] 2 bN
noncomputable def mM:FL:=fl "_law_stream" true (top 50) ["_law_cell","_law_many","_law_found","_law_number","_law_k"] 2 dN
noncomputable def sQ:FL:=fl "_law_way" true (top 51) ["_law_xs","_law_size","_law_least"] 2 e8
noncomputable def pL:FL:=fl "_law_world" true (top 52) ["_law_cell","_law_xs","_law_hands","_law_size","_law_clocks","_law_ways","_law_one","_law_short","_law_other","_law_ys"] 1 d8
noncomputable def qe:FL:=fl "_law_made" true (top 53) ["_law_world_here"] 1 fR
noncomputable def sW:FL:=fl "_law_lag" true (top 54) ["_law_clock","_law_here","_law_xs","_law_low","_law_high","_law_ticks","_law_first","_law_last"] 5 iG
noncomputable def uh:FL:=fl "_law_row" true (top 55) ["_law_hand","_law_reading","_law_moment","_law_ways","_law_xs","_law_tos","_law_kind","_law_gaps"] 5 dc
noncomputable def qB:FL:=fl "_law_sent" true (top 56) ["_law_here","_law_row_here","_law_moment","_law_way_here"] 4 fJ
noncomputable def qy:FL:=fl "_law_tale" true (top 57) ["_law_world_here","_law_start","_law_cells","_law_clocks","_law_ways","_law_at","_law_x","_law_sent_here","_law_told","_law_cell","_law_xs","_law_hand","_law_letter","_law_lag_here","_law_near","_law_moment","_law_here","_law_row_here"] 3 fZ
noncomputable def oH:FL:=fl "_law_whole" true (top 58) ["_law_found"] 1 eU
noncomputable def qX:FL:=fl "_law_name" true (top 59) ["_law_found"] 1 fE
noncomputable def oW:FL:=fl "_law_names" true (top 60) ["_law_log","_law_many","_law_found","_law_row_here"] 1 eY
noncomputable def kX:FL:=fl "_law_no_more" true (top 61) ["_law_one","_law_other"] 2 cU
noncomputable def nG:FL:=fl "_law_alike" true (top 62) ["_law_found","_law_some"] 2 eN
noncomputable def l_law:FL:=fl "law" true (top 63) ["_law_script","_law_world_here","_law_tale_here","_law_log","_law_made_here","_law_moments","_law_here","_law_one","_law_xs","_law_some","_law_x","_law_handed","_law_found","_law_k","_law_y","_law_early","_law_late"] 1 oO
noncomputable def L:List FL:=[qQ,fD,kO,qO,gX,jD,pH,fP,k9,pZ,gZ,lm,qD,gi,m7,pF,nQ,qz,yE,jJ,vn,im,zw,wW,zH,mK,gS,qi,tF,i8,o8,nJ,nK,qP,qK,vA,t5,tN,wP,j1,g9,jy,gq,fq,fk,kT,iz,ja,kY,nP,kR,mM,sQ,pL,qe,sW,uh,qB,qy,oH,qX,oW,kX,nG,l_law]
noncomputable def xinT:List (Nat×Nat):=[(6,217822450)]
noncomputable def nm:NM:=⟨["DriftError","NoHand","NoClock","NoWay","NoHappening","NoName","Ring"],["Happening","Look","Sight","Send","Take","Net","World"],["NOUGHT","MOST_HANDS"],xinT⟩
noncomputable def xin(i:Nat):Option Nat:=xinT.lookup i
noncomputable def subT:List (List Bool):=[[true,false,false,false,false,false,false],[true,true,false,false,false,false,false],[true,false,true,false,false,false,false],[true,false,false,true,false,false,false],[true,false,false,false,true,false,false],[true,false,false,false,false,true,false],[true,false,false,false,false,false,true]]
noncomputable def sub(i j:Nat):Bool:=(subT.getD i []).getD j false
noncomputable def ksubT:List (List Bool):=[[true,false,false,false,false,false,false],[true,true,false,false,false,false,false],[true,false,true,false,false,false,false],[true,false,false,true,false,false,false],[true,false,false,false,true,false,false],[false,false,false,false,false,true,false],[false,false,false,false,false,false,true]]
noncomputable def ksub(i j:Nat):Bool:=(ksubT.getD i []).getD j false
noncomputable def fokT:List (List Nat):=[[211529960,456806758904562],[211529960,456806758904562],[32709062885,213725420,211529960,456806758904562],[14324,211529960,456806758904562],[3944367338220,211529960,456806758904562],[245117675],[136762133858116729320171,8355170983792620267]]
noncomputable def fok(i f:Nat):Bool:=(fokT.getD i []).contains f
noncomputable def mthT:List (List (Nat×Nat)):=[[],[(1067955986548848835567,4),(1964018,3)],[(1067955986548848835567,7),(1964018,6)],[(1067955986548848835567,10),(1964018,9)],[(1067955986548848835567,13),(1964018,12)],[(27076163554,31),(31083590245,32),(245168109,33),(213610734,27),(31083688174,30),(1915632,28),(7268202314844682992,29),(122623138502931931312882,26),(211318770,34)],[(28932044387,48),(8774101686596482917,42),(31081607400,45),(56782141471387880,46),(535528667410664,47),(119080781550527859766002,43),(135562951883986971505394,44),(1994999,49)]]
noncomputable def mth(i m:Nat):Option Nat:=(mthT.getD i []).lookup m
noncomputable def EU:List Nat:=[1,2,5,8,11,25,41]
noncomputable def ini(i:Nat):Option Nat:=EU[i]?
noncomputable def gloT:List D:=[.tup [.int (-1),.int 0],.int 6]
noncomputable def glo(k:Nat):D:=gloT.getD k .i_
noncomputable def B(cls b_ d_:Nat->Addr):WB:={ne:=7,cls:=cls,sub:=sub,nk:=7,b_:=b_,ksub:=ksub,fok:=fok,mth:=mth,ini:=ini,xin:=xin,glo:=glo,d_:=d_}
section
variable {cls b_ d_:Nat->Addr}
@[simp] theorem Jb:(B cls b_ d_).nk=7:=rfl
@[simp] theorem Ih:(B cls b_ d_).b_=b_:=rfl
@[simp] theorem IN:(B cls b_ d_).fok=fok:=rfl
@[simp] theorem HH:(B cls b_ d_).mth=mth:=rfl
@[simp] theorem Iu:(B cls b_ d_).ini=ini:=rfl
@[simp] theorem HP:(B cls b_ d_).glo=glo:=rfl
end
@[simp] theorem Hx:ini 0=some 1:=rfl
@[simp] theorem CF:fok 1 211529960=true:=by decide
@[simp] theorem xq:fok 1 456806758904562=true:=by decide
@[simp] theorem uj:mth 1 1067955986548848835567=some 4:=by decide
@[simp] theorem HW:ini 1=some 2:=rfl
@[simp] theorem zW:fok 2 32709062885=true:=by decide
@[simp] theorem Ao:fok 2 213725420=true:=by decide
@[simp] theorem BZ:fok 2 211529960=true:=by decide
@[simp] theorem xr:fok 2 456806758904562=true:=by decide
@[simp] theorem t6:mth 2 1067955986548848835567=some 7:=by decide
@[simp] theorem HV:ini 2=some 5:=rfl
@[simp] theorem DK:fok 3 14324=true:=by decide
@[simp] theorem AB:fok 3 211529960=true:=by decide
@[simp] theorem xu:fok 3 456806758904562=true:=by decide
@[simp] theorem uo:mth 3 1067955986548848835567=some 10:=by decide
@[simp] theorem Il:ini 3=some 8:=rfl
@[simp] theorem yt:fok 4 3944367338220=true:=by decide
@[simp] theorem CY:fok 4 211529960=true:=by decide
@[simp] theorem xt:fok 4 456806758904562=true:=by decide
@[simp] theorem t9:mth 4 1067955986548848835567=some 13:=by decide
@[simp] theorem HZ:ini 4=some 11:=rfl
@[simp] theorem CN:fok 5 245117675=true:=by decide
@[simp] theorem oJ:mth 5 31083590245=some 32:=by decide
@[simp] theorem dE:mth 5 245168109=some 33:=by decide
@[simp] theorem jV:mth 5 213610734=some 27:=by decide
@[simp] theorem tV:mth 5 1915632=some 28:=by decide
@[simp] theorem gG:mth 5 122623138502931931312882=some 26:=by decide
@[simp] theorem HC:ini 5=some 25:=rfl
@[simp] theorem se:fok 6 136762133858116729320171=true:=by decide
@[simp] theorem uB:fok 6 8355170983792620267=true:=by decide
@[simp] theorem HE:ini 6=some 41:=rfl
@[simp] theorem HK:glo 0=.tup [.int (-1),.int 0]:=rfl
@[simp] theorem IG:glo 1=.int 6:=rfl
theorem AG:fnm 217822450=("ring" : Str):=by decide +kernel
noncomputable def T:List FB:=L.map FL.fb
theorem Hk:L.map FL.fb=T:=rfl
section
variable {B:WB}{M:MH}{Q:VK3}{E:XN}{n:Nat}
theorem pS{x0:D}:aa T B (n+1) 0 [x0] M Q E=runF T B n fS [some x0] M Q E:=propext ⟨λh=>h.2,λh=>⟨rfl,h⟩⟩
theorem aT{x0 x1 x2:D}:aa T B (n+1) 1 [x0,x1,x2] M Q E=runF T B n az [some x0,some x1,some x2] M Q E:=propext ⟨λh=>h.2,λh=>⟨rfl,h⟩⟩
theorem ll{x0 x1 x2:D}:aa T B (n+1) 2 [x0,x1,x2] M Q E=runF T B n cW [some x0,some x1,some x2] M Q E:=propext ⟨λh=>h.2,λh=>⟨rfl,h⟩⟩
theorem g6{x0 x1 x2:D}:aa T B (n+1) 4 [x0,x1,x2] M Q E=runF T B n bq [some x0,some x1,some x2] M Q E:=propext ⟨λh=>h.2,λh=>⟨rfl,h⟩⟩
theorem jB{x0 x1 x2 x3 x4:D}:aa T B (n+1) 5 [x0,x1,x2,x3,x4] M Q E=runF T B n cv [some x0,some x1,some x2,some x3,some x4] M Q E:=propext ⟨λh=>h.2,λh=>⟨rfl,h⟩⟩
theorem f9{x0 x1 x2:D}:aa T B (n+1) 7 [x0,x1,x2] M Q E=runF T B n be [some x0,some x1,some x2] M Q E:=propext ⟨λh=>h.2,λh=>⟨rfl,h⟩⟩
theorem kU{x0 x1 x2 x3:D}:aa T B (n+1) 8 [x0,x1,x2,x3] M Q E=runF T B n cR [some x0,some x1,some x2,some x3] M Q E:=propext ⟨λh=>h.2,λh=>⟨rfl,h⟩⟩
theorem gA{x0 x1 x2:D}:aa T B (n+1) 10 [x0,x1,x2] M Q E=runF T B n bx [some x0,some x1,some x2] M Q E:=propext ⟨λh=>h.2,λh=>⟨rfl,h⟩⟩
theorem k8{x0 x1 x2 x3:D}:aa T B (n+1) 11 [x0,x1,x2,x3] M Q E=runF T B n cX [some x0,some x1,some x2,some x3] M Q E:=propext ⟨λh=>h.2,λh=>⟨rfl,h⟩⟩
theorem cO{x0 x1 x2:D}:aa T B (n+1) 13 [x0,x1,x2] M Q E=runF T B n aW [some x0,some x1,some x2,none,none] M Q E:=propext ⟨λh=>h.2,λh=>⟨rfl,h⟩⟩
theorem mm{x0 x1:D}:aa T B (n+1) 14 [x0,x1] M Q E=runF T B n dm [some x0,some x1] M Q E:=propext ⟨λh=>h.2,λh=>⟨rfl,h⟩⟩
theorem oE{x0:D}:aa T B (n+1) 15 [x0] M Q E=runF T B n eS [some x0] M Q E:=propext ⟨λh=>h.2,λh=>⟨rfl,h⟩⟩
theorem cP{x0:D}:aa T B (n+1) 16 [x0] M Q E=runF T B n bo [some x0,none] M Q E:=propext ⟨λh=>h.2,λh=>⟨rfl,h⟩⟩
theorem pU{x0 x1:D}:aa T B (n+1) 17 [x0,x1] M Q E=runF T B n gc [some x0,some x1,none] M Q E:=propext ⟨λh=>h.2,λh=>⟨rfl,h⟩⟩
theorem yK{x0:D}:aa T B (n+1) 18 [x0] M Q E=runF T B n mJ [some x0,none,none,none] M Q E:=propext ⟨λh=>h.2,λh=>⟨rfl,h⟩⟩
theorem jR{x0 x1 x2 x3:D}:aa T B (n+1) 19 [x0,x1,x2,x3] M Q E=runF T B n cG [some x0,some x1,some x2,some x3] M Q E:=propext ⟨λh=>h.2,λh=>⟨rfl,h⟩⟩
theorem vg{x0 x1:D}:aa T B (n+1) 20 [x0,x1] M Q E=runF T B n jZ [some x0,some x1,none,none,none,none,none,none] M Q E:=propext ⟨λh=>h.2,λh=>⟨rfl,h⟩⟩
theorem ir{x0 x1:D}:aa T B (n+1) 21 [x0,x1] M Q E=runF T B n bM [some x0,some x1] M Q E:=propext ⟨λh=>h.2,λh=>⟨rfl,h⟩⟩
theorem xV{x0 x1 x2 x3:D}:aa T B (n+1) 22 [x0,x1,x2,x3] M Q E=runF T B n mi [some x0,some x1,some x2,some x3,none,none,none,none] M Q E:=propext ⟨λh=>h.2,λh=>⟨rfl,h⟩⟩
theorem uQ{x0 x1 x2:D}:aa T B (n+1) 23 [x0,x1,x2] M Q E=runF T B n kh [some x0,some x1,some x2,none,none,none,none] M Q E:=propext ⟨λh=>h.2,λh=>⟨rfl,h⟩⟩
theorem zA{x0 x1:D}:aa T B (n+1) 24 [x0,x1] M Q E=aR {toWB:=B,call:=aa T B n} mN {nx:=λ_ M'=>Q .i_ M',rt:=λv M'=>Q v M'} (λ_ i M'=>E i (av M M')) [some x0,some x1,none] M:=propext ⟨λh=>h.2,λh=>⟨rfl,h⟩⟩
theorem m9{x0:D}:aa T B (n+1) 25 [x0] M Q E=aR {toWB:=B,call:=aa T B n} dC {nx:=λ_ M'=>Q .i_ M',rt:=λv M'=>Q v M'} (λ_ i M'=>E i (av M M')) [some x0] M:=propext ⟨λh=>h.2,λh=>⟨rfl,h⟩⟩
theorem gI{x0 x1 x2 x3:D}:aa T B (n+1) 26 [x0,x1,x2,x3] M Q E=runF T B n bu [some x0,some x1,some x2,some x3,none] M Q E:=propext ⟨λh=>h.2,λh=>⟨rfl,h⟩⟩
theorem j4{x0 x1:D}:aa T B (n+1) 27 [x0,x1] M Q E=aR {toWB:=B,call:=aa T B n} dJ {nx:=λ_ M'=>Q .i_ M',rt:=λv M'=>Q v M'} (λ_ i M'=>E i (av M M')) [some x0,some x1] M:=propext ⟨λh=>h.2,λh=>⟨rfl,h⟩⟩
theorem ub{x0 x1 x2 x3:D}:aa T B (n+1) 28 [x0,x1,x2,x3] M Q E=aR {toWB:=B,call:=aa T B n} iB {nx:=λ_ M'=>Q .i_ M',rt:=λv M'=>Q v M'} (λ_ i M'=>E i (av M M')) [some x0,some x1,some x2,some x3] M:=propext ⟨λh=>h.2,λh=>⟨rfl,h⟩⟩
theorem oy{x0:D}:aa T B (n+1) 32 [x0] M Q E=aR {toWB:=B,call:=aa T B n} eK {nx:=λ_ M'=>Q .i_ M',rt:=λv M'=>Q v M'} (λ_ i M'=>E i (av M M')) [some x0,none,none,none] M:=propext ⟨λh=>h.2,λh=>⟨rfl,h⟩⟩
theorem ql{x0 x1 x2:D}:aa T B (n+1) 33 [x0,x1,x2] M Q E=runF T B n gh [some x0,some x1,some x2] M Q E:=propext ⟨λh=>h.2,λh=>⟨rfl,h⟩⟩
theorem wU{x0 x1:D}:aa T B (n+1) 35 [x0,x1] M Q E=aR {toWB:=B,call:=aa T B n} kf {nx:=λ_ M'=>Q .i_ M',rt:=λv M'=>Q v M'} (λ_ i M'=>E i (av M M')) [some x0,some x1,none,none,none,none,none] M:=propext ⟨λh=>h.2,λh=>⟨rfl,h⟩⟩
theorem ux{x0 x1 x2:D}:aa T B (n+1) 36 [x0,x1,x2] M Q E=aR {toWB:=B,call:=aa T B n} hV {nx:=λ_ M'=>Q .i_ M',rt:=λv M'=>Q v M'} (λ_ i M'=>E i (av M M')) [some x0,some x1,some x2,none,none] M:=propext ⟨λh=>h.2,λh=>⟨rfl,h⟩⟩
theorem sR{x0 x1 x2 x3:D}:aa T B (n+1) 37 [x0,x1,x2,x3] M Q E=runF T B n hX [some x0,some x1,some x2,some x3,none,none] M Q E:=propext ⟨λh=>h.2,λh=>⟨rfl,h⟩⟩
theorem wM{x0 x1 x2:D}:aa T B (n+1) 38 [x0,x1,x2] M Q E=runF T B n kG [some x0,some x1,some x2,none,none,none,none,none] M Q E:=propext ⟨λh=>h.2,λh=>⟨rfl,h⟩⟩
theorem kF{x0 x1:D}:aa T B (n+1) 39 [x0,x1] M Q E=runF T B n cA [some x0,some x1] M Q E:=propext ⟨λh=>h.2,λh=>⟨rfl,h⟩⟩
theorem hJ{x0 x1:D}:aa T B (n+1) 40 [x0,x1] M Q E=runF T B n bK [some x0,some x1] M Q E:=propext ⟨λh=>h.2,λh=>⟨rfl,h⟩⟩
theorem j7{x0 x1 x2:D}:aa T B (n+1) 41 [x0,x1,x2] M Q E=aR {toWB:=B,call:=aa T B n} cC {nx:=λ_ M'=>Q .i_ M',rt:=λv M'=>Q v M'} (λ_ i M'=>E i (av M M')) [some x0,some x1,some x2,none,none,none,none,none,none] M:=propext ⟨λh=>h.2,λh=>⟨rfl,h⟩⟩
theorem gM{x0 x1 x2 x3 x4:D}:aa T B (n+1) 42 [x0,x1,x2,x3,x4] M Q E=runF T B n bv [some x0,some x1,some x2,some x3,some x4] M Q E:=propext ⟨λh=>h.2,λh=>⟨rfl,h⟩⟩
theorem bZ{x0 x1:D}:aa T B (n+1) 43 [x0,x1] M Q E=runF T B n aP [some x0,some x1] M Q E:=propext ⟨λh=>h.2,λh=>⟨rfl,h⟩⟩
theorem b9{x0 x1 x2:D}:aa T B (n+1) 44 [x0,x1,x2] M Q E=runF T B n aO [some x0,some x1,some x2] M Q E:=propext ⟨λh=>h.2,λh=>⟨rfl,h⟩⟩
theorem fx{x0:D}:aa T B (n+1) 45 [x0] M Q E=runF T B n bP [some x0] M Q E:=propext ⟨λh=>h.2,λh=>⟨rfl,h⟩⟩
theorem cY{x0 x1:D}:aa T B (n+1) 46 [x0,x1] M Q E=runF T B n aY [some x0,some x1] M Q E:=propext ⟨λh=>h.2,λh=>⟨rfl,h⟩⟩
theorem jc{x0 x1 x2:D}:aa T B (n+1) 47 [x0,x1,x2] M Q E=runF T B n bT [some x0,some x1,some x2] M Q E:=propext ⟨λh=>h.2,λh=>⟨rfl,h⟩⟩
theorem kZ{x0 x1:D}:aa T B (n+1) 48 [x0,x1] M Q E=runF T B n cS [some x0,some x1] M Q E:=propext ⟨λh=>h.2,λh=>⟨rfl,h⟩⟩
theorem n9{x0 x1 x2:D}:aa T B (n+1) 49 [x0,x1,x2] M Q E=runF T B n eQ [some x0,some x1,some x2] M Q E:=propext ⟨λh=>h.2,λh=>⟨rfl,h⟩⟩
theorem fy{x0 x1:D}:aa T B (n+1) 50 [x0,x1] M Q E=runF T B n bN [some x0,some x1] M Q E:=propext ⟨λh=>h.2,λh=>⟨rfl,h⟩⟩
theorem mv{x0 x1:D}:aa T B (n+1) 51 [x0,x1] M Q E=runF T B n dN [some x0,some x1,none,none,none] M Q E:=propext ⟨λh=>h.2,λh=>⟨rfl,h⟩⟩
theorem lO{x0 x1:D}:aa T B (n+1) 52 [x0,x1] M Q E=runF T B n e8 [some x0,some x1,none] M Q E:=propext ⟨λh=>h.2,λh=>⟨rfl,h⟩⟩
theorem pG{x0:D}:aa T B (n+1) 53 [x0] M Q E=runF T B n d8 [some x0,none,none,none,none,none,none,none,none,none] M Q E:=propext ⟨λh=>h.2,λh=>⟨rfl,h⟩⟩
theorem pO{x0:D}:aa T B (n+1) 54 [x0] M Q E=runF T B n fR [some x0] M Q E:=propext ⟨λh=>h.2,λh=>⟨rfl,h⟩⟩
theorem sV{x0 x1 x2 x3 x4:D}:aa T B (n+1) 55 [x0,x1,x2,x3,x4] M Q E=runF T B n iG [some x0,some x1,some x2,some x3,some x4,none,none,none] M Q E:=propext ⟨λh=>h.2,λh=>⟨rfl,h⟩⟩
theorem iM{x0 x1 x2 x3 x4:D}:aa T B (n+1) 56 [x0,x1,x2,x3,x4] M Q E=runF T B n dc [some x0,some x1,some x2,some x3,some x4,none,none,none] M Q E:=propext ⟨λh=>h.2,λh=>⟨rfl,h⟩⟩
theorem qd{x0 x1 x2 x3:D}:aa T B (n+1) 57 [x0,x1,x2,x3] M Q E=runF T B n fJ [some x0,some x1,some x2,some x3] M Q E:=propext ⟨λh=>h.2,λh=>⟨rfl,h⟩⟩
theorem qV{x0 x1 x2:D}:aa T B (n+1) 58 [x0,x1,x2] M Q E=runF T B n fZ [some x0,some x1,some x2,none,none,none,none,none,none,none,none,none,none,none,none,none,none,none] M Q E:=propext ⟨λh=>h.2,λh=>⟨rfl,h⟩⟩
theorem oo{x0:D}:aa T B (n+1) 59 [x0] M Q E=runF T B n eU [some x0] M Q E:=propext ⟨λh=>h.2,λh=>⟨rfl,h⟩⟩
theorem qt{x0:D}:aa T B (n+1) 60 [x0] M Q E=runF T B n fE [some x0] M Q E:=propext ⟨λh=>h.2,λh=>⟨rfl,h⟩⟩
theorem pN{x0:D}:aa T B (n+1) 61 [x0] M Q E=runF T B n eY [some x0,none,none,none] M Q E:=propext ⟨λh=>h.2,λh=>⟨rfl,h⟩⟩
theorem kW{x0 x1:D}:aa T B (n+1) 62 [x0,x1] M Q E=runF T B n cU [some x0,some x1] M Q E:=propext ⟨λh=>h.2,λh=>⟨rfl,h⟩⟩
theorem oY{x0 x1:D}:aa T B (n+1) 63 [x0,x1] M Q E=runF T B n eN [some x0,some x1] M Q E:=propext ⟨λh=>h.2,λh=>⟨rfl,h⟩⟩
theorem E0{x0:D}:aa T B (n+1) 64 [x0] M Q E=runF T B n oO [some x0,none,none,none,none,none,none,none,none,none,none,none,none,none,none,none,none] M Q E:=propext ⟨λh=>h.2,λh=>⟨rfl,h⟩⟩
end
theorem top_mk{P:Params}{h:Heap}{mg:Str->Option Value}(X:(HD.K P).In h)(Gn:h.Ns mainGlobals mg)
  {q0:Addr}{qn0:Nat}{qt0_0:Tok}{qt0_1:Tok}
  (Qi:PySem.W.nsIn (HD.K P) mainGlobals "NOUGHT"=some (some (.ref q0)))
  (Qj:(HD.K P).lookup q0=some {cls:=.type "tuple",data:=.seq #[.int (-1) qt0_0,.int (0) qt0_1] qn0})
  {qt1:Tok}
  (Qk:PySem.W.nsIn (HD.K P) mainGlobals "MOST_HANDS"=some (some (.int (6) qt1)))
  {h6:Addr}{xod6 xan6:Option Addr}{xsl6:Array (Option Value)}{xoc6 xkV6 xdc6 xpm6 xcd6 xct6:Value}
  (x6:eX (HD.K P) 111=true)
  (O5:PySem.W.findIn (HD.K P) (.ref 111) "__init__"=some (some (.ref h6)))
  (O6:(HD.K P).lookup h6=some ⟨xoc6,xod6,.func (PySem.W.fnOf "__init__" "Ring.__init__" (bG (aj (top 8) 0)) (aV (aj (top 8) 0)) (ay (aj (top 8) 0)) .none xkV6 xdc6 xpm6 xan6 xcd6 xct6),xsl6⟩)
  {Ql:Str}{Sz:Nat}{Qm Ot Qn Qo Ou Qp Qq Qr Qs Qt Qu Qv:Pos}
  (Qw:aV (aj (top 8) 0)=[.Expr (.Call (.Attribute (.Name "DriftError" Qm) "__init__" Ot) [.Name "self" Qn,.Constant (.str Ql) Sz Qo] [] Ou) Qp,.Assign [.Attribute (.Name "self" Qq) "ring" Qr] (.Call (.Name "list" Qu) [.Name "ring" Qs] [] Qv) Qt])
  (Qx:uJ "self" "ring" "DriftError" (ay (aj (top 8) 0)) Ot Ou=true)
  (O7:PySem.W.codeIn (HD.K P) xcd6 "Ring.__init__"=true)
  (Qy:PySem.W.keepIn (HD.K P) (.ref h6)=true)
  (O8:PySem.W.typeIn (HD.K P) (.ref h6)=some (.type "function"))
  : ∃cls b_ d_,Top (HD.K P) mg L nm (B cls b_ d_):=by
 refine⟨λi=>([31,44,56,68,80,92,111]:List Nat).getD i 0,λi=>([138,173,206,239,272,458,577]:List Nat).getD i 0,λi=>([120,135,156,163,170,189,196,203,222,229,236,255,262,269,279,286,293,300,307,314,321,328,335,342,356,377,384,391,398,405,412,419,426,440,447,469,476,483,490,497,504,518,525,532,539,546,553,560,567,574,588,595,602,609,614,621,626,633,638,645,652,659,666,673,678]:List Nat).getD i 0,Top.of (fT:=fokT) (mT:=mthT) (iT:=EU) X Gn (by kernel_rfl) (by kernel_rfl) (by kernel_rfl) (ixc (n1 (by intros;rfl)) (ixc (n3 (by intros;rfl)) (ixc (n3 (by intros;rfl)) (ixc (n1 (by intros;rfl)) (ixc (n3 (by intros;rfl)) (ixc (n5 (by intros;rfl)) (ixc (n1 (by intros;rfl)) (ixc (n3 (by intros;rfl)) (ixc (n4 (by intros;rfl)) (ixc (n1 (by intros;rfl)) (ixc (n3 (by intros;rfl)) (ixc (n4 (by intros;rfl)) (ixc (n1 (by intros;rfl)) (ixc (n3 (by intros;rfl)) (ixc (n2 (by intros;rfl)) (ixc (n1 (by intros;rfl)) (ixc (n1 (by intros;rfl)) (ixc (n2 (by intros;rfl)) (ixc (n1 (by intros;rfl)) (ixc (n4 (by intros;rfl)) (ixc (n2 (by intros;rfl)) (ixc (n2 (by intros;rfl)) (ixc (n4 (by intros;rfl)) (ixc (n3 (by intros;rfl)) (ixc (n2 (by intros;rfl)) (ixc (n1 (by intros;rfl)) (ixc (n4 (by intros;rfl)) (ixc (n2 (by intros;rfl)) (ixc (n4 (by intros;rfl)) (ixc (n3 (by intros;rfl)) (ixc (n1 (by intros;rfl)) (ixc (n3 (by intros;rfl)) (ixc (n1 (by intros;rfl)) (ixc (n3 (by intros;rfl)) (ixc (n3 (by intros;rfl)) (ixc (n2 (by intros;rfl)) (ixc (n3 (by intros;rfl)) (ixc (n4 (by intros;rfl)) (ixc (n3 (by intros;rfl)) (ixc (n2 (by intros;rfl)) (ixc (n2 (by intros;rfl)) (ixc (n3 (by intros;rfl)) (ixc (n5 (by intros;rfl)) (ixc (n2 (by intros;rfl)) (ixc (n3 (by intros;rfl)) (ixc (n1 (by intros;rfl)) (ixc (n2 (by intros;rfl)) (ixc (n3 (by intros;rfl)) (ixc (n2 (by intros;rfl)) (ixc (n3 (by intros;rfl)) (ixc (n2 (by intros;rfl)) (ixc (n2 (by intros;rfl)) (ixc (n2 (by intros;rfl)) (ixc (n1 (by intros;rfl)) (ixc (n1 (by intros;rfl)) (ixc (n5 (by intros;rfl)) (ixc (n5 (by intros;rfl)) (ixc (n4 (by intros;rfl)) (ixc (n3 (by intros;rfl)) (ixc (n1 (by intros;rfl)) (ixc (n1 (by intros;rfl)) (ixc (n1 (by intros;rfl)) (ixc (n2 (by intros;rfl)) (ixc (n2 (by intros;rfl)) (ixc (n1 (by intros;rfl)) (ixn)))))))))))))))))))))))))))))))))))))))))))))))))))))))))))))))))) (by kernel_rfl) (by kernel_rfl) (by kernel_rfl) (by kernel_rfl) (λ_ _=>rfl) (λ_ _=>rfl) (λ_=>rfl) (by kernel_rfl) ?_ ?_ ?_ (Dq (by kernel_rfl))⟩
 ·intro k x hi
  match k,hi with
  |0,hi=>cases hi;exact⟨_,.ref q0,PySem.W.mg_of X Gn Qi,rfl,λH=>⟨q0,[.int (-1),.int (0)],rfl,.inr ⟨_,_,qn0,Qj,rfl,rfl,(by show 2<=sizeLine;decide),.cons ⟨_,rfl⟩ (.cons ⟨_,rfl⟩ (.nil))⟩,⟨_,_,rfl,rfl,⟨_,_,rfl,rfl,rfl⟩⟩⟩⟩
  |1,hi=>cases hi;exact⟨_,.int (6),PySem.W.mg_of X Gn Qk,⟨_,rfl⟩,λH=>rfl⟩
  |n+2,hi=>simp[nm]at hi
 ·intro i f hx;have hx:=cu (show [(6,217822450)].lookup i=some f from hx);simp only[Jq,Prod.mk.injEq,Kd,or_false]at hx;rcases hx with ⟨rfl,rfl⟩
  ·refine⟨rfl,h6,_,["self","ring"],?_,.all ((Bm (st:=aj (top 8) 0) O6 O7 Qy).bindsE λ_ _ _ _ _ _=>usS λ_=>usS λ_=>us0 rfl),λP w base=>?_⟩<;>rw[AG]
   ·exact⟨x6,O5,O8,by kernel_rfl,by kernel_rfl,by kernel_rfl,by kernel_rfl,by kernel_rfl⟩
   ·exact yw Qw Qx O6 O7 (by kernel_rfl) (PySem.W.mg_none_of X Gn (by kernel_rfl)) (PySem.W.mg_of X Gn (v:=.ref 31) (by kernel_rfl)) ⟨by kernel_rfl,by kernel_rfl,by kernel_rfl⟩ ⟨x6,O5,O8,by kernel_rfl,by kernel_rfl,by kernel_rfl,by kernel_rfl,by kernel_rfl⟩
 ·intro i f hi hx;have hx:=cu (show [(6,217822450)].lookup i=some f from hx);simp only[Jq,Prod.mk.injEq,Kd,or_false]at hx;rcases hx with ⟨rfl,rfl⟩
  ·show PySem.W.findIn (HD.K P) (.ref 111) (fnm 217822450)=some none
   kernel_rfl
end G
namespace G
open L2
section
variable {cls b_ d_:Nat->PySem.Addr}{M:MH}{Q:VK3}{E:XN}{n:Nat}{p q d:PySem.Addr}{cl ds:List D}{ks:List (List Int)}
noncomputable abbrev fC:Nat:=136762133858116729320171
noncomputable abbrev fW:Nat:=8355170983792620267
structure Wd (b_:Nat->PySem.Addr)(M:MH)(p q d:PySem.Addr)(cl:List D) (ks:List (List Int)) (ds:List D):Prop where
 ip:M p=some (.ins 6 (b_ 6) [fC,fW] [.ref q,.ref d])
 iq:M q=some (.lst cl)
 id:M d=some (.dt ks ds)
theorem EF(h:Wd b_ M p q d cl ks ds):dQ (B cls b_ d_) fC (.ref p) M Q=Q (.ref q) M:=by
 simp[dQ,h.ip,kP,fC,fW]
theorem zQ(h:Wd b_ M p q d cl ks ds):dQ (B cls b_ d_) fW (.ref p) M Q=Q (.ref d) M:=by
 simp[dQ,h.ip,kP,fC,fW]
theorem hU{m f:Nat}{R:Nat->Prop}(h:Wd b_ M p q d cl ks ds)(hm:mth 6 m=some f)(h1:fC≠m)(h2:fW≠m):cj (B cls b_ d_) m (.ref p) M R=R f:=by
 simp[cj,h.ip,hm,h1,h2,ft]
theorem xQ(h:Wd b_ M p q d cl ks ds):aa T (B cls b_ d_) (n+1) 45 [.ref p] M Q E=Q (.int cl.length) M:=by
 simp[fx,bP,EF h];simp[rBi,am,ax,h.iq]
theorem qH{i:Int}(h:Wd b_ M p q d cl ks ds):aa T (B cls b_ d_) (n+2) 46 [.ref p,.int i] M Q E=Q (.bl (decide (0<=i)&&decide (i<cl.length))) M:=by
 simp[cY,aY];by_cases h0:0<=i
 ·simp[h0];rw[hU h (f:=45) (by decide) (by decide) (by decide),xQ h]
  simp
 ·simp[h0]
noncomputable def okH(n:Nat)(i:Int):Bool:=decide (0<=i)&&decide (i<n)
theorem fA{i:Int}(h:Wd b_ M p q d cl ks ds)(ho:okH cl.length i=true):aa T (B cls b_ d_) (n+3) 43 [.ref p,.int i] M Q E=Q .i_ M:=by
 simp[bZ,aP];rw[hU h (f:=46) (by decide) (by decide) (by decide),qH h]
 unfold okH at ho;rw[ho];simp
theorem kS{i j:Int}(h:Wd b_ M p q d cl ks ds)(h1:okH cl.length i=true)(h2:okH cl.length j=true)(h3:i≠j):aa T (B cls b_ d_) (n+4) 44 [.ref p,.int i,.int j] M Q E=Q .i_ M:=by
 simp[b9,aO];rw[hU h (f:=43) (by decide) (by decide) (by decide),fA h h1]
 rw[hU h (f:=43) (by decide) (by decide) (by decide),fA h h2]
 simp[h3]
noncomputable def mq(l:Int)(m:Option Int):Bool:=decide (l<0)||(match m with|some m=>decide (m<l)|none=>false)
theorem ug{l:Int}{m:Option Int}(hb:mq l m=false):aa T (B cls b_ d_) (n+1) 40 [.int l,oi m] M Q E=Q .i_ M:=by
 simp only[mq,Bool.or_eq_false_iff,decide_eq_false_iff_not]at hb;simp only[hJ,bK];cases m with
 |none=>simp[hb.1,oi]
 |some m=>
  have h2:¬ m<l:=of_decide_eq_false hb.2;simp[hb.1,h2,oi]
noncomputable def mV(p:Int×Int):Bool:=decide (p.1<1)||decide (p.2<p.1)
theorem ya{a b:Int}(hb:mV (a,b)=false):aa T (B cls b_ d_) (n+1) 39 [.int a,.int b] M Q E=Q .i_ M:=by
 simp only[mV,Bool.or_eq_false_iff,decide_eq_false_iff_not]at hb;simp[kF,cA,hb.1,hb.2]
theorem EH{i j:Int}(h:Wd b_ M p q d cl ks ds)(hl:ks.length=ds.length):aI .In (.tup [.int i,.int j]) (.ref d) M Q=Q (.bl (decide ([i,j]∈ks))) M:=by
 have e:(getD ks ds [i,j]).isSome=decide ([i,j]∈ks):=by
  clear h
  induction ks generalizing ds with
  |nil=>cases ds<;>simp[getD]
  |cons k ks ih=>
   cases ds with
   |nil=>simp at hl
   |cons x ds=>
    simp only[getD];by_cases e:k=[i,j]
    ·simp[e]
    ·rw[Jm e,ih (by simpa using hl)]
     simp[JA e]
 simp[aI,jq,ax,am,h.id,d7,dZ,cI,g5,bz,e]
theorem jW{k:List Int}:∀{ks:List (List Int)},k∉ks->ai ks k=ks++[k]
 |[],_=>rfl
 |a::ks,h=>by
  have h1:a≠k:=λe=>h (by simp[e])
  have h2:k∉ks:=λe=>h (by simp[e])
  simp[ai,h1,jW h2]
noncomputable def way(l:Int)(m:Option Int):D:=.tup [.int l,oi m]
theorem yZ{i j l:Int}{m:Option Int}(h:Wd b_ M p q d cl ks ds)(hl:ks.length=ds.length)(hz:ks.length<1000)(h1:okH cl.length i=true)(h2:okH cl.length j=true)(h3:i≠j)(h4:[i,j]∉ks)(h5:mq l m=false):aa T (B cls b_ d_) (n+5) 42 [.ref p,.int i,.int j,.int l,oi m] M Q E=Q .i_ (put M d (.dt (ai ks [i,j]) (aq ks ds [i,j] (way l m)))):=by
 have hs:ks.length<PySem.sizeLine:=Jw hz (by decide)
 simp[gM,bv];rw[hU h (f:=44) (by decide) (by decide) (by decide),kS h h1 h2 h3]
 simp[au];rw[show dQ (B cls b_ d_) 8355170983792620267 (.ref p) M _=_ from zQ h];rw[EH h hl];simp[h4];rw[ug h5];rw[show dQ (B cls b_ d_) 8355170983792620267 (.ref p) M _=_ from zQ h];simp[aE,h.id,g5,bz,hs,gC h.id,way]
noncomputable def cD(p:Int×Int):D:=.tup [.int p.1,.int p.2]
structure Wy where
 i:Int
 j:Int
 l:Int
 m:Option Int
noncomputable def wD(w:Wy):D:=.tup [.int w.i,.int w.j,.int w.l,oi w.m]
theorem c5{M:MH}{a b:PySem.Addr}{x y z:DO}(h:a≠b):put (put (put M a x) b y) a z=put (put M a z) b y:=by
 funext c;unfold put;by_cases h1:c=a
 ·subst h1;simp[h]
 ·simp[h1]
theorem lE{M:MH}{a b c:PySem.Addr}{x y w z:DO}(h:a≠b)(h':a≠c):put (put (put (put M a x) b y) c w) a z=put (put (put M a z) b y) c w:=by
 funext e;unfold put;by_cases h1:e=a
 ·subst h1;simp[h,h']
 ·simp[h1]
theorem mE{R:MH->Prop}{f:Nat}{y:D}{i:Nat}{C:PySem.Addr}{ns:List Nat}{es:List D}(h:M p=some (.ins i C ns es)):iW (B cls b_ d_) f y R (.ref p) M=((C=(B cls b_ d_).b_ i/\i<(B cls b_ d_).nk/\(B cls b_ d_).fok i f=true/\ns.length<1000)/\R (put M p (.ins i C (ca f ns) (bY f y ns es)))):=by
 simp[iW,h]
noncomputable def pr(w:Wy):List Int:=[w.i,w.j]
noncomputable def wv(w:Wy):D:=way w.l w.m
structure Wy.good (n:Nat)(w:Wy):Prop where
 i:okH n w.i=true
 j:okH n w.j=true
 ne:w.i≠w.j
 l:mq w.l w.m=false
theorem kK{k:List Int}{v:D}:∀{ks:List (List Int)}{ds:List D},ks.length=ds.length->k∉ks->aq ks ds k v=ds++[v]
 |[],[],_,_=>rfl
 |a::ks,e::ds,hl,h=>by
  have h1:a≠k:=λz=>h (by simp[z])
  have h2:k∉ks:=λz=>h (by simp[z])
  simp[aq,h1,kK (by simpa using hl) h2]
theorem lQ{S:MH->Prop}(hS:S M){De:Ends3}{ES:St3->XN}{R:Prop}{x0 x1 x2 x5 x6 x7 x8:Option D}:∀(e_:List (Int×Int)) (x3 x4:Option D),(∀c∈e_,mV c=false)->(∀x y,De.nx [x0,x1,x2,x,y,x5,x6,x7,x8] M=R)->
  aJ ⟨(B cls b_ d_),aa T (B cls b_ d_) (n+1)⟩ (.tup [3,4]) bA ES S De (e_.map cD) [x0,x1,x2,x3,x4,x5,x6,x7,x8] M=R
 |[],x3,x4,_,hR=>by simp[aS,hR,hS]
 |(c1,c2)::r,x3,x4,hc,hR=>by
  have ih:=lQ hS (De:=De) (ES:=ES) (R:=R) (x0:=x0) (x1:=x1) (x2:=x2) (x5:=x5) (x6:=x6) (x7:=x7) (x8:=x8) r (some (.int c1)) (some (.int c2)) (λc h=>hc c (Jk _ h)) hR
  have h':=hc (c1,c2) Jo;rw[List.map_cons,ar];simp only[bA,cD]at ih ⊢;rw[<-ih];simp[ya,h',hS]
theorem jA{S:MH->Prop}{Mb:MH}(hS:∀ks ds,S (put Mb d (.dt ks ds)))(hw:∀ks ds,Wd b_ (put Mb d (.dt ks ds)) p q d cl ks ds){De:Ends3}{ES:St3->XN}{R:Prop}{x1 x2 x3 x4:Option D}:∀(wy:List Wy) (ks:List (List Int)) (ds:List D)(x5 x6 x7 x8:Option D),ks.length=ds.length->ks.length+wy.length<500->
  (∀w∈wy,w.good cl.length)->(wy.map pr).Nodup->(∀w∈wy,pr w∉ks)->(∀x5 x6 x7 x8,De.nx [some (.ref p),x1,x2,x3,x4,x5,x6,x7,x8] (put Mb d (.dt (ks++wy.map pr) (ds++wy.map wv)))=R)->
  aJ ⟨(B cls b_ d_),aa T (B cls b_ d_) (n+5)⟩ (.tup [5,6,7,8]) bp ES S De (wy.map wD) [some (.ref p),x1,x2,x3,x4,x5,x6,x7,x8] (put Mb d (.dt ks ds))=R
 |[],ks,ds,x5,x6,x7,x8,hl,hz,hg,hn,hk,hR=>by
  have:=hR x5 x6 x7 x8;simp at this;simp[aS,this,hS]
 |w::r,ks,ds,x5,x6,x7,x8,hl,hz,hg,hn,hk,hR=>by
  simp only[Jx]at hz;have g:=hg w Jo;have L7:[w.i,w.j]∉ks:=hk w Jo;rw[List.map_cons,JN]at hn;have ih:=jA hS hw (De:=De) (ES:=ES) (R:=R) (x1:=x1) (x2:=x2) (x3:=x3) (x4:=x4) r (ks++[[w.i,w.j]]) (ds++[way w.l w.m]) (some (.int w.i)) (some (.int w.j)) (some (.int w.l)) (some (oi w.m)) (by simp[hl]) (by simp;omega) (λv hv=>hg v (Jk _ hv)) hn.2 (λv hv=>by
   intro z;rcases JK.mp z with z|z
   ·exact hk v (Jk _ hv) z
   ·exact hn.1 (by rw[show pr w=pr v from (JB.mp z).symm];exact List.mem_map_of_mem hv)) (λa b c e=>by
    have:=hR a b c e;simpa [pr,wv] using this)
  rw[List.map_cons,ar];simp only[bp,wD]at ih ⊢;have h1:okH cl.length w.i=true/\okH cl.length w.j=true/\w.i≠w.j:=⟨g.i,g.j,g.ne⟩;simp[hZ,hS];rw[hU (hw ks ds) (f:=42) (by decide) (by decide) (by decide),yZ (hw ks ds) hl (by omega) g.i g.j g.ne L7 g.l,ba,jW L7,kK hl L7]
  simpa using ih
noncomputable def wO(b_:Nat->PySem.Addr)(e_:List (Int×Int))(wy:List Wy):D:=.obj 6 (b_ 6) [fC,fW] [.g_ (e_.map cD),.Kv (wy.map pr) (wy.map wv)]
theorem zE{e_:List (Int×Int)}{wy:List Wy}(hM:Fm M)(h1:1<=e_.length)(h6:e_.length<=6)(hc:∀c∈e_,mV c=false)(h2:wy.length<400)(Qz:∀w∈wy,w.good e_.length)(hn:(wy.map pr).Nodup) :
  (∀p,M p=none->aa T (B cls b_ d_) (n+6) 41 [.ref p,.g_ (e_.map cD),.g_ (wy.map wD)] (put M p (.ins 6 (b_ 6) [] [])) (λv M2=>v=.i_/\aX Q (.ref p) M2) (λi M'=>E i (del M' p)))=Q (wO b_ e_ wy) M:=by
 refine aC hM λp hp=>?_
 have hz:e_.length<=PySem.sizeLine:=JF (show e_.length<=1000 by omega) (by decide)
 have hB:¬ (e_.length:Int)<1:=by omega
 have hC:¬ (6:Int)<e_.length:=by omega
 have SA:¬ e_.length<1:=by omega
 have SD:¬ 6<e_.length:=by omega
 have LA:¬ e_=[]:=λz=>by simp[z]at h1
 simp[j7,cC,hB,hC,SA,SD,LA];refine iff_of_eq (lQ (S:=λ_=>True) trivial e_ none none hc λx y=>?_)
 simp[rBi,ax,am,hz];refine iff_of_eq (aC (hM.put _ _) λq hq=>?_)
 obtain⟨NG,hq⟩:=bW hq;rw[show iW (B cls b_ d_) 136762133858116729320171 (.ref q) _ (.ref p) (put (put M p (.ins 6 (b_ 6) [] [])) q (.lst (e_.map cD)))=_ from mE (by rw[af (JA NG),ac])]
 simp;rw[c5 (JA NG)];refine iff_of_eq (aC ((hM.put _ _).put _ _) λd hd=>?_)
 obtain⟨Ri,hd⟩:=bW hd;obtain⟨Ni,hd⟩:=bW hd;rw[show iW (B cls b_ d_) 8355170983792620267 (.ref d) _ (.ref p) (put (put (put M p (.ins 6 (b_ 6) [136762133858116729320171] [.ref q])) q (.lst (e_.map cD))) d (.dt [] []))=_ from mE (by rw[af (JA Ni),af (JA NG),ac])]
 simp;rw[lE (JA NG) (JA Ni)];have hw:∀ks ds,Wd b_ (put (put (put M p (.ins 6 (b_ 6) [fC,fW] [.ref q,.ref d])) q (.lst (e_.map cD))) d (.dt ks ds)) p q d (e_.map cD) ks ds:=λks ds=>
  ⟨by rw[af (JA Ni),af (JA NG),ac],by rw[af (JA Ri),ac],ac⟩
 refine iff_of_eq (jA (S:=λ_=>True) (λks ds=>trivial) hw wy [] [] none none none none rfl (by simp;omega) (by simpa using Qz) hn (λw _ z=>by cases z) λx5 x6 x7 x8=>?_)
 rw[List.nil_append,List.nil_append];simp only[aX];rw[(hw _ _).ip];simp only[d4];have e1:∀KP F_,del (put (put (put M p (.ins 6 (b_ 6) [fC,fW] [.ref q,.ref d])) q (.lst (e_.map cD))) d (.dt KP F_)) p q=some (.lst (e_.map cD)):=λKP F_=>by
  unfold del;rw[Jm NG];exact (hw KP F_).iq
 rw[e1];have e2:∀KP F_,del (del (put (put (put M p (.ins 6 (b_ 6) [fC,fW] [.ref q,.ref d])) q (.lst (e_.map cD))) d (.dt KP F_)) p) q d=some (.dt KP F_):=λKP F_=>by
  unfold del;rw[Jm Ri,Jm Ni];exact (hw KP F_).id
 simp only[e2];have e3:∀KP F_,del (del (del (put (put (put M p (.ins 6 (b_ 6) [fC,fW] [.ref q,.ref d])) q (.lst (e_.map cD))) d (.dt KP F_)) p) q) d=M:=λKP F_=>by
  funext a;unfold del put;by_cases a1:a=d
  ·subst a1;simp[hd]
  ·by_cases a2:a=q
   ·subst a2;simp[hq,a1]
   ·by_cases a3:a=p
    ·subst a3;simp[hp,a1,a2]
    ·simp[a1,a2,a3]
 rw[e3];rfl
theorem qu(ns:List Int)(k:Nat):∃x:Int,∀{n:Nat}{M:MH}{Q:VK3}{E:XN},aa T (B cls b_ d_) (n+1) 50 [scr ns,.int k] M Q E=Q (.int x) M:=by
 by_cases h:k<ns.length
 ·obtain⟨x,hx⟩:=EA (cs:=ns) (i:=k) (by omega) (by omega)
  refine⟨x,?_⟩;intro n M Q E;have h':(k:Int)<ns.length:=by omega
  simp[fy,bN,scr,j9 hx,h]
 ·refine⟨0,?_⟩;intro n M Q E;simp[fy,bN,scr,h]
theorem kz(lo:Int)(k:Nat):rng lo (k+1)=.int lo::rng (lo+1) k:=by
 simp only[rng,List.range_succ_eq_map,List.map_cons,List.map_map];congr 1
 ·simp
 ·apply List.map_congr_left;intro i _;simp;omega
variable {e_:List (Int×Int)}{wy:List Wy}
theorem o_c:dQ (B cls b_ d_) 136762133858116729320171 (wO b_ e_ wy) M Q=Q (.g_ (e_.map cD)) M:=by simp[wO,fC,fW]
theorem o_w:dQ (B cls b_ d_) 8355170983792620267 (wO b_ e_ wy) M Q=Q (.Kv (wy.map pr) (wy.map wv)) M:=by simp[wO,fC,fW]
theorem o_m{m f:Nat}{R:Nat->Prop}(hm:mth 6 m=some f)(h1:fC≠m)(h2:fW≠m):cj (B cls b_ d_) m (wO b_ e_ wy) M R=R f:=by
 simp[wO,hm,h1,h2]
theorem o1{R:Nat->Prop}:cj (B cls b_ d_) 31081607400 (wO b_ e_ wy) M R=R 45:=o_m (by decide) (by decide) (by decide)
theorem uC:aa T (B cls b_ d_) (n+1) 45 [wO b_ e_ wy] M Q E=Q (.int e_.length) M:=by
 simp[fx,bP,o_c]
theorem oF{i:Int}:aa T (B cls b_ d_) (n+2) 46 [wO b_ e_ wy,.int i] M Q E=Q (.bl (okH e_.length i)) M:=by
 simp[cY,aY,okH];by_cases h0:0<=i
 ·simp[h0,o1,uC]
 ·simp[h0]
theorem jS{i:Int}:aa T (B cls b_ d_) (n+3) 43 [wO b_ e_ wy,.int i] M Q E=if okH e_.length i=true then Q .i_ M else False:=by
 simp[bZ,aP];rw[o_m (f:=46) (by decide) (by decide) (by decide),oF]
 cases okH e_.length i<;>simp[au]
theorem vX{k:List Int}:∀{wy:List Wy},(getD (wy.map pr) (wy.map wv) k).isSome=decide (k∈wy.map pr)
 |[]=>by simp[getD]
 |w::r=>by
  have ih:=vX (k:=k) (wy:=r);simp only[List.map_cons,getD];by_cases e:pr w=k
  ·simp[e]
  ·rw[Jm e,ih];simp[JA e]
theorem Cf{i j:Int}:aI .In (.tup [.int i,.int j]) (.Kv (wy.map pr) (wy.map wv)) M Q=Q (.bl (decide ([i,j]∈wy.map pr))) M:=by
 have e:=vX (k:=[i,j]) (wy:=wy);simp[aI,jq,ax,am,d7,dZ,cI,g5,bz,e]
theorem pW{i j:Int}:aa T (B cls b_ d_) (n+1) 47 [wO b_ e_ wy,.int i,.int j] M Q E=Q (.bl (decide ([i,j]∈wy.map pr))) M:=by
 simp only[jc,bT];simp[au,↓o_w,↓Cf]
end
section
variable {cls b_ d_:Nat->PySem.Addr}{M:MH}{Q:VK3}{E:XN}{n:Nat}{p q:PySem.Addr}{e_:List (Int×Int)}{wy:List Wy}
theorem ju{i:Int}:aa T (B cls b_ d_) (n+1) 0 [.int i] M Q E=Q (.bl true) M:=by
 simp[pS,fS]
theorem BG{a b:Int}{E:PySem.Addr->XN}(hM:Fm M):(∀p,M p=none->aa T (B cls b_ d_) (n+2) 2 [.ref p,.int a,.int b] (put M p (.ins 1 (b_ 1) [] [])) (λv M2=>v=.i_/\aX Q (.ref p) M2) (E p))=Q (.obj 1 (b_ 1) [211529960,456806758904562] [.int a,.int b]) M:=
 aC hM λp hp=>by simp[ll,cW,aT,az,hp]
theorem yP{a b c d:Int}{E:PySem.Addr->XN}(hM:Fm M):(∀p,M p=none->aa T (B cls b_ d_) (n+2) 5 [.ref p,.int a,.int b,.int c,.int d] (put M p (.ins 2 (b_ 2) [] [])) (λv M2=>v=.i_/\aX Q (.ref p) M2) (E p))=Q (.obj 2 (b_ 2) [211529960,456806758904562,32709062885,213725420] [.int a,.int b,.int c,.int d]) M:=
 aC hM λp hp=>by simp[jB,cv,aT,az,hp]
theorem CG{a b c:Int}{E:PySem.Addr->XN}(hM:Fm M):(∀p,M p=none->aa T (B cls b_ d_) (n+2) 8 [.ref p,.int a,.int b,.int c] (put M p (.ins 3 (b_ 3) [] [])) (λv M2=>v=.i_/\aX Q (.ref p) M2) (E p))=Q (.obj 3 (b_ 3) [211529960,456806758904562,14324] [.int a,.int b,.int c]) M:=
 aC hM λp hp=>by simp[kU,cR,aT,az,hp]
theorem At{a b:Int}{c:List D}{E:PySem.Addr->XN}(hM:Fm M):(∀p,M p=none->aa T (B cls b_ d_) (n+2) 11 [.ref p,.int a,.int b,.tup c] (put M p (.ins 4 (b_ 4) [] [])) (λv M2=>v=.i_/\aX Q (.ref p) M2) (E p))=Q (.obj 4 (b_ 4) [211529960,456806758904562,3944367338220] [.int a,.int b,.tup c]) M:=
 aC hM λp hp=>by simp[k8,cX,aT,az,hp]
inductive Rw where
 |look (h r:Int)|KC (h r e l:Int)|send (h r t:Int)|take (h r a b:Int)
noncomputable def Rw.d:Rw->D
 |.look h r=>.tup [.str "look",.int h,.int r]
 |.KC h r e l=>.tup [.str "sight",.int h,.int r,.int e,.int l]
 |.send h r t=>.tup [.str "send",.int h,.int r,.int t]
 |.take h r a b=>.tup [.str "take",.int h,.int r,.tup [.int a,.int b]]
noncomputable def Rw.o(b_:Nat->PySem.Addr):Rw->D
 |.look h r=>.obj 1 (b_ 1) [211529960,456806758904562] [.int h,.int r]
 |.KC h r e l=>.obj 2 (b_ 2) [211529960,456806758904562,32709062885,213725420] [.int h,.int r,.int e,.int l]
 |.send h r t=>.obj 3 (b_ 3) [211529960,456806758904562,14324] [.int h,.int r,.int t]
 |.take h r a b=>.obj 4 (b_ 4) [211529960,456806758904562,3944367338220] [.int h,.int r,.tup [.int a,.int b]]
theorem qI{ns:List Int}{k:Int}(hM:Fm M)(hl:ns.length<1000):aa T (B cls b_ d_) (n+2) 14 [.tup (ns.map D.int),.int k] M Q E=Q (.bl (decide ((ns.length:Int)=k))) M:=by
 simp[mm,dm];by_cases h:(ns.length:Int)=k
 ·simp[h,aL];rw[gw D.int (λ_=>true) (λ_=>.bl true) hM (by omega) (λ_ _ _ _ _=>rfl) (λi _ _ M' Tw Q'=>by simp[ju])]
  rw[zu (λ_=>true) (λ_ _=>rfl)]
  have:∀l:List Int,(l.all λ_=>true)=true:=λl=>JD.mpr λ_ _=>rfl
  simp[this]
 ·simp[h]
theorem As{a b k:Int}(hM:Fm M):aa T (B cls b_ d_) (n+2) 14 [.tup [.int a,.int b],.int k] M Q E=Q (.bl (decide (2=k))) M:=qI (ns:=[a,b]) hM (by simp)
theorem Ga{a b c k:Int}(hM:Fm M):aa T (B cls b_ d_) (n+2) 14 [.tup [.int a,.int b,.int c],.int k] M Q E=Q (.bl (decide (3=k))) M:=qI (ns:=[a,b,c]) hM (by simp)
theorem Hq{a b c d k:Int}(hM:Fm M):aa T (B cls b_ d_) (n+2) 14 [.tup [.int a,.int b,.int c,.int d],.int k] M Q E=Q (.bl (decide (4=k))) M:=qI (ns:=[a,b,c,d]) hM (by simp)
theorem xg{a b:Int}(hM:Fm M):aa T (B cls b_ d_) (n+3) 15 [.tup [.int a,.int b]] M Q E=Q (.bl true) M:=by
 simp[oE,eS,As hM]
theorem oV(r:Rw)(hM:Fm M):aa T (B cls b_ d_) (n+4) 16 [r.d] M Q E=Q (r.o b_) M:=by
 cases r with
 |look h r=>simp +decide [cP,bo,Rw.d,Rw.o,whole,HT.sIx,cZ,As hM,BG hM,tf,uy,tD]
 |KC h r e l=>simp +decide [cP,bo,Rw.d,Rw.o,whole,HT.sIx,cZ,Hq hM,yP hM,tf,uy,tD,vW]
 |send h r t=>simp +decide [cP,bo,Rw.d,Rw.o,whole,HT.sIx,cZ,Ga hM,CG hM,tf,uy,tD,vW]
 |take h r a b=>simp +decide [cP,bo,Rw.d,Rw.o,whole,HT.sIx,cZ,As hM,xg hM,At hM,tf,uy,tD,vW]
end
section
variable {cls b_ d_:Nat->PySem.Addr}{M:MH}{Q:VK3}{E:XN}{n:Nat}{p q a b d:PySem.Addr}{e_:List (Int×Int)}{wy:List Wy}
noncomputable def Rw.h:Rw->Int
 |.look h _=>h
 |.KC h _ _ _=>h
 |.send h _ _=>h
 |.take h _ _ _=>h
noncomputable def Rw.r:Rw->Int
 |.look _ r=>r
 |.KC _ r _ _=>r
 |.send _ r _=>r
 |.take _ r _ _=>r
variable {r:Rw}
theorem A5:dQ (B cls b_ d_) 211529960 (r.o b_) M Q=Q (.int r.h) M:=by
 cases r<;>simp[Rw.o,Rw.h]
theorem Bc:dQ (B cls b_ d_) 456806758904562 (r.o b_) M Q=Q (.int r.r) M:=by
 cases r<;>simp[Rw.o,Rw.r]
theorem z8:ao r.d (.int 1) M Q=Q (.int r.h) M:=by cases r<;>simp[Rw.d,Rw.h]
theorem yW{ks:List Key}{ds:List D}{h c:Int}(hM:M a=some (.dk ks ds))(hz:ks.length<1000)(hc:(getD ks ds (.inl h)).getD (.int 0)=.int c) :
  aa T (B cls b_ d_) (n+1) 17 [.ref a,.int h] M Q E=Q (.tup [.int h,.int c]) (put M a (.dk (ai ks (.inl h)) (aq ks ds (.inl h) (.int (c+1))))):=by
 have hs:ks.length<PySem.sizeLine:=Jw hz (by decide)
 simp[pU,gc,v9 hM,sJ hM,hc,nS hM,hs,gC hM,au]
noncomputable def bump(c:Int->Nat)(h:Int):Int->Nat:=λx=>if x=h then c x+1 else c x
noncomputable def nmF:List Int->(Int->Nat)->List (Int×Nat)
 |[],_=>[]
 |h::hs,c=>(h,c h)::nmF hs (bump c h)
noncomputable def nD(p:Int×Nat):D:=.tup [.int p.1,.int p.2]
theorem oU{ks:List Key}{ds:List D}{c:Int->Nat}{h:Int}(hl:ks.length=ds.length)(hc:∀h,(getD ks ds (.inl h)).getD (.int 0)=.int (c h))(x:Int):(getD (ai ks (.inl h)) (aq ks ds (.inl h) (.int (c h+1))) (.inl x)).getD (.int 0)=.int (bump c h x):=by
 rw[cB hl];by_cases e:h=x
 ·subst e;simp[bump]
 ·have e2:¬ ((Sum.inl h:Key)=Sum.inl x):=λz=>e (Sum.inl.inj z)
  rw[Jm e2,hc x];simp[bump,JA e]
theorem fO{a b:PySem.Addr}(D_:a≠b){M0:MH}{De:Ends3}{ES:St3->XN}{R:Prop}{log:Option D}{S:MH->Prop}(hS:∀ks ds acc,S (put (put M0 a (.dk ks ds)) b (.lst acc))):∀(rs:List Rw)(ks:List Key)(ds acc:List D)(c:Int->Nat)(x3:Option D),ks.length=ds.length->ks.length+rs.length<500->acc.length+rs.length<500->(∀h,(getD ks ds (.inl h)).getD (.int 0)=.int (c h))->
  (∀KP F_ x,De.nx [log,some (.ref a),some (.ref b),x] (put (put M0 a (.dk KP F_)) b (.lst (acc++(nmF (rs.map Rw.h) c).map nD)))=R)->
  aJ ⟨(B cls b_ d_),aa T (B cls b_ d_) (n+1)⟩ (.name 3) di ES S De (rs.map Rw.d) [log,some (.ref a),some (.ref b),x3] (put (put M0 a (.dk ks ds)) b (.lst acc))=R
 |[],ks,ds,acc,c,x3,_,_,_,_,hR=>by
  have:=hR ks ds x3;simp[nmF]at this;simp[aS,this,hS]
 |r::rs,ks,ds,acc,c,x3,hl,h1,h2,hc,hR=>by
  have ha:(put (put M0 a (.dk ks ds)) b (.lst acc)) a=some (.dk ks ds):=by rw[af D_,ac]
  simp only[Jx]at h1 h2;have hs:acc.length<PySem.sizeLine:=Jw (show acc.length<1000 by omega) (by decide)
  have ih:=fO D_ (M0:=M0) (De:=De) (ES:=ES) (R:=R) (log:=log) hS rs (ai ks (.inl r.h)) (aq ks ds (.inl r.h) (.int (c r.h+1))) (acc++[nD (r.h,c r.h)]) (bump c r.h) (some r.d) (cr hl) (by have:=bh (ks:=ks) (k:=(.inl r.h:Key));omega) (by simp;omega) (oU hl hc) (by
    intro KP F_ x;have:=hR KP F_ x;simpa [nmF] using this)
  have i1:=λ{M:MH}{Q:VK3}=>z8 (M:=M) (Q:=Q) (r:=r)
  rw[List.map_cons,ar];simp[di,↓i1,yW (n:=n) ha (by omega) (hc r.h),c5 D_,hs,hS]
  simpa [nD,di] using ih
def Lg(M:MH)(x:D)(ds:List D):Prop:=x=.g_ ds\/∃p,x=.ref p/\M p=some (.lst ds)
theorem m6{x:D}(rs:List Rw)(hp:Lg M x (rs.map Rw.d))(hl:rs.length<400)(hM:Fm M):aa T (B cls b_ d_) (n+2) 18 [x] M Q E=Q (.g_ ((nmF (rs.map Rw.h) λ_=>0).map nD)) M:=by
 simp only[yK,mJ];simp;refine iff_of_eq (aC hM λa ha=>?_)
 simp[au];refine iff_of_eq (aC (hM.put _ _) λb hb=>?_)
 obtain⟨D_,hb⟩:=bW hb;rcases hp with rfl|⟨p,rfl,hp⟩
 ·rw[wV];refine fO (JA D_) (λ_ _ _=>trivial) rs [] [] [] _ _ rfl (by simp;omega) (by simp;omega) (λh=>rfl) λKP F_ x=>?_
  simp[ha,hb,af D_]
 ·have pa:p≠a:=λz=>by rw[z,ha]at hp;cases hp
  have pb:p≠b:=λz=>by rw[z,hb]at hp;cases hp
  have hw:∀ks ds acc,(put (put M a (.dk ks ds)) b (.lst acc)) p=some (.lst (rs.map Rw.d)):=λks ds acc=>by rw[af pb,af pa,hp]
  rw[wt (hw _ _ _)];refine fO (JA D_) hw rs [] [] [] _ _ rfl (by simp;omega) (by simp;omega) (λh=>rfl) λKP F_ x=>?_
  simp[ha,hb,af D_]
end
section
variable {r:Rw}{rs:List Rw}{H:Nat}{wy:List Wy}
noncomputable def Rw.s:Rw->PySem.Str
 |.look ..=>"look"
 |.KC ..=>"sight"
 |.send ..=>"send"
 |.take ..=>"take"
def Rw.may(wy:List Wy):Rw->Prop
 |.send h _ t=>[h,t]∈wy.map pr
 |.take h _ a _=>[a,h]∈wy.map pr
 |_=>True
structure Rw.fine (H:Nat)(wy:List Wy)(r:Rw):Prop where
 h:okH H r.h=true
 w:r.may wy
 b : -(10 ^ 62)<=r.r/\r.r<=10 ^ 62
structure Ent where
 h:Int
 k:Int
 to:Int
 lo:Int
 hi:Option Int
noncomputable def Ent.d(e:Ent):D:=.tup [.tup [.int e.h,.int e.k],.int e.to,.int e.lo,oi e.hi]
noncomputable abbrev A3:=Int×Int×Int
noncomputable def a3D(a:A3):D:=.tup [.int a.1,.int a.2.1,.int a.2.2]
structure TA (H:Nat)(wy:List Wy)(rs:List Rw)(at_:List A3)(sn:List Ent):Prop where
 f:∀r∈rs,r.fine H wy
 la:at_.length=H
 un:∀e∈sn,[e.h,e.to]∈wy.map pr/\0<=e.to/\e.to<H
 lt:∀e∈sn,∃k:Nat,e.h=k/\e.k<(at_.getD k (0,0,0)).1
 nd:(sn.map λe=>(e.h,e.k)).Nodup
theorem cy{α:Type}{l:List α}{k j:Nat}{x d:α}(hk:k<l.length):(l.set k x).getD j d=if j=k then x else l.getD j d:=by
 rw[List.getD_eq_getElem?_getD,List.getD_eq_getElem?_getD];by_cases e:j=k
 ·subst e;simp[hk]
 ·rw[Kq (JA e),Jm e]
theorem TA.plain{at_:List A3}{sn:List Ent}{k:Nat}{v m:Int}(T:TA H wy rs at_ sn)(hk:k<H)(hr:r.fine H wy):TA H wy (rs++[r]) (at_.set k ((at_.getD k (0,0,0)).1+1,v,m)) sn:=by
 have Nj:k<at_.length:=by rw[T.la];exact hk
 refine⟨λx hx=>?_,by simp[T.la],T.un,λe he=>?_,T.nd⟩
 ·rcases JK.mp hx with z|z
  ·exact T.f x z
  ·rw[JB.mp z];exact hr
 ·obtain⟨j,e1,e2⟩:=T.lt e he;refine⟨j,e1,?_⟩;rw[cy Nj];split
  ·rename_i z;rw[z]at e2;simp only;omega
  ·exact e2
theorem TA.send{at_:List A3}{sn:List Ent}{k:Nat}{v m:Int}{e:Ent}(T:TA H wy rs at_ sn)(hk:k<H)(hr:(Rw.send k v e.to).fine H wy)(h0:0<=e.to)(h1:e.to<H)(eh:e.h=k)(ek:e.k=(at_.getD k (0,0,0)).1) :
  TA H wy (rs++[.send k v e.to]) (at_.set k ((at_.getD k (0,0,0)).1+1,v,m)) (sn++[e]):=by
 have Nj:k<at_.length:=by rw[T.la];exact hk
 have P:=T.plain (v:=v) (m:=m) hk hr;refine⟨P.f,P.la,λx hx=>?_,λx hx=>?_,?_⟩
 ·rcases JK.mp hx with z|z
  ·exact P.un x z
  ·rw[JB.mp z];have:[(k:Int),e.to]∈wy.map pr:=hr.w;exact⟨by rw[eh];exact this,h0,h1⟩
 ·rcases JK.mp hx with z|z
  ·exact P.lt x z
  ·rw[JB.mp z];refine⟨k,eh,?_⟩;rw[cy Nj,Js rfl,ek];simp only;omega
 ·rw[J4,List.nodup_append];refine⟨T.nd,by simp,λp hp q hq z=>?_⟩
  obtain⟨x,hx,rfl⟩:=JM.mp hp;have hq:q=(e.h,e.k):=by simpa using hq
  subst z;have q1:x.h=e.h:=congrArg Prod.fst hq;have q2:x.k=e.k:=congrArg Prod.snd hq;obtain⟨j,e1,e2⟩:=T.lt x hx;have:j=k:=by omega
  subst this;omega
theorem TA.take{at_:List A3}{K0 sn2:List Ent}{v m:Int}{e:Ent}{k:Nat}(T:TA H wy rs at_ (K0++e::sn2))(hk:k<H)(hr:(Rw.take k v e.h e.k).fine H wy) :
  TA H wy (rs++[.take k v e.h e.k]) (at_.set k ((at_.getD k (0,0,0)).1+1,v,m)) (K0++sn2):=by
 have P:=T.plain (v:=v) (m:=m) hk hr;have sub:∀x∈K0++sn2,x∈K0++e::sn2:=λx hx=>by
  rcases JK.mp hx with z|z
  ·exact J8 _ z
  ·exact JL _ (Jk _ z)
 refine⟨P.f,P.la,λx hx=>P.un x (sub x hx),λx hx=>P.lt x (sub x hx),?_⟩
 have nd:=T.nd;rw[J4,List.map_cons,List.nodup_append,JN]at nd;rw[J4,List.nodup_append];exact⟨nd.1,nd.2.1.2,λp hp q hq=>nd.2.2 p hp q (Jk _ hq)⟩
end
section
variable {cls b_ d_:Nat->PySem.Addr}{M:MH}{Q:VK3}{E:XN}{n:Nat}{a:PySem.Addr}
noncomputable def kQ:Nat->Int->Int->List Int
 |0,_,_=>[]
 |k+1,lo,x=>(x*x+48271*x+lo) % 10000000000000000000000000000000000000121::kQ k (lo+1) ((x*x+48271*x+lo) % 10000000000000000000000000000000000000121)
theorem mC:∀(k:Nat)(lo x:Int),(kQ k lo x).length=k
 |0,_,_=>rfl
 |k+1,lo,x=>by simp[kQ,mC k]
theorem oM{W:WC}{De:Ends3}{ES:St3->XN}{R:Prop}{x0 x1:Option D}:∀(k:Nat)(lo x:Int)(acc:List Int)(x4:Option D),0<=x->x<100000000000000000000000000000000000000000->acc.length+k<500->
  (∀y x4,De.nx [x0,x1,some (.ref a),some (.int y),x4] (put M a (.lst ((acc++kQ k lo x).map D.int)))=R)->
  aJ W (.name 4) bX ES (λ_=>True) De (rng lo k) [x0,x1,some (.ref a),some (.int x),x4] (put M a (.lst (acc.map D.int)))=R
 |0,lo,x,acc,x4,_,_,_,hR=>by
  have:=hR x x4;simp[kQ]at this;simp[rng,aS,this]
 |k+1,lo,x,acc,x4,h0,h1,hl,hR=>by
  have c1:cQ x x=True:=gN (by omega) (by omega) (by omega) (by omega)
  have c2:cQ 48271 x=True:=gN (by omega) (by omega) (by omega) (by omega)
  have hs:acc.length<PySem.sizeLine:=Jw (show acc.length<1000 by omega) (by decide)
  have ih:=oM (W:=W) (De:=De) (ES:=ES) (R:=R) (x0:=x0) (x1:=x1) k (lo+1) ((x*x+48271*x+lo) % 10000000000000000000000000000000000000121) (acc++[(x*x+48271*x+lo) % 10000000000000000000000000000000000000121]) (some (.int lo)) (J6 _ (by decide)) (Int.lt_trans (JW _ (by decide)) (by decide)) (by simp;omega) (λy x4=>by
   have:=hR y x4;simpa [kQ] using this)
  rw[kz,ar];simp only[bX]at ih ⊢;simp[c1,c2,kN,hs];simpa using ih
noncomputable def aM(c:Int)(m:Nat):List Int:=(kQ (m+4) 0 (c % 10000000000000000000000000000000000000121+48271)).drop 4
theorem bL{c:Int}{m:Nat}:(aM c m).length=m:=by simp[aM,mC]
theorem eL{c:Int}{m:Nat}(hM:Fm M)(hm:m<100):aa T (B cls b_ d_) (n+1) 51 [.int c,.int (m:Nat)] M Q E=Q (.g_ ((aM c m).map D.int)) M:=by
 have h0:0<=c % 10000000000000000000000000000000000000121:=J6 _ (by decide)
 have h1:c % 10000000000000000000000000000000000000121<10000000000000000000000000000000000000121:=JW _ (by decide)
 have hb:(m:Int)+4<4611686018427387904:=by omega
 have SE : -4611686018427387904<=(m:Int)+4:=by omega
 simp only[mv,dN];simp;refine iff_of_eq (aC hM λp hp=>?_)
 simp[kN,hb,SE];rw[show ((m:Int)+4).toNat=m+4 by omega]
 refine iff_of_eq (oM (M:=M) (m+4) 0 _ [] none (by omega) (by omega) (by simp;omega) λy x4=>?_)
 have ln:(kQ (m+4) 0 (c % 10000000000000000000000000000000000000121+48271)).length=m+4:=mC _ _ _;have ec:cZ ((kQ (m+4) 0 (c % 10000000000000000000000000000000000000121+48271)).map D.int) (some 4) none=(aM c m).map D.int:=by
  unfold cZ aM;have e4:HT.sIx ((kQ (m+4) 0 (c % 10000000000000000000000000000000000000121+48271)).map D.int).length 0 (some 4)=4:=by
   rw[show (4:Int)=((4:Nat):Int) from rfl,HT.sIx_nat,Jv,ln];omega
  rw[e4,HT.sIx_none,Jv,ln,<-List.map_drop,<-List.map_take,List.take_of_length_le (by rw[List.length_drop,ln];omega)]
 have hz:(aM c m).length<=PySem.sizeLine:=by rw[bL,PySem.sizeLine_eq];omega
 simp[nA,am,ac,dX,ec,hz,eR hp]
end
section
variable {cls b_ d_:Nat->PySem.Addr}{M:MH}{Q:VK3}{E:XN}{n:Nat}{a:PySem.Addr}
theorem rG(a b c:Int)(i:Int)(h0:0<=i)(h3:i<3):∃x:Int,(x=a\/x=b\/x=c)/\∀{M:MH}{Q:VK3},ao (.g_ [.int a,.int b,.int c]) (.int i) M Q=Q (.int x) M:=by
 have:i=0\/i=1\/i=2:=by omega
 rcases this with rfl|rfl|rfl
 ·exact⟨a,.inl rfl,by intro M Q;simp⟩
 ·exact⟨b,.inr (.inl rfl),by intro M Q;simp⟩
 ·exact⟨c,.inr (.inr rfl),by intro M Q;simp⟩
theorem aK{l:List Int}{k:Nat}(h:k<l.length):ao (.g_ (l.map D.int)) (.int (k:Nat)) M Q=Q (.int (l.getD k 0)) M:=by
 have e:(l.map D.int)[k]?=some (.int (l.getD k 0)):=by
  rw[Jz,JG h,List.getD_eq_getElem?_getD,JG h];rfl
 exact j9 (bO e)
theorem Db{xs:List Int}{size:Int}(hl:3<=xs.length)(h0:1<=size)(h1:size<=10 ^ 30):∃(l:Int)(m:Option Int),mq l m=false/\l<=10 ^ 30/\(∀y,m=some y->y<=2*10 ^ 30)/\∀{n:Nat}{M:MH}{Q:VK3}{E:XN},aa T (B cls b_ d_) (n+1) 52 [.g_ (xs.map D.int),.int size] M Q E=Q (way l m) M:=by
 have i0:∀{M:MH}{Q:VK3},ao (.g_ (xs.map D.int)) (.int 0) M Q=Q (.int (xs.getD 0 0)) M:=λ{M Q}=>aK (k:=0) (by omega)
 have i1:∀{M:MH}{Q:VK3},ao (.g_ (xs.map D.int)) (.int 1) M Q=Q (.int (xs.getD 1 0)) M:=λ{M Q}=>aK (k:=1) (by omega)
 have i2:∀{M:MH}{Q:VK3},ao (.g_ (xs.map D.int)) (.int 2) M Q=Q (.int (xs.getD 2 0)) M:=λ{M Q}=>aK (k:=2) (by omega)
 generalize xs.getD 0 0=x0 at i0;generalize xs.getD 1 0=x1 at i1;generalize xs.getD 2 0=x2 at i2;have z:¬ size=0:=by omega
 have zp:0<size:=by omega
 have m0:=J6 x0 z;have m1:=JW x0 zp;have m2:=J6 x2 z;have m3:=JW x2 zp;obtain⟨l,Tx,Rj⟩:=rG 0 1 (x0 % size) (x1 % 3) (by omega) (by omega)
 obtain⟨g,Tz,SG⟩:=rG 0 1 (x2 % size) (x1 / 12 % 3) (by omega) (by omega)
 have l0:0<=l/\l<=10 ^ 30:=by omega
 have g0:0<=g/\g<=10 ^ 30:=by omega
 by_cases h:x1 / 3 % 4=0
 ·refine⟨l,none,by simp[mq,l0.1],l0.2,(λy e=>by cases e),?_⟩
  intro n M Q E;simp only[lO,e8];simp[↓i0,↓i1,↓i2,z,zp,↓Rj,c9,h,way,oi,au]
 ·refine⟨l,some (l+g),by simp[mq];omega,l0.2,(λy e=>by cases e;omega),?_⟩
  intro n M Q E;simp only[lO,e8];simp[↓i0,↓i1,↓i2,z,zp,↓Rj,↓SG,c9,h,way,oi,au]
end
section
variable {cls b_ d_:Nat->PySem.Addr}{M:MH}{Q:VK3}{E:XN}{n:Nat}
theorem rL(a b c d:Int)(i:Int)(h0:0<=i)(h3:i<4):∃x:Int,(x=a\/x=b\/x=c\/x=d)/\∀{M:MH}{Q:VK3},ao (.g_ [.int a,.int b,.int c,.int d]) (.int i) M Q=Q (.int x) M:=by
 have:i=0\/i=1\/i=2\/i=3:=by omega
 rcases this with rfl|rfl|rfl|rfl
 ·exact⟨a,.inl rfl,by intro M Q;simp⟩
 ·exact⟨b,.inr (.inl rfl),by intro M Q;simp⟩
 ·exact⟨c,.inr (.inr (.inl rfl)),by intro M Q;simp⟩
 ·exact⟨d,.inr (.inr (.inr rfl)),by intro M Q;simp⟩
noncomputable def fu(c1 mo t0:Int)(lo:Option Int):Int:=match lo with
 |some l=>if mo+c1*t0<l then (l-mo+c1-1) / c1 else t0
 |none=>t0
noncomputable def fQ(c0 mo t:Int)(lo:Option Int):Int:=match lo with
 |some l=>if mo+c0*t<l then l else mo+c0*t
 |none=>mo+c0*t
noncomputable def fH(c1 mo t:Int)(hi:Option Int):Int:=match hi with
 |some l=>if l<mo+c1*t then l else mo+c1*t
 |none=>mo+c1*t
def inB(B:Int)(o:Option Int):Prop:=∀y,o=some y->-B<=y/\y<=B
theorem C5{c1 mo t0 B:Int}{lo:Option Int}(h1:1<=c1)(h2:c1<=10 ^ 31)(t1:0<=t0)(t2:t0<=10 ^ 12)(b1:10 ^ 43<=B)(m1 : -B<=mo)(m2:mo<=B)(hl:inB B lo) :
  0<=fu c1 mo t0 lo/\c1*fu c1 mo t0 lo<=3*B/\fu c1 mo t0 lo<=3*B:=by
 have p0:c1*t0<=10 ^ 31*10 ^ 12:=Int.mul_le_mul h2 t2 t1 (by omega)
 have base:0<=t0/\c1*t0<=3*B/\t0<=3*B:=⟨t1,by omega,by omega⟩
 cases lo with
 |none=>exact base
 |some l=>
  obtain⟨l1,l2⟩:=hl l rfl;unfold fu;simp only;split
  ·rename_i Ku;have hp:0<=c1*t0:=Int.mul_nonneg (by omega) t1
   have q0:0<=(l-mo+c1-1) / c1:=Int.ediv_nonneg (by omega) (by omega)
   have q1:c1*((l-mo+c1-1) / c1)<=l-mo+c1-1:=Int.mul_ediv_self_le (by omega)
   have q2:(l-mo+c1-1) / c1<=c1*((l-mo+c1-1) / c1):=by
    have:=Int.mul_le_mul_of_nonneg_right h1 q0;omega
   exact⟨q0,by omega,by omega⟩
  ·exact base
theorem DQ{c0 c1 mo t B:Int}{lo hi:Option Int}(h0:1<=c0)(h1:c0<=c1)(t0:0<=t)(ht:c1*t<=3*B)(m1 : -B<=mo)(m2:mo<=B)(hl:inB B lo)(hh:inB B hi) :
  (-B<=fQ c0 mo t lo/\fQ c0 mo t lo<=4*B)/\(-B<=fH c1 mo t hi/\fH c1 mo t hi<=4*B)/\(lo=none->hi=none->fQ c0 mo t lo<=fH c1 mo t hi):=by
 have p0:0<=c0*t:=Int.mul_nonneg (by omega) t0
 have p1:c0*t<=c1*t:=Int.mul_le_mul_of_nonneg_right h1 t0;refine⟨?_,?_,λe1 e2=>?_⟩
 ·cases lo with
  |none=>unfold fQ;simp only;omega
  |some l=>obtain⟨l1,l2⟩:=hl l rfl;unfold fQ;simp only;split<;>omega
 ·cases hi with
  |none=>unfold fH;simp only;omega
  |some l=>obtain⟨l1,l2⟩:=hh l rfl;unfold fH;simp only;split<;>omega
 ·subst e1 e2;unfold fQ fH;simp only;omega
structure LagR (c0 c1 mo t f l:Int)(lo hi:Option Int):Prop where
 f0:mo+c0*t<=f
 l0:l<=mo+c1*t
 fl:∀y,lo=some y->y<=f
 lh:∀y,hi=some y->l<=y
theorem E1{c0 c1 mo t:Int}{lo hi:Option Int}:LagR c0 c1 mo t (fQ c0 mo t lo) (fH c1 mo t hi) lo hi:=by
 refine⟨?_,?_,λy e=>?_,λy e=>?_⟩
 ·cases lo<;>unfold fQ<;>simp only<;>(try split)<;>omega
 ·cases hi<;>unfold fH<;>simp only<;>(try split)<;>omega
 ·subst e;unfold fQ;simp only;split<;>omega
 ·subst e;unfold fH;simp only;split<;>omega
theorem E8{c0 c1 cnt rd mo B:Int}{xs:List Int}{lo hi:Option Int}(hx:3<=xs.length)(h0:1<=c0)(h1:c0<=c1)(h2:c1<=10 ^ 31)(b1:10 ^ 43<=B)(b2:B<=10 ^ 60)(m1 : -B<=mo)(m2:mo<=B)(hl:inB B lo)(hh:inB B hi) :
  ∃t f l:Int,0<=t/\t<=3*B/\(-B<=f/\f<=4*B)/\(-B<=l/\l<=4*B)/\(lo=none->hi=none->f<=l)/\LagR c0 c1 mo t f l lo hi/\∀{n:Nat}{M:MH}{Q:VK3}{E:XN},aa T (G.B cls b_ d_) (n+1) 55 [.tup [.int c0,.int c1],.tup [.int cnt,.int rd,.int mo],.g_ (xs.map D.int),oi lo,oi hi] M Q E=Q (.tup [.int t,.int f,.int l]) M:=by
 have i1:∀{M:MH}{Q:VK3},ao (.g_ (xs.map D.int)) (.int 1) M Q=Q (.int (xs.getD 1 0)) M:=λ{M Q}=>aK (k:=1) (by omega)
 have i2:∀{M:MH}{Q:VK3},ao (.g_ (xs.map D.int)) (.int 2) M Q=Q (.int (xs.getD 2 0)) M:=λ{M Q}=>aK (k:=2) (by omega)
 generalize xs.getD 1 0=x1 at i1;generalize xs.getD 2 0=x2 at i2;obtain⟨t0,TF,NH⟩:=rL 0 1 (x1 % 5) (x1 % 1000000000000) (x2 % 4) (by omega) (by omega)
 have t1:0<=t0/\t0<=10 ^ 12:=by omega
 obtain⟨a1,a2,a3⟩:=C5 (lo:=lo) (c1:=c1) (mo:=mo) (t0:=t0) (B:=B) (by omega) h2 t1.1 t1.2 b1 m1 m2 hl
 obtain⟨d1,d2,d3⟩:=DQ (c0:=c0) (hi:=hi) h0 h1 a1 a2 m1 m2 hl hh;refine⟨_,_,_,a1,a3,d1,d2,d3,E1,?_⟩;intro n M Q E;have k0:cQ c1 t0=True:=gN (by omega) (by omega) (by omega) (by omega)
 have k1:cQ c0 (fu c1 mo t0 lo)=True:=gN (by omega) (by omega) (by omega) (by omega)
 have k2:cQ c1 (fu c1 mo t0 lo)=True:=gN (by omega) (by omega) (by omega) (by omega)
 have z:¬ c1=0:=by omega
 have zp:0<c1:=by omega
 simp only[sV,iG];cases lo with
 |none=>
  cases hi with
  |none=>
   simp only[fu]at k1 k2;simp[↓i1,↓i2,↓NH,kN,k1,k2,oi,D.isN,fu,fQ,fH,au]
  |some y=>
   simp only[fu]at k1 k2;by_cases hy:y<mo+c1*t0<;>simp[↓i1,↓i2,↓NH,kN,k1,k2,hy,oi,D.isN,fu,fQ,fH,au]
 |some l=>
  by_cases Ku:mo+c1*t0<l
  ·simp only[fu,Js Ku]at k1 k2;obtain⟨l1,l2⟩:=hl l rfl;have kd:lA (l-mo+c1-1) c1=True:=c9 zp (by omega)
   cases hi with
   |none=>simp[↓i1,↓i2,↓NH,kN,k0,k1,k2,kd,Ku,z,zp,oi,D.isN,fu,fQ,fH,au]
   |some y=>by_cases hy:y<mo+c1*((l-mo+c1-1) / c1)<;>simp[↓i1,↓i2,↓NH,kN,k0,k1,k2,kd,hy,Ku,z,zp,oi,D.isN,fu,fQ,fH,au]
  ·simp only[fu,Jm Ku]at k1 k2;cases hi with
   |none=>simp[↓i1,↓i2,↓NH,kN,k0,k1,k2,Ku,oi,D.isN,fu,fQ,fH,au]
   |some y=>by_cases hy:y<mo+c1*t0<;>simp[↓i1,↓i2,↓NH,kN,k0,k1,k2,hy,Ku,oi,D.isN,fu,fQ,fH,au]
end
section
variable {cls b_ d_:Nat->PySem.Addr}{M:MH}{Q:VK3}{E:XN}{n:Nat}{wy:List Wy}{e_:List (Int×Int)}
theorem Af{l:List Int}{i:Int}(h0:0<=i)(h1:i<l.length):∃x∈l,∀{M:MH}{Q:VK3},ao (.g_ (l.map D.int)) (.int i) M Q=Q (.int x) M:=by
 obtain⟨k,rfl⟩:=Kf h0;have hk:k<l.length:=by omega
 exact⟨l.getD k 0,by rw[List.getD_eq_getElem?_getD,JG hk];exact J9 hk,aK hk⟩
structure WS (H:Nat)(i j:Nat)(wy:List Wy):Prop where
 nd:(wy.map pr).Nodup
 gd:∀w∈wy,w.good H
 sm:∀w∈wy,w.l<=10 ^ 30/\∀y,w.m=some y->y<=2*10 ^ 30
 lo:∀w∈wy,w.i<i\/(w.i=i/\w.j<j)
theorem WS.skip{H i j:Nat}(W:WS H i j wy):WS H i (j+1) wy:=⟨W.nd,W.gd,W.sm,λw hw=>by rcases W.lo w hw with h|h;exact .inl h;exact .inr ⟨h.1,by omega⟩⟩
theorem WS.row{H i j:Nat}(W:WS H i j wy):WS H (i+1) 0 wy:=⟨W.nd,W.gd,W.sm,λw hw=>.inl (by have:=W.lo w hw;omega)⟩
theorem WS.new{H i j:Nat}(W:WS H i j wy)(hi:i<H)(hj:j<H)(SH:i≠j){l:Int}{m:Option Int}(hl:mq l m=false)(hs:l<=10 ^ 30/\∀y,m=some y->y<=2*10 ^ 30):WS H i (j+1) (wy++[⟨i,j,l,m⟩])/\[(i:Int),(j:Int)]∉wy.map pr:=by
 have hn:[(i:Int),(j:Int)]∉wy.map pr:=λz=>by
  obtain⟨w,hw,e⟩:=JM.mp z;simp only[pr,List.cons.injEq,and_true]at e;rcases W.lo w hw with h|h<;>omega
 have al:∀{P:Wy->Prop},(∀w∈wy,P w)->P ⟨i,j,l,m⟩->∀w∈wy++[⟨i,j,l,m⟩],P w:=λh1 h2 w hw=>by
  rcases JK.mp hw with h|h
  ·exact h1 w h
  ·obtain rfl:=JB.mp h;exact h2
 refine⟨⟨?_,al W.gd ⟨by simp[okH,hi],by simp[okH,hj],λz=>SH (by have:(i:Int)=j:=z;omega),hl⟩,al W.sm hs,al (λw hw=>?_) (.inr ⟨rfl,by simp;omega⟩)⟩,hn⟩
 ·rw[J4,List.nodup_append];refine⟨W.nd,by simp,λa ha b hb=>?_⟩
  simp only[List.map_cons,List.map_nil,JB]at hb;subst hb;exact λz=>hn (by have:a=[(i:Int),(j:Int)]:=z;rw[<-this];exact ha)
 ·have:=W.lo w hw;omega
theorem jY{b:PySem.Addr}{ks:List (List Int)}{ds:List D}{i j:Int}{y:D}{R:MH->Prop}(h:M b=some (.dt ks ds))(hz:ks.length<1000):aE (.ref b) (.tup [.int i,.int j]) y M R=R (put M b (.dt (ai ks [i,j]) (aq ks ds [i,j] y))):=by
 have hs:ks.length<PySem.sizeLine:=Jw hz (by decide)
 simp[aE,h,g5,bz,hs]
theorem oS{H one:Nat}{size c:Int}{M0:MH}(Ov:Fm M0)(s0:1<=size)(s1:size<=10 ^ 30)(hH:H<=6)(ho:one<H){a b:PySem.Addr}{cl:List D}{De:Ends3}{ES:St3->XN}{y1 y2 y7:Option D}:∀(k j:Nat)(wy:List Wy)(x8 x9:Option D),j+k=H->wy.length+k<400->WS H one j wy->
  (∀(Li:List Wy) x8 x9,Li.length<=wy.length+k->WS H (one+1) 0 Li->De.nx [some (.int c),y1,y2,some (.int size),some (.ref a),some (.ref b),some (.int one),y7,x8,x9] (put (put M0 a (.lst cl)) b (.dt (Li.map pr) (Li.map wv))))->
  aJ ⟨(B cls b_ d_),aa T (B cls b_ d_) (n+1)⟩ (.name 8) bF ES (λ_=>True) De (rng j k) [some (.int c),y1,y2,some (.int size),some (.ref a),some (.ref b),some (.int one),y7,x8,x9] (put (put M0 a (.lst cl)) b (.dt (wy.map pr) (wy.map wv)))
 |0,j,wy,x8,x9,h1,h2,hW,hR=>by
  show aJ _ _ _ _ _ _ [] _ _;rw[aS];exact⟨trivial,hR wy _ _ (by omega) hW.row⟩
 |k+1,j,wy,x8,x9,h1,h2,hW,hR=>by
  have fm:Fm (put (put M0 a (.lst cl)) b (.dt (wy.map pr) (wy.map wv))):=(Ov.put _ _).put _ _;have st:∀{Q:VK3}{E:XN},aa T (B cls b_ d_) (n+1) 51 [.int (c+7*(one:Int)+43*(j:Int)+1),.int 4] (put (put M0 a (.lst cl)) b (.dt (wy.map pr) (wy.map wv))) Q E=Q (.g_ ((aM (c+7*(one:Int)+43*(j:Int)+1) 4).map D.int)) (put (put M0 a (.lst cl)) b (.dt (wy.map pr) (wy.map wv))):=λ{Q E}=>eL (m:=4) fm (by omega)
  have hl:(aM (c+7*(one:Int)+43*(j:Int)+1) 4).length=4:=bL;generalize aM (c+7*(one:Int)+43*(j:Int)+1) 4=ys at st hl;have i3:∀{M:MH}{Q:VK3},ao (.g_ (ys.map D.int)) (.int 3) M Q=Q (.int (ys.getD 3 0)) M:=λ{M Q}=>aK (k:=3) (by omega)
  generalize ys.getD 3 0=y at i3;obtain⟨l,m,hb,b1,b2,cw⟩:=Db (cls:=cls) (b_:=b_) (d_:=d_) (xs:=ys) (by omega) s0 s1
  have SI:∀{M:MH}{Q:VK3}{E:XN},aa T (B cls b_ d_) (n+1) 52 [.g_ (ys.map D.int),.int size] M Q E=Q (way l m) M:=cw;have c7:cQ 7 (one:Int)=True:=gN (by decide) (by decide) (by omega) (by omega)
  have c8:cQ 43 (j:Int)=True:=gN (by decide) (by decide) (by omega) (by omega)
  rw[kz,ar];refine⟨trivial,?_⟩;have nx:=λ(Li:List Wy) (hw:Li.length<=wy.length+1) (QA:WS H one (j+1) Li) (x8 x9:Option D)=>oS Ov s0 s1 hH ho (c:=c) (a:=a) (b:=b) (cl:=cl) (De:=De) (ES:=ES) (y1:=y1) (y2:=y2) (y7:=y7) k (j+1) Li x8 x9 (by omega) (by omega) QA (λw2 a b Rk Ow=>hR w2 a b (by omega) Ow)
  push_cast at nx
  generalize aJ ⟨(B cls b_ d_),aa T (B cls b_ d_) (n+1)⟩ (.name 8) bF ES (λ_=>True) De (rng ((j:Int)+1) k)=K at nx ⊢
  simp only[bF];by_cases c1:one=j
  ·subst c1;simp[c7,c8,↓st];exact nx wy (by omega) hW.skip _ _
  ·have Rl:¬ (one:Int)=(j:Int):=λz=>c1 (by omega)
   by_cases c2:0<y % 6
   ·obtain⟨Ow,L7⟩:=hW.new ho (by omega) c1 hb ⟨b1,b2⟩
    have go:∀{R:MH->Prop},aE (.ref b) (.tup [.int one,.int j]) (way l m) (put (put M0 a (.lst cl)) b (.dt (wy.map pr) (wy.map wv))) R=R (put (put M0 a (.lst cl)) b (.dt ((wy++[(⟨one,j,l,m⟩:Wy)]).map pr) ((wy++[(⟨one,j,l,m⟩:Wy)]).map wv))):=λ{R}=>by
     rw[jY ac (by simp;omega),jW L7,kK (by simp) L7,ba]
     simp[pr,wv]
    simp[c7,c8,↓st,Rl,↓i3,c2,↓SI,au,↓go];have:=nx (wy++[⟨one,j,l,m⟩]) (by simp) Ow (some (.int j)) (some (.g_ (ys.map D.int)))
    rw[J4,J4]at this;exact this
   ·simp[c7,c8,↓st,Rl,↓i3,c2];exact nx wy (by omega) hW.skip _ _
theorem l8{xs:List Int}{c size:Int}{M0:MH}(Ov:Fm M0)(hl:xs.length=8)(s0:1<=size)(s1:size<=10 ^ 30){H:Nat}(hH:H<=6){a b:PySem.Addr}(D_:a≠b){De:Ends3}{ES:St3->XN}:∀(k j:Nat) (e_:List (Int×Int)) (wy:List Wy)(x6 x7 x8 x9:Option D),j+k=H->e_.length=j->wy.length<=j*6->(∀c∈e_,mV c=false/\c.2<=10 ^ 31)->WS H j 0 wy->
  (∀(Nk:List (Int×Int)) (Li:List Wy) x6 x7 x8 x9,Nk.length=H->Li.length<=36->(∀c∈Nk,mV c=false/\c.2<=10 ^ 31)->WS H H 0 Li->De.nx [some (.int c),some (.g_ (xs.map D.int)),some (.int H),some (.int size),some (.ref a),some (.ref b),x6,x7,x8,x9] (put (put M0 a (.lst (Nk.map cD))) b (.dt (Li.map pr) (Li.map wv))))->
  aJ ⟨(B cls b_ d_),aa T (B cls b_ d_) (n+1)⟩ (.name 6) bw ES (λ_=>True) De (rng j k) [some (.int c),some (.g_ (xs.map D.int)),some (.int H),some (.int size),some (.ref a),some (.ref b),x6,x7,x8,x9] (put (put M0 a (.lst (e_.map cD))) b (.dt (wy.map pr) (wy.map wv)))
 |0,j,e_,wy,x6,x7,x8,x9,h1,h2,h3,hc,hW,hR=>by
  show aJ _ _ _ _ _ _ [] _ _;rw[aS];have e:j=H:=by omega
  subst e;exact⟨trivial,hR e_ wy _ _ _ _ h2 (by omega) hc hW⟩
 |k+1,j,e_,wy,x6,x7,x8,x9,h1,h2,h3,hc,hW,hR=>by
  have i2:∀{M:MH}{Q:VK3},ao (.g_ (xs.map D.int)) (.int (2+(j:Int))) M Q=Q (.int (xs.getD (2+j) 0)) M:=λ{M Q}=>by
   have:=aK (M:=M) (Q:=Q) (l:=xs) (k:=2+j) (by omega)
   push_cast at this
   exact this
  have i7:∀{M:MH}{Q:VK3},ao (.g_ (xs.map D.int)) (.int (7-(j:Int))) M Q=Q (.int (xs.getD (7-j) 0)) M:=λ{M Q}=>by
   rw[show (7-(j:Int))=((7-j:Nat):Int) by omega]
   exact aK (by omega)
  generalize xs.getD (2+j) 0=x at i2;generalize xs.getD (7-j) 0=y at i7;have z:¬ size=0:=by omega
  have zp:0<size:=by omega
  have q0:=J6 (x / 3) z;have q1:=JW (x / 3) zp;have q2:=J6 y z;have q3:=JW y zp;obtain⟨g,hg,gx⟩:=rG 0 1 (y % size) (x % 3) (by omega) (by omega)
  have hs:e_.length<PySem.sizeLine:=Jw (show e_.length<1000 by omega) (by decide)
  have ha:(put (put M0 a (.lst (e_.map cD))) b (.dt (wy.map pr) (wy.map wv))) a=some (.lst (e_.map cD)):=by rw[af D_,ac]
  have QC:(H:Int)<4611686018427387904:=by omega
  have QD:∀{e:IE}{Nl:Ends3}{E':XN}{Z:St3}{W:WC},lf W e Nl E' Z (.ref a) (put (put M0 a (.lst (e_.map cD))) b (.dt (wy.map pr) (wy.map wv)))=wpE W e Z (put (put M0 a (.lst (e_.map cD))) b (.dt (wy.map pr) (wy.map wv))) (cJ a Nl Z) E':=by
   intro e Nl E' Z W;simp[lf,ha];exact Iff.rfl
  have Ox:∀{y:D}{Nl:Ends3}{Z:St3},cJ a Nl Z y (put (put M0 a (.lst (e_.map cD))) b (.dt (wy.map pr) (wy.map wv)))=(e_.length<PySem.sizeLine/\Nl.nx Z (put (put M0 a (.lst (e_.map cD++[y]))) b (.dt (wy.map pr) (wy.map wv)))):=by
   intro y Nl Z;simp[cJ,ha,c5 D_]
  rw[kz,ar];refine⟨trivial,?_⟩;have nx:=λ(Li:List Wy) (hw:Li.length<=(j+1)*6) (QA:WS H (j+1) 0 Li) (x8 x9:Option D)=>l8 (c:=c) Ov hl s0 s1 hH D_ (De:=De) (ES:=ES) k (j+1) (e_++[(1+x / 3 % size,1+x / 3 % size+g)]) Li (some (.int j)) (some (.int (1+x / 3 % size))) x8 x9 (by omega) (by simp;omega) hw (λc OL=>by
   rcases JK.mp OL with h|h
   ·exact hc c h
   ·obtain rfl:=JB.mp h;exact⟨by simp[mV];omega,by simp only;omega⟩) QA hR
  push_cast at nx
  generalize aJ ⟨(B cls b_ d_),aa T (B cls b_ d_) (n+1)⟩ (.name 6) bw ES (λ_=>True) De (rng ((j:Int)+1) k)=K at nx ⊢
  simp only[bw];simp[↓i2,↓i7,↓gx,z,zp,c9,↓QD,↓Ox,au,hs,QC];have key:=oS (cls:=cls) (b_:=b_) (d_:=d_) (n:=n) (c:=c) Ov s0 s1 hH (one:=j) (by omega) (a:=a) (b:=b) (cl:=(e_++[(1+x / 3 % size,1+x / 3 % size+g)]).map cD) (De:={De with nx:=K,ct:=K,bk:=De.nx}) (ES:=ES) (y1:=some (.g_ (xs.map D.int))) (y2:=some (.int H)) (y7:=some (.int (1+x / 3 % size))) H 0 wy x8 x9 (by omega) (by omega) hW (λLi x8 x9 hw Ow=>nx Li (by omega) Ow _ _)
  simpa [cD] using key
structure GW (e_:List (Int×Int)) (wy:List Wy):Prop where
 l1:1<=e_.length
 l6:e_.length<=6
 w36:wy.length<=36
 ck:∀c∈e_,mV c=false/\c.2<=10 ^ 31
 nd:(wy.map pr).Nodup
 gd:∀w∈wy,w.good e_.length
 sm:∀w∈wy,w.l<=10 ^ 30/\∀y,w.m=some y->y<=2*10 ^ 30
theorem zh{c:Int}(hM:Fm M)(h:∀(e_:List (Int×Int)) (wy:List Wy),GW e_ wy->Q (.tup [.g_ (e_.map cD),.Kv (wy.map pr) (wy.map wv)]) M):aa T (B cls b_ d_) (n+2) 53 [.int c] M Q E:=by
 have st:∀{M:MH}{Q:VK3}{E:XN},Fm M->aa T (B cls b_ d_) (n+1) 51 [.int c,.int 8] M Q E=Q (.g_ ((aM c 8).map D.int)) M:=λ{M Q E} fm=>eL (m:=8) fm (by omega)
 have hl:(aM c 8).length=8:=bL;generalize aM c 8=xs at st hl;have i0:∀{M:MH}{Q:VK3},ao (.g_ (xs.map D.int)) (.int 0) M Q=Q (.int (xs.getD 0 0)) M:=λ{M Q}=>aK (k:=0) (by omega)
 have i1:∀{M:MH}{Q:VK3},ao (.g_ (xs.map D.int)) (.int 1) M Q=Q (.int (xs.getD 1 0)) M:=λ{M Q}=>aK (k:=1) (by omega)
 generalize xs.getD 0 0=x0 at i0;generalize xs.getD 1 0=x1 at i1;obtain⟨H0,SJ,hx⟩:=Af (l:=[1,2,2,3,3,4,5,6]) (i:=x0 % 8) (by omega) (by simp;omega)
 have LU:∀{M:MH}{Q:VK3},ao (.g_ [.int 1,.int 2,.int 2,.int 3,.int 3,.int 4,.int 5,.int 6]) (.int (x0 % 8)) M Q=Q (.int H0) M:=hx;obtain⟨size,TH,hz⟩:=rL 3 100 1000000000 1000000000000000000000000000000 (x1 % 4) (by omega) (by omega)
 have TJ:1<=H0/\H0<=6:=by simp at SJ;omega
 obtain⟨H,rfl⟩:∃H:Nat,H0=H:=⟨H0.toNat,by omega⟩
 have SK:H<=6:=by omega
 have QC:(H:Int)<4611686018427387904:=by omega
 simp only[pG,d8];simp[st hM,↓i0,↓i1,↓LU,↓hz,kN,au,QC];intro a ha b hb;obtain⟨Oy,hb⟩:=bW hb;refine l8 hM hl (by omega) (by omega) SK (JA Oy) H 0 [] [] none none none none (by omega) rfl (by simp) (λc hc=>by cases hc) ⟨by simp,λw hw=>(by cases hw),λw hw=>(by cases hw),λw hw=>(by cases hw)⟩ (λe_ wy x6 x7 x8 x9 l1 l2 l3 l4=>?_)
 have e1:(put (put M a (.lst (e_.map cD))) b (.dt (wy.map pr) (wy.map wv))) a=some (.lst (e_.map cD)):=by rw[af (JA Oy),ac]
 simp[aX,e1,wJ ha Oy,ac,gY hb,au];exact h e_ wy ⟨by omega,by omega,l2,l3,l4.nd,by rw[l1];exact l4.gd,l4.sm⟩
theorem Cc(G:GW e_ wy)(hM:Fm M):aa T (B cls b_ d_) (n+7) 54 [.tup [.g_ (e_.map cD),.Kv (wy.map pr) (wy.map wv)]] M Q E=Q (wO b_ e_ wy) M:=by
 have hz:e_.length<=PySem.sizeLine:=JF (show e_.length<=1000 by have:=G.l6;omega) (by decide)
 have cm:∀{W:WC}{Q:VK3},kL W (.tup [0,1]) .no (.bin .Add (.var 0) (.var 1)) (λ_=>True) Q (aw (wy.map pr) (wy.map wv)) [none,none] M=Q (.g_ (wy.map wD)) M:=λ{W Q}=>by
  rw[show aw (wy.map pr) (wy.map wv)=wy.map λw=>.tup [.tup [.int w.i,.int w.j],wv w] by unfold aw;rw[List.zip_map',List.map_map];rfl,
   fg _ (λZ=>∃a b,Z=[a,b]) (λw=>[some (.tup [.int w.i,.int w.j]),some (wv w)]) (λ_=>true) wD ⟨_,_,rfl⟩ hM (by have:=G.w36;omega) (λw _=>⟨⟨_,_,rfl⟩,λZ ⟨a,b,e⟩ M k=>by
    subst e;simp[wpG]⟩) (λ_ _ _ _ _=>rfl) (λw _ _ M' hE Q=>by simp[wv,way,wD,au]),List.filter_eq_self.mpr (λ_ _=>rfl)]
 simp only[pO,fR];simp[aL,↓cm,hz];refine iff_of_eq ((zE (n:=n) (Q:=λv M'=>Q v (av M M')) (E:=λi M'=>E i (av M M')) hM G.l1 G.l6 (λc hc=>(G.ck c hc).1) (by have:=G.w36;omega) G.gd G.nd).trans ?_)
 simp
end
section
variable {cls b_ d_:Nat->PySem.Addr}{M:MH}{Q:VK3}{E:XN}{n:Nat}{wy:List Wy}{e_:List (Int×Int)}
theorem we{w:Wy}:∀{wy:List Wy},(wy.map pr).Nodup->w∈wy->getD (wy.map pr) (wy.map wv) (pr w)=some (wv w)
 |v::r,hn,h=>by
  rw[List.map_cons,JN]at hn;simp only[List.map_cons,getD];rcases Jq.mp h with rfl|h
  ·rw[Js rfl]
  ·rw[Jm (λz=>hn.1 (by rw[z];exact List.mem_map_of_mem h)),we hn.2 h]
theorem uX{w:Wy}(hn:(wy.map pr).Nodup)(h:w∈wy):ao (.Kv (wy.map pr) (wy.map wv)) (.tup [.int w.i,.int w.j]) M Q=Q (wv w) M:=by
 have e:=we hn h;simp only[pr]at e;simp[ao,ax,am,d7,dZ,cI,g5,bz,e,pr]
theorem vt{x:D}{ds:List D}(hx:am M x=some ds)(h7:ds.all (plN 7)=true)(h8:ds.all (plN 8)=true):aI .NotEq x (.g_ []) M Q=Q (.bl (!ds.isEmpty)) M:=by
 have e:rs M x=.g_ ds:=by unfold rs;rw[hx];simp only[pls,h8,if_true]
 have p:pl (.g_ ds)=true:=h7;have e2:rs M (.g_ [])=.g_ []:=rfl;show ij true x (.g_ []) M Q=_;unfold ij;rw[e,e2,p];cases ds<;>simp[plN,eqD,cH]
noncomputable def jr(wy:List Wy)(h:Int):List Int:=(wy.filter λw=>decide (w.i=h)).map Wy.j
theorem EI{W:WC}{h:Int}(hM:Fm M)(hl:wy.length<=36):kL W (.name 0) (.yes (.cmp .Eq (.ix (.var 0) (.con (.int 0))) (.var 1))) (.ix (.var 0) (.con (.int 1))) (λ_=>True) Q ((wy.map pr).map jd) [none,some (.int h)] M=Q (.g_ ((jr wy h).map D.int)) M:=by
 rw[List.map_map,gw (jd∘pr) (λw=>decide (w.i=h)) (λw=>.int w.j) hM (by omega) (λw _ M' hE Q=>by simp[jd,pr]) (λw _ _ M' hE Q=>by simp[jd,pr])]
 unfold jr;rw[List.map_map];rfl
theorem yU{h t:Int}(ht:t∈jr wy h):∃w∈wy,w.i=h/\w.j=t:=by
 obtain⟨w,hw,rfl⟩:=JM.mp ht;obtain⟨h1,h2⟩:=List.mem_filter.mp hw;exact⟨w,h1,Ki h2,rfl⟩
def Rw.sg(m:Int):Rw->Prop
 |.KC _ _ e l=>e<=m/\m<=l
 |_=>True
theorem Dy{h v m:Int}{xs:List Int}(hl:xs.length=4)(hw:wy.length<=36):∃r:Rw,r.h=h/\r.r=v/\r.s≠"take"/\r.may wy/\r.sg m/\
  ∀{n:Nat}{M:MH}{Q:VK3}{E:XN},Fm M->aa T (B cls b_ d_) (n+1) 56 [.int h,.int v,.int m,.Kv (wy.map pr) (wy.map wv),.g_ (xs.map D.int)] M Q E=Q r.d M:=by
 have i0:∀{M:MH}{Q:VK3},ao (.g_ (xs.map D.int)) (.int 0) M Q=Q (.int (xs.getD 0 0)) M:=λ{M Q}=>aK (k:=0) (by omega)
 have i1:∀{M:MH}{Q:VK3},ao (.g_ (xs.map D.int)) (.int 1) M Q=Q (.int (xs.getD 1 0)) M:=λ{M Q}=>aK (k:=1) (by omega)
 have i2:∀{M:MH}{Q:VK3},ao (.g_ (xs.map D.int)) (.int 2) M Q=Q (.int (xs.getD 2 0)) M:=λ{M Q}=>aK (k:=2) (by omega)
 have i3:∀{M:MH}{Q:VK3},ao (.g_ (xs.map D.int)) (.int 3) M Q=Q (.int (xs.getD 3 0)) M:=λ{M Q}=>aK (k:=3) (by omega)
 generalize xs.getD 0 0=x0 at i0;generalize xs.getD 1 0=x1 at i1;generalize xs.getD 2 0=x2 at i2;generalize xs.getD 3 0=x3 at i3;have ct:=λ{W:WC}{M:MH}{Q:VK3} (hM:Fm M)=>EI (W:=W) (Q:=Q) (wy:=wy) (h:=h) hM hw
 by_cases k12:x3 / 2 % 8=1\/x3 / 2 % 8=2
 ·obtain⟨g,hg,gx⟩:=rL 0 1 (x0 % 100) (x0 % 1000000000000) (x1 % 4) (by omega) (by omega)
  obtain⟨k,hk,kx⟩:=rL 0 1 (x0 % 100) (x0 % 1000000000000) (x1 / 4 % 4) (by omega) (by omega)
  refine⟨.KC h v (m-g) (m+k),rfl,rfl,by simp +decide [Rw.s],trivial,⟨by omega,by omega⟩,?_⟩
  intro n M Q E hM;simp only[iM,dc];rcases k12 with k1|k1<;>simp[-List.map_map,aL,↓ct hM,↓i0,↓i1,↓i3,k1,c9,kN,↓gx,↓kx,Rw.d,au]
 ·obtain⟨k1,k2⟩:=not_or.mp k12;have nn:∀{M:MH}{Q:VK3},aI .NotEq (.g_ ((jr wy h).map D.int)) (.g_ []) M Q=Q (.bl (!((jr wy h).map D.int).isEmpty)) M:=λ{M Q}=>vt rfl (by simp[plN]) (by simp[plN])
  by_cases k3:2<x3 / 2 % 8/\jr wy h≠[]
  ·have lp:0<(jr wy h).length:=List.length_pos_iff.mpr k3.2;have L4:(0:Int)<(jr wy h).length:=by omega
   obtain⟨t,ht,tx⟩:=Af (l:=jr wy h) (i:=x2 / 5 % ((jr wy h).length:Int)) (J6 _ (by omega)) (JW _ L4)
   obtain⟨w,Qz,Rk,SM⟩:=yU ht;refine⟨.send h v t,rfl,rfl,by simp +decide [Rw.s],(show [h,t]∈wy.map pr from JM.mpr ⟨w,Qz,by simp[pr,Rk,SM]⟩),trivial,?_⟩
   intro n M Q E hM;simp only[iM,dc];simp[-List.map_map,aL,↓ct hM,↓i2,↓i3,k1,k2,k3.1,k3.2,↓nn,lp,L4,c9,↓tx,Rw.d,au]
  ·refine⟨.look h v,rfl,rfl,by simp +decide [Rw.s],trivial,trivial,?_⟩
   intro n M Q E hM;simp only[iM,dc];by_cases k4:2<x3 / 2 % 8
   ·have k5:jr wy h=[]:=Classical.byContradiction λz=>k3 ⟨k4,z⟩
    simp[-List.map_map,aL,↓ct hM,↓i3,k1,k2,k4,k5,↓nn,c9,Rw.d,au]
   ·simp[-List.map_map,aL,↓ct hM,↓i3,k1,k2,k4,c9,Rw.d,au]
theorem AK{h k v t mo l a:Int}{m:Option Int}:aa T (B cls b_ d_) (n+1) 57 [.tup [.int h,.int k],.tup [.str "send",.int a,.int v,.int t],.int mo,.tup [.int l,oi m]] M Q E=Q (Ent.d ⟨h,k,t,mo+l,m.map (mo+·)⟩) M:=by
 simp only[qd,fJ];cases m<;>simp[oi,D.isN,Ent.d,au]
theorem uG:∀{l:List A3}{k0:Nat},bR k0 (l.map a3D)=(l.zipIdx k0).map λp=>.tup [.int p.2,a3D p.1]
 |[],_=>rfl
 |x::r,k0=>by simp only[List.map_cons,bR,List.zipIdx_cons,uG (l:=r)]
theorem rf{α:Type}{f:α->Int×Int}:∀{l:List α},tU (l.map λa=>prD (f a))=some (l.map f)
 |[]=>rfl
 |x::r=>by simp only[List.map_cons,prD,tU];rw[show (λa=>D.tup [.int (f a).1,.int (f a).2])=λa=>prD (f a) from rfl,rf (l:=r)]
theorem Ca{at_:List A3}{a:PySem.Addr}(hM:Fm M)(ha:M a=some (.lst (at_.map a3D)))(h0:0<at_.length)(hl:at_.length<=6):∃(k:Nat)(m:Int),k<at_.length/\∀{W:WC}{Q:VK3},kL W (.tup [0,1]) .no (.tup (.cons (.ix (.var 1) (.con (.int 2))) (.cons (.var 0) .nil))) (λM=>M a=some (.lst (at_.map a3D))) (λx M1=>rMp x M1 Q) (bR 0 (at_.map a3D)) [none,none] M=Q (.tup [.int m,.int k]) M:=by
 let f:A3×Nat->Int×Int:=λp=>(p.1.2.2,(p.2:Int))
 have ne:at_.zipIdx.map f≠[]:=by
  cases at_ with
  |nil=>simp at h0
  |cons x r=>simp
 obtain⟨⟨x,k⟩,hp,e⟩:=JM.mp (sU ne);refine⟨k,x.2.2,(JQ.mp (List.mem_zipIdx_iff_getElem?.mp hp)).1,?_⟩;intro W Q;rw[uG,fg _ (λZ=>∃a b,Z=[a,b]) (λp=>[some (.int p.2),some (a3D p.1)]) (λ_=>true) (λp=>prD (f p)) ⟨_,_,rfl⟩ hM (by simp;omega) (λp _=>⟨⟨_,_,rfl⟩,λZ ⟨a,b,e⟩ M k=>by
  subst e;simp[wpG]⟩) (λ_ _ _ _ _=>rfl) (λp _ _ M' hE Q=>by simp[f,prD,a3D,au]) (λM' hE=>hE.2 _ _ ha),List.filter_eq_self.mpr (λ_ _=>rfl)]
 unfold rMp;simp only[am,rf];cases h:at_.zipIdx.map f with
 |nil=>exact absurd h ne
 |cons p ps=>rw[h]at e;simp only[<-e];rfl
end
noncomputable abbrev c00:Int->Nat:=λ_=>0
noncomputable abbrev l00:Int->Int:=λ_=>0
noncomputable abbrev k0(e_:List (Int×Int))(k:Nat):Int×Int:=e_.getD k (0,0)
noncomputable abbrev a0(at_:List A3)(k:Nat):A3:=at_.getD k (0,0,0)
section
variable {e_:List (Int×Int)}{wy:List Wy}{r:Rw}
noncomputable def wOf(wy:List Wy)(i j:Int):Wy:=(wy.find? λw=>decide (w.i=i)&&decide (w.j=j)).getD ⟨0,0,0,none⟩
theorem BP{i j:Int}(h:[i,j]∈wy.map pr):wOf wy i j∈wy/\(wOf wy i j).i=i/\(wOf wy i j).j=j:=by
 unfold wOf;cases e:wy.find? λw=>decide (w.i=i)&&decide (w.j=j) with
 |none=>
  obtain⟨w,hw,q⟩:=JM.mp h;simp only[pr,List.cons.injEq,and_true]at q;have:=List.find?_eq_none.mp e w hw;simp[q.1,q.2]at this
 |some w=>
  have h1:=List.find?_some e;simp only[Jj,Ju]at h1;exact⟨List.mem_of_find?_eq_some e,h1.1,h1.2⟩
theorem wc{w:Wy}:∀{wy:List Wy},(wy.map pr).Nodup->w∈wy->wOf wy w.i w.j=w
 |x::r,nd,h=>by
  rw[List.map_cons,JN]at nd;unfold wOf;rw[J7];by_cases e:x.i=w.i/\x.j=w.j
  ·simp only[e.1,e.2,decide_true,Bool.and_true,Option.getD_some];rcases Jq.mp h with rfl|h
   ·rfl
   ·exact absurd (JM.mpr ⟨w,h,by simp[pr,e.1,e.2]⟩) nd.1
  ·have:(decide (x.i=w.i)&&decide (x.j=w.j))=false:=by
    rw[Bool.and_eq_false_iff];by_cases e1:x.i=w.i
    ·exact .inr (J5 λe2=>e ⟨e1,e2⟩)
    ·exact .inl (J5 e1)
   rw[this];rcases Jq.mp h with rfl|h
   ·exact absurd ⟨rfl,rfl⟩ e
   ·exact wc nd.2 h
noncomputable def fN(wy:List Wy)(hd:D):Rw->List D
 |.KC _ _ e l=>[.tup [.tup [.int (-1),.int 0],hd,.int l],.tup [hd,.tup [.int (-1),.int 0],.int (-e)]]
 |.take h _ a b=>.tup [hd,.tup [.int a,.int b],.int (-(wOf wy a h).l)]::(match (wOf wy a h).m with
  |none=>[]
  |some m=>[.tup [.tup [.int a,.int b],hd,.int m]])
 |_=>[]
noncomputable def on(c:Int×Int)(h:Int)(k:Nat)(t:Int):List D:=[.tup [.tup [.int h,.int ((k:Int)-1)],.tup [.int h,.int k],.int (c.2*t)],.tup [.tup [.int h,.int k],.tup [.int h,.int ((k:Int)-1)],.int (-c.1*t)]]
noncomputable def nxt(lr:Int->Int)(h v:Int):Int->Int:=λx=>if x=h then v else lr x
noncomputable def lj(e_:List (Int×Int))(wy:List Wy)(c:Int->Nat)(lr:Int->Int)(r:Rw):List D:=fN wy (.tup [.int r.h,.int (c r.h)]) r++if 0<c r.h then on (k0 e_ r.h.toNat) r.h (c r.h) (r.r-lr r.h) else []
noncomputable def bdF(e_:List (Int×Int))(wy:List Wy):(Int->Nat)->(Int->Int)->List Rw->List D
 |_,_,[]=>[]
 |c,lr,r::rs=>lj e_ wy c lr r++bdF e_ wy (bump c r.h) (nxt lr r.h r.r) rs
noncomputable def cF(c:Int->Nat):List Rw->Int->Nat
 |[]=>c
 |r::rs=>cF (bump c r.h) rs
noncomputable def lF(lr:Int->Int):List Rw->Int->Int
 |[]=>lr
 |r::rs=>lF (nxt lr r.h r.r) rs
theorem q9:∀(rs:List Rw)(c:Int->Nat),cF c (rs++[r])=bump (cF c rs) r.h
 |[],c=>rfl
 |x::rs,c=>q9 rs _
theorem qZ:∀(rs:List Rw)(lr:Int->Int),lF lr (rs++[r])=nxt (lF lr rs) r.h r.r
 |[],_=>rfl
 |x::rs,_=>qZ rs _
theorem sr:∀(rs:List Rw)(c:Int->Nat)(lr:Int->Int),bdF e_ wy c lr (rs++[r])=bdF e_ wy c lr rs++lj e_ wy (cF c rs) (lF lr rs) r
 |[],c,lr=>by simp[bdF,cF,lF]
 |x::rs,c,lr=>by
  rw[List.cons_append];unfold bdF;rw[sr rs,List.append_assoc];rfl
noncomputable abbrev Dt:=List (List Int)×List D
noncomputable def dF(c:Int->Nat)(T:Dt):List (Int×Int)->Dt
 |[]=>T
 |p::r=>dF (bump c p.1) (ai T.1 [p.1,(c p.1:Int)],aq T.1 T.2 [p.1,(c p.1:Int)] (.int p.2)) r
noncomputable def hB(c:Int->Nat):List (Int×Int)->Int->Nat
 |[]=>c
 |p::r=>hB (bump c p.1) r
theorem rF{p:Int×Int}:∀(l:List (Int×Int)) (c:Int->Nat)(T:Dt),dF c T (l++[p])=(ai (dF c T l).1 [p.1,(hB c l p.1:Int)],aq (dF c T l).1 (dF c T l).2 [p.1,(hB c l p.1:Int)] (.int p.2))
 |[],c,T=>rfl
 |x::l,c,T=>rF l _ _
theorem wq:∀(l:List (Int×Int)) (c:Int->Nat)(T:Dt),T.1.length=T.2.length->(dF c T l).1.length=(dF c T l).2.length
 |[],c,T,h=>h
 |x::l,c,T,h=>wq l _ _ (cr h)
noncomputable def ht(p:Rw×Int):Int×Int:=(p.1.h,p.2)
theorem Dp:∀(td:List (Rw×Int)) (c:Int->Nat),hB c (td.map ht)=cF c (td.map Prod.fst)
 |[],_=>rfl
 |p::td,c=>Dp td _
noncomputable abbrev D0:Dt:=([[-1,0]],[.int 0])
noncomputable def tm(l:List (Int×Int))(a i:Int):Option D:=getD (dF c00 D0 l).1 (dF c00 D0 l).2 [a,i]
theorem ze{l:List (Int×Int)}{p:Int×Int}{a i:Int}:tm (l++[p]) a i=if p.1=a/\(hB c00 l p.1:Int)=i then some (.int p.2) else tm l a i:=by
 unfold tm;rw[rF,cB (wq l _ _ rfl)];by_cases h:p.1=a/\(hB c00 l p.1:Int)=i
 ·rw[Js h,Js (by rw[h.1,<-h.2,h.1])]
 ·rw[Jm h,Jm (λe=>h ?_)]
  simp only[List.cons.injEq,and_true]at e;exact e
def Old(c:Int->Nat)(a i:Int):Prop:=a<0\/i<c a
theorem Old.bump{c:Int->Nat}{h a i:Int}(o:Old c a i):Old (bump c h) a i:=by
 rcases o with o|o
 ·exact .inl o
 ·unfold G.bump;right;dsimp only;split<;>omega
def j2(T:Int->Int->Option D)(c:Int->Nat)(b:D):Prop:=∃a i a' i' m t t':Int,b=.tup [.tup [.int a,.int i],.tup [.int a',.int i'],.int m]/\T a i=some (.int t)/\T a' i'=some (.int t')/\Old c a i/\Old c a' i'/\¬ (a=a'/\i=i')/\t' - t<=m
def z7(wy:List Wy)(T:Int->Int->Option D)(c:Int->Nat)(mo:Int):Rw->Prop
 |.take h _ a b=>∃ms,T a b=some (.int ms)/\Old c a b/\ms+(wOf wy a h).l<=mo/\∀m,(wOf wy a h).m=some m->mo<=ms+m
 |r=>r.sg mo
theorem Bq{T:Int->Int->Option D}{c:Int->Nat}{mo:Int}(h:r.s≠"take")(s:r.sg mo):z7 wy T c mo r:=by
 cases r with
 |take=>exact absurd rfl h
 |_=>exact s
structure TC (e_:List (Int×Int)) (wy:List Wy) (td:List (Rw×Int)) (at_:List A3)(sn:List Ent):Prop where
 z:tm (td.map ht) (-1) 0=some (.int 0)
 n:∀k:Nat,k<e_.length->(a0 at_ k).1=cF c00 (td.map Prod.fst) k
 l:∀k:Nat,k<e_.length->0<cF c00 (td.map Prod.fst) k->(a0 at_ k).2.1=lF l00 (td.map Prod.fst) k/\tm (td.map ht) k (cF c00 (td.map Prod.fst) k-1)=some (.int (a0 at_ k).2.2)
 s:∀e∈sn,∃ms,tm (td.map ht) e.h e.k=some (.int ms)/\Old (cF c00 (td.map Prod.fst)) e.h e.k/\e.lo=ms+(wOf wy e.h e.to).l/\e.hi=(wOf wy e.h e.to).m.map (ms+·)
 b:∀b∈bdF e_ wy c00 l00 (td.map Prod.fst),j2 (tm (td.map ht)) (cF c00 (td.map Prod.fst)) b
variable {td:List (Rw×Int)}{at_:List A3}{sn:List Ent}
theorem TC.step{k:Nat}{t mo:Int}{Ky:List Ent}(C:TC e_ wy td at_ sn)(hl:at_.length=e_.length)(hk:k<e_.length)(eh:r.h=k)(er:r.r=(a0 at_ k).2.1+t)
  (ow:z7 wy (tm (td.map ht)) (cF c00 (td.map Prod.fst)) mo r) (ck:(k0 e_ k).1*t<=mo-(a0 at_ k).2.2/\mo-(a0 at_ k).2.2<=(k0 e_ k).2*t)
  (hs:∀e∈Ky,e∈sn\/(e.h=k/\e.k=(a0 at_ k).1/\e.lo=mo+(wOf wy e.h e.to).l/\e.hi=(wOf wy e.h e.to).m.map (mo+·))) :
  TC e_ wy (td++[(r,mo)]) (at_.set k ((a0 at_ k).1+1,(a0 at_ k).2.1+t,mo)) Ky:=by
 have Nj:k<at_.length:=by omega
 have ec:=Dp td c00;have e0:(td++[(r,mo)]).map ht=td.map ht++[(r.h,mo)]:=by simp[ht]
 have e1:(td++[(r,mo)]).map Prod.fst=td.map Prod.fst++[r]:=by simp
 have Rm:∀a i,tm ((td++[(r,mo)]).map ht) a i=if (k:Int)=a/\(cF c00 (td.map Prod.fst) k:Int)=i then some (.int mo) else tm (td.map ht) a i:=λa i=>by
  rw[e0,ze,ec];simp only[eh]
 have K2:∀{a i},Old (cF c00 (td.map Prod.fst)) a i->tm ((td++[(r,mo)]).map ht) a i=tm (td.map ht) a i:=λ{a i} o=>by
  rw[Rm,Jm];rintro⟨rfl,rfl⟩;rcases o with o|o<;>omega
 have cN:cF c00 ((td++[(r,mo)]).map Prod.fst)=bump (cF c00 (td.map Prod.fst)) k:=by rw[e1,q9,eh]
 have self:tm ((td++[(r,mo)]).map ht) k (cF c00 (td.map Prod.fst) k)=some (.int mo):=by rw[Rm,Js ⟨rfl,rfl⟩]
 have K7:Old (bump (cF c00 (td.map Prod.fst)) k) k (cF c00 (td.map Prod.fst) k):=.inr (by simp only[bump,if_true];omega)
 have nr:∀{a i:Int},Old (cF c00 (td.map Prod.fst)) a i->a=k->i=cF c00 (td.map Prod.fst) k->False:=λ{a i} o e1 e2=>by
  subst e1;subst e2;rcases o with o|o<;>omega
 have z':tm ((td++[(r,mo)]).map ht) (-1) 0=some (.int 0):=by rw[K2 (.inl (by decide))];exact C.z
 have up:∀{b},j2 (tm (td.map ht)) (cF c00 (td.map Prod.fst)) b->j2 (tm ((td++[(r,mo)]).map ht)) (bump (cF c00 (td.map Prod.fst)) k) b:=λ{b} ⟨a,i,a',i',m,x,x',h1,h2,h3,h4,h5,h6⟩=>⟨a,i,a',i',m,x,x',h1,by rw[K2 h4];exact h2,by rw[K2 h5];exact h3,h4.bump,h5.bump,h6⟩
 refine⟨z',λj hj=>?_,λj hj hp=>?_,λe he=>?_,λb hb=>?_⟩
 ·rw[cN,a0,cy Nj];unfold bump;by_cases e:j=k
  ·subst e;have:=C.n j hj;simp only[if_true];omega
  ·rw[Jm e,Jm (by omega)];exact C.n j hj
 ·rw[cN,e1,qZ,eh,er];rw[cN]at hp;unfold bump at hp ⊢;unfold nxt;by_cases e:j=k
  ·subst e;rw[a0,cy Nj,Js rfl];simp only[if_true,true_and];rw[show ((cF c00 (td.map Prod.fst) (j:Int)+1:Nat):Int)-1=cF c00 (td.map Prod.fst) (j:Int) by omega]
   exact self
  ·have ej:¬ (j:Int)=k:=by omega
   rw[Jm ej]at hp;rw[a0,cy Nj,Jm e,Jm ej];simp only[Jm ej];obtain⟨q1,q2⟩:=C.l j hj hp;exact⟨q1,by rw[K2 (.inr (by omega))];exact q2⟩
 ·rw[cN];rcases hs e he with h|⟨h1,h2,h3,h4⟩
  ·obtain⟨ms,q1,q2,q3,q4⟩:=C.s e h;exact⟨ms,by rw[K2 q2];exact q1,q2.bump,q3,q4⟩
  ·refine⟨mo,?_,?_,h3,h4⟩
   ·rw[h1,h2,C.n k hk];exact self
   ·rw[h1,h2,C.n k hk];exact K7
 ·rw[cN];rw[e1,sr]at hb;rcases JK.mp hb with h|h
  ·exact up (C.b b h)
  ·unfold lj at h;rw[eh]at h;rcases JK.mp h with h|h
   ·cases r with
    |look=>cases h
    |send=>cases h
    |KC a v e l=>
     have ow:e<=mo/\mo<=l:=ow;simp only[fN,Jq,Kd,or_false]at h;rcases h with rfl|rfl
     ·exact⟨-1,0,_,_,_,0,mo,rfl,z',self,.inl (by decide),K7,by omega,by omega⟩
     ·exact⟨_,_,-1,0,_,mo,0,rfl,self,z',K7,.inl (by decide),by omega,by omega⟩
    |take a v x y=>
     obtain⟨ms,q1,q2,q3,q4⟩:=ow;have Rn:=(K2 q2).trans q1;simp only[fN,Jq]at h;rcases h with rfl|h
     ·exact⟨_,_,_,_,_,mo,ms,rfl,self,Rn,K7,q2.bump,λz=>nr q2 z.1.symm z.2.symm,by omega⟩
     ·cases em:(wOf wy x a).m with
      |none=>rw[em]at h;cases h
      |some m=>
       rw[em]at h;have:=q4 m em;rw[JB.mp h];exact⟨_,_,_,_,_,ms,mo,rfl,Rn,self,q2.bump,K7,λz=>nr q2 z.1 z.2,by omega⟩
   ·split at h
    ·rename_i hp;obtain⟨q1,q2⟩:=C.l k hk hp;have oc:Old (cF c00 (td.map Prod.fst)) k ((cF c00 (td.map Prod.fst) k:Int)-1):=.inr (by omega)
     have Ro:=(K2 oc).trans q2;have et:r.r-lF l00 (td.map Prod.fst) k=t:=by rw[er,q1];omega
     rw[et,Kl]at h;simp only[on,Jq,Kd,or_false]at h;rcases h with rfl|rfl
     ·exact⟨_,_,_,_,_,_,mo,rfl,Ro,self,oc.bump,K7,by omega,ck.2⟩
     ·exact⟨_,_,_,_,_,mo,_,rfl,self,Ro,K7,oc.bump,by omega,by rw[Int.neg_mul];omega⟩
    ·cases h
end
section
variable {cls b_ d_:Nat->PySem.Addr}{M0:MH}{n:Nat}{wy:List Wy}{e_:List (Int×Int)}{a b d:PySem.Addr}{td:List (Rw×Int)}{at_:List A3}{sn:List Ent}{Bd:Int}
noncomputable def tdD(p:Rw×Int):D:=.tup [p.1.d,.int p.2]
noncomputable def H3(M0:MH)(a b d:PySem.Addr)(at_:List A3)(sn:List Ent)(td:List (Rw×Int)):MH:=put (put (put M0 a (.lst (at_.map a3D))) b (.lst (sn.map Ent.d))) d (.lst (td.map tdD))
structure D3 (a b d:PySem.Addr):Prop where
 ab:a≠b
 ad:a≠d
 bd:b≠d
theorem D3.ga(h:D3 a b d):H3 M0 a b d at_ sn td a=some (.lst (at_.map a3D)):=by unfold H3;rw[af h.ad,af h.ab,ac]
theorem D3.gb(h:D3 a b d):H3 M0 a b d at_ sn td b=some (.lst (sn.map Ent.d)):=by unfold H3;rw[af h.bd,ac]
theorem D3.gd(h:D3 a b d):H3 M0 a b d at_ sn td d=some (.lst (td.map tdD)):=ac
theorem D3.sa(h:D3 a b d){x:List A3}:put (H3 M0 a b d at_ sn td) a (.lst (x.map a3D))=H3 M0 a b d x sn td:=lE h.ab h.ad
theorem D3.sb(h:D3 a b d){x:List Ent}:put (H3 M0 a b d at_ sn td) b (.lst (x.map Ent.d))=H3 M0 a b d at_ x td:=c5 h.bd
theorem D3.sd(h:D3 a b d){x:List (Rw×Int)}:put (H3 M0 a b d at_ sn td) d (.lst (x.map tdD))=H3 M0 a b d at_ sn x:=ba
theorem Fm.h3(h:Fm M0):Fm (H3 M0 a b d at_ sn td):=((h.put _ _).put _ _).put _ _
structure TB (H:Nat)(wy:List Wy)(Bd:Int) (td:List (Rw×Int)) (at_:List A3)(sn:List Ent):Prop where
 ta:TA H wy (td.map Prod.fst) at_ sn
 mo:∀x∈at_,(-Bd<=x.2.2/\x.2.2<=Bd)/\(-Bd<=x.2.1/\x.2.1<=Bd)
 sb:∀e∈sn,(-Bd<=e.lo/\e.lo<=Bd)/\inB Bd e.hi
noncomputable def tl:ISs->ISs
 |.cons _ r=>r
 |.nil=>.nil
noncomputable def jn:ISs:=tl (tl (tl (tl (tl (tl aF)))))
noncomputable def ig:ISs:=tl (tl (tl (tl jn)))
theorem jG{M:MH}{Q:VK3}{k:Nat}(ha:M a=some (.lst (at_.map a3D)))(h:k<at_.length):ao (.ref a) (.int (k:Nat)) M Q=Q (.tup [.int (a0 at_ k).1,.int (a0 at_ k).2.1,.int (a0 at_ k).2.2]) M:=by
 have e:(at_.map a3D)[k]?=some (a3D (a0 at_ k)):=by
  rw[Jz,JG h,a0,List.getD_eq_getElem?_getD,JG h];rfl
 rw[vY ha];exact j9 (bO e)
theorem ke{k:Nat}(h:k<at_.length):a0 at_ k∈at_:=by
 rw[a0,List.getD_eq_getElem?_getD,JG h];exact J9 h
theorem oQ{xs:List Int}{De:Ends3}{ES:St3->XN}{y0 y1 y2 y6 y9 y14 y15 y16 y17:Option D}{lt:D}{hd:Nat}{t f l:Int}(hl:xs.length=4)(hw:wy.length<=36)(A:D3 a b d)(hM:Fm M0)(hh:hd<at_.length)(hf:f<=l)
  (k:∀(mo:Int)(r:Rw),f<=mo->mo<=l->r.h=hd->r.r=(a0 at_ hd).2.1+t->r.s≠"take"->r.may wy->r.sg mo->
   aR ⟨(B cls b_ d_),aa T (B cls b_ d_) (n+1)⟩ ig De ES [y0,y1,y2,some (.g_ (e_.map cD)),some (.Kv (wy.map pr) (wy.map wv)),some (.ref a),y6,some (.ref b),some (.ref d),y9,some (.g_ (xs.map D.int)),some (.int hd),some lt,some (.tup [.int t,.int f,.int l]),y14,some (.int mo),some (.tup [.int hd,.int (a0 at_ hd).1]),some r.d] (H3 M0 a b d (at_.set hd ((a0 at_ hd).1+1,(a0 at_ hd).2.1+t,mo)) sn td)) :
  aR ⟨(B cls b_ d_),aa T (B cls b_ d_) (n+1)⟩ jn De ES [y0,y1,y2,some (.g_ (e_.map cD)),some (.Kv (wy.map pr) (wy.map wv)),some (.ref a),y6,some (.ref b),some (.ref d),y9,some (.g_ (xs.map D.int)),some (.int hd),some lt,some (.tup [.int t,.int f,.int l]),y14,y15,y16,y17] (H3 M0 a b d at_ sn td):=by
 have i2:∀{M:MH}{Q:VK3},ao (.g_ (xs.map D.int)) (.int 2) M Q=Q (.int (xs.getD 2 0)) M:=λ{M Q}=>aK (k:=2) (by omega)
 have i3:∀{M:MH}{Q:VK3},ao (.g_ (xs.map D.int)) (.int 3) M Q=Q (.int (xs.getD 3 0)) M:=λ{M Q}=>aK (k:=3) (by omega)
 generalize xs.getD 2 0=x2 at i2;generalize xs.getD 3 0=x3 at i3;have p0:0<l-f+1:=by omega
 have m0:=J6 (x2 / 4) (Int.ne_of_gt p0);have m1:=JW (x2 / 4) p0;obtain⟨mo,TK,mx⟩:=rG f l (f+x2 / 4 % (l-f+1)) (x3 / 16 % 3) (by omega) (by omega)
 obtain⟨r,r1,r2,r3,r4,r5,rx⟩:=Dy (cls:=cls) (b_:=b_) (d_:=d_) (wy:=wy) (h:=hd) (v:=(a0 at_ hd).2.1+t) (m:=mo) hl hw;have ia:=λ{Q:VK3}=>jG (Q:=Q) (A.ga (M0:=M0) (sn:=sn) (td:=td)) hh
 have hs:hd<(at_.set hd ((a0 at_ hd).1+1,(a0 at_ hd).2.1+t,mo)).length:=by simp;exact hh
 have es:a0 (at_.set hd ((a0 at_ hd).1+1,(a0 at_ hd).2.1+t,mo)) hd=((a0 at_ hd).1+1,(a0 at_ hd).2.1+t,mo):=by rw[a0,cy hh,Js rfl]
 have ib:=λ{Q:VK3}=>jG (Q:=Q) (A.ga (M0:=M0) (sn:=sn) (td:=td)) hs
 rw[es]at ib;have st:∀{R:MH->Prop},aE (.ref a) (.int (hd:Nat)) (.tup [.int ((a0 at_ hd).1+1),.int ((a0 at_ hd).2.1+t),.int mo]) (H3 M0 a b d at_ sn td) R=R (H3 M0 a b d (at_.set hd ((a0 at_ hd).1+1,(a0 at_ hd).2.1+t,mo)) sn td):=λ{R}=>by
  rw[tK (A.ga (M0:=M0) (sn:=sn) (td:=td)) (j:=hd) (by simp[ixN];omega),<-A.sa (at_:=at_) (x:=at_.set hd ((a0 at_ hd).1+1,(a0 at_ hd).2.1+t,mo)),List.map_set]
  rfl
 have k':=k mo r (by omega) (by omega) r1 r2 r3 r4 r5
 have SN:=λ{Q:VK3}{E:XN}=>rx (n:=n) (Q:=Q) (E:=E) (Fm.h3 (a:=a) (b:=b) (d:=d) (at_:=at_.set hd ((a0 at_ hd).1+1,(a0 at_ hd).2.1+t,mo)) (sn:=sn) (td:=td) hM)
 rw[show jn=.cons _ (.cons _ (.cons _ (.cons _ ig))) from rfl];simp[-List.getD_eq_getElem?_getD,↓i2,↓i3,p0,c9,↓mx,↓ia,↓st,↓ib,↓SN,au];exact k'
theorem TB.up{k:Nat}{t mo:Int}{H:Nat}{r:Rw}{Ky:List Ent}(tb:TB H wy Bd td at_ sn)(hk:k<H)(b0:0<=Bd)(t0:0<=t)(t3:t<=3*Bd)(h1 : -Bd<=mo)(h2:mo<=4*Bd)(ta:TA H wy (td.map Prod.fst++[r]) (at_.set k ((a0 at_ k).1+1,(a0 at_ k).2.1+t,mo)) Ky)
  (hs:∀e∈Ky,e∈sn\/((-Bd<=e.lo/\e.lo<=5*Bd)/\∀y,e.hi=some y->-Bd<=y/\y<=5*Bd)):TB H wy (5*Bd) (td++[(r,mo)]) (at_.set k ((a0 at_ k).1+1,(a0 at_ k).2.1+t,mo)) Ky:=by
 refine⟨by rw[J4];exact ta,λx hx=>?_,λe he=>?_⟩
 ·rcases List.mem_or_eq_of_mem_set hx with h|h
  ·have:=tb.mo x h;omega
  ·have:=(tb.mo _ (ke (at_:=at_) (k:=k) (by rw[tb.ta.la];exact hk))).2
   rw[h];simp only;omega
 ·rcases hs e he with h|h
  ·obtain⟨c1,c2⟩:=tb.sb e h;exact⟨by omega,λy hy=>by have:=c2 y hy;omega⟩
  ·exact⟨by omega,λy hy=>by have:=h.2 y hy;omega⟩
theorem vm{De:Ends3}{Z:St3}{r:Rw}{mo:Int}(A:D3 a b d)(hz:td.length<400):cJ d De Z (.tup [r.d,.int mo]) (H3 M0 a b d at_ sn td)=De.nx Z (H3 M0 a b d at_ sn (td++[(r,mo)])):=by
 have hs:td.length<PySem.sizeLine:=Jw (show td.length<1000 by omega) (by decide)
 rw[<-A.sd (td:=td) (x:=td++[(r,mo)])];simp[cJ,A.gd,hs,tdD]
theorem pX{W:WC}{e:IE}{De:Ends3}{E:XN}{Z:St3}{M:MH}{ds:List D}{p:PySem.Addr}(h:M p=some (.lst ds)):lf W e De E Z (.ref p) M=wpE W e Z M (cJ p De Z) E:=by
 simp[lf,h];exact Iff.rfl
theorem Gy{M:MH}{Q:VK3}{r:Rw}:ao r.d (.int 0) M Q=Q (.str r.s) M:=by cases r<;>simp[Rw.d,Rw.s]
theorem CJ{De:Ends3}{Z:St3}{e:Ent}(A:D3 a b d)(hz:sn.length<400):cJ b De Z e.d (H3 M0 a b d at_ sn td)=De.nx Z (H3 M0 a b d at_ (sn++[e]) td):=by
 have hs:sn.length<PySem.sizeLine:=Jw (show sn.length<1000 by omega) (by decide)
 rw[<-A.sb (sn:=sn) (x:=sn++[e])];simp[cJ,A.gb,hs]
theorem xo{De:Ends3}{ES:St3->XN}{y0 y1 y2 y6 y9 x_ y13 y14:Option D}{hd:Nat}{t mo:Int}{r:Rw}(G:GW e_ wy)(A:D3 a b d)(tb:TB e_.length wy Bd td at_ sn)(hh:hd<e_.length)(b0:10 ^ 43<=Bd)(z1:td.length<400)(z2:sn.length<400)(ht:0<=t)(t3:t<=3*Bd)(b1:Bd<=10 ^ 60)(m1 : -Bd<=mo)(m2:mo<=4*Bd)(r1:r.h=hd)(r2:r.r=(a0 at_ hd).2.1+t)(r3:r.s≠"take")(r4:r.may wy)(r5:r.sg mo)(tc:TC e_ wy td at_ sn)(ck:(k0 e_ hd).1*t<=mo-(a0 at_ hd).2.2/\mo-(a0 at_ hd).2.2<=(k0 e_ hd).2*t)
  (k:∀KH at' Ky,KH.length=td.length+1->Ky.length<=sn.length+1->TB e_.length wy (5*Bd) KH at' Ky->TC e_ wy KH at' Ky->∀y11 y12 y13 y14 y15 y16 y17,De.nx [y0,y1,y2,some (.g_ (e_.map cD)),some (.Kv (wy.map pr) (wy.map wv)),some (.ref a),y6,some (.ref b),some (.ref d),y9,x_,y11,y12,y13,y14,y15,y16,y17] (H3 M0 a b d at' Ky KH)) :
  aR ⟨(B cls b_ d_),aa T (B cls b_ d_) (n+1)⟩ ig De ES [y0,y1,y2,some (.g_ (e_.map cD)),some (.Kv (wy.map pr) (wy.map wv)),some (.ref a),y6,some (.ref b),some (.ref d),y9,x_,some (.int hd),some .i_,y13,y14,some (.int mo),some (.tup [.int hd,.int (a0 at_ hd).1]),some r.d] (H3 M0 a b d (at_.set hd ((a0 at_ hd).1+1,(a0 at_ hd).2.1+t,mo)) sn td):=by
 have mr:=(tb.mo _ (ke (at_:=at_) (k:=hd) (by rw[tb.ta.la];exact hh))).2
 have Mv:r.fine e_.length wy:=⟨by rw[r1];simp[okH,hh],r4,by rw[r2];omega⟩
 have s0:=λ{M:MH}{Q:VK3}=>Gy (M:=M) (Q:=Q) (r:=r)
 have ap:=λ{W:WC}{e:IE}{De:Ends3}{E:XN}{Z:St3}{at_:List A3}{sn:List Ent}=>pX (W:=W) (e:=e) (De:=De) (E:=E) (Z:=Z) (A.gd (M0:=M0) (at_:=at_) (sn:=sn) (td:=td))
 have tp:=λ{De:Ends3}{Z:St3}{at_:List A3}{sn:List Ent}=>vm (M0:=M0) (De:=De) (Z:=Z) (r:=r) (mo:=mo) (at_:=at_) (sn:=sn) A z1
 simp only[ig,jn,tl,aF];by_cases e:r.s = "send"
 ·cases r with
  |send h v to=>
   obtain rfl:h=(hd:Int):=r1;obtain rfl:v=(a0 at_ hd).2.1+t:=r2;have hm:[(hd:Int),to]∈wy.map pr:=r4;obtain⟨w,hw,ew⟩:=JM.mp hm;simp only[pr,List.cons.injEq,and_true]at ew;have g:=G.gd w hw;have ix:=λ{M:MH}{Q:VK3}=>uX (M:=M) (Q:=Q) G.nd hw
   rw[ew.1,ew.2]at ix;have gj:=g.j;rw[ew.2]at gj;simp only[okH,Jj,Ju]at gj;have gl:=g.l;simp only[mq,Bool.or_eq_false_iff,decide_eq_false_iff_not]at gl;obtain⟨l1,l2⟩:=G.sm w hw;have ta:=tb.ta.send (v:=(a0 at_ hd).2.1+t) (m:=mo) (e:=⟨hd,(a0 at_ hd).1,to,mo+w.l,w.m.map (mo+·)⟩) hh Mv gj.1 gj.2 rfl rfl;have:=k (td++[(.send hd ((a0 at_ hd).2.1+t) to,mo)]) _ _ (by simp) (by simp) (tb.up hh (by omega) ht t3 m1 m2 ta λe he=>by
    rcases JK.mp he with z|z
    ·exact .inl z
    ·refine .inr ?_;rw[JB.mp z];refine⟨by simp only;omega,λy hy=>?_⟩
     simp only at hy;cases em:w.m with
     |none=>rw[em]at hy;cases hy
     |some q=>
      rw[em]at hy gl;have q1:=l2 q em;have q2:¬ q<w.l:=of_decide_eq_false gl.2;simp only[Option.map,Option.some.injEq]at hy;omega) (tc.step (r:=.send hd ((a0 at_ hd).2.1+t) to) tb.ta.la hh rfl rfl trivial ck λe he=>by
    rcases JK.mp he with z|z
    ·exact .inl z
    ·refine .inr ?_;rw[JB.mp z];have ww:=wc G.nd hw;rw[ew.1,ew.2]at ww;exact⟨rfl,rfl,by simp only[ww],by simp only[ww]⟩)
   have sp:=λ{De:Ends3}{Z:St3}{at_:List A3}{e:Ent}=>CJ (M0:=M0) (De:=De) (Z:=Z) (at_:=at_) (td:=td) (e:=e) A z2
   have SO:=λ{W:WC}{e:IE}{De:Ends3}{E:XN}{Z:St3}{at_:List A3}=>pX (W:=W) (e:=e) (De:=De) (E:=E) (Z:=Z) (A.gb (M0:=M0) (at_:=at_) (sn:=sn) (td:=td))
   have cs:=λ{M:MH}{Q:VK3}{E:XN}=>AK (cls:=cls) (b_:=b_) (d_:=d_) (n:=n) (M:=M) (Q:=Q) (E:=E) (h:=hd) (k:=(a0 at_ hd).1) (v:=(a0 at_ hd).2.1+t) (t:=to) (mo:=mo) (l:=w.l) (a:=hd) (m:=w.m)
   simp only[Rw.d]at tp;simp only[wv,way]at ix;simp[-List.getD_eq_getElem?_getD,Rw.d,D.isN,↓ix,↓cs,↓SO,↓sp,↓ap,↓tp,au];exact this _ _ _ _ _ _ _
  |_=>exact absurd e (by simp +decide [Rw.s])
 ·have ta:=tb.ta.plain (v:=(a0 at_ hd).2.1+t) (m:=mo) hh Mv;have:=k (td++[(r,mo)]) _ _ (by simp) (by omega) (tb.up hh (by omega) ht t3 m1 m2 ta λe he=>.inl he) (tc.step tb.ta.la hh r1 r2 (Bq r3 r5) ck λe he=>.inl he)
  simp[-List.getD_eq_getElem?_getD,D.isN,↓s0,e,↓ap,↓tp,au];exact this _ _ _ _ _ _ _
theorem Cv{x e:Ent}(h:¬ (x.h=e.h/\x.k=e.k)):eqD x.d e.d=false:=by
 simp only[Ent.d,eqD,cH];by_cases h1:x.h=e.h
 ·have:¬ x.k=e.k:=λz=>h ⟨h1,z⟩
  simp[this]
 ·simp[h1]
theorem jP{e:Ent}{k:Nat}:plN (k+2) e.d=true:=by
 cases z:e.hi<;>simp[Ent.d,plN,oi,z]
theorem ra{e:Ent}{sn2:List Ent}:∀(K0:List Ent)(k0:Nat),(∀x∈K0,¬ (x.h=e.h/\x.k=e.k))->qo e.d ((K0++e::sn2).map Ent.d) k0=some (k0+K0.length)
 |[],k0,_=>by
  have:eqD e.d e.d=true:=gu 8 jP;simp[qo,this]
 |x::r,k0,h=>by
  simp only[List.cons_append,List.map_cons,qo];rw[Cv (h x Jo),Jm JH,ra r (k0+1) λy hy=>h y (Jk _ hy),Jx]
  congr 1;omega
theorem CP{e:Ent}{K0 sn2:List Ent}{Q:VK3}(A:D3 a b d)(h:∀x∈K0,¬ (x.h=e.h/\x.k=e.k)):rBm .remove (.ref b) [e.d] (H3 M0 a b d at_ (K0++e::sn2) td) Q=Q .i_ (H3 M0 a b d at_ (K0++sn2) td):=by
 have e1:res (H3 M0 a b d at_ (K0++e::sn2) td) e.d=e.d:=rfl;have e2:pls ((K0++e::sn2).map Ent.d)=true:=JD.mpr λx hx=>by
  obtain⟨y,_,rfl⟩:=JM.mp hx;exact jP
 have e3:=ra (sn2:=sn2) K0 0 h;have e4:((K0++e::sn2).map Ent.d).eraseIdx K0.length=(K0++sn2).map Ent.d:=by
  rw[J4,List.map_cons,List.eraseIdx_append_of_length_le (by simp)];simp
 rw[Nat.zero_add]at e3;simp only[rBm,A.gb,e1,e2,e3,e4,A.sb];rw[show pl e.d=true from jP];simp
theorem en0{M:MH}{Q:VK3}{e:Ent}:ao e.d (.int 0) M Q=Q (.tup [.int e.h,.int e.k]) M:=by simp[Ent.d]
theorem en1{M:MH}{Q:VK3}{e:Ent}:ao e.d (.int 1) M Q=Q (.int e.to) M:=by simp[Ent.d]
theorem en2{M:MH}{Q:VK3}{e:Ent}:ao e.d (.int 2) M Q=Q (.int e.lo) M:=by simp[Ent.d]
theorem en3{M:MH}{Q:VK3}{e:Ent}:ao e.d (.int 3) M Q=Q (oi e.hi) M:=by simp[Ent.d]
theorem vI{De:Ends3}{ES:St3->XN}{y0 y1 y2 y3 y4 y6 y9 x_ y13 y14 y16 y17:Option D}{hd:Nat}{t mo:Int}{e:Ent}{K0 sn2:List Ent}(A:D3 a b d)(tb:TB e_.length wy Bd td at_ (K0++e::sn2))(hh:hd<e_.length)(he:e.to=hd)(b0:0<=Bd)(z1:td.length<400)(ht:0<=t)(t3:t<=3*Bd)(b1:Bd<=10 ^ 60)(m1 : -Bd<=mo)(m2:mo<=4*Bd)(tc:TC e_ wy td at_ (K0++e::sn2))(ck:(k0 e_ hd).1*t<=mo-(a0 at_ hd).2.2/\mo-(a0 at_ hd).2.2<=(k0 e_ hd).2*t)(f1:e.lo<=mo)(f2:∀y,e.hi=some y->mo<=y)
  (k:∀KH at' Ky,KH.length=td.length+1->Ky.length<=(K0++e::sn2).length+1->TB e_.length wy (5*Bd) KH at' Ky->TC e_ wy KH at' Ky->∀y11 y12 y13 y14 y15 y16 y17,De.nx [y0,y1,y2,y3,y4,some (.ref a),y6,some (.ref b),some (.ref d),y9,x_,y11,y12,y13,y14,y15,y16,y17] (H3 M0 a b d at' Ky KH)) :
  aR ⟨(B cls b_ d_),aa T (B cls b_ d_) (n+1)⟩ ig De ES [y0,y1,y2,y3,y4,some (.ref a),y6,some (.ref b),some (.ref d),y9,x_,some (.int hd),some e.d,y13,y14,some (.int mo),y16,y17] (H3 M0 a b d (at_.set hd ((a0 at_ hd).1+1,(a0 at_ hd).2.1+t,mo)) (K0++e::sn2) td):=by
 have hl:hd<at_.length:=by rw[tb.ta.la];exact hh
 have mr:=(tb.mo _ (ke hl)).2;have un:=(tb.ta.un e (by simp)).1
 rw[he]at un;have Mv:(Rw.take hd ((a0 at_ hd).2.1+t) e.h e.k).fine e_.length wy:=⟨by simp[okH,Rw.h,hh],un,by simp only[Rw.r];omega⟩
 have nd:=tb.ta.nd;rw[J4,List.map_cons,List.nodup_append]at nd;have hn:∀x∈K0,¬ (x.h=e.h/\x.k=e.k):=λx hx z=>nd.2.2 (x.h,x.k) (JM.mpr ⟨x,hx,rfl⟩) (e.h,e.k) (by simp) (by rw[z.1,z.2])
 have ta:=tb.ta.take (v:=(a0 at_ hd).2.1+t) (m:=mo) hh Mv;have fin:=k (td++[(.take hd ((a0 at_ hd).2.1+t) e.h e.k,mo)]) _ _ (by simp) (by simp;omega) (tb.up hh b0 ht t3 m1 m2 ta λx hx=>.inl (by
  rcases JK.mp hx with z|z
  ·exact J8 _ z
  ·exact JL _ (Jk _ z))) (tc.step (r:=.take hd ((a0 at_ hd).2.1+t) e.h e.k) tb.ta.la hh rfl rfl (by
   obtain⟨ms,q1,q2,q3,q4⟩:=tc.s e (by simp)
   rw[he]at q3 q4;refine⟨ms,q1,q2,by omega,λm em=>?_⟩
   rw[em]at q4;exact f2 _ q4) ck λx hx=>.inl (by
  rcases JK.mp hx with z|z
  ·exact J8 _ z
  ·exact JL _ (Jk _ z)))
 have hs:hd<(at_.set hd ((a0 at_ hd).1+1,(a0 at_ hd).2.1+t,mo)).length:=by simp;exact hl
 have es:a0 (at_.set hd ((a0 at_ hd).1+1,(a0 at_ hd).2.1+t,mo)) hd=((a0 at_ hd).1+1,(a0 at_ hd).2.1+t,mo):=by rw[a0,cy hl,Js rfl]
 have ib:=λ{sn:List Ent}{Q:VK3}=>jG (Q:=Q) (A.ga (M0:=M0) (sn:=sn) (td:=td)) hs
 simp only[es]at ib;have ap:=λ{W:WC}{e:IE}{De:Ends3}{E:XN}{Z:St3}{at_:List A3}{sn:List Ent}=>pX (W:=W) (e:=e) (De:=De) (E:=E) (Z:=Z) (A.gd (M0:=M0) (at_:=at_) (sn:=sn) (td:=td))
 have tp:=λ{De:Ends3}{Z:St3}{al:List A3}{sn:List Ent}=>vm (M0:=M0) (De:=De) (Z:=Z) (r:=.take hd ((a0 at_ hd).2.1+t) e.h e.k) (mo:=mo) (at_:=al) (sn:=sn) A z1
 simp only[Rw.d]at tp;have ty:=λ{at_:List A3}{sn:List Ent}=>sv (A.gb (M0:=M0) (at_:=at_) (sn:=sn) (td:=td))
 have rm:=λ{at_:List A3}{Q:VK3}=>CP (M0:=M0) (at_:=at_) (td:=td) (sn2:=sn2) (Q:=Q) A hn
 have n0:e.d.isN=false:=rfl;have e0:=λ{M:MH}{Q:VK3}=>en0 (M:=M) (Q:=Q) (e:=e)
 simp only[ig,jn,tl,aF];simp[-List.getD_eq_getElem?_getD,n0,tyB,ty,↓rm,↓ib,↓e0,↓ap,↓tp,au];exact fin _ _ _ _ _ _ _
end
section
variable {cls b_ d_:Nat->PySem.Addr}{M0:MH}{n:Nat}{wy:List Wy}{e_:List (Int×Int)}{a b d:PySem.Addr}{td:List (Rw×Int)}{at_:List A3}{sn:List Ent}{Bd:Int}
noncomputable def vz:ISs:=tl (tl (tl aF))
theorem w6{M:MH}{Q:VK3}{k:Nat}(h:k<e_.length):ao (.g_ (e_.map cD)) (.int (k:Nat)) M Q=Q (.tup [.int (k0 e_ k).1,.int (k0 e_ k).2]) M:=by
 have e:(e_.map cD)[k]?=some (cD (k0 e_ k)):=by
  rw[Jz,JG h,k0,List.getD_eq_getElem?_getD,JG h];rfl
 exact j9 (bO e)
theorem zP{k:Nat}(G:GW e_ wy)(h:k<e_.length):1<=(k0 e_ k).1/\(k0 e_ k).1<=(k0 e_ k).2/\(k0 e_ k).2<=10 ^ 31:=by
 have hm:k0 e_ k∈e_:=by rw[k0,List.getD_eq_getElem?_getD,JG h];exact J9 h
 obtain⟨h1,h2⟩:=G.ck _ hm;simp only[mV,Bool.or_eq_false_iff,decide_eq_false_iff_not]at h1;exact⟨by omega,by omega,h2⟩
theorem wY{xs:List Int}{k:Nat}{lo hi:Option Int}(hx:3<=xs.length)(G:GW e_ wy)(tb:TB e_.length wy Bd td at_ sn)(h:k<e_.length)(b0:10 ^ 43<=Bd)(b1:Bd<=10 ^ 60)(hl:inB Bd lo)(hh:inB Bd hi) :
  ∃t f l:Int,0<=t/\t<=3*Bd/\(-Bd<=f/\f<=4*Bd)/\(-Bd<=l/\l<=4*Bd)/\(lo=none->hi=none->f<=l)/\LagR (k0 e_ k).1 (k0 e_ k).2 (a0 at_ k).2.2 t f l lo hi/\∀{n:Nat}{M:MH}{Q:VK3}{E:XN},aa T (B cls b_ d_) (n+1) 55 [.tup [.int (k0 e_ k).1,.int (k0 e_ k).2],.tup [.int (a0 at_ k).1,.int (a0 at_ k).2.1,.int (a0 at_ k).2.2],.g_ (xs.map D.int),oi lo,oi hi] M Q E=Q (.tup [.int t,.int f,.int l]) M:=by
 obtain⟨c1,c2,c3⟩:=zP G h;obtain⟨m1,m2⟩:=(tb.mo _ (ke (by rw[tb.ta.la];exact h))).1
 obtain⟨t,f,l,t1,t3,f1,l1,e,lr,cl⟩:=E8 (cls:=cls) (b_:=b_) (d_:=d_) (cnt:=(a0 at_ k).1) (rd:=(a0 at_ k).2.1) hx c1 c2 c3 b0 b1 m1 m2 hl hh;exact⟨t,f,l,t1,t3,f1,l1,e,lr,cl⟩
theorem Ds{xs:List Int}{De:Ends3}{ES:St3->XN}{y0 y1 y2 y6 y9 y12 y13 y14 y15 y16 y17:Option D}{hd:Nat}(hl:xs.length=4)(G:GW e_ wy)(A:D3 a b d)(hM:Fm M0)(tb:TB e_.length wy Bd td at_ sn)(tc:TC e_ wy td at_ sn)(hh:hd<e_.length)(b0:10 ^ 43<=Bd)(b1:Bd<=10 ^ 60)(z1:td.length<400)(z2:sn.length<400)
  (k:∀KH at' Ky,KH.length=td.length+1->Ky.length<=sn.length+1->TB e_.length wy (5*Bd) KH at' Ky->TC e_ wy KH at' Ky->∀x_ y11 y12 y13 y14 y15 y16 y17,De.nx [y0,y1,y2,some (.g_ (e_.map cD)),some (.Kv (wy.map pr) (wy.map wv)),some (.ref a),y6,some (.ref b),some (.ref d),y9,x_,y11,y12,y13,y14,y15,y16,y17] (H3 M0 a b d at' Ky KH)) :
  aR ⟨(B cls b_ d_),aa T (B cls b_ d_) (n+1)⟩ vz De ES [y0,y1,y2,some (.g_ (e_.map cD)),some (.Kv (wy.map pr) (wy.map wv)),some (.ref a),y6,some (.ref b),some (.ref d),y9,some (.g_ (xs.map D.int)),some (.int hd),y12,y13,y14,y15,y16,y17] (H3 M0 a b d at_ sn td):=by
 have la:=tb.ta.la;have i0:∀{M:MH}{Q:VK3},ao (.g_ (xs.map D.int)) (.int 0) M Q=Q (.int (xs.getD 0 0)) M:=λ{M Q}=>aK (k:=0) (by omega)
 have i3:∀{M:MH}{Q:VK3},ao (.g_ (xs.map D.int)) (.int 3) M Q=Q (.int (xs.getD 3 0)) M:=λ{M Q}=>aK (k:=3) (by omega)
 generalize xs.getD 0 0=x0 at i0;generalize xs.getD 3 0=x3 at i3;obtain⟨t,f,l,t1,t3,f1,l1,fl,lr,cl⟩:=wY (cls:=cls) (b_:=b_) (d_:=d_) (xs:=xs) (k:=hd) (lo:=none) (hi:=none) (by omega) G tb hh b0 b1 (λy e=>by cases e) (λy e=>by cases e)
 have fl:=fl rfl rfl;have O9:∀{M:MH}{Q:VK3}{E:XN},aa T (B cls b_ d_) (n+1) 55 [.tup [.int (k0 e_ hd).1,.int (k0 e_ hd).2],.tup [.int (a0 at_ hd).1,.int (a0 at_ hd).2.1,.int (a0 at_ hd).2.2],.g_ (xs.map D.int),.i_,.i_] M Q E=Q (.tup [.int t,.int f,.int l]) M:=cl;have ic:=λ{M:MH}{Q:VK3}=>w6 (M:=M) (Q:=Q) hh
 have ia:=λ{Q:VK3}=>jG (Q:=Q) (k:=hd) (A.ga (M0:=M0) (at_:=at_) (sn:=sn) (td:=td)) (by omega)
 have plain:∀y14,aR ⟨(B cls b_ d_),aa T (B cls b_ d_) (n+1)⟩ jn De ES [y0,y1,y2,some (.g_ (e_.map cD)),some (.Kv (wy.map pr) (wy.map wv)),some (.ref a),y6,some (.ref b),some (.ref d),y9,some (.g_ (xs.map D.int)),some (.int hd),some .i_,some (.tup [.int t,.int f,.int l]),y14,y15,y16,y17] (H3 M0 a b d at_ sn td):=λy14=>
  oQ hl G.w36 A hM (by omega) fl λmo r m1 m2 r1 r2 r3 r4 r5=>xo G A tb hh b0 z1 z2 t1 t3 b1 (by omega) (by omega) r1 r2 r3 r4 r5 tc ⟨by have:=lr.f0;omega,by have:=lr.l0;omega⟩ λKH at' Ky h1 h2 h3 h4=>k KH at' Ky h1 h2 h3 h4 _
 have nn:∀{Q:VK3},aI .NotEq (.ref b) (.g_ []) (H3 M0 a b d at_ sn td) Q=Q (.bl (!(sn.map Ent.d).isEmpty)) (H3 M0 a b d at_ sn td):=λ{Q}=>vt (by simp[am,A.gb]) (JD.mpr λx hx=>by
  obtain⟨y,_,rfl⟩:=JM.mp hx;exact jP) (JD.mpr λx hx=>by
  obtain⟨y,_,rfl⟩:=JM.mp hx;exact jP)
 rw[show vz=.cons _ (.cons _ (.cons _ jn)) from rfl];by_cases c1:4<x3 / 2 % 8
 ·by_cases c2:sn=[]
  ·subst c2;simp[-List.getD_eq_getElem?_getD,↓ic,↓ia,↓O9,↓i3,c9,c1,↓nn];exact plain _
  ·have lp:0<sn.length:=List.length_pos_iff.mpr c2;have L4:(0:Int)<sn.length:=by omega
   obtain⟨j,hj⟩:=Kf (J6 (x0 / 7) (Int.ne_of_gt L4));have jl:j<sn.length:=by have:=JW (x0 / 7) L4;omega
   have lb:∀{Q:VK3},rBi .len [.ref b] (H3 M0 a b d at_ sn td) Q=Q (.int sn.length) (H3 M0 a b d at_ sn td):=λ{Q}=>by simp[rBi,ax,am,A.gb]
   have xb:∀{Q:VK3},ao (.ref b) (.int (j:Nat)) (H3 M0 a b d at_ sn td) Q=Q (sn[j]).d (H3 M0 a b d at_ sn td):=λ{Q}=>by
    rw[vY A.gb];exact j9 (bO (by simp[jl]))
   have hm:sn[j]∈sn:=J9 jl;generalize sn[j]=e at xb hm;obtain⟨_,e0,eH⟩:=tb.ta.un e hm;obtain⟨⟨TL,TN⟩,ein⟩:=tb.sb e hm;obtain⟨g,hg⟩:=Kf e0;have gH:g<e_.length:=by omega
   obtain⟨t',f',l',SQ,SR,TQ,TR,_,O_,cn⟩:=wY (cls:=cls) (b_:=b_) (d_:=d_) (xs:=xs) (k:=g) (lo:=some e.lo) (hi:=e.hi) (by omega) G tb gH b0 b1 (λy z=>by cases z;omega) ein
   have Rp:∀{M:MH}{Q:VK3}{E:XN},aa T (B cls b_ d_) (n+1) 55 [.tup [.int (k0 e_ g).1,.int (k0 e_ g).2],.tup [.int (a0 at_ g).1,.int (a0 at_ g).2.1,.int (a0 at_ g).2.2],.g_ (xs.map D.int),.int e.lo,oi e.hi] M Q E=Q (.tup [.int t',.int f',.int l']) M:=cn;have q1:∀{M:MH}{Q:VK3},ao e.d (.int 1) M Q=Q (.int (g:Nat)) M:=λ{M Q}=>by rw[en1,hg]
   have q2:=λ{M:MH}{Q:VK3}=>en2 (M:=M) (Q:=Q) (e:=e)
   have q3:=λ{M:MH}{Q:VK3}=>en3 (M:=M) (Q:=Q) (e:=e)
   have Rq:=λ{M:MH}{Q:VK3}=>w6 (M:=M) (Q:=Q) gH
   have Rr:=λ{Q:VK3}=>jG (Q:=Q) (k:=g) (A.ga (M0:=M0) (at_:=at_) (sn:=sn) (td:=td)) (by omega)
   by_cases c3:l' < f'
   ·simp[-List.getD_eq_getElem?_getD,↓ic,↓ia,↓O9,↓i3,↓i0,c9,c1,↓nn,c2,↓lb,lp,L4,hj,↓xb,↓q1,↓q2,↓q3,↓Rq,↓Rr,↓Rp,c3];exact plain _
   ·simp[-List.getD_eq_getElem?_getD,↓ic,↓ia,↓O9,↓i3,↓i0,c9,c1,↓nn,c2,↓lb,lp,L4,hj,↓xb,↓q1,↓q2,↓q3,↓Rq,↓Rr,↓Rp,c3];obtain⟨K0,sn2,rfl⟩:=List.append_of_mem hm;exact oQ hl G.w36 A hM (by omega) (by omega) λmo r m1 m2 r1 r2 r3 r4 r5=>vI A tb gH hg (by omega) z1 SQ SR b1 (by omega) (by omega) tc ⟨by have:=O_.f0;omega,by have:=O_.l0;omega⟩ (by have:=O_.fl _ rfl;omega) (λy hy=>by have:=O_.lh y hy;omega) λKH at' Ky h1 h2 h3 h4=>k KH at' Ky h1 h2 h3 h4 _
 ·simp[-List.getD_eq_getElem?_getD,↓ic,↓ia,↓O9,↓i3,c9,c1];exact plain _
theorem mj{c:Int}{De:Ends3}{ES:St3->XN}{y0 y1 y2 y6 x_ y11 y12 y13 y14 y15 y16 y17:Option D}(G:GW e_ wy)(A:D3 a b d)(hM:Fm M0)(tb:TB e_.length wy Bd td at_ sn)(tc:TC e_ wy td at_ sn)(b0:10 ^ 43<=Bd)(b1:Bd<=10 ^ 60)(z1:td.length<400)(z2:sn.length<400)
  (k:∀KH at' Ky,KH.length=td.length+1->Ky.length<=sn.length+1->TB e_.length wy (5*Bd) KH at' Ky->TC e_ wy KH at' Ky->∀x_ y11 y12 y13 y14 y15 y16 y17,De.nx [y0,y1,y2,some (.g_ (e_.map cD)),some (.Kv (wy.map pr) (wy.map wv)),some (.ref a),y6,some (.ref b),some (.ref d),some (.int c),x_,y11,y12,y13,y14,y15,y16,y17] (H3 M0 a b d at' Ky KH)) :
  aR ⟨(B cls b_ d_),aa T (B cls b_ d_) (n+1)⟩ aF De ES [y0,y1,y2,some (.g_ (e_.map cD)),some (.Kv (wy.map pr) (wy.map wv)),some (.ref a),y6,some (.ref b),some (.ref d),some (.int c),x_,y11,y12,y13,y14,y15,y16,y17] (H3 M0 a b d at_ sn td):=by
 have fm:Fm (H3 M0 a b d at_ sn td):=Fm.h3 hM;have st:∀{Q:VK3}{E:XN},aa T (B cls b_ d_) (n+1) 51 [.int c,.int 4] (H3 M0 a b d at_ sn td) Q E=Q (.g_ ((aM c 4).map D.int)) (H3 M0 a b d at_ sn td):=λ{Q E}=>eL (m:=4) fm (by omega)
 have hl:(aM c 4).length=4:=bL;generalize aM c 4=xs at st hl;have i0:∀{M:MH}{Q:VK3},ao (.g_ (xs.map D.int)) (.int 0) M Q=Q (.int (xs.getD 0 0)) M:=λ{M Q}=>aK (k:=0) (by omega)
 have i3:∀{M:MH}{Q:VK3},ao (.g_ (xs.map D.int)) (.int 3) M Q=Q (.int (xs.getD 3 0)) M:=λ{M Q}=>aK (k:=3) (by omega)
 generalize xs.getD 0 0=x0 at i0;generalize xs.getD 3 0=x3 at i3;have la:=tb.ta.la;have l1:=G.l1;have l6:=G.l6;have lp:0<e_.length:=by omega
 have L4:(0:Int)<e_.length:=by omega
 obtain⟨j,hj⟩:=Kf (J6 x0 (Int.ne_of_gt L4));have jl:j<e_.length:=by have:=JW x0 L4;omega
 have go:∀{hd:Nat},hd<e_.length->_:=λ{hd} hh=>Ds (cls:=cls) (b_:=b_) (d_:=d_) (n:=n) (De:=De) (ES:=ES) (y0:=y0) (y1:=y1) (y2:=y2) (y6:=y6) (y9:=some (.int c)) (y12:=y12) (y13:=y13) (y14:=y14) (y15:=y15) (y16:=y16) (y17:=y17) hl G A hM tb tc hh b0 b1 z1 z2 k
 rw[show aF=.cons _ (.cons _ (.cons _ vz)) from rfl];by_cases c1:x3 % 2=0
 ·obtain⟨g,m,hg,cb⟩:=Ca (at_:=at_) fm A.ga (by omega) (by omega)
  have ga:=A.ga (M0:=M0) (at_:=at_) (sn:=sn) (td:=td);simp[↓st,↓i0,↓i3,lp,L4,hj,c1,ga,aL,↓cb];exact go (by omega)
 ·simp[↓st,↓i0,↓i3,lp,L4,hj,c1];exact go jl
theorem me{De:Ends3}{ES:St3->XN}{y0 y1 y2 y6:Option D}(G:GW e_ wy)(A:D3 a b d)(hM:Fm M0):∀(cs:List Int)(Bd:Int) (td:List (Rw×Int)) (at_:List A3)(sn:List Ent)(y9 x_ y11 y12 y13 y14 y15 y16 y17:Option D),10 ^ 43<=Bd->Bd*5 ^ cs.length<=10 ^ 60->td.length+cs.length<=300->sn.length+cs.length<=300->TB e_.length wy Bd td at_ sn->TC e_ wy td at_ sn->
  (∀(KH:List (Rw×Int)) at' Ky,(∀r∈KH.map Prod.fst,r.fine e_.length wy)->TC e_ wy KH at' Ky->KH.length=td.length+cs.length->∀y9 x_ y11 y12 y13 y14 y15 y16 y17,De.nx [y0,y1,y2,some (.g_ (e_.map cD)),some (.Kv (wy.map pr) (wy.map wv)),some (.ref a),y6,some (.ref b),some (.ref d),y9,x_,y11,y12,y13,y14,y15,y16,y17] (H3 M0 a b d at' Ky KH))->
  aJ ⟨(B cls b_ d_),aa T (B cls b_ d_) (n+1)⟩ (.name 9) aF ES (λ_=>True) De (cs.map D.int) [y0,y1,y2,some (.g_ (e_.map cD)),some (.Kv (wy.map pr) (wy.map wv)),some (.ref a),y6,some (.ref b),some (.ref d),y9,x_,y11,y12,y13,y14,y15,y16,y17] (H3 M0 a b d at_ sn td)
 |[],Bd,td,at_,sn,y9,x_,y11,y12,y13,y14,y15,y16,y17,b0,b1,z1,z2,tb,tc,k=>by
  rw[List.map_nil,aS];exact⟨trivial,k td at_ sn tb.ta.f tc (by simp) _ _ _ _ _ _ _ _ _⟩
 |c::cs,Bd,td,at_,sn,y9,x_,y11,y12,y13,y14,y15,y16,y17,b0,b1,z1,z2,tb,tc,k=>by
  simp only[Jx]at z1 z2 k b1;have p1:(1:Int)<=5 ^ cs.length:=by have:(0:Int)<5 ^ cs.length:=Int.pow_pos (by decide);omega
  have e5:Bd*5 ^ (cs.length+1)=5*Bd*5 ^ cs.length:=by rw[Int.pow_succ,Int.mul_comm (5 ^ cs.length) 5,<-Int.mul_assoc,Int.mul_comm Bd 5]
  rw[e5]at b1;have b2:5*Bd<=5*Bd*5 ^ cs.length:=by
   have:=Int.mul_le_mul_of_nonneg_left (c:=5*Bd) p1 (by omega)
   rwa [Int.mul_one]at this
  have b3:=Int.le_trans b2 b1;rw[List.map_cons,ar];refine⟨trivial,?_⟩;rw[yg];refine mj G A hM tb tc b0 (by omega) (by omega) (by omega) λKH at' Ky h1 h2 h3 h4 x_ y11 y12 y13 y14 y15 y16 y17=>?_
  exact me G A hM cs (5*Bd) KH at' Ky _ _ _ _ _ _ _ _ _ (by omega) b1 (by omega) (by omega) h3 h4 λSS a2 s2 f2 g2 l2=>k SS a2 s2 f2 g2 (by omega)
theorem re{W:WC}{De:Ends3}{ES:St3->XN}{y0 y2 y3 y4:Option D}{ys:List (Option D)}{st:Int}:∀(xs:List Int)(at_:List A3)(y6:Option D),at_.length+xs.length<400->
  (∀y6,De.nx (y0::some (.int st)::y2::y3::y4::some (.ref a)::y6::ys) (put M0 a (.lst ((at_++xs.map λx=>(0,x % 1000000000000-100000000000,st % 1000000000000-100000000000)).map a3D))))->
  aJ W (.name 6) cT ES (λ_=>True) De (xs.map D.int) (y0::some (.int st)::y2::y3::y4::some (.ref a)::y6::ys) (put M0 a (.lst (at_.map a3D)))
 |[],at_,y6,hl,hR=>by
  rw[List.map_nil,aS];have:=hR y6;rw[List.map_nil,J0]at this;exact⟨trivial,this⟩
 |x::xs,at_,y6,hl,hR=>by
  simp only[Jx]at hl;have hs:at_.length<PySem.sizeLine:=Jw (show at_.length<1000 by omega) (by decide)
  have ih:=re (W:=W) (De:=De) (ES:=ES) (y0:=y0) (y2:=y2) (y3:=y3) (y4:=y4) (ys:=ys) xs (at_++[(0,x % 1000000000000-100000000000,st % 1000000000000-100000000000)]) (some (.int x)) (by simp;omega) (λy6=>by
   have:=hR y6;simpa using this)
  rw[List.map_cons,ar];simp only[cT]at ih ⊢;simp[kN,hs,au];simpa [a3D] using ih
theorem D4{M:MH}(ha:M a=none)(hb:M b=none)(hd:M d=none):av M (del (H3 M a b d at_ sn td) d)=M:=by
 funext k;unfold av del H3 put;by_cases k1:k=d
 ·subst k1;simp[hd]
 ·by_cases k2:k=b
  ·subst k2;simp[hb]
  ·by_cases k3:k=a
   ·subst k3;simp[ha]
   ·simp[k1,k2,k3];cases M k<;>rfl
theorem A9{M:MH}{Q:VK3}{E:XN}{st:Int}{cs:List Int}(G:GW e_ wy)(hM:Fm M)(hl:cs.length<=16)(k:∀td:List (Rw×Int),(∀r∈td.map Prod.fst,r.fine e_.length wy)->(∃at_ sn,TC e_ wy td at_ sn)->td.length<=16->Q (.g_ (td.map tdD)) M) :
  aa T (B cls b_ d_) (n+2) 58 [.tup [.g_ (e_.map cD),.Kv (wy.map pr) (wy.map wv)],.int st,.g_ (cs.map D.int)] M Q E:=by
 have l1:=G.l1;have l6:=G.l6;have sm:∀{M:MH}{Q:VK3}{E:XN},Fm M->aa T (B cls b_ d_) (n+1) 51 [.int st,.int (e_.length:Nat)] M Q E=Q (.g_ ((aM st e_.length).map D.int)) M:=λ{M Q E} fm=>eL fm (by omega)
 have sl:(aM st e_.length).length=e_.length:=bL;generalize aM st e_.length=xs at sm sl;simp only[qV,fZ];simp[hZ];intro a ha;simp[sm (hM.put _ _)];refine re (M0:=M) xs [] none (by simp;omega) λy6=>?_
 simp[-List.map_map];intro b hb d hd;obtain⟨Oy,hb⟩:=bW hb;obtain⟨KU,hd⟩:=bW hd;obtain⟨Oz,hd⟩:=bW hd;have A:D3 a b d:=⟨JA Oy,JA Oz,JA KU⟩;generalize Nz:(xs.map λx=>((0:Int),x % 1000000000000-100000000000,st % 1000000000000-100000000000))=at_
 have tb:TB e_.length wy (10 ^ 43) [] at_ []:=by
  have QE:∀x∈at_,(-(10 ^ 43)<=x.2.2/\x.2.2<=10 ^ 43)/\(-(10 ^ 43)<=x.2.1/\x.2.1<=10 ^ 43):=λx hx=>by
   rw[<-Nz]at hx;obtain⟨y,_,rfl⟩:=JM.mp hx;exact⟨by simp only;omega,by simp only;omega⟩
  have la:at_.length=e_.length:=by rw[<-Nz];simp[sl]
  refine⟨⟨λr hr=>(by cases hr),la,λe he=>(by cases he),λe he=>(by cases he),by simp⟩,QE,λe he=>by cases he⟩
 have tc:TC e_ wy [] at_ []:=⟨rfl,λk hk=>(by
   have hz:∀x∈at_,x.1=0:=λx hx=>by rw[<-Nz]at hx;obtain⟨y,_,rfl⟩:=JM.mp hx;rfl
   exact hz _ (ke (by rw[tb.ta.la];exact hk))),λk hk h=>(by cases h),λe he=>(by cases he),λb hb=>(by cases hb)⟩
 refine me (M0:=M) G A hM cs (10 ^ 43) [] at_ [] none none none none none none none none none (by omega) ?_ (by simp;omega) (by simp;omega) tb tc λKH at' Ky f g l y9 x_ y11 y12 y13 y14 y15 y16 y17=>?_
 ·have:(5:Int) ^ cs.length<=5 ^ 16:=by
   have:=Int.ofNat_le.mpr (Nat.pow_le_pow_right (show 5 > 0 by decide) hl)
   rw[Int.natCast_pow,Int.natCast_pow]at this;exact this
  have:=Int.mul_le_mul_of_nonneg_left (c:=(10:Int) ^ 43) this (by decide)
  exact Int.le_trans this (by decide)
 ·have:=k KH f ⟨_,_,g⟩ (by simpa [l] using hl)
  simp[aX,A.gd,D4 ha hb hd];exact this
end
section
variable {cls b_ d_:Nat->PySem.Addr}{M:MH}{Q:VK3}{E:XN}{n:Nat}{p d:PySem.Addr}{e_:List (Int×Int)}{wy:List Wy}{r:Rw}
theorem cx{i:Int}(h:okH e_.length i=true):aa T (B cls b_ d_) (n+3) 43 [wO b_ e_ wy,.int i] M Q E=Q .i_ M:=by rw[jS,Js h]
theorem vq{i:Int}(h:okH e_.length i=true):aa T (B cls b_ d_) (n+4) 48 [wO b_ e_ wy,.int i] M Q E=Q (.tup [.int (k0 e_ i.toNat).1,.int (k0 e_ i.toNat).2]) M:=by
 have om:∀{M:MH}{R:Nat->Prop},cj (B cls b_ d_) 119080781550527859766002 (wO b_ e_ wy) M R=R 43:=λ{M R}=>o_m (by decide) (by decide) (by decide)
 have rh:=λ{M:MH}{Q:VK3}{E:XN}=>cx (cls:=cls) (b_:=b_) (d_:=d_) (n:=n) (M:=M) (Q:=Q) (E:=E) (e_:=e_) (wy:=wy) h
 simp only[okH,Jj,Ju]at h;obtain⟨k,rfl⟩:=Kf h.1;have ix:=λ{M:MH}{Q:VK3}=>w6 (M:=M) (Q:=Q) (e_:=e_) (k:=k) (by omega)
 simp only[kZ,cS];simp[-List.getD_eq_getElem?_getD,↓om,↓rh,↓o_c,↓ix]
theorem CO{w:Wy}(hg:w.good e_.length)(hn:(wy.map pr).Nodup)(hk:w∈wy):aa T (B cls b_ d_) (n+5) 49 [wO b_ e_ wy,.int w.i,.int w.j] M Q E=Q (way w.l w.m) M:=by
 have om:∀{M:MH}{R:Nat->Prop},cj (B cls b_ d_) 119080781550527859766002 (wO b_ e_ wy) M R=R 43:=λ{M R}=>o_m (by decide) (by decide) (by decide)
 have op:∀{M:MH}{R:Nat->Prop},cj (B cls b_ d_) 135562951883986971505394 (wO b_ e_ wy) M R=R 44:=λ{M R}=>o_m (by decide) (by decide) (by decide)
 have oh:∀{M:MH}{R:Nat->Prop},cj (B cls b_ d_) 535528667410664 (wO b_ e_ wy) M R=R 47:=λ{M R}=>o_m (by decide) (by decide) (by decide)
 have r1:=λ{M:MH}{Q:VK3}{E:XN}=>cx (cls:=cls) (b_:=b_) (d_:=d_) (n:=n) (M:=M) (Q:=Q) (E:=E) (e_:=e_) (wy:=wy) hg.i
 have r2:=λ{M:MH}{Q:VK3}{E:XN}=>cx (cls:=cls) (b_:=b_) (d_:=d_) (n:=n) (M:=M) (Q:=Q) (E:=E) (e_:=e_) (wy:=wy) hg.j
 have rp:∀{M:MH}{Q:VK3}{E:XN},aa T (B cls b_ d_) (n+4) 44 [wO b_ e_ wy,.int w.i,.int w.j] M Q E=Q .i_ M:=λ{M Q E}=>by
  simp only[b9,aO];simp[↓om,↓r1,↓r2,hg.ne]
 have hw:=λ{M:MH}{Q:VK3}{E:XN}=>pW (cls:=cls) (b_:=b_) (d_:=d_) (n:=n+3) (M:=M) (Q:=Q) (E:=E) (e_:=e_) (wy:=wy) (i:=w.i) (j:=w.j)
 have hm:[w.i,w.j]∈wy.map pr:=JM.mpr ⟨w,hk,rfl⟩;have ix:=λ{M:MH}{Q:VK3}=>uX (M:=M) (Q:=Q) hn hk
 simp only[n9,eQ];simp[↓op,↓rp,↓oh,↓hw,hm,↓o_w,↓ix,wv,au]
noncomputable abbrev mO:Nat:=1067955986548848835567
theorem Ev{hd:D}(G:GW e_ wy)(hr:r.may wy)(hM:Fm M):cj (B cls b_ d_) mO (r.o b_) M (λf=>aa T (B cls b_ d_) (n+6) f [r.o b_,wO b_ e_ wy,hd] M Q E)=Q (.g_ (fN wy hd r)) M:=by
 cases r with
 |look a b=>simp[Rw.o,mO,gF,g6,bq,fN]
 |KC a b c d=>simp[Rw.o,mO,gF,f9,be,au,fN]
 |send a b c=>simp[Rw.o,mO,gF,gA,bx,fN]
 |take a b c d=>
  obtain⟨w1,w2,w3⟩:=BP (show [c,a]∈wy.map pr from hr);have om:∀{R:Nat->Prop},cj (B cls b_ d_) 1994999 (wO b_ e_ wy) M R=R 49:=λ{R}=>o_m (by decide) (by decide) (by decide)
  have ws:=λ{Q:VK3}{E:XN}=>CO (cls:=cls) (b_:=b_) (d_:=d_) (n:=n) (M:=M) (Q:=Q) (E:=E) (G.gd _ w1) G.nd w1
  rw[w2,w3]at ws;simp only[fN];cases e:(wOf wy c a).m with
  |none=>
   simp[Rw.o,mO,gF,cO,aW,↓om,↓ws,way,oi,e,au];exact iff_of_eq (aC hM λp hp=>by simp[eR hp,hp])
  |some m=>
   simp[Rw.o,mO,gF,cO,aW,↓om,↓ws,way,oi,e,au];exact iff_of_eq (aC hM λp hp=>by simp[eR hp,hp,Fb])
theorem rQ{hd:D}:(fN wy hd r).length<=2:=by
 cases r with
 |take h v a b=>simp only[fN];split<;>simp
 |_=>simp[fN]
theorem yF{c:Int->Nat}{lr:Int->Int}:(lj e_ wy c lr r).length<=4:=by
 unfold lj;rw[JR];have:=rQ (wy:=wy) (r:=r) (hd:=.tup [.int r.h,.int (c r.h)]);split<;>simp[on]<;>omega
theorem Fl{ks:List (List Int)}{ds:List D}{i j:Int}(h:M d=some (.dt ks ds)):aI .In (.tup [.int i,.int j]) (.ref d) M Q=Q (.bl (getD ks ds [i,j]).isSome) M:=by
 simp[aI,jq,ax,am,h,d7,dZ,cI,g5,bz]
theorem Fh{ks:List (List Int)}{ds:List D}{i j:Int}{v:D}(h:M d=some (.dt ks ds))(hv:getD ks ds [i,j]=some v):ao (.ref d) (.tup [.int i,.int j]) M Q=Q v M:=by
 simp[ao,ax,am,h,d7,dZ,cI,g5,bz,hv]
theorem wj{ds es:List D}{p d:PySem.Addr}{o:DO}(Nn:p≠d)(hz:ds.length+es.length<1000):rBm .extend (.ref p) [.g_ es] (put (put M p (.lst ds)) d o) Q=Q .i_ (put (put M p (.lst (ds++es))) d o):=by
 have h:(put (put M p (.lst ds)) d o) p=some (.lst ds):=by rw[af Nn,ac]
 have hs:ds.length+es.length<=PySem.sizeLine:=JF (show ds.length+es.length<=1000 by omega) (by decide)
 simp[rBm,h,am,hs,c5 Nn]
structure BI (ks:List (List Int)) (ds:List D)(c:Int->Nat)(lr:Int->Int):Prop where
 hl:ks.length=ds.length
 i1:∀h,getD ks ds [h,-1]=none
 i2:∀h,0<c h->getD ks ds [h,(c h:Int)-1]=some (.int (lr h))
 lb:∀h,-(10 ^ 62)<=lr h/\lr h<=10 ^ 62
theorem BI.step{ks:List (List Int)}{ds:List D}{c:Int->Nat}{lr:Int->Int}{h v:Int}(I:BI ks ds c lr)(hv : -(10 ^ 62)<=v/\v<=10 ^ 62):BI (ai ks [h,(c h:Int)]) (aq ks ds [h,(c h:Int)] (.int v)) (bump c h) (nxt lr h v):=by
 refine⟨cr I.hl,λx=>?_,λx hx=>?_,λx=>?_⟩
 ·rw[cB I.hl,Jm (λz=>by simp only[List.cons.injEq,and_true]at z;omega)];exact I.i1 x
 ·rw[cB I.hl];unfold bump nxt at *
  by_cases e:x=h
  ·subst e;simp
  ·rw[Jm e]at hx ⊢;rw[Jm (λz=>by simp only[List.cons.injEq,and_true]at z;exact e z.1.symm),Jm e]
   exact I.i2 x hx
 ·unfold nxt;split
  ·exact hv
  ·exact I.lb x
theorem si(G:GW e_ wy)(hM:Fm M)(Nn:p≠d){S:MH->Prop}(hS:∀acc ks ds,S (put (put M p (.lst acc)) d (.dt ks ds))){De:Ends3}{ES:St3->XN}{x1:Option D}:∀(f_:List Rw)(c:Int->Nat)(lr:Int->Int)(acc:List D) (ks:List (List Int)) (ds:List D)(x4 x5 x6 x7:Option D),BI ks ds c lr->ks.length+f_.length<400->acc.length+4*f_.length<900->(∀r∈f_,r.fine e_.length wy)->
  (∀KP F_ x4 x5 x6 x7,De.nx [some (wO b_ e_ wy),x1,some (.ref p),some (.ref d),x4,x5,x6,x7] (put (put M p (.lst (acc++bdF e_ wy c lr f_))) d (.dt KP F_)))->
  aJ ⟨(B cls b_ d_),aa T (B cls b_ d_) (n+6)⟩ (.tup [4,5]) cK ES S De (gL ((nmF (f_.map Rw.h) c).map nD) (f_.map Rw.d)) [some (wO b_ e_ wy),x1,some (.ref p),some (.ref d),x4,x5,x6,x7] (put (put M p (.lst acc)) d (.dt ks ds))
 |[],c,lr,acc,ks,ds,x4,x5,x6,x7,I,z1,z2,hf,hR=>by
  have:=hR ks ds x4 x5 x6 x7;rw[bdF,J0]at this;show aJ _ _ _ _ _ _ [] _ _;rw[aS];exact⟨hS _ _ _,this⟩
 |r::f_,c,lr,acc,ks,ds,x4,x5,x6,x7,I,z1,z2,hf,hR=>by
  simp only[Jx]at z1 z2;have f:=hf r Jo;have fm:∀{acc ks ds},Fm (put (put M p (.lst acc)) d (.dt ks ds)):=λ{_ _ _}=>(hM.put _ _).put _ _
  have gp:∀{acc ks ds},(put (put M p (.lst acc)) d (.dt ks ds)) p=some (.lst acc):=λ{_ _ _}=>by rw[af Nn,ac]
  have l1:=rQ (wy:=wy) (r:=r) (hd:=.tup [.int r.h,.int (c r.h)]);have k1:=bh (ks:=ks) (k:=[r.h,(c r.h:Int)]);have ol:=yF (e_:=e_) (wy:=wy) (c:=c) (lr:=lr) (r:=r);have nx:=si G hM Nn hS (De:=De) (ES:=ES) (x1:=x1) f_ (bump c r.h) (nxt lr r.h r.r) (acc++lj e_ wy c lr r) (ai ks [r.h,(c r.h:Int)]) (aq ks ds [r.h,(c r.h:Int)] (.int r.r)) (some (.tup [.int r.h,.int (c r.h)])) (some r.d) (some (r.o b_)) (some (.tup [.int r.h,.int ((c r.h:Int)-1)])) (I.step f.b) (by omega) (by rw[JR];omega) (λx hx=>hf x (Jk _ hx)) (λKP F_ x4 x5 x6 x7=>by
   rw[List.append_assoc];exact hR KP F_ x4 x5 x6 x7)
  have ch:=λ{acc:List D}{Q:VK3}{E:XN}=>oV (cls:=cls) (b_:=b_) (d_:=d_) (n:=n+2) (Q:=Q) (E:=E) r (fm (acc:=acc) (ks:=ks) (ds:=ds))
  have co:=λ{acc:List D}{Q:VK3}{E:XN}=>Ev (cls:=cls) (b_:=b_) (d_:=d_) (n:=n) (Q:=Q) (E:=E) (hd:=.tup [.int r.h,.int (c r.h)]) G f.w (fm (acc:=acc) (ks:=ks) (ds:=ds))
  have ty:=λ{acc:List D}=>sv (gp (acc:=acc) (ks:=ks) (ds:=ds))
  have oh:=λ{M:MH}{Q:VK3}=>A5 (cls:=cls) (d_:=d_) (b_:=b_) (M:=M) (Q:=Q) (r:=r)
  have or:=λ{M:MH}{Q:VK3}=>Bc (cls:=cls) (d_:=d_) (b_:=b_) (M:=M) (Q:=Q) (r:=r)
  have e1:=λ{Q:VK3}=>wj (M:=M) (Q:=Q) (ds:=acc) (es:=fN wy (.tup [.int r.h,.int (c r.h)]) r) (o:=.dt ks ds) Nn (by omega)
  have ia:=λ{acc:List D}{Q:VK3}=>Fl (Q:=Q) (i:=r.h) (j:=(c r.h:Int)-1) (ac (M:=put M p (.lst acc)) (a:=d) (o:=.dt ks ds))
  have st:∀{acc:List D}{R:MH->Prop},aE (.ref d) (.tup [.int r.h,.int (c r.h)]) (.int r.r) (put (put M p (.lst acc)) d (.dt ks ds)) R=R (put (put M p (.lst acc)) d (.dt (ai ks [r.h,(c r.h:Int)]) (aq ks ds [r.h,(c r.h:Int)] (.int r.r)))):=λ{acc R}=>by
   rw[jY ac (by omega),ba]
  show aJ _ _ _ _ _ _ (.tup [nD (r.h,c r.h),r.d]::gL ((nmF (f_.map Rw.h) (bump c r.h)).map nD) (f_.map Rw.d)) _ _;rw[ar];refine⟨hS _ _ _,?_⟩;generalize aJ ⟨(B cls b_ d_),aa T (B cls b_ d_) (n+6)⟩ (.tup [4,5]) cK ES S De (gL ((nmF (f_.map Rw.h) (bump c r.h)).map nD) (f_.map Rw.d))=K at nx ⊢;simp only[mO]at co;simp only[cK,nD];by_cases c0:0<c r.h
  ·have g2:=I.i2 r.h c0;have ix:=λ{acc:List D}{Q:VK3}=>Fh (Q:=Q) (ac (M:=put M p (.lst acc)) (a:=d) (o:=.dt ks ds)) g2
   have oc:∀{M:MH}{R:Nat->Prop},cj (B cls b_ d_) 28932044387 (wO b_ e_ wy) M R=R 48:=λ{M R}=>o_m (by decide) (by decide) (by decide)
   have cc:=λ{M:MH}{Q:VK3}{E:XN}=>vq (cls:=cls) (b_:=b_) (d_:=d_) (n:=n+2) (M:=M) (Q:=Q) (E:=E) (e_:=e_) (wy:=wy) f.h
   have lb:=I.lb r.h;have fb:=f.b;have hk:=f.h;simp only[okH,Jj,Ju]at hk;obtain⟨q1,q2,q3⟩:=zP (k:=r.h.toNat) G (by omega)
   have m1:cQ (k0 e_ r.h.toNat).2 (r.r-lr r.h)=True:=gN (by omega) (by omega) (by omega) (by omega)
   have m2:cQ (-(k0 e_ r.h.toNat).1) (r.r-lr r.h)=True:=gN (by omega) (by omega) (by omega) (by omega)
   have cb:∀{M:MH}{Q:VK3}{E:XN},aa T (B cls b_ d_) (n+6) 19 [.tup [.int (k0 e_ r.h.toNat).1,.int (k0 e_ r.h.toNat).2],.tup [.int r.h,.int ((c r.h:Int)-1)],.tup [.int r.h,.int (c r.h)],.int (r.r-lr r.h)] M Q E=Q (.g_ (on (k0 e_ r.h.toNat) r.h (c r.h) (r.r-lr r.h))) M:=λ{M Q E}=>by
    simp only[jR,cG];simp[-List.getD_eq_getElem?_getD,m1,m2,on,au]
   have e2:=λ{Q:VK3}=>wj (M:=M) (Q:=Q) (ds:=acc++fN wy (.tup [.int r.h,.int (c r.h)]) r) (es:=on (k0 e_ r.h.toNat) r.h (c r.h) (r.r-lr r.h)) (o:=.dt ks ds) Nn (by rw[JR];simp[on];omega)
   rw[show lj e_ wy c lr r=fN wy (.tup [.int r.h,.int (c r.h)]) r++on (k0 e_ r.h.toNat) r.h (c r.h) (r.r-lr r.h) by unfold lj;rw[Js c0]]at nx
   simp[-List.getD_eq_getElem?_getD,↓ch,↓co,ty,↓e1,↓ia,g2,↓oh,↓or,↓oc,↓cc,↓ix,↓cb,↓e2,↓st,au];simpa [-List.getD_eq_getElem?_getD] using nx
  ·have z0:c r.h=0:=by omega
   have g1:getD ks ds [r.h,(c r.h:Int)-1]=none:=by rw[z0];exact I.i1 r.h
   rw[show lj e_ wy c lr r=fN wy (.tup [.int r.h,.int (c r.h)]) r by unfold lj;rw[Jm c0,J0]]at nx
   simp[-List.getD_eq_getElem?_getD,↓ch,↓co,ty,↓e1,↓ia,g1,↓oh,↓or,↓st,au];simpa [-List.getD_eq_getElem?_getD] using nx
end
section
variable {cls b_ d_:Nat->PySem.Addr}{M:MH}{Q:VK3}{E:XN}{n:Nat}{p d:PySem.Addr}{e_:List (Int×Int)}{wy:List Wy}{r:Rw}
theorem EN{o u:DO}(hp:M p=none)(hd:M d=none):av M (del (put (put M p o) d u) p)=M:=by
 funext k;unfold av del put;by_cases k1:k=p
 ·subst k1;simp[hp]
 ·by_cases k2:k=d
  ·subst k2;simp[hd]
  ·simp[k1,k2];cases M k<;>rfl
theorem u7{f_:List Rw}(G:GW e_ wy)(hM:Fm M)(hl:f_.length<=64)(hf:∀r∈f_,r.fine e_.length wy)
  (k:Q (.g_ (bdF e_ wy c00 l00 f_)) M):aa T (B cls b_ d_) (n+7) 20 [wO b_ e_ wy,.g_ (f_.map Rw.d)] M Q E:=by
 simp only[vg,jZ];simp;intro p hp d hd;obtain⟨Ni,hd⟩:=bW hd;have fm:Fm (put (put M p (.lst [])) d (.dt [] [])):=(hM.put _ _).put _ _;have I0:BI [] [] c00 l00:=⟨rfl,λh=>rfl,λh z=>(by cases z),λh=>⟨by show -(10 ^ 62)<=(0:Int);decide,by show (0:Int)<=10 ^ 62;decide⟩⟩
 have cn:=λ{Q:VK3}{E:XN}=>m6 (cls:=cls) (b_:=b_) (d_:=d_) (n:=n+4) (Q:=Q) (E:=E) f_ (.inl rfl) (by omega) fm
 simp[↓cn];exact si G hM (JA Ni) (λ_ _ _=>trivial) f_ c00 l00 [] [] [] _ _ _ _ I0 (by simp;omega) (by simp;omega) hf λKP F_ x4 x5 x6 x7=>by
  simp[aX,af (JA Ni),ac,EN hp hd];exact k
end
section
variable {cls b_ d_:Nat->PySem.Addr}{M:MH}{Q:VK3}{E:XN}{n:Nat}{a b d:PySem.Addr}{e_:List (Int×Int)}{wy:List Wy}{f_:List Rw}
theorem E5{ks:List Key}{ds:List D}{i:Int}{v:D}(h:M a=some (.dk ks ds))(hv:getD ks ds (.inl i)=some v):ao (.ref a) (.int i) M Q=Q v M:=by
 simp[ao,ax,am,h,d7,dZ,cI,tE,hv]
theorem iV(D_:a≠b){W:WC}{M0:MH}{De:Ends3}{ES:St3->XN}{R:Prop}{log:Option D}:∀(rs:List Rw)(ks:List Key)(ds acc:List D)(c:Int->Nat)(x3:Option D),ks.length=ds.length->ks.length+rs.length<500->acc.length+rs.length<500->(∀h,(getD ks ds (.inl h)).getD (.int 0)=.int (c h))->
  (∀KP F_ x,De.nx [log,some (.ref a),some (.ref b),x] (put (put M0 a (.dk KP F_)) b (.lst (acc++(nmF (rs.map Rw.h) c).map nD)))=R)->
  aJ W (.name 3) br ES (λ_=>True) De (rs.map Rw.d) [log,some (.ref a),some (.ref b),x3] (put (put M0 a (.dk ks ds)) b (.lst acc))=R
 |[],ks,ds,acc,c,x3,_,_,_,_,hR=>by
  have:=hR ks ds x3;simp[nmF]at this;simp[aS,this]
 |r::rs,ks,ds,acc,c,x3,hl,h1,h2,hc,hR=>by
  have ga:∀{ks ds},(put (put M0 a (.dk ks ds)) b (.lst acc)) a=some (.dk ks ds):=λ{_ _}=>by rw[af D_,ac]
  simp only[Jx]at h1 h2;have hs:acc.length<PySem.sizeLine:=Jw (show acc.length<1000 by omega) (by decide)
  have hk:ks.length<PySem.sizeLine:=Jw (show ks.length<1000 by omega) (by decide)
  have ih:=iV D_ (W:=W) (M0:=M0) (De:=De) (ES:=ES) (R:=R) (log:=log) rs (ai ks (.inl r.h)) (aq ks ds (.inl r.h) (.int (c r.h+1))) (acc++[nD (r.h,c r.h)]) (bump c r.h) (some r.d) (cr hl) (by have:=bh (ks:=ks) (k:=(.inl r.h:Key));omega) (by simp;omega) (oU hl hc) (by
    intro KP F_ x;have:=hR KP F_ x;simpa [nmF] using this)
  have i1:=λ{M:MH}{Q:VK3}=>z8 (M:=M) (Q:=Q) (r:=r)
  have gv:getD (ai ks (.inl r.h)) (aq ks ds (.inl r.h) (.int (c r.h+1))) (.inl r.h)=some (.int (c r.h+1)):=by rw[cB hl,Js rfl]
  have st:∀{R:MH->Prop},aE (.ref a) (.int r.h) (.int (c r.h+1)) (put (put M0 a (.dk ks ds)) b (.lst acc)) R=R (put (put M0 a (.dk (ai ks (.inl r.h)) (aq ks ds (.inl r.h) (.int (c r.h+1))))) b (.lst acc)):=λ{R}=>by
   rw[nS ga,eq_true hk,true_and,c5 D_]
  have ix:=λ{Q:VK3}=>E5 (Q:=Q) (ga (ks:=ai ks (.inl r.h)) (ds:=aq ks ds (.inl r.h) (.int (c r.h+1)))) gv
  rw[List.map_cons,ar];simp[br,↓i1,v9 ga,sJ ga,hc,↓st,↓ix,hs,au];simpa [nD,br] using ih
theorem uU(hM:Fm M)(hl:f_.length<400):aa T (B cls b_ d_) (n+1) 61 [.g_ (f_.map Rw.d)] M Q E=Q (.g_ ((nmF (f_.map Rw.h) c00).map nD)) M:=by
 simp only[pN,eY];simp;refine iff_of_eq (aC hM λa ha=>?_)
 simp[au];refine iff_of_eq (aC (hM.put _ _) λb hb=>?_)
 obtain⟨D_,hb⟩:=bW hb;refine iV (JA D_) f_ [] [] [] _ _ rfl (by simp;omega) (by simp;omega) (λh=>rfl) λKP F_ x=>?_
 simp[ha,hb,af D_]
end
section
variable {cls b_ d_:Nat->PySem.Addr}{M:MH}{Q:VK3}{E:XN}{n:Nat}{e_:List (Int×Int)}{wy:List Wy}{r:Rw}{f_:List Rw}{ts:List Int}
theorem rK{i:Int}:aa T (B cls b_ d_) (n+1) 59 [.int i] M Q E=Q (.bl true) M:=by
 simp only[oo,eU];simp
theorem rg{k:Nat}:(ts.map D.int).all (plN k)=true:=JD.mpr λx hx=>by
 obtain⟨y,_,rfl⟩:=JM.mp hx;cases k<;>rfl
theorem xO{x:D}(e:rs M x=x)(h:pl x=true):aI .NotEq x x M Q=Q (.bl false) M:=by
 show ij true x x M Q=_;unfold ij;rw[e,h,gu 8 h];simp
theorem CI{ds:List D}(h:pls ds=true):rs M (.g_ ds)=.g_ ds:=by
 show D.g_ (if pls ds=true then _ else _)=_
 rw[Js h]
theorem Cp(ns:List Int):∃cs:List Int,cZ (ns.map D.int) (some 2) (some 14)=cs.map D.int/\cs.length<=12:=by
 unfold cZ;rw[Jv,<-List.map_drop,<-List.map_take];refine⟨_,rfl,?_⟩;rw[List.length_take,List.length_drop];simp[HT.sIx];omega
theorem yY{W:WC}{td:List (Rw×Int)}(hM:Fm M)(hl:td.length<=16):kL W (.tup [0,1]) .no (.var 0) (λ_=>True) Q (td.map tdD) [none,none] M=Q (.g_ ((td.map Prod.fst).map Rw.d)) M:=by
 rw[fg tdD (λZ=>∃a b,Z=[a,b]) (λp=>[some p.1.d,some (.int p.2)]) (λ_=>true) (λp=>p.1.d) ⟨_,_,rfl⟩ hM (by omega) (λp _=>⟨⟨_,_,rfl⟩,λZ ⟨a,b,e⟩ M k=>by
  subst e;simp[tdD,wpG,hZ]⟩) (λ_ _ _ _ _=>rfl) (λp _ _ M' hE Q=>by simp),List.filter_eq_self.mpr (λ_ _=>rfl),List.map_map]
 rfl
end
section
noncomputable abbrev Nm:=List Int
noncomputable def lk{α:Type}:List (Nm×α)->Nm->Option α
 |[],_=>none
 |(q,u)::r,k=>if q=k then some u else lk r k
noncomputable def ins{α:Type}:List (Nm×α)->Nm->α->List (Nm×α)
 |[],k,v=>[(k,v)]
 |(q,u)::r,k,v=>if q=k then (q,v)::r else (q,u)::ins r k v
noncomputable abbrev K1{α:Type}(l:List (Nm×α)):List Nm:=l.map Prod.fst
theorem eI{α:Type}{k q:Nm}{v:α}:∀{l:List (Nm×α)},lk (ins l k v) q=if k=q then some v else lk l q
 |[]=>by simp[ins,lk]
 |(a,u)::r=>by
  simp only[ins];by_cases h:a=k
  ·subst h;simp only[if_true,lk];split<;>rfl
  ·simp only[Jm h,lk];by_cases h2:a=q
   ·subst h2;rw[Js rfl,Jm (JA h),Js rfl]
   ·rw[Jm h2,Jm h2];exact eI
theorem uT{α:Type}{k:Nm}{v:α}:∀{l:List (Nm×α)},lk l k=some v->(k,v)∈l
 |[],h=>by cases h
 |(a,u)::r,h=>by
  simp only[lk]at h;split at h
  ·rename_i e;subst e;cases h;exact Jo
  ·exact Jk _ (uT h)
theorem zN{α:Type}{k:Nm}{v:α}:∀{l:List (Nm×α)},(K1 l).Nodup->(k,v)∈l->lk l k=some v
 |[],_,h=>by cases h
 |(a,u)::r,hn,h=>by
  simp only[K1,List.map_cons,JN]at hn;simp only[lk];rcases Jq.mp h with e|h
  ·cases e;rw[Js rfl]
  ·rw[Jm (λz=>hn.1 (by rw[z];exact JM.mpr ⟨_,h,rfl⟩))]
   exact zN hn.2 h
theorem lk_key{α:Type}{k:Nm}:∀{l:List (Nm×α)},k∈K1 l<->(lk l k).isSome=true
 |[]=>by simp[K1,lk]
 |(a,u)::r=>by
  have ih:=lk_key (k:=k) (l:=r);simp only[K1,List.map_cons,Jq,lk]at ih ⊢;by_cases h:a=k
  ·simp[h]
  ·rw[Jm h,<-ih];simp[JA h]
theorem my{α:Type}{k:Nm}{v:α}:∀{l:List (Nm×α)},K1 (ins l k v)=if k∈K1 l then K1 l else K1 l++[k]
 |[]=>by simp[ins,K1]
 |(a,u)::r=>by
  have ih:=my (k:=k) (v:=v) (l:=r);simp only[ins];by_cases h:a=k
  ·subst h;simp[K1]
  ·rw[Jm h];simp only[K1,List.map_cons,Jq,JA h,false_or]at ih ⊢;rw[ih];by_cases z:k∈List.map Prod.fst r
   ·rw[Js z,Js z]
   ·rw[Jm z,Jm z];rfl
theorem qR{α:Type}{k:Nm}{v:α}{l:List (Nm×α)}(h:(K1 l).Nodup):(K1 (ins l k v)).Nodup:=by
 rw[my];split
 ·exact h
 ·rename_i z;rw[List.nodup_append];exact⟨h,by simp,λa ha b hb=>by rw[JB.mp hb];exact λe=>z (e▸ha)⟩
theorem gQ{α:Type}(f:α->D){k:Nm}:∀{l:List (Nm×α)},getD (K1 l) (l.map λp=>f p.2) k=(lk l k).map f
 |[]=>by simp[K1,getD,lk]
 |(a,u)::r=>by
  have ih:=gQ f (k:=k) (l:=r);simp only[K1,List.map_cons,getD,lk]at ih ⊢;split
  ·rfl
  ·exact ih
theorem nO{α:Type}{k:Nm}{v:α}:∀{l:List (Nm×α)},ai (K1 l) k=K1 (ins l k v)
 |[]=>by simp[K1,ai,ins]
 |(a,u)::r=>by
  have ih:=nO (k:=k) (v:=v) (l:=r);simp only[K1,List.map_cons,ai,ins]at ih ⊢;split
  ·simp
  ·simp[ih]
theorem pv{α:Type}(f:α->D){k:Nm}{v:α}:∀{l:List (Nm×α)},aq (K1 l) (l.map λp=>f p.2) k (f v)=(ins l k v).map λp=>f p.2
 |[]=>by simp[K1,aq,ins]
 |(a,u)::r=>by
  have ih:=pv f (k:=k) (v:=v) (l:=r);simp only[K1,List.map_cons,aq,ins]at ih ⊢;split
  ·simp
  ·simp[ih]
theorem km:∀{l k:List Nm},l.Nodup->(∀x∈l,x∈k)->l.length<=k.length
 |[],_,_,_=>Nat.zero_le _
 |a::l,k,hn,hs=>by
  rw[JN]at hn;have h1:a∈k:=hs a Jo;have h2:l.length<=(k.erase a).length:=km hn.2 λx hx=>(List.mem_erase_of_ne (λe:x=a=>hn.1 (by rw[<-e];exact hx))).mpr (hs x (Jk _ hx))
  rw[List.length_erase_of_mem h1]at h2;have:0<k.length:=List.length_pos_of_mem h1;simp only[Jx];omega
structure Nt where
 ks:List Nm
 row:Nm->List (Nm×Int)
def Ed(N:Nt)(x y:Nm)(w:Int):Prop:=x∈N.ks/\(y,w)∈N.row x
structure WN (N:Nt):Prop where
 nd:N.ks.Nodup
 row:∀x∈N.ks,(K1 (N.row x)).Nodup/\∀e∈N.row x,e.1∈N.ks/\e.1≠x
inductive Wk (N:Nt) (x:Nm):Nm->Int->Prop where
 |nil:Wk N x x 0
 |snoc {y z:Nm}{v w:Int} (h:Wk N x y v) (e:Ed N y z w):Wk N x z (v+w)
def Pot(N:Nt)(p:Nm->Int):Prop:=∀x y w,Ed N x y w->p y-p x<=w
theorem Wk.pot{N:Nt}{p:Nm->Int}{x y:Nm}{v:Int}(hp:Pot N p)(h:Wk N x y v):p y-p x<=v:=by
 induction h with
 |nil=>omega
 |snoc _ e ih=>have:=hp _ _ _ e;omega
def IsD(N:Nt)(x y:Nm):Option Int->Prop
 |some d=>Wk N x y d/\∀v,Wk N x y v->d<=v
 |none=>∀v,¬ Wk N x y v
theorem IsD.uniq{N:Nt}{x y:Nm}{a b:Option Int}(h:IsD N x y a)(g:IsD N x y b):a=b:=by
 cases a with
 |none=>
  cases b with
  |none=>rfl
  |some v=>exact absurd g.1 (h v)
 |some u=>
  cases b with
  |none=>exact absurd h.1 (g u)
  |some v=>have:=h.2 v g.1;have:=g.2 u h.1;congr 1;omega
structure SB where
 S:List (Nm×Int)
 B:List (Nm×Nm)
noncomputable def i9(S:List (Nm×Int))(y:Nm)(t:Int):Bool:=match lk S y with
 |none=>true
 |some v=>decide (t<v)
noncomputable def rl(x:Nm)(st:SB×List Nm)(e:Nm×Int):SB×List Nm:=match lk st.1.S x with
 |none=>st
 |some u=>if i9 st.1.S e.1 (u+e.2)=true then (⟨ins st.1.S e.1 (u+e.2),ins st.1.B e.1 x⟩,st.2++[e.1]) else st
noncomputable def goF(x:Nm)(row:List (Nm×Int))(st:SB):SB×List Nm:=row.foldl (rl x) (st,[])
structure J (N:Nt)(x0:Nm)(pend:Nm->Prop)(s:SB):Prop where
 k:∀y v,lk s.S y=some v->y∈N.ks/\Wk N x0 y v
 nd:(K1 s.S).Nodup
 s0:∃u,lk s.S x0=some u/\u<=0
 pd:∀z,pend z->(lk s.S z).isSome=true
 rel:∀x u,lk s.S x=some u->¬ pend x->∀y w,(y,w)∈N.row x->∃v,lk s.S y=some v/\v<=u+w
 b:∀y∈K1 s.B,y∈N.ks
 bn:(K1 s.B).Nodup
variable {N:Nt}{x0:Nm}{p:Nm->Int}
theorem J.low{pend:Nm->Prop}{s:SB}{x y:Nm}{w u:Int}(W:WN N)(hp:Pot N p)(I:J N x0 pend s)(hx:lk s.S x=some u)(he:(y,w)∈N.row x)(hl:i9 s.S y (u+w)=true) :
  J N x0 (λz=>pend z\/z=y) ⟨ins s.S y (u+w),ins s.B y x⟩:=by
 obtain⟨xk,xw⟩:=I.k x u hx;obtain⟨yk,yx⟩:=(W.row x xk).2 _ he;have wy:Wk N x0 y (u+w):=xw.snoc ⟨xk,he⟩;have K2:∀v,lk s.S y=some v->u+w<v:=λv hv=>by
  unfold i9 at hl;rw[hv]at hl;simpa using hl
 have mono:∀z v,lk s.S z=some v->∃v',lk (ins s.S y (u+w)) z=some v'/\v'<=v:=λz v hv=>by
  rw[eI];by_cases e:y=z
  ·subst e;rw[Js rfl];exact⟨_,rfl,by have:=K2 v hv;omega⟩
  ·rw[Jm e];exact⟨v,hv,by omega⟩
 refine⟨λz v hz=>?_,qR I.nd,?_,λz hz=>?_,λz v hz Rt a c OA=>?_,λz hz=>?_,qR I.bn⟩
 ·rw[eI]at hz;split at hz
  ·rename_i e;subst e;cases hz;exact⟨yk,wy⟩
  ·exact I.k z v hz
 ·obtain⟨v,v1,v2⟩:=I.s0;obtain⟨v',v3,v4⟩:=mono x0 v v1;exact⟨v',v3,by omega⟩
 ·rcases hz with hz|rfl
  ·obtain⟨v,hv⟩:=JS.mp (I.pd z hz);obtain⟨v',Pm,_⟩:=mono z v hv;rw[Pm];rfl
  ·show (lk (ins s.S z (u+w)) z).isSome=true;rw[eI,Js rfl];rfl
 ·have ey:y≠z:=λe=>Rt (.inr e.symm)
  have Mw:lk (ins s.S y (u+w)) z=some v:=hz;rw[eI,Jm ey]at Mw;obtain⟨t,t1,t2⟩:=I.rel z v Mw (λq=>Rt (.inl q)) a c OA
  obtain⟨t',t3,t4⟩:=mono a t t1;exact⟨t',t3,by omega⟩
 ·rw[my]at hz;split at hz
  ·exact I.b z hz
  ·rcases JK.mp hz with hz|hz
   ·exact I.b z hz
   ·rw[JB.mp hz];exact yk
end
section
variable {N:Nt}{x0:Nm}{p:Nm->Int}
theorem J.mono{P P':Nm->Prop}{s:SB}(I:J N x0 P s)(h:∀z,P z->P' z)(h':∀z,P' z->(lk s.S z).isSome=true):J N x0 P' s:=
 ⟨I.k,I.nd,I.s0,h',λx u hx hn=>I.rel x u hx λz=>hn (h x z),I.b,I.bn⟩
noncomputable def iQ(p:Nm->Int)(x0:Nm):List (Nm×Int)->Nat
 |[]=>0
 |(y,v)::r=>(v-(p y-p x0)).toNat+iQ p x0 r
theorem lX{y:Nm}{t v:Int}:∀{S:List (Nm×Int)},lk S y=some v->iQ p x0 (ins S y t)+(v-(p y-p x0)).toNat=iQ p x0 S+(t-(p y-p x0)).toNat
 |[],h=>by cases h
 |(q,u)::r,h=>by
  simp only[lk]at h;simp only[ins];split at h
  ·rename_i e;subst e;cases h;rw[Js rfl];simp only[iQ];omega
  ·rename_i e;rw[Jm e];have:=lX (y:=y) (t:=t) (v:=v) (S:=r) h;simp only[iQ];omega
theorem ins_len{α:Type}{k:Nm}{v:α}{l:List (Nm×α)}:(ins l k v).length=if k∈K1 l then l.length else l.length+1:=by
 have h:=congrArg List.length (my (k:=k) (v:=v) (l:=l));simp only[Jv]at h;rw[h];split<;>simp
def Lt(N:Nt)(p:Nm->Int)(x0:Nm)(a b:SB):Prop:=Prod.Lex (· < ·) (· < ·) (N.ks.length-a.S.length,iQ p x0 a.S) (N.ks.length-b.S.length,iQ p x0 b.S)
theorem Lt.trans{a b c:SB}(h:Lt N p x0 a b)(g:Lt N p x0 b c):Lt N p x0 a c:=by
 unfold Lt at *
 rw[Prod.lex_def]at *
 simp only at *
 omega
theorem B5{pend:Nm->Prop}{s:SB}{y x:Nm}{t:Int}(hp:Pot N p)(I:J N x0 pend s)(yk:y∈N.ks)(wy:Wk N x0 y t)(hl:i9 s.S y t=true):Lt N p x0 ⟨ins s.S y t,ins s.B y x⟩ s:=by
 unfold Lt;rw[Prod.lex_def];simp only;rw[ins_len];cases h:lk s.S y with
 |none=>
  have hn:y∉K1 s.S:=λz=>by rw[lk_key,h]at z;cases z
  rw[Jm hn];left;have:(y::K1 s.S).length<=N.ks.length:=km (JN.mpr ⟨hn,I.nd⟩) λz hz=>by
   rcases Jq.mp hz with rfl|hz
   ·exact yk
   ·obtain⟨v,hv⟩:=JS.mp (lk_key.mp hz);exact (I.k z v hv).1
  simp only[Jx,Jv]at this;omega
 |some v=>
  have hm:y∈K1 s.S:=lk_key.mpr (by rw[h];rfl)
  rw[Js hm];right;refine⟨rfl,?_⟩;have e:=lX (p:=p) (x0:=x0) (t:=t) h;have h1:=wy.pot hp;unfold i9 at hl;rw[h]at hl;have hl:t<v:=by simpa using hl
  omega
theorem qf{pend:Nm->Prop}(W:WN N)(hp:Pot N p){x:Nm}{u:Int}(xk:x∈N.ks):∀(post pre:List (Nm×Int)) (s:SB)(fl:List Nm),N.row x=pre++post->J N x0 (λz=>pend z\/z∈fl) s->lk s.S x=some u->(∀e∈pre,∃v,lk s.S e.1=some v/\v<=u+e.2)->
  J N x0 (λz=>pend z\/z∈(post.foldl (rl x) (s,fl)).2) (post.foldl (rl x) (s,fl)).1/\lk (post.foldl (rl x) (s,fl)).1.S x=some u/\(∀e∈pre++post,∃v,lk (post.foldl (rl x) (s,fl)).1.S e.1=some v/\v<=u+e.2)/\
  (∀z∈fl,z∈(post.foldl (rl x) (s,fl)).2)/\(post.foldl (rl x) (s,fl)=(s,fl)\/Lt N p x0 (post.foldl (rl x) (s,fl)).1 s)
 |[],pre,s,fl,_,I,hx,Lb=>⟨I,hx,by simpa using Lb,λz hz=>hz,.inl rfl⟩
 |(y,w)::post,pre,s,fl,e,I,hx,Lb=>by
  have he:(y,w)∈N.row x:=by rw[e];simp
  rw[List.foldl_cons];by_cases hl:i9 s.S y (u+w)=true
  ·have hr:rl x (s,fl) (y,w)=(⟨ins s.S y (u+w),ins s.B y x⟩,fl++[y]):=by
    unfold rl;simp only[hx,hl,if_true]
   rw[hr];have I':=I.low W hp hx he hl;have PK:y≠x:=((W.row x xk).2 _ he).2;have K2:∀v,lk s.S y=some v->u+w<v:=λv hv=>by
    unfold i9 at hl;rw[hv]at hl;simpa using hl
   obtain⟨a1,a2,a3,a4,a5⟩:=qf W hp xk post (pre++[(y,w)]) _ (fl++[y]) (by rw[e];simp) (I'.mono (P':=λz=>pend z\/z∈fl++[y]) (λz hz=>by
     rcases hz with (h|h)|h
     ·exact .inl h
     ·exact .inr (by simp[h])
     ·exact .inr (by simp[h])) λz hz=>I'.pd z (by
     rcases hz with h|h
     ·exact .inl (.inl h)
     ·rcases JK.mp h with h|h
      ·exact .inl (.inr h)
      ·exact .inr (JB.mp h))) (by show lk (ins s.S y (u+w)) x=_;rw[eI,Jm PK];exact hx) (λq hq=>by
     show ∃v,lk (ins s.S y (u+w)) q.1=some v/\_;rw[eI];by_cases ey:y=q.1
     ·rw[Js ey];refine⟨u+w,rfl,?_⟩;rcases JK.mp hq with h|h
      ·obtain⟨v,v1,v2⟩:=Lb q h;rw[<-ey]at v1;have:=K2 v v1;omega
      ·rw[JB.mp h];exact Int.le_refl _
     ·rw[Jm ey];rcases JK.mp hq with h|h
      ·exact Lb q h
      ·rw[JB.mp h]at ey;exact absurd rfl ey)
   refine⟨a1,a2,by simpa using a3,λz hz=>a4 z (by simp[hz]),.inr ?_⟩
   have l1:Lt N p x0 ⟨ins s.S y (u+w),ins s.B y x⟩ s:=B5 hp I ((W.row x xk).2 _ he).1 ((I.k x u hx).2.snoc ⟨xk,he⟩) hl;rcases a5 with a5|a5
   ·rw[a5];exact l1
   ·exact a5.trans l1
  ·have hr:rl x (s,fl) (y,w)=(s,fl):=by
    unfold rl;simp only[hx];rw[Jm hl]
   rw[hr];obtain⟨a1,a2,a3,a4,a5⟩:=qf W hp xk post (pre++[(y,w)]) s fl (by rw[e];simp) I hx (λq hq=>by
     rcases JK.mp hq with h|h
     ·exact Lb q h
     ·rw[JB.mp h];unfold i9 at hl;cases hv:lk s.S y with
      |none=>rw[hv]at hl;exact absurd rfl hl
      |some v=>
       rw[hv]at hl;have hl:¬ u+w<v:=by simpa using hl
       exact⟨v,rfl,by omega⟩)
   exact⟨a1,a2,by simpa using a3,a4,a5⟩
theorem put1_mem{k z:Nm}:∀{l:List Nm},z∈ai l k<->z=k\/z∈l
 |[]=>by simp[ai]
 |a::l=>by
  simp only[ai];by_cases h:a=k
  ·subst h;simp
  ·rw[Jm h,Jq,put1_mem (l:=l),Jq];constructor
   ·rintro (h|h|h)
    ·exact .inr (.inl h)
    ·exact .inl h
    ·exact .inr (.inr h)
   ·rintro (h|h|h)
    ·exact .inr (.inl h)
    ·exact .inl h
    ·exact .inr (.inr h)
theorem puts_mem{z:Nm}:∀{fl ag:List Nm},z∈fl.foldl ai ag<->z∈fl\/z∈ag
 |[],ag=>by simp
 |a::fl,ag=>by
  rw[List.foldl_cons,puts_mem (fl:=fl),put1_mem,Jq];constructor
  ·rintro (h|h|h)
   ·exact .inl (.inr h)
   ·exact .inl (.inl h)
   ·exact .inr h
  ·rintro ((h|h)|h)
   ·exact .inr (.inl h)
   ·exact .inl h
   ·exact .inr (.inr h)
noncomputable def fM(N:Nt)(st:SB×List Nm)(x:Nm):SB×List Nm:=((goF x (N.row x) st.1).1,(goF x (N.row x) st.1).2.foldl ai st.2)
theorem ph(W:WN N)(hp:Pot N p){x:Nm}{fs:List Nm}{s:SB}{ag:List Nm}(I:J N x0 (λz=>z∈x::fs\/z∈ag) s) :
  J N x0 (λz=>z∈fs\/z∈(fM N (s,ag) x).2) (fM N (s,ag) x).1/\(fM N (s,ag) x=(s,ag)\/Lt N p x0 (fM N (s,ag) x).1 s):=by
 obtain⟨u,hu⟩:=JS.mp (I.pd x (.inl Jo));have xk:=(I.k x u hu).1;obtain⟨a1,a2,a3,_,a5⟩:=qf (pend:=λz=>z∈x::fs\/z∈ag) W hp xk (N.row x) [] s [] rfl (I.mono (λz hz=>.inl hz) λz hz=>I.pd z (by simpa using hz)) hu (λ_ h=>by cases h)
 have hs:fM N (s,ag) x=(((N.row x).foldl (rl x) (s,[])).1,((N.row x).foldl (rl x) (s,[])).2.foldl ai ag):=rfl;rw[hs];generalize (N.row x).foldl (rl x) (s,[])=r at a1 a2 a3 a5;refine⟨⟨a1.k,a1.nd,a1.s0,λz hz=>a1.pd z ?_,λz v hz hn y w hy=>?_,a1.b,a1.bn⟩,?_⟩
 ·rcases hz with h|h
  ·exact .inl (.inl (Jk _ h))
  ·rcases puts_mem.mp h with h|h
   ·exact .inr h
   ·exact .inl (.inr h)
 ·by_cases e:z=x
  ·subst e;rw[a2]at hz;cases hz;exact a3 (y,w) (by simpa using hy)
  ·refine a1.rel z v hz (λq=>hn ?_) y w hy
   rcases q with (q|q)|q
   ·rcases Jq.mp q with q|q
    ·exact absurd q e
    ·exact .inl q
   ·exact .inr (puts_mem.mpr (.inr q))
   ·exact .inr (puts_mem.mpr (.inl q))
 ·rcases a5 with a5|a5
  ·rw[a5];exact .inl rfl
  ·exact .inr a5
theorem jI(W:WN N)(hp:Pot N p):∀(fs:List Nm)(s:SB)(ag:List Nm),J N x0 (λz=>z∈fs\/z∈ag) s->
  J N x0 (λz=>z∈(fs.foldl (fM N) (s,ag)).2) (fs.foldl (fM N) (s,ag)).1/\(fs.foldl (fM N) (s,ag)=(s,ag)\/Lt N p x0 (fs.foldl (fM N) (s,ag)).1 s)
 |[],s,ag,I=>⟨I.mono (λz hz=>by simpa using hz) λz hz=>I.pd z (.inr hz),.inl rfl⟩
 |x::fs,s,ag,I=>by
  obtain⟨I',a5⟩:=ph W hp I;rw[List.foldl_cons];generalize fM N (s,ag) x=r at I' a5;obtain⟨b1,b2⟩:=jI W hp fs r.1 r.2 I';refine⟨b1,?_⟩;rcases a5 with a5|a5
  ·subst a5;exact b2
  ·rcases b2 with b2|b2
   ·right;rw[show fs.foldl (fM N) r=r from b2];exact a5
   ·exact .inr (b2.trans a5)
noncomputable abbrev stepF(N:Nt)(s:SB)(fs:List Nm):SB×List Nm:=fs.foldl (fM N) (s,[])
inductive Run (N:Nt):Nat->SB->List Nm->SB->Prop where
 |done (s:SB):Run N 0 s [] s
 |step {m:Nat}{s s':SB}{fs:List Nm} (h:fs≠[]) (r:Run N m (stepF N s fs).1 (stepF N s fs).2 s'):Run N (m+1) s fs s'
theorem Eh(W:WN N)(hp:Pot N p):∀(s:SB)(fs:List Nm),J N x0 (λz=>z∈fs) s->∃m s',Run N m s fs s'/\J N x0 (λ_=>False) s':=by
 have wf:WellFounded (Lt N p x0):=InvImage.wf (λs:SB=>(N.ks.length-s.S.length,iQ p x0 s.S)) (Prod.lex ⟨_,Nat.lt_wfRel.wf⟩ ⟨_,Nat.lt_wfRel.wf⟩).wf
 intro s
 induction s using wf.induction with
 |_ s ih=>
  intro fs I;by_cases hf:fs=[]
  ·subst hf;exact⟨0,s,.done s,I.mono (λz hz=>by cases hz) λz hz=>hz.elim⟩
  ·obtain⟨a1,a2⟩:=jI W hp fs s [] (I.mono (λz hz=>.inl hz) λz hz=>I.pd z (by simpa using hz))
   by_cases hg:(stepF N s fs).2=[]
   ·refine⟨1,(stepF N s fs).1,.step hf ?_,a1.mono (λz hz=>by
      have Mw:z∈(stepF N s fs).2:=hz;rw[hg]at Mw;cases Mw) λz hz=>hz.elim⟩
    rw[hg];exact .done _
   ·rcases a2 with a2|a2
    ·exact absurd (congrArg Prod.snd a2) hg
    ·obtain⟨m,s',r,I'⟩:=ih _ a2 _ a1;exact⟨m+1,s',.step hf r,I'⟩
theorem J.isD{s:SB}(I:J N x0 (λ_=>False) s)(y:Nm):IsD N x0 y (lk s.S y):=by
 have key:∀{z v},Wk N x0 z v->∃u,lk s.S z=some u/\u<=v:=by
  intro z v h
  induction h with
  |nil=>exact I.s0
  |snoc _ e ih=>
   obtain⟨u,u1,u2⟩:=ih;obtain⟨v,v1,v2⟩:=I.rel _ u u1 id _ _ e.2;exact⟨v,v1,by omega⟩
 cases h:lk s.S y with
 |none=>
  intro v hw;obtain⟨u,u1,_⟩:=key hw;rw[h]at u1;cases u1
 |some d=>
  refine⟨(I.k y d h).2,λv hw=>?_⟩
  obtain⟨u,u1,u2⟩:=key hw;rw[h]at u1;cases u1;exact u2
theorem J.start(W:WN N)(hx:x0∈N.ks):J N x0 (λz=>z∈[x0]) ⟨[(x0,0)],[]⟩:=by
 have h:∀y v,lk [(x0,(0:Int))] y=some v->y=x0/\v=0:=λy v h=>by
  simp only[lk]at h;split at h
  ·rename_i e;cases h;exact⟨e.symm,rfl⟩
  ·cases h
 refine⟨λy v hv=>?_,by simp,⟨0,by simp[lk],Int.le_refl _⟩,λz hz=>?_,λx u hu hn=>?_,(λy hy=>by cases hy),by simp⟩
 ·obtain⟨rfl,rfl⟩:=h y v hv;exact⟨hx,.nil⟩
 ·rw[JB.mp hz];simp[lk]
 ·obtain⟨rfl,rfl⟩:=h x u hu;exact absurd Jo hn
end
section
variable {N:Nt}{p q:Nm->Int}{x y:Nm}{m:Int}
noncomputable def jv(N:Nt)(x y:Nm)(m:Int):Nt:={N with row:=λz=>if z=x then ins (N.row x) y (min m ((lk (N.row x) y).getD m)) else N.row z}
theorem mI{α:Type}{k:Nm}{v:α}{e:Nm×α}:∀{l:List (Nm×α)},e∈ins l k v->e=(k,v)\/e∈l
 |[],h=>.inl (JB.mp h)
 |(a,u)::r,h=>by
  simp only[ins]at h;split at h
  ·rename_i z;subst z;rcases Jq.mp h with h|h
   ·exact .inl h
   ·exact .inr (Jk _ h)
  ·rcases Jq.mp h with h|h
   ·exact .inr (by rw[h];exact Jo)
   ·rcases mI h with h|h
    ·exact .inl h
    ·exact .inr (Jk _ h)
theorem mD{α:Type}{k:Nm}{v:α}:∀{l:List (Nm×α)},(k,v)∈ins l k v
 |[]=>JB.mpr rfl
 |(a,u)::r=>by
  simp only[ins];split
  ·rename_i z;subst z;exact Jo
  ·exact Jk _ mD
theorem rR{α:Type}{k:Nm}{v:α}{e:Nm×α}(hk:e.1≠k):∀{l:List (Nm×α)},e∈l->e∈ins l k v
 |(a,u)::r,h=>by
  simp only[ins];rcases Jq.mp h with h|h
  ·subst h;rw[Jm hk];exact Jo
  ·split
   ·exact Jk _ h
   ·exact Jk _ (rR hk h)
theorem ou(hp:Pot N q)(h:q y-q x<=m):Pot (jv N x y m) q:=λa b w he=>by
 obtain⟨h1,h2⟩:=he;have h2:(b,w)∈(if a=x then ins (N.row x) y (min m ((lk (N.row x) y).getD m)) else N.row a):=h2
 split at h2
 ·rename_i e;subst e;rcases mI h2 with h3|h3
  ·cases h3;cases hl:lk (N.row a) y with
   |none=>simp only[Option.getD_none];omega
   |some v=>
    have:=hp a y v ⟨h1,uT hl⟩;simp only[Option.getD_some];omega
  ·exact hp a b w ⟨h1,h3⟩
 ·exact hp a b w ⟨h1,h2⟩
theorem xH(W:WN N){a b:Nm}{w:Int}(h:Ed N a b w):∃w',w'<=w/\Ed (jv N x y m) a b w':=by
 by_cases e:a=x
 ·subst e;by_cases f:b=y
  ·subst f;refine⟨_,?_,h.1,by show _∈(if a=a then _ else _);rw[Js rfl];exact mD⟩
   rw[zN (W.row a h.1).1 h.2];simp only[Option.getD_some];omega
  ·exact⟨w,Int.le_refl _,h.1,by show _∈(if a=a then _ else _);rw[Js rfl];exact rR f h.2⟩
 ·exact⟨w,Int.le_refl _,h.1,by show _∈(if a=x then _ else _);rw[Jm e];exact h.2⟩
theorem yV(W:WN N){a b:Nm}{v:Int}(h:Wk N a b v):∃v',v'<=v/\Wk (jv N x y m) a b v':=by
 induction h with
 |nil=>exact⟨0,Int.le_refl _,.nil⟩
 |snoc _ e ih=>
  obtain⟨v',h1,h2⟩:=ih;obtain⟨w',g1,g2⟩:=xH (x:=x) (y:=y) (m:=m) W e;exact⟨v'+w',by omega,h2.snoc g2⟩
theorem wz(hx:x∈N.ks):∃w,w<=m/\Wk (jv N x y m) x y w:=by
 have e:Ed (jv N x y m) x y (min m ((lk (N.row x) y).getD m)):=⟨hx,by show _∈(if x=x then _ else _);rw[Js rfl];exact mD⟩
 have:=(Wk.nil (N:=jv N x y m) (x:=x)).snoc e;exact⟨_,by omega,this⟩
theorem ji(W:WN N)(hy:y∈N.ks)(hn:x≠y):WN (jv N x y m):=by
 refine⟨W.nd,λa ha=>?_⟩
 have ha:a∈N.ks:=ha;show (K1 (if a=x then _ else _)).Nodup/\∀e∈(if a=x then _ else _),_
 by_cases e:a=x
 ·subst e;rw[Js rfl];refine⟨qR (W.row a ha).1,λq hq=>?_⟩
  rcases mI hq with h|h
  ·rw[h];exact⟨hy,JA hn⟩
  ·exact (W.row a ha).2 q h
 ·rw[Jm e];exact W.row a ha
end
section
variable {cls b_ d_:Nat->PySem.Addr}{M M0:MH}{Q:VK3}{E:XN}{n:Nat}{a b c d f r:PySem.Addr}{x y:Nm}
noncomputable def nmD(k:Nm):D:=.tup (k.map D.int)
theorem ints_of:∀k:Nm,bz (k.map D.int)=some k
 |[]=>rfl
 |i::k=>by simp[bz,ints_of k]
theorem cV(k:Nm):g5 (nmD k)=some k:=ints_of k
noncomputable def dS(S:List (Nm×Int)):DO:=.dt (K1 S) (S.map λp=>.int p.2)
noncomputable def dB(B:List (Nm×Nm)):DO:=.dt (K1 B) (B.map λp=>nmD p.2)
section
variable {α:Type}{l:List (Nm×α)}{g:α->D}{k:Nm}
theorem EC(h:M a=some (.dt (K1 l) (l.map λp=>g p.2))){neg:Bool}:jq neg (nmD k) (.ref a) M Q=Q (.bl (neg ^^ (lk l k).isSome)) M:=by
 have e:=gQ g (k:=k) (l:=l);simp only[jq,ax,am,h,d7,dZ,cI,cV,e];cases lk l k<;>rfl
theorem qN(h:M a=some (.dt (K1 l) (l.map λp=>g p.2))):aI .NotIn (nmD k) (.ref a) M Q=Q (.bl (!(lk l k).isSome)) M:=by
 simp only[aI];rw[EC h];simp
theorem oK{v:α}(h:M a=some (.dt (K1 l) (l.map λp=>g p.2)))(hv:lk l k=some v):ao (.ref a) (nmD k) M Q=Q (g v) M:=by
 have e:=gQ g (k:=k) (l:=l);rw[hv]at e;simp only[ao,ax,am,h,d7,dZ,cI,cV,e,Option.map]
theorem kq{v:α}{R:MH->Prop}(h:M a=some (.dt (K1 l) (l.map λp=>g p.2)))(hz:l.length<900):aE (.ref a) (nmD k) (g v) M R=R (put M a (.dt (K1 (ins l k v)) ((ins l k v).map λp=>g p.2))):=by
 have hs:(K1 l).length<PySem.sizeLine:=by rw[Jv,PySem.sizeLine_eq];omega
 simp only[aE,h,cV,nO (v:=v),pv g,hs,true_and]
theorem Cw{z:D}(h:M a=some (.dt (K1 l) (l.map λp=>g p.2))):rBm .get (.ref a) [nmD k,z] M Q=Q (((lk l k).map g).getD z) M:=by
 have e:=gQ g (k:=k) (l:=l);simp only[rBm,d7,h,dZ,cI,cV,e]
theorem xU(h:M a=some (.dt (K1 l) (l.map λp=>g p.2))):rBm .get (.ref a) [nmD k] M Q=Q (((lk l k).map g).getD .i_) M:=by
 have e:=gQ g (k:=k) (l:=l);simp only[rBm,d7,h,dZ,cI,cV,e]
theorem Ab(h:M a=some (.dt (K1 l) (l.map λp=>g p.2))):tyB .get (.ref a) M=true:=by
 simp only[tyB,dZ,cI,h];rfl
end
theorem rj{W:WC}{tg:ITg}{o:IE}{body:ISs}{De:Ends3}{ES:St3->XN}{Z:St3}:wpS W (.LS tg o body) De ES Z M=wpE W o Z M (λx M1=>uc x M1 λd ks es=>∀φ,aJ W tg body (λ_ _ _=>False) (λM=>M d=some (.J_ φ)) (qG d φ ks es De) (aw ks es) Z (put M1 d (.J_ φ))) (ES Z):=rfl
theorem yu{W:WC}{e:IE}{De:Ends3}{E:XN}{Z:St3}{p:PySem.Addr}{ds:List D}(h:M p=some (.lst ds)):lf W e De E Z (.ref p) M=wpE W e Z M (cJ p De Z) E:=by
 unfold lf;simp only[h];rfl
theorem wA{De:Ends3}{Z:St3}{p:PySem.Addr}{ds:List D}{y:D}(h:M p=some (.lst ds)):cJ p De Z y M=(ds.length<PySem.sizeLine/\De.nx Z (put M p (.lst (ds++[y])))):=by
 unfold cJ;simp only[h]
theorem ny{x y z:DO}(Lm:b≠f):put (put (put M b x) f y) b z=put (put M b z) f y:=by
 funext q;unfold put;by_cases q1:q=b
 ·simp[q1,Lm]
 ·simp[q1]
theorem rD{x y z w:DO}(D_:a≠b)(L5:a≠f):put (put (put (put M a x) b y) f w) a z=put (put (put M a z) b y) f w:=by
 funext q;unfold put;by_cases q1:q=a
 ·simp[q1,D_,L5]
 ·simp[q1]
noncomputable def HG(M0:MH)(a b f:PySem.Addr)(s:SB)(fl:List Nm):MH:=put (put (put M0 a (dS s.S)) b (dB s.B)) f (.lst (fl.map nmD))
noncomputable def eD(e:Nm×Int):D:=.tup [nmD e.1,.int e.2]
theorem oG:∀(l:List (Nm×Int)),aw (K1 l) (l.map λe=>.int e.2)=l.map eD
 |[]=>rfl
 |e::l=>by
  have ih:=oG l;unfold aw at ih ⊢;simp only[K1,List.map_cons,List.zip_cons_cons]at ih ⊢;rw[ih];rfl
theorem sj{W:WC}{φ:PySem.Heap->Prop}(D_:a≠b)(L5:a≠f)(Lm:b≠f)(Oz:d≠a)(KU:d≠b)(MX:d≠f)(hd:M0 d=some (.J_ φ)){De:Ends3}{ES:St3->XN}{R:Prop}{y0:Option D}{u:Int}:∀(post:List (Nm×Int)) (s:SB)(fl:List Nm)(x5 x6 x7:Option D),lk s.S x=some u->(∀e∈post,e.1≠x)->s.S.length+post.length<800->s.B.length+post.length<800->fl.length+post.length<800->
  (∀x5 x6 x7,De.nx [y0,some (nmD x),some (.ref a),some (.ref b),some (.ref f),x5,x6,x7] (HG M0 a b f (post.foldl (rl x) (s,fl)).1 (post.foldl (rl x) (s,fl)).2)=R)->
  aJ W (.tup [5,6]) bc ES (λM=>M d=some (.J_ φ)) De (post.map eD) [y0,some (nmD x),some (.ref a),some (.ref b),some (.ref f),x5,x6,x7] (HG M0 a b f s fl)=R
 |[],s,fl,x5,x6,x7,_,_,_,_,_,hR=>by
  have:=hR x5 x6 x7;have hS:HG M0 a b f s fl d=some (.J_ φ):=by unfold HG;rw[af MX,af KU,af Oz];exact hd
  simp only[List.foldl_nil]at this;rw[List.map_nil,aS];simp[hS,this]
 |(z,w)::post,s,fl,x5,x6,x7,hx,LA,h1,h2,h3,hR=>by
  simp only[Jx]at h1 h2 h3;have hS:HG M0 a b f s fl d=some (.J_ φ):=by unfold HG;rw[af MX,af KU,af Oz];exact hd
  have ga:HG M0 a b f s fl a=some (.dt (K1 s.S) (s.S.map λp=>.int p.2)):=by unfold HG;rw[af L5,af D_,ac];rfl
  have gb:HG M0 a b f s fl b=some (.dt (K1 s.B) (s.B.map λp=>nmD p.2)):=by unfold HG;rw[af Lm,ac];rfl
  have zx:z≠x:=LA (z,w) Jo;have i1:∀{Q:VK3},ao (.ref a) (nmD x) (HG M0 a b f s fl) Q=Q (.int u) (HG M0 a b f s fl):=λ{Q}=>oK (g:=D.int) ga hx
  have i2:∀{Q:VK3},aI .NotIn (nmD z) (.ref a) (HG M0 a b f s fl) Q=Q (.bl (!(lk s.S z).isSome)) (HG M0 a b f s fl):=λ{Q}=>qN (g:=D.int) ga
  rw[List.map_cons,ar];have ih:=λ(s':SB)(Pa:List Nm) (LU:lk s'.S x=some u) (g1:s'.S.length<=s.S.length+1) (g2:s'.B.length<=s.B.length+1) (g3:Pa.length<=fl.length+1) (x5 x6 x7:Option D) (SU:∀x5 x6 x7,De.nx [y0,some (nmD x),some (.ref a),some (.ref b),some (.ref f),x5,x6,x7] (HG M0 a b f (post.foldl (rl x) (s',Pa)).1 (post.foldl (rl x) (s',Pa)).2)=R)=>sj (W:=W) (y0:=y0) (ES:=ES) D_ L5 Lm Oz KU MX hd post s' Pa x5 x6 x7 LU (λe he=>LA e (Jk _ he)) (by omega) (by omega) (by omega) SU
  generalize aJ W (.tup [5,6]) bc ES (λM=>M d=some (.J_ φ)) De (post.map eD)=K at ih ⊢
  by_cases hl:i9 s.S z (u+w)=true
  ·have hr:rl x (s,fl) (z,w)=(⟨ins s.S z (u+w),ins s.B z x⟩,fl++[z]):=by
    unfold rl;simp only[hx,hl,if_true]
   have lS:(ins s.S z (u+w)).length<=s.S.length+1:=by rw[ins_len];split<;>omega
   have lB:(ins s.B z x).length<=s.B.length+1:=by rw[ins_len];split<;>omega
   have QF:=ih ⟨ins s.S z (u+w),ins s.B z x⟩ (fl++[z]) (by show lk (ins s.S z (u+w)) x=_;rw[eI,Jm zx];exact hx) lS lB (by simp) (some (nmD z)) (some (.int w)) (some (.int (u+w))) (λx5 x6 x7=>by
    have:=hR x5 x6 x7;rw[List.foldl_cons,hr]at this;exact this)
   have e1:put (HG M0 a b f s fl) a (.dt (K1 (ins s.S z (u+w))) ((ins s.S z (u+w)).map λp=>.int p.2))=HG M0 a b f ⟨ins s.S z (u+w),s.B⟩ fl:=by
    unfold HG;rw[rD D_ L5];rfl
   have SV:HG M0 a b f ⟨ins s.S z (u+w),s.B⟩ fl b=some (.dt (K1 s.B) (s.B.map λp=>nmD p.2)):=by unfold HG;rw[af Lm,ac];rfl
   have e2:put (HG M0 a b f ⟨ins s.S z (u+w),s.B⟩ fl) b (.dt (K1 (ins s.B z x)) ((ins s.B z x).map λp=>nmD p.2))=HG M0 a b f ⟨ins s.S z (u+w),ins s.B z x⟩ fl:=by
    unfold HG;rw[ny Lm];rfl
   have gf:HG M0 a b f ⟨ins s.S z (u+w),ins s.B z x⟩ fl f=some (.lst (fl.map nmD)):=ac;have e3:put (HG M0 a b f ⟨ins s.S z (u+w),ins s.B z x⟩ fl) f (.lst (fl.map nmD++[nmD z]))=HG M0 a b f ⟨ins s.S z (u+w),ins s.B z x⟩ (fl++[z]):=by
    unfold HG;rw[ba];simp
   have s1:∀{R:MH->Prop},aE (.ref a) (nmD z) (.int (u+w)) (HG M0 a b f s fl) R=R (HG M0 a b f ⟨ins s.S z (u+w),s.B⟩ fl):=λ{R}=>by rw[kq (g:=D.int) ga (by omega),e1]
   have s2:∀{R:MH->Prop},aE (.ref b) (nmD z) (nmD x) (HG M0 a b f ⟨ins s.S z (u+w),s.B⟩ fl) R=R (HG M0 a b f ⟨ins s.S z (u+w),ins s.B z x⟩ fl):=λ{R}=>by rw[kq (g:=nmD) SV (by omega),e2]
   have hsz:fl.length<PySem.sizeLine:=by rw[PySem.sizeLine_eq];omega
   have ap:∀{De:Ends3}{E:XN}{x7:Option D}{y0:Option D}{x6:Option D},lf W (.var 5) De E [y0,some (nmD x),some (.ref a),some (.ref b),some (.ref f),some (nmD z),x6,x7] (.ref f) (HG M0 a b f ⟨ins s.S z (u+w),ins s.B z x⟩ fl)=De.nx [y0,some (nmD x),some (.ref a),some (.ref b),some (.ref f),some (nmD z),x6,x7] (HG M0 a b f ⟨ins s.S z (u+w),ins s.B z x⟩ (fl++[z])):=λ{De E x7 y0 x6}=>by
    rw[yu gf];simp only[F9];rw[wA gf,e3];simp[hsz]
   rw[<-QF];cases hz:lk s.S z with
   |none=>
    simp[bc,eD,wpG,hS,↓i1,↓i2,hz,↓s1,↓s2,↓ap]
   |some v=>
    have i3:∀{Q:VK3},ao (.ref a) (nmD z) (HG M0 a b f s fl) Q=Q (.int v) (HG M0 a b f s fl):=λ{Q}=>oK (g:=D.int) ga hz
    have QG:u+w<v:=by unfold i9 at hl;rw[hz]at hl;simpa using hl
    simp[bc,eD,wpG,hS,↓i1,↓i2,hz,↓i3,QG,↓s1,↓s2,↓ap]
  ·have hr:rl x (s,fl) (z,w)=(s,fl):=by
    unfold rl;simp only[hx];rw[Jm hl]
   have QF:=ih s fl hx (by omega) (by omega) (by omega) (some (nmD z)) (some (.int w)) (some (.int (u+w))) (λx5 x6 x7=>by
    have:=hR x5 x6 x7;rw[List.foldl_cons,hr]at this;exact this)
   rw[<-QF];cases hz:lk s.S z with
   |none=>unfold i9 at hl;rw[hz]at hl;exact absurd rfl hl
   |some v=>
    have i3:∀{Q:VK3},ao (.ref a) (nmD z) (HG M0 a b f s fl) Q=Q (.int v) (HG M0 a b f s fl):=λ{Q}=>oK (g:=D.int) ga hz
    have QG:¬ u+w<v:=by unfold i9 at hl;rw[hz]at hl;simpa using hl
    simp[bc,eD,wpG,hS,↓i1,↓i2,hz,↓i3,QG]
end
section
variable {cls b_ d_:Nat->PySem.Addr}{M M0:MH}{Q:VK3}{E:XN}{n:Nat}{a b c d f r:PySem.Addr}{x y:Nm}
noncomputable abbrev dR(row:List (Nm×Int)):DO:=.dt (K1 row) (row.map λe=>.int e.2)
theorem vk{φ:PySem.Heap->Prop}{s:SB}(hf:M f=none)(ha:M a=some (dS s.S))(hb:M b=some (dB s.B))(LF:r≠a)(LG:r≠b)(Mi:r≠f)(D_:a≠b):put (put M f (.lst [])) r (.J_ φ)=HG (put M r (.J_ φ)) a b f s []:=by
 have L5:a≠f:=λe=>by rw[e,hf]at ha;cases ha
 have Lm:b≠f:=λe=>by rw[e,hf]at hb;cases hb
 funext q;unfold HG put;by_cases q1:q=r
 ·simp[q1,LF,LG,Mi]
 ·by_cases q2:q=f
  ·simp[q2,JA Mi]
  ·by_cases q3:q=b
   ·simp[q3,Lm,hb,JA LG]
   ·by_cases q4:q=a
    ·simp[q4,L5,ha,JA LF,D_]
    ·simp[q1,q2,q3,q4]
theorem Cd{φ:PySem.Heap->Prop}{s:SB}{o u v:DO}{fl:List Nm}(hf:M f=none)(ha:M a=some u)(hb:M b=some v)(hr:M r=some o)(LF:r≠a)(LG:r≠b):av M (L2.del (put (HG (put M r (.J_ φ)) a b f s fl) r o) f)=put (put M a (dS s.S)) b (dB s.B):=by
 have L5:a≠f:=λe=>by rw[e,hf]at ha;cases ha
 have Lm:b≠f:=λe=>by rw[e,hf]at hb;cases hb
 have Mi:r≠f:=λe=>by rw[e,hf]at hr;cases hr
 funext q;unfold HG av L2.del put;by_cases q1:q=r
 ·simp[q1,LF,LG,Mi,hr]
 ·by_cases q2:q=f
  ·simp[q2,hf,JA Lm,JA L5]
  ·by_cases q3:q=b
   ·simp[q3,Lm,hb,JA LG]
   ·by_cases q4:q=a
    ·simp[q4,L5,ha,JA LF,q3]
    ·simp[q1,q2,q3,q4];cases M q<;>rfl
theorem zm{row:List (Nm×Int)}{s:SB}{u:Int}(hM:Fm M)(ha:M a=some (dS s.S))(hb:M b=some (dB s.B))(hr:M r=some (dR row))(LF:r≠a)(LG:r≠b)(D_:a≠b)(hx:lk s.S x=some u)(LA:∀e∈row,e.1≠x)(h1:s.S.length+row.length<800)(h2:s.B.length+row.length<800) :
  aa T (B cls b_ d_) (n+1) 22 [.ref r,nmD x,.ref a,.ref b] M Q E=Q (.g_ ((goF x row s).2.map nmD)) (put (put M a (dS (goF x row s).1.S)) b (dB (goF x row s).1.B)):=by
 rw[xV];simp[mi,rj];refine iff_of_eq (aC hM λf hf=>?_)
 have L5:a≠f:=λe=>by rw[e,hf]at ha;cases ha
 have Lm:b≠f:=λe=>by rw[e,hf]at hb;cases hb
 have Mi:r≠f:=λe=>by rw[e,hf]at hr;cases hr
 have OB:put M f (.lst []) r=some (dR row):=by rw[af Mi];exact hr
 unfold uc;simp only[OB,oG];have key:∀φ:PySem.Heap->Prop,(aJ {toWB:=B cls b_ d_,call:=aa T (B cls b_ d_) n} (ITg.tup [5,6]) bc (λx TU TV=>False) (λM=>M r=some (DO.J_ φ)) (qG r φ (K1 row) (row.map λe=>.int e.2) {nx:=λm_ M'=>aR {toWB:=B cls b_ d_,call:=aa T (B cls b_ d_) n} (ISs.cons (IS.ret (IE.var 4).t_) ISs.nil) {nx:=λx M'=>Q D.i_ (av M M'),rt:=λv M'=>Q v (av M M')} (λx i M'=>E i (av M M')) m_ M',rt:=λv M'=>Q v (av M M')}) (row.map eD) [some (D.ref r),some (nmD x),some (D.ref a),some (D.ref b),some (D.ref f),none,none,none] (put (put M f (DO.lst [])) r (DO.J_ φ)))=Q (.g_ ((goF x row s).2.map nmD)) (put (put M a (dS (goF x row s).1.S)) b (dB (goF x row s).1.B)):=λφ=>by
  rw[vk hf ha hb LF LG Mi D_];refine sj D_ L5 Lm LF LG Mi ac row s [] none none none hx LA h1 h2 (by simp;omega) λx5 x6 x7=>?_
  have g1:HG (put M r (.J_ φ)) a b f (goF x row s).1 (goF x row s).2 r=some (.J_ φ):=by unfold HG;rw[af Mi,af LG,af LF,ac]
  have g2:put (HG (put M r (.J_ φ)) a b f (goF x row s).1 (goF x row s).2) r (dR row) f=some (.lst ((goF x row s).2.map nmD)):=by rw[af (JA Mi)];exact ac
  change (HG (put M r (.J_ φ)) a b f (goF x row s).1 (goF x row s).2 r=some (.J_ φ)/\aR _ _ _ _ _ (put (HG (put M r (.J_ φ)) a b f (goF x row s).1 (goF x row s).2) r (dR row)))=_;rw[<-Cd (φ:=φ) (s:=(goF x row s).1) (fl:=(goF x row s).2) hf ha hb hr LF LG];generalize put (HG (put M r (.J_ φ)) a b f (goF x row s).1 (goF x row s).2) r (dR row)=M9 at g2 ⊢;simp[g1,aX,g2]
 simp only[key];exact propext ⟨λh=>h (λ_=>True),λh _=>h⟩
end
section
variable {cls b_ d_:Nat->PySem.Addr}{M M0:MH}{Q:VK3}{E:XN}{n:Nat}{a b c d f r kd:PySem.Addr}{x y x0:Nm}{N:Nt}{p:Nm->Int}{rp:Nm->PySem.Addr}
theorem rN{k:Nm}:∀{l:List Nm},l.Nodup->(ai l k).Nodup
 |[],_=>by simp[ai]
 |q::l,h=>by
  rw[JN]at h;simp only[ai];split
  ·exact JN.mpr h
  ·rename_i e;refine JN.mpr ⟨λz=>?_,rN h.2⟩
   rcases put1_mem.mp z with z|z
   ·exact e z
   ·exact h.1 z
theorem mR:∀{fl ag:List Nm},ag.Nodup->(fl.foldl ai ag).Nodup
 |[],_,h=>h
 |_::fl,_,h=>mR (fl:=fl) (rN h)
theorem oP{k:Nm}:∀{l:List Nm},(ai l k).length<=l.length+1
 |[]=>by simp[ai]
 |q::l=>by
  have:=oP (k:=k) (l:=l);simp only[ai];split<;>simp<;>omega
theorem ve:∀(post:List (Nm×Int)) (s:SB)(fl:List Nm),(post.foldl (rl x) (s,fl)).2.length<=fl.length+post.length
 |[],_,_=>by simp
 |e::post,s,fl=>by
  rw[List.foldl_cons];have h:(rl x (s,fl) e).2.length<=fl.length+1:=by
   unfold rl;cases lk s.S x with
   |none=>simp
   |some u=>simp only[];split<;>simp
  have:=ve post (rl x (s,fl) e).1 (rl x (s,fl) e).2;rw[show ((rl x (s,fl) e).1,(rl x (s,fl) e).2)=rl x (s,fl) e from rfl]at this;simp only[Jx];omega
theorem J.sz{pend:Nm->Prop}{s:SB}(I:J N x0 pend s):s.S.length<=N.ks.length/\s.B.length<=N.ks.length:=by
 have h1:=km (k:=N.ks) I.nd λz hz=>by
  obtain⟨v,hv⟩:=JS.mp (lk_key.mp hz);exact (I.k z v hv).1
 have h2:=km (k:=N.ks) I.bn I.b;simpa [K1] using And.intro h1 h2
theorem WN.sz(W:WN N)(hx:x∈N.ks):(N.row x).length<=N.ks.length:=by
 have:=km (k:=N.ks) (W.row x hx).1 λz hz=>by
  obtain⟨e,he,rfl⟩:=JM.mp hz;exact ((W.row x hx).2 e he).1
 simpa [K1] using this
noncomputable def lR(N:Nt)(rp:Nm->PySem.Addr):List (Nm×PySem.Addr):=N.ks.map λz=>(z,rp z)
noncomputable def dK(N:Nt)(rp:Nm->PySem.Addr):DO:=.dt (K1 (lR N rp)) ((lR N rp).map λe=>.ref e.2)
theorem rY{l:List Nm}:lk (l.map λz=>(z,rp z)) x=if x∈l then some (rp x) else none:=by
 induction l with
 |nil=>rfl
 |cons q l ih=>
  simp only[List.map_cons,lk,ih,Jq];by_cases h:q=x
  ·simp[h]
  ·simp[h,JA h]
structure Eg (M:MH)(kd:PySem.Addr)(rp:Nm->PySem.Addr)(N:Nt):Prop where
 kd:M kd=some (dK N rp)
 row:∀z∈N.ks,M (rp z)=some (dR (N.row z))
theorem Eg.mono{M':MH}(h:Eg M kd rp N)(hm:∀q o,M q=some o->M' q=some o):Eg M' kd rp N:=⟨hm _ _ h.kd,λz hz=>hm _ _ (h.row z hz)⟩
theorem Eg.ix(h:Eg M kd rp N)(hx:x∈N.ks):ao (.ref kd) (nmD x) M Q=Q (.ref (rp x)) M:=oK (g:=D.ref) h.kd (by unfold lR;rw[rY,Js hx])
noncomputable def dA(ag:List Nm):DO:=.dt ag (ag.map λ_=>.bl true)
theorem rE:∀{ag:List Nm},aq ag (ag.map λ_=>D.bl true) y (.bl true)=(ai ag y).map λ_=>D.bl true
 |[]=>by simp[ai,aq]
 |q::ag=>by
  have ih:=rE (ag:=ag);simp only[List.map_cons,ai,aq];split
  ·simp
  ·simp[ih]
theorem Bi{ag:List Nm}{R:MH->Prop}(hz:ag.length<900):aE (.ref c) (nmD y) (.bl true) (put M c (dA ag)) R=R (put M c (dA (ai ag y))):=by
 have hs:ag.length<PySem.sizeLine:=by rw[PySem.sizeLine_eq];omega
 simp only[aE,ac,dA,cV,rE,hs,true_and,ba]
theorem sF{W:WC}{De:Ends3}{ES:St3->XN}{R:Prop}{y0 y1 y2 y3 y5:Option D}:∀(fl ag:List Nm)(x6:Option D),ag.length+fl.length<800->(∀x6,De.nx [y0,y1,y2,y3,some (.ref c),y5,x6] (put M c (dA (fl.foldl ai ag)))=R)->
  aJ W (.name 6) eT ES (λ_=>True) De (fl.map nmD) [y0,y1,y2,y3,some (.ref c),y5,x6] (put M c (dA ag))=R
 |[],ag,x6,_,hR=>by
  rw[List.map_nil,aS];simpa using hR x6
 |z::fl,ag,x6,hz,hR=>by
  have h1:(ai ag z).length<=ag.length+1:=oP;simp only[Jx]at hz;rw[List.map_cons,ar,<-sF (W:=W) (ES:=ES) fl (ai ag z) (some (nmD z)) (by omega) hR]
  simp[eT,wpG,Bi (show ag.length<900 by omega)]
noncomputable def HS(M0:MH)(a b c:PySem.Addr)(s:SB)(ag:List Nm):MH:=put (put (put M0 a (dS s.S)) b (dB s.B)) c (dA ag)
theorem ss{De:Ends3}{ES:St3->XN}{R:Prop}{y3:Option D}(hM:Fm M0)(W:WN N)(hp:Pot N p)(hk:N.ks.length<200)(D_:a≠b)(OA:a≠c)(QH:b≠c)(ha:kd≠a)(hb:kd≠b)(hc:kd≠c)(LF:∀z∈N.ks,rp z≠a)(LG:∀z∈N.ks,rp z≠b)(Pb:∀z∈N.ks,rp z≠c)(hE:Eg M0 kd rp N) :
  ∀(fs:List Nm)(s:SB)(ag:List Nm)(x5 x6:Option D),J N x0 (λz=>z∈fs\/z∈ag) s->ag.Nodup->
  (∀x5 x6,De.nx [some (.ref kd),some (.ref a),some (.ref b),y3,some (.ref c),x5,x6] (HS M0 a b c (fs.foldl (fM N) (s,ag)).1 (fs.foldl (fM N) (s,ag)).2)=R)->
  aJ {toWB:=B cls b_ d_,call:=aa T (B cls b_ d_) (n+1)} (.name 5) cL ES (λ_=>True) De (fs.map nmD) [some (.ref kd),some (.ref a),some (.ref b),y3,some (.ref c),x5,x6] (HS M0 a b c s ag)=R
 |[],s,ag,x5,x6,_,_,hR=>by
  rw[List.map_nil,aS];simpa using hR x5 x6
 |x::fs,s,ag,x5,x6,I,hn,hR=>by
  obtain⟨u,hu⟩:=JS.mp (I.pd x (.inl Jo));have xk:=(I.k x u hu).1;have I':=(ph W hp I).1;have z1:=I.sz;have z2:=W.sz xk;have z3:ag.length<=N.ks.length:=km hn λz hz=>by
   obtain⟨v,hv⟩:=JS.mp (I.pd z (.inr hz));exact (I.k z v hv).1
  have z4:(goF x (N.row x) s).2.length<=0+(N.row x).length:=ve (N.row x) s [];have ga:HS M0 a b c s ag a=some (dS s.S):=by unfold HS;rw[af OA,af D_,ac]
  have gb:HS M0 a b c s ag b=some (dB s.B):=by unfold HS;rw[af QH,ac]
  have gE:∀q,q≠a->q≠b->q≠c->HS M0 a b c s ag q=M0 q:=λq q1 q2 q3=>by unfold HS;rw[af q3,af q2,af q1]
  have gK:Eg (HS M0 a b c s ag) kd rp N:=⟨by rw[gE _ ha hb hc];exact hE.kd,λz hz=>by rw[gE _ (LF z hz) (LG z hz) (Pb z hz)];exact hE.row z hz⟩
  have i1:∀{Q:VK3},ao (.ref kd) (nmD x) (HS M0 a b c s ag) Q=Q (.ref (rp x)) (HS M0 a b c s ag):=λ{Q}=>gK.ix xk
  have i2:∀{Q:VK3}{E:XN},aa T (B cls b_ d_) (n+1) 22 [.ref (rp x),nmD x,.ref a,.ref b] (HS M0 a b c s ag) Q E=Q (.g_ ((goF x (N.row x) s).2.map nmD)) (HS M0 a b c (goF x (N.row x) s).1 ag):=λ{Q E}=>by
   rw[zm (M:=HS M0 a b c s ag) (((hM.put _ _).put _ _).put _ _) ga gb (gK.row x xk) (LF x xk) (LG x xk) D_ hu (λe he=>((W.row x xk).2 e he).2) (by omega) (by omega)]
   unfold HS;rw[rD D_ OA,ny QH]
  have ih:=λx6=>ss (De:=De) (ES:=ES) (R:=R) (y3:=y3) hM W hp hk D_ OA QH ha hb hc LF LG Pb hE fs _ _ (some (nmD x)) x6 I' (mR hn) (λx5 x6=>by have:=hR x5 x6;rw[List.foldl_cons]at this;exact this)
  rw[List.map_cons,ar];generalize aJ {toWB:=B cls b_ d_,call:=aa T (B cls b_ d_) (n+1)} (.name 5) cL ES (λ_=>True) De (fs.map nmD)=K at ih ⊢
  simp[cL,wpG,↓i1,↓i2];refine iff_of_eq (sF _ ag x6 (by omega) λx6=>?_)
  exact ih x6
end
section
variable {cls b_ d_:Nat->PySem.Addr}{M M0:MH}{Q:VK3}{E:XN}{n:Nat}{a b c d f r kd:PySem.Addr}{x y x0:Nm}{N:Nt}{p:Nm->Int}{rp:Nm->PySem.Addr}
theorem CW{W:WC}{cn:IT}{body:ISs}{De:Ends3}{ES:St3->XN}{Z:St3}:wpS W (.Oc cn body) De ES Z M=∃P:Nat->St3->MH->Prop,(∃m,P m Z M)/\∀m Z M,P m Z M->wpT W cn Z M (λb M1=>if b=true then aR W body {De with nx:=λm_ M'=>∃m',m' < m/\P m' m_ M',ct:=λm_ M'=>∃m',m' < m/\P m' m_ M',bk:=De.nx} ES Z M1 else De.nx Z M1) (ES Z):=rfl
noncomputable def HB(M0:MH)(a b:PySem.Addr)(s:SB):MH:=put (put M0 a (dS s.S)) b (dB s.B)
theorem CQ{s:SB}{ag:List Nm}(OC:c≠a)(OE:c≠b):HS M0 a b c s ag=HB (put M0 c (dA ag)) a b s:=by
 unfold HS HB;funext q;unfold put;by_cases q1:q=c
 ·simp[q1,OC,OE]
 ·simp[q1]
theorem xX{s:SB}{u v:DO}(hm:∀q o,M q=some o->M0 q=some o)(ha:M a=some u)(hb:M b=some v):av M (HB M0 a b s)=HB M a b s:=by
 unfold HB;rw[gC hb,gC ha];congr 2;funext q;unfold av;cases h:M q with
 |none=>rfl
 |some o=>exact hm q o h
theorem za{l:List Nm}:l.map jd=l.map nmD:=rfl
theorem mX{ks:List Nm}{es:List D}(h:M c=some (.dt ks es)):rBi (.list true) [.ref c] M Q=(ks.length<=PySem.sizeLine/\Q (.g_ (ks.map nmD)) M):=by
 simp[rBi,ax,am,h,cI,dX,za]
theorem uK:∀{fs:List Nm}{st:SB×List Nm},st.2.Nodup->(fs.foldl (fM N) st).2.Nodup
 |[],_,h=>h
 |_::fs,_,h=>by rw[List.foldl_cons];exact uK (mR h)
def PS(M:MH)(kd a b:PySem.Addr)(N:Nt)(x0:Nm)(sf:SB)(m:Nat)(Z:St3)(M':MH):Prop:=∃(s:SB)(fs:List Nm)(x4 x5 x6:Option D)(M1:MH),Z=[some (.ref kd),some (.ref a),some (.ref b),some (.g_ (fs.map nmD)),x4,x5,x6]/\M'=HB M1 a b s/\Fm M1/\(∀q o,M q=some o->M1 q=some o)/\J N x0 (λz=>z∈fs) s/\Run N m s fs sf
theorem xp{s0 sf:SB}{m:Nat}(hM:Fm M)(W:WN N)(hp:Pot N p)(hk:N.ks.length<200)(D_:a≠b)(ha:M a=some (dS s0.S))(hb:M b=some (dB s0.B))(SW:kd≠a)(Mn:kd≠b)(LF:∀z∈N.ks,rp z≠a)(LG:∀z∈N.ks,rp z≠b)(hE:Eg M kd rp N)(I:J N x0 (λz=>z∈K1 s0.S) s0)(R:Run N m s0 (K1 s0.S) sf)(hQ:Q .i_ (HB M a b sf)) :
  aa T (B cls b_ d_) (n+2) 23 [.ref kd,.ref a,.ref b] M Q E:=by
 have z0:=I.sz.1;rw[uQ];have SX:M a=some (.dt (K1 s0.S) (s0.S.map λp=>.int p.2)):=ha
 have hl:(K1 s0.S).length<=PySem.sizeLine:=by rw[Jv,PySem.sizeLine_eq];omega
 simp[kh,mX SX,CW];refine⟨by simpa using hl,PS M kd a b N x0 sf,⟨m,s0,K1 s0.S,none,none,none,M,by simp,?_,hM,λ_ _ h=>h,I,R⟩,?_⟩
 ·unfold HB;funext q;unfold put;by_cases q1:q=b
  ·simp[q1,hb]
  ·by_cases q2:q=a
   ·subst q2;simp[q1,ha]
   ·simp[q1,q2]
 ·rintro m Z M' ⟨s,fs,x4,x5,x6,M1,rfl,rfl,QI,hm,I,R⟩;cases R with
  |done=>
   simp;rw[xX hm ha hb];exact hQ
  |@step m' _ _ _ LA R=>
   have h0:0<fs.length:=List.length_pos_iff.mpr LA;have h1:Fm (HB M1 a b s):=(QI.put _ _).put _ _;simp[h0,iZ];intro c hc;have OE:c≠b:=λe=>by unfold HB at hc;rw[e,ac]at hc;cases hc
   have OC:c≠a:=λe=>by unfold HB at hc;rw[e,af D_,ac]at hc;cases hc
   have QJ:M1 c=none:=by unfold HB at hc;rw[af OE,af OC]at hc;exact hc
   have QK:=hE.mono hm;have PH:kd≠c:=λe=>by have:=QK.kd;rw[e,QJ]at this;cases this
   have Pb:∀z∈N.ks,rp z≠c:=λz hz e=>by have:=QK.row z hz;rw[e,QJ]at this;cases this
   obtain⟨J1,_⟩:=jI W hp fs s [] (I.mono (λz hz=>.inl hz) λz hz=>I.pd z (by simpa using hz))
   have J2:((stepF N s fs).2).Nodup:=uK List.nodup_nil;have J3:(stepF N s fs).2.length<=N.ks.length:=km J2 λz hz=>by
    obtain⟨v,hv⟩:=JS.mp (J1.pd z hz);exact (J1.k z v hv).1
   change aJ _ _ _ _ _ _ _ _ (HS M1 a b c s []);have OM:HS M1 a b c (stepF N s fs).1 (stepF N s fs).2 c=some (.dt (stepF N s fs).2 ((stepF N s fs).2.map λ_=>.bl true)):=ac
   have SY:(stepF N s fs).2.length<=PySem.sizeLine:=by rw[PySem.sizeLine_eq];omega
   rw[ss (R:=True) QI W hp hk D_ (JA OC) (JA OE) SW Mn PH LF LG Pb QK fs s [] _ _ (I.mono (λz hz=>.inl hz) λz hz=>I.pd z (by simpa using hz)) List.nodup_nil]
   ·trivial
   ·intro x5 x6;refine eq_true ?_;simp[mX OM,SY];refine⟨m',Nat.lt_succ_self _,(stepF N s fs).1,(stepF N s fs).2,some (.ref c),x5,x6,put M1 c (dA (stepF N s fs).2),rfl,CQ OC OE,QI.put _ _,λq o h=>?_,J1,R⟩
    rw[af (λe=>by rw[e]at h;have:=hm _ _ h;rw[QJ]at this;cases this)]
    exact hm q o h
end
section
variable {cls b_ d_:Nat->PySem.Addr}{M M0:MH}{Q:VK3}{E:XN}{n:Nat}{a b c d f r kd nn:PySem.Addr}{x y x0:Nm}{N:Nt}{p:Nm->Int}{rp:Nm->PySem.Addr}
theorem Eg.nin(h:Eg M kd rp N):aI .NotIn (nmD x) (.ref kd) M Q=Q (.bl (!decide (x∈N.ks))) M:=by
 rw[qN (g:=D.ref) h.kd];unfold lR;rw[rY];by_cases h:x∈N.ks<;>simp[h]
theorem Ad(h:Eg M kd rp N)(hx:x∈N.ks):aa T (B cls b_ d_) (n+1) 21 [.ref kd,nmD x] M Q E=Q .i_ M:=by
 rw[ir];simp[bM,h.nin,hx]
theorem uR{s:SB}{u v:DO}(D_:a≠b):HB (put (put M a u) b v) a b s=HB M a b s:=by
 unfold HB;rw[ny D_,ba]
theorem xA{s:SB}(ha:M a=none)(hb:M b=none):av M (HB M a b s)=M:=by
 unfold HB;rw[eR hb,eR ha,ul]
theorem Eg.ne(h:Eg M kd rp N)(ha:M a=none):kd≠a/\∀z∈N.ks,rp z≠a:=
 ⟨λe=>(by have:=h.kd;rw[e,ha]at this;cases this),λz hz e=>(by have:=h.row z hz;rw[e,ha]at this;cases this)⟩
theorem Eg.new{o:DO}(h:Eg M kd rp N)(ha:M a=none):Eg (put M a o) kd rp N:=h.mono λq u hq=>by
 rw[af (λe=>by rw[e,ha]at hq;cases hq)];exact hq
theorem sK(hM:Fm M)(W:WN N)(hp:Pot N p)(hk:N.ks.length<200)(hE:Eg M kd rp N)(hx:x∈N.ks)
  (hQ:∀a b s,M a=none->M b=none->a≠b->J N x (λ_=>False) s->Q (.ref a) (HB M a b s)):aa T (B cls b_ d_) (n+3) 24 [.ref kd,nmD x] M Q E:=by
 rw[zA];simp[mN,Ad hE hx];intro a ha;simp[iN,cV,ba];refine⟨ac,λb hb=>?_⟩
 have D_:a≠b:=λe=>by rw[<-e,ac]at hb;cases hb
 have Ru:M b=none:=by rwa [af (JA D_)]at hb
 obtain⟨m,s,R,I⟩:=Eh W hp ⟨[(x,0)],[]⟩ [x] (J.start W hx);have e1:=hE.ne ha;have e2:=hE.ne Ru;refine xp (s0:=⟨[(x,0)],[]⟩) ((hM.put _ _).put _ _) W hp hk D_ (by rw[af D_,ac];rfl) ac e1.1 e2.1 e1.2 e2.2 ((hE.new ha).new hb) (J.start W hx) R ?_
 rw[uR D_];exact hQ a b s ha Ru D_ I
structure NT (b_:Nat->PySem.Addr)(M:MH)(nn kd:PySem.Addr)(rp:Nm->PySem.Addr)(N:Nt):Prop where
 nn:M nn=some (.ins 5 (b_ 5) [245117675] [.ref kd])
 eg:Eg M kd rp N
 inj:∀x∈N.ks,∀y∈N.ks,rp x=rp y->x=y
 fm:Fm M
 wn:WN N
 sz:N.ks.length<200
theorem NT.fld(h:NT b_ M nn kd rp N):dQ (B cls b_ d_) 245117675 (.ref nn) M Q=Q (.ref kd) M:=by
 simp[dQ,h.nn]
theorem NT.mth{m f:Nat}{R:Nat->Prop}(h:NT b_ M nn kd rp N)(hm:G.mth 5 m=some f)(h1:245117675≠m):cj (B cls b_ d_) m (.ref nn) M R=R f:=by
 simp[cj,h.nn,hm,h1]
theorem Cq{o:Option Int}:(o.map D.int).getD .i_=oi o:=by cases o<;>rfl
theorem wR(h:NT b_ M nn kd rp N)(hp:Pot N p)(hx:x∈N.ks)(hy:y∈N.ks)(hQ:∀o,IsD N x y o->Q (oi o) M):aa T (B cls b_ d_) (n+4) 33 [.ref nn,nmD x,nmD y] M Q E:=by
 rw[ql];simp[gh,h.fld,Ad h.eg hy];refine sK h.fm h.wn hp h.sz h.eg hx λa b s ha hb D_ I=>?_
 have ga:HB M a b s a=some (.dt (K1 s.S) (s.S.map λp=>.int p.2)):=by unfold HB;rw[af D_,ac];rfl
 simp[Ab (g:=D.int) ga,xU (g:=D.int) ga,xA ha hb];rw[Cq];exact hQ _ (I.isD y)
end
section
variable {cls b_ d_:Nat->PySem.Addr}{M M0:MH}{Q:VK3}{E:XN}{n:Nat}{a b c d f r kd nn:PySem.Addr}{x y x0:Nm}{N:Nt}{p:Nm->Int}{rp:Nm->PySem.Addr}
theorem mL:∀{x y:List Int},cH (x.map D.int) (y.map D.int)=decide (x=y)
 |[],[]=>by simp[cH]
 |[],_::_=>by simp[cH]
 |_::_,[]=>by simp[cH]
 |i::x,j::y=>by
  simp only[List.map_cons,cH,eqD,mL (x:=x) (y:=y)];by_cases h:i=j<;>simp[h]
theorem Dg:aI .Eq (nmD x) (nmD y) M Q=Q (.bl (decide (x=y))) M:=by
 simp[aI,ij,rs,am,nmD,plN,eqD,mL]
theorem Gf{m:Int}(h:NT b_ M nn kd rp N)(hp:Pot N p)(hx:x∈N.ks)(hy:y∈N.ks)(hm:p y-p x<=m)(hQ:Q .i_ M):aa T (B cls b_ d_) (n+5) 26 [.ref nn,nmD x,nmD y,.int m] M Q E:=by
 rw[gI];simp[bu,h.fld,h.eg.nin,hx,hy,h.mth dE];refine wR h hp hy hx λo ho=>?_
 cases o with
 |none=>simpa [oi] using hQ
 |some d=>
  have:=ho.1.pot hp;have hd:¬ d+m<0:=by omega
  simpa [oi,hd] using hQ
theorem fY(h:NT b_ M nn kd rp N)(hx:x∈N.ks):aa T (B cls b_ d_) (n+1) 27 [.ref nn,nmD x] M Q E=Q .i_ M:=by
 rw[j4];simp[dJ,h.fld,h.eg.nin,hx]
theorem NT.add{m:Int}(h:NT b_ M nn kd rp N)(hx:x∈N.ks)(hy:y∈N.ks)(hn:x≠y):NT b_ (put M (rp x) (dR (ins (N.row x) y (min m ((lk (N.row x) y).getD m))))) nn kd rp (jv N x y m):=by
 have hr:=h.eg.row x hx;have n1:nn≠rp x:=λe=>by have:=h.nn;rw[e,hr]at this;cases this
 have n2:kd≠rp x:=λe=>by
  have:=h.eg.kd;rw[e,hr]at this;unfold dK dR at this;injection this with this
  injection this with t1 t2
  have hl:(lR N rp).length≠0:=by
   unfold lR;rw[Jv];have:=List.length_pos_of_mem hx;omega
  cases h1:lR N rp with
  |nil=>rw[h1]at hl;exact hl rfl
  |cons u l=>
   cases h2:N.row x with
   |nil=>rw[h1,h2]at t2;cases t2
   |cons v k=>rw[h1,h2]at t2;simp at t2
 refine⟨by rw[af n1];exact h.nn,⟨by rw[af n2];exact h.eg.kd,λz hz=>?_⟩,h.inj,h.fm.put _ _,ji h.wn hy hn,h.sz⟩
 have hz:z∈N.ks:=hz;show _=some (dR (if z=x then _ else _))
 by_cases e:z=x
 ·subst e;rw[ac,Js rfl]
 ·rw[af (λq=>e (h.inj z hz x hx q)),Jm e];exact h.eg.row z hz
theorem C7{m:Int}(h:NT b_ M nn kd rp N)(hp:Pot N p)(hx:x∈N.ks)(hy:y∈N.ks)(hn:x≠y)(hm:p y-p x<=m)(hQ:∀u v,M (rp x)=some v->NT b_ (put M (rp x) u) nn kd rp (jv N x y m)->Q .i_ (put M (rp x) u)):aa T (B cls b_ d_) (n+6) 28 [.ref nn,nmD x,nmD y,.int m] M Q E:=by
 have hr:=h.eg.row x hx;have OB:M (rp x)=some (.dt (K1 (N.row x)) ((N.row x).map λe=>.int e.2)):=hr
 rw[ub];simp[iB,Dg,hn,h.mth gG];refine Gf h hp hx hy hm ?_;simp[h.mth jV,fY h hx,fY h hy,h.fld,h.eg.ix hx,Ab (g:=D.int) OB,Cw (g:=D.int) OB];have hz:=h.wn.sz hx;have Oi:=h.sz;have QM:(if (lk (N.row x) y).getD m<m then (lk (N.row x) y).getD m else m)=min m ((lk (N.row x) y).getD m):=by
  split<;>omega
 rw[QM,kq (g:=D.int) OB (by omega)]
 exact hQ _ _ hr (h.add hx hy hn)
end
section
variable {cls b_ d_:Nat->PySem.Addr}{M M0:MH}{Q:VK3}{E:XN}{n:Nat}{nn kd:PySem.Addr}{x y:Nm}{N:Nt}{p:Nm->Int}{rp:Nm->PySem.Addr}{W:WC}
noncomputable def dU(N:Nt)(x:Nm):Nt:=if x∈N.ks then N else⟨N.ks++[x],λz=>if z=x then [] else N.row z⟩
theorem addK_mem{z:Nm}:z∈(dU N x).ks<->z=x\/z∈N.ks:=by
 unfold dU;split
 ·rename_i h;exact⟨.inr,λe=>e.elim (λe=>e▸h) id⟩
 ·simp[or_comm]
theorem jK:(dU N x).ks.length<=N.ks.length+1:=by
 unfold dU;split<;>simp
theorem rX(h:WN N):WN (dU N x):=by
 unfold dU;split
 ·exact h
 ·rename_i hx;refine⟨List.nodup_append.mpr ⟨h.nd,by simp,λa ha b hb=>by rw[JB.mp hb];exact λe=>hx (e▸ha)⟩,λz hz=>?_⟩
  simp only;by_cases e:z=x
  ·rw[Js e];exact⟨List.nodup_nil,λ_ h=>by cases h⟩
  ·rw[Jm e];have Mw:z∈N.ks:=by simpa [e] using hz
   exact⟨(h.row z Mw).1,λq hq=>⟨J8 _ ((h.row z Mw).2 q hq).1,((h.row z Mw).2 q hq).2⟩⟩
structure NX (b_:Nat->PySem.Addr)(M0 M:MH)(nn kd:PySem.Addr)(rp:Nm->PySem.Addr)(N:Nt):Prop where
 nt:NT b_ M nn kd rp N
 k0:M0 kd=none
 r0:∀z∈N.ks,M0 (rp z)=none
 kr:∀z∈N.ks,rp z≠kd
 ex:∀q o,M0 q=some o->M q=some o
def NY(b_:Nat->PySem.Addr)(M0 M:MH)(nn:PySem.Addr)(N:Nt):Prop:=∃kd rp,NX b_ M0 M nn kd rp N
theorem d9{a:PySem.Addr}{o:DO}(ex:∀q u,M0 q=some u->M q=some u)(ha:M0 a=none):∀q u,M0 q=some u->put M a o q=some u:=λq u h=>by
 rw[af (λe=>by rw[e,ha]at h;cases h)];exact ex q u h
theorem none_of{a:PySem.Addr}(ex:∀q u,M0 q=some u->M q=some u)(h:M a=none):M0 a=none:=by
 cases e:M0 a with
 |none=>rfl
 |some u=>rw[ex a u e]at h;cases h
theorem mY{α:Type}{k:Nm}{v:α}:∀{l:List (Nm×α)},k∉K1 l->ins l k v=l++[(k,v)]
 |[],_=>rfl
 |(q,u)::r,h=>by
  simp only[K1,List.map_cons,Jq,not_or]at h;simp only[ins,Jm (JA h.1),List.cons_append,mY (l:=r) h.2]
theorem uO(h:NY b_ M0 M nn N)(hs:N.ks.length<190)(hQ:∀M',NY b_ M0 M' nn (dU N x)->Q .i_ M'):aa T (B cls b_ d_) (n+1) 27 [.ref nn,nmD x] M Q E:=by
 obtain⟨kd,rp,h,k0,r0,kr,ex⟩:=h;by_cases hx:x∈N.ks
 ·rw[fY h hx];exact hQ _ ⟨kd,rp,by unfold dU;rw[Js hx];exact⟨h,k0,r0,kr,ex⟩⟩
 ·rw[j4];simp[dJ,h.fld,h.eg.nin,hx];intro a ha;have na:∀{q u},M q=some u->q≠a:=λ{q u} e z=>by rw[z,ha]at e;cases e
  have up:∀{q u},M q=some u->put M a (.dt [] []) q=some u:=λ{q u} e=>by rw[af (na e)];exact e
  have h':NT b_ (put M a (.dt [] [])) nn kd rp N:=⟨up h.nn,h.eg.mono λ_ _=>up,h.inj,h.fm.put _ _,h.wn,h.sz⟩
  have hl:x∉K1 (lR N rp):=λe=>by
   rw[lk_key]at e;unfold lR at e;rw[rY,Jm hx]at e;cases e
  have el:ins (lR N rp) x a=lR (dU N x) λz=>if z=x then a else rp z:=by
   rw[mY hl];unfold lR dU;rw[Jm hx,J4];simp only[List.map_cons,if_true,List.map_nil];congr 1;exact List.map_congr_left λz hz=>by rw[Jm (λe=>hx (e▸hz):z≠x)]
  rw[h'.fld,kq (g:=D.ref) h'.eg.kd (by unfold lR;rw[Jv];omega),el]
  have nk:nn≠kd:=λe=>by have:=h.nn;rw[e,h.eg.kd]at this;cases this
  have ka:=na h.eg.kd;refine hQ _ ⟨kd,λz=>if z=x then a else rp z,⟨by rw[af nk];exact h'.nn,⟨ac,λz hz=>?_⟩,λz hz w hw e=>?_,(h.fm.put _ _).put _ _,rX h.wn,Nat.lt_of_le_of_lt jK (by omega)⟩,k0,λz hz=>?_,λz hz=>?_,d9 (d9 ex (none_of ex ha)) k0⟩
  ·show put _ kd _ (if z=x then a else rp z)=some (dR ((dU N x).row z))
   have er:(dU N x).row z=if z=x then [] else N.row z:=by unfold dU;rw[Jm hx]
   rw[er];by_cases e:z=x
   ·rw[Js e,Js e,af (JA ka),ac];rfl
   ·have hz:=(addK_mem.mp hz).resolve_left e;rw[Jm e,Jm e,af (kr z hz)];exact up (h.eg.row z hz)
  ·by_cases e1:z=x
   ·by_cases e2:w=x
    ·rw[e1,e2]
    ·rw[Js e1,Jm e2]at e;exact absurd e.symm (na (h.eg.row w ((addK_mem.mp hw).resolve_left e2)))
   ·by_cases e2:w=x
    ·rw[Jm e1,Js e2]at e;exact absurd e (na (h.eg.row z ((addK_mem.mp hz).resolve_left e1)))
    ·rw[Jm e1,Jm e2]at e;exact h.inj z ((addK_mem.mp hz).resolve_left e1) w ((addK_mem.mp hw).resolve_left e2) e
  ·split
   ·exact none_of ex ha
   ·rename_i e;exact r0 z ((addK_mem.mp hz).resolve_left e)
  ·split
   ·exact JA ka
   ·rename_i e;exact kr z ((addK_mem.mp hz).resolve_left e)
theorem B1{m:Int}(h:NY b_ M0 M nn N)(hp:Pot N p)(hx:x∈N.ks)(hy:y∈N.ks)(hn:x≠y)(hm:p y-p x<=m)(hQ:∀M',NY b_ M0 M' nn (jv N x y m)->Q .i_ M'):aa T (B cls b_ d_) (n+6) 28 [.ref nn,nmD x,nmD y,.int m] M Q E:=by
 obtain⟨kd,rp,h,k0,r0,kr,ex⟩:=h;exact C7 h hp hx hy hn hm λu v hv h'=>hQ _ ⟨kd,rp,h',k0,r0,kr,d9 ex (r0 x hx)⟩
noncomputable abbrev Bd:=Nm×Nm×Int
noncomputable def bD(b:Bd):D:=.tup [nmD b.1,nmD b.2.1,.int b.2.2]
noncomputable def oI(N:Nt)(b:Bd):Nt:=jv N b.1 b.2.1 b.2.2
def Bk(p:Nm->Int)(b:Bd):Prop:=p b.2.1-p b.1<=b.2.2
theorem sN{De:Ends3}{ES:St3->XN}{y0 y1:Option D}{ys:List (Option D)}:∀(xs:List Nm)(N:Nt)(M:MH)(x3:Option D),NY b_ M0 M nn N->N.ks.length+xs.length<190->(∀M' x3,NY b_ M0 M' nn (xs.foldl dU N)->De.nx (y0::y1::some (.ref nn)::x3::ys) M')->
  aJ ⟨(B cls b_ d_),aa T (B cls b_ d_) (n+1)⟩ (.name 3) eE ES (λ_=>True) De (xs.map nmD) (y0::y1::some (.ref nn)::x3::ys) M
 |[],N,M,x3,h,_,hR=>⟨trivial,hR M x3 h⟩
 |x::xs,N,M,x3,h,hl,hR=>by
  simp only[Jx]at hl;have:=jK (N:=N) (x:=x);obtain⟨kd,rp,h'⟩:=id h;rw[List.map_cons,ar];simp[eE,h'.nt.mth jV];refine uO h (by omega) λM' h'=>?_
  exact sN xs _ M' _ h' (by omega) hR
theorem pJ{De:Ends3}{ES:St3->XN}{y0 y1 y3:Option D}:∀(bs:List Bd)(N:Nt)(M:MH)(x4 x5 x6:Option D),NY b_ M0 M nn N->Pot N p->(∀b∈bs,b.1∈N.ks/\b.2.1∈N.ks/\b.1≠b.2.1/\Bk p b)->(∀M' x4 x5 x6,NY b_ M0 M' nn (bs.foldl oI N)->De.nx [y0,y1,some (.ref nn),y3,x4,x5,x6] M')->
  aJ ⟨(B cls b_ d_),aa T (B cls b_ d_) (n+6)⟩ (.tup [4,5,6]) eZ ES (λ_=>True) De (bs.map bD) [y0,y1,some (.ref nn),y3,x4,x5,x6] M
 |[],N,M,x4,x5,x6,h,_,_,hR=>⟨trivial,hR M x4 x5 x6 h⟩
 |b::bs,N,M,x4,x5,x6,h,hp,hb,hR=>by
  obtain⟨b1,b2,b3,b4⟩:=hb b Jo;obtain⟨kd,rp,h'⟩:=id h;rw[List.map_cons,ar];simp[eZ,bD,hZ,h'.nt.mth tV];refine B1 h hp b1 b2 b3 b4 λM' h'=>?_
  exact pJ bs _ M' _ _ _ h' (ou hp b4) (λc hc=>hb c (Jk _ hc)) hR
end
section
variable {cls b_ d_:Nat->PySem.Addr}{M M0:MH}{Q:VK3}{E:XN}{n:Nat}{x y:Nm}{N:Nt}{p:Nm->Int}{e_:List (Int×Int)}{wy:List Wy}{f_:List Rw}
theorem fk_mem{z:Nm}:∀{xs:List Nm}{N:Nt},z∈(xs.foldl dU N).ks<->z∈xs\/z∈N.ks
 |[],N=>by simp
 |x::xs,N=>by
  rw[List.foldl_cons,fk_mem,addK_mem,Jq];constructor
  ·rintro (h|h|h)<;>simp[h]
  ·rintro ((h|h)|h)<;>simp[h]
theorem wx:∀{xs:List Nm}{N:Nt},(∀z,N.row z=[])->∀z,(xs.foldl dU N).row z=[]
 |[],N,h=>h
 |x::xs,N,h=>wx (xs:=xs) λz=>by unfold dU;split<;>simp[h]
theorem Ac:∀{xs:List Nm}{N:Nt},WN N->WN (xs.foldl dU N)
 |[],_,h=>h
 |x::xs,_,h=>Ac (xs:=xs) (rX h)
theorem uV:∀{bs:List Bd}{N:Nt},(bs.foldl oI N).ks=N.ks
 |[],_=>rfl
 |b::bs,N=>uV (bs:=bs) (N:=oI N b)
abbrev BN(N:Nt)(b:Bd):Prop:=b.1∈N.ks/\b.2.1∈N.ks/\b.1≠b.2.1
theorem qJ:∀{bs:List Bd}{N:Nt},Pot N p->(∀b∈bs,Bk p b)->Pot (bs.foldl oI N) p
 |[],_,h,_=>h
 |b::bs,N,h,hb=>qJ (bs:=bs) (ou h (hb b Jo)) λc hc=>hb c (Jk _ hc)
theorem zM:∀{bs:List Bd}{N:Nt}{v:Int},WN N->(∀b∈bs,BN N b)->Wk N x y v->∃w,w<=v/\Wk (bs.foldl oI N) x y w
 |[],_,v,_,_,h=>⟨v,Int.le_refl _,h⟩
 |b::bs,N,v,W,hb,h=>by
  obtain⟨_,b2,b3⟩:=hb b Jo;obtain⟨v1,l1,h1⟩:=yV W h;obtain⟨v2,l2,h2⟩:=zM (bs:=bs) (ji W b2 b3) (λc hc=>hb c (Jk _ hc)) h1
  exact⟨v2,by omega,h2⟩
theorem wS:∀{bs:List Bd}{N:Nt},WN N->(∀b∈bs,BN N b)->WN (bs.foldl oI N)/\∀b∈bs,∃w,w<=b.2.2/\Wk (bs.foldl oI N) b.1 b.2.1 w
 |[],_,W,_=>⟨W,λ_ h=>by cases h⟩
 |b::bs,N,W,hb=>by
  obtain⟨b1,b2,b3⟩:=hb b Jo;have hs:=λc hc=>hb c (Jk _ hc)
  obtain⟨W',h'⟩:=wS (bs:=bs) (ji W b2 b3) hs;refine⟨W',λc hc=>?_⟩
  rcases Jq.mp hc with rfl|hc
  ·obtain⟨w,l,h⟩:=wz (x:=c.1) (y:=c.2.1) (m:=c.2.2) b1;obtain⟨v,l2,h2⟩:=zM (bs:=bs) (ji W b2 b3) hs h;exact⟨v,by omega,h2⟩
  ·exact h' c hc
noncomputable abbrev NO:Nm:=[-1,0]
noncomputable def nv(p:Int×Nat):Nm:=[p.1,(p.2:Int)]
noncomputable def KS(f_:List Rw):List Nm:=NO::(nmF (f_.map Rw.h) c00).map nv
def Bp(e_:List (Int×Int))(wy:List Wy)(f_:List Rw)(p:Nm->Int):Prop:=∀d∈bdF e_ wy c00 l00 f_,∃b:Bd,d=bD b/\(b.1∈KS f_/\b.2.1∈KS f_/\b.1≠b.2.1)/\Bk p b
structure LB (e_:List (Int×Int)) (wy:List Wy)(f_:List Rw):Prop where
 g:GW e_ wy
 l:f_.length<=64
 f:∀r∈f_,r.fine e_.length wy
 b:∃p,Bp e_ wy f_ p
structure LN (e_:List (Int×Int)) (wy:List Wy)(f_:List Rw)(N:Nt):Prop where
 ks:∀x∈KS f_,x∈N.ks
 kx:∀x∈N.ks,x∈KS f_
 wn:WN N
 pt:∃p,Pot N p
 pq:∀q,Bp e_ wy f_ q->Pot N q
 wk:∀b,bD b∈bdF e_ wy c00 l00 f_->∃w,w<=b.2.2/\Wk N b.1 b.2.1 w
theorem Aa{P:Bd->Prop}:∀{ds:List D},(∀d∈ds,∃b,d=bD b/\P b)->∃bs:List Bd,ds=bs.map bD/\∀b∈bs,P b
 |[],_=>⟨[],rfl,λ_ h=>by cases h⟩
 |d::ds,h=>by
  obtain⟨b,rfl,hb⟩:=h d Jo;obtain⟨bs,rfl,hs⟩:=Aa λe he=>h e (Jk _ he)
  exact⟨b::bs,rfl,λc hc=>by rcases Jq.mp hc with rfl|hc;exact hb;exact hs c hc⟩
theorem wg{x y:Nm}(h:nmD x=nmD y):x=y:=by
 have:=congrArg g5 h;rw[cV,cV]at this;exact JE this
theorem xj{a b:Bd}(h:bD a=bD b):a=b:=by
 unfold bD at h;simp only[D.tup.injEq,List.cons.injEq,D.int.injEq,and_true]at h;exact Prod.ext (wg h.1) (Prod.ext (wg h.2.1) h.2.2)
theorem mw:∀{hs:List Int}{c:Int->Nat},(nmF hs c).length=hs.length
 |[],_=>rfl
 |h::hs,c=>by simp[nmF,mw]
theorem AN(L:LB e_ wy f_):∃N,LN e_ wy f_ N/\∀{n:Nat}{M:MH}{Q:VK3}{E:XN},Fm M->(∀M' nn,NY b_ M M' nn N->Q (.ref nn) M')->aa T (B cls b_ d_) (n+8) 35 [wO b_ e_ wy,.g_ (f_.map Rw.d)] M Q E:=by
 obtain⟨p,hp⟩:=L.b;obtain⟨bs,eb,hb⟩:=Aa hp
 let N1:=(KS f_).foldl dU ⟨[],λ_=>[]⟩
 have ks:∀x∈KS f_,x∈N1.ks:=λx hx=>fk_mem.mpr (.inl hx)
 have r0:∀z,N1.row z=[]:=wx λ_=>rfl
 have W1:WN N1:=Ac ⟨List.nodup_nil,λ_ h=>by cases h⟩
 have q1:∀q,Pot N1 q:=λq a b w h=>by have:=h.2;rw[r0]at this;cases this
 have bn:∀b∈bs,BN N1 b:=λb h=>⟨ks _ (hb b h).1.1,ks _ (hb b h).1.2.1,(hb b h).1.2.2⟩
 obtain⟨W2,wk⟩:=wS W1 bn;refine⟨bs.foldl oI N1,⟨λx hx=>by rw[uV];exact ks x hx,λx hx=>by rw[uV]at hx;exact (fk_mem.mp hx).elim id nofun,W2,⟨p,qJ (q1 p) λb h=>(hb b h).2⟩,λq hq=>qJ (q1 q) λb h=>?_,λb h=>?_⟩,λ{n M Q E} hM hQ=>?_⟩
 ·obtain⟨c,e,_,hc⟩:=hq (bD b) (by rw[eb];exact JM.mpr ⟨b,h,rfl⟩)
  rw[xj e];exact hc
 ·rw[eb]at h;obtain⟨c,hc,e⟩:=JM.mp h;rw[<-xj e];exact wk c hc
 ·simp only[wU,kf];simp;intro nn hn;simp only[m9,dC];simp;intro kd hk;obtain⟨Rv,hk⟩:=bW hk;rw[show iW (B cls b_ d_) 245117675 (.ref kd) _ (.ref nn) (put (put M nn (.ins 5 (b_ 5) [] [])) kd (.dt [] []))=_ from mE (by rw[af (JA Rv),ac])]
  simp;have y0:NY b_ M (put (put (put M nn (.ins 5 (b_ 5) [] [])) kd (.dt [] [])) nn (.ins 5 (b_ 5) [245117675] [.ref kd])) nn ⟨[],λ_=>[]⟩:=⟨kd,λ_=>kd,⟨ac,⟨by rw[af Rv,ac];rfl,nofun⟩,nofun,((hM.put _ _).put _ _).put _ _,⟨List.nodup_nil,nofun⟩,by decide⟩,hk,nofun,nofun,d9 (d9 (d9 (λ_ _ h=>h) hn) hk) hn⟩
  have hl:=L.l;refine uO (x:=NO) (n:=n+6) y0 (by decide) λM1 y1=>?_
  obtain⟨_,_,z1⟩:=id y1;rw[m6 (n:=n+5) f_ (.inl rfl) (by omega) z1.nt.fm,show (nmF (f_.map Rw.h) λ_=>0).map nD=((nmF (f_.map Rw.h) c00).map nv).map nmD by rw[List.map_map];rfl]
  simp[-List.map_map];refine sN (n:=n+6) ((nmF (f_.map Rw.h) c00).map nv) _ M1 _ y1 (by have:=jK (N:=⟨[],λ_=>[]⟩) (x:=NO);simp[mw]at this ⊢;omega) λM2 x3 y2=>?_
  obtain⟨_,_,z2⟩:=id y2;simp;refine u7 L.g z2.nt.fm L.l L.f ?_;rw[eb];simp;exact pJ (n:=n+1) bs N1 M2 _ _ _ y2 (q1 p) (λb h=>⟨(bn b h).1,(bn b h).2.1,(bn b h).2.2,(hb b h).2⟩) λM3 x4 x5 x6 y3=>by simpa using hQ M3 nn y3
end
section
variable {cls b_ d_:Nat->PySem.Addr}{M M0:MH}{Q:VK3}{E:XN}{n:Nat}{x y:Nm}{N:Nt}{p:Nm->Int}{e_:List (Int×Int)}{wy:List Wy}{f_:List Rw}{a kd nn:PySem.Addr}{rp:Nm->PySem.Addr}
theorem wN:plN 8 (nmD x)=true:=by
 show (x.map D.int).all (plN 7)=true;exact rg
theorem wd{xs:List Nm}{neg:Bool}(h:x∈xs){z:D}(hz:ax M z=some (xs.map nmD)):jq neg (nmD x) z M Q=Q (.bl (!neg)) M:=by
 have hp:pls (xs.map nmD)=true:=JD.mpr λd hd=>by
  obtain⟨z,_,rfl⟩:=JM.mp hd;exact wN
 have ha:((xs.map nmD).any λd=>eqD d (nmD x))=true:=List.any_eq_true.mpr ⟨_,JM.mpr ⟨x,h,rfl⟩,by simp[nmD,eqD,mL]⟩
 simp only[jq,hz,show res M (nmD x)=nmD x from rfl,hp,show pl (nmD x)=true from wN,ha,true_and];cases neg<;>rfl
theorem je{M':MH}(ex:∀q o,M q=some o->M' q=some o):av M M'=M:=by
 funext k;unfold av;cases h:M k with
 |none=>rfl
 |some o=>exact ex k o h
noncomputable def ng(o:Option Int):D:=oi (o.map (- ·))
noncomputable def bt(d:Nm->Nm->Option Int)(x y:Nm):D:=.tup [ng (d y x),oi (d x y)]
theorem Bs(W:WN N)(hp:Pot N p)(hx:x∈N.ks)(y:Nm):∃o,IsD N x y o:=by
 obtain⟨m,s,R,I⟩:=Eh W hp ⟨[(x,0)],[]⟩ [x] (J.start W hx);exact⟨_,I.isD y⟩
structure BT (e_:List (Int×Int)) (wy:List Wy)(f_:List Rw)(N:Nt)(d:Nm->Nm->Option Int):Prop where
 ln:LN e_ wy f_ N
 d:∀x∈KS f_,∀y,IsD N x y (d x y)
theorem nF{W:WC}{De:Ends3}{ES:St3->XN}{y0 y1 y2:Option D}{ks:List Nm}:∀(xs:List Nm)(x4:Option D),(∀x∈xs,x∈ks)->(∀x4,De.nx [y0,y1,y2,some (.g_ (ks.map nmD)),x4] M)->aJ W (.name 4) dI ES (λ_=>True) De (xs.map nmD) [y0,y1,y2,some (.g_ (ks.map nmD)),x4] M
 |[],x4,_,hR=>⟨trivial,hR x4⟩
 |x::xs,x4,h,hR=>by
  have ni:∀{Q:VK3},aI .NotIn (nmD x) (.g_ (ks.map nmD)) M Q=Q (.bl false) M:=λ{Q}=>wd (M:=M) (Q:=Q) (neg:=true) (z:=.g_ (ks.map nmD)) (h x Jo) rfl
  rw[List.map_cons,ar];simp[dI,ni];exact nF xs _ (λy hy=>h y (Jk _ hy)) hR
theorem xz(L:LB e_ wy f_):∃N d,BT e_ wy f_ N d/\(∀{n:Nat}{M:MH}{Q:VK3}{E:XN}{xs:List Nm},Fm M->(∀x∈xs,x∈KS f_)->(∀M' nn,NY b_ M M' nn N->Q (.ref nn) M')->aa T (B cls b_ d_) (n+9) 36 [wO b_ e_ wy,.g_ (f_.map Rw.d),.g_ (xs.map nmD)] M Q E)/\
  ∀{n:Nat}{M:MH}{Q:VK3}{E:XN}{x y:Nm},Fm M->x∈KS f_->y∈KS f_->Q (bt d x y) M->aa T (B cls b_ d_) (n+10) 37 [wO b_ e_ wy,.g_ (f_.map Rw.d),nmD x,nmD y] M Q E:=by
 obtain⟨N,LN,cn⟩:=AN (cls:=cls) (b_:=b_) (d_:=d_) L;obtain⟨p,hp⟩:=LN.pt;have h1:∀x y,∃o,x∈KS f_->IsD N x y o:=λx y=>by
  by_cases hx:x∈KS f_
  ·exact (Bs LN.wn hp (LN.ks x hx) y).imp λ_ h _=>h
  ·exact⟨none,λh=>absurd h hx⟩
 obtain⟨d,hd⟩:∃d:Nm->Nm->Option Int,∀x y,x∈KS f_->IsD N x y (d x y):=⟨λx y=>(h1 x y).choose,λx y=>(h1 x y).choose_spec⟩
 have hl:=L.l;have cf:∀{n:Nat}{M:MH}{Q:VK3}{E:XN}{xs:List Nm},Fm M->(∀x∈xs,x∈KS f_)->(∀M' nn,NY b_ M M' nn N->Q (.ref nn) M')->aa T (B cls b_ d_) (n+9) 36 [wO b_ e_ wy,.g_ (f_.map Rw.d),.g_ (xs.map nmD)] M Q E:=λ{n M Q E xs} hM hx hQ=>by
  have e:D.tup [.int (-1),.int 0]::(nmF (f_.map Rw.h) c00).map nD=(KS f_).map nmD:=by unfold KS;rw[List.map_cons,List.map_map];rfl
  have z:(KS f_).length<=PySem.sizeLine:=by
   unfold KS;rw[Jx,Jv,mw,Jv];exact JF (show f_.length+1<=1000 by omega) (by decide)
  simp only[ux,hV];simp[au];rw[m6 (n:=n+6) f_ (.inl rfl) (by omega) hM]
  simp[-List.map_cons,e,z];exact nF xs _ hx λx4=>by simpa using cn hM hQ
 refine⟨N,d,⟨LN,λx hx y=>hd x y hx⟩,cf,λ{n M Q E x y} hM hx hy hQ=>?_⟩
 simp only[sR,hX];simp[au];refine cf (xs:=[x,y]) hM (λz hz=>by simp at hz;rcases hz with rfl|rfl<;>assumption) λM1 nn y1=>?_
 obtain⟨kd,rp,y1⟩:=y1;have cm:∀{x y:Nm}{Q:VK3}{E:XN},x∈KS f_->y∈KS f_->Q (oi (d x y)) M1->aa T (B cls b_ d_) (n+9) 33 [.ref nn,nmD x,nmD y] M1 Q E:=λ{x y Q E} hx hy h=>wR (n:=n+5) y1.nt hp (LN.ks x hx) (LN.ks y hy) λo ho=>by rw[ho.uniq (hd x y hx)];exact h
 simp[y1.nt.mth dE];refine cm hy hx ?_;unfold bt ng at hQ;cases e:d y x with
 |none=>rw[e]at hQ;simp[oi,D.isN,y1.nt.mth dE];exact cm hx hy (by simpa [oi,je y1.ex] using hQ)
 |some v=>rw[e]at hQ;simp[oi,D.isN,y1.nt.mth dE];exact cm hx hy (by simpa [oi,je y1.ex] using hQ)
end
section
variable {cls b_ d_:Nat->PySem.Addr}{M M' M0:MH}{Q:VK3}{E:XN}{n:Nat}{x y z:Nm}{N:Nt}{p:Nm->Int}{a kd nn q:PySem.Addr}{rp:Nm->PySem.Addr}{φ:PySem.Heap->Prop}{rw:Nm->List (Nm×Int)}{pre:List Nm}
structure EX (M:MH)(kd a:PySem.Addr)(φ:PySem.Heap->Prop) (rw:Nm->List (Nm×Int)) (pre:List Nm)(M':MH)(rp:Nm->PySem.Addr):Prop where
 eg:Eg M' a rp ⟨pre,rw⟩
 na:∀y∈pre,rp y≠a
 hk:M' kd=some (.J_ φ)
 ex:∀q o,M q=some o->q≠kd->M' q=some o
 fm:Fm M'
theorem EX.step(h:EX M kd a φ rw pre M' rp)(ha:M a=none)(Pc:a≠kd)(hz:z∉pre)(hl:pre.length<800)(hq:M' q=none) :
  (∀{R:MH->Prop},aE (.ref a) (nmD z) (.ref q) (put M' q (dR (rw z))) R=R (put (put M' q (dR (rw z))) a (dK ⟨pre++[z],rw⟩ λy=>if y=z then q else rp y)))/\EX M kd a φ rw (pre++[z]) (put (put M' q (dR (rw z))) a (dK ⟨pre++[z],rw⟩ λy=>if y=z then q else rp y)) λy=>if y=z then q else rp y:=by
 have nq:∀{b o},M' b=some o->b≠q:=λ{b o} e z=>by rw[z,hq]at e;cases e
 have qa:=JA (nq h.eg.kd);have Ng:z∉K1 (lR ⟨pre,rw⟩ rp):=λe=>by rw[lk_key]at e;unfold lR at e;rw[rY,Jm hz]at e;cases e
 have el:ins (lR ⟨pre,rw⟩ rp) z q=lR ⟨pre++[z],rw⟩ λy=>if y=z then q else rp y:=by
  rw[mY Ng];unfold lR;rw[J4];simp only[List.map_cons,if_true,List.map_nil];congr 1;exact List.map_congr_left λy hy=>by rw[Jm (λe=>hz (e▸hy):y≠z)]
 have g1:put M' q (dR (rw z)) a=some (dK ⟨pre,rw⟩ rp):=by rw[af (JA qa)];exact h.eg.kd
 refine⟨λ{R}=>by rw[kq (g:=D.ref) g1 (by unfold lR;rw[Jv];exact Nat.lt_trans hl (by decide)),el];rfl,⟨ac,λy hy=>?_⟩,λy hy=>?_,?_,λb o e1 e2=>?_,(h.fm.put _ _).put _ _⟩
 ·have hy:y∈pre++[z]:=hy;show put _ a _ (if y=z then q else rp y)=some (dR (rw y))
  by_cases e:y=z
  ·rw[Js e,af qa,ac,e]
  ·have ND:y∈pre:=by simpa [e] using hy
   have:=h.eg.row y ND;rw[Jm e,af (h.na y ND),af (nq this)];exact this
 ·by_cases e:y=z
  ·rw[Js e];exact qa
  ·rw[Jm e];exact h.na y (by simpa [e] using hy)
 ·rw[af (JA Pc),af (nq h.hk)];exact h.hk
 ·have:=h.ex b o e1 e2;rw[af (λe=>by rw[e,ha]at e1;cases e1),af (nq this)];exact this
theorem rO{W:WC}{De:Ends3}{ES:St3->XN}{y0:Option D}(ha:M a=none)(Pc:a≠kd)(g:∀z∈N.ks,M (rp z)=some (dR (N.row z))/\rp z≠kd/\((K1 (N.row z)).map tH).Nodup):∀(post pre:List Nm)(M':MH)(Pd:Nm->PySem.Addr)(x2 x3:Option D),N.ks=pre++post->N.ks.Nodup->N.ks.length<800->EX M kd a φ N.row pre M' Pd->
  (∀Rx QN x2 x3,EX M kd a φ N.row N.ks Rx QN->De.nx [y0,some (.ref a),x2,x3] Rx)->
  aJ W (.tup [2,3]) cz ES (λM=>M kd=some (.J_ φ)) De (post.map λz=>.tup [nmD z,.ref (rp z)]) [y0,some (.ref a),x2,x3] M'
 |[],pre,M',Pd,x2,x3,e,nd,hl,h,hR=>⟨h.hk,hR M' Pd x2 x3 (by rw[e,J0];exact h)⟩
 |z::post,pre,M',Pd,x2,x3,e,nd,hl,h,hR=>by
  have hz:z∉pre:=λhm=>by rw[e,List.nodup_append]at nd;exact nd.2.2 z hm z Jo rfl
  obtain⟨g1,g2,g3⟩:=g z (by rw[e];simp)
  have gz:=h.ex _ _ g1 g2;have hp:pre.length<800:=by rw[e,JR]at hl;omega
  rw[List.map_cons,ar];refine⟨h.hk,?_⟩;simp[cz,hZ];have cp:∀{Q:VK3},rBi .Nw [.ref (rp z)] M' Q=∀p,M' p=none->Q (.ref p) (put M' p (dR (N.row z))):=λ{Q}=>by
   simp[-List.map_map,rBi,cI,gz,g3]
  rw[cp];intro q hq;obtain⟨s1,s2⟩:=h.step ha Pc hz hp hq;simp[s1];exact rO ha Pc g post (pre++[z]) _ _ _ _ (by rw[e];simp) nd hl s2 hR
theorem lP:∀(l:List (Nm×PySem.Addr)),aw (K1 l) (l.map λe=>.ref e.2)=l.map λe=>.tup [nmD e.1,.ref e.2]
 |[]=>rfl
 |e::l=>by
  have ih:=lP l;unfold aw at ih ⊢;simp only[K1,List.map_cons,List.zip_cons_cons]at ih ⊢;rw[ih];rfl
theorem zb(h:NY b_ M0 M nn N)(hh:∀z∈N.ks,((K1 (N.row z)).map tH).Nodup)(hQ:∀M' a rp,Eg M' a rp N->Fm M'->(∀q o,M0 q=some o->M' q=some o)->Q (.ref a) M'):aa T (B cls b_ d_) (n+1) 32 [.ref nn] M Q E:=by
 obtain⟨kd,rp,h,k0,r0,kr,ex⟩:=h;rw[oy];simp[eK,rj];intro a ha;have na:∀{q u},M q=some u->q≠a:=λ{q u} e z=>by rw[z,ha]at e;cases e
 have up:∀{q u},M q=some u->put M a (.dt [] []) q=some u:=λ{q u} e=>by rw[af (na e)];exact e
 have h':NT b_ (put M a (.dt [] [])) nn kd rp N:=⟨up h.nn,h.eg.mono λ_ _=>up,h.inj,h.fm.put _ _,h.wn,h.sz⟩
 have hk:put M a (.dt [] []) kd=some (.dt (K1 (lR N rp)) ((lR N rp).map λe=>.ref e.2)):=h'.eg.kd
 have ak:=JA (na h.eg.kd);have hz:=h.sz;rw[h'.fld];unfold uc;simp only[hk,lP];intro φ;rw[show (lR N rp).map (λe=>D.tup [nmD e.1,.ref e.2])=N.ks.map λz=>.tup [nmD z,.ref (rp z)] by unfold lR;rw[List.map_map];rfl]
 refine rO (M:=M) ha ak (λz hz=>⟨h.eg.row z hz,kr z hz,hh z hz⟩) N.ks [] _ (λ_=>a) _ _ rfl h.wn.nd (by omega) ⟨⟨by rw[af ak,ac];rfl,nofun⟩,nofun,ac,λq o e1 e2=>by rw[af e2];exact up e1,(h.fm.put _ _).put _ _⟩ λM2 S0 x2 x3 X=>?_
 refine⟨X.hk,?_⟩;show aR _ _ _ _ _ (put M2 kd _);simp;refine hQ _ a S0 ⟨by rw[af ak];exact X.eg.kd,λz hz=>?_⟩ (X.fm.put _ _) λq o e=>?_
 ·have:=X.eg.row z hz;rw[af (λe=>by rw[e,X.hk]at this;cases this)];exact this
 ·have:q≠kd:=λz=>by rw[z,k0]at e;cases e
  rw[af this];exact X.ex q o (ex q o e) this
end
section
variable {cls b_ d_:Nat->PySem.Addr}{M M' M0:MH}{Q:VK3}{E:XN}{n:Nat}{x y z:Nm}{N:Nt}{p:Nm->Int}{a kd nn:PySem.Addr}{rp:Nm->PySem.Addr}{d:Nm->Nm->Option Int}{xs:List Nm}{e_:List (Int×Int)}{wy:List Wy}{f_:List Rw}
noncomputable def Wt(w:Int)(u v:Nm):D:=.tup [.int w,nmD u,nmD v]
structure We (d:Nm->Nm->Option Int)(xs:List Nm)(w:Int)(u v:Nm):Prop where
 hu:u∈xs
 hv:v∈xs
 e:d u v=some w
def Up(d:Nm->Nm->Option Int)(w:Int)(x y:Nm):Prop:=∃e,d x y=some e/\e<=w
theorem Up.mono{w w':Int}(h:Up d w x y)(l:w<=w'):Up d w' x y:=h.imp λ_ g=>⟨g.1,Int.le_trans g.2 l⟩
theorem sH{W:WC}{De:Ends3}{ES:St3->XN}{y0 y1 y3:Option D}{S:List (Nm×Int)}{pr:List Nm}(ga:M a=some (.dt (K1 S) (S.map λp=>.int p.2)))(hS:∀y,lk S y=d x y)(hx:x∈xs)(Np:∀y∈xs,d x y=none->De.rt (.tup [.i_,nmD x,nmD y]) M):∀(post pre:List Nm)(w:Int)(u v:Nm)(x7:Option D),xs=pre++post->We d xs w u v->(∀z∈pr,∀y∈xs,Up d w z y)->(∀y∈pre,Up d w x y)->
  (∀w u v x7,We d xs w u v->(∀z∈pr,∀y∈xs,Up d w z y)->(∀y∈xs,Up d w x y)->De.nx [y0,y1,some (.g_ (xs.map nmD)),y3,some (Wt w u v),some (nmD x),some (.ref a),x7] M)->
  aJ W (.name 7) bg ES (λ_=>True) De (post.map nmD) [y0,y1,some (.g_ (xs.map nmD)),y3,some (Wt w u v),some (nmD x),some (.ref a),x7] M
 |[],pre,w,u,v,x7,e,hw,hp,hq,hR=>⟨trivial,hR w u v x7 hw hp (by rw[e,J0];exact hq)⟩
 |y::post,pre,w,u,v,x7,e,hw,hp,hq,hR=>by
  have hy:y∈xs:=by rw[e];simp
  have ni:∀{Q:VK3},aI .NotIn (nmD y) (.ref a) M Q=Q (.bl (!(d x y).isSome)) M:=λ{Q}=>by rw[<-hS];exact qN (g:=D.int) ga
  rw[List.map_cons,ar];have ih:=λ(w':Int) (u v:Nm) (hw:We d xs w' u v) (l:w<=w') (h:Up d w' x y)=>sH (W:=W) (De:=De) (ES:=ES) (y0:=y0) (y1:=y1) (y3:=y3) (pr:=pr) ga hS hx Np post (pre++[y]) w' u v (some (nmD y)) (by rw[e];simp) hw (λz hz y hy=>(hp z hz y hy).mono l) (λz hz=>by
   rcases JK.mp hz with hz|hz
   ·exact (hq z hz).mono l
   ·rw[JB.mp hz];exact h) hR
  generalize aJ W (.name 7) bg ES (λ_=>True) De (post.map nmD)=K at ih ⊢
  cases ed:d x y with
  |none=>
   simp[bg,ni,ed,au];exact Np y hy ed
  |some f=>
   have ix:∀{Q:VK3},ao (.ref a) (nmD y) M Q=Q (.int f) M:=λ{Q}=>oK (g:=D.int) ga (by rw[hS];exact ed)
   by_cases hf:w<f
   ·simp[bg,ni,ed,ix,Wt,hf,au];exact ih f x y ⟨hx,hy,ed⟩ (by omega) ⟨f,ed,Int.le_refl _⟩
   ·simp[bg,ni,ed,ix,Wt,hf,au];exact ih w u v hw (Int.le_refl _) ⟨f,ed,by omega⟩
abbrev Ext2(M0 M:MH):Prop:=∀q o,M0 q=some o->M q=some o
theorem r8{De:Ends3}{ES:St3->XN}{y0 y1:Option D}(W:WN N)(hp:Pot N p)(hk:N.ks.length<200)(hd:∀x∈xs,x∈N.ks/\∀y,IsD N x y (d x y))(Np:∀M x y,Ext2 M0 M->x∈xs->y∈xs->d x y=none->De.rt (.tup [.i_,nmD x,nmD y]) M):∀(post pre:List Nm)(M:MH)(w:Int)(u v:Nm)(x5 x6 x7:Option D),xs=pre++post->Eg M kd rp N->Fm M->Ext2 M0 M->We d xs w u v->(∀z∈pre,∀y∈xs,Up d w z y)->
  (∀M w u v x5 x6 x7,Ext2 M0 M->We d xs w u v->(∀z∈xs,∀y∈xs,Up d w z y)->De.nx [y0,y1,some (.g_ (xs.map nmD)),some (.ref kd),some (Wt w u v),x5,x6,x7] M)->
  aJ ⟨(B cls b_ d_),aa T (B cls b_ d_) (n+3)⟩ (.name 5) cM ES (λ_=>True) De (post.map nmD) [y0,y1,some (.g_ (xs.map nmD)),some (.ref kd),some (Wt w u v),x5,x6,x7] M
 |[],pre,M,w,u,v,x5,x6,x7,e,hE,hM,ex,hw,hq,hR=>⟨trivial,hR M w u v x5 x6 x7 ex hw (by rw[e,J0];rw[e,J0]at hq;exact hq)⟩
 |x::post,pre,M,w,u,v,x5,x6,x7,e,hE,hM,ex,hw,hq,hR=>by
  have hx:x∈xs:=by rw[e];simp
  obtain⟨kx,dx⟩:=hd x hx;rw[List.map_cons,ar];refine⟨trivial,?_⟩;have ih:=r8 (De:=De) (ES:=ES) (y0:=y0) (y1:=y1) W hp hk hd Np post (pre++[x]);generalize aJ ⟨(B cls b_ d_),aa T (B cls b_ d_) (n+3)⟩ (.name 5) cM ES (λ_=>True) De (post.map nmD)=K at ih ⊢
  simp[cM];refine sK hM W hp hk hE kx λa b s ha hb D_ I=>?_
  have ga:HB M a b s a=some (.dt (K1 s.S) (s.S.map λp=>.int p.2)):=by unfold HB;rw[af D_,ac];rfl
  have e1:Ext2 M0 (HB M a b s):=d9 (d9 ex (none_of ex ha)) (none_of ex hb);have Mt:(put M a (dS s.S)) b=none:=by rw[af (JA D_)];exact hb
  refine sH (De:={De with nx:=K,ct:=K,bk:=De.nx}) (pr:=pre) ga (λy=>(I.isD y).uniq (dx y)) hx (λy hy h=>Np _ x y e1 hx hy h) xs [] w u v _ rfl hw hq (λ_ h=>by cases h) λw u v x7 hw h1 h2=>?_
  exact ih _ w u v _ _ _ (by rw[e];simp) ((hE.new ha).new Mt) ((hM.put _ _).put _ _) e1 hw (λz hz=>by
   rcases JK.mp hz with hz|hz
   ·exact h1 z hz
   ·rw[JB.mp hz];exact h2) hR
theorem BT.self(b:BT e_ wy f_ N d)(hp:Pot N p)(hx:x∈KS f_):d x x=some 0:=(b.d x hx x).uniq ⟨.nil,λv h=>by have:=h.pot hp;omega⟩
theorem xf(b:BT e_ wy f_ N d)(hp:Pot N p)(cf:∀{n:Nat}{M:MH}{Q:VK3}{E:XN}{xs:List Nm},Fm M->(∀x∈xs,x∈KS f_)->(∀M' nn,NY b_ M M' nn N->Q (.ref nn) M')->aa T (B cls b_ d_) (n+9) 36 [wO b_ e_ wy,.g_ (f_.map Rw.d),.g_ (xs.map nmD)] M Q E)
  (hx:∀x∈xs,x∈KS f_)(ne:xs≠[]) (hh:∀z∈N.ks,((K1 (N.row z)).map tH).Nodup) (hM:Fm M) (Np:∀x y,x∈xs->y∈xs->d x y=none->Q (.tup [.i_,nmD x,nmD y]) M) (S6:∀w u v,We d xs w u v->(∀z∈xs,∀y∈xs,Up d w z y)->Q (Wt w u v) M) :
  aa T (B cls b_ d_) (n+10) 38 [wO b_ e_ wy,.g_ (f_.map Rw.d),.g_ (xs.map nmD)] M Q E:=by
 obtain⟨x0,Ry,e⟩:∃x0 Ry,xs=x0::Ry:=by
  cases xs with
  |nil=>exact absurd rfl ne
  |cons x r=>exact⟨x,r,rfl⟩
 have hl:¬ xs.length=0:=by rw[e,Jx];omega
 have m0:x0∈xs:=by rw[e];simp
 have i0:∀{M:MH}{Q:VK3},ao (.g_ (xs.map nmD)) (.int 0) M Q=Q (nmD x0) M:=λ{M Q}=>by rw[e];exact j9 (bO (j:=0) rfl)
 simp only[wM,kG];simp[-List.length_eq_zero_iff,hl];refine cf hM hx λM1 nn y1=>?_
 obtain⟨_,_,z1⟩:=id y1;simp[z1.nt.mth oJ];refine zb (n:=n+8) y1 hh λM2 a rp hE fm ex=>?_
 simp[↓i0,au];refine r8 (n:=n+6) (p:=p) b.ln.wn hp z1.nt.sz (λx h=>⟨b.ln.ks x (hx x h),b.d x (hx x h)⟩) (λM x y ex h1 h2 h3=>by simpa [je ex] using Np x y h1 h2 h3) xs [] M2 0 x0 x0 _ _ _ rfl hE fm ex ⟨m0,m0,b.self hp (hx x0 m0)⟩ (λ_ h=>by cases h) λM w u v x5 x6 x7 ex h1 h2=>?_
 simpa [je ex] using S6 w u v h1 h2
end
section
variable {cls b_ d_:Nat->PySem.Addr}{M M0:MH}{Q:VK3}{E:XN}{n:Nat}{x y z:Nm}{e_:List (Int×Int)}{wy:List Wy}{f_:List Rw}{N:Nt}{p:Nm->Int}{d:Nm->Nm->Option Int}{td:List (Rw×Int)}
theorem gm{k:Nm}{v:D}:∀{ks:List Nm}{ds:List D},getD ks ds k=some v->k∈ks
 |[],_,h=>by simp[getD]at h
 |q::ks,[],h=>by simp[getD]at h
 |q::ks,e::ds,h=>by
  simp only[getD]at h;split at h
  ·rename_i e;rw[e];exact Jo
  ·exact Jk _ (gm h)
theorem vK{k:Nm}:∀{l:List (Int×Int)}{c:Int->Nat}{T:Dt},k∈(dF c T l).1->k∈T.1\/k∈(nmF (l.map Prod.fst) c).map nv
 |[],_,_,h=>.inl h
 |q::l,c,T,h=>by
  rcases vK (l:=l) h with h|h
  ·rcases put1_mem.mp h with rfl|h
   ·exact .inr Jo
   ·exact .inl h
  ·exact .inr (Jk _ h)
theorem wE:∀{l:List (Int×Int)}{c:Int->Nat}{T:Dt},T.1.length=T.2.length->(∀k∈T.1,∃t:Int,getD T.1 T.2 k=some (.int t))->∀k∈(dF c T l).1,∃t:Int,getD (dF c T l).1 (dF c T l).2 k=some (.int t)
 |[],_,_,_,h=>h
 |q::l,c,T,hl,h=>wE (l:=l) (cr hl) λk hk=>by
  rw[cB hl];by_cases e:[q.1,(c q.1:Int)]=k
  ·exact⟨q.2,by rw[Js e]⟩
  ·rw[Jm e];exact h k ((put1_mem.mp hk).resolve_left (JA e))
theorem z9:∀{l:List (Int×Int)}{c:Int->Nat}{T:Dt},(dF c T l).1.length<=T.1.length+l.length
 |[],_,_=>Jp _
 |q::l,c,T=>JF (z9 (l:=l)) (by have:=bh (ks:=T.1) (k:=[q.1,(c q.1:Int)]);simp only[Jx];omega)
noncomputable abbrev tT(td:List (Rw×Int)):Dt:=dF c00 D0 (td.map ht)
noncomputable def tv:Option D->Int
 |some (.int t)=>t
 |_=>0
noncomputable def tP(td:List (Rw×Int))(k:Nm):Int:=tv (getD (tT td).1 (tT td).2 k)
theorem A7{k:Nm}(h:k∈(tT td).1):getD (tT td).1 (tT td).2 k=some (.int (tP td k)):=by
 obtain⟨t,e⟩:=wE rfl (λk hk=>⟨0,by rw[JB.mp hk];rfl⟩) k h
 unfold tP;rw[e];rfl
theorem wu{k:Nm}(h:k∈(tT td).1):k∈KS (td.map Prod.fst):=by
 rcases vK h with h|h
 ·rw[JB.mp h];exact Jo
 ·refine Jk _ ?_;rw[List.map_map]at h ⊢;exact h
theorem Ae{at_:List A3}{sn:List Ent}(C:TC e_ wy td at_ sn):Bp e_ wy (td.map Prod.fst) (tP td):=λb hb=>by
 obtain⟨a,i,a',i',m,t,t',e,h1,h2,_,_,ne,h⟩:=C.b b hb;unfold tm at h1 h2;refine⟨([a,i],[a',i'],m),e,⟨wu (gm h1),wu (gm h2),λz=>ne (by simpa using z)⟩,?_⟩
 show tP td [a',i'] - tP td [a,i]<=m;unfold tP tT;rw[h1,h2];exact h
theorem sL{W:WC}{De:Ends3}{ES:St3->XN}{R:Prop}{x0 x1 x2 x3 x4:Option D}{ys:List (Option D)}{a:PySem.Addr}:∀(td:List (Rw×Int)) (c:Int->Nat)(T:Dt)(x6 x7:Option D),T.1.length+td.length<500->
  (∀x6 x7,De.nx (x0::x1::x2::x3::x4::some (.ref a)::x6::x7::ys) (put M a (.dt (dF c T (td.map ht)).1 (dF c T (td.map ht)).2))=R)->
  aJ W (.tup [6,7]) g8 ES (λ_=>True) De (gL ((nmF ((td.map Prod.fst).map Rw.h) c).map nD) (td.map tdD)) (x0::x1::x2::x3::x4::some (.ref a)::x6::x7::ys) (put M a (.dt T.1 T.2))=R
 |[],c,T,x6,x7,_,hR=>by
  have:=hR x6 x7;simp[dF]at this;simp[nmF,gL,aS,this]
 |q::td,c,T,x6,x7,hl,hR=>by
  simp only[Jx]at hl;have k1:=bh (ks:=T.1) (k:=[q.1.h,(c q.1.h:Int)]);have ih:=sL (W:=W) (De:=De) (ES:=ES) (R:=R) td (bump c q.1.h) (ai T.1 [q.1.h,(c q.1.h:Int)],aq T.1 T.2 [q.1.h,(c q.1.h:Int)] (.int q.2)) (some (.tup [.int q.1.h,.int (c q.1.h)])) (some (tdD q)) (by simp only;omega) hR
  have st:∀{R:MH->Prop},aE (.ref a) (.tup [.int q.1.h,.int (c q.1.h)]) (.int q.2) (put M a (.dt T.1 T.2)) R=R (put M a (.dt (ai T.1 [q.1.h,(c q.1.h:Int)]) (aq T.1 T.2 [q.1.h,(c q.1.h:Int)] (.int q.2)))):=λ{R}=>by
   rw[jY ac (by omega),ba]
  show aJ _ _ _ _ _ _ (.tup [nD (q.1.h,c q.1.h),tdD q]::gL ((nmF ((td.map Prod.fst).map Rw.h) (bump c q.1.h)).map nD) (td.map tdD)) _ _=R;rw[ar];generalize aJ W (.tup [6,7]) g8 ES (λ_=>True) De (gL ((nmF ((td.map Prod.fst).map Rw.h) (bump c q.1.h)).map nD) (td.map tdD))=K at ih ⊢
  simp only[tdD]at ih ⊢;simp[g8,nD,↓st,hZ];exact iff_of_eq ih
theorem Ea{l:List Nm}{i:Int}(h:0<l.length):∃x∈l,∀{M:MH}{Q:VK3},ao (.g_ (l.map nmD)) (.int (i % (l.length:Nat))) M Q=Q (nmD x) M:=by
 have h0:=J6 i (show ((l.length:Nat):Int)≠0 by omega)
 have h1:=JW i (show (0:Int)<(l.length:Nat) by omega)
 obtain⟨k,e⟩:=Kf h0;rw[e]at h1 ⊢;have hk:k<l.length:=by omega
 refine⟨l[k],J9 hk,λ{M Q}=>j9 (bO (by simp[hk]))⟩
noncomputable def NB:List Nm:=(List.range 7).flatMap λh:Nat=>(List.range 16).map λk:Nat=>[(h:Int)-1,(k:Int)]
theorem zi:∀x∈NB,∀y∈NB,tH x=tH y->x=y:=by decide +kernel
theorem zZ:∀{rs:List Rw}{c:Int->Nat}{q:Int×Nat},q∈nmF (rs.map Rw.h) c->(∃r∈rs,r.h=q.1)/\q.2<c q.1+rs.length
 |[],_,_,h=>by cases h
 |r::rs,c,q,h=>by
  rcases Jq.mp h with rfl|h
  ·exact⟨⟨r,Jo,rfl⟩,by simp⟩
  ·obtain⟨⟨r',h1,h2⟩,h3⟩:=zZ h;refine⟨⟨r',Jk _ h1,h2⟩,?_⟩;unfold bump at h3;rw[Jx];split at h3<;>omega
theorem Dn(G:GW e_ wy)(hl:f_.length<=16)(hf:∀r∈f_,r.fine e_.length wy)(h:x∈KS f_):x∈NB/\∃i j,x=[i,j]:=by
 have key:∀(h:Nat)(k:Nat),h<7->k<16->[(h:Int)-1,(k:Int)]∈NB:=λh k h1 h2=>List.mem_flatMap.mpr ⟨h,List.mem_range.mpr h1,JM.mpr ⟨k,List.mem_range.mpr h2,rfl⟩⟩
 rcases Jq.mp h with rfl|h
 ·exact⟨key 0 0 (by decide) (by decide),_,_,rfl⟩
 ·obtain⟨q,hq,rfl⟩:=JM.mp h;obtain⟨⟨r,h1,h2⟩,h3⟩:=zZ hq;have ho:=(hf r h1).h;have l6:=G.l6;simp only[okH,Jj,Ju,h2]at ho;have:=key (q.1+1).toNat q.2 (by omega) (by simp at h3;omega)
  rw[show (((q.1+1).toNat:Nat):Int)-1=q.1 by omega]at this
  exact⟨this,_,_,rfl⟩
theorem yX(W:WN N)(h:∀x∈N.ks,x∈NB):∀z∈N.ks,((K1 (N.row z)).map tH).Nodup:=λz hz=>by
 have m:∀x∈K1 (N.row z),x∈NB:=λx hx=>by
  obtain⟨e,he,rfl⟩:=JM.mp hx;exact h _ ((W.row z hz).2 e he).1
 have nd:=(W.row z hz).1;generalize K1 (N.row z)=l at m nd
 induction l with
 |nil=>exact List.nodup_nil
 |cons x l ih=>
  rw[JN]at nd;rw[List.map_cons,JN];refine⟨λc=>?_,ih (λy hy=>m y (Jk _ hy)) nd.2⟩
  obtain⟨y,hy,e⟩:=JM.mp c;rw[zi y (m y (Jk _ hy)) x (m x Jo) e]at hy;exact nd.1 hy
end
section
variable {cls b_ d_:Nat->PySem.Addr}{M M0:MH}{Q:VK3}{E:XN}{n:Nat}{x y z u v:Nm}{e_:List (Int×Int)}{wy:List Wy}{f_:List Rw}{N:Nt}{p:Nm->Int}{d:Nm->Nm->Option Int}{zs:List Nm}{fo:Option Int}{a s:PySem.Addr}
theorem rT{i j:Int}:aa T (B cls b_ d_) (n+2) 60 [nmD [i,j]] M Q E=Q (.bl true) M:=by
 have cw:=λ{i:Int}{M:MH}{Q:VK3}{E:XN}=>rK (cls:=cls) (b_:=b_) (d_:=d_) (n:=n) (M:=M) (Q:=Q) (E:=E) (i:=i)
 simp only[qt,fE,nmD];simp[↓cw]
def Le(a b:Option Int):Prop:=∀w,b=some w->∃e,a=some e/\e<=w
theorem yd{a b:Option Int}(h:Le a b):aa T (B cls b_ d_) (n+1) 62 [oi a,oi b] M Q E=Q (.bl true) M:=by
 simp only[kW,cU];cases b with
 |none=>simp[oi,D.isN]
 |some w=>
  obtain⟨e,rfl,l⟩:=h w rfl;simp[oi,D.isN,l]
structure Fd (d:Nm->Nm->Option Int)(zs:List Nm)(fo:Option Int)(u v:Nm):Prop where
 hu:u∈zs
 hv:v∈zs
 e:d u v=fo
 h:∀x∈zs,∀y∈zs,Le (d x y) fo
noncomputable def F3(fo:Option Int)(u v:Nm):D:=.tup [oi fo,nmD u,nmD v]
theorem ym(h:Fd d zs fo u v)(gs:M s=some (.lst (zs.map nmD)))(h2:∀x∈zs,∃i j,x=[i,j]):aa T (B cls b_ d_) (n+3) 63 [F3 fo u v,.ref s] M Q E=Q (.bl true) M:=by
 have sq:ax M (.ref s)=some (zs.map nmD):=by simp[ax,am,gs]
 have iu:∀{Q:VK3},aI .In (nmD u) (.ref s) M Q=Q (.bl true) M:=λ{Q}=>wd (neg:=false) h.hu sq
 have iv:∀{Q:VK3},aI .In (nmD v) (.ref s) M Q=Q (.bl true) M:=λ{Q}=>wd (neg:=false) h.hv sq
 obtain⟨i,j,eu⟩:=h2 u h.hu;obtain⟨k,l,ev⟩:=h2 v h.hv;have nu:∀{M:MH}{Q:VK3}{E:XN},aa T (B cls b_ d_) (n+2) 60 [nmD u] M Q E=Q (.bl true) M:=λ{M Q E}=>by rw[eu];exact rT
 have nv:∀{M:MH}{Q:VK3}{E:XN},aa T (B cls b_ d_) (n+2) 60 [nmD v] M Q E=Q (.bl true) M:=λ{M Q E}=>by rw[ev];exact rT
 simp only[oY,eN,F3];cases fo with
 |none=>simp[oi,D.isN,nu,nv,iu,iv]
 |some w=>simp[oi,D.isN,nu,nv,iu,iv,rK]
theorem Fi{a:Option Int}:pl (oi a)=true:=by cases a<;>rfl
theorem Fg{a:Option Int}:aI .NotEq (oi a) (oi a) M Q=Q (.bl false) M:=xO (by cases a<;>rfl) Fi
theorem Au{lo hi:Option Int}:∃ys:List Nm,cZ (zs.map nmD) lo hi=ys.map nmD/\(∀y∈ys,y∈zs)/\ys.length<=zs.length:=by
 unfold cZ;rw[<-List.map_drop,<-List.map_take];exact⟨_,rfl,λy hy=>List.mem_of_mem_drop (List.mem_of_mem_take hy),by rw[List.length_take,List.length_drop];omega⟩
theorem rZ{e:D}:∀{ds:List D}{k:Nat},e∈bR k ds->∃(i:Nat)(x:D),x∈ds/\e=.tup [.int i,x]
 |x::ds,k,h=>by
  rcases Jq.mp h with rfl|h
  ·exact⟨k,x,Jo,rfl⟩
  ·obtain⟨i,y,h1,h2⟩:=rZ h;exact⟨i,y,Jk _ h1,h2⟩
noncomputable abbrev l11:ISs:=tl (tl (tl (tl (tl (tl (tl (tl (tl oO))))))))
theorem BT.near(b:BT e_ wy f_ N d)(hp:Pot N p)(hx:x∈KS f_)(hy:y∈KS f_)(h1:Le (d x y) fo)(h2:Le (d y x) fo):Le (some (if p x-p y<0 then -(p x-p y) else p x-p y)) fo:=λw e=>by
 obtain⟨f,e1,l1⟩:=h1 w e;obtain⟨g,e2,l2⟩:=h2 w e;have q1:=b.d x hx y;have q2:=b.d y hy x;rw[e1]at q1;rw[e2]at q2;have:=q1.1.pot hp;have:=q2.1.pot hp;exact⟨_,rfl,by split<;>omega⟩
theorem vS{De:Ends3}{ES:St3->XN}{y0 y1 y2 y6 y7 y8 y9 y11 y13:Option D}(b:BT e_ wy f_ N d)(hp:Pot N p)(hl:f_.length<=64)
  (cb:∀{n:Nat}{M:MH}{Q:VK3}{E:XN}{x y:Nm},Fm M->x∈KS f_->y∈KS f_->Q (bt d x y) M->aa T (B cls b_ d_) (n+10) 37 [wO b_ e_ wy,.g_ (f_.map Rw.d),nmD x,nmD y] M Q E)
  (hM:Fm M)(F:Fd d zs fo u v) (gt:∀k∈zs,k∈KS f_/\∀{Q:VK3},ao (.ref a) (nmD k) M Q=Q (.int (p k)) M) (hx:x∈zs):∀(ys:List Nm)(x14 x15 x16:Option D),(∀y∈ys,y∈zs)->
  (∀x14 x15 x16,De.nx [y0,y1,y2,some (.g_ (f_.map Rw.d)),some (wO b_ e_ wy),some (.ref a),y6,y7,y8,y9,some (nmD x),y11,some (F3 fo u v),y13,x14,x15,x16] M)->
  aJ ⟨(B cls b_ d_),aa T (B cls b_ d_) (n+10)⟩ (.name 14) gJ ES (λ_=>True) De (ys.map nmD) [y0,y1,y2,some (.g_ (f_.map Rw.d)),some (wO b_ e_ wy),some (.ref a),y6,y7,y8,y9,some (nmD x),y11,some (F3 fo u v),y13,x14,x15,x16] M
 |[],x14,x15,x16,_,hR=>⟨trivial,hR x14 x15 x16⟩
 |y::ys,x14,x15,x16,h,hR=>by
  have hy:=h y Jo;obtain⟨kx,gx⟩:=gt x hx;obtain⟨ky,gy⟩:=gt y hy;have hz:f_.length<=PySem.sizeLine:=JF (show f_.length<=1000 by omega) (by decide)
  have l1:=F.h x hx y hy;have l2:=F.h y hy x hx;have l3:=b.near hp kx ky l1 l2;rw[List.map_cons,ar];refine⟨trivial,?_⟩;have ih:=vS (De:=De) (ES:=ES) (y0:=y0) (y1:=y1) (y2:=y2) (y6:=y6) (y7:=y7) (y8:=y8) (y9:=y9) (y11:=y11) (y13:=y13) b hp hl cb hM F gt hx ys;generalize aJ ⟨(B cls b_ d_),aa T (B cls b_ d_) (n+10)⟩ (.name 14) gJ ES (λ_=>True) De (ys.map nmD)=K at ih ⊢
  simp[gJ,hz];refine cb (n:=n) hM kx ky ?_;have n1:∀{Q:VK3}{E:XN},aa T (B cls b_ d_) (n+10) 62 [oi (d x y),oi fo] M Q E=Q (.bl true) M:=yd l1;have n3:∀{Q:VK3}{E:XN},aa T (B cls b_ d_) (n+10) 62 [.int (if p x-p y<0 then -(p x-p y) else p x-p y),oi fo] M Q E=Q (.bl true) M:=yd l3
  have ih:=λx14 x15 x16=>ih x14 x15 x16 (λz hz=>h z (Jk _ hz)) hR
  cases e:d y x with
  |none=>
   rw[e]at l2;have n2:∀{Q:VK3}{E:XN},aa T (B cls b_ d_) (n+10) 62 [.i_,oi fo] M Q E=Q (.bl true) M:=yd (a:=none) l2;have o0:oi none=.i_:=rfl;simp[bt,ng,e,hZ,F3,n1,n2,D.isN,gx,gy,o0];rw[n3];exact ih _ _ _
  |some f=>
   rw[e]at l2;have n2:∀{Q:VK3}{E:XN},aa T (B cls b_ d_) (n+10) 62 [.int f,oi fo] M Q E=Q (.bl true) M:=yd (a:=some f) l2;have o1:oi (some (-f))=.int (-f):=rfl;simp[bt,ng,e,hZ,F3,n1,n2,D.isN,gx,gy,o1];rw[n3];exact ih _ _ _
theorem xD{De:Ends3}{ES:St3->XN}{y0 y1 y2 y6 y7 y8 x_ y11 y12 y13 y14 y15 y16:Option D}(L:LB e_ wy f_)(hp:Bp e_ wy f_ p)(hr:f_.length<=16)(hM:Fm M)(ne:zs≠[])(zl:zs.length<=100)(gs:M s=some (.lst (zs.map nmD)))(gt:∀k∈zs,k∈KS f_/\∀{Q:VK3},ao (.ref a) (nmD k) M Q=Q (.int (p k)) M)(hQ:De.rt (.bl true) M) :
  aR ⟨(B cls b_ d_),aa T (B cls b_ d_) (n+10)⟩ l11 De ES [y0,y1,y2,some (.g_ (f_.map Rw.d)),some (wO b_ e_ wy),some (.ref a),y6,y7,y8,some (.ref s),x_,y11,y12,y13,y14,y15,y16] M:=by
 obtain⟨N,d,b,cf,cb⟩:=xz (cls:=cls) (b_:=b_) (d_:=d_) L;have hq:=b.ln.pq p hp;have hl:=L.l;have hz:f_.length<=PySem.sizeLine:=JF (show f_.length<=1000 by omega) (by decide)
 have zz:zs.length<=PySem.sizeLine:=JF (show zs.length<=1000 by omega) (by decide)
 have nb:∀x∈KS f_,x∈NB/\∃i j,x=[i,j]:=λx hx=>Dn L.g hr L.f hx
 have key:∀fo u v,Fd d zs fo u v->aR ⟨(B cls b_ d_),aa T (B cls b_ d_) (n+10)⟩ (tl (tl l11)) De ES [y0,y1,y2,some (.g_ (f_.map Rw.d)),some (wO b_ e_ wy),some (.ref a),y6,y7,y8,some (.ref s),x_,some (.g_ (zs.map nmD)),some (F3 fo u v),y13,y14,y15,y16] M:=λfo u v F=>by
  have i0:∀{M:MH}{Q:VK3},ao (F3 fo u v) (.int 0) M Q=Q (oi fo) M:=λ{M Q}=>by simp[F3]
  have i1:∀{M:MH}{Q:VK3},ao (F3 fo u v) (.int 1) M Q=Q (nmD u) M:=λ{M Q}=>by simp[F3]
  have i2:∀{M:MH}{Q:VK3},ao (F3 fo u v) (.int 2) M Q=Q (nmD v) M:=λ{M Q}=>by simp[F3]
  have Kt:pls (zs.map nmD)=true:=JD.mpr λd hd=>by
   obtain⟨z,_,rfl⟩:=JM.mp hd;exact wN
  have Rz:pl (.g_ (zs.map nmD))=true:=JD.mpr λd hd=>by
   obtain⟨z,_,rfl⟩:=JM.mp hd;exact rg (k:=6)
  have hn:∀{Q:VK3},aI .NotEq (.g_ (zs.map nmD)) (.ref s) M Q=Q (.bl false) M:=λ{Q}=>by
   have e2:rs M (.ref s)=.g_ (zs.map nmD):=by unfold rs;rw[show am M (.ref s)=some (zs.map nmD) by simp[am,gs]];simp only[Kt,if_true]
   show ij true _ _ M Q=_;unfold ij;rw[CI Kt,e2,Rz,gu 8 Rz];simp
  simp[l11,tl,oO,ym (n:=n+7) F gs λx hx=>(nb x (gt x hx).1).2,hn,i0,i1,i2,hz]
  refine cb (n:=n) hM (gt u F.hu).1 (gt v F.hv).1 ?_;simp[bt,F.e,Fg];simp only[gs];refine wa (λZ=>∃x10 x13 x14 x15 x16,Z=[y0,y1,y2,some (.g_ (f_.map Rw.d)),some (wO b_ e_ wy),some (.ref a),y6,y7,y8,some (.ref s),x10,some (.g_ (zs.map nmD)),some (F3 fo u v),x13,x14,x15,x16]) gs ⟨_,_,_,_,_,rfl⟩ (λe he Z QP k hk=>?_) (λZ QP=>?_)
  ·obtain⟨i,_,LU,rfl⟩:=rZ he;obtain⟨x,hx,rfl⟩:=JM.mp LU;obtain⟨x10,x13,x14,x15,x16,rfl⟩:=QP;obtain⟨ys,ey,hy,Ng⟩:=Au (zs:=zs) (lo:=some (i:Int)) (hi:=none);have yz:ys.length<=PySem.sizeLine:=JF Ng zz;simp[hZ,pe,nA,am,gs,dX,ey,yz];exact vS b hq hl cb hM F gt hx ys _ _ _ hy λx14 x15 x16=>hk _ ⟨_,_,_,_,_,rfl⟩
  ·obtain⟨x10,x13,x14,x15,x16,rfl⟩:=QP;simpa using hQ
 have gl:∀{Q:VK3},rBi (.list true) [.ref s] M Q=Q (.g_ (zs.map nmD)) M:=λ{Q}=>by simp[rBi,ax,am,gs,dX,zz]
 rw[show l11=.cons _ (.cons _ (tl (tl l11))) from rfl];simp[gl,hz];exact xf (n:=n) b hq cf (λx h=>(gt x h).1) ne (yX b.ln.wn λx h=>(nb x (b.ln.kx x h)).1) hM (λx y h1 h2 h3=>key none x y ⟨h1,h2,h3,λ_ _ _ _ w e=>by cases e⟩) (λw u v h1 h2=>key (some w) u v ⟨h1.hu,h1.hv,h1.e,λx hx y hy w' e=>by cases e;exact h2 x hx y hy⟩)
end
section
theorem mf{W:WC}{M:MH}{De:Ends3}{ES:St3->XN}{a s:PySem.Addr}{ks:List Nm}{ds:List D}{y0 y1 y2 y3 y4 y6 y7 y8:Option D}{ys:List (Option D)}(ga:M a=some (.dt ks ds))(has:a≠s)(kp:0<ks.length)(kl:ks.length<=PySem.sizeLine):∀(xs:List Int)(zs:List Nm)(x10:Option D),zs.length+xs.length<100->(∀z∈zs,z∈ks)->
  (∀(OF:List Nm) x10,(∀z∈OF,z∈ks)->OF.length=zs.length+xs.length->De.nx (y0::y1::y2::y3::y4::some (.ref a)::y6::y7::y8::some (.ref s)::x10::ys) (put M s (.lst (OF.map nmD))))->
  aJ W (.name 10) gW ES (λ_=>True) De (xs.map D.int) (y0::y1::y2::y3::y4::some (.ref a)::y6::y7::y8::some (.ref s)::x10::ys) (put M s (.lst (zs.map nmD)))
 |[],zs,x10,_,h,hR=>⟨trivial,hR zs x10 h rfl⟩
 |x::xs,zs,x10,hl,h,hR=>by
  simp only[Jx]at hl;obtain⟨z,hz,pz⟩:=Ea (i:=x) kp;have g:put M s (.lst (zs.map nmD)) a=some (.dt ks ds):=by rw[af has];exact ga
  have sz:zs.length<PySem.sizeLine:=Jw (show zs.length<1000 by omega) (by decide)
  have ln:∀{Q:VK3},rBi .len [.ref a] (put M s (.lst (zs.map nmD))) Q=Q (.int (ks.length:Nat)) (put M s (.lst (zs.map nmD))):=λ{Q}=>by simp[rBi,ax,am,cI,g]
  have ih:=mf (W:=W) (De:=De) (ES:=ES) ga has kp kl xs (zs++[z]) (some (.int x)) (by simp;omega) (λw hw=>by
   rcases JK.mp hw with hw|hw
   ·exact h w hw
   ·rw[JB.mp hw];exact hz) (λOF x10 h1 h2=>hR OF x10 h1 (by rw[h2];simp;omega))
  rw[J4]at ih;rw[List.map_cons,ar];refine⟨trivial,?_⟩;generalize aJ W (.name 10) gW ES (λ_=>True) De (xs.map D.int)=K at ih ⊢
  simp[gW,mX g,kl,ln,kp,↓pz,sz];exact ih
theorem main(cls b_ d_:Nat->PySem.Addr)(ns:List Int)(hl:ns.length<=63):aa (L.map FL.fb) (B cls b_ d_) 11 64 [scr ns] (λ_=>none) (λd _=>d=.bl true) (λ_ _=>False):=by
 rw[Hk];obtain⟨c0,k0⟩:=qu (cls:=cls) (b_:=b_) (d_:=d_) ns 0;obtain⟨c1,k1⟩:=qu (cls:=cls) (b_:=b_) (d_:=d_) ns 1;obtain⟨c2,k2⟩:=qu (cls:=cls) (b_:=b_) (d_:=d_) ns 2;have k0:∀{M:MH}{Q:VK3}{E:XN},aa T (B cls b_ d_) 10 50 [scr ns,.int 0] M Q E=Q (.int c0) M:=k0;have k1:∀{M:MH}{Q:VK3}{E:XN},aa T (B cls b_ d_) 10 50 [scr ns,.int 1] M Q E=Q (.int c1) M:=k1;have k2:∀{M:MH}{Q:VK3}{E:XN},aa T (B cls b_ d_) 10 50 [scr ns,.int 2] M Q E=Q (.int c2) M:=k2;obtain⟨cs,ec,lc⟩:=Cp ns;have hz:cs.length<=PySem.sizeLine:=JF (show cs.length<=1000 by omega) (by decide)
 rw[E0,show oO=.cons _ (.cons _ (.cons _ (.cons _ (.cons _ (.cons _ (.cons _ (.cons _ (.cons _ l11)))))))) from rfl];simp[↓k0];refine zh (n:=8) Fm.nil λe_ wy G=>?_
 simp[↓k1,ec,hz];refine A9 (n:=8) G Fm.nil (by omega) λtd f ⟨at_,sn,tc⟩ l=>?_
 have mk:=λ{Q:VK3}{E:XN}=>Cc (cls:=cls) (b_:=b_) (d_:=d_) (n:=3) (M:=λ_=>none) (Q:=Q) (E:=E) G Fm.nil
 simp[aL];rw[yY Fm.nil l];simp[-List.map_map,↓mk];intro a;have f0:∀{o:DO},Fm (put (λ_=>none) a o):=Fm.nil.put _ _
 have kn:NO∈(tT td).1:=gm tc.z;have kp:0<(tT td).1.length:=List.length_pos_of_mem kn;have sm:∀{o:DO}{Q:VK3}{E:XN},aa T (B cls b_ d_) 10 51 [.int (c0+c2),.int 6] (put (λ_=>none) a o) Q E=Q (.g_ ((aM (c0+c2) 6).map D.int)) (put (λ_=>none) a o):=λ{o Q E}=>eL (n:=9) (m:=6) f0 (by decide)
 have sl:(aM (c0+c2) 6).length=6:=bL;generalize aM (c0+c2) 6=xs at sm sl;have i5:∀{M:MH}{Q:VK3},ao (.g_ (xs.map D.int)) (.int 5) M Q=Q (.int (xs.getD 5 0)) M:=λ{M Q}=>aK (k:=5) (by omega)
 generalize xs.getD 5 0=u5 at i5;obtain⟨m,hm⟩:∃m:Nat,1+u5 % 5=(m:Int):=⟨(1+u5 % 5).toNat,by omega⟩
 have Mp:1<=m/\m<=5:=by omega
 have zk:(tT td).1.length<=PySem.sizeLine:=JF z9 (JF (show _<=1000 by simp;omega) (by decide))
 simp[-List.map_map,iN,g5,bz,ba,ac,au,ai,aq];rw[uU (n:=9) f0 (by simp;omega)]
 simp[-List.map_map];refine of_eq_true (sL (M:=λ_=>none) td c00 D0 _ _ (by simp;omega) λx6 x7=>eq_true ?_)
 simp[-List.map_map,↓k0,↓k2,↓sm,↓i5,au];intro s hs;obtain⟨OT,_⟩:=bW hs;rw[hm,C4 xs m];have tk:(xs.take m).length=m:=by rw[List.length_take];omega
 refine⟨by rw[Jv,tk];exact JF (show m<=1000 by omega) (by decide),mf ac (JA OT) kp zk (xs.take m) [] none (by rw[tk];simp;omega) nofun λzs x10 h1 h2=>?_⟩
 rw[tk]at h2;simp only[List.length_nil,Nat.zero_add]at h2;have g:∀{o:DO},put (put (λ_=>none) a (.dt (tT td).1 (tT td).2)) s o a=some (.dt (tT td).1 (tT td).2):=λ{o}=>by rw[af (JA OT),ac]
 exact xD (n:=0) (p:=tP td) ⟨G,by simp;omega,f,⟨_,Ae tc⟩⟩ (Ae tc) (by simp;omega) (f0.put _ _) (λe=>by rw[e]at h2;simp at h2;omega) (by omega) ac (λk hk=>⟨wu (h1 k hk),λ{Q}=>by simp[ao,ax,am,g,d7,dZ,cI,cV,A7 (h1 k hk)]⟩) rfl
end
end G
open PySem PySem.W PyProof.Rows
set_option maxRecDepth 100000 in
set_option maxHeartbeats 0 in
theorem PySem.Challenge.cw_driftmeet_k46_the_spread_of_names_holds : PySem.Challenge.rw_driftmeet_k46_the_spread_of_names.Holds := by
 w_on
 refine PySem.W.holds_law wz_ λS8=>?_
 refine holds_open (q:=HD.view) (loose:=HD.loose) (Xt:=HD.Xt) (XP:=XL HD.view []) (Yf:=Hook.obs (kHook HD.K HD.as HD.as_eq)) (Ya:=Hook.val (kHook HD.K HD.as HD.as_eq)) (YP:=Hook.says (kHook HD.K HD.as HD.as_eq)) (N:=10726) HD.left (Hook.of (kHook HD.K HD.as HD.as_eq)) (Hook.keeps (kHook HD.K HD.as HD.as_eq)) (λs e=>xl_of s (Bool.and_eq_true_iff.mp e).1) XL.keeps (by rfl) (by rfl) (by rfl) (λs e=>recFacts_of (Bool.and_eq_true_iff.mp e).2) (by kernel_rfl) (by first|assumption|decide +kernel) (by decide +kernel) ⟨rfl,rfl,rfl,rfl,rfl,by decide +kernel⟩ ?hw ?hc
 (case hw=>w_witness2)
 k_fill
 refine L2.walkD (l:=PySem.Challenge.rw_driftmeet_k46_the_spread_of_names) (k:=11) (f:=64) (fl:=G.l_law) (x:="_law_script") (L:=G.L) (nm:=G.nm) (BB:=G.B) rfl rfl ⟨rfl,by decide,by decide⟩ (λw h Y=>PySem.W.kIn_of Y) rfl rfl rfl rfl ?F (λcls b_ d_ ns hl=>G.main cls b_ d_ ns hl)
 case F=>
  intro w mg h KX Gn
  refine' G.top_mk (q0:=121) (qn0:=0) (qt0_0:=331) (qt0_1:=332) (qt1:=860) (h6:=108) (xod6:=none) (xan6:=none) (xsl6:=#[]) (xoc6:=.type "function") (xkV6:=.none) (xdc6:=.none) (xpm6:=.str "driftmeet.errors" 194) (xcd6:=.ref 107) (xct6:=.none) KX Gn ?Qi ?Qj ?Qk ?x6 ?O5 ?O6 ?Qw ?Qx ?O7 ?Qy ?O8
  (case Qi=>kernel_rfl)
  (case Qj=>kernel_rfl)
  (case Qk=>kernel_rfl)
  (case x6=>kernel_rfl)
  (case O5=>kernel_rfl)
  (case O6=>kernel_rfl)
  (case Qw=>rfl)
  (case Qx=>kernel_rfl)
  (case O7=>kernel_rfl)
  (case Qy=>kernel_rfl)
  (case O8=>kernel_rfl)
  all_goals exact⟨0,0,0,0⟩
